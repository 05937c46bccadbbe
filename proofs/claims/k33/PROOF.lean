import PyProof.Rows.All
import Wide.All
import OpenK.AllK
import Wide.FinOn
import Lean
import PyProof.EqAt
import PyProof.EqKinds
import PyProof.TupleCall
import PySem.Challenge.RW_springframe_k33_weights_that_show_a_clas
set_option Elab.async false
set_option linter.all false
set_option maxRecDepth 100000
namespace L2
open PySem PySem.Spec PyProof.Rows
abbrev Key := Sum Int Str
def keyIs : Key → Value → Bool
  | .inl k, v => Value.isInt k v
  | .inr x, v => Value.isStrOf x v
def keyH (w : World) : Key → Int
  | .inl k => hashInt k
  | .inr x => hashStr w x
theorem keyIs_shape : ∀ {k : Key} {v : Value}, keyIs k v = true → (∃ i t, k = Sum.inl i ∧ v = Value.int i t) ∨ (∃ x t, k = Sum.inr x ∧ v = Value.str x t)
  | .inl i, v, h => by
    obtain ⟨t, e⟩ := Value.isInt_shape (k := i) (v := v) h
    exact .inl ⟨i, t, rfl, e⟩
  | .inr x, v, h => by
    obtain ⟨t, e⟩ := Value.isStrOf_shape (x := x) (v := v) h
    exact .inr ⟨x, t, rfl, e⟩
theorem keyIs_int (i : Int) (t : Tok) : keyIs (.inl i) (.int i t) = true := by simp [keyIs, Value.isInt]
theorem keyIs_str (x : Str) (t : Tok) : keyIs (.inr x) (.str x t) = true := by simp [keyIs, Value.isStrOf]
theorem key_ll (a b : Int) : decide ((Sum.inl a : Key) = Sum.inl b) = (a == b) := by
  by_cases e : a = b
  · subst e; simp
  · have h : ¬ (Sum.inl a : Key) = Sum.inl b := fun q => e (Sum.inl.inj q)
    rw [decide_eq_false h]
    exact (beq_eq_false_iff_ne.mpr e).symm
theorem key_rr (a b : Str) : decide ((Sum.inr a : Key) = Sum.inr b) = decide (a = b) := by
  by_cases e : a = b
  · subst e; simp
  · have h : ¬ (Sum.inr a : Key) = Sum.inr b := fun q => e (Sum.inr.inj q)
    rw [decide_eq_false h, decide_eq_false e]
theorem key_lr (a : Int) (b : Str) : decide ((Sum.inl a : Key) = Sum.inr b) = false := decide_eq_false (fun q => nomatch q)
theorem key_rl (a : Str) (b : Int) : decide ((Sum.inr a : Key) = Sum.inl b) = false := decide_eq_false (fun q => nomatch q)
def mixKind (prog : Program) (w : World) : PySem.KeyKind prog w Key where
  is := keyIs
  hash := keyH w
  inj := fun v a b ha hb => by
    rcases keyIs_shape ha with ⟨i, t, rfl, rfl⟩ | ⟨x, t, rfl, rfl⟩
    · rcases keyIs_shape hb with ⟨j, u, rfl, e⟩ | ⟨y, u, rfl, e⟩
      · injection e with e1 _; rw [e1]
      · exact nomatch e
    · rcases keyIs_shape hb with ⟨j, u, rfl, e⟩ | ⟨y, u, rfl, e⟩
      · exact nomatch e
      · injection e with e1 _; rw [e1]
  byValue := fun k v h => by
    rcases keyIs_shape h with ⟨i, t, rfl, rfl⟩ | ⟨x, t, rfl, rfl⟩ <;> rfl
  pyHash := fun hv h => by
    rcases keyIs_shape hv with ⟨i, t, rfl, rfl⟩ | ⟨x, t, rfl, rfl⟩
    · exact wpAny_pyHash_int h
    · exact wpAny_pyHash_str h
  eqBool := fun hu hv h => by
    rcases keyIs_shape hu with ⟨i, t, rfl, rfl⟩ | ⟨x, t, rfl, rfl⟩
    · rcases keyIs_shape hv with ⟨j, u, rfl, rfl⟩ | ⟨y, u, rfl, rfl⟩
      · rw [key_ll] at h; exact wpAny_eqBool_int h
      · rw [key_lr] at h; exact SeqAt.EqAt.int_str i t y u _ _ _ _ h
    · rcases keyIs_shape hv with ⟨j, u, rfl, rfl⟩ | ⟨y, u, rfl, rfl⟩
      · rw [key_rl] at h; exact SeqAt.EqAt.str_int x t j u _ _ _ _ h
      · rw [key_rr] at h; exact wpAny_eqBool_str h
  «strs» := fun k x t v h => by
    rcases keyIs_shape h with ⟨i, u, rfl, e⟩ | ⟨y, u, rfl, e⟩
    · exact nomatch e
    · injection e with e1 _
      subst e1
      cases v <;> rfl
theorem mixKind_int (prog : Program) (w : World) (i : Int) (t : Tok) : (mixKind prog w).is (.inl i) (.int i t) = true := keyIs_int i t
theorem mixKind_str (prog : Program) (w : World) (x : Str) (t : Tok) : (mixKind prog w).is (.inr x) (.str x t) = true := keyIs_str x t
end L2
namespace L2
open PySem PySem.Spec PyProof.Rows
inductive V where
  | non | bl (b : Bool) | int (i : Int) | str (x : Str) | byt (b : Array UInt8) | flt (b : UInt64) | ref (a : Addr) | ty (n : String)
  deriving DecidableEq
def RelV : V → Value → Prop
  | .non, u => u = Value.none
  | .bl b, u => u = Value.bool b
  | .int i, u => ∃ t, u = Value.int i t
  | .str x, u => ∃ t, u = Value.str x t
  | .byt b, u => ∃ t, u = Value.bytes b t
  | .flt b, u => ∃ t, u = Value.float b t
  | .ref a, u => u = Value.ref a
  | .ty n, u => u = Value.type n
abbrev Vals : List V → List Value → Prop := Paired RelV
theorem Vals.length {xs : List V} {us : List Value} (r : Vals xs us) : xs.length = us.length := Paired.length r
theorem Vals.get : ∀ {xs : List V} {us : List Value} {i : Nat} {x : V}, Vals xs us → xs[i]? = some x → ∃ u, us[i]? = some u ∧ RelV x u
  | _, _, _, _, .nil, e => by simp at e
  | _, _, 0, _, .cons r _, e => by simp at e; subst e; exact ⟨_, rfl, r⟩
  | _, _, i + 1, x, .cons _ t, e => by
    obtain ⟨u, h1, h2⟩ := Vals.get (i := i) (x := x) t (by simpa using e)
    exact ⟨u, by simpa using h1, h2⟩
theorem Vals.set {x : V} {u : Value} (r : RelV x u) : ∀ {xs : List V} {us : List Value} (i : Nat), Vals xs us → Vals (xs.set i x) (us.set i u)
  | _, _, _, .nil => .nil
  | _, _, 0, .cons _ t => .cons r t
  | _, _, i + 1, .cons q t => .cons q (Vals.set r i t)
theorem Vals.append : ∀ {xs ys : List V} {us ws : List Value}, Vals xs us → Vals ys ws → Vals (xs ++ ys) (us ++ ws)
  | _, _, _, _, .nil, s => s
  | _, _, _, _, .cons r t, s => .cons r (Vals.append t s)
theorem Vals.take : ∀ {xs : List V} {us : List Value} (n : Nat), Vals xs us → Vals (xs.take n) (us.take n)
  | _, _, 0, _ => .nil
  | _, _, _ + 1, .nil => .nil
  | _, _, n + 1, .cons r t => .cons r (Vals.take n t)
theorem Vals.drop : ∀ {xs : List V} {us : List Value} (n : Nat), Vals xs us → Vals (xs.drop n) (us.drop n)
  | _, _, 0, r => r
  | _, _, _ + 1, .nil => .nil
  | _, _, n + 1, .cons _ t => Vals.drop n t
def RelO : Option V → Option Value → Prop
  | some v, some u => RelV v u
  | none, none => True
  | _, _ => False
def KV {κ : Type} : List (κ × V) → List (κ × Value) → Prop := Paired fun (p : κ × V) (q : κ × Value) => p.1 = q.1 ∧ RelV p.2 q.2
def kV : Key → V
  | .inl i => .int i
  | .inr x => .str x
inductive HO where
  /-- a list -/
  | lst (xs : List V)
  /-- a tuple (never changes) -/
  | tup (xs : List V)
  /-- a dict whose keys are ints and texts; one whose keys are tuples of ints and texts (the empty one is both) -/
  | dK (kvs : List (Key × V)) | dT (kvs : List (List Key × V))
  /-- a set of ints: its members, its size -/
  | set (S : Int → Bool) (n : Nat)
  /-- an instance of the class at C, its dict at dx, its attributes -/
  | ins (C dx : Addr) (fs : List (Str × V))
  /-- the dict of the instance at x -/
  | own (x : Addr)
  /-- the dict of an exception -/
  | xd (fs : List (Str × V))
  /-- a bound method, f of x -/
  | met (f x : Addr)
  /-- a range object lo, lo + 1, .. below hi -/
  | rng (lo hi : Int)
  /-- a thing that is known to the object (the script; a dict while a loop walks it): read, never written while it is so -/
  | frz (o : Obj) (u : HO)
  /-- a code object's table -/
  | tbl (ps : Array Value)
  /-- any other thing, by what is true of its one object (a def of one's own: SetO a S n := HO.ext fun h => ..) -/
  | ext (φ : Heap → Prop)
abbrev Hp := Addr → Option HO
def upd (H : Hp) (a : Addr) (o : HO) : Hp := fun b => if b = a then some o else H b
theorem upd_same {H : Hp} {a : Addr} {o : HO} : upd H a o a = some o := by unfold upd; rw [if_pos rfl]
theorem upd_ne {H : Hp} {a b : Addr} {o : HO} (h : b ≠ a) : upd H a o b = H b := by unfold upd; rw [if_neg h]
theorem ne_of {H : Hp} {a b : Addr} {o u : HO} (h : H a = some o) (h' : H b = some u) (d : o ≠ u) : a ≠ b := by
  intro e; subst e; rw [h] at h'; exact d (Option.some.inj h')
theorem ne_of_none {H : Hp} {a b : Addr} {o : HO} (h : H a = some o) (h' : H b = none) : a ≠ b := by
  intro e; subst e; rw [h] at h'; cases h'
section
variable (P : Program) (w : World)
def ObjOk (H : Hp) (h : Heap) (a : Addr) : HO → Prop
  | .lst xs => xs.length ≤ sizeLine ∧ ∃ (its : List Value) (n : Nat), Vals xs its ∧ h.get? a = some { cls := .type "list", data := .seq its.toArray n }
  | .tup xs => xs.length ≤ sizeLine ∧ ∃ its : List Value, Vals xs its ∧ IsTup h a its.toArray
  | .dK kvs => kvs.length ≤ sizeLine ∧ (a == sysModules) = false ∧ ∃ vs, KV kvs vs ∧ h.DictOf (mixKind P w) a vs
  | .dT kvs => kvs.length ≤ sizeLine ∧ (a == sysModules) = false ∧ ∃ xs : List (List Key × Addr × Value),
      Paired (fun (p : List Key × V) (q : List Key × Addr × Value) => p.1 = q.1 ∧ H q.2.1 = some (.tup (p.1.map kV)) ∧ RelV p.2 q.2.2) kvs xs ∧
      ∃ o es ep, h.get? a = some o ∧ o.ExactDict ∧ o.data = .dict es ep ∧ es.toList = xs.map (entryOfKey (tupleKind (mixKind P w))) ∧ (xs.map (·.1)).Nodup
  | .set S n => h.SetOf (intKind P w) a S n
  | .ins C dx fs => H dx = some (.own a) ∧ fs.length ≤ 1000 ∧ dx ≠ a ∧ h.get? a = some (PySem.W.instObj C dx) ∧
      ∃ mA, h.Ns1 dx mA ∧ (∀ f, RelO (fs.lookup f) (mA f)) ∧ PySem.Within mA (fs.map (·.1))
  | .own _ => ∃ o, h.get? a = some o
  | .xd fs => ∃ mA, h.Ns1 a mA ∧ ∀ f, RelO (fs.lookup f) (mA f)
  | .rng lo hi => ∃ t u v, h.get? a = some { cls := .type "range", data := .fields #[.int lo t, .int hi u, .int 1 v] }
  | .frz o u => h.get? a = some o ∧ ObjOk H h a u
  | .tbl ps => h.get? a = some { cls := .none, data := .fields ps }
  | .met f x => h.get? a = some (PySem.W.methodObj (.ref f) (.ref x))
  | .ext φ => φ h ∧ (∃ o, h.get? a = some o) ∧ ∀ h1 h2 : Heap, φ h1 → (∀ o, h1.get? a = some o → h2.get? a = some o) → φ h2
def HOk (H : Hp) (h : Heap) : Prop := ∀ a o, H a = some o → ObjOk P w H h a o
end
section
variable {P : Program} {w : World} {H H' : Hp} {h h' : Heap} {a : Addr} {o : HO}
theorem ObjOk.lt (x : ObjOk P w H h a o) : a < h.objs.size := by
  cases o with
  | lst xs => obtain ⟨_, _, _, _, e⟩ := x; exact Heap.lt_size e
  | tup xs => obtain ⟨_, _, _, p⟩ := x; exact p.lt
  | dK kvs => obtain ⟨_, _, _, _, o, _, _, e, _⟩ := x; exact Heap.lt_size e
  | dT kvs => obtain ⟨_, _, _, _, o, _, _, e, _⟩ := x; exact Heap.lt_size e
  | set S n => obtain ⟨o, _, _, _, e, _⟩ := x; exact Heap.lt_size e
  | ins C dx fs => obtain ⟨_, _, _, e, _⟩ := x; exact Heap.lt_size e
  | own y => obtain ⟨_, e⟩ := x; exact Heap.lt_size e
  | xd fs => obtain ⟨_, ⟨_, _, _, e, _⟩, _⟩ := x; exact Heap.lt_size e
  | rng lo hi => obtain ⟨_, _, _, e⟩ := x; exact Heap.lt_size e
  | frz ob u => obtain ⟨e, _⟩ := x; exact Heap.lt_size e
  | tbl ps => exact Heap.lt_size (show h.get? a = some _ from x)
  | met f y => exact Heap.lt_size (show h.get? a = some _ from x)
  | ext φ => obtain ⟨_, ⟨_, e⟩, _⟩ := x; exact Heap.lt_size e
theorem Paired.mapP {α β : Type} {F G : α → β → Prop} : ∀ {l₁ : List α} {l₂ : List β}, Paired F l₁ l₂ → (∀ a b, F a b → G a b) → Paired G l₁ l₂
  | _, _, .nil, _ => .nil
  | _, _, .cons r t, f => .cons (f _ _ r) (Paired.mapP t f)
theorem ObjOk.stay (x : ObjOk P w H h a o) (k : ∀ b u, (b = a ∨ H b = some (.own a)) → h.get? b = some u → h'.get? b = some u)
    (ho : ∀ b, H b = some (.own a) → H' b = some (.own a)) (ht : ∀ b xs, H b = some (.tup xs) → H' b = some (.tup xs)) : ObjOk P w H' h' a o := by
  induction o with
  | lst xs => obtain ⟨z, its, n, r, e⟩ := x; exact ⟨z, its, n, r, k _ _ (.inl rfl) e⟩
  | tup xs => obtain ⟨z, its, r, ob, e, c⟩ := x; exact ⟨z, its, r, ob, k _ _ (.inl rfl) e, c⟩
  | dK kvs => obtain ⟨z, y, vs, r, ob, es, ep, e, c⟩ := x; exact ⟨z, y, vs, r, ob, es, ep, k _ _ (.inl rfl) e, c⟩
  | dT kvs =>
    obtain ⟨z, y, xs, r, ob, es, ep, e, c⟩ := x
    exact ⟨z, y, xs, Paired.mapP r fun p q z => ⟨z.1, ht _ _ z.2.1, z.2.2⟩, ob, es, ep, k _ _ (.inl rfl) e, c⟩
  | set S n => obtain ⟨ob, es, ep, t, e, c⟩ := x; exact ⟨ob, es, ep, t, k _ _ (.inl rfl) e, c⟩
  | ins C dx fs =>
    obtain ⟨d, z, ne, e, mA, ⟨od, es, ep, e2, c⟩, r⟩ := x
    exact ⟨ho _ d, z, ne, k _ _ (.inl rfl) e, mA, ⟨od, es, ep, k _ _ (.inr d) e2, c⟩, r⟩
  | own y => obtain ⟨ob, e⟩ := x; exact ⟨ob, k _ _ (.inl rfl) e⟩
  | xd fs => obtain ⟨mA, ⟨od, es, ep, e, c⟩, r⟩ := x; exact ⟨mA, ⟨od, es, ep, k _ _ (.inl rfl) e, c⟩, r⟩
  | rng lo hi => obtain ⟨t, u, v, e⟩ := x; exact ⟨t, u, v, k _ _ (.inl rfl) e⟩
  | frz ob u ih => obtain ⟨e, q⟩ := x; exact ⟨k _ _ (.inl rfl) e, ih q⟩
  | tbl ps =>
    have e : h.get? a = some { cls := .none, data := .fields ps } := x
    show h'.get? a = some { cls := .none, data := .fields ps }
    exact k a _ (.inl rfl) e
  | met f y =>
    have e : h.get? a = some (PySem.W.methodObj (.ref f) (.ref y)) := x
    show h'.get? a = some (PySem.W.methodObj (.ref f) (.ref y))
    exact k a _ (.inl rfl) e
  | ext φ => obtain ⟨p, ⟨o, e⟩, st⟩ := x; exact ⟨st _ _ p fun o q => k _ _ (.inl rfl) q, ⟨o, k _ _ (.inl rfl) e⟩, st⟩
theorem HOk.lt (x : HOk P w H h) (e : H a = some o) : a < h.objs.size := (x a o e).lt
theorem HOk.fresh (x : HOk P w H h) (e : h.objs.size ≤ a) : H a = none := by
  cases q : H a with
  | none => rfl
  | some u => exact absurd (Nat.lt_of_lt_of_le (x.lt q) e) (Nat.lt_irrefl _)
theorem HOk.kept (x : HOk P w H h) (k : ∀ b u, h.get? b = some u → h'.get? b = some u) : HOk P w H h' := fun a o e =>
  (x a o e).stay (fun b u _ q => k b u q) (fun _ q => q) fun _ _ q => q
theorem HOk.laid (x : HOk P w H h) (k : ∀ b u, h.get? b = some u → h'.get? b = some u) (hp : h.objs.size ≤ a) (new : ObjOk P w (upd H a o) h' a o) : HOk P w (upd H a o) h' := fun b u e => by
  have hn := x.fresh hp
  by_cases hb : b = a
  · subst hb; rw [upd_same] at e; cases e; exact new
  · rw [upd_ne hb] at e
    exact (x b u e).stay (fun c v _ q => k c v q) (fun c q => by rw [upd_ne (ne_of_none q hn)]; exact q) fun c xs q => by rw [upd_ne (ne_of_none q hn)]; exact q
end
def Rd (H : Hp) (a : Addr) (u : HO) : Prop := H a = some u ∨ ∃ o, H a = some (.frz o u)
theorem Rd.of {H : Hp} {a : Addr} {u : HO} (h : H a = some u) : Rd H a u := .inl h
theorem Rd.ok {P : Program} {w : World} {H : Hp} {h : Heap} {a : Addr} {u : HO} (r : Rd H a u) (x : HOk P w H h) : ObjOk P w H h a u := by
  rcases r with r | ⟨o, r⟩
  · exact x a u r
  · obtain ⟨_, q⟩ := x a _ r
    exact q
def Mut : Option HO → Prop
  | some (.lst _) => True
  | some (.dK _) => True
  | some (.dT _) => True
  | some (.set _ _) => True
  | some (.ins _ _ _) => True
  | some (.ext _) => True
  | _ => False
section
variable {P : Program} {w : World} {H : Hp} {h h' : Heap} {x e : Addr} {o' : HO}
theorem HOk.write (ok : HOk P w H h) (mu : Mut (H x)) (he : e = x ∨ H e = some (.own x)) (k : ∀ b u, b ≠ e → h.get? b = some u → h'.get? b = some u) (heo : ∃ u, h'.get? e = some u)
    (new : ObjOk P w (upd H x o') h' x o') : HOk P w (upd H x o') h' := fun b u q => by
  have nown : ∀ c y, H c = some (.own y) → c ≠ x := fun c y r z => by subst z; rw [r] at mu; exact mu
  have ntup : ∀ c xs, H c = some (.tup xs) → c ≠ x := fun c xs r z => by subst z; rw [r] at mu; exact mu
  by_cases hb : b = x
  · subst hb; rw [upd_same] at q; cases q; exact new
  · rw [upd_ne hb] at q
    by_cases hbe : b = e
    · have q' : H b = some (.own x) := by
        rcases he with z | z
        · exact absurd (hbe.trans z) hb
        · rw [hbe]; exact z
      rw [q] at q'; cases q'
      obtain ⟨v, hv⟩ := heo
      exact ⟨v, by rw [hbe]; exact hv⟩
    · refine (ok b u q).stay (fun c v hc r => k c v ?_ r) (fun c r => by rw [upd_ne (nown c b r)]; exact r) fun c xs r => by rw [upd_ne (ntup c xs r)]; exact r
      rcases hc with rfl | hc
      · exact hbe
      · rintro rfl
        rcases he with z | z
        · exact nown c b hc z
        · rw [hc] at z; cases z; exact hb rfl
end
structure Un (fs ex : List Addr) (H H' : Hp) (h h' : Heap) : Prop where
  keep : ∀ b o, h.get? b = some o → H b = none → b ∉ fs → b ∉ ex → h'.get? b = some o
  slot : ∀ b o, h.get? b = some o → H b = none → b ∈ fs → b ∉ ex → ∃ sl, h'.get? b = some { o with slots := sl }
  free : ∀ b o, h.get? b = some o → H b = none → b ∉ ex → H' b = none
  there : ∀ b o, h.get? b = some o → b ∉ ex → ∃ o', h'.get? b = some o'
  tups : ∀ b xs, H b = some (.tup xs) → H' b = some (.tup xs)
  frzs : ∀ b o u, H b = some (.frz o u) → H' b = some (.frz o u)
  tbls : ∀ b ps, H b = some (.tbl ps) → ∃ more, H' b = some (.tbl (ps ++ more))
section
variable {fs fs' ex ex' : List Addr} {H H1 H2 : Hp} {h h1 h2 h' : Heap} {a x e : Addr} {o : HO}
theorem Un.any (u : Un fs ex H H1 h h1) {b : Addr} {ob : Obj} (q : h.get? b = some ob) (n : H b = none) (hx : b ∉ ex) : ∃ sl, h1.get? b = some { ob with slots := sl } := by
  by_cases hb : b ∈ fs
  · exact u.slot b ob q n hb hx
  · exact ⟨ob.slots, u.keep b ob q n hb hx⟩
theorem Un.trans (a : Un fs ex H H1 h h1) (b : Un fs ex H1 H2 h1 h2) : Un fs ex H H2 h h2 where
  keep := fun c ob q n hc hx => b.keep c ob (a.keep c ob q n hc hx) (a.free c ob q n hx) hc hx
  slot := fun c ob q n hc hx => by
    obtain ⟨sl, e1⟩ := a.slot c ob q n hc hx
    obtain ⟨sl', e2⟩ := b.slot c _ e1 (a.free c ob q n hx) hc hx
    exact ⟨sl', e2⟩
  free := fun c ob q n hx => by
    obtain ⟨o', e1⟩ := a.there c ob q hx
    exact b.free c o' e1 (a.free c ob q n hx) hx
  there := fun c ob q hx => by
    obtain ⟨o', e1⟩ := a.there c ob q hx
    exact b.there c o' e1 hx
  tups := fun c xs q => b.tups c xs (a.tups c xs q)
  frzs := fun c ob xs q => b.frzs c ob xs (a.frzs c ob xs q)
  tbls := fun c ps q => by
    obtain ⟨m1, e1⟩ := a.tbls c ps q
    obtain ⟨m2, e2⟩ := b.tbls c _ e1
    exact ⟨m1 ++ m2, by rw [e2, Array.append_assoc]⟩
theorem Un.kept (k : ∀ b u, h.get? b = some u → h'.get? b = some u) : Un fs ex H H h h' :=
  ⟨fun b ob q _ _ _ => k b ob q, fun b ob q _ _ _ => ⟨ob.slots, k b ob q⟩, fun _ _ _ n _ => n, fun b ob q _ => ⟨ob, k b ob q⟩, fun _ _ q => q, fun _ _ _ q => q, fun _ ps q => ⟨#[], by rw [q]; simp⟩⟩
theorem Un.refl : Un fs ex H H h h := Un.kept fun _ _ q => q
theorem Un.laid (k : ∀ b u, h.get? b = some u → h'.get? b = some u) (hp : h.objs.size ≤ a) (hn : H a = none) : Un fs ex H (upd H a o) h h' where
  keep := fun b u q _ _ _ => k b u q
  slot := fun b u q _ _ _ => ⟨u.slots, k b u q⟩
  free := fun b u q n _ => by rw [upd_ne (Nat.ne_of_lt (Nat.lt_of_lt_of_le (Heap.lt_size q) hp))]; exact n
  there := fun b u q _ => ⟨u, k b u q⟩
  tups := fun b xs q => by rw [upd_ne (ne_of_none q hn)]; exact q
  frzs := fun b u xs q => by rw [upd_ne (ne_of_none q hn)]; exact q
  tbls := fun b ps q => ⟨#[], by rw [upd_ne (ne_of_none q hn), q]; simp⟩
theorem Un.write (mu : Mut (H x)) (he : e = x ∨ H e = some (.own x)) (k : ∀ b u, b ≠ e → h.get? b = some u → h'.get? b = some u) (heo : ∃ u, h'.get? e = some u) : Un fs ex H (upd H x o) h h' := by
  have hx : ∀ b, H b = none → b ≠ x := fun b n z => by subst z; rw [n] at mu; exact mu
  have hb : ∀ b, H b = none → b ≠ e := fun b n z => by
    subst z
    rcases he with r | r
    · exact hx b n r
    · rw [n] at r; cases r
  have hm : ∀ b u, H b = some u → ¬ Mut (some u) → b ≠ x := fun b u q nm z => by subst z; rw [q] at mu; exact nm mu
  refine ⟨fun b u q n _ _ => k b u (hb b n) q, fun b u q n _ _ => ⟨u.slots, k b u (hb b n) q⟩, fun b u q n _ => by rw [upd_ne (hx b n)]; exact n, fun b u q _ => ?_,
    fun b xs q => by rw [upd_ne (hm b _ q fun z => z)]; exact q, fun b u xs q => by rw [upd_ne (hm b _ q fun z => z)]; exact q, fun b ps q => ⟨#[], by rw [upd_ne (hm b _ q fun z => z), q]; simp⟩⟩
  by_cases hbe : b = e
  · subst hbe; exact heo
  · exact ⟨u, k b u hbe q⟩
theorem Un.mono (u : Un fs ex H H1 h h1) (hs : ∀ b ∈ fs, b ∈ fs') (hx : ∀ b ∈ ex, b ∈ ex') : Un fs' ex' H H1 h h1 :=
  ⟨fun b ob q n hb he => u.keep b ob q n (fun z => hb (hs b z)) fun z => he (hx b z), fun _ _ q n _ he => u.any q n fun z => he (hx _ z), fun b ob q n he => u.free b ob q n fun z => he (hx b z), fun b ob q he => u.there b ob q fun z => he (hx b z), u.tups, u.frzs, u.tbls⟩
end
def trk (h : Heap) (H : Hp) : List Addr := (List.range h.objs.size).filter fun a => (H a).isSome
def hidT (h : Heap) (H : Hp) : Heap := PySem.W.hideAll h (trk h H)
theorem hidT_size (h : Heap) (H : Hp) : (hidT h H).objs.size = h.objs.size := PySem.W.hideAll_size _ _
theorem hidT_get {h : Heap} {H : Hp} {b : Addr} {o : Obj} (e : h.get? b = some o) (n : H b = none) : (hidT h H).get? b = some o :=
  PySem.W.hideAll_get _ e fun hm => by
    have q : (H b).isSome = true := (List.mem_filter.mp hm).2
    rw [n] at q; simp at q
theorem of_hidT {h : Heap} {H : Hp} {b : Addr} {o : Obj} (e : (hidT h H).get? b = some o) : h.get? b = some o ∧ H b = none := by
  have e' : h.get? b = some o := PySem.W.of_hideAll (trk h H) e
  refine ⟨e', ?_⟩
  cases q : H b with
  | none => rfl
  | some x =>
    have hm : b ∈ trk h H := List.mem_filter.mpr ⟨List.mem_range.mpr (Heap.lt_size e'), by simp [q]⟩
    have z : (hidT h H).get? b = none := PySem.W.hideAll_none (trk h H) hm
    rw [z] at e; cases e
def allNews (g h : Heap) (L : Addr) : List (Addr × Obj) := (List.range h.objs.size).filterMap fun a => if a = L ∨ (g.get? a).isSome = true then none else (h.get? a).map fun o => (a, o)
def rest (g h : Heap) (L d : Addr) : List (Addr × Obj) := (allNews g h L).filter fun p => decide (p.1 ≠ d)
end L2
namespace L2
open PySem PySem.Spec PyProof.Rows
structure Mod (K : PySem.W.Frag) (mg : Str → Option Value) (base : Heap) : Prop where
  kin : K.In base
  glob : base.Ns mainGlobals mg
  blt : ∃ mb, base.Ns builtinsNs mb ∧ ∀ x : Str, x ≠ "__name__" → mb x = bootBuiltins x
  nolimit : base.NoLimit
structure Cx where
  prog : Program
  w : World
  K : PySem.W.Frag
  mg : Str → Option Value
  base : Heap
  A : Around
  N : List Str
  s₀ : Shared
  H₀ : Hp
  env : Env
  outer : List Env
  stack : List Env
  ex : List Addr
  fn : Str → Bool
  calm : Bool
  pn : List (Addr × Obj)
  xe : Value → Shared → Prop
def frs (l : List Env) : List Addr := l.filterMap (·.frame)
abbrev Cx.fs (X : Cx) : List Addr := frs X.outer
def Vis (sc : Scope) (x : Str) : Prop := sc.names.lookup x = some .local ∨ sc.names.lookup x = some .cell ∨ sc.names.lookup x = some .free
def Loc (sc : Scope) (x : Str) : Prop := sc.names.lookup x = some .local ∨ sc.names.lookup x = some .cell
def Look (env : Env) (h : Heap) (m : Str → Option Value) (x : Str) (u : Value) : Prop :=
  (env.kindOf x = some .local ∧ m x = some u) ∨ ((env.kindOf x = some .cell ∨ env.kindOf x = some .free) ∧ ∃ c, env.cells.lookup x = some c ∧ h.IsCell c (some u))
structure Cx.Ok (X : Cx) : Prop where
  mod : Mod X.K X.mg X.base
  kind : X.env.scope.kind = .function
  glob : X.env.globals = mainGlobals
  blt : X.env.builtins = builtinsNs
  above : X.s₀.heap.objs.size ≤ X.env.locals
  inj : ∀ x y c, X.env.cells.lookup x = some c → X.env.cells.lookup y = some c → x = y
  has : ∀ x, (X.env.kindOf x = some .cell ∨ X.env.kindOf x = some .free) → ∃ c, X.env.cells.lookup x = some c
  cab : ∀ x c, X.fn x = true → X.env.cells.lookup x = some c → X.s₀.heap.objs.size ≤ c
  hd : X.calm = true → X.A.handled = none
  frames : X.A.frames = some X.stack
  stk : X.stack = X.outer ∨ (X.stack = X.env :: X.outer ∧ X.env.frame = some X.env.locals)
  exf : ∀ b ∈ X.ex, b ≠ X.env.locals ∧ ∀ x c, X.env.cells.lookup x = some c → c ≠ b
  bs : ∀ b o, X.base.get? b = some o → X.s₀.heap.get? b = some o ∧ X.H₀ b = none
  bsz : X.base.objs.size ≤ X.s₀.heap.objs.size
  noex : ∀ b o, X.base.get? b = some o → b ∉ X.ex
  exfs : ∀ b ∈ X.ex, b ∉ X.fs
  funs : X.s₀.heap.FunFrames X.base X.outer
  frf : ∀ b ∈ X.fs, X.H₀ b = none
structure Inv (X : Cx) (pins : List (Addr × Obj)) (σ : List (Option V)) (H : Hp) (s : Shared) : Prop where
  ok : X.Ok
  os : s.os = X.s₀.os
  bare : AllBare s.gens
  base : Un X.fs X.ex X.H₀ H X.s₀.heap s.heap
  loc : ∃ m, s.heap.Ns X.env.locals m ∧ ∀ (i : Nat) (x : Str) (v : V), X.N[i]? = some x → σ[i]? = some (some v) → Vis X.env.scope x → ∃ u, RelV v u ∧ Look X.env s.heap m x u
  cell : ∀ x c, X.env.cells.lookup x = some c → ∃ v, s.heap.IsCell c v
  free : H X.env.locals = none
  freeC : ∀ x c, X.env.cells.lookup x = some c → H c = none
  pin : ∀ p ∈ X.pn ++ pins, s.heap.get? p.1 = some p.2 ∧ H p.1 = none ∧ p.1 ≠ X.env.locals ∧ p.1 ∉ X.fs ∧ ∀ v, p.2.data ≠ .cell v
  hok : HOk X.prog X.w H s.heap
  len : σ.length = X.N.length
section
variable {X : Cx} {pins : List (Addr × Obj)} {σ : List (Option V)} {H H' : Hp} {s : Shared} {h' : Heap}
theorem Cx.Ok.nofr (ok : X.Ok) {b : Addr} {o : Obj} (e : X.base.get? b = some o) : b ∉ X.fs := fun hb => by
  have := (ok.funs.mem hb).1
  rw [e] at this; cases this
theorem Inv.bs (I : Inv X pins σ H s) : ∀ b o, X.base.get? b = some o → s.heap.get? b = some o ∧ H b = none := fun b o e =>
  ⟨I.base.keep b o (I.ok.bs b o e).1 (I.ok.bs b o e).2 (I.ok.nofr e) (I.ok.noex b o e), I.base.free b o (I.ok.bs b o e).1 (I.ok.bs b o e).2 (I.ok.noex b o e)⟩
theorem Inv.bk (I : Inv X pins σ H s) : ∀ b o, X.base.get? b = some o → s.heap.get? b = some o := fun b o e => (I.bs b o e).1
theorem Inv.mod (I : Inv X pins σ H s) : Mod X.K X.mg X.base := I.ok.mod
theorem Inv.kIn (I : Inv X pins σ H s) : X.K.In s.heap := I.ok.mod.kin.keeps I.bk
theorem Inv.nolimit (I : Inv X pins σ H s) : s.heap.NoLimit := I.ok.mod.nolimit.keeps I.bk
theorem Inv.lt (I : Inv X pins σ H s) : X.env.locals < s.heap.objs.size := let ⟨_, hn, _⟩ := I.loc; hn.lt
theorem Inv.sz (I : Inv X pins σ H s) : X.s₀.heap.objs.size ≤ s.heap.objs.size := Nat.le_trans I.ok.above (Nat.le_of_lt I.lt)
theorem Inv.nofs (I : Inv X pins σ H s) {a : Addr} (h : s.heap.objs.size ≤ a) : a ∉ X.fs := fun hb => by
  obtain ⟨_, o, ho, _⟩ := I.ok.funs.mem hb
  exact absurd (Nat.lt_of_lt_of_le (Heap.lt_size ho) (Nat.le_trans I.sz h)) (Nat.lt_irrefl _)
theorem Inv.cne (I : Inv X pins σ H s) : ∀ x c, X.env.cells.lookup x = some c → c ≠ X.env.locals := fun x c e z => by
  obtain ⟨v, o, ho, hd⟩ := I.cell x c e
  obtain ⟨m, ⟨o', es, ep, ho', hd', _⟩, _⟩ := I.loc
  rw [z, ho'] at ho; cases ho; rw [hd'] at hd; cases hd
theorem Inv.funs (I : Inv X pins σ H s) : s.heap.FunFrames X.base X.outer := by
  have all : ∀ (l : List Env), (∀ b ∈ frs l, b ∈ X.fs) → X.s₀.heap.FunFrames X.base l → s.heap.FunFrames X.base l := by
    intro l
    induction l with
    | nil => intro _ _; trivial
    | cons env r ih =>
      intro hs hl
      obtain ⟨hk, ⟨L, o, hf, hn, ho, hd⟩, hr⟩ := hl
      have hL : L ∈ X.fs := hs L (by unfold frs; rw [List.filterMap_cons, hf]; exact List.mem_cons_self)
      obtain ⟨sl, e⟩ := I.base.slot L o ho (I.ok.frf L hL) hL fun z => I.ok.exfs L z hL
      exact ⟨hk, ⟨L, _, hf, hn, e, hd⟩, ih (fun b hb => hs b (by unfold frs; rw [List.filterMap_cons, hf]; exact List.mem_cons_of_mem _ hb)) hr⟩
  exact all X.outer (fun _ hb => hb) I.ok.funs
theorem Inv.stack (I : Inv X pins σ H s) : s.heap.FunFrames X.base X.stack := by
  rcases I.ok.stk with e | ⟨e, hf⟩
  · rw [e]; exact I.funs
  · rw [e]
    obtain ⟨m, hn, _⟩ := I.loc
    refine .cons (by rw [I.ok.kind]; decide) hf hn ?_ I.funs
    exact Heap.get?_none_of_le (Nat.le_trans I.ok.bsz I.ok.above)
theorem Inv.stkSub (I : Inv X pins σ H s) : ∀ b ∈ frs X.stack, b ∈ X.env.locals :: X.fs := fun b hb => by
  rcases I.ok.stk with e | ⟨e, hf⟩
  · rw [e] at hb; exact List.mem_cons_of_mem _ hb
  · rw [e] at hb
    unfold frs at hb
    rw [List.filterMap_cons, hf] at hb
    exact hb
theorem Inv.stkFree (I : Inv X pins σ H s) : ∀ b ∈ frs X.stack, H b = none := fun b hb => by
  rcases List.mem_cons.mp (I.stkSub b hb) with e | hb
  · rw [e]; exact I.free
  · obtain ⟨_, o, ho, _⟩ := I.ok.funs.mem hb
    exact I.base.free b o ho (I.ok.frf b hb) fun z => I.ok.exfs b z hb
theorem Inv.step {g' : Array GenState} {t' : Nat} {d' : Drawn} {ch : List Addr} (I : Inv X pins σ H s)
    (hch : ∀ b ∈ ch, (b ∈ X.ex ∨ X.s₀.heap.objs.size ≤ b) ∧ b ≠ X.env.locals ∧ (∀ x c, X.env.cells.lookup x = some c → c ≠ b) ∧ ∀ p ∈ X.pn ++ pins, p.1 ≠ b)
    (keep : ∀ b o, b ≠ X.env.locals → b ∉ X.fs → b ∉ ch → s.heap.get? b = some o → H b = none → h'.get? b = some o)
    (slot : ∀ b o, b ≠ X.env.locals → b ∈ X.fs → b ∉ ch → s.heap.get? b = some o → H b = none → ∃ sl, h'.get? b = some { o with slots := sl }) (free : ∀ b o, b ∉ ch → s.heap.get? b = some o → H b = none → H' b = none)
    (there : ∀ b o, b ∉ ch → s.heap.get? b = some o → ∃ o', h'.get? b = some o')
    (tups : ∀ b xs, H b = some (.tup xs) → H' b = some (.tup xs)) (frzs : ∀ b o u, H b = some (.frz o u) → H' b = some (.frz o u)) (tbls : ∀ b ps, H b = some (.tbl ps) → ∃ more, H' b = some (.tbl (ps ++ more)))
    (ns : ∀ m, s.heap.Ns X.env.locals m → h'.Ns X.env.locals m) (hok : HOk X.prog X.w H' h') (hg : AllBare g') :
    Inv X pins σ H' { s with heap := h', gens := g', drawn := d', toks := t' } := by
  have neL : ∀ b o, X.s₀.heap.get? b = some o → b ≠ X.env.locals := fun b o e => Nat.ne_of_lt (Nat.lt_of_lt_of_le (Heap.lt_size e) I.ok.above)
  have neC : ∀ b o, X.s₀.heap.get? b = some o → b ∉ X.ex → b ∉ ch := fun b o e hx hb => by
    rcases (hch b hb).1 with z | z
    · exact hx z
    · exact absurd (Nat.lt_of_lt_of_le (Heap.lt_size e) z) (Nat.lt_irrefl _)
  have cellK : ∀ x c, X.env.cells.lookup x = some c → ∀ v, s.heap.IsCell c v → h'.IsCell c v := fun x c e v ⟨o, ho, hd⟩ => by
    have nch : c ∉ ch := fun z => (hch c z).2.2.1 x c e rfl
    by_cases hc : c ∈ X.fs
    · obtain ⟨sl, q⟩ := slot c o (I.cne x c e) hc nch ho (I.freeC x c e)
      exact ⟨_, q, hd⟩
    · exact ⟨o, keep c o (I.cne x c e) hc nch ho (I.freeC x c e), hd⟩
  refine ⟨I.ok, I.os, hg, ⟨fun b o e n hb hx => ?_, fun b o e n hb hx => ?_, fun b o e n hx => ?_, fun b o e hx => ?_, fun b xs e => tups b xs (I.base.tups b xs e), fun b o xs e => frzs b o xs (I.base.frzs b o xs e), fun b ps e => ?_⟩, ?_, fun x c e => ?_, ?_, fun x c e => ?_, fun p hp => ?_, hok, I.len⟩
  · exact keep b o (neL b o e) hb (neC b o e hx) (I.base.keep b o e n hb hx) (I.base.free b o e n hx)
  · obtain ⟨sl, e1⟩ := I.base.slot b o e n hb hx
    obtain ⟨sl', e2⟩ := slot b _ (neL b o e) hb (neC b o e hx) e1 (I.base.free b o e n hx)
    exact ⟨sl', e2⟩
  · obtain ⟨o', e1⟩ := I.base.there b o e hx
    exact free b o' (neC b o e hx) e1 (I.base.free b o e n hx)
  · obtain ⟨o', e1⟩ := I.base.there b o e hx
    exact there b o' (neC b o e hx) e1
  · obtain ⟨m1, e1⟩ := I.base.tbls b ps e
    obtain ⟨m2, e2⟩ := tbls b _ e1
    exact ⟨m1 ++ m2, by rw [e2, Array.append_assoc]⟩
  · obtain ⟨m, hn, hl⟩ := I.loc
    refine ⟨m, ns m hn, fun i x v e1 e2 e3 => ?_⟩
    obtain ⟨u, r, l⟩ := hl i x v e1 e2 e3
    refine ⟨u, r, ?_⟩
    rcases l with l | ⟨k, c, e, z⟩
    · exact .inl l
    · exact .inr ⟨k, c, e, cellK x c e _ z⟩
  · obtain ⟨v, z⟩ := I.cell x c e
    exact ⟨v, cellK x c e v z⟩
  · obtain ⟨m, ⟨o, _, _, ho, _⟩, _⟩ := I.loc
    exact free _ o (fun z => (hch _ z).2.1 rfl) ho I.free
  · obtain ⟨v, o, ho, hd⟩ := I.cell x c e
    exact free c o (fun z => (hch c z).2.2.1 x c e rfl) ho (I.freeC x c e)
  · obtain ⟨e, n, ne, nf, d⟩ := I.pin p hp
    have nch : p.1 ∉ ch := fun z => (hch p.1 z).2.2.2 p hp rfl
    exact ⟨keep p.1 p.2 ne nf nch e n, free p.1 p.2 nch e n, ne, nf, d⟩
theorem Inv.un {t' : Nat} (I : Inv X pins σ H s) (u : Un X.fs [] H H' s.heap h') (hok : HOk X.prog X.w H' h') : Inv X pins σ H' { s with heap := h', toks := t' } := by
  obtain ⟨m, ⟨o, es, ep, ho, r⟩, _⟩ := id I.loc
  obtain ⟨sl, hL⟩ := u.any ho I.free (by simp)
  exact I.step (g' := s.gens) (d' := s.drawn) (ch := []) (fun _ z => nomatch z) (fun b o _ hb _ e n => u.keep b o e n hb (by simp)) (fun b o _ hb _ e n => u.slot b o e n hb (by simp)) (fun b o _ e n => u.free b o e n (by simp)) (fun b o _ e => u.there b o e (by simp)) u.tups u.frzs u.tbls (fun m' hm => by
    obtain ⟨o', es', ep', ho', r'⟩ := hm
    rw [ho] at ho'; cases ho'
    exact ⟨_, es', ep', hL, r'⟩) hok I.bare
theorem Inv.call {g' : Array GenState} {t' : Nat} {d' : Drawn} {ch : List Addr} (I : Inv X pins σ H s) (u : Un (frs X.stack) ch H H' s.heap h') (hok : HOk X.prog X.w H' h') (hg : AllBare g')
    (hch : ∀ b ∈ ch, (b ∈ X.ex ∨ X.s₀.heap.objs.size ≤ b) ∧ b ≠ X.env.locals ∧ (∀ x c, X.env.cells.lookup x = some c → c ≠ b) ∧ ∀ p ∈ X.pn ++ pins, p.1 ≠ b) :
    Inv X pins σ H' { s with heap := h', gens := g', drawn := d', toks := t' } := by
  obtain ⟨m, ⟨o, es, ep, ho, r⟩, _⟩ := id I.loc
  obtain ⟨sl, hL⟩ := u.any ho I.free fun z => (hch _ z).2.1 rfl
  exact I.step (ch := ch) hch (fun b o hL hb hc e n => u.keep b o e n (fun z => (List.mem_cons.mp (I.stkSub b z)).elim hL hb) hc) (fun b o _ _ hc e n => u.any e n hc) (fun b o hc e n => u.free b o e n hc) (fun b o hc e => u.there b o e hc) u.tups u.frzs u.tbls (fun m' hm => by
    obtain ⟨o', es', ep', ho', r'⟩ := hm
    rw [ho] at ho'; cases ho'
    exact ⟨_, es', ep', hL, r'⟩) hok hg
theorem Inv.turned {t' : Nat} {it : Addr} (I : Inv X pins σ H s) (k : ∀ b o, b ≠ it → s.heap.get? b = some o → h'.get? b = some o) (hn : H it = none) (hL : it ≠ X.env.locals)
    (h1 : it ∈ X.ex ∨ X.s₀.heap.objs.size ≤ it) (h2 : ∀ x c, X.env.cells.lookup x = some c → c ≠ it) (h3 : ∀ p ∈ X.pn ++ pins, p.1 ≠ it) : Inv X pins σ H { s with heap := h', toks := t' } := by
  have nit : ∀ b u, H b = some u → b ≠ it := fun b u e z => by rw [z, hn] at e; cases e
  refine I.step (g' := s.gens) (d' := s.drawn) (ch := [it]) (fun b hb => ?_) (fun b o _ _ hc e _ => k b o (fun z => hc (by simp [z])) e) (fun b o _ _ hc e _ => ⟨o.slots, k b o (fun z => hc (by simp [z])) e⟩) (fun _ _ _ _ n => n)
    (fun b o hc e => ⟨o, k b o (fun z => hc (by simp [z])) e⟩) (fun _ _ e => e) (fun _ _ _ e => e) (fun b ps e => ⟨#[], by rw [e]; simp⟩) (fun m hm => ?_) (fun b u e => ?_) I.bare
  · have e : b = it := by simpa using hb
    subst e
    exact ⟨h1, hL, h2, h3⟩
  · obtain ⟨o, es, ep, ho, r⟩ := hm
    exact ⟨o, es, ep, k _ o (Ne.symm hL) ho, r⟩
  · refine (I.hok b u e).stay (fun c v hc q => k c v ?_ q) (fun _ q => q) fun _ _ q => q
    rcases hc with z | z
    · rw [z]; exact nit b u e
    · exact nit c _ z
theorem Inv.tok (I : Inv X pins σ H s) (t : Nat) : Inv X pins σ H { s with toks := t } := I.un (h' := s.heap) (t' := t) Un.refl I.hok
theorem Inv.kept {t' : Nat} (I : Inv X pins σ H s) (k : ∀ b u, s.heap.get? b = some u → h'.get? b = some u) : Inv X pins σ H { s with heap := h', toks := t' } := I.un (Un.kept k) (I.hok.kept k)
theorem Inv.laid {a : Addr} {o : HO} {t' : Nat} (I : Inv X pins σ H s) (k : ∀ b u, s.heap.get? b = some u → h'.get? b = some u) (hp : s.heap.objs.size ≤ a) (new : ObjOk X.prog X.w (upd H a o) h' a o) :
    Inv X pins σ (upd H a o) { s with heap := h', toks := t' } := I.un (Un.laid k hp (I.hok.fresh hp)) (I.hok.laid k hp new)
theorem Inv.write {x e : Addr} {o : HO} {t' : Nat} (I : Inv X pins σ H s) (mu : Mut (H x)) (he : e = x ∨ H e = some (.own x)) (k : ∀ b u, b ≠ e → s.heap.get? b = some u → h'.get? b = some u) (heo : ∃ u, h'.get? e = some u)
    (new : ObjOk X.prog X.w (upd H x o) h' x o) : Inv X pins σ (upd H x o) { s with heap := h', toks := t' } := I.un (Un.write mu he k heo) (I.hok.write mu he k heo new)
theorem Inv.weak {σ' : List (Option V)} (I : Inv X pins σ H s) (hl : σ'.length = σ.length) (w : ∀ (i : Nat) v, σ'[i]? = some (some v) → σ[i]? = some (some v)) : Inv X pins σ' H s :=
  ⟨I.ok, I.os, I.bare, I.base, let ⟨m, hn, hl'⟩ := I.loc; ⟨m, hn, fun i x v e1 e2 e3 => hl' i x v e1 (w i v e2) e3⟩, I.cell, I.free, I.freeC, I.pin, I.hok, hl.trans I.len⟩
theorem Inv.pins_of {pins' : List (Addr × Obj)} (I : Inv X pins σ H s) (h : ∀ p ∈ pins', s.heap.get? p.1 = some p.2 ∧ H p.1 = none ∧ p.1 ≠ X.env.locals ∧ p.1 ∉ X.fs ∧ ∀ v, p.2.data ≠ .cell v) : Inv X pins' σ H s :=
  ⟨I.ok, I.os, I.bare, I.base, I.loc, I.cell, I.free, I.freeC, fun p hp => (List.mem_append.mp hp).elim (fun z => I.pin p (List.mem_append_left _ z)) (h p), I.hok, I.len⟩
theorem nodup_ix {N : List Str} (hN : N.Nodup) {i j : Nat} {x : Str} (a : N[i]? = some x) (b : N[j]? = some x) : i = j := by
  obtain ⟨h1, e1⟩ := List.getElem?_eq_some_iff.mp a
  obtain ⟨h2, e2⟩ := List.getElem?_eq_some_iff.mp b
  exact (List.getElem_inj hN).mp (e1.trans e2.symm)
theorem store_ok2 {M : Model} {A : Around} {E : Value → Shared → Prop} {i : Nat} {x : Str} {v : V} {u : Value} {Q : Unit → Shared → Prop} (I : Inv X pins σ H s) (hN : X.N.Nodup) (hi : X.N[i]? = some x) (hx : Loc X.env.scope x) (r : RelV v u)
    (h : ∀ s', Inv X pins (σ.set i (some v)) H s' → (∃ a, Heap.SameBut a s.heap s'.heap ∧ (a = X.env.locals ∨ X.env.cells.lookup x = some a)) → Q () s') (hf : X.fn x = true ∨ X.env.scope.names.lookup x = some .local := by first | exact .inl rfl | exact .inr rfl | assumption) : wpAny M A (storeName X.env x u) Q E s := by
  obtain ⟨m, hn, hl⟩ := id I.loc
  have hcls : (X.env.scope.kind == .class || (X.env.scope.kind == .module && X.env.locals != X.env.globals)) = false := by rw [I.ok.kind]; rfl
  have hiσ : i < σ.length := by rw [I.len]; exact (List.getElem?_eq_some_iff.mp hi).1
  have cne := I.cne
  have tracked : ∀ {a : Addr} {h' : Heap}, (∃ o, s.heap.get? a = some o ∧ H a = none) → Heap.SameBut a s.heap h' → HOk X.prog X.w H h' := fun {a h'} ha hs b ob e => by
    obtain ⟨_, _, hfree⟩ := ha
    refine (I.hok b ob e).stay (fun c w' hc q => (hs.2 c ?_).trans q) (fun _ q => q) fun _ _ q => q
    rintro rfl
    rcases hc with rfl | hc
    · rw [hfree] at e; cases e
    · rw [hfree] at hc; cases hc
  rcases hx with hk | hk
  · refine wpAny_storeName_local hk hn (fun h' hn' hs => ?_) hcls
    obtain ⟨oL, _, _, hoL, _⟩ := id hn
    refine h _ ⟨I.ok, I.os, I.bare, ⟨fun b o e n hb hx => ?_, fun b o e n hb hx => ?_, I.base.free, fun b o e hx => ?_, I.base.tups, I.base.frzs, I.base.tbls⟩, ⟨_, hn', fun j y v' e1 e2 e3 => ?_⟩, fun y c e => ?_, I.free, I.freeC, fun p hp => ?_, tracked ⟨oL, hoL, I.free⟩ hs, by simpa using I.len⟩ ⟨_, hs, .inl rfl⟩
    · exact (hs.2 b (Nat.ne_of_lt (Nat.lt_of_lt_of_le (Heap.lt_size e) I.ok.above))).trans (I.base.keep b o e n hb hx)
    · obtain ⟨sl, e1⟩ := I.base.slot b o e n hb hx
      exact ⟨sl, (hs.2 b (Nat.ne_of_lt (Nat.lt_of_lt_of_le (Heap.lt_size e) I.ok.above))).trans e1⟩
    · obtain ⟨o', e1⟩ := I.base.there b o e hx
      exact ⟨o', (hs.2 b (Nat.ne_of_lt (Nat.lt_of_lt_of_le (Heap.lt_size e) I.ok.above))).trans e1⟩
    · by_cases hj : j = i
      · subst hj
        rw [hi] at e1; cases e1
        rw [List.getElem?_set_self hiσ] at e2
        cases e2
        exact ⟨u, r, .inl ⟨hk, by simp⟩⟩
      · rw [List.getElem?_set_ne (Ne.symm hj)] at e2
        obtain ⟨u', r', q⟩ := hl j y v' e1 e2 e3
        refine ⟨u', r', ?_⟩
        rcases q with ⟨k, e⟩ | ⟨k, c, e, z⟩
        · refine .inl ⟨k, ?_⟩
          have : y ≠ x := fun e => hj (nodup_ix hN e1 (e ▸ hi))
          simp [this, e]
        · exact .inr ⟨k, c, e, z.sameBut hs (cne y c e)⟩
    · obtain ⟨w', z⟩ := I.cell y c e
      exact ⟨w', z.sameBut hs (cne y c e)⟩
    · obtain ⟨e, n, ne, nf, d⟩ := I.pin p hp
      exact ⟨(hs.2 p.1 ne).trans e, n, ne, nf, d⟩
  · have hfn : X.fn x = true := by
      rcases hf with z | z
      · exact z
      · rw [z] at hk; cases hk
    obtain ⟨c, hc⟩ := I.ok.has x (.inl hk)
    obtain ⟨w', z⟩ := I.cell x c hc
    refine wpAny_storeName_cell I.ok.kind hk hc z (fun h' hc' hs => ?_)
    obtain ⟨oc, hoc, hocd⟩ := id z
    refine h { s with heap := h' } ⟨I.ok, I.os, I.bare, ⟨fun b o e n hb hx => ?_, fun b o e n hb hx => ?_, I.base.free, fun b o e hx => ?_, I.base.tups, I.base.frzs, I.base.tbls⟩, ⟨m, hn.sameBut hs (Ne.symm (cne x c hc)), fun j y v' e1 e2 e3 => ?_⟩, fun y c' e => ?_, I.free, I.freeC, fun p hp => ?_, tracked ⟨oc, hoc, I.freeC x c hc⟩ hs, by simpa using I.len⟩ ⟨c, hs, .inr hc⟩
    · exact (hs.2 b (Nat.ne_of_lt (Nat.lt_of_lt_of_le (Heap.lt_size e) (I.ok.cab x c hfn hc)))).trans (I.base.keep b o e n hb hx)
    · obtain ⟨sl, e1⟩ := I.base.slot b o e n hb hx
      exact ⟨sl, (hs.2 b (Nat.ne_of_lt (Nat.lt_of_lt_of_le (Heap.lt_size e) (I.ok.cab x c hfn hc)))).trans e1⟩
    · obtain ⟨o', e1⟩ := I.base.there b o e hx
      exact ⟨o', (hs.2 b (Nat.ne_of_lt (Nat.lt_of_lt_of_le (Heap.lt_size e) (I.ok.cab x c hfn hc)))).trans e1⟩
    · by_cases hj : j = i
      · subst hj
        rw [hi] at e1; cases e1
        rw [List.getElem?_set_self hiσ] at e2
        cases e2
        exact ⟨u, r, .inr ⟨.inl hk, c, hc, hc'⟩⟩
      · rw [List.getElem?_set_ne (Ne.symm hj)] at e2
        obtain ⟨u', r', q⟩ := hl j y v' e1 e2 e3
        refine ⟨u', r', ?_⟩
        rcases q with q | ⟨k, c', e, z'⟩
        · exact .inl q
        · refine .inr ⟨k, c', e, z'.sameBut hs ?_⟩
          rintro rfl
          exact hj (nodup_ix hN e1 (I.ok.inj _ _ _ e hc ▸ hi))
    · by_cases hcc : c' = c
      · subst hcc; exact ⟨_, hc'⟩
      · obtain ⟨w2, z2⟩ := I.cell y c' e
        exact ⟨w2, z2.sameBut hs hcc⟩
    · obtain ⟨e, n, ne, nf, d⟩ := I.pin p hp
      refine ⟨(hs.2 p.1 ?_).trans e, n, ne, nf, d⟩
      intro q
      rw [q, hoc] at e
      have q' : oc = p.2 := Option.some.inj e
      exact d w' (by rw [← q']; exact hocd)
theorem store_ok {M : Model} {A : Around} {E : Value → Shared → Prop} {i : Nat} {x : Str} {v : V} {u : Value} {Q : Unit → Shared → Prop} (I : Inv X pins σ H s) (hN : X.N.Nodup) (hi : X.N[i]? = some x) (hx : Loc X.env.scope x) (r : RelV v u)
    (h : ∀ s', Inv X pins (σ.set i (some v)) H s' → Q () s') (hf : X.fn x = true ∨ X.env.scope.names.lookup x = some .local := by first | exact .inl rfl | exact .inr rfl | assumption) : wpAny M A (storeName X.env x u) Q E s :=
  store_ok2 I hN hi hx r (fun s' I' _ => h s' I') hf
theorem Inv.call' {s' : Shared} {ch : List Addr} (I : Inv X pins σ H s) (ho : s'.os = s.os) (u : Un (frs X.stack) ch H H' s.heap s'.heap) (hok : HOk X.prog X.w H' s'.heap) (hg : AllBare s'.gens)
    (hch : ∀ b ∈ ch, (b ∈ X.ex ∨ X.s₀.heap.objs.size ≤ b) ∧ b ≠ X.env.locals ∧ (∀ x c, X.env.cells.lookup x = some c → c ≠ b) ∧ ∀ p ∈ X.pn ++ pins, p.1 ≠ b) : Inv X pins σ H' s' := by
  obtain ⟨h', g', d', t', o'⟩ := s'
  have e : o' = s.os := ho
  subst e
  exact I.call (g' := g') (t' := t') (d' := d') u hok hg hch
end
abbrev XK := Value → Option Addr → Hp → Prop
abbrev St := List (Option V)
abbrev VK := V → Hp → Prop
abbrev TE := St → Hp → VK → Prop
abbrev TT := St → Hp → (Bool → Hp → Prop) → Prop
abbrev TA := St → Hp → (List V → Hp → Prop) → Prop
structure Ends where
  nx : St → Hp → Prop
  rt : VK
  bk : St → Hp → Prop := fun _ _ => False
  ct : St → Hp → Prop := fun _ _ => False
abbrev TS := Ends → St → Hp → Prop
def EP (X : Cx) (pins : List (Addr × Obj)) (σ : St) (Q : VK) (u : Value) (s' : Shared) : Prop := ∃ v H', Inv X pins σ H' s' ∧ RelV v u ∧ Q v H'
def TP (X : Cx) (pins : List (Addr × Obj)) (σ : St) (Q : Bool → Hp → Prop) (b : Bool) (s' : Shared) : Prop := ∃ H', Inv X pins σ H' s' ∧ Q b H'
def AP (X : Cx) (pins : List (Addr × Obj)) (σ : St) (Q : List V → Hp → Prop) (us : List Value) (s' : Shared) : Prop := ∃ vs H', Inv X pins σ H' s' ∧ Vals vs us ∧ Q vs H'
def SP (X : Cx) (pins : List (Addr × Obj)) (D : Ends) (f : Flow) (s' : Shared) : Prop :=
  match f with
  | .next => ∃ σ' H', Inv X pins σ' H' s' ∧ D.nx σ' H'
  | .brk => ∃ σ' H', Inv X pins σ' H' s' ∧ D.bk σ' H'
  | .cont => ∃ σ' H', Inv X pins σ' H' s' ∧ D.ct σ' H'
  | .ret u => ∃ v σ' H', Inv X pins σ' H' s' ∧ RelV v u ∧ D.rt v H'
def PE (X : Cx) (e : Expr) (t : TE) : Prop :=
  ∀ (pins : List (Addr × Obj)) (s : Shared) (σ : St) (H : Hp) (Q : VK), Inv X pins σ H s → t σ H Q → wpAny (model X.prog X.w) X.A (eval e X.env) (EP X pins σ Q) X.xe s
def PT (X : Cx) (e : Expr) (t : TT) : Prop :=
  ∀ (pins : List (Addr × Obj)) (s : Shared) (σ : St) (H : Hp) (Q : Bool → Hp → Prop), Inv X pins σ H s → t σ H Q → wpAny (model X.prog X.w) X.A (isTrue e X.env (eval e X.env)) (TP X pins σ Q) X.xe s
def PW (X : Cx) (e : Expr) (t : TT) : Prop :=
  ∀ (whole : Sem Value) (pins : List (Addr × Obj)) (s : Shared) (σ : St) (H : Hp) (Q : Bool → Hp → Prop), Inv X pins σ H s → t σ H Q → wpAny (model X.prog X.w) X.A (isTrue e X.env whole) (TP X pins σ Q) X.xe s
theorem PW.pt {X : Cx} {e : Expr} {t : TT} (h : PW X e t) : PT X e t := h _
def PA (X : Cx) (es : List Expr) (t : TA) : Prop :=
  ∀ (pos : Pos) (pins : List (Addr × Obj)) (s : Shared) (σ : St) (H : Hp) (Q : List V → Hp → Prop), Inv X pins σ H s → t σ H Q → wpAny (model X.prog X.w) X.A (spliced (backTo pos (starEach es X.env))) (AP X pins σ Q) X.xe s
def PS (X : Cx) (st : Stmt) (t : TS) : Prop :=
  ∀ (pins : List (Addr × Obj)) (s : Shared) (σ : St) (H : Hp) (D : Ends), Inv X pins σ H s → t D σ H → wpAny (model X.prog X.w) X.A (exec st X.env) (SP X pins D) X.xe s
def PSs (X : Cx) (st : List Stmt) (t : TS) : Prop :=
  ∀ (pins : List (Addr × Obj)) (s : Shared) (σ : St) (H : Hp) (D : Ends), Inv X pins σ H s → t D σ H → wpAny (model X.prog X.w) X.A (execs st X.env) (SP X pins D) X.xe s
theorem thn {α : Type} {t : Sem α} {Q Q' : α → Shared → Prop} {M : Model} {A : Around} {E : Value → Shared → Prop} {s : Shared} (h : wpAny M A t Q E s) (hQ : ∀ a s, Q a s → Q' a s) : wpAny M A t Q' E s := wpAny_mono h hQ fun _ _ x => x
end L2
namespace L2
open PySem PySem.Spec PyProof.Rows
section
variable {X : Cx}
def tVar (i : Nat) : TE := fun σ H Q => ∃ v, σ[i]? = some (some v) ∧ Q v H
def tC (v : V) : TE := fun _ H Q => Q v H
theorem pe_var {i : Nat} {x : Str} {pos : Pos} (hN : X.N[i]? = some x) (hv : Vis X.env.scope x) (hd : (x == ("__debug__" : Str)) = false := by decide) (hcd : (x == ("__classdict__" : Str)) = false := by decide) : PE X (.Name x pos) (tVar i) := by
  intro pins s σ H Q I h
  obtain ⟨v, e, h⟩ := h
  obtain ⟨m, hn, hl⟩ := I.loc
  obtain ⟨u, r, l⟩ := hl i x v hN e hv
  have fin : EP X pins σ Q u s := ⟨v, H, I, r, h⟩
  rcases l with ⟨hk, hm⟩ | ⟨hk, c, hc, hcell⟩
  · exact wpAny_Name (wpAny_loadName_local I.ok.kind hk hn hm fin) hd
  · rcases hk with hk | hk
    · exact wpAny_Name (wpAny_loadName_cell I.ok.kind hk hc hcell fin) hd
    · exact wpAny_Name (wpAny_loadName_free I.ok.kind hk hc hcell fin hcd) hd
theorem pe_int {i j pos} : PE X (.Constant (.int i) j pos) (tC (.int i)) := fun _ _ _ H _ I h => wpAny_Constant_int ⟨.int i, H, I.tok _, ⟨_, rfl⟩, h⟩
theorem pe_bl {b j pos} : PE X (.Constant (.bool b) j pos) (tC (.bl b)) := fun _ _ _ H _ I h => Constant_bool ⟨.bl b, H, I, rfl, h⟩
theorem pe_str {x j pos} : PE X (.Constant (.str x) j pos) (tC (.str x)) := fun _ _ _ H _ I h => Calls.Constant_str ⟨.str x, H, I.tok _, ⟨_, rfl⟩, h⟩
def Gl (X : Cx) (x : Str) : Prop := X.env.kindOf x = some .globalImplicit
theorem ld_glob {E : Value → Shared → Prop} {pins : List (Addr × Obj)} {s : Shared} {σ : St} {H : Hp} {x : Str} {u : Value} {pos : Pos} {Q : Value → Shared → Prop} (I : Inv X pins σ H s) (hg : Gl X x) (hm : X.mg x = some u) (h : Q u s)
    (hd : (x == ("__debug__" : Str)) = false := by decide) : wpAny (model X.prog X.w) X.A (eval (.Name x pos) X.env) Q E s :=
  Calls.Name_function_global I.ok.kind hg (Calls.loadGlobal_global (by rw [I.ok.glob]; exact I.mod.glob.keeps I.bk) hm h) hd
theorem ld_blt {E : Value → Shared → Prop} {pins : List (Addr × Obj)} {s : Shared} {σ : St} {H : Hp} {x : Str} {u : Value} {pos : Pos} {Q : Value → Shared → Prop} (I : Inv X pins σ H s) (hg : Gl X x) (hm : X.mg x = none) (hv : bootBuiltins x = some u) (h : Q u s)
    (hn : x ≠ "__name__" := by decide) (hd : (x == ("__debug__" : Str)) = false := by decide) : wpAny (model X.prog X.w) X.A (eval (.Name x pos) X.env) Q E s := by
  obtain ⟨mb, h1, h2⟩ := I.mod.blt
  exact Calls.Name_function_global I.ok.kind hg (Calls.loadGlobal_builtin (by rw [I.ok.glob]; exact I.mod.glob.keeps I.bk) hm (by rw [I.ok.blt]; exact h1.keeps I.bk) ((h2 x hn).trans hv) h) hd
theorem pe_glob {x : Str} {v : V} {u : Value} {pos : Pos} (hg : Gl X x) (hm : X.mg x = some u) (r : RelV v u) (hd : (x == ("__debug__" : Str)) = false := by decide) : PE X (.Name x pos) (tC v) :=
  fun _ _ _ H _ I h => ld_glob I hg hm ⟨v, H, I, r, h⟩ hd
variable {a b : Expr} {ta tb : TE} {pos : Pos}
def PC (X : Cx) (op : CmpOp) (a b : Expr) (t : TE) : Prop :=
  ∀ (pins : List (Addr × Obj)) (s : Shared) (σ : St) (H : Hp) (Q : VK), Inv X pins σ H s → t σ H Q →
    wpAny (model X.prog X.w) X.A (eval a X.env) (fun v s₁ => wpAny (model X.prog X.w) X.A (eval b X.env) (fun u s₂ => wpAny (model X.prog X.w) X.A (compareOp op v u) (EP X pins σ Q) X.xe s₂) X.xe s₁) X.xe s
theorem nobehind (b : Expr) {op : CmpOp} (h : op ≠ .In) (h2 : op ≠ .NotIn) : behindInMarks op b = false := by
  have e1 : (op == CmpOp.In) = false := by cases op <;> first | rfl | exact absurd rfl h
  have e2 : (op == CmpOp.NotIn) = false := by cases op <;> first | rfl | exact absurd rfl h2
  cases b <;> simp [behindInMarks, e1, e2]
def tB (t : TE) : TT := fun σ H Q => t σ H fun x H1 => ∃ c, x = .bl c ∧ Q c H1
theorem pt_cmp {op : CmpOp} {t : TE} (h : PC X op a b t) (h1 : behindInMarks op b = false := by first | exact nobehind _ (by decide) (by decide) | rfl) : PT X (.Compare a [op] [b] pos) (tB t) := by
  intro pins s σ H Q I hw
  refine wpAny_isTrue_Compare1 (thn (h pins s σ H _ I hw) fun v s1 h1 => thn h1 fun u s2 h2 => thn h2 fun c s3 ⟨x, H1, I1, r1, q1⟩ => ?_) h1
  obtain ⟨d, rfl, q⟩ := q1
  cases r1
  exact wpAny_truthy_bool ⟨H1, I1, q⟩
theorem pt_val {e : Expr} {t : TE} (h : PE X e t) (he : ∀ whole, isTrue e X.env whole = (do let v ← whole; standAt e.pos; holding [v] (truthy v)) := by intro _; rfl) : PT X e (tB t) := by
  intro pins s σ H Q I hw
  refine isTrue_plain (thn (h pins s σ H _ I hw) fun v s1 ⟨x, H1, I1, r1, q1⟩ => ?_) (he _)
  obtain ⟨d, rfl, q⟩ := q1
  cases r1
  exact wpAny_truthy_bool ⟨H1, I1, q⟩
variable {tA tB' : TT} {rest : List Expr}
def tAnd (t u : TT) : TT := fun σ H Q => t σ H fun c H1 => if c = true then u σ H1 Q else Q false H1
def tOr (t u : TT) : TT := fun σ H Q => t σ H fun c H1 => if c = true then Q true H1 else u σ H1 Q
def tNot (t : TT) : TT := fun σ H Q => t σ H fun c H1 => Q (!c) H1
theorem pw_and1 (ha : PT X a tA) : PW X (.BoolOp .And [a] pos) tA := by
  intro wh pins s σ H Q I h
  refine isTrue_and (thn (ha pins s σ H Q I h) fun c s1 e => ?_)
  cases c with
  | true => exact isTrue_and_nil e
  | false => exact e
theorem pw_or1 (ha : PT X a tA) : PW X (.BoolOp .Or [a] pos) tA := by
  intro wh pins s σ H Q I h
  refine isTrue_or (thn (ha pins s σ H Q I h) fun c s1 e => ?_)
  cases c with
  | false => exact isTrue_or_nil e
  | true => exact e
theorem pw_and (ha : PT X a tA) (hb : PW X (.BoolOp .And (b :: rest) pos) tB') : PW X (.BoolOp .And (a :: b :: rest) pos) (tAnd tA tB') := by
  intro wh pins s σ H Q I h
  refine isTrue_and (thn (ha pins s σ H _ I h) fun c s1 ⟨H1, I1, q1⟩ => ?_)
  cases c with
  | true => exact hb wh pins s1 σ H1 Q I1 q1
  | false => exact ⟨H1, I1, q1⟩
theorem pw_or (ha : PT X a tA) (hb : PW X (.BoolOp .Or (b :: rest) pos) tB') : PW X (.BoolOp .Or (a :: b :: rest) pos) (tOr tA tB') := by
  intro wh pins s σ H Q I h
  refine isTrue_or (thn (ha pins s σ H _ I h) fun c s1 ⟨H1, I1, q1⟩ => ?_)
  cases c with
  | true => exact ⟨H1, I1, q1⟩
  | false => exact hb wh pins s1 σ H1 Q I1 q1
theorem pt_not (ha : PT X a tA) : PT X (.UnaryOp .Not a pos) (tNot tA) := by
  intro pins s σ H Q I h
  exact isTrue_not (ha pins s σ H (fun c H1 => Q (!c) H1) I h)
def tAndV (ta tb : TE) : TE := fun σ H Q => ta σ H fun x H1 => ∃ c, x = .bl c ∧ if c = true then tb σ H1 Q else Q (.bl false) H1
def tOrV (ta tb : TE) : TE := fun σ H Q => ta σ H fun x H1 => ∃ c, x = .bl c ∧ if c = true then Q (.bl true) H1 else tb σ H1 Q
def tNotV (ta : TE) : TE := fun σ H Q => ta σ H fun x H1 => ∃ c, x = .bl c ∧ Q (.bl (!c)) H1
theorem pe_one {op} {t : TE} (h : PE X a t) : PE X (.BoolOp op [a] pos) t := fun pins s σ H Q I hw => BoolOp_one (h pins s σ H Q I hw)
theorem pe_or (ha : PE X a ta) (hb : PE X (.BoolOp .Or (b :: rest) pos) tb) : PE X (.BoolOp .Or (a :: b :: rest) pos) (tOrV ta tb) := by
  intro pins s σ H Q I h
  refine BoolOp_or (thn (ha pins s σ H _ I h) fun v s1 ⟨x, H1, I1, r1, q1⟩ => ?_)
  obtain ⟨c, rfl, q1⟩ := q1
  cases r1
  refine wpAny_truthy_bool ?_
  cases c with
  | false => exact hb pins s1 σ H1 Q I1 q1
  | true => exact ⟨.bl true, H1, I1, rfl, q1⟩
def tIf (t : TT) (ta tb : TE) : TE := fun σ H Q => t σ H fun c H1 => if c = true then ta σ H1 Q else tb σ H1 Q
end
end L2
namespace L2
open PySem PySem.Spec PyProof.Rows
def SqL (K : PySem.W.Frag) (H : Hp) (a : Addr) (xs : List V) : Prop :=
  Rd H a (.lst xs) ∨
    ∃ (o : Obj) (its : Array Value) (n : Nat), K.lookup a = some o ∧ o.cls = .type "list" ∧ o.dict = none ∧ o.data = .seq its n ∧ its.size ≤ sizeLine ∧ Vals xs its.toList
def SqT (K : PySem.W.Frag) (H : Hp) (a : Addr) (xs : List V) : Prop :=
  Rd H a (.tup xs) ∨
    ∃ (o : Obj) (its : Array Value) (n : Nat), K.lookup a = some o ∧ o.cls = .type "tuple" ∧ o.data = .seq its n ∧ its.size ≤ sizeLine ∧ Vals xs its.toList
def absV : Value → Option V
  | .none => some .non
  | .bool b => some (.bl b)
  | .int i _ => some (.int i)
  | .str x _ => some (.str x)
  | .bytes b _ => some (.byt b)
  | .float b _ => some (.flt b)
  | .ref a => some (.ref a)
  | .type n => some (.ty n)
  | _ => none
theorem RelV.abs {x : V} {u : Value} (r : RelV x u) : absV u = some x := by
  cases x with
  | non => cases r; rfl
  | bl _ => cases r; rfl
  | int _ => obtain ⟨t, rfl⟩ := r; rfl
  | str _ => obtain ⟨t, rfl⟩ := r; rfl
  | byt _ => obtain ⟨t, rfl⟩ := r; rfl
  | flt _ => obtain ⟨t, rfl⟩ := r; rfl
  | ref _ => cases r; rfl
  | ty _ => cases r; rfl
theorem RelV.inj {x y : V} {u : Value} (r : RelV x u) (q : RelV y u) : x = y := Option.some.inj (r.abs.symm.trans q.abs)
theorem Vals.inj : ∀ {xs ys : List V} {us : List Value}, Vals xs us → Vals ys us → xs = ys
  | _, _, _, .nil, .nil => rfl
  | _, _, _, .cons r t, .cons r' t' => by rw [r.inj r', Vals.inj t t']
section
variable {X : Cx} {pins : List (Addr × Obj)} {σ : St} {H : Hp} {s : Shared} {a : Addr} {xs ys : List V}
theorem SqL.of {K : PySem.W.Frag} (h : H a = some (.lst xs)) : SqL K H a xs := .inl (.inl h)
theorem SqT.of {K : PySem.W.Frag} (h : H a = some (.tup xs)) : SqT K H a xs := .inl (.inl h)
theorem Inv.list (I : Inv X pins σ H s) (h : SqL X.K H a xs) : ∃ its : List Value, Vals xs its ∧ PlainL s.heap a its.toArray ∧ xs.length ≤ sizeLine := by
  rcases h with h | ⟨o, its, n, hk, hc, hd, hs, hz, r⟩
  · obtain ⟨z, its, n, r, e⟩ := h.ok I.hok
    exact ⟨its, r, ⟨_, n, e, rfl, rfl, rfl⟩, z⟩
  · refine ⟨its.toList, r, ⟨o, n, I.kIn a o hk, hc, hd, by simpa using hs⟩, ?_⟩
    have e := r.length
    simp only [Array.length_toList] at e
    omega
theorem Inv.tuple (I : Inv X pins σ H s) (h : SqT X.K H a xs) : ∃ its : List Value, Vals xs its ∧ IsTup s.heap a its.toArray ∧ xs.length ≤ sizeLine := by
  rcases h with h | ⟨o, its, n, hk, hc, hs, hz, r⟩
  · obtain ⟨z, its, r, p⟩ := h.ok I.hok
    exact ⟨its, r, p, z⟩
  · refine ⟨its.toList, r, ⟨o, I.kIn a o hk, hc, n, by simpa using hs⟩, ?_⟩
    have e := r.length
    simp only [Array.length_toList] at e
    omega
theorem Inv.list_inj (I : Inv X pins σ H s) (h : SqL X.K H a xs) (h' : SqL X.K H a ys) : xs = ys := by
  obtain ⟨its, r, ⟨o, n, e, _, _, d⟩, _⟩ := I.list h
  obtain ⟨its', r', ⟨o', n', e', _, _, d'⟩, _⟩ := I.list h'
  rw [e] at e'; cases e'
  rw [d] at d'
  injection d' with d1 _
  have : its = its' := by simpa using congrArg Array.toList d1
  subst this
  exact r.inj r'
end
abbrev Cx.wish (X : Cx) (E : Value → Shared → Prop) : Cx := { X with xe := E }
abbrev Cx.nox (X : Cx) : Cx := X.wish fun _ _ => False
theorem Cx.Ok.wish {X : Cx} (ok : X.Ok) (E : Value → Shared → Prop) : (X.wish E).Ok :=
  ⟨ok.mod, ok.kind, ok.glob, ok.blt, ok.above, ok.inj, ok.has, ok.cab, ok.hd, ok.frames, ok.stk, ok.exf, ok.bs, ok.bsz, ok.noex, ok.exfs, ok.funs, ok.frf⟩
theorem Cx.Ok.unwish {X : Cx} {E : Value → Shared → Prop} (ok : (X.wish E).Ok) : X.Ok :=
  ⟨ok.mod, ok.kind, ok.glob, ok.blt, ok.above, ok.inj, ok.has, ok.cab, ok.hd, ok.frames, ok.stk, ok.exf, ok.bs, ok.bsz, ok.noex, ok.exfs, ok.funs, ok.frf⟩
section
variable {X : Cx} {pins : List (Addr × Obj)} {σ : St} {H : Hp} {s : Shared} {E : Value → Shared → Prop}
theorem Inv.wish (I : Inv X pins σ H s) (E : Value → Shared → Prop) : Inv (X.wish E) pins σ H s := ⟨I.ok.wish E, I.os, I.bare, I.base, I.loc, I.cell, I.free, I.freeC, I.pin, I.hok, I.len⟩
theorem Inv.unwish (I : Inv (X.wish E) pins σ H s) : Inv X pins σ H s := ⟨I.ok.unwish, I.os, I.bare, I.base, I.loc, I.cell, I.free, I.freeC, I.pin, I.hok, I.len⟩
theorem SP.unwish {D : Ends} {f : Flow} {s' : Shared} (h : SP (X.wish E) pins D f s') : SP X pins D f s' := by
  cases f with
  | next => obtain ⟨σ', H', I, q⟩ := h; exact ⟨σ', H', I.unwish, q⟩
  | brk => obtain ⟨σ', H', I, q⟩ := h; exact ⟨σ', H', I.unwish, q⟩
  | cont => obtain ⟨σ', H', I, q⟩ := h; exact ⟨σ', H', I.unwish, q⟩
  | ret u => obtain ⟨v, σ', H', I, r, q⟩ := h; exact ⟨v, σ', H', I.unwish, r, q⟩
theorem PE.nox {e : Expr} {t : TE} (h : PE X.nox e t) : PE X e t := fun pins s σ H Q I hw =>
  wpAny_mono (h pins s σ H Q (I.wish _) hw) (fun _ _ ⟨v, H', I', r, q⟩ => ⟨v, H', I'.unwish, r, q⟩) fun _ _ z => False.elim z
theorem PT.nox {e : Expr} {t : TT} (h : PT X.nox e t) : PT X e t := fun pins s σ H Q I hw =>
  wpAny_mono (h pins s σ H Q (I.wish _) hw) (fun _ _ ⟨H', I', q⟩ => ⟨H', I'.unwish, q⟩) fun _ _ z => False.elim z
theorem PSs.nox {st : List Stmt} {t : TS} (h : PSs X.nox st t) : PSs X st t := fun pins s σ H D I hw =>
  wpAny_mono (h pins s σ H D (I.wish _) hw) (fun _ _ q => q.unwish) fun _ _ z => False.elim z
end
section
variable {X : Cx} {st : Stmt} {rest : List Stmt} {t u : TS} {e : Expr} {te : TE} {pos : Pos}
def tNext : TS := fun D σ H => D.nx σ H
def tSeq (t u : TS) : TS := fun D σ H => t { D with nx := u D } σ H
theorem pss_nil : PSs X [] tNext := fun _ _ σ H _ I h => wpAny_execs_nil ⟨σ, H, I, h⟩
theorem pss_cons (h1 : PS X st t) (h2 : PSs X rest u) : PSs X (st :: rest) (tSeq t u) := by
  intro pins s σ H D I h
  refine wpAny_execs_cons (thn (h1 pins s σ H { D with nx := u D } I h) fun f s1 q => ?_)
  cases f with
  | next =>
    obtain ⟨σ', H', I', q⟩ := q
    exact h2 pins s1 σ' H' D I' q
  | ret v => exact q
  | brk => exact q
  | cont => exact q
theorem pss_one (h1 : PS X st t) : PSs X [st] t := by
  intro pins s σ H D I h
  refine wpAny_execs_cons (thn (h1 pins s σ H D I h) fun f s1 q => ?_)
  cases f with
  | next => exact wpAny_execs_nil q
  | ret v => exact q
  | brk => exact q
  | cont => exact q
theorem Inv.quiet {pins : List (Addr × Obj)} {σ : St} {H : Hp} {s : Shared} (I : Inv X pins σ H s) : interactive X.env = false := by simp [interactive, I.ok.kind]
def tDrop (te : TE) : TS := fun D σ H => te σ H fun _ H1 => D.nx σ H1
theorem ps_expr (he : PE X e te) (hs : swapsWith e none pos.line X.env = pure false := by rfl) : PS X (.Expr e pos) (tDrop te) := by
  intro pins s σ H D I h
  exact wpAny_Expr_any (thn (he pins s σ H _ I h) fun v s1 ⟨x, H1, I1, r1, q1⟩ => ⟨σ, H1, I1, q1⟩) I.quiet hs
def tRet (te : TE) : TS := fun D σ H => te σ H D.rt
theorem ps_ret (he : PE X e te) : PS X (.Return (some e) pos) (tRet te) := by
  intro pins s σ H D I h
  exact wpAny_Return_some (thn (he pins s σ H _ I h) fun v s1 ⟨x, H1, I1, r1, q1⟩ => ⟨x, σ, H1, I1, r1, q1⟩)
def tIfS (c : TT) (t u : TS) : TS := fun D σ H => c σ H fun b H1 => if b = true then t D σ H1 else u D σ H1
theorem ps_if {c : Expr} {a b : List Stmt} {tc : TT} (hc : PT X c tc) (ha : PSs X a t) (hb : PSs X b u) : PS X (.If c a b pos) (tIfS tc t u) := by
  intro pins s σ H D I h
  refine wpAny_If (thn (hc pins s σ H _ I h) fun d s1 ⟨H1, I1, q1⟩ => ?_)
  cases d with
  | true => exact ha pins s1 σ H1 D I1 q1
  | false => exact hb pins s1 σ H1 D I1 q1
def tNever : TS := fun _ _ _ => False
theorem ps_never : PS X st tNever := fun _ _ _ _ _ _ h => h.elim
end
abbrev TG := V → St → Hp → (St → Hp → Prop) → Prop
abbrev TGs := List V → St → Hp → (St → Hp → Prop) → Prop
def PG (X : Cx) (target : Expr) (t : TG) : Prop :=
  ∀ (pins : List (Addr × Obj)) (s : Shared) (σ : St) (H : Hp) (v : V) (u : Value) (Q : St → Hp → Prop), Inv X pins σ H s → RelV v u → t v σ H Q →
    wpAny (model X.prog X.w) X.A (assign target X.env u) (fun _ s' => ∃ σ' H', Inv X pins σ' H' s' ∧ Q σ' H') X.xe s
def PGs (X : Cx) (ts : List Expr) (t : TGs) : Prop :=
  ∀ (pins : List (Addr × Obj)) (s : Shared) (σ : St) (H : Hp) (vs : List V) (us : List Value) (Q : St → Hp → Prop), Inv X pins σ H s → Vals vs us → t vs σ H Q →
    wpAny (model X.prog X.w) X.A (assignInOrder ((assignEach ts X.env).map (·.2)) us) (fun _ s' => ∃ σ' H', Inv X pins σ' H' s' ∧ Q σ' H') X.xe s
abbrev TSet := V → V → V → Hp → (Hp → Prop) → Prop
def PSet (X : Cx) (t : TSet) : Prop :=
  ∀ (pins : List (Addr × Obj)) (s : Shared) (σ : St) (H : Hp) (o i v : V) (ov iv u : Value) (Q : Hp → Prop), Inv X pins σ H s → RelV o ov → RelV i iv → RelV v u → t o i v H Q →
    wpAny (model X.prog X.w) X.A (setItem ov iv u) (fun _ s' => ∃ H', Inv X pins σ H' s' ∧ Q H') X.xe s
section
variable {X : Cx} {pos : Pos}
def gName (i : Nat) : TG := fun v σ H Q => Q (σ.set i (some v)) H
theorem pg_name {i : Nat} {x : Str} (hN : X.N.Nodup) (hi : X.N[i]? = some x) (hx : Loc X.env.scope x) (hf : X.fn x = true ∨ X.env.scope.names.lookup x = some .local := by first | exact .inl rfl | exact .inr rfl | assumption) : PG X (.Name x pos) (gName i) := by
  intro pins s σ H v u Q I r h
  exact wpAny_assign_Name (store_ok I hN hi hx r (fun s' I' => ⟨_, H, I', h⟩) hf)
def gNil : TGs := fun vs σ H Q => vs = [] ∧ Q σ H
def gCons (t : TG) (u : TGs) : TGs := fun vs σ H Q => ∃ v r, vs = v :: r ∧ t v σ H fun σ' H' => u r σ' H' Q
theorem pgs_nil : PGs X [] gNil := by
  intro pins s σ H vs us Q I r h
  obtain ⟨e, h⟩ := h
  subst e
  cases r
  exact assignInOrder_nil ⟨σ, H, I, h⟩
theorem pgs_cons {e : Expr} {es : List Expr} {t : TG} {u : TGs} (h1 : PG X e t) (h2 : PGs X es u)
    (hs : (assignEach (e :: es) X.env).map (·.2) = assign e X.env :: (assignEach es X.env).map (·.2) := by rfl) : PGs X (e :: es) (gCons t u) := by
  intro pins s σ H vs us Q I r h
  obtain ⟨v, vr, e1, h⟩ := h
  subst e1
  cases r with
  | cons r rr =>
    rw [hs]
    refine assignInOrder_cons (thn (h1 pins s σ H _ _ _ I r h) fun _ s1 ⟨σ1, H1, I1, q1⟩ => ?_)
    exact h2 pins s1 σ1 H1 _ _ Q I1 rr q1
def gTup (K : PySem.W.Frag) (n : Nat) (t : TGs) : TG := fun v σ H Q => ∃ a xs, v = .ref a ∧ SqT K H a xs ∧ xs.length = n ∧ t xs σ H Q
theorem pg_tup {es : List Expr} {k : Nat} {t : TGs} {n : Nat} (hc : X.calm = true) (h : PGs X es t)
    (hn : (assignEach es X.env).length = n := by rfl) (hst : (assignEach es X.env).findIdx? (·.1) = none := by rfl) : PG X (.Tuple es k pos) (gTup X.K n t) := by
  intro pins s σ H v u Q I r hw
  obtain ⟨a, xs, e1, hq, hl, hw⟩ := hw
  subst e1
  cases r
  obtain ⟨its, rv, ht, hz⟩ := I.tuple hq
  refine assign_Tuple_tuple (I.ok.hd hc) ht (by simp [hn, ← hl, rv.length]) hst fun h' hx => ?_
  have I1 : Inv X pins σ H { s with heap := h' } := I.kept (t' := s.toks) fun b o e => hx b o (Nat.ne_of_lt (Heap.lt_size e)) e
  exact h pins _ σ H xs _ Q I1 (by simpa using rv) hw
def gSub (to ti : TE) (t : TSet) : TG := fun v σ H Q => to σ H fun o H1 => ti σ H1 fun i H2 => t o i v H2 fun H3 => Q σ H3
theorem pg_sub {o i : Expr} {to ti : TE} {t : TSet} (ho : PE X o to) (hi : PE X i ti) (hs : PSet X t)
    (ha : ∀ v, assign (.Subscript o i pos) X.env v = (do
      let ov ← holding [v] (eval o X.env)
      let iv ← holding [v, ov] (eval i X.env)
      standAt pos
      holding [v, ov, iv] (setItem ov iv v)
      release [v, ov, iv] []) := by intro _; rfl) : PG X (.Subscript o i pos) (gSub to ti t) := by
  intro pins s σ H v u Q I r h
  rw [ha]
  refine wpAny_bind (wpAny_holding (thn (ho pins s σ H _ I h) fun ov s1 ⟨x, H1, I1, r1, q1⟩ => ?_))
  refine wpAny_bind (wpAny_holding (thn (hi pins s1 σ H1 _ I1 q1) fun iv s2 ⟨y, H2, I2, r2, q2⟩ => ?_))
  refine wpAny_bind (wpAny_standAt (wpAny_bind (wpAny_holding (thn (hs pins s2 σ H2 x y v ov iv u _ I2 r1 r2 r q2) fun _ s3 ⟨H3, I3, q3⟩ => ?_))))
  exact wpAny_release ⟨σ, H3, I3, q3⟩
def tAsg (te : TE) (g : TG) : TS := fun D σ H => te σ H fun x H1 => g x σ H1 D.nx
theorem ps_asg {tg e : Expr} {te : TE} {g : TG} (he : PE X e te) (hg : PG X tg g) (hs : swapsWithSole [tg] e pos.line X.env = pure false := by rfl) (hw : swappedStores [tg] e X.env = pure none := by rfl)
    (h1 : (assignEach [tg] X.env).map (·.2) = [assign tg X.env] := by rfl) : PS X (.Assign [tg] e pos) (tAsg te g) := by
  intro pins s σ H D I h
  refine wpAny_Assign_stores (thn (he pins s σ H _ I h) fun v s1 ⟨x, H1, I1, r1, q1⟩ => ?_) hs hw
  rw [h1]
  exact thn (hg pins s1 σ H1 x v _ I1 r1 q1) fun _ s2 q => q
theorem ps_set {i : Nat} {x : Str} {e : Expr} {te : TE} {pos' : Pos} (hN : X.N.Nodup) (hi : X.N[i]? = some x) (hx : Loc X.env.scope x) (he : PE X e te) (hs : swapsWith e (some (.Name x pos')) pos.line X.env = pure false := by rfl) (hf : X.fn x = true ∨ X.env.scope.names.lookup x = some .local := by first | exact .inl rfl | exact .inr rfl | assumption) :
    PS X (.Assign [.Name x pos'] e pos) (tAsg te (gName i)) := by
  intro pins s σ H D I h
  refine wpAny_Assign_Name (thn (he pins s σ H _ I h) fun v s1 ⟨y, H1, I1, r1, q1⟩ => ?_) hs
  exact store_ok I1 hN hi hx r1 (fun s2 I2 => ⟨_, H1, I2, q1⟩) hf
def tPar (i j : Nat) (ta : TA) : TS := fun D σ H => ta σ H fun vs H1 => ∃ v w, vs = [v, w] ∧ D.nx ((σ.set i (some v)).set j (some w)) H1
theorem ps_par {i j : Nat} {x y : Str} {a b : Expr} {ta : TA} {px py pt : Pos} {kt k2 pt2} (hc : X.calm = true) (hN : X.N.Nodup) (hi : X.N[i]? = some x) (hj : X.N[j]? = some y) (hij : i ≠ j)
    (hx : X.env.scope.names.lookup x = some .local) (hy : X.env.scope.names.lookup y = some .local) (ha : PA X [a, b] ta)
    (hw : swappedStores [.Tuple [.Name x px, .Name y py] kt pt] (.Tuple [a, b] k2 pt2) X.env = pure (some [x, y]))
    (hs : swapsWithSole [.Tuple [.Name x px, .Name y py] kt pt] (.Tuple [a, b] k2 pt2) pos.line X.env = pure false := by rfl) :
    PS X (.Assign [.Tuple [.Name x px, .Name y py] kt pt] (.Tuple [a, b] k2 pt2) pos) (tPar i j ta) := by
  intro pins s σ H D I h
  rw [exec_Assign_arm]
  refine wpAny_bind (wpAny_standAt ?_)
  rw [hs]
  refine wpAny_bind (wpAny_pure ?_)
  rw [if_neg (by decide)]
  refine wpAny_bind (Tuple_ (thn (ha _ pins s σ H _ I h) fun us s1 ⟨vs, H1, I1, r1, q1⟩ => ?_))
  obtain ⟨v, w, e1, q1⟩ := q1
  subst e1
  obtain ⟨u1, u2, rfl, rv, rw'⟩ : ∃ u1 u2, us = [u1, u2] ∧ RelV v u1 ∧ RelV w u2 := by
    cases r1 with
    | cons p q =>
      cases q with
      | cons p' q' =>
        cases q'
        exact ⟨_, _, rfl, p, p'⟩
  refine wpAny_newObj_type ?_ (by show 2 ≤ sizeLine; decide)
  have I2 : Inv X pins σ H1 { s1 with heap := s1.heap.push { cls := .type "tuple", data := .seq [u1, u2].toArray } } := I1.kept (t' := s1.toks) fun b o e => Heap.get?_push_of_some _ e
  rw [hw]
  refine wpAny_bind (wpAny_pure ?_)
  show wpAny (model X.prog X.w) X.A (do rule "assign.swapped-stores"; let items ← unpackItems (.ref s1.heap.objs.size) 2 none; assignInOrder [fun v => bindName X.env y v, fun v => bindName X.env x v] items.reverse; pure Flow.next) _ _ _
  refine wpAny_bind (wpAny_rule (wpAny_bind (unpackItems_tuple (items := #[u1, u2]) (I.ok.hd hc) (IsTup.new s1.heap _) fun h' hx' => ?_)))
  have I3 := I2.kept (h' := h') (t' := s1.toks) fun b o e => hx' b o (Nat.ne_of_lt (Heap.lt_size e)) e
  show wpAny _ _ (assignInOrder [fun v => bindName X.env y v, fun v => bindName X.env x v] [u2, u1] >>= fun _ => pure Flow.next) _ _ _
  refine wpAny_bind (assignInOrder_cons (wpAny_bindName (store_ok I3 hN hj (.inl hy) rw' (fun s2 I4 => ?_) (.inr hy))))
  refine assignInOrder_cons (wpAny_bindName (store_ok I4 hN hi (.inl hx) rv (fun s3 I5 => assignInOrder_nil (wpAny_pure ?_)) (.inr hx)))
  rw [List.set_comm _ _ (Ne.symm hij)] at I5
  exact ⟨_, H1, I5, q1⟩
end
section
variable {X : Cx} {pos : Pos}
def tWhile (c : TT) (tb : TS) : TS := fun D σ H => ∃ W : Nat → St → Hp → Prop, (∃ m, W m σ H) ∧ ∀ m σ H, W m σ H →
  c σ H fun b H1 => if b = true then ∃ N : St → Hp → Prop, (∀ σ' H', N σ' H' → ∃ m', m' < m ∧ W m' σ' H') ∧ tb { D with nx := N, ct := N, bk := D.nx } σ H1 else D.nx σ H1
theorem ps_while {c : Expr} {body : List Stmt} {tc : TT} {tb : TS} (hp : PassesOwn (model X.prog X.w) X.A X.env X.xe) (hc : PT X c tc) (hb : PSs X body tb) : PS X (.While c body [] pos) (tWhile tc tb) := by
  intro pins s σ H D I h
  obtain ⟨W, ⟨m0, w0⟩, turn⟩ := h
  refine wpAny_While (codeAny_whileLoop (fun n s' => ∃ σ' H', Inv X pins σ' H' s' ∧ W n σ' H') ?_ m0 ⟨σ, H, I, w0⟩)
  rintro n s1 ⟨σ1, H1, I1, w1⟩
  refine wpAny_passesOwn hp (thn (hc pins s1 σ1 H1 _ I1 (turn n σ1 H1 w1)) fun b s2 ⟨H2, I2, q2⟩ => ?_)
  cases b with
  | true =>
    obtain ⟨N, hN, q2⟩ := q2
    rw [if_pos rfl]
    refine wpAny_passesOwn hp (thn (hb pins s2 σ1 H2 _ I2 q2) fun f s3 q3 => ?_)
    cases f with
    | next =>
      obtain ⟨σ3, H3, I3, n3⟩ := q3
      obtain ⟨m', hm, w3⟩ := hN σ3 H3 n3
      exact ⟨m', hm, σ3, H3, I3, w3⟩
    | cont =>
      obtain ⟨σ3, H3, I3, n3⟩ := q3
      obtain ⟨m', hm, w3⟩ := hN σ3 H3 n3
      exact ⟨m', hm, σ3, H3, I3, w3⟩
    | brk => exact q3
    | ret v => exact q3
  | false =>
    rw [if_neg Bool.false_ne_true]
    exact wpAny_execs_nil ⟨σ1, H2, I2, q2⟩
end
structure It where
  go : Nat → Hp → Prop
  yld : Nat → Hp → V → Hp → Prop
  stop : Nat → Hp → Prop
def FpOk (X : Cx) (pins : List (Addr × Obj)) (H : Hp) (b : Addr) : Prop :=
  H b = none ∧ b ≠ X.env.locals ∧ b ∉ X.fs ∧ (b ∈ X.ex ∨ X.s₀.heap.objs.size ≤ b) ∧ (∀ x c, X.env.cells.lookup x = some c → c ≠ b) ∧ ∀ p ∈ X.pn ++ pins, p.1 ≠ b
theorem Inv.fpOk {X : Cx} {pins : List (Addr × Obj)} {σ : St} {H H' : Hp} {s : Shared} {b : Addr} (I : Inv X pins σ H s) (hb : s.heap.objs.size ≤ b) (hn : H' b = none) : FpOk X pins H' b := by
  refine ⟨hn, Nat.ne_of_gt (Nat.lt_of_lt_of_le I.lt hb), I.nofs hb, .inr (Nat.le_trans I.sz hb), fun x c e z => ?_, fun p hp z => ?_⟩
  · obtain ⟨v, q⟩ := I.cell x c e
    exact absurd (Nat.lt_of_lt_of_le q.lt (by rw [z]; exact hb)) (Nat.lt_irrefl _)
  · exact absurd (Nat.lt_of_lt_of_le (Heap.lt_size (I.pin p hp).1) (by rw [z]; exact hb)) (Nat.lt_irrefl _)
structure Turn (P : Program) (w : World) (K : PySem.W.Frag) (tg : Expr) (J : It) (fp : List Addr) (it : Addr) (tn : Nat → Heap → Prop) : Prop where
  mem : it ∈ fp
  obj : ∀ i h, tn i h → ∀ b ∈ fp, ∃ o, h.get? b = some o ∧ ∀ v, o.data ≠ .cell v
  keep : ∀ i h h', tn i h → (∀ b ∈ fp, ∀ o, h.get? b = some o → h'.get? b = some o) → tn i h'
  item : ∀ (X : Cx), X.prog = P → X.w = w → X.K = K → X.calm = true → ∀ (i : Nat) (pins : List (Addr × Obj)) (s : Shared) (σ : St) (H : Hp) (E : Value → Shared → Prop), Inv X pins σ H s → (∀ b ∈ fp, FpOk X pins H b) → tn i s.heap → J.go i H →
    wpAny (model P w) X.A (pyNext (.ref it)) (fun r s1 => ∃ u, r = some u ∧
      wpAny (model P w) X.A (letOwnedTupleGo tg (.ref it) u) (fun _ s2 => ∃ x H', Inv X pins σ H' s2 ∧ RelV x u ∧ J.yld i H x H' ∧ tn (i + 1) s2.heap ∧ ∀ b ∈ fp, H' b = none) E s1) E s
  done : ∀ (X : Cx), X.prog = P → X.w = w → X.K = K → X.calm = true → ∀ (i : Nat) (pins : List (Addr × Obj)) (s : Shared) (σ : St) (H : Hp) (E : Value → Shared → Prop), Inv X pins σ H s → (∀ b ∈ fp, FpOk X pins H b) → tn i s.heap → J.stop i H →
    wpAny (model P w) X.A (pyNext (.ref it)) (fun r s1 => r = none ∧ Inv X pins σ H s1) E s
  self : ∀ (A : Around) (i : Nat) (s : Shared) (Q : Value → Shared → Prop) (E : Value → Shared → Prop), tn i s.heap → Q (.ref it) s → wpAny (model P w) A (pyIter (.ref it)) Q E s
abbrev TI := St → Hp → (It → Hp → Prop) → Prop
def PIE (X : Cx) (pins : List (Addr × Obj)) (σ : St) (tg : Expr) (R : It → Hp → Prop) (itv : Value) (s2 : Shared) : Prop :=
  ∃ (it : Addr) (fp : List Addr) (tn : Nat → Heap → Prop) (J : It) (H' : Hp), itv = .ref it ∧ Inv X pins σ H' s2 ∧ Turn X.prog X.w X.K tg J fp it tn ∧ tn 0 s2.heap ∧ (∀ b ∈ fp, FpOk X pins H' b) ∧ R J H'
def PI (X : Cx) (tg iter : Expr) (wi : TI) : Prop :=
  ∀ (pins : List (Addr × Obj)) (s : Shared) (σ : St) (H : Hp) (R : It → Hp → Prop), Inv X pins σ H s → wi σ H R →
    wpAny (model X.prog X.w) X.A (eval iter X.env) (fun v s1 => wpAny (model X.prog X.w) X.A (pyIter v) (PIE X pins σ tg R) X.xe s1) X.xe s
theorem go_of {M : Model} {A : Around} {E : Value → Shared → Prop} {s : Shared} {tg : Expr} {it : Addr} {u : Value} {o : Obj} {n : String} {vs : Array Value} {Q : Unit → Shared → Prop} (ho : s.heap.get? it = some o) (hc : o.cls = .type n) (hd : o.data = .fields vs)
    (hn : ["enumerate", "zip", "dict_itemiterator", "dict_reverseitemiterator", "odict_iterator", "itertools.zip_longest", "itertools.pairwise"].contains n = false) (hQ : Q () s) : wpAny M A (letOwnedTupleGo tg (.ref it) u) Q E s := by
  unfold letOwnedTupleGo
  cases tg <;> first
    | exact wpAny_pure hQ
    | (cases u <;> first
        | exact wpAny_pure hQ
        | (refine wpAny_bind (wpAny_load ho ?_)
           rw [hc, hd]
           show wpAny M A (if (["enumerate", "zip", "dict_itemiterator", "dict_reverseitemiterator", "odict_iterator", "itertools.zip_longest", "itertools.pairwise"].contains n && vs[0]? == some (rawInt _)) = true then _ else _) Q E s
           rw [if_neg (by intro h; rw [hn, Bool.false_and] at h; cases h)]
           exact wpAny_pure hQ))
def Itl (K : PySem.W.Frag) (a : Addr) : It :=
  ⟨fun i H => ∃ xs x, SqL K H a xs ∧ xs[i]? = some x, fun i H x H' => H' = H ∧ ∀ xs, SqL K H a xs → xs[i]? = some x, fun i H => ∃ xs, SqL K H a xs ∧ xs.length ≤ i⟩
theorem turn_list {P : Program} {w : World} {K : PySem.W.Frag} {tg : Expr} (a it : Addr) : Turn P w K tg (Itl K a) [it] it (fun i h => h.IsListIter it a i) where
  mem := by simp
  obj := fun i h st b hb => by
    have e : b = it := by simpa using hb
    subst e
    obtain ⟨o, e, c, d⟩ := st
    exact ⟨o, e, fun v z => by rw [d] at z; cases z⟩
  keep := fun i h h' st k => st.at fun o e => k it (by simp) o e
  item := by
    intro X hP hw hK hc i pins s σ H E I hf st hg
    subst hP hw hK
    obtain ⟨xs, x, hq, hx⟩ := hg
    obtain ⟨its, rv, p, hz⟩ := I.list hq
    obtain ⟨u, hu, ru⟩ := rv.get hx
    obtain ⟨f0, f1, f2, f3, f4, f5⟩ := hf it (by simp)
    refine wpAny_pyNext_list_item st p.isList (x := u) (by simpa using hu) fun h' st' sb => ?_
    have I1 : Inv X pins σ H { s with heap := h' } := I.turned (t' := s.toks) (fun b o hb e => (sb.2 b hb).trans e) f0 f1 f3 f4 f5
    obtain ⟨o, e, c, d⟩ := id st'
    exact ⟨u, rfl, go_of (s := { s with heap := h' }) e c d (by decide) ⟨x, H, I1, ru, ⟨rfl, fun ys hy => by rw [I.list_inj hy hq]; exact hx⟩, st', fun b hb => (hf b hb).1⟩⟩
  done := by
    intro X hP hw hK hc i pins s σ H E I hf st hg
    subst hP hw hK
    obtain ⟨xs, hq, hx⟩ := hg
    obtain ⟨its, rv, p, hz⟩ := I.list hq
    obtain ⟨f0, f1, f2, f3, f4, f5⟩ := hf it (by simp)
    have hl := rv.length
    exact wpAny_pyNext_list_end (I.ok.hd hc) st p.isList (by simp; omega) fun h' eb => ⟨rfl, I.turned (t' := s.toks) (fun b o hb e => eb b o hb e) f0 f1 f3 f4 f5⟩
  self := fun _ _ _ _ _ st h => wpAny_pyIter_listiter st h
end L2
namespace L2
open PySem PySem.Spec PyProof.Rows
section
variable {X : Cx} {tg : Expr}
def iList (K : PySem.W.Frag) (tl : TE) : TI := fun σ H R => tl σ H fun x H1 => ∃ a, x = .ref a ∧ (∃ xs, SqL K H1 a xs) ∧ R (Itl K a) H1
theorem pi_list {l : Expr} {tl : TE} (hl : PE X l tl) : PI X tg l (iList X.K tl) := by
  intro pins s σ H R I h
  refine thn (hl pins s σ H _ I h) fun v s1 ⟨x, H1, I1, r1, q1⟩ => ?_
  obtain ⟨a, e, ⟨xs, hq⟩, q⟩ := q1
  subst e
  cases r1
  obtain ⟨its, rv, p, hz⟩ := I1.list hq
  refine wpAny_pyIter_list p.isList ?_
  refine ⟨s1.heap.objs.size, [s1.heap.objs.size], _, _, H1, rfl, I1.kept (t' := s1.toks) fun b o e => Heap.get?_push_of_some _ e, turn_list a _, ⟨_, Heap.get?_push_size _ rfl, rfl, rfl⟩, fun b hb => ?_, q⟩
  have e : b = s1.heap.objs.size := by simpa using hb
  subst e
  exact I1.fpOk (Nat.le_refl _) (I1.hok.fresh (Nat.le_refl _))
def tFor (wi : TI) (g : TG) (tb : TS) : TS := fun D σ H => wi σ H fun J H1 => ∃ W : Nat → Nat → St → Hp → Prop, (∃ m, W 0 m σ H1) ∧ ∀ i m σ H, W i m σ H →
  (J.stop i H ∧ D.nx σ H) ∨ (J.go i H ∧ ∃ N : St → Hp → Prop, (∀ σ' H', N σ' H' → ∃ m', m' < m ∧ W (i + 1) m' σ' H') ∧ ∀ x H', J.yld i H x H' → g x σ H' fun σ2 H2 => tb { D with nx := N, ct := N, bk := D.nx } σ2 H2)
def pinsAt (fp : List Addr) (h : Heap) : List (Addr × Obj) := fp.filterMap fun b => (h.get? b).map fun o => (b, o)
theorem mem_pinsAt {fp : List Addr} {h : Heap} {b : Addr} {o : Obj} (hb : b ∈ fp) (e : h.get? b = some o) : (b, o) ∈ pinsAt fp h := List.mem_filterMap.mpr ⟨b, hb, by rw [e]; rfl⟩
theorem of_pinsAt {fp : List Addr} {h : Heap} {p : Addr × Obj} (hp : p ∈ pinsAt fp h) : p.1 ∈ fp ∧ h.get? p.1 = some p.2 := by
  obtain ⟨b, hb, e⟩ := List.mem_filterMap.mp hp
  cases q : h.get? b with
  | none => rw [q] at e; cases e
  | some o =>
    rw [q] at e
    have e' : (b, o) = p := Option.some.inj e
    subst e'
    exact ⟨hb, q⟩
theorem Inv.pinned {pins : List (Addr × Obj)} {σ : St} {H : Hp} {s : Shared} {fp : List Addr} (I : Inv X pins σ H s) (hf : ∀ b ∈ fp, FpOk X pins H b) (ho : ∀ b ∈ fp, ∃ o, s.heap.get? b = some o ∧ ∀ v, o.data ≠ .cell v) : Inv X (pins ++ pinsAt fp s.heap) σ H s :=
  I.pins_of fun p hp => (List.mem_append.mp hp).elim (fun z => I.pin p (List.mem_append_right _ z)) fun z => by
    obtain ⟨hb, e⟩ := of_pinsAt z
    obtain ⟨f0, f1, f2, _⟩ := hf p.1 hb
    obtain ⟨o, e', d⟩ := ho p.1 hb
    rw [e] at e'; cases e'
    exact ⟨e, f0, f1, f2, d⟩
theorem Inv.unpinned {pins pl : List (Addr × Obj)} {σ : St} {H : Hp} {s : Shared} (I : Inv X (pins ++ pl) σ H s) : Inv X pins σ H s := I.pins_of fun p hp => I.pin p (List.mem_append_right _ (List.mem_append_left _ hp))
theorem ps_for {iter : Expr} {body : List Stmt} {wi : TI} {g : TG} {tb : TS} {pos : Pos} (hp : PassesOwn (model X.prog X.w) X.A X.env X.xe) (hc : X.calm = true) (hi : PI X tg iter wi) (hg : PG X tg g) (hb : PSs X body tb)
    (hs : ∀ x, foldedSetIterable iter X.env x = pure x := by intro _; rfl) : PS X (.For tg iter body [] pos) (tFor wi g tb) := by
  intro pins s σ H D I h
  refine wpAny_For (thn (hi pins s σ H _ I h) fun v s1 h1 => thn h1 fun itv s2 h2 => ?_) hs
  obtain ⟨it, fp, tn, J, H2, e, I2, T, st2, f2, W, ⟨m0, w0⟩, turn⟩ := h2
  subst e
  have stat : ∀ {H' : Hp}, (∀ b ∈ fp, H' b = none) → ∀ b ∈ fp, FpOk X pins H' b := fun hn b hb => ⟨hn b hb, (f2 b hb).2⟩
  refine codeAny_forLoop_any (fun n s' => ∃ i σ' H', Inv X pins σ' H' s' ∧ tn i s'.heap ∧ (∀ b ∈ fp, H' b = none) ∧ W i n σ' H') ?_ m0 ⟨0, σ, H2, I2, st2, fun b hb => (f2 b hb).1, w0⟩
  rintro n s3 ⟨i, σ3, H3, I3, st3, fr3, w3⟩
  rcases turn i n σ3 H3 w3 with ⟨stop, qn⟩ | ⟨go, N, hN, step⟩
  · refine wpAny_passesOwn hp (thn (T.done X rfl rfl rfl hc i pins s3 σ3 H3 X.xe I3 (stat fr3) st3 stop) fun r s4 ⟨hr, I4⟩ => ?_)
    subst hr
    exact wpAny_execs_nil ⟨σ3, H3, I4, qn⟩
  · refine wpAny_passesOwn hp (thn (T.item X rfl rfl rfl hc i pins s3 σ3 H3 X.xe I3 (stat fr3) st3 go) fun r s4 ⟨u, hr, h4⟩ => ?_)
    subst hr
    refine wpAny_passesOwn hp (thn h4 fun _ s5 ⟨x, H5, I5, r5, y5, st5, fr5⟩ => ?_)
    have I5' := I5.pinned (stat fr5) (T.obj _ _ st5)
    refine wpAny_passesOwn hp (thn (hg _ s5 σ3 H5 x u _ I5' r5 (step x H5 y5)) fun _ s6 ⟨σ6, H6, I6, q6⟩ => ?_)
    refine wpAny_passesOwn hp (thn (hb _ s6 σ6 H6 _ I6 q6) fun f s7 q7 => ?_)
    have again : ∀ {σ7 : St} {H7 : Hp}, Inv X (pins ++ pinsAt fp s5.heap) σ7 H7 s7 → N σ7 H7 → ∃ m, m < n ∧ ∃ i σ' H', Inv X pins σ' H' s7 ∧ tn i s7.heap ∧ (∀ b ∈ fp, H' b = none) ∧ W i m σ' H' := fun {σ7 H7} I7 n7 => by
      obtain ⟨m', hm, w7⟩ := hN σ7 H7 n7
      refine ⟨m', hm, i + 1, σ7, H7, I7.unpinned, T.keep _ _ _ st5 fun b hb o e => (I7.pin (b, o) (List.mem_append_right _ (List.mem_append_right _ (mem_pinsAt hb e)))).1, fun b hb => ?_, w7⟩
      obtain ⟨o, e, d⟩ := T.obj _ _ st5 b hb
      exact (I7.pin (b, o) (List.mem_append_right _ (List.mem_append_right _ (mem_pinsAt hb e)))).2.1
    cases f with
    | next => obtain ⟨σ7, H7, I7, n7⟩ := q7; exact again I7 n7
    | cont => obtain ⟨σ7, H7, I7, n7⟩ := q7; exact again I7 n7
    | brk => obtain ⟨σ7, H7, I7, q7⟩ := q7; exact ⟨σ7, H7, I7.unpinned, q7⟩
    | ret v => obtain ⟨x7, σ7, H7, I7, r7, q7⟩ := q7; exact ⟨x7, σ7, H7, I7.unpinned, r7, q7⟩
end
theorem for_list {K : PySem.W.Frag} {a : Addr} {xs : List V} {g : TG} {tb : TS} {D : Ends} {σ : St} {H : Hp} (Pv : Nat → St → Hp → Prop) (h0 : Pv 0 σ H) (hl : ∀ i σ H, i ≤ xs.length → Pv i σ H → SqL K H a xs)
    (hs : ∀ i x σ H, xs[i]? = some x → Pv i σ H → g x σ H fun σ2 H2 => tb { D with nx := Pv (i + 1), ct := Pv (i + 1), bk := D.nx } σ2 H2) (hd : ∀ σ H, Pv xs.length σ H → D.nx σ H) :
    ∃ W : Nat → Nat → St → Hp → Prop, (∃ m, W 0 m σ H) ∧ ∀ i m σ H, W i m σ H →
      ((Itl K a).stop i H ∧ D.nx σ H) ∨ ((Itl K a).go i H ∧ ∃ N : St → Hp → Prop, (∀ σ' H', N σ' H' → ∃ m', m' < m ∧ W (i + 1) m' σ' H') ∧ ∀ x H', (Itl K a).yld i H x H' → g x σ H' fun σ2 H2 => tb { D with nx := N, ct := N, bk := D.nx } σ2 H2) := by
  refine ⟨fun i m σ H => m = xs.length - i ∧ i ≤ xs.length ∧ Pv i σ H, ⟨xs.length, by simp, Nat.zero_le _, h0⟩, ?_⟩
  rintro i m σ H ⟨rfl, hi, p⟩
  have q := hl i σ H hi p
  by_cases hlt : i < xs.length
  · refine .inr ⟨⟨xs, xs[i], q, by simp [hlt]⟩, Pv (i + 1), fun σ' H' p' => ⟨xs.length - (i + 1), by omega, rfl, hlt, p'⟩, fun x H' y => ?_⟩
    obtain ⟨e, y⟩ := y
    subst e
    exact hs i x σ _ (y xs q) p
  · have e : i = xs.length := by omega
    subst e
    exact .inl ⟨⟨xs, q, Nat.le_refl _⟩, hd σ H p⟩
end L2
namespace L2
open PySem PySem.Spec PyProof.Rows
abbrev R2 := V → V → Hp → VK → Prop
def OpR (X : Cx) (f : Value → Value → Sem Value) (r : R2) : Prop :=
  ∀ (pins : List (Addr × Obj)) (s : Shared) (σ : St) (H : Hp) (x y : V) (v u : Value) (Q : VK), Inv X pins σ H s → RelV x v → RelV y u → r x y H Q →
    wpAny (model X.prog X.w) X.A (f v u) (EP X pins σ Q) X.xe s
def UnR (X : Cx) (f : Value → Sem Value) (r : V → Hp → VK → Prop) : Prop :=
  ∀ (pins : List (Addr × Obj)) (s : Shared) (σ : St) (H : Hp) (x : V) (v : Value) (Q : VK), Inv X pins σ H s → RelV x v → r x H Q →
    wpAny (model X.prog X.w) X.A (f v) (EP X pins σ Q) X.xe s
def CallR (X : Cx) (f : Value) (r : List V → Hp → VK → Prop) : Prop :=
  ∀ (pins : List (Addr × Obj)) (s : Shared) (σ : St) (H : Hp) (xs : List V) (us : List Value) (Q : VK), Inv X pins σ H s → Vals xs us → r xs H Q →
    wpAny (model X.prog X.w) X.A (call f us) (EP X pins σ Q) X.xe s
def tOp (r : R2) (ta tb : TE) : TE := fun σ H Q => ta σ H fun x H1 => tb σ H1 fun y H2 => r x y H2 Q
def tUn (r : V → Hp → VK → Prop) (ta : TE) : TE := fun σ H Q => ta σ H fun x H1 => r x H1 Q
def rI (C : Int → Int → Prop) (g : Int → Int → V) : R2 := fun x y H Q => ∃ i j, x = .int i ∧ y = .int j ∧ C i j ∧ Q (g i j) H
def rI0 (g : Int → Int → V) : R2 := fun x y H Q => ∃ i j, x = .int i ∧ y = .int j ∧ Q (g i j) H
def rU (g : Int → V) : V → Hp → VK → Prop := fun x H Q => ∃ i, x = .int i ∧ Q (g i) H
section
variable {X : Cx} {a b c : Expr} {ta tb tc : TE} {pos : Pos}
theorem binT (ha : PE X a ta) (hb : PE X b tb) {pins : List (Addr × Obj)} {s : Shared} {σ : St} {H : Hp} {R : V → V → Hp → Prop} (I : Inv X pins σ H s)
    (h : ta σ H fun x H1 => tb σ H1 fun y H2 => R x y H2) {Q : Value → Shared → Prop} {f : Value → Value → Sem Value}
    (hf : ∀ v u s2 x y H2, Inv X pins σ H2 s2 → RelV x v → RelV y u → R x y H2 → wpAny (model X.prog X.w) X.A (f v u) Q X.xe s2) :
    wpAny (model X.prog X.w) X.A (eval a X.env) (fun v s₁ => wpAny (model X.prog X.w) X.A (eval b X.env) (fun u s₂ => wpAny (model X.prog X.w) X.A (f v u) Q X.xe s₂) X.xe s₁) X.xe s := by
  refine thn (ha pins s σ H _ I h) fun v s1 ⟨x, H1, I1, r1, q1⟩ => ?_
  refine thn (hb pins s1 σ H1 _ I1 q1) fun u s2 ⟨y, H2, I2, r2, q2⟩ => ?_
  exact hf v u s2 x y H2 I2 r1 r2 q2
theorem pe_op {op : Operator} {r : R2} (ho : OpR X (binaryOp op) r) (ha : PE X a ta) (hb : PE X b tb) : PE X (.BinOp a op b pos) (tOp r ta tb) := by
  intro pins s σ H Q I h
  exact wpAny_BinOp (binT ha hb I h fun v u s2 x y H2 I2 rx ry q => ho pins s2 σ H2 x y v u Q I2 rx ry q)
theorem pe_un {op : UnaryOp} {r : V → Hp → VK → Prop} (ho : UnR X (unaryOp op) r) (ha : PE X a ta) : PE X (.UnaryOp op a pos) (tUn r ta) := by
  intro pins s σ H Q I h
  exact UnaryOp_ (thn (ha pins s σ H _ I h) fun v s1 ⟨x, H1, I1, r1, q1⟩ => ho pins s1 σ H1 x v Q I1 r1 q1)
theorem opI {f : Value → Value → Sem Value} {C : Int → Int → Prop} {g : Int → Int → Int}
    (rule : ∀ (i j : Int) (t u : Tok) (s : Shared) (Q : Value → Shared → Prop) (E : Value → Shared → Prop), C i j → Q (.int (g i j) s.toks) { s with toks := s.toks + 1 } → wpAny (model X.prog X.w) X.A (f (.int i t) (.int j u)) Q E s) :
    OpR X f (rI C fun i j => .int (g i j)) := by
  intro pins s σ H x y v u Q I rx ry h
  obtain ⟨i, j, rfl, rfl, hc, q⟩ := h
  obtain ⟨t, rfl⟩ := rx
  obtain ⟨t', rfl⟩ := ry
  exact rule i j t t' s _ _ hc ⟨.int (g i j), H, I.tok _, ⟨_, rfl⟩, q⟩
theorem opI0 {f : Value → Value → Sem Value} {g : Int → Int → Int}
    (rule : ∀ (i j : Int) (t u : Tok) (s : Shared) (Q : Value → Shared → Prop) (E : Value → Shared → Prop), Q (.int (g i j) s.toks) { s with toks := s.toks + 1 } → wpAny (model X.prog X.w) X.A (f (.int i t) (.int j u)) Q E s) :
    OpR X f (rI0 fun i j => .int (g i j)) := by
  intro pins s σ H x y v u Q I rx ry h
  obtain ⟨i, j, rfl, rfl, q⟩ := h
  obtain ⟨t, rfl⟩ := rx
  obtain ⟨t', rfl⟩ := ry
  exact rule i j t t' s _ _ ⟨.int (g i j), H, I.tok _, ⟨_, rfl⟩, q⟩
theorem opB0 {f : Value → Value → Sem Value} {g : Int → Int → Bool}
    (rule : ∀ (i j : Int) (t u : Tok) (s : Shared) (Q : Value → Shared → Prop) (E : Value → Shared → Prop), Q (.bool (g i j)) s → wpAny (model X.prog X.w) X.A (f (.int i t) (.int j u)) Q E s) :
    OpR X f (rI0 fun i j => .bl (g i j)) := by
  intro pins s σ H x y v u Q I rx ry h
  obtain ⟨i, j, rfl, rfl, q⟩ := h
  obtain ⟨t, rfl⟩ := rx
  obtain ⟨t', rfl⟩ := ry
  exact rule i j t t' s _ _ ⟨.bl (g i j), H, I, rfl, q⟩
def CDiv (i j : Int) : Prop := 0 < j ∧ j < 1073741824
def CMul (i j : Int) : Prop := (-(2 ^ 64) < i ∧ i < 2 ^ 64) ∨ (-(2 ^ 64) < j ∧ j < 2 ^ 64)
theorem CMul.ok {i j : Int} (h : CMul i j) : IntMulOk i j := by
  rcases h with ⟨h1, h2⟩ | ⟨h1, h2⟩
  · exact .of_left (intBits_le_64 h1 h2)
  · exact .of_right (intBits_le_64 h1 h2)
theorem op_add : OpR X (binaryOp .Add) (rI0 fun i j => .int (i + j)) := opI0 fun _ _ _ _ _ _ _ q => add_int q
theorem op_sub : OpR X (binaryOp .Sub) (rI0 fun i j => .int (i - j)) := opI0 fun _ _ _ _ _ _ _ q => sub_int q
theorem op_fdiv : OpR X (binaryOp .FloorDiv) (rI CDiv fun i j => .int (i / j)) := opI fun i j _ _ _ _ _ hc q => by
  have h1 : (0 : Int) < j := hc.1
  have h2 : j < 1073741824 := hc.2
  exact floordiv_int (by omega) (by rw [Int.fdiv_eq_ediv_of_nonneg i (by omega)]; exact q) (.inl (PyProof.noPylong_small (by omega)))
theorem op_mod : OpR X (binaryOp .Mod) (rI (fun _ j => 0 < j) fun i j => .int (i % j)) := opI fun i j _ _ _ _ _ hc q => by
  have h1 : (0 : Int) < j := hc
  exact mod_int' (by omega) (by rw [Int.fmod_eq_emod_of_nonneg i (by omega)]; exact q)
theorem unI {f : Value → Sem Value} {g : Int → Int}
    (rule : ∀ (i : Int) (t : Tok) (s : Shared) (Q : Value → Shared → Prop) (E : Value → Shared → Prop), Q (.int (g i) s.toks) { s with toks := s.toks + 1 } → wpAny (model X.prog X.w) X.A (f (.int i t)) Q E s) :
    UnR X f (rU fun i => .int (g i)) := by
  intro pins s σ H x v Q I rx h
  obtain ⟨i, rfl, q⟩ := h
  obtain ⟨t, rfl⟩ := rx
  exact rule i t s _ _ ⟨.int (g i), H, I.tok _, ⟨_, rfl⟩, q⟩
theorem un_neg : UnR X (unaryOp .USub) (rU fun i => .int (-i)) := unI fun _ _ _ _ _ q => neg_int q
end
def scal : V → V → Bool
  | .non, .non => true | .non, .int _ => true | .int _, .non => true | .non, .bl _ => true | .bl _, .non => true | .non, .str _ => true | .str _, .non => true
  | .int _, .int _ => true | .bl _, .bl _ => true | .str _, .str _ => true | .byt _, .byt _ => true
  | .int _, .str _ => true | .str _, .int _ => true | .bl _, .str _ => true | .str _, .bl _ => true
  | _, _ => false
def rEq : R2 := fun x y H Q => scal x y = true ∧ Q (.bl (decide (x = y))) H
def rNe : R2 := fun x y H Q => scal x y = true ∧ Q (.bl (!decide (x = y))) H
theorem dec_int {i j : Int} : decide (V.int i = V.int j) = (i == j) := by
  rw [Bool.eq_iff_iff]
  simp
theorem dec_bl {i j : Bool} : decide (V.bl i = V.bl j) = (i == j) := by
  rw [Bool.eq_iff_iff]
  simp
theorem dec_str {i j : Str} : decide (V.str i = V.str j) = (i == j) := by
  rw [Bool.eq_iff_iff]
  simp
theorem dec_byt {i j : Array UInt8} : decide (V.byt i = V.byt j) = (i.toList == j.toList) := by
  rw [Bool.eq_iff_iff]
  cases i
  cases j
  simp
section
variable {X : Cx} {a b c : Expr} {ta tb tc : TE} {pos : Pos}
theorem fin_bl {pins : List (Addr × Obj)} {σ : St} {H : Hp} {s : Shared} {Q : VK} {k k' : Bool} (I : Inv X pins σ H s) (q : Q (.bl k) H) (e : k = k') : EP X pins σ Q (.bool k') s := by
  subst e
  exact ⟨.bl k, H, I, rfl, q⟩
theorem op_eq : OpR X (compareOp .Eq) rEq := by
  intro pins s σ H x y v u Q I rx ry h
  obtain ⟨hs, q⟩ := h
  cases x with
  | non =>
    cases rx
    cases y with
    | non => cases ry; exact PySem.EqNone.eq_none_none (fin_bl I q (by simp))
    | bl j => cases ry; exact PySem.EqNone.eq_none_bool (fin_bl I q (by simp))
    | int j => obtain ⟨t', rfl⟩ := ry; exact PySem.EqNone.eq_none_int (fin_bl I q (by simp))
    | str j => obtain ⟨t', rfl⟩ := ry; exact PySem.EqNone.eq_none_str (fin_bl I q (by simp))
    | _ => exact absurd (show false = true from hs) Bool.false_ne_true
  | bl i =>
    cases rx
    cases y with
    | non => cases ry; exact PySem.EqNone.eq_bool_none (fin_bl I q (by simp))
    | bl j => cases ry; exact eq_bool (fin_bl I q dec_bl)
    | str j => obtain ⟨t', rfl⟩ := ry; exact PySem.EqMixed.eq_bool_str (fin_bl I q (by simp))
    | _ => exact absurd (show false = true from hs) Bool.false_ne_true
  | int i =>
    obtain ⟨t, rfl⟩ := rx
    cases y with
    | non => cases ry; exact PySem.EqNone.eq_int_none (fin_bl I q (by simp))
    | int j => obtain ⟨t', rfl⟩ := ry; exact eq_int (fin_bl I q dec_int)
    | str j => obtain ⟨t', rfl⟩ := ry; exact PySem.EqMixed.eq_int_str (fin_bl I q (by simp))
    | _ => exact absurd (show false = true from hs) Bool.false_ne_true
  | str i =>
    obtain ⟨t, rfl⟩ := rx
    cases y with
    | non => cases ry; exact PySem.EqNone.eq_str_none (fin_bl I q (by simp))
    | bl j => cases ry; exact PySem.EqMixed.eq_str_bool (fin_bl I q (by simp))
    | int j => obtain ⟨t', rfl⟩ := ry; exact PySem.EqMixed.eq_str_int (fin_bl I q (by simp))
    | str j => obtain ⟨t', rfl⟩ := ry; exact eq_str (fin_bl I q dec_str)
    | _ => exact absurd (show false = true from hs) Bool.false_ne_true
  | byt i =>
    obtain ⟨t, rfl⟩ := rx
    cases y with
    | byt j => obtain ⟨t', rfl⟩ := ry; exact PySem.W.eq_bytes (fin_bl I q dec_byt)
    | _ => exact absurd (show false = true from hs) Bool.false_ne_true
  | _ => cases y <;> exact absurd (show false = true from hs) Bool.false_ne_true
theorem op_ne : OpR X (compareOp .NotEq) rNe := by
  intro pins s σ H x y v u Q I rx ry h
  obtain ⟨hs, q⟩ := h
  cases x with
  | non =>
    cases rx
    cases y with
    | non => cases ry; exact PySem.EqNone.ne_none_none (fin_bl I q (by simp))
    | bl j => cases ry; exact PySem.EqNone.ne_none_bool (fin_bl I q (by simp))
    | int j => obtain ⟨t', rfl⟩ := ry; exact PySem.EqNone.ne_none_int (fin_bl I q (by simp))
    | str j => obtain ⟨t', rfl⟩ := ry; exact PySem.EqNone.ne_none_str (fin_bl I q (by simp))
    | _ => exact absurd (show false = true from hs) Bool.false_ne_true
  | bl i =>
    cases rx
    cases y with
    | non => cases ry; exact PySem.EqNone.ne_bool_none (fin_bl I q (by simp))
    | bl j => cases ry; exact ne_bool (fin_bl I q (congrArg not dec_bl))
    | str j => obtain ⟨t', rfl⟩ := ry; exact PySem.EqMixed.ne_bool_str (fin_bl I q (by simp))
    | _ => exact absurd (show false = true from hs) Bool.false_ne_true
  | int i =>
    obtain ⟨t, rfl⟩ := rx
    cases y with
    | non => cases ry; exact PySem.EqNone.ne_int_none (fin_bl I q (by simp))
    | int j => obtain ⟨t', rfl⟩ := ry; exact ne_int (fin_bl I q (congrArg not dec_int))
    | str j => obtain ⟨t', rfl⟩ := ry; exact PySem.EqMixed.ne_int_str (fin_bl I q (by simp))
    | _ => exact absurd (show false = true from hs) Bool.false_ne_true
  | str i =>
    obtain ⟨t, rfl⟩ := rx
    cases y with
    | non => cases ry; exact PySem.EqNone.ne_str_none (fin_bl I q (by simp))
    | bl j => cases ry; exact PySem.EqMixed.ne_str_bool (fin_bl I q (by simp))
    | int j => obtain ⟨t', rfl⟩ := ry; exact PySem.EqMixed.ne_str_int (fin_bl I q (by simp))
    | str j => obtain ⟨t', rfl⟩ := ry; exact ne_str (fin_bl I q (congrArg not dec_str))
    | _ => exact absurd (show false = true from hs) Bool.false_ne_true
  | byt i =>
    obtain ⟨t, rfl⟩ := rx
    cases y with
    | byt j => obtain ⟨t', rfl⟩ := ry; exact PySem.W.ne_bytes (fin_bl I q (congrArg not dec_byt))
    | _ => exact absurd (show false = true from hs) Bool.false_ne_true
  | _ => cases y <;> exact absurd (show false = true from hs) Bool.false_ne_true
theorem op_lt : OpR X (compareOp .Lt) (rI0 fun i j => .bl (decide (i < j))) := opB0 fun _ _ _ _ _ _ _ q => lt_int q
theorem op_le : OpR X (compareOp .LtE) (rI0 fun i j => .bl (decide (i ≤ j))) := opB0 fun _ _ _ _ _ _ _ q => le_int q
theorem op_gt : OpR X (compareOp .Gt) (rI0 fun i j => .bl (decide (j < i))) := opB0 fun _ _ _ _ _ _ _ q => gt_int q
theorem op_ge : OpR X (compareOp .GtE) (rI0 fun i j => .bl (decide (j ≤ i))) := opB0 fun _ _ _ _ _ _ _ q => ge_int q
theorem nomark (b : Expr) {op : CmpOp} (h : op ≠ .In := by decide) (h2 : op ≠ .NotIn := by decide) : behindInMarks op b = false := by
  have e1 : (op == CmpOp.In) = false := by cases op <;> first | rfl | exact absurd rfl h
  have e2 : (op == CmpOp.NotIn) = false := by cases op <;> first | rfl | exact absurd rfl h2
  cases b <;> simp [behindInMarks, e1, e2]
theorem pe_cmpR {op : CmpOp} {r : R2} (ho : OpR X (compareOp op) r) (ha : PE X a ta) (hb : PE X b tb) (hm : behindInMarks op b = false) : PE X (.Compare a [op] [b] pos) (tOp r ta tb) := by
  intro pins s σ H Q I h
  exact wpAny_Compare1 (binT ha hb I h fun v u s2 x y H2 I2 rx ry q => ho pins s2 σ H2 x y v u Q I2 rx ry q) hm
def tTest (t : TE) : TT := fun σ H Q => t σ H fun x H' => ∃ k, x = .bl k ∧ Q k H'
theorem pt_cmpR {op : CmpOp} {r : R2} (ho : OpR X (compareOp op) r) (ha : PE X a ta) (hb : PE X b tb) (hm : behindInMarks op b = false) : PT X (.Compare a [op] [b] pos) (tTest (tOp r ta tb)) := by
  intro pins s σ H Q I h
  refine wpAny_isTrue_Compare1 (thn (ha pins s σ H _ I h) fun v s1 ⟨x, H1, I1, r1, q1⟩ => thn (hb pins s1 σ H1 _ I1 q1) fun u s2 ⟨y, H2, I2, r2, q2⟩ =>
    thn (ho pins s2 σ H2 x y v u _ I2 r1 r2 q2) fun c s3 ⟨z, H3, I3, r3, k, e, q3⟩ => ?_) hm
  subst e
  cases r3
  exact wpAny_truthy_bool ⟨H3, I3, q3⟩
def tChain (r r' : R2) (ta tb tc : TE) : TE := fun σ H Q => ta σ H fun x H1 => tb σ H1 fun y H2 => r x y H2 fun z H3 => ∃ k, z = .bl k ∧
  (if k = true then tc σ H3 fun w' H4 => r' y w' H4 Q else Q (.bl false) H3)
theorem pt_chain {op op' : CmpOp} {r r' : R2} (ho : OpR X (compareOp op) r) (ho' : OpR X (compareOp op') r') (ha : PE X a ta) (hb : PE X b tb) (hc : PE X c tc)
    (hm : lastMarks [op, op'] [b, c] = false := by with_unfolding_all rfl) : PT X (.Compare a [op, op'] [b, c] pos) (tTest (tChain r r' ta tb tc)) := by
  intro pins s σ H Q I h
  refine isTrue_chain (thn (ha pins s σ H _ I h) fun v s1 ⟨x, H1, I1, r1, q1⟩ => test_link (thn (hb pins s1 σ H1 _ I1 q1) fun u s2 ⟨y, H2, I2, r2, q2⟩ =>
    thn (ho pins s2 σ H2 x y v u _ I2 r1 r2 q2) fun d s3 ⟨z, H3, I3, r3, k, e, q3⟩ => ?_)) hm
  subst e
  cases r3
  refine wpAny_truthy_bool ?_
  cases k with
  | false =>
    obtain ⟨k', e', q'⟩ := q3
    cases e'
    exact ite_ff ⟨H3, I3, q'⟩
  | true =>
    refine ite_tt (test_last (thn (hc pins s3 σ H3 _ I3 q3) fun w' s4 ⟨z', H4, I4, r4, q4⟩ => thn (ho' pins s4 σ H4 y z' u w' _ I4 r2 r4 q4) fun d' s5 ⟨z2, H5, I5, r5, k2, e2, q5⟩ => ?_))
    subst e2
    cases r5
    exact wpAny_truthy_bool ⟨H5, I5, q5⟩
theorem line63 : (sizeLine : Nat) < 2 ^ 63 := by rw [sizeLine_eq]; decide
theorem vals1 {x : V} {us : List Value} (r : Vals [x] us) : ∃ u, us = [u] ∧ RelV x u := by
  cases r with
  | cons r1 r2 => cases r2; exact ⟨_, rfl, r1⟩
theorem vals2 {x y : V} {us : List Value} (r : Vals [x, y] us) : ∃ u w', us = [u, w'] ∧ RelV x u ∧ RelV y w' := by
  cases r with
  | cons r1 r2 =>
    cases r2 with
    | cons r3 r4 => cases r4; exact ⟨_, _, rfl, r1, r3⟩
theorem call_abs : CallR X (.builtin "abs") (fun xs H Q => ∃ i, xs = [.int i] ∧ Q (.int (if i < 0 then -i else i)) H) := by
  intro pins s σ H xs us Q I r h
  obtain ⟨i, rfl, q⟩ := h
  obtain ⟨u, rfl, t, rfl⟩ := vals1 r
  exact call_abs_int fun u tk => ⟨.int (if i < 0 then -i else i), H, I.tok _, ⟨_, rfl⟩, q⟩
theorem call_max2 (hc : X.calm = true) : CallR X (.builtin "max") (fun xs H Q => ∃ i j, xs = [.int i, .int j] ∧ Q (.int (if j > i then j else i)) H) := by
  intro pins s σ H xs us Q I r h
  obtain ⟨i, j, rfl, q⟩ := h
  obtain ⟨u, w', rfl, ⟨t, rfl⟩, ⟨t', rfl⟩⟩ := vals2 r
  refine max_two_ints (I.ok.hd hc) fun h' tk k => ⟨_, H, I.kept k, ?_, q⟩
  by_cases hj : j > i
  · rw [if_pos hj, if_pos hj]; exact ⟨_, rfl⟩
  · rw [if_neg hj, if_neg hj]; exact ⟨_, rfl⟩
end
end L2
namespace L2
open PySem PySem.Spec PyProof.Rows
structure ObjM (h : Heap) (x dx C : Addr) (mA : Str → Option Value) : Prop where
  obj : h.get? x = some (PySem.W.instObj C dx)
  ns : h.Ns1 dx mA
  ne : dx ≠ x
section
variable {prog : Program} {w : World} {A : Around} {E : Value → Shared → Prop} {s : Shared} {K : PySem.W.Frag} {x dx C f : Addr} {mA : Str → Option Value} {name : Str} {v : Value}
end
theorem RelO.some_of {v : V} {o : Option Value} (r : RelO (some v) o) : ∃ u, o = some u ∧ RelV v u := by
  cases o with
  | none => exact (show False from r).elim
  | some u => exact ⟨u, rfl, r⟩
section
variable {P : Program} {w : World} {H H' : Hp} {h h' : Heap} {a C dx : Addr} {fs fs' : List (Str × V)}
end
structure Cls (K : PySem.W.Frag) (C : Addr) : Prop where
  pg : PySem.W.plainGet K C Str.empty = true
  hd : PySem.W.hasDictIn K C = true
  po : PySem.W.plainOver K C = true
  sa : PySem.W.findIn K (.ref C) "__setattr__" = some (some (.builtin "object.__setattr__"))
theorem Cls.get {K : PySem.W.Frag} {C : Addr} (c : Cls K C) (f : Str) : PySem.W.plainGet K C f = true := c.pg
structure Con (K : PySem.W.Frag) (C : Addr) (f : Str) (v : V) (u : Value) : Prop where
  at_ : PySem.W.findIn K (.ref C) f = some (some u)
  rel : RelV v u
  get : PySem.W.specialIn K u "__get__" = some none
  cp : PySem.W.copiedNames.contains f = false
structure Meth (K : PySem.W.Frag) (C : Addr) (m : Str) (f : Addr) : Prop where
  at_ : PySem.W.findIn K (.ref C) m = some (some (.ref f))
  fn : PySem.W.isFn K (.ref f) = true
  kp : PySem.W.keepIn K (.ref f) = true
section
variable {X : Cx} {pins : List (Addr × Obj)} {σ : St} {H : Hp} {s : Shared} {a C dx : Addr} {fs : List (Str × V)} {f : Str} {v : V} {A : Around} {E : Value → Shared → Prop}
theorem Inv.made (I : Inv X pins σ H s) : Inv X pins σ (upd (upd H s.heap.objs.size (.own (s.heap.objs.size + 1))) (s.heap.objs.size + 1) (.ins C s.heap.objs.size []))
    { s with heap := (s.heap.push PySem.W.emptyDict).push (PySem.W.instObj C s.heap.objs.size) } := by
  have e1 : (s.heap.push PySem.W.emptyDict).get? s.heap.objs.size = some PySem.W.emptyDict := Heap.get?_push_size s.heap rfl
  have e2 : ((s.heap.push PySem.W.emptyDict).push (PySem.W.instObj C s.heap.objs.size)).get? (s.heap.objs.size + 1) = some (PySem.W.instObj C s.heap.objs.size) := by
    have := Heap.get?_push_size (s.heap.push PySem.W.emptyDict) (o := PySem.W.instObj C s.heap.objs.size) rfl
    rwa [Heap.size_push] at this
  have e3 : (s.heap.push PySem.W.emptyDict).Ns s.heap.objs.size (fun _ => none) := ⟨PySem.W.emptyDict, #[], _, e1, rfl, (fun e he => absurd he (by simp)), fun _ => rfl⟩
  have I1 := I.laid (a := s.heap.objs.size) (o := .own (s.heap.objs.size + 1)) (h' := s.heap.push PySem.W.emptyDict) (t' := s.toks) (fun b u q => Heap.get?_push_of_some _ q) (Nat.le_refl _) ⟨_, e1⟩
  refine I1.laid (a := s.heap.objs.size + 1) (o := .ins C s.heap.objs.size []) (t' := s.toks) (fun b u q => Heap.get?_push_of_some _ q) (Nat.le_of_eq (Heap.size_push _ _)) ?_
  have ne : s.heap.objs.size ≠ s.heap.objs.size + 1 := Nat.ne_of_lt (Nat.lt_succ_self _)
  refine ⟨by rw [upd_ne ne, upd_same], Nat.zero_le _, ne, e2, fun _ => none, (Heap.Ns1.of_empty e3).at fun o q => Heap.get?_push_of_some _ q, fun _ => True.intro, fun y hy => absurd rfl hy⟩
end
section
variable {X : Cx} {o e value : Expr} {f : Str} {pos pos' tpos : Pos} {ta tv : TE}
end
section
variable {X : Cx} {pins : List (Addr × Obj)} {σ : St} {H : Hp} {s : Shared} {A : Around} {E : Value → Shared → Prop} {Q : Value → Shared → Prop} {c : Value} {b : Bool}
inductive TyOf (K : PySem.W.Frag) (H : Hp) : V → Value → Prop where
  | non : TyOf K H .non (.type "NoneType")
  | bl (x : Bool) : TyOf K H (.bl x) (.type "bool")
  | int (i : Int) : TyOf K H (.int i) (.type "int")
  | str (x : Str) : TyOf K H (.str x) (.type "str")
  | flt (x : UInt64) : TyOf K H (.flt x) (.type "float")
  | lst {a : Addr} {xs : List V} (e : H a = some (.lst xs)) : TyOf K H (.ref a) (.type "list")
  | frz {a : Addr} {o : Obj} {xs : List V} (e : H a = some (.frz o (.lst xs))) : TyOf K H (.ref a) (.type "list")
  | tup {a : Addr} {xs : List V} (e : H a = some (.tup xs)) : TyOf K H (.ref a) (.type "tuple")
  | dK {a : Addr} {kvs : List (Key × V)} (e : H a = some (.dK kvs)) : TyOf K H (.ref a) (.type "dict")
  | dT {a : Addr} {kvs : List (List Key × V)} (e : H a = some (.dT kvs)) : TyOf K H (.ref a) (.type "dict")
  | ins {a C dx : Addr} {fs : List (Str × V)} (e : H a = some (.ins C dx fs)) (cl : Cls K C) (ha : PySem.W.findIn K (.ref C) "__class__" = some (some (.builtin "object.__class__")))
      (hn : PySem.W.specialIn K (.builtin "object.__class__") "__get__" = some (some (.builtin "getset_descriptor.__get__"))) (htk : PySem.W.takesIn K (.builtin "object.__class__") = some true)
      (hm : PySem.W.mroIn K C (.type "object") = some true) : TyOf K H (.ref a) (.ref C)
end
end L2
namespace L2
open PySem PySem.Spec PyProof.Rows
structure Room (k : Nat) (A : Around) : Prop where
  hd : A.handled = none
  dp : A.depth + 3 * k + 5 < recursionLimit
  un : A.units + 16 * k + 200 < cLine
theorem Room.mono {j k : Nat} {A : Around} (r : Room k A) (h : j ≤ k) : Room j A := ⟨r.hd, by have := r.dp; omega, by have := r.un; omega⟩
theorem Room.deeper {k : Nat} {A : Around} (r : Room (k + 1) A) (env : Env) : Room k (A.deeper env) :=
  ⟨r.hd, by have := r.dp; show A.depth + 1 + 3 * k + 5 < _; omega, by have := r.un; show A.units + 3 + 16 * k + 200 < _; omega⟩
theorem Room.in1 {k : Nat} {A : Around} (r : Room (k + 1) A) : Room k A.in1 :=
  ⟨r.hd, by have := r.dp; show A.depth + 3 * k + 5 < _; omega, by have := r.un; show A.units + 1 + 16 * k + 200 < _; omega⟩
theorem Room.depth {k : Nat} {A : Around} (r : Room k A) : A.depth < recursionLimit := by have := r.dp; omega
theorem Room.units {k : Nat} {A : Around} (r : Room k A) : A.units + 64 < cLine := by have := r.un; omega
def tNil : TA := fun _ H Q => Q [] H
def tCons (ta : TE) (tr : TA) : TA := fun σ H Q => ta σ H fun x H1 => tr σ H1 fun xs H2 => Q (x :: xs) H2
section
variable {X : Cx} {e : Expr} {es : List Expr} {te : TE} {t : TA} {pos : Pos}
theorem pa_nil : PA X [] tNil := fun _ _ _ _ H Q I h => Calls.spliced_nil ⟨[], H, I, .nil, h⟩
theorem pa_cons (ha : PE X e te) (hr : PA X es t) (hs : starEach (e :: es) X.env = (false, eval e X.env) :: starEach es X.env := by rfl) : PA X (e :: es) (tCons te t) := by
  intro pos pins s σ H Q I h
  rw [hs]
  show wpAny _ _ (spliced ((false, eval e X.env) :: backTo pos (starEach es X.env))) _ _ s
  refine Calls.spliced_cons (thn (ha pins s σ H _ I h) fun u s1 ⟨x, H1, I1, r1, q1⟩ => ?_)
  exact thn (hr pos pins s1 σ H1 _ I1 q1) fun us s2 ⟨xs, H2, I2, r2, q2⟩ => ⟨x :: xs, H2, I2, .cons r1 r2, q2⟩
def tTup (t : TA) : TE := fun σ H Q => t σ H fun xs H1 => xs.length ≤ sizeLine ∧ ∀ p, H1 p = none → Q (.ref p) (upd H1 p (.tup xs))
def tLst (t : TA) : TE := fun σ H Q => t σ H fun xs H1 => xs.length ≤ sizeLine ∧ ∀ p, H1 p = none → Q (.ref p) (upd H1 p (.lst xs))
theorem pe_tup {x1} (h : PA X es t) : PE X (.Tuple es x1 pos) (tTup t) := by
  intro pins s σ H Q I hq
  refine wpAny_Tuple_spliced (thn (h pos pins s σ H _ I hq) fun us s1 ⟨xs, H1, I1, r, z, q⟩ => ⟨by rw [← r.length]; exact z, ?_⟩)
  have hf : H1 s1.heap.objs.size = none := I1.hok.fresh (Nat.le_refl _)
  refine ⟨.ref s1.heap.objs.size, upd H1 s1.heap.objs.size (.tup xs), I1.laid (t' := s1.toks) (fun b u e => Heap.get?_push_of_some _ e) (Nat.le_refl _) ?_, rfl, q _ hf⟩
  exact ⟨z, us, r, ⟨_, Heap.get?_push_size _ rfl, rfl, _, rfl⟩⟩
theorem pe_lst (h : PA X es t) : PE X (.List es pos) (tLst t) := by
  intro pins s σ H Q I hq
  refine wpAny_List_spliced (thn (h pos pins s σ H _ I hq) fun us s1 ⟨xs, H1, I1, r, z, q⟩ => ⟨by rw [← r.length]; exact z, ?_⟩)
  have hf : H1 s1.heap.objs.size = none := I1.hok.fresh (Nat.le_refl _)
  refine ⟨.ref s1.heap.objs.size, upd H1 s1.heap.objs.size (.lst xs), I1.laid (t' := s1.toks) (fun b u e => Heap.get?_push_of_some _ e) (Nat.le_refl _) ?_, rfl, q _ hf⟩
  exact ⟨z, us, 0, r, Heap.get?_push_size _ rfl⟩
end
abbrev Sp := List V → Hp → VK → XK → Prop
abbrev CXT := List Env → Hp → Shared → XK → Value → Shared → Prop
structure Env0 (P : Program) (w : World) (K : PySem.W.Frag) (mg : Str → Option Value) (base : Heap) (A : Around) (outer : List Env) (s : Shared) (H : Hp) : Prop where
  frames : A.frames = some outer
  mod : Mod K mg base
  bs : ∀ b o, base.get? b = some o → s.heap.get? b = some o ∧ H b = none
  bsz : base.objs.size ≤ s.heap.objs.size
  funs : s.heap.FunFrames base outer
  frf : ∀ b ∈ frs outer, H b = none
  hok : HOk P w H s.heap
  bare : AllBare s.gens
def CE (outer : List Env) (P : Program) (w : World) (H : Hp) (s : Shared) (Q : VK) (u : Value) (s' : Shared) : Prop :=
  ∃ v H', s'.os = s.os ∧ AllBare s'.gens ∧ Un (frs outer) [] H H' s.heap s'.heap ∧ HOk P w H' s'.heap ∧ RelV v u ∧ Q v H'
def CR (CX : CXT) (outer : List Env) (P : Program) (w : World) (H : Hp) (s : Shared) (Q : VK) (E : XK) (r : Result) (s' : Shared) : Prop :=
  match r with
  | .ok (.ret u) => CE outer P w H s Q u s'
  | .ok _ => False
  | .error e => CX outer H s E e s'
structure FnOk (P : Program) (w : World) (K : PySem.W.Frag) (mg : Str → Option Value) (base : Heap) (CX : CXT) (k : Nat) (f : Addr) (fd : FuncData) (ps : List Str) (sp : Sp) : Prop where
  len : ∀ vs H Q E, sp vs H Q E → vs.length = ps.length
  run : ∀ (A : Around) (outer : List Env) (s : Shared) (H : Hp) (args : Args) (us : List Value) (vs : List V) (Q : VK) (E : XK), Room k A → Env0 P w K mg base A outer s H → BindsTo s fd args (ps.zip us) → Vals vs us → sp vs H Q E →
    codeAny (model P w) A (.call (.ref f) args) (CR CX outer P w H s Q E) s
theorem FnOk.mono {P : Program} {w : World} {K : PySem.W.Frag} {mg : Str → Option Value} {base : Heap} {CX : CXT} {j k : Nat} {f : Addr} {fd : FuncData} {ps : List Str} {sp : Sp} (F : FnOk P w K mg base CX j f fd ps sp) (h : j ≤ k) :
    FnOk P w K mg base CX k f fd ps sp := ⟨F.len, fun A outer s H args us vs Q E hr => F.run A outer s H args us vs Q E (hr.mono h)⟩
theorem FnOk.imp {P : Program} {w : World} {K : PySem.W.Frag} {mg : Str → Option Value} {base : Heap} {CX : CXT} {k : Nat} {f : Addr} {fd : FuncData} {ps : List Str} {sp sp' : Sp} (F : FnOk P w K mg base CX k f fd ps sp)
    (h : ∀ vs H Q E, sp' vs H Q E → sp vs H Q E) : FnOk P w K mg base CX k f fd ps sp' :=
  ⟨fun vs H Q E q => F.len vs H Q E (h _ _ _ _ q), fun A outer s H args us vs Q E hr he hb hv hs => F.run A outer s H args us vs Q E hr he hb hv (h _ _ _ _ hs)⟩
theorem Env0.in1 {P : Program} {w : World} {K : PySem.W.Frag} {mg : Str → Option Value} {base : Heap} {A : Around} {outer : List Env} {s : Shared} {H : Hp} (e : Env0 P w K mg base A outer s H) :
    Env0 P w K mg base A.in1 outer s H := ⟨e.frames, e.mod, e.bs, e.bsz, e.funs, e.frf, e.hok, e.bare⟩
section
variable {X : Cx} {pins : List (Addr × Obj)} {σ : St} {H : Hp} {s s' : Shared}
theorem Inv.env0 (I : Inv X pins σ H s) : Env0 X.prog X.w X.K X.mg X.base X.A X.stack s H :=
  ⟨I.ok.frames, I.ok.mod, I.bs, Nat.le_trans I.ok.bsz I.sz, I.stack, I.stkFree, I.hok, I.bare⟩
theorem Inv.after {Q : VK} {u : Value} (I : Inv X pins σ H s) (h : CE X.stack X.prog X.w H s Q u s') : EP X pins σ Q u s' := by
  obtain ⟨v, H', os, bare, un, hok, r, q⟩ := h
  obtain ⟨hh, g, d, t, os'⟩ := s'
  obtain rfl : os' = s.os := os
  exact ⟨v, H', I.call (h' := hh) (g' := g) (d' := d) (t' := t) (ch := []) un hok bare (fun b z => absurd z (by simp)), r, q⟩
end
def tCall (sp : Sp) (dvs : List V) (E : XK) (t : TA) : TE := fun σ H Q => t σ H fun vs H1 => sp (vs ++ dvs) H1 Q E
def Binds (K : PySem.W.Frag) (fd : FuncData) (ps : List Str) (ds : List Value) : Prop :=
  ∀ (s : Shared) (us : List Value), K.In s.heap → (us ++ ds).length = ps.length → BindsTo s fd ⟨us, []⟩ (ps.zip (us ++ ds))
theorem Binds.all {K : PySem.W.Frag} {fd : FuncData} {ps : List Str} (h : ∀ us : List Value, us.length = ps.length → bindArgs fd ⟨us, []⟩ = pure (ps.zip us)) : Binds K fd ps [] := fun s us _ hl => by
  rw [List.append_nil] at hl ⊢
  exact .of_eq (h us hl)
def Passes (CX : CXT) (X : Cx) (E : XK) : Prop := ∀ (pins : List (Addr × Obj)) (σ : St) (H : Hp) (s : Shared) (e : Value) (s' : Shared), Inv X pins σ H s → CX X.stack H s E e s' → X.xe e s'
section
variable {X : Cx} {CX : CXT} {k : Nat} {f C : Addr} {fd : FuncData} {ps : List Str} {sp : Sp} {dvs : List V} {ds : List Value} {E : XK} {x m : Str} {p pos apos : Pos} {e o : Expr} {es : List Expr} {ta : TE} {t : TA}
theorem run_fn {pins : List (Addr × Obj)} {σ : St} {H : Hp} {s : Shared} {Q : VK} {us : List Value} {vs : List V} (F : FnOk X.prog X.w X.K X.mg X.base CX k f fd ps sp) (hr : Room k X.A) (hb : Binds X.K fd ps ds) (hd : Vals dvs ds) (hx : Passes CX X E)
    (I : Inv X pins σ H s) (r : Vals vs us) (h : sp (vs ++ dvs) H Q E) : wpAny (model X.prog X.w) X.A (call (.ref f) us) (EP X pins σ Q) X.xe s := by
  have r2 : Vals (vs ++ dvs) (us ++ ds) := r.append hd
  have hl : (us ++ ds).length = ps.length := by rw [← r2.length]; exact F.len _ _ _ _ h
  refine wpAny_call (codeAny_mono (F.run X.A X.stack s H ⟨us, []⟩ (us ++ ds) (vs ++ dvs) Q E hr I.env0 (hb s us I.kIn hl) r2 h) fun r s' hq => ?_)
  cases r with
  | error e => exact hx pins σ H s e s' I hq
  | ok fl =>
    cases fl with
    | ret u => exact I.after hq
    | next => exact False.elim hq
    | brk => exact False.elim hq
    | cont => exact False.elim hq
theorem pe_call (F : FnOk X.prog X.w X.K X.mg X.base CX k f fd ps sp) (hr : Room k X.A) (hg : Gl X x) (hm : X.mg x = some (.ref f)) (hk : PySem.W.keepIn X.K (.ref f) = true) (hb : Binds X.K fd ps ds) (hd : Vals dvs ds) (hx : Passes CX X E)
    (ha : PA X (e :: es) t) (hdb : (x == ("__debug__" : Str)) = false := by decide) (he : starEach (e :: es) X.env = (false, eval e X.env) :: starEach es X.env := by rfl) (hpl : (backTo pos (starEach es X.env)).any (·.1) = false := by rfl) :
    PE X (.Call (.Name x p) (e :: es) [] pos) (tCall sp dvs E t) := by
  intro pins s σ H Q I h
  refine wpAny_Call_Name_kw (ld_glob I hg hm ?_ hdb)
  refine PySem.W.callWith_K (h₀ := X.base) I.ok.mod.kin hk (thn (ha pos pins s σ H _ I h) fun us s1 ⟨vs, H1, I1, r, q⟩ => ⟨I1.kIn, ?_⟩) he hpl
  exact run_fn F hr hb hd hx I1 r q
structure Mk (K : PySem.W.Frag) (C f : Addr) : Prop where
  makes : PySem.W.makesIn K C = true
  init : PySem.W.findIn K (.ref C) "__init__" = some (some (.ref f))
  fn : PySem.W.isFn K (.ref f) = true
  kp : PySem.W.keepIn K (.ref C) = true
end
section
variable {X : Cx} {CX : CXT} {k : Nat} {f C : Addr} {fd : FuncData} {ps ks : List Str} {sp : Sp} {E : XK} {x m : Str} {p pos apos kpos : Pos} {e o : Expr} {es : List Expr} {kws : List Keyword} {te ta : TE} {t tk : TA} {nm : Option Str}
structure KBinds (K : PySem.W.Frag) (fd : FuncData) (ps ks : List Str) (g : List Value → List Value → List Value) (gV : List V → List V → List V) : Prop where
  to : ∀ (s : Shared) (us ws : List Value), K.In s.heap → (g us ws).length = ps.length → BindsTo s fd ⟨us, ks.zip ws⟩ (ps.zip (g us ws))
  rel : ∀ {vs : List V} {us : List Value} {zs : List V} {ws : List Value}, Vals vs us → Vals zs ws → Vals (gV vs zs) (g us ws)
variable {g : List Value → List Value → List Value} {gV : List V → List V → List V}
end
structure FnScope (N P : List Str) (sc : Scope) : Prop where
  kind : sc.kind = .function
  co : sc.isCoroutine = false
  gen : sc.isGenerator = false
  nd : N.Nodup
  pre : N.take P.length = P
  par : ∀ x ∈ P, sc.names.lookup x = some .local ∨ sc.names.lookup x = some .cell
  nofree : ∀ y ∈ sc.names, y.2 ≠ .free
theorem bindL_out {kindOf : Str → Option NameKind} {x : Str} : ∀ {binds : List (Str × Value)} {m : Str → Option Value}, (∀ v, (x, v) ∉ binds) → bindL kindOf binds m x = m x
  | [], _, _ => rfl
  | (n, v) :: r, m, h => by
    unfold bindL
    rw [bindL_out fun w hw => h w (List.mem_cons_of_mem _ hw)]
    split
    · have : x ≠ n := by rintro rfl; exact h v List.mem_cons_self
      simp [this]
    · rfl
theorem bindC_out {kindOf : Str → Option NameKind} {x : Str} : ∀ {binds : List (Str × Value)} {m : Str → Option Value}, (∀ v, (x, v) ∉ binds) → bindC kindOf binds m x = m x
  | [], _, _ => rfl
  | (n, v) :: r, m, h => by
    unfold bindC
    rw [bindC_out fun w hw => h w (List.mem_cons_of_mem _ hw)]
    split
    · rfl
    · have : x ≠ n := by rintro rfl; exact h v List.mem_cons_self
      simp [this]
theorem bindL_get {kindOf : Str → Option NameKind} {x : Str} {v : Value} : ∀ {P : List Str} {vs : List Value} {i : Nat} {m : Str → Option Value}, P.Nodup → P[i]? = some x → vs[i]? = some v → kindOf x = some .local →
    bindL kindOf (P.zip vs) m x = some v
  | [], _, _, _, _, h, _, _ => by simp at h
  | _ :: _, [], _, _, _, _, h, _ => by simp at h
  | p :: P, w :: vs, 0, m, nd, h1, h2, hk => by
    simp at h1 h2; subst h1; subst h2
    show bindL kindOf ((p, w) :: P.zip vs) m p = _
    unfold bindL
    rw [bindL_out fun v hv => (List.nodup_cons.mp nd).1 (List.of_mem_zip hv).1, if_pos hk]
    simp
  | p :: P, w :: vs, i + 1, m, nd, h1, h2, hk => by
    show bindL kindOf ((p, w) :: P.zip vs) m x = _
    unfold bindL
    exact bindL_get (i := i) (List.nodup_cons.mp nd).2 (by simpa using h1) (by simpa using h2) hk
theorem bindC_get {kindOf : Str → Option NameKind} {x : Str} {v : Value} : ∀ {P : List Str} {vs : List Value} {i : Nat} {m : Str → Option Value}, P.Nodup → P[i]? = some x → vs[i]? = some v → kindOf x ≠ some .local →
    bindC kindOf (P.zip vs) m x = some v
  | [], _, _, _, _, h, _, _ => by simp at h
  | _ :: _, [], _, _, _, _, h, _ => by simp at h
  | p :: P, w :: vs, 0, m, nd, h1, h2, hk => by
    simp at h1 h2; subst h1; subst h2
    show bindC kindOf ((p, w) :: P.zip vs) m p = _
    unfold bindC
    rw [bindC_out fun v hv => (List.nodup_cons.mp nd).1 (List.of_mem_zip hv).1, if_neg hk]
    simp
  | p :: P, w :: vs, i + 1, m, nd, h1, h2, hk => by
    show bindC kindOf ((p, w) :: P.zip vs) m x = _
    unfold bindC
    exact bindC_get (i := i) (List.nodup_cons.mp nd).2 (by simpa using h1) (by simpa using h2) hk
def start (N : List Str) (vs : List V) : St := vs.map some ++ List.replicate (N.length - vs.length) none
def cxOf (CX : CXT) (P : Program) (w : World) (K : PySem.W.Frag) (mg : Str → Option Value) (base : Heap) (N : List Str) (qual : Str) (scope : Scope) (f : Addr) (cd : Value) (A : Around) (outer : List Env) (s : Shared) (H : Hp) (E : XK) : Cx where
  prog := P
  w := w
  K := K
  mg := mg
  base := base
  A := A.deeper (envOfC qual scope s.heap.objs.size f cd)
  N := N
  s₀ := s
  H₀ := H
  env := envOfC qual scope s.heap.objs.size f cd
  outer := outer
  stack := envOfC qual scope s.heap.objs.size f cd :: outer
  ex := []
  calm := true
  fn := fun _ => true
  pn := []
  xe := fun e s' => wpAny (model P w) (A.deeper (envOfC qual scope s.heap.objs.size f cd)) (leaving (envOfC qual scope s.heap.objs.size f cd) e) (fun _ s'' => CX outer H s E e s'') (fun e' s'' => CX outer H s E e' s'') s'
theorem cell_has {sc : Scope} {n : Nat} {x : Str} (h : sc.names.lookup x = some .cell) : ∃ c, (cellsFrom n sc.names []).lookup x = some c := by
  have q := PySem.W.cellsFrom_some sc.names n [] (.inl h)
  exact Option.isSome_iff_exists.mp q
theorem inv_start {CX : CXT} {P : Program} {w : World} {K : PySem.W.Frag} {mg : Str → Option Value} {base : Heap} {N ps : List Str} {qual : Str} {scope : Scope} {f : Addr} {cd : Value} {A : Around} {outer : List Env} {s s1 : Shared} {H : Hp} {E : XK} {us : List Value} {vs : List V}
    (S : FnScope N ps scope) (hd : A.handled = none) (e0 : Env0 P w K mg base A outer s H) (hl : vs.length = ps.length) (r : Vals vs us)
    (x : InCallC s s.heap.objs.size (bindL (envOfC qual scope s.heap.objs.size f cd).kindOf (ps.zip us) fun _ => none) (cellsFrom (s.heap.objs.size + 1) scope.names []) (bindC (envOfC qual scope s.heap.objs.size f cd).kindOf (ps.zip us) fun _ => none) s1) :
    Inv (cxOf CX P w K mg base N qual scope f cd A outer s H E) [] (start N vs) H s1 := by
  have hpl : ps.length ≤ N.length := by have := congrArg List.length S.pre; rw [List.length_take] at this; omega
  obtain ⟨h1, tk, rfl, hk⟩ := x.done
  have noA : ∀ b : Addr, b ∉ (cxOf CX P w K mg base N qual scope f cd A outer s H E).ex := fun b z => absurd (show b ∈ ([] : List Addr) from z) (by simp)
  refine ⟨⟨e0.mod, S.kind, rfl, rfl, Nat.le_refl _, fun y z c h1 h2 => ?_, fun y hy => ?_, fun y c _ h => ?_, fun _ => hd, Around.frames_deeper e0.frames, .inr ⟨rfl, rfl⟩, fun b z => absurd z (noA b), e0.bs, e0.bsz, fun b _ _ => noA b, fun b z => absurd z (noA b), e0.funs, e0.frf⟩,
    rfl, e0.bare, Un.kept hk, ⟨_, x.toInCall.ns, fun i y v h1 h2 h3 => ?_⟩, fun y c h => ⟨_, x.cell y c h⟩, e0.hok.fresh (Nat.le_refl _), fun y c h => ?_, fun p hp => absurd (show p ∈ ([] : List (Addr × Obj)) from hp) (by simp), e0.hok.kept hk, ?_⟩
  · exact name_of_addr x.apart (PySem.mem_of_lookup h1) (PySem.mem_of_lookup h2)
  · have hy : scope.names.lookup y = some .cell ∨ scope.names.lookup y = some .free := hy
    rcases hy with hy | hy
    · exact cell_has hy
    · exact absurd rfl (S.nofree _ (PySem.mem_of_lookup hy))
  · exact Nat.le_of_lt (x.above y c (PySem.mem_of_lookup h))
  · have hi : i < vs.length := by
      unfold start at h2
      by_cases hi : i < vs.length
      · exact hi
      · rw [List.getElem?_append_right (by simpa using hi)] at h2
        rw [List.getElem?_replicate] at h2
        split at h2 <;> cases h2
    have ha : vs[i]? = some v := by
      unfold start at h2
      rw [List.getElem?_append_left (by simpa using hi), List.getElem?_map] at h2
      cases e : vs[i]? with
      | none => rw [e] at h2; cases h2
      | some a => rw [e] at h2; cases h2; rfl
    obtain ⟨u, hu, rv⟩ := r.get ha
    have hp : ps[i]? = some y := by
      rw [← S.pre, List.getElem?_take_of_lt (by omega)]; exact h1
    have ndP : ps.Nodup := by rw [← S.pre]; exact S.nd.sublist (List.take_sublist _ _)
    refine ⟨u, rv, ?_⟩
    rcases S.par y (List.mem_of_getElem? hp) with k | k
    · exact .inl ⟨k, bindL_get ndP hp hu k⟩
    · obtain ⟨c, e⟩ := cell_has (n := s.heap.objs.size + 1) k
      refine .inr ⟨.inl k, c, e, ?_⟩
      have q := x.cell y c e
      rw [bindC_get ndP hp hu (by show scope.names.lookup y ≠ _; rw [k]; decide)] at q
      exact q
  · exact e0.hok.fresh (Nat.le_of_lt (x.above y c (PySem.mem_of_lookup h)))
  · unfold start
    show _ = N.length
    rw [List.length_append, List.length_map, List.length_replicate]
    omega
theorem fn_of {CX : CXT} {P : Program} {w : World} {K : PySem.W.Frag} {mg : Str → Option Value} {base : Heap} {k : Nat} {f : Addr} {name qual : Str} {params : Arguments} {body : List Stmt} {scope : Scope} {dV kV doc pm cdv ct oc : Value} {an od : Option Addr}
    {osl : Array (Option Value)} {N ps : List Str} {sp : Sp} (lk : K.lookup f = some ⟨oc, od, .func (PySem.W.fnOf name qual params body scope dV kV doc pm an cdv ct), osl⟩) (hcd : PySem.W.codeIn K cdv qual = true) (S : FnScope N ps scope)
    (len : ∀ vs H Q E, sp vs H Q E → vs.length = ps.length)
    (hbody : ∀ (A : Around) (outer : List Env) (s : Shared) (H : Hp) (vs : List V) (Q : VK) (E : XK), Room k (A.deeper (envOfC qual scope s.heap.objs.size f cdv)) → sp vs H Q E →
      ∃ t, PSs (cxOf CX P w K mg base N qual scope f cdv A outer s H E) body t ∧ t { nx := fun _ H' => Q .non H', rt := Q } (start N vs) H) :
    FnOk P w K mg base CX (k + 1) f (PySem.W.fnOf name qual params body scope dV kV doc pm an cdv ct) ps sp := by
  refine ⟨len, fun A outer s H args us vs Q E hr e0 hb r hsp => ?_⟩
  have hl := len _ _ _ _ hsp
  have KX : K.In s.heap := e0.mod.kin.keeps fun b o e => (e0.bs b o e).1
  have lim : s.heap.NoLimit := e0.mod.nolimit.keeps fun b o e => (e0.bs b o e).1
  have hkind : ∀ y ∈ ps.zip us, scope.names.lookup y.1 = some .local ∨ (scope.names.lookup y.1 = some .cell ∧ ((cellsFrom (s.heap.objs.size + 1) scope.names []).lookup y.1).isSome = true) := fun ⟨n, v⟩ hy => by
    rcases S.par n (List.of_mem_zip hy).1 with q | q
    · exact .inl q
    · exact .inr ⟨q, PySem.W.cellsFrom_some _ _ _ (.inl q)⟩
  refine codeAny_call_function hr.depth (KX _ _ lk) rfl S.co S.gen rfl (PySem.W.codeRec_of KX hcd) (hb _ _ _ _ ?_)
  refine wpAny_newFunctionEnv_cells S.kind hkind fun env he s1 x => ?_
  subst he
  refine ⟨lim.keeps x.toInCall.keep, codeAny_func ?_⟩
  obtain ⟨t, ht, hq⟩ := hbody A outer s H vs Q E (hr.deeper _) hsp
  have I : Inv (cxOf CX P w K mg base N qual scope f cdv A outer s H E) [] (start N vs) H s1 := inv_start S hr.hd e0 hl r x
  refine wpAny_mono (ht [] s1 (start N vs) H _ I hq) (fun fl s' hs => ?_) fun e s' hs => hs
  have fin : ∀ {σ' : St} {H' : Hp} {v : V} {u : Value}, Inv (cxOf CX P w K mg base N qual scope f cdv A outer s H E) [] σ' H' s' → RelV v u → Q v H' → CE outer P w H s Q u s' :=
    fun {σ' H' v u} J rv q => ⟨v, H', J.os, J.bare, J.base, J.hok, rv, q⟩
  cases fl with
  | ret u =>
    obtain ⟨v, σ', H', J, rv, q⟩ := hs
    exact fin J rv q
  | next =>
    obtain ⟨σ', H', J, q⟩ := hs
    exact fin (v := V.non) (u := Value.none) J rfl q
  | brk =>
    obtain ⟨_, _, _, q⟩ := hs
    exact False.elim q
  | cont =>
    obtain ⟨_, _, _, q⟩ := hs
    exact False.elim q
end L2
namespace L2
open PySem PySem.Spec PyProof.Rows
section
variable {X : Cx} {x : Str} {p pos : Pos} {e : Expr} {es : List Expr} {t : TA} {id T : String} {r : List V → Hp → VK → Prop}
def tCB (r : List V → Hp → VK → Prop) (t : TA) : TE := fun σ H Q => t σ H fun vs H1 => r vs H1 Q
theorem pe_callB (hc : CallR X (.builtin id) r) (hg : Gl X x) (hm : X.mg x = none) (hv : bootBuiltins x = some (.builtin id)) (ha : PA X (e :: es) t) (hn : x ≠ "__name__" := by decide) (hdb : (x == ("__debug__" : Str)) = false := by decide)
    (he : starEach (e :: es) X.env = (false, eval e X.env) :: starEach es X.env := by rfl) (hpl : (backTo pos (starEach es X.env)).any (·.1) = false := by rfl) : PE X (.Call (.Name x p) (e :: es) [] pos) (tCB r t) := by
  intro pins s σ H Q I h
  refine wpAny_Call_Name_kw (ld_blt I hg hm hv ?_ hn hdb)
  exact PyProof.Rows.callWith_builtin1 (thn (ha pos pins s σ H _ I h) fun us s1 ⟨vs, H1, I1, r1, q1⟩ => hc pins s1 σ H1 vs us Q I1 r1 q1) he hpl
theorem pe_callTy (hc : CallR X (.type T) r) (hg : Gl X x) (hm : X.mg x = none) (hv : bootBuiltins x = some (.type T)) (ha : PA X (e :: es) t) (hn : x ≠ "__name__" := by decide) (hdb : (x == ("__debug__" : Str)) = false := by decide)
    (he : starEach (e :: es) X.env = (false, eval e X.env) :: starEach es X.env := by rfl) (hpl : (backTo pos (starEach es X.env)).any (·.1) = false := by rfl) : PE X (.Call (.Name x p) (e :: es) [] pos) (tCB r t) := by
  intro pins s σ H Q I h
  refine wpAny_Call_Name_kw (ld_blt I hg hm hv ?_ hn hdb)
  exact PyProof.Rows.callWith_type1 (thn (ha pos pins s σ H _ I h) fun us s1 ⟨vs, H1, I1, r1, q1⟩ => hc pins s1 σ H1 vs us Q I1 r1 q1) he hpl
end
end L2
namespace L2
open PySem PySem.Spec PyProof.Rows
section
variable {κ : Type} [DecidableEq κ]
def valV (kvs : List (κ × V)) (k : κ) : Option V := (kvs.find? fun kv => decide (kv.1 = k)).map (·.2)
def putK (kvs : List (κ × V)) (k : κ) (v : V) : List (κ × V) :=
  if (kvs.any fun kv => decide (kv.1 = k)) = true then kvs.map (fun kv => if kv.1 = k then (kv.1, v) else kv) else kvs ++ [(k, v)]
def dropK (kvs : List (κ × V)) (k : κ) : List (κ × V) := kvs.filter fun kv => decide (kv.1 ≠ k)
theorem valV_pos {p : κ × V} {r : List (κ × V)} {k : κ} (e : p.1 = k) : valV (p :: r) k = some p.2 := by simp [valV, List.find?_cons, e]
theorem valV_neg {p : κ × V} {r : List (κ × V)} {k : κ} (e : ¬ p.1 = k) : valV (p :: r) k = valV r k := by simp [valV, List.find?_cons, e]
theorem valV_any (k : κ) : ∀ kvs : List (κ × V), (kvs.any fun kv => decide (kv.1 = k)) = (valV kvs k).isSome
  | [] => rfl
  | p :: r => by
    rw [List.any_cons]
    by_cases e : p.1 = k
    · simp only [valV_pos e, decide_eq_true e, Bool.true_or, Option.isSome_some]
    · rw [valV_neg e, decide_eq_false e, Bool.false_or]; exact valV_any k r
theorem length_putK (kvs : List (κ × V)) (k : κ) (v : V) : (putK kvs k v).length ≤ kvs.length + 1 := by
  unfold putK
  split
  · rw [List.length_map]; omega
  · rw [List.length_append, List.length_cons, List.length_nil]; omega
theorem RelO.isSome_eq {o : Option V} {u : Option Value} (r : RelO o u) : o.isSome = u.isSome := by
  cases o with
  | none => cases u with
    | none => rfl
    | some _ => exact (show False from r).elim
  | some _ => cases u with
    | none => exact (show False from r).elim
    | some _ => rfl
theorem RelO.getD {o : Option V} {u : Option Value} {d : V} {d' : Value} (r : RelO o u) (rd : RelV d d') : RelV (o.getD d) (u.getD d') := by
  cases o with
  | none => cases u with
    | none => exact rd
    | some _ => exact (show False from r).elim
  | some _ => cases u with
    | none => exact (show False from r).elim
    | some _ => exact r
theorem KV.val {kvs : List (κ × V)} {vs : List (κ × Value)} (r : KV kvs vs) (k : κ) : RelO (valV kvs k) (valueAt vs k) := by
  unfold KV at r
  induction r with
  | nil => exact True.intro
  | @cons p q ps qs h t ih =>
    obtain ⟨h1, h2⟩ := h
    by_cases e : p.1 = k
    · have e' : q.1 = k := h1.symm.trans e
      have b : valueAt (q :: qs) k = some q.2 := by simp [valueAt, List.find?_cons, e']
      rw [valV_pos e, b]; exact h2
    · have e' : ¬ q.1 = k := fun z => e (h1.trans z)
      have b : valueAt (q :: qs) k = valueAt qs k := by simp [valueAt, List.find?_cons, e']
      rw [valV_neg e, b]; exact ih
theorem KV.any {kvs : List (κ × V)} {vs : List (κ × Value)} (r : KV kvs vs) (k : κ) : (kvs.any fun kv => decide (kv.1 = k)) = vs.any fun kv => decide (kv.1 = k) := by
  unfold KV at r
  induction r with
  | nil => rfl
  | cons h t ih => rw [List.any_cons, List.any_cons, ih, h.1]
theorem KV.repl {kvs : List (κ × V)} {vs : List (κ × Value)} (r : KV kvs vs) (k : κ) {y : V} {u : Value} (ry : RelV y u) :
    KV (kvs.map fun kv => if kv.1 = k then (kv.1, y) else kv) (vs.map fun kv => if kv.1 = k then (kv.1, u) else kv) := by
  unfold KV at r ⊢
  induction r with
  | nil => exact .nil
  | @cons p q ps qs h t ih =>
    rw [List.map_cons, List.map_cons]
    refine .cons ?_ ih
    obtain ⟨h1, h2⟩ := h
    by_cases e : p.1 = k
    · rw [if_pos e, if_pos (h1.symm.trans e)]; exact ⟨h1, ry⟩
    · rw [if_neg e, if_neg (fun z => e (h1.trans z))]; exact ⟨h1, h2⟩
theorem KV.put {kvs : List (κ × V)} {vs : List (κ × Value)} (r : KV kvs vs) (k : κ) {y : V} {u : Value} (ry : RelV y u) : KV (putK kvs k y) (stored vs k u) := by
  unfold putK stored
  rw [r.any k]
  by_cases e : (vs.any fun kv => decide (kv.1 = k)) = true
  · rw [if_pos e, if_pos e]; exact r.repl k ry
  · rw [if_neg e, if_neg e]; exact Paired.snoc r ⟨rfl, ry⟩
theorem KV.drop {kvs : List (κ × V)} {vs : List (κ × Value)} (r : KV kvs vs) (k : κ) : KV (dropK kvs k) (without vs k) := by
  unfold KV at r ⊢
  unfold dropK without
  induction r with
  | nil => exact .nil
  | @cons p q ps qs h t ih =>
    obtain ⟨h1, h2⟩ := h
    rw [List.filter_cons, List.filter_cons]
    by_cases e : p.1 = k
    · have a : ¬ decide (p.1 ≠ k) = true := by simp [e]
      have b : ¬ decide (q.1 ≠ k) = true := by simp [h1.symm.trans e]
      rw [if_neg a, if_neg b]; exact ih
    · have e' : ¬ q.1 = k := fun z => e (h1.trans z)
      have a : decide (p.1 ≠ k) = true := by simp [e]
      have b : decide (q.1 ≠ k) = true := by simp [e']
      rw [if_pos a, if_pos b]; exact .cons ⟨h1, h2⟩ ih
theorem KV.length {kvs : List (κ × V)} {vs : List (κ × Value)} (r : KV kvs vs) : kvs.length = vs.length := Paired.length r
end
theorem kV_is {P : Program} {w : World} {k : Key} {u : Value} (r : RelV (kV k) u) : (mixKind P w).is k u = true := by
  cases k with
  | inl i => obtain ⟨t, e⟩ := (show ∃ t, u = Value.int i t from r); subst e; exact mixKind_int P w i t
  | inr x => obtain ⟨t, e⟩ := (show ∃ t, u = Value.str x t from r); subst e; exact mixKind_str P w x t
theorem items_are {P : Program} {w : World} : ∀ {ks : List Key} {us : List Value}, Vals (ks.map kV) us → ItemsAre (mixKind P w) ks us
  | [], _, r => by rw [List.map_nil] at r; cases r; exact .nil
  | k :: ks, _, r => by
    rw [List.map_cons] at r
    cases r with
    | cons h t => exact .cons (kV_is h) (items_are t)
abbrev KT (H : Hp) : List (List Key × V) → List (List Key × Addr × Value) → Prop := Paired fun p q => p.1 = q.1 ∧ H q.2.1 = some (.tup (p.1.map kV)) ∧ RelV p.2 q.2.2
theorem KT.val {H : Hp} {kvs : List (List Key × V)} {xs : List (List Key × Addr × Value)} (r : KT H kvs xs) (k : List Key) : RelO (valV kvs k) ((atKey xs k).map (·.2)) := by
  induction r with
  | nil => exact True.intro
  | @cons p q ps qs h t ih =>
    obtain ⟨h1, _, h2⟩ := h
    by_cases e : p.1 = k
    · have e' : q.1 = k := h1.symm.trans e
      have b : atKey (q :: qs) k = some q.2 := by simp [atKey, List.find?_cons, e']
      rw [valV_pos e, b]; exact h2
    · have e' : ¬ q.1 = k := fun z => e (h1.trans z)
      have b : atKey (q :: qs) k = atKey qs k := by simp [atKey, List.find?_cons, e']
      rw [valV_neg e, b]; exact ih
theorem KT.repl {H : Hp} {kvs : List (List Key × V)} {xs : List (List Key × Addr × Value)} (r : KT H kvs xs) (k : List Key) {y : V} {u : Value} (ry : RelV y u) :
    KT H (kvs.map fun kv => if kv.1 = k then (kv.1, y) else kv) (xs.map (putAt k u)) := by
  induction r with
  | nil => exact .nil
  | @cons p q ps qs h t ih =>
    rw [List.map_cons, List.map_cons]
    refine .cons ?_ ih
    obtain ⟨h1, h2, h3⟩ := h
    unfold putAt
    by_cases e : p.1 = k
    · rw [if_pos e, if_pos (h1.symm.trans e)]; exact ⟨h1, h2, ry⟩
    · rw [if_neg e, if_neg (fun z => e (h1.trans z))]; exact ⟨h1, h2, h3⟩
theorem KT.put {H : Hp} {kvs : List (List Key × V)} {xs : List (List Key × Addr × Value)} (r : KT H kvs xs) (k : List Key) {b : Addr} {y : V} {u : Value} (hb : H b = some (.tup (k.map kV))) (ry : RelV y u) :
    KT H (putK kvs k y) (storedH xs k b u) := by
  have e : (kvs.any fun kv => decide (kv.1 = k)) = (atKey xs k).isSome := by
    rw [valV_any, (r.val k).isSome_eq, Option.isSome_map]
  unfold putK storedH
  rw [e]
  by_cases q : (atKey xs k).isSome = true
  · rw [if_pos q, if_pos q]; exact r.repl k ry
  · rw [if_neg q, if_neg q]; exact Paired.snoc r ⟨rfl, hb, ry⟩
theorem KT.keeps {H H' : Hp} {kvs : List (List Key × V)} {xs : List (List Key × Addr × Value)} (r : KT H kvs xs) (ht : ∀ b ys, H b = some (.tup ys) → H' b = some (.tup ys)) : KT H' kvs xs :=
  Paired.mapP r fun _ _ z => ⟨z.1, ht _ _ z.2.1, z.2.2⟩
section
variable {P : Program} {w : World} {H : Hp} {h : Heap} {a : Addr}
theorem rd_of {u : HO} (ok : HOk P w H h) (e : Rd H a u) : ObjOk P w H h a u := e.ok ok
theorem dk_rd {kvs : List (Key × V)} (ok : HOk P w H h) (e : Rd H a (.dK kvs)) : kvs.length ≤ sizeLine ∧ (a == sysModules) = false ∧ ∃ vs, KV kvs vs ∧ h.DictOf (mixKind P w) a vs :=
  show ObjOk P w H h a (.dK kvs) from rd_of ok e
theorem dk_of {kvs : List (Key × V)} (ok : HOk P w H h) (e : H a = some (.dK kvs)) : kvs.length ≤ sizeLine ∧ (a == sysModules) = false ∧ ∃ vs, KV kvs vs ∧ h.DictOf (mixKind P w) a vs := dk_rd ok (.inl e)
theorem key_of {ks : List Key} (ok : HOk P w H h) (e : H a = some (.tup (ks.map kV))) : (tupleKind (mixKind P w)).is h ks a := by
  obtain ⟨_, its, r, o, h1, h2, n, h3⟩ := (show ObjOk P w H h a (.tup (ks.map kV)) from ok a _ e)
  exact ⟨o, its.toArray, n, h1, h2, h3, by simpa using items_are r⟩
theorem dt_rd {kvs : List (List Key × V)} (ok : HOk P w H h) (e : Rd H a (.dT kvs)) : kvs.length ≤ sizeLine ∧ (a == sysModules) = false ∧
    ∃ xs, KT H kvs xs ∧ h.DictOfH (tupleKind (mixKind P w)) a xs := by
  obtain ⟨z, y, xs, r, o, es, ep, h1, h2, h3, h4, h5⟩ := (show ObjOk P w H h a (.dT kvs) from rd_of ok e)
  refine ⟨z, y, xs, r, o, es, ep, h1, h2, h3, h4, fun x hx => ?_, h5⟩
  have all : ∀ {l : List (List Key × V)} {m : List (List Key × Addr × Value)}, KT H l m → ∀ x ∈ m, (tupleKind (mixKind P w)).is h x.1 x.2.1 := by
    intro l m q
    induction q with
    | nil => intro x hx; exact nomatch hx
    | @cons p q ps qs hq t ih =>
      intro x hx
      rcases List.mem_cons.mp hx with e | hx
      · subst e
        exact key_of ok (by rw [← hq.1]; exact hq.2.1)
      · exact ih x hx
  exact all r x hx
theorem dt_of {kvs : List (List Key × V)} (ok : HOk P w H h) (e : H a = some (.dT kvs)) : kvs.length ≤ sizeLine ∧ (a == sysModules) = false ∧
    ∃ xs, KT H kvs xs ∧ h.DictOfH (tupleKind (mixKind P w)) a xs := dt_rd ok (.inl e)
end
def DGet (H : Hp) (a : Addr) (y : V) (r : Option V) : Prop :=
  (∃ kvs k, Rd H a (.dK kvs) ∧ y = kV k ∧ r = valV kvs k) ∨ ∃ kvs k b, Rd H a (.dT kvs) ∧ y = .ref b ∧ H b = some (.tup (k.map kV)) ∧ r = valV kvs k
def DPut (H : Hp) (a : Addr) (y v : V) (H' : Hp) : Prop :=
  (∃ kvs k, H a = some (.dK kvs) ∧ y = kV k ∧ kvs.length < sizeLine ∧ H' = upd H a (.dK (putK kvs k v))) ∨
  ∃ kvs k b, H a = some (.dT kvs) ∧ y = .ref b ∧ H b = some (.tup (k.map kV)) ∧ kvs.length < sizeLine ∧ H' = upd H a (.dT (putK kvs k v))
theorem DGet.k {H : Hp} {a : Addr} {kvs : List (Key × V)} {k : Key} (e : H a = some (.dK kvs)) : DGet H a (kV k) (valV kvs k) := .inl ⟨kvs, k, .inl e, rfl, rfl⟩
theorem DPut.k {H : Hp} {a : Addr} {kvs : List (Key × V)} {k : Key} {v : V} (e : H a = some (.dK kvs)) (hl : kvs.length < sizeLine) : DPut H a (kV k) v (upd H a (.dK (putK kvs k v))) := .inl ⟨kvs, k, e, rfl, hl, rfl⟩
section
variable {X : Cx} {pins : List (Addr × Obj)} {σ : St} {H : Hp} {s : Shared} {a : Addr} {y v : V} {u r : Value} {o : Option V} {A : Around} {E : Value → Shared → Prop}
theorem Inv.big (I : Inv X pins σ H s) : sysModules < s.heap.objs.size := by
  have h : mainGlobals < s.heap.objs.size := (I.mod.glob.keeps I.bk).lt
  exact Nat.lt_trans (by decide) h
theorem d_getItem {Q : Value → Shared → Prop} (hu : A.units + 1 < cLine) (I : Inv X pins σ H s) (g : DGet H a y (some v)) (ry : RelV y u) (h : ∀ w' s', Inv X pins σ H s' → RelV v w' → Q w' s') :
    wpAny (model X.prog X.w) A (getItem (.ref a) u) Q E s := by
  rcases g with ⟨kvs, k, e, ey, l⟩ | ⟨kvs, k, b, e, ey, eb, l⟩
  · subst ey
    obtain ⟨z, hd, vs, rel, dd⟩ := dk_rd I.hok e
    obtain ⟨w', hw, rw'⟩ := RelO.some_of (v := v) (o := valueAt vs k) (by rw [l]; exact rel.val k)
    exact wpAny_getItem_of (kV_is ry) dd.mapOf hw (h w' _ (I.tok _) rw')
  · subst ey
    cases (show u = Value.ref b from ry)
    obtain ⟨z, hd, xs, rel, dd⟩ := dt_rd I.hok e
    obtain ⟨w', hw, rw'⟩ := RelO.some_of (v := v) (o := (atKey xs k).map (·.2)) (by rw [l]; exact rel.val k)
    obtain ⟨p, hp, hp2⟩ := Option.map_eq_some_iff.mp hw
    refine wpAny_getItem_heap (tupleKind_room_in1 hu) (key_of I.hok eb) dd hp ?_
    rw [hp2]
    exact h w' _ (I.tok _) rw'
theorem d_in {Q : Value → Shared → Prop} (hu : A.units + 1 < cLine) (I : Inv X pins σ H s) (g : DGet H a y o) (ry : RelV y u) (h : ∀ s', Inv X pins σ H s' → Q (.bool o.isSome) s') :
    wpAny (model X.prog X.w) A (compareOp .In u (.ref a)) Q E s := by
  rcases g with ⟨kvs, k, e, ey, l⟩ | ⟨kvs, k, b, e, ey, eb, l⟩
  · subst ey
    obtain ⟨z, hd, vs, rel, dd⟩ := dk_rd I.hok e
    refine wpAny_in_of (kV_is ry) hd dd.mapOf ?_
    rw [← (rel.val k).isSome_eq, ← l]
    exact h _ (I.tok _)
  · subst ey
    cases (show u = Value.ref b from ry)
    obtain ⟨z, hd, xs, rel, dd⟩ := dt_rd I.hok e
    refine wpAny_in_heap (tupleKind_room_in1 hu) (key_of I.hok eb) hd dd ?_
    have q := (rel.val k).isSome_eq
    rw [Option.isSome_map] at q
    rw [← q, ← l]
    exact h _ (I.tok _)
theorem d_write {h' : Heap} {t' : Nat} {ob : HO} (I : Inv X pins σ H s) (mu : Mut (H a)) (hs : Heap.SameBut a s.heap h') (he : ∃ q, h'.get? a = some q) (new : ObjOk X.prog X.w (upd H a ob) h' a ob) :
    Inv X pins σ (upd H a ob) { s with heap := h', toks := t' } :=
  I.write (x := a) (e := a) mu (.inl rfl) (fun b q hb z => (hs.2 b hb).trans z) he new
theorem dk_new {P : Program} {w : World} {H' : Hp} {h' : Heap} {kvs : List (Key × V)} {vs : List (Key × Value)} (z : kvs.length ≤ sizeLine) (hd : (a == sysModules) = false) (rel : KV kvs vs) (dd : h'.DictOf (mixKind P w) a vs) :
    ObjOk P w H' h' a (.dK kvs) := ⟨z, hd, vs, rel, dd⟩
theorem d_setItem {H' : Hp} {Q : Unit → Shared → Prop} (hu : A.units + 1 < cLine) (I : Inv X pins σ H s) (g : DPut H a y v H') (ry : RelV y u) (rv : RelV v r) (h : ∀ s', Inv X pins σ H' s' → Q () s') :
    wpAny (model X.prog X.w) A (setItem (.ref a) u r) Q E s := by
  rcases g with ⟨kvs, k, e, ey, l, eH⟩ | ⟨kvs, k, b, e, ey, eb, l, eH⟩
  · subst ey eH
    obtain ⟨z, hd, vs, rel, dd⟩ := dk_of I.hok e
    have hz : vs.length ≤ sizeLine := by rw [← rel.length]; exact z
    have hl : (putK kvs k v).length ≤ sizeLine := by have := length_putK kvs k v; omega
    refine wpAny_setItem_pairs (hsz := hz) (kV_is ry) dd fun h' dd' hs => h _ ?_
    have he : ∃ q, h'.get? a = some q := let ⟨q, _, _, hq, _⟩ := dd'; ⟨q, hq⟩
    exact d_write I (by rw [e]; exact True.intro) hs he (dk_new hl hd (rel.put k rv) dd')
  · subst ey eH
    cases (show u = Value.ref b from ry)
    obtain ⟨z, hd, xs, rel, dd⟩ := dt_of I.hok e
    have hz : xs.length ≤ sizeLine := by rw [← Paired.length rel]; exact z
    have hl : (putK kvs k v).length ≤ sizeLine := by have := length_putK kvs k v; omega
    refine wpAny_setItem_heap (hsz := hz) (tupleKind_room_in1 hu) (key_of I.hok eb) dd fun h' dd' hs => h _ ?_
    obtain ⟨q, es, ep, hq, h2, h3, h4, _, h5⟩ := dd'
    refine d_write I (by rw [e]; exact True.intro) hs ⟨q, hq⟩ ⟨hl, hd, _, (rel.put k eb rv).keeps fun c ys ec => ?_, q, es, ep, hq, h2, h3, h4, h5⟩
    rw [upd_ne (ne_of ec e (fun z => nomatch z))]
    exact ec
end
section
variable {X : Cx} {pins : List (Addr × Obj)} {σ : St} {H : Hp} {s : Shared} {a : Addr} {kvs : List (Key × V)} {k : Key} {u : Value} {A : Around} {E : Value → Shared → Prop}
end
def NoSl (i : Expr) : Prop := ∀ ov iv, subscripted i false ov iv = operate [ov, iv] (getItem ov iv)
theorem subD_of {prog : Program} {w : World} {A : Around} {E : Value → Shared → Prop} {s : Shared} {env : Env} {value slice : Expr} {pos : Pos} {T id : String} {Q : Value → Shared → Prop}
    (hl : typeLookup (.type T) "__getitem__" = pure (some (.builtin id))) (hs : NoSl slice)
    (h : wpAny (model prog w) A (eval value env) (fun o s₁ => wpAny (model prog w) A (eval slice env) (fun i s₂ => s₂.TypeIs o T ∧ wpAny (model prog w) A (getItem o i) Q E s₂) E s₁) E s) :
    wpAny (model prog w) A (eval (.Subscript value slice pos) env) Q E s := by
  refine Subscript_ (wpAny_mono h (fun o s₁ h₁ => wpAny_mono h₁ (fun i s₂ h₂ => ?_) fun _ _ x => x) fun _ _ x => x)
  obtain ⟨hT, h₂⟩ := h₂
  unfold subscriptTail
  refine wpAny_bind ?_
  rw [getitemInPython_of_ne hT.not_modules]
  refine wpAny_bind (wpAny_specialOf hT hl ?_)
  have fin : wpAny (model prog w) A (subscripted slice false o i) (fun r s₃ => wpAny (model prog w) A (letTemporaryGo value o r >>= fun _ => pure r) Q E s₃) E s₂ := by
    rw [hs o i]
    exact wpAny_operating (wpAny_mono h₂ (fun r s₃ h₃ => wpAny_bind (wpAny_letTemporaryGo (wpAny_pure h₃))) fun _ _ x => x)
  first
    | exact wpAny_pure (wpAny_bind fin)
    | exact wpAny_bind (wpAny_pure (wpAny_bind fin))
    | exact wpAny_bind fin
theorem dict_typeIs {X : Cx} {pins : List (Addr × Obj)} {σ : St} {H : Hp} {s : Shared} {a : Addr} {y : V} {o : Option V} (I : Inv X pins σ H s) (g : DGet H a y o) : s.TypeIs (.ref a) "dict" := by
  rcases g with ⟨kvs, k, e, _, _⟩ | ⟨kvs, k, b, e, _, _, _⟩
  · obtain ⟨_, _, vs, _, dd⟩ := dk_rd I.hok e
    exact dd.typeIs
  · obtain ⟨_, _, xs, _, dd⟩ := dt_rd I.hok e
    exact dd.typeIs
def tDGet (td ty : TE) : TE := fun σ H Q => td σ H fun x H1 => ty σ H1 fun y H2 => ∃ a v, x = .ref a ∧ DGet H2 a y (some v) ∧ Q v H2
def tDIn (ty td : TE) : TE := fun σ H Q => ty σ H fun y H1 => td σ H1 fun x H2 => ∃ a o, x = .ref a ∧ DGet H2 a y o ∧ Q (.bl o.isSome) H2
def sDPut (td ty tv : TE) : TS := fun D σ H => tv σ H fun v H1 => td σ H1 fun x H2 => ty σ H2 fun y H3 => ∃ a H4, x = .ref a ∧ DPut H3 a y v H4 ∧ D.nx σ H4
section
variable {X : Cx} {o i e value : Expr} {pos pos' tpos : Pos} {td ty tv : TE}
theorem pe_dget (hu : X.A.units + 1 < cLine) (ho : PE X o td) (hi : PE X i ty) (hs : NoSl i) : PE X (.Subscript o i pos) (tDGet td ty) := by
  intro pins s σ H Q I h
  refine subD_of PySem.F.slot_dict_getitem.lookup hs (thn (ho pins s σ H _ I h) fun u s1 ⟨x, H1, I1, rx, q1⟩ => thn (hi pins s1 σ H1 _ I1 q1) fun iv s2 ⟨y, H2, I2, ry, a, v, ex, g, q2⟩ => ?_)
  subst ex
  obtain rfl : u = Value.ref a := rx
  exact ⟨dict_typeIs I2 g, d_getItem hu I2 g ry fun w' s3 I3 rw' => ⟨v, H2, I3, rw', q2⟩⟩
theorem pc_din (hu : X.A.units + 1 < cLine) (hi : PE X i ty) (ho : PE X o td) : PC X .In i o (tDIn ty td) := by
  intro pins s σ H Q I h
  refine thn (hi pins s σ H _ I h) fun iv s1 ⟨y, H1, I1, ry, q1⟩ => thn (ho pins s1 σ H1 _ I1 q1) fun u s2 ⟨x, H2, I2, rx, a, ov, ex, g, q2⟩ => ?_
  subst ex
  obtain rfl : u = Value.ref a := rx
  exact d_in hu I2 g ry fun s3 I3 => ⟨.bl ov.isSome, H2, I3, rfl, q2⟩
theorem ps_dput (hu : X.A.units + 1 < cLine) (ho : PE X o td) (hi : PE X i ty) (hv : PE X value tv) (hs : swapsWith value (some (.Subscript o i pos')) pos.line X.env = pure false) :
    PS X (.Assign [.Subscript o i pos'] value pos) (sDPut td ty tv) := by
  intro pins s σ H D I h
  refine wpAny_Assign_Subscript (thn (hv pins s σ H _ I h) fun r s1 ⟨v, H1, I1, rv, q1⟩ => thn (ho pins s1 σ H1 _ I1 q1) fun u s2 ⟨x, H2, I2, rx, q2⟩ => thn (hi pins s2 σ H2 _ I2 q2) fun iv s3 ⟨y, H3, I3, ry, a, H4, ex, g, q3⟩ => ?_) hs
  subst ex
  obtain rfl : u = Value.ref a := rx
  exact d_setItem hu I3 g ry rv fun s4 I4 => ⟨σ, H4, I4, q3⟩
end
theorem dk_empty {P : Program} {w : World} {H : Hp} (h : Heap) (hb : sysModules < h.objs.size) : ObjOk P w H (h.push { cls := .type "dict", data := .dict #[] }) h.objs.size (.dK []) :=
  ⟨Nat.zero_le _, beq_eq_false_iff_ne.mpr (Ne.symm (Nat.ne_of_lt hb)), [], .nil, Heap.DictOf.new h⟩
def tDNewK : TE := fun _ H Q => ∀ p, H p = none → Q (.ref p) (upd H p (.dK []))
section
variable {X : Cx} {pos : Pos}
theorem pe_dnewK : PE X (.Dict [] [] pos) tDNewK := fun pins s σ H Q I h =>
  wpAny_Dict_empty ⟨.ref s.heap.objs.size, _, I.laid (a := s.heap.objs.size) (o := .dK []) (t' := s.toks) (fun _ _ q => Heap.get?_push_of_some _ q) (Nat.le_refl _) (dk_empty s.heap I.big), rfl, h _ (I.hok.fresh (Nat.le_refl _))⟩
end
def tPairs : List (TE × TE) → St → Hp → (List (V × V) → Hp → Prop) → Prop
  | [], _, H, Q => Q [] H
  | (tk, tv) :: r, σ, H, Q => tk σ H fun x H1 => tv σ H1 fun y H2 => tPairs r σ H2 fun ps H3 => Q ((x, y) :: ps) H3
abbrev VV : List (V × V) → List (Value × Value) → Prop := Paired fun p q => RelV p.1 q.1 ∧ RelV p.2 q.2
def PPs (X : Cx) (pos : Pos) (keys : List (Option Expr)) (values : List Expr) (trs : List (TE × TE)) : Prop :=
  ∀ (pins : List (Addr × Obj)) (s : Shared) (σ : St) (H : Hp) (Q : List (V × V) → Hp → Prop), Inv X pins σ H s → tPairs trs σ H Q →
    wpAny (model X.prog X.w) X.A (evalPairs (pairTrees keys values X.env pos)) (fun vs s' => ∃ ps H', Inv X pins σ H' s' ∧ VV ps vs ∧ Q ps H') X.xe s
theorem pps_nil {X : Cx} {pos : Pos} : PPs X pos [] [] [] := fun pins s σ H Q I h => pairTrees_nil_walk ⟨[], H, I, .nil, h⟩
theorem pps_cons {X : Cx} {pos : Pos} {k v : Expr} {ks : List (Option Expr)} {vs : List Expr} {tk tv : TE} {trs : List (TE × TE)} (hk : PE X k tk) (hv : PE X v tv) (hr : PPs X pos ks vs trs) :
    PPs X pos (some k :: ks) (v :: vs) ((tk, tv) :: trs) := fun pins s σ H Q I h =>
  pairTrees_cons_walk (thn (hk pins s σ H _ I h) fun u s1 ⟨x, H1, I1, rx, q1⟩ => thn (hv pins s1 σ H1 _ I1 q1) fun w2 s2 ⟨y, H2, I2, ry, q2⟩ =>
    thn (hr pins s2 σ H2 _ I2 q2) fun ws s3 ⟨ps, H3, I3, rel, q3⟩ => ⟨(x, y) :: ps, H3, I3, .cons ⟨rx, ry⟩ rel, q3⟩)
def mergeK (kvs more : List (Key × V)) : List (Key × V) := more.foldl (fun acc kv => putK acc kv.1 kv.2) kvs
theorem KV.merge : ∀ {more : List (Key × V)} {rs : List (Key × Value)} {kvs : List (Key × V)} {vs : List (Key × Value)}, KV more rs → KV kvs vs → KV (mergeK kvs more) (merged vs rs) := by
  intro more rs kvs vs r
  unfold KV at r
  induction r generalizing kvs vs with
  | nil => intro q; exact q
  | @cons p q ps qs h t ih =>
    intro r0
    have e : KV (putK kvs p.1 p.2) (stored vs q.1 q.2) := by
      have := r0.put p.1 h.2
      rw [← h.1]; exact this
    exact ih e
theorem length_mergeK : ∀ (more kvs : List (Key × V)), (mergeK kvs more).length ≤ kvs.length + more.length
  | [], kvs => by show kvs.length ≤ kvs.length + 0; omega
  | p :: r, kvs => by
    have h1 := length_mergeK r (putK kvs p.1 p.2)
    have h2 := length_putK kvs p.1 p.2
    show (mergeK (putK kvs p.1 p.2) r).length ≤ _
    rw [List.length_cons]; omega
theorem carries_of {P : Program} {w : World} : ∀ {kvs : List (Key × V)} {ws : List (Value × Value)}, VV (kvs.map fun kv => (kV kv.1, kv.2)) ws → ∃ rs, Carries (mixKind P w) ws rs ∧ KV kvs rs
  | [], _, r => by rw [List.map_nil] at r; cases r; exact ⟨[], True.intro, .nil⟩
  | p :: kvs, _, r => by
    rw [List.map_cons] at r
    cases r with
    | @cons a b as bs h t =>
      obtain ⟨rs, c, q⟩ := carries_of (P := P) (w := w) t
      obtain ⟨b1, b2⟩ := b
      exact ⟨(p.1, b2) :: rs, ⟨kV_is h.1, rfl, c⟩, .cons ⟨rfl, h.2⟩ q⟩
def tDisp (trs : List (TE × TE)) : TE := fun σ H Q => ∀ p, H p = none → tPairs trs σ (upd H p (.dK [])) fun ps H2 => H2 p = some (.dK []) ∧ ∃ kvs : List (Key × V), ps = kvs.map (fun kv => (kV kv.1, kv.2)) ∧ kvs.length ≤ 15 ∧ Q (.ref p) (upd H2 p (.dK (mergeK [] kvs)))
theorem pe_disp {X : Cx} {pos : Pos} {keys : List (Option Expr)} {values : List Expr} {trs : List (TE × TE)} (h : PPs X pos keys values trs) (hall : keys.all (·.isSome) = true) (hl : keys.length = values.length) (h0 : keys ≠ [])
    (h15 : keys.length ≤ 15) : PE X (.Dict keys values pos) (tDisp trs) := by
  intro pins s σ H Q I q
  have hn := I.hok.fresh (Nat.le_refl s.heap.objs.size)
  have I1 := I.laid (a := s.heap.objs.size) (o := .dK []) (h' := s.heap.push { cls := .type "dict", data := .dict #[] }) (t' := s.toks) (fun _ _ q => Heap.get?_push_of_some _ q) (Nat.le_refl _) (dk_empty s.heap I.big)
  refine wpAny_Dict_walk (knd := mixKind X.prog X.w) hall hl h0 h15 (thn (h pins _ σ _ _ I1 (q _ hn)) fun ws s2 ⟨ps, H2, I2, rel, e, kvs, ep, lk, q2⟩ => ?_)
  subst ep
  obtain ⟨rs, c, rk⟩ := carries_of (P := X.prog) (w := X.w) rel
  obtain ⟨z, hd, vs0, r0, dd⟩ := dk_of I2.hok e
  cases r0
  refine ⟨rs, c, dd, fun h' dd' hs => ⟨.ref s.heap.objs.size, _, ?_, rfl, q2⟩⟩
  have hz : (mergeK [] kvs).length ≤ sizeLine := by
    have h1 := length_mergeK kvs []
    rw [List.length_nil] at h1
    rw [sizeLine_eq]; omega
  have he : ∃ q, h'.get? s.heap.objs.size = some q := let ⟨q, _, _, hq, _⟩ := dd'; ⟨q, hq⟩
  exact d_write I2 (by rw [e]; exact True.intro) hs he (dk_new hz hd (rk.merge .nil) dd')
structure M1 (X : Cx) (o : Expr) (m : Str) (apos : Pos) (e : Expr) (cpos : Pos) : Prop where
  base : attributeBase o m X.env (eval o X.env) = eval o X.env
  few : ((backTo cpos (starEach [e] X.env)).all (fun x => !x.1) && (backToKw cpos (keywordEach [] X.env)).all (fun x => x.1.isSome)
    && decide (([e] : List Expr).length + ([] : List Keyword).length + (if ([] : List Keyword).isEmpty then 0 else 1) < 30)) = true
  line : (apos.endLine == cpos.line) = true
  trees : backTo cpos (starEach [e] X.env) = [(false, eval e X.env)]
structure M2 (X : Cx) (o : Expr) (m : Str) (apos : Pos) (e f : Expr) (cpos : Pos) : Prop where
  base : attributeBase o m X.env (eval o X.env) = eval o X.env
  few : ((backTo cpos (starEach [e, f] X.env)).all (fun x => !x.1) && (backToKw cpos (keywordEach [] X.env)).all (fun x => x.1.isSome)
    && decide (([e, f] : List Expr).length + ([] : List Keyword).length + (if ([] : List Keyword).isEmpty then 0 else 1) < 30)) = true
  line : (apos.endLine == cpos.line) = true
  trees : backTo cpos (starEach [e, f] X.env) = [(false, eval e X.env), (false, eval f X.env)]
def IsD (H : Hp) (a : Addr) : Prop := (∃ kvs, Rd H a (.dK kvs)) ∨ ∃ kvs, Rd H a (.dT kvs)
theorem isD_at {X : Cx} {pins : List (Addr × Obj)} {σ : St} {H : Hp} {s : Shared} {a : Addr} (I : Inv X pins σ H s) (d : IsD H a) :
    s.TypeIs (.ref a) "dict" ∧ (∀ b, Value.ref a = .ref b → ∃ ob, s.heap.get? b = some ob ∧ ob.dict = none) ∧ (a == sysModules) = false := by
  rcases d with ⟨kvs, e⟩ | ⟨kvs, e⟩
  · obtain ⟨_, hd, vs, _, dd⟩ := dk_rd I.hok e
    refine ⟨dd.typeIs, fun b q => ?_, hd⟩
    cases q
    obtain ⟨ob, _, _, h1, h2, _⟩ := dd
    exact ⟨ob, h1, h2.2.1⟩
  · obtain ⟨_, hd, xs, _, dd⟩ := dt_rd I.hok e
    refine ⟨dd.typeIs, fun b q => ?_, hd⟩
    cases q
    obtain ⟨ob, _, _, h1, h2, _⟩ := dd
    exact ⟨ob, h1, h2.2.1⟩
section
variable {X : Cx} {pins : List (Addr × Obj)} {σ : St} {H : Hp} {s : Shared} {a : Addr} {y d : V} {u r : Value} {o : Option V} {A : Around} {E : Value → Shared → Prop}
theorem d_get2 {Q : Value → Shared → Prop} (hu : A.units + 1 < cLine) (I : Inv X pins σ H s) (g : DGet H a y o) (ry : RelV y u) (rd : RelV d r) (h : ∀ w' s', Inv X pins σ H s' → RelV (o.getD d) w' → Q w' s') :
    wpAny (model X.prog X.w) A (call (.builtin "dict.get") [.ref a, u, r]) Q E s := by
  rcases g with ⟨kvs, k, e, ey, l⟩ | ⟨kvs, k, b, e, ey, eb, l⟩
  · subst ey
    obtain ⟨z, hd, vs, rel, dd⟩ := dk_rd I.hok e
    refine call_meetsIn PySem.F.slot_dict_get dd.typeIs PySem.F.entry_dict_get (PySem.F.args_dict_get_3 _ _ _) (meets_dict_get_default (mixKind X.prog X.w) a (kV_is ry) hd r) ⟨_, dd.mapOf, h _ _ (I.tok _) ?_⟩
    rw [l]
    exact (rel.val k).getD rd
  · subst ey
    cases (show u = Value.ref b from ry)
    obtain ⟨z, hd, xs, rel, dd⟩ := dt_rd I.hok e
    refine call_meetsIn PySem.F.slot_dict_get dd.typeIs PySem.F.entry_dict_get (PySem.F.args_dict_get_3 _ _ _) (meetsH_dict_get_default (tupleKind (mixKind X.prog X.w)) a b hd r) ⟨tupleKind_room_in1 hu, k, xs, key_of I.hok eb, dd, h _ _ (I.tok _) ?_⟩
    rw [l]
    exact (rel.val k).getD rd
end
def tDGet2 (td ty tx : TE) : TE := fun σ H Q => td σ H fun x H1 => ∃ a, x = .ref a ∧ IsD H1 a ∧ ty σ H1 fun y H2 => tx σ H2 fun z H3 => ∃ o, DGet H3 a y o ∧ Q (o.getD z) H3
section
variable {X : Cx} {o e f : Expr} {apos cpos : Pos} {td ty tx : TE}
theorem pe_dget2 (hu : X.A.units + 1 < cLine) (ho : PE X o td) (he : PE X e ty) (hf : PE X f tx) (m : M2 X o "get" apos e f cpos) : PE X (.Call (.Attribute o "get" apos) [e, f] [] cpos) (tDGet2 td ty tx) := by
  intro pins s σ H Q I h
  refine wpAny_Call_method m.base m.few m.line PySem.F.plainAttrs_dict PySem.F.slot_dict_get PySem.F.type_dict_get (thn (ho pins s σ H _ I h) fun u s1 ⟨x, H1, I1, rx, a, ex, d, q1⟩ => ?_)
  subst ex
  obtain rfl : u = Value.ref a := rx
  obtain ⟨t1, t2, _⟩ := isD_at I1 d
  refine ⟨t1, t2, ?_⟩
  rw [m.trees]
  refine Calls.callWith_builtin rfl (Calls.evalArgs_plain (Calls.spliced_cons (thn (he pins s1 σ H1 _ I1 q1) fun iv s2 ⟨y, H2, I2, ry, q2⟩ =>
    Calls.spliced_cons (thn (hf pins s2 σ H2 _ I2 q2) fun fv s3 ⟨z, H3, I3, rz, ov, g, q3⟩ => Calls.spliced_nil ?_))))
  exact d_get2 hu I3 g ry rz fun w' s4 I4 rw' => ⟨_, H3, I4, rw', q3⟩
end
section
variable {X : Cx} {pins : List (Addr × Obj)} {σ : St} {H : Hp} {s : Shared} {a : Addr} {kvs : List (Key × V)} {A : Around} {E : Value → Shared → Prop}
end
section
variable {X : Cx} {pins : List (Addr × Obj)} {σ : St} {H : Hp} {s : Shared} {a : Addr} {y : V} {u : Value} {A : Around} {E : Value → Shared → Prop}
end
end L2
namespace HT
open PySem PyProof.Rows
section
open PySem.SeqAt
open PySem.AutoSeq1 (wpAny_loadPart')
open PySem.MeetsSeq PySem.MeetsSeq2 PySem.MeetsSeq3
end
section
variable {prog : Program} {w : World} {A : Around} {E : Value → Shared → Prop} {s : Shared}
def sIx (n d : Nat) : Option Int → Nat
  | none => d
  | some v => if v < 0 then (v + (n : Int)).toNat else min v.toNat n
theorem sIx_nat (n d k : Nat) : sIx n d (some (k : Int)) = min k n := by
  show (if (k : Int) < 0 then ((k : Int) + (n : Int)).toNat else min (k : Int).toNat n) = min k n
  rw [if_neg (by omega), Int.toNat_natCast]
end
end HT
namespace L2
open PySem PySem.Spec PyProof.Rows
abbrev TO := St → Hp → (Option Int → Hp → Prop) → Prop
def PO (X : Cx) (e : Option Expr) (t : TO) : Prop :=
  ∀ (pins : List (Addr × Obj)) (s : Shared) (σ : St) (H : Hp) (Q : Option Int → Hp → Prop), Inv X pins σ H s → t σ H Q →
    wpAny (model X.prog X.w) X.A (evalPart e X.env) (fun u s' => ∃ o H', Inv X pins σ H' s' ∧ IsPart u o ∧ Q o H') X.xe s
def tNoPart : TO := fun _ H Q => Q none H
def tPart (t : TE) : TO := fun σ H Q => t σ H fun x H1 => ∃ i, x = .int i ∧ Q (some i) H1
section
variable {X : Cx} {e : Expr} {te : TE} {lo hi : Option Expr} {tl th : TO} {pos p2 : Pos}
theorem po_none : PO X none tNoPart := by
  intro pins s σ H Q I h
  rw [evalPart_none]
  exact wpAny_pure ⟨none, H, I, .none, h⟩
theorem po_some (h : PE X e te) : PO X (some e) (tPart te) := by
  intro pins s σ H Q I hw
  rw [evalPart_some]
  refine thn (h pins s σ H _ I hw) fun u s1 ⟨x, H1, I1, r1, q1⟩ => ?_
  obtain ⟨i, rfl, q⟩ := q1
  obtain ⟨t, rfl⟩ := r1
  exact ⟨some i, H1, I1, .int i t, q⟩
def SlR (X : Cx) (r : V → Option Int → Option Int → Hp → VK → Prop) : Prop :=
  ∀ (pins : List (Addr × Obj)) (s : Shared) (σ : St) (H : Hp) (x : V) (v vl vu : Value) (lo hi : Option Int) (sl : Addr) (Q : VK), Inv X pins σ H s → RelV x v → s.heap.IsSliceOf sl vl vu .none → IsPart vl lo → IsPart vu hi → r x lo hi H Q →
    ∃ T id, typeLookup (.type T) "__getitem__" = pure (some (.builtin id)) ∧ s.TypeIs v T ∧ wpAny (model X.prog X.w) X.A (getItem v (.ref sl)) (EP X pins σ Q) X.xe s
def tSl (r : V → Option Int → Option Int → Hp → VK → Prop) (te : TE) (tl th : TO) : TE := fun σ H Q => te σ H fun x H1 => tl σ H1 fun l H2 => th σ H2 fun u H3 => r x l u H3 Q
theorem pe_slice {r : V → Option Int → Option Int → Hp → VK → Prop} (hr : SlR X r) (he : PE X e te) (hl : PO X lo tl) (hu : PO X hi th) : PE X (.Subscript e (.Slice lo hi none p2) pos) (tSl r te tl th) := by
  intro pins s σ H Q I h
  refine Subscript_ (thn (he pins s σ H _ I h) fun v s1 ⟨x, H1, I1, r1, q1⟩ => ?_)
  refine wpAny_Slice (thn (hl pins s1 σ H1 _ I1 q1) fun vl s2 ⟨l, H2, I2, pl, q2⟩ => thn (hu pins s2 σ H2 _ I2 q2) fun vu s3 ⟨u, H3, I3, pu, q3⟩ => ?_)
  rw [evalPart_none]
  refine wpAny_pure ?_
  have I4 : Inv X pins σ H3 { s3 with heap := s3.heap.push { cls := .type "slice", data := .fields #[vl, vu, .none] } } := I3.kept (t' := s3.toks) fun b ob q => Heap.get?_push_of_some _ q
  obtain ⟨T, id, hT, ht, hg⟩ := hr pins { s3 with heap := s3.heap.push { cls := .type "slice", data := .fields #[vl, vu, .none] } } σ H3 x v vl vu l u s3.heap.objs.size Q I4 r1 (Heap.IsSliceOf.new ..) pl pu q3
  show wpAny (model X.prog X.w) X.A (subscriptTail e (.Slice lo hi none p2) v (.ref s3.heap.objs.size)) (EP X pins σ Q) X.xe { s3 with heap := s3.heap.push { cls := .type "slice", data := .fields #[vl, vu, .none] } }
  exact tail_any (ops := [.ref s3.heap.objs.size, v]) ht hT hg (by with_unfolding_all rfl)
def cutV (xs : List V) (lo hi : Option Int) : List V := (xs.drop (HT.sIx xs.length 0 lo)).take (HT.sIx xs.length xs.length hi - HT.sIx xs.length 0 lo)
theorem cutV_length (xs : List V) (lo hi : Option Int) : (cutV xs lo hi).length ≤ xs.length := by
  unfold cutV
  rw [List.length_take, List.length_drop]
  omega
end
end L2
namespace L2
open PySem PySem.Spec PyProof.Rows
def ixN (n : Nat) (i : Int) : Option Nat := if 0 ≤ i then (if i < n then some i.toNat else none) else if -(n : Int) ≤ i then some (i + n).toNat else none
def atI {α : Type} (xs : List α) (i : Int) : Option α := (ixN xs.length i).bind fun j => xs[j]?
theorem ixN_seq {n : Nat} {i : Int} {j : Nat} (h : ixN n i = some j) : seqIndex? i n = some j ∧ j < n ∧ -(n : Int) ≤ i ∧ i < n := by
  unfold ixN at h
  by_cases h0 : 0 ≤ i
  · rw [if_pos h0] at h
    by_cases h1 : i < n
    · rw [if_pos h1] at h
      have e : i.toNat = j := Option.some.inj h
      exact ⟨by rw [seqIndex_of h0 h1, e], by omega, by omega, h1⟩
    · rw [if_neg h1] at h; cases h
  · rw [if_neg h0] at h
    by_cases h1 : -(n : Int) ≤ i
    · rw [if_pos h1] at h
      have e : (i + n).toNat = j := Option.some.inj h
      exact ⟨by rw [seqIndex_neg (by omega) h1, e], by omega, h1, by omega⟩
    · rw [if_neg h1] at h; cases h
theorem atI_get {α : Type} {xs : List α} {i : Int} {v : α} (h : atI xs i = some v) : ∃ j, seqIndex? i xs.length = some j ∧ xs[j]? = some v ∧ j < xs.length ∧ -(xs.length : Int) ≤ i ∧ i < xs.length := by
  unfold atI at h
  cases e : ixN xs.length i with
  | none => rw [e] at h; cases h
  | some j =>
    rw [e] at h
    obtain ⟨h1, h2, h3, h4⟩ := ixN_seq e
    exact ⟨j, h1, h, h2, h3, h4⟩
theorem atI_nat {α : Type} {xs : List α} {j : Nat} {v : α} (h : xs[j]? = some v) : atI xs (j : Int) = some v := by
  have hj : j < xs.length := (List.getElem?_eq_some_iff.mp h).1
  have e : ixN xs.length (j : Int) = some j := by
    unfold ixN
    rw [if_pos (by omega), if_pos (by omega)]; simp
  unfold atI; rw [e]; exact h
def PlainIx (b : Expr) : Prop := ∀ o i, subscripted b false o i = operate [o, i] (getItem o i)
def IxR (X : Cx) (r : R2) : Prop :=
  ∀ (value slice : Expr) (pins : List (Addr × Obj)) (s : Shared) (σ : St) (H : Hp) (x y : V) (v u : Value) (Q : VK), Inv X pins σ H s → RelV x v → RelV y u → r x y H Q →
    subscripted slice false v u = operate [v, u] (getItem v u) → wpAny (model X.prog X.w) X.A (subscriptTail value slice v u) (EP X pins σ Q) X.xe s
def MtR (X : Cx) (id : String) (r : V → List V → Hp → VK → Prop) : Prop :=
  ∀ (pins : List (Addr × Obj)) (s : Shared) (σ : St) (H : Hp) (x : V) (xs : List V) (v : Value) (us : List Value) (Q : VK), Inv X pins σ H s → RelV x v → Vals xs us → r x xs H Q →
    wpAny (model X.prog X.w) X.A (call (.builtin id) (v :: us)) (EP X pins σ Q) X.xe s
section
variable {X : Cx} {a b : Expr} {ta tb : TE} {pos : Pos}
theorem pe_ix {r : R2} (hr : IxR X r) (ha : PE X a ta) (hb : PE X b tb) (hs : PlainIx b) : PE X (.Subscript a b pos) (tOp r ta tb) := by
  intro pins s σ H Q I h
  exact Subscript_ (binT ha hb I h fun v u s2 x y H2 I2 rx ry q => hr a b pins s2 σ H2 x y v u Q I2 rx ry q (hs _ _))
def rIxL (K : PySem.W.Frag) : R2 := fun x y H Q => ∃ p xs i v, x = .ref p ∧ y = .int i ∧ SqL K H p xs ∧ atI xs i = some v ∧ Q v H
def rIxT (K : PySem.W.Frag) : R2 := fun x y H Q => ∃ p xs i v, x = .ref p ∧ y = .int i ∧ SqT K H p xs ∧ atI xs i = some v ∧ Q v H
theorem ix_list : IxR X (rIxL X.K) := by
  intro value slice pins s σ H x y v u Q I rx ry h hs
  obtain ⟨p, xs, i, z, rfl, rfl, hq, he, q⟩ := h
  cases rx
  obtain ⟨t, rfl⟩ := ry
  obtain ⟨its, r, pl, hz⟩ := I.list hq
  obtain ⟨j, h1, h2, h3, h4, h5⟩ := atI_get he
  obtain ⟨w, ew, rw'⟩ := r.get h2
  have hl := r.length
  have hn := line63
  have fin : EP X pins σ Q w s := ⟨z, H, I, rw', q⟩
  by_cases h0 : 0 ≤ i
  · have hj : i.toNat = j := by
      rw [seqIndex_of h0 h5] at h1
      exact Option.some.inj h1
    exact item_listR pl.isList h0 (by omega) (by rw [hj]; simpa using ew) fin hs
  · have hj : (i + (its.toArray.size : Int)).toNat = j := by
      rw [seqIndex_neg (by omega) h4] at h1
      rw [List.size_toArray, ← hl]
      exact Option.some.inj h1
    exact subscriptTail_builtinR (x := w) pl.isList.typeIs slot_list_getitem.lookup
      (wpAny_getItem_list_neg (Q := fun r s' => r = w ∧ EP X pins σ Q r s') pl.isList (by omega) (by rw [List.size_toArray] <;> omega) (by omega) (by rw [hj]; simpa using ew) ⟨rfl, fin⟩) hs
theorem ix_tup : IxR X (rIxT X.K) := by
  intro value slice pins s σ H x y v u Q I rx ry h hs
  obtain ⟨p, xs, i, z, rfl, rfl, hq, he, q⟩ := h
  cases rx
  obtain ⟨t, rfl⟩ := ry
  obtain ⟨its, r, pl, hz⟩ := I.tuple hq
  obtain ⟨j, h1, h2, h3, h4, h5⟩ := atI_get he
  obtain ⟨w, ew, rw'⟩ := r.get h2
  have hl := r.length
  have hn := line63
  have fin : EP X pins σ Q w s := ⟨z, H, I, rw', q⟩
  exact subscriptTail_builtinR (x := w) pl.typeIs slot_tuple_getitem.lookup
    (getItem_tuple (j := j) (Q := fun r s' => r = w ∧ EP X pins σ Q r s') pl (by omega) (by omega) (by rw [List.size_toArray, ← hl]; exact h1) (by simpa using ew) ⟨rfl, fin⟩) hs
theorem mapSeq_set (its : List Value) (n j : Nat) (u : Value) : Obj.mapSeq (·.setIfInBounds j u) { cls := .type "list", data := .seq its.toArray n } = { cls := .type "list", data := .seq (its.set j u).toArray n } := by
  simp [Obj.mapSeq]
theorem Inv.lst {pins : List (Addr × Obj)} {σ : St} {H : Hp} {s : Shared} {p : Addr} {xs : List V} (I : Inv X pins σ H s) (h : H p = some (.lst xs)) :
    ∃ (its : List Value) (n : Nat), Vals xs its ∧ s.heap.get? p = some { cls := .type "list", data := .seq its.toArray n } ∧ xs.length ≤ sizeLine := by
  obtain ⟨z, its, n, r, e⟩ := I.hok p _ h
  exact ⟨its, n, r, e, z⟩
theorem Inv.lstUpd {pins : List (Addr × Obj)} {σ : St} {H : Hp} {s : Shared} {p : Addr} {xs ys : List V} {its its' : List Value} {n n' : Nat} {f : Obj → Obj} (I : Inv X pins σ H s) (h : H p = some (.lst xs))
    (ho : s.heap.get? p = some { cls := .type "list", data := .seq its.toArray n }) (hf : f { cls := .type "list", data := .seq its.toArray n } = { cls := .type "list", data := .seq its'.toArray n' }) (r : Vals ys its') (hz : ys.length ≤ sizeLine) (t : Nat) :
    Inv X pins σ (upd H p (.lst ys)) { s with heap := s.heap.update p f, toks := t } := by
  have e : (s.heap.update p f).get? p = some { cls := .type "list", data := .seq its'.toArray n' } := by
    rw [Heap.get?_update_self f ho (by rw [hf] <;> rfl), hf]
  refine I.write (x := p) (e := p) (by rw [h]; trivial) (.inl rfl) (fun b u hb q => (Heap.get?_update_other _ _ (Ne.symm hb)).trans q) ⟨_, e⟩ ?_
  exact ⟨hz, its', n', r, e⟩
def rSetL : V → V → V → Hp → (Hp → Prop) → Prop := fun o i v H Q => ∃ p xs k j, o = .ref p ∧ i = .int k ∧ H p = some (.lst xs) ∧ ixN xs.length k = some j ∧ Q (upd H p (.lst (xs.set j v)))
theorem set_list : PSet X rSetL := by
  intro pins s σ H o i v ov iv u Q I ro ri rv h
  obtain ⟨p, xs, k, j, rfl, rfl, hp, hj, q⟩ := h
  cases ro
  obtain ⟨t, rfl⟩ := ri
  obtain ⟨its, n, r, ho, hz⟩ := I.lst hp
  obtain ⟨h1, h2, h3, h4⟩ := ixN_seq hj
  have hl := r.length
  have hn := line63
  have I' : Inv X pins σ (upd H p (.lst (xs.set j v))) { s with heap := s.heap.update p (Obj.mapSeq (·.setIfInBounds j u)) } :=
    I.lstUpd hp ho (mapSeq_set its n j u) (r.set rv j) (by rw [List.length_set]; exact hz) s.toks
  by_cases h0 : 0 ≤ k
  · have hk : k.toNat = j := by
      rw [seqIndex_of h0 h4] at h1
      exact Option.some.inj h1
    exact PySem.W.ki_setAt ho h0 (by omega) (by rw [List.size_toArray, ← hl]; exact h4) (by rw [hk]; exact ⟨_, I', q⟩)
  · have hk : (k + (its.toArray.size : Int)).toNat = j := by
      rw [seqIndex_neg (by omega) h3] at h1
      rw [List.size_toArray, ← hl]
      exact Option.some.inj h1
    exact PySem.W.ki_setBack ho (by omega) (by rw [List.size_toArray, ← hl]; exact h3) (by omega) (by rw [hk]; exact ⟨_, I', q⟩)
theorem slice_bounds (lo hi : Option Int) (n : Nat) : (sliceBounds lo hi none n).1 = ((HT.sIx n 0 lo : Nat) : Int) ∧ (sliceBounds lo hi none n).2.1 = ((HT.sIx n n hi : Nat) : Int) ∧ (sliceBounds lo hi none n).2.2 = 1 := by
  refine ⟨?_, ?_, rfl⟩
  · cases lo with
    | none => simp [sliceBounds, HT.sIx]
    | some i =>
      simp only [sliceBounds, HT.sIx, Option.getD_none, show (1 : Int) > 0 by decide, if_true]
      by_cases h : i < 0
      · simp only [h, if_true] <;> omega
      · simp only [h, if_false] <;> omega
  · cases hi with
    | none => simp [sliceBounds, HT.sIx]
    | some i =>
      simp only [sliceBounds, HT.sIx, Option.getD_none, show (1 : Int) > 0 by decide, if_true]
      by_cases h : i < 0
      · simp only [h, if_true] <;> omega
      · simp only [h, if_false] <;> omega
theorem slicePick_cut (its : List Value) (lo hi : Option Int) : slicePick its.toArray lo hi none = ((its.drop (HT.sIx its.length 0 lo)).take (HT.sIx its.length its.length hi - HT.sIx its.length 0 lo)).toArray := by
  obtain ⟨h1, h2, h3⟩ := slice_bounds lo hi its.toArray.size
  unfold slicePick
  rw [h1, h2, h3]
  simp only [sliceRange_one, pick_run, List.size_toArray] <;> rfl
def rSlL (K : PySem.W.Frag) : V → Option Int → Option Int → Hp → VK → Prop := fun x lo hi H Q => ∃ a xs, x = .ref a ∧ SqL K H a xs ∧ ∀ p, H p = none → Q (.ref p) (upd H p (.lst (cutV xs lo hi)))
theorem sl_list : SlR X (rSlL X.K) := by
  intro pins s σ H x v vl vu lo hi sl Q I rx hs pl pu h
  obtain ⟨a, xs, rfl, hx, q⟩ := h
  cases rx
  obtain ⟨its, r, ht, hz⟩ := I.list hx
  have hlen := r.length
  refine ⟨"list", _, slot_list_getitem.lookup, ht.isList.typeIs, ?_⟩
  refine wpAny_getItem_list_slice ht.isList hs pl pu .none (by simp) ?_ (by rw [List.size_toArray] <;> omega)
  rw [slicePick_cut, ← hlen]
  refine ⟨.ref s.heap.objs.size, _, I.laid (t' := s.toks) (o := .lst (cutV xs lo hi)) (fun b ob q => Heap.get?_push_of_some _ q) (Nat.le_refl _) ?_, rfl, q _ (I.hok.fresh (Nat.le_refl _))⟩
  exact ⟨Nat.le_trans (cutV_length xs lo hi) hz, _, 0, (r.drop (HT.sIx xs.length 0 lo)).take (HT.sIx xs.length xs.length hi - HT.sIx xs.length 0 lo), Heap.get?_push_size _ rfl⟩
def flatV : V → Bool
  | .non => true
  | .bl _ => true
  | .int _ => true
  | .str _ => true
  | _ => false
def eqV : V → V → Bool
  | .non, .non => true
  | .bl a, .bl b => a == b
  | .bl a, .int b => (if a then 1 else 0) == b
  | .int a, .bl b => a == (if b then 1 else 0)
  | .int a, .int b => a == b
  | .str a, .str b => a == b
  | _, _ => false
theorem eqAt_V {A : Around} {s : Shared} {y x : V} {u v : Value} (ry : RelV y u) (rx : RelV x v) (fy : flatV y = true) (fx : flatV x = true) : SeqAt.EqAt A s u v (eqV y x) := by
  cases y with
  | non =>
    cases ry
    cases x with
    | non => cases rx; exact SeqAt.EqAt.same _
    | bl b => cases rx; exact SeqAt.EqAt.none_bool b
    | int b => obtain ⟨t, rfl⟩ := rx; exact SeqAt.EqAt.none_int b t
    | str b => obtain ⟨t, rfl⟩ := rx; exact SeqAt.EqAt.none_str b t
    | _ => exact absurd (show false = true from fx) Bool.false_ne_true
  | bl a =>
    cases ry
    cases x with
    | non => cases rx; exact SeqAt.EqAt.bool_none a
    | bl b => cases rx; exact SeqAt.EqAt.bool_bool a b
    | int b => obtain ⟨t, rfl⟩ := rx; exact SeqAt.EqAt.bool_int a b t
    | str b => obtain ⟨t, rfl⟩ := rx; exact SeqAt.EqAt.bool_str a b t
    | _ => exact absurd (show false = true from fx) Bool.false_ne_true
  | int a =>
    obtain ⟨t', rfl⟩ := ry
    cases x with
    | non => cases rx; exact SeqAt.EqAt.int_none a t'
    | bl b => cases rx; exact SeqAt.EqAt.int_bool a t' b
    | int b => obtain ⟨t, rfl⟩ := rx; exact SeqAt.EqAt.int_int a t' b t
    | str b => obtain ⟨t, rfl⟩ := rx; exact SeqAt.EqAt.int_str a t' b t
    | _ => exact absurd (show false = true from fx) Bool.false_ne_true
  | str a =>
    obtain ⟨t', rfl⟩ := ry
    cases x with
    | non => cases rx; exact SeqAt.EqAt.str_none a t'
    | bl b => cases rx; exact SeqAt.EqAt.str_bool a t' b
    | int b => obtain ⟨t, rfl⟩ := rx; exact SeqAt.EqAt.str_int a t' b t
    | str b => obtain ⟨t, rfl⟩ := rx; exact SeqAt.EqAt.str_str a t' b t
    | _ => exact absurd (show false = true from fx) Bool.false_ne_true
  | _ => exact absurd (show false = true from fy) Bool.false_ne_true
theorem call_len_seq : CallR X (.builtin "len") (fun xs H Q => ∃ p ys, xs = [.ref p] ∧ (SqL X.K H p ys ∨ SqT X.K H p ys) ∧ Q (.int ys.length) H) := by
  intro pins s σ H xs us Q I r h
  obtain ⟨p, ys, rfl, hq, q⟩ := h
  obtain ⟨u, rfl, rx⟩ := vals1 r
  cases rx
  have hn := line63
  rcases hq with hq | hq
  · obtain ⟨its, r', pl, hz⟩ := I.list hq
    have hlen := r'.length
    exact Calls.call_len_list pl.isList (by simp only [List.size_toArray] <;> omega) ⟨.int ys.length, H, I.tok _, ⟨s.toks + 1, by rw [List.size_toArray, hlen]⟩, q⟩
  · obtain ⟨its, r', pl, hz⟩ := I.tuple hq
    have hlen := r'.length
    exact len_tuple pl (by simp only [List.size_toArray] <;> omega) ⟨.int ys.length, H, I.tok _, ⟨s.toks + 1, by rw [List.size_toArray, hlen]⟩, q⟩
theorem call_list_of : CallR X (.type "list") (fun xs H Q => ∃ p ys, xs = [.ref p] ∧ (SqL X.K H p ys ∨ SqT X.K H p ys) ∧ ∀ l, H l = none → Q (.ref l) (upd H l (.lst ys))) := by
  intro pins s σ H xs us Q I r h
  obtain ⟨p, ys, rfl, hq, q⟩ := h
  obtain ⟨u, rfl, rx⟩ := vals1 r
  cases rx
  have fin : ∀ (its : List Value), Vals ys its → ys.length ≤ sizeLine → ∀ (h' : Heap) (c' : Nat), (∀ b o', s.heap.get? b = some o' → h'.get? b = some o') →
      h'.get? s.heap.objs.size = some { cls := .type "list", dict := none, data := .seq its.toArray c', slots := #[] } → EP X pins σ Q (.ref s.heap.objs.size) { s with heap := h' } := fun its r' hz h' c' kp e =>
    ⟨.ref s.heap.objs.size, _, I.laid (t' := s.toks) kp (Nat.le_refl _) (show ObjOk X.prog X.w _ h' _ (.lst ys) from ⟨hz, its, c', r', e⟩), rfl, q _ (I.hok.fresh (Nat.le_refl _))⟩
  rcases hq with hq | hq
  · obtain ⟨its, r', pl, hz⟩ := I.list hq
    have hlen := r'.length
    obtain ⟨o, ho, hc, n, hd⟩ := pl.isList
    exact call_list_seq p (.inl rfl) ho hc hd (fun h' c' kp e => fin its r' hz h' c' kp e) (by simp only [List.size_toArray] <;> omega)
  · obtain ⟨its, r', pl, hz⟩ := I.tuple hq
    have hlen := r'.length
    obtain ⟨o, ho, hc, n, hd⟩ := pl
    exact call_list_seq p (.inr rfl) ho hc hd (fun h' c' kp e => fin its r' hz h' c' kp e) (by simp only [List.size_toArray] <;> omega)
def tyV (K : PySem.W.Frag) (T : String) (x : V) (H : Hp) : Prop := match x with
  | .str _ => T = "str"
  | .int _ => T = "int"
  | .ref p => (T = "list" ∧ ∃ xs, SqL K H p xs) ∨ (T = "tuple" ∧ ∃ o, K.lookup p = some o ∧ o.cls = .type "tuple" ∧ o.dict = none) ∨
      (T = "dict" ∧ ((∃ kvs, H p = some (.dK kvs)) ∨ ∃ kvs, H p = some (.dT kvs))) ∨ (T = "set" ∧ ∃ S n, H p = some (.set S n))
  | _ => False
theorem tyV_is {pins : List (Addr × Obj)} {σ : St} {H : Hp} {s : Shared} {T : String} {x : V} {v : Value} (I : Inv X pins σ H s) (r : RelV x v) (ty : tyV X.K T x H) :
    s.TypeIs v T ∧ ∀ a, v = .ref a → ∃ ob, s.heap.get? a = some ob ∧ ob.dict = none := by
  cases x with
  | str z =>
    obtain ⟨t, rfl⟩ := r
    cases (show T = "str" from ty)
    exact ⟨typeIs_str s z t, fun _ e => nomatch e⟩
  | int i =>
    obtain ⟨t, rfl⟩ := r
    cases (show T = "int" from ty)
    exact ⟨typeIs_int s i t, fun _ e => nomatch e⟩
  | ref p =>
    cases r
    rcases ty with ⟨rfl, xs, hq⟩ | ⟨rfl, o, hk, hc, hd⟩ | ⟨rfl, hk⟩ | ⟨rfl, S, n, hk⟩
    · obtain ⟨its, _, pl, _⟩ := I.list hq
      refine ⟨pl.isList.typeIs, fun a e => ?_⟩
      cases e
      obtain ⟨o, n, e, c, hd, _⟩ := pl
      exact ⟨o, e, hd⟩
    · refine ⟨⟨o, I.kIn p o hk, hc⟩, fun a e => ?_⟩
      cases e
      exact ⟨o, I.kIn _ o hk, hd⟩
    · have z : ∃ o, s.heap.get? p = some o ∧ o.ExactDict := by
        rcases hk with ⟨kvs, hk⟩ | ⟨kvs, hk⟩
        · obtain ⟨_, _, _, _, o, _, _, e, ex, _⟩ := I.hok p _ hk
          exact ⟨o, e, ex⟩
        · obtain ⟨_, _, _, _, o, _, _, e, ex, _⟩ := I.hok p _ hk
          exact ⟨o, e, ex⟩
      obtain ⟨o, e, ex⟩ := z
      refine ⟨⟨o, e, ex.1⟩, fun a e2 => ?_⟩
      cases e2
      exact ⟨o, e, ex.2.1⟩
    · obtain ⟨o, _, _, _, e, ex, _⟩ := I.hok p _ hk
      refine ⟨⟨o, e, ex.1⟩, fun a e2 => ?_⟩
      cases e2
      exact ⟨o, e, ex.2.1⟩
  | _ => exact False.elim ty
def tBM (K : PySem.W.Frag) (T : String) (r : V → List V → Hp → VK → Prop) (to : TE) (t : TA) : TE := fun σ H Q => to σ H fun x H1 => tyV K T x H1 ∧ t σ H1 fun xs H2 => r x xs H2 Q
variable {o e : Expr} {es : List Expr} {to : TE} {t : TA} {name : Str} {apos cpos : Pos} {T id : String} {r : V → List V → Hp → VK → Prop}
theorem pe_bm (pa : PlainAttrs T) (slot : Slot T name id) (hty : typeOf (.builtin id) = pure (.type "method_descriptor")) (hm : MtR X id r) (ho : PE X o to) (ha : PA X (e :: es) t)
    (hbase : attributeBase o name X.env (eval o X.env) = eval o X.env := by rfl)
    (hfew : ((backTo cpos (starEach (e :: es) X.env)).all (fun x => !x.1) && (backToKw cpos (keywordEach [] X.env)).all (fun x => x.1.isSome)
      && decide ((e :: es).length + ([] : List Keyword).length + (if ([] : List Keyword).isEmpty then 0 else 1) < 30)) = true := by rfl)
    (hline : (apos.endLine == cpos.line) = true := by rfl) (hs : starEach (e :: es) X.env = (false, eval e X.env) :: starEach es X.env := by rfl) (hplain : (backTo cpos (starEach es X.env)).any (·.1) = false := by rfl) :
    PE X (.Call (.Attribute o name apos) (e :: es) [] cpos) (tBM X.K T r to t) := by
  intro pins s σ H Q I h
  refine wpAny_Call_method_late hbase hfew hline rfl (thn (ho pins s σ H _ I h) fun v s1 ⟨x, H1, I1, r1, ty, q1⟩ => ?_)
  obtain ⟨h1, h2⟩ := tyV_is I1 r1 ty
  refine ⟨T, id, pa, slot, hty, h1, h2, ?_⟩
  have hA := ha cpos pins s1 σ H1 _ I1 q1
  rw [hs] at hA ⊢
  refine Calls.callWith_builtin (by show (false || (backTo cpos (starEach es X.env)).any (·.1)) = false; rw [hplain] <;> rfl) (Calls.evalArgs_plain ?_)
  exact thn hA fun us s2 ⟨vs, H2, I2, r2, q2⟩ => hm pins s2 σ H2 x vs v us Q I2 r1 r2 q2
end
end L2
namespace L2
open PySem PySem.Spec PyProof.Rows
def MtM (X : Cx) (id : String) (r : V → List V → Hp → VK → Prop) : Prop :=
  ∀ (pins : List (Addr × Obj)) (s : Shared) (σ : St) (H : Hp) (x : V) (xs : List V) (v : Value) (us : List Value) (Q : VK), Inv X pins σ H s → RelV x v → Vals xs us → r x xs H Q →
    wpAny (model X.prog X.w) X.A (call (.builtin id) (v :: us)) (EP X pins σ Q) X.xe s
theorem Vals.one : ∀ {x : V} {us : List Value}, Vals [x] us → ∃ u, us = [u] ∧ RelV x u
  | _, _, .cons r .nil => ⟨_, rfl, r⟩
theorem Vals.eraseIdx : ∀ {xs : List V} {us : List Value} (i : Nat), Vals xs us → Vals (xs.eraseIdx i) (us.eraseIdx i)
  | _, _, _, .nil => .nil
  | _, _, 0, .cons _ t => t
  | _, _, i + 1, .cons r t => .cons r (Vals.eraseIdx i t)
theorem Vals.reverse {xs : List V} {us : List Value} (h : Vals xs us) : Vals xs.reverse us.reverse := by
  induction h with
  | nil => exact .nil
  | cons r t ih => rw [List.reverse_cons, List.reverse_cons]; exact Vals.append ih (.cons r .nil)
section
variable {X : Cx} {pins : List (Addr × Obj)} {σ : St} {H : Hp} {s : Shared} {l b : Addr} {xs ys zs : List V}
theorem Inv.lset {its its' : List Value} {n : Nat} {f : Array Value → Array Value} {t' : Nat} (I : Inv X pins σ H s) (hH : H l = some (.lst xs))
    (e : s.heap.get? l = some { cls := .type "list", data := .seq its.toArray n }) (hf : f its.toArray = its'.toArray) (hv : Vals ys its') (hz : ys.length ≤ sizeLine) :
    Inv X pins σ (upd H l (.lst ys)) { s with heap := s.heap.update l (Obj.mapSeq f), toks := t' } := by
  have q := PySem.IsL.update e f
  rw [hf] at q
  refine I.write (x := l) (e := l) (by rw [hH]; exact trivial) (.inl rfl) (fun b' u hb hu => (Heap.get?_update_other s.heap (Obj.mapSeq f) (Ne.symm hb)).trans hu) ⟨_, q⟩ ?_
  exact ⟨hz, its', _, hv, q⟩
theorem Inv.lnew {its : List Value} {t' : Nat} (I : Inv X pins σ H s) (hv : Vals ys its) (hz : ys.length ≤ sizeLine) :
    Inv X pins σ (upd H s.heap.objs.size (.lst ys)) { s with heap := s.heap.push { cls := .type "list", data := .seq its.toArray }, toks := t' } :=
  I.laid (fun _ _ q => Heap.get?_push_of_some _ q) (Nat.le_refl _) ⟨hz, its, 0, hv, Heap.get?_push_size _ rfl⟩
theorem Inv.fresh (I : Inv X pins σ H s) : H s.heap.objs.size = none := I.hok.fresh (Nat.le_refl _)
theorem Inv.lstM (I : Inv X pins σ H s) (hH : H l = some (.lst xs)) : xs.length ≤ sizeLine ∧ ∃ (its : List Value) (n : Nat), Vals xs its ∧ xs.length = its.length ∧ s.heap.get? l = some { cls := .type "list", data := .seq its.toArray n } := by
  obtain ⟨z, its, n, r, e⟩ := I.hok l _ hH
  exact ⟨z, its, n, r, r.length, e⟩
end
section
variable {X : Cx}
def rAppend : V → List V → Hp → VK → Prop := fun x vs H Q => ∃ l xs y, x = .ref l ∧ vs = [y] ∧ H l = some (.lst xs) ∧ xs.length < sizeLine ∧ Q .non (upd H l (.lst (xs ++ [y])))
theorem mt_append : MtM X "list.append" rAppend := by
  intro pins s σ H x vs v us Q I rx rv h
  obtain ⟨l, xs, y, rfl, rfl, hH, hz, q⟩ := h
  cases rx
  obtain ⟨u, rfl, ru⟩ := rv.one
  obtain ⟨z, its, n, r, hl, e⟩ := I.lstM hH
  refine call_meets F.slot_list_append ⟨_, e, rfl⟩ F.entry_list_append (F.args_list_append_2 _ _) (PySem.list_append l its.toArray n u (by rw [List.size_toArray]; omega)) ⟨e, ?_⟩
  refine ⟨.non, _, I.lset (its' := its ++ [u]) hH e (by simp) (r.append (.cons ru .nil)) ?_, rfl, q⟩
  rw [List.length_append, List.length_singleton]
  omega
end
section
variable {prog : Program} {w : World} {A : Around} {E : Value → Shared → Prop} {s : Shared}
end
section
variable {X : Cx}
end
end L2
namespace Att
open PySem PySem.W PySem.Calls PyProof.Rows
theorem ints_of_wellAll {P : Params} {h : Heap} : ∀ (ns : List Int) (vs : List Value), WellAll P h vs (ns.map WData.int) → IntsAre vs ns := by
  intro ns
  induction ns with
  | nil =>
    intro vs w
    rw [List.map_nil] at w
    cases w
    exact .nil
  | cons n ns ih =>
    intro vs w
    rw [List.map_cons] at w
    cases w with
    | cons a b =>
      cases a
      exact .cons _ _ (ih _ b)
theorem script_of {l : OpenLaw} {n : Nat} (hn : l.most = some n) {P : Params} {h : Heap} {args : List WData} {vals : List Value}
    (hpre : l.row.toRowW.claim.pre args = true) (hwl : WellAll P h vals args) :
    ∃ a vs ns, vals = [Value.ref a] ∧ args = [WData.list (ns.map WData.int)] ∧ h.get? a = some { cls := .type "list", data := .seq vs.toArray } ∧ IntsAre vs ns ∧ ns.length ≤ n := by
  have hsh : WShape.hasAll [] args [.list .int] = true := (pre_splitW hpre).1
  have hc : l.pre.holds [] { args := args } = true := (pre_splitW hpre).2
  obtain ⟨d, r, rfl, h1, h2⟩ := hasAllW_cons hsh
  obtain rfl := hasAllW_nil h2
  obtain ⟨xs, rfl, h3⟩ := hasW_list h1
  obtain ⟨ns, rfl⟩ := items_int h3
  have hlen : ns.length ≤ n := by
    unfold OpenLaw.pre at hc
    have h4 : (WTm.not (.lt (.lit (.int (n : Int))) (.len (.arg 0)))).holds [] { args := [.list (ns.map .int)] } = true := by
      have h4 := (holds_andW hc).1
      rw [hn] at h4
      exact h4
    have h5 := condW_of h4 (w_not (w_lt w_lit (w_len_list (w_arg rfl))))
    rw [List.length_map] at h5
    refine Nat.le_of_not_lt fun q => ?_
    have q' : (n : Int) < ((ns.length : Nat) : Int) := by omega
    first
      | (rw [decide_eq_true q'] at h5; exact absurd h5 (by decide))
      | (simp at h5; omega)
  cases hwl with
  | cons w1 w2 =>
    cases w2
    cases w1 with
    | list ho hall => exact ⟨_, _, ns, rfl, rfl, ho, ints_of_wellAll ns _ hall, hlen⟩
theorem post_true (l : OpenLaw) (args : List WData) : l.row.toRowW.claim.post args (.bool true) args = true :=
  postW_of (r := l.row.toRowW) (X := (true == true))
    (show WShape.has [] (.bool true) .bool = true by first | rfl | decide | simp [WShape.has, WShape.arms, WShape.armsAll])
    (show (WTm.eq .res (.lit (.bool true))).value [] { args := args, res := some (.bool true), after := args } = some (.bool (true == true)) from w_eq_bool (w_res rfl) w_lit) rfl
theorem attach_call {l : OpenLaw} {n : Nat} {q : Program} {loose : List Str} {XP : (Str → Option Value) → Heap → Prop} {YP : World → Heap → Prop} {d : DefRec}
    (hn : l.most = some n) (hdf : d.params.defaults = [])
    (call : ∀ (w : World) (s₀ s₁ : Shared) (mg mb : Str → Option Value) (fa : Addr) (o : Obj) (pm cd doc : Value) (a : Addr) (vs : List Value) (ns : List Int),
      Ground q loose [] XP w s₀ mg mb s₁.heap → YP w s₁.heap →
      s₁.heap.get? fa = some o → o.data = .func (docDef d.name d.params d.body d.scope pm cd doc) → s₁.heap.CodeRec cd d.name → mg d.name = some (.ref fa) →
      s₁.heap.get? a = some { cls := .type "list", data := .seq vs.toArray } → IntsAre vs ns → ns.length ≤ n → s₁.gens = #[] →
      codeAny (model l.prog w) callerA (.call (.ref fa) ⟨[.ref a], []⟩) (fun r s' => r = .ok (.ret (.bool true)) ∧ OldK s₁.heap s'.heap ∧ s'.os = s₁.os ∧ AllBare s'.gens) s₁) :
    WalkO q loose XP YP l.row.toRowW d [] (fun f vs => PySem.call f vs) := by
  intro w s₀ s₁ mg mb G Y fa o pm cd doc dV kV ho hd hcd hD hmg hg args vals as hpre hlay hrd hwl hlo
  obtain rfl : dV = .none := Dflts.none hD hdf
  obtain rfl : kV = .none := Dflts.noKw hD
  obtain ⟨a, vs, ns, rfl, rfl, hobj, hints, hlen⟩ := script_of hn hpre hwl
  refine enter_call (codeAny_mono (call w s₀ s₁ mg mb fa o pm cd doc a vs ns G Y ho (fd_plain hd) hcd hmg hobj hints hlen hg) fun r s' hq => ?_)
  obtain ⟨rfl, h2, h3, h4⟩ := hq
  exact ⟨.inl ⟨.bool true, .bool true, [], rfl, fun _ => rfl, .bool true, post_true l _, fun _ => ⟨List.Pairwise.nil, fun _ hm => (nomatch hm)⟩⟩, h2, h3, h4⟩
section
variable {prog : Program} {w : World} {A : Around} {E : Value → Shared → Prop} {s : Shared} {K : Frag}
end
end Att
namespace L2
open PySem PySem.Spec PyProof.Rows
theorem vals_ints : ∀ {vs : List Value} {ns : List Int}, IntsAre vs ns → Vals (ns.map V.int) vs
  | _, _, .nil => .nil
  | _, _, .cons n t h => .cons ⟨t, rfl⟩ (vals_ints h)
def Only (H : Hp) : Prop := ∀ b, H b = none ∨ ∃ o xs, H b = some (.frz o (.lst xs))
theorem law_call {P : Program} {w : World} {K : PySem.W.Frag} {mg mb : Str → Option Value} {CX : CXT} {k : Nat} {fa a : Addr} {fd : FuncData} {x : Str} {sp : Sp} {s₁ : Shared} {vs : List Value} {ns : List Int}
    (KX : K.In s₁.heap) (hns : s₁.heap.Ns mainGlobals mg) (hb : s₁.heap.Ns builtinsNs mb) (hbb : ∀ x : Str, x ≠ "__name__" → mb x = bootBuiltins x) (hlim : s₁.heap.NoLimit) (hg : s₁.gens = #[])
    (ha : s₁.heap.get? a = some { cls := .type "list", data := .seq vs.toArray }) (hi : IntsAre vs ns) (hl : ns.length ≤ sizeLine) (hr : Room k callerA)
    (F : ∀ base : Heap, K.In base → base.Ns mainGlobals mg → FnOk P w K mg base CX k fa fd [x] sp) (hbind : ∀ (s : Shared) (u : Value), BindsTo s fd ⟨[u], []⟩ [(x, u)])
    (hsp : ∀ H : Hp, Only H → SqL K H a (ns.map V.int) → sp [.ref a] H (fun v _ => v = .bl true) fun _ _ _ => False)
    (hCX : ∀ H e s', CX [] H s₁ (fun _ _ _ => False) e s' → False) :
    codeAny (model P w) callerA (.call (.ref fa) ⟨[.ref a], []⟩) (fun r s' => r = .ok (.ret (.bool true)) ∧ OldK s₁.heap s'.heap ∧ s'.os = s₁.os ∧ AllBare s'.gens) s₁ := by
  have rv := vals_ints hi
  have lenV := hi.length
  have core : ∀ H : Hp, Only H → SqL K H a (ns.map V.int) → HOk P w H s₁.heap → (∀ b, H b ≠ none → b = a) → (H a ≠ none → K.lookup a = none) →
      codeAny (model P w) callerA (.call (.ref fa) ⟨[.ref a], []⟩) (fun r s' => r = .ok (.ret (.bool true)) ∧ OldK s₁.heap s'.heap ∧ s'.os = s₁.os ∧ AllBare s'.gens) s₁ := by
    intro H hO hS hok hA hK
    have base_of : ∀ {b : Addr} {o : Obj}, s₁.heap.get? b = some o → H b = none → (hidT s₁.heap H).get? b = some o := fun e n => hidT_get e n
    have noA : ∀ {b : Addr} {o : Obj} {es : Array DictEntry} {ep : Nat}, s₁.heap.get? b = some o → o.data = .dict es ep → H b = none := fun {b o es ep} e d => by
      cases q : H b with
      | none => rfl
      | some u =>
        have e' : b = a := hA b (by rw [q]; simp)
        subst e'
        rw [ha] at e; cases e
        have d' : Data.seq vs.toArray _ = Data.dict es ep := d
        cases d'
    have nsK : ∀ {b : Addr} {m : Str → Option Value}, s₁.heap.Ns b m → (hidT s₁.heap H).Ns b m := fun {b m} ⟨o, es, ep, e, d, r⟩ => ⟨o, es, ep, base_of e (noA e d), d, r⟩
    have hKb : K.In (hidT s₁.heap H) := fun b o e => base_of (KX b o e) (by
      cases q : H b with
      | none => rfl
      | some u =>
        have e' : b = a := hA b (by rw [q]; simp)
        subst e'
        rw [hK (by rw [q]; simp)] at e; cases e)
    have hM : Mod K mg (hidT s₁.heap H) := ⟨hKb, nsK hns, ⟨mb, nsK hb, hbb⟩, let ⟨mc, h1, h2⟩ := hlim; ⟨mc, nsK h1, h2⟩⟩
    have e0 : Env0 P w K mg (hidT s₁.heap H) callerA [] s₁ H := ⟨rfl, hM, fun b o e => of_hidT e, Nat.le_of_eq (hidT_size _ _), trivial, fun b hb => absurd (show b ∈ ([] : List Addr) from hb) (by simp), hok, .of_eq hg⟩
    refine codeAny_mono ((F _ hKb (nsK hns)).run callerA [] s₁ H ⟨[.ref a], []⟩ [.ref a] [.ref a] _ _ hr e0 (hbind s₁ (.ref a)) (.cons rfl .nil) (hsp H hO hS)) fun r s' h => ?_
    cases r with
    | error e => exact (hCX H e s' h).elim
    | ok fl =>
      cases fl with
      | next => exact False.elim h
      | brk => exact False.elim h
      | cont => exact False.elim h
      | ret u =>
        obtain ⟨v, H', os, bare, un, hok', r', q⟩ := h
        have q' : v = .bl true := q
        subst q'
        obtain rfl : u = Value.bool true := r'
        refine ⟨rfl, OldK.of_keep fun b o e => ?_, os, bare⟩
        cases q : H b with
        | none => exact un.keep b o e q (by intro z; exact absurd (show b ∈ ([] : List Addr) from z) (by simp)) (by simp)
        | some u =>
          rcases hO b with z | ⟨ob, xs, z⟩
          · rw [q] at z; cases z
          · have z2 := un.frzs b ob _ z
            obtain ⟨e1, _⟩ := hok b _ z
            obtain ⟨e2, _⟩ := hok' b _ z2
            rw [e] at e1; cases e1
            exact e2
  cases hk : K.lookup a with
  | some o =>
    have e := KX a o hk
    rw [ha] at e
    cases e
    refine core (fun _ => none) (fun _ => .inl rfl) (.inr ⟨_, vs.toArray, _, hk, rfl, rfl, rfl, by rw [List.size_toArray, lenV]; exact hl, by simpa using rv⟩) (fun b u z => by have z' : (none : Option HO) = some u := z; cases z') (fun b z => absurd rfl z) fun z => absurd rfl z
  | none =>
    refine core (fun b => if b = a then some (.frz { cls := .type "list", data := .seq vs.toArray } (.lst (ns.map V.int))) else none) (fun b => ?_) (.inl (.inr ⟨{ cls := .type "list", data := .seq vs.toArray }, if_pos rfl⟩)) (fun b u z => ?_) (fun b z => ?_) fun _ => hk
    · by_cases hb : b = a
      · exact .inr ⟨_, _, if_pos hb⟩
      · exact .inl (if_neg hb)
    · by_cases hb : b = a
      · have z' := (if_pos hb).symm.trans z
        cases z'
        subst hb
        exact ⟨ha, by rw [List.length_map]; exact hl, vs, _, rv, ha⟩
      · have z' := (if_neg hb).symm.trans z
        cases z'
    · by_cases hb : b = a
      · exact hb
      · exact absurd (if_neg hb) z
end L2
namespace L2
open PySem PySem.Spec PyProof.Rows
theorem walk_of {l : PySem.W.OpenLaw} {n k : Nat} {q : Program} {loose : List Str} {XP : (Str → Option Value) → Heap → Prop} {YP : World → Heap → Prop} {d : DefRec} {K : Params → PySem.W.Frag} {CX : World → CXT} {sp : World → Sp} {x : Str}
    (hn : l.most = some n) (hn2 : n ≤ sizeLine) (hdf : d.params.defaults = []) (hr : Room k callerA)
    (hY : ∀ (w : World) (h : Heap), YP w h → (K w.params).In h)
    (F : ∀ (w : World) (mg : Str → Option Value) (fa : Addr) (h : Heap), (K w.params).In h → h.Ns mainGlobals mg → mg d.name = some (.ref fa) →
      ∃ fd : FuncData, (∀ (s : Shared) (u : Value), BindsTo s fd ⟨[u], []⟩ [(x, u)]) ∧
        ∀ base : Heap, (K w.params).In base → base.Ns mainGlobals mg → FnOk l.prog w (K w.params) mg base (CX w) k fa fd [x] (sp w))
    (hsp : ∀ (w : World) (H : Hp) (a : Addr) (ns : List Int), ns.length ≤ n → Only H → SqL (K w.params) H a (ns.map V.int) → sp w [.ref a] H (fun v _ => v = .bl true) fun _ _ _ => False)
    (hCX : ∀ (w : World) (H : Hp) (s : Shared) (e : Value) (s' : Shared), CX w [] H s (fun _ _ _ => False) e s' → False) :
    PySem.W.WalkO q loose XP YP l.row.toRowW d [] (fun f vs => PySem.call f vs) := by
  refine Att.attach_call hn hdf fun w s₀ s₁ mg mb fa o pm cd doc a vs ns G Y ho hd hcd hmg hobj hints hlen hg => ?_
  have KX := hY w _ Y
  obtain ⟨fd, hb, hF⟩ := F w mg fa _ KX G.T.g hmg
  exact law_call KX G.T.g G.T.b G.T.builtins G.T.nolimit hg hobj hints (Nat.le_trans hlen hn2) hr hF hb (fun H hO hS => hsp w H a ns hlen hO hS) fun H e s' => hCX w H s₁ e s'
end L2
namespace L2
open PySem PySem.Spec PyProof.Rows
def defArgs (s : Stmt) : Arguments := match s with
  | .FunctionDef _ a _ _ _ _ _ _ _ _ => a
  | _ => { posonlyargs := [], args := [], vararg := none, kwonlyargs := [], kw_defaults := [], kwarg := none, defaults := [] }
def defBody (s : Stmt) : List Stmt := match s with
  | .FunctionDef _ _ b _ _ _ _ _ _ _ => b
  | _ => []
def defScope (s : Stmt) : Scope := match s with
  | .FunctionDef _ _ _ _ _ _ sc _ _ _ => sc
  | _ => { kind := .function, names := [], isGenerator := false, isCoroutine := false }
abbrev CX0 : CXT := fun _ _ _ _ _ _ => False
abbrev E0 : XK := fun _ _ _ => False
theorem pass0 {X : Cx} : Passes CX0 X E0 := fun _ _ _ _ _ _ _ h => h.elim
structure Fun (K : PySem.W.Frag) (x qual : Str) (st : Stmt) (f : Addr) (fd : FuncData) : Prop where
  ex : ∃ (oc : Value) (od : Option Addr) (kV doc pm : Value) (an : Option Addr) (cdv ct : Value) (osl : Array (Option Value)),
    fd = PySem.W.fnOf x qual (defArgs st) (defBody st) (defScope st) .none kV doc pm an cdv ct ∧ K.lookup f = some ⟨oc, od, .func fd, osl⟩ ∧ PySem.W.codeIn K cdv qual = true
  kp : PySem.W.keepIn K (.ref f) = true
section
variable {P : Program} {w : World} {K : PySem.W.Frag} {mg : Str → Option Value} {base : Heap}
theorem Fun.ok {x qual : Str} {st : Stmt} {f : Addr} {fd : FuncData} {N ps : List Str} {k : Nat} {sp : Sp} (F : Fun K x qual st f fd) (S : FnScope N ps (defScope st)) (len : ∀ vs H Q E, sp vs H Q E → vs.length = ps.length)
    (hbody : ∀ (cdv : Value) (A : Around) (outer : List Env) (s : Shared) (H : Hp) (vs : List V) (Q : VK) (E : XK), Room k (A.deeper (envOfC qual (defScope st) s.heap.objs.size f cdv)) → sp vs H Q E →
      ∃ t, PSs (cxOf CX0 P w K mg base N qual (defScope st) f cdv A outer s H E).nox (defBody st) t ∧ t { nx := fun _ H' => Q .non H', rt := Q } (start N vs) H) : FnOk P w K mg base CX0 (k + 1) f fd ps sp := by
  obtain ⟨oc, od, kV, doc, pm, an, cdv, ct, osl, rfl, lk, hcd⟩ := F.ex
  refine fn_of lk hcd S len fun A outer s H vs Q E hr hsp => ?_
  obtain ⟨t, h, q⟩ := hbody cdv A outer s H vs Q E hr hsp
  exact ⟨t, h.nox, q⟩
theorem Fun.binds {x qual : Str} {st : Stmt} {f : Addr} {fd : FuncData} {ps : List Str} (F : Fun K x qual st f fd)
    (h : ∀ (kV doc pm : Value) (an : Option Addr) (cdv ct : Value) (us : List Value), us.length = ps.length → bindArgs (PySem.W.fnOf x qual (defArgs st) (defBody st) (defScope st) .none kV doc pm an cdv ct) ⟨us, []⟩ = pure (ps.zip us)) : Binds K fd ps [] := by
  obtain ⟨oc, od, kV, doc, pm, an, cdv, ct, osl, rfl, lk, hcd⟩ := F.ex
  exact .all (h kV doc pm an cdv ct)
theorem fun_mk {x qual : Str} {st : Stmt} {f : Addr} {oc : Value} {od an : Option Addr} {osl : Array (Option Value)} {kV doc pm cdv ct : Value} (l : K.lookup f = some ⟨oc, od, .func (PySem.W.fnOf x qual (defArgs st) (defBody st) (defScope st) .none kV doc pm an cdv ct), osl⟩)
    (c : PySem.W.codeIn K cdv qual = true) (k : PySem.W.keepIn K (.ref f) = true) : Fun K x qual st f (PySem.W.fnOf x qual (defArgs st) (defBody st) (defScope st) .none kV doc pm an cdv ct) := ⟨⟨oc, od, kV, doc, pm, an, cdv, ct, osl, rfl, l, c⟩, k⟩
end
theorem hu_of {A : Around} {k : Nat} (hr : Room k A) : A.units + 1 < cLine := Nat.lt_of_le_of_lt (Nat.add_le_add_left (by decide : 1 ≤ 64) _) hr.units
section
variable {X : Cx}
theorem pv (i : Nat) {x : Str} {pos : Pos} (hN : X.N[i]? = some x := by rfl) (hv : Vis X.env.scope x := by first | exact Or.inl rfl | exact Or.inr (Or.inl rfl) | exact Or.inr (Or.inr rfl)) (hd : (x == ("__debug__" : Str)) = false := by decide)
    (hcd : (x == ("__classdict__" : Str)) = false := by decide) : PE X (.Name x pos) (tVar i) := pe_var hN hv hd hcd
end
theorem iteF {A B : Prop} (h : B) : if false = true then A else B := by
  rw [if_neg Bool.false_ne_true]
  exact h
theorem iteT {A B : Prop} (h : A) : if true = true then A else B := by
  rw [if_pos rfl]
  exact h
def Same (H H' : Hp) : Prop := ∀ b o, H b = some o → H' b = some o
theorem Same.refl (H : Hp) : Same H H := fun _ _ h => h
theorem Same.trans {H H1 H2 : Hp} (a : Same H H1) (b : Same H1 H2) : Same H H2 := fun c o h => b c o (a c o h)
theorem Same.free {H H' : Hp} (e : Same H H') {l : Addr} (h : H' l = Option.none) : H l = Option.none := by
  cases q : H l with
  | none => rfl
  | some o =>
    rw [e l o q] at h
    cases h
theorem Same.seq {K : PySem.W.Frag} {H H' : Hp} {a : Addr} {xs : List V} (e : Same H H') (h : SqL K H a xs) : SqL K H' a xs := by
  rcases h with (h | ⟨o, h⟩) | h
  · exact .inl (.inl (e _ _ h))
  · exact .inl (.inr ⟨o, e _ _ h⟩)
  · exact .inr h
end L2
namespace L2
open PySem PySem.Spec PyProof.Rows
section
variable {X : Cx}
end
section
variable {κ : Type} [DecidableEq κ]
end
end L2
set_option Elab.async false
set_option linter.all false
set_option maxRecDepth 100000
set_option maxHeartbeats 4000000
namespace L2
open PySem PySem.Spec PyProof.Rows
def CMulB (i j : Int) : Prop := ∃ n : Nat, n ≤ 60000000 ∧ i.natAbs < 2 ^ n ∧ j.natAbs < 2 ^ n
theorem bits_le {x : Int} {n : Nat} (h : x.natAbs < 2 ^ n) : Builtin.Int.intBits x ≤ n := by
  unfold Builtin.Int.intBits
  by_cases e : (x == 0) = true
  · rw [if_pos e]; exact Nat.zero_le _
  · rw [if_neg e]
    have hx : x.natAbs ≠ 0 := by
      intro z
      have : x = 0 := by omega
      rw [this] at e
      exact e rfl
    exact (Nat.log2_lt hx).mpr h
theorem CMulB.ok {i j : Int} (h : CMulB i j) : IntMulOk i j := by
  obtain ⟨n, hn, h1, h2⟩ := h
  have b1 := bits_le h1
  have b2 := bits_le h2
  intro z
  simp only [Bool.and_eq_true, Builtin.Int.intTooBig, decide_eq_true_eq] at z
  have e : (bitsLine : Nat) = 134217728 := by decide
  have z2 := z.2
  rw [e] at z2
  omega
def CMulX (i j : Int) : Prop := CMul i j ∨ CMulB i j
def CDivB (_ j : Int) : Prop := j ≠ 0 ∧ j.natAbs < 2 ^ 8000
theorem CDivB.ok {i j : Int} (h : CDivB i j) : Builtin.divisionGoesByPylong i j = false := by
  refine PyProof.noPylong_of_log2 ?_
  have hx : j.natAbs ≠ 0 := by have := h.1; omega
  have := (Nat.log2_lt hx).mpr h.2
  omega
section
variable {X : Cx}
theorem op_mulB : OpR X (binaryOp .Mult) (rI CMulX fun i j => .int (i * j)) := opI fun _ _ _ _ _ _ _ hc q => mul_int q (hc.elim CMul.ok CMulB.ok)
theorem op_fdivB : OpR X (binaryOp .FloorDiv) (rI CDivB fun i j => .int (i.fdiv j)) := opI fun _ _ _ _ _ _ _ hc q => floordiv_int hc.1 q (.inl hc.ok)
end
section
variable {X : Cx} {pins : List (Addr × Obj)} {σ : St} {H : Hp} {s : Shared} {a : Addr} {kvs : List (Key × V)}
end
theorem kV_of_is {P : Program} {w : World} {k : Key} {u : Value} (h : (mixKind P w).is k u = true) : RelV (kV k) u := by
  rcases keyIs_shape (k := k) (v := u) h with ⟨i, t, rfl, rfl⟩ | ⟨x, t, rfl, rfl⟩
  · exact ⟨t, rfl⟩
  · exact ⟨t, rfl⟩
theorem KV.at {kvs : List (Key × V)} {vs : List (Key × Value)} (r : KV kvs vs) : ∀ {i : Nat} {k : Key} {v : V}, kvs[i]? = some (k, v) → ∃ u, vs[i]? = some (k, u) ∧ RelV v u := by
  unfold KV at r
  induction r with
  | nil => intro i k v h; simp at h
  | @cons p q ps qs h t ih =>
    intro i k v e
    cases i with
    | zero =>
      simp at e
      subst e
      have e1 : k = q.1 := h.1
      exact ⟨q.2, by rw [e1]; rfl, h.2⟩
    | succ i => simpa using ih (i := i) (k := k) (v := v) (by simpa using e)
section
variable {X : Cx}
end
section
variable {X : Cx}
end
def All2 (R : V → V → Prop) : List V → List V → Prop
  | [], [] => True
  | x :: xs, y :: ys => R x y ∧ All2 R xs ys
  | _, _ => False
theorem All2.length {R : V → V → Prop} : ∀ {xs ys : List V}, All2 R xs ys → xs.length = ys.length
  | [], [], _ => rfl
  | _ :: xs, _ :: ys, h => by rw [List.length_cons, List.length_cons, All2.length h.2]
  | [], _ :: _, h => h.elim
  | _ :: _, [], h => h.elim
theorem All2.get {R : V → V → Prop} : ∀ {xs ys : List V} {j : Nat} {x y : V}, All2 R xs ys → xs[j]? = some x → ys[j]? = some y → R x y
  | x :: xs, y :: ys, 0, _, _, h, e1, e2 => by simp at e1 e2; subst e1 e2; exact h.1
  | _ :: xs, _ :: ys, j + 1, x, y, h, e1, e2 => All2.get (xs := xs) (ys := ys) (j := j) h.2 (by simpa using e1) (by simpa using e2)
  | [], [], _, _, _, _, e1, _ => by simp at e1
  | [], _ :: _, _, _, _, h, _, _ => h.elim
  | _ :: _, [], _, _, _, h, _, _ => h.elim
def EqT (K : PySem.W.Frag) (H : Hp) : Nat → V → V → Prop
  | 0, x, y => flatV x = true ∧ x = y
  | n + 1, x, y => (flatV x = true ∧ x = y) ∨ ∃ p q xs ys, x = .ref p ∧ y = .ref q ∧ ((SqT K H p xs ∧ SqT K H q ys) ∨ (SqL K H p xs ∧ SqL K H q ys)) ∧ All2 (EqT K H n) xs ys
theorem eqV_refl {x : V} (h : flatV x = true) : eqV x x = true := by
  cases x <;> first | rfl | (simp [eqV]; done) | (simp [flatV] at h)
theorem in1_units (A : Around) : A.in1.units = A.units + 1 := rfl
section
variable {X : Cx} {pins : List (Addr × Obj)} {σ : St} {H : Hp} {s : Shared}
theorem rcT_of {A : Around} {p q : Addr} {xs ys : List V} (I : Inv X pins σ H s) (hk : (SqT X.K H p xs ∧ SqT X.K H q ys) ∨ (SqL X.K H p xs ∧ SqL X.K H q ys)) (hu : A.units < cLine) (hl : xs.length = ys.length)
    (he : ∀ (j : Nat) x y u v, xs[j]? = some x → ys[j]? = some y → RelV x u → RelV y v → SeqAt.EqAt A.in1 s u v true) : SeqAt.RcAt A s (.ref p) (.ref q) true := by
  have fin : ∀ (its its2 : List Value), Vals xs its → Vals ys its2 → ∀ j (h1 : j < its.toArray.size) (h2 : j < its2.toArray.size), SeqAt.EqAt A.in1 s its.toArray[j] its2.toArray[j] true := by
    intro its its2 r1 r2 j h1 h2
    have l1 := r1.length
    have l2 := r2.length
    simp only [List.size_toArray] at h1 h2
    obtain ⟨u, hu1, ru⟩ := r1.get (i := j) (x := xs[j]'(by omega)) (by simp)
    obtain ⟨v, hv1, rv⟩ := r2.get (i := j) (x := ys[j]'(by omega)) (by simp)
    have e1 : its.toArray[j]'(by simpa using h1) = u := by
      have := List.getElem?_eq_some_iff.mp hu1
      obtain ⟨_, z⟩ := this
      simpa using z
    have e2 : its2.toArray[j]'(by simpa using h2) = v := by
      have := List.getElem?_eq_some_iff.mp hv1
      obtain ⟨_, z⟩ := this
      simpa using z
    rw [e1, e2]
    exact he j _ _ u v (by simp) (by simp) ru rv
  rcases hk with ⟨h1, h2⟩ | ⟨h1, h2⟩
  · obtain ⟨its, r1, t1, _⟩ := I.tuple h1
    obtain ⟨its2, r2, t2, _⟩ := I.tuple h2
    have l1 := r1.length
    have l2 := r2.length
    have z := SeqAt.RcAt.tuples (A := A) (e := fun _ => true) t1 t2 hu (fin its its2 r1 r2)
    have e : ((List.range (min its.toArray.size its2.toArray.size)).all (fun _ => true) && its.toArray.size == its2.toArray.size) = true := by
      simp only [List.size_toArray]
      simp
      omega
    rw [e] at z
    exact z
  · obtain ⟨its, r1, t1, _⟩ := I.list h1
    obtain ⟨its2, r2, t2, _⟩ := I.list h2
    have l1 := r1.length
    have l2 := r2.length
    have z := SeqAt.RcAt.lists (A := A) (e := fun _ => true) t1.isList t2.isList (by simp; omega) hu (fin its its2 r1 r2)
    have e : (List.range its.toArray.size).all (fun _ => true) = true := by simp
    rw [e] at z
    exact z
theorem eqT_at (I : Inv X pins σ H s) : ∀ (n : Nat) {A : Around} {x y : V} {u v : Value}, EqT X.K H n x y → RelV x u → RelV y v → A.units + n < cLine → SeqAt.EqAt A s u v true
  | 0, A, x, y, u, v, ⟨f, e⟩, ru, rv, _ => by
    subst e
    have z := eqAt_V (A := A) (s := s) ru rv f f
    rw [eqV_refl f] at z
    exact z
  | n + 1, A, x, y, u, v, .inl ⟨f, e⟩, ru, rv, _ => by
    subst e
    have z := eqAt_V (A := A) (s := s) ru rv f f
    rw [eqV_refl f] at z
    exact z
  | n + 1, A, x, y, u, v, .inr ⟨p, q, xs, ys, hx, hy, hk, al⟩, ru, rv, hu => by
    subst hx hy
    cases ru
    cases rv
    by_cases e : p = q
    · subst e
      exact SeqAt.EqAt.same _
    · refine SeqAt.EqAt.of_refs e (rcT_of I hk (by omega) al.length fun j x y u v h1 h2 r1 r2 => ?_)
      exact eqT_at I n (A := A.in1) (al.get h1 h2) r1 r2 (by rw [in1_units]; omega)
end
section
variable {X : Cx}
theorem valueAt_of {kvs : List (Key × V)} {vs : List (Key × Value)} {k : Key} {y : V} (r : KV kvs vs) (e : valV kvs k = some y) : ∃ u, valueAt vs k = some u ∧ RelV y u :=
  RelO.some_of (v := y) (o := valueAt vs k) (by rw [← e]; exact r.val k)
def DEqT (K : PySem.W.Frag) (H : Hp) (n : Nat) (ka kb : List (Key × V)) : Prop := ka.length = kb.length ∧ ∀ k v, (k, v) ∈ ka → ∃ y, valV kb k = some y ∧ EqT K H n v y
theorem hitsT {pins : List (Addr × Obj)} {σ : St} {H : Hp} {s : Shared} {A : Around} {n : Nat} {kb : List (Key × V)} {vb : List (Key × Value)} (I : Inv X pins σ H s) (hu : A.units + n < cLine) (rb : KV kb vb) :
    ∀ {ka : List (Key × V)} {va : List (Key × Value)}, KV ka va → (∀ k v, (k, v) ∈ ka → ∃ y, valV kb k = some y ∧ EqT X.K H n v y) → PySem.W.KeqHits A s vb va true := by
  intro ka va ra
  unfold KV at ra
  induction ra with
  | nil => intro _; exact .nil
  | @cons p q ps qs h t ih =>
    intro f
    obtain ⟨y, e1, e2⟩ := f p.1 p.2 (List.mem_cons_self ..)
    obtain ⟨u, e3, ru⟩ := valueAt_of rb e1
    have z := PySem.W.KeqHits.hit (A := A) (s := s) (k := q.1) (v := q.2) (y := u) (r := qs) (by rw [← h.1]; exact e3) (eqT_at I n (A := A) e2 h.2 ru hu) (ih fun k v m => f k v (List.mem_cons_of_mem _ m))
    simpa using z
end
end L2
namespace L2
open PySem PySem.Spec PyProof.Rows
section
variable {σ : St} {H : Hp} {Q : VK} {D : Ends} {K : PySem.W.Frag}
theorem a_seq {t u : TS} (h : t { D with nx := u D } σ H) : tSeq t u D σ H := h
theorem a_seqM {t u : TS} (M : St → Hp → Prop) (h1 : ∀ R : St → Hp → Prop, (∀ σ H, M σ H → R σ H) → t { D with nx := R } σ H) (h2 : ∀ σ H, M σ H → u D σ H) : tSeq t u D σ H := h1 (u D) h2
theorem a_asg {te : TE} {g : TG} (h : te σ H fun x H1 => g x σ H1 D.nx) : tAsg te g D σ H := h
theorem a_name {i : Nat} {v : V} {R : St → Hp → Prop} (h : R (σ.set i (some v)) H) : gName i v σ H R := h
theorem a_ret {te : TE} (h : te σ H D.rt) : tRet te D σ H := h
theorem a_drop {te : TE} (h : te σ H fun _ H1 => D.nx σ H1) : tDrop te D σ H := h
theorem a_next (h : D.nx σ H) : tNext D σ H := h
theorem a_if {c : TT} {t u : TS} (h : c σ H fun b H1 => if b = true then t D σ H1 else u D σ H1) : tIfS c t u D σ H := h
theorem a_var {i : Nat} {v : V} (e : σ[i]? = some (some v)) (h : Q v H) : tVar i σ H Q := ⟨v, e, h⟩
theorem a_c {v : V} (h : Q v H) : tC v σ H Q := h
theorem a_op {r : R2} {ta tb : TE} (h : ta σ H fun x H1 => tb σ H1 fun y H2 => r x y H2 Q) : tOp r ta tb σ H Q := h
theorem a_un {r : V → Hp → VK → Prop} {ta : TE} (h : ta σ H fun x H1 => r x H1 Q) : tUn r ta σ H Q := h
theorem a_I0 {g : Int → Int → V} {i j : Int} (h : Q (g i j) H) : rI0 g (.int i) (.int j) H Q := ⟨i, j, rfl, rfl, h⟩
theorem a_I {C : Int → Int → Prop} {g : Int → Int → V} {i j : Int} (c : C i j) (h : Q (g i j) H) : rI C g (.int i) (.int j) H Q := ⟨i, j, rfl, rfl, c, h⟩
theorem a_U {g : Int → V} {i : Int} (h : Q (g i) H) : rU g (.int i) H Q := ⟨i, rfl, h⟩
theorem a_test {t : TE} {R : Bool → Hp → Prop} (h : t σ H fun x H' => ∃ k, x = .bl k ∧ R k H') : tTest t σ H R := h
theorem a_tB {t : TE} {R : Bool → Hp → Prop} (h : t σ H fun x H' => ∃ k, x = .bl k ∧ R k H') : tB t σ H R := h
theorem a_bl {k : Bool} {R : Bool → Prop} (h : R k) : ∃ k', V.bl k = .bl k' ∧ R k' := ⟨k, rfl, h⟩
theorem a_eqI {i j : Int} (h : Q (.bl (decide (i = j))) H) : rEq (.int i) (.int j) H Q := ⟨rfl, by rw [dec_int, Bool.beq_eq_decide_eq]; exact h⟩
theorem a_neI {i j : Int} (h : Q (.bl (!decide (i = j))) H) : rNe (.int i) (.int j) H Q := ⟨rfl, by rw [dec_int, Bool.beq_eq_decide_eq]; exact h⟩
theorem a_eqB {i j : Bool} (h : Q (.bl (i == j)) H) : rEq (.bl i) (.bl j) H Q := ⟨rfl, by rw [dec_bl]; exact h⟩
theorem a_neB {i j : Bool} (h : Q (.bl (!(i == j))) H) : rNe (.bl i) (.bl j) H Q := ⟨rfl, by rw [dec_bl]; exact h⟩
theorem a_call {sp : Sp} {dvs : List V} {E : XK} {t : TA} (h : t σ H fun vs H1 => sp (vs ++ dvs) H1 Q E) : tCall sp dvs E t σ H Q := h
theorem a_cons {ta : TE} {tr : TA} {R : List V → Hp → Prop} (h : ta σ H fun x H1 => tr σ H1 fun xs H2 => R (x :: xs) H2) : tCons ta tr σ H R := h
theorem a_nil {R : List V → Hp → Prop} (h : R [] H) : tNil σ H R := h
theorem a_cb {r : List V → Hp → VK → Prop} {t : TA} (h : t σ H fun vs H1 => r vs H1 Q) : tCB r t σ H Q := h
theorem a_tup {t : TA} (h : t σ H fun xs H1 => xs.length ≤ sizeLine ∧ ∀ p, H1 p = none → Q (.ref p) (upd H1 p (.tup xs))) : tTup t σ H Q := h
theorem a_lst {t : TA} (h : t σ H fun xs H1 => xs.length ≤ sizeLine ∧ ∀ p, H1 p = none → Q (.ref p) (upd H1 p (.lst xs))) : tLst t σ H Q := h
theorem a_ixT {p : Addr} {xs : List V} {i : Int} {v : V} (h : SqT K H p xs) (e : atI xs i = some v) (q : Q v H) : rIxT K (.ref p) (.int i) H Q := ⟨p, xs, i, v, rfl, rfl, h, e, q⟩
theorem a_ixL {p : Addr} {xs : List V} {i : Int} {v : V} (h : SqL K H p xs) (e : atI xs i = some v) (q : Q v H) : rIxL K (.ref p) (.int i) H Q := ⟨p, xs, i, v, rfl, rfl, h, e, q⟩
theorem a_and {t u : TT} {R : Bool → Hp → Prop} (h : t σ H fun c H1 => if c = true then u σ H1 R else R false H1) : tAnd t u σ H R := h
theorem a_or {t u : TT} {R : Bool → Hp → Prop} (h : t σ H fun c H1 => if c = true then R true H1 else u σ H1 R) : tOr t u σ H R := h
theorem a_not {t : TT} {R : Bool → Hp → Prop} (h : t σ H fun c H1 => R (!c) H1) : tNot t σ H R := h
theorem a_andV {ta tb : TE} (h : ta σ H fun x H1 => ∃ c, x = .bl c ∧ if c = true then tb σ H1 Q else Q (.bl false) H1) : tAndV ta tb σ H Q := h
theorem a_orV {ta tb : TE} (h : ta σ H fun x H1 => ∃ c, x = .bl c ∧ if c = true then Q (.bl true) H1 else tb σ H1 Q) : tOrV ta tb σ H Q := h
theorem a_notV {ta : TE} (h : ta σ H fun x H1 => ∃ c, x = .bl c ∧ Q (.bl (!c)) H1) : tNotV ta σ H Q := h
theorem a_ifE {t : TT} {ta tb : TE} (h : t σ H fun c H1 => if c = true then ta σ H1 Q else tb σ H1 Q) : tIf t ta tb σ H Q := h
theorem a_par {i j : Nat} {ta : TA} (h : ta σ H fun vs H1 => ∃ v w, vs = [v, w] ∧ D.nx ((σ.set i (some v)).set j (some w)) H1) : tPar i j ta D σ H := h
theorem a_par2 {i j : Nat} {v w : V} {R : St → Hp → Prop} (h : R ((σ.set i (some v)).set j (some w)) H) : ∃ v' w', [v, w] = [v', w'] ∧ R ((σ.set i (some v')).set j (some w')) H := ⟨v, w, rfl, h⟩
theorem iteD {c : Prop} [Decidable c] {A B : Prop} (h1 : c → A) (h2 : ¬ c → B) : if decide c = true then A else B := by
  by_cases h : c
  · rw [decide_eq_true h]; exact iteT (h1 h)
  · rw [decide_eq_false h]; exact iteF (h2 h)
theorem iteDN {c : Prop} [Decidable c] {A B : Prop} (h1 : ¬ c → A) (h2 : c → B) : if (!decide c) = true then A else B := by
  by_cases h : c
  · rw [decide_eq_true h]; exact iteF (h2 h)
  · rw [decide_eq_false h]; exact iteT (h1 h)
theorem iteDF {c : Prop} [Decidable c] {A B : Prop} (hc : ¬ c) (h : B) : if decide c = true then A else B := by rw [decide_eq_false hc]; exact iteF h
theorem iteNF {A B : Prop} (h : A) : if (!false) = true then A else B := iteT h
theorem Same.upd {a : Addr} {o : HO} (h : H a = none) : Same H (upd H a o) := fun b u e => by rw [upd_ne (ne_of_none e h)]; exact e
theorem Same.tup {H' : Hp} {a : Addr} {xs : List V} (e : Same H H') (h : SqT K H a xs) : SqT K H' a xs := by
  rcases h with (h | ⟨o, h⟩) | h
  · exact .inl (.inl (e _ _ h))
  · exact .inl (.inr ⟨o, e _ _ h⟩)
  · exact .inr h
theorem Same.rd {H' : Hp} {a : Addr} {u : HO} (e : Same H H') (h : Rd H a u) : Rd H' a u := by
  rcases h with h | ⟨o, h⟩
  · exact .inl (e _ _ h)
  · exact .inr ⟨o, e _ _ h⟩
end
end L2
namespace L2
open PySem PySem.Spec PyProof.Rows
section
variable {σ : St} {H : Hp} {Q : VK} {D : Ends} {K : PySem.W.Frag} {X : Cx}
theorem a_gtup2 {i j : Nat} {p : Addr} {x y : V} {R : St → Hp → Prop} (h : SqT K H p [x, y]) (q : R ((σ.set i (some x)).set j (some y)) H) : gTup K 2 (gCons (gName i) (gCons (gName j) gNil)) (.ref p) σ H R :=
  ⟨p, [x, y], rfl, h, rfl, x, [y], rfl, y, [], rfl, rfl, q⟩
theorem a_dput {td ty tv : TE} (h : tv σ H fun v H1 => td σ H1 fun x H2 => ty σ H2 fun y H3 => ∃ a H4, x = .ref a ∧ DPut H3 a y v H4 ∧ D.nx σ H4) : sDPut td ty tv D σ H := h
theorem a_dputK {a : Addr} {x : Str} {v : V} {kvs : List (Key × V)} {R : Hp → Prop} (h : H a = some (.dK kvs)) (hl : kvs.length < 100000) (q : R (upd H a (.dK (putK kvs (Sum.inr x) v)))) : ∃ a' H4, V.ref a = .ref a' ∧ DPut H a' (.str x) v H4 ∧ R H4 :=
  ⟨a, _, rfl, DPut.k (k := Sum.inr x) h (Nat.lt_trans hl (by decide)), q⟩
theorem a_dget {td ty : TE} (h : td σ H fun x H1 => ty σ H1 fun y H2 => ∃ a v, x = .ref a ∧ DGet H2 a y (some v) ∧ Q v H2) : tDGet td ty σ H Q := h
theorem a_dgetK {a : Addr} {x : Str} {v : V} {kvs : List (Key × V)} {R : V → Prop} (h : Rd H a (.dK kvs)) (e : valV kvs (Sum.inr x : Key) = some v) (q : R v) : ∃ a' v', V.ref a = .ref a' ∧ DGet H a' (kV (Sum.inr x)) (some v') ∧ R v' :=
  ⟨a, v, rfl, .inl ⟨kvs, Sum.inr x, h, rfl, e.symm⟩, q⟩
theorem a_dget2 {td ty tx : TE} (h : td σ H fun x H1 => ∃ a, x = .ref a ∧ IsD H1 a ∧ ty σ H1 fun y H2 => tx σ H2 fun z H3 => ∃ o, DGet H3 a y o ∧ Q (o.getD z) H3) : tDGet2 td ty tx σ H Q := h
theorem Same.updN {H' : Hp} {a : Addr} {o : HO} (e : Same H H') (n : H a = none) : Same H (L2.upd H' a o) := fun b u q => by rw [upd_ne (ne_of_none q n)]; exact e b u q
theorem a_sl {r : V → Option Int → Option Int → Hp → VK → Prop} {te : TE} {tl th : TO} (h : te σ H fun x H1 => tl σ H1 fun l H2 => th σ H2 fun u H3 => r x l u H3 Q) : tSl r te tl th σ H Q := h
theorem a_part {t : TE} {R : Option Int → Hp → Prop} (h : t σ H fun x H1 => ∃ i, x = .int i ∧ R (some i) H1) : tPart t σ H R := h
theorem a_pint {i : Int} {R : Int → Prop} (h : R i) : ∃ i', V.int i = .int i' ∧ R i' := ⟨i, rfl, h⟩
theorem a_noPart {R : Option Int → Hp → Prop} (h : R none H) : tNoPart σ H R := h
end
end L2
namespace L2
open PySem PySem.Spec PyProof.Rows
def EqW (P : Program) (w : World) (A : Around) (s : Shared) (u v : Value) : Prop := ∀ (E : Value → Shared → Prop) (Q : Bool → Shared → Prop), Q true s → wpAny (model P w) A (eqBool u v) Q E s
def RcW (P : Program) (w : World) (A : Around) (s : Shared) (u v : Value) : Prop := ∀ (E : Value → Shared → Prop) (Q : Value → Shared → Prop), Q (.bool true) s → wpAny (model P w) A (richCompare .Eq u v) Q E s
section
variable {P : Program} {w : World} {A : Around} {s : Shared}
theorem EqW.of_at {u v : Value} (h : SeqAt.EqAt A s u v true) : EqW P w A s u v := fun E Q q => h P w E Q q
theorem EqW.of_refs {a b : Addr} (h : RcW P w A s (.ref a) (.ref b)) : EqW P w A s (.ref a) (.ref b) := fun E Q q => by
  by_cases e : a = b
  · subst e
    exact SeqAt.EqAt.same _ P w E Q q
  · unfold eqBool
    refine wpAny_holding (wpAny_ite_split (fun z => absurd (Value.ref.inj (eq_of_beq z)) e) fun _ => ?_)
    exact wpAny_bind (h E _ (wpAny_truthy_bool q))
section
open PySem.AutoSeq1 (wpAny_loadPart')
theorem tupW (a b : Addr) (xs ys : Array Value) (n m : Nat) (da db : Option Addr) (sa sb : Array (Option Value)) (hz : xs.size = ys.size) :
    MeetsIn P w (Builtin.«tuple.__eq__» ⟨[.ref a, .ref b], []⟩) (fun A R s => s.heap.get? a = some ⟨.type "tuple", da, .seq xs n, sa⟩ ∧ s.heap.get? b = some ⟨.type "tuple", db, .seq ys m, sb⟩ ∧
      (∀ j (h1 : j < xs.size) (h2 : j < ys.size), EqW P w A.in1 s xs[j] ys[j]) ∧ R (.ok (.ret (.bool true))) s) := by
  refine .of_wp fun A R s h => ?_
  obtain ⟨hp, g, d, tk, os⟩ := s
  obtain ⟨ha, hb, he, hR⟩ := h
  have sub := AutoSeq1.sub_tuple_tuple
  have len : (xs.toList.zip ys.toList).length = xs.size := by simp; omega
  wp_walk using wpAny_loadPart' ha, wpAny_loadPart' hb, wpAny_forIn_list _ (fun r c s' => c.1 = none ∧ s' = ⟨hp, g, d, tk, os⟩ ∧ ∃ i, r = (xs.toList.zip ys.toList).drop i) _
  case turn =>
    rintro ⟨x, y⟩ r c s' ⟨hc, rfl, i, hr⟩
    by_cases lt : i < (xs.toList.zip ys.toList).length
    · rw [List.drop_eq_getElem_cons lt] at hr
      injection hr with e1 e2
      have i1 : i < xs.size := by omega
      have i2 : i < ys.size := by omega
      obtain ⟨ex, ey⟩ : x = xs[i] ∧ y = ys[i] := by
        have z := Prod.mk.inj (e1.trans List.getElem_zip)
        exact ⟨by simpa using z.1, by simpa using z.2⟩
      subst ex ey
      refine wpAny_bind (he i i1 i2 _ _ ?_)
      wp_walk
      exact ⟨rfl, rfl, i + 1, e2⟩
    · rw [List.drop_of_length_le (by omega)] at hr
      cases hr
  case fin =>
    rintro ⟨c1, c2⟩ s' ⟨hc, rfl, _⟩
    simp only at hc
    subst hc
    wp_walk
    refine ⟨_, rfl, ?_⟩
    simpa [Builtin.Tuple.tupleCompareSizes, hz] using hR
  case h => exact ⟨rfl, rfl, 0, rfl⟩
end
theorem RcW.tuples {a b : Addr} {xs ys : Array Value} (ha : IsTup s.heap a xs) (hb : IsTup s.heap b ys) (hz : xs.size = ys.size) (hu : A.units < cLine) (he : ∀ j (h1 : j < xs.size) (h2 : j < ys.size), EqW P w A.in1 s xs[j] ys[j]) : RcW P w A s (.ref a) (.ref b) := fun E Q q => by
  obtain ⟨⟨ca, da, xa, sa⟩, oa, ka, n, va⟩ := id ha
  obtain ⟨⟨cb, db, xb, sb⟩, ob, kb, m, vb⟩ := id hb
  simp only at ka va kb vb
  subst ka va kb vb
  refine wpAny_richCompare_same_room (op := .Eq) (T := "tuple") ⟨_, oa, rfl⟩ ⟨_, ob, rfl⟩ PySem.F.slot_tuple_eq ?_ hu
  exact call_meetsIn PySem.F.slot_tuple_eq ⟨_, oa, rfl⟩ PySem.F.entry_tuple_eq (PySem.F.args_tuple_eq_2 _ _) (tupW a b xs ys n m da db sa sb hz) ⟨oa, ob, he, ⟨(fun z => nomatch z), q⟩⟩
section
open PySem.AutoSeq1 (wpAny_loadPart')
open PySem.MeetsSeq PySem.MeetsSeq2 PySem.MeetsSeq3 PySem.SeqRoads2 PySem.SeqAt
theorem lstLoopW (a b : Addr) (xs ys : Array Value) (n m : Nat) (da db : Option Addr) (sa sb : Array (Option Value)) (hz : xs.size = ys.size) : ∀ (k i : Nat), xs.size - i = k →
    MeetsIn P w (Builtin.«list.__eq__.loop» ⟨[.ref a, .ref b, rawInt i, rawInt 2], []⟩) (fun A R s => s.heap.get? a = some ⟨.type "list", da, .seq xs n, sa⟩ ∧ s.heap.get? b = some ⟨.type "list", db, .seq ys m, sb⟩ ∧
      (∀ j (h1 : j < xs.size) (h2 : j < ys.size), EqW P w A.in1 s xs[j] ys[j]) ∧ R (.ok (.ret (.bool true))) s)
  | 0, i, hk => fun A R s h => by
    obtain ⟨hp, g, d, tk, os⟩ := s
    obtain ⟨ha, hb, he, hR⟩ := h
    wp_walk using wpAny_loadPart' ha, wpAny_loadPart' hb
    have z1 : xs[((i : Nat) : Int).toNat]? = none := by simp; omega
    have z2 : ys[((i : Nat) : Int).toNat]? = none := by simp; omega
    rw [z1, z2]
    wp_walk using wpAny_loadPart' ha, wpAny_loadPart' hb
    show R (.ok (.ret (.bool (xs.size == ys.size)))) _
    rw [hz, beq_self_eq_true]
    exact hR
  | k + 1, i, hk => fun A R s h => by
    obtain ⟨hp, g, d, tk, os⟩ := s
    obtain ⟨ha, hb, he, hR⟩ := h
    wp_walk using wpAny_loadPart' ha, wpAny_loadPart' hb
    have i1 : i < xs.size := by omega
    have i2 : i < ys.size := by omega
    have z1 : xs[((i : Nat) : Int).toNat]? = some xs[i] := by simp [i1]
    have z2 : ys[((i : Nat) : Int).toNat]? = some ys[i] := by simp [i2]
    rw [z1, z2]
    refine wpAny_bind (he i i1 i2 _ _ ?_)
    wp_walk
    have up : ((i : Int) + 1) = ((i + 1 : Nat) : Int) := Int.natCast_succ i
    rw [up]
    refine ⟨plainId_quiet plain_eq_loop _, codeAny_builtin entry_eq_loop ?_⟩
    rw [Around.under_plainId plain_eq_loop _]
    exact lstLoopW a b xs ys n m da db sa sb hz k (i + 1) (by omega) A R _ ⟨ha, hb, he, hR⟩
theorem lstW (a b : Addr) (xs ys : Array Value) (n m : Nat) (da db : Option Addr) (sa sb : Array (Option Value)) (hz : xs.size = ys.size) :
    MeetsIn P w (Builtin.«list.__eq__» ⟨[.ref a, .ref b], []⟩) (fun A R s => s.heap.get? a = some ⟨.type "list", da, .seq xs n, sa⟩ ∧ s.heap.get? b = some ⟨.type "list", db, .seq ys m, sb⟩ ∧
      (∀ j (h1 : j < xs.size) (h2 : j < ys.size), EqW P w A.in1 s xs[j] ys[j]) ∧ R (.ok (.ret (.bool true))) s) := fun A R s h => by
  obtain ⟨hp, g, d, tk, os⟩ := s
  obtain ⟨ha, hb, he, hR⟩ := h
  have sub := AutoSeq1.sub_list_list
  have same : ¬ (xs.size != ys.size) = true := by simp [hz]
  wp_walk using wpAny_loadPart' ha, wpAny_loadPart' hb
  refine ⟨plainId_quiet plain_eq_loop _, codeAny_builtin entry_eq_loop ?_⟩
  rw [Around.under_plainId plain_eq_loop _]
  exact lstLoopW a b xs ys n m da db sa sb hz _ 0 rfl A R _ ⟨ha, hb, he, hR⟩
end
theorem RcW.lists {a b : Addr} {xs ys : Array Value} (ha : s.heap.IsList a xs) (hb : s.heap.IsList b ys) (hz : xs.size = ys.size) (hu : A.units < cLine) (he : ∀ j (h1 : j < xs.size) (h2 : j < ys.size), EqW P w A.in1 s xs[j] ys[j]) : RcW P w A s (.ref a) (.ref b) := fun E Q q => by
  obtain ⟨⟨ca, da, xa, sa⟩, oa, ka, n, va⟩ := id ha
  obtain ⟨⟨cb, db, xb, sb⟩, ob, kb, m, vb⟩ := id hb
  simp only at ka va kb vb
  subst ka va kb vb
  refine wpAny_richCompare_same_room (op := .Eq) (T := "list") ⟨_, oa, rfl⟩ ⟨_, ob, rfl⟩ PySem.F.slot_list_eq ?_ hu
  exact call_meetsIn PySem.F.slot_list_eq ⟨_, oa, rfl⟩ PySem.F.entry_list_eq (PySem.F.args_list_eq_2 _ _) (lstW a b xs ys n m da db sa sb hz) ⟨oa, ob, he, ⟨(fun z => nomatch z), q⟩⟩
end
def EqN (K : PySem.W.Frag) (H : Hp) : Nat → V → V → Prop
  | 0, x, y => flatV x = true ∧ x = y
  | n + 1, x, y => (flatV x = true ∧ x = y) ∨ ∃ p q, x = .ref p ∧ y = .ref q ∧ ((∃ xs ys, ((SqT K H p xs ∧ SqT K H q ys) ∨ (SqL K H p xs ∧ SqL K H q ys)) ∧ All2 (EqN K H n) xs ys) ∨
      ∃ ka kb, Rd H p (.dK ka) ∧ Rd H q (.dK kb) ∧ DEqT K H n ka kb)
section
variable {X : Cx} {pins : List (Addr × Obj)} {σ : St} {H : Hp} {s : Shared}
theorem rcW_seq {A : Around} {p q : Addr} {xs ys : List V} (I : Inv X pins σ H s) (hk : (SqT X.K H p xs ∧ SqT X.K H q ys) ∨ (SqL X.K H p xs ∧ SqL X.K H q ys)) (hu : A.units < cLine) (hl : xs.length = ys.length)
    (he : ∀ (j : Nat) x y u v, xs[j]? = some x → ys[j]? = some y → RelV x u → RelV y v → EqW X.prog X.w A.in1 s u v) : RcW X.prog X.w A s (.ref p) (.ref q) := by
  have fin : ∀ (us vs : List Value), Vals xs us → Vals ys vs → ∀ j (h1 : j < us.toArray.size) (h2 : j < vs.toArray.size), EqW X.prog X.w A.in1 s us.toArray[j] vs.toArray[j] := by
    intro us vs r1 r2 j h1 h2
    have l1 := r1.length
    have l2 := r2.length
    simp only [List.size_toArray] at h1 h2
    obtain ⟨u, e1, ru⟩ := r1.get (i := j) (x := xs[j]'(by omega)) (by simp)
    obtain ⟨v, e2, rv⟩ := r2.get (i := j) (x := ys[j]'(by omega)) (by simp)
    obtain ⟨_, f1⟩ := List.getElem?_eq_some_iff.mp e1
    obtain ⟨_, f2⟩ := List.getElem?_eq_some_iff.mp e2
    have g1 : us.toArray[j]'(by simpa using h1) = u := by simpa using f1
    have g2 : vs.toArray[j]'(by simpa using h2) = v := by simpa using f2
    rw [g1, g2]
    exact he j _ _ u v (by simp) (by simp) ru rv
  rcases hk with ⟨h1, h2⟩ | ⟨h1, h2⟩
  · obtain ⟨us, r1, t1, _⟩ := I.tuple h1
    obtain ⟨vs, r2, t2, _⟩ := I.tuple h2
    have l1 := r1.length
    have l2 := r2.length
    exact RcW.tuples t1 t2 (by simp; omega) hu (fin us vs r1 r2)
  · obtain ⟨us, r1, t1, _⟩ := I.list h1
    obtain ⟨vs, r2, t2, _⟩ := I.list h2
    have l1 := r1.length
    have l2 := r2.length
    exact RcW.lists t1.isList t2.isList (by simp; omega) hu (fin us vs r1 r2)
theorem rcW_dict {A : Around} {p q : Addr} {n : Nat} {ka kb : List (Key × V)} (I : Inv X pins σ H s) (h1 : Rd H p (.dK ka)) (h2 : Rd H q (.dK kb)) (hu : A.units + n + 1 < cLine) (h : DEqT X.K H n ka kb) : RcW X.prog X.w A s (.ref p) (.ref q) := fun E Q hq => by
  obtain ⟨hl, al⟩ := h
  obtain ⟨z1, y1, va, r1, d1⟩ := dk_rd I.hok h1
  obtain ⟨z2, y2, vb, r2, d2⟩ := dk_rd I.hok h2
  have l1 : ka.length = va.length := KV.length r1
  have l2 : kb.length = vb.length := KV.length r2
  refine PySem.W.keq_eq (r := true) y1 y2 d1 d2 (by omega) (fun _ => hitsT I (by rw [in1_units]; omega) r2 r1 al) ?_
  have e : (va.length == vb.length && true) = true := by simp; omega
  rw [e]
  exact hq
theorem eqN_at (I : Inv X pins σ H s) : ∀ (n : Nat) {A : Around} {x y : V} {u v : Value}, EqN X.K H n x y → RelV x u → RelV y v → A.units + n + 1 < cLine → EqW X.prog X.w A s u v
  | 0, A, x, y, u, v, ⟨f, e⟩, ru, rv, _ => by
    subst e
    have z := eqAt_V (A := A) (s := s) ru rv f f
    rw [eqV_refl f] at z
    exact .of_at z
  | n + 1, A, x, y, u, v, .inl ⟨f, e⟩, ru, rv, _ => by
    subst e
    have z := eqAt_V (A := A) (s := s) ru rv f f
    rw [eqV_refl f] at z
    exact .of_at z
  | n + 1, A, x, y, u, v, .inr ⟨p, q, hx, hy, .inl ⟨xs, ys, hk, al⟩⟩, ru, rv, hu => by
    subst hx hy
    cases ru
    cases rv
    refine .of_refs (rcW_seq I hk (by omega) al.length fun j x y u v h1 h2 r1 r2 => ?_)
    exact eqN_at I n (A := A.in1) (al.get h1 h2) r1 r2 (by rw [in1_units]; omega)
  | n + 1, A, x, y, u, v, .inr ⟨p, q, hx, hy, .inr ⟨ka, kb, h1, h2, h⟩⟩, ru, rv, hu => by
    subst hx hy
    cases ru
    cases rv
    exact .of_refs (rcW_dict I h1 h2 (by omega) h)
end
section
variable {X : Cx}
def rEqN (K : PySem.W.Frag) : R2 := fun x y H Q => ∃ n p q xs ys, n ≤ 40 ∧ x = .ref p ∧ y = .ref q ∧ ((SqT K H p xs ∧ SqT K H q ys) ∨ (SqL K H p xs ∧ SqL K H q ys)) ∧ All2 (EqN K H n) xs ys ∧ Q (.bl true) H
end
end L2
namespace Sf
def gd (a b : Int) : Int := (Int.gcd a b : Nat)
theorem gd_zero (a : Int) (h : 0 ≤ a) : gd a 0 = a := by
  unfold gd; rw [Int.gcd_zero_right]; omega
theorem gd_mod {a b : Int} (ha : 0 ≤ a) (hb : 0 < b) : gd b (a % b) = gd a b := by
  unfold gd Int.gcd
  have e : (a % b).natAbs = a.natAbs % b.natAbs := by
    obtain ⟨m, rfl⟩ := Int.eq_ofNat_of_zero_le ha
    obtain ⟨n, rfl⟩ := Int.eq_ofNat_of_zero_le (Int.le_of_lt hb)
    simp only [Int.natAbs_natCast]
    rw [← Int.natCast_emod, Int.natAbs_natCast]
  rw [e, Nat.gcd_comm b.natAbs, Nat.gcd_comm a.natAbs, Nat.gcd_rec b.natAbs a.natAbs]
theorem gd_pos {a b : Int} (h : b ≠ 0) : 0 < gd a b := by
  unfold gd
  have := Int.gcd_pos_of_ne_zero_right a h
  omega
theorem gd_abs (a b : Int) : gd (a.natAbs : Int) (b.natAbs : Int) = gd a b := by
  unfold gd; simp [Int.gcd]
theorem abs_if (a : Int) : (if a < 0 then -a else a) = (a.natAbs : Int) := by split <;> omega
theorem gd_abs' (a b : Int) : gd (if a < 0 then -a else a) (if b < 0 then -b else b) = gd a b := by
  rw [abs_if, abs_if, gd_abs]
def dv (t b : Int) : Int := if b < 0 then -(gd t b) else gd t b
theorem dv_ne {t b : Int} (h : b ≠ 0) : dv t b ≠ 0 := by
  have := gd_pos (a := t) h
  unfold dv; split <;> omega
theorem gd_dvd_l (t b : Int) : gd t b ∣ t := Int.gcd_dvd_left ..
theorem gd_dvd_r (t b : Int) : gd t b ∣ b := Int.gcd_dvd_right ..
theorem dv_dvd_l (t b : Int) : dv t b ∣ t := by
  unfold dv; split
  · exact Int.neg_dvd.mpr (gd_dvd_l t b)
  · exact gd_dvd_l t b
theorem dv_dvd_r (t b : Int) : dv t b ∣ b := by
  unfold dv; split
  · exact Int.neg_dvd.mpr (gd_dvd_r t b)
  · exact gd_dvd_r t b
theorem fd_ex {x d : Int} (h : d ∣ x) : x.fdiv d * d = x := by
  rw [Int.fdiv_mul_cancel h]
theorem part_num {t b : Int} (h : b ≠ 0) : t.fdiv (dv t b) = (Rat.divInt t b).num := by
  have hd := dv_ne (t := t) h
  refine Int.eq_of_mul_eq_mul_right hd ?_
  rw [fd_ex (dv_dvd_l t b), Rat.num_divInt]
  have e : b.gcd t = t.gcd b := Int.gcd_comm ..
  rw [e]
  have hg : ((t.gcd b : Nat) : Int) ∣ t := Int.gcd_dvd_left ..
  have hp := gd_pos (a := t) h
  unfold gd at hp
  unfold dv gd
  rw [Int.mul_ediv_assoc _ hg]
  obtain ⟨k, hk⟩ := hg
  generalize hG : ((t.gcd b : Nat) : Int) = g at *
  have hk2 : t / g = k := by rw [hk]; exact Int.mul_ediv_cancel_left k (by omega)
  rw [hk2]
  split
  · rename_i hb
    rw [Int.sign_eq_neg_one_of_neg hb]; grind
  · rename_i hb
    rw [Int.sign_eq_one_of_pos (by omega)]; grind
theorem part_den {t b : Int} (h : b ≠ 0) : b.fdiv (dv t b) = ((Rat.divInt t b).den : Int) := by
  have hd := dv_ne (t := t) h
  refine Int.eq_of_mul_eq_mul_right hd ?_
  rw [fd_ex (dv_dvd_r t b), Rat.den_divInt, if_neg h]
  have e : b.gcd t = t.gcd b := Int.gcd_comm ..
  rw [e]
  have hg : (t.gcd b) ∣ b.natAbs := by rw [← Int.ofNat_dvd_left]; exact Int.gcd_dvd_right ..
  have hp := gd_pos (a := t) h
  unfold gd at hp
  unfold dv gd
  obtain ⟨k, hk⟩ := hg
  have hk2 : b.natAbs / t.gcd b = k := by rw [hk]; exact Nat.mul_div_cancel_left k (by omega)
  rw [hk2]
  generalize t.gcd b = g at *
  have hk3 : (b.natAbs : Int) = (g : Int) * (k : Int) := by rw [hk]; exact Int.natCast_mul ..
  split <;> grind
theorem den_pos (q : Rat) : 0 < (q.den : Int) := by have := q.den_nz; omega
theorem cross {t b : Int} (h : b ≠ 0) : (Rat.divInt t b).num * b = (Rat.divInt t b).den * t := by
  have := Rat.divInt_num_den (n := t) (d := b) h (n' := (Rat.divInt t b).num) (d' := (Rat.divInt t b).den) (z' := (Rat.divInt t b).den_nz) (c := (Rat.divInt t b).reduced) rfl
  obtain ⟨m, hm, e1, e2⟩ := this
  generalize (Rat.divInt t b).num = n at *
  generalize ((Rat.divInt t b).den : Int) = d at *
  rw [e1, e2]; grind
end Sf
namespace Sf
def Sm (n : Nat) (q : Rat) : Prop := q.num.natAbs < 2 ^ n ∧ q.den < 2 ^ n
theorem Sm.mono {n m : Nat} {q : Rat} (h : Sm n q) (k : n ≤ m) : Sm m q :=
  ⟨Nat.lt_of_lt_of_le h.1 (Nat.pow_le_pow_right (by decide) k), Nat.lt_of_lt_of_le h.2 (Nat.pow_le_pow_right (by decide) k)⟩
theorem divInt_le {t b : Int} (h : b ≠ 0) : (Rat.divInt t b).num.natAbs ≤ t.natAbs ∧ (Rat.divInt t b).den ≤ b.natAbs := by
  obtain ⟨m, hm, e1, e2⟩ := Rat.divInt_num_den (n := t) (d := b) h (n' := (Rat.divInt t b).num) (d' := (Rat.divInt t b).den) (z' := (Rat.divInt t b).den_nz) (c := (Rat.divInt t b).reduced) rfl
  have hm1 : 1 ≤ m.natAbs := by omega
  have a1 := congrArg Int.natAbs e1
  have a2 := congrArg Int.natAbs e2
  rw [Int.natAbs_mul] at a1 a2
  rw [Int.natAbs_natCast] at a2
  constructor
  · rw [a1]; exact Nat.le_mul_of_pos_right _ hm1
  · rw [a2]; exact Nat.le_mul_of_pos_right _ hm1
theorem sm_divInt {n : Nat} {t b : Int} (h : b ≠ 0) (h1 : t.natAbs < 2 ^ n) (h2 : b.natAbs < 2 ^ n) : Sm n (Rat.divInt t b) :=
  ⟨Nat.lt_of_le_of_lt (divInt_le h).1 h1, Nat.lt_of_le_of_lt (divInt_le h).2 h2⟩
theorem add_divInt (a b : Rat) : a + b = Rat.divInt (a.num * b.den + b.num * a.den) (a.den * b.den) := by
  rw [Rat.add_def', ← Rat.divInt_ofNat]
  rfl
theorem mul_divInt (a b : Rat) : a * b = Rat.divInt (a.num * b.num) (a.den * b.den) := by
  rw [Rat.mul_def', ← Rat.divInt_ofNat]
  rfl
theorem dens_ne (a b : Rat) : (a.den * b.den : Int) ≠ 0 := by
  have h1 := den_pos a
  have h2 := den_pos b
  exact Int.ne_of_gt (Int.mul_pos h1 h2)
theorem lt_mul {x y n m : Nat} (h1 : x < 2 ^ n) (h2 : y < 2 ^ m) : x * y < 2 ^ (n + m) := by
  rw [Nat.pow_add]
  exact Nat.mul_lt_mul'' h1 h2
theorem abs_mul_lt {x y : Int} {n m : Nat} (h1 : x.natAbs < 2 ^ n) (h2 : y.natAbs < 2 ^ m) : (x * y).natAbs < 2 ^ (n + m) := by
  rw [Int.natAbs_mul]; exact lt_mul h1 h2
theorem abs_add_lt {x y : Int} {n : Nat} (h1 : x.natAbs < 2 ^ n) (h2 : y.natAbs < 2 ^ n) : (x + y).natAbs < 2 ^ (n + 1) := by
  rw [Nat.pow_succ]; omega
theorem abs_sub_lt {x y : Int} {n : Nat} (h1 : x.natAbs < 2 ^ n) (h2 : y.natAbs < 2 ^ n) : (x - y).natAbs < 2 ^ (n + 1) := by
  rw [Nat.pow_succ]; omega
theorem den_abs {n : Nat} {q : Rat} (h : Sm n q) : (q.den : Int).natAbs < 2 ^ n := by rw [Int.natAbs_natCast]; exact h.2
theorem up2 {x : Int} {n m : Nat} (h : x.natAbs < 2 ^ n) (k : n ≤ m) : x.natAbs < 2 ^ m := Nat.lt_of_lt_of_le h (Nat.pow_le_pow_right (by decide) k)
theorem sm_add {n m : Nat} {a b : Rat} (h1 : Sm n a) (h2 : Sm m b) : Sm (n + m + 1) (a + b) := by
  rw [add_divInt]
  refine sm_divInt (dens_ne a b) ?_ ?_
  · refine abs_add_lt (abs_mul_lt h1.1 (den_abs h2)) ?_
    rw [Nat.add_comm n m]; exact abs_mul_lt h2.1 (den_abs h1)
  · exact up2 (abs_mul_lt (den_abs h1) (den_abs h2)) (by omega)
theorem sm_mul {n m : Nat} {a b : Rat} (h1 : Sm n a) (h2 : Sm m b) : Sm (n + m) (a * b) := by
  rw [mul_divInt]
  exact sm_divInt (dens_ne a b) (abs_mul_lt h1.1 h2.1) (abs_mul_lt (den_abs h1) (den_abs h2))
theorem sm_zero : Sm 1 0 := ⟨by decide, by decide⟩
theorem sm_neg {n : Nat} {a : Rat} (h : Sm n a) : Sm n (-a) := ⟨by rw [Rat.neg_num, Int.natAbs_neg]; exact h.1, h.2⟩
end Sf
namespace Sf
section
variable {κ : Type} [DecidableEq κ]
abbrev FL (κ : Type) := List (κ × Rat)
def gt (m : FL κ) (k : κ) : Option Rat := (m.find? fun p => decide (p.1 = k)).map (·.2)
def pt (m : FL κ) (k : κ) (q : Rat) : FL κ := if (m.any fun p => decide (p.1 = k)) = true then m.map (fun p => if p.1 = k then (p.1, q) else p) else m ++ [(k, q)]
def dr (m : FL κ) (k : κ) : FL κ := m.filter fun p => decide (p.1 ≠ k)
def sc (m : FL κ) (n : Rat) : FL κ := m.map fun p => (p.1, p.2 * n)
def val : FL κ → (κ → Rat) → Rat
  | [], _ => 0
  | p :: r, P => p.2 * P p.1 + val r P
def Nd (m : FL κ) : Prop := (m.map (·.1)).Nodup
theorem gt_pos {p : κ × Rat} {r : FL κ} {k : κ} (e : p.1 = k) : gt (p :: r) k = some p.2 := by simp [gt, List.find?_cons, e]
theorem gt_neg {p : κ × Rat} {r : FL κ} {k : κ} (e : ¬ p.1 = k) : gt (p :: r) k = gt r k := by simp [gt, List.find?_cons, e]
theorem gt_any (k : κ) : ∀ m : FL κ, (m.any fun p => decide (p.1 = k)) = (gt m k).isSome
  | [] => rfl
  | p :: r => by
    rw [List.any_cons]
    by_cases e : p.1 = k
    · simp [gt_pos e, e]
    · rw [gt_neg e, gt_any k r]; simp [e]
theorem gt_of_mem {k : κ} {q : Rat} : ∀ {m : FL κ}, Nd m → (k, q) ∈ m → gt m k = some q
  | p :: r, n, h => by
    obtain ⟨n1, n2⟩ := List.nodup_cons.mp (show (p.1 :: r.map (·.1)).Nodup from n)
    rcases List.mem_cons.mp h with e | h
    · subst e; exact gt_pos rfl
    · have ne : ¬ p.1 = k := fun z => n1 (by rw [z]; exact List.mem_map.mpr ⟨_, h, rfl⟩)
      rw [gt_neg ne]; exact gt_of_mem n2 h
theorem gt_repl (k j : κ) (q : Rat) : ∀ m : FL κ, gt (m.map (fun p => if p.1 = k then (p.1, q) else p)) j = (gt m j).map fun x => if j = k then q else x
  | [] => rfl
  | p :: r => by
    have ih := gt_repl k j q r
    rw [List.map_cons]
    by_cases h : p.1 = k
    · rw [if_pos h]
      by_cases e : p.1 = j
      · rw [gt_pos (p := (p.1, q)) e, gt_pos e]; simp [← e, h]
      · rw [gt_neg (p := (p.1, q)) e, gt_neg e, ih]
    · rw [if_neg h]
      by_cases e : p.1 = j
      · rw [gt_pos e, gt_pos e]; simp [← e, h]
      · rw [gt_neg e, gt_neg e, ih]
theorem gt_snoc (k j : κ) (q : Rat) : ∀ m : FL κ, gt m k = none → gt (m ++ [(k, q)]) j = if j = k then some q else gt m j
  | [], _ => by
    by_cases e : k = j
    · rw [if_pos e.symm]; exact gt_pos (p := (k, q)) e
    · rw [if_neg (Ne.symm e)]; exact gt_neg (p := (k, q)) e
  | p :: r, h => by
    have hk : ¬ p.1 = k := fun z => by rw [gt_pos z] at h; cases h
    rw [gt_neg hk] at h
    have ih := gt_snoc k j q r h
    rw [List.cons_append]
    by_cases e : p.1 = j
    · rw [gt_pos e, gt_pos e, if_neg (fun z => hk (e.trans z))]
    · rw [gt_neg e, gt_neg e, ih]
theorem gt_pt (m : FL κ) (k j : κ) (q : Rat) : gt (pt m k q) j = if j = k then some q else gt m j := by
  unfold pt
  by_cases h : (m.any fun p => decide (p.1 = k)) = true
  · rw [if_pos h, gt_repl]
    rw [gt_any] at h
    by_cases e : j = k
    · subst e
      obtain ⟨x, hx⟩ := Option.isSome_iff_exists.mp h
      simp [hx]
    · simp [e]
  · rw [if_neg h]
    refine gt_snoc k j q m ?_
    rw [gt_any] at h
    cases z : gt m k with
    | none => rfl
    | some _ => rw [z] at h; simp at h
def run (P : κ → Rat) (r : Rat) (m : FL κ) : Rat := m.foldl (fun t p => t + p.2 * P p.1) r
end
end Sf
namespace Sf
section
variable {κ : Type} [DecidableEq κ]
end
end Sf
namespace Sf
section
variable {κ : Type} [DecidableEq κ]
def SmM (n : Nat) (m : FL κ) : Prop := ∀ x q, gt m x = some q → Sm n q
theorem SmM.mono {n k : Nat} {m : FL κ} (h : SmM n m) (e : n ≤ k) : SmM k m := fun x q z => (h x q z).mono e
theorem SmM.nil (n : Nat) : SmM n ([] : FL κ) := fun x q z => by cases z
theorem SmM.pt {n : Nat} {m : FL κ} (h : SmM n m) {k : κ} {q : Rat} (hq : Sm n q) : SmM n (pt m k q) := fun x r z => by
  rw [gt_pt] at z
  split at z
  · injection z with z; rw [← z]; exact hq
  · exact h x r z
theorem SmM.getD {n : Nat} {m : FL κ} (h : SmM n m) (hn : 1 ≤ n) (x : κ) : Sm n ((gt m x).getD 0) := by
  cases e : gt m x with
  | none => exact sm_zero.mono hn
  | some q => exact h x q e
theorem SmM.at {n : Nat} {m : FL κ} (h : SmM n m) (nd : Nd m) {i : Nat} {x : κ} {q : Rat} (e : m[i]? = some (x, q)) : Sm n q := h x q (gt_of_mem nd (List.mem_of_getElem? e))
end
end Sf
namespace Sf
section
variable {κ : Type} [DecidableEq κ]
end
end Sf
namespace Sf
section
variable {κ : Type} [DecidableEq κ]
end
end Sf
namespace Sf
section
variable {κ : Type} [DecidableEq κ]
end
end Sf
namespace Sf
open PySem L2
def fr (q : Rat) : List V := [.int q.num, .int (q.den : Int)]
theorem fr0 (q : Rat) : atI (fr q) 0 = some (.int q.num) := rfl
theorem fr1 (q : Rat) : atI (fr q) 1 = some (.int (q.den : Int)) := rfl
def TupS (H H' : Hp) : Prop := ∀ b xs, H b = some (.tup xs) → H' b = some (.tup xs)
theorem TupS.refl (H : Hp) : TupS H H := fun _ _ h => h
theorem TupS.trans {H H1 H2 : Hp} (a : TupS H H1) (b : TupS H1 H2) : TupS H H2 := fun c xs h => b c xs (a c xs h)
theorem TupS.of {H H' : Hp} (e : Same H H') : TupS H H' := fun b xs h => e b _ h
theorem TupS.new {H : Hp} {a : Addr} {o : HO} (h : H a = none) : TupS H (upd H a o) := fun b xs e => by rw [upd_ne (ne_of_none e h)]; exact e
theorem TupS.put {H : Hp} {a : Addr} {o : HO} {kvs : List (Key × V)} (h : H a = some (.dK kvs)) : TupS H (upd H a o) := fun b xs e => by rw [upd_ne (ne_of e h (by intro z; cases z))]; exact e
theorem TupS.frz {H : Hp} {a : Addr} {ob : Obj} {u o : HO} (h : H a = some (.frz ob u)) : TupS H (upd H a o) := fun b xs e => by rw [upd_ne (ne_of e h (by intro z; cases z))]; exact e
def FK (H : Hp) : List (Key × V) → FL Str → Prop
  | [], [] => True
  | p :: r, x :: s => p.1 = Sum.inr x.1 ∧ (∃ a, p.2 = .ref a ∧ H a = some (.tup (fr x.2))) ∧ FK H r s
  | _, _ => False
theorem FK.mono {H H' : Hp} (e : TupS H H') : ∀ {kvs : List (Key × V)} {m : FL Str}, FK H kvs m → FK H' kvs m
  | [], [], _ => True.intro
  | p :: r, x :: s, ⟨h1, ⟨a, h2, h3⟩, h4⟩ => ⟨h1, ⟨a, h2, e _ _ h3⟩, FK.mono e h4⟩
  | [], _ :: _, h => h.elim
  | _ :: _, [], h => h.elim
theorem FK.length {H : Hp} : ∀ {kvs : List (Key × V)} {m : FL Str}, FK H kvs m → kvs.length = m.length
  | [], [], _ => rfl
  | _ :: r, _ :: s, h => by rw [List.length_cons, List.length_cons, FK.length h.2.2]
  | [], _ :: _, h => h.elim
  | _ :: _, [], h => h.elim
theorem FK.get {H : Hp} : ∀ {kvs : List (Key × V)} {m : FL Str} {i : Nat} {k : Key} {v : V}, FK H kvs m → kvs[i]? = some (k, v) → ∃ x q a, m[i]? = some (x, q) ∧ k = Sum.inr x ∧ v = .ref a ∧ H a = some (.tup (fr q))
  | p :: r, x :: s, 0, k, v, ⟨h1, ⟨a, h2, h3⟩, h4⟩, e => by
    simp at e
    subst e
    exact ⟨x.1, x.2, a, rfl, h1, h2, h3⟩
  | p :: r, x :: s, i + 1, k, v, ⟨h1, _, h4⟩, e => by
    obtain ⟨x', q, a, e1, e2⟩ := FK.get (i := i) h4 (by simpa using e)
    exact ⟨x', q, a, by simpa using e1, e2⟩
  | [], [], i, _, _, _, e => by simp at e
  | [], _ :: _, _, _, _, h, _ => h.elim
  | _ :: _, [], _, _, _, h, _ => h.elim
theorem FK.snoc {H : Hp} {x : Str} {q : Rat} {a : Addr} (ha : H a = some (.tup (fr q))) : ∀ {kvs : List (Key × V)} {m : FL Str}, FK H kvs m → FK H (kvs ++ [(Sum.inr x, .ref a)]) (m ++ [(x, q)])
  | [], [], _ => ⟨rfl, ⟨a, rfl, ha⟩, True.intro⟩
  | _ :: _, _ :: _, ⟨h1, h2, h4⟩ => ⟨h1, h2, FK.snoc ha h4⟩
  | [], _ :: _, h => h.elim
  | _ :: _, [], h => h.elim
theorem FK.val {H : Hp} (x : Str) : ∀ {kvs : List (Key × V)} {m : FL Str}, FK H kvs m → (valV kvs (Sum.inr x : Key) = none ∧ gt m x = none) ∨ ∃ a q, valV kvs (Sum.inr x : Key) = some (.ref a) ∧ gt m x = some q ∧ H a = some (.tup (fr q))
  | [], [], _ => .inl ⟨rfl, rfl⟩
  | p :: r, y :: s, ⟨h1, ⟨a, h2, h3⟩, h4⟩ => by
    by_cases e : y.1 = x
    · have e2 : p.1 = (Sum.inr x : Key) := by rw [h1, e]
      exact .inr ⟨a, y.2, by rw [valV_pos e2, h2], gt_pos e, h3⟩
    · have e2 : ¬ p.1 = (Sum.inr x : Key) := by rw [h1]; exact fun z => e (Sum.inr.inj z)
      rw [valV_neg e2, gt_neg e]
      exact FK.val x h4
  | [], _ :: _, h => h.elim
  | _ :: _, [], h => h.elim
theorem FK.any {H : Hp} (x : Str) {kvs : List (Key × V)} {m : FL Str} (h : FK H kvs m) : (kvs.any fun kv => decide (kv.1 = (Sum.inr x : Key))) = (m.any fun p => decide (p.1 = x)) := by
  rw [valV_any, gt_any]
  rcases h.val x with ⟨h1, h2⟩ | ⟨a, q, h1, h2, _⟩
  · rw [h1, h2]; rfl
  · rw [h1, h2]; rfl
theorem FK.repl {H : Hp} {x : Str} {q : Rat} {a : Addr} (ha : H a = some (.tup (fr q))) : ∀ {kvs : List (Key × V)} {m : FL Str}, FK H kvs m →
    FK H (kvs.map fun kv => if kv.1 = (Sum.inr x : Key) then (kv.1, .ref a) else kv) (m.map fun p => if p.1 = x then (p.1, q) else p)
  | [], [], _ => True.intro
  | p :: r, y :: s, ⟨h1, h2, h4⟩ => by
    have ih := FK.repl (x := x) ha h4
    rw [List.map_cons, List.map_cons]
    by_cases e : y.1 = x
    · have e2 : p.1 = (Sum.inr x : Key) := by rw [h1, e]
      rw [if_pos e2, if_pos e]
      exact ⟨h1, ⟨a, rfl, ha⟩, ih⟩
    · have e2 : ¬ p.1 = (Sum.inr x : Key) := by rw [h1]; exact fun z => e (Sum.inr.inj z)
      rw [if_neg e2, if_neg e]
      exact ⟨h1, h2, ih⟩
  | [], _ :: _, h => h.elim
  | _ :: _, [], h => h.elim
theorem FK.put {H : Hp} {x : Str} {q : Rat} {a : Addr} (ha : H a = some (.tup (fr q))) {kvs : List (Key × V)} {m : FL Str} (h : FK H kvs m) : FK H (putK kvs (Sum.inr x : Key) (.ref a)) (pt m x q) := by
  unfold putK pt
  rw [h.any x]
  split
  · exact h.repl ha
  · exact h.snoc ha
theorem FK.drop {H : Hp} (x : Str) : ∀ {kvs : List (Key × V)} {m : FL Str}, FK H kvs m → FK H (dropK kvs (Sum.inr x : Key)) (dr m x)
  | [], [], _ => True.intro
  | p :: r, y :: s, ⟨h1, h2, h4⟩ => by
    have ih := FK.drop x h4
    unfold dropK dr at ih ⊢
    by_cases e : y.1 = x
    · have e2 : p.1 = (Sum.inr x : Key) := by rw [h1, e]
      rw [List.filter_cons_of_neg (by simp [e2]), List.filter_cons_of_neg (by simp [e])]
      exact ih
    · have e2 : ¬ p.1 = (Sum.inr x : Key) := by rw [h1]; exact fun z => e (Sum.inr.inj z)
      rw [List.filter_cons_of_pos (by simp [e2]), List.filter_cons_of_pos (by simp [e])]
      exact ⟨h1, h2, ih⟩
  | [], _ :: _, h => h.elim
  | _ :: _, [], h => h.elim
end Sf
namespace Vc
open PySem L2 Sf
def Le (F F' : Hp) : Prop := ∀ a u, (∀ o w, u ≠ .frz o w) → Rd F a u → Rd F' a u
theorem Le.refl (F : Hp) : Le F F := fun _ _ _ h => h
theorem Le.trans {F G H : Hp} (a : Le F G) (b : Le G H) : Le F H := fun x u n h => b x u n (a x u n h)
theorem Le.of {F F' : Hp} (e : Same F F') : Le F F' := fun a u _ h => e.rd h
theorem Le.tup {K : PySem.W.Frag} {F F' : Hp} {a : Addr} {xs : List V} (e : Le F F') (h : SqT K F a xs) : SqT K F' a xs := by
  rcases h with h | h
  · exact .inl (e _ _ (by intro o w z; cases z) h)
  · exact .inr h
theorem Le.lst {K : PySem.W.Frag} {F F' : Hp} {a : Addr} {xs : List V} (e : Le F F') (h : SqL K F a xs) : SqL K F' a xs := by
  rcases h with h | h
  · exact .inl (e _ _ (by intro o w z; cases z) h)
  · exact .inr h
theorem Le.dic {F F' : Hp} {a : Addr} {kvs : List (Key × V)} (e : Le F F') (h : Rd F a (.dK kvs)) : Rd F' a (.dK kvs) := e _ _ (by intro o w z; cases z) h
def Fz (S : Addr → Prop) (F : Hp) : Prop := ∀ a o u, F a = some (.frz o u) → S a
abbrev S0 : Addr → Prop := fun _ => False
def frzd (F : Hp) : Addr → Prop := fun a => ∃ o u, F a = some (.frz o u)
structure Gr0 (F H F' H' : Hp) : Prop where
  h : Same H H'
  f : Same F F'
  s : Same F' H'
  n : ∀ a u, F' a = some u → F a = none → H a = none
structure Gr (F H F' H' : Hp) : Prop extends Gr0 F H F' H' where
  z : Fz (frzd F) F'
theorem Gr0.refl {F H : Hp} (s : Same F H) : Gr0 F H F H := ⟨Same.refl _, Same.refl _, s, (fun a u h e => by rw [h] at e; cases e)⟩
theorem Fz.refl (F : Hp) : Fz (frzd F) F := fun _ o u h => ⟨o, u, h⟩
theorem Gr.of {F H F' H' : Hp} (g : Gr0 F H F' H') (z : Fz (frzd F) F') : Gr F H F' H' := ⟨g, z⟩
theorem Gr.le {F H F' H' : Hp} (g : Gr F H F' H') : Le F F' := .of g.f
theorem Gr.fz {F H F' H' : Hp} {S : Addr → Prop} (g : Gr F H F' H') (c : Fz S F) : Fz S F' := fun a o u h => by
  obtain ⟨o', u', e⟩ := g.z a o u h
  exact c a o' u' e
theorem Gr0.trans {F H F1 H1 F2 H2 : Hp} (a : Gr0 F H F1 H1) (b : Gr0 F1 H1 F2 H2) : Gr0 F H F2 H2 :=
  ⟨a.h.trans b.h, a.f.trans b.f, b.s, (fun x u h e => match q : F1 x with
    | none => a.h.free (b.n x u h q)
    | some w => a.n x w q e)⟩
theorem Gr0.tr {F H F1 H1 F2 H2 : Hp} (a : Gr0 F H F1 H1) (b : Gr F1 H1 F2 H2) : Gr0 F H F2 H2 := a.trans b.toGr0
theorem Gr.own {F H F' H' : Hp} (g : Gr F H F' H') {o : Addr} {u : HO} (eF : F o = none) (eH : H o = some u) : F' o = none := by
  cases q : F' o with
  | none => rfl
  | some w => have := g.n o w q eF; rw [eH] at this; cases this
theorem al {F H : Hp} {o : HO} {R : V → Hp → Prop} (wd : Same F H) (nf : ∀ x u, o ≠ .frz x u) (h : ∀ (p : Addr) (F' H' : Hp), Gr F H F' H' → F' p = some o → R (.ref p) H') : ∀ p, H p = none → R (.ref p) (upd H p o) := fun p hp => by
  have fp : F p = none := wd.free hp
  refine h p (upd F p o) (upd H p o) ⟨⟨Same.upd hp, Same.upd fp, ?_, fun a u e q => ?_⟩, fun a x u e => ?_⟩ upd_same
  · intro b u e
    by_cases hb : b = p
    · subst hb; rw [upd_same] at e ⊢; exact e
    · rw [upd_ne hb] at e ⊢; exact wd b u e
  · by_cases hb : a = p
    · subst hb; exact hp
    · rw [upd_ne hb, q] at e; cases e
  · by_cases hb : a = p
    · subst hb; rw [upd_same] at e; exact absurd (Option.some.inj e) (nf x u)
    · rw [upd_ne hb] at e; exact ⟨_, _, e⟩
theorem al1 {F H : Hp} {o : HO} {p : Addr} {R : Hp → Prop} (wd : Same F H) (nf : ∀ x u, o ≠ .frz x u) (hp : H p = none) (h : ∀ F' H' : Hp, Gr F H F' H' → F' p = some o → R H') : R (upd H p o) := by
  have := al (R := fun v H' => ∀ q, v = .ref q → q = p → R H') wd nf (fun q F' H' g e z hz hq => by cases hz; subst hq; exact h F' H' g e) p hp
  exact this p rfl rfl
theorem Gr.at {F H F' H' : Hp} (g : Gr F H F' H') {o : Addr} {u : HO} {w : Option HO} (eH : H o = some u) (e : F o = w) : F' o = w := by
  cases q : F o with
  | none => rw [← e, q]; exact g.own q eH
  | some x => rw [← e, q]; exact g.f _ _ q
theorem al2 {F H : Hp} {o : HO} {p : Addr} (wd : Same F H) (nf : ∀ x u, o ≠ .frz x u) (hp : H p = none) : ∃ F', Gr F H F' (upd H p o) ∧ F' p = some o :=
  al1 (R := fun H' => ∃ F', Gr F H F' H' ∧ F' p = some o) wd nf hp fun F' _ g e => ⟨F', g, e⟩
theorem alo2 {Fb Hb F H : Hp} {o : HO} {p : Addr} (gb : Gr0 Fb Hb F H) (hp : H p = none) : Gr0 Fb Hb F (upd H p o) ∧ Same H (upd H p o) ∧ Hb p = none ∧ F p = none ∧ (upd H p o) p = some o ∧ (∀ a u, H a = some u → a ≠ p) :=
  ⟨⟨gb.h.updN (gb.h.free hp), gb.f, gb.s.updN (gb.s.free hp), gb.n⟩, Same.upd hp, gb.h.free hp, gb.s.free hp, upd_same, fun _ _ e => ne_of_none e hp⟩
theorem chg {Fb Hb F H : Hp} {p : Addr} {o : HO} {R : Hp → Prop} (gb : Gr0 Fb Hb F H) (hb : Hb p = none) (hf : F p = none) (h : ∀ H' : Hp, Gr0 Fb Hb F H' → H' p = some o → (∀ a, a ≠ p → H' a = H a) → R H') : R (upd H p o) :=
  h (upd H p o) ⟨gb.h.updN hb, gb.f, gb.s.updN hf, gb.n⟩ upd_same fun _ e => upd_ne e
theorem frz {Fb Hb F H : Hp} {S : Addr → Prop} {p : Addr} {o : HO} (gb : Gr0 Fb Hb F H) (cm : Fz S F) (hb : Hb p = none) (hf : F p = none) (hH : H p = some o) (nf : ∀ x u, o ≠ .frz x u) : ∃ F', Gr0 Fb Hb F' H ∧ Fz S F' ∧ Same F F' ∧ F' p = some o ∧ ∀ a, a ≠ p → F' a = F a := by
  refine ⟨upd F p o, ⟨gb.h, gb.f.trans (Same.upd hf), ?_, fun a u e q => ?_⟩, fun a x u e => ?_, Same.upd hf, upd_same, fun _ e => upd_ne e⟩
  · intro b u e
    by_cases hb : b = p
    · subst hb; rw [upd_same] at e; cases e; exact hH
    · rw [upd_ne hb] at e; exact gb.s b u e
  · by_cases hb' : a = p
    · subst hb'; exact hb
    · rw [upd_ne hb'] at e; exact gb.n a u e q
  · by_cases hb' : a = p
    · subst hb'; rw [upd_same] at e; exact absurd (Option.some.inj e) (nf x u)
    · rw [upd_ne hb'] at e; exact cm a x u e
theorem it2 {K : PySem.W.Frag} {F H : Hp} {i j : Nat} {p : Addr} {x y : V} {σ : St} {R : St → Hp → Prop} (wd : Same F H) (hp : H p = none) (h : ∀ F' H' : Hp, Gr F H F' H' → F' p = some (.tup [x, y]) → R ((σ.set i (some x)).set j (some y)) H') :
    gTup K 2 (gCons (gName i) (gCons (gName j) gNil)) (.ref p) σ (upd H p (.tup [x, y])) R :=
  al1 (R := fun H' => gTup K 2 (gCons (gName i) (gCons (gName j) gNil)) (.ref p) σ H' R) wd (by intro _ _ z; cases z) hp fun F' H' g e => a_gtup2 (SqT.of (g.s _ _ e)) (h F' H' g e)
def fz (X : Hp) (a : Addr) (o : HO) : Hp := fun b => if b = a then (if X a = none then none else some o) else X b
abbrev Rep (α : Type) := Hp → V → α → Prop
class Mo {α : Type} (A : Rep α) : Prop where
  mo : ∀ {F F' : Hp} {v : V} {x : α}, Le F F' → A F v x → A F' v x
def rI : Rep Int := fun _ v n => v = .int n
def rB : Rep Bool := fun _ v b => v = .bl b
def rS : Rep Str := fun _ v s => v = .str s
def rN : Rep Unit := fun _ v _ => v = .non
def rFr (K : PySem.W.Frag) : Rep Rat := fun F v q => ∃ a, v = .ref a ∧ SqT K F a (fr q)
def r2 (K : PySem.W.Frag) {α β : Type} (A : Rep α) (B : Rep β) : Rep (α × β) := fun F v x => ∃ a v1 v2, v = .ref a ∧ SqT K F a [v1, v2] ∧ A F v1 x.1 ∧ B F v2 x.2
def r3 (K : PySem.W.Frag) {α β γ : Type} (A : Rep α) (B : Rep β) (C : Rep γ) : Rep (α × β × γ) := fun F v x => ∃ a v1 v2 v3, v = .ref a ∧ SqT K F a [v1, v2, v3] ∧ A F v1 x.1 ∧ B F v2 x.2.1 ∧ C F v3 x.2.2
def r5 (K : PySem.W.Frag) {α β γ δ ε : Type} (A : Rep α) (B : Rep β) (C : Rep γ) (D : Rep δ) (E : Rep ε) : Rep (α × β × γ × δ × ε) := fun F v x => ∃ a v1 v2 v3 v4 v5, v = .ref a ∧ SqT K F a [v1, v2, v3, v4, v5] ∧ A F v1 x.1 ∧ B F v2 x.2.1 ∧ C F v3 x.2.2.1 ∧ D F v4 x.2.2.2.1 ∧ E F v5 x.2.2.2.2
def Al {α : Type} (A : Rep α) (F : Hp) : List V → List α → Prop
  | [], [] => True
  | v :: vs, x :: xs => A F v x ∧ Al A F vs xs
  | _, _ => False
def rL (K : PySem.W.Frag) {α : Type} (A : Rep α) : Rep (List α) := fun F v xs => ∃ a vs, v = .ref a ∧ SqL K F a vs ∧ Al A F vs xs
def Dk {α : Type} (A : Rep α) (F : Hp) : List (Key × V) → List (Str × α) → Prop
  | [], [] => True
  | p :: r, x :: s => p.1 = Sum.inr x.1 ∧ A F p.2 x.2 ∧ Dk A F r s
  | _, _ => False
def rD {α : Type} (A : Rep α) : Rep (List (Str × α)) := fun F v m => ∃ a kvs, v = .ref a ∧ Rd F a (.dK kvs) ∧ Dk A F kvs m ∧ (m.map (·.1)).Nodup
instance : Mo rI := ⟨fun _ h => h⟩
instance : Mo rB := ⟨fun _ h => h⟩
instance : Mo rS := ⟨fun _ h => h⟩
instance : Mo rN := ⟨fun _ h => h⟩
instance {K : PySem.W.Frag} : Mo (rFr K) := ⟨fun e ⟨a, h1, h2⟩ => ⟨a, h1, e.tup h2⟩⟩
instance {K : PySem.W.Frag} {α β : Type} {A : Rep α} {B : Rep β} [Mo A] [Mo B] : Mo (r2 K A B) := ⟨fun e ⟨a, v1, v2, h1, h2, h3, h4⟩ => ⟨a, v1, v2, h1, e.tup h2, Mo.mo e h3, Mo.mo e h4⟩⟩
instance {K : PySem.W.Frag} {α β γ : Type} {A : Rep α} {B : Rep β} {C : Rep γ} [Mo A] [Mo B] [Mo C] : Mo (r3 K A B C) := ⟨fun e ⟨a, v1, v2, v3, h1, h2, h3, h4, h5⟩ => ⟨a, v1, v2, v3, h1, e.tup h2, Mo.mo e h3, Mo.mo e h4, Mo.mo e h5⟩⟩
instance {K : PySem.W.Frag} {α β γ δ ε : Type} {A : Rep α} {B : Rep β} {C : Rep γ} {D : Rep δ} {E : Rep ε} [Mo A] [Mo B] [Mo C] [Mo D] [Mo E] : Mo (r5 K A B C D E) :=
  ⟨fun e ⟨a, v1, v2, v3, v4, v5, h1, h2, h3, h4, h5, h6, h7⟩ => ⟨a, v1, v2, v3, v4, v5, h1, e.tup h2, Mo.mo e h3, Mo.mo e h4, Mo.mo e h5, Mo.mo e h6, Mo.mo e h7⟩⟩
theorem Al.mo {α : Type} {A : Rep α} [Mo A] {F F' : Hp} (e : Le F F') : ∀ {vs : List V} {xs : List α}, Al A F vs xs → Al A F' vs xs
  | [], [], _ => True.intro
  | _ :: _, _ :: _, h => ⟨Mo.mo e h.1, Al.mo e h.2⟩
  | [], _ :: _, h => h.elim
  | _ :: _, [], h => h.elim
theorem Al.length {α : Type} {A : Rep α} {F : Hp} : ∀ {vs : List V} {xs : List α}, Al A F vs xs → vs.length = xs.length
  | [], [], _ => rfl
  | _ :: vs, _ :: xs, h => by rw [List.length_cons, List.length_cons, Al.length h.2]
  | [], _ :: _, h => h.elim
  | _ :: _, [], h => h.elim
theorem Al.get {α : Type} {A : Rep α} {F : Hp} : ∀ {vs : List V} {xs : List α} {i : Nat} {v : V}, Al A F vs xs → vs[i]? = some v → ∃ x, xs[i]? = some x ∧ A F v x
  | v :: vs, x :: xs, 0, w, h, e => by simp at e; subst e; exact ⟨x, rfl, h.1⟩
  | v :: vs, x :: xs, i + 1, w, h, e => by
    obtain ⟨y, h1, h2⟩ := Al.get (i := i) h.2 (by simpa using e)
    exact ⟨y, by simpa using h1, h2⟩
  | [], [], _, _, _, e => by simp at e
  | [], _ :: _, _, _, h, _ => h.elim
  | _ :: _, [], _, _, h, _ => h.elim
theorem Al.at {α : Type} {A : Rep α} {F : Hp} {vs : List V} {xs : List α} {i : Nat} {x : α} (h : Al A F vs xs) (e : xs[i]? = some x) : ∃ v, vs[i]? = some v ∧ A F v x := by
  have hl := h.length
  have hi : i < vs.length := by rw [hl]; exact (List.getElem?_eq_some_iff.mp e).1
  obtain ⟨y, h1, h2⟩ := h.get (i := i) (v := vs[i]) (by simp)
  rw [e] at h1
  cases h1
  exact ⟨_, by simp, h2⟩
theorem Al.app {α : Type} {A : Rep α} {F : Hp} : ∀ {vs ws : List V} {xs ys : List α}, Al A F vs xs → Al A F ws ys → Al A F (vs ++ ws) (xs ++ ys)
  | [], _, [], _, _, h => h
  | _ :: _, _, _ :: _, _, h, g => ⟨h.1, Al.app h.2 g⟩
  | [], _, _ :: _, _, h, _ => h.elim
  | _ :: _, _, [], _, h, _ => h.elim
theorem Al.snoc {α : Type} {A : Rep α} {F : Hp} {vs : List V} {xs : List α} {v : V} {x : α} (h : Al A F vs xs) (g : A F v x) : Al A F (vs ++ [v]) (xs ++ [x]) := h.app ⟨g, True.intro⟩
theorem al_ints {F : Hp} : ∀ {ns : List Int}, Al rI F (ns.map V.int) ns
  | [] => True.intro
  | _ :: ns => ⟨rfl, al_ints⟩
theorem Dk.mo {α : Type} {A : Rep α} [Mo A] {F F' : Hp} (e : Le F F') : ∀ {vs : List (Key × V)} {xs : List (Str × α)}, Dk A F vs xs → Dk A F' vs xs
  | [], [], _ => True.intro
  | _ :: _, _ :: _, h => ⟨h.1, Mo.mo e h.2.1, Dk.mo e h.2.2⟩
  | [], _ :: _, h => h.elim
  | _ :: _, [], h => h.elim
theorem Dk.length {α : Type} {A : Rep α} {F : Hp} : ∀ {vs : List (Key × V)} {xs : List (Str × α)}, Dk A F vs xs → vs.length = xs.length
  | [], [], _ => rfl
  | _ :: vs, _ :: xs, h => by rw [List.length_cons, List.length_cons, Dk.length h.2.2]
  | [], _ :: _, h => h.elim
  | _ :: _, [], h => h.elim
instance {K : PySem.W.Frag} {α : Type} {A : Rep α} [Mo A] : Mo (rL K A) := ⟨fun e ⟨a, vs, h1, h2, h3⟩ => ⟨a, vs, h1, e.lst h2, h3.mo e⟩⟩
instance {α : Type} {A : Rep α} [Mo A] : Mo (rD A) := ⟨fun e ⟨a, kvs, h1, h2, h3, h4⟩ => ⟨a, kvs, h1, e.dic h2, h3.mo e, h4⟩⟩
theorem Dk.get {α : Type} {A : Rep α} {F : Hp} : ∀ {kvs : List (Key × V)} {m : List (Str × α)} {i : Nat} {k : Key} {v : V}, Dk A F kvs m → kvs[i]? = some (k, v) → ∃ x y, m[i]? = some (x, y) ∧ k = Sum.inr x ∧ A F v y
  | p :: r, x :: s, 0, k, v, h, e => by
    simp at e
    subst e
    exact ⟨x.1, x.2, rfl, h.1, h.2.1⟩
  | p :: r, x :: s, i + 1, k, v, h, e => by
    obtain ⟨x', y, e1, e2⟩ := Dk.get (i := i) h.2.2 (by simpa using e)
    exact ⟨x', y, by simpa using e1, e2⟩
  | [], [], i, _, _, _, e => by simp at e
  | [], _ :: _, _, _, _, h, _ => h.elim
  | _ :: _, [], _, _, _, h, _ => h.elim
section
variable {α : Type}
def gtd (m : List (Str × α)) (k : Str) : Option α := (m.find? fun p => decide (p.1 = k)).map (·.2)
def ptd (m : List (Str × α)) (k : Str) (y : α) : List (Str × α) := if (m.any fun p => decide (p.1 = k)) = true then m.map (fun p => if p.1 = k then (p.1, y) else p) else m ++ [(k, y)]
theorem gtd_pos {p : Str × α} {r : List (Str × α)} {k : Str} (e : p.1 = k) : gtd (p :: r) k = some p.2 := by simp [gtd, List.find?_cons, e]
theorem gtd_neg {p : Str × α} {r : List (Str × α)} {k : Str} (e : ¬ p.1 = k) : gtd (p :: r) k = gtd r k := by simp [gtd, List.find?_cons, e]
theorem gtd_any (k : Str) : ∀ m : List (Str × α), (m.any fun p => decide (p.1 = k)) = (gtd m k).isSome
  | [] => rfl
  | p :: r => by
    rw [List.any_cons, gtd_any k r]
    by_cases e : p.1 = k
    · rw [gtd_pos e, decide_eq_true e]; rfl
    · rw [gtd_neg e, decide_eq_false e]; rfl
theorem Dk.val {A : Rep α} {F : Hp} (x : Str) : ∀ {kvs : List (Key × V)} {m : List (Str × α)}, Dk A F kvs m → (valV kvs (Sum.inr x : Key) = none ∧ gtd m x = none) ∨ ∃ v y, valV kvs (Sum.inr x : Key) = some v ∧ gtd m x = some y ∧ A F v y
  | [], [], _ => .inl ⟨rfl, rfl⟩
  | p :: r, y :: s, h => by
    by_cases e : y.1 = x
    · have e2 : p.1 = (Sum.inr x : Key) := by rw [h.1, e]
      exact .inr ⟨p.2, y.2, by rw [valV_pos e2], gtd_pos e, h.2.1⟩
    · have e2 : ¬ p.1 = (Sum.inr x : Key) := by rw [h.1]; exact fun z => e (Sum.inr.inj z)
      rw [valV_neg e2, gtd_neg e]
      exact Dk.val x h.2.2
  | [], _ :: _, h => h.elim
  | _ :: _, [], h => h.elim
theorem Dk.some {A : Rep α} {F : Hp} {x : Str} {y : α} {kvs : List (Key × V)} {m : List (Str × α)} (h : Dk A F kvs m) (e : gtd m x = some y) : ∃ v, valV kvs (Sum.inr x : Key) = some v ∧ A F v y := by
  rcases h.val x with ⟨_, h2⟩ | ⟨v, y', h1, h2, h3⟩
  · rw [e] at h2; cases h2
  · rw [e] at h2; cases h2; exact ⟨v, h1, h3⟩
theorem Dk.none {A : Rep α} {F : Hp} {x : Str} {kvs : List (Key × V)} {m : List (Str × α)} (h : Dk A F kvs m) (e : gtd m x = none) : valV kvs (Sum.inr x : Key) = none := by
  rcases h.val x with ⟨h1, _⟩ | ⟨v, y', h1, h2, h3⟩
  · exact h1
  · rw [e] at h2; cases h2
theorem Dk.any {A : Rep α} {F : Hp} (x : Str) {kvs : List (Key × V)} {m : List (Str × α)} (h : Dk A F kvs m) : (kvs.any fun kv => decide (kv.1 = (Sum.inr x : Key))) = (m.any fun p => decide (p.1 = x)) := by
  rw [valV_any, gtd_any]
  rcases h.val x with ⟨h1, h2⟩ | ⟨a, q, h1, h2, _⟩
  · rw [h1, h2]; rfl
  · rw [h1, h2]; rfl
theorem Dk.snoc {A : Rep α} {F : Hp} {x : Str} {y : α} {v : V} (hv : A F v y) : ∀ {kvs : List (Key × V)} {m : List (Str × α)}, Dk A F kvs m → Dk A F (kvs ++ [(Sum.inr x, v)]) (m ++ [(x, y)])
  | [], [], _ => ⟨rfl, hv, True.intro⟩
  | _ :: _, _ :: _, h => ⟨h.1, h.2.1, Dk.snoc hv h.2.2⟩
  | [], _ :: _, h => h.elim
  | _ :: _, [], h => h.elim
theorem Dk.repl {A : Rep α} {F : Hp} {x : Str} {y : α} {v : V} (hv : A F v y) : ∀ {kvs : List (Key × V)} {m : List (Str × α)}, Dk A F kvs m →
    Dk A F (kvs.map fun kv => if kv.1 = (Sum.inr x : Key) then (kv.1, v) else kv) (m.map fun p => if p.1 = x then (p.1, y) else p)
  | [], [], _ => True.intro
  | p :: r, z :: s, h => by
    have ih := Dk.repl (x := x) hv h.2.2
    rw [List.map_cons, List.map_cons]
    by_cases e : z.1 = x
    · have e2 : p.1 = (Sum.inr x : Key) := by rw [h.1, e]
      rw [if_pos e2, if_pos e]
      exact ⟨h.1, hv, ih⟩
    · have e2 : ¬ p.1 = (Sum.inr x : Key) := by rw [h.1]; exact fun z => e (Sum.inr.inj z)
      rw [if_neg e2, if_neg e]
      exact ⟨h.1, h.2.1, ih⟩
  | [], _ :: _, h => h.elim
  | _ :: _, [], h => h.elim
theorem Dk.put {A : Rep α} {F : Hp} {x : Str} {y : α} {v : V} (hv : A F v y) {kvs : List (Key × V)} {m : List (Str × α)} (h : Dk A F kvs m) : Dk A F (putK kvs (Sum.inr x : Key) v) (ptd m x y) := by
  unfold putK ptd
  rw [h.any x]
  split
  · exact h.repl hv
  · exact h.snoc hv
end
def bl (n : Nat) : Nat := if n = 0 then 0 else Nat.log2 n + 1
theorem bl_lt {n k : Nat} : n < 2 ^ k ↔ bl n ≤ k := by
  unfold bl
  by_cases h : n = 0
  · subst h; simp [Nat.two_pow_pos]
  · rw [if_neg h, ← Nat.log2_lt h]; omega
theorem bl_self (n : Nat) : n < 2 ^ bl n := bl_lt.mpr (Nat.le_refl _)
def bi (x : Int) : Nat := bl x.natAbs
def bs (q : Rat) : Nat := max (bl q.num.natAbs) (bl q.den)
theorem sm_of {q : Rat} {n : Nat} (h : bs q ≤ n) : Sm n q := ⟨bl_lt.mpr (by unfold bs at h; omega), bl_lt.mpr (by unfold bs at h; omega)⟩
theorem of_sm {q : Rat} {n : Nat} (h : Sm n q) : bs q ≤ n := by
  have h1 := bl_lt.mp h.1
  have h2 := bl_lt.mp h.2
  unfold bs
  omega
theorem sm_bs (q : Rat) : Sm (bs q) q := sm_of (Nat.le_refl _)
theorem bs_add (a b : Rat) : bs (a + b) ≤ bs a + bs b + 1 := of_sm (sm_add (sm_bs a) (sm_bs b))
theorem bs_mul (a b : Rat) : bs (a * b) ≤ bs a + bs b := of_sm (sm_mul (sm_bs a) (sm_bs b))
theorem bs_neg (a : Rat) : bs (-a) ≤ bs a := of_sm (sm_neg (sm_bs a))
theorem bs_zero : bs 0 = 1 := by decide +kernel
theorem bi_lt {x : Int} {k : Nat} (h : x.natAbs < 2 ^ k) : bi x ≤ k := bl_lt.mp h
theorem lt_bi {x : Int} {k : Nat} (h : bi x ≤ k) : x.natAbs < 2 ^ k := bl_lt.mpr h
theorem bi_mul (x y : Int) : bi (x * y) ≤ bi x + bi y := bl_lt.mp (abs_mul_lt (bl_self _) (bl_self _))
theorem bi_add (x y : Int) : bi (x + y) ≤ max (bi x) (bi y) + 1 := by
  have h1 : x.natAbs < 2 ^ (max (bi x) (bi y)) := Nat.lt_of_lt_of_le (bl_self _) (Nat.pow_le_pow_right (by decide) (Nat.le_max_left _ _))
  have h2 : y.natAbs < 2 ^ (max (bi x) (bi y)) := Nat.lt_of_lt_of_le (bl_self _) (Nat.pow_le_pow_right (by decide) (Nat.le_max_right _ _))
  exact bl_lt.mp (abs_add_lt h1 h2)
theorem bi_sub (x y : Int) : bi (x - y) ≤ max (bi x) (bi y) + 1 := by
  have h1 : x.natAbs < 2 ^ (max (bi x) (bi y)) := Nat.lt_of_lt_of_le (bl_self _) (Nat.pow_le_pow_right (by decide) (Nat.le_max_left _ _))
  have h2 : y.natAbs < 2 ^ (max (bi x) (bi y)) := Nat.lt_of_lt_of_le (bl_self _) (Nat.pow_le_pow_right (by decide) (Nat.le_max_right _ _))
  exact bl_lt.mp (abs_sub_lt h1 h2)
theorem bi_small {x : Int} (k : Nat) (h : x.natAbs < 2 ^ k) : bi x ≤ k := bl_lt.mp h
theorem bi_num (q : Rat) : bi q.num ≤ bs q := by unfold bi bs; omega
theorem bi_den (q : Rat) : bi (q.den : Int) ≤ bs q := by unfold bi bs; rw [Int.natAbs_natCast]; omega
theorem bs_divInt {t b : Int} (h : b ≠ 0) {k : Nat} (h1 : bi t ≤ k) (h2 : bi b ≤ k) : bs (Rat.divInt t b) ≤ k := of_sm (sm_divInt h (lt_bi h1) (lt_bi h2))
theorem mulBB {x y : Int} (h1 : bi x ≤ 60000000) (h2 : bi y ≤ 60000000) : CMulX x y := .inr ⟨60000000, Nat.le_refl _, lt_bi h1, lt_bi h2⟩
theorem mulL2 {x y : Int} (h1 : -18446744073709551616 < x) (h2 : x < 18446744073709551616) : CMulX x y := .inl (.inl ⟨by omega, by omega⟩)
theorem mulR2 {x y : Int} (h1 : -18446744073709551616 < y) (h2 : y < 18446744073709551616) : CMulX x y := .inl (.inr ⟨by omega, by omega⟩)
theorem mulLB {x y : Int} (h1 : bi x ≤ 60) : CMulX x y := by
  have h := lt_bi h1
  refine .inl (.inl ⟨?_, ?_⟩) <;> omega
theorem mulRB {x y : Int} (h1 : bi y ≤ 60) : CMulX x y := by
  have h := lt_bi h1
  refine .inl (.inr ⟨?_, ?_⟩) <;> omega
theorem divB {x y : Int} (h0 : y ≠ 0) (h1 : bi y ≤ 8000) : CDivB x y := ⟨h0, lt_bi h1⟩
section
variable {σ : St} {H : Hp} {Q : VK} {D : Ends} {K : PySem.W.Frag}
theorem a_eqS {x y : Str} (h : Q (.bl (decide (x = y))) H) : rEq (.str x) (.str y) H Q := ⟨rfl, by
  have e : decide (V.str x = V.str y) = decide (x = y) := by
    by_cases q : x = y
    · subst q; simp
    · rw [decide_eq_false q, decide_eq_false (fun z => q (V.str.inj z))]
  rw [e]; exact h⟩
theorem iteB {b : Bool} {A B : Prop} (h1 : b = true → A) (h2 : b = false → B) : if b = true then A else B := by
  cases b
  · exact iteF (h2 rfl)
  · exact iteT (h1 rfl)
theorem iteNB {b : Bool} {A B : Prop} (h1 : b = false → A) (h2 : b = true → B) : if (!b) = true then A else B := by
  cases b
  · exact iteT (h1 rfl)
  · exact iteF (h2 rfl)
theorem fr_int (n : Int) : fr ((n : Int) : Rat) = [.int n, .int 1] := by
  unfold fr
  rw [Rat.num_intCast, Rat.den_intCast]
  rfl
end
section
variable {K : PySem.W.Frag} {H : Hp}
end
section
open PySem.Spec PyProof.Rows
variable {X : Cx}
end
theorem Al.ix {α : Type} {A : Rep α} {F : Hp} {vs : List V} {xs : List α} (h : Al A F vs xs) {i : Int} (h0 : 0 ≤ i) (h1 : i < xs.length) : ∃ x v, xs[i.toNat]? = some x ∧ atI vs i = some v ∧ A F v x := by
  have hi : i.toNat < xs.length := by omega
  obtain ⟨v, e1, e2⟩ := h.at (i := i.toNat) (x := xs[i.toNat]) (by simp [hi])
  refine ⟨xs[i.toNat], v, by simp [hi], ?_, e2⟩
  have := atI_nat e1
  rw [Int.toNat_of_nonneg h0] at this
  exact this
theorem nd_ptd {α : Type} {m : List (Str × α)} (n : (m.map (·.1)).Nodup) (k : Str) (y : α) : ((ptd m k y).map (·.1)).Nodup := by
  unfold ptd
  split
  · rw [List.map_map]
    have e : (m.map ((·.1) ∘ fun p => if p.1 = k then (p.1, y) else p)) = m.map (·.1) := by
      apply List.map_congr_left
      intro p _
      simp only [Function.comp]
      split <;> rfl
    rw [e]; exact n
  · rename_i h
    rw [List.map_append, List.nodup_append]
    refine ⟨n, by simp, ?_⟩
    intro a ha b hb e
    simp at hb
    subst hb
    subst e
    obtain ⟨p, hp, hk⟩ := List.mem_map.mp ha
    apply h
    rw [List.any_eq_true]
    exact ⟨p, hp, by simp [hk]⟩
def cutA {α : Type} (xs : List α) (lo hi : Option Int) : List α := (xs.drop (HT.sIx xs.length 0 lo)).take (HT.sIx xs.length xs.length hi - HT.sIx xs.length 0 lo)
theorem cutA_le {α : Type} (xs : List α) (lo hi : Option Int) : (cutA xs lo hi).length ≤ xs.length := by
  unfold cutA
  rw [List.length_take, List.length_drop]
  omega
theorem Al.drop {α : Type} {A : Rep α} {F : Hp} : ∀ (n : Nat) {vs : List V} {xs : List α}, Al A F vs xs → Al A F (vs.drop n) (xs.drop n)
  | 0, _, _, h => h
  | _ + 1, [], [], _ => True.intro
  | n + 1, _ :: _, _ :: _, h => Al.drop n h.2
  | _ + 1, [], _ :: _, h => h.elim
  | _ + 1, _ :: _, [], h => h.elim
theorem Al.take {α : Type} {A : Rep α} {F : Hp} : ∀ (n : Nat) {vs : List V} {xs : List α}, Al A F vs xs → Al A F (vs.take n) (xs.take n)
  | 0, _, _, _ => True.intro
  | _ + 1, [], [], _ => True.intro
  | n + 1, _ :: _, _ :: _, h => ⟨h.1, Al.take n h.2⟩
  | _ + 1, [], _ :: _, h => h.elim
  | _ + 1, _ :: _, [], h => h.elim
theorem Al.cut {α : Type} {A : Rep α} {F : Hp} {vs : List V} {xs : List α} (lo hi : Option Int) (h : Al A F vs xs) : Al A F (cutV vs lo hi) (cutA xs lo hi) := by
  unfold cutV cutA
  rw [h.length]
  exact (h.drop _).take _
end Vc
namespace Vc
open PySem L2 Sf
section
variable {X : Cx} {pins : List (Addr × Obj)} {σ : St} {F H : Hp} {s : Shared} {Au : Around}
theorem rel_fun : ∀ {x y : V} {u : Value}, RelV x u → RelV y u → x = y := by
  intro x y u h1 h2
  cases x <;> cases y <;> simp only [RelV] at h1 h2 <;> first
    | rfl
    | (subst h1; simp at h2; subst h2; rfl)
    | (subst h1; simp at h2; done)
    | (obtain ⟨t, rfl⟩ := h1; obtain ⟨t', e⟩ := h2; simp at e; rw [e.1])
    | (obtain ⟨t, rfl⟩ := h1; simp at h2; done)
    | (obtain ⟨t, rfl⟩ := h2; simp at h1; done)
theorem vals_fun : ∀ {xs ys : List V} {us : List Value}, Vals xs us → Vals ys us → xs = ys
  | [], [], _, _, _ => rfl
  | _ :: _, _ :: _, _, .cons h t, .cons h' t' => by rw [rel_fun h h', vals_fun t t']
  | [], _ :: _, _, h, h' => by cases h; cases h'
  | _ :: _, [], _, h, h' => by cases h'; cases h
theorem sqT_fun {a : Addr} {xs ys : List V} (I : Inv X pins σ H s) (h1 : SqT X.K H a xs) (h2 : SqT X.K H a ys) : xs = ys := by
  obtain ⟨us, r1, ⟨o1, g1, c1, n1, d1⟩, _⟩ := I.tuple h1
  obtain ⟨ws, r2, ⟨o2, g2, c2, n2, d2⟩, _⟩ := I.tuple h2
  rw [g1] at g2
  cases g2
  rw [d1] at d2
  injection d2 with e _
  have : us = ws := by simpa using e
  subst this
  exact vals_fun r1 r2
theorem sqL_fun {a : Addr} {xs ys : List V} (I : Inv X pins σ H s) (h1 : SqL X.K H a xs) (h2 : SqL X.K H a ys) : xs = ys := by
  obtain ⟨us, r1, p1, _⟩ := I.list h1
  obtain ⟨ws, r2, p2, _⟩ := I.list h2
  obtain ⟨o1, g1, c1, n1, d1⟩ := p1.isList
  obtain ⟨o2, g2, c2, n2, d2⟩ := p2.isList
  rw [g1] at g2
  cases g2
  rw [d1] at d2
  injection d2 with e _
  have : us = ws := by simpa using e
  subst this
  exact vals_fun r1 r2
theorem rc_tups {a b : Addr} {xs ys : List V} (I : Inv X pins σ H s) (h1 : SqT X.K H a xs) (h2 : SqT X.K H b ys) (hu : Au.units < cLine) (hl : xs.length = ys.length) (e : Nat → Bool)
    (he : ∀ (j : Nat) x y u v, xs[j]? = some x → ys[j]? = some y → RelV x u → RelV y v → SeqAt.EqAt Au.in1 s u v (e j)) : SeqAt.RcAt Au s (.ref a) (.ref b) ((List.range xs.length).all e) := by
  obtain ⟨us, r1, t1, _⟩ := I.tuple h1
  obtain ⟨ws, r2, t2, _⟩ := I.tuple h2
  have l1 := r1.length
  have l2 := r2.length
  have z := SeqAt.RcAt.tuples (A := Au) (e := e) t1 t2 hu (fun j h1 h2 => ?_)
  · have e0 : ((List.range (min us.toArray.size ws.toArray.size)).all e && us.toArray.size == ws.toArray.size) = (List.range xs.length).all e := by
      simp only [List.size_toArray]
      have e1 : min us.length ws.length = xs.length := by omega
      have e2 : (us.length == ws.length) = true := by simp; omega
      rw [e1, e2, Bool.and_true]
    rw [e0] at z
    exact z
  · simp only [List.size_toArray] at h1 h2
    obtain ⟨u, e1, ru⟩ := r1.get (i := j) (x := xs[j]'(by omega)) (by simp)
    obtain ⟨v, e2, rv⟩ := r2.get (i := j) (x := ys[j]'(by omega)) (by simp)
    obtain ⟨_, f1⟩ := List.getElem?_eq_some_iff.mp e1
    obtain ⟨_, f2⟩ := List.getElem?_eq_some_iff.mp e2
    have g1 : us.toArray[j]'(by simpa using h1) = u := by simpa using f1
    have g2 : ws.toArray[j]'(by simpa using h2) = v := by simpa using f2
    rw [g1, g2]
    exact he j _ _ u v (by simp) (by simp) ru rv
theorem rc_lsts {a b : Addr} {xs ys : List V} (I : Inv X pins σ H s) (h1 : SqL X.K H a xs) (h2 : SqL X.K H b ys) (hu : Au.units < cLine) (hl : xs.length = ys.length) (e : Nat → Bool)
    (he : ∀ (j : Nat) x y u v, xs[j]? = some x → ys[j]? = some y → RelV x u → RelV y v → SeqAt.EqAt Au.in1 s u v (e j)) : SeqAt.RcAt Au s (.ref a) (.ref b) ((List.range xs.length).all e) := by
  obtain ⟨us, r1, t1, _⟩ := I.list h1
  obtain ⟨ws, r2, t2, _⟩ := I.list h2
  have l1 := r1.length
  have l2 := r2.length
  have z := SeqAt.RcAt.lists (A := Au) (e := e) t1.isList t2.isList (by simp; omega) hu (fun j h1 h2 => ?_)
  · have e0 : (List.range us.toArray.size).all e = (List.range xs.length).all e := by
      simp only [List.size_toArray]
      rw [← l1]
    rw [e0] at z
    exact z
  · simp only [List.size_toArray] at h1 h2
    obtain ⟨u, e1, ru⟩ := r1.get (i := j) (x := xs[j]'(by omega)) (by simp)
    obtain ⟨v, e2, rv⟩ := r2.get (i := j) (x := ys[j]'(by omega)) (by simp)
    obtain ⟨_, f1⟩ := List.getElem?_eq_some_iff.mp e1
    obtain ⟨_, f2⟩ := List.getElem?_eq_some_iff.mp e2
    have g1 : us.toArray[j]'(by simpa using h1) = u := by simpa using f1
    have g2 : ws.toArray[j]'(by simpa using h2) = v := by simpa using f2
    rw [g1, g2]
    exact he j _ _ u v (by simp) (by simp) ru rv
end
class Qf {α : Type} [DecidableEq α] (K : PySem.W.Frag) (A : Rep α) (dep : outParam Nat) : Prop where
  fn : ∀ {X : Cx} {pins : List (Addr × Obj)} {σ : St} {F H : Hp} {s : Shared} {v : V} {x y : α}, X.K = K → Inv X pins σ H s → Same F H → A F v x → A F v y → x = y
  qf : ∀ {X : Cx} {pins : List (Addr × Obj)} {σ : St} {F H : Hp} {s : Shared} {Au : Around} {v w : V} {x y : α} {u u' : Value}, X.K = K → Inv X pins σ H s → Same F H → A F v x → A F w y → RelV v u → RelV w u' → Au.units + dep < cLine → SeqAt.EqAt Au s u u' (decide (x = y))
class Qr {α : Type} [DecidableEq α] (K : PySem.W.Frag) (A : Rep α) (dep : outParam Nat) : Prop where
  fn : ∀ {X : Cx} {pins : List (Addr × Obj)} {σ : St} {F H : Hp} {s : Shared} {v : V} {x y : α}, X.K = K → Inv X pins σ H s → Same F H → A F v x → A F v y → x = y
  rf : ∀ {F : Hp} {v : V} {x : α}, A F v x → ∃ a, v = .ref a
  rc : ∀ {X : Cx} {pins : List (Addr × Obj)} {σ : St} {F H : Hp} {s : Shared} {Au : Around} {a b : Addr} {x y : α}, X.K = K → Inv X pins σ H s → Same F H → A F (.ref a) x → A F (.ref b) y → Au.units + dep < cLine → SeqAt.RcAt Au s (.ref a) (.ref b) (decide (x = y))
instance (priority := low) {α : Type} [DecidableEq α] {K : PySem.W.Frag} {A : Rep α} {d : Nat} [q : Qr K A d] : Qf K A d where
  fn := q.fn
  qf := fun {X pins σ F H s Au v w x y u u'} hK I wd h1 h2 r1 r2 hu => by
    obtain ⟨a, rfl⟩ := q.rf h1
    obtain ⟨b, rfl⟩ := q.rf h2
    cases r1
    cases r2
    by_cases e : a = b
    · subst e
      rw [decide_eq_true (q.fn hK I wd h1 h2)]
      exact SeqAt.EqAt.same _
    · exact SeqAt.EqAt.of_refs e (q.rc hK I wd h1 h2 hu)
theorem qf_flat {α : Type} [DecidableEq α] {K : PySem.W.Frag} {A : Rep α} (f : α → V) (hf : ∀ F v x, A F v x ↔ v = f x) (fl : ∀ x, flatV (f x) = true) (he : ∀ x y, eqV (f x) (f y) = decide (x = y)) (hi : ∀ x y, f x = f y → x = y) : Qf K A 0 where
  fn := fun {X pins σ F H s v x y} _ _ _ h1 h2 => hi x y (((hf F v x).mp h1).symm.trans ((hf F v y).mp h2))
  qf := fun {X pins σ F H s Au v w x y u u'} _ _ _ h1 h2 r1 r2 _ => by
    have e1 := (hf F v x).mp h1
    have e2 := (hf F w y).mp h2
    subst e1 e2
    rw [← he x y]
    exact eqAt_V r1 r2 (fl x) (fl y)
instance {K : PySem.W.Frag} : Qf K rI 0 := qf_flat V.int (fun _ _ _ => Iff.rfl) (fun _ => rfl) (fun x y => by show (x == y) = _; rw [Bool.beq_eq_decide_eq]) (fun _ _ h => V.int.inj h)
instance {K : PySem.W.Frag} : Qf K rS 0 := qf_flat V.str (fun _ _ _ => Iff.rfl) (fun _ => rfl) (fun x y => by show (x == y) = _; rw [Bool.beq_eq_decide_eq]) (fun _ _ h => V.str.inj h)
instance {K : PySem.W.Frag} : Qf K rB 0 := qf_flat V.bl (fun _ _ _ => Iff.rfl) (fun _ => rfl) (fun x y => by show (x == y) = _; rw [Bool.beq_eq_decide_eq]) (fun _ _ h => V.bl.inj h)
theorem rat_dec (p q : Rat) : decide (p = q) = (decide (p.num = q.num) && decide ((p.den : Int) = (q.den : Int))) := by
  by_cases h : p = q
  · subst h; simp
  · rw [decide_eq_false h]
    by_cases h1 : p.num = q.num
    · have h2 : ¬ ((p.den : Int) = (q.den : Int)) := fun z => h (Rat.ext h1 (by omega))
      rw [decide_eq_false h2, Bool.and_false]
    · rw [decide_eq_false h1, Bool.false_and]
theorem int_eqAt {Au : Around} {s : Shared} {i j : Int} {u v : Value} (r1 : RelV (.int i) u) (r2 : RelV (.int j) v) : SeqAt.EqAt Au s u v (decide (i = j)) := by
  have z := eqAt_V (A := Au) (s := s) r1 r2 rfl rfl
  have e : eqV (.int i) (.int j) = decide (i = j) := by show (i == j) = _; rw [Bool.beq_eq_decide_eq]
  rw [e] at z
  exact z
instance {K : PySem.W.Frag} : Qr K (rFr K) 1 where
  fn := fun {X pins σ F H s v x y} hK I wd h1 h2 => by
    subst hK
    obtain ⟨a, rfl, g1⟩ := h1
    obtain ⟨b, e, g2⟩ := h2
    cases e
    have z := sqT_fun I (wd.tup g1) (wd.tup g2)
    unfold fr at z
    injection z with z1 z2
    injection z2 with z2 _
    have n1 := V.int.inj z1
    have n2 := V.int.inj z2
    exact Rat.ext n1 (by omega)
  rf := fun ⟨a, h, _⟩ => ⟨a, h⟩
  rc := fun {X pins σ F H s Au a b x y} hK I wd h1 h2 hu => by
    subst hK
    obtain ⟨a', e1, g1⟩ := h1
    obtain ⟨b', e2, g2⟩ := h2
    cases e1
    cases e2
    have z := rc_tups (Au := Au) I (wd.tup g1) (wd.tup g2) (by omega) rfl (fun j => if j = 0 then decide (x.num = y.num) else decide ((x.den : Int) = (y.den : Int))) (fun j p q u v h1 h2 r1 r2 => by
      match j, h1, h2 with
      | 0, h1, h2 => cases h1; cases h2; exact int_eqAt r1 r2
      | 1, h1, h2 => cases h1; cases h2; exact int_eqAt r1 r2
      | j + 2, h1, h2 => cases h1)
    rw [rat_dec]
    have e : (List.range (fr x).length).all (fun j => if j = 0 then decide (x.num = y.num) else decide ((x.den : Int) = (y.den : Int))) = (decide (x.num = y.num) && decide ((x.den : Int) = (y.den : Int))) := by
      show (List.range 2).all _ = _
      simp [List.range_succ]
    rw [e] at z
    exact z
instance {K : PySem.W.Frag} {α β : Type} [DecidableEq α] [DecidableEq β] {A : Rep α} {B : Rep β} {d e : Nat} [qa : Qf K A d] [qb : Qf K B e] : Qr K (r2 K A B) (d + e + 1) where
  fn := fun {X pins σ F H s v x y} hK I wd h1 h2 => by
    subst hK
    obtain ⟨a, v1, v2, rfl, g, k1, k2⟩ := h1
    obtain ⟨b, w1, w2, e, g', l1, l2⟩ := h2
    cases e
    have z := sqT_fun I (wd.tup g) (wd.tup g')
    injection z with z1 z2
    injection z2 with z2 _
    subst z1 z2
    exact Prod.ext (qa.fn rfl I wd k1 l1) (qb.fn rfl I wd k2 l2)
  rf := fun ⟨a, _, _, h, _⟩ => ⟨a, h⟩
  rc := fun {X pins σ F H s Au a b x y} hK I wd h1 h2 hu => by
    subst hK
    obtain ⟨a', v1, v2, e1, g1, k1, k2⟩ := h1
    obtain ⟨b', w1, w2, e2, g2, l1, l2⟩ := h2
    cases e1
    cases e2
    have z := rc_tups (Au := Au) I (wd.tup g1) (wd.tup g2) (by omega) rfl (fun j => if j = 0 then decide (x.1 = y.1) else decide (x.2 = y.2)) (fun j p q u v h1 h2 r1 r2 => by
      match j, h1, h2 with
      | 0, h1, h2 => cases h1; cases h2; exact qa.qf rfl I wd k1 l1 r1 r2 (by rw [in1_units]; omega)
      | 1, h1, h2 => cases h1; cases h2; exact qb.qf rfl I wd k2 l2 r1 r2 (by rw [in1_units]; omega)
      | j + 2, h1, h2 => cases h1)
    have e0 : decide (x = y) = (decide (x.1 = y.1) && decide (x.2 = y.2)) := by
      rw [← Bool.decide_and]
      congr 1
      exact propext Prod.ext_iff
    have e : (List.range [v1, v2].length).all (fun j => if j = 0 then decide (x.1 = y.1) else decide (x.2 = y.2)) = (decide (x.1 = y.1) && decide (x.2 = y.2)) := by
      show (List.range 2).all _ = _
      simp [List.range_succ]
    rw [e] at z
    rw [e0]
    exact z
theorem al_fun {K : PySem.W.Frag} {α : Type} [DecidableEq α] {A : Rep α} {d : Nat} [qa : Qf K A d] {X : Cx} {pins : List (Addr × Obj)} {σ : St} {F H : Hp} {s : Shared} (hK : X.K = K) (I : Inv X pins σ H s) (wd : Same F H) :
    ∀ {vs : List V} {xs ys : List α}, Al A F vs xs → Al A F vs ys → xs = ys
  | [], [], [], _, _ => rfl
  | _ :: _, _ :: _, _ :: _, h, g => by rw [qa.fn hK I wd h.1 g.1, al_fun hK I wd h.2 g.2]
  | [], _ :: _, _, h, _ => h.elim
  | [], [], _ :: _, _, h => h.elim
  | _ :: _, [], _, h, _ => h.elim
  | _ :: _, _ :: _, [], _, h => h.elim
theorem all_dec {α : Type} [DecidableEq α] : ∀ (xs ys : List α), xs.length = ys.length → (List.range xs.length).all (fun j => decide (xs[j]? = ys[j]?)) = decide (xs = ys) := by
  intro xs ys h
  by_cases e : xs = ys
  · subst e; simp
  · rw [decide_eq_false e, Bool.eq_false_iff]
    intro z
    apply e
    rw [List.all_eq_true] at z
    apply List.ext_getElem? 
    intro j
    by_cases hj : j < xs.length
    · exact of_decide_eq_true (z j (List.mem_range.mpr hj))
    · rw [List.getElem?_eq_none (by omega), List.getElem?_eq_none (by omega)]
instance {K : PySem.W.Frag} {α : Type} [DecidableEq α] {A : Rep α} {d : Nat} [qa : Qf K A d] : Qr K (rL K A) (d + 1) where
  fn := fun {X pins σ F H s v x y} hK I wd h1 h2 => by
    obtain ⟨a, vs, rfl, g, k1⟩ := h1
    obtain ⟨b, ws, e, g', l1⟩ := h2
    cases e
    subst hK
    have z := sqL_fun I (wd.seq g) (wd.seq g')
    subst z
    exact al_fun rfl I wd k1 l1
  rf := fun ⟨a, _, h, _⟩ => ⟨a, h⟩
  rc := fun {X pins σ F H s Au a b x y} hK I wd h1 h2 hu => by
    subst hK
    obtain ⟨a', vs, e1, g1, k1⟩ := h1
    obtain ⟨b', ws, e2, g2, l1⟩ := h2
    cases e1
    cases e2
    have n1 := k1.length
    have n2 := l1.length
    by_cases hl : x.length = y.length
    · have z := rc_lsts (Au := Au) I (wd.seq g1) (wd.seq g2) (by omega) (by omega) (fun j => decide (x[j]? = y[j]?)) (fun j p q u v h1 h2 r1 r2 => by
        obtain ⟨m1, e1, f1⟩ := k1.get h1
        obtain ⟨m2, e2, f2⟩ := l1.get h2
        have e0 : decide (x[j]? = y[j]?) = decide (m1 = m2) := by
          rw [e1, e2]
          congr 1
          exact propext ⟨fun h => Option.some.inj h, fun h => by rw [h]⟩
        rw [e0]
        exact qa.qf rfl I wd f1 f2 r1 r2 (by rw [in1_units]; omega))
      rw [n1, all_dec x y hl] at z
      exact z
    · rw [decide_eq_false (fun z => hl (by rw [z]))]
      obtain ⟨us, r1, t1, _⟩ := I.list (wd.seq g1)
      obtain ⟨zs, r2, t2, _⟩ := I.list (wd.seq g2)
      have m1 := r1.length
      have m2 := r2.length
      exact SeqAt.RcAt.lists_lengths t1.isList t2.isList (by simp; omega) (by omega)
section
variable {X : Cx}
def rQ {α : Type} [DecidableEq α] (A : Rep α) : R2 := fun v w H Q => ∃ F x y, Same F H ∧ A F v x ∧ A F w y ∧ Q (.bl (decide (x = y))) H
theorem op_eqQ {α : Type} [DecidableEq α] {K : PySem.W.Frag} {A : Rep α} {d : Nat} [q : Qr K A d] (hK : X.K = K) (hu : X.A.units + 64 < cLine) (hd : d ≤ 60 := by decide) : OpR X (compareOp .Eq) (rQ A) := by
  intro pins s σ H x y v u Q I rx ry h
  obtain ⟨F, p, r, wd, h1, h2, hq⟩ := h
  obtain ⟨a, rfl⟩ := q.rf h1
  obtain ⟨b, rfl⟩ := q.rf h2
  cases rx
  cases ry
  exact q.rc hK I wd h1 h2 (by omega) X.prog X.w X.xe _ ⟨.bl _, H, I, rfl, hq⟩
end
theorem eqT_up {K : PySem.W.Frag} {H : Hp} : ∀ {n : Nat} {x y : V}, EqT K H n x y → EqT K H (n + 1) x y
  | 0, _, _, h => .inl h
  | n + 1, _, _, .inl h => .inl h
  | n + 1, _, _, .inr ⟨p, q, xs, ys, h1, h2, h3, h4⟩ => .inr ⟨p, q, xs, ys, h1, h2, h3, by
    have gen : ∀ {xs ys : List V}, All2 (EqT K H n) xs ys → All2 (EqT K H (n + 1)) xs ys := by
      intro xs
      induction xs with
      | nil => intro ys h; cases ys with
        | nil => exact True.intro
        | cons _ _ => exact h.elim
      | cons x xs ih => intro ys h; cases ys with
        | nil => exact h.elim
        | cons y ys => exact ⟨eqT_up h.1, ih h.2⟩
    exact gen h4⟩
theorem eqT_mono {K : PySem.W.Frag} {H : Hp} {n m : Nat} {x y : V} (h : EqT K H n x y) (k : n ≤ m) : EqT K H m x y := by
  induction k with
  | refl => exact h
  | step _ ih => exact eqT_up ih
theorem deqT_up {K : PySem.W.Frag} {H : Hp} {n : Nat} {ka kb : List (Key × V)} (h : DEqT K H n ka kb) : DEqT K H (n + 1) ka kb := ⟨h.1, fun k v m => by obtain ⟨y, e1, e2⟩ := h.2 k v m; exact ⟨y, e1, eqT_up e2⟩⟩
theorem eqN_up {K : PySem.W.Frag} {H : Hp} : ∀ {n : Nat} {x y : V}, EqN K H n x y → EqN K H (n + 1) x y
  | 0, _, _, h => .inl h
  | n + 1, _, _, .inl h => .inl h
  | n + 1, _, _, .inr ⟨p, q, h1, h2, .inr ⟨ka, kb, g1, g2, g3⟩⟩ => .inr ⟨p, q, h1, h2, .inr ⟨ka, kb, g1, g2, deqT_up g3⟩⟩
  | n + 1, _, _, .inr ⟨p, q, h1, h2, .inl ⟨xs, ys, h3, h4⟩⟩ => .inr ⟨p, q, h1, h2, .inl ⟨xs, ys, h3, by
    have gen : ∀ {xs ys : List V}, All2 (EqN K H n) xs ys → All2 (EqN K H (n + 1)) xs ys := by
      intro xs
      induction xs with
      | nil => intro ys h; cases ys with
        | nil => exact True.intro
        | cons _ _ => exact h.elim
      | cons x xs ih => intro ys h; cases ys with
        | nil => exact h.elim
        | cons y ys => exact ⟨eqN_up h.1, ih h.2⟩
    exact gen h4⟩⟩
theorem eqN_mono {K : PySem.W.Frag} {H : Hp} {n m : Nat} {x y : V} (h : EqN K H n x y) (k : n ≤ m) : EqN K H m x y := by
  induction k with
  | refl => exact h
  | step _ ih => exact eqN_up ih
theorem eqT_toN {K : PySem.W.Frag} {H : Hp} : ∀ {n : Nat} {x y : V}, EqT K H n x y → EqN K H n x y
  | 0, _, _, h => h
  | n + 1, _, _, .inl h => .inl h
  | n + 1, _, _, .inr ⟨p, q, xs, ys, h1, h2, h3, h4⟩ => .inr ⟨p, q, h1, h2, .inl ⟨xs, ys, h3, by
    have gen : ∀ {xs ys : List V}, All2 (EqT K H n) xs ys → All2 (EqN K H n) xs ys := by
      intro xs
      induction xs with
      | nil => intro ys h; cases ys with
        | nil => exact True.intro
        | cons _ _ => exact h.elim
      | cons x xs ih => intro ys h; cases ys with
        | nil => exact h.elim
        | cons y ys => exact ⟨eqT_toN h.1, ih h.2⟩
    exact gen h4⟩⟩
class Et {α : Type} (K : PySem.W.Frag) (A : Rep α) (n : outParam Nat) : Prop where
  et : ∀ {F H : Hp} {v w : V} {x : α}, Same F H → A F v x → A F w x → EqT K H n v w
instance {K : PySem.W.Frag} : Et K rI 0 := ⟨fun _ h g => by cases h; cases g; exact ⟨rfl, rfl⟩⟩
instance {K : PySem.W.Frag} : Et K rS 0 := ⟨fun _ h g => by cases h; cases g; exact ⟨rfl, rfl⟩⟩
instance {K : PySem.W.Frag} : Et K rB 0 := ⟨fun _ h g => by cases h; cases g; exact ⟨rfl, rfl⟩⟩
instance {K : PySem.W.Frag} : Et K rN 0 := ⟨fun _ h g => by cases h; cases g; exact ⟨rfl, rfl⟩⟩
instance {K : PySem.W.Frag} : Et K (rFr K) 1 := ⟨fun wd ⟨a, h1, h2⟩ ⟨b, g1, g2⟩ => .inr ⟨a, b, _, _, h1, g1, .inl ⟨wd.tup h2, wd.tup g2⟩, ⟨rfl, rfl⟩, ⟨rfl, rfl⟩, True.intro⟩⟩
instance {K : PySem.W.Frag} {α β : Type} {A : Rep α} {B : Rep β} {n m : Nat} [Et K A n] [Et K B m] : Et K (r2 K A B) (n + m + 1) :=
  ⟨fun wd ⟨a, v1, v2, h1, h2, h3, h4⟩ ⟨b, w1, w2, g1, g2, g3, g4⟩ => .inr ⟨a, b, _, _, h1, g1, .inl ⟨wd.tup h2, wd.tup g2⟩, eqT_mono (Et.et wd h3 g3) (by omega), eqT_mono (Et.et wd h4 g4) (by omega), True.intro⟩⟩
theorem al_et {K : PySem.W.Frag} {α : Type} {A : Rep α} {n : Nat} [Et K A n] {F H : Hp} (wd : Same F H) : ∀ {vs ws : List V} {xs : List α}, Al A F vs xs → Al A F ws xs → All2 (EqT K H n) vs ws
  | [], [], [], _, _ => True.intro
  | _ :: _, _ :: _, _ :: _, h, g => ⟨Et.et wd h.1 g.1, al_et wd h.2 g.2⟩
  | [], _ :: _, [], _, g => g.elim
  | _ :: _, _, [], h, _ => h.elim
  | [], _, _ :: _, h, _ => h.elim
  | _ :: _, [], _ :: _, _, g => g.elim
instance {K : PySem.W.Frag} {α : Type} {A : Rep α} {n : Nat} [Et K A n] : Et K (rL K A) (n + 1) :=
  ⟨fun wd ⟨a, vs, h1, h2, h3⟩ ⟨b, ws, g1, g2, g3⟩ => .inr ⟨a, b, _, _, h1, g1, .inr ⟨wd.seq h2, wd.seq g2⟩, al_et wd h3 g3⟩⟩
class En {α : Type} (K : PySem.W.Frag) (A : Rep α) (n : outParam Nat) : Prop where
  en : ∀ {F H : Hp} {v w : V} {x : α}, Same F H → A F v x → A F w x → EqN K H n v w
instance (priority := low) {K : PySem.W.Frag} {α : Type} {A : Rep α} {n : Nat} [Et K A n] : En K A n := ⟨fun wd h g => eqT_toN (Et.et wd h g)⟩
theorem dk_deq {K : PySem.W.Frag} {α : Type} {A : Rep α} {n : Nat} [Et K A n] {F H : Hp} {ka kb : List (Key × V)} {m m' : List (Str × α)} (wd : Same F H) (h : Dk A F ka m) (g : Dk A F kb m') (hn : (m.map (·.1)).Nodup) (hl : m.length = m'.length) (hg : ∀ k y, gtd m k = some y → gtd m' k = some y) : DEqT K H n ka kb := by
  refine ⟨by rw [h.length, g.length, hl], fun k v hm => ?_⟩
  obtain ⟨i, hi⟩ := List.getElem?_of_mem hm
  obtain ⟨x, q, e1, rfl, ha⟩ := h.get hi
  have hgt : gtd m x = some q := by
    have mem := List.mem_of_getElem? e1
    clear h hi hm hl hg e1
    induction m with
    | nil => cases mem
    | cons p r ih =>
      rw [List.map_cons, List.nodup_cons] at hn
      rcases List.mem_cons.mp mem with e | e
      · subst e; exact gtd_pos rfl
      · have ne : ¬ p.1 = x := fun z => hn.1 (by rw [z]; exact List.mem_map.mpr ⟨_, e, rfl⟩)
        rw [gtd_neg ne]; exact ih hn.2 e
  obtain ⟨w, v1, v3⟩ := g.some (hg x q hgt)
  exact ⟨w, v1, Et.et wd ha v3⟩
instance {K : PySem.W.Frag} {α : Type} {A : Rep α} {n : Nat} [Et K A n] : En K (rD A) (n + 1) :=
  ⟨fun wd ⟨a, ka, h1, h2, h3, h4⟩ ⟨b, kb, g1, g2, g3, g4⟩ => .inr ⟨a, b, h1, g1, .inr ⟨ka, kb, wd.rd h2, wd.rd g2, dk_deq wd h3 g3 h4 rfl fun _ _ e => e⟩⟩⟩
instance (priority := low) {K : PySem.W.Frag} {α β : Type} {A : Rep α} {B : Rep β} {n m : Nat} [En K A n] [En K B m] : En K (r2 K A B) (n + m + 1) :=
  ⟨fun wd ⟨a, v1, v2, h1, h2, h3, h4⟩ ⟨b, w1, w2, g1, g2, g3, g4⟩ => .inr ⟨a, b, h1, g1, .inl ⟨_, _, .inl ⟨wd.tup h2, wd.tup g2⟩, eqN_mono (En.en wd h3 g3) (by omega), eqN_mono (En.en wd h4 g4) (by omega), True.intro⟩⟩⟩
instance {K : PySem.W.Frag} {α β γ δ ε : Type} {A : Rep α} {B : Rep β} {C : Rep γ} {D : Rep δ} {E : Rep ε} {n m k l j : Nat} [En K A n] [En K B m] [En K C k] [En K D l] [En K E j] : En K (r5 K A B C D E) (n + m + k + l + j + 1) :=
  ⟨fun wd ⟨a, v1, v2, v3, v4, v5, h1, h2, h3, h4, h5, h6, h7⟩ ⟨b, w1, w2, w3, w4, w5, g1, g2, g3, g4, g5, g6, g7⟩ =>
    .inr ⟨a, b, h1, g1, .inl ⟨_, _, .inl ⟨wd.tup h2, wd.tup g2⟩, eqN_mono (En.en wd h3 g3) (by omega), eqN_mono (En.en wd h4 g4) (by omega), eqN_mono (En.en wd h5 g5) (by omega), eqN_mono (En.en wd h6 g6) (by omega), eqN_mono (En.en wd h7 g7) (by omega), True.intro⟩⟩⟩
theorem al_en {K : PySem.W.Frag} {α : Type} {A : Rep α} {n : Nat} [En K A n] {F H : Hp} (wd : Same F H) : ∀ {vs ws : List V} {xs : List α}, Al A F vs xs → Al A F ws xs → All2 (EqN K H n) vs ws
  | [], [], [], _, _ => True.intro
  | _ :: _, _ :: _, _ :: _, h, g => ⟨En.en wd h.1 g.1, al_en wd h.2 g.2⟩
  | [], _ :: _, [], _, g => g.elim
  | _ :: _, _, [], h, _ => h.elim
  | [], _, _ :: _, h, _ => h.elim
  | _ :: _, [], _ :: _, _, g => g.elim
instance (priority := low) {K : PySem.W.Frag} {α : Type} {A : Rep α} {n : Nat} [En K A n] : En K (rL K A) (n + 1) :=
  ⟨fun wd ⟨a, vs, h1, h2, h3⟩ ⟨b, ws, g1, g2, g3⟩ => .inr ⟨a, b, h1, g1, .inl ⟨_, _, .inr ⟨wd.seq h2, wd.seq g2⟩, al_en wd h3 g3⟩⟩⟩
section
variable {K : PySem.W.Frag} {F H : Hp} {Q : VK}
end
end Vc
namespace L2
open PySem PySem.Spec PyProof.Rows
def clStep (env : Env) (cs : List (Str × Addr)) (y : Str × NameKind) : List (Str × Addr) := if (y.2 == .free) = true then (match env.cells.lookup y.1 with | some a => (y.1, a) :: cs | none => cs) else cs
def clOf (scope : Scope) (env : Env) : List (Str × Addr) := scope.names.foldl (clStep env) []
def clAll (scope : Scope) (env : Env) : Bool := scope.names.all fun y => !(y.2 == .free) || (env.cells.lookup y.1).isSome
theorem closureFor_clOf {scope : Scope} {env : Env} (h : clAll scope env = true) : closureFor scope env = pure (clOf scope env) := by
  unfold closureFor clOf
  unfold clAll at h
  have gen : ∀ (l : List (Str × NameKind)) (cs : List (Str × Addr)), (l.all fun y => !(y.2 == .free) || (env.cells.lookup y.1).isSome) = true →
      (forIn l cs fun x r => match x with | (name, kind) => if (kind == NameKind.free) = true then (do let a ← cellOf env name; pure (ForInStep.yield ((name, a) :: r))) else pure (ForInStep.yield r) : Sem (List (Str × Addr))) = pure (l.foldl (clStep env) cs) := by
    intro l
    induction l with
    | nil => intro cs _; rfl
    | cons y r ih =>
      intro cs ha
      rw [List.all_cons, Bool.and_eq_true] at ha
      obtain ⟨n, k⟩ := y
      rw [List.forIn_cons, List.foldl_cons]
      by_cases hk : (k == NameKind.free) = true
      · have h1 := ha.1
        simp only [hk, Bool.not_true, Bool.false_or] at h1
        obtain ⟨a, e⟩ := Option.isSome_iff_exists.mp h1
        have e1 : clStep env cs (n, k) = (n, a) :: cs := by unfold clStep; simp [hk, e]
        have e2 : cellOf env n = pure a := by unfold cellOf; rw [e]
        rw [e1, ← ih _ ha.2]
        simp only [hk, if_true, e2, pure_bind]
      · have e1 : clStep env cs (n, k) = cs := by unfold clStep; simp [hk]
        rw [e1, ← ih _ ha.2]
        simp only [hk, if_false, pure_bind, Bool.false_eq_true]
  have := gen scope.names [] h
  simp only [this, pure_bind]
theorem clOf_sub {scope : Scope} {env : Env} {x : Str} {c : Addr} (h : (clOf scope env).lookup x = some c) : env.cells.lookup x = some c := by
  unfold clOf at h
  have gen : ∀ (l : List (Str × NameKind)) (cs : List (Str × Addr)), (cs.lookup x = some c → env.cells.lookup x = some c) → (l.foldl (clStep env) cs).lookup x = some c → env.cells.lookup x = some c := by
    intro l
    induction l with
    | nil => intro cs f g; exact f g
    | cons y r ih =>
      intro cs f g
      rw [List.foldl_cons] at g
      refine ih _ (fun z => ?_) g
      unfold clStep at z
      split at z
      · split at z
        · rename_i a e
          rw [List.lookup_cons] at z
          by_cases hx : (x == y.1) = true
          · rw [hx] at z
            have := eq_of_beq hx
            subst this
            simp at z
            rw [← z]; exact e
          · simp only [hx] at z
            exact f z
        · exact f z
      · exact f z
  exact gen scope.names [] (fun z => by cases z) h
theorem clOf_has {scope : Scope} {env : Env} {x : Str} (ha : clAll scope env = true) (h : scope.names.lookup x = some .free) : ∃ c, (clOf scope env).lookup x = some c := by
  unfold clOf
  unfold clAll at ha
  have keep : ∀ (l : List (Str × NameKind)) (cs : List (Str × Addr)), (∃ c, cs.lookup x = some c) → ∃ c, (l.foldl (clStep env) cs).lookup x = some c := by
    intro l
    induction l with
    | nil => intro cs f; exact f
    | cons y r ih =>
      intro cs f
      rw [List.foldl_cons]
      refine ih _ ?_
      unfold clStep
      split
      · split
        · rw [List.lookup_cons]
          by_cases hx : (x == y.1) = true
          · rw [hx]; exact ⟨_, rfl⟩
          · simp only [hx]; exact f
        · exact f
      · exact f
  have gen : ∀ (l : List (Str × NameKind)) (cs : List (Str × Addr)), (l.all fun y => !(y.2 == .free) || (env.cells.lookup y.1).isSome) = true → l.lookup x = some .free → ∃ c, (l.foldl (clStep env) cs).lookup x = some c := by
    intro l
    induction l with
    | nil => intro cs _ f; cases f
    | cons y r ih =>
      intro cs ha f
      rw [List.all_cons, Bool.and_eq_true] at ha
      obtain ⟨n, k⟩ := y
      rw [List.foldl_cons]
      rw [List.lookup_cons] at f
      by_cases hx : (x == n) = true
      · rw [hx] at f
        have := eq_of_beq hx
        subst this
        simp at f
        subst f
        refine keep r _ ?_
        have h1 : (env.cells.lookup x).isSome = true := ha.1
        obtain ⟨a, e⟩ := Option.isSome_iff_exists.mp h1
        refine ⟨a, ?_⟩
        unfold clStep
        rw [if_pos (show ((NameKind.free) == NameKind.free) = true from rfl)]
        dsimp only
        rw [e]
        dsimp only
        rw [List.lookup_cons, hx]
      · simp only [hx] at f
        exact ih _ ha.2 f
  exact gen scope.names [] ha h
theorem relabel_inv {scope : Scope} {env : Env} {x : Str} (hcell : ∀ y ∈ scope.names, y.2 ≠ .cell) (h : (relabel scope env).names.lookup x = some .cell ∨ (relabel scope env).names.lookup x = some .free) : scope.names.lookup x = some .free := by
  unfold relabel at h
  dsimp only at h
  have gen : ∀ l : List (Str × NameKind), (∀ y ∈ l, y.2 ≠ .cell) → ((l.map fun (n, k) => if (k == NameKind.free && env.scope.kind == .function && env.kindOf n == some .cell) then (n, NameKind.cell) else (n, k)).lookup x = some .cell ∨ (l.map fun (n, k) => if (k == NameKind.free && env.scope.kind == .function && env.kindOf n == some .cell) then (n, NameKind.cell) else (n, k)).lookup x = some .free) → l.lookup x = some .free := by
    intro l
    induction l with
    | nil => intro _ f; rcases f with f | f <;> cases f
    | cons y r ih =>
      intro hc f
      obtain ⟨n, k⟩ := y
      have hk : k ≠ .cell := hc (n, k) (List.mem_cons_self ..)
      rw [List.map_cons] at f
      rw [List.lookup_cons]
      by_cases hx : (x == n) = true
      · rw [hx]
        dsimp only at f ⊢
        by_cases hf : (k == NameKind.free && env.scope.kind == .function && env.kindOf n == some .cell) = true
        · have : k = .free := by
            simp only [Bool.and_eq_true] at hf
            exact eq_of_beq hf.1.1
          rw [this]
        · rw [if_neg hf, List.lookup_cons, hx] at f
          simp only [Option.some.injEq] at f
          rcases f with f | f
          · exact absurd f hk
          · rw [f]
      · simp only [hx]
        refine ih (fun y hy => hc y (List.mem_cons_of_mem _ hy)) ?_
        dsimp only at f
        split at f <;> (rw [List.lookup_cons] at f; simp only [hx] at f; exact f)
  exact gen scope.names hcell h
inductive Wk : St → St → Prop
  | nil : Wk [] []
  | non {a b : St} {x : Option V} : Wk a b → Wk (none :: a) (x :: b)
  | som {a b : St} {v : V} : Wk a b → Wk (some v :: a) (some v :: b)
theorem Wk.length {a b : St} (h : Wk a b) : b.length = a.length := by
  induction h with
  | nil => rfl
  | non _ ih => simp [ih]
  | som _ ih => simp [ih]
theorem Wk.get {a b : St} (h : Wk a b) : ∀ {i : Nat} {v : V}, a[i]? = some (some v) → b[i]? = some (some v) := by
  induction h with
  | nil => intro i v e; simp at e
  | non _ ih =>
    intro i v e
    cases i with
    | zero => simp at e
    | succ i => simpa using ih (i := i) (v := v) (by simpa using e)
  | som _ ih =>
    intro i v e
    cases i with
    | zero => simpa using e
    | succ i => simpa using ih (i := i) (v := v) (by simpa using e)
theorem wk_refl : ∀ a : St, Wk a a
  | [] => .nil
  | none :: a => .non (wk_refl a)
  | some _ :: a => .som (wk_refl a)
def pickS (ix : List (Option Nat)) (σ : St) : St := ix.map fun o => match o with | none => none | some i => (σ[i]?).getD none
def PickOk (X : Cx) (sc : Scope) : List Str → List (Option Nat) → Prop
  | [], [] => True
  | _ :: N, none :: ix => PickOk X sc N ix
  | x :: N, some i :: ix => X.N[i]? = some x ∧ X.env.kindOf x = some .cell ∧ sc.names.lookup x = some .free ∧ PickOk X sc N ix
  | _, _ => False
theorem PickOk.length {X : Cx} {sc : Scope} : ∀ {N : List Str} {ix : List (Option Nat)}, PickOk X sc N ix → ix.length = N.length
  | [], [], _ => rfl
  | _ :: N, none :: ix, h => by rw [List.length_cons, List.length_cons, PickOk.length (X := X) (sc := sc) (N := N) (ix := ix) h]
  | _ :: N, some i :: ix, h => by rw [List.length_cons, List.length_cons, PickOk.length (X := X) (sc := sc) (N := N) (ix := ix) h.2.2.2]
  | [], _ :: _, h => h.elim
  | _ :: _, [], h => h.elim
theorem PickOk.get {X : Cx} {sc : Scope} {σ : St} : ∀ {N : List Str} {ix : List (Option Nat)} {j : Nat} {x : Str} {v : V}, PickOk X sc N ix → N[j]? = some x → (pickS ix σ)[j]? = some (some v) → ∃ i : Nat, X.N[i]? = some x ∧ X.env.kindOf x = some .cell ∧ sc.names.lookup x = some .free ∧ σ[i]? = some (some v)
  | _ :: N, none :: ix, 0, x, v, h, e1, e2 => by simp [pickS] at e2
  | _ :: N, none :: ix, j + 1, x, v, h, e1, e2 => PickOk.get (N := N) (ix := ix) (j := j) h (by simpa using e1) (by simpa [pickS] using e2)
  | y :: N, some i :: ix, 0, x, v, h, e1, e2 => by
    simp at e1
    subst e1
    refine ⟨i, h.1, h.2.1, h.2.2.1, ?_⟩
    simp [pickS] at e2
    cases q : σ[i]? with
    | none => rw [q] at e2; simp at e2
    | some o => rw [q] at e2; simp at e2; rw [e2]
  | y :: N, some i :: ix, j + 1, x, v, h, e1, e2 => PickOk.get (N := N) (ix := ix) (j := j) h.2.2.2 (by simpa using e1) (by simpa [pickS] using e2)
  | [], [], _, _, _, _, e1, _ => by simp at e1
  | [], _ :: _, _, _, _, h, _, _ => h.elim
  | _ :: _, [], _, _, _, h, _, _ => h.elim
theorem relabel_free {scope : Scope} {env : Env} {x : Str} (h : scope.names.lookup x = some .free) : (relabel scope env).names.lookup x = some .cell ∨ (relabel scope env).names.lookup x = some .free := by
  unfold relabel
  dsimp only
  have gen : ∀ l : List (Str × NameKind), l.lookup x = some .free → ((l.map fun (n, k) => if (k == NameKind.free && env.scope.kind == .function && env.kindOf n == some .cell) then (n, NameKind.cell) else (n, k)).lookup x = some .cell ∨ (l.map fun (n, k) => if (k == NameKind.free && env.scope.kind == .function && env.kindOf n == some .cell) then (n, NameKind.cell) else (n, k)).lookup x = some .free) := by
    intro l
    induction l with
    | nil => intro f; cases f
    | cons y r ih =>
      intro f
      obtain ⟨n, k⟩ := y
      rw [List.lookup_cons] at f
      rw [List.map_cons]
      by_cases hx : (x == n) = true
      · rw [hx] at f
        simp at f
        subst f
        dsimp only
        split
        · left; rw [List.lookup_cons, hx]
        · right; rw [List.lookup_cons, hx]
      · simp only [hx] at f
        dsimp only
        split <;> (rw [List.lookup_cons]; simp only [hx]; exact ih f)
  exact gen scope.names h
def cxComp (X : Cx) (scope : Scope) (N : List Str) (C : Addr) (s : Shared) (H : Hp) (fp : List Addr) (pl : List (Addr × Obj)) : Cx where
  prog := X.prog
  w := X.w
  K := X.K
  mg := X.mg
  base := X.base
  A := X.A
  N := N
  s₀ := s
  H₀ := H
  env := compEnvC scope (clOf scope X.env) C X.env
  outer := X.stack
  stack := X.stack
  ex := fp
  fn := fun _ => false
  calm := X.calm
  pn := X.pn ++ pl
  xe := fun _ _ => False
def PTs (Y : Cx) (ifs : List Expr) (t : TT) : Prop :=
  ∀ (pins : List (Addr × Obj)) (s : Shared) (σ : St) (H : Hp) (Q : Bool → Hp → Prop), Inv Y pins σ H s → t σ H Q →
    wpAny (model Y.prog Y.w) Y.A (forIn ifs true fun c r => if r = true then do let ok ← isTrue c Y.env (eval c Y.env); pure (ForInStep.yield ok) else pure (ForInStep.yield r)) (TP Y pins σ Q) Y.xe s
def tYes : TT := fun _ H Q => Q true H
theorem pts_nil {Y : Cx} : PTs Y [] tYes := fun _ _ _ H _ I h => wpAny_tests_nil ⟨H, I, h⟩
theorem pts_one {Y : Cx} {c : Expr} {t : TT} (h : PT Y c t) : PTs Y [c] t := fun pins s σ H Q I q => wpAny_tests_one (h pins s σ H Q I q)
theorem compLoop_any {prog : Program} {w : World} {A : Around} {R : Result → Shared → Prop} {s : Shared} {elt target iter : Expr} {ifs : List Expr} {scope : Scope} {pos : Pos} {it acc : Value} {env : Env} (I : Nat → Shared → Prop)
    (turn : ∀ n s, I n s → wpAny (model prog w) A (pyNext it) (fun r s₁ => match r with
      | none => R (.ok .next) s₁
      | some v => wpAny (model prog w) A (letOwnedTupleGo target it v) (fun _ s₀ => wpAny (model prog w) A (assign target env v) (fun _ s₂ =>
          wpAny (model prog w) A (forIn ifs true fun c r => if r = true then do let ok ← isTrue c env (eval c env); pure (ForInStep.yield ok) else pure (ForInStep.yield r)) (fun ok s₃ =>
            if ok = true then wpAny (model prog w) A (eval elt env) (fun x s₄ =>
              wpAny (model prog w) A (call (.builtin "list.append") [acc, x]) (fun _ s₅ => ∃ m, m < n ∧ I m s₅) (notedBy (model prog w) A env fun e s' => R (.error e) s') s₄) (notedBy (model prog w) A env fun e s' => R (.error e) s') s₃
            else ∃ m, m < n ∧ I m s₃) (notedBy (model prog w) A env fun e s' => R (.error e) s') s₂) (notedBy (model prog w) A env fun e s' => R (.error e) s') s₀) (notedBy (model prog w) A env fun e s' => R (.error e) s') s₁) (notedBy (model prog w) A env fun e s' => R (.error e) s') s)
    (n : Nat) (h : I n s) : codeAny (model prog w) A (.compLoop (.ListComp elt [⟨target, iter, ifs, 0⟩] scope pos) 0 it acc env) R s := by
  refine codeAny_loop rfl I (fun n s hI => ?_) n h
  show wpAny _ A ((compTurn (.ListComp elt [⟨target, iter, ifs, 0⟩] scope pos) 0 it acc env).onRaise (fun x => do noteFrame x env; theTreesLotGoes x)) _ _ s
  refine wpAny_noted ?_
  rw [compTurn_list]
  refine wpAny_bind (wpAny_standAt (wpAny_bind (wpAny_mono (turn n s hI) (fun r s₁ h₁ => ?_) fun _ _ h' => h')))
  cases r with
  | none => exact wpAny_pure h₁
  | some v =>
    refine wpAny_bind (wpAny_mono h₁ (fun _ s₀ h₀ => ?_) fun _ _ h' => h')
    refine wpAny_bind (wpAny_mono h₀ (fun _ s₂ h₂ => wpAny_bind (wpAny_mono h₂ (fun ok s₃ h₃ => ?_) fun _ _ h' => h')) fun _ _ h' => h')
    cases ok with
    | false => exact wpAny_pure ⟨rfl, h₃⟩
    | true =>
      exact wpAny_bind (wpAny_bind (wpAny_mono h₃ (fun x s₄ h₄ => wpAny_bind (wpAny_mono h₄ (fun _ s₅ h₅ => wpAny_pure (wpAny_pure ⟨rfl, h₅⟩)) fun _ _ h' => h')) fun _ _ h' => h'))
end L2
namespace L2
open PySem PySem.Spec PyProof.Rows
section
variable {X : Cx} {pins : List (Addr × Obj)} {σ : St} {H : Hp} {s : Shared} {scope : Scope} {N : List Str} {fp : List Addr} {C : Addr}
theorem comp_ok (I : Inv X pins σ H s) (hC : s.heap.objs.size ≤ C) (hf : ∀ b ∈ fp, FpOk X pins H b) (hfo : ∀ b ∈ fp, ∃ o, s.heap.get? b = some o) (hkind : scope.kind = .function) (hcell : ∀ y ∈ scope.names, y.2 ≠ .cell) (hall : clAll scope X.env = true) :
    (cxComp X scope N C s H fp pins).Ok where
  mod := I.ok.mod
  kind := hkind
  glob := I.ok.glob
  blt := I.ok.blt
  above := hC
  inj := fun x y c h1 h2 => I.ok.inj x y c (clOf_sub h1) (clOf_sub h2)
  has := fun x h => clOf_has hall (relabel_inv hcell h)
  cab := fun x c h => by cases h
  hd := I.ok.hd
  frames := I.ok.frames
  stk := .inl rfl
  exf := fun b hb => ⟨fun z => by obtain ⟨o, e⟩ := hfo b hb; have := Heap.lt_size e; subst z; exact absurd (Nat.lt_of_lt_of_le this hC) (Nat.lt_irrefl _), fun x c e => (hf b hb).2.2.2.2.1 x c (clOf_sub e)⟩
  bs := I.bs
  bsz := Nat.le_trans I.ok.bsz I.sz
  noex := fun b o e hb => by
    rcases (hf b hb).2.2.2.1 with z | z
    · exact I.ok.noex b o e z
    · exact absurd (Nat.lt_of_lt_of_le (Heap.lt_size e) (Nat.le_trans I.ok.bsz z)) (Nat.lt_irrefl _)
  exfs := fun b hb hm => by
    rcases List.mem_cons.mp (I.stkSub b hm) with z | z
    · exact (hf b hb).2.1 z
    · exact (hf b hb).2.2.1 z
  funs := I.stack
  frf := I.stkFree
theorem comp_inv {h' : Heap} {m : Str → Option Value} {t' : Nat} {ix : List (Option Nat)} (I : Inv X pins σ H s) (ok : (cxComp X scope N C s H fp pins).Ok) (hC : s.heap.objs.size ≤ C) (k : ∀ b o, s.heap.get? b = some o → h'.get? b = some o) (hn : h'.Ns C m) (hpk : PickOk X scope N ix) (hall : clAll scope X.env = true) :
    Inv (cxComp X scope N C s H fp pins) [] (pickS ix σ) H { s with heap := h', toks := t' } where
  ok := ok
  os := rfl
  bare := I.bare
  base := Un.kept k
  loc := ⟨m, hn, fun i x v e1 e2 e3 => by
    obtain ⟨i', hN, hk, hfr, hσ⟩ := hpk.get e1 e2
    obtain ⟨m0, _, hl⟩ := I.loc
    obtain ⟨u, r, look⟩ := hl i' x v hN hσ (.inr (.inl hk))
    rcases look with ⟨z, _⟩ | ⟨_, c, hc, o, ho, hd⟩
    · rw [hk] at z; cases z
    · obtain ⟨c', hc'⟩ := clOf_has hall hfr
      have e := clOf_sub hc'
      rw [hc] at e
      cases e
      exact ⟨u, r, .inr ⟨relabel_free hfr, c, hc', o, k _ _ ho, hd⟩⟩⟩
  cell := fun x c e => by
    obtain ⟨v, o, ho, hd⟩ := I.cell x c (clOf_sub e)
    exact ⟨v, o, k _ _ ho, hd⟩
  free := I.hok.fresh hC
  freeC := fun x c e => I.freeC x c (clOf_sub e)
  pin := fun p hp => by
    have hp' : p ∈ X.pn ++ pins := by simpa [cxComp] using hp
    obtain ⟨e, n, ne, nf, d⟩ := I.pin p hp'
    refine ⟨k _ _ e, n, fun z => ?_, fun z => ?_, d⟩
    · have := Heap.lt_size e
      have z' : p.1 = C := z
      rw [z'] at this
      exact absurd (Nat.lt_of_lt_of_le this hC) (Nat.lt_irrefl _)
    · rcases List.mem_cons.mp (I.stkSub p.1 z) with q | q
      · exact ne q
      · exact nf q
  hok := I.hok.kept k
  len := by
    have := hpk.length
    simp [pickS, cxComp, this]
theorem comp_back {σ' : St} {H' : Hp} {s' : Shared} {D : Addr} {acc : List V} {its : List Value} {pl : List (Addr × Obj)} (I : Inv X pins σ H s) (J : Inv (cxComp X scope N C s H fp pins) pl σ' H' s') (hD : D = s.heap.objs.size) (hf : ∀ b ∈ fp, FpOk X pins H b)
    (hl : s'.heap.PlainList D its.toArray) (hv : Vals acc its) (hz : acc.length ≤ sizeLine) (hn : H' D = none) : Inv X pins σ (upd H' D (.lst acc)) s' := by
  have hDn : ∀ b o, s.heap.get? b = some o → b ≠ D := fun b o e z => by rw [z, hD] at e; exact absurd (Heap.lt_size e) (Nat.lt_irrefl _)
  have hHD : H D = none := I.hok.fresh (by rw [hD]; exact Nat.le_refl _)
  refine I.call' (ch := fp) J.os ⟨J.base.keep, J.base.slot, fun b o e n hx => ?_, J.base.there, fun b xs e => ?_, fun b o u e => ?_, fun b ps e => ?_⟩ (fun b u e => ?_) J.bare fun b hb => ⟨(hf b hb).2.2.2.1, (hf b hb).2.1, (hf b hb).2.2.2.2.1, (hf b hb).2.2.2.2.2⟩
  · rw [upd_ne (hDn b o e)]; exact J.base.free b o e n hx
  · rw [upd_ne (ne_of_none e hHD)]; exact J.base.tups b xs e
  · rw [upd_ne (ne_of_none e hHD)]; exact J.base.frzs b o u e
  · obtain ⟨mo, e2⟩ := J.base.tbls b ps e
    exact ⟨mo, by rw [upd_ne (ne_of_none e hHD)]; exact e2⟩
  · by_cases hb : b = D
    · subst hb
      rw [upd_same] at e
      cases e
      obtain ⟨n, g⟩ := hl
      exact ⟨hz, its, n, hv, g⟩
    · rw [upd_ne hb] at e
      exact (J.hok b u e).stay (fun _ _ _ q => q) (fun c q => by rw [upd_ne (ne_of_none q hn)]; exact q) fun c xs q => by rw [upd_ne (ne_of_none q hn)]; exact q
end
def tComp (wi : TI) (g : TG) (ti : TT) (te : TE) (ix : List (Option Nat)) : TE := fun σ H Q => wi σ H fun J H1 => ∃ W : Nat → Nat → List V → Hp → Prop, (∃ m, W 0 m [] H1) ∧ ∀ i m acc H, W i m acc H →
  (J.stop i H ∧ acc.length ≤ sizeLine ∧ ∀ p, H p = none → Q (.ref p) (upd H p (.lst acc))) ∨
  (J.go i H ∧ ∃ N : List V → Hp → Prop, (∀ acc' H', N acc' H' → ∃ m', m' < m ∧ W (i + 1) m' acc' H') ∧ ∀ x H', J.yld i H x H' → g x (pickS ix σ) H' fun σ2 H2 => Wk (pickS ix σ) σ2 ∧ ti σ2 H2 fun b H3 => if b = true then te σ2 H3 fun v H4 => acc.length < sizeLine ∧ N (acc ++ [v]) H4 else N acc H3)
section
variable {X : Cx} {elt target iter : Expr} {ifs : List Expr} {scope : Scope} {pos : Pos} {N : List Str} {ix : List (Option Nat)} {wi : TI} {g : TG} {ti : TT} {te : TE}
theorem comp_run {pins : List (Addr × Obj)} {σ : St} {H2 : Hp} {s2 : Shared} {Q : VK} {RR : Value → Addr → Result → Shared → Prop} {E : Value → Shared → Prop} {it : Addr} {fp : List Addr} {tn : Nat → Heap → Prop} {J : It}
    (hc : X.calm = true) (hg : ∀ C s H fp pl, PG (cxComp X scope N C s H fp pl) target g) (ht : ∀ C s H fp pl, PTs (cxComp X scope N C s H fp pl) ifs ti) (he : ∀ C s H fp pl, PE (cxComp X scope N C s H fp pl) elt te)
    (hkind : scope.kind = .function) (hcell : ∀ y ∈ scope.names, y.2 ≠ .cell) (hall : clAll scope X.env = true) (hpk : PickOk X scope N ix)
    (I2 : Inv X pins σ H2 s2) (T : Turn X.prog X.w X.K target J fp it tn) (st2 : tn 0 s2.heap) (f2 : ∀ b ∈ fp, FpOk X pins H2 b)
    (h : ∃ W : Nat → Nat → List V → Hp → Prop, (∃ m, W 0 m [] H2) ∧ ∀ i m acc H, W i m acc H →
      (J.stop i H ∧ acc.length ≤ sizeLine ∧ ∀ p, H p = none → Q (.ref p) (upd H p (.lst acc))) ∨
      (J.go i H ∧ ∃ N : List V → Hp → Prop, (∀ acc' H', N acc' H' → ∃ m', m' < m ∧ W (i + 1) m' acc' H') ∧ ∀ x H', J.yld i H x H' → g x (pickS ix σ) H' fun σ2 H2 => Wk (pickS ix σ) σ2 ∧ ti σ2 H2 fun b H3 => if b = true then te σ2 H3 fun v H4 => acc.length < sizeLine ∧ N (acc ++ [v]) H4 else N acc H3))
    (hR : ∀ (D C : Addr) (s' : Shared) (H' : Hp) (m : Str → Option Value), Inv X pins σ H' s' → s'.heap.Ns C m → H' C = none → s2.heap.objs.size ≤ C → Q (.ref D) H' → RR (.ref D) C (.ok .next) s') :
    wpAny (model X.prog X.w) X.A (newList []) (fun acc s₃ => wpAny (model X.prog X.w) X.A (newFunctionEnv scope X.env.globals (clOf scope X.env) [] X.env.qual none .none (some X.env)) (fun cenv s₄ =>
      codeAny (model X.prog X.w) X.A (.compStart (.ListComp elt [⟨target, iter, ifs, 0⟩] scope pos) 0 (.ref it) acc { cenv with scope := relabel scope X.env }) (RR acc cenv.locals) s₄) E s₃) E s2 := by
  obtain ⟨W, ⟨m0, w0⟩, turn⟩ := h
  refine wpAny_newObj_type (wpAny_newFunctionEnv hcell (by intro y hy; simp at hy) (fun h₁ hns₁ hsb₁ => ?_) hkind)
  dsimp only at hns₁ hsb₁ ⊢
  generalize hH2 : s2.heap.push { cls := .type "list", dict := none, data := .seq ([] : List Value).toArray } = P2 at hns₁ hsb₁ ⊢
  have hC : P2.objs.size = s2.heap.objs.size + 1 := by rw [← hH2, Heap.size_push]
  have hDC : s2.heap.objs.size ≠ P2.objs.size := by rw [hC]; exact Nat.ne_of_lt (Nat.lt_succ_self _)
  have hCle : s2.heap.objs.size ≤ P2.objs.size := by rw [hC]; exact Nat.le_succ _
  have below : ∀ b, b < s2.heap.objs.size → b ≠ P2.objs.size ∧ b ≠ s2.heap.objs.size := fun b hb => ⟨by rw [hC]; exact Nat.ne_of_lt (Nat.lt_succ_of_lt hb), Nat.ne_of_lt hb⟩
  have old : ∀ b o, s2.heap.get? b = some o → h₁.get? b = some o := fun b o e => hsb₁.extBut b o (below b (Heap.lt_size e)).1 (Heap.get?_push_of_some _ (hH2 ▸ Heap.get?_push_of_some _ e))
  have hacc : h₁.PlainList s2.heap.objs.size #[] := ⟨_, hsb₁.extBut _ _ hDC (Heap.get?_push_of_some _ (hH2 ▸ Heap.get?_push_size _ rfl))⟩
  have hfo : ∀ b ∈ fp, ∃ o, s2.heap.get? b = some o := fun b hb => let ⟨o, e, _⟩ := T.obj 0 _ st2 b hb; ⟨o, e⟩
  have hfD : s2.heap.objs.size ∉ fp := fun hm => by obtain ⟨o, e⟩ := hfo _ hm; exact absurd (Heap.lt_size e) (Nat.lt_irrefl _)
  have ok := comp_ok (N := N) (C := P2.objs.size) I2 hCle f2 hfo hkind hcell hall
  have st1 : tn 0 h₁ := T.keep 0 _ _ st2 fun b _ o e => old b o e
  have J0 := comp_inv (t' := s2.toks + ([] : List (Str × Value)).length) (ix := ix) I2 ok hCle old hns₁ hpk hall
  have pnD : ∀ p ∈ X.pn ++ pins, p.1 ≠ s2.heap.objs.size := fun p hp => (below _ (Heap.lt_size (I2.pin p hp).1)).2
  have cellD : ∀ x c, (clOf scope X.env).lookup x = some c → c ≠ s2.heap.objs.size := fun x c e => by
    obtain ⟨v, o, ho, _⟩ := I2.cell x c (clOf_sub e)
    exact (below _ (Heap.lt_size ho)).2
  have stat : ∀ {pl : List (Addr × Obj)} {H' : Hp}, (∀ b ∈ fp, H' b = none) → (∀ p ∈ pl, p.1 = s2.heap.objs.size) → ∀ b ∈ fp, FpOk (cxComp X scope N P2.objs.size s2 H2 fp pins) pl H' b := fun {pl H'} hn hp b hb => by
    refine ⟨hn b hb, (ok.exf b hb).1, ok.exfs b hb, .inl hb, (ok.exf b hb).2, fun p hm => ?_⟩
    rcases List.mem_append.mp hm with z | z
    · exact (f2 b hb).2.2.2.2.2 p z
    · rw [hp p z]; intro q; rw [q] at hfD; exact hfD hb
  have loop : ∀ s₃ : Shared, s₃ = { s2 with heap := h₁, toks := s2.toks + ([] : List (Str × Value)).length } →
      codeAny (model X.prog X.w) X.A (.compLoop (.ListComp elt [⟨target, iter, ifs, 0⟩] scope pos) 0 (.ref it) (.ref s2.heap.objs.size) (compEnvC scope (clOf scope X.env) P2.objs.size X.env)) (RR (.ref s2.heap.objs.size) P2.objs.size) s₃ := by
    rintro s₃ rfl
    refine compLoop_any (fun n s' => ∃ i acc its σ' H', Inv (cxComp X scope N P2.objs.size s2 H2 fp pins) [] σ' H' s' ∧ Wk (pickS ix σ) σ' ∧ tn i s'.heap ∧ (∀ b ∈ fp, H' b = none) ∧ s'.heap.PlainList s2.heap.objs.size (List.toArray its) ∧ Vals acc its ∧ H' s2.heap.objs.size = none ∧ W i n acc H') ?_ m0
      ⟨0, [], [], _, H2, J0, wk_refl _, st1, fun b hb => (f2 b hb).1, hacc, .nil, I2.hok.fresh (Nat.le_refl _), w0⟩
    rintro n s3 ⟨i, acc, its, σ3, H3, I3, wk3, st3, fr3, pl3, va3, nd3, w3⟩
    obtain ⟨kk, g3⟩ := id pl3
    have I3' : Inv (cxComp X scope N P2.objs.size s2 H2 fp pins) [(s2.heap.objs.size, ⟨.type "list", none, .seq (List.toArray its) kk, #[]⟩)] σ3 H3 s3 := I3.pins_of fun p hp => by
      have e := List.mem_singleton.mp hp
      subst e
      refine ⟨g3, nd3, hDC, fun z => ?_, fun v q => by cases q⟩
      obtain ⟨_, o, ho, _⟩ := (I2.stack).mem z
      exact absurd (Heap.lt_size ho) (Nat.lt_irrefl _)
    have onlyD : ∀ p ∈ [((s2.heap.objs.size, ⟨.type "list", none, .seq (List.toArray its) kk, #[]⟩) : Addr × Obj)], p.1 = s2.heap.objs.size := fun p hp => by
      rw [List.mem_singleton.mp hp]
    rcases turn i n acc H3 w3 with ⟨stop, hlen, fin⟩ | ⟨go, NN, hNN, step⟩
    · refine wpAny_mono (T.done (cxComp X scope N P2.objs.size s2 H2 fp pins) rfl rfl rfl hc i _ s3 σ3 H3 _ I3' (stat fr3 onlyD) st3 stop) (fun r s4 h4 => ?_) fun _ _ z => z
      obtain ⟨hr, I4⟩ := h4
      subst hr
      have g4 := (I4.pin (s2.heap.objs.size, _) (List.mem_append_right _ (List.mem_singleton.mpr rfl))).1
      obtain ⟨mm, hnm, _⟩ := I4.loc
      have B := comp_back I2 I4 rfl f2 ⟨kk, g4⟩ va3 hlen nd3
      refine hR _ _ s4 _ mm B hnm ?_ hCle (fin _ nd3)
      rw [upd_ne (Ne.symm hDC)]
      exact I4.free
    · refine wpAny_mono (T.item (cxComp X scope N P2.objs.size s2 H2 fp pins) rfl rfl rfl hc i _ s3 σ3 H3 _ I3' (stat fr3 onlyD) st3 go) (fun r s4 h4 => ?_) fun _ _ z => z
      obtain ⟨u, hr, h4⟩ := h4
      subst hr
      refine wpAny_mono h4 (fun _ s5 h5 => ?_) fun _ _ z => z
      obtain ⟨x, H5, I5, r5, y5, st5, fr5⟩ := h5
      have I5w := I5.weak wk3.length.symm (fun i v e => wk3.get e)
      have I5' := I5w.pinned (fp := fp) (stat fr5 onlyD) (T.obj _ _ st5)
      refine wpAny_mono (hg P2.objs.size s2 H2 fp pins _ s5 _ H5 x u _ I5' r5 (step x H5 y5)) (fun _ s6 h6 => ?_) fun _ _ z => z.elim
      obtain ⟨σ6, H6, I6, wk6, q6⟩ := h6
      refine wpAny_mono (ht P2.objs.size s2 H2 fp pins _ s6 σ6 H6 _ I6 q6) (fun ok s7 h7 => ?_) fun _ _ z => z.elim
      obtain ⟨H7, I7, q7⟩ := h7
      have keepT : ∀ {σ8 : St} {H8 : Hp} {s8 : Shared}, Inv (cxComp X scope N P2.objs.size s2 H2 fp pins) ([((s2.heap.objs.size, ⟨.type "list", none, .seq (List.toArray its) kk, #[]⟩) : Addr × Obj)] ++ pinsAt fp s5.heap) σ8 H8 s8 →
          (∀ b ∈ fp, ∀ o, s5.heap.get? b = some o → s8.heap.get? b = some o) ∧ (∀ b ∈ fp, H8 b = none) := fun {σ8 H8 s8} I8 => by
        refine ⟨fun b hb o e => (I8.pin (b, o) (List.mem_append_right _ (List.mem_append_right _ (mem_pinsAt hb e)))).1, fun b hb => ?_⟩
        obtain ⟨o, e, d⟩ := T.obj _ _ st5 b hb
        exact (I8.pin (b, o) (List.mem_append_right _ (List.mem_append_right _ (mem_pinsAt hb e)))).2.1
      have unpin : ∀ {σ8 : St} {H8 : Hp} {s8 : Shared} {pl : List (Addr × Obj)}, Inv (cxComp X scope N P2.objs.size s2 H2 fp pins) pl σ8 H8 s8 → Inv (cxComp X scope N P2.objs.size s2 H2 fp pins) [] σ8 H8 s8 := fun I8 => I8.pins_of fun p hp => by cases hp
      cases ok with
      | false =>
        simp only [Bool.false_eq_true, if_false] at q7 ⊢
        obtain ⟨m', hm, w7⟩ := hNN _ _ q7
        have p7 := I7.pin (s2.heap.objs.size, _) (List.mem_append_right _ (List.mem_append_left _ (List.mem_singleton.mpr rfl)))
        obtain ⟨k1, k2⟩ := keepT I7
        exact ⟨m', hm, i + 1, acc, its, σ6, H7, unpin I7, wk6, T.keep _ _ _ st5 k1, k2, ⟨kk, p7.1⟩, va3, p7.2.1, w7⟩
      | true =>
        simp only [if_true] at q7 ⊢
        refine wpAny_mono (he P2.objs.size s2 H2 fp pins _ s7 σ6 H7 _ I7 q7) (fun y s8 h8 => ?_) fun _ _ z => z.elim
        obtain ⟨v, H8, I8, r8, hlt, q8⟩ := h8
        obtain ⟨m', hm, w8⟩ := hNN _ _ q8
        have p8 := I8.pin (s2.heap.objs.size, _) (List.mem_append_right _ (List.mem_append_left _ (List.mem_singleton.mpr rfl)))
        obtain ⟨k1, k2⟩ := keepT I8
        have hl := va3.length
        refine wpAny_list_append_plain (items := List.toArray its) (hsz := by rw [List.size_toArray, ← hl]; exact Nat.le_of_lt hlt) ⟨kk, p8.1⟩ fun h₅ hl₅ hs₅ => ?_
        have I9 : Inv (cxComp X scope N P2.objs.size s2 H2 fp pins) [] σ6 H8 { s8 with heap := h₅ } := (unpin I8).turned (t' := s8.toks) (it := s2.heap.objs.size) (fun b o hb e => hs₅.extBut b o hb e) p8.2.1 hDC (.inr (Nat.le_refl _)) cellD (fun p hp => by
          have hp' : p ∈ X.pn ++ pins := by simpa [cxComp] using hp
          exact pnD p hp')
        refine ⟨m', hm, i + 1, acc ++ [v], its ++ [y], σ6, H8, I9, wk6, T.keep _ _ _ st5 fun b hb o e => hs₅.extBut b o (fun z => hfD (z ▸ hb)) (k1 b hb o e), k2, ?_, va3.append (.cons r8 .nil), p8.2.1, w8⟩
        have e : (its ++ [y]).toArray = its.toArray.push y := by simp
        rw [e]
        exact hl₅
  exact codeAny_compStart_list (loop _ rfl) (T.self X.A 0 _ _ _ st1 (loop _ rfl))
theorem pe_comp (hc : X.calm = true) (hi : PI X target iter wi) (hg : ∀ C s H fp pl, PG (cxComp X scope N C s H fp pl) target g) (ht : ∀ C s H fp pl, PTs (cxComp X scope N C s H fp pl) ifs ti) (he : ∀ C s H fp pl, PE (cxComp X scope N C s H fp pl) elt te)
    (hpk : PickOk X scope N ix) (hkind : scope.kind = .function := by rfl) (hcell : ∀ y ∈ scope.names, y.2 ≠ .cell := by decide) (hnames : ∀ x ∈ scope.names, x.2 = .local → scope.names.lookup x.1 = some .local := by decide) (hall : clAll scope X.env = true := by rfl)
    (hs : ∀ x, foldedSetIterable iter X.env x = pure x := by intro _; rfl) : PE X (.ListComp elt [⟨target, iter, ifs, 0⟩] scope pos) (tComp wi g ti te ix) := by
  intro pins s σ H Q I h
  rw [eval_ListComp]
  refine wpAny_comprehension_free (use := none) rfl hs (closureFor_clOf hall) hkind hnames ?_
  refine thn (hi pins s σ H _ I h) fun v s1 h1 => thn h1 fun itv s2 h2 => ?_
  obtain ⟨it, fp, tn, J, H2, e, I2, T, st2, f2, h⟩ := h2
  subst e
  refine comp_run (RR := fun acc C => compPost (model X.prog X.w) X.A X.xe none (EP X pins σ Q) acc C) hc hg ht he hkind hcell hall hpk I2 T st2 f2 h ?_
  intro D C s' H' m B hn hHC hle q
  refine ⟨m, hn, fun h' hs' => ⟨.ref D, H', B.turned (t' := s'.toks) (it := C) (fun b o hb e => hs'.extBut b o hb e) hHC (Nat.ne_of_gt (Nat.lt_of_lt_of_le I2.lt hle)) (.inr (Nat.le_trans I2.sz hle)) (fun x c e => ?_) (fun p hp => ?_), rfl, q⟩⟩
  · obtain ⟨v, o, ho, _⟩ := I2.cell x c e
    exact Nat.ne_of_lt (Nat.lt_of_lt_of_le (Heap.lt_size ho) hle)
  · exact Nat.ne_of_lt (Nat.lt_of_lt_of_le (Heap.lt_size (I2.pin p hp).1) hle)
theorem ps_setC {i : Nat} {y : Str} {py spos : Pos} (hN : X.N.Nodup) (hyi : X.N[i]? = some y) (hy : Loc X.env.scope y) (hc : X.calm = true) (hi : PI X target iter wi) (hg : ∀ C s H fp pl, PG (cxComp X scope N C s H fp pl) target g) (ht : ∀ C s H fp pl, PTs (cxComp X scope N C s H fp pl) ifs ti) (he : ∀ C s H fp pl, PE (cxComp X scope N C s H fp pl) elt te)
    (hpk : PickOk X scope N ix) (hsw : swapsWith (.ListComp elt [⟨target, iter, ifs, 0⟩] scope pos) (some (.Name y py)) spos.line X.env = pure true := by with_unfolding_all rfl) (hkind : scope.kind = .function := by rfl) (hcell : ∀ y ∈ scope.names, y.2 ≠ .cell := by decide) (hnames : ∀ x ∈ scope.names, x.2 = .local → scope.names.lookup x.1 = some .local := by decide) (hall : clAll scope X.env = true := by rfl)
    (hs : ∀ x, foldedSetIterable iter X.env x = pure x := by intro _; rfl) (hf : X.fn y = true ∨ X.env.scope.names.lookup y = some .local := by first | exact .inl rfl | exact .inr rfl | assumption) : PS X (.Assign [.Name y py] (.ListComp elt [⟨target, iter, ifs, 0⟩] scope pos) spos) (tAsg (tComp wi g ti te ix) (gName i)) := by
  intro pins s σ H D I h
  rw [exec_Assign_Name_used _ _ _ _ hsw]
  refine wpAny_bind (wpAny_standAt (wpAny_bind ?_))
  show wpAny _ X.A (do let _ ← comprehension (.ListComp elt [⟨target, iter, ifs, 0⟩] scope pos) scope X.env _ (newList []) false (eval iter X.env) (some (assign (.Name y py) X.env))) _ _ s
  refine wpAny_bind (wpAny_mono (wpAny_comprehension_free (use := some (assign (.Name y py) X.env)) (Q := fun _ s' => SP X pins D .next s') rfl hs (closureFor_clOf hall) hkind hnames ?_) (fun _ s' hq => wpAny_pure (wpAny_pure hq)) fun _ _ e => e)
  refine thn (hi pins s σ H _ I h) fun v s1 h1 => thn h1 fun itv s2 h2 => ?_
  obtain ⟨it, fp, tn, J, H2, e, I2, T, st2, f2, h⟩ := h2
  subst e
  refine comp_run (Q := fun x H1 => gName i x σ H1 D.nx) (RR := fun acc C => compPost (model X.prog X.w) X.A X.xe (some (assign (.Name y py) X.env)) (fun _ s' => SP X pins D .next s') acc C) hc hg ht he hkind hcell hall hpk I2 T st2 f2 h ?_
  intro Dd C s' H' m B hn hHC hle q
  show wpAny _ X.A (assign (.Name y py) X.env (.ref Dd)) _ _ _
  have cC : ∀ x c, X.env.cells.lookup x = some c → c ≠ C := fun x c e => by
    obtain ⟨v, o, ho, _⟩ := I2.cell x c e
    exact Nat.ne_of_lt (Nat.lt_of_lt_of_le (Heap.lt_size ho) hle)
  have lC : X.env.locals ≠ C := Nat.ne_of_lt (Nat.lt_of_lt_of_le I2.lt hle)
  refine wpAny_assign_Name (store_ok2 (v := .ref Dd) B hN hyi hy rfl (fun s4 I4 hsb => ?_) hf)
  obtain ⟨a, hsa, ha⟩ := hsb
  have nC : C ≠ a := by
    rcases ha with z | z
    · rw [z]; exact Ne.symm lC
    · exact Ne.symm (cC _ _ z)
  refine ⟨m, hn.sameBut hsa nC, fun h' hs' => ⟨_, H', I4.turned (t' := s4.toks) (it := C) (fun b o hb e => hs'.extBut b o hb e) hHC (Ne.symm lC) (.inr (Nat.le_trans I2.sz hle)) cC (fun p hp => ?_), q⟩⟩
  exact Nat.ne_of_lt (Nat.lt_of_lt_of_le (Heap.lt_size (I2.pin p hp).1) hle)
end
section
variable {g : TG} {ti : TT} {te : TE} {ix : List (Option Nat)} {σ : St} {Q : VK}
def CompW (J : It) (g : TG) (ti : TT) (te : TE) (ix : List (Option Nat)) (σ : St) (Q : VK) (H1 : Hp) : Prop := ∃ W : Nat → Nat → List V → Hp → Prop, (∃ m, W 0 m [] H1) ∧ ∀ i m acc H, W i m acc H →
  (J.stop i H ∧ acc.length ≤ sizeLine ∧ ∀ p, H p = none → Q (.ref p) (upd H p (.lst acc))) ∨
  (J.go i H ∧ ∃ N : List V → Hp → Prop, (∀ acc' H', N acc' H' → ∃ m', m' < m ∧ W (i + 1) m' acc' H') ∧ ∀ x H', J.yld i H x H' → g x (pickS ix σ) H' fun σ2 H2 => Wk (pickS ix σ) σ2 ∧ ti σ2 H2 fun b H3 => if b = true then te σ2 H3 fun v H4 => acc.length < sizeLine ∧ N (acc ++ [v]) H4 else N acc H3)
theorem a_comp {wi : TI} {H : Hp} (h : wi σ H fun J H1 => CompW J g ti te ix σ Q H1) : tComp wi g ti te ix σ H Q := h
theorem compw {J : It} {n : Nat} {H1 : Hp} (Pv : Nat → List V → Hp → Prop) (h0 : Pv 0 [] H1) (hgo : ∀ i acc H, i < n → Pv i acc H → J.go i H) (hst : ∀ acc H, Pv n acc H → J.stop n H)
    (hs : ∀ i x acc H H', i < n → Pv i acc H → J.yld i H x H' → g x (pickS ix σ) H' fun σ2 H2 => Wk (pickS ix σ) σ2 ∧ ti σ2 H2 fun b H3 => if b = true then te σ2 H3 fun v H4 => acc.length < sizeLine ∧ Pv (i + 1) (acc ++ [v]) H4 else Pv (i + 1) acc H3)
    (hd : ∀ acc H, Pv n acc H → acc.length ≤ sizeLine ∧ ∀ p, H p = none → Q (.ref p) (upd H p (.lst acc))) : CompW J g ti te ix σ Q H1 := by
  refine ⟨fun i m acc H => m = n - i ∧ i ≤ n ∧ Pv i acc H, ⟨n, by simp, Nat.zero_le _, h0⟩, ?_⟩
  rintro i m acc H ⟨rfl, hi, p⟩
  by_cases hlt : i < n
  · exact .inr ⟨hgo i acc H hlt p, Pv (i + 1), fun acc' H' p' => ⟨n - (i + 1), by omega, rfl, hlt, p'⟩, fun x H' y => hs i x acc H H' hlt p y⟩
  · have e : i = n := by omega
    subst e
    exact .inl ⟨hst acc H p, hd acc H p⟩
theorem comp_list {K : PySem.W.Frag} {a : Addr} {xs : List V} {H1 : Hp} (Pv : Nat → List V → Hp → Prop) (h0 : Pv 0 [] H1) (hl : ∀ i acc H, i ≤ xs.length → Pv i acc H → SqL K H a xs)
    (hs : ∀ i x acc H, xs[i]? = some x → Pv i acc H → g x (pickS ix σ) H fun σ2 H2 => Wk (pickS ix σ) σ2 ∧ ti σ2 H2 fun b H3 => if b = true then te σ2 H3 fun v H4 => acc.length < sizeLine ∧ Pv (i + 1) (acc ++ [v]) H4 else Pv (i + 1) acc H3)
    (hd : ∀ acc H, Pv xs.length acc H → acc.length ≤ sizeLine ∧ ∀ p, H p = none → Q (.ref p) (upd H p (.lst acc))) : CompW (Itl K a) g ti te ix σ Q H1 := by
  refine compw (n := xs.length) Pv h0 (fun i acc H hi p => ⟨xs, xs[i], hl i acc H (Nat.le_of_lt hi) p, by simp [hi]⟩) (fun acc H p => ⟨xs, hl _ acc H (Nat.le_refl _) p, Nat.le_refl _⟩) (fun i x acc H H' hi p y => ?_) hd
  obtain ⟨e, y⟩ := y
  subst e
  exact hs i x acc _ (y xs (hl i acc _ (Nat.le_of_lt hi) p)) p
end
end L2
namespace L2
open PySem PySem.Spec PyProof.Rows
section
variable {X : Cx}
end
section
variable {X : Cx} {tg : Expr}
end
section
variable {σ : St} {H : Hp} {R : It → Hp → Prop} {K : PySem.W.Frag}
theorem a_for {wi : TI} {g : TG} {tb : TS} {D : Ends} (h : wi σ H fun J H1 => ∃ W : Nat → Nat → St → Hp → Prop, (∃ m, W 0 m σ H1) ∧ ∀ i m σ H, W i m σ H →
  (J.stop i H ∧ D.nx σ H) ∨ (J.go i H ∧ ∃ N : St → Hp → Prop, (∀ σ' H', N σ' H' → ∃ m', m' < m ∧ W (i + 1) m' σ' H') ∧ ∀ x H', J.yld i H x H' → g x σ H' fun σ2 H2 => tb { D with nx := N, ct := N, bk := D.nx } σ2 H2)) : tFor wi g tb D σ H := h
theorem a_ilist {tl : TE} (h : tl σ H fun x H1 => ∃ a, x = .ref a ∧ (∃ xs, SqL K H1 a xs) ∧ R (Itl K a) H1) : iList K tl σ H R := h
end
end L2
namespace L2
open PySem PySem.Spec PyProof.Rows
theorem ObjOk.has {P : Program} {w : World} {H : Hp} {h : Heap} {a : Addr} {o : HO} (x : ObjOk P w H h a o) : ∃ u, h.get? a = some u := by
  cases o with
  | lst xs => obtain ⟨_, _, _, _, e⟩ := x; exact ⟨_, e⟩
  | tup xs => obtain ⟨_, _, _, u, e, _⟩ := x; exact ⟨_, e⟩
  | dK kvs => obtain ⟨_, _, _, _, u, _, _, e, _⟩ := x; exact ⟨_, e⟩
  | dT kvs => obtain ⟨_, _, _, _, u, _, _, e, _⟩ := x; exact ⟨_, e⟩
  | set S n => obtain ⟨u, _, _, _, e, _⟩ := x; exact ⟨_, e⟩
  | ins C dx fs => obtain ⟨_, _, _, e, _⟩ := x; exact ⟨_, e⟩
  | own y => exact x
  | xd fs => obtain ⟨_, ⟨u, _, _, e, _⟩, _⟩ := x; exact ⟨_, e⟩
  | rng lo hi => obtain ⟨_, _, _, e⟩ := x; exact ⟨_, e⟩
  | frz ob u => obtain ⟨e, _⟩ := x; exact ⟨_, e⟩
  | tbl ps => exact ⟨_, x⟩
  | met f y => exact ⟨_, x⟩
  | ext φ => exact x.2.1
section
variable {X : Cx} {pins : List (Addr × Obj)} {σ : St} {H : Hp} {s : Shared}
end
section
variable {X : Cx}
end
end L2
namespace L2
open PySem PySem.Spec PyProof.Rows
section
variable {P : Program} {w : World} {K : PySem.W.Frag} {mg : Str → Option Value} {base : Heap}
end
section
variable {X : Cx}
variable {CX : CXT} {k : Nat} {f : Addr} {fd : FuncData} {ps : List Str} {sp : Sp} {dvs : List V} {ds : List Value} {x : Str} {p pos : Pos} {e : Expr} {es : List Expr} {t : TA}
theorem SP.imp {Y : Cx} {pins pins' : List (Addr × Obj)} {D : Ends} {fl : Flow} {s : Shared} (q : SP Y pins' D fl s) (h : ∀ σ H, Inv Y pins' σ H s → Inv X pins σ H s) : SP X pins D fl s := by
  cases fl with
  | next => obtain ⟨σ', H', I, q⟩ := q; exact ⟨σ', H', h _ _ I, q⟩
  | brk => obtain ⟨σ', H', I, q⟩ := q; exact ⟨σ', H', h _ _ I, q⟩
  | cont => obtain ⟨σ', H', I, q⟩ := q; exact ⟨σ', H', h _ _ I, q⟩
  | ret u => obtain ⟨v, σ', H', I, r, q⟩ := q; exact ⟨v, σ', H', h _ _ I, r, q⟩
end
end L2
namespace L2
open PySem PySem.Spec PyProof.Rows PySem.W Builtin Builtin.ObjectAttr Builtin.Getset_descriptor
structure ExcK (K : Frag) (C : Addr) : Prop where
  fg : findIn K (.ref C) "__getattribute__" = some (some (.builtin "BaseException.__getattribute__"))
  fn : findIn K (.ref C) "__getattr__" = some none
  fc : findIn K (.ref C) "__class__" = some (some (.builtin "object.__class__"))
  mo : mroIn K C (.type "object") = some true
  sb : subIn K (.ref C) (.type "BaseException") = some true
def ExAt (x C : Addr) (h : Heap) : Prop := ∃ o, h.get? x = some o ∧ o.cls = .ref C
theorem ExAt.ty {M : Model} {x C : Addr} {h : Heap} (p : ExAt x C h) : Looks M h (typeOf (.ref x)) (.ref C) := by
  obtain ⟨o, h1, h2⟩ := p
  rw [← h2]
  exact (Looks.ld h1).andThen .now
section
variable {prog : Program} {w : World} {A : Around} {E : Value → Shared → Prop} {K : Frag} {h : Heap} {g : Array GenState} {d : Drawn} {t : Nat} {os : OsState} {x C : Addr}
end
section
variable {X : Cx}
end
end L2
namespace L2
open PySem PySem.Spec PyProof.Rows
structure RoomH (k : Nat) (A : Around) : Prop where
  dp : A.depth + 3 * k + 5 < recursionLimit
  un : A.units + 16 * k + 200 < cLine
theorem RoomH.deeper {k : Nat} {A : Around} (r : RoomH (k + 1) A) (env : Env) : RoomH k (A.deeper env) :=
  ⟨by have := r.dp; show A.depth + 1 + 3 * k + 5 < _; omega, by have := r.un; show A.units + 3 + 16 * k + 200 < _; omega⟩
theorem RoomH.units {k : Nat} {A : Around} (r : RoomH k A) : A.units + 64 < cLine := by have := r.un; omega
structure FnOkH (P : Program) (w : World) (K : PySem.W.Frag) (mg : Str → Option Value) (base : Heap) (k : Nat) (f : Addr) (fd : FuncData) (ps : List Str) (sp : Sp) : Prop where
  len : ∀ vs H Q E, sp vs H Q E → vs.length = ps.length
  run : ∀ (A : Around) (outer : List Env) (s : Shared) (H : Hp) (args : Args) (us : List Value) (vs : List V) (Q : VK) (E : XK), RoomH k A → Env0 P w K mg base A outer s H → BindsTo s fd args (ps.zip us) → Vals vs us → sp vs H Q E →
    codeAny (model P w) A (.call (.ref f) args) (CR CX0 outer P w H s Q E) s
section
variable {P : Program} {w : World} {K : PySem.W.Frag} {mg : Str → Option Value} {base : Heap}
end
section
variable {X : Cx} {k : Nat} {f : Addr} {fd : FuncData} {ps : List Str} {sp : Sp} {x : Str} {p pos : Pos} {e : Expr} {es : List Expr} {t : TA}
end
section
variable {X : Cx}
end
end L2
namespace Vc
open PySem L2 Sf
end Vc
namespace L2
open PySem PySem.Spec PyProof.Rows
def Ite (K : PySem.W.Frag) (a : Addr) : It :=
  ⟨fun i H => ∃ xs x, SqL K H a xs ∧ xs[i]? = some x, fun i H y H' => ∃ p x, y = .ref p ∧ H p = none ∧ (∀ xs, SqL K H a xs → xs[i]? = some x) ∧ H' = upd H p (.tup [.int i, x]), fun i H => ∃ xs, SqL K H a xs ∧ xs.length ≤ i⟩
theorem Inv.turned2 {X : Cx} {pins : List (Addr × Obj)} {σ : St} {H : Hp} {s : Shared} {h' : Heap} {t' : Nat} {a b : Addr} (I : Inv X pins σ H s) (k : ∀ c o, c ≠ a → c ≠ b → s.heap.get? c = some o → h'.get? c = some o)
    (ha : FpOk X pins H a) (hb : FpOk X pins H b) (ea : ∃ o, h'.get? a = some o) (eb : ∃ o, h'.get? b = some o) : Inv X pins σ H { s with heap := h', toks := t' } := by
  obtain ⟨a0, a1, a2, a3, a4, a5⟩ := ha
  obtain ⟨b0, b1, b2, b3, b4, b5⟩ := hb
  refine I.call' (s' := { s with heap := h', toks := t' }) (ch := [a, b]) rfl ⟨fun c o e _ _ hc => ?_, fun c o e _ _ hc => ⟨o.slots, ?_⟩, fun _ _ _ n _ => n, fun c o e hc => ⟨o, ?_⟩, fun _ _ q => q, fun _ _ _ q => q, fun _ ps q => ⟨#[], by rw [q]; simp⟩⟩ (fun c u e => ?_) I.bare (fun c hc => ?_)
  · exact k c o (fun z => hc (by simp [z])) (fun z => hc (by simp [z])) e
  · exact k c o (fun z => hc (by simp [z])) (fun z => hc (by simp [z])) e
  · exact k c o (fun z => hc (by simp [z])) (fun z => hc (by simp [z])) e
  · refine (I.hok c u e).stay (fun d o hd q => k d o ?_ ?_ q) (fun _ q => q) fun _ _ q => q
    · rintro rfl
      rcases hd with z | z
      · rw [← z, a0] at e; cases e
      · rw [a0] at z; cases z
    · rintro rfl
      rcases hd with z | z
      · rw [← z, b0] at e; cases e
      · rw [b0] at z; cases z
  · rcases List.mem_cons.mp hc with z | hc
    · rw [z]; exact ⟨a3, a1, a4, a5⟩
    · have z : c = b := by simpa using hc
      rw [z]; exact ⟨b3, b1, b4, b5⟩
theorem turn_enum {P : Program} {w : World} {K : PySem.W.Frag} {elts : List Expr} {x1 : Nat} {pos : Pos} (a it en : Addr) (hne : en ≠ it) :
    Turn P w K (.Tuple elts x1 pos) (Ite K a) [en, it] en (fun i h => (∃ old, IsEnum h en it i old) ∧ h.IsListIter it a i) where
  mem := by simp
  obj := fun i h st b hb => by
    obtain ⟨⟨old, e1⟩, o, e2, c, d⟩ := st
    rcases List.mem_cons.mp hb with z | hb
    · rw [z]; exact ⟨_, e1, fun v z => by cases z⟩
    · have z : b = it := by simpa using hb
      rw [z]; exact ⟨o, e2, fun v z => by rw [d] at z; cases z⟩
  keep := fun i h h' st k => by
    obtain ⟨⟨old, e1⟩, e2⟩ := st
    exact ⟨⟨old, k en (by simp) _ e1⟩, e2.at fun o e => k it (by simp) o e⟩
  item := by
    intro X hP hw hK hc i pins s σ H E I hf st hg
    subst hP hw hK
    obtain ⟨⟨old, he⟩, hit⟩ := st
    obtain ⟨xs, x, hq, hx⟩ := hg
    obtain ⟨its, rv, p, hz⟩ := I.list hq
    obtain ⟨u, hu, ru⟩ := rv.get hx
    have fe := hf en (by simp)
    have fi := hf it (by simp)
    refine wpAny_pyNext_enum_item he hit p.isList (x := u) (by simpa using hu) hne fun h' hout hit' hT hsz hk => ?_
    refine ⟨.ref s.heap.objs.size, rfl, wpAny_letOwnedTupleGo_enum hout fun h2 he2 hs => ?_⟩
    have le : en < s.heap.objs.size := Heap.lt_size he
    have li : it < s.heap.objs.size := let ⟨o, e, _⟩ := hit; Heap.lt_size e
    have hfr : H s.heap.objs.size = none := I.hok.fresh (Nat.le_refl _)
    have ne1 : en ≠ s.heap.objs.size := Nat.ne_of_lt le
    have ne2 : it ≠ s.heap.objs.size := Nat.ne_of_lt li
    have I1 := I.laid (a := s.heap.objs.size) (o := .tup [.int i, x]) (h' := s.heap.push { cls := .type "tuple", data := .seq #[.int i s.toks, u] }) (t' := s.toks) (fun b q hq => Heap.get?_push_of_some _ hq) (Nat.le_refl _)
      ⟨by show 2 ≤ sizeLine; decide, [.int i s.toks, u], .cons ⟨_, rfl⟩ (.cons ru .nil), ⟨_, Heap.get?_push_size _ rfl, rfl, _, rfl⟩⟩
    have up : ∀ {b : Addr}, b ≠ s.heap.objs.size → FpOk X pins H b → FpOk X pins (upd H s.heap.objs.size (.tup [.int i, x])) b := fun hb f => ⟨by rw [upd_ne hb]; exact f.1, f.2⟩
    have hk2 : ∀ b q, b ≠ en → b ≠ it → (s.heap.push { cls := .type "tuple", data := .seq #[.int i s.toks, u] }).get? b = some q → h2.get? b = some q := fun b q h1 h3 hq => by
      refine hs.extBut b q h1 ?_
      rcases Heap.get?_push_cases hq with ⟨hbs, eq⟩ | hq
      · subst hbs
        subst eq
        exact hT
      · exact hk b q h1 h3 hq
    obtain ⟨oi, ei, ci, di⟩ := hit'
    have hit2 : h2.IsListIter it a (i + 1) := ⟨oi, hs.extBut it oi (Ne.symm hne) ei, ci, di⟩
    refine ⟨.ref s.heap.objs.size, upd H s.heap.objs.size (.tup [.int i, x]), ?_, rfl, ⟨_, x, rfl, hfr, fun ys hy => by rw [I.list_inj hy hq]; exact hx, rfl⟩, ⟨⟨_, he2⟩, hit2⟩, fun b hb => ?_⟩
    · exact Inv.turned2 (s := { s with heap := s.heap.push { cls := .type "tuple", data := .seq #[.int i s.toks, u] }, toks := s.toks }) (t' := s.toks + 1) I1 hk2 (up ne1 fe) (up ne2 fi) ⟨_, he2⟩ ⟨oi, hs.extBut it oi (Ne.symm hne) ei⟩
    · rcases List.mem_cons.mp hb with z | hb
      · rw [z, upd_ne ne1]; exact fe.1
      · have z : b = it := by simpa using hb
        rw [z, upd_ne ne2]; exact fi.1
  done := by
    intro X hP hw hK hc i pins s σ H E I hf st hg
    subst hP hw hK
    obtain ⟨⟨old, he⟩, hit⟩ := st
    obtain ⟨xs, hq, hx⟩ := hg
    obtain ⟨its, rv, p, hz⟩ := I.list hq
    have hl := rv.length
    obtain ⟨f0, f1, f2, f3, f4, f5⟩ := hf it (by simp)
    exact wpAny_pyNext_enum_end (I.ok.hd hc) he hit p.isList (by simp; omega) fun h' eb => ⟨rfl, I.turned (t' := s.toks) (fun b o hb e => eb b o hb e) f0 f1 f3 f4 f5⟩
  self := fun _ _ _ _ _ st h => let ⟨⟨_, he⟩, _⟩ := st; wpAny_pyIter_enum he h
section
variable {X : Cx}
def iEnum (K : PySem.W.Frag) (ta : TA) : TI := fun σ H R => ta σ H fun vs H1 => ∃ a, vs = [.ref a] ∧ (∃ xs, SqL K H1 a xs) ∧ R (Ite K a) H1
theorem pi_enum {l : Expr} {ta : TA} {elts : List Expr} {x1 : Nat} {tpos p pos : Pos} (hg : Gl X "enumerate") (hm : X.mg "enumerate" = none) (ha : PA X [l] ta) (hs : starEach [l] X.env = [(false, eval l X.env)] := by rfl) :
    PI X (.Tuple elts x1 tpos) (.Call (.Name "enumerate" p) [l] [] pos) (iEnum X.K ta) := by
  intro pins s σ H R I h
  refine Call_ (ld_blt I hg hm (u := .type "enumerate") rfl (PyProof.Rows.callWith_type1 (thn (ha pos pins s σ H _ I h) fun us s1 ⟨vs, H1, I1, r1, a, e, ⟨xs, hq⟩, q⟩ => ?_) hs rfl))
  subst e
  cases r1 with
  | cons r rr =>
    cases rr
    cases r
    obtain ⟨its, rv, p, hz⟩ := I1.list hq
    refine call_enumerate_list p.isList fun h' hE hit hsz hk => wpAny_pyIter_enum hE ?_
    have ne : s1.heap.objs.size + 1 ≠ s1.heap.objs.size := by omega
    refine ⟨s1.heap.objs.size + 1, [s1.heap.objs.size + 1, s1.heap.objs.size], _, _, H1, rfl, I1.kept (t' := s1.toks) hk, turn_enum a _ _ ne, ⟨⟨_, hE⟩, hit⟩, fun b hb => ?_, q⟩
    rcases List.mem_cons.mp hb with z | hb
    · rw [z]; exact I1.fpOk (by omega) (I1.hok.fresh (by omega))
    · have z : b = s1.heap.objs.size := by simpa using hb
      rw [z]; exact I1.fpOk (Nat.le_refl _) (I1.hok.fresh (Nat.le_refl _))
end
theorem a_ienum {K : PySem.W.Frag} {ta : TA} {σ : St} {H : Hp} {R : It → Hp → Prop} (h : ta σ H fun vs H1 => ∃ a, vs = [.ref a] ∧ (∃ xs, SqL K H1 a xs) ∧ R (Ite K a) H1) : iEnum K ta σ H R := h
theorem for_enum {K : PySem.W.Frag} {a : Addr} {xs : List V} {g : TG} {tb : TS} {D : Ends} {σ : St} {H : Hp} (Pv : Nat → St → Hp → Prop) (h0 : Pv 0 σ H)
    (hl : ∀ i σ H, i ≤ xs.length → Pv i σ H → SqL K H a xs)
    (hs : ∀ i x σ H p, xs[i]? = some x → Pv i σ H → H p = none → g (.ref p) σ (upd H p (.tup [.int i, x])) fun σ2 H2 => tb { D with nx := Pv (i + 1), ct := Pv (i + 1), bk := D.nx } σ2 H2) (hd : ∀ σ H, Pv xs.length σ H → D.nx σ H) :
    ∃ W : Nat → Nat → St → Hp → Prop, (∃ m, W 0 m σ H) ∧ ∀ i m σ H, W i m σ H →
      ((Ite K a).stop i H ∧ D.nx σ H) ∨ ((Ite K a).go i H ∧ ∃ N : St → Hp → Prop, (∀ σ' H', N σ' H' → ∃ m', m' < m ∧ W (i + 1) m' σ' H') ∧ ∀ x H', (Ite K a).yld i H x H' → g x σ H' fun σ2 H2 => tb { D with nx := N, ct := N, bk := D.nx } σ2 H2) := by
  refine ⟨fun i m σ H => m = xs.length - i ∧ i ≤ xs.length ∧ Pv i σ H, ⟨xs.length, by simp, Nat.zero_le _, h0⟩, ?_⟩
  rintro i m σ H ⟨rfl, hi, p⟩
  have q := hl i σ H hi p
  rcases Nat.lt_or_ge i xs.length with hlt | hge
  · refine .inr ⟨⟨xs, xs[i], q, by simp [hlt]⟩, Pv (i + 1), fun σ' H' p' => ⟨xs.length - (i + 1), by omega, rfl, hlt, p'⟩, fun y H' z => ?_⟩
    obtain ⟨pa, x, rfl, e2, e3, rfl⟩ := z
    exact hs i x σ H pa (e3 xs q) p e2
  · obtain rfl : i = xs.length := by omega
    exact .inl ⟨⟨xs, q, hge⟩, hd σ H p⟩
end L2
namespace L2
open PySem PySem.Spec PyProof.Rows
theorem vals_bools : ∀ {bs : List Bool} {us : List Value}, Vals (bs.map V.bl) us → us = bs.map Value.bool
  | [], _, .nil => rfl
  | b :: r, _, .cons h t => by
    have e := vals_bools (bs := r) t
    subst e
    cases h
    rfl
theorem any_range (bs : List Bool) : (List.range bs.length).any (fun i => bs.getD i false) = bs.any id := by
  rw [Bool.eq_iff_iff, List.any_eq_true, List.any_eq_true]
  constructor
  · rintro ⟨i, hi, h⟩
    rw [List.mem_range] at hi
    refine ⟨bs[i], List.getElem_mem hi, ?_⟩
    rw [List.getD_eq_getElem?_getD, List.getElem?_eq_getElem hi] at h
    exact h
  · rintro ⟨b, hb, h⟩
    obtain ⟨i, hi, rfl⟩ := List.getElem_of_mem hb
    refine ⟨i, List.mem_range.mpr hi, ?_⟩
    rw [List.getD_eq_getElem?_getD, List.getElem?_eq_getElem hi]
    exact h
theorem truth_bools {prog : Program} {w : World} {A : Around} (bs : List Bool) : TruthOf prog w A (fun i v => (bs.map Value.bool).toArray[i]? = some v) (fun i => bs.getD i false) := by
  intro i v s Q E hP hQ
  simp only [List.getElem?_toArray, List.getElem?_map] at hP
  cases q : bs[i]? with
  | none => rw [q] at hP; cases hP
  | some b =>
    rw [q] at hP
    cases hP
    have hQ : Q (bs.getD i false) s := hQ
    rw [List.getD_eq_getElem?_getD, q] at hQ
    exact wpAny_pure hQ
section
variable {X : Cx}
theorem call_anyB (hc : X.calm = true) : CallR X (.builtin "any") (fun xs H Q => ∃ (a : Addr) (bs : List Bool), xs = [.ref a] ∧ SqL X.K H a (bs.map V.bl) ∧ Q (.bl (bs.any id)) H) := by
  intro pins s σ H xs us Q I r h
  obtain ⟨a, bs, rfl, hq, q⟩ := h
  obtain ⟨u, rfl, ru⟩ := vals1 r
  cases ru
  obtain ⟨its, rv, p, hz⟩ := I.list hq
  obtain rfl := vals_bools rv
  have hL := p.isList
  have la : a < s.heap.objs.size := (let ⟨_, e, _⟩ := hL; Heap.lt_size e)
  refine call_any_walk (wpAny_pyIter_list hL ?_)
  refine ⟨s.heap.objs.size, _, _, _, _, _, _, rfl, Walks.list (by exact I.ok.hd hc) _ a (Nat.ne_of_lt la) _, ⟨⟨_, Heap.get?_push_size _ rfl, rfl, rfl⟩, (let ⟨o, e, c⟩ := hL; ⟨o, Heap.get?_push_of_some _ e, c⟩)⟩, truth_bools bs, fun h' tk hk => ?_⟩
  refine ⟨.bl (bs.any id), H, I.kept fun b o e => hk b o (fun z => absurd (Heap.lt_size e) (by rw [show b = s.heap.objs.size from by simpa using z]; exact Nat.lt_irrefl _)) (Heap.get?_push_of_some _ e), ?_, q⟩
  rw [← any_range]
  show _ = _
  simp
end
end L2
namespace L2
theorem a_yes {σ : St} {H : Hp} {R : Bool → Hp → Prop} (h : R true H) : tYes σ H R := h
theorem sizeLine_big : 1000000 ≤ PySem.sizeLine := by decide
end L2
namespace Vc
open PySem L2 Sf
theorem Al.bools {F : Hp} : ∀ {vs : List V} {bs : List Bool}, Al rB F vs bs → vs = bs.map V.bl
  | [], [], _ => rfl
  | _ :: _, _ :: _, ⟨h1, h2⟩ => by rw [List.map_cons, ← Al.bools h2]; cases h1; rfl
  | [], _ :: _, h => h.elim
  | _ :: _, [], h => h.elim
end Vc
namespace L2
open PySem PySem.Spec PyProof.Rows
section
variable {X : Cx}
end
section
variable {g : TG} {ti : TT} {te : TE} {ix : List (Option Nat)} {σ : St} {Q : VK}
end
end L2
namespace L2
open PySem PySem.Spec PyProof.Rows
theorem Inv.turnedL {X : Cx} {pins : List (Addr × Obj)} {σ : St} {H : Hp} {s : Shared} {h' : Heap} {t' : Nat} {ch : List Addr} (I : Inv X pins σ H s) (k : ∀ c o, c ∉ ch → s.heap.get? c = some o → h'.get? c = some o)
    (hf : ∀ b ∈ ch, FpOk X pins H b) : Inv X pins σ H { s with heap := h', toks := t' } := by
  refine I.call' (s' := { s with heap := h', toks := t' }) (ch := ch) rfl ⟨fun c o e _ _ hc => k c o hc e, fun c o e _ _ hc => ⟨o.slots, k c o hc e⟩, fun _ _ _ n _ => n, fun c o e hc => ⟨o, k c o hc e⟩, fun _ _ q => q, fun _ _ _ q => q, fun _ ps q => ⟨#[], by rw [q]; simp⟩⟩ (fun c u e => ?_) I.bare (fun c hc => ?_)
  · refine (I.hok c u e).stay (fun d o hd q => k d o (fun hm => ?_) q) (fun _ q => q) fun _ _ q => q
    have d0 := (hf d hm).1
    rcases hd with z | z
    · rw [← z, d0] at e; cases e
    · rw [d0] at z; cases z
  · obtain ⟨a0, a1, a2, a3, a4, a5⟩ := hf c hc
    exact ⟨a3, a1, a4, a5⟩
def Itz (K : PySem.W.Frag) (a b : Addr) : It :=
  ⟨fun i H => ∃ xs ys x y, SqL K H a xs ∧ SqL K H b ys ∧ xs[i]? = some x ∧ ys[i]? = some y,
    fun i H v H' => ∃ p x y, v = .ref p ∧ H p = none ∧ (∀ xs, SqL K H a xs → xs[i]? = some x) ∧ (∀ ys, SqL K H b ys → ys[i]? = some y) ∧ H' = upd H p (.tup [x, y]),
    fun i H => ∃ xs ys, SqL K H a xs ∧ SqL K H b ys ∧ (xs.length ≤ i ∨ ys.length ≤ i)⟩
theorem turn_zip {P : Program} {w : World} {K : PySem.W.Frag} {elts : List Expr} {x1 : Nat} {pos : Pos} {a b z TI TO i1 i2 : Addr} (D : ZipApart z TI TO i1 i2 a b) :
    Turn P w K (.Tuple elts x1 pos) (Itz K a b) [z, TI, TO, i1, i2] z (fun i h => IsZip h z TI TO .none ∧ IsPair h TI (.ref i1) (.ref i2) ∧ (∃ c d, IsPair h TO c d) ∧ h.IsListIter i1 a i ∧ h.IsListIter i2 b i) where
  mem := by simp
  obj := fun i h st c hc => by
    obtain ⟨e1, e2, ⟨u, v, e3⟩, ⟨o4, e4, c4, d4⟩, ⟨o5, e5, c5, d5⟩⟩ := st
    simp only [List.mem_cons, List.not_mem_nil, or_false] at hc
    rcases hc with rfl | rfl | rfl | rfl | rfl
    · exact ⟨_, e1, fun v z => by cases z⟩
    · exact ⟨_, e2, fun v z => by cases z⟩
    · exact ⟨_, e3, fun v z => by cases z⟩
    · exact ⟨o4, e4, fun v z => by rw [d4] at z; cases z⟩
    · exact ⟨o5, e5, fun v z => by rw [d5] at z; cases z⟩
  keep := fun i h h' st k => by
    obtain ⟨e1, e2, ⟨u, v, e3⟩, e4, e5⟩ := st
    exact ⟨k z (by simp) _ e1, k TI (by simp) _ e2, ⟨u, v, k TO (by simp) _ e3⟩, e4.at fun o e => k i1 (by simp) o e, e5.at fun o e => k i2 (by simp) o e⟩
  item := by
    intro X hP hw hK hc i pins s σ H E I hf st hg
    subst hP hw hK
    obtain ⟨e1, e2, ⟨c, d, e3⟩, e4, e5⟩ := st
    obtain ⟨xs, ys, x, y, hq, hq', hx, hy⟩ := hg
    obtain ⟨its, rv, p, hz⟩ := I.list hq
    obtain ⟨its', rv', p', hz'⟩ := I.list hq'
    obtain ⟨u, hu, ru⟩ := rv.get hx
    obtain ⟨u', hu', ru'⟩ := rv'.get hy
    refine wpAny_pyNext_zip_item D e1 e2 e3 e4 e5 p.isList p'.isList (x := u) (y := u') (by simpa using hu) (by simpa using hu') fun h' g1 g2 g3 g4 hT hsz hk => ?_
    refine ⟨.ref s.heap.objs.size, rfl, wpAny_letOwnedTupleGo_zip g1 fun h2 hz2 hs => ?_⟩
    have hfr : H s.heap.objs.size = none := I.hok.fresh (Nat.le_refl _)
    have lt : ∀ {c o}, s.heap.get? c = some o → c ≠ s.heap.objs.size := fun e => Nat.ne_of_lt (Heap.lt_size e)
    have ne : ∀ c ∈ [z, TI, TO, i1, i2], c ≠ s.heap.objs.size := fun c hc => by
      simp only [List.mem_cons, List.not_mem_nil, or_false] at hc
      rcases hc with rfl | rfl | rfl | rfl | rfl
      · exact lt e1
      · exact lt e2
      · exact lt e3
      · obtain ⟨o, e, _⟩ := e4; exact lt e
      · obtain ⟨o, e, _⟩ := e5; exact lt e
    have I1 := I.laid (a := s.heap.objs.size) (o := .tup [x, y]) (h' := s.heap.push { cls := .type "tuple", data := .seq #[u, u'] }) (t' := s.toks) (fun b q hq => Heap.get?_push_of_some _ hq) (Nat.le_refl _)
      ⟨by show 2 ≤ sizeLine; decide, [u, u'], .cons ru (.cons ru' .nil), ⟨_, Heap.get?_push_size _ rfl, rfl, _, rfl⟩⟩
    have hk2 : ∀ c q, c ∉ [z, TI, TO, i1, i2] → (s.heap.push { cls := .type "tuple", data := .seq #[u, u'] }).get? c = some q → h2.get? c = some q := fun c q hc hq => by
      refine hs.extBut c q (fun z' => hc (by simp [z'])) ?_
      rcases Heap.get?_push_cases hq with ⟨hbs, eq⟩ | hq
      · subst hbs
        subst eq
        exact hT
      · exact hk c q (fun z' => hc (by simp [z'])) (fun z' => hc (by simp [z'])) (fun z' => hc (by simp [z'])) (fun z' => hc (by simp [z'])) hq
    have t2 : IsPair h2 TI (.ref i1) (.ref i2) := hs.extBut TI _ D.TIz (hk TI _ D.TIz D.TITO D.TIi1 D.TIi2 e2)
    have t3 : IsPair h2 TO u u' := hs.extBut TO _ D.TOz g2
    have t4 : h2.IsListIter i1 a (i + 1) := g3.at fun o e => hs.extBut i1 o D.i1z e
    have t5 : h2.IsListIter i2 b (i + 1) := g4.at fun o e => hs.extBut i2 o D.i2z e
    refine ⟨.ref s.heap.objs.size, upd H s.heap.objs.size (.tup [x, y]), ?_, rfl, ⟨_, x, y, rfl, hfr, fun ys hy => by rw [I.list_inj hy hq]; exact hx, fun ys hy' => by rw [I.list_inj hy' hq']; exact hy, rfl⟩, ⟨hz2, t2, ⟨_, _, t3⟩, t4, t5⟩, fun c hc => ?_⟩
    · exact Inv.turnedL (s := { s with heap := s.heap.push { cls := .type "tuple", data := .seq #[u, u'] }, toks := s.toks }) (t' := s.toks) I1 hk2 fun c hc => ⟨by rw [upd_ne (ne c hc)]; exact (hf c hc).1, (hf c hc).2⟩
    · rw [upd_ne (ne c hc)]; exact (hf c hc).1
  done := by
    intro X hP hw hK hc i pins s σ H E I hf st hg
    subst hP hw hK
    obtain ⟨e1, e2, ⟨c, d, e3⟩, e4, e5⟩ := st
    obtain ⟨xs, ys, hq, hq', hor⟩ := hg
    obtain ⟨its, rv, p, hz⟩ := I.list hq
    obtain ⟨its', rv', p', hz'⟩ := I.list hq'
    have l1 := rv.length
    have l2 := rv'.length
    refine wpAny_pyNext_zip_end (I.ok.hd hc) D e1 e2 e3 e4 e5 p.isList p'.isList (hor.imp (fun h => by simp; omega) fun h => by simp; omega) fun h' hk => ⟨rfl, I.turnedL (t' := s.toks) (ch := [z, TI, TO, i1, i2]) (fun c o hc e => ?_) hf⟩
    exact hk c o (fun z' => hc (by simp [z'])) (fun z' => hc (by simp [z'])) (fun z' => hc (by simp [z'])) (fun z' => hc (by simp [z'])) e
  self := fun _ _ _ _ _ st h => wpAny_pyIter_zip st.1 h
section
variable {X : Cx}
def iZip (K : PySem.W.Frag) (ta : TA) : TI := fun σ H R => ta σ H fun vs H1 => ∃ a b, vs = [.ref a, .ref b] ∧ (∃ xs, SqL K H1 a xs) ∧ (∃ ys, SqL K H1 b ys) ∧ R (Itz K a b) H1
theorem pi_zip {l m : Expr} {ta : TA} {elts : List Expr} {x1 : Nat} {tpos p pos : Pos} (hg : Gl X "zip") (hm : X.mg "zip" = none) (ha : PA X [l, m] ta) (hs : starEach [l, m] X.env = [(false, eval l X.env), (false, eval m X.env)] := by rfl)
    (hs2 : starEach [m] X.env = [(false, eval m X.env)] := by rfl) : PI X (.Tuple elts x1 tpos) (.Call (.Name "zip" p) [l, m] [] pos) (iZip X.K ta) := by
  intro pins s σ H R I h
  refine Call_ (ld_blt I hg hm (u := .type "zip") rfl (PyProof.Rows.callWith_type1 (thn (ha pos pins s σ H _ I h) fun us s1 ⟨vs, H1, I1, r1, a, b, e, ⟨xs, hq⟩, ⟨ys, hq'⟩, q⟩ => ?_) (by rw [hs, hs2]) (by rw [hs2]; rfl)))
  subst e
  cases r1 with
  | cons r rr =>
    cases rr with
    | cons r' rr =>
      cases rr
      cases r
      cases r'
      obtain ⟨its, rv, p, hz⟩ := I1.list hq
      obtain ⟨its', rv', p', hz'⟩ := I1.list hq'
      have la : a < s1.heap.objs.size := let ⟨_, e, _⟩ := p.isList; Heap.lt_size e
      have lb : b < s1.heap.objs.size := let ⟨_, e, _⟩ := p'.isList; Heap.lt_size e
      refine call_zip_2 p.isList p'.isList fun h' g1 g2 g3 g4 g5 hsz hk => wpAny_pyIter_zip g1 ?_
      have Dz : ZipApart (s1.heap.objs.size + 4) (s1.heap.objs.size + 2) (s1.heap.objs.size + 3) s1.heap.objs.size (s1.heap.objs.size + 1) a b := by
        have lt : ∀ {x y : Nat}, x < y → x ≠ y := fun h => Nat.ne_of_lt h
        have gt : ∀ {x y : Nat}, y < x → x ≠ y := fun h => Nat.ne_of_gt h
        constructor <;> first | exact lt (by omega) | exact gt (by omega) | exact lt (Nat.lt_of_lt_of_le la (by omega)) | exact lt (Nat.lt_of_lt_of_le lb (by omega))
      refine ⟨s1.heap.objs.size + 4, [s1.heap.objs.size + 4, s1.heap.objs.size + 2, s1.heap.objs.size + 3, s1.heap.objs.size, s1.heap.objs.size + 1], _, _, H1, rfl, I1.kept (t' := s1.toks) hk, turn_zip Dz, ⟨g1, g2, ⟨_, _, g3⟩, g4, g5⟩, fun c hc => ?_, q⟩
      have z : s1.heap.objs.size ≤ c := by
        simp only [List.mem_cons, List.not_mem_nil, or_false] at hc
        rcases hc with rfl | rfl | rfl | rfl | rfl
        · exact Nat.le_add_right _ _
        · exact Nat.le_add_right _ _
        · exact Nat.le_add_right _ _
        · exact Nat.le_refl _
        · exact Nat.le_add_right _ _
      exact I1.fpOk z (I1.hok.fresh z)
end
theorem a_izip {K : PySem.W.Frag} {ta : TA} {σ : St} {H : Hp} {R : It → Hp → Prop} (h : ta σ H fun vs H1 => ∃ a b, vs = [.ref a, .ref b] ∧ (∃ xs, SqL K H1 a xs) ∧ (∃ ys, SqL K H1 b ys) ∧ R (Itz K a b) H1) : iZip K ta σ H R := h
theorem for_zip {K : PySem.W.Frag} {a b : Addr} {xs ys : List V} {g : TG} {tb : TS} {D : Ends} {σ : St} {H : Hp} (Pv : Nat → St → Hp → Prop) (h0 : Pv 0 σ H) (hl : ∀ i σ H, i ≤ min xs.length ys.length → Pv i σ H → SqL K H a xs ∧ SqL K H b ys)
    (hs : ∀ i x y σ H p, xs[i]? = some x → ys[i]? = some y → Pv i σ H → H p = none → g (.ref p) σ (upd H p (.tup [x, y])) fun σ2 H2 => tb { D with nx := Pv (i + 1), ct := Pv (i + 1), bk := D.nx } σ2 H2) (hd : ∀ σ H, Pv (min xs.length ys.length) σ H → D.nx σ H) :
    ∃ W : Nat → Nat → St → Hp → Prop, (∃ m, W 0 m σ H) ∧ ∀ i m σ H, W i m σ H →
      ((Itz K a b).stop i H ∧ D.nx σ H) ∨ ((Itz K a b).go i H ∧ ∃ N : St → Hp → Prop, (∀ σ' H', N σ' H' → ∃ m', m' < m ∧ W (i + 1) m' σ' H') ∧ ∀ x H', (Itz K a b).yld i H x H' → g x σ H' fun σ2 H2 => tb { D with nx := N, ct := N, bk := D.nx } σ2 H2) := by
  refine ⟨fun i m σ H => m = min xs.length ys.length - i ∧ i ≤ min xs.length ys.length ∧ Pv i σ H, ⟨min xs.length ys.length, by simp, Nat.zero_le _, h0⟩, ?_⟩
  rintro i m σ H ⟨rfl, hi, p⟩
  obtain ⟨q1, q2⟩ := hl i σ H hi p
  rcases Nat.lt_or_ge i (min xs.length ys.length) with hlt | hge
  · have h1 : i < xs.length := by omega
    have h2 : i < ys.length := by omega
    refine .inr ⟨⟨xs, ys, xs[i], ys[i], q1, q2, by simp [h1], by simp [h2]⟩, Pv (i + 1), fun σ' H' p' => ⟨min xs.length ys.length - (i + 1), by omega, rfl, hlt, p'⟩, fun v H' z => ?_⟩
    obtain ⟨pa, x, y, rfl, e2, e3, e4, rfl⟩ := z
    exact hs i x y σ H pa (e3 xs q1) (e4 ys q2) p e2
  · have e : i = min xs.length ys.length := by omega
    subst e
    exact .inl ⟨⟨xs, ys, q1, q2, by omega⟩, hd σ H p⟩
end L2
namespace Vc
open PySem L2 Sf
theorem dgetD {α : Type} {A : Rep α} {F H : Hp} {a : Addr} {kvs : List (Key × V)} {m : List (Str × α)} {z : V} {d : α} (x : Str) (rd : Rd H a (.dK kvs)) (dk : Dk A F kvs m) (hz : A F z d) : ∃ o, DGet H a (V.str x) o ∧ A F (o.getD z) ((gtd m x).getD d) := by
  refine ⟨valV kvs (Sum.inr x : Key), .inl ⟨kvs, Sum.inr x, rd, rfl, rfl⟩, ?_⟩
  rcases dk.val x with ⟨e1, e2⟩ | ⟨v, y, e1, e2, e3⟩
  · rw [e1, e2]; exact hz
  · rw [e1, e2]; exact e3
end Vc
namespace L2
theorem a_chain {r r' : R2} {ta tb tc : TE} {σ : St} {H : Hp} {Q : VK} (h : ta σ H fun x H1 => tb σ H1 fun y H2 => r x y H2 fun z H3 => ∃ k, z = .bl k ∧ (if k = true then tc σ H3 fun w' H4 => r' y w' H4 Q else Q (.bl false) H3)) : tChain r r' ta tb tc σ H Q := h
end L2
namespace L2
open PySem PySem.Spec PyProof.Rows
section
variable {X : Cx}
end
section
variable {σ : St} {H : Hp} {Q : VK}
theorem a_bm {K : PySem.W.Frag} {T : String} {r : V → List V → Hp → VK → Prop} {to : TE} {t : TA} (h : to σ H fun x H1 => tyV K T x H1 ∧ t σ H1 fun xs H2 => r x xs H2 Q) : tBM K T r to t σ H Q := h
theorem a_app {l : Addr} {xs : List V} {y : V} (h : H l = some (.lst xs)) (hz : xs.length < sizeLine) (q : Q .non (upd H l (.lst (xs ++ [y])))) : rAppend (.ref l) [y] H Q := ⟨l, xs, y, rfl, rfl, h, hz, q⟩
end
section
variable {g : TG} {ti : TT} {te : TE} {ix : List (Option Nat)} {σ : St} {Q : VK}
theorem comp_zip {K : PySem.W.Frag} {a b : Addr} {xs ys : List V} {H1 : Hp} (Pv : Nat → List V → Hp → Prop) (h0 : Pv 0 [] H1) (hl : ∀ i acc H, i ≤ min xs.length ys.length → Pv i acc H → SqL K H a xs ∧ SqL K H b ys)
    (hs : ∀ i x y acc H p, xs[i]? = some x → ys[i]? = some y → Pv i acc H → H p = none → g (.ref p) (pickS ix σ) (upd H p (.tup [x, y])) fun σ2 H2 => Wk (pickS ix σ) σ2 ∧ ti σ2 H2 fun b H3 => if b = true then te σ2 H3 fun v H4 => acc.length < sizeLine ∧ Pv (i + 1) (acc ++ [v]) H4 else Pv (i + 1) acc H3)
    (hd : ∀ acc H, Pv (min xs.length ys.length) acc H → acc.length ≤ sizeLine ∧ ∀ p, H p = none → Q (.ref p) (upd H p (.lst acc))) : CompW (Itz K a b) g ti te ix σ Q H1 := by
  refine compw (n := min xs.length ys.length) Pv h0 (fun i acc H hi p => ?_) (fun acc H p => ?_) (fun i x acc H H' hi p y => ?_) hd
  · obtain ⟨q1, q2⟩ := hl i acc H (Nat.le_of_lt hi) p
    exact ⟨xs, ys, xs[i]'(by omega), ys[i]'(by omega), q1, q2, by simp, by simp⟩
  · obtain ⟨q1, q2⟩ := hl _ acc H (Nat.le_refl _) p
    refine ⟨xs, ys, q1, q2, ?_⟩
    omega
  · obtain ⟨q1, q2⟩ := hl i acc H (Nat.le_of_lt hi) p
    obtain ⟨pa, x1, y1, rfl, e2, e3, e4, rfl⟩ := y
    exact hs i x1 y1 acc H pa (e3 xs q1) (e4 ys q2) p e2
end
end L2
namespace Vc
open PySem L2 Sf
section
variable {X : Cx} {pins : List (Addr × Obj)} {σ : St} {H : Hp} {s : Shared} {Au : Around}
theorem rn_lsts {a b : Addr} {xs ys : List V} (I : Inv X pins σ H s) (h1 : SqL X.K H a xs) (h2 : SqL X.K H b ys) (hu : Au.units < cLine) (hl : xs.length = ys.length) (e : Nat → Bool)
    (he : ∀ (j : Nat) x y u v, xs[j]? = some x → ys[j]? = some y → RelV x u → RelV y v → SeqAt.EqAt Au.in1 s u v (e j)) : SeqAt.RcNeAt Au s (.ref a) (.ref b) (!(List.range xs.length).all e) := by
  obtain ⟨us, r1, t1, _⟩ := I.list h1
  obtain ⟨ws, r2, t2, _⟩ := I.list h2
  have l1 := r1.length
  have l2 := r2.length
  have z := SeqAt.RcNeAt.lists (A := Au) (e := e) t1.isList t2.isList (by simp; omega) hu (fun j h1 h2 => ?_)
  · have e0 : (List.range us.toArray.size).all e = (List.range xs.length).all e := by
      simp only [List.size_toArray]
      rw [← l1]
    rw [e0] at z
    exact z
  · simp only [List.size_toArray] at h1 h2
    obtain ⟨u, e1, ru⟩ := r1.get (i := j) (x := xs[j]'(by omega)) (by simp)
    obtain ⟨v, e2, rv⟩ := r2.get (i := j) (x := ys[j]'(by omega)) (by simp)
    obtain ⟨_, f1⟩ := List.getElem?_eq_some_iff.mp e1
    obtain ⟨_, f2⟩ := List.getElem?_eq_some_iff.mp e2
    have g1 : us.toArray[j]'(by simpa using h1) = u := by simpa using f1
    have g2 : ws.toArray[j]'(by simpa using h2) = v := by simpa using f2
    rw [g1, g2]
    exact he j _ _ u v (by simp) (by simp) ru rv
end
section
variable {X : Cx}
def rQn {α : Type} [DecidableEq α] (A : Rep α) : R2 := fun v w H Q => ∃ F x y, Same F H ∧ A F v x ∧ A F w y ∧ Q (.bl (!decide (x = y))) H
theorem op_neQ {α : Type} [DecidableEq α] {K : PySem.W.Frag} {A : Rep α} {d : Nat} [qa : Qf K A d] (hK : X.K = K) (hu : X.A.units + 64 < cLine) (hd : d ≤ 60 := by decide) : OpR X (compareOp .NotEq) (rQn (rL K A)) := by
  intro pins s σ H p q v u Q I rx ry h
  subst hK
  obtain ⟨F, x, y, wd, ⟨a, vs, rfl, g1, k1⟩, ⟨b, ws, rfl, g2, l1⟩, hq⟩ := h
  cases rx
  cases ry
  have n1 := k1.length
  have n2 := l1.length
  by_cases hl : x.length = y.length
  · have z := rn_lsts (Au := X.A) I (wd.seq g1) (wd.seq g2) (by omega) (by omega) (fun j => decide (x[j]? = y[j]?)) (fun j p q u v h1 h2 r1 r2 => by
      obtain ⟨m1, e1, f1⟩ := k1.get h1
      obtain ⟨m2, e2, f2⟩ := l1.get h2
      have e0 : decide (x[j]? = y[j]?) = decide (m1 = m2) := by
        rw [e1, e2]
        congr 1
        exact propext ⟨fun h => Option.some.inj h, fun h => by rw [h]⟩
      rw [e0]
      exact qa.qf rfl I wd f1 f2 r1 r2 (by rw [in1_units]; omega))
    rw [n1, all_dec x y hl] at z
    exact z X.prog X.w X.xe _ ⟨.bl _, H, I, rfl, hq⟩
  · rw [decide_eq_false (fun z => hl (by rw [z]))] at hq
    obtain ⟨us, r1, t1, _⟩ := I.list (wd.seq g1)
    obtain ⟨zs, r2, t2, _⟩ := I.list (wd.seq g2)
    have m1 := r1.length
    have m2 := r2.length
    exact SeqAt.RcNeAt.lists_lengths (A := X.A) t1.isList t2.isList (by simp; omega) (by omega) X.prog X.w X.xe _ ⟨.bl true, H, I, rfl, hq⟩
end
end Vc
namespace Vc
open PySem L2 Sf
def ownL {α : Type} (A : Rep α) (F H H' : Hp) (v : V) (r : List α) : Prop := ∃ p vs, v = .ref p ∧ H p = none ∧ H' p = some (.lst vs) ∧ F p = none ∧ Al A F vs r
theorem tyV_lst {K : PySem.W.Frag} {H : Hp} {p : Addr} {xs : List V} (h : H p = some (.lst xs)) : tyV K "list" (.ref p) H := by
  exact .inl ⟨rfl, xs, SqL.of h⟩
theorem cutA_most {α : Type} (xs : List α) (a b : Nat) : (cutA xs (some (a : Int)) (some (b : Int))).length ≤ b - a := by
  unfold cutA
  rw [HT.sIx_nat, HT.sIx_nat, List.length_take, List.length_drop]
  omega
theorem map_take_succ {α β : Type} {xs : List α} {i : Nat} {x : α} (f : α → β) (hx : xs[i]? = some x) : (xs.take (i + 1)).map f = (xs.take i).map f ++ [f x] := by
  rw [List.take_add_one, hx, List.map_append]
  rfl
theorem getD_of {α : Type} {xs : List α} {n : Nat} {x d : α} (h : xs[n]? = some x) : xs.getD n d = x := by rw [List.getD_eq_getElem?_getD, h]; rfl
end Vc
namespace L2
open PySem PySem.Spec PyProof.Rows
end L2
namespace Vc
open PySem L2 Sf
end Vc
namespace L2
open PySem PySem.Spec PyProof.Rows
section
variable {X : Cx}
end
section
variable {X : Cx}
end
section
variable {X : Cx}
end
end L2
namespace Vc
open PySem L2 Sf
section
variable {K : PySem.W.Frag} {F H : Hp} {Q : VK}
end
end Vc
namespace Vc
open PySem L2 Sf
end Vc
namespace L2
open PySem PySem.Spec PyProof.Rows
structure FunD (K : PySem.W.Frag) (x qual : Str) (st : Stmt) (f : Addr) (fd : FuncData) (ds : List Value) : Prop where
  ex : ∃ (oc : Value) (od : Option Addr) (kV doc pm : Value) (an : Option Addr) (cdv ct : Value) (osl : Array (Option Value)) (T : Addr) (o : Obj) (n : Nat),
    fd = PySem.W.fnOf x qual (defArgs st) (defBody st) (defScope st) (.ref T) kV doc pm an cdv ct ∧ K.lookup f = some ⟨oc, od, .func fd, osl⟩ ∧ PySem.W.codeIn K cdv qual = true ∧ K.lookup T = some o ∧ o.data = .seq ds.toArray n
  kp : PySem.W.keepIn K (.ref f) = true
section
variable {P : Program} {w : World} {K : PySem.W.Frag} {mg : Str → Option Value} {base : Heap}
theorem FunD.binds {x qual : Str} {st : Stmt} {f : Addr} {fd : FuncData} {ps : List Str} {ds ds' : List Value} (F : FunD K x qual st f fd ds)
    (h : ∀ (T : Addr) (kV doc pm : Value) (an : Option Addr) (cdv ct : Value) (us : List Value), (us ++ ds').length = ps.length → ∃ k : Option (Array Value) → Sem (List (Str × Value)),
      bindArgs (PySem.W.fnOf x qual (defArgs st) (defBody st) (defScope st) (.ref T) kV doc pm an cdv ct) ⟨us, []⟩ = (seqItems? (.ref T) >>= k) ∧ k (some ds.toArray) = pure (ps.zip (us ++ ds'))) : Binds K fd ps ds' := by
  obtain ⟨oc, od, kV, doc, pm, an, cdv, ct, osl, T, o, n, rfl, lk, hcd, lT, hT⟩ := F.ex
  intro s us X hl
  obtain ⟨k, h1, h2⟩ := h T kV doc pm an cdv ct us hl
  exact BindsTo.of_defaults (T := T) (o := o) rfl (X _ _ lT) hT h1 h2
end
section
variable {g : TG} {ti : TT} {te : TE} {ix : List (Option Nat)} {σ : St} {Q : VK}
end
end L2
namespace Vc
open PySem L2 Sf
def r4 (K : PySem.W.Frag) {α β γ δ : Type} (A : Rep α) (B : Rep β) (C : Rep γ) (D : Rep δ) : Rep (α × β × γ × δ) := fun F v x => ∃ a v1 v2 v3 v4, v = .ref a ∧ SqT K F a [v1, v2, v3, v4] ∧ A F v1 x.1 ∧ B F v2 x.2.1 ∧ C F v3 x.2.2.1 ∧ D F v4 x.2.2.2
instance {K : PySem.W.Frag} {α β γ δ : Type} {A : Rep α} {B : Rep β} {C : Rep γ} {D : Rep δ} [Mo A] [Mo B] [Mo C] [Mo D] : Mo (r4 K A B C D) := ⟨fun e ⟨a, v1, v2, v3, v4, h1, h2, h3, h4, h5, h6⟩ => ⟨a, v1, v2, v3, v4, h1, e.tup h2, Mo.mo e h3, Mo.mo e h4, Mo.mo e h5, Mo.mo e h6⟩⟩
section
variable {K : PySem.W.Frag} {F H : Hp} {Q : VK}
theorem a_eqN4 {α β γ δ : Type} {A : Rep α} {B : Rep β} {C : Rep γ} {D : Rep δ} {n m k l : Nat} [En K A n] [En K B m] [En K C k] [En K D l] {v w : V} {x : α × β × γ × δ} (wd : Same F H) (h : r4 K A B C D F v x) (g : r4 K A B C D F w x) (hn : n + m + k + l ≤ 40) (q : Q (.bl true) H) : rEqN K v w H Q := by
  obtain ⟨a, v1, v2, v3, v4, h1, h2, h3, h4, h5, h6⟩ := h
  obtain ⟨b, w1, w2, w3, w4, g1, g2, g3, g4, g5, g6⟩ := g
  exact ⟨n + m + k + l, a, b, _, _, hn, h1, g1, .inl ⟨wd.tup h2, wd.tup g2⟩, ⟨eqN_mono (En.en wd h3 g3) (by omega), eqN_mono (En.en wd h4 g4) (by omega), eqN_mono (En.en wd h5 g5) (by omega), eqN_mono (En.en wd h6 g6) (by omega), True.intro⟩, q⟩
end
end Vc
namespace L2
open PySem PySem.Spec PyProof.Rows
def RnW (P : Program) (w : World) (A : Around) (s : Shared) (u v : Value) : Prop := ∀ (E : Value → Shared → Prop) (Q : Value → Shared → Prop), Q (.bool false) s → wpAny (model P w) A (richCompare .NotEq u v) Q E s
section
variable {P : Program} {w : World} {A : Around} {s : Shared}
section
open PySem.AutoSeq1 (wpAny_loadPart')
theorem tupNW (a b : Addr) (xs ys : Array Value) (n m : Nat) (da db : Option Addr) (sa sb : Array (Option Value)) (hz : xs.size = ys.size) :
    MeetsIn P w (Builtin.«tuple.__ne__» ⟨[.ref a, .ref b], []⟩) (fun A R s => s.heap.get? a = some ⟨.type "tuple", da, .seq xs n, sa⟩ ∧ s.heap.get? b = some ⟨.type "tuple", db, .seq ys m, sb⟩ ∧
      (∀ j (h1 : j < xs.size) (h2 : j < ys.size), EqW P w A.in1 s xs[j] ys[j]) ∧ R (.ok (.ret (.bool false))) s) := by
  refine .of_wp fun A R s h => ?_
  obtain ⟨hp, g, d, tk, os⟩ := s
  obtain ⟨ha, hb, he, hR⟩ := h
  have sub := AutoSeq1.sub_tuple_tuple
  have len : (xs.toList.zip ys.toList).length = xs.size := by simp; omega
  wp_walk using wpAny_loadPart' ha, wpAny_loadPart' hb, wpAny_forIn_list _ (fun r c s' => c.1 = none ∧ s' = ⟨hp, g, d, tk, os⟩ ∧ ∃ i, r = (xs.toList.zip ys.toList).drop i) _
  case turn =>
    rintro ⟨x, y⟩ r c s' ⟨hc, rfl, i, hr⟩
    by_cases lt : i < (xs.toList.zip ys.toList).length
    · rw [List.drop_eq_getElem_cons lt] at hr
      injection hr with e1 e2
      have i1 : i < xs.size := by omega
      have i2 : i < ys.size := by omega
      obtain ⟨ex, ey⟩ : x = xs[i] ∧ y = ys[i] := by
        have z := Prod.mk.inj (e1.trans List.getElem_zip)
        exact ⟨by simpa using z.1, by simpa using z.2⟩
      subst ex ey
      refine wpAny_bind (he i i1 i2 _ _ ?_)
      wp_walk
      exact ⟨rfl, rfl, i + 1, e2⟩
    · rw [List.drop_of_length_le (by omega)] at hr
      cases hr
  case fin =>
    rintro ⟨c1, c2⟩ s' ⟨hc, rfl, _⟩
    simp only at hc
    subst hc
    wp_walk
    refine ⟨_, rfl, ?_⟩
    simpa [Builtin.Tuple.tupleCompareSizes, hz] using hR
  case h => exact ⟨rfl, rfl, 0, rfl⟩
end
theorem RnW.tuples {a b : Addr} {xs ys : Array Value} (ha : IsTup s.heap a xs) (hb : IsTup s.heap b ys) (hz : xs.size = ys.size) (hu : A.units < cLine) (he : ∀ j (h1 : j < xs.size) (h2 : j < ys.size), EqW P w A.in1 s xs[j] ys[j]) : RnW P w A s (.ref a) (.ref b) := fun E Q q => by
  obtain ⟨⟨ca, da, xa, sa⟩, oa, ka, n, va⟩ := id ha
  obtain ⟨⟨cb, db, xb, sb⟩, ob, kb, m, vb⟩ := id hb
  simp only at ka va kb vb
  subst ka va kb vb
  refine wpAny_richCompare_same_room (op := .NotEq) (T := "tuple") ⟨_, oa, rfl⟩ ⟨_, ob, rfl⟩ PySem.F.slot_tuple_ne ?_ hu
  exact call_meetsIn PySem.F.slot_tuple_ne ⟨_, oa, rfl⟩ PySem.F.entry_tuple_ne (PySem.F.args_tuple_ne_2 _ _) (tupNW a b xs ys n m da db sa sb hz) ⟨oa, ob, he, ⟨(fun z => nomatch z), q⟩⟩
section
open PySem.AutoSeq1 (wpAny_loadPart')
open PySem.MeetsSeq PySem.MeetsSeq2 PySem.MeetsSeq3 PySem.SeqRoads2 PySem.SeqAt
theorem lstLoopNW (a b : Addr) (xs ys : Array Value) (n m : Nat) (da db : Option Addr) (sa sb : Array (Option Value)) (hz : xs.size = ys.size) : ∀ (k i : Nat), xs.size - i = k →
    MeetsIn P w (Builtin.«list.__eq__.loop» ⟨[.ref a, .ref b, rawInt i, rawInt 3], []⟩) (fun A R s => s.heap.get? a = some ⟨.type "list", da, .seq xs n, sa⟩ ∧ s.heap.get? b = some ⟨.type "list", db, .seq ys m, sb⟩ ∧
      (∀ j (h1 : j < xs.size) (h2 : j < ys.size), EqW P w A.in1 s xs[j] ys[j]) ∧ R (.ok (.ret (.bool false))) s)
  | 0, i, hk => fun A R s h => by
    obtain ⟨hp, g, d, tk, os⟩ := s
    obtain ⟨ha, hb, he, hR⟩ := h
    wp_walk using wpAny_loadPart' ha, wpAny_loadPart' hb
    have z1 : xs[((i : Nat) : Int).toNat]? = none := by simp; omega
    have z2 : ys[((i : Nat) : Int).toNat]? = none := by simp; omega
    rw [z1, z2]
    wp_walk using wpAny_loadPart' ha, wpAny_loadPart' hb
    show R (.ok (.ret (.bool (xs.size != ys.size)))) _
    rw [hz, bne_self_eq_false]
    exact hR
  | k + 1, i, hk => fun A R s h => by
    obtain ⟨hp, g, d, tk, os⟩ := s
    obtain ⟨ha, hb, he, hR⟩ := h
    wp_walk using wpAny_loadPart' ha, wpAny_loadPart' hb
    have i1 : i < xs.size := by omega
    have i2 : i < ys.size := by omega
    have z1 : xs[((i : Nat) : Int).toNat]? = some xs[i] := by simp [i1]
    have z2 : ys[((i : Nat) : Int).toNat]? = some ys[i] := by simp [i2]
    rw [z1, z2]
    refine wpAny_bind (he i i1 i2 _ _ ?_)
    wp_walk
    have up : ((i : Int) + 1) = ((i + 1 : Nat) : Int) := Int.natCast_succ i
    rw [up]
    refine ⟨plainId_quiet plain_eq_loop _, codeAny_builtin entry_eq_loop ?_⟩
    rw [Around.under_plainId plain_eq_loop _]
    exact lstLoopNW a b xs ys n m da db sa sb hz k (i + 1) (by omega) A R _ ⟨ha, hb, he, hR⟩
theorem lstNW (a b : Addr) (xs ys : Array Value) (n m : Nat) (da db : Option Addr) (sa sb : Array (Option Value)) (hz : xs.size = ys.size) :
    MeetsIn P w (Builtin.«list.__ne__» ⟨[.ref a, .ref b], []⟩) (fun A R s => s.heap.get? a = some ⟨.type "list", da, .seq xs n, sa⟩ ∧ s.heap.get? b = some ⟨.type "list", db, .seq ys m, sb⟩ ∧
      (∀ j (h1 : j < xs.size) (h2 : j < ys.size), EqW P w A.in1 s xs[j] ys[j]) ∧ R (.ok (.ret (.bool false))) s) := fun A R s h => by
  obtain ⟨hp, g, d, tk, os⟩ := s
  obtain ⟨ha, hb, he, hR⟩ := h
  have sub := AutoSeq1.sub_list_list
  have same : ¬ (xs.size != ys.size) = true := by simp [hz]
  wp_walk using wpAny_loadPart' ha, wpAny_loadPart' hb
  refine ⟨plainId_quiet plain_eq_loop _, codeAny_builtin entry_eq_loop ?_⟩
  rw [Around.under_plainId plain_eq_loop _]
  exact lstLoopNW a b xs ys n m da db sa sb hz _ 0 rfl A R _ ⟨ha, hb, he, hR⟩
end
theorem RnW.lists {a b : Addr} {xs ys : Array Value} (ha : s.heap.IsList a xs) (hb : s.heap.IsList b ys) (hz : xs.size = ys.size) (hu : A.units < cLine) (he : ∀ j (h1 : j < xs.size) (h2 : j < ys.size), EqW P w A.in1 s xs[j] ys[j]) : RnW P w A s (.ref a) (.ref b) := fun E Q q => by
  obtain ⟨⟨ca, da, xa, sa⟩, oa, ka, n, va⟩ := id ha
  obtain ⟨⟨cb, db, xb, sb⟩, ob, kb, m, vb⟩ := id hb
  simp only at ka va kb vb
  subst ka va kb vb
  refine wpAny_richCompare_same_room (op := .NotEq) (T := "list") ⟨_, oa, rfl⟩ ⟨_, ob, rfl⟩ PySem.F.slot_list_ne ?_ hu
  exact call_meetsIn PySem.F.slot_list_ne ⟨_, oa, rfl⟩ PySem.F.entry_list_ne (PySem.F.args_list_ne_2 _ _) (lstNW a b xs ys n m da db sa sb hz) ⟨oa, ob, he, ⟨(fun z => nomatch z), q⟩⟩
end
section
variable {X : Cx} {pins : List (Addr × Obj)} {σ : St} {H : Hp} {s : Shared}
theorem rnW_seq {A : Around} {p q : Addr} {xs ys : List V} (I : Inv X pins σ H s) (hk : (SqT X.K H p xs ∧ SqT X.K H q ys) ∨ (SqL X.K H p xs ∧ SqL X.K H q ys)) (hu : A.units < cLine) (hl : xs.length = ys.length)
    (he : ∀ (j : Nat) x y u v, xs[j]? = some x → ys[j]? = some y → RelV x u → RelV y v → EqW X.prog X.w A.in1 s u v) : RnW X.prog X.w A s (.ref p) (.ref q) := by
  have fin : ∀ (us vs : List Value), Vals xs us → Vals ys vs → ∀ j (h1 : j < us.toArray.size) (h2 : j < vs.toArray.size), EqW X.prog X.w A.in1 s us.toArray[j] vs.toArray[j] := by
    intro us vs r1 r2 j h1 h2
    have l1 := r1.length
    have l2 := r2.length
    simp only [List.size_toArray] at h1 h2
    obtain ⟨u, e1, ru⟩ := r1.get (i := j) (x := xs[j]'(by omega)) (by simp)
    obtain ⟨v, e2, rv⟩ := r2.get (i := j) (x := ys[j]'(by omega)) (by simp)
    obtain ⟨_, f1⟩ := List.getElem?_eq_some_iff.mp e1
    obtain ⟨_, f2⟩ := List.getElem?_eq_some_iff.mp e2
    have g1 : us.toArray[j]'(by simpa using h1) = u := by simpa using f1
    have g2 : vs.toArray[j]'(by simpa using h2) = v := by simpa using f2
    rw [g1, g2]
    exact he j _ _ u v (by simp) (by simp) ru rv
  rcases hk with ⟨h1, h2⟩ | ⟨h1, h2⟩
  · obtain ⟨us, r1, t1, _⟩ := I.tuple h1
    obtain ⟨vs, r2, t2, _⟩ := I.tuple h2
    have l1 := r1.length
    have l2 := r2.length
    exact RnW.tuples t1 t2 (by simp; omega) hu (fin us vs r1 r2)
  · obtain ⟨us, r1, t1, _⟩ := I.list h1
    obtain ⟨vs, r2, t2, _⟩ := I.list h2
    have l1 := r1.length
    have l2 := r2.length
    exact RnW.lists t1.isList t2.isList (by simp; omega) hu (fin us vs r1 r2)
end
section
variable {X : Cx}
def rNeN (K : PySem.W.Frag) : R2 := fun x y H Q => rEqN K x y H fun _ _ => Q (.bl false) H
theorem op_neN (hu : X.A.units + 64 < cLine) : OpR X (compareOp .NotEq) (rNeN X.K) := by
  intro pins s σ H x y v u Q I rx ry h
  obtain ⟨n, p, q, xs, ys, hn, rfl, rfl, hk, al, hq⟩ := h
  cases rx
  cases ry
  refine rnW_seq I hk (by omega) al.length (fun j x y u v h1 h2 r1 r2 => ?_) X.xe _ ⟨.bl false, H, I, rfl, hq⟩
  exact eqN_at I n (A := X.A.in1) (al.get h1 h2) r1 r2 (by rw [in1_units]; omega)
end
end L2
namespace Vc
open PySem L2 Sf
section
variable {K : PySem.W.Frag} {F H : Hp} {Q : VK}
theorem a_neN {v w : V} (h : ∀ Q' : VK, Q' (.bl true) H → rEqN K v w H Q') (q : Q (.bl false) H) : rNeN K v w H Q := h (fun _ _ => Q (.bl false) H) q
end
def DeepA (F H0 : Hp) (vs : List V) : Prop := ∀ u ∈ vs, ∃ t d xs kvs, u = V.ref t ∧ F t = some (.tup (V.ref d :: xs)) ∧ F d = some (.dK kvs) ∧ H0 d = none
theorem DeepA.same {F F' H0 : Hp} {vs : List V} (h : DeepA F H0 vs) (s : Same F F') : DeepA F' H0 vs := fun u hu => by
  obtain ⟨t, d, xs, kvs, e, h1, h2, h3⟩ := h u hu
  exact ⟨t, d, xs, kvs, e, s _ _ h1, s _ _ h2, h3⟩
theorem DeepA.nil {F H0 : Hp} : DeepA F H0 [] := fun u hu => nomatch hu
theorem DeepA.snoc {F H0 : Hp} {vs : List V} {t d : Addr} {xs : List V} {kvs : List (Key × V)} (h : DeepA F H0 vs) (h1 : F t = some (.tup (V.ref d :: xs))) (h2 : F d = some (.dK kvs)) (h3 : H0 d = none) : DeepA F H0 (vs ++ [V.ref t]) := fun u hu => by
  rcases List.mem_append.mp hu with z | z
  · exact h u z
  · rw [List.mem_singleton.mp z]; exact ⟨t, d, xs, kvs, rfl, h1, h2, h3⟩
def DeepH (H Hb F : Hp) (vs : List V) : Prop := ∀ u ∈ vs, ∃ t d xs kvs, u = V.ref t ∧ H t = some (.tup (V.ref d :: xs)) ∧ H d = some (.dK kvs) ∧ Hb d = none ∧ F d = none
theorem DeepA.h {F F0 H H0 Hb : Hp} {vs : List V} (h : DeepA F H0 vs) (s : Same F H) (sb : Same Hb H0) (sf : Same F0 H0) : DeepH H Hb F0 vs := fun u hu => by
  obtain ⟨t, d, xs, kvs, e, h1, h2, h3⟩ := h u hu
  exact ⟨t, d, xs, kvs, e, s _ _ h1, s _ _ h2, sb.free h3, sf.free h3⟩
theorem DeepH.upd {H Hb F : Hp} {vs : List V} {d : Addr} (h : DeepH H Hb F vs) {kv : List (Key × V)} (hd : H d = some (.dK kv)) : DeepH (upd H d (.dK [])) Hb F vs := fun u hu => by
  obtain ⟨t, d', xs, kvs, e, h1, h2, h3, h4⟩ := h u hu
  have n1 : t ≠ d := fun z => by rw [z, hd] at h1; cases h1
  by_cases z : d' = d
  · subst z
    exact ⟨t, d', xs, [], e, by rw [upd_ne n1]; exact h1, upd_same, h3, h4⟩
  · exact ⟨t, d', xs, kvs, e, by rw [upd_ne n1]; exact h1, by rw [upd_ne z]; exact h2, h3, h4⟩
theorem gr_updN {Fb Hb F H : Hp} {p : Addr} {o : HO} (gb : Gr0 Fb Hb F H) (hb : Hb p = none) (hf : F p = none) : Gr0 Fb Hb F (upd H p o) := ⟨gb.h.updN hb, gb.f, gb.s.updN hf, gb.n⟩
end Vc
namespace L2
open PySem PySem.Spec PyProof.Rows
section
variable {X : Cx}
end
section
variable {X : Cx}
end
end L2
namespace Vc
open PySem L2 Sf
abbrev Grid := List (List Str)
def Sq (H Hb F : Hp) (p : Addr) (rs : List Addr) (g : Grid) : Prop :=
  H p = some (.lst (rs.map V.ref)) ∧ F p = none ∧ rs.length = g.length ∧ rs.Nodup ∧ ∀ (i : Nat) r row, rs[i]? = some r → g[i]? = some row → H r = some (.lst (row.map V.str)) ∧ Hb r = none ∧ F r = none
def gset (g : Grid) (i j : Nat) (x : Str) : Grid := g.set i ((g.getD i []).set j x)
theorem Sq.at {H Hb F : Hp} {p : Addr} {rs : List Addr} {g : Grid} (h : Sq H Hb F p rs g) {i : Nat} (hi : i < g.length) : ∃ r row, rs[i]? = some r ∧ g[i]? = some row ∧ H r = some (.lst (row.map V.str)) ∧ Hb r = none ∧ F r = none := by
  have h1 : rs[i]? = some (rs[i]'(by have := h.2.2.1; omega)) := by simp
  have h2 : g[i]? = some g[i] := by simp [hi]
  exact ⟨_, _, h1, h2, h.2.2.2.2 i _ _ h1 h2⟩
theorem Sq.set {H Hb F : Hp} {p r : Addr} {rs : List Addr} {g : Grid} {i j : Nat} {row : List Str} {x : Str} (h : Sq H Hb F p rs g) (hr : rs[i]? = some r) (hg : g[i]? = some row) : Sq (upd H r (.lst ((row.map V.str).set j (V.str x)))) Hb F p rs (gset g i j x) := by
  obtain ⟨a, b, c, d, e⟩ := h
  obtain ⟨e1, e2, e3⟩ := e i r row hr hg
  have npr : p ≠ r := fun z => by
    rw [z, e1] at a
    have a' : row.map V.str = rs.map V.ref := by injection a with a; injection a
    cases rs with
    | nil => cases hr
    | cons q t => cases row with
      | nil => cases a'
      | cons y u => rw [List.map_cons, List.map_cons] at a'; injection a' with z1 _; cases z1
  refine ⟨by rw [upd_ne npr]; exact a, b, by unfold gset; rw [List.length_set]; exact c, d, fun k q w h1 h2 => ?_⟩
  unfold gset at h2
  by_cases hk : k = i
  · subst hk
    rw [hr] at h1
    cases h1
    rw [List.getElem?_set_self (List.getElem?_eq_some_iff.mp hg).1, getD_of hg] at h2
    cases h2
    exact ⟨by rw [upd_same, List.map_set], e2, e3⟩
  · rw [List.getElem?_set_ne (Ne.symm hk)] at h2
    obtain ⟨f1, f2, f3⟩ := e k q w h1 h2
    have nq : q ≠ r := fun z => hk ((List.getElem?_inj (List.getElem?_eq_some_iff.mp h1).1 d).mp (by rw [h1, hr, z]))
    exact ⟨by rw [upd_ne nq]; exact f1, f2, f3⟩
def SqA (H Hb F : Hp) (rs : List Addr) (n : Nat) : Prop := rs.Nodup ∧ ∀ r ∈ rs, H r = some (.lst (List.replicate n (V.str "."))) ∧ Hb r = none ∧ F r = none
theorem SqA.nil {H Hb F : Hp} {n : Nat} : SqA H Hb F [] n := ⟨List.nodup_nil, fun _ h => nomatch h⟩
theorem SqA.snoc {H Hb F Fb : Hp} {rs : List Addr} {n : Nat} {p1 p2 : Addr} {o1 : HO} (h : SqA H Hb F rs n) (gb : Gr0 Fb Hb F H) (hp1 : H p1 = none) (hp2 : upd H p1 o1 p2 = none) :
    SqA (upd (upd H p1 o1) p2 (.lst (List.replicate n (V.str ".")))) Hb F (rs ++ [p2]) n ∧ Gr0 Fb Hb F (upd (upd H p1 o1) p2 (.lst (List.replicate n (V.str ".")))) := by
  have n12 : p2 ≠ p1 := fun z => by rw [z, upd_same] at hp2; cases hp2
  have hp2' : H p2 = none := by rw [upd_ne n12] at hp2; exact hp2
  have g1 := gr_updN (o := o1) gb (gb.h.free hp1) (gb.s.free hp1)
  have g2 := gr_updN (o := .lst (List.replicate n (V.str "."))) g1 (gb.h.free hp2') (gb.s.free hp2')
  refine ⟨⟨?_, fun r hr => ?_⟩, g2⟩
  · rw [List.nodup_append]
    refine ⟨h.1, by simp, fun a ha b hb => ?_⟩
    rw [List.mem_singleton.mp hb]
    rintro rfl
    have := (h.2 a ha).1
    rw [hp2'] at this; cases this
  · rcases List.mem_append.mp hr with z | z
    · obtain ⟨a, b, c⟩ := h.2 r z
      have m1 : r ≠ p1 := fun z => by rw [z, hp1] at a; cases a
      have m2 : r ≠ p2 := fun z => by rw [z, hp2'] at a; cases a
      exact ⟨by rw [upd_ne m2, upd_ne m1]; exact a, b, c⟩
    · rw [List.mem_singleton.mp z]
      exact ⟨upd_same, gb.h.free hp2', gb.s.free hp2'⟩
theorem Sq.of {H Hb F Fb : Hp} {rs : List Addr} {n m : Nat} {p : Addr} (h : SqA H Hb F rs n) (gb : Gr0 Fb Hb F H) (hp : H p = none) (hl : rs.length = m) :
    Sq (upd H p (.lst (rs.map V.ref))) Hb F p rs (List.replicate m (List.replicate n ".")) ∧ Gr0 Fb Hb F (upd H p (.lst (rs.map V.ref))) := by
  refine ⟨⟨upd_same, gb.s.free hp, by rw [List.length_replicate]; exact hl, h.1, fun i r row h1 h2 => ?_⟩, gr_updN gb (gb.h.free hp) (gb.s.free hp)⟩
  have hr := List.mem_of_getElem? h1
  obtain ⟨a, b, c⟩ := h.2 r hr
  have hrow : row = List.replicate n (("." : Str)) := List.eq_of_mem_replicate (List.mem_of_getElem? h2)
  have ne : r ≠ p := fun z => by rw [z, hp] at a; cases a
  exact ⟨by rw [upd_ne ne, hrow, List.map_replicate]; exact a, b, c⟩
theorem a_gsub {to ti : TE} {t : TSet} {v : V} {σ : L2.St} {H : Hp} {Q : L2.St → Hp → Prop} (h : to σ H fun o H1 => ti σ H1 fun i H2 => t o i v H2 fun H3 => Q σ H3) : gSub to ti t v σ H Q := h
theorem ixN_nat {n : Nat} {i : Int} (h0 : 0 ≤ i) (h1 : i < n) : ixN n i = some i.toNat := by unfold ixN; rw [if_pos h0, if_pos h1]
instance {K : PySem.W.Frag} {α β γ δ : Type} {A : Rep α} {B : Rep β} {C : Rep γ} {D : Rep δ} {n m k l : Nat} [Et K A n] [Et K B m] [Et K C k] [Et K D l] : Et K (r4 K A B C D) (n + m + k + l + 1) :=
  ⟨fun wd ⟨a, v1, v2, v3, v4, h1, h2, h3, h4, h5, h6⟩ ⟨b, w1, w2, w3, w4, g1, g2, g3, g4, g5, g6⟩ => .inr ⟨a, b, _, _, h1, g1, .inl ⟨wd.tup h2, wd.tup g2⟩, eqT_mono (Et.et wd h3 g3) (by omega), eqT_mono (Et.et wd h4 g4) (by omega), eqT_mono (Et.et wd h5 g5) (by omega), eqT_mono (Et.et wd h6 g6) (by omega), True.intro⟩⟩
structure ZSs (X : Cx) (st : List Stmt) (t : TS) : Prop where
  h : PSs X st t
theorem zss_cons {X : Cx} {st : Stmt} {rest : List Stmt} {t u : TS} (h1 : PS X st t) (h2 : ZSs X rest u) : ZSs X (st :: rest) (tSeq t u) := ⟨pss_cons h1 h2.h⟩
theorem zss_one {X : Cx} {st : Stmt} {t : TS} (h1 : PS X st t) : ZSs X [st] t := ⟨pss_one h1⟩
structure ZS (X : Cx) (st : Stmt) (t : TS) : Prop where
  h : PS X st t
structure ZE (X : Cx) (e : Expr) (t : TE) : Prop where
  h : PE X e t
structure ZA (X : Cx) (e : List Expr) (t : TA) : Prop where
  h : PA X e t
end Vc
namespace L2
open PySem PySem.Spec PyProof.Rows
section
variable {prog : Program} {w : World} {κ : Type} [DecidableEq κ] {kn : KeyKind prog w κ} {A : Around} {E : Value → Shared → Prop} {s : Shared}
end
section
variable {X : Cx}
end
end L2
namespace L2
open PySem PySem.Spec PyProof.Rows
section
variable {prog : Program} {w : World} {A : Around} {E : Value → Shared → Prop} {s : Shared}
theorem lri_noLen : typeLookup (.type "list_reverseiterator") "__len__" = pure none := by rw [typeLookup_type, builtinLookup_eq_fast]; kernel_rfl
theorem lri_hint : typeLookup (.type "list_reverseiterator") "__length_hint__" = pure (some (.builtin "list_reverseiterator.__length_hint__")) := by rw [typeLookup_type, builtinLookup_eq_fast]; kernel_rfl
theorem hint_lri {r : Addr} {Q : Bool → Shared → Prop} (hT : s.TypeIs (.ref r) "list_reverseiterator") (h : Q false s) : wpAny (model prog w) A (Builtin.List.listLengthHint (.ref r)) Q E s := by
  unfold Builtin.List.listLengthHint
  refine wpAny_bind (wpAny_specialOf hT lri_noLen ?_)
  show wpAny _ A (specialOf (Value.ref r) (Str.ofString "__length_hint__") >>= _) _ _ _
  refine wpAny_bind (wpAny_specialOf hT lri_hint ?_)
  generalize hid : ("list_reverseiterator.__length_hint__" : String) = i0
  wp_delta
  rw [show splitId i0 = some ("list_reverseiterator", "__length_hint__") from by subst hid; decide +kernel]
  subst hid
  refine wpAny_bind (wpAny_isInstance (T := "list_reverseiterator") (b := true) hT (by rw [isSubtype_type]; kernel_rfl) ?_)
  refine wpAny_ite_split (fun z => absurd z (by decide)) (fun _ => ?_)
  refine wpAny_ite_split (fun _ => ?_) (fun z => absurd (by decide +kernel) z)
  refine wpAny_ite_split (fun z => absurd z (by decide +kernel)) (fun _ => ?_)
  exact wpAny_pure h
theorem extend_it {T : String} {I : Addr} {fp : List Addr} {n : Nat} {P : Nat → Value → Prop} {St : Nat → Heap → Prop} {R : Result → Shared → Prop} (W : Walks prog w A.in1 I fp [I] n P St) (hI : I ∈ fp)
    (hT : ∀ i (s : Shared), St i s.heap → s.TypeIs (.ref I) T) (n1 : (Value.type T == Value.type "list") = false) (n2 : (Value.type T == Value.type "tuple") = false)
    (hh : ∀ (s : Shared) (Q : Bool → Shared → Prop) (E : Value → Shared → Prop), s.TypeIs (.ref I) T → Q false s → wpAny (model prog w) A.in1 (Builtin.List.listLengthHint (.ref I)) Q E s)
    (hst : St 0 s.heap) (S : Addr) (hSf : S ∉ fp) (res : Value) (c0 : Nat) (hS : s.heap.get? S = some { cls := .type "list", data := .seq #[] c0 })
    (hR : ∀ h' tk acc c, (∀ b o, b ≠ S → b ≠ I → s.heap.get? b = some o → h'.get? b = some o) → h'.get? S = some { cls := .type "list", dict := none, data := .seq acc c, slots := #[] } → ItemsOf P acc n → R (.ok (.ret res)) { s with heap := h', toks := tk }) (hn : n ≤ sizeLine) :
    wpAny (model prog w) A.in1 (Builtin.List.listExtendWith (.ref S) (.ref I) res)
      (fun fin s' => match fin with | .done f => R (.ok f) s' | .again c' => c'.quiet = true ∧ codeAny (model prog w) A c' R s') (fun e s' => R (.error e) s') s := by
  have nSI : S ≠ I := fun z => hSf (z ▸ hI)
  have key : ∀ (h : Heap) (c1 tk : Nat), St 0 h → (∀ b o, b ≠ S → s.heap.get? b = some o → h.get? b = some o) → h.get? S = some { cls := .type "list", data := .seq #[] c1 } →
      codeAny (model prog w) A (.builtin "list.extend.loop" ⟨[.ref S, .ref I, res], []⟩) R { s with heap := h, toks := tk } := by
    intro h c1 tk st hk hS1
    refine codeAny_extend_loopS W.toS hn S hSf res n 0 _ #[] c1 rfl (Nat.zero_le _) st hS1 (ItemsOf.nil _) fun s' acc c mv hS2 items => ?_
    rw [Moved.eq_with mv]
    exact hR s'.heap s'.toks acc c (fun b o h1 h2 e => mv.heap b o (fun z => by
      rcases List.mem_cons.mp z with z | z
      · exact h1 z
      · exact h2 (List.mem_singleton.mp z)) (hk b o h1 e)) hS2 items
  unfold Builtin.List.listExtendWith
  refine wpAny_bind (wpAny_typeOf (hT 0 s hst) ?_)
  simp only [show Builtin.List.listSameRef (.ref S) (.ref I) = false by simp [Builtin.List.listSameRef, nSI], n1, n2, Bool.or_false, Bool.false_eq_true, if_false]
  refine wpAny_bind (W.self 0 s _ _ hst (wpAny_bind (wpAny_holding (hh s _ _ (hT 0 s hst) ?_))))
  refine wpAny_ite_split (fun _ => ?_) (fun _ => wpAny_pure ⟨plainId_quiet PySem.F.plain_extend_loop _, key _ c0 _ hst (fun b o _ e => e) hS⟩)
  refine wpAny_bind (wpAny_rule (wpAny_bind ?_))
  show wpAny _ _ (updateSeq S (·.push .none) >>= fun _ => updateSeq S (·.pop)) _ _ s
  refine wpAny_bind (wpAny_updateSeq hS rfl ?_)
  have q1 := Heap.get?_update_self (Obj.mapSeq (·.push Value.none)) hS rfl
  refine wpAny_updateSeq (hz := by seq_fits) q1 rfl ?_
  have q2 := Heap.get?_update_self (Obj.mapSeq (·.pop)) q1 rfl
  have oth : ∀ b o, b ≠ S → s.heap.get? b = some o → ((s.heap.update S (Obj.mapSeq (·.push Value.none))).update S (Obj.mapSeq (·.pop))).get? b = some o := fun b o z e => (Heap.get?_update_other _ _ z.symm).trans ((Heap.get?_update_other _ _ z.symm).trans e)
  exact wpAny_pure ⟨plainId_quiet PySem.F.plain_extend_loop _, key _ _ _ (W.frame 0 _ _ hst fun b hb o e => oth b o (fun z => hSf (z ▸ hb)) e) oth q2⟩
theorem list_it {T : String} {I : Addr} {fp : List Addr} {n : Nat} {P : Nat → Value → Prop} {St : Nat → Heap → Prop} {Q : Value → Shared → Prop} (W : Walks prog w A.in1.in1 I fp [I] n P St) (hI : I ∈ fp) (hfp : ∀ b ∈ fp, b < s.heap.objs.size)
    (hT : ∀ i (s : Shared), St i s.heap → s.TypeIs (.ref I) T) (n1 : (Value.type T == Value.type "list") = false) (n2 : (Value.type T == Value.type "tuple") = false)
    (hh : ∀ (s : Shared) (Q : Bool → Shared → Prop) (E : Value → Shared → Prop), s.TypeIs (.ref I) T → Q false s → wpAny (model prog w) A.in1.in1 (Builtin.List.listLengthHint (.ref I)) Q E s)
    (hst : St 0 s.heap) (hn : n ≤ sizeLine)
    (hQ : ∀ h' tk acc c, (∀ b o, b ≠ I → s.heap.get? b = some o → h'.get? b = some o) → h'.get? s.heap.objs.size = some { cls := .type "list", dict := none, data := .seq acc c, slots := #[] } → ItemsOf P acc n → Q (.ref s.heap.objs.size) { s with heap := h', toks := tk }) :
    wpAny (model prog w) A (call (.type "list") [.ref I]) Q E s := by
  refine callType_codes (Q₁ := fun o s₁ => o = .ref s.heap.objs.size ∧ s₁ = { s with heap := s.heap.push { cls := .type "list", data := .seq #[] } }) PySem.F.called_list (PySem.F.typeCall_list_1 _) PySem.F.entry_list_init (code_list_new _ ⟨rfl, rfl⟩) fun o s₁ h₁ => ?_
  obtain ⟨rfl, rfl⟩ := h₁
  have hS : (s.heap.push { cls := .type "list", data := .seq #[] }).get? s.heap.objs.size = some { cls := .type "list", data := .seq #[] } := Heap.get?_push_size _ rfl
  have hSf : s.heap.objs.size ∉ fp := fun z => Nat.lt_irrefl _ (hfp _ z)
  refine ⟨⟨_, hS, rfl⟩, PySem.F.args_list_init_2 _ _, ?_⟩
  show wpAny _ _ (do let old ← Builtin.List.listItems (.ref s.heap.objs.size); Builtin.List.listUpdate (.ref s.heap.objs.size) (fun _ => #[]); letGo old.toList.reverse; Builtin.List.listExtendWith (.ref s.heap.objs.size) (.ref I) .none) _ _ _
  refine wpAny_bind ?_
  unfold Builtin.List.listItems
  refine wpAny_bind (wpAny_seqItems hS rfl (wpAny_pure ?_))
  show wpAny _ _ (updateSeq s.heap.objs.size (fun _ => #[]) >>= fun _ => letGo (#[] : Array Value).toList.reverse >>= fun _ => Builtin.List.listExtendWith (.ref s.heap.objs.size) (.ref I) .none) _ _ _
  refine wpAny_bind (wpAny_updateSeq hS rfl ?_)
  have q2 := Heap.get?_update_self (Obj.mapSeq (fun _ => (#[] : Array Value))) hS rfl
  have oth : ∀ b o, b ≠ s.heap.objs.size → s.heap.get? b = some o → ((s.heap.push { cls := .type "list", data := .seq #[] }).update s.heap.objs.size (Obj.mapSeq (fun _ => (#[] : Array Value)))).get? b = some o :=
    fun b o z e => (Heap.get?_update_other _ _ z.symm).trans (Heap.get?_push_of_some _ e)
  refine wpAny_bind (wpAny_letGo ?_)
  refine extend_it (A := A.in1) W hI hT n1 n2 hh (W.frame 0 _ _ hst fun b hb o e => oth b o (fun z => hSf (z ▸ hb)) e) _ hSf .none _ q2 (fun h' tk acc c hk hS' items => ?_) hn
  exact ⟨rfl, hQ h' tk acc c (fun b o z e => hk b o (Nat.ne_of_lt (Heap.lt_size e)) z (oth b o (Nat.ne_of_lt (Heap.lt_size e)) e)) hS' items⟩
end
theorem vals_app {xs ys : List V} {us vs : List Value} (h : Vals xs us) (g : Vals ys vs) : Vals (xs ++ ys) (us ++ vs) := by
  induction h with
  | nil => exact g
  | cons a _ ih => exact .cons a ih
theorem vals_rev {xs : List V} {us : List Value} (h : Vals xs us) : Vals xs.reverse us.reverse := by
  induction h with
  | nil => exact .nil
  | cons a _ ih => rw [List.reverse_cons, List.reverse_cons]; exact vals_app ih (.cons a .nil)
section
variable {X : Cx}
def tLR (K : PySem.W.Frag) (ta : TA) : TE := fun σ H Q => ta σ H fun vs H1 => ∃ a xs, vs = [.ref a] ∧ SqL K H1 a xs ∧ ∀ p, H1 p = none → Q (.ref p) (upd H1 p (.lst xs.reverse))
theorem pe_listrev {l : Expr} {ta : TA} {p p2 pos2 pos : Pos} (hc : X.calm = true) (hg : Gl X "list") (hm : X.mg "list" = none) (hg2 : Gl X "reversed") (hm2 : X.mg "reversed" = none) (ha : PA X [l] ta) (hs2 : starEach [l] X.env = [(false, eval l X.env)] := by rfl)
    (hs : starEach [.Call (.Name "reversed" p2) [l] [] pos2] X.env = [(false, eval (.Call (.Name "reversed" p2) [l] [] pos2) X.env)] := by rfl) :
    PE X (.Call (.Name "list" p) [.Call (.Name "reversed" p2) [l] [] pos2] [] pos) (tLR X.K ta) := by
  intro pins s σ H Q I h
  refine wpAny_Call_Name_kw (ld_blt I hg hm (u := .type "list") rfl ?_)
  refine PyProof.Rows.callWith_type1 ?_ hs rfl
  rw [hs]
  show wpAny _ _ (spliced ((false, eval (.Call (.Name "reversed" p2) [l] [] pos2) X.env) :: backTo pos [])) _ _ s
  refine Calls.spliced_cons ?_
  refine Call_ (ld_blt I hg2 hm2 (u := .type "reversed") rfl (PyProof.Rows.callWith_type1 (thn (ha pos2 pins s σ H _ I h) fun us s1 ⟨vs, H1, I1, r1, a, xs, e, hq, q⟩ => ?_) hs2 rfl))
  subst e
  cases r1 with
  | cons r rr =>
    cases rr
    cases r
    obtain ⟨its, rv, pl, hz⟩ := I1.list hq
    have hl := rv.length
    refine call_reversed_list pl.isList ?_
    refine Calls.spliced_nil ?_
    have la : a < s1.heap.objs.size := let ⟨o, ho, _⟩ := pl.isList; Heap.lt_size ho
    have W := Walks.listRev (prog := X.prog) (w := X.w) (A := X.A.in1.in1) (show X.A.in1.in1.handled = none from I.ok.hd hc) s1.heap.objs.size a (Nat.ne_of_lt la) its.toArray
    have I2 : Inv X pins σ H1 { s1 with heap := s1.heap.push (revObj a ((its.toArray.size : Int) - 1)) } := I1.kept (t' := s1.toks) fun b o e => Heap.get?_push_of_some _ e
    have hI : (s1.heap.push (revObj a ((its.toArray.size : Int) - 1))).IsRevIter s1.heap.objs.size a ((its.toArray.size : Int) - 1 - ((0 : Nat) : Int)) := by
      refine ⟨_, Heap.get?_push_size _ rfl, rfl, ?_⟩
      rw [show (its.toArray.size : Int) - 1 - ((0 : Nat) : Int) = (its.toArray.size : Int) - 1 by omega]
      rfl
    have f := I1.fpOk (Nat.le_refl _) (I1.hok.fresh (Nat.le_refl s1.heap.objs.size))
    refine list_it (s := { s1 with heap := s1.heap.push (revObj a ((its.toArray.size : Int) - 1)) }) W (by simp) (fun b hb => ?_) (fun _ _ z => z.2.1.typeIs) (by decide) (by decide) (fun _ _ _ t h => hint_lri t h) ⟨Nat.zero_le _, hI, pl.isList.at fun o e => Heap.get?_push_of_some _ e⟩ (by simp; omega) fun h' tk acc c hk hS items => ?_
    · show b < (s1.heap.push _).objs.size
      rw [Heap.size_push]
      rcases List.mem_cons.mp hb with z | z
      · rw [z]; exact Nat.lt_succ_self _
      · rw [List.mem_singleton.mp z]; exact Nat.lt_succ_of_lt la
    · have z1 : (s1.heap.push (revObj a ((its.toArray.size : Int) - 1))).objs.size = s1.heap.objs.size + 1 := Heap.size_push ..
      have hk1 : ∀ b o, s1.heap.get? b = some o → h'.get? b = some o := fun b o e => hk b o (Nat.ne_of_lt (Heap.lt_size e)) (Heap.get?_push_of_some _ e)
      have ea : acc.toList = its.reverse := by
        refine List.ext_getElem? fun j => ?_
        rcases Nat.lt_or_ge j acc.size with hj | hj
        · obtain ⟨v, hv⟩ : ∃ v, acc[j]? = some v := ⟨acc[j], by simp [hj]⟩
          have h2 := items.2 j v hv
          have h1 := items.1
          rw [Array.getElem?_toList, hv, List.getElem?_reverse (by simp at h1; omega), ← h2]
          simp
        · have h1 := items.1
          rw [List.getElem?_eq_none (by simpa using hj), List.getElem?_eq_none (by simp at h1 ⊢; omega)]
      refine ⟨.ref _, _, I1.laid (a := (s1.heap.push (revObj a ((its.toArray.size : Int) - 1))).objs.size) (o := .lst xs.reverse) (h' := h') (t' := tk) hk1 (by rw [z1]; omega) ⟨by rw [List.length_reverse]; exact hz, its.reverse, c, vals_rev rv, by rw [← ea, Array.toArray_toList]; exact hS⟩, rfl, q _ (by rw [z1]; exact I1.hok.fresh (by omega))⟩
end
theorem a_lr {K : PySem.W.Frag} {ta : TA} {σ : St} {H : Hp} {Q : VK} (h : ta σ H fun vs H1 => ∃ a xs, vs = [.ref a] ∧ SqL K H1 a xs ∧ ∀ p, H1 p = none → Q (.ref p) (upd H1 p (.lst xs.reverse))) : tLR K ta σ H Q := h
section
variable {X : Cx}
theorem op_isB : OpR X (compareOp .Is) (fun x y H Q => ∃ c d, x = .bl c ∧ y = .bl d ∧ Q (.bl (c == d)) H) := by
  intro pins s σ H x y v u Q I rx ry h
  obtain ⟨c, d, rfl, rfl, q⟩ := h
  cases rx
  cases ry
  exact is_bool (fin_bl I q rfl)
end
end L2
namespace Vc
open PySem L2
theorem Al.setv {α : Type} {A : Rep α} {F : Hp} {v : V} {x : α} : ∀ {vs : List V} {xs : List α} {j : Nat}, Al A F vs xs → A F v x → Al A F (vs.set j v) (xs.set j x)
  | [], [], _, _, _ => True.intro
  | _ :: _, _ :: _, 0, h, g => ⟨g, h.2⟩
  | _ :: _, _ :: _, _ + 1, h, g => ⟨h.1, Al.setv h.2 g⟩
  | [], _ :: _, _, h, _ => h.elim
  | _ :: _, [], _, h, _ => h.elim
theorem Al.rev {α : Type} {A : Rep α} {F : Hp} : ∀ {vs : List V} {xs : List α}, Al A F vs xs → Al A F vs.reverse xs.reverse
  | [], [], _ => True.intro
  | v :: vs, x :: xs, h => by rw [List.reverse_cons, List.reverse_cons]; exact (Al.rev h.2).snoc h.1
  | [], _ :: _, h => h.elim
  | _ :: _, [], h => h.elim
section
variable {X : Cx} {pins : List (Addr × Obj)} {σ : St} {H : Hp} {s : Shared} {Au : Around}
open Sf in
end
section
variable {X : Cx}
end
end Vc
namespace L2
open PySem PySem.Spec PyProof.Rows
section
variable {X : Cx}
def rCatS (K : PySem.W.Frag) : R2 := fun x y H Q => ∃ l b xs zs, x = .ref l ∧ y = .ref b ∧ SqL K H l xs ∧ SqL K H b zs ∧ xs.length + zs.length ≤ sizeLine ∧ ∀ p, H p = none → Q (.ref p) (upd H p (.lst (xs ++ zs)))
theorem op_catS : OpR X (binaryOp .Add) (rCatS X.K) := by
  intro pins s σ H x y v u Q I rx ry h
  obtain ⟨l, b, xs, zs, rfl, rfl, hH, hB, hz, q⟩ := h
  cases rx
  cases ry
  obtain ⟨its, r, p1, z1⟩ := I.list hH
  obtain ⟨its2, r2, p2, z2⟩ := I.list hB
  have n1 := r.length
  have n2 := r2.length
  obtain ⟨⟨c1, d1, t1, sl1⟩, ho, hc, n, hd⟩ := p1.isList
  obtain ⟨⟨c2, d2, t2, sl2⟩, ho2, hc2, m, hd2⟩ := p2.isList
  simp only at hc hd hc2 hd2
  subst hc hd hc2 hd2
  refine concat_meets ⟨_, ho, rfl⟩ ⟨_, ho2, rfl⟩ noFill_list_add seq_list_add PySem.F.slot_list_add PySem.F.entry_list_add (PySem.F.args_list_add_2 _ _) (list_addW l b its.toArray its2.toArray n m d1 d2 sl1 sl2 (by simp; omega)) ⟨ho, ho2, ?_⟩
  rw [show its.toArray ++ its2.toArray = (its ++ its2).toArray by simp]
  exact ⟨.ref _, _, I.lnew (t' := s.toks) (r.append r2) (by rw [List.length_append]; omega), rfl, q _ I.fresh⟩
end
theorem a_prs {tk tv : TE} {σ : St} {H : Hp} {Q : List (V × V) → Hp → Prop} (h : tk σ H fun x H1 => tv σ H1 fun y H2 => Q [(x, y)] H2) : tPairs [(tk, tv)] σ H Q := h
end L2
namespace L2
open PySem
abbrev V.u : Int ⊕ Str → V
  | .inl n => .int n
  | .inr x => .str x
end L2
namespace Vc
open PySem L2
abbrev rU : Rep (Int ⊕ Str) := fun _ v u => v = V.u u
instance : Mo rU := ⟨fun _ h => h⟩
section
variable {X : Cx}
def rNeE (K : PySem.W.Frag) : R2 := fun x y H Q => ∃ p q xs, x = .ref p ∧ y = .ref q ∧ SqL K H p xs ∧ SqL K H q [] ∧ Q (.bl (!decide (xs.length = 0))) H
theorem op_neE (hu : X.A.units + 64 < cLine) : OpR X (compareOp .NotEq) (rNeE X.K) := by
  intro pins s σ H x y v u Q I rx ry h
  obtain ⟨p, q, xs, rfl, rfl, h1, h2, hq⟩ := h
  cases rx
  cases ry
  by_cases hl : xs.length = 0
  · have z := rn_lsts (Au := X.A) I h1 h2 (by omega) hl (fun _ => true) (fun j x y u v e _ _ _ => by rw [List.getElem?_eq_none (by omega)] at e; cases e)
    rw [hl] at z
    rw [decide_eq_true hl] at hq
    exact z X.prog X.w X.xe _ ⟨.bl _, H, I, rfl, hq⟩
  · rw [decide_eq_false hl] at hq
    obtain ⟨us, r1, t1, _⟩ := I.list h1
    obtain ⟨zs, r2, t2, _⟩ := I.list h2
    have m1 := r1.length
    have m2 : 0 = zs.length := r2.length
    exact SeqAt.RcNeAt.lists_lengths (A := X.A) t1.isList t2.isList (by simp; omega) (by omega) X.prog X.w X.xe _ ⟨.bl true, H, I, rfl, hq⟩
end
theorem chgX {Fb Hb F H : Hp} {p : Addr} {o : HO} (gb : Gr0 Fb Hb F H) (hb : Hb p = none) (hf : F p = none) : Gr0 Fb Hb F (upd H p o) ∧ (upd H p o) p = some o ∧ ∀ a, a ≠ p → (upd H p o) a = H a :=
  chg (R := fun U => Gr0 Fb Hb F U ∧ U p = some o ∧ ∀ a, a ≠ p → U a = H a) gb hb hf fun _ a b c => ⟨a, b, c⟩
end Vc
namespace Vc
open PySem L2
def hid (a b : Addr) (H : Hp) : Hp := fun x => if x = a ∨ x = b then none else H x
end Vc
namespace L2
theorem a_din {ty td : TE} {σ : St} {H : Hp} {Q : VK} (h : ty σ H fun y H1 => td σ H1 fun x H2 => ∃ a o, x = .ref a ∧ DGet H2 a y o ∧ Q (.bl o.isSome) H2) : tDIn ty td σ H Q := h
end L2
namespace Vc
open PySem L2 Sf
def rOF (K : PySem.W.Frag) : Rep (Option Rat) := fun F v o => match o with
  | none => v = .non
  | some q => rFr K F v q
instance {K : PySem.W.Frag} : Mo (rOF K) := ⟨fun {F F' v x} le h => by
  cases x with
  | none => exact h
  | some q => exact Mo.mo (A := rFr K) le h⟩
theorem dinX {α : Type} {A : Rep α} {F H : Hp} {a : Addr} {kvs : List (Key × V)} {m : List (Str × α)} (x : Str) (rd : Rd H a (.dK kvs)) (dk : Dk A F kvs m) : ∃ o, DGet H a (V.str x) o ∧ o.isSome = (gtd m x).isSome := by
  refine ⟨valV kvs (Sum.inr x : Key), .inl ⟨kvs, Sum.inr x, rd, rfl, rfl⟩, ?_⟩
  rcases dk.val x with ⟨e1, e2⟩ | ⟨v, y, e1, e2, e3⟩
  · rw [e1, e2]; rfl
  · rw [e1, e2]; rfl
instance {K : PySem.W.Frag} : Et K rU 0 := ⟨fun {F H v w x} _ h g => by
  have h : v = V.u x := h
  have g : w = V.u x := g
  subst h; subst g
  cases x <;> exact ⟨rfl, rfl⟩⟩
end Vc
namespace L2
open PySem
def Ris (xs : Array Nat) : Prop := ∀ i j (hj : j < xs.size) (hi : i < j), xs[i]'(Nat.lt_trans hi hj) < xs[j]
theorem below_go (xs : Array Nat) (j : Nat) (hR : Ris xs) : ∀ (fuel lo hi : Nat), hi - lo ≤ fuel → lo ≤ hi → hi ≤ xs.size → (∀ i (h : i < xs.size), i < lo → xs[i] < j) → (∀ i (h : i < xs.size), hi ≤ i → j ≤ xs[i]) →
    SetTable.below.go xs j fuel lo hi ≤ xs.size ∧ (∀ i (h : i < xs.size), i < SetTable.below.go xs j fuel lo hi → xs[i] < j) ∧ (∀ i (h : i < xs.size), SetTable.below.go xs j fuel lo hi ≤ i → j ≤ xs[i]) := by
  intro fuel
  induction fuel with
  | zero => intro lo hi h1 h2 h3 h4 h5; unfold SetTable.below.go; exact ⟨by omega, h4, fun i h e => h5 i h (by omega)⟩
  | succ f ih =>
    intro lo hi h1 h2 h3 h4 h5
    unfold SetTable.below.go
    by_cases hl : lo < hi
    · rw [if_pos hl]
      dsimp only
      have hm : (lo + hi) / 2 < xs.size := by omega
      have eg : xs.getD ((lo + hi) / 2) j = xs[(lo + hi) / 2] := by rw [Array.getD_eq_getD_getElem?, Array.getElem?_eq_getElem hm]; rfl
      rw [eg]
      by_cases hx : xs[(lo + hi) / 2] < j
      · rw [if_pos hx]
        refine ih _ _ (by omega) (by omega) h3 (fun i h e => ?_) h5
        by_cases z : i = (lo + hi) / 2
        · subst z; exact hx
        · exact Nat.lt_trans (hR i _ hm (by omega)) hx
      · rw [if_neg hx]
        refine ih _ _ (by omega) (by omega) (by omega) h4 fun i h e => ?_
        by_cases z : i = (lo + hi) / 2
        · subst z; omega
        · have := hR ((lo + hi) / 2) i h (by omega); omega
    · rw [if_neg hl]; exact ⟨by omega, h4, fun i h e => h5 i h (by omega)⟩
theorem below_spec {xs : Array Nat} (hR : Ris xs) (j : Nat) : SetTable.below xs j ≤ xs.size ∧ (∀ i (h : i < xs.size), i < SetTable.below xs j → xs[i] < j) ∧ (∀ i (h : i < xs.size), SetTable.below xs j ≤ i → j ≤ xs[i]) :=
  below_go xs j hR _ _ _ (by omega) (by omega) (Nat.le_refl _) (fun i h e => by omega) (fun i h e => by omega)
theorem below_at {xs : Array Nat} (hR : Ris xs) {i : Nat} (h : i < xs.size) : SetTable.below xs (xs[i] + 1) = i + 1 := by
  obtain ⟨a, b, c⟩ := below_spec hR (xs[i] + 1)
  have h1 : ¬ SetTable.below xs (xs[i] + 1) ≤ i := fun z => by have := c i h z; omega
  by_cases z : i + 1 < SetTable.below xs (xs[i] + 1)
  · have h2 : i + 1 < xs.size := by omega
    have := b (i + 1) h2 z
    have := hR i (i + 1) h2 (by omega)
    omega
  · omega
theorem below_zero {xs : Array Nat} (hR : Ris xs) : SetTable.below xs 0 = 0 := by
  obtain ⟨a, b, c⟩ := below_spec hR 0
  by_cases z : 0 < SetTable.below xs 0
  · have := b 0 (by omega) z; omega
  · omega
theorem ris_insert {xs : Array Nat} (hR : Ris xs) {j : Nat} (hn : xs[SetTable.below xs j]? ≠ some j) : Ris (SetTable.insertAt xs (SetTable.below xs j) j) := by
  obtain ⟨a, b, c⟩ := below_spec hR j
  generalize SetTable.below xs j = p at *
  have hs : (SetTable.insertAt xs p j).size = xs.size + 1 := by unfold SetTable.insertAt; simp; omega
  have at' : ∀ i, (SetTable.insertAt xs p j)[i]? = if i < p then xs[i]? else if i = p then some j else xs[i - 1]? := by
    intro i
    unfold SetTable.insertAt
    have hx : ((xs.extract 0 p).push j).size = p + 1 := by simp; omega
    rw [Array.getElem?_append]
    rw [hx]
    by_cases h1 : i < p
    · rw [if_pos (by omega), if_pos h1, Array.getElem?_push_lt (by simp; omega)]
      simp [Array.getElem_extract]
    · rw [if_neg h1]
      by_cases h2 : i = p
      · rw [if_pos (by omega), if_pos h2]
        have : (xs.extract 0 p).size = i := by simp; omega
        rw [← this, Array.getElem?_push_size]
      · rw [if_neg (by omega), if_neg h2]
        rw [Array.getElem?_extract]
        have e : p + (i - (p + 1)) = i - 1 := by omega
        rw [e]
        by_cases h3 : i - (p + 1) < min xs.size xs.size - p
        · rw [if_pos h3]
        · rw [if_neg h3, Array.getElem?_eq_none (by omega)]
  have strict : ∀ i (h : i < xs.size), p ≤ i → j < xs[i] := by
    intro i h hp
    have h0 : p < xs.size := by omega
    have h1 := c p h0 (Nat.le_refl _)
    have h2 : xs[p] ≠ j := fun z => hn (by rw [Array.getElem?_eq_getElem h0, z])
    by_cases z : i = p
    · subst z; omega
    · have := hR p i h (by omega); omega
  intro i k hk hi
  have gi := at' i
  have gk := at' k
  rw [Array.getElem?_eq_getElem (by omega)] at gi
  rw [Array.getElem?_eq_getElem hk] at gk
  rw [hs] at hk
  by_cases k1 : k < p
  · rw [if_pos k1, Array.getElem?_eq_getElem (by omega)] at gk
    rw [if_pos (by omega), Array.getElem?_eq_getElem (by omega)] at gi
    rw [Option.some.inj gi, Option.some.inj gk]; exact hR i k (by omega) hi
  · rw [if_neg k1] at gk
    by_cases k2 : k = p
    · rw [if_pos k2] at gk
      rw [if_pos (by omega), Array.getElem?_eq_getElem (by omega)] at gi
      rw [Option.some.inj gi, Option.some.inj gk]; exact b i (by omega) (by omega)
    · rw [if_neg k2, Array.getElem?_eq_getElem (by omega)] at gk
      rw [Option.some.inj gk]
      by_cases i1 : i < p
      · rw [if_pos i1, Array.getElem?_eq_getElem (by omega)] at gi
        rw [Option.some.inj gi]; exact hR i (k - 1) (by omega) (by omega)
      · rw [if_neg i1] at gi
        by_cases i2 : i = p
        · rw [if_pos i2] at gi
          rw [Option.some.inj gi]; exact strict (k - 1) (by omega) (by omega)
        · rw [if_neg i2, Array.getElem?_eq_getElem (by omega)] at gi
          rw [Option.some.inj gi]; exact hR (i - 1) (k - 1) (by omega) (by omega)
theorem ris_list {l : List Nat} (h : l.Pairwise (· < ·)) : Ris l.toArray := by
  intro i j hj hi
  have := List.pairwise_iff_getElem.mp h i j (by simpa using Nat.lt_trans hi hj) (by simpa using hj) hi
  simpa using this
theorem ris_range (n : Nat) : Ris (Array.range n) := by
  intro i j hj hi
  simp only [Array.getElem_range]; exact hi
theorem ris_empty : Ris #[] := fun i j hj hi => absurd hj (by simp)
theorem probe_free {t : SetTable} {hf : Nat → Int} {h : Int} : ∀ (fuel : Nat) (p : SetTable.Probe), (∀ d, p.dummy = some d → t.place[SetTable.below t.place d]? ≠ some d) →
    ∀ j d, SetTable.probe.go t hf h fuel p = some (.empty j d) → t.place[SetTable.below t.place (d.getD j)]? ≠ some (d.getD j) := by
  intro fuel
  induction fuel with
  | zero => intro p _ j d e; unfold SetTable.probe.go at e; cases e
  | succ f ih =>
    intro p hp j d e
    unfold SetTable.probe.go at e
    have nl : (t.slot p.j = .empty ∨ t.slot p.j = .dummy) → t.place[SetTable.below t.place p.j]? ≠ some p.j := by
      intro z q
      unfold SetTable.slot at z
      dsimp only at z
      rw [if_pos (by rw [q]; exact beq_self_eq_true _)] at z
      rcases z with z | z <;> cases z
    have adv : ∀ q : SetTable.Probe, (t.advance q).dummy = q.dummy := fun q => by unfold SetTable.advance; split <;> rfl
    split at e
    · rename_i hs
      cases e
      cases q : p.dummy with
      | none => exact nl (.inl hs)
      | some d => exact hp d q
    · rename_i hs
      refine ih _ (fun d q => ?_) j d e
      rw [adv] at q
      cases q
      exact nl (.inr hs)
    · rename_i i hs
      split at e
      · cases e
      · refine ih _ (fun d q => hp d (by rw [adv] at q; exact q)) j d e
theorem free_slot {t : SetTable} {h : Int} {s : Nat} {b : Bool} (e : t.freeSlot h = some (s, b)) : t.place[SetTable.below t.place s]? ≠ some s := by
  unfold SetTable.freeSlot at e
  split at e
  · rename_i j d q
    cases e
    exact probe_free _ _ (fun d z => by cases z) j d q
  · cases e
theorem orStandIn_ris {t : SetTable} (hR : Ris t.place) (n : Nat) : Ris (t.orStandIn n).place ∧ (t.orStandIn n).led = t.led := by
  unfold SetTable.orStandIn
  split
  · exact ⟨hR, rfl⟩
  · exact ⟨ris_range _, rfl⟩
theorem layNew_ris {t : SetTable} (hR : Ris t.place) (es : Array (Int × Value)) (h : Int) (x : Value) : Ris (layNew t es h x).2.1.place ∧ (layNew t es h x).2.1.led = t.led := by
  unfold layNew
  split
  · rename_i s b e
    exact orStandIn_ris (t := (t.put s).1) (ris_insert hR (free_slot e)) _
  · exact ⟨ris_range _, rfl⟩
theorem relayAll_ris {t : SetTable} (hR : Ris t.place) (es : Array (Int × Value)) (n : Nat) : Ris (relayAll t es n).2.1.place ∧ (relayAll t es n).2.1.led = t.led := by
  unfold relayAll
  split
  · rename_i t' o e
    dsimp only
    split
    · unfold SetTable.relaid SetTable.laid at e
      cases q : SetTable.layClean (SetTable.sizeAbove n - 1) (es.map (·.1)) with
      | none => rw [q] at e; cases e
      | some ow =>
        rw [q] at e
        cases e
        refine ⟨ris_list ?_, rfl⟩
        rw [List.pairwise_map]
        refine List.Pairwise.filterMap (R := (· < ·)) _ (fun a a' hlt b hb b' hb' => ?_) List.pairwise_lt_range
        cases z1 : ow.getD a none with
        | none => rw [z1] at hb; cases hb
        | some y1 =>
          rw [z1] at hb; cases hb
          cases z2 : ow.getD a' none with
          | none => rw [z2] at hb'; cases hb'
          | some y2 => rw [z2] at hb'; cases hb'; exact hlt
    · exact ⟨ris_range _, rfl⟩
  · exact ⟨ris_range _, rfl⟩
theorem erase_perm {α : Type} : ∀ (l : List α) (i : Nat) (h : i < l.length), (l[i] :: l.eraseIdx i).Perm l
  | [], _, h => absurd h (by simp)
  | _ :: _, 0, _ => .refl _
  | x :: r, i + 1, h => (List.Perm.swap x _ _).trans (List.Perm.cons x (erase_perm r i (by simpa using h)))
theorem pick_go {α : Type} (nx : Nat → Nat) : ∀ (fuel k : Nat) (left : List α) (out : Array α), left.length ≤ fuel → (pickOrder.go nx fuel k left out).toList.Perm (out.toList ++ left) := by
  intro fuel
  induction fuel with
  | zero => intro k left out h; unfold pickOrder.go; cases left with
    | nil => simp
    | cons _ _ => simp at h
  | succ f ih =>
    intro k left out h
    unfold pickOrder.go
    cases left with
    | nil => simp
    | cons y r =>
      have hm : nx k % (y :: r).length < (y :: r).length := Nat.mod_lt _ (by simp)
      rw [List.getElem?_eq_getElem hm]
      dsimp only
      refine (ih _ _ _ (by rw [List.length_eraseIdx_of_lt hm]; simp at h ⊢; omega)).trans ?_
      rw [Array.toList_push, List.append_assoc]
      refine List.Perm.append_left _ ?_
      exact erase_perm _ _ hm
theorem pick_perm {α : Type} (nx : Nat → Nat) (xs : Array α) : (pickOrder nx xs).toList.Perm xs.toList := by
  unfold pickOrder
  simpa using pick_go nx xs.size 0 xs.toList #[] (by simp)
end L2
namespace L2
open PySem
section
variable {prog : Program} {w : World} {K : Type} [DecidableEq K]
noncomputable def kfo (knd : KeyKind prog w K) (v : Value) : Option K := by
  classical exact if h : ∃ k, knd.is k v = true then some h.choose else none
variable {knd : KeyKind prog w K}
theorem kfo_of {k : K} {v : Value} (h : knd.is k v = true) : kfo knd v = some k := by
  unfold kfo
  have ex : ∃ k, knd.is k v = true := ⟨k, h⟩
  rw [dif_pos ex]
  exact congrArg some (knd.inj v _ _ ex.choose_spec h)
def led0 (w : World) : Bool := !(w.params.followText "set-order")
def GS (knd : KeyKind prog w K) (o : Obj) (ks : List K) : Prop :=
  o.ExactSet ∧ ∃ es ep t, o.data = .set es ep t ∧ ElemsOf knd es.toList ∧ t.fits es.size = true ∧ Ris t.place ∧ t.led = led0 w ∧ (es.toList.filterMap fun e => kfo knd e.2).Perm ks
theorem elems_len : ∀ {es : List (Int × Value)}, ElemsOf knd es → (es.filterMap fun e => kfo knd e.2).length = es.length
  | [], _ => rfl
  | e :: r, h => by
    obtain ⟨⟨k, hk, _⟩, _⟩ := h.head
    rw [List.filterMap_cons, kfo_of hk]
    simp [elems_len h.tail]
theorem gs_size {o : Obj} {es : Array (Int × Value)} {ks : List K} (h : ElemsOf knd es.toList) (p : (es.toList.filterMap fun e => kfo knd e.2).Perm ks) : es.size = ks.length := by
  rw [← p.length_eq, elems_len h, Array.length_toList]
theorem mem_keys {es : List (Int × Value)} (h : ElemsOf knd es) (k : K) : (k ∈ es.filterMap fun e => kfo knd e.2) ↔ ∃ e ∈ es, knd.is k e.2 = true := by
  rw [List.mem_filterMap]
  constructor
  · rintro ⟨e, he, q⟩
    obtain ⟨⟨k', hk, _⟩, _⟩ := h e he
    rw [kfo_of hk] at q
    cases q
    exact ⟨e, he, hk⟩
  · rintro ⟨e, he, q⟩
    exact ⟨e, he, kfo_of q⟩
variable {A : Around} {E : Value → Shared → Prop} {s : Shared}
theorem gs_put {h : Heap} {a : Addr} {o : Obj} {es es' : Array (Int × Value)} {ep : Nat} {t t' : SetTable} (ho : h.get? a = some o) (hd : o.data = .set es ep t) :
    (h.update a (Obj.putSet es' t')).get? a = some { o with data := .set es' (ep + 1) t' } := by
  have := Heap.get?_update_self (Obj.putSet es' t') ho (by rw [putSet_of es' t' hd]; rfl)
  rw [putSet_of es' t' hd] at this; exact this
theorem gs_tail {g : Bool → Sem Unit} (hg : ∀ (b : Bool) (s₁ : Shared) (Q' : Unit → Shared → Prop), Q' () s₁ → wpAny (model prog w) A (g b) Q' E s₁)
    {a : Addr} {o : Obj} {es : Array (Int × Value)} {ep : Nat} {t : SetTable} (ho : s.heap.get? a = some o) (hex : o.ExactSet) (hd : o.data = .set es ep t)
    {es1 : Array (Int × Value)} {t2 : SetTable} {ks : List K} (hel : ElemsOf knd es1.toList) (hp : (es1.toList.filterMap fun e => kfo knd e.2).Perm ks)
    (hb : es1.size < scanBound) (hf : t2.fits es1.size = true) (hR : Ris t2.place) (hL : t2.led = led0 w) {wd : Bool} {R : Option Bool → Shared → Prop}
    (h : ∀ h' o', Heap.SameBut a s.heap h' → h'.get? a = some o' → GS knd o' ks → R (some true) { s with heap := h' }) :
    wpAny (model prog w) A (do
        storeSet a es1 t2
        if (!wd && t2.tooFull) = true then do
            g (relayAll t2 es1 (SetTable.grown es1.size)).2.2
            storeSet a (relayAll t2 es1 (SetTable.grown es1.size)).1 (relayAll t2 es1 (SetTable.grown es1.size)).2.1
            pure (some true)
          else pure (some true)) R E s := by
  refine wpAny_bind (wpAny_storeSet_of ho hd ?_ (fits_of_scanBound hb))
  have ho1 := gs_put (es' := es1) (t' := t2) ho hd
  have hs1 := Heap.SameBut.update s.heap a (Obj.putSet es1 t2)
  split
  · have q1 := relayAll_perm t2 es1 (SetTable.grown es1.size)
    have q2 := relayAll_fits t2 es1 (SetTable.grown es1.size)
    have q3 := relayAll_ris hR es1 (SetTable.grown es1.size)
    generalize relayAll t2 es1 (SetTable.grown es1.size) = Rl at q1 q2 q3 ⊢
    have hsz : Rl.1.size = es1.size := by rw [← Array.length_toList, q1.length_eq, Array.length_toList]
    refine wpAny_bind (hg _ _ _ ?_)
    refine wpAny_bind (wpAny_storeSet_of ho1 rfl ?_ (fits_of_scanBound (by rw [hsz]; exact hb)))
    have ho2 := gs_put (es' := Rl.1) (t' := Rl.2.1) ho1 rfl
    exact wpAny_pure (h _ _ (hs1.trans (Heap.SameBut.update _ a _)) ho2 ⟨hex, _, _, _, rfl, hel.perm q1, q2, q3.1, q3.2.trans hL, (q1.filterMap _).trans hp⟩)
  · exact wpAny_pure (h _ _ hs1 ho1 ⟨hex, _, _, _, rfl, hel, hf, hR, hL, hp⟩)
def addk (ks : List K) (k : K) : List K := if k ∈ ks then ks else ks ++ [k]
theorem gs_add {a : Addr} {o : Obj} {ks : List K} {k : K} {x : Value} {Q : Bool → Shared → Prop} (hkey : knd.is k x = true) (hsc : x.scannable = true) (ho : s.heap.get? a = some o) (hG : GS knd o ks)
    (hroom : ks.length + 1 < scanBound) (h : ∀ (b : Bool) h' o', Heap.SameBut a s.heap h' → h'.get? a = some o' → GS knd o' (addk ks k) → Q b { s with heap := h' }) :
    wpAny (model prog w) A (setAddHashed a x (knd.hash k)) Q E s := by
  obtain ⟨hex, es, ep, t, hd, hel, hf, hR, hL, hp⟩ := hG
  have hn := gs_size (o := o) hel hp
  have hmem := mem_keys hel k
  unfold setAddHashed setAddHashedIn
  refine wpAny_holding (wpAny_bind (wpAny_setState_of ho hd hf ?_))
  dsimp only
  rw [byScan_of hsc (by rw [hn]; omega) hel]
  simp only [↓reduceIte]
  unfold setAddByScan
  refine wpAny_bind (wpAny_bind (wpAny_rule (wpAny_bind (wpAny_setScan_of hkey ho hd hf hel ?_))))
  cases hr : List.findIdx? (fun e => knd.is k e.2) es.toList with
  | some j =>
    dsimp only
    obtain ⟨hj, hpj, _⟩ := List.findIdx?_eq_some_iff_getElem.mp hr
    have hk : k ∈ ks := hp.mem_iff.mp (hmem.mpr ⟨es.toList[j], List.getElem_mem hj, hpj⟩)
    refine wpAny_pure (wpAny_pure ?_)
    have := h false s.heap o (Heap.SameBut.refl a s.heap) ho ⟨hex, es, ep, t, hd, hel, hf, hR, hL, by unfold addk; rw [if_pos hk]; exact hp⟩
    have e : s = { s with heap := s.heap } := by cases s; rfl
    rw [e]; exact this
  | none =>
    dsimp only
    have hk : ¬ k ∈ ks := fun z => by
      obtain ⟨e, he, q⟩ := hmem.mp (hp.mem_iff.mpr z)
      have := List.findIdx?_eq_none_iff.mp hr e he
      rw [q] at this; cases this
    have hgw : ∀ (b : Bool) {s₁ : Shared} {Q' : Unit → Shared → Prop}, Q' () s₁ → wpAny (model prog w) A (match b with | true => rule "set.scan.the-table-gave-way" | false => pure ()) Q' E s₁ :=
      fun b s₁ Q' hq => by cases b <;> first | exact wpAny_pure hq | exact wpAny_rule hq
    have q1 := layNew_perm t es (knd.hash k) x
    have q2 := layNew_fits t es (knd.hash k) x
    have q3 := layNew_ris hR es (knd.hash k) x
    generalize layNew t es (knd.hash k) x = L at q1 q2 q3 ⊢
    obtain ⟨es1, t1, wd, gave⟩ := L
    dsimp only at q1 q2 q3 ⊢
    rw [Array.toList_push] at q1
    have hel1 : ElemsOf knd es1.toList := (hel.push hkey hsc).perm q1
    have hp1 : (es1.toList.filterMap fun e => kfo knd e.2).Perm (addk ks k) := by
      refine (q1.filterMap _).trans ?_
      rw [List.filterMap_append]
      unfold addk
      rw [if_neg hk]
      refine List.Perm.append hp ?_
      rw [List.filterMap_cons, kfo_of (show knd.is k ((knd.hash k, x) : Int × Value).2 = true from hkey)]
      exact .refl _
    have hb1 : es1.size < scanBound := by rw [← Array.length_toList, q1.length_eq, List.length_append, Array.length_toList, hn]; exact hroom
    refine wpAny_bind (hgw _ ?_)
    split
    · refine wpAny_bind ?_
      rw [hashByValue_scannable 8 hsc]
      refine wpAny_pure ?_
      refine gs_tail ?_ ho hex hd hel1 hp1 hb1 ?_ ?_ ?_ ?_
      · intro b s₁ Q' hq; cases b <;> first | exact wpAny_pure hq | exact wpAny_rule hq
      · split
        · exact q2
        · exact SetTable.fits_plain_off q2
      · split <;> exact q3.1
      · split <;> exact q3.2.trans hL
      · intro h' o' hsb ho' hG'; dsimp only; exact wpAny_pure (h true h' o' hsb ho' hG')
    · refine wpAny_bind (wpAny_pure ?_)
      simp only [↓reduceIte]
      refine gs_tail ?_ ho hex hd hel1 hp1 hb1 q2 q3.1 (q3.2.trans hL) ?_
      · intro b s₁ Q' hq; cases b <;> first | exact wpAny_pure hq | exact wpAny_rule hq
      · intro h' o' hsb ho' hG'; dsimp only; exact wpAny_pure (h true h' o' hsb ho' hG')
def once (ks : List K) : List K := ks.foldl addk []
theorem once_snoc (ks : List K) (k : K) : once (ks ++ [k]) = addk (once ks) k := by unfold once; rw [List.foldl_append]; rfl
theorem addk_len (ks : List K) (k : K) : (addk ks k).length ≤ ks.length + 1 := by unfold addk; split <;> simp
theorem once_len_rev : ∀ ks : List K, (ks.reverse.foldr (fun x a => addk a x) []).length ≤ ks.length := by
  intro ks
  rw [List.foldr_reverse]
  generalize hq : ([] : List K) = a0
  have : ∀ (l a : List K), (l.foldl addk a).length ≤ a.length + l.length := by
    intro l
    induction l with
    | nil => intro a; exact Nat.le_refl _
    | cons x r ih => intro a; have := ih (addk a x); have := addk_len a x; simp only [List.foldl_cons, List.length_cons]; omega
  have := this ks a0
  rw [← hq] at this ⊢
  simpa using this
theorem once_len (ks : List K) : (once ks).length ≤ ks.length := by
  have := once_len_rev ks
  rw [List.foldr_reverse] at this
  exact this
end
end L2
namespace L2
open PySem
theorem slot_setiter_next : Slot "set_iterator" "__next__" "set_iterator.__next__" :=
  .of (owner := "set_iterator") (n := "__next__") (by rw [typeLookup_type, builtinLookup_eq_fast]; kernel_rfl) (by decide +kernel) (by decide +kernel) (by decide +kernel)
    (by first | exact .inl (by decide +kernel) | exact .inr (by decide +kernel)) (by rw [isSubtype_type]; kernel_rfl)
theorem entry_setiter_next : entryFor table "set_iterator.__next__" = some Builtin.«set_iterator.__next__» := entryFor_of_fast (by kernel_rfl)
theorem args_setiter_next (a : Value) : argsOk "set_iterator.__next__" ⟨[a], []⟩ := by unfold argsOk; kernel_rfl
theorem slot_setiter_iter : Slot "set_iterator" "__iter__" "set_iterator.__iter__" :=
  .of (owner := "set_iterator") (n := "__iter__") (by rw [typeLookup_type, builtinLookup_eq_fast]; kernel_rfl) (by decide +kernel) (by decide +kernel) (by decide +kernel)
    (by first | exact .inl (by decide +kernel) | exact .inr (by decide +kernel)) (by rw [isSubtype_type]; kernel_rfl)
theorem entry_setiter_iter : entryFor table "set_iterator.__iter__" = some Builtin.«dict_keyiterator.__iter__» :=
  entryFor_alias (id' := "dict_keyiterator.__iter__") (by kernel_rfl) rfl (by decide +kernel) (by kernel_rfl)
theorem args_setiter_iter (a : Value) : argsOk "set_iterator.__iter__" ⟨[a], []⟩ := by unfold argsOk; kernel_rfl
theorem entry_set_iter : entryFor table "set.__iter__" = some Builtin.«frozenset.__iter__» :=
  entryFor_alias (id' := "frozenset.__iter__") (by kernel_rfl) rfl (by decide +kernel) (by kernel_rfl)
def sit (first : Value) (i a n ep : Nat) : Obj := { cls := .type "set_iterator", data := .fields #[first, .int i 0, .ref a, .int n 0, .int ep 0] }
section
variable {prog : Program} {w : World} {A : Around} {E : Value → Shared → Prop} {s : Shared}
theorem sit_self {first : Value} {I i a n ep : Nat} {Q : Value → Shared → Prop} (hI : s.heap.get? I = some (sit first i a n ep)) (h : Q (.ref I) s) : wpAny (model prog w) A (pyIter (.ref I)) Q E s := by
  have hT : s.TypeIs (.ref I) "set_iterator" := ⟨_, hI, rfl⟩
  refine wpAny_pyIter_slot hT slot_setiter_iter (wpAny_call_entry slot_setiter_iter hT entry_setiter_iter ?_ (args_setiter_iter _))
  show wpAny _ _ (ret (.ref I)) _ _ s
  exact wpAny_pure ⟨_, rfl, "set_iterator", _, hT, slot_setiter_next.lookup, h⟩
theorem sit_item {I a o es ep t n} {sl sl' i : Nat} {x : Value} {Q : Option Value → Shared → Prop} (hI : s.heap.get? I = some (sit (.int sl 0) i a n ep)) (ho : s.heap.get? a = some o) (hd : o.data = .set es ep t) (hf : t.fits es.size = true) (hn : es.size = n)
    (hx : ∀ (A' : Around) (E' : Value → Shared → Prop) (Q' : Option (Value × Nat) → Shared → Prop), Q' (some (x, sl')) s → wpAny (model prog w) A' (setNext a sl i ep) Q' E' s)
    (hQ : ∀ h', h'.get? I = some (sit (.int sl' 0) (i + 1) a n ep) → Heap.SameBut I s.heap h' → Q (some x) { s with heap := h' }) : wpAny (model prog w) A (pyNext (.ref I)) Q E s := by
  have hT : s.TypeIs (.ref I) "set_iterator" := ⟨_, hI, rfl⟩
  unfold pyNext
  refine wpAny_bind (wpAny_attempt (wpAny_callSpecial?_slot (name := Str.ofString "__next__") hT slot_setiter_next (wpAny_call_entry slot_setiter_next hT entry_setiter_next ?_ (args_setiter_next _))))
  show wpAny _ _ (fieldsOf (.ref I) >>= _) _ _ s
  refine wpAny_bind (wpAny_fieldsOf hI rfl ?_)
  show wpAny _ _ (setEntries a >>= _) _ _ s
  refine wpAny_bind (wpAny_setEntries_of ho hd hf ?_)
  rw [if_neg (by rw [hn]; simp)]
  show wpAny _ _ (setNext a (Int.toNat sl) (Int.toNat i) (Int.toNat ep) >>= _) _ _ s
  simp only [Int.toNat_natCast]
  refine wpAny_bind (hx _ _ _ ?_)
  dsimp only
  refine wpAny_bind (wpAny_setField hI rfl (by simp) ?_)
  have h1 := Heap.get?_update_self (Obj.mapFields (·.setIfInBounds 0 (rawInt sl'))) hI rfl
  refine wpAny_bind (wpAny_setField h1 rfl (by simp [sit, Obj.mapFields]) (wpAny_pure ⟨x, rfl, wpAny_pure (hQ _ ?_ ((Heap.SameBut.update ..).trans (Heap.SameBut.update ..)))⟩))
  have h2 := Heap.get?_update_self (Obj.mapFields (·.setIfInBounds 1 (rawInt ((i : Int) + 1)))) h1 rfl
  exact h2
theorem sit_end {I a o es ep t n} {sl i : Nat} {Q : Option Value → Shared → Prop} (hh : A.handled = none) (hI : s.heap.get? I = some (sit (.int sl 0) i a n ep)) (ho : s.heap.get? a = some o) (hd : o.data = .set es ep t) (hf : t.fits es.size = true) (hn : es.size = n)
    (hx : ∀ (A' : Around) (E' : Value → Shared → Prop) (Q' : Option (Value × Nat) → Shared → Prop), Q' none s → wpAny (model prog w) A' (setNext a sl i ep) Q' E' s)
    (hQ : ∀ h', Heap.ExtBut I s.heap h' → Q none { s with heap := h' }) : wpAny (model prog w) A (pyNext (.ref I)) Q E s := by
  have hT : s.TypeIs (.ref I) "set_iterator" := ⟨_, hI, rfl⟩
  unfold pyNext
  refine wpAny_bind (wpAny_attempt (wpAny_callSpecial?_slot (name := Str.ofString "__next__") hT slot_setiter_next (wpAny_call_entry slot_setiter_next hT entry_setiter_next ?_ (args_setiter_next _))))
  show wpAny _ _ (fieldsOf (.ref I) >>= _) _ _ s
  refine wpAny_bind (wpAny_fieldsOf hI rfl ?_)
  show wpAny _ _ (setEntries a >>= _) _ _ s
  refine wpAny_bind (wpAny_setEntries_of ho hd hf ?_)
  rw [if_neg (by rw [hn]; simp)]
  show wpAny _ _ (setNext a (Int.toNat sl) (Int.toNat i) (Int.toNat ep) >>= _) _ _ s
  simp only [Int.toNat_natCast]
  refine wpAny_bind (hx _ _ _ ?_)
  dsimp only
  refine wpAny_bind (wpAny_setField hI rfl (by simp) ?_)
  show wpAny _ _ (newExc (.type "StopIteration") [] >>= _) _ _ _
  refine wpAny_bind ?_
  simp only [newExc, newTuple]
  refine wpAny_bind (wpAny_newObj_type ?_ (by size_fits))
  refine wpAny_bind (m := firstArgMember _ _) (wpAny_of_eq (a := Value.none) (by first | rfl | (simp only [firstArgMember]; rfl)) ?_)
  refine wpAny_newObj_type ?_ (by size_fits)
  simp only [raiseNew]
  refine wpAny_bind (wpAny_handled ?_)
  rw [show A.in1.handled = none from hh]
  refine wpAny_bind (wpAny_pure (wpAny_throw ?_))
  refine wpAny_bind (wpAny_isInstance (T := "StopIteration") (b := true) ⟨_, Heap.get?_push_size _ rfl, rfl⟩ isSubtype_stop ?_)
  exact wpAny_pure (hQ _ (((Heap.SameBut.update ..).extBut.push _).push _))
theorem sit_itemD {I a o es ep t n tp pl pn} {i j : Nat} {x : Value} {Q : Option Value → Shared → Prop} {po : Obj} (hI : s.heap.get? I = some (sit (.ref tp) i a n ep)) (ho : s.heap.get? a = some o) (hd : o.data = .set es ep t) (hf : t.fits es.size = true) (hn : es.size = n)
    (hp : s.heap.get? tp = some po) (hpd : po.data = .seq pl pn) (hj : pl[i]? = some (.int j 0)) (hx : ∃ h, es[j]? = some (h, x))
    (hQ : ∀ h', h'.get? I = some (sit (.ref tp) (i + 1) a n ep) → Heap.SameBut I s.heap h' → Q (some x) { s with heap := h' }) : wpAny (model prog w) A (pyNext (.ref I)) Q E s := by
  have hT : s.TypeIs (.ref I) "set_iterator" := ⟨_, hI, rfl⟩
  obtain ⟨hv, hx⟩ := hx
  unfold pyNext
  refine wpAny_bind (wpAny_attempt (wpAny_callSpecial?_slot (name := Str.ofString "__next__") hT slot_setiter_next (wpAny_call_entry slot_setiter_next hT entry_setiter_next ?_ (args_setiter_next _))))
  show wpAny _ _ (fieldsOf (.ref I) >>= _) _ _ s
  refine wpAny_bind (wpAny_fieldsOf hI rfl ?_)
  show wpAny _ _ (setEntries a >>= _) _ _ s
  refine wpAny_bind (wpAny_setEntries_of ho hd hf ?_)
  rw [if_neg (by rw [hn]; simp)]
  show wpAny _ _ (seqItems? (.ref tp) >>= _) _ _ s
  refine wpAny_bind (wpAny_seqItems hp hpd ?_)
  dsimp only
  simp only [Int.toNat_natCast, hj]
  refine wpAny_bind ?_
  unfold setNextDrawn
  refine wpAny_bind (wpAny_setState_of ho hd hf ?_)
  simp only [Int.toNat_natCast, bne_self_eq_false, Bool.false_eq_true, if_false, hx]
  refine wpAny_pure ?_
  refine wpAny_bind (wpAny_setField hI rfl (by simp) (wpAny_pure ⟨x, rfl, wpAny_pure (hQ _ ?_ (Heap.SameBut.update ..))⟩))
  exact Heap.get?_update_self (Obj.mapFields (·.setIfInBounds 1 (rawInt ((i : Int) + 1)))) hI rfl
theorem sit_endD {I a o es ep t n tp pl pn} {i : Nat} {Q : Option Value → Shared → Prop} {po : Obj} (hh : A.handled = none) (hI : s.heap.get? I = some (sit (.ref tp) i a n ep)) (ho : s.heap.get? a = some o) (hd : o.data = .set es ep t) (hf : t.fits es.size = true) (hn : es.size = n)
    (hp : s.heap.get? tp = some po) (hpd : po.data = .seq pl pn) (hj : pl[i]? = none)
    (hQ : ∀ h', Heap.ExtBut I s.heap h' → Q none { s with heap := h' }) : wpAny (model prog w) A (pyNext (.ref I)) Q E s := by
  have hT : s.TypeIs (.ref I) "set_iterator" := ⟨_, hI, rfl⟩
  unfold pyNext
  refine wpAny_bind (wpAny_attempt (wpAny_callSpecial?_slot (name := Str.ofString "__next__") hT slot_setiter_next (wpAny_call_entry slot_setiter_next hT entry_setiter_next ?_ (args_setiter_next _))))
  show wpAny _ _ (fieldsOf (.ref I) >>= _) _ _ s
  refine wpAny_bind (wpAny_fieldsOf hI rfl ?_)
  show wpAny _ _ (setEntries a >>= _) _ _ s
  refine wpAny_bind (wpAny_setEntries_of ho hd hf ?_)
  rw [if_neg (by rw [hn]; simp)]
  show wpAny _ _ (seqItems? (.ref tp) >>= _) _ _ s
  refine wpAny_bind (wpAny_seqItems hp hpd ?_)
  dsimp only
  simp only [Int.toNat_natCast, hj]
  refine wpAny_bind (wpAny_setField hI rfl (by simp) ?_)
  have h1 := Heap.get?_update_self (Obj.mapFields (·.setIfInBounds 0 (rawInt 0))) hI rfl
  refine wpAny_bind (wpAny_setField h1 rfl (by simp [sit, Obj.mapFields]) ?_)
  show wpAny _ _ (newExc (.type "StopIteration") [] >>= _) _ _ _
  refine wpAny_bind ?_
  simp only [newExc, newTuple]
  refine wpAny_bind (wpAny_newObj_type ?_ (by size_fits))
  refine wpAny_bind (m := firstArgMember _ _) (wpAny_of_eq (a := Value.none) (by first | rfl | (simp only [firstArgMember]; rfl)) ?_)
  refine wpAny_newObj_type ?_ (by size_fits)
  simp only [raiseNew]
  refine wpAny_bind (wpAny_handled ?_)
  rw [show A.in1.handled = none from hh]
  refine wpAny_bind (wpAny_pure (wpAny_throw ?_))
  refine wpAny_bind (wpAny_isInstance (T := "StopIteration") (b := true) ⟨_, Heap.get?_push_size _ rfl, rfl⟩ isSubtype_stop ?_)
  exact wpAny_pure (hQ _ ((((Heap.SameBut.update ..).trans (Heap.SameBut.update ..)).extBut.push _).push _))
end
end L2
namespace L2
open PySem
section
variable {prog : Program} {w : World} {A : Around} {E : Value → Shared → Prop} {s : Shared}
variable {a ep : Nat} {o : Obj} {es : Array (Int × Value)} {t : SetTable}
theorem byText_is {Q : Bool → Shared → Prop} (h : Q (w.params.followText "set-order") s) : wpAny (model prog w) A setsByText Q E s := by
  unfold setsByText
  exact wpAny_bind (wpAny_askSetting (wpAny_pure h))
theorem next_text {sl i : Nat} {Q : Option (Value × Nat) → Shared → Prop} (ho : s.heap.get? a = some o) (hd : o.data = .set es ep t) (hf : t.fits es.size = true) (hB : w.params.followText "set-order" = true)
    (h : Q (((pickOrder (w.params.setOrder a ep) es)[i]?).map fun e => (e.2, sl)) s) : wpAny (model prog w) A (setNext a sl i ep) Q E s := by
  unfold setNext
  refine wpAny_bind (wpAny_setState_of ho hd hf ?_)
  refine wpAny_bind (byText_is ?_)
  rw [hB]
  simp only [bne_self_eq_false, Bool.false_eq_true, if_false, if_true]
  refine wpAny_bind ?_
  unfold setWalk
  refine wpAny_bind (wpAny_setState_of ho hd hf ?_)
  refine wpAny_bind (byText_is ?_)
  rw [hB]
  simp only [if_true]
  refine wpAny_bind (wpAny_askSetting (wpAny_pure ?_))
  exact wpAny_pure h
theorem next_led {sl i : Nat} {Q : Option (Value × Nat) → Shared → Prop} (ho : s.heap.get? a = some o) (hd : o.data = .set es ep t) (hf : t.fits es.size = true) (hB : w.params.followText "set-order" = false) (hL : t.led = true) (hD : (!t.plain && decide (es.size > 1)) = false)
    (h : Q (match es[SetTable.below t.place sl]?, t.place[SetTable.below t.place sl]? with | some (_, x), some j => some (x, j + 1) | _, _ => none) s) : wpAny (model prog w) A (setNext a sl i ep) Q E s := by
  unfold setNext
  refine wpAny_bind (wpAny_setState_of ho hd hf ?_)
  refine wpAny_bind (byText_is ?_)
  rw [hB]
  simp only [Bool.false_eq_true, if_false]
  show wpAny _ _ (if (!t.plain && decide (es.size > 1)) = true then _ else _) _ _ _
  rw [hD]
  simp only [Bool.false_eq_true, if_false]
  refine wpAny_bind ?_
  show wpAny _ _ (if (!t.led && !es.isEmpty) = true then _ else _) _ _ _
  rw [hL]
  simp only [Bool.not_true, Bool.false_and, Bool.false_eq_true, if_false]
  exact wpAny_pure (wpAny_pure h)
theorem walk_plain (hh : A.handled = none) (I : Addr) (hne : a ≠ I) (hd : o.data = .set es ep t) (hf : t.fits es.size = true) (vals : Array Value) (hvs : vals.size = es.size) (sl : Nat → Nat)
    (hi : ∀ (s : Shared) (A' : Around) (E' : Value → Shared → Prop) (Q' : Option (Value × Nat) → Shared → Prop) (i : Nat) (x : Value), vals[i]? = some x → s.heap.get? a = some o → Q' (some (x, sl (i + 1))) s → wpAny (model prog w) A' (setNext a (sl i) i ep) Q' E' s)
    (he : ∀ (s : Shared) (A' : Around) (E' : Value → Shared → Prop) (Q' : Option (Value × Nat) → Shared → Prop), s.heap.get? a = some o → Q' none s → wpAny (model prog w) A' (setNext a (sl es.size) es.size ep) Q' E' s) :
    Walks prog w A I [I, a] [I] es.size (fun i v => vals[i]? = some v) (fun i h => h.get? I = some (sit (.int (sl i) 0) i a es.size ep) ∧ h.get? a = some o) where
  sub := fun b hb => by simp at hb; simp [hb]
  frame := fun _ _ _ st hk => ⟨hk I (by simp) _ st.1, hk a (by simp) _ st.2⟩
  item := fun i s Q E hlt st hQ => by
    have hx : vals[i]? = some vals[i] := Array.getElem?_eq_getElem (by omega)
    refine sit_item (n := es.size) st.1 st.2 hd hf rfl (fun A' E' Q' q => hi s A' E' Q' i _ hx st.2 q) fun h' hI' hs' => ?_
    exact hQ _ h' s.toks hx ⟨hI', hs'.extBut a _ hne st.2⟩ fun b o hb e => hs'.extBut b o (fun h => hb (by simp [h])) e
  done := fun s Q E st hQ => sit_end hh st.1 st.2 hd hf rfl (fun A' E' Q' q => he s A' E' Q' st.2 q) fun h' he' => hQ h' s.toks fun b o hb e => he' b o (fun h => hb (by simp [h])) e
  self := fun _ _ _ _ st hQ => sit_self st.1 hQ
theorem walk_drawn (hh : A.handled = none) (I tp : Addr) (hne : a ≠ I) (hnt : tp ≠ I) (hd : o.data = .set es ep t) (hf : t.fits es.size = true) (vals : Array Value) (hvs : vals.size = es.size) (js : List Nat) (hj : js.length = es.size) (hv : ∀ (i j : Nat), js[i]? = some j → ∃ h x, vals[i]? = some x ∧ es[j]? = some (h, x)) {po : Obj} {pn : Nat} (hpd : po.data = .seq (js.map fun j : Nat => rawInt j).toArray pn) :
    Walks prog w A I [I, a, tp] [I] es.size (fun i v => vals[i]? = some v) (fun i h => h.get? I = some (sit (.ref tp) i a es.size ep) ∧ h.get? a = some o ∧ h.get? tp = some po) where
  sub := fun b hb => by simp at hb; simp [hb]
  frame := fun _ _ _ st hk => ⟨hk I (by simp) _ st.1, hk a (by simp) _ st.2.1, hk tp (by simp) _ st.2.2⟩
  item := fun i s Q E hlt st hQ => by
    have e1 : js[i]? = some js[i] := List.getElem?_eq_getElem (by omega)
    obtain ⟨h, x, hx, hex⟩ := hv i _ e1
    refine sit_itemD (n := es.size) (j := js[i]) st.1 st.2.1 hd hf rfl st.2.2 hpd (by rw [List.getElem?_toArray, List.getElem?_map, e1]; rfl) ⟨h, hex⟩ fun h' hI' hs' => ?_
    exact hQ _ h' s.toks hx ⟨hI', hs'.extBut a _ hne st.2.1, hs'.extBut tp _ hnt st.2.2⟩ fun b o hb e => hs'.extBut b o (fun h => hb (by simp [h])) e
  done := fun s Q E st hQ => sit_endD hh st.1 st.2.1 hd hf rfl st.2.2 hpd (by rw [List.getElem?_toArray, List.getElem?_map, List.getElem?_eq_none (by omega)]; rfl) fun h' he' => hQ h' s.toks fun b o hb e => he' b o (fun h => hb (by simp [h])) e
  self := fun _ _ _ _ st hQ => sit_self st.1 hQ
theorem draw_perm {α : Type} : ∀ (n : Nat) (xs : List α) (s : Shared) (Q : List α → Shared → Prop), xs.length = n → (∀ d' ys, ys.Perm xs → Q ys { s with drawn := d' }) → wpAny (model prog w) A (drawOrder n xs) Q E s := by
  intro n
  induction n with
  | zero => intro xs s Q hl h; unfold drawOrder; cases xs with
    | nil => exact wpAny_pure (h s.drawn [] (.refl _))
    | cons _ _ => simp at hl
  | succ n ih =>
    intro xs s Q hl h
    cases xs with
    | nil => simp at hl
    | cons x r =>
      unfold drawOrder
      refine wpAny_bind ?_
      refine fun Γ p hΓ => ⟨by simp, ?_⟩
      have hm : (model prog w).w.draws .order (s.drawn.get .order) % (x :: r).length < (x :: r).length := Nat.mod_lt _ (by simp)
      show wpAny (model prog w) A _ Q E { s with drawn := s.drawn.bump .order }
      rw [List.getElem?_eq_getElem hm]
      dsimp only
      refine wpAny_bind (ih _ _ _ (by rw [List.length_eraseIdx_of_lt hm]; simp at hl ⊢; omega) fun d' ys hp => ?_)
      exact wpAny_pure (h d' _ ((hp.cons _).trans (erase_perm _ _ hm)))
theorem gs_iter {K : Type} [DecidableEq K] {knd : KeyKind prog w K} {ks : List K} (hh : A.handled = none) (ho : s.heap.get? a = some o) (hG : GS knd o ks) (hsz : ks.length ≤ sizeLine) {Q : Value → Shared → Prop}
    (h : ∀ (h1 : Heap) (d1 : Drawn) (I : Addr) (vals : Array Value) (fp : List Addr) (St : Nat → Heap → Prop), (∀ b o, s.heap.get? b = some o → h1.get? b = some o) → (∀ b ∈ fp, b = a ∨ s.heap.objs.size ≤ b ∧ b < h1.objs.size) → s.heap.objs.size ≤ I →
      (∀ v ∈ vals.toList, ∃ k, knd.is k v = true) → (vals.toList.filterMap (kfo knd)).Perm ks → Walks prog w A I fp [I] vals.size (fun i v => vals[i]? = some v) St → St 0 h1 → Q (.ref I) { s with heap := h1, drawn := d1 }) :
    wpAny (model prog w) A (pyIter (.ref a)) Q E s := by
  obtain ⟨hex, es, ep, t, hd, hel, hf, hR, hL, hp⟩ := hG
  have hT : s.TypeIs (.ref a) "set" := ⟨o, ho, hex.1⟩
  have ha : a < s.heap.objs.size := Heap.lt_size ho
  have keyz : ∀ vals : Array Value, vals.toList.Perm (es.toList.map (·.2)) → (∀ v ∈ vals.toList, ∃ k, knd.is k v = true) ∧ (vals.toList.filterMap (kfo knd)).Perm ks := by
    intro vals q
    refine ⟨fun v hv => ?_, (q.filterMap _).trans ?_⟩
    · obtain ⟨e, he, rfl⟩ := List.mem_map.mp (q.mem_iff.mp hv)
      obtain ⟨⟨k, hk, _⟩, _⟩ := hel e he
      exact ⟨k, hk⟩
    · rw [List.filterMap_map]; exact hp
  have hfz : t.place.size = es.size := by unfold SetTable.fits at hf; simp only [Bool.and_eq_true, beq_iff_eq] at hf; exact hf.1
  refine wpAny_pyIter_slot hT F.slot_set_iter (wpAny_call_entry F.slot_set_iter hT entry_set_iter ?_ (F.args_set_iter_1 _))
  show wpAny _ _ (Builtin.Frozenset.sizeOf a >>= _) _ _ s
  refine wpAny_bind ?_
  unfold Builtin.Frozenset.sizeOf
  refine wpAny_bind (wpAny_setEntries_of ho hd hf (wpAny_pure ?_))
  refine wpAny_bind ?_
  unfold setDrawn
  refine wpAny_bind (wpAny_setState_of ho hd hf ?_)
  refine wpAny_bind (byText_is ?_)
  show wpAny _ _ (pure (!(w.params.followText "set-order") && (!t.plain && decide (es.size > 1)))) _ _ _
  refine wpAny_pure ?_
  cases hB : w.params.followText "set-order" with
  | true =>
    simp only [Bool.not_true, Bool.false_and, Bool.false_eq_true, if_false]
    refine wpAny_bind (wpAny_pure ?_)
    refine wpAny_bind (wpAny_setEpoch_of ho hd hf ?_)
    refine wpAny_bind (wpAny_newObj_type (wpAny_pure ⟨_, rfl, "set_iterator", _, ⟨_, Heap.get?_push_size _ rfl, rfl⟩, slot_setiter_next.lookup, ?_⟩))
    have hq : ((pickOrder (w.params.setOrder a ep) es).map (·.2)).toList.Perm (es.toList.map (·.2)) := by rw [Array.toList_map]; exact (pick_perm _ es).map _
    have hz : ((pickOrder (w.params.setOrder a ep) es).map (·.2)).size = es.size := by rw [← Array.length_toList, hq.length_eq, List.length_map, Array.length_toList]
    obtain ⟨k1, k2⟩ := keyz _ hq
    have W := walk_plain (prog := prog) (w := w) (A := A) (a := a) (o := o) (ep := ep) (t := t) hh s.heap.objs.size (Nat.ne_of_lt ha) hd hf _ hz (fun _ => 0) (fun s A' E' Q' i x hx ho' q => next_text ho' hd hf hB (by rw [Array.getElem?_map] at hx; cases z : (pickOrder (w.params.setOrder a ep) es)[i]? with | none => rw [z] at hx; cases hx | some y => rw [z] at hx; cases hx; exact q)) (fun s A' E' Q' ho' q => next_text ho' hd hf hB (by rw [Array.getElem?_eq_none (by rw [Array.size_map] at hz; omega)]; exact q))
    rw [← hz] at W
    refine h _ s.drawn _ _ _ _ (fun b o e => Heap.get?_push_of_some _ e) (fun b hb => ?_) (Nat.le_refl _) k1 k2 W ⟨by rw [hz]; exact Heap.get?_push_size _ rfl, Heap.get?_push_of_some _ ho⟩
    rcases List.mem_cons.mp hb with rfl | hb
    · exact .inr ⟨Nat.le_refl _, by rw [Heap.size_push]; exact Nat.lt_succ_self _⟩
    · exact .inl (by simpa using hb)
  | false =>
    simp only [Bool.not_false, Bool.true_and]
    cases hD : (!t.plain && decide (es.size > 1)) with
    | false =>
      simp only [Bool.false_eq_true, if_false]
      refine wpAny_bind (wpAny_pure ?_)
      refine wpAny_bind (wpAny_setEpoch_of ho hd hf ?_)
      refine wpAny_bind (wpAny_newObj_type (wpAny_pure ⟨_, rfl, "set_iterator", _, ⟨_, Heap.get?_push_size _ rfl, rfl⟩, slot_setiter_next.lookup, ?_⟩))
      have hq : (es.map (·.2)).toList.Perm (es.toList.map (·.2)) := by rw [Array.toList_map]
      have hz : (es.map (·.2)).size = es.size := by rw [Array.size_map]
      obtain ⟨k1, k2⟩ := keyz _ hq
      have hL' : t.led = true := by rw [hL]; unfold led0; rw [hB]; rfl
      have hb0 : ∀ i, i ≤ es.size → SetTable.below t.place (if i = 0 then 0 else t.place.getD (i - 1) 0 + 1) = i := by
        intro i hi
        by_cases z : i = 0
        · rw [if_pos z, z]; exact below_zero hR
        · rw [if_neg z]
          have hlt : i - 1 < t.place.size := by omega
          have := below_at hR hlt
          rw [Array.getD_eq_getD_getElem?, Array.getElem?_eq_getElem hlt]
          show SetTable.below t.place (t.place[i - 1] + 1) = i
          rw [this]; omega
      have W := walk_plain (prog := prog) (w := w) (A := A) (a := a) (o := o) (ep := ep) (t := t) hh s.heap.objs.size (Nat.ne_of_lt ha) hd hf _ hz (fun i => if i = 0 then 0 else t.place.getD (i - 1) 0 + 1) (fun s A' E' Q' i x hx ho' q => next_led ho' hd hf hB hL' hD (by
            have hi : i < es.size := by have := (Array.getElem?_eq_some_iff.mp hx).1; rw [hz] at this; exact this
            rw [hb0 i (Nat.le_of_lt hi)]
            rw [Array.getElem?_map] at hx
            rw [Array.getElem?_eq_getElem hi] at hx ⊢
            rw [Array.getElem?_eq_getElem (by omega : i < t.place.size)]
            cases hx
            have e2 : (if i + 1 = 0 then 0 else t.place.getD (i + 1 - 1) 0 + 1) = t.place[i]'(by omega) + 1 := by
              rw [if_neg (by omega), Nat.add_sub_cancel, Array.getD_eq_getD_getElem?, Array.getElem?_eq_getElem (by omega)]; rfl
            rw [e2] at q
            exact q)) (fun s A' E' Q' ho' q => next_led ho' hd hf hB hL' hD (by
            rw [hb0 es.size (Nat.le_refl _), Array.getElem?_eq_none (Nat.le_refl _)]; exact q))
      rw [← hz] at W
      refine h _ s.drawn _ _ _ _ (fun b o e => Heap.get?_push_of_some _ e) (fun b hb => ?_) (Nat.le_refl _) k1 k2 W ⟨by rw [hz]; exact Heap.get?_push_size _ rfl, Heap.get?_push_of_some _ ho⟩
      rcases List.mem_cons.mp hb with rfl | hb
      · exact .inr ⟨Nat.le_refl _, by rw [Heap.size_push]; exact Nat.lt_succ_self _⟩
      · exact .inl (by simpa using hb)
    | true =>
      simp only [if_true]
      refine wpAny_bind (draw_perm es.size _ s _ List.length_range fun d1 js hjs => ?_)
      have hjl : js.length = es.size := by rw [hjs.length_eq, List.length_range]
      have hjb : ∀ j ∈ js, j < es.size := fun j hj => List.mem_range.mp (hjs.mem_iff.mp hj)
      simp only [newTuple]
      refine wpAny_bind (wpAny_newObj_type ?_ (by show (List.map _ js).toArray.size ≤ sizeLine; rw [List.size_toArray, List.length_map, hjl, gs_size (o := o) hel hp]; exact hsz))
      have ho1 : (s.heap.push { cls := .type "tuple", data := .seq (js.map fun j : Nat => rawInt j).toArray }).get? a = some o := Heap.get?_push_of_some _ ho
      refine wpAny_bind (wpAny_setEpoch_of (s := { s with heap := s.heap.push { cls := .type "tuple", data := .seq (js.map fun j : Nat => rawInt j).toArray }, drawn := d1 }) ho1 hd hf ?_)
      refine wpAny_bind (wpAny_newObj_type (wpAny_pure ⟨_, rfl, "set_iterator", _, ⟨_, Heap.get?_push_size _ rfl, rfl⟩, slot_setiter_next.lookup, ?_⟩))
      have emap : ∀ (l : List Nat), (∀ j ∈ l, j < es.size) → (l.filterMap fun j => es[j]?.map (·.2)).length = l.length := by
        intro l
        induction l with
        | nil => intro _; rfl
        | cons j r ih =>
          intro hl
          rw [List.filterMap_cons, Array.getElem?_eq_getElem (hl j List.mem_cons_self)]
          simp [ih fun i hi => hl i (List.mem_cons_of_mem _ hi)]
      have eat : ∀ (l : List Nat), (∀ j ∈ l, j < es.size) → ∀ (i j : Nat), l[i]? = some j → (l.filterMap fun j => es[j]?.map (·.2))[i]? = es[j]?.map (·.2) := by
        intro l
        induction l with
        | nil => intro _ i j e; simp at e
        | cons j r ih =>
          intro hl i k e
          have hj := hl j List.mem_cons_self
          rw [List.filterMap_cons, Array.getElem?_eq_getElem hj]
          cases i with
          | zero => simp at e; subst e; rw [Array.getElem?_eq_getElem hj]; rfl
          | succ i => simpa using ih (fun i hi => hl i (List.mem_cons_of_mem _ hi)) i k (by simpa using e)
      have hq : (js.filterMap fun j => es[j]?.map (·.2)).toArray.toList.Perm (es.toList.map (·.2)) := by
        refine (hjs.filterMap _).trans ?_
        have : ((List.range es.size).filterMap fun j => es[j]?.map (·.2)) = es.toList.map (·.2) := by
          refine List.ext_getElem? fun i => ?_
          by_cases hi : i < es.size
          · rw [eat (List.range es.size) (fun j hj => List.mem_range.mp hj) i i (by rw [List.getElem?_range hi]), List.getElem?_map, Array.getElem?_toList]
          · rw [List.getElem?_eq_none (by rw [emap _ fun j hj => List.mem_range.mp hj, List.length_range]; omega), List.getElem?_eq_none (by rw [List.length_map, Array.length_toList]; omega)]
        rw [this]
      have hz : (js.filterMap fun j => es[j]?.map (·.2)).toArray.size = es.size := by rw [List.size_toArray, emap js hjb, hjl]
      obtain ⟨k1, k2⟩ := keyz _ hq
      have hsp : (s.heap.push { cls := .type "tuple", data := .seq (js.map fun j : Nat => rawInt j).toArray }).objs.size = s.heap.objs.size + 1 := Heap.size_push _ _
      have W := walk_drawn (prog := prog) (w := w) (A := A) (a := a) (o := o) (ep := ep) (t := t) hh (s.heap.objs.size + 1) s.heap.objs.size (Nat.ne_of_lt (Nat.lt_succ_of_lt ha)) (Nat.ne_of_lt (Nat.lt_succ_self _)) hd hf _ hz js hjl (fun i j e => by
          have hj := hjb j (List.mem_of_getElem? e)
          refine ⟨es[j].1, es[j].2, ?_, Array.getElem?_eq_getElem hj⟩
          rw [List.getElem?_toArray, eat js hjb i j e, Array.getElem?_eq_getElem hj]; rfl) (po := { cls := .type "tuple", data := .seq (js.map fun j : Nat => rawInt j).toArray }) (pn := 0) rfl
      rw [← hz] at W
      rw [hsp]
      refine h _ d1 (s.heap.objs.size + 1) _ _ _ (fun b o e => Heap.get?_push_of_some _ (Heap.get?_push_of_some _ e)) (fun b hb => ?_) (Nat.le_succ _) k1 k2 W ⟨?_, Heap.get?_push_of_some _ ho1, Heap.get?_push_of_some _ (Heap.get?_push_size _ rfl)⟩
      · rw [Heap.size_push, hsp]
        simp only [List.mem_cons, List.not_mem_nil, or_false] at hb
        rcases hb with rfl | rfl | rfl
        · exact .inr ⟨Nat.le_succ _, Nat.lt_succ_self _⟩
        · exact .inl rfl
        · exact .inr ⟨Nat.le_refl _, Nat.lt_succ_of_lt (Nat.lt_succ_self _)⟩
      · rw [← hsp, hz]; exact Heap.get?_push_size _ rfl
theorem gs_hint (ho : s.heap.get? a = some o) (hex : o.ExactSet) {Q : Bool → Shared → Prop} (h : Q false s) : wpAny (model prog w) A (Builtin.List.listLengthHint (.ref a)) Q E s := by
  have hT : s.TypeIs (.ref a) "set" := ⟨o, ho, hex.1⟩
  unfold Builtin.List.listLengthHint
  refine wpAny_bind (wpAny_specialOf hT F.slot_set_len.lookup ?_)
  (generalize hid : ("set.__len__" : String) = id0; (fail_if_success (clear hid id0)); wp_delta; rw [show splitId id0 = some ("set", "__len__") from by subst hid; decide +kernel]; subst hid)
  refine wpAny_bind (wpAny_isInstance (b := true) hT (by rw [isSubtype_type]; kernel_rfl) ?_)
  refine wpAny_ite_split (fun z => absurd z (by decide)) (fun _ => ?_)
  refine wpAny_ite_split (fun _ => ?_) (fun z => absurd (by decide +kernel) z)
  exact wpAny_bind (wpAny_typeOf hT (wpAny_pure h))
theorem gs_collect {K : Type} [DecidableEq K] {knd : KeyKind prog w K} {ks : List K} (hh : A.handled = none) (ho : s.heap.get? a = some o) (hG : GS knd o ks) (hsz : ks.length ≤ sizeLine) {Q : List Value → Shared → Prop}
    (h : ∀ (h1 : Heap) (tk : Nat) (d1 : Drawn) (vs : List Value), (∀ b o, s.heap.get? b = some o → h1.get? b = some o) → (∀ v ∈ vs, ∃ k, knd.is k v = true) → (vs.filterMap (kfo knd)).Perm ks → Q vs { s with heap := h1, toks := tk, drawn := d1 }) :
    wpAny (model prog w) A (collect (.ref a)) Q E s := by
  have ha : a < s.heap.objs.size := Heap.lt_size ho
  have hex := hG.1
  unfold collect
  refine wpAny_bind (wpAny_runValue (codeAny_builtin F.entry_proto_collect ?_))
  rw [Around.under_plainId F.plain_proto_collect _]
  show wpAny _ A.in1 (newList [] >>= fun l => again (.builtin "list.__iadd__" ⟨[l, .ref a], []⟩)) _ _ s
  refine wpAny_bind (wpAny_newObj_type ?_)
  refine wpAny_pure ⟨plainId_quiet F.plain_list_iadd _, codeAny_builtin F.entry_list_iadd ?_⟩
  rw [Around.under_plainId F.plain_list_iadd _]
  show wpAny _ A.in1 (Builtin.List.listExtendWith (.ref s.heap.objs.size) (.ref a) (.ref s.heap.objs.size)) _ _ _
  have hS₁ : (s.heap.push { cls := .type "list", data := .seq ([] : List Value).toArray }).get? s.heap.objs.size = some { cls := .type "list", data := .seq ([] : List Value).toArray } := Heap.get?_push_size _ rfl
  have ho1 : (s.heap.push { cls := .type "list", data := .seq ([] : List Value).toArray }).get? a = some o := Heap.get?_push_of_some _ ho
  have h1 : Builtin.List.listSameRef (.ref s.heap.objs.size) (.ref a) = false := by simp [Builtin.List.listSameRef, Nat.ne_of_gt ha]
  unfold Builtin.List.listExtendWith
  refine wpAny_bind (wpAny_typeOf (T := "set") ⟨o, ho1, hex.1⟩ ?_)
  rw [if_neg (by rw [h1]; decide)]
  refine wpAny_bind (gs_iter (A := A.in1) (s := { s with heap := s.heap.push { cls := .type "list", data := .seq ([] : List Value).toArray } }) hh ho1 hG hsz fun g d1 I vals fp St hk hfp hI v1 v2 W st => ?_)
  have hn : vals.size ≤ sizeLine := by
    have : (vals.toList.filterMap (kfo knd)).length = vals.toList.length := by
      generalize vals.toList = l at v1
      induction l with
      | nil => rfl
      | cons v r ih =>
        obtain ⟨k, hk⟩ := v1 v List.mem_cons_self
        rw [List.filterMap_cons, kfo_of hk]
        simp [ih fun u hu => v1 u (List.mem_cons_of_mem _ hu)]
    have e2 := Array.length_toList (xs := vals)
    rw [← e2, ← this, v2.length_eq]; exact hsz
  have hSf : s.heap.objs.size ∉ fp := fun hm => by
    rcases hfp _ hm with e | ⟨e, _⟩
    · exact absurd e (Nat.ne_of_gt ha)
    · have e : (s.heap.push { cls := .type "list", data := .seq ([] : List Value).toArray }).objs.size ≤ s.heap.objs.size := e
      rw [Heap.size_push] at e; omega
  have hSI : s.heap.objs.size ≠ I := fun e => by
    have z : (s.heap.push { cls := .type "list", data := .seq ([] : List Value).toArray }).objs.size ≤ I := hI
    rw [Heap.size_push, ← e] at z; exact absurd z (Nat.not_succ_le_self _)
  refine wpAny_bind (wpAny_holding (gs_hint (hk _ _ ho1) hex ?_))
  refine wpAny_ite_split (fun _ => ?_) (fun z => absurd z (by decide))
  refine wpAny_bind (wpAny_rule ?_)
  refine wpAny_bind ?_
  have hS₂ := hk _ _ hS₁
  show wpAny _ A.in1 (updateSeq s.heap.objs.size (·.push .none) >>= fun _ => updateSeq s.heap.objs.size (·.pop)) _ _ _
  refine wpAny_bind (wpAny_updateSeq hS₂ rfl ?_)
  have hS₃ := Heap.get?_update_self (Obj.mapSeq (·.push Value.none)) hS₂ rfl
  refine wpAny_updateSeq (hz := by seq_fits) hS₃ rfl ?_
  have hS₄ := Heap.get?_update_self (Obj.mapSeq (·.pop)) hS₃ rfl
  have stay : ∀ b o, b ≠ s.heap.objs.size → g.get? b = some o → ((g.update s.heap.objs.size (Obj.mapSeq (·.push Value.none))).update s.heap.objs.size (Obj.mapSeq (·.pop))).get? b = some o := fun b o hb e =>
    (Heap.get?_update_other _ _ (Ne.symm hb)).trans ((Heap.get?_update_other _ _ (Ne.symm hb)).trans e)
  refine wpAny_pure ⟨plainId_quiet F.plain_extend_loop _, codeAny_extend_loopS W.toS hn s.heap.objs.size hSf _ vals.size 0 _ #[] _ rfl (Nat.zero_le _) (W.frame 0 _ _ st fun b hb o e => stay b o (fun z => hSf (z ▸ hb)) e) hS₄ (ItemsOf.nil _) fun s' acc' c' hm hS' hacc => ?_⟩
  show wpAny _ A (load s.heap.objs.size >>= _) _ _ s'
  refine wpAny_bind (wpAny_load hS' ?_)
  have ev : acc' = vals := by
    refine Array.ext_getElem? fun i => ?_
    by_cases hi : i < acc'.size
    · rw [hacc.2 i acc'[i] (Array.getElem?_eq_getElem hi)]; exact Array.getElem?_eq_getElem hi
    · rw [Array.getElem?_eq_none (by omega), Array.getElem?_eq_none (by have := hacc.1; omega)]
  subst ev
  obtain ⟨h', g', d', tk', os'⟩ := s'
  have eg : g' = s.gens := hm.gens
  have ed : d' = d1 := hm.drawn
  have eo : os' = s.os := hm.os
  subst eg; subst ed; subst eo
  refine wpAny_pure (h h' tk' d' _ (fun b o e => ?_) v1 v2)
  have hb0 : b < s.heap.objs.size := Heap.lt_size e
  refine hm.heap b o (fun hmem => ?_) (stay b o (Nat.ne_of_lt hb0) (hk b o (Heap.get?_push_of_some _ e)))
  rcases List.mem_cons.mp hmem with e' | hmem
  · exact absurd e' (Nat.ne_of_lt hb0)
  · have z : (s.heap.push { cls := .type "list", data := .seq ([] : List Value).toArray }).objs.size ≤ I := hI
    rw [Heap.size_push] at z
    rw [← List.mem_singleton.mp hmem] at z
    exact absurd (Nat.lt_of_lt_of_le hb0 (Nat.le_trans (Nat.le_succ _) z)) (Nat.lt_irrefl _)
end
end L2
namespace L2
open PySem
section
variable {prog : Program} {w : World} {K : Type} [DecidableEq K] {knd : KeyKind prog w K} {A : Around} {E : Value → Shared → Prop} {s : Shared}
section
variable {R : Result → Shared → Prop} {I : Addr} {fp wr : List Addr} {G : Array GenState → Array GenState → Prop} {n : Nat} {P : Nat → Value → Prop} {St : Nat → Shared → Prop}
theorem gs_loop (W : WalksS prog w A.in1 I fp wr G n P St) (S : Addr) (hSf : S ∉ fp) (ks : List K) (hl : ks.length = n) (hval : ∀ i v, P i v → v.scannable = true ∧ ∀ k, ks[i]? = some k → knd.is k v = true) (hb : n + 1 < scanBound) :
    ∀ (k i : Nat) (s : Shared) (o : Obj), n - i = k → i ≤ n → St i s → s.heap.get? S = some o → GS knd o (once (ks.take i)) →
      (∀ s' o', Moved (S :: wr) G s s' → s'.heap.get? S = some o' → GS knd o' (once ks) → R (.ok (.ret .none)) s') →
      codeAny (model prog w) A (.builtin "set.update.loop" ⟨[.ref S, .ref I], []⟩) R s := by
  have hSw : S ∉ wr := fun h => hSf (W.sub _ h)
  have hsub : ∀ b ∈ wr, b ∈ S :: wr := fun b hb => List.mem_cons_of_mem _ hb
  intro k
  induction k with
  | zero =>
    intro i s o hk hi hst hS hG hR
    have hin : i = n := by omega
    subst hin
    refine codeAny_builtin PyProof.Rows.F.entry_set_update_loop ?_
    rw [Around.under_plainId PyProof.Rows.F.plain_set_update_loop _]
    show wpAny _ A.in1 (pyNext (.ref I) >>= _) _ _ s
    refine wpAny_bind (W.done s _ _ hst fun s' hm => ?_)
    show wpAny _ A.in1 (ret Value.none) _ _ s'
    rw [← hl, List.take_length] at hG
    exact wpAny_pure (hR s' o (hm.mono hsub) (hm.heap S _ hSw hS) hG)
  | succ k ih =>
    intro i s o hk hi hst hS hG hR
    have hlt : i < n := by omega
    refine codeAny_builtin PyProof.Rows.F.entry_set_update_loop ?_
    rw [Around.under_plainId PyProof.Rows.F.plain_set_update_loop _]
    show wpAny _ A.in1 (pyNext (.ref I) >>= _) _ _ s
    refine wpAny_bind (W.item i s _ _ hlt hst fun v s' hP hst' hm => ?_)
    have hli : i < ks.length := by omega
    obtain ⟨hsc, hky⟩ := hval i v hP
    have hk1 := hky ks[i] (List.getElem?_eq_getElem hli)
    have hS' := hm.heap S _ hSw hS
    show wpAny _ A.in1 (holding [v] (setAdd S v) >>= _) _ _ s'
    refine wpAny_bind (wpAny_holding ?_)
    unfold setAdd
    refine wpAny_holding ?_
    refine wpAny_bind (knd.pyHash hk1 ?_)
    have hroom : (once (ks.take i)).length + 1 < scanBound := by have := once_len (ks.take i); rw [List.length_take] at this; omega
    refine gs_add (s := { s' with toks := s'.toks + 1 }) hk1 hsc hS' hG hroom fun b h' o' hsb ho' hG' => ?_
    have et : ks.take (i + 1) = ks.take i ++ [ks[i]] := by rw [List.take_succ, List.getElem?_eq_getElem hli]; rfl
    refine wpAny_pure ⟨plainId_quiet PyProof.Rows.F.plain_set_update_loop _, ih (i + 1) _ o' (by omega) hlt (W.frame _ s' _ _ hst' (Nat.le_succ _) fun b hb o e => ?_) ho' (by rw [et, once_snoc]; exact hG') fun s'' o'' hm'' hS'' hG'' => ?_⟩
    · rw [hsb.2 b (fun h : b = S => hSf (by rw [← h]; exact hb))]; exact e
    · refine hR s'' o'' (Moved.trans W.gtrans ((hm.mono hsub).then_heap (Nat.le_succ _) fun b o hb e => ?_) hm'') hS'' hG''
      rw [hsb.2 b (fun h : b = S => hb (by rw [h]; exact List.mem_cons_self))]; exact e
end
theorem gs_fresh : GS knd { cls := .type "set", dict := none, data := .set #[] 0 (.fresh 0 0 (led0 w)) } ([] : List K) :=
  ⟨⟨rfl, rfl, rfl⟩, #[], 0, _, rfl, fun e he => by simp at he, rfl, ris_empty, rfl, .refl _⟩
theorem gs_new (a : Value) {Q₁ : Value → Shared → Prop}
    (h : Q₁ (.ref s.heap.objs.size) { s with heap := s.heap.push { cls := .type "set", dict := none, data := .set #[] 0 (.fresh 0 0 (led0 w)) } }) :
    codeAny (model prog w) A (.call (.builtin "set.__new__") ⟨[.type "set", a], []⟩) (wants Q₁ E) s := by
  refine codeAny_of_tree ?_
  show wpAny _ A.in1 (do checkBuiltinCall "set.__new__" ⟨[.type "set", a], []⟩; again (.builtin "set.__new__" ⟨[.type "set", a], []⟩)) _ _ s
  refine wpAny_bind (wpAny_of_eq (F.newCall_set_1 a) (wpAny_pure ⟨plainId_quiet F.plain_set_new _, codeAny_builtin F.entry_set_new ?_⟩))
  rw [Around.under_plainId F.plain_set_new _]
  unfold Builtin.«set.__new__» Builtin.Frozenset.newClass
  have hsub := sub_set_self
  obtain ⟨hp, g, d, tk, os⟩ := s
  dsimp only
  wp_walk
  refine wpAny_askSetting (wpAny_pure ?_)
  dsimp only
  simp only [newObj]
  refine wpAny_bind (wpAny_alloc (wpAny_pure ?_))
  exact wpAny_pure h
theorem gs_call {l : Addr} {items : Array Value} {ks : List K} {Q : Value → Shared → Prop}
    (hh : A.handled = none) (hl : s.heap.IsList l items) (hks : ks.length = items.size) (hi : ∀ (i : Nat) v, items[i]? = some v → v.scannable = true ∧ ∀ k, ks[i]? = some k → knd.is k v = true) (hb : items.size + 1 < scanBound)
    (h : ∀ (h' : Heap) (tk : Nat) (o : Obj), h'.get? s.heap.objs.size = some o → GS knd o (once ks) → (∀ b o, s.heap.get? b = some o → h'.get? b = some o) → Q (.ref s.heap.objs.size) { s with heap := h', toks := tk }) :
    wpAny (model prog w) A (call (.type "set") [.ref l]) Q E s := by
  obtain ⟨c, tl, hmro⟩ := F.called_set.mro
  have hmade := F.called_set.made
  have hsub := F.called_set.sub
  refine wpAny_call (codeAny_of_tree ?_)
  show wpAny _ _ (callAny (.type "set") _) _ _ _
  refine wpAny_pure ⟨Code.quiet_builtin _ (by decide +kernel), codeAny_builtin F.entry_type_call ?_⟩
  rw [Around.under_plain (weight_type_call_type "set" [.ref l] []) rfl]
  have h1 := F.called_set.notType
  have h2 := F.called_set.canCreate
  have hct := F.typeCall_set_1 (.ref l)
  repeat (any_goals (first | assumption | wp_step))
  refine codeAny_mono (gs_new (.ref l) (E := E) (Q₁ := fun obj s₁ => obj = .ref s.heap.objs.size ∧ s₁ = { s with heap := s.heap.push { cls := .type "set", dict := none, data := .set #[] 0 (.fresh 0 0 (led0 w)) } }) ⟨rfl, rfl⟩) fun r s₁ hr => ?_
  have hG0 : GS knd { cls := .type "set", dict := none, data := .set #[] 0 (.fresh 0 0 (led0 w)) } ([] : List K) := gs_fresh
  cases r with
  | error e => exact hr
  | ok fl =>
    cases fl with
    | ret obj =>
      obtain ⟨rfl, rfl⟩ := hr
      have hS : (s.heap.push { cls := .type "set", dict := none, data := .set #[] 0 (.fresh 0 0 (led0 w)) }).get? s.heap.objs.size = some { cls := .type "set", dict := none, data := .set #[] 0 (.fresh 0 0 (led0 w)) } := Heap.get?_push_size _ rfl
      have hT : Shared.TypeIs { s with heap := s.heap.push { cls := .type "set", dict := none, data := .set #[] 0 (.fresh 0 0 (led0 w)) } } (.ref s.heap.objs.size) "set" := ⟨_, hS, hG0.1.1⟩
      have hli := F.called_set.init.lookup
      have hbi := F.called_set.init.bind (.ref s.heap.objs.size)
      repeat (any_goals (first | assumption | wp_step))
      refine codeAny_mono (codeAny_call_builtin (R := wants (fun r s₂ => r = .none ∧ ∃ h' tk o, s₂ = { s with heap := h', toks := tk } ∧ h'.get? s.heap.objs.size = some o ∧ GS knd o (once ks) ∧
          (∀ b o, s.heap.get? b = some o → h'.get? b = some o)) E) F.called_set.init.plain F.entry_set_init (check_set_init_1 hT ?_)) fun r₂ s₂ hr₂ => ?_
      · obtain ⟨ol, hol, hcl, nl, hdl⟩ := hl
        obtain ⟨ocls, odict, odata, oslots⟩ := ol
        simp only at hcl hdl
        subst hcl; subst hdl
        have hol' : (s.heap.push { cls := .type "set", dict := none, data := .set #[] 0 (.fresh 0 0 (led0 w)) }).get? l = some { cls := .type "list", dict := odict, data := .seq items nl, slots := oslots } := Heap.get?_push_of_some _ hol
        have hsls := F.sub_list_set
        have hslf := F.sub_list_frozenset
        have hne : (Value.type "list" == Value.type "dict") = false := by decide
        have hl1 : (s.heap.push { cls := .type "set", dict := none, data := .set #[] 0 (.fresh 0 0 (led0 w)) }).IsList l items := ⟨_, hol', rfl, nl, rfl⟩
        unfold Builtin.«set.__init__» noKeywords Builtin.Frozenset.updateFrom
        generalize hPI : pyIter = PI
        wp_walk
        subst hPI
        refine wpAny_pyIter_list hl1 ?_
        refine wpAny_bind (wpAny_runValue ?_)
        have hlS : l < s.heap.objs.size := Heap.lt_size hol
        have hh3 : A.in1.in1.in1.handled = none := by simp [hh]
        have hneI : l ≠ (s.heap.push { cls := .type "set", dict := none, data := .set #[] 0 (.fresh 0 0 (led0 w)) }).objs.size := by rw [Heap.size_push]; exact Nat.ne_of_lt (Nat.lt_succ_of_lt hlS)
        have hSf : s.heap.objs.size ∉ [(s.heap.push { cls := .type "set", dict := none, data := .set #[] 0 (.fresh 0 0 (led0 w)) }).objs.size, l] := by
          rw [Heap.size_push]; simp only [List.mem_cons, List.not_mem_nil, or_false, not_or]
          exact ⟨Nat.ne_of_lt (Nat.lt_succ_self _), Nat.ne_of_gt hlS⟩
        refine gs_loop (knd := knd) ((Walks.list hh3 _ l hneI items).toS) s.heap.objs.size hSf ks hks hi hb (items.size - 0) 0 _ { cls := .type "set", dict := none, data := .set #[] 0 (.fresh 0 0 (led0 w)) } (by omega) (Nat.zero_le _)
          ⟨⟨_, Heap.get?_push_size _ rfl, rfl, rfl⟩, (hl1.push _)⟩ (Heap.get?_push_of_some _ hS) hG0 fun s' o' hm ho' hG' => ?_
        obtain ⟨h', g', d', tk', os'⟩ := s'
        have eg : g' = s.gens := hm.gens
        have ed : d' = s.drawn := hm.drawn
        have eo : os' = s.os := hm.os
        subst eg; subst ed; subst eo
        show wpAny _ _ _ _ _ _
        refine wpAny_pure ?_
        show wpAny _ _ (ret Value.none) _ _ _
        refine wpAny_pure ⟨rfl, h', tk', o', rfl, ho', hG', fun b o e => ?_⟩
        have hb0 : b < s.heap.objs.size := Heap.lt_size e
        have hb1 : b ≠ s.heap.objs.size := Nat.ne_of_lt hb0
        have hb2 : b ≠ (s.heap.push { cls := .type "set", dict := none, data := .set #[] 0 (.fresh 0 0 (led0 w)) }).objs.size := by rw [Heap.size_push]; exact Nat.ne_of_lt (Nat.lt_succ_of_lt hb0)
        exact hm.heap b o (by simp only [List.mem_cons, List.not_mem_nil, or_false, not_or]; exact ⟨hb1, hb2⟩) (Heap.get?_push_of_some _ (Heap.get?_push_of_some _ e))
      · cases r₂ with
        | error e => exact hr₂
        | ok fl₂ =>
          cases fl₂ with
          | ret r =>
            obtain ⟨rfl, h', tk, o', rfl, ho', hG', hk'⟩ := hr₂
            repeat (any_goals (first | assumption | wp_step))
            exact h _ _ _ ho' hG' hk'
          | _ => exact hr₂.elim
    | _ => exact hr.elim
end
end L2
namespace L2
open PySem PySem.Spec PyProof.Rows
section
def SetC (P : Program) (w : World) (a : Addr) (ks : List Key) : HO := .ext fun h => ∃ o, h.get? a = some o ∧ GS (mixKind P w) o ks
theorem setC_ok {P : Program} {w : World} {H : Hp} {h : Heap} {a : Addr} {ks : List Key} {o : Obj} (e : h.get? a = some o) (g : GS (mixKind P w) o ks) : ObjOk P w H h a (SetC P w a ks) :=
  ⟨⟨o, e, g⟩, ⟨o, e⟩, fun _ _ ⟨o, e, g⟩ k => ⟨o, k o e, g⟩⟩
theorem kV_scan {k : Key} {v : Value} (r : RelV (kV k) v) : v.scannable = true := by
  cases k <;> (obtain ⟨t, rfl⟩ := r; rfl)
variable {X : Cx}
theorem call_setL (hc : X.calm = true) : CallR X (.type "set") (fun xs H Q => ∃ (a : Addr) (ks : List Key), xs = [.ref a] ∧ SqL X.K H a (ks.map kV) ∧ ks.length + 1 < 4096 ∧ ∀ p, H p = none → Q (.ref p) (upd H p (SetC X.prog X.w p (once ks)))) := by
  intro pins s σ H xs us Q I r h
  obtain ⟨a, ks, rfl, hq, hz, q⟩ := h
  obtain ⟨u, rfl, ru⟩ := vals1 r
  cases ru
  obtain ⟨its, rv, pl, hl⟩ := I.list hq
  have hlen : ks.length = its.toArray.size := by have := rv.length; rw [List.length_map] at this; rw [List.size_toArray, this]
  refine gs_call (knd := mixKind X.prog X.w) (ks := ks) (I.ok.hd hc) pl.isList hlen (fun i v e => ?_) (by rw [← hlen]; exact hz) fun h' tk o ho hG hk => ?_
  · have hi : i < ks.length := by rw [hlen]; exact (Array.getElem?_eq_some_iff.mp e).1
    obtain ⟨u, hu, ru⟩ := rv.get (x := kV ks[i]) (show (ks.map kV)[i]? = some (kV ks[i]) by rw [List.getElem?_map, List.getElem?_eq_getElem hi]; rfl)
    rw [List.getElem?_toArray, hu] at e
    cases e
    refine ⟨kV_scan ru, fun k hk => ?_⟩
    rw [List.getElem?_eq_getElem hi] at hk
    cases hk
    exact kV_is ru
  · exact ⟨.ref s.heap.objs.size, _, I.laid (t' := tk) hk (Nat.le_refl _) (setC_ok ho hG), rfl, q _ (I.hok.fresh (Nat.le_refl _))⟩
theorem Inv.drawn' {pins : List (Addr × Obj)} {σ : List (Option V)} {H : Hp} {s : Shared} (I : Inv X pins σ H s) (d : Drawn) : Inv X pins σ H { s with drawn := d } :=
  ⟨I.ok, I.os, I.bare, I.base, I.loc, I.cell, I.free, I.freeC, I.pin, I.hok, I.len⟩
theorem ints_of {P : Program} {w : World} : ∀ (vs : List Value), (∀ v ∈ vs, ∃ k, (mixKind P w).is k v = true) → (∀ k ∈ vs.filterMap (kfo (mixKind P w)), ∃ n : Int, k = Sum.inl n) →
    ∃ ns : List Int, IntsAre vs ns ∧ vs.filterMap (kfo (mixKind P w)) = ns.map Sum.inl
  | [], _, _ => ⟨[], .nil, rfl⟩
  | v :: r, h1, h2 => by
    obtain ⟨k, hk⟩ := h1 v List.mem_cons_self
    have e := kfo_of hk
    obtain ⟨ns, a, b⟩ := ints_of r (fun u hu => h1 u (List.mem_cons_of_mem _ hu)) fun k' hk' => h2 k' (by rw [List.filterMap_cons, e]; exact List.mem_cons_of_mem _ hk')
    obtain ⟨n, rfl⟩ := h2 k (by rw [List.filterMap_cons, e]; exact List.mem_cons_self)
    obtain ⟨t, rfl⟩ := kV_of_is hk
    exact ⟨n :: ns, .cons _ _ a, by rw [List.filterMap_cons, e, b]; rfl⟩
theorem perm_inl {a b : List Int} (h : (a.map (Sum.inl : Int → Key)).Perm (b.map Sum.inl)) : a.Perm b := by
  have := h.filterMap (fun k : Key => match k with | .inl n => some n | .inr _ => none)
  have e : ∀ l : List Int, (l.map (Sum.inl : Int → Key)).filterMap (fun k : Key => match k with | .inl n => some n | .inr _ => none) = l := fun l => by
    rw [List.filterMap_map]; show l.filterMap (fun n => some n) = l; simp
  rw [e, e] at this
  exact this
theorem vals_intsX {us : List Value} {ks : List Int} (h : IntsAre us ks) : Vals (ks.map V.int) us := by
  induction h with
  | nil => exact .nil
  | cons _ _ _ ih => exact .cons ⟨_, rfl⟩ ih
def rSortI (P : Program) (w : World) : List V → Hp → VK → Prop := fun xs H Q => ∃ (a : Addr) (ns : List Int), xs = [.ref a] ∧ H a = some (SetC P w a (ns.map Sum.inl)) ∧ ns.length < 64 ∧
    ∀ ns' : List Int, ns'.Perm ns → ns'.Pairwise (· ≤ ·) → ∀ p, H p = none → Q (.ref p) (upd H p (.lst (ns'.map V.int)))
theorem call_sortedI (hc : X.calm = true) : CallR X (.builtin "sorted") (rSortI X.prog X.w) := by
  intro pins s σ H xs us Q I r h
  obtain ⟨a, ns, rfl, ha, h64, q⟩ := h
  obtain ⟨u, rfl, ru⟩ := vals1 r
  cases ru
  obtain ⟨⟨o, ho, hG⟩, _⟩ := I.hok a _ ha
  refine Calls.call_function_entry kind_sorted plain_sorted entry_sorted (args_sorted1 _) ?_
  unfold Builtin.«sorted»
  refine wpAny_bind (m := checkCount "sorted" 1 1 _) (wpAny_pure ?_)
  refine wpAny_bind (gs_collect (A := X.A.in1) (I.ok.hd hc) ho hG (by rw [List.length_map, sizeLine_eq]; omega) fun h' tk d1 vs hkp v1 v2 => ?_)
  obtain ⟨n1, hI, e1⟩ := ints_of vs v1 (fun k hk => by obtain ⟨n, _, rfl⟩ := List.mem_map.mp (v2.mem_iff.mp hk); exact ⟨n, rfl⟩)
  rw [e1] at v2
  have hp := perm_inl v2
  have hlv : vs.length = n1.length := hI.length
  have I1 : Inv X pins σ H { s with heap := h', toks := tk, drawn := d1 } := (I.kept (t' := tk) hkp).drawn' d1
  refine wpAny_bind (wpAny_newList ?_ (by rw [hlv, hp.length_eq, sizeLine_eq]; omega))
  have hoL : (h'.push (seqObj "list" vs.toArray 0)).get? h'.objs.size = some (seqObj "list" vs.toArray 0) := Heap.get?_push_size _ rfl
  show wpAny _ _ _ _ _ { s with heap := h'.push (seqObj "list" vs.toArray 0), toks := tk, drawn := d1 }
  refine wpAny_bind (wpAny_holding (wpAny_call_entry slot_list_sort ⟨_, hoL, rfl⟩ entry_list_sort (list_sort_tree hoL hI (by rw [hlv, hp.length_eq]; exact h64) fun out ns' a1 a2 a3 => ⟨_, rfl, ?_⟩) (args_list_sort _)))
  refine wpAny_pure ⟨_, rfl, ?_⟩
  obtain ⟨e, he⟩ := sortedHeap_at (out := out) hoL
  have hfr : H h'.objs.size = none := I1.hok.fresh (Nat.le_refl _)
  refine ⟨.ref h'.objs.size, _, I1.laid (a := h'.objs.size) (o := .lst (ns'.map V.int)) (t' := tk) (fun b o eb => ?_) (Nat.le_refl _) ⟨?_, out.toList, e, vals_intsX a1, by rw [Array.toArray_toList]; exact he⟩, rfl, q ns' (a2.trans hp) a3 _ hfr⟩
  · have lb : b < h'.objs.size := Heap.lt_size eb
    rw [sortedHeap_old (Nat.ne_of_lt lb) (by rw [size_push']; exact Nat.lt_succ_of_lt lb)]
    exact Heap.get?_push_of_some _ eb
  · rw [List.length_map, a2.length_eq, hp.length_eq, sizeLine_eq]; omega
end
end L2
namespace Vc
open PySem L2 Sf
def hdn (l : List Addr) (H : Hp) : Hp := fun x => if x ∈ l then none else H x
theorem hdn_at {l : List Addr} {x : Addr} {H : Hp} {o : HO} (h1 : x ∉ l) (h : H x = some o) : hdn l H x = some o := by unfold hdn; rw [if_neg h1]; exact h
theorem hdn_in {l : List Addr} {x : Addr} {H : Hp} (h : x ∈ l) : hdn l H x = none := if_pos h
theorem hdn_some {l : List Addr} {x : Addr} {H : Hp} {o : HO} (h : hdn l H x = some o) : x ∉ l ∧ H x = some o := by
  unfold hdn at h
  by_cases z : x ∈ l
  · rw [if_pos z] at h; cases h
  · rw [if_neg z] at h; exact ⟨z, h⟩
theorem hdn_gb {l : List Addr} {F H : Hp} (wd : Same F H) : Gr0 F (hdn l H) F H := ⟨fun _ _ e => (hdn_some e).2, Same.refl _, wd, fun x u h e => by rw [h] at e; cases e⟩
theorem hdn_tr {l : List Addr} {Fb Hb F H F' H' : Hp} (gb : Gr0 Fb Hb F H) (g : Gr F (hdn l H) F' H') (hl : ∀ a ∈ l, Hb a = none) : Gr0 Fb Hb F' H' := by
  refine ⟨fun x u e => ?_, gb.f.trans g.f, g.s, fun x u e z => ?_⟩
  · exact g.h x u (hdn_at (fun q => by rw [hl x q] at e; cases e) (gb.h x u e))
  · cases q : F x with
    | some w => exact gb.n x w q z
    | none =>
      have h := g.n x u e q
      by_cases c : x ∈ l
      · exact hl x c
      · unfold hdn at h
        rw [if_neg c] at h
        exact gb.h.free h
theorem hdn_no {l : List Addr} {Fb Hb F H : Hp} {b : Addr} (gb : Gr0 Fb Hb F H) (hl : ∀ a ∈ l, Hb a = none) (h : hdn l H b = none) : Hb b = none := by
  by_cases c : b ∈ l
  · exact hl b c
  · unfold hdn at h
    rw [if_neg c] at h
    exact gb.h.free h
theorem hl1 {a : Addr} {Hb : Hp} (h : Hb a = none) : ∀ x ∈ [a], Hb x = none := fun x z => by rw [List.mem_singleton.mp z]; exact h
theorem hl2 {a b : Addr} {Hb : Hp} (h : Hb a = none) (g : Hb b = none) : ∀ x ∈ [a, b], Hb x = none := fun x z => (List.mem_cons.mp z).elim (fun e => by rw [e]; exact h) (hl1 g x)
theorem hl3 {a b c : Addr} {Hb : Hp} (h : Hb a = none) (g : Hb b = none) (f : Hb c = none) : ∀ x ∈ [a, b, c], Hb x = none := fun x z => (List.mem_cons.mp z).elim (fun e => by rw [e]; exact h) (hl2 g f x)
theorem nm1 {x a : Addr} (h : x ≠ a) : x ∉ [a] := fun z => h (List.mem_singleton.mp z)
theorem in0 {a : Addr} {l : List Addr} : a ∈ a :: l := List.mem_cons_self
theorem in1 {a b : Addr} {l : List Addr} : a ∈ b :: a :: l := List.mem_cons_of_mem _ List.mem_cons_self
theorem in2 {a b c : Addr} {l : List Addr} : a ∈ b :: c :: a :: l := List.mem_cons_of_mem _ in1
end Vc
namespace L2
open PySem PySem.Spec PyProof.Rows
section
variable {P : Program} {w : World} {K : PySem.W.Frag}
def rSetX (P : Program) (w : World) (K : PySem.W.Frag) : List V → Hp → VK → Prop := fun xs H Q => ∃ (a : Addr) (ks : List Key), xs = [.ref a] ∧ SqL K H a (ks.map kV) ∧ ks.length + 1 < 4096 ∧ ∀ p, H p = none → Q (.ref p) (upd H p (SetC P w p (once ks)))
def rLn (K : PySem.W.Frag) : List V → Hp → VK → Prop := fun xs H Q => ∃ p ys, xs = [.ref p] ∧ (SqL K H p ys ∨ SqT K H p ys) ∧ Q (.int ys.length) H
theorem call_setX {X : Cx} (hc : X.calm = true) : CallR X (.type "set") (rSetX X.prog X.w X.K) := call_setL hc
end
theorem once_map {α β : Type} [DecidableEq α] [DecidableEq β] {f : α → β} (hf : ∀ x y, f x = f y → x = y) (l : List α) : once (l.map f) = (once l).map f := by
  have key : ∀ (l a : List α), (l.map f).foldl addk (a.map f) = (l.foldl addk a).map f := by
    intro l
    induction l with
    | nil => intro a; rfl
    | cons x r ih =>
      intro a
      have e : addk (a.map f) (f x) = (addk a x).map f := by
        unfold addk
        by_cases h : x ∈ a
        · rw [if_pos h, if_pos (List.mem_map.mpr ⟨x, h, rfl⟩)]
        · rw [if_neg h, if_neg (fun z => by obtain ⟨y, hy, e⟩ := List.mem_map.mp z; exact h (hf _ _ e ▸ hy)), List.map_append]; rfl
      show ((r.map f).foldl addk (addk (a.map f) (f x))) = _
      rw [e]; exact ih _
  exact key l []
theorem once_nodup {α : Type} [DecidableEq α] (l : List α) : (once l).Nodup ∧ ∀ x, x ∈ once l ↔ x ∈ l := by
  have key : ∀ (l a : List α), a.Nodup → (l.foldl addk a).Nodup ∧ ∀ x, x ∈ l.foldl addk a ↔ x ∈ a ∨ x ∈ l := by
    intro l
    induction l with
    | nil => intro a h; exact ⟨h, fun x => by simp⟩
    | cons y r ih =>
      intro a h
      have h1 : (addk a y).Nodup := by
        unfold addk
        by_cases hy : y ∈ a
        · rw [if_pos hy]; exact h
        · rw [if_neg hy, List.nodup_append]; exact ⟨h, by simp, fun u hu v hv e => by rw [List.mem_singleton] at hv; exact hy (hv ▸ e ▸ hu)⟩
      have h2 : ∀ x, x ∈ addk a y ↔ x ∈ a ∨ x = y := by
        intro x
        unfold addk
        by_cases hy : y ∈ a
        · rw [if_pos hy]; exact ⟨.inl, fun z => z.elim id fun e => e ▸ hy⟩
        · rw [if_neg hy, List.mem_append, List.mem_singleton]
      obtain ⟨a1, a2⟩ := ih (addk a y) h1
      refine ⟨a1, fun x => (a2 x).trans ?_⟩
      rw [h2, List.mem_cons, or_assoc]
  obtain ⟨a, b⟩ := key l [] List.nodup_nil
  exact ⟨a, fun x => by rw [show once l = l.foldl addk [] from rfl, b x]; simp⟩
theorem once_self {α : Type} [DecidableEq α] {l : List α} (h : l.Nodup) : once l = l := by
  have key : ∀ (l a : List α), (a ++ l).Nodup → l.foldl addk a = a ++ l := by
    intro l
    induction l with
    | nil => intro a _; simp
    | cons y r ih =>
      intro a h
      have hy : y ∉ a := fun z => by rw [List.nodup_append] at h; exact h.2.2 y z y List.mem_cons_self rfl
      show r.foldl addk (addk a y) = _
      have e : addk a y = a ++ [y] := by unfold addk; rw [if_neg hy]
      rw [e, ih _ (by simpa using h)]; simp
  have z := key l [] (by simpa using h)
  exact z.trans (List.nil_append l)
noncomputable def srtI (ks : List Int) : List Int := Classical.epsilon fun l => l.Perm ks ∧ l.Pairwise (· ≤ ·)
theorem srtI_of {ks l : List Int} (h : l.Perm ks) (g : l.Pairwise (· ≤ ·)) : l = srtI ks := by
  have z := Classical.epsilon_spec (p := fun l : List Int => l.Perm ks ∧ l.Pairwise (· ≤ ·)) ⟨l, h, g⟩
  exact List.Perm.eq_of_pairwise (le := (· ≤ ·)) (fun a b _ _ h1 h2 => Int.le_antisymm h1 h2) g z.2 (h.trans z.1.symm)
theorem srtI_ok (ks : List Int) : (srtI ks).Perm ks ∧ (srtI ks).Pairwise (· ≤ ·) :=
  Classical.epsilon_spec (p := fun l : List Int => l.Perm ks ∧ l.Pairwise (· ≤ ·)) ⟨ks.mergeSort (fun a b => decide (a ≤ b)), List.mergeSort_perm _ _, by
    have := List.pairwise_mergeSort (le := fun a b : Int => decide (a ≤ b)) (fun a b c h1 h2 => by simp at *; omega) (fun a b => by simp; omega) ks
    exact this.imp fun h => by simpa using h⟩
theorem srt_once (ns : List Int) : ns = srtI (once ns) ↔ ns.Pairwise (· < ·) := by
  constructor
  · intro e
    obtain ⟨a, b⟩ := srtI_ok (once ns)
    rw [← e] at a b
    have nd : ns.Nodup := a.nodup_iff.mpr (once_nodup ns).1
    exact (List.pairwise_and_iff.mpr ⟨b, nd⟩).imp fun ⟨h1, h2⟩ => by omega
  · intro h
    have nd : ns.Nodup := h.imp fun z e => by omega
    rw [once_self nd]
    exact srtI_of (.refl _) (h.imp fun z => Int.le_of_lt z)
end L2
namespace Vc
open PySem L2 Sf
section
variable {P : Program} {w : World} {K : PySem.W.Frag} {F H : Hp} {Q : VK}
theorem al_int_eq {F : Hp} : ∀ {vs : List V} {ns : List Int}, Al rI F vs ns → vs = ns.map V.int
  | [], [], _ => rfl
  | _ :: _, _ :: _, h => by
    obtain ⟨h1, h2⟩ := h
    rw [List.map_cons, ← al_int_eq h2]
    exact congrArg (· :: _) h1
  | [], _ :: _, h => h.elim
  | _ :: _, [], h => h.elim
theorem a_setI {a : Addr} {vs : List V} {ns : List Int} (hq : SqL K H a vs) (al : Al rI F vs ns) (hl : ns.length + 1 < 4096) (q : ∀ p, H p = none → Q (.ref p) (upd H p (SetC P w p ((once ns).map Sum.inl)))) : rSetX P w K [V.ref a] H Q := by
  refine ⟨a, ns.map Sum.inl, rfl, ?_, by rw [List.length_map]; exact hl, fun p hp => ?_⟩
  · rw [List.map_map]
    have := al_int_eq al
    rw [this] at hq
    exact hq
  · rw [once_map (fun x y e => Sum.inl.inj e)]; exact q p hp
theorem a_sortI {a : Addr} {ns : List Int} (h : H a = some (SetC P w a (ns.map Sum.inl))) (hl : ns.length < 64) (q : ∀ p, H p = none → Q (.ref p) (upd H p (.lst ((srtI ns).map V.int)))) : rSortI P w [V.ref a] H Q :=
  ⟨a, ns, rfl, h, hl, fun ns' e1 e2 p hp => by rw [srtI_of e1 e2]; exact q p hp⟩
end
end Vc
namespace Sf
open PySem L2 Vc
def top (i : Nat) : Stmt := PySem.Challenge.pw_springframe_k33_weights_that_show_a_clas.main.body.getD i (.Pass ⟨0, 0, 0, 0⟩)
abbrev s_part : Stmt := top 5
abbrev s_greatest_divisor : Stmt := top 6
abbrev s_plus : Stmt := top 7
abbrev s_times : Stmt := top 8
abbrev s_under : Stmt := top 9
abbrev s_signs_good : Stmt := top 12
abbrev s_weighed : Stmt := top 13
abbrev s_column : Stmt := top 14
abbrev s_shows_clash : Stmt := top 15
abbrev s_rising_musts : Stmt := top 16
abbrev s_law_cell_at : Stmt := top 18
abbrev s_law_mix : Stmt := top 19
abbrev s_law_divisor : Stmt := top 20
abbrev s_law_lowest : Stmt := top 21
abbrev s_law_add : Stmt := top 22
abbrev s_law_row : Stmt := top 23
abbrev s_law_weight : Stmt := top 24
abbrev s_law_scaled : Stmt := top 25
abbrev s_law_right : Stmt := top 26
abbrev s_law_evened : Stmt := top 27
abbrev s_law_put_off : Stmt := top 28
abbrev s_law : Stmt := top 29
theorem sc_part : FnScope ["top", "bottom", "divisor"] ["top", "bottom"] (defScope s_part) := ⟨rfl, rfl, rfl, by decide +kernel, rfl, by decide +kernel, by decide +kernel⟩
theorem sc_greatest_divisor : FnScope ["one", "other", "remainder"] ["one", "other"] (defScope s_greatest_divisor) := ⟨rfl, rfl, rfl, by decide +kernel, rfl, by decide +kernel, by decide +kernel⟩
theorem sc_plus : FnScope ["one", "other"] ["one", "other"] (defScope s_plus) := ⟨rfl, rfl, rfl, by decide +kernel, rfl, by decide +kernel, by decide +kernel⟩
theorem sc_times : FnScope ["one", "other"] ["one", "other"] (defScope s_times) := ⟨rfl, rfl, rfl, by decide +kernel, rfl, by decide +kernel, by decide +kernel⟩
theorem sc_under : FnScope ["one", "other"] ["one", "other"] (defScope s_under) := ⟨rfl, rfl, rfl, by decide +kernel, rfl, by decide +kernel, by decide +kernel⟩
theorem sc_signs_good : FnScope ["rows", "prices", "one", "price"] ["rows", "prices"] (defScope s_signs_good) := ⟨rfl, rfl, rfl, by decide +kernel, rfl, by decide +kernel, by decide +kernel⟩
theorem sc_weighed : FnScope ["weights", "numbers", "total", "weight", "number"] ["weights", "numbers"] (defScope s_weighed) := ⟨rfl, rfl, rfl, by decide +kernel, rfl, by decide +kernel, by decide +kernel⟩
theorem sc_column : FnScope ["rows", "prices", "unknown"] ["rows", "prices", "unknown"] (defScope s_column) := ⟨rfl, rfl, rfl, by decide +kernel, rfl, by decide +kernel, by decide +kernel⟩
theorem sc_shows_clash : FnScope ["rows", "unknowns", "numbers", "weights", "chosen"] ["rows", "unknowns", "numbers", "weights"] (defScope s_shows_clash) := ⟨rfl, rfl, rfl, by decide +kernel, rfl, by decide +kernel, by decide +kernel⟩
theorem sc_rising_musts : FnScope ["rows", "numbers", "ahead", "number"] ["rows", "numbers"] (defScope s_rising_musts) := ⟨rfl, rfl, rfl, by decide +kernel, rfl, by decide +kernel, by decide +kernel⟩
theorem sc_law_cell_at : FnScope ["_law_script", "_law_k"] ["_law_script", "_law_k"] (defScope s_law_cell_at) := ⟨rfl, rfl, rfl, by decide +kernel, rfl, by decide +kernel, by decide +kernel⟩
theorem sc_law_mix : FnScope ["_law_cell", "_law_k", "_law_number"] ["_law_cell", "_law_k"] (defScope s_law_mix) := ⟨rfl, rfl, rfl, by decide +kernel, rfl, by decide +kernel, by decide +kernel⟩
theorem sc_law_divisor : FnScope ["_law_one", "_law_other"] ["_law_one", "_law_other"] (defScope s_law_divisor) := ⟨rfl, rfl, rfl, by decide +kernel, rfl, by decide +kernel, by decide +kernel⟩
theorem sc_law_lowest : FnScope ["_law_top", "_law_bottom", "_law_both"] ["_law_top", "_law_bottom"] (defScope s_law_lowest) := ⟨rfl, rfl, rfl, by decide +kernel, rfl, by decide +kernel, by decide +kernel⟩
theorem sc_law_add : FnScope ["_law_pairs", "_law_found", "_law_one", "_law_other", "_law_top"] ["_law_pairs"] (defScope s_law_add) := ⟨rfl, rfl, rfl, by decide +kernel, rfl, by decide +kernel, by decide +kernel⟩
theorem sc_law_row : FnScope ["_law_cell", "_law_some", "_law_parts", "_law_k", "_law_name", "_law_top", "_law_kind", "_law_rank"] ["_law_cell", "_law_some"] (defScope s_law_row) := ⟨rfl, rfl, rfl, by decide +kernel, rfl, by decide +kernel, by decide +kernel⟩
theorem sc_law_weight : FnScope ["_law_one", "_law_mixed", "_law_top"] ["_law_one", "_law_mixed"] (defScope s_law_weight) := ⟨rfl, rfl, rfl, by decide +kernel, rfl, by decide +kernel, by decide +kernel⟩
theorem sc_law_scaled : FnScope ["_law_chosen", "_law_weights", "_law_come"] ["_law_chosen", "_law_weights"] (defScope s_law_scaled) := ⟨rfl, rfl, rfl, by decide +kernel, rfl, by decide +kernel, by decide +kernel⟩
theorem sc_law_right : FnScope ["_law_rows", "_law_some", "_law_numbers", "_law_weights", "_law_chosen", "_law_one", "_law_weight_here", "_law_name"] ["_law_rows", "_law_some", "_law_numbers", "_law_weights"] (defScope s_law_right) := ⟨rfl, rfl, rfl, by decide +kernel, rfl, by decide +kernel, by decide +kernel⟩
theorem sc_law_evened : FnScope ["_law_rows", "_law_some", "_law_numbers", "_law_weights", "_law_mixed", "_law_chosen", "_law_k", "_law_name", "_law_pairs", "_law_top", "_law_bottom"] ["_law_rows", "_law_some", "_law_numbers", "_law_weights", "_law_mixed"] (defScope s_law_evened) := ⟨rfl, rfl, rfl, by decide +kernel, rfl, by decide +kernel, by decide +kernel⟩
theorem sc_law_put_off : FnScope ["_law_rows", "_law_numbers", "_law_weights", "_law_mixed", "_law_way", "_law_at"] ["_law_rows", "_law_numbers", "_law_weights", "_law_mixed"] (defScope s_law_put_off) := ⟨rfl, rfl, rfl, by decide +kernel, rfl, by decide +kernel, by decide +kernel⟩
theorem sc_law : FnScope ["_law_script", "_law_first", "_law_some", "_law_rows", "_law_numbers", "_law_k", "_law_one", "_law_weights", "_law_handed", "_law_found"] ["_law_script"] (defScope s_law) := ⟨rfl, rfl, rfl, by decide +kernel, rfl, by decide +kernel, by decide +kernel⟩
inductive Ex2 {A1 A2 : Type} (p : A1 → A2 → Prop) : Prop where | mk (a1 : A1) (a2 : A2) (h : p a1 a2) : Ex2 p
inductive Ex3 {A1 A2 A3 : Type} (p : A1 → A2 → A3 → Prop) : Prop where | mk (a1 : A1) (a2 : A2) (a3 : A3) (h : p a1 a2 a3) : Ex3 p
inductive Ex4 {A1 A2 A3 A4 : Type} (p : A1 → A2 → A3 → A4 → Prop) : Prop where | mk (a1 : A1) (a2 : A2) (a3 : A3) (a4 : A4) (h : p a1 a2 a3 a4) : Ex4 p
inductive Ex5 {A1 A2 A3 A4 A5 : Type} (p : A1 → A2 → A3 → A4 → A5 → Prop) : Prop where | mk (a1 : A1) (a2 : A2) (a3 : A3) (a4 : A4) (a5 : A5) (h : p a1 a2 a3 a4 a5) : Ex5 p
inductive Ex6 {A1 A2 A3 A4 A5 A6 : Type} (p : A1 → A2 → A3 → A4 → A5 → A6 → Prop) : Prop where | mk (a1 : A1) (a2 : A2) (a3 : A3) (a4 : A4) (a5 : A5) (a6 : A6) (h : p a1 a2 a3 a4 a5 a6) : Ex6 p
inductive Ex7 {A1 A2 A3 A4 A5 A6 A7 : Type} (p : A1 → A2 → A3 → A4 → A5 → A6 → A7 → Prop) : Prop where | mk (a1 : A1) (a2 : A2) (a3 : A3) (a4 : A4) (a5 : A5) (a6 : A6) (a7 : A7) (h : p a1 a2 a3 a4 a5 a6 a7) : Ex7 p
inductive Ex8 {A1 A2 A3 A4 A5 A6 A7 A8 : Type} (p : A1 → A2 → A3 → A4 → A5 → A6 → A7 → A8 → Prop) : Prop where | mk (a1 : A1) (a2 : A2) (a3 : A3) (a4 : A4) (a5 : A5) (a6 : A6) (a7 : A7) (a8 : A8) (h : p a1 a2 a3 a4 a5 a6 a7 a8) : Ex8 p
inductive Ex9 {A1 A2 A3 A4 A5 A6 A7 A8 A9 : Type} (p : A1 → A2 → A3 → A4 → A5 → A6 → A7 → A8 → A9 → Prop) : Prop where | mk (a1 : A1) (a2 : A2) (a3 : A3) (a4 : A4) (a5 : A5) (a6 : A6) (a7 : A7) (a8 : A8) (a9 : A9) (h : p a1 a2 a3 a4 a5 a6 a7 a8 a9) : Ex9 p
inductive Ex11 {A1 A2 A3 A4 A5 A6 A7 A8 A9 A10 A11 : Type} (p : A1 → A2 → A3 → A4 → A5 → A6 → A7 → A8 → A9 → A10 → A11 → Prop) : Prop where | mk (a1 : A1) (a2 : A2) (a3 : A3) (a4 : A4) (a5 : A5) (a6 : A6) (a7 : A7) (a8 : A8) (a9 : A9) (a10 : A10) (a11 : A11) (h : p a1 a2 a3 a4 a5 a6 a7 a8 a9 a10 a11) : Ex11 p
inductive Ex12 {A1 A2 A3 A4 A5 A6 A7 A8 A9 A10 A11 A12 : Type} (p : A1 → A2 → A3 → A4 → A5 → A6 → A7 → A8 → A9 → A10 → A11 → A12 → Prop) : Prop where | mk (a1 : A1) (a2 : A2) (a3 : A3) (a4 : A4) (a5 : A5) (a6 : A6) (a7 : A7) (a8 : A8) (a9 : A9) (a10 : A10) (a11 : A11) (a12 : A12) (h : p a1 a2 a3 a4 a5 a6 a7 a8 a9 a10 a11 a12) : Ex12 p
inductive Ex17 {A1 A2 A3 A4 A5 A6 A7 A8 A9 A10 A11 A12 A13 A14 A15 A16 A17 : Type} (p : A1 → A2 → A3 → A4 → A5 → A6 → A7 → A8 → A9 → A10 → A11 → A12 → A13 → A14 → A15 → A16 → A17 → Prop) : Prop where | mk (a1 : A1) (a2 : A2) (a3 : A3) (a4 : A4) (a5 : A5) (a6 : A6) (a7 : A7) (a8 : A8) (a9 : A9) (a10 : A10) (a11 : A11) (a12 : A12) (a13 : A13) (a14 : A14) (a15 : A15) (a16 : A16) (a17 : A17) (h : p a1 a2 a3 a4 a5 a6 a7 a8 a9 a10 a11 a12 a13 a14 a15 a16 a17) : Ex17 p
inductive Cj5 (p1 p2 p3 p4 p5 : Prop) : Prop where | mk (h1 : p1) (h2 : p2) (h3 : p3) (h4 : p4) (h5 : p5) : Cj5 p1 p2 p3 p4 p5
inductive Cj6 (p1 p2 p3 p4 p5 p6 : Prop) : Prop where | mk (h1 : p1) (h2 : p2) (h3 : p3) (h4 : p4) (h5 : p5) (h6 : p6) : Cj6 p1 p2 p3 p4 p5 p6
inductive Cj7 (p1 p2 p3 p4 p5 p6 p7 : Prop) : Prop where | mk (h1 : p1) (h2 : p2) (h3 : p3) (h4 : p4) (h5 : p5) (h6 : p6) (h7 : p7) : Cj7 p1 p2 p3 p4 p5 p6 p7
inductive Cj8 (p1 p2 p3 p4 p5 p6 p7 p8 : Prop) : Prop where | mk (h1 : p1) (h2 : p2) (h3 : p3) (h4 : p4) (h5 : p5) (h6 : p6) (h7 : p7) (h8 : p8) : Cj8 p1 p2 p3 p4 p5 p6 p7 p8
inductive Cj9 (p1 p2 p3 p4 p5 p6 p7 p8 p9 : Prop) : Prop where | mk (h1 : p1) (h2 : p2) (h3 : p3) (h4 : p4) (h5 : p5) (h6 : p6) (h7 : p7) (h8 : p8) (h9 : p9) : Cj9 p1 p2 p3 p4 p5 p6 p7 p8 p9
inductive Cj11 (p1 p2 p3 p4 p5 p6 p7 p8 p9 p10 p11 : Prop) : Prop where | mk (h1 : p1) (h2 : p2) (h3 : p3) (h4 : p4) (h5 : p5) (h6 : p6) (h7 : p7) (h8 : p8) (h9 : p9) (h10 : p10) (h11 : p11) : Cj11 p1 p2 p3 p4 p5 p6 p7 p8 p9 p10 p11
inductive Cj12 (p1 p2 p3 p4 p5 p6 p7 p8 p9 p10 p11 p12 : Prop) : Prop where | mk (h1 : p1) (h2 : p2) (h3 : p3) (h4 : p4) (h5 : p5) (h6 : p6) (h7 : p7) (h8 : p8) (h9 : p9) (h10 : p10) (h11 : p11) (h12 : p12) : Cj12 p1 p2 p3 p4 p5 p6 p7 p8 p9 p10 p11 p12
inductive Cj13 (p1 p2 p3 p4 p5 p6 p7 p8 p9 p10 p11 p12 p13 : Prop) : Prop where | mk (h1 : p1) (h2 : p2) (h3 : p3) (h4 : p4) (h5 : p5) (h6 : p6) (h7 : p7) (h8 : p8) (h9 : p9) (h10 : p10) (h11 : p11) (h12 : p12) (h13 : p13) : Cj13 p1 p2 p3 p4 p5 p6 p7 p8 p9 p10 p11 p12 p13
inductive Cj14 (p1 p2 p3 p4 p5 p6 p7 p8 p9 p10 p11 p12 p13 p14 : Prop) : Prop where | mk (h1 : p1) (h2 : p2) (h3 : p3) (h4 : p4) (h5 : p5) (h6 : p6) (h7 : p7) (h8 : p8) (h9 : p9) (h10 : p10) (h11 : p11) (h12 : p12) (h13 : p13) (h14 : p14) : Cj14 p1 p2 p3 p4 p5 p6 p7 p8 p9 p10 p11 p12 p13 p14
inductive Cj17 (p1 p2 p3 p4 p5 p6 p7 p8 p9 p10 p11 p12 p13 p14 p15 p16 p17 : Prop) : Prop where | mk (h1 : p1) (h2 : p2) (h3 : p3) (h4 : p4) (h5 : p5) (h6 : p6) (h7 : p7) (h8 : p8) (h9 : p9) (h10 : p10) (h11 : p11) (h12 : p12) (h13 : p13) (h14 : p14) (h15 : p15) (h16 : p16) (h17 : p17) : Cj17 p1 p2 p3 p4 p5 p6 p7 p8 p9 p10 p11 p12 p13 p14 p15 p16 p17
inductive Cj21 (p1 p2 p3 p4 p5 p6 p7 p8 p9 p10 p11 p12 p13 p14 p15 p16 p17 p18 p19 p20 p21 : Prop) : Prop where | mk (h1 : p1) (h2 : p2) (h3 : p3) (h4 : p4) (h5 : p5) (h6 : p6) (h7 : p7) (h8 : p8) (h9 : p9) (h10 : p10) (h11 : p11) (h12 : p12) (h13 : p13) (h14 : p14) (h15 : p15) (h16 : p16) (h17 : p17) (h18 : p18) (h19 : p19) (h20 : p20) (h21 : p21) : Cj21 p1 p2 p3 p4 p5 p6 p7 p8 p9 p10 p11 p12 p13 p14 p15 p16 p17 p18 p19 p20 p21
inductive Cj22 (p1 p2 p3 p4 p5 p6 p7 p8 p9 p10 p11 p12 p13 p14 p15 p16 p17 p18 p19 p20 p21 p22 : Prop) : Prop where | mk (h1 : p1) (h2 : p2) (h3 : p3) (h4 : p4) (h5 : p5) (h6 : p6) (h7 : p7) (h8 : p8) (h9 : p9) (h10 : p10) (h11 : p11) (h12 : p12) (h13 : p13) (h14 : p14) (h15 : p15) (h16 : p16) (h17 : p17) (h18 : p18) (h19 : p19) (h20 : p20) (h21 : p21) (h22 : p22) : Cj22 p1 p2 p3 p4 p5 p6 p7 p8 p9 p10 p11 p12 p13 p14 p15 p16 p17 p18 p19 p20 p21 p22
set_option genInjectivity false in
set_option genSizeOf false in
structure Tx (K : PySem.W.Frag) (mg : Str → Option Value) where
  a_part : Addr
  d_part : FuncData
  F_part : Fun K "part" "part" s_part a_part d_part
  b_part : Binds K d_part ["top", "bottom"] []
  m_part : mg "part" = some (.ref a_part)
  a_greatest_divisor : Addr
  d_greatest_divisor : FuncData
  F_greatest_divisor : Fun K "greatest_divisor" "greatest_divisor" s_greatest_divisor a_greatest_divisor d_greatest_divisor
  b_greatest_divisor : Binds K d_greatest_divisor ["one", "other"] []
  m_greatest_divisor : mg "greatest_divisor" = some (.ref a_greatest_divisor)
  a_plus : Addr
  d_plus : FuncData
  F_plus : Fun K "plus" "plus" s_plus a_plus d_plus
  b_plus : Binds K d_plus ["one", "other"] []
  m_plus : mg "plus" = some (.ref a_plus)
  a_times : Addr
  d_times : FuncData
  F_times : Fun K "times" "times" s_times a_times d_times
  b_times : Binds K d_times ["one", "other"] []
  m_times : mg "times" = some (.ref a_times)
  a_under : Addr
  d_under : FuncData
  F_under : Fun K "under" "under" s_under a_under d_under
  b_under : Binds K d_under ["one", "other"] []
  m_under : mg "under" = some (.ref a_under)
  a_signs_good : Addr
  d_signs_good : FuncData
  F_signs_good : Fun K "signs_good" "signs_good" s_signs_good a_signs_good d_signs_good
  b_signs_good : Binds K d_signs_good ["rows", "prices"] []
  m_signs_good : mg "signs_good" = some (.ref a_signs_good)
  a_weighed : Addr
  d_weighed : FuncData
  F_weighed : Fun K "weighed" "weighed" s_weighed a_weighed d_weighed
  b_weighed : Binds K d_weighed ["weights", "numbers"] []
  m_weighed : mg "weighed" = some (.ref a_weighed)
  a_column : Addr
  d_column : FuncData
  F_column : Fun K "column" "column" s_column a_column d_column
  b_column : Binds K d_column ["rows", "prices", "unknown"] []
  m_column : mg "column" = some (.ref a_column)
  a_shows_clash : Addr
  d_shows_clash : FuncData
  F_shows_clash : Fun K "shows_clash" "shows_clash" s_shows_clash a_shows_clash d_shows_clash
  b_shows_clash : Binds K d_shows_clash ["rows", "unknowns", "numbers", "weights"] []
  m_shows_clash : mg "shows_clash" = some (.ref a_shows_clash)
  a_rising_musts : Addr
  d_rising_musts : FuncData
  F_rising_musts : Fun K "rising_musts" "rising_musts" s_rising_musts a_rising_musts d_rising_musts
  b_rising_musts : Binds K d_rising_musts ["rows", "numbers"] []
  m_rising_musts : mg "rising_musts" = some (.ref a_rising_musts)
  a_law_cell_at : Addr
  d_law_cell_at : FuncData
  F_law_cell_at : Fun K "_law_cell_at" "_law_cell_at" s_law_cell_at a_law_cell_at d_law_cell_at
  b_law_cell_at : Binds K d_law_cell_at ["_law_script", "_law_k"] []
  m_law_cell_at : mg "_law_cell_at" = some (.ref a_law_cell_at)
  a_law_mix : Addr
  d_law_mix : FuncData
  F_law_mix : Fun K "_law_mix" "_law_mix" s_law_mix a_law_mix d_law_mix
  b_law_mix : Binds K d_law_mix ["_law_cell", "_law_k"] []
  m_law_mix : mg "_law_mix" = some (.ref a_law_mix)
  a_law_divisor : Addr
  d_law_divisor : FuncData
  F_law_divisor : Fun K "_law_divisor" "_law_divisor" s_law_divisor a_law_divisor d_law_divisor
  b_law_divisor : Binds K d_law_divisor ["_law_one", "_law_other"] []
  m_law_divisor : mg "_law_divisor" = some (.ref a_law_divisor)
  a_law_lowest : Addr
  d_law_lowest : FuncData
  F_law_lowest : Fun K "_law_lowest" "_law_lowest" s_law_lowest a_law_lowest d_law_lowest
  b_law_lowest : Binds K d_law_lowest ["_law_top", "_law_bottom"] []
  m_law_lowest : mg "_law_lowest" = some (.ref a_law_lowest)
  a_law_add : Addr
  d_law_add : FuncData
  F_law_add : Fun K "_law_add" "_law_add" s_law_add a_law_add d_law_add
  b_law_add : Binds K d_law_add ["_law_pairs"] []
  m_law_add : mg "_law_add" = some (.ref a_law_add)
  a_law_row : Addr
  d_law_row : FuncData
  F_law_row : Fun K "_law_row" "_law_row" s_law_row a_law_row d_law_row
  b_law_row : Binds K d_law_row ["_law_cell", "_law_some"] []
  m_law_row : mg "_law_row" = some (.ref a_law_row)
  a_law_weight : Addr
  d_law_weight : FuncData
  F_law_weight : Fun K "_law_weight" "_law_weight" s_law_weight a_law_weight d_law_weight
  b_law_weight : Binds K d_law_weight ["_law_one", "_law_mixed"] []
  m_law_weight : mg "_law_weight" = some (.ref a_law_weight)
  a_law_scaled : Addr
  d_law_scaled : FuncData
  F_law_scaled : Fun K "_law_scaled" "_law_scaled" s_law_scaled a_law_scaled d_law_scaled
  b_law_scaled : Binds K d_law_scaled ["_law_chosen", "_law_weights"] []
  m_law_scaled : mg "_law_scaled" = some (.ref a_law_scaled)
  a_law_right : Addr
  d_law_right : FuncData
  F_law_right : Fun K "_law_right" "_law_right" s_law_right a_law_right d_law_right
  b_law_right : Binds K d_law_right ["_law_rows", "_law_some", "_law_numbers", "_law_weights"] []
  m_law_right : mg "_law_right" = some (.ref a_law_right)
  a_law_evened : Addr
  d_law_evened : FuncData
  F_law_evened : Fun K "_law_evened" "_law_evened" s_law_evened a_law_evened d_law_evened
  b_law_evened : Binds K d_law_evened ["_law_rows", "_law_some", "_law_numbers", "_law_weights", "_law_mixed"] []
  m_law_evened : mg "_law_evened" = some (.ref a_law_evened)
  a_law_put_off : Addr
  d_law_put_off : FuncData
  F_law_put_off : Fun K "_law_put_off" "_law_put_off" s_law_put_off a_law_put_off d_law_put_off
  b_law_put_off : Binds K d_law_put_off ["_law_rows", "_law_numbers", "_law_weights", "_law_mixed"] []
  m_law_put_off : mg "_law_put_off" = some (.ref a_law_put_off)
  a_law : Addr
  d_law : FuncData
  F_law : Fun K "law" "law" s_law a_law d_law
  b_law : Binds K d_law ["_law_script"] []
  m_law : mg "law" = some (.ref a_law)
  c_NOUGHT : Addr
  m_NOUGHT : mg "NOUGHT" = some (.ref c_NOUGHT)
  t_NOUGHT : ∃ (o : Obj) (its : Array Value) (n : Nat), K.lookup c_NOUGHT = some o ∧ o.cls = .type "tuple" ∧ o.data = .seq its n ∧ its.size ≤ sizeLine ∧ Vals (fr 0) its.toList
  k_MUST : Tok
  m_MUST : mg "MUST" = some (.int (0) k_MUST)
  z_abs : mg "abs" = none
  z_len : mg "len" = none
  z_range : mg "range" = none
  z_isinstance : mg "isinstance" = none
  z_list : mg "list" = none
  z_any : mg "any" = none
  z_zip : mg "zip" = none
  z_enumerate : mg "enumerate" = none
  z_tuple : mg "tuple" = none
  z_bool : mg "bool" = none
  z_set : mg "set" = none
  z_sorted : mg "sorted" = none
  z_reversed : mg "reversed" = none
  z_max : mg "max" = none
def tx_mk {K : PySem.W.Frag} {h : Heap} {mg : Str → Option Value} (X : K.In h) (G : h.Ns mainGlobals mg)
    {f0 : Addr} {od0 an0 : Option Addr} {sl0 : Array (Option Value)} {oc0 kV0 dc0 pm0 cd0 ct0 : Value}
    {f1 : Addr} {od1 an1 : Option Addr} {sl1 : Array (Option Value)} {oc1 kV1 dc1 pm1 cd1 ct1 : Value}
    {f2 : Addr} {od2 an2 : Option Addr} {sl2 : Array (Option Value)} {oc2 kV2 dc2 pm2 cd2 ct2 : Value}
    {f3 : Addr} {od3 an3 : Option Addr} {sl3 : Array (Option Value)} {oc3 kV3 dc3 pm3 cd3 ct3 : Value}
    {f4 : Addr} {od4 an4 : Option Addr} {sl4 : Array (Option Value)} {oc4 kV4 dc4 pm4 cd4 ct4 : Value}
    {f5 : Addr} {od5 an5 : Option Addr} {sl5 : Array (Option Value)} {oc5 kV5 dc5 pm5 cd5 ct5 : Value}
    {f6 : Addr} {od6 an6 : Option Addr} {sl6 : Array (Option Value)} {oc6 kV6 dc6 pm6 cd6 ct6 : Value}
    {f7 : Addr} {od7 an7 : Option Addr} {sl7 : Array (Option Value)} {oc7 kV7 dc7 pm7 cd7 ct7 : Value}
    {f8 : Addr} {od8 an8 : Option Addr} {sl8 : Array (Option Value)} {oc8 kV8 dc8 pm8 cd8 ct8 : Value}
    {f9 : Addr} {od9 an9 : Option Addr} {sl9 : Array (Option Value)} {oc9 kV9 dc9 pm9 cd9 ct9 : Value}
    {f10 : Addr} {od10 an10 : Option Addr} {sl10 : Array (Option Value)} {oc10 kV10 dc10 pm10 cd10 ct10 : Value}
    {f11 : Addr} {od11 an11 : Option Addr} {sl11 : Array (Option Value)} {oc11 kV11 dc11 pm11 cd11 ct11 : Value}
    {f12 : Addr} {od12 an12 : Option Addr} {sl12 : Array (Option Value)} {oc12 kV12 dc12 pm12 cd12 ct12 : Value}
    {f13 : Addr} {od13 an13 : Option Addr} {sl13 : Array (Option Value)} {oc13 kV13 dc13 pm13 cd13 ct13 : Value}
    {f14 : Addr} {od14 an14 : Option Addr} {sl14 : Array (Option Value)} {oc14 kV14 dc14 pm14 cd14 ct14 : Value}
    {f15 : Addr} {od15 an15 : Option Addr} {sl15 : Array (Option Value)} {oc15 kV15 dc15 pm15 cd15 ct15 : Value}
    {f16 : Addr} {od16 an16 : Option Addr} {sl16 : Array (Option Value)} {oc16 kV16 dc16 pm16 cd16 ct16 : Value}
    {f17 : Addr} {od17 an17 : Option Addr} {sl17 : Array (Option Value)} {oc17 kV17 dc17 pm17 cd17 ct17 : Value}
    {f18 : Addr} {od18 an18 : Option Addr} {sl18 : Array (Option Value)} {oc18 kV18 dc18 pm18 cd18 ct18 : Value}
    {f19 : Addr} {od19 an19 : Option Addr} {sl19 : Array (Option Value)} {oc19 kV19 dc19 pm19 cd19 ct19 : Value}
    {f20 : Addr} {od20 an20 : Option Addr} {sl20 : Array (Option Value)} {oc20 kV20 dc20 pm20 cd20 ct20 : Value}
    {f21 : Addr} {od21 an21 : Option Addr} {sl21 : Array (Option Value)} {oc21 kV21 dc21 pm21 cd21 ct21 : Value}
    {g0 : Addr} {gd0 : Option Addr} {gs0 : Array (Option Value)} {gn0 : Nat} {t0_0 t0_1 : Tok}
    {yk_MUST : Tok}
    (e0 : PySem.W.nsIn K mainGlobals "part" = some (some (.ref f0)))
    (l0 : K.lookup f0 = some ⟨oc0, od0, .func (PySem.W.fnOf "part" "part" (defArgs s_part) (defBody s_part) (defScope s_part) .none kV0 dc0 pm0 an0 cd0 ct0), sl0⟩)
    (c0 : PySem.W.codeIn K cd0 "part" = true)
    (k0 : PySem.W.keepIn K (.ref f0) = true)
    (e1 : PySem.W.nsIn K mainGlobals "greatest_divisor" = some (some (.ref f1)))
    (l1 : K.lookup f1 = some ⟨oc1, od1, .func (PySem.W.fnOf "greatest_divisor" "greatest_divisor" (defArgs s_greatest_divisor) (defBody s_greatest_divisor) (defScope s_greatest_divisor) .none kV1 dc1 pm1 an1 cd1 ct1), sl1⟩)
    (c1 : PySem.W.codeIn K cd1 "greatest_divisor" = true)
    (k1 : PySem.W.keepIn K (.ref f1) = true)
    (e2 : PySem.W.nsIn K mainGlobals "plus" = some (some (.ref f2)))
    (l2 : K.lookup f2 = some ⟨oc2, od2, .func (PySem.W.fnOf "plus" "plus" (defArgs s_plus) (defBody s_plus) (defScope s_plus) .none kV2 dc2 pm2 an2 cd2 ct2), sl2⟩)
    (c2 : PySem.W.codeIn K cd2 "plus" = true)
    (k2 : PySem.W.keepIn K (.ref f2) = true)
    (e3 : PySem.W.nsIn K mainGlobals "times" = some (some (.ref f3)))
    (l3 : K.lookup f3 = some ⟨oc3, od3, .func (PySem.W.fnOf "times" "times" (defArgs s_times) (defBody s_times) (defScope s_times) .none kV3 dc3 pm3 an3 cd3 ct3), sl3⟩)
    (c3 : PySem.W.codeIn K cd3 "times" = true)
    (k3 : PySem.W.keepIn K (.ref f3) = true)
    (e4 : PySem.W.nsIn K mainGlobals "under" = some (some (.ref f4)))
    (l4 : K.lookup f4 = some ⟨oc4, od4, .func (PySem.W.fnOf "under" "under" (defArgs s_under) (defBody s_under) (defScope s_under) .none kV4 dc4 pm4 an4 cd4 ct4), sl4⟩)
    (c4 : PySem.W.codeIn K cd4 "under" = true)
    (k4 : PySem.W.keepIn K (.ref f4) = true)
    (e5 : PySem.W.nsIn K mainGlobals "signs_good" = some (some (.ref f5)))
    (l5 : K.lookup f5 = some ⟨oc5, od5, .func (PySem.W.fnOf "signs_good" "signs_good" (defArgs s_signs_good) (defBody s_signs_good) (defScope s_signs_good) .none kV5 dc5 pm5 an5 cd5 ct5), sl5⟩)
    (c5 : PySem.W.codeIn K cd5 "signs_good" = true)
    (k5 : PySem.W.keepIn K (.ref f5) = true)
    (e6 : PySem.W.nsIn K mainGlobals "weighed" = some (some (.ref f6)))
    (l6 : K.lookup f6 = some ⟨oc6, od6, .func (PySem.W.fnOf "weighed" "weighed" (defArgs s_weighed) (defBody s_weighed) (defScope s_weighed) .none kV6 dc6 pm6 an6 cd6 ct6), sl6⟩)
    (c6 : PySem.W.codeIn K cd6 "weighed" = true)
    (k6 : PySem.W.keepIn K (.ref f6) = true)
    (e7 : PySem.W.nsIn K mainGlobals "column" = some (some (.ref f7)))
    (l7 : K.lookup f7 = some ⟨oc7, od7, .func (PySem.W.fnOf "column" "column" (defArgs s_column) (defBody s_column) (defScope s_column) .none kV7 dc7 pm7 an7 cd7 ct7), sl7⟩)
    (c7 : PySem.W.codeIn K cd7 "column" = true)
    (k7 : PySem.W.keepIn K (.ref f7) = true)
    (e8 : PySem.W.nsIn K mainGlobals "shows_clash" = some (some (.ref f8)))
    (l8 : K.lookup f8 = some ⟨oc8, od8, .func (PySem.W.fnOf "shows_clash" "shows_clash" (defArgs s_shows_clash) (defBody s_shows_clash) (defScope s_shows_clash) .none kV8 dc8 pm8 an8 cd8 ct8), sl8⟩)
    (c8 : PySem.W.codeIn K cd8 "shows_clash" = true)
    (k8 : PySem.W.keepIn K (.ref f8) = true)
    (e9 : PySem.W.nsIn K mainGlobals "rising_musts" = some (some (.ref f9)))
    (l9 : K.lookup f9 = some ⟨oc9, od9, .func (PySem.W.fnOf "rising_musts" "rising_musts" (defArgs s_rising_musts) (defBody s_rising_musts) (defScope s_rising_musts) .none kV9 dc9 pm9 an9 cd9 ct9), sl9⟩)
    (c9 : PySem.W.codeIn K cd9 "rising_musts" = true)
    (k9 : PySem.W.keepIn K (.ref f9) = true)
    (e10 : PySem.W.nsIn K mainGlobals "_law_cell_at" = some (some (.ref f10)))
    (l10 : K.lookup f10 = some ⟨oc10, od10, .func (PySem.W.fnOf "_law_cell_at" "_law_cell_at" (defArgs s_law_cell_at) (defBody s_law_cell_at) (defScope s_law_cell_at) .none kV10 dc10 pm10 an10 cd10 ct10), sl10⟩)
    (c10 : PySem.W.codeIn K cd10 "_law_cell_at" = true)
    (k10 : PySem.W.keepIn K (.ref f10) = true)
    (e11 : PySem.W.nsIn K mainGlobals "_law_mix" = some (some (.ref f11)))
    (l11 : K.lookup f11 = some ⟨oc11, od11, .func (PySem.W.fnOf "_law_mix" "_law_mix" (defArgs s_law_mix) (defBody s_law_mix) (defScope s_law_mix) .none kV11 dc11 pm11 an11 cd11 ct11), sl11⟩)
    (c11 : PySem.W.codeIn K cd11 "_law_mix" = true)
    (k11 : PySem.W.keepIn K (.ref f11) = true)
    (e12 : PySem.W.nsIn K mainGlobals "_law_divisor" = some (some (.ref f12)))
    (l12 : K.lookup f12 = some ⟨oc12, od12, .func (PySem.W.fnOf "_law_divisor" "_law_divisor" (defArgs s_law_divisor) (defBody s_law_divisor) (defScope s_law_divisor) .none kV12 dc12 pm12 an12 cd12 ct12), sl12⟩)
    (c12 : PySem.W.codeIn K cd12 "_law_divisor" = true)
    (k12 : PySem.W.keepIn K (.ref f12) = true)
    (e13 : PySem.W.nsIn K mainGlobals "_law_lowest" = some (some (.ref f13)))
    (l13 : K.lookup f13 = some ⟨oc13, od13, .func (PySem.W.fnOf "_law_lowest" "_law_lowest" (defArgs s_law_lowest) (defBody s_law_lowest) (defScope s_law_lowest) .none kV13 dc13 pm13 an13 cd13 ct13), sl13⟩)
    (c13 : PySem.W.codeIn K cd13 "_law_lowest" = true)
    (k13 : PySem.W.keepIn K (.ref f13) = true)
    (e14 : PySem.W.nsIn K mainGlobals "_law_add" = some (some (.ref f14)))
    (l14 : K.lookup f14 = some ⟨oc14, od14, .func (PySem.W.fnOf "_law_add" "_law_add" (defArgs s_law_add) (defBody s_law_add) (defScope s_law_add) .none kV14 dc14 pm14 an14 cd14 ct14), sl14⟩)
    (c14 : PySem.W.codeIn K cd14 "_law_add" = true)
    (k14 : PySem.W.keepIn K (.ref f14) = true)
    (e15 : PySem.W.nsIn K mainGlobals "_law_row" = some (some (.ref f15)))
    (l15 : K.lookup f15 = some ⟨oc15, od15, .func (PySem.W.fnOf "_law_row" "_law_row" (defArgs s_law_row) (defBody s_law_row) (defScope s_law_row) .none kV15 dc15 pm15 an15 cd15 ct15), sl15⟩)
    (c15 : PySem.W.codeIn K cd15 "_law_row" = true)
    (k15 : PySem.W.keepIn K (.ref f15) = true)
    (e16 : PySem.W.nsIn K mainGlobals "_law_weight" = some (some (.ref f16)))
    (l16 : K.lookup f16 = some ⟨oc16, od16, .func (PySem.W.fnOf "_law_weight" "_law_weight" (defArgs s_law_weight) (defBody s_law_weight) (defScope s_law_weight) .none kV16 dc16 pm16 an16 cd16 ct16), sl16⟩)
    (c16 : PySem.W.codeIn K cd16 "_law_weight" = true)
    (k16 : PySem.W.keepIn K (.ref f16) = true)
    (e17 : PySem.W.nsIn K mainGlobals "_law_scaled" = some (some (.ref f17)))
    (l17 : K.lookup f17 = some ⟨oc17, od17, .func (PySem.W.fnOf "_law_scaled" "_law_scaled" (defArgs s_law_scaled) (defBody s_law_scaled) (defScope s_law_scaled) .none kV17 dc17 pm17 an17 cd17 ct17), sl17⟩)
    (c17 : PySem.W.codeIn K cd17 "_law_scaled" = true)
    (k17 : PySem.W.keepIn K (.ref f17) = true)
    (e18 : PySem.W.nsIn K mainGlobals "_law_right" = some (some (.ref f18)))
    (l18 : K.lookup f18 = some ⟨oc18, od18, .func (PySem.W.fnOf "_law_right" "_law_right" (defArgs s_law_right) (defBody s_law_right) (defScope s_law_right) .none kV18 dc18 pm18 an18 cd18 ct18), sl18⟩)
    (c18 : PySem.W.codeIn K cd18 "_law_right" = true)
    (k18 : PySem.W.keepIn K (.ref f18) = true)
    (e19 : PySem.W.nsIn K mainGlobals "_law_evened" = some (some (.ref f19)))
    (l19 : K.lookup f19 = some ⟨oc19, od19, .func (PySem.W.fnOf "_law_evened" "_law_evened" (defArgs s_law_evened) (defBody s_law_evened) (defScope s_law_evened) .none kV19 dc19 pm19 an19 cd19 ct19), sl19⟩)
    (c19 : PySem.W.codeIn K cd19 "_law_evened" = true)
    (k19 : PySem.W.keepIn K (.ref f19) = true)
    (e20 : PySem.W.nsIn K mainGlobals "_law_put_off" = some (some (.ref f20)))
    (l20 : K.lookup f20 = some ⟨oc20, od20, .func (PySem.W.fnOf "_law_put_off" "_law_put_off" (defArgs s_law_put_off) (defBody s_law_put_off) (defScope s_law_put_off) .none kV20 dc20 pm20 an20 cd20 ct20), sl20⟩)
    (c20 : PySem.W.codeIn K cd20 "_law_put_off" = true)
    (k20 : PySem.W.keepIn K (.ref f20) = true)
    (e21 : PySem.W.nsIn K mainGlobals "law" = some (some (.ref f21)))
    (l21 : K.lookup f21 = some ⟨oc21, od21, .func (PySem.W.fnOf "law" "law" (defArgs s_law) (defBody s_law) (defScope s_law) .none kV21 dc21 pm21 an21 cd21 ct21), sl21⟩)
    (c21 : PySem.W.codeIn K cd21 "law" = true)
    (k21 : PySem.W.keepIn K (.ref f21) = true)
    (n0 : PySem.W.nsIn K mainGlobals "NOUGHT" = some (some (.ref g0)))
    (o0 : K.lookup g0 = some ⟨.type "tuple", gd0, .seq #[Value.int (0) t0_0, Value.int (1) t0_1] gn0, gs0⟩)
    (yi_MUST : PySem.W.nsIn K mainGlobals "MUST" = some (some (.int (0) yk_MUST)))
    (z0 : PySem.W.nsIn K mainGlobals "abs" = some none)
    (z1 : PySem.W.nsIn K mainGlobals "len" = some none)
    (z2 : PySem.W.nsIn K mainGlobals "range" = some none)
    (z3 : PySem.W.nsIn K mainGlobals "isinstance" = some none)
    (z4 : PySem.W.nsIn K mainGlobals "list" = some none)
    (z5 : PySem.W.nsIn K mainGlobals "any" = some none)
    (z6 : PySem.W.nsIn K mainGlobals "zip" = some none)
    (z7 : PySem.W.nsIn K mainGlobals "enumerate" = some none)
    (z8 : PySem.W.nsIn K mainGlobals "tuple" = some none)
    (z9 : PySem.W.nsIn K mainGlobals "bool" = some none)
    (z10 : PySem.W.nsIn K mainGlobals "set" = some none)
    (z11 : PySem.W.nsIn K mainGlobals "sorted" = some none)
    (z12 : PySem.W.nsIn K mainGlobals "reversed" = some none)
    (z13 : PySem.W.nsIn K mainGlobals "max" = some none)
    : Tx K mg where
  a_part := f0
  d_part := _
  F_part := fun_mk (st := s_part) l0 c0 k0
  b_part := (fun_mk (st := s_part) l0 c0 k0).binds (ps := ["top", "bottom"]) fun _ _ _ _ _ _ us hl => match us, hl with | [_, _], _ => rfl
  m_part := PySem.W.mg_of X G e0
  a_greatest_divisor := f1
  d_greatest_divisor := _
  F_greatest_divisor := fun_mk (st := s_greatest_divisor) l1 c1 k1
  b_greatest_divisor := (fun_mk (st := s_greatest_divisor) l1 c1 k1).binds (ps := ["one", "other"]) fun _ _ _ _ _ _ us hl => match us, hl with | [_, _], _ => rfl
  m_greatest_divisor := PySem.W.mg_of X G e1
  a_plus := f2
  d_plus := _
  F_plus := fun_mk (st := s_plus) l2 c2 k2
  b_plus := (fun_mk (st := s_plus) l2 c2 k2).binds (ps := ["one", "other"]) fun _ _ _ _ _ _ us hl => match us, hl with | [_, _], _ => rfl
  m_plus := PySem.W.mg_of X G e2
  a_times := f3
  d_times := _
  F_times := fun_mk (st := s_times) l3 c3 k3
  b_times := (fun_mk (st := s_times) l3 c3 k3).binds (ps := ["one", "other"]) fun _ _ _ _ _ _ us hl => match us, hl with | [_, _], _ => rfl
  m_times := PySem.W.mg_of X G e3
  a_under := f4
  d_under := _
  F_under := fun_mk (st := s_under) l4 c4 k4
  b_under := (fun_mk (st := s_under) l4 c4 k4).binds (ps := ["one", "other"]) fun _ _ _ _ _ _ us hl => match us, hl with | [_, _], _ => rfl
  m_under := PySem.W.mg_of X G e4
  a_signs_good := f5
  d_signs_good := _
  F_signs_good := fun_mk (st := s_signs_good) l5 c5 k5
  b_signs_good := (fun_mk (st := s_signs_good) l5 c5 k5).binds (ps := ["rows", "prices"]) fun _ _ _ _ _ _ us hl => match us, hl with | [_, _], _ => rfl
  m_signs_good := PySem.W.mg_of X G e5
  a_weighed := f6
  d_weighed := _
  F_weighed := fun_mk (st := s_weighed) l6 c6 k6
  b_weighed := (fun_mk (st := s_weighed) l6 c6 k6).binds (ps := ["weights", "numbers"]) fun _ _ _ _ _ _ us hl => match us, hl with | [_, _], _ => rfl
  m_weighed := PySem.W.mg_of X G e6
  a_column := f7
  d_column := _
  F_column := fun_mk (st := s_column) l7 c7 k7
  b_column := (fun_mk (st := s_column) l7 c7 k7).binds (ps := ["rows", "prices", "unknown"]) fun _ _ _ _ _ _ us hl => match us, hl with | [_, _, _], _ => rfl
  m_column := PySem.W.mg_of X G e7
  a_shows_clash := f8
  d_shows_clash := _
  F_shows_clash := fun_mk (st := s_shows_clash) l8 c8 k8
  b_shows_clash := (fun_mk (st := s_shows_clash) l8 c8 k8).binds (ps := ["rows", "unknowns", "numbers", "weights"]) fun _ _ _ _ _ _ us hl => match us, hl with | [_, _, _, _], _ => rfl
  m_shows_clash := PySem.W.mg_of X G e8
  a_rising_musts := f9
  d_rising_musts := _
  F_rising_musts := fun_mk (st := s_rising_musts) l9 c9 k9
  b_rising_musts := (fun_mk (st := s_rising_musts) l9 c9 k9).binds (ps := ["rows", "numbers"]) fun _ _ _ _ _ _ us hl => match us, hl with | [_, _], _ => rfl
  m_rising_musts := PySem.W.mg_of X G e9
  a_law_cell_at := f10
  d_law_cell_at := _
  F_law_cell_at := fun_mk (st := s_law_cell_at) l10 c10 k10
  b_law_cell_at := (fun_mk (st := s_law_cell_at) l10 c10 k10).binds (ps := ["_law_script", "_law_k"]) fun _ _ _ _ _ _ us hl => match us, hl with | [_, _], _ => rfl
  m_law_cell_at := PySem.W.mg_of X G e10
  a_law_mix := f11
  d_law_mix := _
  F_law_mix := fun_mk (st := s_law_mix) l11 c11 k11
  b_law_mix := (fun_mk (st := s_law_mix) l11 c11 k11).binds (ps := ["_law_cell", "_law_k"]) fun _ _ _ _ _ _ us hl => match us, hl with | [_, _], _ => rfl
  m_law_mix := PySem.W.mg_of X G e11
  a_law_divisor := f12
  d_law_divisor := _
  F_law_divisor := fun_mk (st := s_law_divisor) l12 c12 k12
  b_law_divisor := (fun_mk (st := s_law_divisor) l12 c12 k12).binds (ps := ["_law_one", "_law_other"]) fun _ _ _ _ _ _ us hl => match us, hl with | [_, _], _ => rfl
  m_law_divisor := PySem.W.mg_of X G e12
  a_law_lowest := f13
  d_law_lowest := _
  F_law_lowest := fun_mk (st := s_law_lowest) l13 c13 k13
  b_law_lowest := (fun_mk (st := s_law_lowest) l13 c13 k13).binds (ps := ["_law_top", "_law_bottom"]) fun _ _ _ _ _ _ us hl => match us, hl with | [_, _], _ => rfl
  m_law_lowest := PySem.W.mg_of X G e13
  a_law_add := f14
  d_law_add := _
  F_law_add := fun_mk (st := s_law_add) l14 c14 k14
  b_law_add := (fun_mk (st := s_law_add) l14 c14 k14).binds (ps := ["_law_pairs"]) fun _ _ _ _ _ _ us hl => match us, hl with | [_], _ => rfl
  m_law_add := PySem.W.mg_of X G e14
  a_law_row := f15
  d_law_row := _
  F_law_row := fun_mk (st := s_law_row) l15 c15 k15
  b_law_row := (fun_mk (st := s_law_row) l15 c15 k15).binds (ps := ["_law_cell", "_law_some"]) fun _ _ _ _ _ _ us hl => match us, hl with | [_, _], _ => rfl
  m_law_row := PySem.W.mg_of X G e15
  a_law_weight := f16
  d_law_weight := _
  F_law_weight := fun_mk (st := s_law_weight) l16 c16 k16
  b_law_weight := (fun_mk (st := s_law_weight) l16 c16 k16).binds (ps := ["_law_one", "_law_mixed"]) fun _ _ _ _ _ _ us hl => match us, hl with | [_, _], _ => rfl
  m_law_weight := PySem.W.mg_of X G e16
  a_law_scaled := f17
  d_law_scaled := _
  F_law_scaled := fun_mk (st := s_law_scaled) l17 c17 k17
  b_law_scaled := (fun_mk (st := s_law_scaled) l17 c17 k17).binds (ps := ["_law_chosen", "_law_weights"]) fun _ _ _ _ _ _ us hl => match us, hl with | [_, _], _ => rfl
  m_law_scaled := PySem.W.mg_of X G e17
  a_law_right := f18
  d_law_right := _
  F_law_right := fun_mk (st := s_law_right) l18 c18 k18
  b_law_right := (fun_mk (st := s_law_right) l18 c18 k18).binds (ps := ["_law_rows", "_law_some", "_law_numbers", "_law_weights"]) fun _ _ _ _ _ _ us hl => match us, hl with | [_, _, _, _], _ => rfl
  m_law_right := PySem.W.mg_of X G e18
  a_law_evened := f19
  d_law_evened := _
  F_law_evened := fun_mk (st := s_law_evened) l19 c19 k19
  b_law_evened := (fun_mk (st := s_law_evened) l19 c19 k19).binds (ps := ["_law_rows", "_law_some", "_law_numbers", "_law_weights", "_law_mixed"]) fun _ _ _ _ _ _ us hl => match us, hl with | [_, _, _, _, _], _ => rfl
  m_law_evened := PySem.W.mg_of X G e19
  a_law_put_off := f20
  d_law_put_off := _
  F_law_put_off := fun_mk (st := s_law_put_off) l20 c20 k20
  b_law_put_off := (fun_mk (st := s_law_put_off) l20 c20 k20).binds (ps := ["_law_rows", "_law_numbers", "_law_weights", "_law_mixed"]) fun _ _ _ _ _ _ us hl => match us, hl with | [_, _, _, _], _ => rfl
  m_law_put_off := PySem.W.mg_of X G e20
  a_law := f21
  d_law := _
  F_law := fun_mk (st := s_law) l21 c21 k21
  b_law := (fun_mk (st := s_law) l21 c21 k21).binds (ps := ["_law_script"]) fun _ _ _ _ _ _ us hl => match us, hl with | [_], _ => rfl
  m_law := PySem.W.mg_of X G e21
  c_NOUGHT := g0
  m_NOUGHT := PySem.W.mg_of X G n0
  t_NOUGHT := ⟨_, _, _, o0, rfl, rfl, (by show 2 ≤ sizeLine; decide), (.cons ⟨_, rfl⟩ (.cons ⟨_, rfl⟩ .nil))⟩
  k_MUST := yk_MUST
  m_MUST := PySem.W.mg_of X G yi_MUST
  z_abs := PySem.W.mg_none_of X G z0
  z_len := PySem.W.mg_none_of X G z1
  z_range := PySem.W.mg_none_of X G z2
  z_isinstance := PySem.W.mg_none_of X G z3
  z_list := PySem.W.mg_none_of X G z4
  z_any := PySem.W.mg_none_of X G z5
  z_zip := PySem.W.mg_none_of X G z6
  z_enumerate := PySem.W.mg_none_of X G z7
  z_tuple := PySem.W.mg_none_of X G z8
  z_bool := PySem.W.mg_none_of X G z9
  z_set := PySem.W.mg_none_of X G z10
  z_sorted := PySem.W.mg_none_of X G z11
  z_reversed := PySem.W.mg_none_of X G z12
  z_max := PySem.W.mg_none_of X G z13
section
variable {P : Program} {w : World} {K : PySem.W.Frag} {mg : Str → Option Value} {base : Heap}
local macro_rules | `(tactic| walk_at "v0") => `(tactic| first
  | with_reducible refine a_asg ?_
  | with_reducible refine a_name ?_
  | with_reducible refine a_ret ?_
  | with_reducible refine a_drop ?_
  | with_reducible refine a_next ?_
  | with_reducible refine a_if ?_
  | ((with_reducible refine' a_var ?ve ?_); (case ve => rfl))
  | with_reducible refine a_c ?_
  | with_reducible refine a_op ?_
  | with_reducible refine a_un ?_
  | with_reducible refine a_I0 ?_
  | with_reducible refine a_U ?_
  | with_reducible refine a_test ?_
  | with_reducible refine a_tB ?_
  | with_reducible refine a_bl ?_
  | with_reducible refine a_eqI ?_
  | with_reducible refine a_neI ?_
  | with_reducible refine a_eqB ?_
  | with_reducible refine a_neB ?_
  | with_reducible refine a_call ?_
  | with_reducible refine a_cons ?_
  | with_reducible refine a_nil ?_
  | with_reducible refine a_cb ?_
  | with_reducible refine a_tup ?_
  | with_reducible refine a_lst ?_
  | with_reducible refine a_and ?_
  | with_reducible refine a_or ?_
  | with_reducible refine a_not ?_
  | with_reducible refine a_andV ?_
  | with_reducible refine a_orV ?_
  | with_reducible refine a_notV ?_
  | with_reducible refine a_ifE ?_
  | with_reducible refine a_sl ?_
  | with_reducible refine a_part ?_
  | with_reducible refine a_noPart ?_
  | with_reducible refine a_pint ?_
  | with_reducible refine a_par ?_
  | with_reducible refine a_par2 ?_
  | dsimp only)
local macro_rules | `(tactic| walk_at "v") => `(tactic| first | with_reducible refine a_seq ?_ | walk_at "v0")
local macro_rules | `(tactic| walk_at "vt") => `(tactic| repeat walk_at "v0")
local macro_rules | `(tactic| walk_at "vs") => `(tactic| repeat walk_at "v")
local macro_rules | `(tactic| walk_at "o") => `(tactic| first | assumption | omega | rfl | trivial | decide | (refine ⟨?_, ?_⟩ <;> walk_at "o"))
local macro_rules | `(tactic| walk_at "ol") => `(tactic| first | omega | (simp only [List.length_cons, List.length_nil, List.length_append]; omega) | (simp only [List.length_cons, List.length_nil, List.length_append, List.length_map, List.length_replicate]; omega))
local macro_rules | `(tactic| walk_at "om") => `(tactic| first | exact mulL2 (by omega) (by omega) | exact mulR2 (by omega) (by omega) | exact mulLB (by omega) | exact mulRB (by omega) | exact mulBB (by omega) (by omega))
local macro_rules | `(tactic| walk_at "od") => `(tactic| first | exact divB (by omega) (by omega))
/-! ### numbers -/
def sp_gd : Sp := fun vs H Q _ => ∃ a b : Int, vs = [.int a, .int b] ∧ 0 ≤ a ∧ 0 ≤ b ∧ Q (.int (gd a b)) H
theorem ok_greatest_divisor (T : Tx K mg) : FnOk P w K mg base CX0 1 T.a_greatest_divisor T.d_greatest_divisor ["one", "other"] sp_gd := by
  refine T.F_greatest_divisor.ok sc_greatest_divisor (fun vs H Q E h => ?_) (fun cdv A outer s H vs Q E hr h => ?_)
  · obtain ⟨a, b, rfl, _⟩ := h
    rfl
  · obtain ⟨a, b, rfl, ha, hb, k⟩ := h
    refine ⟨_, (ZSs.h (zss_cons (ps_while PassesOwn.never (pt_cmpR op_ne (pv 1) pe_int (nomark _)) (ZSs.h (zss_cons (ps_set (i := 2) sc_greatest_divisor.nd rfl (Or.inl rfl) (pe_op op_mod (pv 0) (pv 1)))
      (zss_cons (ps_set (i := 0) sc_greatest_divisor.nd rfl (Or.inl rfl) (pv 1))
      (zss_one (ps_set (i := 1) sc_greatest_divisor.nd rfl (Or.inl rfl) (pv 2)))))))
      (zss_one (ps_ret (pv 0))))), ?_⟩
    refine a_seq ?_
    refine ⟨fun m σ H' => ∃ (x y : Int) (z : Option V), σ = [some (.int x), some (.int y), z] ∧ H' = H ∧ 0 ≤ x ∧ 0 ≤ y ∧ gd x y = gd a b ∧ m = y.toNat, ⟨b.toNat, a, b, none, rfl, rfl, ha, hb, rfl, rfl⟩, ?_⟩
    rintro m σ H' ⟨x, y, z, rfl, rfl, hx, hy, e, rfl⟩
    walk_at "vs"
    refine iteDN (fun hne => ?_) (fun hz => ?_)
    · refine ⟨fun σ' H' => ∃ (x' y' : Int) (z : Option V), σ' = [some (.int x'), some (.int y'), z] ∧ H' = _ ∧ 0 ≤ x' ∧ 0 ≤ y' ∧ gd x' y' = gd a b ∧ y'.toNat < y.toNat, fun σ' H' ⟨x', y', z', e1, e2, e3, e4, e5, e6⟩ => ⟨y'.toNat, e6, x', y', z', e1, e2, e3, e4, e5, rfl⟩, ?_⟩
      walk_at "vs"
      refine a_I (by omega) ?_
      walk_at "vs"
      refine ⟨y, x % y, _, rfl, rfl, hy, Int.emod_nonneg _ hne, ?_, ?_⟩
      · rw [gd_mod hx (by omega)]; exact e
      · have := Int.emod_lt_of_pos x (show 0 < y by omega)
        have := Int.emod_nonneg x hne
        omega
    · walk_at "vs"
      rw [hz, gd_zero x hx] at e
      rw [e]
      exact k
def sp_part : Sp := fun vs H Q _ => ∃ t b : Int, vs = [.int t, .int b] ∧ b ≠ 0 ∧ b.natAbs < 2 ^ 8000 ∧ ∀ p, H p = none → Q (.ref p) (upd H p (.tup (fr (Rat.divInt t b))))
theorem gd_le {t b : Int} (h : b ≠ 0) : (gd t b).natAbs ≤ b.natAbs := by
  have h1 := gd_dvd_r t b
  have h2 := Int.natAbs_dvd_natAbs.mpr h1
  exact Nat.le_of_dvd (by omega) h2
theorem dv_le {t b : Int} (h : b ≠ 0) : (dv t b).natAbs ≤ b.natAbs := by
  have := gd_le (t := t) h
  unfold dv
  split
  · rw [Int.natAbs_neg]; exact this
  · exact this
theorem ok_part (T : Tx K mg) : FnOk P w K mg base CX0 2 T.a_part T.d_part ["top", "bottom"] sp_part := by
  refine T.F_part.ok sc_part (fun vs H Q E h => ?_) (fun cdv A outer s H vs Q E hr h => ?_)
  · obtain ⟨a, b, rfl, _⟩ := h
    rfl
  · obtain ⟨t, b, rfl, hb, hz, k⟩ := h
    refine ⟨_, (ZSs.h (zss_cons (ps_if (pt_cmpR op_eq (pv 1) pe_int (nomark _)) (pss_one ps_never) pss_nil)
      (zss_cons (ps_set (i := 2) sc_part.nd rfl (Or.inl rfl) (pe_call ((ok_greatest_divisor T).mono (by decide)) hr rfl T.m_greatest_divisor T.F_greatest_divisor.kp T.b_greatest_divisor .nil pass0 (pa_cons (pe_callB call_abs rfl T.z_abs rfl (pa_cons (pv 0) pa_nil)) (pa_cons (pe_callB call_abs rfl T.z_abs rfl (pa_cons (pv 1) pa_nil)) pa_nil))))
      (zss_cons (ps_if (pt_cmpR op_lt (pv 1) pe_int (nomark _)) (pss_one (ps_set (i := 2) sc_part.nd rfl (Or.inl rfl) (pe_un un_neg (pv 2)))) pss_nil)
      (zss_one (ps_ret (pe_tup (pa_cons (pe_op op_fdivB (pv 0) (pv 2)) (pa_cons (pe_op op_fdivB (pv 1) (pv 2)) pa_nil))))))))), ?_⟩
    walk_at "vs"
    refine iteDF hb ?_
    walk_at "vs"
    refine ⟨t, rfl, ?_⟩
    walk_at "vs"
    refine ⟨b, rfl, ?_⟩
    walk_at "vs"
    have e : gd (if t < 0 then -t else t) (if b < 0 then -b else b) = gd t b := gd_abs' t b
    refine ⟨_, _, rfl, (by split <;> omega), (by split <;> omega), ?_⟩
    rw [e]
    have hd := dv_ne (t := t) hb
    have hl : (dv t b).natAbs < 2 ^ 8000 := Nat.lt_of_le_of_lt (dv_le hb) hz
    have fin : ∀ p, H p = none → Q (.ref p) (upd H p (.tup [.int (t.fdiv (dv t b)), .int (b.fdiv (dv t b))])) := fun p hp => by
      rw [part_num hb, part_den hb]
      exact k p hp
    walk_at "vs"
    refine iteD (fun hn => ?_) (fun hn => ?_)
    · have ed : -(gd t b) = dv t b := by unfold dv; rw [if_pos hn]
      walk_at "vs"
      rw [ed]
      refine a_I ⟨hd, hl⟩ ?_
      walk_at "vs"
      refine a_I ⟨hd, hl⟩ ?_
      walk_at "vs"
      exact ⟨by show 2 ≤ sizeLine; decide, fin⟩
    · have ed : gd t b = dv t b := by unfold dv; rw [if_neg hn]
      walk_at "vs"
      rw [ed]
      refine a_I ⟨hd, hl⟩ ?_
      walk_at "vs"
      refine a_I ⟨hd, hl⟩ ?_
      walk_at "vs"
      exact ⟨by show 2 ≤ sizeLine; decide, fin⟩
def sp_two (f : Rat → Rat → Rat) (K : PySem.W.Frag) : Sp := fun vs H Q _ => ∃ (a b : Addr) (p q : Rat), vs = [.ref a, .ref b] ∧ SqT K H a (fr p) ∧ SqT K H b (fr q) ∧ Sm 3900 p ∧ Sm 3900 q ∧ ∀ c, H c = none → Q (.ref c) (upd H c (.tup (fr (f p q))))
theorem mulB {x y : Int} (h1 : x.natAbs < 2 ^ 3900) (h2 : y.natAbs < 2 ^ 3900) : CMulX x y := .inr ⟨3900, by decide, h1, h2⟩
theorem ok_plus (T : Tx K mg) : FnOk P w K mg base CX0 3 T.a_plus T.d_plus ["one", "other"] (sp_two (· + ·) K) := by
  refine T.F_plus.ok sc_plus (fun vs H Q E h => ?_) (fun cdv A outer s H vs Q E hr h => ?_)
  · obtain ⟨a, b, p, q, rfl, _⟩ := h
    rfl
  · obtain ⟨a, b, p, q, rfl, ta, tb, sp, sq, k⟩ := h
    refine ⟨_, (pss_one (ps_ret (pe_call ((ok_part T).mono (by decide)) hr rfl T.m_part T.F_part.kp T.b_part .nil pass0 (pa_cons (pe_op op_add (pe_op op_mulB (pe_ix ix_tup (pv 0) pe_int (fun _ _ => rfl)) (pe_ix ix_tup (pv 1) pe_int (fun _ _ => rfl))) (pe_op op_mulB (pe_ix ix_tup (pv 1) pe_int (fun _ _ => rfl)) (pe_ix ix_tup (pv 0) pe_int (fun _ _ => rfl)))) (pa_cons (pe_op op_mulB (pe_ix ix_tup (pv 0) pe_int (fun _ _ => rfl)) (pe_ix ix_tup (pv 1) pe_int (fun _ _ => rfl))) pa_nil))))), ?_⟩
    have d1 := den_abs sp
    have d2 := den_abs sq
    walk_at "vs"
    refine a_ixT ta (fr0 p) ?_
    walk_at "vs"
    refine a_ixT tb (fr1 q) ?_
    refine a_I (mulB sp.1 d2) ?_
    walk_at "vs"
    refine a_ixT tb (fr0 q) ?_
    walk_at "vs"
    refine a_ixT ta (fr1 p) ?_
    refine a_I (mulB sq.1 d1) ?_
    walk_at "vs"
    refine a_ixT ta (fr1 p) ?_
    walk_at "vs"
    refine a_ixT tb (fr1 q) ?_
    refine a_I (mulB d1 d2) ?_
    walk_at "vs"
    refine ⟨_, _, rfl, dens_ne p q, up2 (abs_mul_lt d1 d2) (by decide), fun c hc => ?_⟩
    have e := add_divInt p q
    rw [← e]
    exact k c hc
theorem ok_times (T : Tx K mg) : FnOk P w K mg base CX0 3 T.a_times T.d_times ["one", "other"] (sp_two (· * ·) K) := by
  refine T.F_times.ok sc_times (fun vs H Q E h => ?_) (fun cdv A outer s H vs Q E hr h => ?_)
  · obtain ⟨a, b, p, q, rfl, _⟩ := h
    rfl
  · obtain ⟨a, b, p, q, rfl, ta, tb, sp, sq, k⟩ := h
    refine ⟨_, (pss_one (ps_ret (pe_call ((ok_part T).mono (by decide)) hr rfl T.m_part T.F_part.kp T.b_part .nil pass0 (pa_cons (pe_op op_mulB (pe_ix ix_tup (pv 0) pe_int (fun _ _ => rfl)) (pe_ix ix_tup (pv 1) pe_int (fun _ _ => rfl))) (pa_cons (pe_op op_mulB (pe_ix ix_tup (pv 0) pe_int (fun _ _ => rfl)) (pe_ix ix_tup (pv 1) pe_int (fun _ _ => rfl))) pa_nil))))), ?_⟩
    have d1 := den_abs sp
    have d2 := den_abs sq
    walk_at "vs"
    refine a_ixT ta (fr0 p) ?_
    walk_at "vs"
    refine a_ixT tb (fr0 q) ?_
    refine a_I (mulB sp.1 sq.1) ?_
    walk_at "vs"
    refine a_ixT ta (fr1 p) ?_
    walk_at "vs"
    refine a_ixT tb (fr1 q) ?_
    refine a_I (mulB d1 d2) ?_
    walk_at "vs"
    refine ⟨_, _, rfl, dens_ne p q, up2 (abs_mul_lt d1 d2) (by decide), fun c hc => ?_⟩
    have e := mul_divInt p q
    rw [← e]
    exact k c hc
def sp_under (K : PySem.W.Frag) : Sp := fun vs H Q _ => ∃ (a b : Addr) (p q : Rat), vs = [.ref a, .ref b] ∧ SqT K H a (fr p) ∧ SqT K H b (fr q) ∧ Sm 3900 p ∧ Sm 3900 q ∧ Q (.bl (decide (p < q))) H
theorem lt_cross (p q : Rat) : decide (p.num * (q.den : Int) < q.num * (p.den : Int)) = decide (p < q) := by
  have h : p.num * (q.den : Int) < q.num * (p.den : Int) ↔ p < q := (Rat.lt_iff p q).symm
  by_cases c : p < q
  · rw [decide_eq_true c, decide_eq_true (h.mpr c)]
  · rw [decide_eq_false c, decide_eq_false (fun z => c (h.mp z))]
theorem ok_under (T : Tx K mg) : FnOk P w K mg base CX0 1 T.a_under T.d_under ["one", "other"] (sp_under K) := by
  refine T.F_under.ok sc_under (fun vs H Q E h => ?_) (fun cdv A outer s H vs Q E hr h => ?_)
  · obtain ⟨a, b, p, q, rfl, _⟩ := h
    rfl
  · obtain ⟨a, b, p, q, rfl, ta, tb, sp, sq, k⟩ := h
    refine ⟨_, (pss_one (ps_ret (pe_cmpR op_lt (pe_op op_mulB (pe_ix ix_tup (pv 0) pe_int (fun _ _ => rfl)) (pe_ix ix_tup (pv 1) pe_int (fun _ _ => rfl))) (pe_op op_mulB (pe_ix ix_tup (pv 1) pe_int (fun _ _ => rfl)) (pe_ix ix_tup (pv 0) pe_int (fun _ _ => rfl))) (nomark _)))), ?_⟩
    have d1 := den_abs sp
    have d2 := den_abs sq
    walk_at "vs"
    refine a_ixT ta (fr0 p) ?_
    walk_at "vs"
    refine a_ixT tb (fr1 q) ?_
    refine a_I (mulB sp.1 d2) ?_
    walk_at "vs"
    refine a_ixT tb (fr0 q) ?_
    walk_at "vs"
    refine a_ixT ta (fr1 p) ?_
    refine a_I (mulB sq.1 d1) ?_
    walk_at "vs"
    rw [lt_cross]
    exact k
theorem bi_mono {x y : Int} (h : x.natAbs ≤ y.natAbs) : bi x ≤ bi y := bi_lt (Nat.lt_of_le_of_lt h (lt_bi (Nat.le_refl _)))
theorem gd_abs0 (x : Int) : gd x 0 = if x < 0 then -x else x := by rw [abs_if]; unfold gd; rw [Int.gcd_zero_right]
theorem gd_mod' {a b : Int} (hb : 0 < b) : gd b (a % b) = gd a b := by
  unfold gd
  have e : a % b = a - b * (a / b) := Int.emod_def a b
  rw [e, Int.gcd_sub_mul_left_right, Int.gcd_comm]
theorem divInt_neg_iff {o b : Int} (hb : 0 < b) : Rat.divInt o b < 0 ↔ o < 0 := by
  have e := cross (t := o) (show b ≠ 0 by omega)
  rw [show Rat.divInt o b < 0 ↔ (Rat.divInt o b).num < 0 from by rw [Rat.lt_iff]; simp]
  have hd := den_pos (Rat.divInt o b)
  constructor
  · intro h
    have h1 : (Rat.divInt o b).num * b < 0 := Int.mul_neg_of_neg_of_pos h hb
    rw [e] at h1
    exact Int.not_le.mp (fun hn => by have := Int.mul_nonneg (Int.le_of_lt hd) hn; omega)
  · intro h
    have h1 : ((Rat.divInt o b).den : Int) * o < 0 := Int.mul_neg_of_pos_of_neg hd h
    rw [← e] at h1
    exact Int.not_le.mp (fun hn => by have := Int.mul_nonneg hn (Int.le_of_lt hb); omega)
theorem divInt_pos_iff {o b : Int} (hb : 0 < b) : 0 < Rat.divInt o b ↔ 0 < o := by
  have h := divInt_neg_iff (o := -o) hb
  rw [← Rat.neg_divInt] at h
  constructor
  · intro z; have := h.mp (by grind); omega
  · intro z; have := h.mpr (by omega); grind
abbrev U32 := Int ⊕ Str
abbrev Row32 := List (Str × Rat) × Str × Rat × Int × Int
def cntZ (t : U32) : List ((U32 × Rat) × Rat) → Rat
  | [] => 0
  | p :: r => cntZ t r + (if p.1.1 = t then p.2 else 0)
theorem cntZ_app (t : U32) : ∀ a b, cntZ t (a ++ b) = cntZ t a + cntZ t b
  | [], b => by show cntZ t b = 0 + _; rw [Rat.zero_add]
  | p :: a, b => by
    show cntZ t (a ++ b) + _ = (cntZ t a + _) + _
    rw [cntZ_app t a b]; grind
theorem takeS {α : Type} {xs : List α} {i : Nat} {x : α} (h : xs[i]? = some x) : xs.take (i + 1) = xs.take i ++ [x] := by rw [List.take_add_one, h]; rfl
theorem cntZ_snoc {t : U32} {z : List ((U32 × Rat) × Rat)} {i : Nat} {p : (U32 × Rat) × Rat} (h : z[i]? = some p) : cntZ t (z.take (i + 1)) = cntZ t (z.take i) + (if p.1.1 = t then p.2 else 0) := by
  rw [takeS h, cntZ_app]
  show _ + (0 + _) = _
  rw [Rat.zero_add]
theorem cnt_yes {t : U32} {z : List ((U32 × Rat) × Rat)} {i : Nat} {p : (U32 × Rat) × Rat} (h : z[i]? = some p) (e : p.1.1 = t) : cntZ t (z.take (i + 1)) = cntZ t (z.take i) + p.2 := by rw [cntZ_snoc h, if_pos e]
theorem cnt_no {t : U32} {z : List ((U32 × Rat) × Rat)} {i : Nat} {p : (U32 × Rat) × Rat} (h : z[i]? = some p) (e : ¬ p.1.1 = t) : cntZ t (z.take (i + 1)) = cntZ t (z.take i) := by rw [cntZ_snoc h, if_neg e, Rat.add_zero]
def cntR (settled : List (U32 × Rat)) (shares : List Rat) (goal t : U32) : Rat := (if t = goal then 1 else 0) + cntZ t (settled.zip shares)
def wgtZ : List (Rat × Rat) → Rat
  | [] => 0
  | p :: r => wgtZ r + p.1 * p.2
theorem wgtZ_app : ∀ a b, wgtZ (a ++ b) = wgtZ a + wgtZ b
  | [], b => by show wgtZ b = 0 + _; rw [Rat.zero_add]
  | p :: a, b => by
    show wgtZ (a ++ b) + _ = (wgtZ a + _) + _
    rw [wgtZ_app a b]; grind
theorem wgtZ_snoc {z : List (Rat × Rat)} {i : Nat} {p : Rat × Rat} (h : z[i]? = some p) : wgtZ (z.take (i + 1)) = wgtZ (z.take i) + p.1 * p.2 := by
  rw [takeS h, wgtZ_app]
  show _ + (0 + _) = _
  rw [Rat.zero_add]
theorem zip_at {α β : Type} {xs : List α} {ys : List β} {i : Nat} {x : α} {y : β} (h : xs[i]? = some x) (g : ys[i]? = some y) : (xs.zip ys)[i]? = some (x, y) := List.getElem?_zip_eq_some.mpr ⟨h, g⟩
theorem zip_all {α β : Type} (xs : List α) (ys : List β) : (xs.zip ys).take (min xs.length ys.length) = xs.zip ys := List.take_of_length_le (by rw [List.length_zip]; exact Nat.le_refl _)
def colR (rows : List Row32) (prices : List Rat) (u : Str) : Rat := wgtZ (prices.zip (rows.map (fun r => (gtd r.1 u).getD 0)))
def signB (rp : Row32 × Rat) : Bool := !(decide (rp.1.2.1 = "least") && decide (rp.2 < 0)) && !(decide (rp.1.2.1 = "most") && decide (0 < rp.2))
def roomR (settled : List (U32 × Rat)) (shares : List Rat) (goal : U32) (r : Row32) : Rat := ((r.2.2.2.2 : Int) : Rat) * cntR settled shares goal (.inl r.2.2.2.1)
def roomB (settled : List (U32 × Rat)) (shares : List Rat) (goal : U32) (rp : Row32 × Rat) : Bool := decide (rp.1.2.2.2.1 = 0) || (!decide (roomR settled shares goal rp.1 < rp.2) && !decide (rp.2 < 0 - roomR settled shares goal rp.1))
def colB (rows : List Row32) (prices : List Rat) (settled : List (U32 × Rat)) (shares : List Rat) (goal : U32) (u : Str) : Bool := !decide (cntR settled shares goal (.inr u) < colR rows prices u)
def holdsB (rows : List Row32) (unknowns : List Str) (settled : List (U32 × Rat)) (goal : U32) (prices shares : List Rat) : Bool :=
  (decide (prices.length = rows.length) && decide (shares.length = settled.length)) && (((shares.all fun s => !decide (s < 0)) && (rows.zip prices).all signB) && ((rows.zip prices).all (roomB settled shares goal) && unknowns.all (colB rows prices settled shares goal)))
theorem all_no {α : Type} {z : List α} {f : α → Bool} {i : Nat} {p : α} (h : z[i]? = some p) (hp : f p = false) : z.all f = false := List.all_eq_false.mpr ⟨p, List.mem_of_getElem? h, by rw [hp]; decide⟩
theorem all_yes {α : Type} {z : List α} {f : α → Bool} {i : Nat} {p : α} (h : z[i]? = some p) (hp : f p = true) (hz : (z.take i).all f = true) : (z.take (i + 1)).all f = true := by rw [takeS h, List.all_append, hz]; simp [hp]
theorem bs_int {n : Int} {k : Nat} (h : n.natAbs < 2 ^ k) (hk : 1 ≤ k) : bs ((n : Int) : Rat) ≤ k := by
  have z1 : bl n.natAbs ≤ k := bi_small (x := n) k h
  have z2 : bl 1 = 1 := by decide +kernel
  unfold bs
  rw [Rat.num_intCast, Rat.den_intCast]
  omega
def rkO (rows : List Row32) (k : Int) : Option Int := (rows[k.toNat]?).map (·.2.2.2.1)
def risF (rows : List Row32) (o : Option Int) (k : Int) : Option Int := o.bind fun a => if a < k ∧ k < rows.length ∧ rkO rows k = some 0 then some k else none
def risB (rows : List Row32) (ns : List Int) : Bool := (ns.foldl (risF rows) (some (-1))).isSome
theorem ris_none (rows : List Row32) : ∀ ns : List Int, ns.foldl (risF rows) none = none
  | [] => rfl
  | _ :: ns => ris_none rows ns
theorem ris_yes {rows : List Row32} {ns : List Int} {i : Nat} {k a : Int} (h : ns[i]? = some k) (e : (ns.take i).foldl (risF rows) (some (-1)) = some a) (c : a < k ∧ k < rows.length ∧ rkO rows k = some 0) : (ns.take (i + 1)).foldl (risF rows) (some (-1)) = some k := by
  rw [takeS h, List.foldl_append, e]
  show risF rows (some a) k = some k
  unfold risF
  show (if _ then _ else _) = _
  rw [if_pos c]
theorem ris_no {rows : List Row32} {ns : List Int} {i : Nat} {k a : Int} (h : ns[i]? = some k) (e : (ns.take i).foldl (risF rows) (some (-1)) = some a) (c : ¬ (a < k ∧ k < rows.length ∧ rkO rows k = some 0)) : false = risB rows ns := by
  have z : ns = ns.take (i + 1) ++ ns.drop (i + 1) := (List.take_append_drop ..).symm
  have q : (ns.take (i + 1)).foldl (risF rows) (some (-1)) = none := by
    rw [takeS h, List.foldl_append, e]
    show (if _ then _ else _) = _
    rw [if_neg c]
  unfold risB
  rw [z, List.foldl_append, q, ris_none]; rfl
theorem rkO_of {rows : List Row32} {k : Int} {r : Row32} (h : rows[k.toNat]? = some r) : rkO rows k = some r.2.2.2.1 := by unfold rkO; rw [h]; rfl
def choR (rows : List Row32) (ns : List Int) : List Row32 := ns.map fun k => (rows[k.toNat]?).getD ([], "", 0, 0, 0)
def clashB (rows : List Row32) (un : List Str) (ns : List Int) (ws : List Rat) : Bool :=
  (decide (ns.length = ws.length) && risB rows ns) && (((choR rows ns).zip ws).all signB && (!((un.map fun u => decide (0 < colR (choR rows ns) ws u)).any id) && decide (wgtZ (ws.zip ((choR rows ns).map (·.2.2.1))) = 1)))
theorem ris_lt {rows : List Row32} : ∀ {ns : List Int} {a : Int}, (ns.foldl (risF rows) (some a)).isSome = true → ∀ k ∈ ns, k < rows.length
  | [], _, _, _, m => by cases m
  | n :: ns, a, h, k, m => by
    have h : (ns.foldl (risF rows) (risF rows (some a) n)).isSome = true := h
    by_cases c : a < n ∧ n < rows.length ∧ rkO rows n = some 0
    · have e : risF rows (some a) n = some n := if_pos c
      rw [e] at h
      rcases List.mem_cons.mp m with z | z
      · rw [z]; exact c.2.1
      · exact ris_lt h k z
    · have e : risF rows (some a) n = none := if_neg c
      rw [e, ris_none] at h; cases h
theorem ris_end {rows : List Row32} {ns : List Int} {a : Int} (e : ns.foldl (risF rows) (some (-1)) = some a) : true = risB rows ns := by unfold risB; rw [e]; rfl
theorem cast1 : ((1 : Int) : Rat) = 1 := by decide +kernel
section
variable {rows : List Row32} {un : List Str} {ns : List Int} {ws : List Rat}
theorem clash_len (h : ¬ ((ns.length : Int) = ws.length)) : false = clashB rows un ns ws := by unfold clashB; rw [decide_eq_false (fun z => h (by rw [z])), Bool.false_and, Bool.false_and]
theorem clash_ris (h : risB rows ns = false) : false = clashB rows un ns ws := by unfold clashB; rw [h, Bool.and_false, Bool.false_and]
theorem clash_sign (h : ((choR rows ns).zip ws).all signB = false) : false = clashB rows un ns ws := by unfold clashB; rw [h, Bool.false_and, Bool.and_false]
theorem clash_col (h : (un.map fun u => decide (0 < colR (choR rows ns) ws u)).any id = true) : false = clashB rows un ns ws := by unfold clashB; rw [h, Bool.not_true, Bool.false_and, Bool.and_false, Bool.and_false]
theorem clash_end (h1 : (ns.length : Int) = ws.length) (h2 : risB rows ns = true) (h3 : ((choR rows ns).zip ws).all signB = true) (h4 : (un.map fun u => decide (0 < colR (choR rows ns) ws u)).any id = false) : decide (wgtZ (ws.zip ((choR rows ns).map (·.2.2.1))) = 1) = clashB rows un ns ws := by
  unfold clashB
  rw [decide_eq_true (p := ns.length = ws.length) (by omega), h2, h3, h4]
  simp
end
def wsum (l : List Rat) : Nat := (l.map bs).sum
theorem wsum_app (a b : List Rat) : wsum (a ++ b) = wsum a + wsum b := by unfold wsum; rw [List.map_append, List.sum_append]
theorem wsum_one (l : List Rat) (q : Rat) : wsum (l ++ [q]) = wsum l + bs q := by rw [wsum_app]; show wsum l + (bs q + 0) = _; rfl
theorem wsum_snoc {l : List Rat} {i : Nat} {q : Rat} (h : l[i]? = some q) : wsum (l.take (i + 1)) = wsum (l.take i) + bs q := by rw [takeS h, wsum_one]
theorem wsum_take (l : List Rat) (n : Nat) : wsum (l.take n) ≤ wsum l := by
  have : wsum (l.take n) + wsum (l.drop n) = wsum l := by rw [← wsum_app, List.take_append_drop]
  omega
theorem wsum_mem {l : List Rat} {q : Rat} (h : q ∈ l) : bs q ≤ wsum l := by
  obtain ⟨i, hi⟩ := List.getElem?_of_mem h
  have := wsum_snoc hi
  have := wsum_take l (i + 1)
  omega
theorem wsum_le {n : Nat} : ∀ {l : List Rat}, (∀ q ∈ l, bs q ≤ n) → wsum l ≤ n * l.length
  | [], _ => Nat.zero_le _
  | q :: l, h => by
    have h1 := h q List.mem_cons_self
    have h2 := wsum_le (l := l) fun x m => h x (List.mem_cons_of_mem _ m)
    show bs q + wsum l ≤ n * (l.length + 1)
    rw [Nat.mul_add]; omega
theorem wsum_cut (l : List Rat) (a b : Option Int) : wsum (cutA l a b) ≤ wsum l := by
  unfold cutA
  refine Nat.le_trans (wsum_take _ _) ?_
  generalize HT.sIx l.length 0 a = k
  have : wsum (l.take k) + wsum (l.drop k) = wsum l := by rw [← wsum_app, List.take_append_drop]
  omega
theorem wsum_rev (l : List Rat) : wsum l.reverse = wsum l := by unfold wsum; rw [List.map_reverse, List.sum_reverse]
theorem wsum_set : ∀ {l : List Rat} {j : Nat} {y x : Rat}, l[j]? = some y → wsum (l.set j x) + bs y = wsum l + bs x
  | [], _, _, _, h => by cases h
  | q :: l, 0, y, x, h => by
    cases h
    show (bs x + wsum l) + bs q = (bs q + wsum l) + bs x
    omega
  | q :: l, j + 1, y, x, h => by
    have := wsum_set (l := l) (j := j) (y := y) (x := x) (by simpa using h)
    show (bs q + wsum (l.set j x)) + bs y = (bs q + wsum l) + bs x
    omega
def psum (l : List (Rat × Rat)) : Nat := (l.map fun p => bs p.1 + bs p.2 + 1).sum
theorem psum_app (a b : List (Rat × Rat)) : psum (a ++ b) = psum a + psum b := by unfold psum; rw [List.map_append, List.sum_append]
theorem psum_one (l : List (Rat × Rat)) (a b : Rat) : psum (l ++ [(a, b)]) = psum l + (bs a + bs b + 1) := by rw [psum_app]; rfl
theorem psum_snoc {l : List (Rat × Rat)} {i : Nat} {p : Rat × Rat} (h : l[i]? = some p) : psum (l.take (i + 1)) = psum (l.take i) + (bs p.1 + bs p.2 + 1) := by rw [takeS h, psum_app]; rfl
theorem psum_take (l : List (Rat × Rat)) (n : Nat) : psum (l.take n) ≤ psum l := by
  have : psum (l.take n) + psum (l.drop n) = psum l := by rw [← psum_app, List.take_append_drop]
  omega
theorem ptd_all {m : List (Str × Rat)} {x : Str} {q : Rat} {n : Nat} (h : ∀ x q, gtd m x = some q → bs q ≤ n) (hq : bs q ≤ n) : ∀ z r, gtd (ptd m x q) z = some r → bs r ≤ n := fun z r e => by
  have e : gt (pt m x q) z = some r := e
  rw [gt_pt] at e
  split at e
  · cases e; exact hq
  · exact h _ _ e
theorem ptd_len {α : Type} (m : List (Str × α)) (x : Str) (y : α) : (ptd m x y).length ≤ m.length + 1 := by
  unfold ptd
  split
  · rw [List.length_map]; omega
  · rw [List.length_append]; exact Nat.le_refl _
theorem frac3 (f a b : Rat) : Rat.divInt (f.num * (a.den : Int) * (b.den : Int) + a.num * b.num * (f.den : Int)) ((f.den : Int) * (a.den : Int) * (b.den : Int)) = f + a * b := by
  have hf : (f.den : Int) ≠ 0 := by have := den_pos f; omega
  have ha : (a.den : Int) ≠ 0 := by have := den_pos a; omega
  have hb : (b.den : Int) ≠ 0 := by have := den_pos b; omega
  conv => rhs; rw [← Rat.num_divInt_den f, ← Rat.num_divInt_den a, ← Rat.num_divInt_den b]
  rw [Rat.divInt_mul_divInt, Rat.divInt_add_divInt _ _ hf (Int.mul_ne_zero ha hb), Int.mul_assoc f.num, Int.mul_assoc (f.den : Int)]
theorem cast0 : ((0 : Int) : Rat) = 0 := by decide +kernel
theorem wgt_one (ts : List (Rat × Rat)) (a b : Rat) : wgtZ (ts ++ [(a, b)]) = wgtZ ts + a * b := by
  rw [wgtZ_app]
  show _ + (0 + _) = _
  rw [Rat.zero_add]
theorem fr_neg (q : Rat) : fr (-q) = [V.int (0 - q.num), V.int (q.den : Int)] := by
  unfold fr
  rw [Rat.neg_num, Rat.neg_den, Int.zero_sub]
theorem bs_neg (q : Rat) : bs (-q) = bs q := by unfold bs; rw [Rat.neg_num, Rat.neg_den, Int.natAbs_neg]
theorem nodup_take {xs : List Str} {i : Nat} {x : Str} (h : xs.Nodup) (hx : xs[i]? = some x) : x ∉ xs.take i := fun m => by
  obtain ⟨j, hj⟩ := List.getElem?_of_mem m
  have jl : j < i := by
    rcases Nat.lt_or_ge j i with c | c
    · exact c
    · rw [List.getElem?_eq_none (by rw [List.length_take]; omega)] at hj; cases hj
  rw [List.getElem?_take_of_lt jl] at hj
  have il := (List.getElem?_eq_some_iff.mp hx).1
  have := (List.getElem?_inj (by omega) h).mp (hj.trans hx.symm)
  omega
theorem col_take {rows : List Row32} {prices : List Rat} {u : Str} {i : Nat} {r : Row32} {p : Rat} (h1 : rows[i]? = some r) (h2 : prices[i]? = some p) : wgtZ ((prices.zip (rows.map (fun r => (gtd r.1 u).getD 0))).take (i + 1)) = wgtZ ((prices.zip (rows.map (fun r => (gtd r.1 u).getD 0))).take i) + p * (gtd r.1 u).getD 0 :=
  wgtZ_snoc (zip_at h2 (by rw [List.getElem?_map, h1]; rfl))
theorem col_all (rows : List Row32) (prices : List Rat) (u : Str) : (prices.zip (rows.map (fun r => (gtd r.1 u).getD 0))).take (min rows.length prices.length) = prices.zip (rows.map (fun r => (gtd r.1 u).getD 0)) := List.take_of_length_le (by rw [List.length_zip, List.length_map]; omega)
theorem num_take {rows : List Row32} {prices : List Rat} {i : Nat} {r : Row32} {p : Rat} (h1 : rows[i]? = some r) (h2 : prices[i]? = some p) : wgtZ ((prices.zip (rows.map (·.2.2.1))).take (i + 1)) = wgtZ ((prices.zip (rows.map (·.2.2.1))).take i) + p * r.2.2.1 :=
  wgtZ_snoc (zip_at h2 (by rw [List.getElem?_map, h1]; rfl))
theorem num_all (rows : List Row32) (prices : List Rat) : (prices.zip (rows.map (·.2.2.1))).take (min rows.length prices.length) = prices.zip (rows.map (·.2.2.1)) := List.take_of_length_le (by rw [List.length_zip, List.length_map]; omega)
theorem num_pos (q : Rat) : 0 < q.num ↔ 0 < q := by
  have := divInt_pos_iff (o := q.num) (den_pos q)
  rw [Rat.num_divInt_den] at this
  exact this.symm
theorem snoc_at {α : Type} {ts : List α} {x y : α} {j : Nat} (h : (ts ++ [x])[j]? = some y) : ts[j]? = some y ∨ (j = ts.length ∧ y = x) := by
  rcases Nat.lt_or_ge j ts.length with c | c
  · rw [List.getElem?_append_left c] at h; exact .inl h
  · have l := (List.getElem?_eq_some_iff.mp h).1
    rw [List.length_append] at l
    have l : j < ts.length + 1 := l
    have e : j = ts.length := by omega
    rw [e, List.getElem?_append_right (Nat.le_refl _), Nat.sub_self] at h
    exact .inr ⟨e, (Option.some.inj h).symm⟩
section
variable {rows : List Row32} {prices : List Rat} {u : Str} {ts : List (Rat × Rat)}
theorem col_yes {i : Nat} {r : Row32} {p y : Rat} (h1 : rows[i]? = some r) (h2 : prices[i]? = some p) (hg : gtd r.1 u = some y) (q0 : wgtZ ts = wgtZ ((prices.zip (rows.map (fun r => (gtd r.1 u).getD 0))).take i)) : wgtZ (ts ++ [(p, y)]) = wgtZ ((prices.zip (rows.map (fun r => (gtd r.1 u).getD 0))).take (i + 1)) := by
  rw [wgt_one, col_take h1 h2, q0, hg]; rfl
theorem col_no {i : Nat} {r : Row32} {p : Rat} (h1 : rows[i]? = some r) (h2 : prices[i]? = some p) (hg : (gtd r.1 u).isSome = false) (q0 : wgtZ ts = wgtZ ((prices.zip (rows.map (fun r => (gtd r.1 u).getD 0))).take i)) : wgtZ ts = wgtZ ((prices.zip (rows.map (fun r => (gtd r.1 u).getD 0))).take (i + 1)) := by
  rw [col_take h1 h2, q0, Option.isSome_eq_false_iff.mp hg |> Option.isNone_iff_eq_none.mp]
  show _ = _ + p * 0
  rw [Rat.mul_zero, Rat.add_zero]
end
structure Row33 (r : Row32) : Prop where
  pt : ∀ x q, gtd r.1 x = some q → bs q ≤ 2
  nm : bs r.2.2.1 ≤ 4
theorem num_neg (q : Rat) : q.num < 0 ↔ q < 0 := by
  have := divInt_neg_iff (o := q.num) (den_pos q)
  rw [Rat.num_divInt_den] at this
  exact this.symm
theorem ris_all {rows : List Row32} : ∀ (ns : List Int) (a : Int), (ns.foldl (risF rows) (some a)).isSome = true ↔ (∀ k ∈ ns, a < k) ∧ ns.Pairwise (· < ·) ∧ ∀ k ∈ ns, k < rows.length ∧ rkO rows k = some 0
  | [], a => by simp
  | n :: ns, a => by
    show (ns.foldl (risF rows) (risF rows (some a) n)).isSome = true ↔ _
    by_cases c : a < n ∧ n < rows.length ∧ rkO rows n = some 0
    · rw [show risF rows (some a) n = some n from if_pos c, ris_all ns n, List.pairwise_cons]
      constructor
      · rintro ⟨h1, h2, h3⟩
        refine ⟨fun k m => (List.mem_cons.mp m).elim (fun e => e ▸ c.1) fun m => Int.lt_trans c.1 (h1 k m), ⟨h1, h2⟩, fun k m => (List.mem_cons.mp m).elim (fun e => e ▸ c.2) (h3 k)⟩
      · rintro ⟨h1, ⟨h2, h3⟩, h4⟩
        exact ⟨h2, h3, fun k m => h4 k (List.mem_cons_of_mem _ m)⟩
    · rw [show risF rows (some a) n = none from if_neg c, ris_none]
      constructor
      · intro h; cases h
      · rintro ⟨h1, _, h4⟩
        exact absurd ⟨h1 n List.mem_cons_self, h4 n List.mem_cons_self⟩ c
theorem ris_iff {rows : List Row32} {ns : List Int} (h0 : ∀ k ∈ ns, 0 ≤ k) : risB rows ns = true ↔ ns.Pairwise (· < ·) ∧ ∀ k ∈ ns, k < rows.length ∧ rkO rows k = some 0 := by
  unfold risB
  rw [ris_all]
  exact ⟨fun h => h.2, fun h => ⟨fun k m => by have := h0 k m; omega, h⟩⟩
theorem ris_off {rows : List Row32} {ns : List Int} (h0 : ∀ k ∈ ns, 0 ≤ k) (h : ¬ ns = L2.srtI (L2.once ns)) : risB rows ns = false := by
  cases e : risB rows ns with
  | false => rfl
  | true => exact absurd ((L2.srt_once ns).mpr ((ris_iff h0).mp e).1) h
def badB (rows : List Row32) (k : Int) : Bool := decide ((rows.length : Int) ≤ k) || !decide (rkO rows k = some 0)
theorem ris_bad {rows : List Row32} {ns : List Int} (h0 : ∀ k ∈ ns, 0 ≤ k) (h : (ns.map (badB rows)).any id = true) : risB rows ns = false := by
  cases e : risB rows ns with
  | false => rfl
  | true =>
    obtain ⟨b, hb, hb2⟩ := List.any_eq_true.mp h
    obtain ⟨k, hk, rfl⟩ := List.mem_map.mp hb
    obtain ⟨h1, h2⟩ := ((ris_iff h0).mp e).2 k hk
    unfold badB at hb2
    rw [decide_eq_false (by omega), decide_eq_true h2] at hb2
    cases hb2
theorem ris_good {rows : List Row32} {ns : List Int} (h0 : ∀ k ∈ ns, 0 ≤ k) (h1 : ns = L2.srtI (L2.once ns)) (h : (ns.map (badB rows)).any id = false) : risB rows ns = true := by
  refine (ris_iff h0).mpr ⟨(L2.srt_once ns).mp h1, fun k hk => ?_⟩
  have z := List.any_eq_false.mp h (badB rows k) (List.mem_map.mpr ⟨k, hk, rfl⟩)
  unfold badB at z
  simp at z
  exact ⟨by omega, z.2⟩
theorem bad_lt {rows : List Row32} {ns : List Int} (h : (ns.map (badB rows)).any id = false) {k : Int} (hk : k ∈ ns) : k < rows.length := by
  have z := List.any_eq_false.mp h (badB rows k) (List.mem_map.mpr ⟨k, hk, rfl⟩)
  unfold badB at z
  simp at z
  omega
theorem ap_all {α : Type} {P : α → Prop} {l : List α} {x : α} (h : ∀ y ∈ l, P y) (hx : P x) : ∀ y ∈ l ++ [x], P y := fun y m => (List.mem_append.mp m).elim (h y) fun z => by rw [List.mem_singleton.mp z]; exact hx
theorem ap_at {l : List Rat} {x : Rat} {n : Nat} (h : ∀ (j : Nat) (q : Rat), j < n → l[j]? = some q → bs q ≤ 70) (hn : n ≤ l.length) : ∀ (j : Nat) (q : Rat), j < n → (l ++ [x])[j]? = some q → bs q ≤ 70 := fun j q hj e => by
  rw [List.getElem?_append_left (by omega)] at e
  exact h j q hj e
theorem row33_one (x k : Str) : Row33 ((ptd [] x ((1 : Int) : Rat), k, ((0 : Int) : Rat), 0, 1) : Row32) := by
  refine ⟨fun z q e => ?_, ?_⟩
  · have e2 : gtd [(x, ((1 : Int) : Rat))] z = some q := e
    unfold gtd at e2
    by_cases c : x = z
    · rw [List.find?_cons_of_pos (by simpa using c)] at e2; rw [← Option.some.inj e2]; exact (by decide +kernel : bs ((1 : Int) : Rat) ≤ 2)
    · rw [List.find?_cons_of_neg (by simpa using c)] at e2; cases e2
  · show bs ((0 : Int) : Rat) ≤ 4
    decide +kernel
theorem bad_yes {rows : List Row32} {ns : List Int} {ts : List Bool} {i : Nat} {k : Int} (q1 : ts = (ns.take i).map (badB rows)) (h : ns[i]? = some k) (c : (rows.length : Int) ≤ k) : ts ++ [true] = (ns.take (i + 1)).map (badB rows) := by
  rw [takeS h, List.map_append, q1]
  show _ = _ ++ [badB rows k]
  unfold badB
  rw [decide_eq_true c]; rfl
theorem bad_no {rows : List Row32} {ns : List Int} {ts : List Bool} {i : Nat} {k : Int} {r : Row32} (q1 : ts = (ns.take i).map (badB rows)) (h : ns[i]? = some k) (c : ¬ (rows.length : Int) ≤ k) (hr : rows[k.toNat]? = some r) : ts ++ [!decide (r.2.2.2.1 = 0)] = (ns.take (i + 1)).map (badB rows) := by
  rw [takeS h, List.map_append, q1]
  show _ = _ ++ [badB rows k]
  unfold badB
  rw [decide_eq_false c, rkO_of hr]
  simp
theorem anyn_step {ws : List Rat} {ch : List Row32} {un : List Str} {i : Nat} {u : Str} (q4 : ((un.take i).map fun u => decide (0 < colR ch ws u)).any id = false) (h : un[i]? = some u) (c : ¬ 0 < colR ch ws u) : ((un.take (i + 1)).map fun u => decide (0 < colR ch ws u)).any id = false := by
  rw [takeS h, List.map_append, List.any_append, q4]
  show (false || (decide (0 < colR ch ws u) || false)) = false
  rw [decide_eq_false c]; rfl
theorem any_yes {ws : List Rat} {ch : List Row32} {un : List Str} {i : Nat} {u : Str} (h : un[i]? = some u) (c : 0 < colR ch ws u) : (un.map fun u => decide (0 < colR ch ws u)).any id = true :=
  List.any_eq_true.mpr ⟨true, List.mem_map.mpr ⟨u, List.mem_of_getElem? h, decide_eq_true c⟩, rfl⟩
theorem cutA_mem {α : Type} {xs : List α} {a b : Option Int} {x : α} (h : x ∈ cutA xs a b) : x ∈ xs := by
  unfold cutA at h
  exact List.mem_of_mem_drop (List.mem_of_mem_take h)
theorem bs0 : bs ((0 : Int) : Rat) ≤ 620 := by decide +kernel
theorem at_ok (m : Int) (n : Nat) : 0 ≤ m % (if (n : Int) > 1 then (n : Int) else 1) ∧ (0 < n → m % (if (n : Int) > 1 then (n : Int) else 1) < n) := by
  split
  · exact ⟨Int.emod_nonneg _ (by omega), fun _ => Int.emod_lt_of_pos _ (by omega)⟩
  · exact ⟨by omega, fun h => by omega⟩
theorem set_le {l : List Rat} {j n : Nat} {x : Rat} (h : ∀ q ∈ l, bs q ≤ n) (hx : bs x ≤ n) : ∀ q ∈ l.set j x, bs q ≤ n := fun q m => (List.mem_or_eq_of_mem_set m).elim (h q) fun e => by rw [e]; exact hx
theorem bs_z : bs ((0 : Int) : Rat) = 1 := by decide +kernel
theorem wsum_two {l : List Rat} {n : Nat} {a : Int} (h : ∀ q ∈ l, bs q ≤ n) (ha : 0 ≤ a) : wsum (cutA l none (some (a + 1)) ++ cutA l (some a) none) ≤ wsum l + n := by
  obtain ⟨k, rfl⟩ : ∃ k : Nat, a = k := ⟨a.toNat, by omega⟩
  have e1 : cutA l none (some ((k : Int) + 1)) = l.take (k + 1) := by
    unfold cutA; rw [show ((k : Int) + 1) = ((k + 1 : Nat) : Int) by omega, HT.sIx_nat]; simp [HT.sIx]
  have e2 : cutA l (some (k : Int)) none = l.drop k := by
    unfold cutA; rw [HT.sIx_nat]
    show (l.drop (min k l.length)).take (l.length - min k l.length) = l.drop k
    rw [List.take_of_length_le (by rw [List.length_drop]; exact Nat.le_refl _)]
    rcases Nat.le_total k l.length with h | h
    · rw [Nat.min_eq_left h]
    · rw [Nat.min_eq_right h, List.drop_of_length_le (Nat.le_refl _), List.drop_of_length_le h]
  rw [e1, e2, wsum_app]
  have e3 : wsum (l.take (k + 1)) ≤ wsum (l.take k) + n := by
    rw [List.take_add_one, wsum_app]
    cases e : l[k]? with
    | none => simp [wsum]
    | some q => have := h q (List.mem_of_getElem? e); simp [wsum]; omega
  have e4 : wsum (l.take k) + wsum (l.drop k) = wsum l := by rw [← wsum_app, List.take_append_drop]
  omega
theorem cut_two {α : Type} {l : List α} {a : Int} (hl : l.length ≤ 11) (ha : 0 ≤ a) : (cutA l none (some (a + 1))).length + (cutA l (some a) none).length ≤ 12 := by
  obtain ⟨k, rfl⟩ : ∃ k : Nat, a = k := ⟨a.toNat, by omega⟩
  have e1 : (cutA l none (some ((k : Int) + 1))).length ≤ k + 1 := by
    unfold cutA; rw [show ((k : Int) + 1) = ((k + 1 : Nat) : Int) by omega, HT.sIx_nat, List.length_take]; simp [HT.sIx]; omega
  have e2 : (cutA l (some (k : Int)) none).length ≤ l.length - k := by
    unfold cutA; rw [HT.sIx_nat, List.length_take, List.length_drop]; omega
  have e3 := cutA_le l none (some ((k : Int) + 1))
  omega
theorem put2 {l : List Rat} {j : Nat} {a : Rat} (hV : ∀ q ∈ l, bs q ≤ 600) (sV : wsum l ≤ 2360) (h1 : l[j]? = some a) : (l.set j (-a)).length = l.length ∧ (∀ q ∈ l.set j (-a), bs q ≤ 600) ∧ wsum (l.set j (-a)) ≤ 2360 := by
  have z := wsum_set h1 (x := -a)
  rw [bs_neg] at z
  exact ⟨List.length_set, set_le hV (by rw [bs_neg]; exact hV a (List.mem_of_getElem? h1)), by omega⟩
theorem lowk {x : Rat} (h : bs x ≤ 600) : 0 < (x.den : Int) * 1000 ∧ bi ((x.den : Int) * 1000) ≤ 7000 := by
  have a := bi_mul (x.den : Int) 1000
  have b := bi_den x
  have c : bi 1000 = 10 := by decide +kernel
  exact ⟨Int.mul_pos (den_pos x) (by decide), by omega⟩
theorem put3 {l : List Rat} {j n : Nat} {a b c : Rat} (l2 : l.length = n) (hV : ∀ q ∈ l, bs q ≤ 600) (sV : wsum l ≤ 2360) (h1 : l[j]? = some a) (h2 : l[j]? = some b) (h3 : l[j]? = some c) :
    (l.set j (Rat.divInt (a.num * 1000 + (b.den : Int)) ((c.den : Int) * 1000))).length = n ∧ (∀ q ∈ l.set j (Rat.divInt (a.num * 1000 + (b.den : Int)) ((c.den : Int) * 1000)), bs q ≤ 620) ∧ wsum (l.set j (Rat.divInt (a.num * 1000 + (b.den : Int)) ((c.den : Int) * 1000))) ≤ 2372 := by
  have e1 : a = b := Option.some.inj (h1.symm.trans h2)
  have e2 : a = c := Option.some.inj (h1.symm.trans h3)
  subst e1; subst e2
  have hb := hV a (List.mem_of_getElem? h1)
  have k1 := bi_mul a.num 1000
  have k2 := bi_mul (a.den : Int) 1000
  have k3 := bi_num a
  have k4 := bi_den a
  have k5 : bi 1000 = 10 := by decide +kernel
  have k6 := bi_add (a.num * 1000) (a.den : Int)
  have z := bs_divInt (k := bs a + 11) (t := a.num * 1000 + (a.den : Int)) (b := (a.den : Int) * 1000) (Int.ne_of_gt (lowk hb).1) (by omega) (by omega)
  have y := wsum_set h1 (x := Rat.divInt (a.num * 1000 + (a.den : Int)) ((a.den : Int) * 1000))
  exact ⟨by rw [List.length_set]; exact l2, set_le (fun q h => Nat.le_trans (hV q h) (by decide)) (by omega), by omega⟩
theorem sgn_t {r : Row32} {p : Rat} (h1 : ¬ r.2.1 = "least" ∨ ¬ p.num < 0) (h2 : ¬ r.2.1 = "most" ∨ ¬ 0 < p.num) : signB (r, p) = true := by
  rw [num_neg] at h1
  rw [num_pos] at h2
  unfold signB
  rcases h1 with h1 | h1 <;> rcases h2 with h2 | h2 <;> simp [h1, h2]
theorem sgn_l {r : Row32} {p : Rat} (h1 : r.2.1 = "least") (h2 : ¬ p.num < 0) : signB (r, p) = true := sgn_t (.inr h2) (.inl fun z => absurd (h1.symm.trans z) (by decide +kernel))
theorem sgn_f1 {r : Row32} {p : Rat} (h1 : r.2.1 = "least") (h2 : p.num < 0) : signB (r, p) = false := by
  rw [num_neg] at h2
  unfold signB
  simp [h1, h2]
theorem sgn_f2 {r : Row32} {p : Rat} (h1 : r.2.1 = "most") (h2 : 0 < p.num) : signB (r, p) = false := by
  rw [num_pos] at h2
  unfold signB
  simp [h1, h2]
theorem some_ok {n : Int} (h0 : 0 ≤ n) (h1 : n < 3) : 1 ≤ (cutA (["x", "left b", "width c"] : List Str) none (some (1 + n))).length ∧ (cutA (["x", "left b", "width c"] : List Str) none (some (1 + n))).length ≤ 3 := by
  have : n = 0 ∨ n = 1 ∨ n = 2 := by omega
  rcases this with rfl | rfl | rfl <;> decide +kernel
def sp_weighed (K : PySem.W.Frag) : Sp := fun vs H Q _ => Ex5 fun (F : Hp) (v_weights : V) (v_numbers : V) (weights : (List Rat)) (numbers : (List Rat)) => Cj6 (vs = [v_weights, v_numbers]) (Same F H) ((rL K (rFr K)) F v_weights weights) ((rL K (rFr K)) F v_numbers numbers) (weights.length ≤ 12 ∧ numbers.length ≤ 12 ∧ wsum weights ≤ 3000 ∧ ∀ q ∈ numbers, bs q ≤ 10) (∀ (v : V) (F' H' : Hp), Gr F H F' H' → (rFr K) F' v (wgtZ (weights.zip numbers)) → (bs (wgtZ (weights.zip numbers)) ≤ 3200) → Q v H')
set_option linter.unusedVariables false in
theorem ok_weighed (T : Tx K mg) : FnOk P w K mg base CX0 4 T.a_weighed T.d_weighed ["weights", "numbers"] (sp_weighed K) := by
  refine T.F_weighed.ok sc_weighed (fun vs H Q E h => ?_) (fun cdv A outer s H vs Q E hr h => ?_)
  · obtain ⟨F, v_weights, v_numbers, weights, numbers, rfl, _⟩ := h
    rfl
  · obtain ⟨F, v_weights, v_numbers, weights, numbers, rfl, wd, r_weights, r_numbers, hpre, k⟩ := h
    have hu := hu_of hr
    have gb := Gr0.refl wd
    have cm := Fz.refl F
    obtain ⟨a1, vs2, rfl, sq3, al4⟩ := r_weights
    obtain ⟨a5, vs6, rfl, sq7, al8⟩ := r_numbers
    obtain ⟨w1, w2, w3, w4⟩ := hpre
    refine ⟨_, (ZSs.h (zss_cons (ps_set (i := 2) sc_weighed.nd rfl (Or.inl rfl) (pe_glob (v := .ref T.c_NOUGHT) rfl T.m_NOUGHT rfl))
          (zss_cons (ps_for PassesOwn.never rfl (pi_zip rfl T.z_zip (pa_cons (pv 0) (pa_cons (pv 1) pa_nil))) (pg_tup rfl (pgs_cons (pg_name (i := 3) sc_weighed.nd rfl (Or.inl rfl)) (pgs_cons (pg_name (i := 4) sc_weighed.nd rfl (Or.inl rfl)) pgs_nil))) (pss_one (ps_set (i := 2) sc_weighed.nd rfl (Or.inl rfl) (pe_call ((ok_plus T).mono (by decide)) hr rfl T.m_plus T.F_plus.kp T.b_plus .nil pass0 (pa_cons (pv 2) (pa_cons (pe_call ((ok_times T).mono (by decide)) hr rfl T.m_times T.F_times.kp T.b_times .nil pass0 (pa_cons (pv 3) (pa_cons (pv 4) pa_nil))) pa_nil))))))
          (zss_one (ps_ret (pv 2)))))), ?_⟩
    refine a_seq ?_
    refine a_asg ?_
    refine a_c ?_
    refine a_name ?_
    try dsimp only
    refine a_seq ?_
    refine a_for ?_
    refine a_izip ?_
    refine a_cons ?_
    refine a_var rfl ?_
    refine a_cons ?_
    refine a_var rfl ?_
    refine a_nil ?_
    refine ⟨_, _, rfl, ⟨_, (Same.seq gb.s sq3)⟩, ⟨_, (Same.seq gb.s sq7)⟩, for_zip (K := K) (a := a1) (b := a5) (xs := vs2) (ys := vs6) (fun i σ' H' => Ex5 fun (F9 : Hp) (v_total10 : V) (total10 : Rat) (o11 : Option V) (o12 : Option V) => Cj6 (σ' = [some (V.ref a1), some (V.ref a5), some v_total10, o11, o12]) (Gr0 F H F9 H') (Fz (frzd F) F9) (Le F F9) ((rFr K) F9 v_total10 total10) ((total10 = wgtZ ((weights.zip numbers).take i) ∧ bs total10 ≤ wsum (weights.take i) + i * 11 + 1))) ?_ ?_ ?_ ?_⟩
    · exact ⟨F, _, 0, _, _, rfl, gb, cm, Le.refl _, ⟨_, rfl, (.inr T.t_NOUGHT)⟩, by exact ⟨rfl, by rw [List.take_zero]; decide +kernel⟩⟩
    · rintro i σ' H13 _ ⟨F14, v_total18, total18, o19, o20, rfl, gb15, cm16, le17, hr21, ⟨q0, q1⟩⟩
      obtain ⟨a22, rfl, sq23⟩ := hr21
      exact ⟨(Same.seq gb15.s (Le.lst le17 sq3)), (Same.seq gb15.s (Le.lst le17 sq7))⟩
    · rintro i24 y28 z29 σ' H25 p30 hi26 hj27 ⟨F32, v_total36, total36, o37, o38, rfl, gb33, cm34, le35, hr39, ⟨q0, q1⟩⟩ hp31
      obtain ⟨a40, rfl, sq41⟩ := hr39
      obtain ⟨x42, hx43, hr44⟩ := Al.get (Al.mo le35 al4) hi26
      obtain ⟨x45, hx46, hr47⟩ := Al.get (Al.mo le35 al8) hj27
      obtain ⟨a52, rfl, sq53⟩ := hr44
      obtain ⟨a54, rfl, sq55⟩ := hr47
      refine it2 (K := K) gb33.s hp31 (fun F48 H49 g50 e51 => ?_)
      have gb56 := gb33.tr g50
      have le57 := g50.le
      have cm58 := g50.fz cm34
      try dsimp only
      have u1 := wsum_snoc hx43
      have u5 := wsum_take weights (i24 + 1)
      have u2 := w4 _ (List.mem_of_getElem? hx46)
      have u3 := (List.getElem?_eq_some_iff.mp hx43).1
      refine a_asg ?_
      refine a_call ?_
      refine a_cons ?_
      refine a_var rfl ?_
      refine a_cons ?_
      refine a_call ?_
      refine a_cons ?_
      refine a_var rfl ?_
      refine a_cons ?_
      refine a_var rfl ?_
      refine a_nil ?_
      refine ⟨_, _, x42, x45, rfl, (Same.tup gb56.s (Le.tup le57 sq53)), (Same.tup gb56.s (Le.tup le57 sq55)), sm_of (by walk_at "o"), sm_of (by walk_at "o"), fun p59 hp60 => ?_⟩
      obtain ⟨F61, g63, e64⟩ := al2 (o := (.tup (fr (x42 * x45)))) gb56.s (by intro _ _ z; cases z) hp60
      generalize upd H49 p59 (.tup (fr (x42 * x45))) = H62 at g63 ⊢
      have gb65 := gb56.tr g63
      have le66 := g63.le
      have cm67 := g63.fz cm58
      have b68 := bs_mul x42 x45
      refine a_nil ?_
      refine ⟨_, _, total36, (x42 * x45), rfl, (Same.tup gb65.s (Le.tup (le57.trans le66) sq41)), (Same.tup gb65.s (SqT.of e64)), sm_of (by walk_at "o"), sm_of (by walk_at "o"), fun p69 hp70 => ?_⟩
      obtain ⟨F71, g73, e74⟩ := al2 (o := (.tup (fr (total36 + (x42 * x45))))) gb65.s (by intro _ _ z; cases z) hp70
      generalize upd H62 p69 (.tup (fr (total36 + (x42 * x45)))) = H72 at g73 ⊢
      have gb75 := gb65.tr g73
      have le76 := g73.le
      have cm77 := g73.fz cm67
      have b78 := bs_add total36 (x42 * x45)
      refine a_name ?_
      try dsimp only
      exact ⟨F71, _, (total36 + (x42 * x45)), _, _, rfl, gb75, cm77, (((le35.trans le57).trans le66).trans le76), ⟨_, rfl, (SqT.of e74)⟩, by exact ⟨by rw [q0]; exact (wgtZ_snoc (zip_at hx43 hx46)).symm, by omega⟩⟩
    · rintro σ' H79 ⟨F80, v_total84, total84, o85, o86, rfl, gb81, cm82, le83, hr87, ⟨q0, q1⟩⟩
      obtain ⟨a88, rfl, sq89⟩ := hr87
      have hlen := Al.length (Al.mo le83 al4)
      have hlen2 := Al.length (Al.mo le83 al8)
      try dsimp only
      rw [hlen, hlen2, zip_all] at q0
      have hmm := Nat.min_le_left weights.length numbers.length
      have hws := wsum_take weights (min weights.length numbers.length)
      refine a_ret ?_
      refine a_var rfl ?_
      have hval : (total84 : Rat) = (wgtZ (weights.zip numbers)) := by exact q0
      have rp90 : (rFr K) F80 (V.ref a88) (total84) := ⟨_, rfl, sq89⟩
      replace rp90 := Eq.mp (congrArg ((rFr K) F80 (V.ref a88)) hval) rp90
      exact k _ _ _ (Gr.of gb81 cm82) rp90 (by rw [← hval]; rw [hlen, hlen2] at q1; omega)
def sp_column (K : PySem.W.Frag) : Sp := fun vs H Q _ => Ex7 fun (F : Hp) (v_rows : V) (v_prices : V) (v_unknown : V) (rows : (List ((List (Str × Rat)) × Str × Rat × Int × Int))) (prices : (List Rat)) (unknown : Str) => Cj7 (vs = [v_rows, v_prices, v_unknown]) (Same F H) ((rL K (r5 K (rD (rFr K)) rS (rFr K) rI rI)) F v_rows rows) ((rL K (rFr K)) F v_prices prices) (rS F v_unknown unknown) (rows.length ≤ 12 ∧ prices.length ≤ 12 ∧ wsum prices ≤ 3000 ∧ ∀ r ∈ rows, ∀ x y, gtd r.1 x = some y → bs y ≤ 10) (∀ (v : V) (F' H' : Hp), Gr F H F' H' → (rFr K) F' v (colR rows prices unknown) → (bs (colR rows prices unknown) ≤ 3200) → Q v H')
set_option linter.unusedVariables false in
theorem ok_column (T : Tx K mg) : FnOk P w K mg base CX0 5 T.a_column T.d_column ["rows", "prices", "unknown"] (sp_column K) := by
  refine T.F_column.ok sc_column (fun vs H Q E h => ?_) (fun cdv A outer s H vs Q E hr h => ?_)
  · obtain ⟨F, v_rows, v_prices, v_unknown, rows, prices, unknown, rfl, _⟩ := h
    rfl
  · obtain ⟨F, v_rows, v_prices, v_unknown, rows, prices, unknown, rfl, wd, r_rows, r_prices, r_unknown, hpre, k⟩ := h
    have hu := hu_of hr
    have gb := Gr0.refl wd
    have cm := Fz.refl F
    obtain ⟨a1, vs2, rfl, sq3, al4⟩ := r_rows
    obtain ⟨a5, vs6, rfl, sq7, al8⟩ := r_prices
    obtain rfl : v_unknown = V.str unknown := r_unknown
    obtain ⟨w1, w2, w3, w4⟩ := hpre
    refine ⟨_, (pss_one (ps_ret (pe_call ((ok_weighed T).mono (by decide)) hr rfl T.m_weighed T.F_weighed.kp T.b_weighed .nil pass0 (pa_cons (pv 1) (pa_cons (pe_comp (N := ["one", "unknown"]) (ix := [none, some 2]) rfl (pi_list (pv 0)) (fun _ _ _ _ _ => (pg_name (i := 0) (show List.Nodup (["one", "unknown"] : List Str) from by decide) rfl (Or.inl rfl))) (fun _ _ _ _ _ => pts_nil) (fun _ _ _ _ _ => (pe_dget2 hu (pe_ix (show IxR _ (rIxT K) from ix_tup) (pv 0) pe_int (fun _ _ => rfl)) (pv 1) (pe_glob (v := .ref T.c_NOUGHT) rfl T.m_NOUGHT rfl) ⟨rfl, rfl, rfl, rfl⟩)) ⟨rfl, rfl, rfl, True.intro⟩) pa_nil))))), ?_⟩
    refine a_ret ?_
    refine a_call ?_
    refine a_cons ?_
    refine a_var rfl ?_
    refine a_cons ?_
    refine a_comp ?_
    refine a_ilist ?_
    refine a_var rfl ?_
    have hml11 : (rows).length ≤ 1000000 := by omega
    refine ⟨_, rfl, ⟨_, (Same.seq gb.s sq3)⟩, comp_list (K := K) (a := a1) (xs := vs2) (fun i acc H' => Ex2 fun (F9 : Hp) (ts10 : List Rat) => Cj7 (True) (Gr0 F H F9 H') (Fz (frzd F) F9) (Le F F9) (Al (rFr K) F9 acc ts10) (ts10.length ≤ i) ((ts10 = (rows.take i).map (fun r => (gtd r.1 unknown).getD 0) ∧ ∀ q ∈ ts10, bs q ≤ 10))) ?_ ?_ ?_ ?_⟩
    · exact ⟨F, [], True.intro, gb, cm, Le.refl _, (show Al (rFr K) F [] [] from True.intro), (by first | (simp; done) | (rw [List.length_append]; simp only [List.length_cons, List.length_nil]; omega) | omega), by exact ⟨rfl, fun q h => nomatch h⟩⟩
    · rintro i acc H12 _ ⟨F13, ts17, _, gb14, cm15, le16, al18, tl19, ⟨q0, q1⟩⟩
      exact (Same.seq gb14.s (Le.lst le16 sq3))
    · rintro i20 y23 acc24 H21 hi22 ⟨F25, ts29, _, gb26, cm27, le28, al30, tl31, ⟨q0, q1⟩⟩
      obtain ⟨x32, hx33, hr34⟩ := Al.get (Al.mo le28 al4) hi22
      have hil := (List.getElem?_eq_some_iff.mp hx33).1
      refine a_name ?_
      obtain ⟨a35, v37, v38, v39, v40, v41, rfl, sq36, h42, h43, h44, h45, h46⟩ := hr34
      obtain ⟨a47, kvs48, rfl, rd49, dk50, nd51⟩ := h42
      obtain rfl : v38 = V.str x32.2.1 := h43
      obtain ⟨a52, rfl, sq53⟩ := h44
      obtain rfl : v40 = V.int x32.2.2.2.1 := h45
      obtain rfl : v41 = V.int x32.2.2.2.2 := h46
      refine ⟨Wk.non (Wk.som (Wk.nil)), ?_⟩
      try dsimp only
      have u1 := w4 _ (List.mem_of_getElem? hx33)
      have u2 : bs ((gtd x32.1 unknown).getD 0) ≤ 10 := by
        cases e : gtd x32.1 unknown with
        | none => exact (by decide +kernel)
        | some y => exact u1 _ _ e
      refine a_yes ?_
      refine iteT ?_
      refine a_dget2 ?_
      refine a_op ?_
      refine a_var rfl ?_
      refine a_c ?_
      refine a_ixT (Same.tup gb26.s sq36) rfl ?_
      refine ⟨_, rfl, .inl ⟨_, (Same.rd gb26.s rd49)⟩, ?_⟩
      refine a_var rfl ?_
      refine a_c ?_
      obtain ⟨o56, hg57, h55⟩ := dgetD (A := (rFr K)) (F := F25) (d := 0) unknown (Same.rd gb26.s rd49) dk50 ⟨_, rfl, (Le.tup le28 (.inr T.t_NOUGHT))⟩
      refine ⟨o56, hg57, ?_⟩
      generalize o56.getD (V.ref T.c_NOUGHT) = v54 at h55 ⊢
      obtain ⟨a58, rfl, sq59⟩ := h55
      refine ⟨by rw [Al.length al30]; have := sizeLine_big; omega, ?_⟩
      exact ⟨F25, (ts29 ++ [((gtd x32.1 unknown).getD 0)]), True.intro, gb26, cm27, le28, (Al.snoc al30 ⟨_, rfl, sq59⟩), (by first | (simp; done) | (rw [List.length_append]; simp only [List.length_cons, List.length_nil]; omega) | omega), by exact ⟨by rw [q0]; exact (map_take_succ _ hx33).symm, fun q h => (List.mem_append.mp h).elim (q1 q) fun z => by rw [List.mem_singleton.mp z]; exact u2⟩⟩
    · rintro acc61 H60 ⟨F62, ts66, _, gb63, cm64, le65, al67, tl68, ⟨q0, q1⟩⟩
      have hlen := Al.length (Al.mo le65 al4)
      refine ⟨(by rw [Al.length al67]; have := sizeLine_big; omega), fun p69 hp70 => ?_⟩
      obtain ⟨F71, g73, e74⟩ := al2 (o := (.lst acc61)) gb63.s (by intro _ _ z; cases z) hp70
      generalize upd H60 p69 (.lst acc61) = H72 at g73 ⊢
      have gb75 := gb63.tr g73
      have le76 := g73.le
      have cm77 := g73.fz cm64
      rw [hlen, List.take_length] at q0
      refine a_nil ?_
      refine ⟨F71, _, _, prices, ts66, rfl, gb75.s, ⟨_, _, rfl, (Le.lst (le65.trans le76) sq7), (Al.mo (le65.trans le76) al8)⟩, ⟨_, _, rfl, (SqL.of e74), (Al.mo le76 al67)⟩, (by exact ⟨w2, by omega, w3, q1⟩), ?_⟩
      rintro v78 F79 H80  g82 hr83 hp84
      have gb85 := gb75.tr g82
      have le86 := g82.le
      have cm87 := g82.fz cm77
      obtain ⟨a88, rfl, sq89⟩ := hr83
      have u9 := hp84
      have hval : ((wgtZ (prices.zip ts66)) : Rat) = (colR rows prices unknown) := by rw [q0]; rfl
      have rp90 : (rFr K) F79 (V.ref a88) ((wgtZ (prices.zip ts66))) := ⟨_, rfl, sq89⟩
      replace rp90 := Eq.mp (congrArg ((rFr K) F79 (V.ref a88)) hval) rp90
      exact k _ _ _ (Gr.of gb85 cm87) rp90 (by rw [← hval]; exact u9)
def sp_signs_good (K : PySem.W.Frag) : Sp := fun vs H Q _ => Ex5 fun (F : Hp) (v_rows : V) (v_prices : V) (rows : (List ((List (Str × Rat)) × Str × Rat × Int × Int))) (prices : (List Rat)) => Cj6 (vs = [v_rows, v_prices]) (Same F H) ((rL K (r5 K (rD (rFr K)) rS (rFr K) rI rI)) F v_rows rows) ((rL K (rFr K)) F v_prices prices) ((∀ q ∈ prices, bs q ≤ 3000)) (∀ (v : V) (F' H' : Hp), Gr F H F' H' → rB F' v ((rows.zip prices).all signB) → Q v H')
set_option linter.unusedVariables false in
theorem ok_signs_good (T : Tx K mg) : FnOk P w K mg base CX0 4 T.a_signs_good T.d_signs_good ["rows", "prices"] (sp_signs_good K) := by
  refine T.F_signs_good.ok sc_signs_good (fun vs H Q E h => ?_) (fun cdv A outer s H vs Q E hr h => ?_)
  · obtain ⟨F, v_rows, v_prices, rows, prices, rfl, _⟩ := h
    rfl
  · obtain ⟨F, v_rows, v_prices, rows, prices, rfl, wd, r_rows, r_prices, hpre, k⟩ := h
    have hu := hu_of hr
    have gb := Gr0.refl wd
    have cm := Fz.refl F
    obtain ⟨a1, vs2, rfl, sq3, al4⟩ := r_rows
    obtain ⟨a5, vs6, rfl, sq7, al8⟩ := r_prices
    refine ⟨_, (ZSs.h (zss_cons (ps_for PassesOwn.never rfl (pi_zip rfl T.z_zip (pa_cons (pv 0) (pa_cons (pv 1) pa_nil))) (pg_tup rfl (pgs_cons (pg_name (i := 2) sc_signs_good.nd rfl (Or.inl rfl)) (pgs_cons (pg_name (i := 3) sc_signs_good.nd rfl (Or.inl rfl)) pgs_nil))) (ZSs.h (zss_cons (ps_if (PW.pt (pw_and (pt_cmpR op_eq (pe_ix ix_tup (pv 2) pe_int (fun _ _ => rfl)) pe_str (nomark _)) (pw_and1 (pt_val (pe_call ((ok_under T).mono (by decide)) hr rfl T.m_under T.F_under.kp T.b_under .nil pass0 (pa_cons (pv 3) (pa_cons (pe_glob (v := .ref T.c_NOUGHT) rfl T.m_NOUGHT rfl) pa_nil))))))) (pss_one (ps_ret pe_bl)) pss_nil)
          (zss_one (ps_if (PW.pt (pw_and (pt_cmpR op_eq (pe_ix ix_tup (pv 2) pe_int (fun _ _ => rfl)) pe_str (nomark _)) (pw_and1 (pt_val (pe_call ((ok_under T).mono (by decide)) hr rfl T.m_under T.F_under.kp T.b_under .nil pass0 (pa_cons (pe_glob (v := .ref T.c_NOUGHT) rfl T.m_NOUGHT rfl) (pa_cons (pv 3) pa_nil))))))) (pss_one (ps_ret pe_bl)) pss_nil)))))
          (zss_one (ps_ret pe_bl)))), ?_⟩
    refine a_seq ?_
    refine a_for ?_
    refine a_izip ?_
    refine a_cons ?_
    refine a_var rfl ?_
    refine a_cons ?_
    refine a_var rfl ?_
    refine a_nil ?_
    refine ⟨_, _, rfl, ⟨_, (Same.seq gb.s sq3)⟩, ⟨_, (Same.seq gb.s sq7)⟩, for_zip (K := K) (a := a1) (b := a5) (xs := vs2) (ys := vs6) (fun i σ' H' => Ex3 fun (F9 : Hp) (o10 : Option V) (o11 : Option V) => Cj5 (σ' = [some (V.ref a1), some (V.ref a5), o10, o11]) (Gr0 F H F9 H') (Fz (frzd F) F9) (Le F F9) ((((rows.zip prices).take i).all signB = true))) ?_ ?_ ?_ ?_⟩
    · exact ⟨F, _, _, rfl, gb, cm, Le.refl _, by rfl⟩
    · rintro i σ' H12 _ ⟨F13, o17, o18, rfl, gb14, cm15, le16, q0⟩
      exact ⟨(Same.seq gb14.s (Le.lst le16 sq3)), (Same.seq gb14.s (Le.lst le16 sq7))⟩
    · rintro i19 y23 z24 σ' H20 p25 hi21 hj22 ⟨F27, o31, o32, rfl, gb28, cm29, le30, q0⟩ hp26
      obtain ⟨x33, hx34, hr35⟩ := Al.get (Al.mo le30 al4) hi21
      obtain ⟨x36, hx37, hr38⟩ := Al.get (Al.mo le30 al8) hj22
      obtain ⟨a43, v45, v46, v47, v48, v49, rfl, sq44, h50, h51, h52, h53, h54⟩ := hr35
      obtain ⟨a55, kvs56, rfl, rd57, dk58, nd59⟩ := h50
      obtain rfl : v46 = V.str x33.2.1 := h51
      obtain ⟨a60, rfl, sq61⟩ := h52
      obtain rfl : v48 = V.int x33.2.2.2.1 := h53
      obtain rfl : v49 = V.int x33.2.2.2.2 := h54
      obtain ⟨a62, rfl, sq63⟩ := hr38
      refine it2 (K := K) gb28.s hp26 (fun F39 H40 g41 e42 => ?_)
      have gb64 := gb28.tr g41
      have le65 := g41.le
      have cm66 := g41.fz cm29
      try dsimp only
      have u1 := hpre _ (List.mem_of_getElem? hx37)
      have hz := zip_at hx34 hx37
      have b0 := bs_zero
      refine a_seq ?_
      refine a_if ?_
      refine a_and ?_
      refine a_test ?_
      refine a_op ?_
      refine a_op ?_
      refine a_var rfl ?_
      refine a_c ?_
      refine a_ixT (Same.tup gb64.s (Le.tup le65 sq44)) rfl ?_
      refine a_c ?_
      have ln67 : ("least" : Str).length = 5 := by decide +kernel
      refine a_eqS ?_
      refine a_bl ?_
      refine iteD (fun c68 => ?_) (fun c68 => ?_)
      · refine a_tB ?_
        refine a_call ?_
        refine a_cons ?_
        refine a_var rfl ?_
        refine a_cons ?_
        refine a_c ?_
        refine a_nil ?_
        refine ⟨_, _, x36, 0, rfl, (Same.tup gb64.s (Le.tup le65 sq63)), (Same.tup gb64.s (Le.tup (le30.trans le65) (.inr T.t_NOUGHT))), sm_of (by walk_at "o"), sm_of (by walk_at "o"), ?_⟩
        refine a_bl ?_
        refine iteD (fun c69 => ?_) (fun c69 => ?_)
        · refine a_ret ?_
          refine a_c ?_
          have hval : (false : Bool) = ((rows.zip prices).all signB) := by exact (all_no hz (by unfold signB; simp_all)).symm
          have rp70 : rB F39 (V.bl false) (false) := rfl
          replace rp70 := Eq.mp (congrArg (rB F39 (V.bl false)) hval) rp70
          exact k _ _ _ (Gr.of gb64 cm66) rp70
        · refine a_next ?_
          try dsimp only
          refine a_if ?_
          refine a_and ?_
          refine a_test ?_
          refine a_op ?_
          refine a_op ?_
          refine a_var rfl ?_
          refine a_c ?_
          refine a_ixT (Same.tup gb64.s (Le.tup le65 sq44)) rfl ?_
          refine a_c ?_
          have ln71 : ("most" : Str).length = 4 := by decide +kernel
          refine a_eqS ?_
          refine a_bl ?_
          refine iteD (fun c72 => ?_) (fun c72 => ?_)
          · refine a_tB ?_
            refine a_call ?_
            refine a_cons ?_
            refine a_c ?_
            refine a_cons ?_
            refine a_var rfl ?_
            refine a_nil ?_
            refine ⟨_, _, 0, x36, rfl, (Same.tup gb64.s (Le.tup (le30.trans le65) (.inr T.t_NOUGHT))), (Same.tup gb64.s (Le.tup le65 sq63)), sm_of (by walk_at "o"), sm_of (by walk_at "o"), ?_⟩
            refine a_bl ?_
            refine iteD (fun c73 => ?_) (fun c73 => ?_)
            · refine a_ret ?_
              refine a_c ?_
              have hval : (false : Bool) = ((rows.zip prices).all signB) := by exact (all_no hz (by unfold signB; simp_all)).symm
              have rp74 : rB F39 (V.bl false) (false) := rfl
              replace rp74 := Eq.mp (congrArg (rB F39 (V.bl false)) hval) rp74
              exact k _ _ _ (Gr.of gb64 cm66) rp74
            · refine a_next ?_
              try dsimp only
              exact ⟨F39, _, _, rfl, gb64, cm66, (le30.trans le65), by exact all_yes hz (by unfold signB; simp_all) q0⟩
          · refine iteF ?_
            refine a_next ?_
            try dsimp only
            exact ⟨F39, _, _, rfl, gb64, cm66, (le30.trans le65), by exact all_yes hz (by unfold signB; simp_all) q0⟩
      · refine iteF ?_
        refine a_next ?_
        try dsimp only
        refine a_if ?_
        refine a_and ?_
        refine a_test ?_
        refine a_op ?_
        refine a_op ?_
        refine a_var rfl ?_
        refine a_c ?_
        refine a_ixT (Same.tup gb64.s (Le.tup le65 sq44)) rfl ?_
        refine a_c ?_
        have ln75 : ("most" : Str).length = 4 := by decide +kernel
        refine a_eqS ?_
        refine a_bl ?_
        refine iteD (fun c76 => ?_) (fun c76 => ?_)
        · refine a_tB ?_
          refine a_call ?_
          refine a_cons ?_
          refine a_c ?_
          refine a_cons ?_
          refine a_var rfl ?_
          refine a_nil ?_
          refine ⟨_, _, 0, x36, rfl, (Same.tup gb64.s (Le.tup (le30.trans le65) (.inr T.t_NOUGHT))), (Same.tup gb64.s (Le.tup le65 sq63)), sm_of (by walk_at "o"), sm_of (by walk_at "o"), ?_⟩
          refine a_bl ?_
          refine iteD (fun c77 => ?_) (fun c77 => ?_)
          · refine a_ret ?_
            refine a_c ?_
            have hval : (false : Bool) = ((rows.zip prices).all signB) := by exact (all_no hz (by unfold signB; simp_all)).symm
            have rp78 : rB F39 (V.bl false) (false) := rfl
            replace rp78 := Eq.mp (congrArg (rB F39 (V.bl false)) hval) rp78
            exact k _ _ _ (Gr.of gb64 cm66) rp78
          · refine a_next ?_
            try dsimp only
            exact ⟨F39, _, _, rfl, gb64, cm66, (le30.trans le65), by exact all_yes hz (by unfold signB; simp_all) q0⟩
        · refine iteF ?_
          refine a_next ?_
          try dsimp only
          exact ⟨F39, _, _, rfl, gb64, cm66, (le30.trans le65), by exact all_yes hz (by unfold signB; simp_all) q0⟩
    · rintro σ' H79 ⟨F80, o84, o85, rfl, gb81, cm82, le83, q0⟩
      have hlen := Al.length (Al.mo le83 al4)
      have hlen2 := Al.length (Al.mo le83 al8)
      try dsimp only
      rw [hlen, hlen2, zip_all] at q0
      refine a_ret ?_
      refine a_c ?_
      have hval : (true : Bool) = ((rows.zip prices).all signB) := by exact q0.symm
      have rp86 : rB F80 (V.bl true) (true) := rfl
      replace rp86 := Eq.mp (congrArg (rB F80 (V.bl true)) hval) rp86
      exact k _ _ _ (Gr.of gb81 cm82) rp86
def sp_rising_musts (K : PySem.W.Frag) : Sp := fun vs H Q _ => Ex5 fun (F : Hp) (v_rows : V) (v_numbers : V) (rows : (List ((List (Str × Rat)) × Str × Rat × Int × Int))) (numbers : (List Int)) => Cj6 (vs = [v_rows, v_numbers]) (Same F H) ((rL K (r5 K (rD (rFr K)) rS (rFr K) rI rI)) F v_rows rows) ((rL K rI) F v_numbers numbers) ((∀ q ∈ numbers, 0 ≤ q)) (∀ (v : V) (F' H' : Hp), Gr F H F' H' → rB F' v (risB rows numbers) → Q v H')
set_option linter.unusedVariables false in
theorem ok_rising_musts (T : Tx K mg) : FnOk P w K mg base CX0 1 T.a_rising_musts T.d_rising_musts ["rows", "numbers"] (sp_rising_musts K) := by
  refine T.F_rising_musts.ok sc_rising_musts (fun vs H Q E h => ?_) (fun cdv A outer s H vs Q E hr h => ?_)
  · obtain ⟨F, v_rows, v_numbers, rows, numbers, rfl, _⟩ := h
    rfl
  · obtain ⟨F, v_rows, v_numbers, rows, numbers, rfl, wd, r_rows, r_numbers, hpre, k⟩ := h
    have hu := hu_of hr
    have gb := Gr0.refl wd
    have cm := Fz.refl F
    obtain ⟨a1, vs2, rfl, sq3, al4⟩ := r_rows
    obtain ⟨a5, vs6, rfl, sq7, al8⟩ := r_numbers
    refine ⟨_, (ZSs.h (zss_cons (ps_set (i := 2) sc_rising_musts.nd rfl (Or.inl rfl) (pe_un un_neg pe_int))
          (zss_cons (ps_for PassesOwn.never rfl (pi_list (pv 1)) (pg_name (i := 3) sc_rising_musts.nd rfl (Or.inl rfl)) (ZSs.h (zss_cons (ps_if (PW.pt (pw_or (pt_not (pt_chain op_lt op_lt (pv 2) (pv 3) (pe_callB call_len_seq rfl T.z_len rfl (pa_cons (pv 0) pa_nil)))) (pw_or1 (pt_cmpR op_ne (pe_ix ix_tup (pe_ix ix_list (pv 0) (pv 3) (fun _ _ => rfl)) pe_int (fun _ _ => rfl)) (pe_glob (v := .int (0)) rfl T.m_MUST ⟨_, rfl⟩) (nomark _))))) (pss_one (ps_ret pe_bl)) pss_nil)
          (zss_one (ps_set (i := 2) sc_rising_musts.nd rfl (Or.inl rfl) (pv 3))))))
          (zss_one (ps_ret pe_bl))))), ?_⟩
    refine a_seq ?_
    refine a_asg ?_
    refine a_un ?_
    refine a_c ?_
    refine a_U ?_
    refine a_name ?_
    try dsimp only
    refine a_seq ?_
    refine a_for ?_
    refine a_ilist ?_
    refine a_var rfl ?_
    refine ⟨_, rfl, ⟨_, (Same.seq gb.s sq7)⟩, for_list (xs := vs6) (K := K) (a := a5) (fun i σ' H' => Ex3 fun (F9 : Hp) (ahead10 : Int) (o11 : Option V) => Cj5 (σ' = [some (V.ref a1), some (V.ref a5), some (V.int ahead10), o11]) (Gr0 F H F9 H') (Fz (frzd F) F9) (Le F F9) (((numbers.take i).foldl (risF rows) (some (-1)) = some ahead10))) ?_ ?_ ?_ ?_⟩
    · exact ⟨F, (-1), _, rfl, gb, cm, Le.refl _, by rfl⟩
    · rintro i σ' H12 _ ⟨F13, ahead17, o18, rfl, gb14, cm15, le16, q1⟩
      exact (Same.seq gb14.s (Le.lst le16 sq7))
    · rintro i19 y22 σ' H20 hi21 ⟨F23, ahead27, o28, rfl, gb24, cm25, le26, q1⟩
      obtain ⟨x29, hx30, hr31⟩ := Al.get (Al.mo le26 al8) hi21
      refine a_name ?_
      try dsimp only
      obtain rfl : y22 = V.int x29 := hr31
      have u1 := hpre _ (List.mem_of_getElem? hx30)
      have hx9 := hx30
      refine a_seq ?_
      refine a_if ?_
      refine a_or ?_
      refine a_not ?_
      refine a_test ?_
      refine a_chain ?_
      refine a_var rfl ?_
      refine a_var rfl ?_
      refine a_I0 ?_
      refine a_bl ?_
      refine iteD (fun c32 => ?_) (fun c32 => ?_)
      · refine a_cb ?_
        refine a_cons ?_
        refine a_var rfl ?_
        refine a_nil ?_
        refine ⟨_, _, rfl, .inl (Same.seq gb24.s (Le.lst le26 sq3)), ?_⟩
        rw [Al.length (Al.mo le26 al4)]
        refine a_I0 ?_
        refine a_bl ?_
        refine iteDN (fun c33 => ?_) (fun c33 => ?_)
        · refine iteT ?_
          refine a_ret ?_
          refine a_c ?_
          have hval : (false : Bool) = (risB rows numbers) := by first | exact ris_no hx9 q1 (fun z => (by assumption : ¬ _ < _) z.1) | exact ris_no hx9 q1 (fun z => (by assumption : ¬ _ < _) z.2.1) | exact ris_no hx9 q1 (fun z => absurd (Option.some.inj ((rkO_of hr9).symm.trans z.2.2)) (by assumption))
          have rp34 : rB F23 (V.bl false) (false) := rfl
          replace rp34 := Eq.mp (congrArg (rB F23 (V.bl false)) hval) rp34
          exact k _ _ _ (Gr.of gb24 cm25) rp34
        · refine a_test ?_
          refine a_op ?_
          refine a_op ?_
          refine a_op ?_
          refine a_var rfl ?_
          refine a_var rfl ?_
          obtain ⟨x36, v35, h37, h38, h39⟩ := Al.ix (Al.mo le26 al4) (i := x29) (by walk_at "o") (by walk_at "ol")
          refine a_ixL (Same.seq gb24.s (Le.lst le26 sq3)) h38 ?_
          have hr9 := h37
          obtain ⟨a40, v42, v43, v44, v45, v46, rfl, sq41, h47, h48, h49, h50, h51⟩ := h39
          obtain ⟨a52, kvs53, rfl, rd54, dk55, nd56⟩ := h47
          obtain rfl : v43 = V.str x36.2.1 := h48
          obtain ⟨a57, rfl, sq58⟩ := h49
          obtain rfl : v45 = V.int x36.2.2.2.1 := h50
          obtain rfl : v46 = V.int x36.2.2.2.2 := h51
          refine a_c ?_
          refine a_ixT (Same.tup gb24.s sq41) rfl ?_
          refine a_c ?_
          refine a_neI ?_
          refine a_bl ?_
          refine iteDN (fun c59 => ?_) (fun c59 => ?_)
          · refine a_ret ?_
            refine a_c ?_
            have hval : (false : Bool) = (risB rows numbers) := by first | exact ris_no hx9 q1 (fun z => (by assumption : ¬ _ < _) z.1) | exact ris_no hx9 q1 (fun z => (by assumption : ¬ _ < _) z.2.1) | exact ris_no hx9 q1 (fun z => absurd (Option.some.inj ((rkO_of hr9).symm.trans z.2.2)) (by assumption))
            have rp60 : rB F23 (V.bl false) (false) := rfl
            replace rp60 := Eq.mp (congrArg (rB F23 (V.bl false)) hval) rp60
            exact k _ _ _ (Gr.of gb24 cm25) rp60
          · refine a_next ?_
            try dsimp only
            refine a_asg ?_
            refine a_var rfl ?_
            refine a_name ?_
            try dsimp only
            exact ⟨F23, x29, _, rfl, gb24, cm25, le26, by exact ris_yes hx9 q1 ⟨by assumption, by assumption, by rw [rkO_of hr9]; exact congrArg some (by assumption)⟩⟩
      · refine a_bl ?_
        refine iteNF ?_
        refine iteT ?_
        refine a_ret ?_
        refine a_c ?_
        have hval : (false : Bool) = (risB rows numbers) := by first | exact ris_no hx9 q1 (fun z => (by assumption : ¬ _ < _) z.1) | exact ris_no hx9 q1 (fun z => (by assumption : ¬ _ < _) z.2.1) | exact ris_no hx9 q1 (fun z => absurd (Option.some.inj ((rkO_of hr9).symm.trans z.2.2)) (by assumption))
        have rp61 : rB F23 (V.bl false) (false) := rfl
        replace rp61 := Eq.mp (congrArg (rB F23 (V.bl false)) hval) rp61
        exact k _ _ _ (Gr.of gb24 cm25) rp61
    · rintro σ' H62 ⟨F63, ahead67, o68, rfl, gb64, cm65, le66, q1⟩
      have hlen := Al.length (Al.mo le66 al8)
      try dsimp only
      rw [hlen, List.take_length] at q1
      refine a_ret ?_
      refine a_c ?_
      have hval : (true : Bool) = (risB rows numbers) := by exact ris_end q1
      have rp69 : rB F63 (V.bl true) (true) := rfl
      replace rp69 := Eq.mp (congrArg (rB F63 (V.bl true)) hval) rp69
      exact k _ _ _ (Gr.of gb64 cm65) rp69
def sp_shows_clash (K : PySem.W.Frag) : Sp := fun vs H Q _ => Ex9 fun (F : Hp) (v_rows : V) (v_unknowns : V) (v_numbers : V) (v_weights : V) (rows : (List ((List (Str × Rat)) × Str × Rat × Int × Int))) (unknowns : (List Str)) (numbers : (List Int)) (weights : (List Rat)) => Cj8 (vs = [v_rows, v_unknowns, v_numbers, v_weights]) (Same F H) ((rL K (r5 K (rD (rFr K)) rS (rFr K) rI rI)) F v_rows rows) ((rL K rS) F v_unknowns unknowns) ((rL K rI) F v_numbers numbers) ((rL K (rFr K)) F v_weights weights) (rows.length ≤ 12 ∧ numbers.length ≤ 12 ∧ weights.length ≤ 12 ∧ unknowns.length ≤ 5 ∧ (∀ q ∈ numbers, 0 ≤ q) ∧ wsum weights ≤ 3000 ∧ (∀ r ∈ rows, bs r.2.2.1 ≤ 10) ∧ ∀ r ∈ rows, ∀ x y, gtd r.1 x = some y → bs y ≤ 10) (∀ (v : V) (F' H' : Hp), Gr F H F' H' → rB F' v (clashB rows unknowns numbers weights) → Q v H')
set_option linter.unusedVariables false in
theorem ok_shows_clash (T : Tx K mg) : FnOk P w K mg base CX0 6 T.a_shows_clash T.d_shows_clash ["rows", "unknowns", "numbers", "weights"] (sp_shows_clash K) := by
  refine T.F_shows_clash.ok sc_shows_clash (fun vs H Q E h => ?_) (fun cdv A outer s H vs Q E hr h => ?_)
  · obtain ⟨F, v_rows, v_unknowns, v_numbers, v_weights, rows, unknowns, numbers, weights, rfl, _⟩ := h
    rfl
  · obtain ⟨F, v_rows, v_unknowns, v_numbers, v_weights, rows, unknowns, numbers, weights, rfl, wd, r_rows, r_unknowns, r_numbers, r_weights, hpre, k⟩ := h
    have hu := hu_of hr
    have gb := Gr0.refl wd
    have cm := Fz.refl F
    obtain ⟨a1, vs2, rfl, sq3, al4⟩ := r_rows
    obtain ⟨a5, vs6, rfl, sq7, al8⟩ := r_unknowns
    obtain ⟨a9, vs10, rfl, sq11, al12⟩ := r_numbers
    obtain ⟨a13, vs14, rfl, sq15, al16⟩ := r_weights
    obtain ⟨w1, w2, w3, w4, w5, w6, w7, w8⟩ := hpre
    refine ⟨_, (ZSs.h (zss_cons (ps_if (PW.pt (pw_or (pt_cmpR op_ne (pe_callB call_len_seq rfl T.z_len rfl (pa_cons (pv 2) pa_nil)) (pe_callB call_len_seq rfl T.z_len rfl (pa_cons (pv 3) pa_nil)) (nomark _)) (pw_or1 (pt_not (pt_val (pe_call ((ok_rising_musts T).mono (by decide)) hr rfl T.m_rising_musts T.F_rising_musts.kp T.b_rising_musts .nil pass0 (pa_cons (pv 0) (pa_cons (pv 2) pa_nil)))))))) (pss_one (ps_ret pe_bl)) pss_nil)
          (zss_cons (ps_set (i := 4) sc_shows_clash.nd rfl (Or.inr rfl) (pe_comp (N := ["number", "rows"]) (ix := [none, some 0]) rfl (pi_list (pv 2)) (fun _ _ _ _ _ => (pg_name (i := 0) (show List.Nodup (["number", "rows"] : List Str) from by decide) rfl (Or.inl rfl))) (fun _ _ _ _ _ => pts_nil) (fun _ _ _ _ _ => (pe_ix (show IxR _ (rIxL K) from ix_list) (pv 1) (pv 0) (fun _ _ => rfl))) ⟨rfl, rfl, rfl, True.intro⟩))
          (zss_cons (ps_if (pt_not (pt_val (pe_call ((ok_signs_good T).mono (by decide)) hr rfl T.m_signs_good T.F_signs_good.kp T.b_signs_good .nil pass0 (pa_cons (pv 4) (pa_cons (pv 3) pa_nil))))) (pss_one (ps_ret pe_bl)) pss_nil)
          (zss_cons (ps_if (pt_val (pe_callB (call_anyB rfl) rfl T.z_any rfl (pa_cons (pe_comp (N := ["unknown", "chosen", "weights"]) (ix := [none, some 4, some 3]) rfl (pi_list (pv 1)) (fun _ _ _ _ _ => (pg_name (i := 0) (show List.Nodup (["unknown", "chosen", "weights"] : List Str) from by decide) rfl (Or.inl rfl))) (fun _ _ _ _ _ => pts_nil) (fun _ _ _ _ _ => (pe_call ((ok_under T).mono (by decide)) hr rfl T.m_under T.F_under.kp T.b_under .nil pass0 (pa_cons (pe_glob (v := .ref T.c_NOUGHT) rfl T.m_NOUGHT rfl) (pa_cons (pe_call ((ok_column T).mono (by decide)) hr rfl T.m_column T.F_column.kp T.b_column .nil pass0 (pa_cons (pv 1) (pa_cons (pv 2) (pa_cons (pv 0) pa_nil)))) pa_nil)))) ⟨rfl, rfl, rfl, ⟨rfl, rfl, rfl, True.intro⟩⟩) pa_nil))) (pss_one (ps_ret pe_bl)) pss_nil)
          (zss_one (ps_ret (pe_cmpR (op_eqQ (K := K) (A := (rFr K)) rfl hr.units) (pe_call ((ok_weighed T).mono (by decide)) hr rfl T.m_weighed T.F_weighed.kp T.b_weighed .nil pass0 (pa_cons (pv 3) (pa_cons (pe_comp (N := ["one"]) (ix := [none]) rfl (pi_list (pv 4)) (fun _ _ _ _ _ => (pg_name (i := 0) (show List.Nodup (["one"] : List Str) from by decide) rfl (Or.inl rfl))) (fun _ _ _ _ _ => pts_nil) (fun _ _ _ _ _ => (pe_ix (show IxR _ (rIxT K) from ix_tup) (pv 0) pe_int (fun _ _ => rfl))) True.intro) pa_nil))) (pe_tup (pa_cons pe_int (pa_cons pe_int pa_nil))) (nomark _))))))))), ?_⟩
    have b0 := bs_zero
    refine a_seq ?_
    refine a_if ?_
    refine a_or ?_
    refine a_test ?_
    refine a_op ?_
    refine a_cb ?_
    refine a_cons ?_
    refine a_var rfl ?_
    refine a_nil ?_
    refine ⟨_, _, rfl, .inl (Same.seq gb.s sq11), ?_⟩
    rw [Al.length al12]
    refine a_cb ?_
    refine a_cons ?_
    refine a_var rfl ?_
    refine a_nil ?_
    refine ⟨_, _, rfl, .inl (Same.seq gb.s sq15), ?_⟩
    rw [Al.length al16]
    refine a_neI ?_
    refine a_bl ?_
    refine iteDN (fun c17 => ?_) (fun c17 => ?_)
    · refine iteT ?_
      refine a_ret ?_
      refine a_c ?_
      have hval : (false : Bool) = (clashB rows unknowns numbers weights) := by first | exact clash_len (by assumption) | exact clash_ris (by assumption) | exact clash_sign (by rw [← q0]; assumption) | exact clash_col (by rw [← q0, ← q2]; assumption)
      have rp18 : rB F (V.bl false) (false) := rfl
      replace rp18 := Eq.mp (congrArg (rB F (V.bl false)) hval) rp18
      exact k _ _ _ (Gr.of gb cm) rp18
    · refine a_not ?_
      refine a_tB ?_
      refine a_call ?_
      refine a_cons ?_
      refine a_var rfl ?_
      refine a_cons ?_
      refine a_var rfl ?_
      refine a_nil ?_
      refine ⟨F, _, _, rows, numbers, rfl, gb.s, ⟨_, _, rfl, sq3, al4⟩, ⟨_, _, rfl, sq11, al12⟩, (by exact w5), ?_⟩
      rintro v19 F20 H21  g23 hr24 
      have gb26 := gb.tr g23
      have le27 := g23.le
      have cm28 := g23.fz cm
      obtain rfl : v19 = V.bl (risB rows numbers) := hr24
      refine a_bl ?_
      refine iteNB (fun c29 => ?_) (fun c29 => ?_)
      · refine a_ret ?_
        refine a_c ?_
        have hval : (false : Bool) = (clashB rows unknowns numbers weights) := by first | exact clash_len (by assumption) | exact clash_ris (by assumption) | exact clash_sign (by rw [← q0]; assumption) | exact clash_col (by rw [← q0, ← q2]; assumption)
        have rp30 : rB F20 (V.bl false) (false) := rfl
        replace rp30 := Eq.mp (congrArg (rB F20 (V.bl false)) hval) rp30
        exact k _ _ _ (Gr.of gb26 cm28) rp30
      · refine a_next ?_
        try dsimp only
        refine a_seq ?_
        refine a_asg ?_
        refine a_comp ?_
        refine a_ilist ?_
        refine a_var rfl ?_
        have hml33 : (numbers).length ≤ 1000000 := by omega
        refine ⟨_, rfl, ⟨_, (Same.seq gb26.s (Le.lst le27 sq11))⟩, comp_list (K := K) (a := a9) (xs := vs10) (fun i acc H' => Ex2 fun (F31 : Hp) (ts32 : List ((List (Str × Rat)) × Str × Rat × Int × Int)) => Cj7 (True) (Gr0 F H F31 H') (Fz (frzd F) F31) (Le F20 F31) (Al (r5 K (rD (rFr K)) rS (rFr K) rI rI) F31 acc ts32) (ts32.length ≤ i) ((ts32 = choR rows (numbers.take i) ∧ ∀ r ∈ ts32, r ∈ rows))) ?_ ?_ ?_ ?_⟩
        · exact ⟨F20, [], True.intro, gb26, cm28, Le.refl _, (show Al (r5 K (rD (rFr K)) rS (rFr K) rI rI) F20 [] [] from True.intro), (by first | (simp; done) | (rw [List.length_append]; simp only [List.length_cons, List.length_nil]; omega) | omega), by exact ⟨rfl, fun q h => (by cases h)⟩⟩
        · rintro i acc H34 _ ⟨F35, ts39, _, gb36, cm37, le38, al40, tl41, ⟨q0, q1⟩⟩
          exact (Same.seq gb36.s (Le.lst (le27.trans le38) sq11))
        · rintro i42 y45 acc46 H43 hi44 ⟨F47, ts51, _, gb48, cm49, le50, al52, tl53, ⟨q0, q1⟩⟩
          obtain ⟨x54, hx55, hr56⟩ := Al.get (Al.mo (le27.trans le50) al12) hi44
          have hil := (List.getElem?_eq_some_iff.mp hx55).1
          refine a_name ?_
          obtain rfl : y45 = V.int x54 := hr56
          refine ⟨Wk.non (Wk.som (Wk.nil)), ?_⟩
          try dsimp only
          have u1 := w5 _ (List.mem_of_getElem? hx55)
          have hx9 := hx55
          have u2 := ris_lt (rows := rows) (ns := numbers) (a := -1) (by first | assumption | simp_all [risB]) _ (List.mem_of_getElem? hx55)
          refine a_yes ?_
          refine iteT ?_
          refine a_op ?_
          refine a_var rfl ?_
          refine a_var rfl ?_
          obtain ⟨x58, v57, h59, h60, h61⟩ := Al.ix (Al.mo (le27.trans le50) al4) (i := x54) (by walk_at "o") (by walk_at "ol")
          refine a_ixL (Same.seq gb48.s (Le.lst (le27.trans le50) sq3)) h60 ?_
          have hr9 := h59
          obtain ⟨a62, v64, v65, v66, v67, v68, rfl, sq63, h69, h70, h71, h72, h73⟩ := h61
          obtain ⟨a74, kvs75, rfl, rd76, dk77, nd78⟩ := h69
          obtain rfl : v65 = V.str x58.2.1 := h70
          obtain ⟨a79, rfl, sq80⟩ := h71
          obtain rfl : v67 = V.int x58.2.2.2.1 := h72
          obtain rfl : v68 = V.int x58.2.2.2.2 := h73
          refine ⟨by rw [Al.length al52]; have := sizeLine_big; omega, ?_⟩
          exact ⟨F47, (ts51 ++ [x58]), True.intro, gb48, cm49, le50, (Al.snoc al52 ⟨_, _, _, _, _, _, rfl, sq63, ⟨_, _, rfl, rd76, dk77, nd78⟩, rfl, ⟨_, rfl, sq80⟩, rfl, rfl⟩), (by first | (simp; done) | (rw [List.length_append]; simp only [List.length_cons, List.length_nil]; omega) | omega), by exact ⟨by rw [q0]; unfold choR; rw [map_take_succ _ hx9, hr9]; rfl, fun r m => (List.mem_append.mp m).elim (q1 r) fun z => by rw [List.mem_singleton.mp z]; exact List.mem_of_getElem? hr9⟩⟩
        · rintro acc82 H81 ⟨F83, ts87, _, gb84, cm85, le86, al88, tl89, ⟨q0, q1⟩⟩
          have hlen := Al.length (Al.mo (le27.trans le86) al12)
          refine ⟨(by rw [Al.length al88]; have := sizeLine_big; omega), fun p90 hp91 => ?_⟩
          obtain ⟨F92, g94, e95⟩ := al2 (o := (.lst acc82)) gb84.s (by intro _ _ z; cases z) hp91
          generalize upd H81 p90 (.lst acc82) = H93 at g94 ⊢
          have gb96 := gb84.tr g94
          have le97 := g94.le
          have cm98 := g94.fz cm85
          rw [hlen, List.take_length] at q0
          refine a_name ?_
          try dsimp only
          refine a_seq ?_
          refine a_if ?_
          refine a_not ?_
          refine a_tB ?_
          refine a_call ?_
          refine a_cons ?_
          refine a_var rfl ?_
          refine a_cons ?_
          refine a_var rfl ?_
          refine a_nil ?_
          refine ⟨F92, _, _, ts87, weights, rfl, gb96.s, ⟨_, _, rfl, (SqL.of e95), (Al.mo le97 al88)⟩, ⟨_, _, rfl, (Le.lst ((le27.trans le86).trans le97) sq15), (Al.mo ((le27.trans le86).trans le97) al16)⟩, (by exact fun q h => Nat.le_trans (wsum_mem h) w6), ?_⟩
          rintro v99 F100 H101  g103 hr104 
          have gb106 := gb96.tr g103
          have le107 := g103.le
          have cm108 := g103.fz cm98
          obtain rfl : v99 = V.bl ((ts87.zip weights).all signB) := hr104
          refine a_bl ?_
          refine iteNB (fun c109 => ?_) (fun c109 => ?_)
          · refine a_ret ?_
            refine a_c ?_
            have hval : (false : Bool) = (clashB rows unknowns numbers weights) := by first | exact clash_len (by assumption) | exact clash_ris (by assumption) | exact clash_sign (by rw [← q0]; assumption) | exact clash_col (by rw [← q0, ← q2]; assumption)
            have rp110 : rB F100 (V.bl false) (false) := rfl
            replace rp110 := Eq.mp (congrArg (rB F100 (V.bl false)) hval) rp110
            exact k _ _ _ (Gr.of gb106 cm108) rp110
          · refine a_next ?_
            try dsimp only
            refine a_seq ?_
            refine a_if ?_
            refine a_tB ?_
            refine a_cb ?_
            refine a_cons ?_
            refine a_comp ?_
            refine a_ilist ?_
            refine a_var rfl ?_
            have hml113 : (unknowns).length ≤ 1000000 := by omega
            refine ⟨_, rfl, ⟨_, (Same.seq gb106.s (Le.lst (((le27.trans le86).trans le97).trans le107) sq7))⟩, comp_list (K := K) (a := a5) (xs := vs6) (fun i acc H' => Ex2 fun (F111 : Hp) (ts112 : List Bool) => Cj7 (True) (Gr0 F H F111 H') (Fz (frzd F) F111) (Le F100 F111) (Al rB F111 acc ts112) (ts112.length ≤ i) ((ts112 = (unknowns.take i).map (fun u => decide (0 < colR ts87 weights u))))) ?_ ?_ ?_ ?_⟩
            · exact ⟨F100, [], True.intro, gb106, cm108, Le.refl _, (show Al rB F100 [] [] from True.intro), (by first | (simp; done) | (rw [List.length_append]; simp only [List.length_cons, List.length_nil]; omega) | omega), by rfl⟩
            · rintro i acc H114 _ ⟨F115, ts119, _, gb116, cm117, le118, al120, tl121, q2⟩
              exact (Same.seq gb116.s (Le.lst ((((le27.trans le86).trans le97).trans le107).trans le118) sq7))
            · rintro i122 y125 acc126 H123 hi124 ⟨F127, ts131, _, gb128, cm129, le130, al132, tl133, q2⟩
              obtain ⟨x134, hx135, hr136⟩ := Al.get (Al.mo ((((le27.trans le86).trans le97).trans le107).trans le130) al8) hi124
              have hil := (List.getElem?_eq_some_iff.mp hx135).1
              refine a_name ?_
              obtain rfl : y125 = V.str x134 := hr136
              refine ⟨Wk.non (Wk.som (Wk.som (Wk.nil))), ?_⟩
              try dsimp only
              refine a_yes ?_
              refine iteT ?_
              refine a_call ?_
              refine a_cons ?_
              refine a_c ?_
              refine a_cons ?_
              refine a_call ?_
              refine a_cons ?_
              refine a_var rfl ?_
              refine a_cons ?_
              refine a_var rfl ?_
              refine a_cons ?_
              refine a_var rfl ?_
              refine a_nil ?_
              refine ⟨F127, _, _, _, ts87, weights, x134, rfl, gb128.s, ⟨_, _, rfl, (Le.lst (le107.trans le130) (SqL.of e95)), (Al.mo (le107.trans le130) (Al.mo le97 al88))⟩, ⟨_, _, rfl, (Le.lst ((((le27.trans le86).trans le97).trans le107).trans le130) sq15), (Al.mo ((((le27.trans le86).trans le97).trans le107).trans le130) al16)⟩, rfl, (by exact ⟨by omega, w3, w6, fun r h => w8 r (q1 r h)⟩), ?_⟩
              rintro v137 F138 H139  g141 hr142 hp143
              have gb144 := gb128.tr g141
              have le145 := g141.le
              have cm146 := g141.fz cm129
              obtain ⟨a147, rfl, sq148⟩ := hr142
              have u8 := hp143
              refine a_nil ?_
              refine ⟨_, _, 0, (colR ts87 weights x134), rfl, (Same.tup gb144.s (Le.tup (((((le27.trans le86).trans le97).trans le107).trans le130).trans le145) (.inr T.t_NOUGHT))), (Same.tup gb144.s sq148), sm_of (by walk_at "o"), sm_of (by walk_at "o"), ?_⟩
              refine ⟨by rw [Al.length (Al.mo le145 al132)]; have := sizeLine_big; omega, ?_⟩
              exact ⟨F138, (ts131 ++ [(decide (0 < (colR ts87 weights x134)))]), True.intro, gb144, cm146, (le130.trans le145), (Al.snoc (Al.mo le145 al132) rfl), (by first | (simp; done) | (rw [List.length_append]; simp only [List.length_cons, List.length_nil]; omega) | omega), by rw [q2]; exact (map_take_succ _ hx135).symm⟩
            · rintro acc150 H149 ⟨F151, ts155, _, gb152, cm153, le154, al156, tl157, q2⟩
              have hlen := Al.length (Al.mo ((((le27.trans le86).trans le97).trans le107).trans le154) al8)
              refine ⟨(by rw [Al.length al156]; have := sizeLine_big; omega), fun p158 hp159 => ?_⟩
              obtain ⟨F160, g162, e163⟩ := al2 (o := (.lst acc150)) gb152.s (by intro _ _ z; cases z) hp159
              generalize upd H149 p158 (.lst acc150) = H161 at g162 ⊢
              have gb164 := gb152.tr g162
              have le165 := g162.le
              have cm166 := g162.fz cm153
              rw [hlen, List.take_length] at q2
              refine a_nil ?_
              refine ⟨_, ts155, rfl, (by have z : SqL K _ _ _ := (Same.seq gb164.s (SqL.of e163)); rw [Al.bools (Al.mo le165 al156)] at z; exact z), ?_⟩
              refine a_bl ?_
              refine iteB (fun c167 => ?_) (fun c167 => ?_)
              · refine a_ret ?_
                refine a_c ?_
                have hval : (false : Bool) = (clashB rows unknowns numbers weights) := by first | exact clash_len (by assumption) | exact clash_ris (by assumption) | exact clash_sign (by rw [← q0]; assumption) | exact clash_col (by rw [← q0, ← q2]; assumption)
                have rp168 : rB F160 (V.bl false) (false) := rfl
                replace rp168 := Eq.mp (congrArg (rB F160 (V.bl false)) hval) rp168
                exact k _ _ _ (Gr.of gb164 cm166) rp168
              · refine a_next ?_
                try dsimp only
                refine a_ret ?_
                refine a_op ?_
                refine a_call ?_
                refine a_cons ?_
                refine a_var rfl ?_
                refine a_cons ?_
                refine a_comp ?_
                refine a_ilist ?_
                refine a_var rfl ?_
                have hml171 : (ts87).length ≤ 1000000 := by omega
                refine ⟨_, rfl, ⟨_, (Same.seq gb164.s (Le.lst ((le107.trans le154).trans le165) (SqL.of e95)))⟩, comp_list (K := K) (a := p90) (xs := acc82) (fun i acc H' => Ex2 fun (F169 : Hp) (ts170 : List Rat) => Cj7 (True) (Gr0 F H F169 H') (Fz (frzd F) F169) (Le F160 F169) (Al (rFr K) F169 acc ts170) (ts170.length ≤ i) ((ts170 = (ts87.take i).map (·.2.2.1) ∧ ∀ q ∈ ts170, bs q ≤ 10))) ?_ ?_ ?_ ?_⟩
                · exact ⟨F160, [], True.intro, gb164, cm166, Le.refl _, (show Al (rFr K) F160 [] [] from True.intro), (by first | (simp; done) | (rw [List.length_append]; simp only [List.length_cons, List.length_nil]; omega) | omega), by exact ⟨rfl, fun q h => (by cases h)⟩⟩
                · rintro i acc H172 _ ⟨F173, ts177, _, gb174, cm175, le176, al178, tl179, ⟨q3, q4⟩⟩
                  exact (Same.seq gb174.s (Le.lst (((le107.trans le154).trans le165).trans le176) (SqL.of e95)))
                · rintro i180 y183 acc184 H181 hi182 ⟨F185, ts189, _, gb186, cm187, le188, al190, tl191, ⟨q3, q4⟩⟩
                  obtain ⟨x192, hx193, hr194⟩ := Al.get (Al.mo (((le107.trans le154).trans le165).trans le188) (Al.mo le97 al88)) hi182
                  have hil := (List.getElem?_eq_some_iff.mp hx193).1
                  refine a_name ?_
                  obtain ⟨a195, v197, v198, v199, v200, v201, rfl, sq196, h202, h203, h204, h205, h206⟩ := hr194
                  obtain ⟨a207, kvs208, rfl, rd209, dk210, nd211⟩ := h202
                  obtain rfl : v198 = V.str x192.2.1 := h203
                  obtain ⟨a212, rfl, sq213⟩ := h204
                  obtain rfl : v200 = V.int x192.2.2.2.1 := h205
                  obtain rfl : v201 = V.int x192.2.2.2.2 := h206
                  refine ⟨Wk.non (Wk.nil), ?_⟩
                  try dsimp only
                  have u1 := w7 _ (q1 _ (List.mem_of_getElem? hx193))
                  refine a_yes ?_
                  refine iteT ?_
                  refine a_op ?_
                  refine a_var rfl ?_
                  refine a_c ?_
                  refine a_ixT (Same.tup gb186.s sq196) rfl ?_
                  refine ⟨by rw [Al.length al190]; have := sizeLine_big; omega, ?_⟩
                  exact ⟨F185, (ts189 ++ [x192.2.2.1]), True.intro, gb186, cm187, le188, (Al.snoc al190 ⟨_, rfl, sq213⟩), (by first | (simp; done) | (rw [List.length_append]; simp only [List.length_cons, List.length_nil]; omega) | omega), by exact ⟨by rw [q3]; exact (map_take_succ _ hx193).symm, fun q h => (List.mem_append.mp h).elim (q4 q) fun z => by rw [List.mem_singleton.mp z]; exact u1⟩⟩
                · rintro acc215 H214 ⟨F216, ts220, _, gb217, cm218, le219, al221, tl222, ⟨q3, q4⟩⟩
                  have hlen := Al.length (Al.mo (((le107.trans le154).trans le165).trans le219) (Al.mo le97 al88))
                  refine ⟨(by rw [Al.length al221]; have := sizeLine_big; omega), fun p223 hp224 => ?_⟩
                  obtain ⟨F225, g227, e228⟩ := al2 (o := (.lst acc215)) gb217.s (by intro _ _ z; cases z) hp224
                  generalize upd H214 p223 (.lst acc215) = H226 at g227 ⊢
                  have gb229 := gb217.tr g227
                  have le230 := g227.le
                  have cm231 := g227.fz cm218
                  rw [hlen, List.take_length] at q3
                  refine a_nil ?_
                  refine ⟨F225, _, _, weights, ts220, rfl, gb229.s, ⟨_, _, rfl, (Le.lst (((((((le27.trans le86).trans le97).trans le107).trans le154).trans le165).trans le219).trans le230) sq15), (Al.mo (((((((le27.trans le86).trans le97).trans le107).trans le154).trans le165).trans le219).trans le230) al16)⟩, ⟨_, _, rfl, (SqL.of e228), (Al.mo le230 al221)⟩, (by exact ⟨w3, by omega, w6, q4⟩), ?_⟩
                  rintro v232 F233 H234  g236 hr237 hp238
                  have gb239 := gb229.tr g236
                  have le240 := g236.le
                  have cm241 := g236.fz cm231
                  obtain ⟨a242, rfl, sq243⟩ := hr237
                  refine a_tup ?_
                  refine a_cons ?_
                  refine a_c ?_
                  refine a_cons ?_
                  refine a_c ?_
                  refine a_nil ?_
                  refine ⟨by show 2 ≤ sizeLine; decide, fun p244 hp245 => ?_⟩
                  obtain ⟨F246, g248, e249⟩ := al2 (o := (.tup [V.int 1, V.int 1])) gb239.s (by intro _ _ z; cases z) hp245
                  generalize upd H234 p244 (.tup [V.int 1, V.int 1]) = H247 at g248 ⊢
                  have gb250 := gb239.tr g248
                  have le251 := g248.le
                  have cm252 := g248.fz cm241
                  have sq253 : SqT K F246 p244 (fr ((1 : Int) : Rat)) := by rw [fr_int]; exact SqT.of e249
                  refine ⟨F246, (wgtZ (weights.zip ts220)), ((1 : Int) : Rat), gb250.s, ⟨_, rfl, (Le.tup le251 sq243)⟩, ⟨_, rfl, sq253⟩, ?_⟩
                  have hval : ((decide ((wgtZ (weights.zip ts220)) = ((1 : Int) : Rat))) : Bool) = (clashB rows unknowns numbers weights) := by rw [q3, q0, cast1]; exact clash_end (by assumption) (by assumption) (by rw [← q0]; assumption) (by rw [← q0, ← q2]; assumption)
                  have rp254 : rB F246 (V.bl (decide ((wgtZ (weights.zip ts220)) = ((1 : Int) : Rat)))) ((decide ((wgtZ (weights.zip ts220)) = ((1 : Int) : Rat)))) := rfl
                  replace rp254 := Eq.mp (congrArg (rB F246 (V.bl (decide ((wgtZ (weights.zip ts220)) = ((1 : Int) : Rat))))) hval) rp254
                  exact k _ _ _ (Gr.of gb250 cm252) rp254
def sp_law_cell_at (K : PySem.W.Frag) : Sp := fun vs H Q _ => Ex5 fun (F : Hp) (v_script : V) (v_k' : V) (script : (List Int)) (k' : Int) => Cj6 (vs = [v_script, v_k']) (Same F H) (∃ a, v_script = .ref a ∧ SqL K H a (script.map V.int)) (rI F v_k' k') (0 ≤ k') (∀ (v : V) (F' H' : Hp) (r : Int), Gr F H F' H' → rI F' v r → Q v H')
set_option linter.unusedVariables false in
theorem ok_law_cell_at (T : Tx K mg) : FnOk P w K mg base CX0 1 T.a_law_cell_at T.d_law_cell_at ["_law_script", "_law_k"] (sp_law_cell_at K) := by
  refine T.F_law_cell_at.ok sc_law_cell_at (fun vs H Q E h => ?_) (fun cdv A outer s H vs Q E hr h => ?_)
  · obtain ⟨F, v_script, v_k', script, k', rfl, _⟩ := h
    rfl
  · obtain ⟨F, v_script, v_k', script, k', rfl, wd, r_script, r_k', hpre, k⟩ := h
    have hu := hu_of hr
    have gb := Gr0.refl wd
    have cm := Fz.refl F
    obtain ⟨a1, rfl, sq2⟩ := r_script
    obtain rfl : v_k' = V.int k' := r_k'
    refine ⟨_, (ZSs.h (zss_cons (ps_if (pt_cmpR op_lt (pv 1) (pe_callB call_len_seq rfl T.z_len rfl (pa_cons (pv 0) pa_nil)) (nomark _)) (pss_one (ps_ret (pe_ix ix_list (pv 0) (pv 1) (fun _ _ => rfl)))) pss_nil)
          (zss_one (ps_ret pe_int)))), ?_⟩
    refine a_seq ?_
    refine a_if ?_
    refine a_test ?_
    refine a_op ?_
    refine a_var rfl ?_
    refine a_cb ?_
    refine a_cons ?_
    refine a_var rfl ?_
    refine a_nil ?_
    refine ⟨_, _, rfl, .inl (Same.seq gb.h sq2), ?_⟩
    rw [Al.length (al_ints (F := F) (ns := script))]
    refine a_I0 ?_
    refine a_bl ?_
    refine iteD (fun c3 => ?_) (fun c3 => ?_)
    · refine a_ret ?_
      refine a_op ?_
      refine a_var rfl ?_
      refine a_var rfl ?_
      obtain ⟨x5, v4, h6, h7, h8⟩ := Al.ix (al_ints (F := F) (ns := script)) (i := k') (by walk_at "o") (by walk_at "ol")
      refine a_ixL (Same.seq gb.h sq2) h7 ?_
      obtain rfl : v4 = V.int x5 := h8
      exact k _ _ _ (x5) (Gr.of gb cm) (rfl)
    · refine a_next ?_
      try dsimp only
      refine a_ret ?_
      refine a_c ?_
      exact k _ _ _ (0) (Gr.of gb cm) (rfl)
def sp_law_mix (K : PySem.W.Frag) : Sp := fun vs H Q _ => Ex5 fun (F : Hp) (v_cell : V) (v_k' : V) (cell : Int) (k' : Int) => Cj5 (vs = [v_cell, v_k']) (Same F H) (rI F v_cell cell) (rI F v_k' k') (∀ (v : V) (F' H' : Hp) (r : Int), Gr F H F' H' → rI F' v r → (0 ≤ r ∧ r < 2147483647) → Q v H')
set_option linter.unusedVariables false in
theorem ok_law_mix (T : Tx K mg) : FnOk P w K mg base CX0 1 T.a_law_mix T.d_law_mix ["_law_cell", "_law_k"] (sp_law_mix K) := by
  refine T.F_law_mix.ok sc_law_mix (fun vs H Q E h => ?_) (fun cdv A outer s H vs Q E hr h => ?_)
  · obtain ⟨F, v_cell, v_k', cell, k', rfl, _⟩ := h
    rfl
  · obtain ⟨F, v_cell, v_k', cell, k', rfl, wd, r_cell, r_k', k⟩ := h
    have hu := hu_of hr
    have gb := Gr0.refl wd
    have cm := Fz.refl F
    obtain rfl : v_cell = V.int cell := r_cell
    obtain rfl : v_k' = V.int k' := r_k'
    refine ⟨_, (ZSs.h (zss_cons (ps_set (i := 2) sc_law_mix.nd rfl (Or.inl rfl) (pe_op op_mod (pe_op op_mulB (pe_op op_mod (pe_op op_add (pe_op op_add (pv 0) (pe_op op_mulB pe_int (pv 1))) pe_int) pe_int) pe_int) pe_int))
          (zss_cons (ps_set (i := 2) sc_law_mix.nd rfl (Or.inl rfl) (pe_op op_mod (pe_op op_mulB (pv 2) (pe_op op_add (pe_op op_fdiv (pv 2) pe_int) pe_int)) pe_int))
          (zss_one (ps_ret (pe_op op_mod (pe_op op_mulB (pv 2) (pe_op op_add (pe_op op_fdiv (pv 2) pe_int) pe_int)) pe_int)))))), ?_⟩
    refine a_seq ?_
    refine a_asg ?_
    refine a_op ?_
    refine a_op ?_
    refine a_op ?_
    refine a_op ?_
    refine a_op ?_
    refine a_var rfl ?_
    refine a_op ?_
    refine a_c ?_
    refine a_var rfl ?_
    refine a_I (mulL2 (by decide) (by decide)) ?_
    refine a_I0 ?_
    refine a_c ?_
    refine a_I0 ?_
    refine a_c ?_
    refine a_I (by decide) ?_
    have m1 : 0 ≤ (((cell + (7919 * k')) + 1) % 2147483647) ∧ (((cell + (7919 * k')) + 1) % 2147483647) < 2147483647 := ⟨Int.emod_nonneg _ (by decide), Int.emod_lt_of_pos _ (by decide)⟩
    refine a_c ?_
    refine a_I (mulR2 (by decide) (by decide)) ?_
    refine a_c ?_
    refine a_I (by decide) ?_
    have m2 : 0 ≤ (((((cell + (7919 * k')) + 1) % 2147483647) * 48271) % 2147483647) ∧ (((((cell + (7919 * k')) + 1) % 2147483647) * 48271) % 2147483647) < 2147483647 := ⟨Int.emod_nonneg _ (by decide), Int.emod_lt_of_pos _ (by decide)⟩
    refine a_name ?_
    try dsimp only
    refine a_seq ?_
    refine a_asg ?_
    refine a_op ?_
    refine a_op ?_
    refine a_var rfl ?_
    refine a_op ?_
    refine a_op ?_
    refine a_var rfl ?_
    refine a_c ?_
    refine a_I ⟨by decide, by decide⟩ ?_
    refine a_c ?_
    refine a_I0 ?_
    refine a_I (by walk_at "om") ?_
    refine a_c ?_
    refine a_I (by decide) ?_
    have m3 : 0 ≤ (((((((cell + (7919 * k')) + 1) % 2147483647) * 48271) % 2147483647) * (((((((cell + (7919 * k')) + 1) % 2147483647) * 48271) % 2147483647) / 1009) + 69621)) % 2147483647) ∧ (((((((cell + (7919 * k')) + 1) % 2147483647) * 48271) % 2147483647) * (((((((cell + (7919 * k')) + 1) % 2147483647) * 48271) % 2147483647) / 1009) + 69621)) % 2147483647) < 2147483647 := ⟨Int.emod_nonneg _ (by decide), Int.emod_lt_of_pos _ (by decide)⟩
    refine a_name ?_
    try dsimp only
    refine a_ret ?_
    refine a_op ?_
    refine a_op ?_
    refine a_var rfl ?_
    refine a_op ?_
    refine a_op ?_
    refine a_var rfl ?_
    refine a_c ?_
    refine a_I ⟨by decide, by decide⟩ ?_
    refine a_c ?_
    refine a_I0 ?_
    refine a_I (by walk_at "om") ?_
    refine a_c ?_
    refine a_I (by decide) ?_
    have m4 : 0 ≤ (((((((((cell + (7919 * k')) + 1) % 2147483647) * 48271) % 2147483647) * (((((((cell + (7919 * k')) + 1) % 2147483647) * 48271) % 2147483647) / 1009) + 69621)) % 2147483647) * (((((((((cell + (7919 * k')) + 1) % 2147483647) * 48271) % 2147483647) * (((((((cell + (7919 * k')) + 1) % 2147483647) * 48271) % 2147483647) / 1009) + 69621)) % 2147483647) / 127) + 30011)) % 2147483647) ∧ (((((((((cell + (7919 * k')) + 1) % 2147483647) * 48271) % 2147483647) * (((((((cell + (7919 * k')) + 1) % 2147483647) * 48271) % 2147483647) / 1009) + 69621)) % 2147483647) * (((((((((cell + (7919 * k')) + 1) % 2147483647) * 48271) % 2147483647) * (((((((cell + (7919 * k')) + 1) % 2147483647) * 48271) % 2147483647) / 1009) + 69621)) % 2147483647) / 127) + 30011)) % 2147483647) < 2147483647 := ⟨Int.emod_nonneg _ (by decide), Int.emod_lt_of_pos _ (by decide)⟩
    exact k _ _ _ ((((((((((cell + (7919 * k')) + 1) % 2147483647) * 48271) % 2147483647) * (((((((cell + (7919 * k')) + 1) % 2147483647) * 48271) % 2147483647) / 1009) + 69621)) % 2147483647) * (((((((((cell + (7919 * k')) + 1) % 2147483647) * 48271) % 2147483647) * (((((((cell + (7919 * k')) + 1) % 2147483647) * 48271) % 2147483647) / 1009) + 69621)) % 2147483647) / 127) + 30011)) % 2147483647)) (Gr.of gb cm) (rfl) (by walk_at "o")
def sp_law_divisor (K : PySem.W.Frag) : Sp := fun vs H Q _ => Ex5 fun (F : Hp) (v_one : V) (v_other : V) (one : Int) (other : Int) => Cj6 (vs = [v_one, v_other]) (Same F H) (rI F v_one one) (rI F v_other other) (0 ≤ other) (∀ (v : V) (F' H' : Hp), Gr F H F' H' → rI F' v (gd one other) → Q v H')
set_option linter.unusedVariables false in
theorem ok_law_divisor (T : Tx K mg) : FnOk P w K mg base CX0 1 T.a_law_divisor T.d_law_divisor ["_law_one", "_law_other"] (sp_law_divisor K) := by
  refine T.F_law_divisor.ok sc_law_divisor (fun vs H Q E h => ?_) (fun cdv A outer s H vs Q E hr h => ?_)
  · obtain ⟨F, v_one, v_other, one, other, rfl, _⟩ := h
    rfl
  · obtain ⟨F, v_one, v_other, one, other, rfl, wd, r_one, r_other, hpre, k⟩ := h
    have hu := hu_of hr
    have gb := Gr0.refl wd
    have cm := Fz.refl F
    obtain rfl : v_one = V.int one := r_one
    obtain rfl : v_other = V.int other := r_other
    refine ⟨_, (ZSs.h (zss_cons (ps_while PassesOwn.never (pt_cmpR op_ne (pv 1) pe_int (nomark _)) (pss_one (ps_par (i := 0) (j := 1) rfl sc_law_divisor.nd rfl rfl (by decide) rfl rfl (pa_cons (pv 1) (pa_cons (pe_op op_mod (pv 0) (pv 1)) pa_nil)) rfl)))
          (zss_one (ps_ret (pe_callB call_abs rfl T.z_abs rfl (pa_cons (pv 0) pa_nil)))))), ?_⟩
    refine a_seq ?_
    refine ⟨fun m σ' H' => Ex3 fun (F1 : Hp) (one2 : Int) (other3 : Int) => Cj6 (σ' = [some (V.int one2), some (V.int other3)]) (Gr0 F H F1 H') (Fz (frzd F) F1) (Le F F1) ((0 ≤ other3 ∧ gd one2 other3 = gd one other)) (m = other3.toNat), ⟨other.toNat, ?_⟩, ?_⟩
    · exact ⟨F, one, other, rfl, gb, cm, Le.refl _, by exact ⟨hpre, rfl⟩, rfl⟩
    · rintro m σ' H4 ⟨F5, one9, other10, rfl, gb6, cm7, le8, ⟨i1, i2⟩, rfl⟩
      refine a_test ?_
      refine a_op ?_
      refine a_var rfl ?_
      refine a_c ?_
      refine a_neI ?_
      refine a_bl ?_
      refine iteDN (fun c11 => ?_) (fun c11 => ?_)
      · refine ⟨fun σ' H' => Ex3 fun (F1 : Hp) (one2 : Int) (other3 : Int) => Cj6 (σ' = [some (V.int one2), some (V.int other3)]) (Gr0 F H F1 H') (Fz (frzd F) F1) (Le F F1) ((0 ≤ other3 ∧ gd one2 other3 = gd one other)) (other3.toNat < other10.toNat), fun σ' H' ⟨y0, y1, y2, y3, y4, y5, y6, y7, hlt⟩ => ⟨_, hlt, y0, y1, y2, y3, y4, y5, y6, y7, rfl⟩, ?_⟩
        refine a_par ?_
        refine a_cons ?_
        refine a_var rfl ?_
        refine a_cons ?_
        refine a_op ?_
        refine a_var rfl ?_
        refine a_var rfl ?_
        refine a_I (by walk_at "o") ?_
        have m12 : 0 ≤ (one9 % other10) ∧ (one9 % other10) < other10 := ⟨Int.emod_nonneg _ (by walk_at "o"), Int.emod_lt_of_pos _ (by walk_at "o")⟩
        refine a_nil ?_
        refine a_par2 ?_
        try dsimp only
        exact ⟨F5, other10, (one9 % other10), rfl, gb6, cm7, le8, by exact ⟨Int.emod_nonneg _ (by omega), by rw [gd_mod' (by omega)]; exact i2⟩, by (have := Int.emod_lt_of_pos one9 (show 0 < other10 by omega); omega)⟩
      · try dsimp only
        refine a_ret ?_
        refine a_cb ?_
        refine a_cons ?_
        refine a_var rfl ?_
        refine a_nil ?_
        refine ⟨_, rfl, ?_⟩
        have hval : ((if one9 < 0 then -one9 else one9) : Int) = (gd one other) := by (have e : other10 = 0 := (by omega); rw [e] at i2; rw [← i2]; exact (gd_abs0 _).symm)
        have rp13 : rI F5 (V.int (if one9 < 0 then -one9 else one9)) ((if one9 < 0 then -one9 else one9)) := rfl
        replace rp13 := Eq.mp (congrArg (rI F5 (V.int (if one9 < 0 then -one9 else one9))) hval) rp13
        exact k _ _ _ (Gr.of gb6 cm7) rp13
def sp_law_lowest (K : PySem.W.Frag) : Sp := fun vs H Q _ => Ex5 fun (F : Hp) (v_top : V) (v_bottom : V) (top : Int) (bottom : Int) => Cj6 (vs = [v_top, v_bottom]) (Same F H) (rI F v_top top) (rI F v_bottom bottom) (0 < bottom ∧ bi bottom ≤ 7000) (∀ (v : V) (F' H' : Hp), Gr F H F' H' → (rFr K) F' v (Rat.divInt top bottom) → Q v H')
set_option linter.unusedVariables false in
theorem ok_law_lowest (T : Tx K mg) : FnOk P w K mg base CX0 2 T.a_law_lowest T.d_law_lowest ["_law_top", "_law_bottom"] (sp_law_lowest K) := by
  refine T.F_law_lowest.ok sc_law_lowest (fun vs H Q E h => ?_) (fun cdv A outer s H vs Q E hr h => ?_)
  · obtain ⟨F, v_top, v_bottom, top, bottom, rfl, _⟩ := h
    rfl
  · obtain ⟨F, v_top, v_bottom, top, bottom, rfl, wd, r_top, r_bottom, hpre, k⟩ := h
    have hu := hu_of hr
    have gb := Gr0.refl wd
    have cm := Fz.refl F
    obtain rfl : v_top = V.int top := r_top
    obtain rfl : v_bottom = V.int bottom := r_bottom
    obtain ⟨hb, hz⟩ := hpre
    refine ⟨_, (ZSs.h (zss_cons (ps_set (i := 2) sc_law_lowest.nd rfl (Or.inl rfl) (pe_call ((ok_law_divisor T).mono (by decide)) hr rfl T.m_law_divisor T.F_law_divisor.kp T.b_law_divisor .nil pass0 (pa_cons (pv 0) (pa_cons (pv 1) pa_nil))))
          (zss_one (ps_ret (pe_tup (pa_cons (pe_op op_fdivB (pv 0) (pv 2)) (pa_cons (pe_op op_fdivB (pv 1) (pv 2)) pa_nil))))))), ?_⟩
    refine a_seq ?_
    refine a_asg ?_
    refine a_call ?_
    refine a_cons ?_
    refine a_var rfl ?_
    refine a_cons ?_
    refine a_var rfl ?_
    refine a_nil ?_
    refine ⟨F, _, _, top, bottom, rfl, gb.s, rfl, rfl, (by walk_at "o"), ?_⟩
    rintro v1 F2 H3  g5 hr6 
    have gb8 := gb.tr g5
    have le9 := g5.le
    have cm10 := g5.fz cm
    obtain rfl : v1 = V.int (gd top bottom) := hr6
    refine a_name ?_
    try dsimp only
    have hb0 : bottom ≠ 0 := by omega
    have hd := dv_ne (t := top) hb0
    have ed : gd top bottom = dv top bottom := by unfold dv; rw [if_neg (by omega)]
    have hl : bi (gd top bottom) ≤ 8000 := by rw [ed]; exact Nat.le_trans (bi_mono (dv_le hb0)) (by omega)
    refine a_ret ?_
    refine a_tup ?_
    refine a_cons ?_
    refine a_op ?_
    refine a_var rfl ?_
    refine a_var rfl ?_
    refine a_I (by walk_at "od") ?_
    refine a_cons ?_
    refine a_op ?_
    refine a_var rfl ?_
    refine a_var rfl ?_
    refine a_I (by walk_at "od") ?_
    refine a_nil ?_
    refine ⟨by show 2 ≤ sizeLine; decide, fun p11 hp12 => ?_⟩
    obtain ⟨F13, g15, e16⟩ := al2 (o := (.tup [V.int (Int.fdiv top (gd top bottom)), V.int (Int.fdiv bottom (gd top bottom))])) gb8.s (by intro _ _ z; cases z) hp12
    generalize upd H3 p11 (.tup [V.int (Int.fdiv top (gd top bottom)), V.int (Int.fdiv bottom (gd top bottom))]) = H14 at g15 ⊢
    have gb17 := gb8.tr g15
    have le18 := g15.le
    have cm19 := g15.fz cm10
    have sq20 : SqT K F13 p11 (fr (Rat.divInt top bottom)) := by rw [show fr (Rat.divInt top bottom) = [V.int (Int.fdiv top (gd top bottom)), V.int (Int.fdiv bottom (gd top bottom))] from by unfold fr; rw [← part_num hb0, ← part_den hb0, ← ed]]; exact SqT.of e16
    have rp21 : (rFr K) F13 (V.ref p11) ((Rat.divInt top bottom)) := ⟨_, rfl, sq20⟩
    exact k _ _ _ (Gr.of gb17 cm19) rp21
def sp_law_add (K : PySem.W.Frag) : Sp := fun vs H Q _ => Ex3 fun (F : Hp) (v_pairs : V) (pairs : (List (Rat × Rat))) => Cj5 (vs = [v_pairs]) (Same F H) ((rL K (r2 K (rFr K) (rFr K))) F v_pairs pairs) (pairs.length ≤ 15 ∧ psum pairs ≤ 3500) (∀ (v : V) (F' H' : Hp), Gr F H F' H' → (rFr K) F' v (wgtZ pairs) → (bs (wgtZ pairs) ≤ psum pairs + 1) → Q v H')
set_option linter.unusedVariables false in
theorem ok_law_add (T : Tx K mg) : FnOk P w K mg base CX0 3 T.a_law_add T.d_law_add ["_law_pairs"] (sp_law_add K) := by
  refine T.F_law_add.ok sc_law_add (fun vs H Q E h => ?_) (fun cdv A outer s H vs Q E hr h => ?_)
  · obtain ⟨F, v_pairs, pairs, rfl, _⟩ := h
    rfl
  · obtain ⟨F, v_pairs, pairs, rfl, wd, r_pairs, hpre, k⟩ := h
    have hu := hu_of hr
    have gb := Gr0.refl wd
    have cm := Fz.refl F
    obtain ⟨a1, vs2, rfl, sq3, al4⟩ := r_pairs
    obtain ⟨w1, w2⟩ := hpre
    refine ⟨_, (ZSs.h (zss_cons (ps_set (i := 1) sc_law_add.nd rfl (Or.inl rfl) (pe_tup (pa_cons pe_int (pa_cons pe_int pa_nil))))
          (zss_cons (ps_for PassesOwn.never rfl (pi_list (pv 0)) (pg_tup rfl (pgs_cons (pg_name (i := 2) sc_law_add.nd rfl (Or.inl rfl)) (pgs_cons (pg_name (i := 3) sc_law_add.nd rfl (Or.inl rfl)) pgs_nil))) (ZSs.h (zss_cons (ps_set (i := 4) sc_law_add.nd rfl (Or.inl rfl) (pe_op op_add (pe_op op_mulB (pe_op op_mulB (pe_ix ix_tup (pv 1) pe_int (fun _ _ => rfl)) (pe_ix ix_tup (pv 2) pe_int (fun _ _ => rfl))) (pe_ix ix_tup (pv 3) pe_int (fun _ _ => rfl))) (pe_op op_mulB (pe_op op_mulB (pe_ix ix_tup (pv 2) pe_int (fun _ _ => rfl)) (pe_ix ix_tup (pv 3) pe_int (fun _ _ => rfl))) (pe_ix ix_tup (pv 1) pe_int (fun _ _ => rfl)))))
          (zss_one (ps_set (i := 1) sc_law_add.nd rfl (Or.inl rfl) (pe_call ((ok_law_lowest T).mono (by decide)) hr rfl T.m_law_lowest T.F_law_lowest.kp T.b_law_lowest .nil pass0 (pa_cons (pv 4) (pa_cons (pe_op op_mulB (pe_op op_mulB (pe_ix ix_tup (pv 1) pe_int (fun _ _ => rfl)) (pe_ix ix_tup (pv 2) pe_int (fun _ _ => rfl))) (pe_ix ix_tup (pv 3) pe_int (fun _ _ => rfl))) pa_nil))))))))
          (zss_one (ps_ret (pv 1)))))), ?_⟩
    refine a_seq ?_
    refine a_asg ?_
    refine a_tup ?_
    refine a_cons ?_
    refine a_c ?_
    refine a_cons ?_
    refine a_c ?_
    refine a_nil ?_
    refine ⟨by show 2 ≤ sizeLine; decide, fun p5 hp6 => ?_⟩
    obtain ⟨F7, g9, e10⟩ := al2 (o := (.tup [V.int 0, V.int 1])) gb.s (by intro _ _ z; cases z) hp6
    generalize upd H p5 (.tup [V.int 0, V.int 1]) = H8 at g9 ⊢
    have gb11 := gb.tr g9
    have le12 := g9.le
    have cm13 := g9.fz cm
    have sq14 : SqT K F7 p5 (fr ((0 : Int) : Rat)) := by rw [fr_int]; exact SqT.of e10
    refine a_name ?_
    try dsimp only
    refine a_seq ?_
    refine a_for ?_
    refine a_ilist ?_
    refine a_var rfl ?_
    refine ⟨_, rfl, ⟨_, (Same.seq gb11.s (Le.lst le12 sq3))⟩, for_list (xs := vs2) (K := K) (a := a1) (fun i σ' H' => Ex6 fun (F15 : Hp) (v_found16 : V) (found16 : Rat) (o17 : Option V) (o18 : Option V) (o19 : Option V) => Cj6 (σ' = [some (V.ref a1), some v_found16, o18, o19, o17]) (Gr0 F H F15 H') (Fz (frzd F) F15) (Le F7 F15) ((rFr K) F15 v_found16 found16) ((found16 = wgtZ (pairs.take i) ∧ bs found16 ≤ psum (pairs.take i) + 1))) ?_ ?_ ?_ ?_⟩
    · exact ⟨F7, _, ((0 : Int) : Rat), _, _, _, rfl, gb11, cm13, Le.refl _, ⟨_, rfl, sq14⟩, by exact ⟨cast0, by rw [List.take_zero]; decide +kernel⟩⟩
    · rintro i σ' H20 _ ⟨F21, v_found25, found25, o26, o27, o28, rfl, gb22, cm23, le24, hr29, ⟨q0, q1⟩⟩
      obtain ⟨a30, rfl, sq31⟩ := hr29
      exact (Same.seq gb22.s (Le.lst (le12.trans le24) sq3))
    · rintro i32 y35 σ' H33 hi34 ⟨F36, v_found40, found40, o41, o42, o43, rfl, gb37, cm38, le39, hr44, ⟨q0, q1⟩⟩
      obtain ⟨a45, rfl, sq46⟩ := hr44
      obtain ⟨x47, hx48, hr49⟩ := Al.get (Al.mo (le12.trans le39) al4) hi34
      obtain ⟨a50, v52, v53, rfl, sq51, h54, h55⟩ := hr49
      obtain ⟨a56, rfl, sq57⟩ := h54
      obtain ⟨a58, rfl, sq59⟩ := h55
      refine a_gtup2 (Same.tup gb37.s sq51) ?_
      try dsimp only
      have u1 := psum_snoc hx48
      have hx9 := hx48
      have u3 := (List.getElem?_eq_some_iff.mp hx48).1
      have u4 := psum_take pairs (i32 + 1)
      have d1 := den_pos found40
      have d2 := den_pos x47.1
      have d3 := den_pos x47.2
      have c1 := bs_add found40 (x47.1 * x47.2)
      have c2 := bs_mul x47.1 x47.2
      refine a_seq ?_
      refine a_asg ?_
      refine a_op ?_
      refine a_op ?_
      refine a_op ?_
      refine a_op ?_
      refine a_var rfl ?_
      refine a_c ?_
      refine a_ixT (Same.tup gb37.s sq46) (fr0 found40) ?_
      have b60 := bi_num found40
      refine a_op ?_
      refine a_var rfl ?_
      refine a_c ?_
      refine a_ixT (Same.tup gb37.s sq57) (fr1 x47.1) ?_
      have b61 := bi_den x47.1
      refine a_I (by walk_at "om") ?_
      have b62 := bi_mul found40.num (x47.1.den : Int)
      refine a_op ?_
      refine a_var rfl ?_
      refine a_c ?_
      refine a_ixT (Same.tup gb37.s sq59) (fr1 x47.2) ?_
      have b63 := bi_den x47.2
      refine a_I (by walk_at "om") ?_
      have b64 := bi_mul (found40.num * (x47.1.den : Int)) (x47.2.den : Int)
      refine a_op ?_
      refine a_op ?_
      refine a_op ?_
      refine a_var rfl ?_
      refine a_c ?_
      refine a_ixT (Same.tup gb37.s sq57) (fr0 x47.1) ?_
      have b65 := bi_num x47.1
      refine a_op ?_
      refine a_var rfl ?_
      refine a_c ?_
      refine a_ixT (Same.tup gb37.s sq59) (fr0 x47.2) ?_
      have b66 := bi_num x47.2
      refine a_I (by walk_at "om") ?_
      have b67 := bi_mul x47.1.num x47.2.num
      refine a_op ?_
      refine a_var rfl ?_
      refine a_c ?_
      refine a_ixT (Same.tup gb37.s sq46) (fr1 found40) ?_
      have b68 := bi_den found40
      refine a_I (by walk_at "om") ?_
      have b69 := bi_mul (x47.1.num * x47.2.num) (found40.den : Int)
      refine a_I0 ?_
      have b70 := bi_add ((found40.num * (x47.1.den : Int)) * (x47.2.den : Int)) ((x47.1.num * x47.2.num) * (found40.den : Int))
      refine a_name ?_
      try dsimp only
      refine a_asg ?_
      refine a_call ?_
      refine a_cons ?_
      refine a_var rfl ?_
      refine a_cons ?_
      refine a_op ?_
      refine a_op ?_
      refine a_op ?_
      refine a_var rfl ?_
      refine a_c ?_
      refine a_ixT (Same.tup gb37.s sq46) (fr1 found40) ?_
      have b71 := bi_den found40
      refine a_op ?_
      refine a_var rfl ?_
      refine a_c ?_
      refine a_ixT (Same.tup gb37.s sq57) (fr1 x47.1) ?_
      have b72 := bi_den x47.1
      refine a_I (by walk_at "om") ?_
      have b73 := bi_mul (found40.den : Int) (x47.1.den : Int)
      refine a_op ?_
      refine a_var rfl ?_
      refine a_c ?_
      refine a_ixT (Same.tup gb37.s sq59) (fr1 x47.2) ?_
      have b74 := bi_den x47.2
      refine a_I (by walk_at "om") ?_
      have b75 := bi_mul ((found40.den : Int) * (x47.1.den : Int)) (x47.2.den : Int)
      refine a_nil ?_
      refine ⟨F36, _, _, (((found40.num * (x47.1.den : Int)) * (x47.2.den : Int)) + ((x47.1.num * x47.2.num) * (found40.den : Int))), (((found40.den : Int) * (x47.1.den : Int)) * (x47.2.den : Int)), rfl, gb37.s, rfl, rfl, (by exact ⟨Int.mul_pos (Int.mul_pos d1 d2) d3, by omega⟩), ?_⟩
      rintro v76 F77 H78  g80 hr81 
      have gb83 := gb37.tr g80
      have le84 := g80.le
      have cm85 := g80.fz cm38
      obtain ⟨a86, rfl, sq87⟩ := hr81
      refine a_name ?_
      try dsimp only
      exact ⟨F77, _, (Rat.divInt ((((found40.num * (x47.1.den : Int)) * (x47.2.den : Int)) + ((x47.1.num * x47.2.num) * (found40.den : Int)))) ((((found40.den : Int) * (x47.1.den : Int)) * (x47.2.den : Int)))), _, _, _, rfl, gb83, cm85, (le39.trans le84), ⟨_, rfl, sq87⟩, by exact ⟨by rw [frac3, wgtZ_snoc hx9, q0], by rw [frac3]; omega⟩⟩
    · rintro σ' H88 ⟨F89, v_found93, found93, o94, o95, o96, rfl, gb90, cm91, le92, hr97, ⟨q0, q1⟩⟩
      obtain ⟨a98, rfl, sq99⟩ := hr97
      have hlen := Al.length (Al.mo (le12.trans le92) al4)
      try dsimp only
      rw [hlen, List.take_length] at q0
      rw [hlen, List.take_length] at q1
      refine a_ret ?_
      refine a_var rfl ?_
      have hval : (found93 : Rat) = (wgtZ pairs) := by exact q0
      have rp100 : (rFr K) F89 (V.ref a98) (found93) := ⟨_, rfl, sq99⟩
      replace rp100 := Eq.mp (congrArg ((rFr K) F89 (V.ref a98)) hval) rp100
      exact k _ _ _ (Gr.of gb90 cm91) rp100 (by rw [← hval]; exact q1)
def sp_law_row (K : PySem.W.Frag) : Sp := fun vs H Q _ => Ex5 fun (F : Hp) (v_cell : V) (v_some' : V) (cell : Int) (some' : (List Str)) => Cj6 (vs = [v_cell, v_some']) (Same F H) (rI F v_cell cell) ((rL K rS) F v_some' some') (some'.length ≤ 3) (∀ (v : V) (F' H' : Hp) (r : ((List (Str × Rat)) × Str × Rat × Int × Int)), Gr F H F' H' → (r5 K (rD (rFr K)) rS (rFr K) rI rI) F' v r → (Row33 r) → Q v H')
set_option linter.unusedVariables false in
theorem ok_law_row (T : Tx K mg) : FnOk P w K mg base CX0 3 T.a_law_row T.d_law_row ["_law_cell", "_law_some"] (sp_law_row K) := by
  refine T.F_law_row.ok sc_law_row (fun vs H Q E h => ?_) (fun cdv A outer s H vs Q E hr h => ?_)
  · obtain ⟨F, v_cell, v_some', cell, some', rfl, _⟩ := h
    rfl
  · obtain ⟨F, v_cell, v_some', cell, some', rfl, wd, r_cell, r_some', hpre, k⟩ := h
    have hu := hu_of hr
    have gb := Gr0.refl wd
    have cm := Fz.refl F
    obtain rfl : v_cell = V.int cell := r_cell
    obtain ⟨a1, vs2, rfl, sq3, al4⟩ := r_some'
    refine ⟨_, (ZSs.h (zss_cons (ps_set (i := 2) sc_law_row.nd rfl (Or.inl rfl) pe_dnewK)
          (zss_cons (ps_for PassesOwn.never rfl (pi_enum rfl T.z_enumerate (pa_cons (pv 1) pa_nil)) (pg_tup rfl (pgs_cons (pg_name (i := 3) sc_law_row.nd rfl (Or.inl rfl)) (pgs_cons (pg_name (i := 4) sc_law_row.nd rfl (Or.inl rfl)) pgs_nil))) (ZSs.h (zss_cons (ps_set (i := 5) sc_law_row.nd rfl (Or.inl rfl) (pe_op op_sub (pe_op op_mod (pe_call ((ok_law_mix T).mono (by decide)) hr rfl T.m_law_mix T.F_law_mix.kp T.b_law_mix .nil pass0 (pa_cons (pv 0) (pa_cons (pe_op op_add (pv 3) pe_int) pa_nil))) pe_int) pe_int))
          (zss_one (ps_if (pt_cmpR op_ne (pv 5) pe_int (nomark _)) (pss_one (ps_dput hu (pv 2) (pv 4) (pe_call ((ok_law_lowest T).mono (by decide)) hr rfl T.m_law_lowest T.F_law_lowest.kp T.b_law_lowest .nil pass0 (pa_cons (pv 5) (pa_cons (pe_op op_add pe_int (pe_op op_mod (pe_call ((ok_law_mix T).mono (by decide)) hr rfl T.m_law_mix T.F_law_mix.kp T.b_law_mix .nil pass0 (pa_cons (pv 0) (pa_cons (pe_op op_add (pv 3) pe_int) pa_nil))) pe_int)) pa_nil))) rfl)) pss_nil)))))
          (zss_cons (ps_set (i := 6) sc_law_row.nd rfl (Or.inl rfl) (pe_ix ix_list (pe_lst (pa_cons pe_str (pa_cons pe_str (pa_cons pe_str pa_nil)))) (pe_op op_mod (pe_call ((ok_law_mix T).mono (by decide)) hr rfl T.m_law_mix T.F_law_mix.kp T.b_law_mix .nil pass0 (pa_cons (pv 0) (pa_cons pe_int pa_nil))) pe_int) (fun _ _ => rfl)))
          (zss_cons (ps_set (i := 7) sc_law_row.nd rfl (Or.inl rfl) (pe_ix ix_list (pe_lst (pa_cons pe_int (pa_cons pe_int (pa_cons pe_int (pa_cons pe_int (pa_cons pe_int (pa_cons pe_int (pa_cons pe_int (pa_cons pe_int (pa_cons pe_int (pa_cons pe_int pa_nil))))))))))) (pe_op op_mod (pe_call ((ok_law_mix T).mono (by decide)) hr rfl T.m_law_mix T.F_law_mix.kp T.b_law_mix .nil pass0 (pa_cons (pv 0) (pa_cons pe_int pa_nil))) pe_int) (fun _ _ => rfl)))
          (zss_one (ps_ret (pe_tup (pa_cons (pv 2) (pa_cons (pv 6) (pa_cons (pe_tup (pa_cons (pe_op op_sub (pe_op op_mod (pe_call ((ok_law_mix T).mono (by decide)) hr rfl T.m_law_mix T.F_law_mix.kp T.b_law_mix .nil pass0 (pa_cons (pv 0) (pa_cons pe_int pa_nil))) pe_int) pe_int) (pa_cons pe_int pa_nil))) (pa_cons (pv 7) (pa_cons pe_int pa_nil))))))))))))), ?_⟩
    refine a_seq ?_
    refine a_asg ?_
    refine fun p5 hp6 => ?_
    obtain ⟨gb8, sm9, hb10, oF11, oH12, ne13⟩ := alo2 (o := (.dK [])) gb hp6
    generalize upd H p5 (.dK []) = H7 at gb8 sm9 oH12 ⊢
    refine a_name ?_
    try dsimp only
    refine a_seq ?_
    refine a_for ?_
    refine a_ienum ?_
    refine a_cons ?_
    refine a_var rfl ?_
    refine a_nil ?_
    refine ⟨_, rfl, ⟨_, (Same.seq gb8.s sq3)⟩, for_enum (xs := vs2) (K := K) (a := a1) (fun i σ' H' => Ex6 fun (F14 : Hp) (kv15 : List (Key × V)) (parts16 : List (Str × Rat)) (o17 : Option V) (o18 : Option V) (o19 : Option V) => Cj9 (σ' = [some (V.int cell), some (V.ref a1), some (V.ref p5), o18, o19, o17, none, none]) (Gr0 F H F14 H') (Fz (frzd F) F14) (Le F F14) (H' p5 = some (.dK kv15)) (F14 p5 = none) (Dk (rFr K) F14 kv15 parts16) ((parts16.map (·.1)).Nodup) (((∀ x q, gtd parts16 x = some q → bs q ≤ 2) ∧ parts16.length ≤ i))) ?_ ?_ ?_ ?_⟩
    · exact ⟨F, _, [], _, _, _, rfl, gb8, cm, Le.refl _, oH12, oF11, True.intro, List.nodup_nil, by exact ⟨fun x q e => (by cases e), Nat.le_refl _⟩⟩
    · rintro i σ' H20 _ ⟨F21, kv25, m26, o27, o28, o29, rfl, gb22, cm23, le24, oH30, oF31, dk32, nd33, ⟨q1, q2⟩⟩
      exact (Same.seq gb22.s (Le.lst le24 sq3))
    · rintro i34 y37 σ' H35 p51 hi36 ⟨F38, kv42, m43, o44, o45, o46, rfl, gb39, cm40, le41, oH47, oF48, dk49, nd50, ⟨q1, q2⟩⟩ hp52
      obtain ⟨x53, hx54, hr55⟩ := Al.get (Al.mo le41 al4) hi36
      obtain rfl : y37 = V.str x53 := hr55
      refine it2 (K := K) gb39.s hp52 (fun F56 H57 g58 e59 => ?_)
      have gb60 := gb39.tr g58
      have le61 := g58.le
      have oH62 := g58.h _ _ oH47
      have oF63 := g58.own oF48 oH47
      have cm64 := g58.fz cm40
      try dsimp only
      have hil := (List.getElem?_eq_some_iff.mp hx54).1
      have u1 : i34 ≤ 2 := by omega
      refine a_seq ?_
      refine a_asg ?_
      refine a_op ?_
      refine a_op ?_
      refine a_call ?_
      refine a_cons ?_
      refine a_var rfl ?_
      refine a_cons ?_
      refine a_op ?_
      refine a_var rfl ?_
      refine a_c ?_
      refine a_I0 ?_
      refine a_nil ?_
      refine ⟨F56, _, _, cell, ((i34 : Int) + 1), rfl, gb60.s, rfl, rfl, ?_⟩
      rintro v65 F66 H67 r68 g69 hr70 hp71
      have gb72 := gb60.tr g69
      have le73 := g69.le
      have oH74 := g69.h _ _ oH62
      have oF75 := g69.own oF63 oH62
      have cm76 := g69.fz cm64
      obtain rfl : v65 = V.int r68 := hr70
      refine a_c ?_
      refine a_I (by decide) ?_
      have m77 : 0 ≤ (r68 % 7) ∧ (r68 % 7) < 7 := ⟨Int.emod_nonneg _ (by decide), Int.emod_lt_of_pos _ (by decide)⟩
      refine a_c ?_
      refine a_I0 ?_
      refine a_name ?_
      try dsimp only
      refine a_if ?_
      refine a_test ?_
      refine a_op ?_
      refine a_var rfl ?_
      refine a_c ?_
      refine a_neI ?_
      refine a_bl ?_
      refine iteDN (fun c78 => ?_) (fun c78 => ?_)
      · refine a_dput ?_
        refine a_call ?_
        refine a_cons ?_
        refine a_var rfl ?_
        refine a_cons ?_
        refine a_op ?_
        refine a_c ?_
        refine a_op ?_
        refine a_call ?_
        refine a_cons ?_
        refine a_var rfl ?_
        refine a_cons ?_
        refine a_op ?_
        refine a_var rfl ?_
        refine a_c ?_
        refine a_I0 ?_
        refine a_nil ?_
        refine ⟨F66, _, _, cell, ((i34 : Int) + 5), rfl, gb72.s, rfl, rfl, ?_⟩
        rintro v79 F80 H81 r82 g83 hr84 hp85
        have gb86 := gb72.tr g83
        have le87 := g83.le
        have oH88 := g83.h _ _ oH74
        have oF89 := g83.own oF75 oH74
        have cm90 := g83.fz cm76
        obtain rfl : v79 = V.int r82 := hr84
        refine a_c ?_
        refine a_I (by decide) ?_
        have m91 : 0 ≤ (r82 % 2) ∧ (r82 % 2) < 2 := ⟨Int.emod_nonneg _ (by decide), Int.emod_lt_of_pos _ (by decide)⟩
        refine a_I0 ?_
        refine a_nil ?_
        refine ⟨F80, _, _, ((r68 % 7) - 3), (1 + (r82 % 2)), rfl, gb86.s, rfl, rfl, (by exact ⟨by omega, Nat.le_trans (bi_small 5 (by omega)) (by decide)⟩), ?_⟩
        rintro v92 F93 H94  g96 hr97 
        have gb99 := gb86.tr g96
        have le100 := g96.le
        have oH101 := g96.h _ _ oH88
        have oF102 := g96.own oF89 oH88
        have cm103 := g96.fz cm90
        obtain ⟨a104, rfl, sq105⟩ := hr97
        refine a_var rfl ?_
        refine a_var rfl ?_
        refine a_dputK oH101 (by rw [Dk.length (Dk.mo (((le61.trans le73).trans le87).trans le100) dk49)]; omega) (chg gb99 hb10 oF102 (fun H106 gb107 oH108 ne109 => ?_))
        try dsimp only
        exact ⟨F93, _, (ptd m43 x53 (Rat.divInt (((r68 % 7) - 3)) ((1 + (r82 % 2))))), _, _, _, rfl, gb107, cm103, ((((le41.trans le61).trans le73).trans le87).trans le100), oH108, oF102, (Dk.put (x := x53) ⟨_, rfl, sq105⟩ (Dk.mo (((le61.trans le73).trans le87).trans le100) dk49)), (nd_ptd nd50 x53 (Rat.divInt (((r68 % 7) - 3)) ((1 + (r82 % 2))))), by first | exact ⟨ptd_all q1 (bs_divInt (by omega) (bi_small 2 (by omega)) (bi_small 2 (by omega))), Nat.le_trans (ptd_len _ _ _) (by omega)⟩ | exact ⟨q1, by omega⟩⟩
      · refine a_next ?_
        try dsimp only
        exact ⟨F66, _, m43, _, _, _, rfl, gb72, cm76, ((le41.trans le61).trans le73), oH74, oF75, (Dk.mo (le61.trans le73) dk49), nd50, by first | exact ⟨ptd_all q1 (bs_divInt (by omega) (bi_small 2 (by omega)) (bi_small 2 (by omega))), Nat.le_trans (ptd_len _ _ _) (by omega)⟩ | exact ⟨q1, by omega⟩⟩
    · rintro σ' H110 ⟨F111, kv115, m116, o117, o118, o119, rfl, gb112, cm113, le114, oH120, oF121, dk122, nd123, ⟨q1, q2⟩⟩
      have hlen := Al.length (Al.mo le114 al4)
      try dsimp only
      refine a_seq ?_
      refine a_asg ?_
      refine a_op ?_
      refine a_lst ?_
      refine a_cons ?_
      refine a_c ?_
      have ln124 : ("least" : Str).length = 5 := by decide +kernel
      refine a_cons ?_
      refine a_c ?_
      have ln125 : ("most" : Str).length = 4 := by decide +kernel
      refine a_cons ?_
      refine a_c ?_
      have ln126 : ("just" : Str).length = 4 := by decide +kernel
      refine a_nil ?_
      refine ⟨by show 3 ≤ sizeLine; decide, fun p127 hp128 => ?_⟩
      obtain ⟨F129, g131, e132⟩ := al2 (o := (.lst [V.str ("least" : Str), V.str ("most" : Str), V.str ("just" : Str)])) gb112.s (by intro _ _ z; cases z) hp128
      generalize upd H110 p127 (.lst [V.str ("least" : Str), V.str ("most" : Str), V.str ("just" : Str)]) = H130 at g131 ⊢
      have gb133 := gb112.tr g131
      have le134 := g131.le
      have oH135 := g131.h _ _ oH120
      have oF136 := g131.own oF121 oH120
      have cm137 := g131.fz cm113
      have al138 : Al rS F129 [.str ("least" : Str), .str ("most" : Str), .str ("just" : Str)] [("least" : Str), ("most" : Str), ("just" : Str)] := ⟨rfl, ⟨rfl, ⟨rfl, True.intro⟩⟩⟩
      refine a_op ?_
      refine a_call ?_
      refine a_cons ?_
      refine a_var rfl ?_
      refine a_cons ?_
      refine a_c ?_
      refine a_nil ?_
      refine ⟨F129, _, _, cell, 9, rfl, gb133.s, rfl, rfl, ?_⟩
      rintro v139 F140 H141 r142 g143 hr144 hp145
      have gb146 := gb133.tr g143
      have le147 := g143.le
      have oH148 := g143.h _ _ oH135
      have oF149 := g143.own oF136 oH135
      have cm150 := g143.fz cm137
      obtain rfl : v139 = V.int r142 := hr144
      refine a_c ?_
      refine a_I (by decide) ?_
      have m151 : 0 ≤ (r142 % 3) ∧ (r142 % 3) < 3 := ⟨Int.emod_nonneg _ (by decide), Int.emod_lt_of_pos _ (by decide)⟩
      obtain ⟨x153, v152, h154, h155, h156⟩ := Al.ix (Al.mo le147 al138) (i := (r142 % 3)) (by walk_at "o") (by walk_at "ol")
      refine a_ixL (Same.seq gb146.s (Le.lst le147 (SqL.of e132))) h155 ?_
      have h154m := List.mem_of_getElem? h154
      simp only [List.mem_cons, List.not_mem_nil, or_false] at h154m
      have h154l : x153.length ≤ 5 := by rcases h154m with z | z | z <;> (rw [z]; decide +kernel)
      obtain rfl : v152 = V.str x153 := h156
      refine a_name ?_
      try dsimp only
      refine a_seq ?_
      refine a_asg ?_
      refine a_op ?_
      refine a_lst ?_
      refine a_cons ?_
      refine a_c ?_
      refine a_cons ?_
      refine a_c ?_
      refine a_cons ?_
      refine a_c ?_
      refine a_cons ?_
      refine a_c ?_
      refine a_cons ?_
      refine a_c ?_
      refine a_cons ?_
      refine a_c ?_
      refine a_cons ?_
      refine a_c ?_
      refine a_cons ?_
      refine a_c ?_
      refine a_cons ?_
      refine a_c ?_
      refine a_cons ?_
      refine a_c ?_
      refine a_nil ?_
      refine ⟨by show 10 ≤ sizeLine; decide, fun p157 hp158 => ?_⟩
      obtain ⟨F159, g161, e162⟩ := al2 (o := (.lst [V.int 0, V.int 0, V.int 0, V.int 0, V.int 0, V.int 0, V.int 0, V.int 1, V.int 2, V.int 4])) gb146.s (by intro _ _ z; cases z) hp158
      generalize upd H141 p157 (.lst [V.int 0, V.int 0, V.int 0, V.int 0, V.int 0, V.int 0, V.int 0, V.int 1, V.int 2, V.int 4]) = H160 at g161 ⊢
      have gb163 := gb146.tr g161
      have le164 := g161.le
      have oH165 := g161.h _ _ oH148
      have oF166 := g161.own oF149 oH148
      have cm167 := g161.fz cm150
      have al168 : Al rI F159 [.int 0, .int 0, .int 0, .int 0, .int 0, .int 0, .int 0, .int 1, .int 2, .int 4] [0, 0, 0, 0, 0, 0, 0, 1, 2, 4] := ⟨rfl, ⟨rfl, ⟨rfl, ⟨rfl, ⟨rfl, ⟨rfl, ⟨rfl, ⟨rfl, ⟨rfl, ⟨rfl, True.intro⟩⟩⟩⟩⟩⟩⟩⟩⟩⟩
      refine a_op ?_
      refine a_call ?_
      refine a_cons ?_
      refine a_var rfl ?_
      refine a_cons ?_
      refine a_c ?_
      refine a_nil ?_
      refine ⟨F159, _, _, cell, 11, rfl, gb163.s, rfl, rfl, ?_⟩
      rintro v169 F170 H171 r172 g173 hr174 hp175
      have gb176 := gb163.tr g173
      have le177 := g173.le
      have oH178 := g173.h _ _ oH165
      have oF179 := g173.own oF166 oH165
      have cm180 := g173.fz cm167
      obtain rfl : v169 = V.int r172 := hr174
      refine a_c ?_
      refine a_I (by decide) ?_
      have m181 : 0 ≤ (r172 % 10) ∧ (r172 % 10) < 10 := ⟨Int.emod_nonneg _ (by decide), Int.emod_lt_of_pos _ (by decide)⟩
      obtain ⟨x183, v182, h184, h185, h186⟩ := Al.ix (Al.mo le177 al168) (i := (r172 % 10)) (by walk_at "o") (by walk_at "ol")
      refine a_ixL (Same.seq gb176.s (Le.lst le177 (SqL.of e162))) h185 ?_
      have h184m := List.mem_of_getElem? h184
      simp only [List.mem_cons, List.not_mem_nil, or_false] at h184m
      obtain rfl : v182 = V.int x183 := h186
      refine a_name ?_
      try dsimp only
      refine a_ret ?_
      refine a_tup ?_
      refine a_cons ?_
      refine a_var rfl ?_
      refine a_cons ?_
      refine a_var rfl ?_
      refine a_cons ?_
      refine a_tup ?_
      refine a_cons ?_
      refine a_op ?_
      refine a_op ?_
      refine a_call ?_
      refine a_cons ?_
      refine a_var rfl ?_
      refine a_cons ?_
      refine a_c ?_
      refine a_nil ?_
      refine ⟨F170, _, _, cell, 10, rfl, gb176.s, rfl, rfl, ?_⟩
      rintro v187 F188 H189 r190 g191 hr192 hp193
      have gb194 := gb176.tr g191
      have le195 := g191.le
      have oH196 := g191.h _ _ oH178
      have oF197 := g191.own oF179 oH178
      have cm198 := g191.fz cm180
      obtain rfl : v187 = V.int r190 := hr192
      refine a_c ?_
      refine a_I (by decide) ?_
      have m199 : 0 ≤ (r190 % 13) ∧ (r190 % 13) < 13 := ⟨Int.emod_nonneg _ (by decide), Int.emod_lt_of_pos _ (by decide)⟩
      refine a_c ?_
      refine a_I0 ?_
      refine a_cons ?_
      refine a_c ?_
      refine a_nil ?_
      refine ⟨by show 2 ≤ sizeLine; decide, fun p200 hp201 => ?_⟩
      obtain ⟨F202, g204, e205⟩ := al2 (o := (.tup [V.int ((r190 % 13) - 4), V.int 1])) gb194.s (by intro _ _ z; cases z) hp201
      generalize upd H189 p200 (.tup [V.int ((r190 % 13) - 4), V.int 1]) = H203 at g204 ⊢
      have gb206 := gb194.tr g204
      have le207 := g204.le
      have oH208 := g204.h _ _ oH196
      have oF209 := g204.own oF197 oH196
      have cm210 := g204.fz cm198
      have sq211 : SqT K F202 p200 (fr ((((r190 % 13) - 4) : Int) : Rat)) := by rw [fr_int]; exact SqT.of e205
      refine a_cons ?_
      refine a_var rfl ?_
      refine a_cons ?_
      refine a_c ?_
      refine a_nil ?_
      obtain ⟨F212, gb213, cm214, le215s, e216, ne217⟩ := frz gb206 cm210 hb10 oF209 oH208 (by intro _ _ z; cases z)
      have le215 := Le.of le215s
      refine ⟨by show 5 ≤ sizeLine; decide, fun p218 hp219 => ?_⟩
      obtain ⟨F220, g222, e223⟩ := al2 (o := (.tup [V.ref p5, V.str x153, V.ref p200, V.int x183, V.int 1])) gb213.s (by intro _ _ z; cases z) hp219
      generalize upd H203 p218 (.tup [V.ref p5, V.str x153, V.ref p200, V.int x183, V.int 1]) = H221 at g222 ⊢
      have gb224 := gb213.tr g222
      have le225 := g222.le
      have cm226 := g222.fz cm214
      have hde := g222.f _ _ e216
      have hdb := hb10
      have hdt := e223
      exact k _ _ _ ((m116, x153, ((((r190 % 13) - 4) : Int) : Rat), x183, 1)) (Gr.of gb224 cm226) (⟨_, _, _, _, _, _, rfl, (SqT.of e223), ⟨_, _, rfl, (Le.dic le225 (Rd.of e216)), (Dk.mo le225 (Dk.mo ((((((le134.trans le147).trans le164).trans le177).trans le195).trans le207).trans le215) dk122)), nd123⟩, rfl, ⟨_, rfl, (Le.tup (le215.trans le225) sq211)⟩, rfl, rfl⟩) (by exact ⟨q1, bs_int (by omega) (by decide)⟩)
def sp_law_weight (K : PySem.W.Frag) : Sp := fun vs H Q _ => Ex5 fun (F : Hp) (v_one : V) (v_mixed : V) (one : ((List (Str × Rat)) × Str × Rat × Int × Int)) (mixed : Int) => Cj5 (vs = [v_one, v_mixed]) (Same F H) ((r5 K (rD (rFr K)) rS (rFr K) rI rI) F v_one one) (rI F v_mixed mixed) (∀ (v : V) (F' H' : Hp) (r : Rat), Gr F H F' H' → (rFr K) F' v r → (bs r ≤ 3) → Q v H')
set_option linter.unusedVariables false in
theorem ok_law_weight (T : Tx K mg) : FnOk P w K mg base CX0 3 T.a_law_weight T.d_law_weight ["_law_one", "_law_mixed"] (sp_law_weight K) := by
  refine T.F_law_weight.ok sc_law_weight (fun vs H Q E h => ?_) (fun cdv A outer s H vs Q E hr h => ?_)
  · obtain ⟨F, v_one, v_mixed, one, mixed, rfl, _⟩ := h
    rfl
  · obtain ⟨F, v_one, v_mixed, one, mixed, rfl, wd, r_one, r_mixed, k⟩ := h
    have hu := hu_of hr
    have gb := Gr0.refl wd
    have cm := Fz.refl F
    obtain ⟨a1, v3, v4, v5, v6, v7, rfl, sq2, h8, h9, h10, h11, h12⟩ := r_one
    obtain ⟨a13, kvs14, rfl, rd15, dk16, nd17⟩ := h8
    obtain rfl : v4 = V.str one.2.1 := h9
    obtain ⟨a18, rfl, sq19⟩ := h10
    obtain rfl : v6 = V.int one.2.2.2.1 := h11
    obtain rfl : v7 = V.int one.2.2.2.2 := h12
    obtain rfl : v_mixed = V.int mixed := r_mixed
    refine ⟨_, (ZSs.h (zss_cons (ps_set (i := 2) sc_law_weight.nd rfl (Or.inl rfl) (pe_op op_add pe_int (pe_op op_mod (pv 1) pe_int)))
          (zss_cons (ps_if (PW.pt (pw_or (pt_cmpR op_eq (pe_ix ix_tup (pv 0) pe_int (fun _ _ => rfl)) pe_str (nomark _)) (pw_or1 (PW.pt (pw_and (pt_cmpR op_eq (pe_ix ix_tup (pv 0) pe_int (fun _ _ => rfl)) pe_str (nomark _)) (pw_and1 (pt_cmpR op_eq (pe_op op_mod (pe_op op_fdiv (pv 1) pe_int) pe_int) pe_int (nomark _)))))))) (pss_one (ps_set (i := 2) sc_law_weight.nd rfl (Or.inl rfl) (pe_op op_sub pe_int (pv 2)))) pss_nil)
          (zss_one (ps_ret (pe_call ((ok_law_lowest T).mono (by decide)) hr rfl T.m_law_lowest T.F_law_lowest.kp T.b_law_lowest .nil pass0 (pa_cons (pv 2) (pa_cons (pe_op op_add pe_int (pe_op op_mod (pe_op op_fdiv (pv 1) pe_int) pe_int)) pa_nil)))))))), ?_⟩
    refine a_seq ?_
    refine a_asg ?_
    refine a_op ?_
    refine a_c ?_
    refine a_op ?_
    refine a_var rfl ?_
    refine a_c ?_
    refine a_I (by decide) ?_
    have m20 : 0 ≤ (mixed % 5) ∧ (mixed % 5) < 5 := ⟨Int.emod_nonneg _ (by decide), Int.emod_lt_of_pos _ (by decide)⟩
    refine a_I0 ?_
    refine a_name ?_
    try dsimp only
    refine a_seqM (fun σ' H' => Ex2 fun (F21 : Hp) (top22 : Int) => Cj5 (σ' = [some (V.ref a1), some (V.int mixed), some (V.int top22)]) (Gr0 F H F21 H') (Fz (frzd F) F21) (Le F F21) ((-5 ≤ top22 ∧ top22 ≤ 5))) (fun R hR => ?_) ?_
    · refine a_if ?_
      refine a_or ?_
      refine a_test ?_
      refine a_op ?_
      refine a_op ?_
      refine a_var rfl ?_
      refine a_c ?_
      refine a_ixT (Same.tup gb.s sq2) rfl ?_
      refine a_c ?_
      have ln23 : ("most" : Str).length = 4 := by decide +kernel
      refine a_eqS ?_
      refine a_bl ?_
      refine iteD (fun c24 => ?_) (fun c24 => ?_)
      · refine iteT ?_
        refine a_asg ?_
        refine a_op ?_
        refine a_c ?_
        refine a_var rfl ?_
        refine a_I0 ?_
        refine a_name ?_
        try dsimp only
        exact hR _ _ ⟨F, (0 - (1 + (mixed % 5))), rfl, gb, cm, Le.refl _, by omega⟩
      · refine a_and ?_
        refine a_test ?_
        refine a_op ?_
        refine a_op ?_
        refine a_var rfl ?_
        refine a_c ?_
        refine a_ixT (Same.tup gb.s sq2) rfl ?_
        refine a_c ?_
        have ln25 : ("just" : Str).length = 4 := by decide +kernel
        refine a_eqS ?_
        refine a_bl ?_
        refine iteD (fun c26 => ?_) (fun c26 => ?_)
        · refine a_test ?_
          refine a_op ?_
          refine a_op ?_
          refine a_op ?_
          refine a_var rfl ?_
          refine a_c ?_
          refine a_I ⟨by decide, by decide⟩ ?_
          refine a_c ?_
          refine a_I (by decide) ?_
          have m27 : 0 ≤ ((mixed / 5) % 2) ∧ ((mixed / 5) % 2) < 2 := ⟨Int.emod_nonneg _ (by decide), Int.emod_lt_of_pos _ (by decide)⟩
          refine a_c ?_
          refine a_eqI ?_
          refine a_bl ?_
          refine iteD (fun c28 => ?_) (fun c28 => ?_)
          · refine a_asg ?_
            refine a_op ?_
            refine a_c ?_
            refine a_var rfl ?_
            refine a_I0 ?_
            refine a_name ?_
            try dsimp only
            exact hR _ _ ⟨F, (0 - (1 + (mixed % 5))), rfl, gb, cm, Le.refl _, by omega⟩
          · refine a_next ?_
            try dsimp only
            exact hR _ _ ⟨F, (1 + (mixed % 5)), rfl, gb, cm, Le.refl _, by omega⟩
        · refine iteF ?_
          refine a_next ?_
          try dsimp only
          exact hR _ _ ⟨F, (1 + (mixed % 5)), rfl, gb, cm, Le.refl _, by omega⟩
    · rintro σ' H29 ⟨F30, top34, rfl, gb31, cm32, le33, ⟨t1, t2⟩⟩
      refine a_ret ?_
      refine a_call ?_
      refine a_cons ?_
      refine a_var rfl ?_
      refine a_cons ?_
      refine a_op ?_
      refine a_c ?_
      refine a_op ?_
      refine a_op ?_
      refine a_var rfl ?_
      refine a_c ?_
      refine a_I ⟨by decide, by decide⟩ ?_
      refine a_c ?_
      refine a_I (by decide) ?_
      have m35 : 0 ≤ ((mixed / 10) % 3) ∧ ((mixed / 10) % 3) < 3 := ⟨Int.emod_nonneg _ (by decide), Int.emod_lt_of_pos _ (by decide)⟩
      refine a_I0 ?_
      refine a_nil ?_
      refine ⟨F30, _, _, top34, (1 + ((mixed / 10) % 3)), rfl, gb31.s, rfl, rfl, (by exact ⟨by omega, Nat.le_trans (bi_small 5 (by omega)) (by decide)⟩), ?_⟩
      rintro v36 F37 H38  g40 hr41 
      have gb43 := gb31.tr g40
      have le44 := g40.le
      have cm45 := g40.fz cm32
      obtain ⟨a46, rfl, sq47⟩ := hr41
      exact k _ _ _ ((Rat.divInt top34 ((1 + ((mixed / 10) % 3))))) (Gr.of gb43 cm45) (⟨_, rfl, sq47⟩) (by exact bs_divInt (by omega) (bi_small 3 (by omega)) (bi_small 3 (by omega)))
def sp_law_scaled (K : PySem.W.Frag) : Sp := fun vs H Q _ => Ex7 fun (F : Hp) (v_chosen : V) (v_weights : V) (chosen : (List ((List (Str × Rat)) × Str × Rat × Int × Int))) (weights : (List Rat)) (a_weights : Addr) (kv_weights : List V) => Cj9 (vs = [v_chosen, v_weights]) (Same F H) ((rL K (r5 K (rD (rFr K)) rS (rFr K) rI rI)) F v_chosen chosen) (v_weights = .ref a_weights) (H a_weights = some (.lst kv_weights)) (F a_weights = none) (Al (rFr K) F kv_weights weights) ((chosen.length ≤ 8 ∧ weights.length ≤ 8 ∧ (∀ r ∈ chosen, bs r.2.2.1 ≤ 4) ∧ ∀ q ∈ weights, bs q ≤ 3)) (∀ (F' H' : Hp)  (v : V) (r : (List Rat)), Gr F (hdn [a_weights] H) F' H' → ownL (rFr K) F' (hdn [a_weights] H) H' v r → ((∀ q ∈ r, bs q ≤ 70) ∧ r.length = weights.length) → Q v H')
set_option linter.unusedVariables false in
theorem ok_law_scaled (T : Tx K mg) : FnOk P w K mg base CX0 4 T.a_law_scaled T.d_law_scaled ["_law_chosen", "_law_weights"] (sp_law_scaled K) := by
  refine T.F_law_scaled.ok sc_law_scaled (fun vs H Q E h => ?_) (fun cdv A outer s H vs Q E hr h => ?_)
  · obtain ⟨F, v_chosen, v_weights, chosen, weights, a_weights, kv_weights, rfl, _⟩ := h
    rfl
  · obtain ⟨F, v_chosen, v_weights, chosen, weights, a_weights, kv_weights, rfl, wd, r_chosen, rfl, oH_weights, oF_weights, al_weights, hpre, k⟩ := h
    have hu := hu_of hr
    have gb : Gr0 F (hdn [a_weights] H) F H := hdn_gb wd
    have hb_weights : (hdn [a_weights] H) a_weights = none := hdn_in in0
    have cm := Fz.refl F
    obtain ⟨a1, vs2, rfl, sq3, al4⟩ := r_chosen
    obtain ⟨w1, w2, w3, w4⟩ := hpre
    refine ⟨_, (ZSs.h (zss_cons (ps_set (i := 2) sc_law_scaled.nd rfl (Or.inr rfl) (pe_call ((ok_law_add T).mono (by decide)) hr rfl T.m_law_add T.F_law_add.kp T.b_law_add .nil pass0 (pa_cons (pe_comp (N := ["_law_one", "_law_weight_here"]) (ix := [none, none]) rfl (pi_zip rfl T.z_zip (pa_cons (pv 0) (pa_cons (pv 1) pa_nil))) (fun _ _ _ _ _ => (show PG _ _ (gTup K 2 _) from pg_tup rfl (pgs_cons (pg_name (i := 0) (show List.Nodup (["_law_one", "_law_weight_here"] : List Str) from by decide) rfl (Or.inl rfl)) (pgs_cons (pg_name (i := 1) (show List.Nodup (["_law_one", "_law_weight_here"] : List Str) from by decide) rfl (Or.inl rfl)) pgs_nil)))) (fun _ _ _ _ _ => pts_nil) (fun _ _ _ _ _ => (pe_tup (pa_cons (pv 1) (pa_cons (pe_ix (show IxR _ (rIxT K) from ix_tup) (pv 0) pe_int (fun _ _ => rfl)) pa_nil)))) True.intro) pa_nil)))
          (zss_cons (ps_if (pt_cmpR op_le (pe_ix ix_tup (pv 2) pe_int (fun _ _ => rfl)) pe_int (nomark _)) (pss_one (ps_ret (pv 1))) pss_nil)
          (zss_one (ps_ret (pe_comp (N := ["_law_weight_here", "_law_come"]) (ix := [none, some 2]) rfl (pi_list (pv 1)) (fun _ _ _ _ _ => (pg_name (i := 0) (show List.Nodup (["_law_weight_here", "_law_come"] : List Str) from by decide) rfl (Or.inl rfl))) (fun _ _ _ _ _ => pts_nil) (fun _ _ _ _ _ => (pe_call ((ok_law_lowest T).mono (by decide)) hr rfl T.m_law_lowest T.F_law_lowest.kp T.b_law_lowest .nil pass0 (pa_cons (pe_op op_mulB (pe_ix (show IxR _ (rIxT K) from ix_tup) (pv 0) pe_int (fun _ _ => rfl)) (pe_ix (show IxR _ (rIxT K) from ix_tup) (pv 1) pe_int (fun _ _ => rfl))) (pa_cons (pe_op op_mulB (pe_ix (show IxR _ (rIxT K) from ix_tup) (pv 0) pe_int (fun _ _ => rfl)) (pe_ix (show IxR _ (rIxT K) from ix_tup) (pv 1) pe_int (fun _ _ => rfl))) pa_nil)))) ⟨rfl, rfl, rfl, True.intro⟩)))))), ?_⟩
    refine a_seq ?_
    refine a_asg ?_
    refine a_call ?_
    refine a_cons ?_
    refine a_comp ?_
    refine a_izip ?_
    refine a_cons ?_
    refine a_var rfl ?_
    refine a_cons ?_
    refine a_var rfl ?_
    refine a_nil ?_
    have hml9 : (min (chosen).length (weights).length) ≤ 1000000 := by omega
    have hlen := Al.length al4
    have hlen2 := Al.length al_weights
    refine ⟨_, _, rfl, ⟨_, (Same.seq gb.s sq3)⟩, ⟨_, (SqL.of oH_weights)⟩, comp_zip (K := K) (a := a1) (b := a_weights) (xs := vs2) (ys := kv_weights) (fun i acc H' => Ex4 fun (F5 : Hp) (kv6 : List V) (weights7 : List Rat) (ts8 : List (Rat × Rat)) => Cj12 (True) (Gr0 F (hdn [a_weights] H) F5 H') (Fz (frzd F) F5) (Le F F5) (H' a_weights = some (.lst kv6)) (F5 a_weights = none) (Al (rFr K) F5 kv6 weights7) (weights = weights7) (kv_weights = kv6) (Al (r2 K (rFr K) (rFr K)) F5 acc ts8) (ts8.length ≤ i) ((psum ts8 ≤ 8 * i))) ?_ ?_ ?_ ?_⟩
    · exact ⟨F, _, weights, [], True.intro, gb, cm, Le.refl _, oH_weights, oF_weights, al_weights, rfl, rfl, (show Al (r2 K (rFr K) (rFr K)) F [] [] from True.intro), (by first | (simp; done) | (rw [List.length_append]; simp only [List.length_cons, List.length_nil]; omega) | omega), by exact Nat.le_refl _⟩
    · rintro i acc H10 _ ⟨F11, kv15, m16, ts17, _, gb12, cm13, le14, oH20, oF21, dk22, rfl, rfl, al18, tl19, q1⟩
      exact ⟨(Same.seq gb12.s (Le.lst le14 sq3)), (SqL.of oH20)⟩
    · rintro i23 y27 z28 acc29 H24 p30 hi25 hj26 ⟨F32, kv36, m37, ts38, _, gb33, cm34, le35, oH41, oF42, dk43, rfl, rfl, al39, tl40, q1⟩ hp31
      obtain ⟨x44, hx45, hr46⟩ := Al.get (Al.mo le35 al4) hi25
      obtain ⟨x47, hx48, hr49⟩ := Al.get dk43 hj26
      have hil := (List.getElem?_eq_some_iff.mp hx45).1
      have hil2 := (List.getElem?_eq_some_iff.mp hx48).1
      obtain ⟨a54, v56, v57, v58, v59, v60, rfl, sq55, h61, h62, h63, h64, h65⟩ := hr46
      obtain ⟨a66, kvs67, rfl, rd68, dk69, nd70⟩ := h61
      obtain rfl : v57 = V.str x44.2.1 := h62
      obtain ⟨a71, rfl, sq72⟩ := h63
      obtain rfl : v59 = V.int x44.2.2.2.1 := h64
      obtain rfl : v60 = V.int x44.2.2.2.2 := h65
      obtain ⟨a73, rfl, sq74⟩ := hr49
      refine it2 (K := K) gb33.s hp31 (fun F50 H51 g52 e53 => ?_)
      have gb75 := gb33.tr g52
      have le76 := g52.le
      have oH77 := g52.h _ _ oH41
      have oF78 := g52.own oF42 oH41
      have cm79 := g52.fz cm34
      refine ⟨Wk.non (Wk.non (Wk.nil)), ?_⟩
      try dsimp only
      have u1 := w3 _ (List.mem_of_getElem? hx45)
      have u2 := w4 _ (List.mem_of_getElem? hx48)
      refine a_yes ?_
      refine iteT ?_
      refine a_tup ?_
      refine a_cons ?_
      refine a_var rfl ?_
      refine a_cons ?_
      refine a_op ?_
      refine a_var rfl ?_
      refine a_c ?_
      refine a_ixT (Same.tup gb75.s (Le.tup le76 sq55)) rfl ?_
      refine a_nil ?_
      refine ⟨by show 2 ≤ sizeLine; decide, fun p80 hp81 => ?_⟩
      obtain ⟨F82, g84, e85⟩ := al2 (o := (.tup [V.ref a73, V.ref a71])) gb75.s (by intro _ _ z; cases z) hp81
      generalize upd H51 p80 (.tup [V.ref a73, V.ref a71]) = H83 at g84 ⊢
      have gb86 := gb75.tr g84
      have le87 := g84.le
      have oH88 := g84.h _ _ oH77
      have oF89 := g84.own oF78 oH77
      have cm90 := g84.fz cm79
      refine ⟨by rw [Al.length (Al.mo (le76.trans le87) al39)]; have := sizeLine_big; omega, ?_⟩
      exact ⟨F82, _, weights, (ts38 ++ [(x47, x44.2.2.1)]), True.intro, gb86, cm90, ((le35.trans le76).trans le87), oH88, oF89, (Al.mo (le76.trans le87) dk43), rfl, rfl, (Al.snoc (Al.mo (le76.trans le87) al39) ⟨_, _, _, rfl, (SqT.of e85), ⟨_, rfl, (Le.tup (le76.trans le87) sq74)⟩, ⟨_, rfl, (Le.tup (le76.trans le87) sq72)⟩⟩), (by first | (simp; done) | (rw [List.length_append]; simp only [List.length_cons, List.length_nil]; omega) | omega), by rw [psum_one]; omega⟩
    · rintro acc92 H91 ⟨F93, kv97, m98, ts99, _, gb94, cm95, le96, oH102, oF103, dk104, rfl, rfl, al100, tl101, q1⟩
      have hlen := Al.length (Al.mo le96 al4)
      have hlen2 := Al.length dk104
      refine ⟨(by rw [Al.length al100]; have := sizeLine_big; omega), fun p105 hp106 => ?_⟩
      obtain ⟨F107, g109, e110⟩ := al2 (o := (.lst acc92)) gb94.s (by intro _ _ z; cases z) hp106
      generalize upd H91 p105 (.lst acc92) = H108 at g109 ⊢
      have gb111 := gb94.tr g109
      have le112 := g109.le
      have oH113 := g109.h _ _ oH102
      have oF114 := g109.own oF103 oH102
      have cm115 := g109.fz cm95
      rw [hlen, hlen2] at q1
      refine a_nil ?_
      refine ⟨F107, _, ts99, rfl, gb111.s, ⟨_, _, rfl, (SqL.of e110), (Al.mo le112 al100)⟩, (by exact ⟨by omega, by omega⟩), ?_⟩
      rintro v116 F117 H118  g120 hr121 hp122
      have gb123 := gb111.tr g120
      have le124 := g120.le
      have oH125 := g120.h _ _ oH113
      have oF126 := g120.own oF114 oH113
      have cm127 := g120.fz cm115
      obtain ⟨a128, rfl, sq129⟩ := hr121
      have u9 : bs (wgtZ ts99) ≤ 65 := Nat.le_trans hp122 (by omega)
      have b1 := Nat.le_trans (bi_num (wgtZ ts99)) u9
      have b2 := Nat.le_trans (bi_den (wgtZ ts99)) u9
      have d1 := den_pos (wgtZ ts99)
      refine a_name ?_
      try dsimp only
      refine a_seq ?_
      refine a_if ?_
      refine a_test ?_
      refine a_op ?_
      refine a_op ?_
      refine a_var rfl ?_
      refine a_c ?_
      refine a_ixT (Same.tup gb123.s sq129) (fr0 (wgtZ ts99)) ?_
      refine a_c ?_
      refine a_I0 ?_
      refine a_bl ?_
      refine iteD (fun c130 => ?_) (fun c130 => ?_)
      · refine a_ret ?_
        refine a_var rfl ?_
        have rp131 : ownL (rFr K) F117 (hdn [a_weights] H) H118 (V.ref a_weights) (weights) := ⟨_, _, rfl, hb_weights, oH125, oF126, (Al.mo (le112.trans le124) dk104)⟩
        exact k _ _  _ (weights) (Gr.of gb123 cm127) rp131 (by exact ⟨fun q h => Nat.le_trans (w4 q h) (by decide), rfl⟩)
      · refine a_next ?_
        try dsimp only
        refine a_ret ?_
        refine a_comp ?_
        refine a_ilist ?_
        refine a_var rfl ?_
        have hml136 : (weights).length ≤ 1000000 := by omega
        refine ⟨_, rfl, ⟨_, (SqL.of oH125)⟩, comp_list (K := K) (a := a_weights) (xs := kv_weights) (fun i acc H' => Ex4 fun (F132 : Hp) (kv133 : List V) (weights134 : List Rat) (ts135 : List Rat) => Cj12 (True) (Gr0 F (hdn [a_weights] H) F132 H') (Fz (frzd F) F132) (Le F117 F132) (H' a_weights = some (.lst kv133)) (F132 a_weights = none) (Al (rFr K) F132 kv133 weights134) (weights = weights134) (kv_weights = kv133) (Al (rFr K) F132 acc ts135) (ts135.length ≤ i) (((∀ q ∈ ts135, bs q ≤ 70) ∧ ts135.length = i))) ?_ ?_ ?_ ?_⟩
        · exact ⟨F117, _, weights, [], True.intro, gb123, cm127, Le.refl _, oH125, oF126, (Al.mo (le112.trans le124) dk104), rfl, rfl, (show Al (rFr K) F117 [] [] from True.intro), (by first | (simp; done) | (rw [List.length_append]; simp only [List.length_cons, List.length_nil]; omega) | omega), by exact ⟨fun p h => (by cases h), rfl⟩⟩
        · rintro i acc H137 _ ⟨F138, kv142, m143, ts144, _, gb139, cm140, le141, oH147, oF148, dk149, rfl, rfl, al145, tl146, ⟨q2, q3⟩⟩
          exact (SqL.of oH147)
        · rintro i150 y153 acc154 H151 hi152 ⟨F155, kv159, m160, ts161, _, gb156, cm157, le158, oH164, oF165, dk166, rfl, rfl, al162, tl163, ⟨q2, q3⟩⟩
          obtain ⟨x167, hx168, hr169⟩ := Al.get dk166 hi152
          have hil := (List.getElem?_eq_some_iff.mp hx168).1
          refine a_name ?_
          obtain ⟨a170, rfl, sq171⟩ := hr169
          refine ⟨Wk.non (Wk.som (Wk.nil)), ?_⟩
          try dsimp only
          have v1 := w4 _ (List.mem_of_getElem? hx168)
          have v2 := Nat.le_trans (bi_num x167) v1
          have v3 := Nat.le_trans (bi_den x167) v1
          have v4 := den_pos x167
          refine a_yes ?_
          refine iteT ?_
          refine a_call ?_
          refine a_cons ?_
          refine a_op ?_
          refine a_op ?_
          refine a_var rfl ?_
          refine a_c ?_
          refine a_ixT (Same.tup gb156.s sq171) (fr0 x167) ?_
          refine a_op ?_
          refine a_var rfl ?_
          refine a_c ?_
          refine a_ixT (Same.tup gb156.s (Le.tup le158 sq129)) (fr1 (wgtZ ts99)) ?_
          refine a_I (by walk_at "om") ?_
          refine a_cons ?_
          refine a_op ?_
          refine a_op ?_
          refine a_var rfl ?_
          refine a_c ?_
          refine a_ixT (Same.tup gb156.s sq171) (fr1 x167) ?_
          refine a_op ?_
          refine a_var rfl ?_
          refine a_c ?_
          refine a_ixT (Same.tup gb156.s (Le.tup le158 sq129)) (fr0 (wgtZ ts99)) ?_
          refine a_I (by walk_at "om") ?_
          refine a_nil ?_
          refine ⟨F155, _, _, (x167.num * ((wgtZ ts99).den : Int)), ((x167.den : Int) * (wgtZ ts99).num), rfl, gb156.s, rfl, rfl, (by exact ⟨Int.mul_pos v4 (by omega), Nat.le_trans (bi_mul _ _) (by omega)⟩), ?_⟩
          rintro v172 F173 H174  g176 hr177 
          have gb179 := gb156.tr g176
          have le180 := g176.le
          have oH181 := g176.h _ _ oH164
          have oF182 := g176.own oF165 oH164
          have cm183 := g176.fz cm157
          obtain ⟨a184, rfl, sq185⟩ := hr177
          refine ⟨by rw [Al.length (Al.mo le180 al162)]; have := sizeLine_big; omega, ?_⟩
          exact ⟨F173, _, weights, (ts161 ++ [(Rat.divInt ((x167.num * ((wgtZ ts99).den : Int))) (((x167.den : Int) * (wgtZ ts99).num)))]), True.intro, gb179, cm183, (le158.trans le180), oH181, oF182, (Al.mo le180 dk166), rfl, rfl, (Al.snoc (Al.mo le180 al162) ⟨_, rfl, sq185⟩), (by first | (simp; done) | (rw [List.length_append]; simp only [List.length_cons, List.length_nil]; omega) | omega), by exact ⟨fun q h => (List.mem_append.mp h).elim (q2 q) fun z => by rw [List.mem_singleton.mp z]; exact bs_divInt (Int.ne_of_gt (Int.mul_pos v4 (by omega))) (Nat.le_trans (bi_mul _ _) (by omega)) (Nat.le_trans (bi_mul _ _) (by omega)), by rw [List.length_append, q3]; rfl⟩⟩
        · rintro acc187 H186 ⟨F188, kv192, m193, ts194, _, gb189, cm190, le191, oH197, oF198, dk199, rfl, rfl, al195, tl196, ⟨q2, q3⟩⟩
          have hlen := Al.length dk199
          refine ⟨(by rw [Al.length al195]; have := sizeLine_big; omega), fun p200 hp201 => ?_⟩
          obtain ⟨gb203, sm204, hb205, oF206, oH207, ne208⟩ := alo2 (o := (.lst acc187)) gb189 hp201
          generalize upd H186 p200 (.lst acc187) = H202 at gb203 sm204 oH207 ⊢
          have ne209 := ne208 _ _ oH197
          have oH210 := sm204 _ _ oH197
          rw [hlen] at q3
          have rp211 : ownL (rFr K) F188 (hdn [a_weights] H) H202 (V.ref p200) (ts194) := ⟨_, _, rfl, hb205, oH207, oF206, al195⟩
          exact k _ _  _ (ts194) (Gr.of gb203 cm190) rp211 (by exact ⟨q2, q3⟩)
def sp_law_right (K : PySem.W.Frag) : Sp := fun vs H Q _ => Ex9 fun (F : Hp) (v_rows : V) (v_some' : V) (v_numbers : V) (v_weights : V) (rows : (List ((List (Str × Rat)) × Str × Rat × Int × Int))) (some' : (List Str)) (numbers : (List Int)) (weights : (List Rat)) => Cj8 (vs = [v_rows, v_some', v_numbers, v_weights]) (Same F H) ((rL K (r5 K (rD (rFr K)) rS (rFr K) rI rI)) F v_rows rows) ((rL K rS) F v_some' some') ((rL K rI) F v_numbers numbers) ((rL K (rFr K)) F v_weights weights) (rows.length ≤ 12 ∧ numbers.length ≤ 12 ∧ weights.length ≤ 12 ∧ some'.length ≤ 5 ∧ (∀ q ∈ numbers, 0 ≤ q) ∧ wsum weights ≤ 3000 ∧ ∀ r ∈ rows, Row33 r) (∀ (v : V) (F' H' : Hp), Gr F H F' H' → rB F' v (clashB rows some' numbers weights) → Q v H')
set_option linter.unusedVariables false in
theorem ok_law_right (T : Tx K mg) : FnOk P w K mg base CX0 4 T.a_law_right T.d_law_right ["_law_rows", "_law_some", "_law_numbers", "_law_weights"] (sp_law_right K) := by
  refine T.F_law_right.ok sc_law_right (fun vs H Q E h => ?_) (fun cdv A outer s H vs Q E hr h => ?_)
  · obtain ⟨F, v_rows, v_some', v_numbers, v_weights, rows, some', numbers, weights, rfl, _⟩ := h
    rfl
  · obtain ⟨F, v_rows, v_some', v_numbers, v_weights, rows, some', numbers, weights, rfl, wd, r_rows, r_some', r_numbers, r_weights, hpre, k⟩ := h
    have hu := hu_of hr
    have gb := Gr0.refl wd
    have cm := Fz.refl F
    obtain ⟨a1, vs2, rfl, sq3, al4⟩ := r_rows
    obtain ⟨a5, vs6, rfl, sq7, al8⟩ := r_some'
    obtain ⟨a9, vs10, rfl, sq11, al12⟩ := r_numbers
    obtain ⟨a13, vs14, rfl, sq15, al16⟩ := r_weights
    obtain ⟨w1, w2, w3, w4, w5, w6, w7⟩ := hpre
    refine ⟨_, (ZSs.h (zss_cons (ps_if (PW.pt (pw_or (pt_cmpR op_ne (pe_callB call_len_seq rfl T.z_len rfl (pa_cons (pv 3) pa_nil)) (pe_callB call_len_seq rfl T.z_len rfl (pa_cons (pv 2) pa_nil)) (nomark _)) (pw_or1 (pt_cmpR (op_neQ (K := K) (A := rI) rfl hr.units) (pv 2) (pe_callB (show CallR _ _ (rSortI P w) from call_sortedI rfl) rfl T.z_sorted rfl (pa_cons (pe_callTy (show CallR _ _ (rSetX P w K) from call_setX rfl) rfl T.z_set rfl (pa_cons (pv 2) pa_nil)) pa_nil)) (nomark _))))) (pss_one (ps_ret pe_bl)) pss_nil)
          (zss_cons (ps_if (pt_val (pe_callB (call_anyB rfl) rfl T.z_any rfl (pa_cons (pe_comp (N := ["_law_k", "_law_rows"]) (ix := [none, some 0]) rfl (pi_list (pv 2)) (fun _ _ _ _ _ => (pg_name (i := 0) (show List.Nodup (["_law_k", "_law_rows"] : List Str) from by decide) rfl (Or.inl rfl))) (fun _ _ _ _ _ => pts_nil) (fun _ _ _ _ _ => (pe_or (pe_cmpR op_ge (pv 0) (pe_callB (show CallR _ _ (rLn K) from call_len_seq) rfl T.z_len rfl (pa_cons (pv 1) pa_nil)) (nomark _)) (pe_one (pe_cmpR op_ne (pe_ix (show IxR _ (rIxT K) from ix_tup) (pe_ix (show IxR _ (rIxL K) from ix_list) (pv 1) (pv 0) (fun _ _ => rfl)) pe_int (fun _ _ => rfl)) pe_int (nomark _))))) ⟨rfl, rfl, rfl, True.intro⟩) pa_nil))) (pss_one (ps_ret pe_bl)) pss_nil)
          (zss_cons (ps_setC (i := 4) (N := ["_law_k", "_law_rows"]) (ix := [none, some 0]) sc_law_right.nd rfl (Or.inl rfl) rfl (pi_list (pv 2)) (fun _ _ _ _ _ => (pg_name (i := 0) (show List.Nodup (["_law_k", "_law_rows"] : List Str) from by decide) rfl (Or.inl rfl))) (fun _ _ _ _ _ => pts_nil) (fun _ _ _ _ _ => (pe_ix (show IxR _ (rIxL K) from ix_list) (pv 1) (pv 0) (fun _ _ => rfl))) ⟨rfl, rfl, rfl, True.intro⟩)
          (zss_cons (ps_for PassesOwn.never rfl (pi_zip rfl T.z_zip (pa_cons (pv 4) (pa_cons (pv 3) pa_nil))) (pg_tup rfl (pgs_cons (pg_name (i := 5) sc_law_right.nd rfl (Or.inl rfl)) (pgs_cons (pg_name (i := 6) sc_law_right.nd rfl (Or.inl rfl)) pgs_nil))) (pss_one (ps_if (PW.pt (pw_or (PW.pt (pw_and (pt_cmpR op_eq (pe_ix ix_tup (pv 5) pe_int (fun _ _ => rfl)) pe_str (nomark _)) (pw_and1 (pt_cmpR op_lt (pe_ix ix_tup (pv 6) pe_int (fun _ _ => rfl)) pe_int (nomark _))))) (pw_or1 (PW.pt (pw_and (pt_cmpR op_eq (pe_ix ix_tup (pv 5) pe_int (fun _ _ => rfl)) pe_str (nomark _)) (pw_and1 (pt_cmpR op_gt (pe_ix ix_tup (pv 6) pe_int (fun _ _ => rfl)) pe_int (nomark _)))))))) (pss_one (ps_ret pe_bl)) pss_nil)))
          (zss_cons (ps_for PassesOwn.never rfl (pi_list (pv 1)) (pg_name (i := 7) sc_law_right.nd rfl (Or.inr rfl)) (pss_one (ps_if (pt_cmpR op_gt (pe_ix ix_tup (pe_call ((ok_law_add T).mono (by decide)) hr rfl T.m_law_add T.F_law_add.kp T.b_law_add .nil pass0 (pa_cons (pe_comp (N := ["_law_one", "_law_weight_here", "_law_name"]) (ix := [none, none, some 7]) rfl (pi_zip rfl T.z_zip (pa_cons (pv 4) (pa_cons (pv 3) pa_nil))) (fun _ _ _ _ _ => (show PG _ _ (gTup K 2 _) from pg_tup rfl (pgs_cons (pg_name (i := 0) (show List.Nodup (["_law_one", "_law_weight_here", "_law_name"] : List Str) from by decide) rfl (Or.inl rfl)) (pgs_cons (pg_name (i := 1) (show List.Nodup (["_law_one", "_law_weight_here", "_law_name"] : List Str) from by decide) rfl (Or.inl rfl)) pgs_nil)))) (fun _ _ _ _ _ => (pts_one (pt_cmp (pc_din hu (pv 2) (pe_ix (show IxR _ (rIxT K) from ix_tup) (pv 0) pe_int (fun _ _ => rfl)))))) (fun _ _ _ _ _ => (pe_tup (pa_cons (pv 1) (pa_cons (pe_dget hu (pe_ix (show IxR _ (rIxT K) from ix_tup) (pv 0) pe_int (fun _ _ => rfl)) (pv 2) (fun _ _ => rfl)) pa_nil)))) ⟨rfl, rfl, rfl, True.intro⟩) pa_nil)) pe_int (fun _ _ => rfl)) pe_int (nomark _)) (pss_one (ps_ret pe_bl)) pss_nil)))
          (zss_one (ps_ret (pe_cmpR (op_eqQ (K := K) (A := (rFr K)) rfl hr.units) (pe_call ((ok_law_add T).mono (by decide)) hr rfl T.m_law_add T.F_law_add.kp T.b_law_add .nil pass0 (pa_cons (pe_comp (N := ["_law_one", "_law_weight_here"]) (ix := [none, none]) rfl (pi_zip rfl T.z_zip (pa_cons (pv 4) (pa_cons (pv 3) pa_nil))) (fun _ _ _ _ _ => (show PG _ _ (gTup K 2 _) from pg_tup rfl (pgs_cons (pg_name (i := 0) (show List.Nodup (["_law_one", "_law_weight_here"] : List Str) from by decide) rfl (Or.inl rfl)) (pgs_cons (pg_name (i := 1) (show List.Nodup (["_law_one", "_law_weight_here"] : List Str) from by decide) rfl (Or.inl rfl)) pgs_nil)))) (fun _ _ _ _ _ => pts_nil) (fun _ _ _ _ _ => (pe_tup (pa_cons (pv 1) (pa_cons (pe_ix (show IxR _ (rIxT K) from ix_tup) (pv 0) pe_int (fun _ _ => rfl)) pa_nil)))) True.intro) pa_nil)) (pe_tup (pa_cons pe_int (pa_cons pe_int pa_nil))) (nomark _)))))))))), ?_⟩
    have hol := L2.once_len numbers
    refine a_seq ?_
    refine a_if ?_
    refine a_or ?_
    refine a_test ?_
    refine a_op ?_
    refine a_cb ?_
    refine a_cons ?_
    refine a_var rfl ?_
    refine a_nil ?_
    refine ⟨_, _, rfl, .inl (Same.seq gb.s sq15), ?_⟩
    rw [Al.length al16]
    refine a_cb ?_
    refine a_cons ?_
    refine a_var rfl ?_
    refine a_nil ?_
    refine ⟨_, _, rfl, .inl (Same.seq gb.s sq11), ?_⟩
    rw [Al.length al12]
    refine a_neI ?_
    refine a_bl ?_
    refine iteDN (fun c17 => ?_) (fun c17 => ?_)
    · refine iteT ?_
      refine a_ret ?_
      refine a_c ?_
      have hval : (false : Bool) = (clashB rows some' numbers weights) := by first | exact clash_len (by omega) | exact clash_ris (ris_off w5 (by assumption)) | exact clash_ris (ris_bad w5 (by rw [← q1]; assumption)) | exact clash_sign (by rw [← q0]; exact all_no hz (by first | exact sgn_f1 (by assumption) (by assumption) | exact sgn_f2 (by assumption) (by assumption))) | exact clash_col (by rw [← q0]; exact any_yes hx9 (by unfold colR; rw [← q5, ← num_pos]; assumption))
      have rp18 : rB F (V.bl false) (false) := rfl
      replace rp18 := Eq.mp (congrArg (rB F (V.bl false)) hval) rp18
      exact k _ _ _ (Gr.of gb cm) rp18
    · refine a_test ?_
      refine a_op ?_
      refine a_var rfl ?_
      refine a_cb ?_
      refine a_cons ?_
      refine a_cb ?_
      refine a_cons ?_
      refine a_var rfl ?_
      refine a_nil ?_
      refine a_setI (Same.seq gb.s sq11) al12 (by omega) fun p19 hp20 => ?_
      obtain ⟨F21, g23, e24⟩ := al2 (o := (SetC P w p19 ((once numbers).map Sum.inl))) gb.s (by intro _ _ z; unfold SetC at z; cases z) hp20
      generalize upd H p19 (SetC P w p19 ((once numbers).map Sum.inl)) = H22 at g23 ⊢
      have gb25 := gb.tr g23
      have le26 := g23.le
      have cm27 := g23.fz cm
      refine a_nil ?_
      refine a_sortI (gb25.s _ _ e24) (by omega) (fun p28 hp29 => ?_)
      obtain ⟨gb31, sm32, hb33, oF34, oH35, ne36⟩ := alo2 (o := (.lst ((srtI (once numbers)).map V.int))) gb25 hp29
      generalize upd H22 p28 (.lst ((srtI (once numbers)).map V.int)) = H30 at gb31 sm32 oH35 ⊢
      obtain ⟨F37, gb38, cm39, le40s, e41, ne42⟩ := frz gb31 cm27 hb33 oF34 oH35 (by intro _ _ z; cases z)
      have le40 := Le.of le40s
      refine ⟨F37, numbers, (srtI (once numbers)), gb38.s, ⟨_, _, rfl, (Le.lst (le26.trans le40) sq11), (Al.mo (le26.trans le40) al12)⟩, ⟨_, _, rfl, (SqL.of e41), (Al.mo le40 (al_ints (F := F21) (ns := (srtI (once numbers)))))⟩, ?_⟩
      refine a_bl ?_
      refine iteDN (fun c43 => ?_) (fun c43 => ?_)
      · refine a_ret ?_
        refine a_c ?_
        have hval : (false : Bool) = (clashB rows some' numbers weights) := by first | exact clash_len (by omega) | exact clash_ris (ris_off w5 (by assumption)) | exact clash_ris (ris_bad w5 (by rw [← q1]; assumption)) | exact clash_sign (by rw [← q0]; exact all_no hz (by first | exact sgn_f1 (by assumption) (by assumption) | exact sgn_f2 (by assumption) (by assumption))) | exact clash_col (by rw [← q0]; exact any_yes hx9 (by unfold colR; rw [← q5, ← num_pos]; assumption))
        have rp44 : rB F21 (V.bl false) (false) := rfl
        replace rp44 := Eq.mp (congrArg (rB F21 (V.bl false)) hval) rp44
        exact k _ _ _ (Gr.of gb31 cm27) rp44
      · refine a_next ?_
        try dsimp only
        refine a_seq ?_
        refine a_if ?_
        refine a_tB ?_
        refine a_cb ?_
        refine a_cons ?_
        refine a_comp ?_
        refine a_ilist ?_
        refine a_var rfl ?_
        have hml47 : (numbers).length ≤ 1000000 := by omega
        refine ⟨_, rfl, ⟨_, (Same.seq gb31.s (Le.lst le26 sq11))⟩, comp_list (K := K) (a := a9) (xs := vs10) (fun i acc H' => Ex2 fun (F45 : Hp) (ts46 : List Bool) => Cj7 (True) (Gr0 F H F45 H') (Fz (frzd F) F45) (Le F21 F45) (Al rB F45 acc ts46) (ts46.length ≤ i) ((ts46 = (numbers.take i).map (badB rows)))) ?_ ?_ ?_ ?_⟩
        · exact ⟨F21, [], True.intro, gb31, cm27, Le.refl _, (show Al rB F21 [] [] from True.intro), (by first | (simp; done) | (rw [List.length_append]; simp only [List.length_cons, List.length_nil]; omega) | omega), by rfl⟩
        · rintro i acc H48 _ ⟨F49, ts53, _, gb50, cm51, le52, al54, tl55, q1⟩
          exact (Same.seq gb50.s (Le.lst (le26.trans le52) sq11))
        · rintro i56 y59 acc60 H57 hi58 ⟨F61, ts65, _, gb62, cm63, le64, al66, tl67, q1⟩
          obtain ⟨x68, hx69, hr70⟩ := Al.get (Al.mo (le26.trans le64) al12) hi58
          have hil := (List.getElem?_eq_some_iff.mp hx69).1
          refine a_name ?_
          obtain rfl : y59 = V.int x68 := hr70
          refine ⟨Wk.non (Wk.som (Wk.nil)), ?_⟩
          try dsimp only
          have u1 := w5 _ (List.mem_of_getElem? hx69)
          have hx9 := hx69
          refine a_yes ?_
          refine iteT ?_
          refine a_orV ?_
          refine a_op ?_
          refine a_var rfl ?_
          refine a_cb ?_
          refine a_cons ?_
          refine a_var rfl ?_
          refine a_nil ?_
          refine ⟨_, _, rfl, .inl (Same.seq gb62.s (Le.lst (le26.trans le64) sq3)), ?_⟩
          rw [Al.length (Al.mo (le26.trans le64) al4)]
          refine a_I0 ?_
          refine a_bl ?_
          refine iteD (fun c71 => ?_) (fun c71 => ?_)
          · refine ⟨by rw [Al.length al66]; have := sizeLine_big; omega, ?_⟩
            exact ⟨F61, (ts65 ++ [true]), True.intro, gb62, cm63, le64, (Al.snoc al66 rfl), (by first | (simp; done) | (rw [List.length_append]; simp only [List.length_cons, List.length_nil]; omega) | omega), by first | exact bad_yes q1 hx9 (by assumption) | exact bad_no q1 hx9 (by assumption) hr9⟩
          · refine a_op ?_
            refine a_op ?_
            refine a_op ?_
            refine a_var rfl ?_
            refine a_var rfl ?_
            obtain ⟨x73, v72, h74, h75, h76⟩ := Al.ix (Al.mo (le26.trans le64) al4) (i := x68) (by walk_at "o") (by walk_at "ol")
            refine a_ixL (Same.seq gb62.s (Le.lst (le26.trans le64) sq3)) h75 ?_
            have hr9 := h74
            obtain ⟨a77, v79, v80, v81, v82, v83, rfl, sq78, h84, h85, h86, h87, h88⟩ := h76
            obtain ⟨a89, kvs90, rfl, rd91, dk92, nd93⟩ := h84
            obtain rfl : v80 = V.str x73.2.1 := h85
            obtain ⟨a94, rfl, sq95⟩ := h86
            obtain rfl : v82 = V.int x73.2.2.2.1 := h87
            obtain rfl : v83 = V.int x73.2.2.2.2 := h88
            refine a_c ?_
            refine a_ixT (Same.tup gb62.s sq78) rfl ?_
            refine a_c ?_
            refine a_neI ?_
            refine ⟨by rw [Al.length al66]; have := sizeLine_big; omega, ?_⟩
            exact ⟨F61, (ts65 ++ [(!decide (x73.2.2.2.1 = 0))]), True.intro, gb62, cm63, le64, (Al.snoc al66 rfl), (by first | (simp; done) | (rw [List.length_append]; simp only [List.length_cons, List.length_nil]; omega) | omega), by first | exact bad_yes q1 hx9 (by assumption) | exact bad_no q1 hx9 (by assumption) hr9⟩
        · rintro acc97 H96 ⟨F98, ts102, _, gb99, cm100, le101, al103, tl104, q1⟩
          have hlen := Al.length (Al.mo (le26.trans le101) al12)
          refine ⟨(by rw [Al.length al103]; have := sizeLine_big; omega), fun p105 hp106 => ?_⟩
          obtain ⟨F107, g109, e110⟩ := al2 (o := (.lst acc97)) gb99.s (by intro _ _ z; cases z) hp106
          generalize upd H96 p105 (.lst acc97) = H108 at g109 ⊢
          have gb111 := gb99.tr g109
          have le112 := g109.le
          have cm113 := g109.fz cm100
          rw [hlen, List.take_length] at q1
          refine a_nil ?_
          refine ⟨_, ts102, rfl, (by have z : SqL K _ _ _ := (Same.seq gb111.s (SqL.of e110)); rw [Al.bools (Al.mo le112 al103)] at z; exact z), ?_⟩
          refine a_bl ?_
          refine iteB (fun c114 => ?_) (fun c114 => ?_)
          · refine a_ret ?_
            refine a_c ?_
            have hval : (false : Bool) = (clashB rows some' numbers weights) := by first | exact clash_len (by omega) | exact clash_ris (ris_off w5 (by assumption)) | exact clash_ris (ris_bad w5 (by rw [← q1]; assumption)) | exact clash_sign (by rw [← q0]; exact all_no hz (by first | exact sgn_f1 (by assumption) (by assumption) | exact sgn_f2 (by assumption) (by assumption))) | exact clash_col (by rw [← q0]; exact any_yes hx9 (by unfold colR; rw [← q5, ← num_pos]; assumption))
            have rp115 : rB F107 (V.bl false) (false) := rfl
            replace rp115 := Eq.mp (congrArg (rB F107 (V.bl false)) hval) rp115
            exact k _ _ _ (Gr.of gb111 cm113) rp115
          · refine a_next ?_
            try dsimp only
            refine a_seq ?_
            refine a_asg ?_
            refine a_comp ?_
            refine a_ilist ?_
            refine a_var rfl ?_
            have hml118 : (numbers).length ≤ 1000000 := by omega
            refine ⟨_, rfl, ⟨_, (Same.seq gb111.s (Le.lst ((le26.trans le101).trans le112) sq11))⟩, comp_list (K := K) (a := a9) (xs := vs10) (fun i acc H' => Ex2 fun (F116 : Hp) (ts117 : List ((List (Str × Rat)) × Str × Rat × Int × Int)) => Cj7 (True) (Gr0 F H F116 H') (Fz (frzd F) F116) (Le F107 F116) (Al (r5 K (rD (rFr K)) rS (rFr K) rI rI) F116 acc ts117) (ts117.length ≤ i) ((ts117 = choR rows (numbers.take i) ∧ ∀ r ∈ ts117, r ∈ rows))) ?_ ?_ ?_ ?_⟩
            · exact ⟨F107, [], True.intro, gb111, cm113, Le.refl _, (show Al (r5 K (rD (rFr K)) rS (rFr K) rI rI) F107 [] [] from True.intro), (by first | (simp; done) | (rw [List.length_append]; simp only [List.length_cons, List.length_nil]; omega) | omega), by exact ⟨rfl, fun q h => (by cases h)⟩⟩
            · rintro i acc H119 _ ⟨F120, ts124, _, gb121, cm122, le123, al125, tl126, ⟨q0, q2⟩⟩
              exact (Same.seq gb121.s (Le.lst (((le26.trans le101).trans le112).trans le123) sq11))
            · rintro i127 y130 acc131 H128 hi129 ⟨F132, ts136, _, gb133, cm134, le135, al137, tl138, ⟨q0, q2⟩⟩
              obtain ⟨x139, hx140, hr141⟩ := Al.get (Al.mo (((le26.trans le101).trans le112).trans le135) al12) hi129
              have hil := (List.getElem?_eq_some_iff.mp hx140).1
              refine a_name ?_
              obtain rfl : y130 = V.int x139 := hr141
              refine ⟨Wk.non (Wk.som (Wk.nil)), ?_⟩
              try dsimp only
              have u1 := w5 _ (List.mem_of_getElem? hx140)
              have hx9 := hx140
              have u2 := bad_lt (rows := rows) (ns := numbers) (by rw [← q1]; assumption) (List.mem_of_getElem? hx140)
              refine a_yes ?_
              refine iteT ?_
              refine a_op ?_
              refine a_var rfl ?_
              refine a_var rfl ?_
              obtain ⟨x143, v142, h144, h145, h146⟩ := Al.ix (Al.mo (((le26.trans le101).trans le112).trans le135) al4) (i := x139) (by walk_at "o") (by walk_at "ol")
              refine a_ixL (Same.seq gb133.s (Le.lst (((le26.trans le101).trans le112).trans le135) sq3)) h145 ?_
              have hr9 := h144
              obtain ⟨a147, v149, v150, v151, v152, v153, rfl, sq148, h154, h155, h156, h157, h158⟩ := h146
              obtain ⟨a159, kvs160, rfl, rd161, dk162, nd163⟩ := h154
              obtain rfl : v150 = V.str x143.2.1 := h155
              obtain ⟨a164, rfl, sq165⟩ := h156
              obtain rfl : v152 = V.int x143.2.2.2.1 := h157
              obtain rfl : v153 = V.int x143.2.2.2.2 := h158
              refine ⟨by rw [Al.length al137]; have := sizeLine_big; omega, ?_⟩
              exact ⟨F132, (ts136 ++ [x143]), True.intro, gb133, cm134, le135, (Al.snoc al137 ⟨_, _, _, _, _, _, rfl, sq148, ⟨_, _, rfl, rd161, dk162, nd163⟩, rfl, ⟨_, rfl, sq165⟩, rfl, rfl⟩), (by first | (simp; done) | (rw [List.length_append]; simp only [List.length_cons, List.length_nil]; omega) | omega), by exact ⟨by rw [q0]; unfold choR; rw [map_take_succ _ hx9, hr9]; rfl, fun r m => (List.mem_append.mp m).elim (q2 r) fun z => by rw [List.mem_singleton.mp z]; exact List.mem_of_getElem? hr9⟩⟩
            · rintro acc167 H166 ⟨F168, ts172, _, gb169, cm170, le171, al173, tl174, ⟨q0, q2⟩⟩
              have hlen := Al.length (Al.mo (((le26.trans le101).trans le112).trans le171) al12)
              refine ⟨(by rw [Al.length al173]; have := sizeLine_big; omega), fun p175 hp176 => ?_⟩
              obtain ⟨F177, g179, e180⟩ := al2 (o := (.lst acc167)) gb169.s (by intro _ _ z; cases z) hp176
              generalize upd H166 p175 (.lst acc167) = H178 at g179 ⊢
              have gb181 := gb169.tr g179
              have le182 := g179.le
              have cm183 := g179.fz cm170
              rw [hlen, List.take_length] at q0
              refine a_name ?_
              try dsimp only
              refine a_seq ?_
              refine a_for ?_
              refine a_izip ?_
              refine a_cons ?_
              refine a_var rfl ?_
              refine a_cons ?_
              refine a_var rfl ?_
              refine a_nil ?_
              refine ⟨_, _, rfl, ⟨_, (Same.seq gb181.s (SqL.of e180))⟩, ⟨_, (Same.seq gb181.s (Le.lst ((((le26.trans le101).trans le112).trans le171).trans le182) sq15))⟩, for_zip (K := K) (a := p175) (b := a13) (xs := acc167) (ys := vs14) (fun i σ' H' => Ex3 fun (F184 : Hp) (o185 : Option V) (o186 : Option V) => Cj5 (σ' = [some (V.ref a1), some (V.ref a5), some (V.ref a9), some (V.ref a13), some (V.ref p175), o185, o186, none]) (Gr0 F H F184 H') (Fz (frzd F) F184) (Le F177 F184) ((((ts172.zip weights).take i).all signB = true))) ?_ ?_ ?_ ?_⟩
              · exact ⟨F177, _, _, rfl, gb181, cm183, Le.refl _, by rfl⟩
              · rintro i σ' H187 _ ⟨F188, o192, o193, rfl, gb189, cm190, le191, q3⟩
                exact ⟨(Same.seq gb189.s (Le.lst le191 (SqL.of e180))), (Same.seq gb189.s (Le.lst (((((le26.trans le101).trans le112).trans le171).trans le182).trans le191) sq15))⟩
              · rintro i194 y198 z199 σ' H195 p200 hi196 hj197 ⟨F202, o206, o207, rfl, gb203, cm204, le205, q3⟩ hp201
                obtain ⟨x208, hx209, hr210⟩ := Al.get (Al.mo le205 (Al.mo le182 al173)) hi196
                obtain ⟨x211, hx212, hr213⟩ := Al.get (Al.mo (((((le26.trans le101).trans le112).trans le171).trans le182).trans le205) al16) hj197
                obtain ⟨a218, v220, v221, v222, v223, v224, rfl, sq219, h225, h226, h227, h228, h229⟩ := hr210
                obtain ⟨a230, kvs231, rfl, rd232, dk233, nd234⟩ := h225
                obtain rfl : v221 = V.str x208.2.1 := h226
                obtain ⟨a235, rfl, sq236⟩ := h227
                obtain rfl : v223 = V.int x208.2.2.2.1 := h228
                obtain rfl : v224 = V.int x208.2.2.2.2 := h229
                obtain ⟨a237, rfl, sq238⟩ := hr213
                refine it2 (K := K) gb203.s hp201 (fun F214 H215 g216 e217 => ?_)
                have gb239 := gb203.tr g216
                have le240 := g216.le
                have cm241 := g216.fz cm204
                try dsimp only
                have hz := zip_at hx209 hx212
                refine a_if ?_
                refine a_or ?_
                refine a_and ?_
                refine a_test ?_
                refine a_op ?_
                refine a_op ?_
                refine a_var rfl ?_
                refine a_c ?_
                refine a_ixT (Same.tup gb239.s (Le.tup le240 sq219)) rfl ?_
                refine a_c ?_
                have ln242 : ("least" : Str).length = 5 := by decide +kernel
                refine a_eqS ?_
                refine a_bl ?_
                refine iteD (fun c243 => ?_) (fun c243 => ?_)
                · refine a_test ?_
                  refine a_op ?_
                  refine a_op ?_
                  refine a_var rfl ?_
                  refine a_c ?_
                  refine a_ixT (Same.tup gb239.s (Le.tup le240 sq238)) (fr0 x211) ?_
                  refine a_c ?_
                  refine a_I0 ?_
                  refine a_bl ?_
                  refine iteD (fun c244 => ?_) (fun c244 => ?_)
                  · refine iteT ?_
                    refine a_ret ?_
                    refine a_c ?_
                    have hval : (false : Bool) = (clashB rows some' numbers weights) := by first | exact clash_len (by omega) | exact clash_ris (ris_off w5 (by assumption)) | exact clash_ris (ris_bad w5 (by rw [← q1]; assumption)) | exact clash_sign (by rw [← q0]; exact all_no hz (by first | exact sgn_f1 (by assumption) (by assumption) | exact sgn_f2 (by assumption) (by assumption))) | exact clash_col (by rw [← q0]; exact any_yes hx9 (by unfold colR; rw [← q5, ← num_pos]; assumption))
                    have rp245 : rB F214 (V.bl false) (false) := rfl
                    replace rp245 := Eq.mp (congrArg (rB F214 (V.bl false)) hval) rp245
                    exact k _ _ _ (Gr.of gb239 cm241) rp245
                  · refine a_and ?_
                    refine a_test ?_
                    refine a_op ?_
                    refine a_op ?_
                    refine a_var rfl ?_
                    refine a_c ?_
                    refine a_ixT (Same.tup gb239.s (Le.tup le240 sq219)) rfl ?_
                    refine a_c ?_
                    have ln246 : ("most" : Str).length = 4 := by decide +kernel
                    refine a_eqS ?_
                    refine a_bl ?_
                    refine iteD (fun c247 => ?_) (fun c247 => ?_)
                    · refine a_test ?_
                      refine a_op ?_
                      refine a_op ?_
                      refine a_var rfl ?_
                      refine a_c ?_
                      refine a_ixT (Same.tup gb239.s (Le.tup le240 sq238)) (fr0 x211) ?_
                      refine a_c ?_
                      refine a_I0 ?_
                      refine a_bl ?_
                      refine iteD (fun c248 => ?_) (fun c248 => ?_)
                      · refine a_ret ?_
                        refine a_c ?_
                        have hval : (false : Bool) = (clashB rows some' numbers weights) := by first | exact clash_len (by omega) | exact clash_ris (ris_off w5 (by assumption)) | exact clash_ris (ris_bad w5 (by rw [← q1]; assumption)) | exact clash_sign (by rw [← q0]; exact all_no hz (by first | exact sgn_f1 (by assumption) (by assumption) | exact sgn_f2 (by assumption) (by assumption))) | exact clash_col (by rw [← q0]; exact any_yes hx9 (by unfold colR; rw [← q5, ← num_pos]; assumption))
                        have rp249 : rB F214 (V.bl false) (false) := rfl
                        replace rp249 := Eq.mp (congrArg (rB F214 (V.bl false)) hval) rp249
                        exact k _ _ _ (Gr.of gb239 cm241) rp249
                      · refine a_next ?_
                        try dsimp only
                        exact ⟨F214, _, _, rfl, gb239, cm241, (le205.trans le240), by exact all_yes hz (by first | exact sgn_t (.inl (by assumption)) (.inl (by assumption)) | exact sgn_t (.inl (by assumption)) (.inr (by assumption)) | exact sgn_t (.inr (by assumption)) (.inl (by assumption)) | exact sgn_t (.inr (by assumption)) (.inr (by assumption)) | exact sgn_l (by assumption) (by assumption)) q3⟩
                    · refine iteF ?_
                      refine a_next ?_
                      try dsimp only
                      exact ⟨F214, _, _, rfl, gb239, cm241, (le205.trans le240), by exact all_yes hz (by first | exact sgn_t (.inl (by assumption)) (.inl (by assumption)) | exact sgn_t (.inl (by assumption)) (.inr (by assumption)) | exact sgn_t (.inr (by assumption)) (.inl (by assumption)) | exact sgn_t (.inr (by assumption)) (.inr (by assumption)) | exact sgn_l (by assumption) (by assumption)) q3⟩
                · refine iteF ?_
                  refine a_and ?_
                  refine a_test ?_
                  refine a_op ?_
                  refine a_op ?_
                  refine a_var rfl ?_
                  refine a_c ?_
                  refine a_ixT (Same.tup gb239.s (Le.tup le240 sq219)) rfl ?_
                  refine a_c ?_
                  have ln250 : ("most" : Str).length = 4 := by decide +kernel
                  refine a_eqS ?_
                  refine a_bl ?_
                  refine iteD (fun c251 => ?_) (fun c251 => ?_)
                  · refine a_test ?_
                    refine a_op ?_
                    refine a_op ?_
                    refine a_var rfl ?_
                    refine a_c ?_
                    refine a_ixT (Same.tup gb239.s (Le.tup le240 sq238)) (fr0 x211) ?_
                    refine a_c ?_
                    refine a_I0 ?_
                    refine a_bl ?_
                    refine iteD (fun c252 => ?_) (fun c252 => ?_)
                    · refine a_ret ?_
                      refine a_c ?_
                      have hval : (false : Bool) = (clashB rows some' numbers weights) := by first | exact clash_len (by omega) | exact clash_ris (ris_off w5 (by assumption)) | exact clash_ris (ris_bad w5 (by rw [← q1]; assumption)) | exact clash_sign (by rw [← q0]; exact all_no hz (by first | exact sgn_f1 (by assumption) (by assumption) | exact sgn_f2 (by assumption) (by assumption))) | exact clash_col (by rw [← q0]; exact any_yes hx9 (by unfold colR; rw [← q5, ← num_pos]; assumption))
                      have rp253 : rB F214 (V.bl false) (false) := rfl
                      replace rp253 := Eq.mp (congrArg (rB F214 (V.bl false)) hval) rp253
                      exact k _ _ _ (Gr.of gb239 cm241) rp253
                    · refine a_next ?_
                      try dsimp only
                      exact ⟨F214, _, _, rfl, gb239, cm241, (le205.trans le240), by exact all_yes hz (by first | exact sgn_t (.inl (by assumption)) (.inl (by assumption)) | exact sgn_t (.inl (by assumption)) (.inr (by assumption)) | exact sgn_t (.inr (by assumption)) (.inl (by assumption)) | exact sgn_t (.inr (by assumption)) (.inr (by assumption)) | exact sgn_l (by assumption) (by assumption)) q3⟩
                  · refine iteF ?_
                    refine a_next ?_
                    try dsimp only
                    exact ⟨F214, _, _, rfl, gb239, cm241, (le205.trans le240), by exact all_yes hz (by first | exact sgn_t (.inl (by assumption)) (.inl (by assumption)) | exact sgn_t (.inl (by assumption)) (.inr (by assumption)) | exact sgn_t (.inr (by assumption)) (.inl (by assumption)) | exact sgn_t (.inr (by assumption)) (.inr (by assumption)) | exact sgn_l (by assumption) (by assumption)) q3⟩
              · rintro σ' H254 ⟨F255, o259, o260, rfl, gb256, cm257, le258, q3⟩
                have hlen := Al.length (Al.mo le258 (Al.mo le182 al173))
                have hlen2 := Al.length (Al.mo (((((le26.trans le101).trans le112).trans le171).trans le182).trans le258) al16)
                try dsimp only
                rw [hlen, hlen2, zip_all] at q3
                refine a_seq ?_
                refine a_for ?_
                refine a_ilist ?_
                refine a_var rfl ?_
                refine ⟨_, rfl, ⟨_, (Same.seq gb256.s (Le.lst (((((le26.trans le101).trans le112).trans le171).trans le182).trans le258) sq7))⟩, for_list (xs := vs6) (K := K) (a := a5) (fun i σ' H' => Ex4 fun (F261 : Hp) (o262 : Option V) (o263 : Option V) (o264 : Option V) => Cj5 (σ' = [some (V.ref a1), some (V.ref a5), some (V.ref a9), some (V.ref a13), some (V.ref p175), o262, o263, o264]) (Gr0 F H F261 H') (Fz (frzd F) F261) (Le F255 F261) ((((some'.take i).map fun u => decide (0 < colR ts172 weights u)).any id = false))) ?_ ?_ ?_ ?_⟩
                · exact ⟨F255, _, _, _, rfl, gb256, cm257, Le.refl _, by rfl⟩
                · rintro i σ' H265 _ ⟨F266, o270, o271, o272, rfl, gb267, cm268, le269, q4⟩
                  exact (Same.seq gb267.s (Le.lst ((((((le26.trans le101).trans le112).trans le171).trans le182).trans le258).trans le269) sq7))
                · rintro i273 y276 σ' H274 hi275 ⟨F277, o281, o282, o283, rfl, gb278, cm279, le280, q4⟩
                  obtain ⟨x284, hx285, hr286⟩ := Al.get (Al.mo ((((((le26.trans le101).trans le112).trans le171).trans le182).trans le258).trans le280) al8) hi275
                  refine a_name ?_
                  try dsimp only
                  obtain rfl : y276 = V.str x284 := hr286
                  have hx9 := hx285
                  refine a_if ?_
                  refine a_test ?_
                  refine a_op ?_
                  refine a_op ?_
                  refine a_call ?_
                  refine a_cons ?_
                  refine a_comp ?_
                  refine a_izip ?_
                  refine a_cons ?_
                  refine a_var rfl ?_
                  refine a_cons ?_
                  refine a_var rfl ?_
                  refine a_nil ?_
                  have hml289 : (min (ts172).length (weights).length) ≤ 1000000 := by omega
                  have hlen := Al.length (Al.mo (le258.trans le280) (Al.mo le182 al173))
                  have hlen2 := Al.length (Al.mo ((((((le26.trans le101).trans le112).trans le171).trans le182).trans le258).trans le280) al16)
                  refine ⟨_, _, rfl, ⟨_, (Same.seq gb278.s (Le.lst (le258.trans le280) (SqL.of e180)))⟩, ⟨_, (Same.seq gb278.s (Le.lst ((((((le26.trans le101).trans le112).trans le171).trans le182).trans le258).trans le280) sq15))⟩, comp_zip (K := K) (a := p175) (b := a13) (xs := acc167) (ys := vs14) (fun i acc H' => Ex2 fun (F287 : Hp) (ts288 : List (Rat × Rat)) => Cj7 (True) (Gr0 F H F287 H') (Fz (frzd F) F287) (Le F277 F287) (Al (r2 K (rFr K) (rFr K)) F287 acc ts288) (ts288.length ≤ i) ((wgtZ ts288 = wgtZ ((weights.zip (ts172.map (fun r => (gtd r.1 x284).getD 0))).take i) ∧ psum ts288 ≤ wsum (weights.take i) + 3 * i))) ?_ ?_ ?_ ?_⟩
                  · exact ⟨F277, [], True.intro, gb278, cm279, Le.refl _, (show Al (r2 K (rFr K) (rFr K)) F277 [] [] from True.intro), (by first | (simp; done) | (rw [List.length_append]; simp only [List.length_cons, List.length_nil]; omega) | omega), by exact ⟨rfl, Nat.le_refl _⟩⟩
                  · rintro i acc H290 _ ⟨F291, ts295, _, gb292, cm293, le294, al296, tl297, ⟨q5, q6⟩⟩
                    exact ⟨(Same.seq gb292.s (Le.lst ((le258.trans le280).trans le294) (SqL.of e180))), (Same.seq gb292.s (Le.lst (((((((le26.trans le101).trans le112).trans le171).trans le182).trans le258).trans le280).trans le294) sq15))⟩
                  · rintro i298 y302 z303 acc304 H299 p305 hi300 hj301 ⟨F307, ts311, _, gb308, cm309, le310, al312, tl313, ⟨q5, q6⟩⟩ hp306
                    obtain ⟨x314, hx315, hr316⟩ := Al.get (Al.mo ((le258.trans le280).trans le310) (Al.mo le182 al173)) hi300
                    obtain ⟨x317, hx318, hr319⟩ := Al.get (Al.mo (((((((le26.trans le101).trans le112).trans le171).trans le182).trans le258).trans le280).trans le310) al16) hj301
                    have hil := (List.getElem?_eq_some_iff.mp hx315).1
                    have hil2 := (List.getElem?_eq_some_iff.mp hx318).1
                    obtain ⟨a324, v326, v327, v328, v329, v330, rfl, sq325, h331, h332, h333, h334, h335⟩ := hr316
                    obtain ⟨a336, kvs337, rfl, rd338, dk339, nd340⟩ := h331
                    obtain rfl : v327 = V.str x314.2.1 := h332
                    obtain ⟨a341, rfl, sq342⟩ := h333
                    obtain rfl : v329 = V.int x314.2.2.2.1 := h334
                    obtain rfl : v330 = V.int x314.2.2.2.2 := h335
                    obtain ⟨a343, rfl, sq344⟩ := hr319
                    refine it2 (K := K) gb308.s hp306 (fun F320 H321 g322 e323 => ?_)
                    have gb345 := gb308.tr g322
                    have le346 := g322.le
                    have cm347 := g322.fz cm309
                    refine ⟨Wk.non (Wk.non (Wk.som (Wk.nil))), ?_⟩
                    try dsimp only
                    have v1 := wsum_snoc hx318
                    have v2 := w7 _ (q2 _ (List.mem_of_getElem? hx315))
                    refine a_tB ?_
                    refine a_din ?_
                    refine a_var rfl ?_
                    refine a_op ?_
                    refine a_var rfl ?_
                    refine a_c ?_
                    refine a_ixT (Same.tup gb345.s (Le.tup le346 sq325)) rfl ?_
                    obtain ⟨o348, hg349, ho350⟩ := dinX x284 (Same.rd gb345.s (Le.dic le346 rd338)) (Dk.mo le346 dk339)
                    refine ⟨_, o348, rfl, hg349, ?_⟩
                    rw [ho350]
                    refine a_bl ?_
                    refine iteB (fun c351 => ?_) (fun c351 => ?_)
                    · refine a_tup ?_
                      refine a_cons ?_
                      refine a_var rfl ?_
                      refine a_cons ?_
                      refine a_dget ?_
                      refine a_op ?_
                      refine a_var rfl ?_
                      refine a_c ?_
                      refine a_ixT (Same.tup gb345.s (Le.tup le346 sq325)) rfl ?_
                      refine a_var rfl ?_
                      obtain ⟨y355, y355g⟩ : ∃ y, gtd x314.1 x284 = some y := by exact Option.isSome_iff_exists.mp (by assumption)
                      obtain ⟨v352, h353, h354⟩ := Dk.some (Dk.mo le346 dk339) y355g
                      refine a_dgetK (Same.rd gb345.s (Le.dic le346 rd338)) h353 ?_
                      obtain ⟨a356, rfl, sq357⟩ := h354
                      refine a_nil ?_
                      refine ⟨by show 2 ≤ sizeLine; decide, fun p358 hp359 => ?_⟩
                      obtain ⟨F360, g362, e363⟩ := al2 (o := (.tup [V.ref a343, V.ref a356])) gb345.s (by intro _ _ z; cases z) hp359
                      generalize upd H321 p358 (.tup [V.ref a343, V.ref a356]) = H361 at g362 ⊢
                      have gb364 := gb345.tr g362
                      have le365 := g362.le
                      have cm366 := g362.fz cm347
                      refine ⟨by rw [Al.length (Al.mo (le346.trans le365) al312)]; have := sizeLine_big; omega, ?_⟩
                      exact ⟨F360, (ts311 ++ [(x317, y355)]), True.intro, gb364, cm366, ((le310.trans le346).trans le365), (Al.snoc (Al.mo (le346.trans le365) al312) ⟨_, _, _, rfl, (SqT.of e363), ⟨_, rfl, (Le.tup (le346.trans le365) sq344)⟩, ⟨_, rfl, (Le.tup le365 sq357)⟩⟩), (by first | (simp; done) | (rw [List.length_append]; simp only [List.length_cons, List.length_nil]; omega) | omega), by exact ⟨col_yes hx315 hx318 (by assumption) q5, by rw [psum_one]; have := v2.pt _ _ (by assumption); omega⟩⟩
                    · exact ⟨F320, ts311, True.intro, gb345, cm347, (le310.trans le346), (Al.mo le346 al312), (by first | (simp; done) | (rw [List.length_append]; simp only [List.length_cons, List.length_nil]; omega) | omega), by exact ⟨col_no hx315 hx318 (by first | assumption | simp_all) q5, by omega⟩⟩
                  · rintro acc368 H367 ⟨F369, ts373, _, gb370, cm371, le372, al374, tl375, ⟨q5, q6⟩⟩
                    have hlen := Al.length (Al.mo ((le258.trans le280).trans le372) (Al.mo le182 al173))
                    have hlen2 := Al.length (Al.mo (((((((le26.trans le101).trans le112).trans le171).trans le182).trans le258).trans le280).trans le372) al16)
                    refine ⟨(by rw [Al.length al374]; have := sizeLine_big; omega), fun p376 hp377 => ?_⟩
                    obtain ⟨F378, g380, e381⟩ := al2 (o := (.lst acc368)) gb370.s (by intro _ _ z; cases z) hp377
                    generalize upd H367 p376 (.lst acc368) = H379 at g380 ⊢
                    have gb382 := gb370.tr g380
                    have le383 := g380.le
                    have cm384 := g380.fz cm371
                    rw [hlen, hlen2, col_all] at q5
                    rw [hlen, hlen2] at q6
                    have hws := wsum_take weights (min ts172.length weights.length)
                    refine a_nil ?_
                    refine ⟨F378, _, ts373, rfl, gb382.s, ⟨_, _, rfl, (SqL.of e381), (Al.mo le383 al374)⟩, (by exact ⟨by omega, by omega⟩), ?_⟩
                    rintro v385 F386 H387  g389 hr390 hp391
                    have gb392 := gb382.tr g389
                    have le393 := g389.le
                    have cm394 := g389.fz cm384
                    obtain ⟨a395, rfl, sq396⟩ := hr390
                    refine a_c ?_
                    refine a_ixT (Same.tup gb392.s sq396) (fr0 (wgtZ ts373)) ?_
                    refine a_c ?_
                    refine a_I0 ?_
                    refine a_bl ?_
                    refine iteD (fun c397 => ?_) (fun c397 => ?_)
                    · refine a_ret ?_
                      refine a_c ?_
                      have hval : (false : Bool) = (clashB rows some' numbers weights) := by first | exact clash_len (by omega) | exact clash_ris (ris_off w5 (by assumption)) | exact clash_ris (ris_bad w5 (by rw [← q1]; assumption)) | exact clash_sign (by rw [← q0]; exact all_no hz (by first | exact sgn_f1 (by assumption) (by assumption) | exact sgn_f2 (by assumption) (by assumption))) | exact clash_col (by rw [← q0]; exact any_yes hx9 (by unfold colR; rw [← q5, ← num_pos]; assumption))
                      have rp398 : rB F386 (V.bl false) (false) := rfl
                      replace rp398 := Eq.mp (congrArg (rB F386 (V.bl false)) hval) rp398
                      exact k _ _ _ (Gr.of gb392 cm394) rp398
                    · refine a_next ?_
                      try dsimp only
                      exact ⟨F386, _, _, _, rfl, gb392, cm394, (((le280.trans le372).trans le383).trans le393), by exact anyn_step q4 hx9 (by rw [q5] at *; first | assumption | (rw [num_pos] at *; assumption))⟩
                · rintro σ' H399 ⟨F400, o404, o405, o406, rfl, gb401, cm402, le403, q4⟩
                  have hlen := Al.length (Al.mo ((((((le26.trans le101).trans le112).trans le171).trans le182).trans le258).trans le403) al8)
                  try dsimp only
                  rw [hlen, List.take_length] at q4
                  refine a_ret ?_
                  refine a_op ?_
                  refine a_call ?_
                  refine a_cons ?_
                  refine a_comp ?_
                  refine a_izip ?_
                  refine a_cons ?_
                  refine a_var rfl ?_
                  refine a_cons ?_
                  refine a_var rfl ?_
                  refine a_nil ?_
                  have hml409 : (min (ts172).length (weights).length) ≤ 1000000 := by omega
                  have hlen := Al.length (Al.mo (le258.trans le403) (Al.mo le182 al173))
                  have hlen2 := Al.length (Al.mo ((((((le26.trans le101).trans le112).trans le171).trans le182).trans le258).trans le403) al16)
                  refine ⟨_, _, rfl, ⟨_, (Same.seq gb401.s (Le.lst (le258.trans le403) (SqL.of e180)))⟩, ⟨_, (Same.seq gb401.s (Le.lst ((((((le26.trans le101).trans le112).trans le171).trans le182).trans le258).trans le403) sq15))⟩, comp_zip (K := K) (a := p175) (b := a13) (xs := acc167) (ys := vs14) (fun i acc H' => Ex2 fun (F407 : Hp) (ts408 : List (Rat × Rat)) => Cj7 (True) (Gr0 F H F407 H') (Fz (frzd F) F407) (Le F400 F407) (Al (r2 K (rFr K) (rFr K)) F407 acc ts408) (ts408.length ≤ i) ((wgtZ ts408 = wgtZ ((weights.zip (ts172.map (·.2.2.1))).take i) ∧ psum ts408 ≤ wsum (weights.take i) + 5 * i))) ?_ ?_ ?_ ?_⟩
                  · exact ⟨F400, [], True.intro, gb401, cm402, Le.refl _, (show Al (r2 K (rFr K) (rFr K)) F400 [] [] from True.intro), (by first | (simp; done) | (rw [List.length_append]; simp only [List.length_cons, List.length_nil]; omega) | omega), by exact ⟨rfl, Nat.le_refl _⟩⟩
                  · rintro i acc H410 _ ⟨F411, ts415, _, gb412, cm413, le414, al416, tl417, ⟨q7, q8⟩⟩
                    exact ⟨(Same.seq gb412.s (Le.lst ((le258.trans le403).trans le414) (SqL.of e180))), (Same.seq gb412.s (Le.lst (((((((le26.trans le101).trans le112).trans le171).trans le182).trans le258).trans le403).trans le414) sq15))⟩
                  · rintro i418 y422 z423 acc424 H419 p425 hi420 hj421 ⟨F427, ts431, _, gb428, cm429, le430, al432, tl433, ⟨q7, q8⟩⟩ hp426
                    obtain ⟨x434, hx435, hr436⟩ := Al.get (Al.mo ((le258.trans le403).trans le430) (Al.mo le182 al173)) hi420
                    obtain ⟨x437, hx438, hr439⟩ := Al.get (Al.mo (((((((le26.trans le101).trans le112).trans le171).trans le182).trans le258).trans le403).trans le430) al16) hj421
                    have hil := (List.getElem?_eq_some_iff.mp hx435).1
                    have hil2 := (List.getElem?_eq_some_iff.mp hx438).1
                    obtain ⟨a444, v446, v447, v448, v449, v450, rfl, sq445, h451, h452, h453, h454, h455⟩ := hr436
                    obtain ⟨a456, kvs457, rfl, rd458, dk459, nd460⟩ := h451
                    obtain rfl : v447 = V.str x434.2.1 := h452
                    obtain ⟨a461, rfl, sq462⟩ := h453
                    obtain rfl : v449 = V.int x434.2.2.2.1 := h454
                    obtain rfl : v450 = V.int x434.2.2.2.2 := h455
                    obtain ⟨a463, rfl, sq464⟩ := hr439
                    refine it2 (K := K) gb428.s hp426 (fun F440 H441 g442 e443 => ?_)
                    have gb465 := gb428.tr g442
                    have le466 := g442.le
                    have cm467 := g442.fz cm429
                    refine ⟨Wk.non (Wk.non (Wk.nil)), ?_⟩
                    try dsimp only
                    have v1 := wsum_snoc hx438
                    have v2 := w7 _ (q2 _ (List.mem_of_getElem? hx435))
                    refine a_yes ?_
                    refine iteT ?_
                    refine a_tup ?_
                    refine a_cons ?_
                    refine a_var rfl ?_
                    refine a_cons ?_
                    refine a_op ?_
                    refine a_var rfl ?_
                    refine a_c ?_
                    refine a_ixT (Same.tup gb465.s (Le.tup le466 sq445)) rfl ?_
                    refine a_nil ?_
                    refine ⟨by show 2 ≤ sizeLine; decide, fun p468 hp469 => ?_⟩
                    obtain ⟨F470, g472, e473⟩ := al2 (o := (.tup [V.ref a463, V.ref a461])) gb465.s (by intro _ _ z; cases z) hp469
                    generalize upd H441 p468 (.tup [V.ref a463, V.ref a461]) = H471 at g472 ⊢
                    have gb474 := gb465.tr g472
                    have le475 := g472.le
                    have cm476 := g472.fz cm467
                    refine ⟨by rw [Al.length (Al.mo (le466.trans le475) al432)]; have := sizeLine_big; omega, ?_⟩
                    exact ⟨F470, (ts431 ++ [(x437, x434.2.2.1)]), True.intro, gb474, cm476, ((le430.trans le466).trans le475), (Al.snoc (Al.mo (le466.trans le475) al432) ⟨_, _, _, rfl, (SqT.of e473), ⟨_, rfl, (Le.tup (le466.trans le475) sq464)⟩, ⟨_, rfl, (Le.tup (le466.trans le475) sq462)⟩⟩), (by first | (simp; done) | (rw [List.length_append]; simp only [List.length_cons, List.length_nil]; omega) | omega), by exact ⟨by rw [wgt_one, num_take hx435 hx438, q7], by rw [psum_one]; have := v2.nm; omega⟩⟩
                  · rintro acc478 H477 ⟨F479, ts483, _, gb480, cm481, le482, al484, tl485, ⟨q7, q8⟩⟩
                    have hlen := Al.length (Al.mo ((le258.trans le403).trans le482) (Al.mo le182 al173))
                    have hlen2 := Al.length (Al.mo (((((((le26.trans le101).trans le112).trans le171).trans le182).trans le258).trans le403).trans le482) al16)
                    refine ⟨(by rw [Al.length al484]; have := sizeLine_big; omega), fun p486 hp487 => ?_⟩
                    obtain ⟨F488, g490, e491⟩ := al2 (o := (.lst acc478)) gb480.s (by intro _ _ z; cases z) hp487
                    generalize upd H477 p486 (.lst acc478) = H489 at g490 ⊢
                    have gb492 := gb480.tr g490
                    have le493 := g490.le
                    have cm494 := g490.fz cm481
                    rw [hlen, hlen2, num_all] at q7
                    rw [hlen, hlen2] at q8
                    have hws := wsum_take weights (min ts172.length weights.length)
                    refine a_nil ?_
                    refine ⟨F488, _, ts483, rfl, gb492.s, ⟨_, _, rfl, (SqL.of e491), (Al.mo le493 al484)⟩, (by exact ⟨by omega, by omega⟩), ?_⟩
                    rintro v495 F496 H497  g499 hr500 hp501
                    have gb502 := gb492.tr g499
                    have le503 := g499.le
                    have cm504 := g499.fz cm494
                    obtain ⟨a505, rfl, sq506⟩ := hr500
                    refine a_tup ?_
                    refine a_cons ?_
                    refine a_c ?_
                    refine a_cons ?_
                    refine a_c ?_
                    refine a_nil ?_
                    refine ⟨by show 2 ≤ sizeLine; decide, fun p507 hp508 => ?_⟩
                    obtain ⟨F509, g511, e512⟩ := al2 (o := (.tup [V.int 1, V.int 1])) gb502.s (by intro _ _ z; cases z) hp508
                    generalize upd H497 p507 (.tup [V.int 1, V.int 1]) = H510 at g511 ⊢
                    have gb513 := gb502.tr g511
                    have le514 := g511.le
                    have cm515 := g511.fz cm504
                    have sq516 : SqT K F509 p507 (fr ((1 : Int) : Rat)) := by rw [fr_int]; exact SqT.of e512
                    refine ⟨F509, (wgtZ ts483), ((1 : Int) : Rat), gb513.s, ⟨_, rfl, (Le.tup le514 sq506)⟩, ⟨_, rfl, sq516⟩, ?_⟩
                    have hval : ((decide ((wgtZ ts483) = ((1 : Int) : Rat))) : Bool) = (clashB rows some' numbers weights) := by rw [q7, cast1, q0]; exact clash_end (by omega) (ris_good w5 (by assumption) (by rw [← q1]; assumption)) (by rw [← q0]; exact q3) (by rw [← q0]; exact q4)
                    have rp517 : rB F509 (V.bl (decide ((wgtZ ts483) = ((1 : Int) : Rat)))) ((decide ((wgtZ ts483) = ((1 : Int) : Rat)))) := rfl
                    replace rp517 := Eq.mp (congrArg (rB F509 (V.bl (decide ((wgtZ ts483) = ((1 : Int) : Rat))))) hval) rp517
                    exact k _ _ _ (Gr.of gb513 cm515) rp517
def sp_law_evened (K : PySem.W.Frag) : Sp := fun vs H Q _ => Ex17 fun (F : Hp) (v_rows : V) (v_some' : V) (v_numbers : V) (v_weights : V) (v_mixed : V) (rows : (List ((List (Str × Rat)) × Str × Rat × Int × Int))) (some' : (List Str)) (numbers : (List Int)) (weights : (List Rat)) (mixed : Int) (a_rows : Addr) (kv_rows : List V) (a_numbers : Addr) (kv_numbers : List V) (a_weights : Addr) (kv_weights : List V) => Cj21 (vs = [v_rows, v_some', v_numbers, v_weights, v_mixed]) (Same F H) ((rL K rS) F v_some' some') (rI F v_mixed mixed) (v_rows = .ref a_rows) (H a_rows = some (.lst kv_rows)) (F a_rows = none) (Al (r5 K (rD (rFr K)) rS (rFr K) rI rI) F kv_rows rows) (v_numbers = .ref a_numbers) (H a_numbers = some (.lst kv_numbers)) (F a_numbers = none) (Al rI F kv_numbers numbers) (v_weights = .ref a_weights) (H a_weights = some (.lst kv_weights)) (F a_weights = none) (Al (rFr K) F kv_weights weights) (a_rows ≠ a_numbers) (a_rows ≠ a_weights) (a_numbers ≠ a_weights) ((rows.length ≤ 8 ∧ weights.length ≤ 8 ∧ numbers.length = weights.length ∧ some'.length ≤ 3 ∧ (∀ r ∈ rows, Row33 r) ∧ (∀ k ∈ numbers, 0 ≤ k ∧ k < rows.length) ∧ ∀ q ∈ weights, bs q ≤ 70)) (∀ (F' H' : Hp) (kw_rows : List V) (rows_1 : (List ((List (Str × Rat)) × Str × Rat × Int × Int))) (kw_numbers : List V) (numbers_1 : (List Int)) (kw_weights : List V) (weights_1 : (List Rat)), Gr F (hdn [a_rows, a_numbers, a_weights] H) F' H' → H' a_rows = some (.lst kw_rows) → F' a_rows = none → Al (r5 K (rD (rFr K)) rS (rFr K) rI rI) F' kw_rows rows_1 → H' a_numbers = some (.lst kw_numbers) → F' a_numbers = none → Al rI F' kw_numbers numbers_1 → H' a_weights = some (.lst kw_weights) → F' a_weights = none → Al (rFr K) F' kw_weights weights_1 → ((rows_1.length ≤ 11 ∧ numbers_1.length ≤ 11 ∧ weights_1.length ≤ 11) ∧ (∀ r ∈ rows_1, Row33 r) ∧ (∀ k ∈ numbers_1, 0 ≤ k) ∧ (∀ q ∈ weights_1, bs q ≤ 600) ∧ wsum weights_1 ≤ 2360) → Q .non H')
set_option linter.unusedVariables false in
theorem ok_law_evened (T : Tx K mg) : FnOk P w K mg base CX0 4 T.a_law_evened T.d_law_evened ["_law_rows", "_law_some", "_law_numbers", "_law_weights", "_law_mixed"] (sp_law_evened K) := by
  refine T.F_law_evened.ok sc_law_evened (fun vs H Q E h => ?_) (fun cdv A outer s H vs Q E hr h => ?_)
  · obtain ⟨F, v_rows, v_some', v_numbers, v_weights, v_mixed, rows, some', numbers, weights, mixed, a_rows, kv_rows, a_numbers, kv_numbers, a_weights, kv_weights, rfl, _⟩ := h
    rfl
  · obtain ⟨F, v_rows, v_some', v_numbers, v_weights, v_mixed, rows, some', numbers, weights, mixed, a_rows, kv_rows, a_numbers, kv_numbers, a_weights, kv_weights, rfl, wd, r_some', r_mixed, rfl, oH_rows, oF_rows, al_rows, rfl, oH_numbers, oF_numbers, al_numbers, rfl, oH_weights, oF_weights, al_weights, ne_0_1, ne_0_2, ne_1_2, hpre, k⟩ := h
    have hu := hu_of hr
    have gb : Gr0 F (hdn [a_rows, a_numbers, a_weights] H) F H := hdn_gb wd
    have hb_rows : (hdn [a_rows, a_numbers, a_weights] H) a_rows = none := hdn_in in0
    have hb_numbers : (hdn [a_rows, a_numbers, a_weights] H) a_numbers = none := hdn_in in1
    have hb_weights : (hdn [a_rows, a_numbers, a_weights] H) a_weights = none := hdn_in in2
    have cm := Fz.refl F
    obtain ⟨a1, vs2, rfl, sq3, al4⟩ := r_some'
    obtain rfl : v_mixed = V.int mixed := r_mixed
    obtain ⟨w1, w2, w3, w4, w5, w6, w7⟩ := hpre
    refine ⟨_, (ZSs.h (zss_cons (ps_setC (i := 5) (N := ["_law_k", "_law_rows"]) (ix := [none, some 0]) sc_law_evened.nd rfl (Or.inl rfl) rfl (pi_list (pv 2)) (fun _ _ _ _ _ => (pg_name (i := 0) (show List.Nodup (["_law_k", "_law_rows"] : List Str) from by decide) rfl (Or.inl rfl))) (fun _ _ _ _ _ => pts_nil) (fun _ _ _ _ _ => (pe_ix (show IxR _ (rIxL K) from ix_list) (pv 1) (pv 0) (fun _ _ => rfl))) ⟨rfl, rfl, rfl, True.intro⟩)
          (zss_one (ps_for PassesOwn.never rfl (pi_enum rfl T.z_enumerate (pa_cons (pv 1) pa_nil)) (pg_tup rfl (pgs_cons (pg_name (i := 6) sc_law_evened.nd rfl (Or.inl rfl)) (pgs_cons (pg_name (i := 7) sc_law_evened.nd rfl (Or.inr rfl)) pgs_nil))) (ZSs.h (zss_cons (ps_setC (i := 8) (N := ["_law_one", "_law_weight_here", "_law_name"]) (ix := [none, none, some 7]) sc_law_evened.nd rfl (Or.inl rfl) rfl (pi_zip rfl T.z_zip (pa_cons (pv 5) (pa_cons (pv 3) pa_nil))) (fun _ _ _ _ _ => (show PG _ _ (gTup K 2 _) from pg_tup rfl (pgs_cons (pg_name (i := 0) (show List.Nodup (["_law_one", "_law_weight_here", "_law_name"] : List Str) from by decide) rfl (Or.inl rfl)) (pgs_cons (pg_name (i := 1) (show List.Nodup (["_law_one", "_law_weight_here", "_law_name"] : List Str) from by decide) rfl (Or.inl rfl)) pgs_nil)))) (fun _ _ _ _ _ => (pts_one (pt_cmp (pc_din hu (pv 2) (pe_ix (show IxR _ (rIxT K) from ix_tup) (pv 0) pe_int (fun _ _ => rfl)))))) (fun _ _ _ _ _ => (pe_tup (pa_cons (pv 1) (pa_cons (pe_dget hu (pe_ix (show IxR _ (rIxT K) from ix_tup) (pv 0) pe_int (fun _ _ => rfl)) (pv 2) (fun _ _ => rfl)) pa_nil)))) ⟨rfl, rfl, rfl, True.intro⟩)
          (zss_cons (ps_asg (pe_call ((ok_law_add T).mono (by decide)) hr rfl T.m_law_add T.F_law_add.kp T.b_law_add .nil pass0 (pa_cons (pv 8) pa_nil)) (pg_tup rfl (pgs_cons (pg_name (i := 9) sc_law_evened.nd rfl (Or.inl rfl)) (pgs_cons (pg_name (i := 10) sc_law_evened.nd rfl (Or.inl rfl)) pgs_nil))))
          (zss_cons (ps_set (i := 9) sc_law_evened.nd rfl (Or.inl rfl) (pe_op op_sub (pv 9) (pe_ix ix_list (pe_lst (pa_cons pe_int (pa_cons pe_int (pa_cons pe_int (pa_cons pe_int pa_nil))))) (pe_op op_mod (pe_op op_fdivB (pv 4) (pe_op op_add pe_int (pe_op op_mulB (pv 6) pe_int))) pe_int) (fun _ _ => rfl))))
          (zss_one (ps_if (pt_cmpR op_gt (pv 9) pe_int (nomark _)) (ZSs.h (zss_cons (ps_expr (pe_bm PySem.F.plainAttrs_list PySem.F.slot_list_append PySem.F.type_list_append mt_append (pv 2) (pa_cons (pe_callB call_len_seq rfl T.z_len rfl (pa_cons (pv 0) pa_nil)) pa_nil)))
          (zss_cons (ps_expr (pe_bm PySem.F.plainAttrs_list PySem.F.slot_list_append PySem.F.type_list_append mt_append (pv 0) (pa_cons (pe_tup (pa_cons (pe_disp (pps_cons (pv 7) (pe_tup (pa_cons pe_int (pa_cons pe_int pa_nil))) pps_nil) rfl rfl (by decide) (by decide)) (pa_cons (pe_ix ix_list (pe_lst (pa_cons pe_str (pa_cons pe_str pa_nil))) (pe_op op_mod (pe_op op_fdivB (pv 4) (pe_op op_add pe_int (pv 6))) pe_int) (fun _ _ => rfl)) (pa_cons (pe_tup (pa_cons pe_int (pa_cons pe_int pa_nil))) (pa_cons pe_int (pa_cons pe_int pa_nil)))))) pa_nil)))
          (zss_one (ps_expr (pe_bm PySem.F.plainAttrs_list PySem.F.slot_list_append PySem.F.type_list_append mt_append (pv 3) (pa_cons (pe_call ((ok_law_lowest T).mono (by decide)) hr rfl T.m_law_lowest T.F_law_lowest.kp T.b_law_lowest .nil pass0 (pa_cons (pe_op op_sub pe_int (pv 9)) (pa_cons (pv 10) pa_nil))) pa_nil))))))) pss_nil)))))))))), ?_⟩
    refine a_seq ?_
    refine a_asg ?_
    refine a_comp ?_
    refine a_ilist ?_
    refine a_var rfl ?_
    have hml13 : (numbers).length ≤ 1000000 := by omega
    refine ⟨_, rfl, ⟨_, (SqL.of oH_numbers)⟩, comp_list (K := K) (a := a_numbers) (xs := kv_numbers) (fun i acc H' => Ex8 fun (F5 : Hp) (kv6 : List V) (rows7 : List ((List (Str × Rat)) × Str × Rat × Int × Int)) (kv8 : List V) (numbers9 : List Int) (kv10 : List V) (weights11 : List Rat) (ts12 : List ((List (Str × Rat)) × Str × Rat × Int × Int)) => Cj22 (True) (Gr0 F (hdn [a_rows, a_numbers, a_weights] H) F5 H') (Fz (frzd F) F5) (Le F F5) (H' a_rows = some (.lst kv6)) (F5 a_rows = none) (Al (r5 K (rD (rFr K)) rS (rFr K) rI rI) F5 kv6 rows7) (rows = rows7) (kv_rows = kv6) (H' a_numbers = some (.lst kv8)) (F5 a_numbers = none) (Al rI F5 kv8 numbers9) (numbers = numbers9) (kv_numbers = kv8) (H' a_weights = some (.lst kv10)) (F5 a_weights = none) (Al (rFr K) F5 kv10 weights11) (weights = weights11) (kv_weights = kv10) (Al (r5 K (rD (rFr K)) rS (rFr K) rI rI) F5 acc ts12) (ts12.length ≤ i) ((ts12.length = i ∧ ∀ r ∈ ts12, Row33 r))) ?_ ?_ ?_ ?_⟩
    · exact ⟨F, _, rows, _, numbers, _, weights, [], True.intro, gb, cm, Le.refl _, oH_rows, oF_rows, al_rows, rfl, rfl, oH_numbers, oF_numbers, al_numbers, rfl, rfl, oH_weights, oF_weights, al_weights, rfl, rfl, (show Al (r5 K (rD (rFr K)) rS (rFr K) rI rI) F [] [] from True.intro), (by first | (simp; done) | (rw [List.length_append]; simp only [List.length_cons, List.length_nil]; omega) | omega), by exact ⟨rfl, fun q h => (by cases h)⟩⟩
    · rintro i acc H14 _ ⟨F15, kv19, m20, kv21, m22, kv23, m24, ts25, _, gb16, cm17, le18, oH28, oF29, dk30, rfl, rfl, oH31, oF32, dk33, rfl, rfl, oH34, oF35, dk36, rfl, rfl, al26, tl27, ⟨q0, q2⟩⟩
      exact (SqL.of oH31)
    · rintro i37 y40 acc41 H38 hi39 ⟨F42, kv46, m47, kv48, m49, kv50, m51, ts52, _, gb43, cm44, le45, oH55, oF56, dk57, rfl, rfl, oH58, oF59, dk60, rfl, rfl, oH61, oF62, dk63, rfl, rfl, al53, tl54, ⟨q0, q2⟩⟩
      obtain ⟨x64, hx65, hr66⟩ := Al.get dk60 hi39
      have hil := (List.getElem?_eq_some_iff.mp hx65).1
      refine a_name ?_
      obtain rfl : y40 = V.int x64 := hr66
      refine ⟨Wk.non (Wk.som (Wk.nil)), ?_⟩
      try dsimp only
      have u1 := w6 _ (List.mem_of_getElem? hx65)
      refine a_yes ?_
      refine iteT ?_
      refine a_op ?_
      refine a_var rfl ?_
      refine a_var rfl ?_
      obtain ⟨x68, v67, h69, h70, h71⟩ := Al.ix dk57 (i := x64) (by walk_at "o") (by walk_at "ol")
      refine a_ixL (SqL.of oH55) h70 ?_
      have hr9 := h69
      obtain ⟨a72, v74, v75, v76, v77, v78, rfl, sq73, h79, h80, h81, h82, h83⟩ := h71
      obtain ⟨a84, kvs85, rfl, rd86, dk87, nd88⟩ := h79
      obtain rfl : v75 = V.str x68.2.1 := h80
      obtain ⟨a89, rfl, sq90⟩ := h81
      obtain rfl : v77 = V.int x68.2.2.2.1 := h82
      obtain rfl : v78 = V.int x68.2.2.2.2 := h83
      refine ⟨by rw [Al.length al53]; have := sizeLine_big; omega, ?_⟩
      exact ⟨F42, _, rows, _, numbers, _, weights, (ts52 ++ [x68]), True.intro, gb43, cm44, le45, oH55, oF56, dk57, rfl, rfl, oH58, oF59, dk60, rfl, rfl, oH61, oF62, dk63, rfl, rfl, (Al.snoc al53 ⟨_, _, _, _, _, _, rfl, sq73, ⟨_, _, rfl, rd86, dk87, nd88⟩, rfl, ⟨_, rfl, sq90⟩, rfl, rfl⟩), (by first | (simp; done) | (rw [List.length_append]; simp only [List.length_cons, List.length_nil]; omega) | omega), by exact ⟨by rw [List.length_append, q0]; rfl, fun r m => (List.mem_append.mp m).elim (q2 r) fun z => by rw [List.mem_singleton.mp z]; exact w5 _ (List.mem_of_getElem? hr9)⟩⟩
    · rintro acc92 H91 ⟨F93, kv97, m98, kv99, m100, kv101, m102, ts103, _, gb94, cm95, le96, oH106, oF107, dk108, rfl, rfl, oH109, oF110, dk111, rfl, rfl, oH112, oF113, dk114, rfl, rfl, al104, tl105, ⟨q0, q2⟩⟩
      have hlen := Al.length dk111
      refine ⟨(by rw [Al.length al104]; have := sizeLine_big; omega), fun p115 hp116 => ?_⟩
      obtain ⟨F117, g119, e120⟩ := al2 (o := (.lst acc92)) gb94.s (by intro _ _ z; cases z) hp116
      generalize upd H91 p115 (.lst acc92) = H118 at g119 ⊢
      have gb121 := gb94.tr g119
      have le122 := g119.le
      have oH123 := g119.h _ _ oH106
      have oF124 := g119.own oF107 oH106
      have oH125 := g119.h _ _ oH109
      have oF126 := g119.own oF110 oH109
      have oH127 := g119.h _ _ oH112
      have oF128 := g119.own oF113 oH112
      have cm129 := g119.fz cm95
      rw [hlen] at q0
      refine a_name ?_
      try dsimp only
      refine a_for ?_
      refine a_ienum ?_
      refine a_cons ?_
      refine a_var rfl ?_
      refine a_nil ?_
      refine ⟨_, rfl, ⟨_, (Same.seq gb121.s (Le.lst (le96.trans le122) sq3))⟩, for_enum (xs := vs2) (K := K) (a := a1) (fun i σ' H' => Ex12 fun (F130 : Hp) (kv131 : List V) (rows132 : List ((List (Str × Rat)) × Str × Rat × Int × Int)) (kv133 : List V) (numbers134 : List Int) (kv135 : List V) (weights136 : List Rat) (o137 : Option V) (o138 : Option V) (o139 : Option V) (o140 : Option V) (o141 : Option V) => Cj14 (σ' = [some (V.ref a_rows), some (V.ref a1), some (V.ref a_numbers), some (V.ref a_weights), some (V.int mixed), some (V.ref p115), o140, o141, o137, o138, o139]) (Gr0 F (hdn [a_rows, a_numbers, a_weights] H) F130 H') (Fz (frzd F) F130) (Le F117 F130) (H' a_rows = some (.lst kv131)) (F130 a_rows = none) (Al (r5 K (rD (rFr K)) rS (rFr K) rI rI) F130 kv131 rows132) (H' a_numbers = some (.lst kv133)) (F130 a_numbers = none) (Al rI F130 kv133 numbers134) (H' a_weights = some (.lst kv135)) (F130 a_weights = none) (Al (rFr K) F130 kv135 weights136) ((((rows132.length ≤ 8 + i ∧ numbers134.length ≤ 8 + i ∧ weights136.length ≤ 8 + i) ∧ numbers.length ≤ weights136.length) ∧ (∀ r ∈ rows132, Row33 r) ∧ (∀ k ∈ numbers134, 0 ≤ k) ∧ (∀ q ∈ weights136, bs q ≤ 600) ∧ (∀ (j : Nat) (q : Rat), j < numbers.length → weights136[j]? = some q → bs q ≤ 70) ∧ wsum weights136 ≤ 560 + 600 * i))) ?_ ?_ ?_ ?_⟩
      · exact ⟨F117, _, rows, _, numbers, _, weights, _, _, _, _, _, rfl, gb121, cm129, Le.refl _, oH123, oF124, (Al.mo le122 dk108), oH125, oF126, (Al.mo le122 dk111), oH127, oF128, (Al.mo le122 dk114), by exact ⟨⟨⟨by omega, by omega, by omega⟩, by omega⟩, w5, fun k h => (w6 k h).1, fun q h => Nat.le_trans (w7 q h) (by decide), fun j q _ h => w7 q (List.mem_of_getElem? h), Nat.le_trans (wsum_le w7) (by omega)⟩⟩
      · rintro i σ' H142 _ ⟨F143, kv147, m148, kv149, m150, kv151, m152, o153, o154, o155, o156, o157, rfl, gb144, cm145, le146, oH158, oF159, dk160, oH161, oF162, dk163, oH164, oF165, dk166, ⟨⟨⟨e1, e2, e3⟩, e8⟩, e4, e5, e6, e7, e9⟩⟩
        exact (Same.seq gb144.s (Le.lst ((le96.trans le122).trans le146) sq3))
      · rintro i167 y170 σ' H168 p195 hi169 ⟨F171, kv175, m176, kv177, m178, kv179, m180, o181, o182, o183, o184, o185, rfl, gb172, cm173, le174, oH186, oF187, dk188, oH189, oF190, dk191, oH192, oF193, dk194, ⟨⟨⟨e1, e2, e3⟩, e8⟩, e4, e5, e6, e7, e9⟩⟩ hp196
        obtain ⟨x197, hx198, hr199⟩ := Al.get (Al.mo ((le96.trans le122).trans le174) al4) hi169
        obtain rfl : y170 = V.str x197 := hr199
        refine it2 (K := K) gb172.s hp196 (fun F200 H201 g202 e203 => ?_)
        have gb204 := gb172.tr g202
        have le205 := g202.le
        have oH206 := g202.h _ _ oH186
        have oF207 := g202.own oF187 oH186
        have oH208 := g202.h _ _ oH189
        have oF209 := g202.own oF190 oH189
        have oH210 := g202.h _ _ oH192
        have oF211 := g202.own oF193 oH192
        have cm212 := g202.fz cm173
        try dsimp only
        have hil := (List.getElem?_eq_some_iff.mp hx198).1
        have bz : bi 0 = 0 := by decide +kernel
        have hu3 : i167 ≤ 2 := by omega
        have bk1 : bi ((4 : Int) + ((i167 : Nat) : Int) * 100) ≤ 9 := bi_small 9 (by omega)
        have bk2 : bi ((9 : Int) + ((i167 : Nat) : Int)) ≤ 9 := bi_small 9 (by omega)
        refine a_seq ?_
        refine a_asg ?_
        refine a_comp ?_
        refine a_izip ?_
        refine a_cons ?_
        refine a_var rfl ?_
        refine a_cons ?_
        refine a_var rfl ?_
        refine a_nil ?_
        have hml221 : (min (ts103).length (m180).length) ≤ 1000000 := by omega
        have hlen := Al.length (Al.mo (le174.trans le205) (Al.mo le122 al104))
        have hlen2 := Al.length (Al.mo le205 dk194)
        refine ⟨_, _, rfl, ⟨_, (Same.seq gb204.s (Le.lst (le174.trans le205) (SqL.of e120)))⟩, ⟨_, (SqL.of oH210)⟩, comp_zip (K := K) (a := p115) (b := a_weights) (xs := acc92) (ys := kv179) (fun i acc H' => Ex8 fun (F213 : Hp) (kv214 : List V) (rows215 : List ((List (Str × Rat)) × Str × Rat × Int × Int)) (kv216 : List V) (numbers217 : List Int) (kv218 : List V) (weights219 : List Rat) (ts220 : List (Rat × Rat)) => Cj22 (True) (Gr0 F (hdn [a_rows, a_numbers, a_weights] H) F213 H') (Fz (frzd F) F213) (Le F200 F213) (H' a_rows = some (.lst kv214)) (F213 a_rows = none) (Al (r5 K (rD (rFr K)) rS (rFr K) rI rI) F213 kv214 rows215) (m176 = rows215) (kv175 = kv214) (H' a_numbers = some (.lst kv216)) (F213 a_numbers = none) (Al rI F213 kv216 numbers217) (m178 = numbers217) (kv177 = kv216) (H' a_weights = some (.lst kv218)) (F213 a_weights = none) (Al (rFr K) F213 kv218 weights219) (m180 = weights219) (kv179 = kv218) (Al (r2 K (rFr K) (rFr K)) F213 acc ts220) (ts220.length ≤ i) ((psum ts220 ≤ 73 * i))) ?_ ?_ ?_ ?_⟩
        · exact ⟨F200, _, m176, _, m178, _, m180, [], True.intro, gb204, cm212, Le.refl _, oH206, oF207, (Al.mo le205 dk188), rfl, rfl, oH208, oF209, (Al.mo le205 dk191), rfl, rfl, oH210, oF211, (Al.mo le205 dk194), rfl, rfl, (show Al (r2 K (rFr K) (rFr K)) F200 [] [] from True.intro), (by first | (simp; done) | (rw [List.length_append]; simp only [List.length_cons, List.length_nil]; omega) | omega), by exact Nat.le_refl _⟩
        · rintro i acc H222 _ ⟨F223, kv227, m228, kv229, m230, kv231, m232, ts233, _, gb224, cm225, le226, oH236, oF237, dk238, rfl, rfl, oH239, oF240, dk241, rfl, rfl, oH242, oF243, dk244, rfl, rfl, al234, tl235, q1⟩
          exact ⟨(Same.seq gb224.s (Le.lst ((le174.trans le205).trans le226) (SqL.of e120))), (SqL.of oH242)⟩
        · rintro i245 y249 z250 acc251 H246 p252 hi247 hj248 ⟨F254, kv258, m259, kv260, m261, kv262, m263, ts264, _, gb255, cm256, le257, oH267, oF268, dk269, rfl, rfl, oH270, oF271, dk272, rfl, rfl, oH273, oF274, dk275, rfl, rfl, al265, tl266, q1⟩ hp253
          obtain ⟨x276, hx277, hr278⟩ := Al.get (Al.mo ((le174.trans le205).trans le257) (Al.mo le122 al104)) hi247
          obtain ⟨x279, hx280, hr281⟩ := Al.get dk275 hj248
          have hil := (List.getElem?_eq_some_iff.mp hx277).1
          have hil2 := (List.getElem?_eq_some_iff.mp hx280).1
          obtain ⟨a286, v288, v289, v290, v291, v292, rfl, sq287, h293, h294, h295, h296, h297⟩ := hr278
          obtain ⟨a298, kvs299, rfl, rd300, dk301, nd302⟩ := h293
          obtain rfl : v289 = V.str x276.2.1 := h294
          obtain ⟨a303, rfl, sq304⟩ := h295
          obtain rfl : v291 = V.int x276.2.2.2.1 := h296
          obtain rfl : v292 = V.int x276.2.2.2.2 := h297
          obtain ⟨a305, rfl, sq306⟩ := hr281
          refine it2 (K := K) gb255.s hp253 (fun F282 H283 g284 e285 => ?_)
          have gb307 := gb255.tr g284
          have le308 := g284.le
          have oH309 := g284.h _ _ oH267
          have oF310 := g284.own oF268 oH267
          have oH311 := g284.h _ _ oH270
          have oF312 := g284.own oF271 oH270
          have oH313 := g284.h _ _ oH273
          have oF314 := g284.own oF274 oH273
          have cm315 := g284.fz cm256
          refine ⟨Wk.non (Wk.non (Wk.som (Wk.nil))), ?_⟩
          try dsimp only
          have v1 := e7 _ _ (by have := (List.getElem?_eq_some_iff.mp hx277).1; omega) hx280
          have v2 := q2 _ (List.mem_of_getElem? hx277)
          refine a_tB ?_
          refine a_din ?_
          refine a_var rfl ?_
          refine a_op ?_
          refine a_var rfl ?_
          refine a_c ?_
          refine a_ixT (Same.tup gb307.s (Le.tup le308 sq287)) rfl ?_
          obtain ⟨o316, hg317, ho318⟩ := dinX x197 (Same.rd gb307.s (Le.dic le308 rd300)) (Dk.mo le308 dk301)
          refine ⟨_, o316, rfl, hg317, ?_⟩
          rw [ho318]
          refine a_bl ?_
          refine iteB (fun c319 => ?_) (fun c319 => ?_)
          · refine a_tup ?_
            refine a_cons ?_
            refine a_var rfl ?_
            refine a_cons ?_
            refine a_dget ?_
            refine a_op ?_
            refine a_var rfl ?_
            refine a_c ?_
            refine a_ixT (Same.tup gb307.s (Le.tup le308 sq287)) rfl ?_
            refine a_var rfl ?_
            obtain ⟨y323, y323g⟩ : ∃ y, gtd x276.1 x197 = some y := by exact Option.isSome_iff_exists.mp (by assumption)
            obtain ⟨v320, h321, h322⟩ := Dk.some (Dk.mo le308 dk301) y323g
            refine a_dgetK (Same.rd gb307.s (Le.dic le308 rd300)) h321 ?_
            obtain ⟨a324, rfl, sq325⟩ := h322
            refine a_nil ?_
            refine ⟨by show 2 ≤ sizeLine; decide, fun p326 hp327 => ?_⟩
            obtain ⟨F328, g330, e331⟩ := al2 (o := (.tup [V.ref a305, V.ref a324])) gb307.s (by intro _ _ z; cases z) hp327
            generalize upd H283 p326 (.tup [V.ref a305, V.ref a324]) = H329 at g330 ⊢
            have gb332 := gb307.tr g330
            have le333 := g330.le
            have oH334 := g330.h _ _ oH309
            have oF335 := g330.own oF310 oH309
            have oH336 := g330.h _ _ oH311
            have oF337 := g330.own oF312 oH311
            have oH338 := g330.h _ _ oH313
            have oF339 := g330.own oF314 oH313
            have cm340 := g330.fz cm315
            refine ⟨by rw [Al.length (Al.mo (le308.trans le333) al265)]; have := sizeLine_big; omega, ?_⟩
            exact ⟨F328, _, m176, _, m178, _, m180, (ts264 ++ [(x279, y323)]), True.intro, gb332, cm340, ((le257.trans le308).trans le333), oH334, oF335, (Al.mo (le308.trans le333) dk269), rfl, rfl, oH336, oF337, (Al.mo (le308.trans le333) dk272), rfl, rfl, oH338, oF339, (Al.mo (le308.trans le333) dk275), rfl, rfl, (Al.snoc (Al.mo (le308.trans le333) al265) ⟨_, _, _, rfl, (SqT.of e331), ⟨_, rfl, (Le.tup (le308.trans le333) sq306)⟩, ⟨_, rfl, (Le.tup le333 sq325)⟩⟩), (by first | (simp; done) | (rw [List.length_append]; simp only [List.length_cons, List.length_nil]; omega) | omega), by rw [psum_one]; have := v2.pt _ _ (by assumption); omega⟩
          · exact ⟨F282, _, m176, _, m178, _, m180, ts264, True.intro, gb307, cm315, (le257.trans le308), oH309, oF310, (Al.mo le308 dk269), rfl, rfl, oH311, oF312, (Al.mo le308 dk272), rfl, rfl, oH313, oF314, (Al.mo le308 dk275), rfl, rfl, (Al.mo le308 al265), (by first | (simp; done) | (rw [List.length_append]; simp only [List.length_cons, List.length_nil]; omega) | omega), by omega⟩
        · rintro acc342 H341 ⟨F343, kv347, m348, kv349, m350, kv351, m352, ts353, _, gb344, cm345, le346, oH356, oF357, dk358, rfl, rfl, oH359, oF360, dk361, rfl, rfl, oH362, oF363, dk364, rfl, rfl, al354, tl355, q1⟩
          have hlen := Al.length (Al.mo ((le174.trans le205).trans le346) (Al.mo le122 al104))
          have hlen2 := Al.length dk364
          refine ⟨(by rw [Al.length al354]; have := sizeLine_big; omega), fun p365 hp366 => ?_⟩
          obtain ⟨F367, g369, e370⟩ := al2 (o := (.lst acc342)) gb344.s (by intro _ _ z; cases z) hp366
          generalize upd H341 p365 (.lst acc342) = H368 at g369 ⊢
          have gb371 := gb344.tr g369
          have le372 := g369.le
          have oH373 := g369.h _ _ oH356
          have oF374 := g369.own oF357 oH356
          have oH375 := g369.h _ _ oH359
          have oF376 := g369.own oF360 oH359
          have oH377 := g369.h _ _ oH362
          have oF378 := g369.own oF363 oH362
          have cm379 := g369.fz cm345
          rw [hlen, hlen2] at q1
          refine a_name ?_
          try dsimp only
          refine a_seq ?_
          refine a_asg ?_
          refine a_call ?_
          refine a_cons ?_
          refine a_var rfl ?_
          refine a_nil ?_
          refine ⟨F367, _, ts353, rfl, gb371.s, ⟨_, _, rfl, (SqL.of e370), (Al.mo le372 al354)⟩, (by exact ⟨by omega, by omega⟩), ?_⟩
          rintro v380 F381 H382  g384 hr385 hp386
          have gb387 := gb371.tr g384
          have le388 := g384.le
          have oH389 := g384.h _ _ oH373
          have oF390 := g384.own oF374 oH373
          have oH391 := g384.h _ _ oH375
          have oF392 := g384.own oF376 oH375
          have oH393 := g384.h _ _ oH377
          have oF394 := g384.own oF378 oH377
          have cm395 := g384.fz cm379
          obtain ⟨a396, rfl, sq397⟩ := hr385
          have u9 : bs (wgtZ ts353) ≤ 585 := Nat.le_trans hp386 (by omega)
          refine a_gtup2 (Same.tup gb387.s sq397) ?_
          try dsimp only
          have b1 : bi (wgtZ ts353).num ≤ 585 := Nat.le_trans (bi_num _) u9
          have b2 : bi ((wgtZ ts353).den : Int) ≤ 585 := Nat.le_trans (bi_den _) u9
          have b3 : 0 < ((wgtZ ts353).den : Int) := den_pos _
          refine a_seq ?_
          refine a_asg ?_
          refine a_op ?_
          refine a_var rfl ?_
          refine a_op ?_
          refine a_lst ?_
          refine a_cons ?_
          refine a_c ?_
          refine a_cons ?_
          refine a_c ?_
          refine a_cons ?_
          refine a_c ?_
          refine a_cons ?_
          refine a_c ?_
          refine a_nil ?_
          refine ⟨by show 4 ≤ sizeLine; decide, fun p398 hp399 => ?_⟩
          obtain ⟨F400, g402, e403⟩ := al2 (o := (.lst [V.int 0, V.int 0, V.int 0, V.int 1])) gb387.s (by intro _ _ z; cases z) hp399
          generalize upd H382 p398 (.lst [V.int 0, V.int 0, V.int 0, V.int 1]) = H401 at g402 ⊢
          have gb404 := gb387.tr g402
          have le405 := g402.le
          have oH406 := g402.h _ _ oH389
          have oF407 := g402.own oF390 oH389
          have oH408 := g402.h _ _ oH391
          have oF409 := g402.own oF392 oH391
          have oH410 := g402.h _ _ oH393
          have oF411 := g402.own oF394 oH393
          have cm412 := g402.fz cm395
          have al413 : Al rI F400 [.int 0, .int 0, .int 0, .int 1] [0, 0, 0, 1] := ⟨rfl, ⟨rfl, ⟨rfl, ⟨rfl, True.intro⟩⟩⟩⟩
          refine a_op ?_
          refine a_op ?_
          refine a_var rfl ?_
          refine a_op ?_
          refine a_c ?_
          refine a_op ?_
          refine a_var rfl ?_
          refine a_c ?_
          refine a_I (mulR2 (by decide) (by decide)) ?_
          have b414 := bi_mul (i167 : Int) (100 : Int)
          refine a_I0 ?_
          have b415 := bi_add (4 : Int) ((i167 : Int) * 100)
          refine a_I (by walk_at "od") ?_
          refine a_c ?_
          refine a_I (by decide) ?_
          have m416 : 0 ≤ ((Int.fdiv mixed (4 + ((i167 : Int) * 100))) % 4) ∧ ((Int.fdiv mixed (4 + ((i167 : Int) * 100))) % 4) < 4 := ⟨Int.emod_nonneg _ (by decide), Int.emod_lt_of_pos _ (by decide)⟩
          obtain ⟨x418, v417, h419, h420, h421⟩ := Al.ix al413 (i := ((Int.fdiv mixed (4 + ((i167 : Int) * 100))) % 4)) (by walk_at "o") (by walk_at "ol")
          refine a_ixL (Same.seq gb404.s (SqL.of e403)) h420 ?_
          have h419m := List.mem_of_getElem? h419
          simp only [List.mem_cons, List.not_mem_nil, or_false] at h419m
          have bx : bi x418 ≤ 1 := bi_small 1 (by omega)
          obtain rfl : v417 = V.int x418 := h421
          refine a_I0 ?_
          have b422 := bi_sub (wgtZ ts353).num x418
          refine a_name ?_
          try dsimp only
          refine a_if ?_
          refine a_test ?_
          refine a_op ?_
          refine a_var rfl ?_
          refine a_c ?_
          refine a_I0 ?_
          refine a_bl ?_
          refine iteD (fun c423 => ?_) (fun c423 => ?_)
          · refine a_seq ?_
            refine a_drop ?_
            refine a_bm ?_
            refine a_var rfl ?_
            refine ⟨tyV_lst oH408, ?_⟩
            refine a_cons ?_
            refine a_cb ?_
            refine a_cons ?_
            refine a_var rfl ?_
            refine a_nil ?_
            refine ⟨_, _, rfl, .inl (SqL.of oH406), ?_⟩
            rw [Al.length (Al.mo ((le372.trans le388).trans le405) dk358)]
            refine a_nil ?_
            refine a_app oH408 (Nat.lt_of_lt_of_le (show _ < 100000 by rw [Al.length (Al.mo ((le372.trans le388).trans le405) dk361)]; omega) (by decide)) (chg (R := fun H' => _) gb404 hb_numbers oF409 (fun H424 gb425 oH426 ne427 => ?_))
            have al428 := Al.snoc (Al.mo ((le372.trans le388).trans le405) dk361) (show rI F400 (V.int ((m176).length : Int)) ((m176).length : Int) from rfl)
            have oH429 := (ne427 _ ne_0_1).trans oH406
            have oH430 := (ne427 _ (Ne.symm ne_1_2)).trans oH410
            try dsimp only
            refine a_seq ?_
            refine a_drop ?_
            refine a_bm ?_
            refine a_var rfl ?_
            refine ⟨tyV_lst oH429, ?_⟩
            refine a_cons ?_
            refine a_tup ?_
            refine a_cons ?_
            refine fun p431 hp432 => ?_
            obtain ⟨gb434, sm435, hb436, oF437, oH438, ne439⟩ := alo2 (o := (.dK [])) gb425 hp432
            generalize upd H424 p431 (.dK []) = H433 at gb434 sm435 oH438 ⊢
            have ne440 := ne439 _ _ oH429
            have oH441 := sm435 _ _ oH429
            have ne442 := ne439 _ _ oH426
            have oH443 := sm435 _ _ oH426
            have ne444 := ne439 _ _ oH430
            have oH445 := sm435 _ _ oH430
            refine a_prs ?_
            refine a_var rfl ?_
            refine a_tup ?_
            refine a_cons ?_
            refine a_c ?_
            refine a_cons ?_
            refine a_c ?_
            refine a_nil ?_
            refine ⟨by show 2 ≤ sizeLine; decide, fun p446 hp447 => ?_⟩
            obtain ⟨F448, g450, e451⟩ := al2 (o := (.tup [V.int 1, V.int 1])) gb434.s (by intro _ _ z; cases z) hp447
            generalize upd H433 p446 (.tup [V.int 1, V.int 1]) = H449 at g450 ⊢
            have gb452 := gb434.tr g450
            have le453 := g450.le
            have oH454 := g450.h _ _ oH441
            have oF455 := g450.own oF407 oH441
            have oH456 := g450.h _ _ oH443
            have oF457 := g450.own oF409 oH443
            have oH458 := g450.h _ _ oH445
            have oF459 := g450.own oF411 oH445
            have oH460 := g450.h _ _ oH438
            have oF461 := g450.own oF437 oH438
            have cm462 := g450.fz cm412
            have sq463 : SqT K F448 p446 (fr ((1 : Int) : Rat)) := by rw [fr_int]; exact SqT.of e451
            refine ⟨oH460, [(Sum.inr x197, V.ref p446)], rfl, (by show 1 ≤ 15; decide), ?_⟩
            obtain ⟨gb465, oH466, ne467⟩ := chgX (o := (.dK (mergeK [] [(Sum.inr x197, V.ref p446)]))) gb452 hb436 oF461
            generalize upd H449 p431 (.dK (mergeK [] [(Sum.inr x197, V.ref p446)])) = H464 at gb465 oH466 ne467 ⊢
            have oH468 : H464 p431 = some (.dK (putK [] (Sum.inr x197) (V.ref p446))) := oH466
            have oH469 := (ne467 _ ne440).trans oH454
            have oH470 := (ne467 _ ne442).trans oH456
            have oH471 := (ne467 _ ne444).trans oH458
            refine a_cons ?_
            refine a_op ?_
            refine a_lst ?_
            refine a_cons ?_
            refine a_c ?_
            have ln472 : ("most" : Str).length = 4 := by decide +kernel
            refine a_cons ?_
            refine a_c ?_
            have ln473 : ("just" : Str).length = 4 := by decide +kernel
            refine a_nil ?_
            refine ⟨by show 2 ≤ sizeLine; decide, fun p474 hp475 => ?_⟩
            obtain ⟨F476, g478, e479⟩ := al2 (o := (.lst [V.str ("most" : Str), V.str ("just" : Str)])) gb465.s (by intro _ _ z; cases z) hp475
            generalize upd H464 p474 (.lst [V.str ("most" : Str), V.str ("just" : Str)]) = H477 at g478 ⊢
            have gb480 := gb465.tr g478
            have le481 := g478.le
            have oH482 := g478.h _ _ oH469
            have oF483 := g478.own oF455 oH469
            have oH484 := g478.h _ _ oH470
            have oF485 := g478.own oF457 oH470
            have oH486 := g478.h _ _ oH471
            have oF487 := g478.own oF459 oH471
            have oH488 := g478.h _ _ oH468
            have oF489 := g478.own oF461 oH468
            have cm490 := g478.fz cm462
            have al491 : Al rS F476 [.str ("most" : Str), .str ("just" : Str)] [("most" : Str), ("just" : Str)] := ⟨rfl, ⟨rfl, True.intro⟩⟩
            refine a_op ?_
            refine a_op ?_
            refine a_var rfl ?_
            refine a_op ?_
            refine a_c ?_
            refine a_var rfl ?_
            refine a_I0 ?_
            have b492 := bi_add (9 : Int) (i167 : Int)
            refine a_I (by walk_at "od") ?_
            refine a_c ?_
            refine a_I (by decide) ?_
            have m493 : 0 ≤ ((Int.fdiv mixed (9 + (i167 : Int))) % 2) ∧ ((Int.fdiv mixed (9 + (i167 : Int))) % 2) < 2 := ⟨Int.emod_nonneg _ (by decide), Int.emod_lt_of_pos _ (by decide)⟩
            obtain ⟨x495, v494, h496, h497, h498⟩ := Al.ix al491 (i := ((Int.fdiv mixed (9 + (i167 : Int))) % 2)) (by walk_at "o") (by walk_at "ol")
            refine a_ixL (Same.seq gb480.s (SqL.of e479)) h497 ?_
            have h496m := List.mem_of_getElem? h496
            simp only [List.mem_cons, List.not_mem_nil, or_false] at h496m
            have h496l : x495.length ≤ 4 := by rcases h496m with z | z <;> (rw [z]; decide +kernel)
            obtain rfl : v494 = V.str x495 := h498
            refine a_cons ?_
            refine a_tup ?_
            refine a_cons ?_
            refine a_c ?_
            refine a_cons ?_
            refine a_c ?_
            refine a_nil ?_
            refine ⟨by show 2 ≤ sizeLine; decide, fun p499 hp500 => ?_⟩
            obtain ⟨F501, g503, e504⟩ := al2 (o := (.tup [V.int 0, V.int 1])) gb480.s (by intro _ _ z; cases z) hp500
            generalize upd H477 p499 (.tup [V.int 0, V.int 1]) = H502 at g503 ⊢
            have gb505 := gb480.tr g503
            have le506 := g503.le
            have oH507 := g503.h _ _ oH482
            have oF508 := g503.own oF483 oH482
            have oH509 := g503.h _ _ oH484
            have oF510 := g503.own oF485 oH484
            have oH511 := g503.h _ _ oH486
            have oF512 := g503.own oF487 oH486
            have oH513 := g503.h _ _ oH488
            have oF514 := g503.own oF489 oH488
            have cm515 := g503.fz cm490
            have sq516 : SqT K F501 p499 (fr ((0 : Int) : Rat)) := by rw [fr_int]; exact SqT.of e504
            refine a_cons ?_
            refine a_c ?_
            refine a_cons ?_
            refine a_c ?_
            refine a_nil ?_
            obtain ⟨F517, gb518, cm519, le520s, e521, ne522⟩ := frz gb505 cm515 hb436 oF514 oH513 (by intro _ _ z; cases z)
            have le520 := Le.of le520s
            have oF523 := (ne522 _ ne440).trans oF508
            have oF524 := (ne522 _ ne442).trans oF510
            have oF525 := (ne522 _ ne444).trans oF512
            refine ⟨by show 5 ≤ sizeLine; decide, fun p526 hp527 => ?_⟩
            obtain ⟨F528, g530, e531⟩ := al2 (o := (.tup [V.ref p431, V.str x495, V.ref p499, V.int 0, V.int 1])) gb518.s (by intro _ _ z; cases z) hp527
            generalize upd H502 p526 (.tup [V.ref p431, V.str x495, V.ref p499, V.int 0, V.int 1]) = H529 at g530 ⊢
            have gb532 := gb518.tr g530
            have le533 := g530.le
            have oH534 := g530.h _ _ oH507
            have oF535 := g530.own oF523 oH507
            have oH536 := g530.h _ _ oH509
            have oF537 := g530.own oF524 oH509
            have oH538 := g530.h _ _ oH511
            have oF539 := g530.own oF525 oH511
            have cm540 := g530.fz cm519
            have hde := g530.f _ _ e521
            have hdb := hb436
            have hdt := e531
            refine a_nil ?_
            refine a_app oH534 (Nat.lt_of_lt_of_le (show _ < 100000 by rw [Al.length (Al.mo (((((((le372.trans le388).trans le405).trans le453).trans le481).trans le506).trans le520).trans le533) dk358)]; omega) (by decide)) (chg (R := fun H' => _) gb532 hb_rows oF535 (fun H541 gb542 oH543 ne544 => ?_))
            have al545 := Al.snoc (Al.mo (((((((le372.trans le388).trans le405).trans le453).trans le481).trans le506).trans le520).trans le533) dk358) (show (r5 K (rD (rFr K)) rS (rFr K) rI rI) F528 (V.ref p526) ((ptd [] x197 ((1 : Int) : Rat)), x495, ((0 : Int) : Rat), 0, 1) from ⟨_, _, _, _, _, _, rfl, (SqT.of e531), ⟨_, _, rfl, (Le.dic le533 (Rd.of e521)), (Dk.mo le533 (Dk.mo ((le481.trans le506).trans le520) (Dk.put (x := x197) (show (rFr K) F448 (V.ref p446) (((1 : Int) : Rat)) from ⟨_, rfl, sq463⟩) (show Dk (rFr K) F448 [] [] from True.intro)))), (nd_ptd (show (([] : List (Str × Rat)).map (·.1)).Nodup from List.nodup_nil) x197 ((1 : Int) : Rat))⟩, rfl, ⟨_, rfl, (Le.tup (le520.trans le533) sq516)⟩, rfl, rfl⟩)
            have oH546 := (ne544 _ (Ne.symm ne_0_1)).trans oH536
            have oH547 := (ne544 _ (Ne.symm ne_0_2)).trans oH538
            try dsimp only
            refine a_drop ?_
            refine a_bm ?_
            refine a_var rfl ?_
            refine ⟨tyV_lst oH547, ?_⟩
            refine a_cons ?_
            refine a_call ?_
            refine a_cons ?_
            refine a_op ?_
            refine a_c ?_
            refine a_var rfl ?_
            refine a_I0 ?_
            have b548 := bi_sub (0 : Int) ((wgtZ ts353).num - x418)
            refine a_cons ?_
            refine a_var rfl ?_
            refine a_nil ?_
            refine ⟨F528, _, _, (0 - ((wgtZ ts353).num - x418)), ((wgtZ ts353).den : Int), rfl, gb542.s, rfl, rfl, (by exact ⟨b3, by omega⟩), ?_⟩
            rintro v549 F550 H551  g553 hr554 
            have gb556 := gb542.tr g553
            have le557 := g553.le
            have oH558 := g553.h _ _ oH543
            have oF559 := g553.own oF535 oH543
            have oH560 := g553.h _ _ oH546
            have oF561 := g553.own oF537 oH546
            have oH562 := g553.h _ _ oH547
            have oF563 := g553.own oF539 oH547
            have cm564 := g553.fz cm540
            obtain ⟨a565, rfl, sq566⟩ := hr554
            refine a_nil ?_
            refine a_app oH562 (Nat.lt_of_lt_of_le (show _ < 100000 by rw [Al.length (Al.mo ((((((((le372.trans le388).trans le405).trans le453).trans le481).trans le506).trans le520).trans le533).trans le557) dk364)]; omega) (by decide)) (chg (R := fun H' => _) gb556 hb_weights oF563 (fun H567 gb568 oH569 ne570 => ?_))
            have al571 := Al.snoc (Al.mo ((((((((le372.trans le388).trans le405).trans le453).trans le481).trans le506).trans le520).trans le533).trans le557) dk364) (show (rFr K) F550 (V.ref a565) (Rat.divInt ((0 - ((wgtZ ts353).num - x418))) (((wgtZ ts353).den : Int))) from ⟨_, rfl, sq566⟩)
            have oH572 := (ne570 _ ne_0_2).trans oH558
            have oH573 := (ne570 _ ne_1_2).trans oH560
            try dsimp only
            exact ⟨F550, _, (m176 ++ [((ptd [] x197 ((1 : Int) : Rat)), x495, ((0 : Int) : Rat), 0, 1)]), _, (m178 ++ [((m176).length : Int)]), _, (m180 ++ [(Rat.divInt ((0 - ((wgtZ ts353).num - x418))) (((wgtZ ts353).den : Int)))]), _, _, _, _, _, rfl, gb568, cm564, (((((((((((le174.trans le205).trans le346).trans le372).trans le388).trans le405).trans le453).trans le481).trans le506).trans le520).trans le533).trans le557), oH572, oF559, (Al.mo le557 al545), oH573, oF561, (Al.mo (((((le453.trans le481).trans le506).trans le520).trans le533).trans le557) al428), oH569, oF563, al571, by first | exact ⟨⟨⟨by rw [List.length_append]; exact Nat.succ_le_succ e1, by rw [List.length_append]; exact Nat.succ_le_succ e2, by rw [List.length_append]; exact Nat.succ_le_succ e3⟩, by rw [List.length_append]; exact Nat.le_succ_of_le e8⟩, ap_all e4 (row33_one _ _), ap_all e5 (Int.natCast_nonneg _), ap_all e6 (bs_divInt (by omega) (by omega) (by omega)), ap_at e7 e8, by rw [wsum_one]; have z9 := bs_divInt (k := 600) (show _ ≠ 0 by omega) (show bi (0 - ((wgtZ ts353).num - x418)) ≤ 600 by omega) (show bi ((wgtZ ts353).den : Int) ≤ 600 by omega); omega⟩ | exact ⟨⟨⟨by omega, by omega, by omega⟩, e8⟩, e4, e5, e6, e7, by omega⟩⟩
          · refine a_next ?_
            try dsimp only
            exact ⟨F400, _, m176, _, m178, _, m180, _, _, _, _, _, rfl, gb404, cm412, (((((le174.trans le205).trans le346).trans le372).trans le388).trans le405), oH406, oF407, (Al.mo ((le372.trans le388).trans le405) dk358), oH408, oF409, (Al.mo ((le372.trans le388).trans le405) dk361), oH410, oF411, (Al.mo ((le372.trans le388).trans le405) dk364), by first | exact ⟨⟨⟨by rw [List.length_append]; exact Nat.succ_le_succ e1, by rw [List.length_append]; exact Nat.succ_le_succ e2, by rw [List.length_append]; exact Nat.succ_le_succ e3⟩, by rw [List.length_append]; exact Nat.le_succ_of_le e8⟩, ap_all e4 (row33_one _ _), ap_all e5 (Int.natCast_nonneg _), ap_all e6 (bs_divInt (by omega) (by omega) (by omega)), ap_at e7 e8, by rw [wsum_one]; have z9 := bs_divInt (k := 600) (show _ ≠ 0 by omega) (show bi (0 - ((wgtZ ts353).num - x418)) ≤ 600 by omega) (show bi ((wgtZ ts353).den : Int) ≤ 600 by omega); omega⟩ | exact ⟨⟨⟨by omega, by omega, by omega⟩, e8⟩, e4, e5, e6, e7, by omega⟩⟩
      · rintro σ' H574 ⟨F575, kv579, m580, kv581, m582, kv583, m584, o585, o586, o587, o588, o589, rfl, gb576, cm577, le578, oH590, oF591, dk592, oH593, oF594, dk595, oH596, oF597, dk598, ⟨⟨⟨e1, e2, e3⟩, e8⟩, e4, e5, e6, e7, e9⟩⟩
        have hlen := Al.length (Al.mo ((le96.trans le122).trans le578) al4)
        try dsimp only
        rw [hlen] at e1 e2 e3 e9
        exact k _ _ _ _ _ _ _ _ (Gr.of gb576 cm577) oH590 oF591 dk592 oH593 oF594 dk595 oH596 oF597 dk598 (by exact ⟨⟨by omega, by omega, by omega⟩, e4, e5, e6, by omega⟩)
def sp_law_put_off (K : PySem.W.Frag) : Sp := fun vs H Q _ => Ex11 fun (F : Hp) (v_rows : V) (v_numbers : V) (v_weights : V) (v_mixed : V) (rows : (List ((List (Str × Rat)) × Str × Rat × Int × Int))) (numbers : (List Int)) (weights : (List Rat)) (mixed : Int) (a_weights : Addr) (kv_weights : List V) => Cj11 (vs = [v_rows, v_numbers, v_weights, v_mixed]) (Same F H) ((rL K (r5 K (rD (rFr K)) rS (rFr K) rI rI)) F v_rows rows) ((rL K rI) F v_numbers numbers) (rI F v_mixed mixed) (v_weights = .ref a_weights) (H a_weights = some (.lst kv_weights)) (F a_weights = none) (Al (rFr K) F kv_weights weights) ((rows.length ≤ 11 ∧ numbers.length ≤ 11 ∧ weights.length ≤ 11 ∧ (∀ k ∈ numbers, 0 ≤ k) ∧ (∀ q ∈ weights, bs q ≤ 600) ∧ wsum weights ≤ 2360)) (∀ (F' H' : Hp)  (v : V) (r : ((List Int) × (List Rat))), Gr F (hdn [a_weights] H) F' H' → (r2 K (rL K rI) (rL K (rFr K))) F' v r → ((r.1.length ≤ 12 ∧ r.2.length ≤ 12) ∧ (∀ k ∈ r.1, 0 ≤ k) ∧ wsum r.2 ≤ 3000) → Q v H')
set_option linter.unusedVariables false in
theorem ok_law_put_off (T : Tx K mg) : FnOk P w K mg base CX0 3 T.a_law_put_off T.d_law_put_off ["_law_rows", "_law_numbers", "_law_weights", "_law_mixed"] (sp_law_put_off K) := by
  refine T.F_law_put_off.ok sc_law_put_off (fun vs H Q E h => ?_) (fun cdv A outer s H vs Q E hr h => ?_)
  · obtain ⟨F, v_rows, v_numbers, v_weights, v_mixed, rows, numbers, weights, mixed, a_weights, kv_weights, rfl, _⟩ := h
    rfl
  · obtain ⟨F, v_rows, v_numbers, v_weights, v_mixed, rows, numbers, weights, mixed, a_weights, kv_weights, rfl, wd, r_rows, r_numbers, r_mixed, rfl, oH_weights, oF_weights, al_weights, hpre, k⟩ := h
    have hu := hu_of hr
    have gb : Gr0 F (hdn [a_weights] H) F H := hdn_gb wd
    have hb_weights : (hdn [a_weights] H) a_weights = none := hdn_in in0
    have cm := Fz.refl F
    obtain ⟨a1, vs2, rfl, sq3, al4⟩ := r_rows
    obtain ⟨a5, vs6, rfl, sq7, al8⟩ := r_numbers
    obtain rfl : v_mixed = V.int mixed := r_mixed
    obtain ⟨w1, w2, w3, w4, w5, w6⟩ := hpre
    refine ⟨_, (ZSs.h (zss_cons (ps_set (i := 4) sc_law_put_off.nd rfl (Or.inl rfl) (pe_op op_mod (pv 3) pe_int))
          (zss_cons (ps_set (i := 5) sc_law_put_off.nd rfl (Or.inl rfl) (pe_op op_mod (pe_op op_fdiv (pv 3) pe_int) (pe_callB (call_max2 rfl) rfl T.z_max rfl (pa_cons pe_int (pa_cons (pe_callB call_len_seq rfl T.z_len rfl (pa_cons (pv 2) pa_nil)) pa_nil)))))
          (zss_cons (ps_if (pt_cmpR op_eq (pv 4) pe_int (nomark _)) (pss_one (ps_ret (pe_tup (pa_cons (pv 1) (pa_cons (pe_op op_catS (pv 2) (pe_lst (pa_cons (pe_tup (pa_cons pe_int (pa_cons pe_int pa_nil))) pa_nil))) pa_nil))))) pss_nil)
          (zss_cons (ps_if (pt_cmpR op_eq (pv 4) pe_int (nomark _)) (pss_one (ps_ret (pe_tup (pa_cons (pv 1) (pa_cons (pe_slice sl_list (pv 2) po_none (po_some (pe_un un_neg pe_int))) pa_nil))))) pss_nil)
          (zss_cons (ps_if (PW.pt (pw_and (pt_cmpR op_eq (pv 4) pe_int (nomark _)) (pw_and1 (pt_cmpR (op_neE hr.units) (pv 2) (pe_lst pa_nil) (nomark _))))) (pss_one (ps_asg (pe_tup (pa_cons (pe_op op_sub pe_int (pe_ix ix_tup (pe_ix ix_list (pv 2) (pv 5) (fun _ _ => rfl)) pe_int (fun _ _ => rfl))) (pa_cons (pe_ix ix_tup (pe_ix ix_list (pv 2) (pv 5) (fun _ _ => rfl)) pe_int (fun _ _ => rfl)) pa_nil))) (pg_sub (pv 2) (pv 5) set_list))) pss_nil)
          (zss_cons (ps_if (PW.pt (pw_and (pt_cmpR op_eq (pv 4) pe_int (nomark _)) (pw_and1 (pt_cmpR (op_neE hr.units) (pv 2) (pe_lst pa_nil) (nomark _))))) (pss_one (ps_asg (pe_call ((ok_law_lowest T).mono (by decide)) hr rfl T.m_law_lowest T.F_law_lowest.kp T.b_law_lowest .nil pass0 (pa_cons (pe_op op_add (pe_op op_mulB (pe_ix ix_tup (pe_ix ix_list (pv 2) (pv 5) (fun _ _ => rfl)) pe_int (fun _ _ => rfl)) pe_int) (pe_ix ix_tup (pe_ix ix_list (pv 2) (pv 5) (fun _ _ => rfl)) pe_int (fun _ _ => rfl))) (pa_cons (pe_op op_mulB (pe_ix ix_tup (pe_ix ix_list (pv 2) (pv 5) (fun _ _ => rfl)) pe_int (fun _ _ => rfl)) pe_int) pa_nil))) (pg_sub (pv 2) (pv 5) set_list))) pss_nil)
          (zss_cons (ps_if (pt_cmpR op_eq (pv 4) pe_int (nomark _)) (pss_one (ps_ret (pe_tup (pa_cons (pe_listrev rfl rfl T.z_list rfl T.z_reversed (pa_cons (pv 1) pa_nil)) (pa_cons (pe_listrev rfl rfl T.z_list rfl T.z_reversed (pa_cons (pv 2) pa_nil)) pa_nil))))) pss_nil)
          (zss_cons (ps_if (PW.pt (pw_and (pt_cmpR op_eq (pv 4) pe_int (nomark _)) (pw_and1 (pt_cmpR (op_neE hr.units) (pv 1) (pe_lst pa_nil) (nomark _))))) (pss_one (ps_ret (pe_tup (pa_cons (pe_op op_catS (pe_slice sl_list (pv 1) po_none (po_some (pe_op op_add (pv 5) pe_int))) (pe_slice sl_list (pv 1) (po_some (pv 5)) po_none)) (pa_cons (pe_op op_catS (pe_slice sl_list (pv 2) po_none (po_some (pe_op op_add (pv 5) pe_int))) (pe_slice sl_list (pv 2) (po_some (pv 5)) po_none)) pa_nil))))) pss_nil)
          (zss_cons (ps_if (pt_cmpR op_eq (pv 4) pe_int (nomark _)) (pss_one (ps_ret (pe_tup (pa_cons (pe_op op_catS (pv 1) (pe_lst (pa_cons (pe_op op_add (pe_callB call_len_seq rfl T.z_len rfl (pa_cons (pv 0) pa_nil)) (pe_op op_mod (pe_op op_fdiv (pv 3) pe_int) pe_int)) pa_nil))) (pa_cons (pe_op op_catS (pv 2) (pe_lst (pa_cons (pe_tup (pa_cons pe_int (pa_cons pe_int pa_nil))) pa_nil))) pa_nil))))) pss_nil)
          (zss_one (ps_ret (pe_tup (pa_cons (pv 1) (pa_cons (pv 2) pa_nil))))))))))))))), ?_⟩
    refine a_seq ?_
    refine a_asg ?_
    refine a_op ?_
    refine a_var rfl ?_
    refine a_c ?_
    refine a_I (by decide) ?_
    have m9 : 0 ≤ (mixed % 16) ∧ (mixed % 16) < 16 := ⟨Int.emod_nonneg _ (by decide), Int.emod_lt_of_pos _ (by decide)⟩
    refine a_name ?_
    try dsimp only
    refine a_seq ?_
    refine a_asg ?_
    refine a_op ?_
    refine a_op ?_
    refine a_var rfl ?_
    refine a_c ?_
    refine a_I ⟨by decide, by decide⟩ ?_
    refine a_cb ?_
    refine a_cons ?_
    refine a_c ?_
    refine a_cons ?_
    refine a_cb ?_
    refine a_cons ?_
    refine a_var rfl ?_
    refine a_nil ?_
    refine ⟨_, _, rfl, .inl (SqL.of oH_weights), ?_⟩
    rw [Al.length al_weights]
    refine a_nil ?_
    refine ⟨_, _, rfl, ?_⟩
    refine a_I (by walk_at "o") ?_
    have m10 : 0 ≤ ((mixed / 16) % (if ((weights).length : Int) > 1 then ((weights).length : Int) else 1)) ∧ ((mixed / 16) % (if ((weights).length : Int) > 1 then ((weights).length : Int) else 1)) < (if ((weights).length : Int) > 1 then ((weights).length : Int) else 1) := ⟨Int.emod_nonneg _ (by walk_at "o"), Int.emod_lt_of_pos _ (by walk_at "o")⟩
    refine a_name ?_
    try dsimp only
    have hat : 0 ≤ ((mixed / 16) % (if ((weights).length : Int) > 1 then ((weights).length : Int) else 1)) ∧ (0 < weights.length → ((mixed / 16) % (if ((weights).length : Int) > 1 then ((weights).length : Int) else 1)) < weights.length) := at_ok _ _
    refine a_seq ?_
    refine a_if ?_
    refine a_test ?_
    refine a_op ?_
    refine a_var rfl ?_
    refine a_c ?_
    refine a_eqI ?_
    refine a_bl ?_
    refine iteD (fun c11 => ?_) (fun c11 => ?_)
    · refine a_ret ?_
      refine a_tup ?_
      refine a_cons ?_
      refine a_var rfl ?_
      refine a_cons ?_
      refine a_op ?_
      refine a_var rfl ?_
      refine a_lst ?_
      refine a_cons ?_
      refine a_tup ?_
      refine a_cons ?_
      refine a_c ?_
      refine a_cons ?_
      refine a_c ?_
      refine a_nil ?_
      refine ⟨by show 2 ≤ sizeLine; decide, fun p12 hp13 => ?_⟩
      obtain ⟨F14, g16, e17⟩ := al2 (o := (.tup [V.int 0, V.int 1])) gb.s (by intro _ _ z; cases z) hp13
      generalize upd H p12 (.tup [V.int 0, V.int 1]) = H15 at g16 ⊢
      have gb18 := gb.tr g16
      have le19 := g16.le
      have oH20 := g16.h _ _ oH_weights
      have oF21 := g16.own oF_weights oH_weights
      have cm22 := g16.fz cm
      have sq23 : SqT K F14 p12 (fr ((0 : Int) : Rat)) := by rw [fr_int]; exact SqT.of e17
      refine a_nil ?_
      refine ⟨by show 1 ≤ sizeLine; decide, fun p24 hp25 => ?_⟩
      obtain ⟨F26, g28, e29⟩ := al2 (o := (.lst [V.ref p12])) gb18.s (by intro _ _ z; cases z) hp25
      generalize upd H15 p24 (.lst [V.ref p12]) = H27 at g28 ⊢
      have gb30 := gb18.tr g28
      have le31 := g28.le
      have oH32 := g28.h _ _ oH20
      have oF33 := g28.own oF21 oH20
      have cm34 := g28.fz cm22
      have al35 : Al (rFr K) F26 [.ref p12] [((0 : Int) : Rat)] := ⟨⟨_, rfl, (Le.tup le31 sq23)⟩, True.intro⟩
      have al36 := (Al.mo (le19.trans le31) al_weights)
      have al37 := al35
      refine ⟨_, _, _, _, rfl, rfl, (SqL.of oH32), (Same.seq gb30.s (SqL.of e29)), (Nat.le_trans (show _ ≤ 100000 by rw [Al.length al36, Al.length al37]; walk_at "ol") (by decide)), fun p38 hp39 => ?_⟩
      obtain ⟨F40, g42, e43⟩ := al2 (o := (.lst (kv_weights ++ [V.ref p12]))) gb30.s (by intro _ _ z; cases z) hp39
      generalize upd H27 p38 (.lst (kv_weights ++ [V.ref p12])) = H41 at g42 ⊢
      have gb44 := gb30.tr g42
      have le45 := g42.le
      have oH46 := g42.h _ _ oH32
      have oF47 := g42.own oF33 oH32
      have cm48 := g42.fz cm34
      have al49 := Al.mo le45 (Al.app al36 al37)
      refine a_nil ?_
      refine ⟨by show 2 ≤ sizeLine; decide, fun p50 hp51 => ?_⟩
      obtain ⟨F52, g54, e55⟩ := al2 (o := (.tup [V.ref a5, V.ref p38])) gb44.s (by intro _ _ z; cases z) hp51
      generalize upd H41 p50 (.tup [V.ref a5, V.ref p38]) = H53 at g54 ⊢
      have gb56 := gb44.tr g54
      have le57 := g54.le
      have oH58 := g54.h _ _ oH46
      have oF59 := g54.own oF47 oH46
      have cm60 := g54.fz cm48
      have rp61 : (r2 K (rL K rI) (rL K (rFr K))) F52 (V.ref p50) ((numbers, (weights ++ [((0 : Int) : Rat)]))) := ⟨_, _, _, rfl, (SqT.of e55), ⟨_, _, rfl, (Le.lst (((le19.trans le31).trans le45).trans le57) sq7), (Al.mo (((le19.trans le31).trans le45).trans le57) al8)⟩, ⟨_, _, rfl, (Le.lst le57 (SqL.of e43)), (Al.mo le57 al49)⟩⟩
      exact k _ _  _ ((numbers, (weights ++ [((0 : Int) : Rat)]))) (Gr.of gb56 cm60) rp61 (by exact ⟨⟨by dsimp only; omega, by dsimp only; rw [List.length_append]; exact Nat.succ_le_succ w3⟩, w4, by dsimp only; rw [wsum_one, bs_z]; omega⟩)
    · refine a_next ?_
      try dsimp only
      refine a_seq ?_
      refine a_if ?_
      refine a_test ?_
      refine a_op ?_
      refine a_var rfl ?_
      refine a_c ?_
      refine a_eqI ?_
      refine a_bl ?_
      refine iteD (fun c62 => ?_) (fun c62 => ?_)
      · refine a_ret ?_
        refine a_tup ?_
        refine a_cons ?_
        refine a_var rfl ?_
        refine a_cons ?_
        refine a_sl ?_
        refine a_var rfl ?_
        refine a_noPart ?_
        refine a_part ?_
        refine a_un ?_
        refine a_c ?_
        refine a_U ?_
        refine a_pint ?_
        refine ⟨_, _, rfl, (SqL.of oH_weights), fun p63 hp64 => ?_⟩
        obtain ⟨F65, g67, e68⟩ := al2 (o := (.lst (cutV kv_weights none (some (-1))))) gb.s (by intro _ _ z; cases z) hp64
        generalize upd H p63 (.lst (cutV kv_weights none (some (-1)))) = H66 at g67 ⊢
        have gb69 := gb.tr g67
        have le70 := g67.le
        have oH71 := g67.h _ _ oH_weights
        have oF72 := g67.own oF_weights oH_weights
        have cm73 := g67.fz cm
        have al74 := Al.cut none (some (-1)) (Al.mo le70 al_weights)
        have ln75 : (cutA weights none (some (-1))).length ≤ weights.length := cutA_le _ _ _
        refine a_nil ?_
        refine ⟨by show 2 ≤ sizeLine; decide, fun p76 hp77 => ?_⟩
        obtain ⟨F78, g80, e81⟩ := al2 (o := (.tup [V.ref a5, V.ref p63])) gb69.s (by intro _ _ z; cases z) hp77
        generalize upd H66 p76 (.tup [V.ref a5, V.ref p63]) = H79 at g80 ⊢
        have gb82 := gb69.tr g80
        have le83 := g80.le
        have oH84 := g80.h _ _ oH71
        have oF85 := g80.own oF72 oH71
        have cm86 := g80.fz cm73
        have rp87 : (r2 K (rL K rI) (rL K (rFr K))) F78 (V.ref p76) ((numbers, (cutA weights none (some (-1))))) := ⟨_, _, _, rfl, (SqT.of e81), ⟨_, _, rfl, (Le.lst (le70.trans le83) sq7), (Al.mo (le70.trans le83) al8)⟩, ⟨_, _, rfl, (Le.lst le83 (SqL.of e68)), (Al.mo le83 al74)⟩⟩
        exact k _ _  _ ((numbers, (cutA weights none (some (-1))))) (Gr.of gb82 cm86) rp87 (by exact ⟨⟨by dsimp only; omega, Nat.le_trans (cutA_le _ _ _) (by omega)⟩, w4, Nat.le_trans (wsum_cut _ _ _) (by omega)⟩)
      · refine a_next ?_
        try dsimp only
        refine a_seqM (fun σ' H' => Ex3 fun (F88 : Hp) (kv89 : List V) (weights90 : List Rat) => Cj8 (σ' = [some (V.ref a1), some (V.ref a5), some (V.ref a_weights), some (V.int mixed), some (V.int (mixed % 16)), some (V.int ((mixed / 16) % (if ((weights).length : Int) > 1 then ((weights).length : Int) else 1)))]) (Gr0 F (hdn [a_weights] H) F88 H') (Fz (frzd F) F88) (Le F F88) (H' a_weights = some (.lst kv89)) (F88 a_weights = none) (Al (rFr K) F88 kv89 weights90) ((weights90.length = weights.length ∧ (∀ q ∈ weights90, bs q ≤ 600) ∧ wsum weights90 ≤ 2360))) (fun R hR => ?_) ?_
        · refine a_if ?_
          refine a_and ?_
          refine a_test ?_
          refine a_op ?_
          refine a_var rfl ?_
          refine a_c ?_
          refine a_eqI ?_
          refine a_bl ?_
          refine iteD (fun c91 => ?_) (fun c91 => ?_)
          · refine a_test ?_
            refine a_op ?_
            refine a_var rfl ?_
            refine a_lst ?_
            refine a_nil ?_
            refine ⟨by show 0 ≤ sizeLine; decide, fun p92 hp93 => ?_⟩
            obtain ⟨gb95, sm96, hb97, oF98, oH99, ne100⟩ := alo2 (o := (.lst [])) gb hp93
            generalize upd H p92 (.lst []) = H94 at gb95 sm96 oH99 ⊢
            have ne101 := ne100 _ _ oH_weights
            have oH102 := sm96 _ _ oH_weights
            refine ⟨_, _, _, rfl, rfl, (SqL.of oH102), (SqL.of oH99), ?_⟩
            rw [Al.length al_weights]
            refine a_bl ?_
            refine iteDN (fun c103 => ?_) (fun c103 => ?_)
            · have hB9 := w5
              refine a_asg ?_
              refine a_tup ?_
              refine a_cons ?_
              refine a_op ?_
              refine a_c ?_
              refine a_op ?_
              refine a_op ?_
              refine a_var rfl ?_
              refine a_var rfl ?_
              obtain ⟨x105, v104, h106, h107, h108⟩ := Al.ix al_weights (i := ((mixed / 16) % (if ((weights).length : Int) > 1 then ((weights).length : Int) else 1))) (by walk_at "o") (by walk_at "ol")
              refine a_ixL (SqL.of oH102) h107 ?_
              have hg9 := hB9 _ (List.mem_of_getElem? h106)
              obtain ⟨a109, rfl, sq110⟩ := h108
              refine a_c ?_
              refine a_ixT (Same.tup gb95.s sq110) (fr0 x105) ?_
              have b111 := bi_num x105
              refine a_I0 ?_
              have b112 := bi_sub (0 : Int) x105.num
              refine a_cons ?_
              refine a_op ?_
              refine a_op ?_
              refine a_var rfl ?_
              refine a_var rfl ?_
              obtain ⟨x114, v113, h115, h116, h117⟩ := Al.ix al_weights (i := ((mixed / 16) % (if ((weights).length : Int) > 1 then ((weights).length : Int) else 1))) (by walk_at "o") (by walk_at "ol")
              refine a_ixL (SqL.of oH102) h116 ?_
              have hg9 := hB9 _ (List.mem_of_getElem? h115)
              obtain ⟨a118, rfl, sq119⟩ := h117
              refine a_c ?_
              refine a_ixT (Same.tup gb95.s sq119) (fr1 x114) ?_
              have b120 := bi_den x114
              refine a_nil ?_
              refine ⟨by show 2 ≤ sizeLine; decide, fun p121 hp122 => ?_⟩
              obtain ⟨F123, g125, e126⟩ := al2 (o := (.tup [V.int (0 - x105.num), V.int (x114.den : Int)])) gb95.s (by intro _ _ z; cases z) hp122
              generalize upd H94 p121 (.tup [V.int (0 - x105.num), V.int (x114.den : Int)]) = H124 at g125 ⊢
              have gb127 := gb95.tr g125
              have le128 := g125.le
              have oH129 := g125.h _ _ oH102
              have oF130 := g125.own oF_weights oH102
              have cm131 := g125.fz cm
              have sq132 : SqT K F123 p121 (fr (-x105)) := by rw [show fr (-x105) = [V.int (0 - x105.num), V.int (x114.den : Int)] from by rw [show x114 = x105 from Option.some.inj ((by assumption : weights[_]? = some x114).symm.trans (by assumption))]; exact fr_neg _]; exact SqT.of e126
              refine a_gsub ?_
              refine a_var rfl ?_
              refine a_var rfl ?_
              refine ⟨_, _, _, (((mixed / 16) % (if ((weights).length : Int) > 1 then ((weights).length : Int) else 1))).toNat, rfl, rfl, oH129, ixN_nat (by walk_at "o") (by rw [Al.length (Al.mo le128 al_weights)]; walk_at "ol"), (chg (R := fun H' => _) gb127 hb_weights oF130 (fun H133 gb134 oH135 ne136 => ?_))⟩
              have al137 := Al.setv (j := (((mixed / 16) % (if ((weights).length : Int) > 1 then ((weights).length : Int) else 1))).toNat) (Al.mo le128 al_weights) (show (rFr K) F123 (V.ref p121) (-x105) from ⟨_, rfl, sq132⟩)
              try dsimp only
              exact hR _ _ ⟨F123, _, (weights.set (((mixed / 16) % (if ((weights).length : Int) > 1 then ((weights).length : Int) else 1))).toNat (-x105)), rfl, gb134, cm131, le128, oH135, oF130, al137, by first | exact put2 w5 w6 (by assumption) | exact ⟨rfl, w5, w6⟩⟩
            · refine a_next ?_
              try dsimp only
              exact hR _ _ ⟨F, _, weights, rfl, gb95, cm, Le.refl _, oH102, oF_weights, al_weights, by first | exact put2 w5 w6 (by assumption) | exact ⟨rfl, w5, w6⟩⟩
          · refine iteF ?_
            refine a_next ?_
            try dsimp only
            exact hR _ _ ⟨F, _, weights, rfl, gb, cm, Le.refl _, oH_weights, oF_weights, al_weights, by first | exact put2 w5 w6 (by assumption) | exact ⟨rfl, w5, w6⟩⟩
        · rintro σ' H138 ⟨F139, kv143, m144, rfl, gb140, cm141, le142, oH145, oF146, dk147, ⟨l2, hV, sV⟩⟩
          refine a_seqM (fun σ' H' => Ex3 fun (F148 : Hp) (kv149 : List V) (weights150 : List Rat) => Cj8 (σ' = [some (V.ref a1), some (V.ref a5), some (V.ref a_weights), some (V.int mixed), some (V.int (mixed % 16)), some (V.int ((mixed / 16) % (if ((weights).length : Int) > 1 then ((weights).length : Int) else 1)))]) (Gr0 F (hdn [a_weights] H) F148 H') (Fz (frzd F) F148) (Le F139 F148) (H' a_weights = some (.lst kv149)) (F148 a_weights = none) (Al (rFr K) F148 kv149 weights150) ((weights150.length = weights.length ∧ (∀ q ∈ weights150, bs q ≤ 620) ∧ wsum weights150 ≤ 2372))) (fun R hR => ?_) ?_
          · refine a_if ?_
            refine a_and ?_
            refine a_test ?_
            refine a_op ?_
            refine a_var rfl ?_
            refine a_c ?_
            refine a_eqI ?_
            refine a_bl ?_
            refine iteD (fun c151 => ?_) (fun c151 => ?_)
            · refine a_test ?_
              refine a_op ?_
              refine a_var rfl ?_
              refine a_lst ?_
              refine a_nil ?_
              refine ⟨by show 0 ≤ sizeLine; decide, fun p152 hp153 => ?_⟩
              obtain ⟨gb155, sm156, hb157, oF158, oH159, ne160⟩ := alo2 (o := (.lst [])) gb140 hp153
              generalize upd H138 p152 (.lst []) = H154 at gb155 sm156 oH159 ⊢
              have ne161 := ne160 _ _ oH145
              have oH162 := sm156 _ _ oH145
              refine ⟨_, _, _, rfl, rfl, (SqL.of oH162), (SqL.of oH159), ?_⟩
              rw [Al.length dk147]
              refine a_bl ?_
              refine iteDN (fun c163 => ?_) (fun c163 => ?_)
              · have hB9 := hV
                refine a_asg ?_
                refine a_call ?_
                refine a_cons ?_
                refine a_op ?_
                refine a_op ?_
                refine a_op ?_
                refine a_op ?_
                refine a_var rfl ?_
                refine a_var rfl ?_
                obtain ⟨x165, v164, h166, h167, h168⟩ := Al.ix dk147 (i := ((mixed / 16) % (if ((weights).length : Int) > 1 then ((weights).length : Int) else 1))) (by walk_at "o") (by walk_at "ol")
                refine a_ixL (SqL.of oH162) h167 ?_
                have hg9 := hB9 _ (List.mem_of_getElem? h166)
                obtain ⟨a169, rfl, sq170⟩ := h168
                refine a_c ?_
                refine a_ixT (Same.tup gb155.s sq170) (fr0 x165) ?_
                have b171 := bi_num x165
                refine a_c ?_
                refine a_I (mulR2 (by decide) (by decide)) ?_
                have b172 := bi_mul x165.num (1000 : Int)
                refine a_op ?_
                refine a_op ?_
                refine a_var rfl ?_
                refine a_var rfl ?_
                obtain ⟨x174, v173, h175, h176, h177⟩ := Al.ix dk147 (i := ((mixed / 16) % (if ((weights).length : Int) > 1 then ((weights).length : Int) else 1))) (by walk_at "o") (by walk_at "ol")
                refine a_ixL (SqL.of oH162) h176 ?_
                have hg9 := hB9 _ (List.mem_of_getElem? h175)
                obtain ⟨a178, rfl, sq179⟩ := h177
                refine a_c ?_
                refine a_ixT (Same.tup gb155.s sq179) (fr1 x174) ?_
                have b180 := bi_den x174
                refine a_I0 ?_
                have b181 := bi_add (x165.num * 1000) (x174.den : Int)
                refine a_cons ?_
                refine a_op ?_
                refine a_op ?_
                refine a_op ?_
                refine a_var rfl ?_
                refine a_var rfl ?_
                obtain ⟨x183, v182, h184, h185, h186⟩ := Al.ix dk147 (i := ((mixed / 16) % (if ((weights).length : Int) > 1 then ((weights).length : Int) else 1))) (by walk_at "o") (by walk_at "ol")
                refine a_ixL (SqL.of oH162) h185 ?_
                have hg9 := hB9 _ (List.mem_of_getElem? h184)
                obtain ⟨a187, rfl, sq188⟩ := h186
                refine a_c ?_
                refine a_ixT (Same.tup gb155.s sq188) (fr1 x183) ?_
                have b189 := bi_den x183
                refine a_c ?_
                refine a_I (mulR2 (by decide) (by decide)) ?_
                have b190 := bi_mul (x183.den : Int) (1000 : Int)
                refine a_nil ?_
                refine ⟨F139, _, _, ((x165.num * 1000) + (x174.den : Int)), ((x183.den : Int) * 1000), rfl, gb155.s, rfl, rfl, (by exact lowk hg9), ?_⟩
                rintro v191 F192 H193  g195 hr196 
                have gb198 := gb155.tr g195
                have le199 := g195.le
                have oH200 := g195.h _ _ oH162
                have oF201 := g195.own oF146 oH162
                have cm202 := g195.fz cm141
                obtain ⟨a203, rfl, sq204⟩ := hr196
                refine a_gsub ?_
                refine a_var rfl ?_
                refine a_var rfl ?_
                refine ⟨_, _, _, (((mixed / 16) % (if ((weights).length : Int) > 1 then ((weights).length : Int) else 1))).toNat, rfl, rfl, oH200, ixN_nat (by walk_at "o") (by rw [Al.length (Al.mo le199 dk147)]; walk_at "ol"), (chg (R := fun H' => _) gb198 hb_weights oF201 (fun H205 gb206 oH207 ne208 => ?_))⟩
                have al209 := Al.setv (j := (((mixed / 16) % (if ((weights).length : Int) > 1 then ((weights).length : Int) else 1))).toNat) (Al.mo le199 dk147) (show (rFr K) F192 (V.ref a203) (Rat.divInt (((x165.num * 1000) + (x174.den : Int))) (((x183.den : Int) * 1000))) from ⟨_, rfl, sq204⟩)
                try dsimp only
                exact hR _ _ ⟨F192, _, (m144.set (((mixed / 16) % (if ((weights).length : Int) > 1 then ((weights).length : Int) else 1))).toNat (Rat.divInt (((x165.num * 1000) + (x174.den : Int))) (((x183.den : Int) * 1000)))), rfl, gb206, cm202, le199, oH207, oF201, al209, by first | exact put3 l2 hV sV (by assumption) (by assumption) (by assumption) | exact ⟨by omega, fun q h => Nat.le_trans (hV q h) (by decide), by omega⟩⟩
              · refine a_next ?_
                try dsimp only
                exact hR _ _ ⟨F139, _, m144, rfl, gb155, cm141, Le.refl _, oH162, oF146, dk147, by first | exact put3 l2 hV sV (by assumption) (by assumption) (by assumption) | exact ⟨by omega, fun q h => Nat.le_trans (hV q h) (by decide), by omega⟩⟩
            · refine iteF ?_
              refine a_next ?_
              try dsimp only
              exact hR _ _ ⟨F139, _, m144, rfl, gb140, cm141, Le.refl _, oH145, oF146, dk147, by first | exact put3 l2 hV sV (by assumption) (by assumption) (by assumption) | exact ⟨by omega, fun q h => Nat.le_trans (hV q h) (by decide), by omega⟩⟩
          · rintro σ' H210 ⟨F211, kv215, m216, rfl, gb212, cm213, le214, oH217, oF218, dk219, ⟨l3, hW, sW⟩⟩
            refine a_seq ?_
            refine a_if ?_
            refine a_test ?_
            refine a_op ?_
            refine a_var rfl ?_
            refine a_c ?_
            refine a_eqI ?_
            refine a_bl ?_
            refine iteD (fun c220 => ?_) (fun c220 => ?_)
            · refine a_ret ?_
              refine a_tup ?_
              refine a_cons ?_
              refine a_lr ?_
              refine a_cons ?_
              refine a_var rfl ?_
              refine a_nil ?_
              have al221 := Al.rev (Al.mo (le142.trans le214) al8)
              refine ⟨_, _, rfl, (Same.seq gb212.s (Le.lst (le142.trans le214) sq7)), fun p222 hp223 => ?_⟩
              obtain ⟨F224, g226, e227⟩ := al2 (o := (.lst vs6.reverse)) gb212.s (by intro _ _ z; cases z) hp223
              generalize upd H210 p222 (.lst vs6.reverse) = H225 at g226 ⊢
              have gb228 := gb212.tr g226
              have le229 := g226.le
              have oH230 := g226.h _ _ oH217
              have oF231 := g226.own oF218 oH217
              have cm232 := g226.fz cm213
              refine a_cons ?_
              refine a_lr ?_
              refine a_cons ?_
              refine a_var rfl ?_
              refine a_nil ?_
              have al233 := Al.rev (Al.mo le229 dk219)
              refine ⟨_, _, rfl, (SqL.of oH230), fun p234 hp235 => ?_⟩
              obtain ⟨F236, g238, e239⟩ := al2 (o := (.lst kv215.reverse)) gb228.s (by intro _ _ z; cases z) hp235
              generalize upd H225 p234 (.lst kv215.reverse) = H237 at g238 ⊢
              have gb240 := gb228.tr g238
              have le241 := g238.le
              have oH242 := g238.h _ _ oH230
              have oF243 := g238.own oF231 oH230
              have cm244 := g238.fz cm232
              refine a_nil ?_
              refine ⟨by show 2 ≤ sizeLine; decide, fun p245 hp246 => ?_⟩
              obtain ⟨F247, g249, e250⟩ := al2 (o := (.tup [V.ref p222, V.ref p234])) gb240.s (by intro _ _ z; cases z) hp246
              generalize upd H237 p245 (.tup [V.ref p222, V.ref p234]) = H248 at g249 ⊢
              have gb251 := gb240.tr g249
              have le252 := g249.le
              have oH253 := g249.h _ _ oH242
              have oF254 := g249.own oF243 oH242
              have cm255 := g249.fz cm244
              have rp256 : (r2 K (rL K rI) (rL K (rFr K))) F247 (V.ref p245) (((numbers).reverse, (m216).reverse)) := ⟨_, _, _, rfl, (SqT.of e250), ⟨_, _, rfl, (Le.lst (le241.trans le252) (SqL.of e227)), (Al.mo (le241.trans le252) (Al.mo le229 al221))⟩, ⟨_, _, rfl, (Le.lst le252 (SqL.of e239)), (Al.mo le252 (Al.mo le241 al233))⟩⟩
              exact k _ _  _ (((numbers).reverse, (m216).reverse)) (Gr.of gb251 cm255) rp256 (by exact ⟨⟨by dsimp only; rw [List.length_reverse]; omega, by dsimp only; rw [List.length_reverse]; omega⟩, fun k h => w4 k (List.mem_reverse.mp h), by dsimp only; rw [wsum_rev]; omega⟩)
            · refine a_next ?_
              try dsimp only
              refine a_seq ?_
              refine a_if ?_
              refine a_and ?_
              refine a_test ?_
              refine a_op ?_
              refine a_var rfl ?_
              refine a_c ?_
              refine a_eqI ?_
              refine a_bl ?_
              refine iteD (fun c257 => ?_) (fun c257 => ?_)
              · refine a_test ?_
                refine a_op ?_
                refine a_var rfl ?_
                refine a_lst ?_
                refine a_nil ?_
                refine ⟨by show 0 ≤ sizeLine; decide, fun p258 hp259 => ?_⟩
                obtain ⟨gb261, sm262, hb263, oF264, oH265, ne266⟩ := alo2 (o := (.lst [])) gb212 hp259
                generalize upd H210 p258 (.lst []) = H260 at gb261 sm262 oH265 ⊢
                have ne267 := ne266 _ _ oH217
                have oH268 := sm262 _ _ oH217
                refine ⟨_, _, _, rfl, rfl, (Same.seq gb261.s (Le.lst (le142.trans le214) sq7)), (SqL.of oH265), ?_⟩
                rw [Al.length (Al.mo (le142.trans le214) al8)]
                refine a_bl ?_
                refine iteDN (fun c269 => ?_) (fun c269 => ?_)
                · refine a_ret ?_
                  refine a_tup ?_
                  refine a_cons ?_
                  refine a_op ?_
                  refine a_sl ?_
                  refine a_var rfl ?_
                  refine a_noPart ?_
                  refine a_part ?_
                  refine a_op ?_
                  refine a_var rfl ?_
                  refine a_c ?_
                  refine a_I0 ?_
                  have b270 := bi_add ((mixed / 16) % (if ((weights).length : Int) > 1 then ((weights).length : Int) else 1)) (1 : Int)
                  refine a_pint ?_
                  refine ⟨_, _, rfl, (Same.seq gb261.s (Le.lst (le142.trans le214) sq7)), fun p271 hp272 => ?_⟩
                  obtain ⟨F273, g275, e276⟩ := al2 (o := (.lst (cutV vs6 none (some (((mixed / 16) % (if ((weights).length : Int) > 1 then ((weights).length : Int) else 1)) + 1))))) gb261.s (by intro _ _ z; cases z) hp272
                  generalize upd H260 p271 (.lst (cutV vs6 none (some (((mixed / 16) % (if ((weights).length : Int) > 1 then ((weights).length : Int) else 1)) + 1)))) = H274 at g275 ⊢
                  have gb277 := gb261.tr g275
                  have le278 := g275.le
                  have oH279 := g275.h _ _ oH268
                  have oF280 := g275.own oF218 oH268
                  have cm281 := g275.fz cm213
                  have al282 := Al.cut none (some (((mixed / 16) % (if ((weights).length : Int) > 1 then ((weights).length : Int) else 1)) + 1)) (Al.mo ((le142.trans le214).trans le278) al8)
                  have ln283 : (cutA numbers none (some (((mixed / 16) % (if ((weights).length : Int) > 1 then ((weights).length : Int) else 1)) + 1))).length ≤ numbers.length := cutA_le _ _ _
                  refine a_sl ?_
                  refine a_var rfl ?_
                  refine a_part ?_
                  refine a_var rfl ?_
                  refine a_pint ?_
                  refine a_noPart ?_
                  refine ⟨_, _, rfl, (Same.seq gb277.s (Le.lst ((le142.trans le214).trans le278) sq7)), fun p284 hp285 => ?_⟩
                  obtain ⟨F286, g288, e289⟩ := al2 (o := (.lst (cutV vs6 (some ((mixed / 16) % (if ((weights).length : Int) > 1 then ((weights).length : Int) else 1))) none))) gb277.s (by intro _ _ z; cases z) hp285
                  generalize upd H274 p284 (.lst (cutV vs6 (some ((mixed / 16) % (if ((weights).length : Int) > 1 then ((weights).length : Int) else 1))) none)) = H287 at g288 ⊢
                  have gb290 := gb277.tr g288
                  have le291 := g288.le
                  have oH292 := g288.h _ _ oH279
                  have oF293 := g288.own oF280 oH279
                  have cm294 := g288.fz cm281
                  have al295 := Al.cut (some ((mixed / 16) % (if ((weights).length : Int) > 1 then ((weights).length : Int) else 1))) none (Al.mo (((le142.trans le214).trans le278).trans le291) al8)
                  have ln296 : (cutA numbers (some ((mixed / 16) % (if ((weights).length : Int) > 1 then ((weights).length : Int) else 1))) none).length ≤ numbers.length := cutA_le _ _ _
                  have al297 := (Al.mo le291 al282)
                  have al298 := al295
                  refine ⟨_, _, _, _, rfl, rfl, (Same.seq gb290.s (Le.lst le291 (SqL.of e276))), (Same.seq gb290.s (SqL.of e289)), (Nat.le_trans (show _ ≤ 100000 by rw [Al.length al297, Al.length al298]; walk_at "ol") (by decide)), fun p299 hp300 => ?_⟩
                  obtain ⟨F301, g303, e304⟩ := al2 (o := (.lst ((cutV vs6 none (some (((mixed / 16) % (if ((weights).length : Int) > 1 then ((weights).length : Int) else 1)) + 1))) ++ (cutV vs6 (some ((mixed / 16) % (if ((weights).length : Int) > 1 then ((weights).length : Int) else 1))) none)))) gb290.s (by intro _ _ z; cases z) hp300
                  generalize upd H287 p299 (.lst ((cutV vs6 none (some (((mixed / 16) % (if ((weights).length : Int) > 1 then ((weights).length : Int) else 1)) + 1))) ++ (cutV vs6 (some ((mixed / 16) % (if ((weights).length : Int) > 1 then ((weights).length : Int) else 1))) none))) = H302 at g303 ⊢
                  have gb305 := gb290.tr g303
                  have le306 := g303.le
                  have oH307 := g303.h _ _ oH292
                  have oF308 := g303.own oF293 oH292
                  have cm309 := g303.fz cm294
                  have al310 := Al.mo le306 (Al.app al297 al298)
                  refine a_cons ?_
                  refine a_op ?_
                  refine a_sl ?_
                  refine a_var rfl ?_
                  refine a_noPart ?_
                  refine a_part ?_
                  refine a_op ?_
                  refine a_var rfl ?_
                  refine a_c ?_
                  refine a_I0 ?_
                  have b311 := bi_add ((mixed / 16) % (if ((weights).length : Int) > 1 then ((weights).length : Int) else 1)) (1 : Int)
                  refine a_pint ?_
                  refine ⟨_, _, rfl, (SqL.of oH307), fun p312 hp313 => ?_⟩
                  obtain ⟨F314, g316, e317⟩ := al2 (o := (.lst (cutV kv215 none (some (((mixed / 16) % (if ((weights).length : Int) > 1 then ((weights).length : Int) else 1)) + 1))))) gb305.s (by intro _ _ z; cases z) hp313
                  generalize upd H302 p312 (.lst (cutV kv215 none (some (((mixed / 16) % (if ((weights).length : Int) > 1 then ((weights).length : Int) else 1)) + 1)))) = H315 at g316 ⊢
                  have gb318 := gb305.tr g316
                  have le319 := g316.le
                  have oH320 := g316.h _ _ oH307
                  have oF321 := g316.own oF308 oH307
                  have cm322 := g316.fz cm309
                  have al323 := Al.cut none (some (((mixed / 16) % (if ((weights).length : Int) > 1 then ((weights).length : Int) else 1)) + 1)) (Al.mo (((le278.trans le291).trans le306).trans le319) dk219)
                  have ln324 : (cutA m216 none (some (((mixed / 16) % (if ((weights).length : Int) > 1 then ((weights).length : Int) else 1)) + 1))).length ≤ m216.length := cutA_le _ _ _
                  refine a_sl ?_
                  refine a_var rfl ?_
                  refine a_part ?_
                  refine a_var rfl ?_
                  refine a_pint ?_
                  refine a_noPart ?_
                  refine ⟨_, _, rfl, (SqL.of oH320), fun p325 hp326 => ?_⟩
                  obtain ⟨F327, g329, e330⟩ := al2 (o := (.lst (cutV kv215 (some ((mixed / 16) % (if ((weights).length : Int) > 1 then ((weights).length : Int) else 1))) none))) gb318.s (by intro _ _ z; cases z) hp326
                  generalize upd H315 p325 (.lst (cutV kv215 (some ((mixed / 16) % (if ((weights).length : Int) > 1 then ((weights).length : Int) else 1))) none)) = H328 at g329 ⊢
                  have gb331 := gb318.tr g329
                  have le332 := g329.le
                  have oH333 := g329.h _ _ oH320
                  have oF334 := g329.own oF321 oH320
                  have cm335 := g329.fz cm322
                  have al336 := Al.cut (some ((mixed / 16) % (if ((weights).length : Int) > 1 then ((weights).length : Int) else 1))) none (Al.mo ((((le278.trans le291).trans le306).trans le319).trans le332) dk219)
                  have ln337 : (cutA m216 (some ((mixed / 16) % (if ((weights).length : Int) > 1 then ((weights).length : Int) else 1))) none).length ≤ m216.length := cutA_le _ _ _
                  have al338 := (Al.mo le332 al323)
                  have al339 := al336
                  refine ⟨_, _, _, _, rfl, rfl, (Same.seq gb331.s (Le.lst le332 (SqL.of e317))), (Same.seq gb331.s (SqL.of e330)), (Nat.le_trans (show _ ≤ 100000 by rw [Al.length al338, Al.length al339]; walk_at "ol") (by decide)), fun p340 hp341 => ?_⟩
                  obtain ⟨F342, g344, e345⟩ := al2 (o := (.lst ((cutV kv215 none (some (((mixed / 16) % (if ((weights).length : Int) > 1 then ((weights).length : Int) else 1)) + 1))) ++ (cutV kv215 (some ((mixed / 16) % (if ((weights).length : Int) > 1 then ((weights).length : Int) else 1))) none)))) gb331.s (by intro _ _ z; cases z) hp341
                  generalize upd H328 p340 (.lst ((cutV kv215 none (some (((mixed / 16) % (if ((weights).length : Int) > 1 then ((weights).length : Int) else 1)) + 1))) ++ (cutV kv215 (some ((mixed / 16) % (if ((weights).length : Int) > 1 then ((weights).length : Int) else 1))) none))) = H343 at g344 ⊢
                  have gb346 := gb331.tr g344
                  have le347 := g344.le
                  have oH348 := g344.h _ _ oH333
                  have oF349 := g344.own oF334 oH333
                  have cm350 := g344.fz cm335
                  have al351 := Al.mo le347 (Al.app al338 al339)
                  refine a_nil ?_
                  refine ⟨by show 2 ≤ sizeLine; decide, fun p352 hp353 => ?_⟩
                  obtain ⟨F354, g356, e357⟩ := al2 (o := (.tup [V.ref p299, V.ref p340])) gb346.s (by intro _ _ z; cases z) hp353
                  generalize upd H343 p352 (.tup [V.ref p299, V.ref p340]) = H355 at g356 ⊢
                  have gb358 := gb346.tr g356
                  have le359 := g356.le
                  have oH360 := g356.h _ _ oH348
                  have oF361 := g356.own oF349 oH348
                  have cm362 := g356.fz cm350
                  have rp363 : (r2 K (rL K rI) (rL K (rFr K))) F354 (V.ref p352) ((((cutA numbers none (some (((mixed / 16) % (if ((weights).length : Int) > 1 then ((weights).length : Int) else 1)) + 1))) ++ (cutA numbers (some ((mixed / 16) % (if ((weights).length : Int) > 1 then ((weights).length : Int) else 1))) none)), ((cutA m216 none (some (((mixed / 16) % (if ((weights).length : Int) > 1 then ((weights).length : Int) else 1)) + 1))) ++ (cutA m216 (some ((mixed / 16) % (if ((weights).length : Int) > 1 then ((weights).length : Int) else 1))) none)))) := ⟨_, _, _, rfl, (SqT.of e357), ⟨_, _, rfl, (Le.lst (((le319.trans le332).trans le347).trans le359) (SqL.of e304)), (Al.mo (((le319.trans le332).trans le347).trans le359) al310)⟩, ⟨_, _, rfl, (Le.lst le359 (SqL.of e345)), (Al.mo le359 al351)⟩⟩
                  exact k _ _  _ ((((cutA numbers none (some (((mixed / 16) % (if ((weights).length : Int) > 1 then ((weights).length : Int) else 1)) + 1))) ++ (cutA numbers (some ((mixed / 16) % (if ((weights).length : Int) > 1 then ((weights).length : Int) else 1))) none)), ((cutA m216 none (some (((mixed / 16) % (if ((weights).length : Int) > 1 then ((weights).length : Int) else 1)) + 1))) ++ (cutA m216 (some ((mixed / 16) % (if ((weights).length : Int) > 1 then ((weights).length : Int) else 1))) none)))) (Gr.of gb358 cm362) rp363 (by exact ⟨⟨by dsimp only; rw [List.length_append]; exact cut_two (by omega) (by omega), by dsimp only; rw [List.length_append]; exact cut_two (by omega) (by omega)⟩, fun k h => (List.mem_append.mp h).elim (fun z => w4 k (cutA_mem z)) (fun z => w4 k (cutA_mem z)), Nat.le_trans (wsum_two hW (by omega)) (by omega)⟩)
                · refine a_next ?_
                  try dsimp only
                  refine a_seq ?_
                  refine a_if ?_
                  refine a_test ?_
                  refine a_op ?_
                  refine a_var rfl ?_
                  refine a_c ?_
                  refine a_eqI ?_
                  refine a_bl ?_
                  refine iteD (fun c364 => ?_) (fun c364 => ?_)
                  · exfalso
                    omega
                  · refine a_next ?_
                    try dsimp only
                    refine a_ret ?_
                    refine a_tup ?_
                    refine a_cons ?_
                    refine a_var rfl ?_
                    refine a_cons ?_
                    refine a_var rfl ?_
                    refine a_nil ?_
                    obtain ⟨F365, gb366, cm367, le368s, e369, ne370⟩ := frz gb261 cm213 hb_weights oF218 oH268 (by intro _ _ z; cases z)
                    have le368 := Le.of le368s
                    refine ⟨by show 2 ≤ sizeLine; decide, fun p371 hp372 => ?_⟩
                    obtain ⟨F373, g375, e376⟩ := al2 (o := (.tup [V.ref a5, V.ref a_weights])) gb366.s (by intro _ _ z; cases z) hp372
                    generalize upd H260 p371 (.tup [V.ref a5, V.ref a_weights]) = H374 at g375 ⊢
                    have gb377 := gb366.tr g375
                    have le378 := g375.le
                    have cm379 := g375.fz cm367
                    have hde := g375.f _ _ e369
                    have hdb := hb_weights
                    have hdt := e376
                    have rp380 : (r2 K (rL K rI) (rL K (rFr K))) F373 (V.ref p371) ((numbers, m216)) := ⟨_, _, _, rfl, (SqT.of e376), ⟨_, _, rfl, (Le.lst (((le142.trans le214).trans le368).trans le378) sq7), (Al.mo (((le142.trans le214).trans le368).trans le378) al8)⟩, ⟨_, _, rfl, (Le.lst le378 (SqL.of e369)), (Al.mo le378 (Al.mo le368 dk219))⟩⟩
                    exact k _ _  _ ((numbers, m216)) (Gr.of gb377 cm379) rp380 (by exact ⟨⟨by dsimp only; omega, by dsimp only; omega⟩, w4, by dsimp only; omega⟩)
              · refine iteF ?_
                refine a_next ?_
                try dsimp only
                refine a_seq ?_
                refine a_if ?_
                refine a_test ?_
                refine a_op ?_
                refine a_var rfl ?_
                refine a_c ?_
                refine a_eqI ?_
                refine a_bl ?_
                refine iteD (fun c381 => ?_) (fun c381 => ?_)
                · refine a_ret ?_
                  refine a_tup ?_
                  refine a_cons ?_
                  refine a_op ?_
                  refine a_var rfl ?_
                  refine a_lst ?_
                  refine a_cons ?_
                  refine a_op ?_
                  refine a_cb ?_
                  refine a_cons ?_
                  refine a_var rfl ?_
                  refine a_nil ?_
                  refine ⟨_, _, rfl, .inl (Same.seq gb212.s (Le.lst (le142.trans le214) sq3)), ?_⟩
                  rw [Al.length (Al.mo (le142.trans le214) al4)]
                  refine a_op ?_
                  refine a_op ?_
                  refine a_var rfl ?_
                  refine a_c ?_
                  refine a_I ⟨by decide, by decide⟩ ?_
                  refine a_c ?_
                  refine a_I (by decide) ?_
                  have m382 : 0 ≤ ((mixed / 16) % 3) ∧ ((mixed / 16) % 3) < 3 := ⟨Int.emod_nonneg _ (by decide), Int.emod_lt_of_pos _ (by decide)⟩
                  refine a_I0 ?_
                  have b383 := bi_add ((rows).length : Int) ((mixed / 16) % 3)
                  refine a_nil ?_
                  refine ⟨by show 1 ≤ sizeLine; decide, fun p384 hp385 => ?_⟩
                  obtain ⟨F386, g388, e389⟩ := al2 (o := (.lst [V.int (((rows).length : Int) + ((mixed / 16) % 3))])) gb212.s (by intro _ _ z; cases z) hp385
                  generalize upd H210 p384 (.lst [V.int (((rows).length : Int) + ((mixed / 16) % 3))]) = H387 at g388 ⊢
                  have gb390 := gb212.tr g388
                  have le391 := g388.le
                  have oH392 := g388.h _ _ oH217
                  have oF393 := g388.own oF218 oH217
                  have cm394 := g388.fz cm213
                  have al395 : Al rI F386 [.int (((rows).length : Int) + ((mixed / 16) % 3))] [(((rows).length : Int) + ((mixed / 16) % 3))] := ⟨rfl, True.intro⟩
                  have al396 := (Al.mo ((le142.trans le214).trans le391) al8)
                  have al397 := al395
                  refine ⟨_, _, _, _, rfl, rfl, (Same.seq gb390.s (Le.lst ((le142.trans le214).trans le391) sq7)), (Same.seq gb390.s (SqL.of e389)), (Nat.le_trans (show _ ≤ 100000 by rw [Al.length al396, Al.length al397]; walk_at "ol") (by decide)), fun p398 hp399 => ?_⟩
                  obtain ⟨F400, g402, e403⟩ := al2 (o := (.lst (vs6 ++ [V.int (((rows).length : Int) + ((mixed / 16) % 3))]))) gb390.s (by intro _ _ z; cases z) hp399
                  generalize upd H387 p398 (.lst (vs6 ++ [V.int (((rows).length : Int) + ((mixed / 16) % 3))])) = H401 at g402 ⊢
                  have gb404 := gb390.tr g402
                  have le405 := g402.le
                  have oH406 := g402.h _ _ oH392
                  have oF407 := g402.own oF393 oH392
                  have cm408 := g402.fz cm394
                  have al409 := Al.mo le405 (Al.app al396 al397)
                  refine a_cons ?_
                  refine a_op ?_
                  refine a_var rfl ?_
                  refine a_lst ?_
                  refine a_cons ?_
                  refine a_tup ?_
                  refine a_cons ?_
                  refine a_c ?_
                  refine a_cons ?_
                  refine a_c ?_
                  refine a_nil ?_
                  refine ⟨by show 2 ≤ sizeLine; decide, fun p410 hp411 => ?_⟩
                  obtain ⟨F412, g414, e415⟩ := al2 (o := (.tup [V.int 0, V.int 1])) gb404.s (by intro _ _ z; cases z) hp411
                  generalize upd H401 p410 (.tup [V.int 0, V.int 1]) = H413 at g414 ⊢
                  have gb416 := gb404.tr g414
                  have le417 := g414.le
                  have oH418 := g414.h _ _ oH406
                  have oF419 := g414.own oF407 oH406
                  have cm420 := g414.fz cm408
                  have sq421 : SqT K F412 p410 (fr ((0 : Int) : Rat)) := by rw [fr_int]; exact SqT.of e415
                  refine a_nil ?_
                  refine ⟨by show 1 ≤ sizeLine; decide, fun p422 hp423 => ?_⟩
                  obtain ⟨F424, g426, e427⟩ := al2 (o := (.lst [V.ref p410])) gb416.s (by intro _ _ z; cases z) hp423
                  generalize upd H413 p422 (.lst [V.ref p410]) = H425 at g426 ⊢
                  have gb428 := gb416.tr g426
                  have le429 := g426.le
                  have oH430 := g426.h _ _ oH418
                  have oF431 := g426.own oF419 oH418
                  have cm432 := g426.fz cm420
                  have al433 : Al (rFr K) F424 [.ref p410] [((0 : Int) : Rat)] := ⟨⟨_, rfl, (Le.tup le429 sq421)⟩, True.intro⟩
                  have al434 := (Al.mo (((le391.trans le405).trans le417).trans le429) dk219)
                  have al435 := al433
                  refine ⟨_, _, _, _, rfl, rfl, (SqL.of oH430), (Same.seq gb428.s (SqL.of e427)), (Nat.le_trans (show _ ≤ 100000 by rw [Al.length al434, Al.length al435]; walk_at "ol") (by decide)), fun p436 hp437 => ?_⟩
                  obtain ⟨F438, g440, e441⟩ := al2 (o := (.lst (kv215 ++ [V.ref p410]))) gb428.s (by intro _ _ z; cases z) hp437
                  generalize upd H425 p436 (.lst (kv215 ++ [V.ref p410])) = H439 at g440 ⊢
                  have gb442 := gb428.tr g440
                  have le443 := g440.le
                  have oH444 := g440.h _ _ oH430
                  have oF445 := g440.own oF431 oH430
                  have cm446 := g440.fz cm432
                  have al447 := Al.mo le443 (Al.app al434 al435)
                  refine a_nil ?_
                  refine ⟨by show 2 ≤ sizeLine; decide, fun p448 hp449 => ?_⟩
                  obtain ⟨F450, g452, e453⟩ := al2 (o := (.tup [V.ref p398, V.ref p436])) gb442.s (by intro _ _ z; cases z) hp449
                  generalize upd H439 p448 (.tup [V.ref p398, V.ref p436]) = H451 at g452 ⊢
                  have gb454 := gb442.tr g452
                  have le455 := g452.le
                  have oH456 := g452.h _ _ oH444
                  have oF457 := g452.own oF445 oH444
                  have cm458 := g452.fz cm446
                  have rp459 : (r2 K (rL K rI) (rL K (rFr K))) F450 (V.ref p448) (((numbers ++ [(((rows).length : Int) + ((mixed / 16) % 3))]), (m216 ++ [((0 : Int) : Rat)]))) := ⟨_, _, _, rfl, (SqT.of e453), ⟨_, _, rfl, (Le.lst (((le417.trans le429).trans le443).trans le455) (SqL.of e403)), (Al.mo (((le417.trans le429).trans le443).trans le455) al409)⟩, ⟨_, _, rfl, (Le.lst le455 (SqL.of e441)), (Al.mo le455 al447)⟩⟩
                  exact k _ _  _ (((numbers ++ [(((rows).length : Int) + ((mixed / 16) % 3))]), (m216 ++ [((0 : Int) : Rat)]))) (Gr.of gb454 cm458) rp459 (by exact ⟨⟨by dsimp only; rw [List.length_append]; exact Nat.succ_le_succ w2, by dsimp only; rw [List.length_append]; exact Nat.succ_le_succ (by omega)⟩, ap_all w4 (by omega), by dsimp only; rw [wsum_one, bs_z]; omega⟩)
                · refine a_next ?_
                  try dsimp only
                  refine a_ret ?_
                  refine a_tup ?_
                  refine a_cons ?_
                  refine a_var rfl ?_
                  refine a_cons ?_
                  refine a_var rfl ?_
                  refine a_nil ?_
                  obtain ⟨F460, gb461, cm462, le463s, e464, ne465⟩ := frz gb212 cm213 hb_weights oF218 oH217 (by intro _ _ z; cases z)
                  have le463 := Le.of le463s
                  refine ⟨by show 2 ≤ sizeLine; decide, fun p466 hp467 => ?_⟩
                  obtain ⟨F468, g470, e471⟩ := al2 (o := (.tup [V.ref a5, V.ref a_weights])) gb461.s (by intro _ _ z; cases z) hp467
                  generalize upd H210 p466 (.tup [V.ref a5, V.ref a_weights]) = H469 at g470 ⊢
                  have gb472 := gb461.tr g470
                  have le473 := g470.le
                  have cm474 := g470.fz cm462
                  have hde := g470.f _ _ e464
                  have hdb := hb_weights
                  have hdt := e471
                  have rp475 : (r2 K (rL K rI) (rL K (rFr K))) F468 (V.ref p466) ((numbers, m216)) := ⟨_, _, _, rfl, (SqT.of e471), ⟨_, _, rfl, (Le.lst (((le142.trans le214).trans le463).trans le473) sq7), (Al.mo (((le142.trans le214).trans le463).trans le473) al8)⟩, ⟨_, _, rfl, (Le.lst le473 (SqL.of e464)), (Al.mo le473 (Al.mo le463 dk219))⟩⟩
                  exact k _ _  _ ((numbers, m216)) (Gr.of gb472 cm474) rp475 (by exact ⟨⟨by dsimp only; omega, by dsimp only; omega⟩, w4, by dsimp only; omega⟩)
def sp_law (K : PySem.W.Frag) : Sp := fun vs H Q _ => ∃ (a : Addr) (ns : List Int), vs = [.ref a] ∧ SqL K H a (ns.map V.int) ∧ ns.length ≤ 63 ∧ ∀ H', Q (.bl true) H'
theorem ok_law (T : Tx K mg) : FnOk P w K mg base CX0 9 T.a_law T.d_law ["_law_script"] (sp_law K) := by
  refine T.F_law.ok sc_law (fun vs H Q E h => ?_) (fun cdv A outer s H vs Q E hr h => ?_)
  · obtain ⟨a, script, rfl, _⟩ := h
    rfl
  · obtain ⟨a, script, rfl, hS, hl, k⟩ := h
    have hu := hu_of hr
    have gb : Gr0 (fun _ => none) H (fun _ => none) H := Gr0.refl (fun _ _ z => by cases z)
    have cm : Fz S0 (fun _ => none) := fun _ _ _ z => by cases z
    refine ⟨_, (ZSs.h (zss_cons (ps_set (i := 1) sc_law.nd rfl (Or.inr rfl) (pe_call ((ok_law_cell_at T).mono (by decide)) hr rfl T.m_law_cell_at T.F_law_cell_at.kp T.b_law_cell_at .nil pass0 (pa_cons (pv 0) (pa_cons pe_int pa_nil))))
          (zss_cons (ps_set (i := 2) sc_law.nd rfl (Or.inr rfl) (pe_slice sl_list (pe_lst (pa_cons pe_str (pa_cons pe_str (pa_cons pe_str pa_nil)))) po_none (po_some (pe_op op_add pe_int (pe_op op_mod (pv 1) pe_int)))))
          (zss_cons (ps_set (i := 3) sc_law.nd rfl (Or.inr rfl) (pe_comp (N := ["_law_cell", "_law_some"]) (ix := [none, some 2]) rfl (pi_list (pe_slice sl_list (pv 0) (po_some pe_int) (po_some pe_int))) (fun _ _ _ _ _ => (pg_name (i := 0) (show List.Nodup (["_law_cell", "_law_some"] : List Str) from by decide) rfl (Or.inl rfl))) (fun _ _ _ _ _ => pts_nil) (fun _ _ _ _ _ => (pe_call ((ok_law_row T).mono (by decide)) hr rfl T.m_law_row T.F_law_row.kp T.b_law_row .nil pass0 (pa_cons (pv 0) (pa_cons (pv 1) pa_nil)))) ⟨rfl, rfl, rfl, True.intro⟩))
          (zss_cons (ps_set (i := 4) sc_law.nd rfl (Or.inl rfl) (pe_lst pa_nil))
          (zss_cons (ps_for PassesOwn.never rfl (pi_enum rfl T.z_enumerate (pa_cons (pv 3) pa_nil)) (pg_tup rfl (pgs_cons (pg_name (i := 5) sc_law.nd rfl (Or.inl rfl)) (pgs_cons (pg_name (i := 6) sc_law.nd rfl (Or.inl rfl)) pgs_nil))) (pss_one (ps_if (PW.pt (pw_and (pt_cmpR op_gt (pe_op op_mod (pe_call ((ok_law_mix T).mono (by decide)) hr rfl T.m_law_mix T.F_law_mix.kp T.b_law_mix .nil pass0 (pa_cons (pv 1) (pa_cons (pe_op op_add (pv 5) pe_int) pa_nil))) pe_int) pe_int (nomark _)) (pw_and1 (PW.pt (pw_or (pt_cmpR op_eq (pe_ix ix_tup (pv 6) pe_int (fun _ _ => rfl)) pe_int (nomark _)) (pw_or1 (pt_cmpR op_eq (pe_op op_mod (pe_call ((ok_law_mix T).mono (by decide)) hr rfl T.m_law_mix T.F_law_mix.kp T.b_law_mix .nil pass0 (pa_cons (pv 1) (pa_cons pe_int pa_nil))) pe_int) pe_int (nomark _)))))))) (pss_one (ps_expr (pe_bm PySem.F.plainAttrs_list PySem.F.slot_list_append PySem.F.type_list_append mt_append (pv 4) (pa_cons (pv 5) pa_nil)))) pss_nil)))
          (zss_cons (ps_setC (i := 7) (N := ["_law_k", "_law_rows", "_law_first"]) (ix := [none, some 3, some 1]) sc_law.nd rfl (Or.inl rfl) rfl (pi_list (pv 4)) (fun _ _ _ _ _ => (pg_name (i := 0) (show List.Nodup (["_law_k", "_law_rows", "_law_first"] : List Str) from by decide) rfl (Or.inl rfl))) (fun _ _ _ _ _ => pts_nil) (fun _ _ _ _ _ => (pe_call ((ok_law_weight T).mono (by decide)) hr rfl T.m_law_weight T.F_law_weight.kp T.b_law_weight .nil pass0 (pa_cons (pe_ix (show IxR _ (rIxL K) from ix_list) (pv 1) (pv 0) (fun _ _ => rfl)) (pa_cons (pe_call ((ok_law_mix T).mono (by decide)) hr rfl T.m_law_mix T.F_law_mix.kp T.b_law_mix .nil pass0 (pa_cons (pv 2) (pa_cons (pe_op op_add (pv 0) pe_int) pa_nil))) pa_nil)))) ⟨rfl, rfl, rfl, ⟨rfl, rfl, rfl, True.intro⟩⟩)
          (zss_cons (ps_set (i := 7) sc_law.nd rfl (Or.inl rfl) (pe_call ((ok_law_scaled T).mono (by decide)) hr rfl T.m_law_scaled T.F_law_scaled.kp T.b_law_scaled .nil pass0 (pa_cons (pe_comp (N := ["_law_k", "_law_rows"]) (ix := [none, some 3]) rfl (pi_list (pv 4)) (fun _ _ _ _ _ => (pg_name (i := 0) (show List.Nodup (["_law_k", "_law_rows"] : List Str) from by decide) rfl (Or.inl rfl))) (fun _ _ _ _ _ => pts_nil) (fun _ _ _ _ _ => (pe_ix (show IxR _ (rIxL K) from ix_list) (pv 1) (pv 0) (fun _ _ => rfl))) ⟨rfl, rfl, rfl, True.intro⟩) (pa_cons (pv 7) pa_nil))))
          (zss_cons (ps_if (pt_cmpR op_gt (pe_op op_mod (pe_call ((ok_law_mix T).mono (by decide)) hr rfl T.m_law_mix T.F_law_mix.kp T.b_law_mix .nil pass0 (pa_cons (pv 1) (pa_cons pe_int pa_nil))) pe_int) pe_int (nomark _)) (pss_one (ps_expr (pe_call ((ok_law_evened T).mono (by decide)) hr rfl T.m_law_evened T.F_law_evened.kp T.b_law_evened .nil pass0 (pa_cons (pv 3) (pa_cons (pv 2) (pa_cons (pv 4) (pa_cons (pv 7) (pa_cons (pe_call ((ok_law_mix T).mono (by decide)) hr rfl T.m_law_mix T.F_law_mix.kp T.b_law_mix .nil pass0 (pa_cons (pv 1) (pa_cons pe_int pa_nil))) pa_nil)))))))) pss_nil)
          (zss_cons (ps_asg (pe_call ((ok_law_put_off T).mono (by decide)) hr rfl T.m_law_put_off T.F_law_put_off.kp T.b_law_put_off .nil pass0 (pa_cons (pv 3) (pa_cons (pv 4) (pa_cons (pv 7) (pa_cons (pe_call ((ok_law_mix T).mono (by decide)) hr rfl T.m_law_mix T.F_law_mix.kp T.b_law_mix .nil pass0 (pa_cons (pv 1) (pa_cons pe_int pa_nil))) pa_nil))))) (pg_tup rfl (pgs_cons (pg_name (i := 4) sc_law.nd rfl (Or.inl rfl)) (pgs_cons (pg_name (i := 7) sc_law.nd rfl (Or.inl rfl)) pgs_nil))))
          (zss_cons (ps_set (i := 8) sc_law.nd rfl (Or.inl rfl) (pe_tup (pa_cons (pe_callTy call_list_of rfl T.z_list rfl (pa_cons (pv 3) pa_nil)) (pa_cons (pe_callTy call_list_of rfl T.z_list rfl (pa_cons (pv 2) pa_nil)) (pa_cons (pe_callTy call_list_of rfl T.z_list rfl (pa_cons (pv 4) pa_nil)) (pa_cons (pe_callTy call_list_of rfl T.z_list rfl (pa_cons (pv 7) pa_nil)) pa_nil))))))
          (zss_cons (ps_set (i := 9) sc_law.nd rfl (Or.inl rfl) (pe_call ((ok_shows_clash T).mono (by decide)) hr rfl T.m_shows_clash T.F_shows_clash.kp T.b_shows_clash .nil pass0 (pa_cons (pe_ix ix_tup (pv 8) pe_int (fun _ _ => rfl)) (pa_cons (pe_ix ix_tup (pv 8) pe_int (fun _ _ => rfl)) (pa_cons (pe_ix ix_tup (pv 8) pe_int (fun _ _ => rfl)) (pa_cons (pe_ix ix_tup (pv 8) pe_int (fun _ _ => rfl)) pa_nil))))))
          (zss_cons (ps_if (pt_cmpR (op_neN hr.units) (pv 8) (pe_tup (pa_cons (pv 3) (pa_cons (pv 2) (pa_cons (pv 4) (pa_cons (pv 7) pa_nil))))) (nomark _)) (pss_one (ps_ret pe_bl)) pss_nil)
          (zss_cons (ps_if (pt_val (pe_call ((ok_law_right T).mono (by decide)) hr rfl T.m_law_right T.F_law_right.kp T.b_law_right .nil pass0 (pa_cons (pv 3) (pa_cons (pv 2) (pa_cons (pv 4) (pa_cons (pv 7) pa_nil)))))) (pss_one (ps_ret (pe_cmpR op_isB (pv 9) pe_bl (nomark _)))) pss_nil)
          (zss_one (ps_ret (pe_cmpR op_isB (pv 9) pe_bl (nomark _)))))))))))))))))), ?_⟩
    refine a_seq ?_
    refine a_asg ?_
    refine a_call ?_
    refine a_cons ?_
    refine a_var rfl ?_
    refine a_cons ?_
    refine a_c ?_
    refine a_nil ?_
    refine ⟨(fun _ => none), _, _, script, 0, rfl, gb.s, ⟨_, rfl, (Same.seq gb.h hS)⟩, rfl, (by walk_at "o"), ?_⟩
    rintro v1 F2 H3 rz4 g5 hr6 
    have gb8 := gb.tr g5
    have le9 := g5.le
    have cm10 := g5.fz cm
    obtain rfl : v1 = V.int rz4 := hr6
    refine a_name ?_
    try dsimp only
    refine a_seq ?_
    refine a_asg ?_
    refine a_sl ?_
    refine a_lst ?_
    refine a_cons ?_
    refine a_c ?_
    have ln11 : ("x" : Str).length = 1 := by decide +kernel
    refine a_cons ?_
    refine a_c ?_
    have ln12 : ("left b" : Str).length = 6 := by decide +kernel
    refine a_cons ?_
    refine a_c ?_
    have ln13 : ("width c" : Str).length = 7 := by decide +kernel
    refine a_nil ?_
    refine ⟨by show 3 ≤ sizeLine; decide, fun p14 hp15 => ?_⟩
    obtain ⟨F16, g18, e19⟩ := al2 (o := (.lst [V.str ("x" : Str), V.str ("left b" : Str), V.str ("width c" : Str)])) gb8.s (by intro _ _ z; cases z) hp15
    generalize upd H3 p14 (.lst [V.str ("x" : Str), V.str ("left b" : Str), V.str ("width c" : Str)]) = H17 at g18 ⊢
    have gb20 := gb8.tr g18
    have le21 := g18.le
    have cm22 := g18.fz cm10
    have al23 : Al rS F16 [.str ("x" : Str), .str ("left b" : Str), .str ("width c" : Str)] [("x" : Str), ("left b" : Str), ("width c" : Str)] := ⟨rfl, ⟨rfl, ⟨rfl, True.intro⟩⟩⟩
    refine a_noPart ?_
    refine a_part ?_
    refine a_op ?_
    refine a_c ?_
    refine a_op ?_
    refine a_var rfl ?_
    refine a_c ?_
    refine a_I (by decide) ?_
    have m24 : 0 ≤ (rz4 % 3) ∧ (rz4 % 3) < 3 := ⟨Int.emod_nonneg _ (by decide), Int.emod_lt_of_pos _ (by decide)⟩
    refine a_I0 ?_
    refine a_pint ?_
    refine ⟨_, _, rfl, (Same.seq gb20.s (SqL.of e19)), fun p25 hp26 => ?_⟩
    obtain ⟨F27, g29, e30⟩ := al2 (o := (.lst (cutV [V.str ("x" : Str), V.str ("left b" : Str), V.str ("width c" : Str)] none (some (1 + (rz4 % 3)))))) gb20.s (by intro _ _ z; cases z) hp26
    generalize upd H17 p25 (.lst (cutV [V.str ("x" : Str), V.str ("left b" : Str), V.str ("width c" : Str)] none (some (1 + (rz4 % 3))))) = H28 at g29 ⊢
    have gb31 := gb20.tr g29
    have le32 := g29.le
    have cm33 := g29.fz cm22
    have al34 := Al.cut none (some (1 + (rz4 % 3))) (Al.mo le32 al23)
    have ln35 : (cutA [("x" : Str), ("left b" : Str), ("width c" : Str)] none (some (1 + (rz4 % 3)))).length ≤ [("x" : Str), ("left b" : Str), ("width c" : Str)].length := cutA_le _ _ _
    refine a_name ?_
    try dsimp only
    obtain ⟨hm1, hm2⟩ := some_ok (n := rz4 % 3) (by omega) (by omega)
    refine a_seq ?_
    refine a_asg ?_
    refine a_comp ?_
    refine a_ilist ?_
    refine a_sl ?_
    refine a_var rfl ?_
    refine a_part ?_
    refine a_c ?_
    refine a_pint ?_
    refine a_part ?_
    refine a_c ?_
    refine a_pint ?_
    refine ⟨_, _, rfl, (Same.seq gb31.h hS), fun p36 hp37 => ?_⟩
    obtain ⟨F38, g40, e41⟩ := al2 (o := (.lst (cutV (script.map V.int) (some 1) (some 9)))) gb31.s (by intro _ _ z; cases z) hp37
    generalize upd H28 p36 (.lst (cutV (script.map V.int) (some 1) (some 9))) = H39 at g40 ⊢
    have gb42 := gb31.tr g40
    have le43 := g40.le
    have cm44 := g40.fz cm33
    have al45 := Al.cut (some 1) (some 9) (al_ints (F := F38) (ns := script))
    have ln46 : (cutA script (some 1) (some 9)).length ≤ script.length := cutA_le _ _ _
    have ln47 : (cutA script (some 1) (some 9)).length ≤ 8 := cutA_most script 1 9
    have hml50 : ((cutA script (some 1) (some 9))).length ≤ 1000000 := by omega
    refine ⟨_, rfl, ⟨_, (Same.seq gb42.s (SqL.of e41))⟩, comp_list (K := K) (a := p36) (xs := (cutV (script.map V.int) (some 1) (some 9))) (fun i acc H' => Ex2 fun (F48 : Hp) (ts49 : List ((List (Str × Rat)) × Str × Rat × Int × Int)) => Cj7 (True) (Gr0 (fun _ => none) H F48 H') (Fz S0 F48) (Le F38 F48) (Al (r5 K (rD (rFr K)) rS (rFr K) rI rI) F48 acc ts49) (ts49.length ≤ i) ((ts49.length = i ∧ ∀ r ∈ ts49, Row33 r))) ?_ ?_ ?_ ?_⟩
    · exact ⟨F38, [], True.intro, gb42, cm44, Le.refl _, (show Al (r5 K (rD (rFr K)) rS (rFr K) rI rI) F38 [] [] from True.intro), (by first | (simp; done) | (rw [List.length_append]; simp only [List.length_cons, List.length_nil]; omega) | omega), by exact ⟨rfl, fun r h => (by cases h)⟩⟩
    · rintro i acc H51 _ ⟨F52, ts56, _, gb53, cm54, le55, al57, tl58, ⟨rl, hRo⟩⟩
      exact (Same.seq gb53.s (Le.lst le55 (SqL.of e41)))
    · rintro i59 y62 acc63 H60 hi61 ⟨F64, ts68, _, gb65, cm66, le67, al69, tl70, ⟨rl, hRo⟩⟩
      obtain ⟨x71, hx72, hr73⟩ := Al.get (Al.mo le67 al45) hi61
      have hil := (List.getElem?_eq_some_iff.mp hx72).1
      refine a_name ?_
      obtain rfl : y62 = V.int x71 := hr73
      refine ⟨Wk.non (Wk.som (Wk.nil)), ?_⟩
      try dsimp only
      refine a_yes ?_
      refine iteT ?_
      refine a_call ?_
      refine a_cons ?_
      refine a_var rfl ?_
      refine a_cons ?_
      refine a_var rfl ?_
      refine a_nil ?_
      refine ⟨F64, _, _, x71, (cutA [("x" : Str), ("left b" : Str), ("width c" : Str)] none (some (1 + (rz4 % 3)))), rfl, gb65.s, rfl, ⟨_, _, rfl, (Le.lst (le43.trans le67) (SqL.of e30)), (Al.mo (le43.trans le67) al34)⟩, (by exact hm2), ?_⟩
      rintro v74 F75 H76 r77 g78 hr79 hp80
      have gb81 := gb65.tr g78
      have le82 := g78.le
      have cm83 := g78.fz cm66
      obtain ⟨a84, v86, v87, v88, v89, v90, rfl, sq85, h91, h92, h93, h94, h95⟩ := hr79
      obtain ⟨a96, kvs97, rfl, rd98, dk99, nd100⟩ := h91
      obtain rfl : v87 = V.str r77.2.1 := h92
      obtain ⟨a101, rfl, sq102⟩ := h93
      obtain rfl : v89 = V.int r77.2.2.2.1 := h94
      obtain rfl : v90 = V.int r77.2.2.2.2 := h95
      refine ⟨by rw [Al.length (Al.mo le82 al69)]; have := sizeLine_big; omega, ?_⟩
      exact ⟨F75, (ts68 ++ [r77]), True.intro, gb81, cm83, (le67.trans le82), (Al.snoc (Al.mo le82 al69) ⟨_, _, _, _, _, _, rfl, sq85, ⟨_, _, rfl, rd98, dk99, nd100⟩, rfl, ⟨_, rfl, sq102⟩, rfl, rfl⟩), (by first | (simp; done) | (rw [List.length_append]; simp only [List.length_cons, List.length_nil]; omega) | omega), by exact ⟨by rw [List.length_append, rl]; rfl, fun x h => (List.mem_append.mp h).elim (hRo x) fun z => by rw [List.mem_singleton.mp z]; assumption⟩⟩
    · rintro acc104 H103 ⟨F105, ts109, _, gb106, cm107, le108, al110, tl111, ⟨rl, hRo⟩⟩
      have hlen := Al.length (Al.mo le108 al45)
      refine ⟨(by rw [Al.length al110]; have := sizeLine_big; omega), fun p112 hp113 => ?_⟩
      obtain ⟨gb115, sm116, hb117, oF118, oH119, ne120⟩ := alo2 (o := (.lst acc104)) gb106 hp113
      generalize upd H103 p112 (.lst acc104) = H114 at gb115 sm116 oH119 ⊢
      rw [hlen] at rl
      refine a_name ?_
      try dsimp only
      refine a_seq ?_
      refine a_asg ?_
      refine a_lst ?_
      refine a_nil ?_
      refine ⟨by show 0 ≤ sizeLine; decide, fun p121 hp122 => ?_⟩
      obtain ⟨gb124, sm125, hb126, oF127, oH128, ne129⟩ := alo2 (o := (.lst [])) gb115 hp122
      generalize upd H114 p121 (.lst []) = H123 at gb124 sm125 oH128 ⊢
      have ne130 := ne129 _ _ oH119
      have oH131 := sm125 _ _ oH119
      refine a_name ?_
      try dsimp only
      refine a_seq ?_
      refine a_for ?_
      refine a_ienum ?_
      refine a_cons ?_
      refine a_var rfl ?_
      refine a_nil ?_
      refine ⟨_, rfl, ⟨_, (SqL.of oH131)⟩, for_enum (xs := acc104) (K := K) (a := p112) (fun i σ' H' => Ex7 fun (F132 : Hp) (kv133 : List V) (rows134 : List ((List (Str × Rat)) × Str × Rat × Int × Int)) (kv135 : List V) (numbers136 : List Int) (o137 : Option V) (o138 : Option V) => Cj13 (σ' = [some (V.ref a), some (V.int rz4), some (V.ref p25), some (V.ref p112), some (V.ref p121), o137, o138, none, none, none]) (Gr0 (fun _ => none) H F132 H') (Fz S0 F132) (Le F105 F132) (H' p112 = some (.lst kv133)) (F132 p112 = none) (Al (r5 K (rD (rFr K)) rS (rFr K) rI rI) F132 kv133 rows134) (ts109 = rows134) (acc104 = kv133) (H' p121 = some (.lst kv135)) (F132 p121 = none) (Al rI F132 kv135 numbers136) ((numbers136.length ≤ i ∧ ∀ k ∈ numbers136, 0 ≤ k ∧ k < rows134.length))) ?_ ?_ ?_ ?_⟩
      · exact ⟨F105, _, ts109, _, [], _, _, rfl, gb124, cm107, Le.refl _, oH131, oF118, al110, rfl, rfl, oH128, oF127, True.intro, by exact ⟨Nat.le_refl _, fun k h => (by cases h)⟩⟩
      · rintro i σ' H139 _ ⟨F140, kv144, m145, kv146, m147, o148, o149, rfl, gb141, cm142, le143, oH150, oF151, dk152, rfl, rfl, oH153, oF154, dk155, ⟨nl, hN⟩⟩
        exact (SqL.of oH150)
      · rintro i156 y159 σ' H157 p176 hi158 ⟨F160, kv164, m165, kv166, m167, o168, o169, rfl, gb161, cm162, le163, oH170, oF171, dk172, rfl, rfl, oH173, oF174, dk175, ⟨nl, hN⟩⟩ hp177
        obtain ⟨x178, hx179, hr180⟩ := Al.get dk172 hi158
        obtain ⟨a185, v187, v188, v189, v190, v191, rfl, sq186, h192, h193, h194, h195, h196⟩ := hr180
        obtain ⟨a197, kvs198, rfl, rd199, dk200, nd201⟩ := h192
        obtain rfl : v188 = V.str x178.2.1 := h193
        obtain ⟨a202, rfl, sq203⟩ := h194
        obtain rfl : v190 = V.int x178.2.2.2.1 := h195
        obtain rfl : v191 = V.int x178.2.2.2.2 := h196
        refine it2 (K := K) gb161.s hp177 (fun F181 H182 g183 e184 => ?_)
        have gb204 := gb161.tr g183
        have le205 := g183.le
        have oH206 := g183.h _ _ oH170
        have oF207 := g183.own oF171 oH170
        have oH208 := g183.h _ _ oH173
        have oF209 := g183.own oF174 oH173
        have cm210 := g183.fz cm162
        try dsimp only
        have hil := (List.getElem?_eq_some_iff.mp hx179).1
        have hx8 := (List.getElem?_eq_some_iff.mp hx179).1
        refine a_if ?_
        refine a_and ?_
        refine a_test ?_
        refine a_op ?_
        refine a_op ?_
        refine a_call ?_
        refine a_cons ?_
        refine a_var rfl ?_
        refine a_cons ?_
        refine a_op ?_
        refine a_var rfl ?_
        refine a_c ?_
        refine a_I0 ?_
        refine a_nil ?_
        refine ⟨F181, _, _, rz4, ((i156 : Int) + 1), rfl, gb204.s, rfl, rfl, ?_⟩
        rintro v211 F212 H213 r214 g215 hr216 hp217
        have gb218 := gb204.tr g215
        have le219 := g215.le
        have oH220 := g215.h _ _ oH206
        have oF221 := g215.own oF207 oH206
        have oH222 := g215.h _ _ oH208
        have oF223 := g215.own oF209 oH208
        have cm224 := g215.fz cm210
        obtain rfl : v211 = V.int r214 := hr216
        refine a_c ?_
        refine a_I (by decide) ?_
        have m225 : 0 ≤ (r214 % 3) ∧ (r214 % 3) < 3 := ⟨Int.emod_nonneg _ (by decide), Int.emod_lt_of_pos _ (by decide)⟩
        refine a_c ?_
        refine a_I0 ?_
        refine a_bl ?_
        refine iteD (fun c226 => ?_) (fun c226 => ?_)
        · refine a_or ?_
          refine a_test ?_
          refine a_op ?_
          refine a_op ?_
          refine a_var rfl ?_
          refine a_c ?_
          refine a_ixT (Same.tup gb218.s (Le.tup (le205.trans le219) sq186)) rfl ?_
          refine a_c ?_
          refine a_eqI ?_
          refine a_bl ?_
          refine iteD (fun c227 => ?_) (fun c227 => ?_)
          · refine iteT ?_
            refine a_drop ?_
            refine a_bm ?_
            refine a_var rfl ?_
            refine ⟨tyV_lst oH222, ?_⟩
            refine a_cons ?_
            refine a_var rfl ?_
            refine a_nil ?_
            refine a_app oH222 (Nat.lt_of_lt_of_le (show _ < 100000 by rw [Al.length (Al.mo (le205.trans le219) dk175)]; omega) (by decide)) (chg (R := fun H' => _) gb218 hb126 oF223 (fun H228 gb229 oH230 ne231 => ?_))
            have al232 := Al.snoc (Al.mo (le205.trans le219) dk175) (show rI F212 (V.int (i156 : Nat)) (i156 : Int) from rfl)
            have oH233 := (ne231 _ ne130).trans oH220
            try dsimp only
            exact ⟨F212, _, ts109, _, (m167 ++ [(i156 : Int)]), _, _, rfl, gb229, cm224, ((le163.trans le205).trans le219), oH233, oF221, (Al.mo (le205.trans le219) dk172), rfl, rfl, oH230, oF223, al232, by first | exact ⟨by rw [List.length_append]; exact Nat.succ_le_succ nl, ap_all hN ⟨Int.natCast_nonneg _, by omega⟩⟩ | exact ⟨by omega, hN⟩⟩
          · refine a_test ?_
            refine a_op ?_
            refine a_op ?_
            refine a_call ?_
            refine a_cons ?_
            refine a_var rfl ?_
            refine a_cons ?_
            refine a_c ?_
            refine a_nil ?_
            refine ⟨F212, _, _, rz4, 20, rfl, gb218.s, rfl, rfl, ?_⟩
            rintro v234 F235 H236 r237 g238 hr239 hp240
            have gb241 := gb218.tr g238
            have le242 := g238.le
            have oH243 := g238.h _ _ oH220
            have oF244 := g238.own oF221 oH220
            have oH245 := g238.h _ _ oH222
            have oF246 := g238.own oF223 oH222
            have cm247 := g238.fz cm224
            obtain rfl : v234 = V.int r237 := hr239
            refine a_c ?_
            refine a_I (by decide) ?_
            have m248 : 0 ≤ (r237 % 5) ∧ (r237 % 5) < 5 := ⟨Int.emod_nonneg _ (by decide), Int.emod_lt_of_pos _ (by decide)⟩
            refine a_c ?_
            refine a_eqI ?_
            refine a_bl ?_
            refine iteD (fun c249 => ?_) (fun c249 => ?_)
            · refine a_drop ?_
              refine a_bm ?_
              refine a_var rfl ?_
              refine ⟨tyV_lst oH245, ?_⟩
              refine a_cons ?_
              refine a_var rfl ?_
              refine a_nil ?_
              refine a_app oH245 (Nat.lt_of_lt_of_le (show _ < 100000 by rw [Al.length (Al.mo ((le205.trans le219).trans le242) dk175)]; omega) (by decide)) (chg (R := fun H' => _) gb241 hb126 oF246 (fun H250 gb251 oH252 ne253 => ?_))
              have al254 := Al.snoc (Al.mo ((le205.trans le219).trans le242) dk175) (show rI F235 (V.int (i156 : Nat)) (i156 : Int) from rfl)
              have oH255 := (ne253 _ ne130).trans oH243
              try dsimp only
              exact ⟨F235, _, ts109, _, (m167 ++ [(i156 : Int)]), _, _, rfl, gb251, cm247, (((le163.trans le205).trans le219).trans le242), oH255, oF244, (Al.mo ((le205.trans le219).trans le242) dk172), rfl, rfl, oH252, oF246, al254, by first | exact ⟨by rw [List.length_append]; exact Nat.succ_le_succ nl, ap_all hN ⟨Int.natCast_nonneg _, by omega⟩⟩ | exact ⟨by omega, hN⟩⟩
            · refine a_next ?_
              try dsimp only
              exact ⟨F235, _, ts109, _, m167, _, _, rfl, gb241, cm247, (((le163.trans le205).trans le219).trans le242), oH243, oF244, (Al.mo ((le205.trans le219).trans le242) dk172), rfl, rfl, oH245, oF246, (Al.mo ((le205.trans le219).trans le242) dk175), by first | exact ⟨by rw [List.length_append]; exact Nat.succ_le_succ nl, ap_all hN ⟨Int.natCast_nonneg _, by omega⟩⟩ | exact ⟨by omega, hN⟩⟩
        · refine iteF ?_
          refine a_next ?_
          try dsimp only
          exact ⟨F212, _, ts109, _, m167, _, _, rfl, gb218, cm224, ((le163.trans le205).trans le219), oH220, oF221, (Al.mo (le205.trans le219) dk172), rfl, rfl, oH222, oF223, (Al.mo (le205.trans le219) dk175), by first | exact ⟨by rw [List.length_append]; exact Nat.succ_le_succ nl, ap_all hN ⟨Int.natCast_nonneg _, by omega⟩⟩ | exact ⟨by omega, hN⟩⟩
      · rintro σ' H256 ⟨F257, kv261, m262, kv263, m264, o265, o266, rfl, gb258, cm259, le260, oH267, oF268, dk269, rfl, rfl, oH270, oF271, dk272, ⟨nl, hN⟩⟩
        have hlen := Al.length dk269
        try dsimp only
        rw [hlen] at nl
        refine a_seq ?_
        refine a_asg ?_
        refine a_comp ?_
        refine a_ilist ?_
        refine a_var rfl ?_
        have hml279 : (m264).length ≤ 1000000 := by omega
        refine ⟨_, rfl, ⟨_, (SqL.of oH270)⟩, comp_list (K := K) (a := p121) (xs := kv263) (fun i acc H' => Ex6 fun (F273 : Hp) (kv274 : List V) (rows275 : List ((List (Str × Rat)) × Str × Rat × Int × Int)) (kv276 : List V) (numbers277 : List Int) (ts278 : List Rat) => Cj17 (True) (Gr0 (fun _ => none) H F273 H') (Fz S0 F273) (Le F257 F273) (H' p112 = some (.lst kv274)) (F273 p112 = none) (Al (r5 K (rD (rFr K)) rS (rFr K) rI rI) F273 kv274 rows275) (ts109 = rows275) (acc104 = kv274) (H' p121 = some (.lst kv276)) (F273 p121 = none) (Al rI F273 kv276 numbers277) (m264 = numbers277) (kv263 = kv276) (Al (rFr K) F273 acc ts278) (ts278.length ≤ i) ((ts278.length = i ∧ ∀ q ∈ ts278, bs q ≤ 3))) ?_ ?_ ?_ ?_⟩
        · exact ⟨F257, _, ts109, _, m264, [], True.intro, gb258, cm259, Le.refl _, oH267, oF268, dk269, rfl, rfl, oH270, oF271, dk272, rfl, rfl, (show Al (rFr K) F257 [] [] from True.intro), (by first | (simp; done) | (rw [List.length_append]; simp only [List.length_cons, List.length_nil]; omega) | omega), by exact ⟨rfl, fun r h => (by cases h)⟩⟩
        · rintro i acc H280 _ ⟨F281, kv285, m286, kv287, m288, ts289, _, gb282, cm283, le284, oH292, oF293, dk294, rfl, rfl, oH295, oF296, dk297, rfl, rfl, al290, tl291, ⟨wl, hw⟩⟩
          exact (SqL.of oH295)
        · rintro i298 y301 acc302 H299 hi300 ⟨F303, kv307, m308, kv309, m310, ts311, _, gb304, cm305, le306, oH314, oF315, dk316, rfl, rfl, oH317, oF318, dk319, rfl, rfl, al312, tl313, ⟨wl, hw⟩⟩
          obtain ⟨x320, hx321, hr322⟩ := Al.get dk319 hi300
          have hil := (List.getElem?_eq_some_iff.mp hx321).1
          refine a_name ?_
          obtain rfl : y301 = V.int x320 := hr322
          refine ⟨Wk.non (Wk.som (Wk.som (Wk.nil))), ?_⟩
          try dsimp only
          have u1 := hN _ (List.mem_of_getElem? hx321)
          refine a_yes ?_
          refine iteT ?_
          refine a_call ?_
          refine a_cons ?_
          refine a_op ?_
          refine a_var rfl ?_
          refine a_var rfl ?_
          obtain ⟨x324, v323, h325, h326, h327⟩ := Al.ix dk316 (i := x320) (by walk_at "o") (by walk_at "ol")
          refine a_ixL (SqL.of oH314) h326 ?_
          have hr9 := h325
          obtain ⟨a328, v330, v331, v332, v333, v334, rfl, sq329, h335, h336, h337, h338, h339⟩ := h327
          obtain ⟨a340, kvs341, rfl, rd342, dk343, nd344⟩ := h335
          obtain rfl : v331 = V.str x324.2.1 := h336
          obtain ⟨a345, rfl, sq346⟩ := h337
          obtain rfl : v333 = V.int x324.2.2.2.1 := h338
          obtain rfl : v334 = V.int x324.2.2.2.2 := h339
          refine a_cons ?_
          refine a_call ?_
          refine a_cons ?_
          refine a_var rfl ?_
          refine a_cons ?_
          refine a_op ?_
          refine a_var rfl ?_
          refine a_c ?_
          refine a_I0 ?_
          refine a_nil ?_
          refine ⟨F303, _, _, rz4, (x320 + 30), rfl, gb304.s, rfl, rfl, ?_⟩
          rintro v347 F348 H349 r350 g351 hr352 hp353
          have gb354 := gb304.tr g351
          have le355 := g351.le
          have oH356 := g351.h _ _ oH314
          have oF357 := g351.own oF315 oH314
          have oH358 := g351.h _ _ oH317
          have oF359 := g351.own oF318 oH317
          have cm360 := g351.fz cm305
          obtain rfl : v347 = V.int r350 := hr352
          refine a_nil ?_
          refine ⟨F348, _, _, x324, r350, rfl, gb354.s, ⟨_, _, _, _, _, _, rfl, (Le.tup le355 sq329), ⟨_, _, rfl, (Le.dic le355 rd342), (Dk.mo le355 dk343), nd344⟩, rfl, ⟨_, rfl, (Le.tup le355 sq346)⟩, rfl, rfl⟩, rfl, ?_⟩
          rintro v361 F362 H363 r364 g365 hr366 hp367
          have gb368 := gb354.tr g365
          have le369 := g365.le
          have oH370 := g365.h _ _ oH356
          have oF371 := g365.own oF357 oH356
          have oH372 := g365.h _ _ oH358
          have oF373 := g365.own oF359 oH358
          have cm374 := g365.fz cm360
          obtain ⟨a375, rfl, sq376⟩ := hr366
          refine ⟨by rw [Al.length (Al.mo (le355.trans le369) al312)]; have := sizeLine_big; omega, ?_⟩
          exact ⟨F362, _, ts109, _, m264, (ts311 ++ [r364]), True.intro, gb368, cm374, ((le306.trans le355).trans le369), oH370, oF371, (Al.mo (le355.trans le369) dk316), rfl, rfl, oH372, oF373, (Al.mo (le355.trans le369) dk319), rfl, rfl, (Al.snoc (Al.mo (le355.trans le369) al312) ⟨_, rfl, sq376⟩), (by first | (simp; done) | (rw [List.length_append]; simp only [List.length_cons, List.length_nil]; omega) | omega), by exact ⟨by rw [List.length_append, wl]; rfl, ap_all hw (by assumption)⟩⟩
        · rintro acc378 H377 ⟨F379, kv383, m384, kv385, m386, ts387, _, gb380, cm381, le382, oH390, oF391, dk392, rfl, rfl, oH393, oF394, dk395, rfl, rfl, al388, tl389, ⟨wl, hw⟩⟩
          have hlen := Al.length dk395
          refine ⟨(by rw [Al.length al388]; have := sizeLine_big; omega), fun p396 hp397 => ?_⟩
          obtain ⟨gb399, sm400, hb401, oF402, oH403, ne404⟩ := alo2 (o := (.lst acc378)) gb380 hp397
          generalize upd H377 p396 (.lst acc378) = H398 at gb399 sm400 oH403 ⊢
          have ne405 := ne404 _ _ oH390
          have oH406 := sm400 _ _ oH390
          have ne407 := ne404 _ _ oH393
          have oH408 := sm400 _ _ oH393
          rw [hlen] at wl
          refine a_name ?_
          try dsimp only
          refine a_seq ?_
          refine a_asg ?_
          refine a_call ?_
          refine a_cons ?_
          refine a_comp ?_
          refine a_ilist ?_
          refine a_var rfl ?_
          have hml417 : (m264).length ≤ 1000000 := by omega
          refine ⟨_, rfl, ⟨_, (SqL.of oH408)⟩, comp_list (K := K) (a := p121) (xs := kv263) (fun i acc H' => Ex8 fun (F409 : Hp) (kv410 : List V) (rows411 : List ((List (Str × Rat)) × Str × Rat × Int × Int)) (kv412 : List V) (numbers413 : List Int) (kv414 : List V) (weights415 : List Rat) (ts416 : List ((List (Str × Rat)) × Str × Rat × Int × Int)) => Cj22 (True) (Gr0 (fun _ => none) H F409 H') (Fz S0 F409) (Le F379 F409) (H' p112 = some (.lst kv410)) (F409 p112 = none) (Al (r5 K (rD (rFr K)) rS (rFr K) rI rI) F409 kv410 rows411) (ts109 = rows411) (acc104 = kv410) (H' p121 = some (.lst kv412)) (F409 p121 = none) (Al rI F409 kv412 numbers413) (m264 = numbers413) (kv263 = kv412) (H' p396 = some (.lst kv414)) (F409 p396 = none) (Al (rFr K) F409 kv414 weights415) (ts387 = weights415) (acc378 = kv414) (Al (r5 K (rD (rFr K)) rS (rFr K) rI rI) F409 acc ts416) (ts416.length ≤ i) ((ts416.length = i ∧ ∀ r ∈ ts416, Row33 r))) ?_ ?_ ?_ ?_⟩
          · exact ⟨F379, _, ts109, _, m264, _, ts387, [], True.intro, gb399, cm381, Le.refl _, oH406, oF391, dk392, rfl, rfl, oH408, oF394, dk395, rfl, rfl, oH403, oF402, al388, rfl, rfl, (show Al (r5 K (rD (rFr K)) rS (rFr K) rI rI) F379 [] [] from True.intro), (by first | (simp; done) | (rw [List.length_append]; simp only [List.length_cons, List.length_nil]; omega) | omega), by exact ⟨rfl, fun r h => (by cases h)⟩⟩
          · rintro i acc H418 _ ⟨F419, kv423, m424, kv425, m426, kv427, m428, ts429, _, gb420, cm421, le422, oH432, oF433, dk434, rfl, rfl, oH435, oF436, dk437, rfl, rfl, oH438, oF439, dk440, rfl, rfl, al430, tl431, ⟨cl, hC⟩⟩
            exact (SqL.of oH435)
          · rintro i441 y444 acc445 H442 hi443 ⟨F446, kv450, m451, kv452, m453, kv454, m455, ts456, _, gb447, cm448, le449, oH459, oF460, dk461, rfl, rfl, oH462, oF463, dk464, rfl, rfl, oH465, oF466, dk467, rfl, rfl, al457, tl458, ⟨cl, hC⟩⟩
            obtain ⟨x468, hx469, hr470⟩ := Al.get dk464 hi443
            have hil := (List.getElem?_eq_some_iff.mp hx469).1
            refine a_name ?_
            obtain rfl : y444 = V.int x468 := hr470
            refine ⟨Wk.non (Wk.som (Wk.nil)), ?_⟩
            try dsimp only
            have u1 := hN _ (List.mem_of_getElem? hx469)
            refine a_yes ?_
            refine iteT ?_
            refine a_op ?_
            refine a_var rfl ?_
            refine a_var rfl ?_
            obtain ⟨x472, v471, h473, h474, h475⟩ := Al.ix dk461 (i := x468) (by walk_at "o") (by walk_at "ol")
            refine a_ixL (SqL.of oH459) h474 ?_
            have hr9 := h473
            obtain ⟨a476, v478, v479, v480, v481, v482, rfl, sq477, h483, h484, h485, h486, h487⟩ := h475
            obtain ⟨a488, kvs489, rfl, rd490, dk491, nd492⟩ := h483
            obtain rfl : v479 = V.str x472.2.1 := h484
            obtain ⟨a493, rfl, sq494⟩ := h485
            obtain rfl : v481 = V.int x472.2.2.2.1 := h486
            obtain rfl : v482 = V.int x472.2.2.2.2 := h487
            refine ⟨by rw [Al.length al457]; have := sizeLine_big; omega, ?_⟩
            exact ⟨F446, _, ts109, _, m264, _, ts387, (ts456 ++ [x472]), True.intro, gb447, cm448, le449, oH459, oF460, dk461, rfl, rfl, oH462, oF463, dk464, rfl, rfl, oH465, oF466, dk467, rfl, rfl, (Al.snoc al457 ⟨_, _, _, _, _, _, rfl, sq477, ⟨_, _, rfl, rd490, dk491, nd492⟩, rfl, ⟨_, rfl, sq494⟩, rfl, rfl⟩), (by first | (simp; done) | (rw [List.length_append]; simp only [List.length_cons, List.length_nil]; omega) | omega), by exact ⟨by rw [List.length_append, cl]; rfl, ap_all hC (hRo _ (List.mem_of_getElem? hr9))⟩⟩
          · rintro acc496 H495 ⟨F497, kv501, m502, kv503, m504, kv505, m506, ts507, _, gb498, cm499, le500, oH510, oF511, dk512, rfl, rfl, oH513, oF514, dk515, rfl, rfl, oH516, oF517, dk518, rfl, rfl, al508, tl509, ⟨cl, hC⟩⟩
            have hlen := Al.length dk515
            refine ⟨(by rw [Al.length al508]; have := sizeLine_big; omega), fun p519 hp520 => ?_⟩
            obtain ⟨F521, g523, e524⟩ := al2 (o := (.lst acc496)) gb498.s (by intro _ _ z; cases z) hp520
            generalize upd H495 p519 (.lst acc496) = H522 at g523 ⊢
            have gb525 := gb498.tr g523
            have le526 := g523.le
            have oH527 := g523.h _ _ oH510
            have oF528 := g523.own oF511 oH510
            have oH529 := g523.h _ _ oH513
            have oF530 := g523.own oF514 oH513
            have oH531 := g523.h _ _ oH516
            have oF532 := g523.own oF517 oH516
            have cm533 := g523.fz cm499
            rw [hlen] at cl
            refine a_cons ?_
            refine a_var rfl ?_
            refine a_nil ?_
            refine ⟨F521, _, _, ts507, ts387, _, _, rfl, gb525.s, ⟨_, _, rfl, (SqL.of e524), (Al.mo le526 al508)⟩, rfl, oH531, oF532, (Al.mo le526 dk518), (by exact ⟨by omega, by omega, fun r h => (hC r h).nm, hw⟩), ?_⟩
            rintro F534 H535  v538 r539 g536  hr540 hp537
            have hl544 := hl1 hb401
            have gb541 := hdn_tr gb525 g536 hl544
            have le542 := Le.of g536.f
            have cm543 := g536.fz cm533
            have hq545 := hdn_at (nm1 ne405) oH527
            have oH546 := g536.h _ _ hq545
            have oF547 := g536.own oF528 hq545
            have hq548 := hdn_at (nm1 ne407) oH529
            have oH549 := g536.h _ _ hq548
            have oF550 := g536.own oF530 hq548
            obtain ⟨p551, vs552, rfl, hn553, oH554, oF555, al556⟩ := hr540
            have hb557 := hdn_no gb525 hl544 hn553
            have ne558 := ne_of_none hq545 hn553
            have ne559 := ne_of_none hq548 hn553
            obtain ⟨hw2, wl2⟩ := hp537
            refine a_name ?_
            try dsimp only
            refine a_seqM (fun σ' H' => Ex7 fun (F560 : Hp) (kv561 : List V) (rows562 : List ((List (Str × Rat)) × Str × Rat × Int × Int)) (kv563 : List V) (numbers564 : List Int) (kv565 : List V) (weights566 : List Rat) => Cj14 (σ' = [some (V.ref a), some (V.int rz4), some (V.ref p25), some (V.ref p112), some (V.ref p121), o265, o266, some (V.ref p551), none, none]) (Gr0 (fun _ => none) H F560 H') (Fz S0 F560) (Le F534 F560) (H' p112 = some (.lst kv561)) (F560 p112 = none) (Al (r5 K (rD (rFr K)) rS (rFr K) rI rI) F560 kv561 rows562) (H' p121 = some (.lst kv563)) (F560 p121 = none) (Al rI F560 kv563 numbers564) (H' p551 = some (.lst kv565)) (F560 p551 = none) (Al (rFr K) F560 kv565 weights566) (((rows562.length ≤ 11 ∧ numbers564.length ≤ 11 ∧ weights566.length ≤ 11) ∧ (∀ r ∈ rows562, Row33 r) ∧ (∀ k ∈ numbers564, 0 ≤ k) ∧ (∀ q ∈ weights566, bs q ≤ 600) ∧ wsum weights566 ≤ 2360))) (fun R hR => ?_) ?_
            · refine a_if ?_
              refine a_test ?_
              refine a_op ?_
              refine a_op ?_
              refine a_call ?_
              refine a_cons ?_
              refine a_var rfl ?_
              refine a_cons ?_
              refine a_c ?_
              refine a_nil ?_
              refine ⟨F534, _, _, rz4, 21, rfl, gb541.s, rfl, rfl, ?_⟩
              rintro v567 F568 H569 r570 g571 hr572 hp573
              have gb574 := gb541.tr g571
              have le575 := g571.le
              have oH576 := g571.h _ _ oH546
              have oF577 := g571.own oF547 oH546
              have oH578 := g571.h _ _ oH549
              have oF579 := g571.own oF550 oH549
              have oH580 := g571.h _ _ oH554
              have oF581 := g571.own oF555 oH554
              have cm582 := g571.fz cm543
              obtain rfl : v567 = V.int r570 := hr572
              refine a_c ?_
              refine a_I (by decide) ?_
              have m583 : 0 ≤ (r570 % 8) ∧ (r570 % 8) < 8 := ⟨Int.emod_nonneg _ (by decide), Int.emod_lt_of_pos _ (by decide)⟩
              refine a_c ?_
              refine a_I0 ?_
              refine a_bl ?_
              refine iteD (fun c584 => ?_) (fun c584 => ?_)
              · refine a_drop ?_
                refine a_call ?_
                refine a_cons ?_
                refine a_var rfl ?_
                refine a_cons ?_
                refine a_var rfl ?_
                refine a_cons ?_
                refine a_var rfl ?_
                refine a_cons ?_
                refine a_var rfl ?_
                refine a_cons ?_
                refine a_call ?_
                refine a_cons ?_
                refine a_var rfl ?_
                refine a_cons ?_
                refine a_c ?_
                refine a_nil ?_
                refine ⟨F568, _, _, rz4, 22, rfl, gb574.s, rfl, rfl, ?_⟩
                rintro v585 F586 H587 r588 g589 hr590 hp591
                have gb592 := gb574.tr g589
                have le593 := g589.le
                have oH594 := g589.h _ _ oH576
                have oF595 := g589.own oF577 oH576
                have oH596 := g589.h _ _ oH578
                have oF597 := g589.own oF579 oH578
                have oH598 := g589.h _ _ oH580
                have oF599 := g589.own oF581 oH580
                have cm600 := g589.fz cm582
                obtain rfl : v585 = V.int r588 := hr590
                refine a_nil ?_
                refine ⟨F586, _, _, _, _, _, ts109, (cutA [("x" : Str), ("left b" : Str), ("width c" : Str)] none (some (1 + (rz4 % 3)))), m264, r539, r588, _, _, _, _, _, _, rfl, gb592.s, ⟨_, _, rfl, (Le.lst ((((((((le43.trans le108).trans le260).trans le382).trans le500).trans le526).trans le542).trans le575).trans le593) (SqL.of e30)), (Al.mo ((((((((le43.trans le108).trans le260).trans le382).trans le500).trans le526).trans le542).trans le575).trans le593) al34)⟩, rfl, rfl, oH594, oF595, (Al.mo (((le526.trans le542).trans le575).trans le593) dk512), rfl, oH596, oF597, (Al.mo (((le526.trans le542).trans le575).trans le593) dk515), rfl, oH598, oF599, (Al.mo (le575.trans le593) al556), ne130, ne558, ne559, (by exact ⟨by omega, by omega, by omega, hm2, hRo, hN, hw2⟩), ?_⟩
                rintro F601 H602 kw608 m609 kw613 m614 kw618 m619  g603 oH610 oF611 al612 oH615 oF616 al617 oH620 oF621 al622  hp604
                have hl626 := hl3 hb117 hb126 hb557
                have gb623 := hdn_tr gb592 g603 hl626
                have le624 := Le.of g603.f
                have cm625 := g603.fz cm600
                have hev := hp604
                try dsimp only
                exact hR _ _ ⟨F601, _, m609, _, m614, _, m619, rfl, gb623, cm625, ((le575.trans le593).trans le624), oH610, oF611, al612, oH615, oF616, al617, oH620, oF621, al622, by first | exact hev | exact ⟨⟨by omega, by omega, by omega⟩, hRo, fun k h => (hN k h).1, fun q h => Nat.le_trans (hw2 q h) (by decide), Nat.le_trans (wsum_le hw2) (by omega)⟩⟩
              · refine a_next ?_
                try dsimp only
                exact hR _ _ ⟨F568, _, ts109, _, m264, _, r539, rfl, gb574, cm582, le575, oH576, oF577, (Al.mo ((le526.trans le542).trans le575) dk512), oH578, oF579, (Al.mo ((le526.trans le542).trans le575) dk515), oH580, oF581, (Al.mo le575 al556), by first | exact hev | exact ⟨⟨by omega, by omega, by omega⟩, hRo, fun k h => (hN k h).1, fun q h => Nat.le_trans (hw2 q h) (by decide), Nat.le_trans (wsum_le hw2) (by omega)⟩⟩
            · rintro σ' H627 ⟨F628, kv632, m633, kv634, m635, kv636, m637, rfl, gb629, cm630, le631, oH638, oF639, dk640, oH641, oF642, dk643, oH644, oF645, dk646, ⟨⟨j1, j2, j3⟩, j4, j5, j6, j7⟩⟩
              refine a_seq ?_
              refine a_asg ?_
              refine a_call ?_
              refine a_cons ?_
              refine a_var rfl ?_
              refine a_cons ?_
              refine a_var rfl ?_
              refine a_cons ?_
              refine a_var rfl ?_
              refine a_cons ?_
              refine a_call ?_
              refine a_cons ?_
              refine a_var rfl ?_
              refine a_cons ?_
              refine a_c ?_
              refine a_nil ?_
              refine ⟨F628, _, _, rz4, 23, rfl, gb629.s, rfl, rfl, ?_⟩
              rintro v647 F648 H649 r650 g651 hr652 hp653
              have gb654 := gb629.tr g651
              have le655 := g651.le
              have oH656 := g651.h _ _ oH638
              have oF657 := g651.own oF639 oH638
              have oH658 := g651.h _ _ oH641
              have oF659 := g651.own oF642 oH641
              have oH660 := g651.h _ _ oH644
              have oF661 := g651.own oF645 oH644
              have cm662 := g651.fz cm630
              obtain rfl : v647 = V.int r650 := hr652
              refine a_nil ?_
              obtain ⟨F663, gb664, cm665, le666s, e667, ne668⟩ := frz gb654 cm662 hb117 oF657 oH656 (by intro _ _ z; cases z)
              have le666 := Le.of le666s
              have oF669 := (ne668 _ (Ne.symm ne130)).trans oF659
              have oF670 := (ne668 _ (Ne.symm ne558)).trans oF661
              obtain ⟨F671, gb672, cm673, le674s, e675, ne676⟩ := frz gb664 cm665 hb126 oF669 oH658 (by intro _ _ z; cases z)
              have le674 := Le.of le674s
              have oF677 := (ne676 _ (Ne.symm ne559)).trans oF670
              refine ⟨F671, _, _, _, _, m633, m635, m637, r650, _, _, rfl, gb672.s, ⟨_, _, rfl, (Le.lst le674 (SqL.of e667)), (Al.mo le674 (Al.mo (le655.trans le666) dk640))⟩, ⟨_, _, rfl, (SqL.of e675), (Al.mo ((le655.trans le666).trans le674) dk643)⟩, rfl, rfl, oH660, oF677, (Al.mo ((le655.trans le666).trans le674) dk646), (by exact ⟨j1, j2, j3, j5, j6, j7⟩), ?_⟩
              rintro F678 H679  v682 r683 g680  hr684 hp681
              have hl688 := hl1 hb557
              have gb685 := hdn_tr gb672 g680 hl688
              have le686 := Le.of g680.f
              have cm687 := g680.fz cm673
              obtain ⟨a689, v691, v692, rfl, sq690, h693, h694⟩ := hr684
              obtain ⟨a695, vs696, rfl, sq697, al698⟩ := h693
              obtain ⟨a699, vs700, rfl, sq701, al702⟩ := h694
              obtain ⟨⟨p1, p2⟩, p3, p4⟩ := hp681
              refine a_gtup2 (Same.tup gb685.s sq690) ?_
              try dsimp only
              refine a_seq ?_
              refine a_asg ?_
              refine a_tup ?_
              refine a_cons ?_
              refine a_cb ?_
              refine a_cons ?_
              refine a_var rfl ?_
              refine a_nil ?_
              have al703 := (Al.mo (le674.trans le686) (Al.mo (le655.trans le666) dk640))
              refine ⟨_, _, rfl, .inl (Same.seq gb685.s (Le.lst (le674.trans le686) (SqL.of e667))), fun p704 hp705 => ?_⟩
              obtain ⟨F706, g708, e709⟩ := al2 (o := (.lst kv632)) gb685.s (by intro _ _ z; cases z) hp705
              generalize upd H679 p704 (.lst kv632) = H707 at g708 ⊢
              have gb710 := gb685.tr g708
              have le711 := g708.le
              have cm712 := g708.fz cm687
              refine a_cons ?_
              refine a_cb ?_
              refine a_cons ?_
              refine a_var rfl ?_
              refine a_nil ?_
              have al713 := (Al.mo ((((((((((((le43.trans le108).trans le260).trans le382).trans le500).trans le526).trans le542).trans le631).trans le655).trans le666).trans le674).trans le686).trans le711) al34)
              refine ⟨_, _, rfl, .inl (Same.seq gb710.s (Le.lst ((((((((((((le43.trans le108).trans le260).trans le382).trans le500).trans le526).trans le542).trans le631).trans le655).trans le666).trans le674).trans le686).trans le711) (SqL.of e30))), fun p714 hp715 => ?_⟩
              obtain ⟨F716, g718, e719⟩ := al2 (o := (.lst (cutV [V.str ("x" : Str), V.str ("left b" : Str), V.str ("width c" : Str)] none (some (1 + (rz4 % 3)))))) gb710.s (by intro _ _ z; cases z) hp715
              generalize upd H707 p714 (.lst (cutV [V.str ("x" : Str), V.str ("left b" : Str), V.str ("width c" : Str)] none (some (1 + (rz4 % 3))))) = H717 at g718 ⊢
              have gb720 := gb710.tr g718
              have le721 := g718.le
              have cm722 := g718.fz cm712
              refine a_cons ?_
              refine a_cb ?_
              refine a_cons ?_
              refine a_var rfl ?_
              refine a_nil ?_
              have al723 := (Al.mo (le711.trans le721) al698)
              refine ⟨_, _, rfl, .inl (Same.seq gb720.s (Le.lst (le711.trans le721) sq697)), fun p724 hp725 => ?_⟩
              obtain ⟨F726, g728, e729⟩ := al2 (o := (.lst vs696)) gb720.s (by intro _ _ z; cases z) hp725
              generalize upd H717 p724 (.lst vs696) = H727 at g728 ⊢
              have gb730 := gb720.tr g728
              have le731 := g728.le
              have cm732 := g728.fz cm722
              refine a_cons ?_
              refine a_cb ?_
              refine a_cons ?_
              refine a_var rfl ?_
              refine a_nil ?_
              have al733 := (Al.mo ((le711.trans le721).trans le731) al702)
              refine ⟨_, _, rfl, .inl (Same.seq gb730.s (Le.lst ((le711.trans le721).trans le731) sq701)), fun p734 hp735 => ?_⟩
              obtain ⟨F736, g738, e739⟩ := al2 (o := (.lst vs700)) gb730.s (by intro _ _ z; cases z) hp735
              generalize upd H727 p734 (.lst vs700) = H737 at g738 ⊢
              have gb740 := gb730.tr g738
              have le741 := g738.le
              have cm742 := g738.fz cm732
              refine a_nil ?_
              refine ⟨by show 4 ≤ sizeLine; decide, fun p743 hp744 => ?_⟩
              obtain ⟨F745, g747, e748⟩ := al2 (o := (.tup [V.ref p704, V.ref p714, V.ref p724, V.ref p734])) gb740.s (by intro _ _ z; cases z) hp744
              generalize upd H737 p743 (.tup [V.ref p704, V.ref p714, V.ref p724, V.ref p734]) = H746 at g747 ⊢
              have gb749 := gb740.tr g747
              have le750 := g747.le
              have cm751 := g747.fz cm742
              refine a_name ?_
              try dsimp only
              refine a_seq ?_
              refine a_asg ?_
              refine a_call ?_
              refine a_cons ?_
              refine a_op ?_
              refine a_var rfl ?_
              refine a_c ?_
              refine a_ixT (Same.tup gb749.s (SqT.of e748)) rfl ?_
              refine a_cons ?_
              refine a_op ?_
              refine a_var rfl ?_
              refine a_c ?_
              refine a_ixT (Same.tup gb749.s (SqT.of e748)) rfl ?_
              refine a_cons ?_
              refine a_op ?_
              refine a_var rfl ?_
              refine a_c ?_
              refine a_ixT (Same.tup gb749.s (SqT.of e748)) rfl ?_
              refine a_cons ?_
              refine a_op ?_
              refine a_var rfl ?_
              refine a_c ?_
              refine a_ixT (Same.tup gb749.s (SqT.of e748)) rfl ?_
              refine a_nil ?_
              refine ⟨F745, _, _, _, _, m633, (cutA [("x" : Str), ("left b" : Str), ("width c" : Str)] none (some (1 + (rz4 % 3)))), r683.1, r683.2, rfl, gb749.s, ⟨_, _, rfl, (Le.lst (((le721.trans le731).trans le741).trans le750) (SqL.of e709)), (Al.mo (((le721.trans le731).trans le741).trans le750) (Al.mo le711 al703))⟩, ⟨_, _, rfl, (Le.lst ((le731.trans le741).trans le750) (SqL.of e719)), (Al.mo ((le731.trans le741).trans le750) (Al.mo le721 al713))⟩, ⟨_, _, rfl, (Le.lst (le741.trans le750) (SqL.of e729)), (Al.mo (le741.trans le750) (Al.mo le731 al723))⟩, ⟨_, _, rfl, (Le.lst le750 (SqL.of e739)), (Al.mo le750 (Al.mo le741 al733))⟩, (by exact ⟨by omega, p1, p2, by omega, p3, p4, fun r h => Nat.le_trans (j4 r h).nm (by decide), fun r h x y e => Nat.le_trans ((j4 r h).pt x y e) (by decide)⟩), ?_⟩
              rintro v752 F753 H754  g756 hr757 
              have gb759 := gb749.tr g756
              have le760 := g756.le
              have cm761 := g756.fz cm751
              obtain rfl : v752 = V.bl (clashB m633 ((cutA [("x" : Str), ("left b" : Str), ("width c" : Str)] none (some (1 + (rz4 % 3))))) r683.1 r683.2) := hr757
              refine a_name ?_
              try dsimp only
              refine a_seq ?_
              refine a_if ?_
              refine a_test ?_
              refine a_op ?_
              refine a_var rfl ?_
              refine a_tup ?_
              refine a_cons ?_
              refine a_var rfl ?_
              refine a_cons ?_
              refine a_var rfl ?_
              refine a_cons ?_
              refine a_var rfl ?_
              refine a_cons ?_
              refine a_var rfl ?_
              refine a_nil ?_
              refine ⟨by show 4 ≤ sizeLine; decide, fun p762 hp763 => ?_⟩
              obtain ⟨F764, g766, e767⟩ := al2 (o := (.tup [V.ref p112, V.ref p25, V.ref a695, V.ref a699])) gb759.s (by intro _ _ z; cases z) hp763
              generalize upd H754 p762 (.tup [V.ref p112, V.ref p25, V.ref a695, V.ref a699]) = H765 at g766 ⊢
              have gb768 := gb759.tr g766
              have le769 := g766.le
              have cm770 := g766.fz cm761
              have hq771 : (r4 K (rL K (r5 K (rD (rFr K)) rS (rFr K) rI rI)) (rL K rS) (rL K rI) (rL K (rFr K))) F764 (V.ref p762) (m633, (cutA [("x" : Str), ("left b" : Str), ("width c" : Str)] none (some (1 + (rz4 % 3)))), r683.1, r683.2) := ⟨_, _, _, _, _, rfl, (SqT.of e767), ⟨_, _, rfl, (Le.lst ((((((((le674.trans le686).trans le711).trans le721).trans le731).trans le741).trans le750).trans le760).trans le769) (SqL.of e667)), (Al.mo ((((((((le674.trans le686).trans le711).trans le721).trans le731).trans le741).trans le750).trans le760).trans le769) (Al.mo (le655.trans le666) dk640))⟩, ⟨_, _, rfl, (Le.lst ((((((((((((((((((le43.trans le108).trans le260).trans le382).trans le500).trans le526).trans le542).trans le631).trans le655).trans le666).trans le674).trans le686).trans le711).trans le721).trans le731).trans le741).trans le750).trans le760).trans le769) (SqL.of e30)), (Al.mo ((((((((((((((((((le43.trans le108).trans le260).trans le382).trans le500).trans le526).trans le542).trans le631).trans le655).trans le666).trans le674).trans le686).trans le711).trans le721).trans le731).trans le741).trans le750).trans le760).trans le769) al34)⟩, ⟨_, _, rfl, (Le.lst ((((((le711.trans le721).trans le731).trans le741).trans le750).trans le760).trans le769) sq697), (Al.mo ((((((le711.trans le721).trans le731).trans le741).trans le750).trans le760).trans le769) al698)⟩, ⟨_, _, rfl, (Le.lst ((((((le711.trans le721).trans le731).trans le741).trans le750).trans le760).trans le769) sq701), (Al.mo ((((((le711.trans le721).trans le731).trans le741).trans le750).trans le760).trans le769) al702)⟩⟩
              refine a_neN (fun Q' q' => a_eqN4 (K := K) gb768.s (show (r4 K (rL K (r5 K (rD (rFr K)) rS (rFr K) rI rI)) (rL K rS) (rL K rI) (rL K (rFr K))) F764 (V.ref p743) (m633, (cutA [("x" : Str), ("left b" : Str), ("width c" : Str)] none (some (1 + (rz4 % 3)))), r683.1, r683.2) from ⟨_, _, _, _, _, rfl, (Le.tup (le760.trans le769) (SqT.of e748)), ⟨_, _, rfl, (Le.lst (((((le721.trans le731).trans le741).trans le750).trans le760).trans le769) (SqL.of e709)), (Al.mo (((((le721.trans le731).trans le741).trans le750).trans le760).trans le769) (Al.mo le711 al703))⟩, ⟨_, _, rfl, (Le.lst ((((le731.trans le741).trans le750).trans le760).trans le769) (SqL.of e719)), (Al.mo ((((le731.trans le741).trans le750).trans le760).trans le769) (Al.mo le721 al713))⟩, ⟨_, _, rfl, (Le.lst (((le741.trans le750).trans le760).trans le769) (SqL.of e729)), (Al.mo (((le741.trans le750).trans le760).trans le769) (Al.mo le731 al723))⟩, ⟨_, _, rfl, (Le.lst ((le750.trans le760).trans le769) (SqL.of e739)), (Al.mo ((le750.trans le760).trans le769) (Al.mo le741 al733))⟩⟩) hq771 (by decide) q') ?_
              refine a_bl ?_
              refine iteF ?_
              refine a_next ?_
              try dsimp only
              refine a_seq ?_
              refine a_if ?_
              refine a_tB ?_
              refine a_call ?_
              refine a_cons ?_
              refine a_var rfl ?_
              refine a_cons ?_
              refine a_var rfl ?_
              refine a_cons ?_
              refine a_var rfl ?_
              refine a_cons ?_
              refine a_var rfl ?_
              refine a_nil ?_
              refine ⟨F764, _, _, _, _, m633, (cutA [("x" : Str), ("left b" : Str), ("width c" : Str)] none (some (1 + (rz4 % 3)))), r683.1, r683.2, rfl, gb768.s, ⟨_, _, rfl, (Le.lst ((((((((le674.trans le686).trans le711).trans le721).trans le731).trans le741).trans le750).trans le760).trans le769) (SqL.of e667)), (Al.mo ((((((((le674.trans le686).trans le711).trans le721).trans le731).trans le741).trans le750).trans le760).trans le769) (Al.mo (le655.trans le666) dk640))⟩, ⟨_, _, rfl, (Le.lst ((((((((((((((((((le43.trans le108).trans le260).trans le382).trans le500).trans le526).trans le542).trans le631).trans le655).trans le666).trans le674).trans le686).trans le711).trans le721).trans le731).trans le741).trans le750).trans le760).trans le769) (SqL.of e30)), (Al.mo ((((((((((((((((((le43.trans le108).trans le260).trans le382).trans le500).trans le526).trans le542).trans le631).trans le655).trans le666).trans le674).trans le686).trans le711).trans le721).trans le731).trans le741).trans le750).trans le760).trans le769) al34)⟩, ⟨_, _, rfl, (Le.lst ((((((le711.trans le721).trans le731).trans le741).trans le750).trans le760).trans le769) sq697), (Al.mo ((((((le711.trans le721).trans le731).trans le741).trans le750).trans le760).trans le769) al698)⟩, ⟨_, _, rfl, (Le.lst ((((((le711.trans le721).trans le731).trans le741).trans le750).trans le760).trans le769) sq701), (Al.mo ((((((le711.trans le721).trans le731).trans le741).trans le750).trans le760).trans le769) al702)⟩, (by exact ⟨by omega, p1, p2, by omega, p3, p4, j4⟩), ?_⟩
              rintro v772 F773 H774  g776 hr777 
              have gb779 := gb768.tr g776
              have le780 := g776.le
              have cm781 := g776.fz cm770
              obtain rfl : v772 = V.bl (clashB m633 ((cutA [("x" : Str), ("left b" : Str), ("width c" : Str)] none (some (1 + (rz4 % 3))))) r683.1 r683.2) := hr777
              refine a_bl ?_
              refine iteB (fun c782 => ?_) (fun c782 => ?_)
              · refine a_ret ?_
                refine a_op ?_
                refine a_var rfl ?_
                refine a_c ?_
                refine ⟨_, _, rfl, rfl, ?_⟩
                rw [show ((clashB m633 ((cutA [("x" : Str), ("left b" : Str), ("width c" : Str)] none (some (1 + (rz4 % 3))))) r683.1 r683.2) == true) = true from by rw [c782]; rfl]
                exact k _
              · refine a_next ?_
                try dsimp only
                refine a_ret ?_
                refine a_op ?_
                refine a_var rfl ?_
                refine a_c ?_
                refine ⟨_, _, rfl, rfl, ?_⟩
                rw [show ((clashB m633 ((cutA [("x" : Str), ("left b" : Str), ("width c" : Str)] none (some (1 + (rz4 % 3))))) r683.1 r683.2) == false) = true from by rw [c782]; rfl]
                exact k _
end
theorem walk {l : PySem.W.OpenLaw} {q : Program} {loose : List Str} {XP : (Str → Option Value) → Heap → Prop} {YP : World → Heap → Prop} {d : DefRec} {K : Params → PySem.W.Frag} (hn : l.most = some 63) (hdf : d.params.defaults = []) (hnm : d.name = "law")
    (hY : ∀ (w : World) (h : Heap), YP w h → (K w.params).In h)
    (F : ∀ (w : World) (mg : Str → Option Value) (h : Heap), (K w.params).In h → h.Ns mainGlobals mg → Nonempty (Tx (K w.params) mg)) :
    PySem.W.WalkO q loose XP YP l.row.toRowW d [] (fun f vs => PySem.call f vs) := by
  refine L2.walk_of (n := 63) (k := 9) (x := "_law_script") (CX := fun _ => CX0) (sp := fun w => sp_law (K w.params)) hn (by decide) hdf ⟨rfl, by decide, by decide⟩ hY ?_ (fun _ _ a ns hl _ hS => ⟨a, ns, rfl, hS, hl, fun _ => rfl⟩) fun _ _ _ _ _ z => z
  intro w mg fa h KX G hmg
  obtain ⟨T⟩ := F w mg h KX G
  rw [hnm] at hmg
  have e := hmg.symm.trans T.m_law
  cases e
  refine ⟨T.d_law, fun s v => ?_, fun base _ _ => ok_law T⟩
  obtain ⟨oc, od, kV, doc, pm, an, cdv, ct, osl, hfd, lk, hcd⟩ := T.F_law.ex
  rw [hfd]
  exact .of_eq rfl
end Sf
open PySem PySem.W PyProof.Rows
set_option maxRecDepth 100000 in
set_option maxHeartbeats 0 in
theorem PySem.Challenge.cw_springframe_k33_weights_that_show_a_clas_holds : PySem.Challenge.rw_springframe_k33_weights_that_show_a_clas.Holds := by
  w_on; o_law; k_head; (case hw => w_witness2)
  k_fill
  refine Sf.walk (l := PySem.Challenge.rw_springframe_k33_weights_that_show_a_clas) rfl rfl rfl (fun w h Y => PySem.W.kIn_of Y) ?F
  case F =>
    intro w mg h KX G
    refine' ⟨Sf.tx_mk KX G ?e0 ?l0 ?c0 ?k0 ?e1 ?l1 ?c1 ?k1 ?e2 ?l2 ?c2 ?k2 ?e3 ?l3 ?c3 ?k3 ?e4 ?l4 ?c4 ?k4 ?e5 ?l5 ?c5 ?k5 ?e6 ?l6 ?c6 ?k6 ?e7 ?l7 ?c7 ?k7 ?e8 ?l8 ?c8 ?k8 ?e9 ?l9 ?c9 ?k9 ?e10 ?l10 ?c10 ?k10 ?e11 ?l11 ?c11 ?k11 ?e12 ?l12 ?c12 ?k12 ?e13 ?l13 ?c13 ?k13 ?e14 ?l14 ?c14 ?k14 ?e15 ?l15 ?c15 ?k15 ?e16 ?l16 ?c16 ?k16 ?e17 ?l17 ?c17 ?k17 ?e18 ?l18 ?c18 ?k18 ?e19 ?l19 ?c19 ?k19 ?e20 ?l20 ?c20 ?k20 ?e21 ?l21 ?c21 ?k21 ?n0 ?o0 ?yi_MUST ?z0 ?z1 ?z2 ?z3 ?z4 ?z5 ?z6 ?z7 ?z8 ?z9 ?z10 ?z11 ?z12 ?z13⟩
    (case e0 => k_is)
    (case l0 => k_is)
    (case c0 => k_is)
    (case k0 => k_is)
    (case e1 => k_is)
    (case l1 => k_is)
    (case c1 => k_is)
    (case k1 => k_is)
    (case e2 => k_is)
    (case l2 => k_is)
    (case c2 => k_is)
    (case k2 => k_is)
    (case e3 => k_is)
    (case l3 => k_is)
    (case c3 => k_is)
    (case k3 => k_is)
    (case e4 => k_is)
    (case l4 => k_is)
    (case c4 => k_is)
    (case k4 => k_is)
    (case e5 => k_is)
    (case l5 => k_is)
    (case c5 => k_is)
    (case k5 => k_is)
    (case e6 => k_is)
    (case l6 => k_is)
    (case c6 => k_is)
    (case k6 => k_is)
    (case e7 => k_is)
    (case l7 => k_is)
    (case c7 => k_is)
    (case k7 => k_is)
    (case e8 => k_is)
    (case l8 => k_is)
    (case c8 => k_is)
    (case k8 => k_is)
    (case e9 => k_is)
    (case l9 => k_is)
    (case c9 => k_is)
    (case k9 => k_is)
    (case e10 => k_is)
    (case l10 => k_is)
    (case c10 => k_is)
    (case k10 => k_is)
    (case e11 => k_is)
    (case l11 => k_is)
    (case c11 => k_is)
    (case k11 => k_is)
    (case e12 => k_is)
    (case l12 => k_is)
    (case c12 => k_is)
    (case k12 => k_is)
    (case e13 => k_is)
    (case l13 => k_is)
    (case c13 => k_is)
    (case k13 => k_is)
    (case e14 => k_is)
    (case l14 => k_is)
    (case c14 => k_is)
    (case k14 => k_is)
    (case e15 => k_is)
    (case l15 => k_is)
    (case c15 => k_is)
    (case k15 => k_is)
    (case e16 => k_is)
    (case l16 => k_is)
    (case c16 => k_is)
    (case k16 => k_is)
    (case e17 => k_is)
    (case l17 => k_is)
    (case c17 => k_is)
    (case k17 => k_is)
    (case e18 => k_is)
    (case l18 => k_is)
    (case c18 => k_is)
    (case k18 => k_is)
    (case e19 => k_is)
    (case l19 => k_is)
    (case c19 => k_is)
    (case k19 => k_is)
    (case e20 => k_is)
    (case l20 => k_is)
    (case c20 => k_is)
    (case k20 => k_is)
    (case e21 => k_is)
    (case l21 => k_is)
    (case c21 => k_is)
    (case k21 => k_is)
    (case n0 => k_is)
    (case o0 => k_is)
    (case yi_MUST => k_is)
    (case z0 => k_is)
    (case z1 => k_is)
    (case z2 => k_is)
    (case z3 => k_is)
    (case z4 => k_is)
    (case z5 => k_is)
    (case z6 => k_is)
    (case z7 => k_is)
    (case z8 => k_is)
    (case z9 => k_is)
    (case z10 => k_is)
    (case z11 => k_is)
    (case z12 => k_is)
    (case z13 => k_is)
#print axioms PySem.Challenge.cw_springframe_k33_weights_that_show_a_clas_holds

