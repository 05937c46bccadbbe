import PyProof.Rows.All
import Wide.All
import OpenK.AllK
import Wide.FinOn
import Lean
import PyProof.EqAt
import PyProof.EqKinds
import PyProof.TupleCall
import PySem.Challenge.RW_springframe_k81_drawings
set_option Elab.async false
set_option linter.all false
set_option maxRecDepth 100000
namespace L2
open PySem PySem.Spec PyProof.Rows
abbrev Key := Sum Int Str
def keyIs : Key → Value → Bool
  | .inl k, v => Value.isInt k v
  | .inr x, v => Value.isStrOf x v
def keyH (w : World) : Key → Int
  | .inl k => hashInt k
  | .inr x => hashStr w x
theorem keyIs_shape : ∀ {k : Key} {v : Value}, keyIs k v = true → (∃ i t, k = Sum.inl i ∧ v = Value.int i t) ∨ (∃ x t, k = Sum.inr x ∧ v = Value.str x t)
  | .inl i, v, h => by
    obtain ⟨t, e⟩ := Value.isInt_shape (k := i) (v := v) h
    exact .inl ⟨i, t, rfl, e⟩
  | .inr x, v, h => by
    obtain ⟨t, e⟩ := Value.isStrOf_shape (x := x) (v := v) h
    exact .inr ⟨x, t, rfl, e⟩
theorem keyIs_int (i : Int) (t : Tok) : keyIs (.inl i) (.int i t) = true := by simp [keyIs, Value.isInt]
theorem keyIs_str (x : Str) (t : Tok) : keyIs (.inr x) (.str x t) = true := by simp [keyIs, Value.isStrOf]
theorem key_ll (a b : Int) : decide ((Sum.inl a : Key) = Sum.inl b) = (a == b) := by
  by_cases e : a = b
  · subst e; simp
  · have h : ¬ (Sum.inl a : Key) = Sum.inl b := fun q => e (Sum.inl.inj q)
    rw [decide_eq_false h]
    exact (beq_eq_false_iff_ne.mpr e).symm
theorem key_rr (a b : Str) : decide ((Sum.inr a : Key) = Sum.inr b) = decide (a = b) := by
  by_cases e : a = b
  · subst e; simp
  · have h : ¬ (Sum.inr a : Key) = Sum.inr b := fun q => e (Sum.inr.inj q)
    rw [decide_eq_false h, decide_eq_false e]
theorem key_lr (a : Int) (b : Str) : decide ((Sum.inl a : Key) = Sum.inr b) = false := decide_eq_false (fun q => nomatch q)
theorem key_rl (a : Str) (b : Int) : decide ((Sum.inr a : Key) = Sum.inl b) = false := decide_eq_false (fun q => nomatch q)
def mixKind (prog : Program) (w : World) : PySem.KeyKind prog w Key where
  is := keyIs
  hash := keyH w
  inj := fun v a b ha hb => by
    rcases keyIs_shape ha with ⟨i, t, rfl, rfl⟩ | ⟨x, t, rfl, rfl⟩
    · rcases keyIs_shape hb with ⟨j, u, rfl, e⟩ | ⟨y, u, rfl, e⟩
      · injection e with e1 _; rw [e1]
      · exact nomatch e
    · rcases keyIs_shape hb with ⟨j, u, rfl, e⟩ | ⟨y, u, rfl, e⟩
      · exact nomatch e
      · injection e with e1 _; rw [e1]
  byValue := fun k v h => by
    rcases keyIs_shape h with ⟨i, t, rfl, rfl⟩ | ⟨x, t, rfl, rfl⟩ <;> rfl
  pyHash := fun hv h => by
    rcases keyIs_shape hv with ⟨i, t, rfl, rfl⟩ | ⟨x, t, rfl, rfl⟩
    · exact wpAny_pyHash_int h
    · exact wpAny_pyHash_str h
  eqBool := fun hu hv h => by
    rcases keyIs_shape hu with ⟨i, t, rfl, rfl⟩ | ⟨x, t, rfl, rfl⟩
    · rcases keyIs_shape hv with ⟨j, u, rfl, rfl⟩ | ⟨y, u, rfl, rfl⟩
      · rw [key_ll] at h; exact wpAny_eqBool_int h
      · rw [key_lr] at h; exact SeqAt.EqAt.int_str i t y u _ _ _ _ h
    · rcases keyIs_shape hv with ⟨j, u, rfl, rfl⟩ | ⟨y, u, rfl, rfl⟩
      · rw [key_rl] at h; exact SeqAt.EqAt.str_int x t j u _ _ _ _ h
      · rw [key_rr] at h; exact wpAny_eqBool_str h
  «strs» := fun k x t v h => by
    rcases keyIs_shape h with ⟨i, u, rfl, e⟩ | ⟨y, u, rfl, e⟩
    · exact nomatch e
    · injection e with e1 _
      subst e1
      cases v <;> rfl
theorem mixKind_int (prog : Program) (w : World) (i : Int) (t : Tok) : (mixKind prog w).is (.inl i) (.int i t) = true := keyIs_int i t
theorem mixKind_str (prog : Program) (w : World) (x : Str) (t : Tok) : (mixKind prog w).is (.inr x) (.str x t) = true := keyIs_str x t
end L2
namespace L2
open PySem PySem.Spec PyProof.Rows
inductive V where
  | non | bl (b : Bool) | int (i : Int) | str (x : Str) | byt (b : Array UInt8) | flt (b : UInt64) | ref (a : Addr) | ty (n : String)
  deriving DecidableEq
def RelV : V → Value → Prop
  | .non, u => u = Value.none
  | .bl b, u => u = Value.bool b
  | .int i, u => ∃ t, u = Value.int i t
  | .str x, u => ∃ t, u = Value.str x t
  | .byt b, u => ∃ t, u = Value.bytes b t
  | .flt b, u => ∃ t, u = Value.float b t
  | .ref a, u => u = Value.ref a
  | .ty n, u => u = Value.type n
abbrev Vals : List V → List Value → Prop := Paired RelV
theorem Vals.length {xs : List V} {us : List Value} (r : Vals xs us) : xs.length = us.length := Paired.length r
theorem Vals.get : ∀ {xs : List V} {us : List Value} {i : Nat} {x : V}, Vals xs us → xs[i]? = some x → ∃ u, us[i]? = some u ∧ RelV x u
  | _, _, _, _, .nil, e => by simp at e
  | _, _, 0, _, .cons r _, e => by simp at e; subst e; exact ⟨_, rfl, r⟩
  | _, _, i + 1, x, .cons _ t, e => by
    obtain ⟨u, h1, h2⟩ := Vals.get (i := i) (x := x) t (by simpa using e)
    exact ⟨u, by simpa using h1, h2⟩
theorem Vals.set {x : V} {u : Value} (r : RelV x u) : ∀ {xs : List V} {us : List Value} (i : Nat), Vals xs us → Vals (xs.set i x) (us.set i u)
  | _, _, _, .nil => .nil
  | _, _, 0, .cons _ t => .cons r t
  | _, _, i + 1, .cons q t => .cons q (Vals.set r i t)
theorem Vals.append : ∀ {xs ys : List V} {us ws : List Value}, Vals xs us → Vals ys ws → Vals (xs ++ ys) (us ++ ws)
  | _, _, _, _, .nil, s => s
  | _, _, _, _, .cons r t, s => .cons r (Vals.append t s)
theorem Vals.take : ∀ {xs : List V} {us : List Value} (n : Nat), Vals xs us → Vals (xs.take n) (us.take n)
  | _, _, 0, _ => .nil
  | _, _, _ + 1, .nil => .nil
  | _, _, n + 1, .cons r t => .cons r (Vals.take n t)
theorem Vals.drop : ∀ {xs : List V} {us : List Value} (n : Nat), Vals xs us → Vals (xs.drop n) (us.drop n)
  | _, _, 0, r => r
  | _, _, _ + 1, .nil => .nil
  | _, _, n + 1, .cons _ t => Vals.drop n t
def RelO : Option V → Option Value → Prop
  | some v, some u => RelV v u
  | none, none => True
  | _, _ => False
def KV {κ : Type} : List (κ × V) → List (κ × Value) → Prop := Paired fun (p : κ × V) (q : κ × Value) => p.1 = q.1 ∧ RelV p.2 q.2
def kV : Key → V
  | .inl i => .int i
  | .inr x => .str x
inductive HO where
  /-- a list -/
  | lst (xs : List V)
  /-- a tuple (never changes) -/
  | tup (xs : List V)
  /-- a dict whose keys are ints and texts; one whose keys are tuples of ints and texts (the empty one is both) -/
  | dK (kvs : List (Key × V)) | dT (kvs : List (List Key × V))
  /-- a set of ints: its members, its size -/
  | set (S : Int → Bool) (n : Nat)
  /-- an instance of the class at C, its dict at dx, its attributes -/
  | ins (C dx : Addr) (fs : List (Str × V))
  /-- the dict of the instance at x -/
  | own (x : Addr)
  /-- the dict of an exception -/
  | xd (fs : List (Str × V))
  /-- a bound method, f of x -/
  | met (f x : Addr)
  /-- a range object lo, lo + 1, .. below hi -/
  | rng (lo hi : Int)
  /-- a thing that is known to the object (the script; a dict while a loop walks it): read, never written while it is so -/
  | frz (o : Obj) (u : HO)
  /-- a code object's table -/
  | tbl (ps : Array Value)
  /-- any other thing, by what is true of its one object (a def of one's own: SetO a S n := HO.ext fun h => ..) -/
  | ext (φ : Heap → Prop)
abbrev Hp := Addr → Option HO
def upd (H : Hp) (a : Addr) (o : HO) : Hp := fun b => if b = a then some o else H b
theorem upd_same {H : Hp} {a : Addr} {o : HO} : upd H a o a = some o := by unfold upd; rw [if_pos rfl]
theorem upd_ne {H : Hp} {a b : Addr} {o : HO} (h : b ≠ a) : upd H a o b = H b := by unfold upd; rw [if_neg h]
theorem ne_of {H : Hp} {a b : Addr} {o u : HO} (h : H a = some o) (h' : H b = some u) (d : o ≠ u) : a ≠ b := by
  intro e; subst e; rw [h] at h'; exact d (Option.some.inj h')
theorem ne_of_none {H : Hp} {a b : Addr} {o : HO} (h : H a = some o) (h' : H b = none) : a ≠ b := by
  intro e; subst e; rw [h] at h'; cases h'
section
variable (P : Program) (w : World)
def ObjOk (H : Hp) (h : Heap) (a : Addr) : HO → Prop
  | .lst xs => xs.length ≤ sizeLine ∧ ∃ (its : List Value) (n : Nat), Vals xs its ∧ h.get? a = some { cls := .type "list", data := .seq its.toArray n }
  | .tup xs => xs.length ≤ sizeLine ∧ ∃ its : List Value, Vals xs its ∧ IsTup h a its.toArray
  | .dK kvs => kvs.length ≤ sizeLine ∧ (a == sysModules) = false ∧ ∃ vs, KV kvs vs ∧ h.DictOf (mixKind P w) a vs
  | .dT kvs => kvs.length ≤ sizeLine ∧ (a == sysModules) = false ∧ ∃ xs : List (List Key × Addr × Value),
      Paired (fun (p : List Key × V) (q : List Key × Addr × Value) => p.1 = q.1 ∧ H q.2.1 = some (.tup (p.1.map kV)) ∧ RelV p.2 q.2.2) kvs xs ∧
      ∃ o es ep, h.get? a = some o ∧ o.ExactDict ∧ o.data = .dict es ep ∧ es.toList = xs.map (entryOfKey (tupleKind (mixKind P w))) ∧ (xs.map (·.1)).Nodup
  | .set S n => h.SetOf (intKind P w) a S n
  | .ins C dx fs => H dx = some (.own a) ∧ fs.length ≤ 1000 ∧ dx ≠ a ∧ h.get? a = some (PySem.W.instObj C dx) ∧
      ∃ mA, h.Ns1 dx mA ∧ (∀ f, RelO (fs.lookup f) (mA f)) ∧ PySem.Within mA (fs.map (·.1))
  | .own _ => ∃ o, h.get? a = some o
  | .xd fs => ∃ mA, h.Ns1 a mA ∧ ∀ f, RelO (fs.lookup f) (mA f)
  | .rng lo hi => ∃ t u v, h.get? a = some { cls := .type "range", data := .fields #[.int lo t, .int hi u, .int 1 v] }
  | .frz o u => h.get? a = some o ∧ ObjOk H h a u
  | .tbl ps => h.get? a = some { cls := .none, data := .fields ps }
  | .met f x => h.get? a = some (PySem.W.methodObj (.ref f) (.ref x))
  | .ext φ => φ h ∧ (∃ o, h.get? a = some o) ∧ ∀ h1 h2 : Heap, φ h1 → (∀ o, h1.get? a = some o → h2.get? a = some o) → φ h2
def HOk (H : Hp) (h : Heap) : Prop := ∀ a o, H a = some o → ObjOk P w H h a o
end
section
variable {P : Program} {w : World} {H H' : Hp} {h h' : Heap} {a : Addr} {o : HO}
theorem ObjOk.lt (x : ObjOk P w H h a o) : a < h.objs.size := by
  cases o with
  | lst xs => obtain ⟨_, _, _, _, e⟩ := x; exact Heap.lt_size e
  | tup xs => obtain ⟨_, _, _, p⟩ := x; exact p.lt
  | dK kvs => obtain ⟨_, _, _, _, o, _, _, e, _⟩ := x; exact Heap.lt_size e
  | dT kvs => obtain ⟨_, _, _, _, o, _, _, e, _⟩ := x; exact Heap.lt_size e
  | set S n => obtain ⟨o, _, _, _, e, _⟩ := x; exact Heap.lt_size e
  | ins C dx fs => obtain ⟨_, _, _, e, _⟩ := x; exact Heap.lt_size e
  | own y => obtain ⟨_, e⟩ := x; exact Heap.lt_size e
  | xd fs => obtain ⟨_, ⟨_, _, _, e, _⟩, _⟩ := x; exact Heap.lt_size e
  | rng lo hi => obtain ⟨_, _, _, e⟩ := x; exact Heap.lt_size e
  | frz ob u => obtain ⟨e, _⟩ := x; exact Heap.lt_size e
  | tbl ps => exact Heap.lt_size (show h.get? a = some _ from x)
  | met f y => exact Heap.lt_size (show h.get? a = some _ from x)
  | ext φ => obtain ⟨_, ⟨_, e⟩, _⟩ := x; exact Heap.lt_size e
theorem Paired.mapP {α β : Type} {F G : α → β → Prop} : ∀ {l₁ : List α} {l₂ : List β}, Paired F l₁ l₂ → (∀ a b, F a b → G a b) → Paired G l₁ l₂
  | _, _, .nil, _ => .nil
  | _, _, .cons r t, f => .cons (f _ _ r) (Paired.mapP t f)
theorem ObjOk.stay (x : ObjOk P w H h a o) (k : ∀ b u, (b = a ∨ H b = some (.own a)) → h.get? b = some u → h'.get? b = some u)
    (ho : ∀ b, H b = some (.own a) → H' b = some (.own a)) (ht : ∀ b xs, H b = some (.tup xs) → H' b = some (.tup xs)) : ObjOk P w H' h' a o := by
  induction o with
  | lst xs => obtain ⟨z, its, n, r, e⟩ := x; exact ⟨z, its, n, r, k _ _ (.inl rfl) e⟩
  | tup xs => obtain ⟨z, its, r, ob, e, c⟩ := x; exact ⟨z, its, r, ob, k _ _ (.inl rfl) e, c⟩
  | dK kvs => obtain ⟨z, y, vs, r, ob, es, ep, e, c⟩ := x; exact ⟨z, y, vs, r, ob, es, ep, k _ _ (.inl rfl) e, c⟩
  | dT kvs =>
    obtain ⟨z, y, xs, r, ob, es, ep, e, c⟩ := x
    exact ⟨z, y, xs, Paired.mapP r fun p q z => ⟨z.1, ht _ _ z.2.1, z.2.2⟩, ob, es, ep, k _ _ (.inl rfl) e, c⟩
  | set S n => obtain ⟨ob, es, ep, t, e, c⟩ := x; exact ⟨ob, es, ep, t, k _ _ (.inl rfl) e, c⟩
  | ins C dx fs =>
    obtain ⟨d, z, ne, e, mA, ⟨od, es, ep, e2, c⟩, r⟩ := x
    exact ⟨ho _ d, z, ne, k _ _ (.inl rfl) e, mA, ⟨od, es, ep, k _ _ (.inr d) e2, c⟩, r⟩
  | own y => obtain ⟨ob, e⟩ := x; exact ⟨ob, k _ _ (.inl rfl) e⟩
  | xd fs => obtain ⟨mA, ⟨od, es, ep, e, c⟩, r⟩ := x; exact ⟨mA, ⟨od, es, ep, k _ _ (.inl rfl) e, c⟩, r⟩
  | rng lo hi => obtain ⟨t, u, v, e⟩ := x; exact ⟨t, u, v, k _ _ (.inl rfl) e⟩
  | frz ob u ih => obtain ⟨e, q⟩ := x; exact ⟨k _ _ (.inl rfl) e, ih q⟩
  | tbl ps =>
    have e : h.get? a = some { cls := .none, data := .fields ps } := x
    show h'.get? a = some { cls := .none, data := .fields ps }
    exact k a _ (.inl rfl) e
  | met f y =>
    have e : h.get? a = some (PySem.W.methodObj (.ref f) (.ref y)) := x
    show h'.get? a = some (PySem.W.methodObj (.ref f) (.ref y))
    exact k a _ (.inl rfl) e
  | ext φ => obtain ⟨p, ⟨o, e⟩, st⟩ := x; exact ⟨st _ _ p fun o q => k _ _ (.inl rfl) q, ⟨o, k _ _ (.inl rfl) e⟩, st⟩
theorem HOk.lt (x : HOk P w H h) (e : H a = some o) : a < h.objs.size := (x a o e).lt
theorem HOk.fresh (x : HOk P w H h) (e : h.objs.size ≤ a) : H a = none := by
  cases q : H a with
  | none => rfl
  | some u => exact absurd (Nat.lt_of_lt_of_le (x.lt q) e) (Nat.lt_irrefl _)
theorem HOk.kept (x : HOk P w H h) (k : ∀ b u, h.get? b = some u → h'.get? b = some u) : HOk P w H h' := fun a o e =>
  (x a o e).stay (fun b u _ q => k b u q) (fun _ q => q) fun _ _ q => q
theorem HOk.laid (x : HOk P w H h) (k : ∀ b u, h.get? b = some u → h'.get? b = some u) (hp : h.objs.size ≤ a) (new : ObjOk P w (upd H a o) h' a o) : HOk P w (upd H a o) h' := fun b u e => by
  have hn := x.fresh hp
  by_cases hb : b = a
  · subst hb; rw [upd_same] at e; cases e; exact new
  · rw [upd_ne hb] at e
    exact (x b u e).stay (fun c v _ q => k c v q) (fun c q => by rw [upd_ne (ne_of_none q hn)]; exact q) fun c xs q => by rw [upd_ne (ne_of_none q hn)]; exact q
end
def Rd (H : Hp) (a : Addr) (u : HO) : Prop := H a = some u ∨ ∃ o, H a = some (.frz o u)
theorem Rd.of {H : Hp} {a : Addr} {u : HO} (h : H a = some u) : Rd H a u := .inl h
theorem Rd.ok {P : Program} {w : World} {H : Hp} {h : Heap} {a : Addr} {u : HO} (r : Rd H a u) (x : HOk P w H h) : ObjOk P w H h a u := by
  rcases r with r | ⟨o, r⟩
  · exact x a u r
  · obtain ⟨_, q⟩ := x a _ r
    exact q
def Mut : Option HO → Prop
  | some (.lst _) => True
  | some (.dK _) => True
  | some (.dT _) => True
  | some (.set _ _) => True
  | some (.ins _ _ _) => True
  | some (.ext _) => True
  | _ => False
section
variable {P : Program} {w : World} {H : Hp} {h h' : Heap} {x e : Addr} {o' : HO}
theorem HOk.write (ok : HOk P w H h) (mu : Mut (H x)) (he : e = x ∨ H e = some (.own x)) (k : ∀ b u, b ≠ e → h.get? b = some u → h'.get? b = some u) (heo : ∃ u, h'.get? e = some u)
    (new : ObjOk P w (upd H x o') h' x o') : HOk P w (upd H x o') h' := fun b u q => by
  have nown : ∀ c y, H c = some (.own y) → c ≠ x := fun c y r z => by subst z; rw [r] at mu; exact mu
  have ntup : ∀ c xs, H c = some (.tup xs) → c ≠ x := fun c xs r z => by subst z; rw [r] at mu; exact mu
  by_cases hb : b = x
  · subst hb; rw [upd_same] at q; cases q; exact new
  · rw [upd_ne hb] at q
    by_cases hbe : b = e
    · have q' : H b = some (.own x) := by
        rcases he with z | z
        · exact absurd (hbe.trans z) hb
        · rw [hbe]; exact z
      rw [q] at q'; cases q'
      obtain ⟨v, hv⟩ := heo
      exact ⟨v, by rw [hbe]; exact hv⟩
    · refine (ok b u q).stay (fun c v hc r => k c v ?_ r) (fun c r => by rw [upd_ne (nown c b r)]; exact r) fun c xs r => by rw [upd_ne (ntup c xs r)]; exact r
      rcases hc with rfl | hc
      · exact hbe
      · rintro rfl
        rcases he with z | z
        · exact nown c b hc z
        · rw [hc] at z; cases z; exact hb rfl
end
structure Un (fs ex : List Addr) (H H' : Hp) (h h' : Heap) : Prop where
  keep : ∀ b o, h.get? b = some o → H b = none → b ∉ fs → b ∉ ex → h'.get? b = some o
  slot : ∀ b o, h.get? b = some o → H b = none → b ∈ fs → b ∉ ex → ∃ sl, h'.get? b = some { o with slots := sl }
  free : ∀ b o, h.get? b = some o → H b = none → b ∉ ex → H' b = none
  there : ∀ b o, h.get? b = some o → b ∉ ex → ∃ o', h'.get? b = some o'
  tups : ∀ b xs, H b = some (.tup xs) → H' b = some (.tup xs)
  frzs : ∀ b o u, H b = some (.frz o u) → H' b = some (.frz o u)
  tbls : ∀ b ps, H b = some (.tbl ps) → ∃ more, H' b = some (.tbl (ps ++ more))
section
variable {fs fs' ex ex' : List Addr} {H H1 H2 : Hp} {h h1 h2 h' : Heap} {a x e : Addr} {o : HO}
theorem Un.any (u : Un fs ex H H1 h h1) {b : Addr} {ob : Obj} (q : h.get? b = some ob) (n : H b = none) (hx : b ∉ ex) : ∃ sl, h1.get? b = some { ob with slots := sl } := by
  by_cases hb : b ∈ fs
  · exact u.slot b ob q n hb hx
  · exact ⟨ob.slots, u.keep b ob q n hb hx⟩
theorem Un.trans (a : Un fs ex H H1 h h1) (b : Un fs ex H1 H2 h1 h2) : Un fs ex H H2 h h2 where
  keep := fun c ob q n hc hx => b.keep c ob (a.keep c ob q n hc hx) (a.free c ob q n hx) hc hx
  slot := fun c ob q n hc hx => by
    obtain ⟨sl, e1⟩ := a.slot c ob q n hc hx
    obtain ⟨sl', e2⟩ := b.slot c _ e1 (a.free c ob q n hx) hc hx
    exact ⟨sl', e2⟩
  free := fun c ob q n hx => by
    obtain ⟨o', e1⟩ := a.there c ob q hx
    exact b.free c o' e1 (a.free c ob q n hx) hx
  there := fun c ob q hx => by
    obtain ⟨o', e1⟩ := a.there c ob q hx
    exact b.there c o' e1 hx
  tups := fun c xs q => b.tups c xs (a.tups c xs q)
  frzs := fun c ob xs q => b.frzs c ob xs (a.frzs c ob xs q)
  tbls := fun c ps q => by
    obtain ⟨m1, e1⟩ := a.tbls c ps q
    obtain ⟨m2, e2⟩ := b.tbls c _ e1
    exact ⟨m1 ++ m2, by rw [e2, Array.append_assoc]⟩
theorem Un.kept (k : ∀ b u, h.get? b = some u → h'.get? b = some u) : Un fs ex H H h h' :=
  ⟨fun b ob q _ _ _ => k b ob q, fun b ob q _ _ _ => ⟨ob.slots, k b ob q⟩, fun _ _ _ n _ => n, fun b ob q _ => ⟨ob, k b ob q⟩, fun _ _ q => q, fun _ _ _ q => q, fun _ ps q => ⟨#[], by rw [q]; simp⟩⟩
theorem Un.refl : Un fs ex H H h h := Un.kept fun _ _ q => q
theorem Un.laid (k : ∀ b u, h.get? b = some u → h'.get? b = some u) (hp : h.objs.size ≤ a) (hn : H a = none) : Un fs ex H (upd H a o) h h' where
  keep := fun b u q _ _ _ => k b u q
  slot := fun b u q _ _ _ => ⟨u.slots, k b u q⟩
  free := fun b u q n _ => by rw [upd_ne (Nat.ne_of_lt (Nat.lt_of_lt_of_le (Heap.lt_size q) hp))]; exact n
  there := fun b u q _ => ⟨u, k b u q⟩
  tups := fun b xs q => by rw [upd_ne (ne_of_none q hn)]; exact q
  frzs := fun b u xs q => by rw [upd_ne (ne_of_none q hn)]; exact q
  tbls := fun b ps q => ⟨#[], by rw [upd_ne (ne_of_none q hn), q]; simp⟩
theorem Un.write (mu : Mut (H x)) (he : e = x ∨ H e = some (.own x)) (k : ∀ b u, b ≠ e → h.get? b = some u → h'.get? b = some u) (heo : ∃ u, h'.get? e = some u) : Un fs ex H (upd H x o) h h' := by
  have hx : ∀ b, H b = none → b ≠ x := fun b n z => by subst z; rw [n] at mu; exact mu
  have hb : ∀ b, H b = none → b ≠ e := fun b n z => by
    subst z
    rcases he with r | r
    · exact hx b n r
    · rw [n] at r; cases r
  have hm : ∀ b u, H b = some u → ¬ Mut (some u) → b ≠ x := fun b u q nm z => by subst z; rw [q] at mu; exact nm mu
  refine ⟨fun b u q n _ _ => k b u (hb b n) q, fun b u q n _ _ => ⟨u.slots, k b u (hb b n) q⟩, fun b u q n _ => by rw [upd_ne (hx b n)]; exact n, fun b u q _ => ?_,
    fun b xs q => by rw [upd_ne (hm b _ q fun z => z)]; exact q, fun b u xs q => by rw [upd_ne (hm b _ q fun z => z)]; exact q, fun b ps q => ⟨#[], by rw [upd_ne (hm b _ q fun z => z), q]; simp⟩⟩
  by_cases hbe : b = e
  · subst hbe; exact heo
  · exact ⟨u, k b u hbe q⟩
theorem Un.mono (u : Un fs ex H H1 h h1) (hs : ∀ b ∈ fs, b ∈ fs') (hx : ∀ b ∈ ex, b ∈ ex') : Un fs' ex' H H1 h h1 :=
  ⟨fun b ob q n hb he => u.keep b ob q n (fun z => hb (hs b z)) fun z => he (hx b z), fun _ _ q n _ he => u.any q n fun z => he (hx _ z), fun b ob q n he => u.free b ob q n fun z => he (hx b z), fun b ob q he => u.there b ob q fun z => he (hx b z), u.tups, u.frzs, u.tbls⟩
end
def trk (h : Heap) (H : Hp) : List Addr := (List.range h.objs.size).filter fun a => (H a).isSome
def hidT (h : Heap) (H : Hp) : Heap := PySem.W.hideAll h (trk h H)
theorem hidT_size (h : Heap) (H : Hp) : (hidT h H).objs.size = h.objs.size := PySem.W.hideAll_size _ _
theorem hidT_get {h : Heap} {H : Hp} {b : Addr} {o : Obj} (e : h.get? b = some o) (n : H b = none) : (hidT h H).get? b = some o :=
  PySem.W.hideAll_get _ e fun hm => by
    have q : (H b).isSome = true := (List.mem_filter.mp hm).2
    rw [n] at q; simp at q
theorem of_hidT {h : Heap} {H : Hp} {b : Addr} {o : Obj} (e : (hidT h H).get? b = some o) : h.get? b = some o ∧ H b = none := by
  have e' : h.get? b = some o := PySem.W.of_hideAll (trk h H) e
  refine ⟨e', ?_⟩
  cases q : H b with
  | none => rfl
  | some x =>
    have hm : b ∈ trk h H := List.mem_filter.mpr ⟨List.mem_range.mpr (Heap.lt_size e'), by simp [q]⟩
    have z : (hidT h H).get? b = none := PySem.W.hideAll_none (trk h H) hm
    rw [z] at e; cases e
def allNews (g h : Heap) (L : Addr) : List (Addr × Obj) := (List.range h.objs.size).filterMap fun a => if a = L ∨ (g.get? a).isSome = true then none else (h.get? a).map fun o => (a, o)
def rest (g h : Heap) (L d : Addr) : List (Addr × Obj) := (allNews g h L).filter fun p => decide (p.1 ≠ d)
end L2
namespace L2
open PySem PySem.Spec PyProof.Rows
structure Mod (K : PySem.W.Frag) (mg : Str → Option Value) (base : Heap) : Prop where
  kin : K.In base
  glob : base.Ns mainGlobals mg
  blt : ∃ mb, base.Ns builtinsNs mb ∧ ∀ x : Str, x ≠ "__name__" → mb x = bootBuiltins x
  nolimit : base.NoLimit
structure Cx where
  prog : Program
  w : World
  K : PySem.W.Frag
  mg : Str → Option Value
  base : Heap
  A : Around
  N : List Str
  s₀ : Shared
  H₀ : Hp
  env : Env
  outer : List Env
  stack : List Env
  ex : List Addr
  fn : Str → Bool
  calm : Bool
  pn : List (Addr × Obj)
  xe : Value → Shared → Prop
def frs (l : List Env) : List Addr := l.filterMap (·.frame)
abbrev Cx.fs (X : Cx) : List Addr := frs X.outer
def Vis (sc : Scope) (x : Str) : Prop := sc.names.lookup x = some .local ∨ sc.names.lookup x = some .cell ∨ sc.names.lookup x = some .free
def Loc (sc : Scope) (x : Str) : Prop := sc.names.lookup x = some .local ∨ sc.names.lookup x = some .cell
def Look (env : Env) (h : Heap) (m : Str → Option Value) (x : Str) (u : Value) : Prop :=
  (env.kindOf x = some .local ∧ m x = some u) ∨ ((env.kindOf x = some .cell ∨ env.kindOf x = some .free) ∧ ∃ c, env.cells.lookup x = some c ∧ h.IsCell c (some u))
structure Cx.Ok (X : Cx) : Prop where
  mod : Mod X.K X.mg X.base
  kind : X.env.scope.kind = .function
  glob : X.env.globals = mainGlobals
  blt : X.env.builtins = builtinsNs
  above : X.s₀.heap.objs.size ≤ X.env.locals
  inj : ∀ x y c, X.env.cells.lookup x = some c → X.env.cells.lookup y = some c → x = y
  has : ∀ x, (X.env.kindOf x = some .cell ∨ X.env.kindOf x = some .free) → ∃ c, X.env.cells.lookup x = some c
  cab : ∀ x c, X.fn x = true → X.env.cells.lookup x = some c → X.s₀.heap.objs.size ≤ c
  hd : X.calm = true → X.A.handled = none
  frames : X.A.frames = some X.stack
  stk : X.stack = X.outer ∨ (X.stack = X.env :: X.outer ∧ X.env.frame = some X.env.locals)
  exf : ∀ b ∈ X.ex, b ≠ X.env.locals ∧ ∀ x c, X.env.cells.lookup x = some c → c ≠ b
  bs : ∀ b o, X.base.get? b = some o → X.s₀.heap.get? b = some o ∧ X.H₀ b = none
  bsz : X.base.objs.size ≤ X.s₀.heap.objs.size
  noex : ∀ b o, X.base.get? b = some o → b ∉ X.ex
  exfs : ∀ b ∈ X.ex, b ∉ X.fs
  funs : X.s₀.heap.FunFrames X.base X.outer
  frf : ∀ b ∈ X.fs, X.H₀ b = none
structure Inv (X : Cx) (pins : List (Addr × Obj)) (σ : List (Option V)) (H : Hp) (s : Shared) : Prop where
  ok : X.Ok
  os : s.os = X.s₀.os
  bare : AllBare s.gens
  base : Un X.fs X.ex X.H₀ H X.s₀.heap s.heap
  loc : ∃ m, s.heap.Ns X.env.locals m ∧ ∀ (i : Nat) (x : Str) (v : V), X.N[i]? = some x → σ[i]? = some (some v) → Vis X.env.scope x → ∃ u, RelV v u ∧ Look X.env s.heap m x u
  cell : ∀ x c, X.env.cells.lookup x = some c → ∃ v, s.heap.IsCell c v
  free : H X.env.locals = none
  freeC : ∀ x c, X.env.cells.lookup x = some c → H c = none
  pin : ∀ p ∈ X.pn ++ pins, s.heap.get? p.1 = some p.2 ∧ H p.1 = none ∧ p.1 ≠ X.env.locals ∧ p.1 ∉ X.fs ∧ ∀ v, p.2.data ≠ .cell v
  hok : HOk X.prog X.w H s.heap
  len : σ.length = X.N.length
section
variable {X : Cx} {pins : List (Addr × Obj)} {σ : List (Option V)} {H H' : Hp} {s : Shared} {h' : Heap}
theorem Cx.Ok.nofr (ok : X.Ok) {b : Addr} {o : Obj} (e : X.base.get? b = some o) : b ∉ X.fs := fun hb => by
  have := (ok.funs.mem hb).1
  rw [e] at this; cases this
theorem Inv.bs (I : Inv X pins σ H s) : ∀ b o, X.base.get? b = some o → s.heap.get? b = some o ∧ H b = none := fun b o e =>
  ⟨I.base.keep b o (I.ok.bs b o e).1 (I.ok.bs b o e).2 (I.ok.nofr e) (I.ok.noex b o e), I.base.free b o (I.ok.bs b o e).1 (I.ok.bs b o e).2 (I.ok.noex b o e)⟩
theorem Inv.bk (I : Inv X pins σ H s) : ∀ b o, X.base.get? b = some o → s.heap.get? b = some o := fun b o e => (I.bs b o e).1
theorem Inv.mod (I : Inv X pins σ H s) : Mod X.K X.mg X.base := I.ok.mod
theorem Inv.kIn (I : Inv X pins σ H s) : X.K.In s.heap := I.ok.mod.kin.keeps I.bk
theorem Inv.nolimit (I : Inv X pins σ H s) : s.heap.NoLimit := I.ok.mod.nolimit.keeps I.bk
theorem Inv.fr (I : Inv X pins σ H s) : ∃ m, Fr X.base X.env.locals s.heap m :=
  let ⟨m, hn, _⟩ := I.loc
  ⟨m, hn, I.bk, Nat.le_trans I.ok.bsz I.ok.above⟩
theorem Inv.lt (I : Inv X pins σ H s) : X.env.locals < s.heap.objs.size := let ⟨_, hn, _⟩ := I.loc; hn.lt
theorem Inv.sz (I : Inv X pins σ H s) : X.s₀.heap.objs.size ≤ s.heap.objs.size := Nat.le_trans I.ok.above (Nat.le_of_lt I.lt)
theorem Inv.nofs (I : Inv X pins σ H s) {a : Addr} (h : s.heap.objs.size ≤ a) : a ∉ X.fs := fun hb => by
  obtain ⟨_, o, ho, _⟩ := I.ok.funs.mem hb
  exact absurd (Nat.lt_of_lt_of_le (Heap.lt_size ho) (Nat.le_trans I.sz h)) (Nat.lt_irrefl _)
theorem Inv.cne (I : Inv X pins σ H s) : ∀ x c, X.env.cells.lookup x = some c → c ≠ X.env.locals := fun x c e z => by
  obtain ⟨v, o, ho, hd⟩ := I.cell x c e
  obtain ⟨m, ⟨o', es, ep, ho', hd', _⟩, _⟩ := I.loc
  rw [z, ho'] at ho; cases ho; rw [hd'] at hd; cases hd
theorem Inv.funs (I : Inv X pins σ H s) : s.heap.FunFrames X.base X.outer := by
  have all : ∀ (l : List Env), (∀ b ∈ frs l, b ∈ X.fs) → X.s₀.heap.FunFrames X.base l → s.heap.FunFrames X.base l := by
    intro l
    induction l with
    | nil => intro _ _; trivial
    | cons env r ih =>
      intro hs hl
      obtain ⟨hk, ⟨L, o, hf, hn, ho, hd⟩, hr⟩ := hl
      have hL : L ∈ X.fs := hs L (by unfold frs; rw [List.filterMap_cons, hf]; exact List.mem_cons_self)
      obtain ⟨sl, e⟩ := I.base.slot L o ho (I.ok.frf L hL) hL fun z => I.ok.exfs L z hL
      exact ⟨hk, ⟨L, _, hf, hn, e, hd⟩, ih (fun b hb => hs b (by unfold frs; rw [List.filterMap_cons, hf]; exact List.mem_cons_of_mem _ hb)) hr⟩
  exact all X.outer (fun _ hb => hb) I.ok.funs
theorem Inv.stack (I : Inv X pins σ H s) : s.heap.FunFrames X.base X.stack := by
  rcases I.ok.stk with e | ⟨e, hf⟩
  · rw [e]; exact I.funs
  · rw [e]
    obtain ⟨m, hn, _⟩ := I.loc
    refine .cons (by rw [I.ok.kind]; decide) hf hn ?_ I.funs
    exact Heap.get?_none_of_le (Nat.le_trans I.ok.bsz I.ok.above)
theorem Inv.stkSub (I : Inv X pins σ H s) : ∀ b ∈ frs X.stack, b ∈ X.env.locals :: X.fs := fun b hb => by
  rcases I.ok.stk with e | ⟨e, hf⟩
  · rw [e] at hb; exact List.mem_cons_of_mem _ hb
  · rw [e] at hb
    unfold frs at hb
    rw [List.filterMap_cons, hf] at hb
    exact hb
theorem Inv.stkFree (I : Inv X pins σ H s) : ∀ b ∈ frs X.stack, H b = none := fun b hb => by
  rcases List.mem_cons.mp (I.stkSub b hb) with e | hb
  · rw [e]; exact I.free
  · obtain ⟨_, o, ho, _⟩ := I.ok.funs.mem hb
    exact I.base.free b o ho (I.ok.frf b hb) fun z => I.ok.exfs b z hb
theorem Inv.step {g' : Array GenState} {t' : Nat} {d' : Drawn} {ch : List Addr} (I : Inv X pins σ H s)
    (hch : ∀ b ∈ ch, (b ∈ X.ex ∨ X.s₀.heap.objs.size ≤ b) ∧ b ≠ X.env.locals ∧ (∀ x c, X.env.cells.lookup x = some c → c ≠ b) ∧ ∀ p ∈ X.pn ++ pins, p.1 ≠ b)
    (keep : ∀ b o, b ≠ X.env.locals → b ∉ X.fs → b ∉ ch → s.heap.get? b = some o → H b = none → h'.get? b = some o)
    (slot : ∀ b o, b ≠ X.env.locals → b ∈ X.fs → b ∉ ch → s.heap.get? b = some o → H b = none → ∃ sl, h'.get? b = some { o with slots := sl }) (free : ∀ b o, b ∉ ch → s.heap.get? b = some o → H b = none → H' b = none)
    (there : ∀ b o, b ∉ ch → s.heap.get? b = some o → ∃ o', h'.get? b = some o')
    (tups : ∀ b xs, H b = some (.tup xs) → H' b = some (.tup xs)) (frzs : ∀ b o u, H b = some (.frz o u) → H' b = some (.frz o u)) (tbls : ∀ b ps, H b = some (.tbl ps) → ∃ more, H' b = some (.tbl (ps ++ more)))
    (ns : ∀ m, s.heap.Ns X.env.locals m → h'.Ns X.env.locals m) (hok : HOk X.prog X.w H' h') (hg : AllBare g') :
    Inv X pins σ H' { s with heap := h', gens := g', drawn := d', toks := t' } := by
  have neL : ∀ b o, X.s₀.heap.get? b = some o → b ≠ X.env.locals := fun b o e => Nat.ne_of_lt (Nat.lt_of_lt_of_le (Heap.lt_size e) I.ok.above)
  have neC : ∀ b o, X.s₀.heap.get? b = some o → b ∉ X.ex → b ∉ ch := fun b o e hx hb => by
    rcases (hch b hb).1 with z | z
    · exact hx z
    · exact absurd (Nat.lt_of_lt_of_le (Heap.lt_size e) z) (Nat.lt_irrefl _)
  have cellK : ∀ x c, X.env.cells.lookup x = some c → ∀ v, s.heap.IsCell c v → h'.IsCell c v := fun x c e v ⟨o, ho, hd⟩ => by
    have nch : c ∉ ch := fun z => (hch c z).2.2.1 x c e rfl
    by_cases hc : c ∈ X.fs
    · obtain ⟨sl, q⟩ := slot c o (I.cne x c e) hc nch ho (I.freeC x c e)
      exact ⟨_, q, hd⟩
    · exact ⟨o, keep c o (I.cne x c e) hc nch ho (I.freeC x c e), hd⟩
  refine ⟨I.ok, I.os, hg, ⟨fun b o e n hb hx => ?_, fun b o e n hb hx => ?_, fun b o e n hx => ?_, fun b o e hx => ?_, fun b xs e => tups b xs (I.base.tups b xs e), fun b o xs e => frzs b o xs (I.base.frzs b o xs e), fun b ps e => ?_⟩, ?_, fun x c e => ?_, ?_, fun x c e => ?_, fun p hp => ?_, hok, I.len⟩
  · exact keep b o (neL b o e) hb (neC b o e hx) (I.base.keep b o e n hb hx) (I.base.free b o e n hx)
  · obtain ⟨sl, e1⟩ := I.base.slot b o e n hb hx
    obtain ⟨sl', e2⟩ := slot b _ (neL b o e) hb (neC b o e hx) e1 (I.base.free b o e n hx)
    exact ⟨sl', e2⟩
  · obtain ⟨o', e1⟩ := I.base.there b o e hx
    exact free b o' (neC b o e hx) e1 (I.base.free b o e n hx)
  · obtain ⟨o', e1⟩ := I.base.there b o e hx
    exact there b o' (neC b o e hx) e1
  · obtain ⟨m1, e1⟩ := I.base.tbls b ps e
    obtain ⟨m2, e2⟩ := tbls b _ e1
    exact ⟨m1 ++ m2, by rw [e2, Array.append_assoc]⟩
  · obtain ⟨m, hn, hl⟩ := I.loc
    refine ⟨m, ns m hn, fun i x v e1 e2 e3 => ?_⟩
    obtain ⟨u, r, l⟩ := hl i x v e1 e2 e3
    refine ⟨u, r, ?_⟩
    rcases l with l | ⟨k, c, e, z⟩
    · exact .inl l
    · exact .inr ⟨k, c, e, cellK x c e _ z⟩
  · obtain ⟨v, z⟩ := I.cell x c e
    exact ⟨v, cellK x c e v z⟩
  · obtain ⟨m, ⟨o, _, _, ho, _⟩, _⟩ := I.loc
    exact free _ o (fun z => (hch _ z).2.1 rfl) ho I.free
  · obtain ⟨v, o, ho, hd⟩ := I.cell x c e
    exact free c o (fun z => (hch c z).2.2.1 x c e rfl) ho (I.freeC x c e)
  · obtain ⟨e, n, ne, nf, d⟩ := I.pin p hp
    have nch : p.1 ∉ ch := fun z => (hch p.1 z).2.2.2 p hp rfl
    exact ⟨keep p.1 p.2 ne nf nch e n, free p.1 p.2 nch e n, ne, nf, d⟩
theorem Inv.un {t' : Nat} (I : Inv X pins σ H s) (u : Un X.fs [] H H' s.heap h') (hok : HOk X.prog X.w H' h') : Inv X pins σ H' { s with heap := h', toks := t' } := by
  obtain ⟨m, ⟨o, es, ep, ho, r⟩, _⟩ := id I.loc
  obtain ⟨sl, hL⟩ := u.any ho I.free (by simp)
  exact I.step (g' := s.gens) (d' := s.drawn) (ch := []) (fun _ z => nomatch z) (fun b o _ hb _ e n => u.keep b o e n hb (by simp)) (fun b o _ hb _ e n => u.slot b o e n hb (by simp)) (fun b o _ e n => u.free b o e n (by simp)) (fun b o _ e => u.there b o e (by simp)) u.tups u.frzs u.tbls (fun m' hm => by
    obtain ⟨o', es', ep', ho', r'⟩ := hm
    rw [ho] at ho'; cases ho'
    exact ⟨_, es', ep', hL, r'⟩) hok I.bare
theorem Inv.call {g' : Array GenState} {t' : Nat} {d' : Drawn} {ch : List Addr} (I : Inv X pins σ H s) (u : Un (frs X.stack) ch H H' s.heap h') (hok : HOk X.prog X.w H' h') (hg : AllBare g')
    (hch : ∀ b ∈ ch, (b ∈ X.ex ∨ X.s₀.heap.objs.size ≤ b) ∧ b ≠ X.env.locals ∧ (∀ x c, X.env.cells.lookup x = some c → c ≠ b) ∧ ∀ p ∈ X.pn ++ pins, p.1 ≠ b) :
    Inv X pins σ H' { s with heap := h', gens := g', drawn := d', toks := t' } := by
  obtain ⟨m, ⟨o, es, ep, ho, r⟩, _⟩ := id I.loc
  obtain ⟨sl, hL⟩ := u.any ho I.free fun z => (hch _ z).2.1 rfl
  exact I.step (ch := ch) hch (fun b o hL hb hc e n => u.keep b o e n (fun z => (List.mem_cons.mp (I.stkSub b z)).elim hL hb) hc) (fun b o _ _ hc e n => u.any e n hc) (fun b o hc e n => u.free b o e n hc) (fun b o hc e => u.there b o e hc) u.tups u.frzs u.tbls (fun m' hm => by
    obtain ⟨o', es', ep', ho', r'⟩ := hm
    rw [ho] at ho'; cases ho'
    exact ⟨_, es', ep', hL, r'⟩) hok hg
theorem Inv.turned {t' : Nat} {it : Addr} (I : Inv X pins σ H s) (k : ∀ b o, b ≠ it → s.heap.get? b = some o → h'.get? b = some o) (hn : H it = none) (hL : it ≠ X.env.locals)
    (h1 : it ∈ X.ex ∨ X.s₀.heap.objs.size ≤ it) (h2 : ∀ x c, X.env.cells.lookup x = some c → c ≠ it) (h3 : ∀ p ∈ X.pn ++ pins, p.1 ≠ it) : Inv X pins σ H { s with heap := h', toks := t' } := by
  have nit : ∀ b u, H b = some u → b ≠ it := fun b u e z => by rw [z, hn] at e; cases e
  refine I.step (g' := s.gens) (d' := s.drawn) (ch := [it]) (fun b hb => ?_) (fun b o _ _ hc e _ => k b o (fun z => hc (by simp [z])) e) (fun b o _ _ hc e _ => ⟨o.slots, k b o (fun z => hc (by simp [z])) e⟩) (fun _ _ _ _ n => n)
    (fun b o hc e => ⟨o, k b o (fun z => hc (by simp [z])) e⟩) (fun _ _ e => e) (fun _ _ _ e => e) (fun b ps e => ⟨#[], by rw [e]; simp⟩) (fun m hm => ?_) (fun b u e => ?_) I.bare
  · have e : b = it := by simpa using hb
    subst e
    exact ⟨h1, hL, h2, h3⟩
  · obtain ⟨o, es, ep, ho, r⟩ := hm
    exact ⟨o, es, ep, k _ o (Ne.symm hL) ho, r⟩
  · refine (I.hok b u e).stay (fun c v hc q => k c v ?_ q) (fun _ q => q) fun _ _ q => q
    rcases hc with z | z
    · rw [z]; exact nit b u e
    · exact nit c _ z
theorem Inv.tok (I : Inv X pins σ H s) (t : Nat) : Inv X pins σ H { s with toks := t } := I.un (h' := s.heap) (t' := t) Un.refl I.hok
theorem Inv.kept {t' : Nat} (I : Inv X pins σ H s) (k : ∀ b u, s.heap.get? b = some u → h'.get? b = some u) : Inv X pins σ H { s with heap := h', toks := t' } := I.un (Un.kept k) (I.hok.kept k)
theorem Inv.laid {a : Addr} {o : HO} {t' : Nat} (I : Inv X pins σ H s) (k : ∀ b u, s.heap.get? b = some u → h'.get? b = some u) (hp : s.heap.objs.size ≤ a) (new : ObjOk X.prog X.w (upd H a o) h' a o) :
    Inv X pins σ (upd H a o) { s with heap := h', toks := t' } := I.un (Un.laid k hp (I.hok.fresh hp)) (I.hok.laid k hp new)
theorem Inv.write {x e : Addr} {o : HO} {t' : Nat} (I : Inv X pins σ H s) (mu : Mut (H x)) (he : e = x ∨ H e = some (.own x)) (k : ∀ b u, b ≠ e → s.heap.get? b = some u → h'.get? b = some u) (heo : ∃ u, h'.get? e = some u)
    (new : ObjOk X.prog X.w (upd H x o) h' x o) : Inv X pins σ (upd H x o) { s with heap := h', toks := t' } := I.un (Un.write mu he k heo) (I.hok.write mu he k heo new)
theorem Inv.weak {σ' : List (Option V)} (I : Inv X pins σ H s) (hl : σ'.length = σ.length) (w : ∀ (i : Nat) v, σ'[i]? = some (some v) → σ[i]? = some (some v)) : Inv X pins σ' H s :=
  ⟨I.ok, I.os, I.bare, I.base, let ⟨m, hn, hl'⟩ := I.loc; ⟨m, hn, fun i x v e1 e2 e3 => hl' i x v e1 (w i v e2) e3⟩, I.cell, I.free, I.freeC, I.pin, I.hok, hl.trans I.len⟩
theorem Inv.pins_of {pins' : List (Addr × Obj)} (I : Inv X pins σ H s) (h : ∀ p ∈ pins', s.heap.get? p.1 = some p.2 ∧ H p.1 = none ∧ p.1 ≠ X.env.locals ∧ p.1 ∉ X.fs ∧ ∀ v, p.2.data ≠ .cell v) : Inv X pins' σ H s :=
  ⟨I.ok, I.os, I.bare, I.base, I.loc, I.cell, I.free, I.freeC, fun p hp => (List.mem_append.mp hp).elim (fun z => I.pin p (List.mem_append_left _ z)) (h p), I.hok, I.len⟩
theorem nodup_ix {N : List Str} (hN : N.Nodup) {i j : Nat} {x : Str} (a : N[i]? = some x) (b : N[j]? = some x) : i = j := by
  obtain ⟨h1, e1⟩ := List.getElem?_eq_some_iff.mp a
  obtain ⟨h2, e2⟩ := List.getElem?_eq_some_iff.mp b
  exact (List.getElem_inj hN).mp (e1.trans e2.symm)
theorem store_ok2 {M : Model} {A : Around} {E : Value → Shared → Prop} {i : Nat} {x : Str} {v : V} {u : Value} {Q : Unit → Shared → Prop} (I : Inv X pins σ H s) (hN : X.N.Nodup) (hi : X.N[i]? = some x) (hx : Loc X.env.scope x) (r : RelV v u)
    (h : ∀ s', Inv X pins (σ.set i (some v)) H s' → (∃ a, Heap.SameBut a s.heap s'.heap ∧ (a = X.env.locals ∨ X.env.cells.lookup x = some a)) → Q () s') (hf : X.fn x = true ∨ X.env.scope.names.lookup x = some .local := by first | exact .inl rfl | exact .inr rfl | assumption) : wpAny M A (storeName X.env x u) Q E s := by
  obtain ⟨m, hn, hl⟩ := id I.loc
  have hcls : (X.env.scope.kind == .class || (X.env.scope.kind == .module && X.env.locals != X.env.globals)) = false := by rw [I.ok.kind]; rfl
  have hiσ : i < σ.length := by rw [I.len]; exact (List.getElem?_eq_some_iff.mp hi).1
  have cne := I.cne
  have tracked : ∀ {a : Addr} {h' : Heap}, (∃ o, s.heap.get? a = some o ∧ H a = none) → Heap.SameBut a s.heap h' → HOk X.prog X.w H h' := fun {a h'} ha hs b ob e => by
    obtain ⟨_, _, hfree⟩ := ha
    refine (I.hok b ob e).stay (fun c w' hc q => (hs.2 c ?_).trans q) (fun _ q => q) fun _ _ q => q
    rintro rfl
    rcases hc with rfl | hc
    · rw [hfree] at e; cases e
    · rw [hfree] at hc; cases hc
  rcases hx with hk | hk
  · refine wpAny_storeName_local hk hn (fun h' hn' hs => ?_) hcls
    obtain ⟨oL, _, _, hoL, _⟩ := id hn
    refine h _ ⟨I.ok, I.os, I.bare, ⟨fun b o e n hb hx => ?_, fun b o e n hb hx => ?_, I.base.free, fun b o e hx => ?_, I.base.tups, I.base.frzs, I.base.tbls⟩, ⟨_, hn', fun j y v' e1 e2 e3 => ?_⟩, fun y c e => ?_, I.free, I.freeC, fun p hp => ?_, tracked ⟨oL, hoL, I.free⟩ hs, by simpa using I.len⟩ ⟨_, hs, .inl rfl⟩
    · exact (hs.2 b (Nat.ne_of_lt (Nat.lt_of_lt_of_le (Heap.lt_size e) I.ok.above))).trans (I.base.keep b o e n hb hx)
    · obtain ⟨sl, e1⟩ := I.base.slot b o e n hb hx
      exact ⟨sl, (hs.2 b (Nat.ne_of_lt (Nat.lt_of_lt_of_le (Heap.lt_size e) I.ok.above))).trans e1⟩
    · obtain ⟨o', e1⟩ := I.base.there b o e hx
      exact ⟨o', (hs.2 b (Nat.ne_of_lt (Nat.lt_of_lt_of_le (Heap.lt_size e) I.ok.above))).trans e1⟩
    · by_cases hj : j = i
      · subst hj
        rw [hi] at e1; cases e1
        rw [List.getElem?_set_self hiσ] at e2
        cases e2
        exact ⟨u, r, .inl ⟨hk, by simp⟩⟩
      · rw [List.getElem?_set_ne (Ne.symm hj)] at e2
        obtain ⟨u', r', q⟩ := hl j y v' e1 e2 e3
        refine ⟨u', r', ?_⟩
        rcases q with ⟨k, e⟩ | ⟨k, c, e, z⟩
        · refine .inl ⟨k, ?_⟩
          have : y ≠ x := fun e => hj (nodup_ix hN e1 (e ▸ hi))
          simp [this, e]
        · exact .inr ⟨k, c, e, z.sameBut hs (cne y c e)⟩
    · obtain ⟨w', z⟩ := I.cell y c e
      exact ⟨w', z.sameBut hs (cne y c e)⟩
    · obtain ⟨e, n, ne, nf, d⟩ := I.pin p hp
      exact ⟨(hs.2 p.1 ne).trans e, n, ne, nf, d⟩
  · have hfn : X.fn x = true := by
      rcases hf with z | z
      · exact z
      · rw [z] at hk; cases hk
    obtain ⟨c, hc⟩ := I.ok.has x (.inl hk)
    obtain ⟨w', z⟩ := I.cell x c hc
    refine wpAny_storeName_cell I.ok.kind hk hc z (fun h' hc' hs => ?_)
    obtain ⟨oc, hoc, hocd⟩ := id z
    refine h { s with heap := h' } ⟨I.ok, I.os, I.bare, ⟨fun b o e n hb hx => ?_, fun b o e n hb hx => ?_, I.base.free, fun b o e hx => ?_, I.base.tups, I.base.frzs, I.base.tbls⟩, ⟨m, hn.sameBut hs (Ne.symm (cne x c hc)), fun j y v' e1 e2 e3 => ?_⟩, fun y c' e => ?_, I.free, I.freeC, fun p hp => ?_, tracked ⟨oc, hoc, I.freeC x c hc⟩ hs, by simpa using I.len⟩ ⟨c, hs, .inr hc⟩
    · exact (hs.2 b (Nat.ne_of_lt (Nat.lt_of_lt_of_le (Heap.lt_size e) (I.ok.cab x c hfn hc)))).trans (I.base.keep b o e n hb hx)
    · obtain ⟨sl, e1⟩ := I.base.slot b o e n hb hx
      exact ⟨sl, (hs.2 b (Nat.ne_of_lt (Nat.lt_of_lt_of_le (Heap.lt_size e) (I.ok.cab x c hfn hc)))).trans e1⟩
    · obtain ⟨o', e1⟩ := I.base.there b o e hx
      exact ⟨o', (hs.2 b (Nat.ne_of_lt (Nat.lt_of_lt_of_le (Heap.lt_size e) (I.ok.cab x c hfn hc)))).trans e1⟩
    · by_cases hj : j = i
      · subst hj
        rw [hi] at e1; cases e1
        rw [List.getElem?_set_self hiσ] at e2
        cases e2
        exact ⟨u, r, .inr ⟨.inl hk, c, hc, hc'⟩⟩
      · rw [List.getElem?_set_ne (Ne.symm hj)] at e2
        obtain ⟨u', r', q⟩ := hl j y v' e1 e2 e3
        refine ⟨u', r', ?_⟩
        rcases q with q | ⟨k, c', e, z'⟩
        · exact .inl q
        · refine .inr ⟨k, c', e, z'.sameBut hs ?_⟩
          rintro rfl
          exact hj (nodup_ix hN e1 (I.ok.inj _ _ _ e hc ▸ hi))
    · by_cases hcc : c' = c
      · subst hcc; exact ⟨_, hc'⟩
      · obtain ⟨w2, z2⟩ := I.cell y c' e
        exact ⟨w2, z2.sameBut hs hcc⟩
    · obtain ⟨e, n, ne, nf, d⟩ := I.pin p hp
      refine ⟨(hs.2 p.1 ?_).trans e, n, ne, nf, d⟩
      intro q
      rw [q, hoc] at e
      have q' : oc = p.2 := Option.some.inj e
      exact d w' (by rw [← q']; exact hocd)
theorem store_ok {M : Model} {A : Around} {E : Value → Shared → Prop} {i : Nat} {x : Str} {v : V} {u : Value} {Q : Unit → Shared → Prop} (I : Inv X pins σ H s) (hN : X.N.Nodup) (hi : X.N[i]? = some x) (hx : Loc X.env.scope x) (r : RelV v u)
    (h : ∀ s', Inv X pins (σ.set i (some v)) H s' → Q () s') (hf : X.fn x = true ∨ X.env.scope.names.lookup x = some .local := by first | exact .inl rfl | exact .inr rfl | assumption) : wpAny M A (storeName X.env x u) Q E s :=
  store_ok2 I hN hi hx r (fun s' I' _ => h s' I') hf
theorem Inv.call' {s' : Shared} {ch : List Addr} (I : Inv X pins σ H s) (ho : s'.os = s.os) (u : Un (frs X.stack) ch H H' s.heap s'.heap) (hok : HOk X.prog X.w H' s'.heap) (hg : AllBare s'.gens)
    (hch : ∀ b ∈ ch, (b ∈ X.ex ∨ X.s₀.heap.objs.size ≤ b) ∧ b ≠ X.env.locals ∧ (∀ x c, X.env.cells.lookup x = some c → c ≠ b) ∧ ∀ p ∈ X.pn ++ pins, p.1 ≠ b) : Inv X pins σ H' s' := by
  obtain ⟨h', g', d', t', o'⟩ := s'
  have e : o' = s.os := ho
  subst e
  exact I.call (g' := g') (t' := t') (d' := d') u hok hg hch
end
abbrev XK := Value → Option Addr → Hp → Prop
abbrev St := List (Option V)
abbrev VK := V → Hp → Prop
abbrev TE := St → Hp → VK → Prop
abbrev TT := St → Hp → (Bool → Hp → Prop) → Prop
abbrev TA := St → Hp → (List V → Hp → Prop) → Prop
structure Ends where
  nx : St → Hp → Prop
  rt : VK
  bk : St → Hp → Prop := fun _ _ => False
  ct : St → Hp → Prop := fun _ _ => False
abbrev TS := Ends → St → Hp → Prop
def EP (X : Cx) (pins : List (Addr × Obj)) (σ : St) (Q : VK) (u : Value) (s' : Shared) : Prop := ∃ v H', Inv X pins σ H' s' ∧ RelV v u ∧ Q v H'
def TP (X : Cx) (pins : List (Addr × Obj)) (σ : St) (Q : Bool → Hp → Prop) (b : Bool) (s' : Shared) : Prop := ∃ H', Inv X pins σ H' s' ∧ Q b H'
def AP (X : Cx) (pins : List (Addr × Obj)) (σ : St) (Q : List V → Hp → Prop) (us : List Value) (s' : Shared) : Prop := ∃ vs H', Inv X pins σ H' s' ∧ Vals vs us ∧ Q vs H'
def SP (X : Cx) (pins : List (Addr × Obj)) (D : Ends) (f : Flow) (s' : Shared) : Prop :=
  match f with
  | .next => ∃ σ' H', Inv X pins σ' H' s' ∧ D.nx σ' H'
  | .brk => ∃ σ' H', Inv X pins σ' H' s' ∧ D.bk σ' H'
  | .cont => ∃ σ' H', Inv X pins σ' H' s' ∧ D.ct σ' H'
  | .ret u => ∃ v σ' H', Inv X pins σ' H' s' ∧ RelV v u ∧ D.rt v H'
def PE (X : Cx) (e : Expr) (t : TE) : Prop :=
  ∀ (pins : List (Addr × Obj)) (s : Shared) (σ : St) (H : Hp) (Q : VK), Inv X pins σ H s → t σ H Q → wpAny (model X.prog X.w) X.A (eval e X.env) (EP X pins σ Q) X.xe s
def PT (X : Cx) (e : Expr) (t : TT) : Prop :=
  ∀ (pins : List (Addr × Obj)) (s : Shared) (σ : St) (H : Hp) (Q : Bool → Hp → Prop), Inv X pins σ H s → t σ H Q → wpAny (model X.prog X.w) X.A (isTrue e X.env (eval e X.env)) (TP X pins σ Q) X.xe s
def PW (X : Cx) (e : Expr) (t : TT) : Prop :=
  ∀ (whole : Sem Value) (pins : List (Addr × Obj)) (s : Shared) (σ : St) (H : Hp) (Q : Bool → Hp → Prop), Inv X pins σ H s → t σ H Q → wpAny (model X.prog X.w) X.A (isTrue e X.env whole) (TP X pins σ Q) X.xe s
theorem PW.pt {X : Cx} {e : Expr} {t : TT} (h : PW X e t) : PT X e t := h _
def PA (X : Cx) (es : List Expr) (t : TA) : Prop :=
  ∀ (pos : Pos) (pins : List (Addr × Obj)) (s : Shared) (σ : St) (H : Hp) (Q : List V → Hp → Prop), Inv X pins σ H s → t σ H Q → wpAny (model X.prog X.w) X.A (spliced (backTo pos (starEach es X.env))) (AP X pins σ Q) X.xe s
def PS (X : Cx) (st : Stmt) (t : TS) : Prop :=
  ∀ (pins : List (Addr × Obj)) (s : Shared) (σ : St) (H : Hp) (D : Ends), Inv X pins σ H s → t D σ H → wpAny (model X.prog X.w) X.A (exec st X.env) (SP X pins D) X.xe s
def PSs (X : Cx) (st : List Stmt) (t : TS) : Prop :=
  ∀ (pins : List (Addr × Obj)) (s : Shared) (σ : St) (H : Hp) (D : Ends), Inv X pins σ H s → t D σ H → wpAny (model X.prog X.w) X.A (execs st X.env) (SP X pins D) X.xe s
theorem thn {α : Type} {t : Sem α} {Q Q' : α → Shared → Prop} {M : Model} {A : Around} {E : Value → Shared → Prop} {s : Shared} (h : wpAny M A t Q E s) (hQ : ∀ a s, Q a s → Q' a s) : wpAny M A t Q' E s := wpAny_mono h hQ fun _ _ x => x
end L2
namespace L2
open PySem PySem.Spec PyProof.Rows
section
variable {X : Cx}
def tVar (i : Nat) : TE := fun σ H Q => ∃ v, σ[i]? = some (some v) ∧ Q v H
def tC (v : V) : TE := fun _ H Q => Q v H
theorem pe_var {i : Nat} {x : Str} {pos : Pos} (hN : X.N[i]? = some x) (hv : Vis X.env.scope x) (hd : (x == ("__debug__" : Str)) = false := by decide) (hcd : (x == ("__classdict__" : Str)) = false := by decide) : PE X (.Name x pos) (tVar i) := by
  intro pins s σ H Q I h
  obtain ⟨v, e, h⟩ := h
  obtain ⟨m, hn, hl⟩ := I.loc
  obtain ⟨u, r, l⟩ := hl i x v hN e hv
  have fin : EP X pins σ Q u s := ⟨v, H, I, r, h⟩
  rcases l with ⟨hk, hm⟩ | ⟨hk, c, hc, hcell⟩
  · exact wpAny_Name (wpAny_loadName_local I.ok.kind hk hn hm fin) hd
  · rcases hk with hk | hk
    · exact wpAny_Name (wpAny_loadName_cell I.ok.kind hk hc hcell fin) hd
    · exact wpAny_Name (wpAny_loadName_free I.ok.kind hk hc hcell fin hcd) hd
theorem pe_int {i j pos} : PE X (.Constant (.int i) j pos) (tC (.int i)) := fun _ _ _ H _ I h => wpAny_Constant_int ⟨.int i, H, I.tok _, ⟨_, rfl⟩, h⟩
theorem pe_bl {b j pos} : PE X (.Constant (.bool b) j pos) (tC (.bl b)) := fun _ _ _ H _ I h => Constant_bool ⟨.bl b, H, I, rfl, h⟩
theorem pe_str {x j pos} : PE X (.Constant (.str x) j pos) (tC (.str x)) := fun _ _ _ H _ I h => Calls.Constant_str ⟨.str x, H, I.tok _, ⟨_, rfl⟩, h⟩
def Gl (X : Cx) (x : Str) : Prop := X.env.kindOf x = some .globalImplicit
theorem ld_glob {E : Value → Shared → Prop} {pins : List (Addr × Obj)} {s : Shared} {σ : St} {H : Hp} {x : Str} {u : Value} {pos : Pos} {Q : Value → Shared → Prop} (I : Inv X pins σ H s) (hg : Gl X x) (hm : X.mg x = some u) (h : Q u s)
    (hd : (x == ("__debug__" : Str)) = false := by decide) : wpAny (model X.prog X.w) X.A (eval (.Name x pos) X.env) Q E s :=
  Calls.Name_function_global I.ok.kind hg (Calls.loadGlobal_global (by rw [I.ok.glob]; exact I.mod.glob.keeps I.bk) hm h) hd
theorem ld_blt {E : Value → Shared → Prop} {pins : List (Addr × Obj)} {s : Shared} {σ : St} {H : Hp} {x : Str} {u : Value} {pos : Pos} {Q : Value → Shared → Prop} (I : Inv X pins σ H s) (hg : Gl X x) (hm : X.mg x = none) (hv : bootBuiltins x = some u) (h : Q u s)
    (hn : x ≠ "__name__" := by decide) (hd : (x == ("__debug__" : Str)) = false := by decide) : wpAny (model X.prog X.w) X.A (eval (.Name x pos) X.env) Q E s := by
  obtain ⟨mb, h1, h2⟩ := I.mod.blt
  exact Calls.Name_function_global I.ok.kind hg (Calls.loadGlobal_builtin (by rw [I.ok.glob]; exact I.mod.glob.keeps I.bk) hm (by rw [I.ok.blt]; exact h1.keeps I.bk) ((h2 x hn).trans hv) h) hd
theorem pe_glob {x : Str} {v : V} {u : Value} {pos : Pos} (hg : Gl X x) (hm : X.mg x = some u) (r : RelV v u) (hd : (x == ("__debug__" : Str)) = false := by decide) : PE X (.Name x pos) (tC v) :=
  fun _ _ _ H _ I h => ld_glob I hg hm ⟨v, H, I, r, h⟩ hd
theorem pe_bltn {x : Str} {v : V} {u : Value} {pos : Pos} (hg : Gl X x) (hm : X.mg x = none) (hv : bootBuiltins x = some u) (r : RelV v u) (hn : x ≠ "__name__" := by decide) (hd : (x == ("__debug__" : Str)) = false := by decide) : PE X (.Name x pos) (tC v) :=
  fun _ _ _ H _ I h => ld_blt I hg hm hv ⟨v, H, I, r, h⟩ hn hd
variable {a b : Expr} {ta tb : TE} {pos : Pos}
def tB (t : TE) : TT := fun σ H Q => t σ H fun x H1 => ∃ c, x = .bl c ∧ Q c H1
theorem pt_val {e : Expr} {t : TE} (h : PE X e t) (he : ∀ whole, isTrue e X.env whole = (do let v ← whole; standAt e.pos; holding [v] (truthy v)) := by intro _; rfl) : PT X e (tB t) := by
  intro pins s σ H Q I hw
  refine isTrue_plain (thn (h pins s σ H _ I hw) fun v s1 ⟨x, H1, I1, r1, q1⟩ => ?_) (he _)
  obtain ⟨d, rfl, q⟩ := q1
  cases r1
  exact wpAny_truthy_bool ⟨H1, I1, q⟩
variable {tA tB' : TT} {rest : List Expr}
def tAnd (t u : TT) : TT := fun σ H Q => t σ H fun c H1 => if c = true then u σ H1 Q else Q false H1
def tOr (t u : TT) : TT := fun σ H Q => t σ H fun c H1 => if c = true then Q true H1 else u σ H1 Q
def tNot (t : TT) : TT := fun σ H Q => t σ H fun c H1 => Q (!c) H1
theorem pw_and1 (ha : PT X a tA) : PW X (.BoolOp .And [a] pos) tA := by
  intro wh pins s σ H Q I h
  refine isTrue_and (thn (ha pins s σ H Q I h) fun c s1 e => ?_)
  cases c with
  | true => exact isTrue_and_nil e
  | false => exact e
theorem pw_or1 (ha : PT X a tA) : PW X (.BoolOp .Or [a] pos) tA := by
  intro wh pins s σ H Q I h
  refine isTrue_or (thn (ha pins s σ H Q I h) fun c s1 e => ?_)
  cases c with
  | false => exact isTrue_or_nil e
  | true => exact e
theorem pw_and (ha : PT X a tA) (hb : PW X (.BoolOp .And (b :: rest) pos) tB') : PW X (.BoolOp .And (a :: b :: rest) pos) (tAnd tA tB') := by
  intro wh pins s σ H Q I h
  refine isTrue_and (thn (ha pins s σ H _ I h) fun c s1 ⟨H1, I1, q1⟩ => ?_)
  cases c with
  | true => exact hb wh pins s1 σ H1 Q I1 q1
  | false => exact ⟨H1, I1, q1⟩
theorem pw_or (ha : PT X a tA) (hb : PW X (.BoolOp .Or (b :: rest) pos) tB') : PW X (.BoolOp .Or (a :: b :: rest) pos) (tOr tA tB') := by
  intro wh pins s σ H Q I h
  refine isTrue_or (thn (ha pins s σ H _ I h) fun c s1 ⟨H1, I1, q1⟩ => ?_)
  cases c with
  | true => exact ⟨H1, I1, q1⟩
  | false => exact hb wh pins s1 σ H1 Q I1 q1
theorem pt_not (ha : PT X a tA) : PT X (.UnaryOp .Not a pos) (tNot tA) := by
  intro pins s σ H Q I h
  exact isTrue_not (ha pins s σ H (fun c H1 => Q (!c) H1) I h)
def tAndV (ta tb : TE) : TE := fun σ H Q => ta σ H fun x H1 => ∃ c, x = .bl c ∧ if c = true then tb σ H1 Q else Q (.bl false) H1
def tOrV (ta tb : TE) : TE := fun σ H Q => ta σ H fun x H1 => ∃ c, x = .bl c ∧ if c = true then Q (.bl true) H1 else tb σ H1 Q
def tNotV (ta : TE) : TE := fun σ H Q => ta σ H fun x H1 => ∃ c, x = .bl c ∧ Q (.bl (!c)) H1
theorem pe_one {op} {t : TE} (h : PE X a t) : PE X (.BoolOp op [a] pos) t := fun pins s σ H Q I hw => BoolOp_one (h pins s σ H Q I hw)
theorem pe_and (ha : PE X a ta) (hb : PE X (.BoolOp .And (b :: rest) pos) tb) : PE X (.BoolOp .And (a :: b :: rest) pos) (tAndV ta tb) := by
  intro pins s σ H Q I h
  refine BoolOp_and (thn (ha pins s σ H _ I h) fun v s1 ⟨x, H1, I1, r1, q1⟩ => ?_)
  obtain ⟨c, rfl, q1⟩ := q1
  cases r1
  refine wpAny_truthy_bool ?_
  cases c with
  | true => exact hb pins s1 σ H1 Q I1 q1
  | false => exact ⟨.bl false, H1, I1, rfl, q1⟩
def tIf (t : TT) (ta tb : TE) : TE := fun σ H Q => t σ H fun c H1 => if c = true then ta σ H1 Q else tb σ H1 Q
end
end L2
namespace L2
open PySem PySem.Spec PyProof.Rows
def SqL (K : PySem.W.Frag) (H : Hp) (a : Addr) (xs : List V) : Prop :=
  Rd H a (.lst xs) ∨
    ∃ (o : Obj) (its : Array Value) (n : Nat), K.lookup a = some o ∧ o.cls = .type "list" ∧ o.dict = none ∧ o.data = .seq its n ∧ its.size ≤ sizeLine ∧ Vals xs its.toList
def SqT (K : PySem.W.Frag) (H : Hp) (a : Addr) (xs : List V) : Prop :=
  Rd H a (.tup xs) ∨
    ∃ (o : Obj) (its : Array Value) (n : Nat), K.lookup a = some o ∧ o.cls = .type "tuple" ∧ o.data = .seq its n ∧ its.size ≤ sizeLine ∧ Vals xs its.toList
def absV : Value → Option V
  | .none => some .non
  | .bool b => some (.bl b)
  | .int i _ => some (.int i)
  | .str x _ => some (.str x)
  | .bytes b _ => some (.byt b)
  | .float b _ => some (.flt b)
  | .ref a => some (.ref a)
  | .type n => some (.ty n)
  | _ => none
theorem RelV.abs {x : V} {u : Value} (r : RelV x u) : absV u = some x := by
  cases x with
  | non => cases r; rfl
  | bl _ => cases r; rfl
  | int _ => obtain ⟨t, rfl⟩ := r; rfl
  | str _ => obtain ⟨t, rfl⟩ := r; rfl
  | byt _ => obtain ⟨t, rfl⟩ := r; rfl
  | flt _ => obtain ⟨t, rfl⟩ := r; rfl
  | ref _ => cases r; rfl
  | ty _ => cases r; rfl
theorem RelV.inj {x y : V} {u : Value} (r : RelV x u) (q : RelV y u) : x = y := Option.some.inj (r.abs.symm.trans q.abs)
theorem Vals.inj : ∀ {xs ys : List V} {us : List Value}, Vals xs us → Vals ys us → xs = ys
  | _, _, _, .nil, .nil => rfl
  | _, _, _, .cons r t, .cons r' t' => by rw [r.inj r', Vals.inj t t']
section
variable {X : Cx} {pins : List (Addr × Obj)} {σ : St} {H : Hp} {s : Shared} {a : Addr} {xs ys : List V}
theorem SqL.of {K : PySem.W.Frag} (h : H a = some (.lst xs)) : SqL K H a xs := .inl (.inl h)
theorem SqT.of {K : PySem.W.Frag} (h : H a = some (.tup xs)) : SqT K H a xs := .inl (.inl h)
theorem Inv.list (I : Inv X pins σ H s) (h : SqL X.K H a xs) : ∃ its : List Value, Vals xs its ∧ PlainL s.heap a its.toArray ∧ xs.length ≤ sizeLine := by
  rcases h with h | ⟨o, its, n, hk, hc, hd, hs, hz, r⟩
  · obtain ⟨z, its, n, r, e⟩ := h.ok I.hok
    exact ⟨its, r, ⟨_, n, e, rfl, rfl, rfl⟩, z⟩
  · refine ⟨its.toList, r, ⟨o, n, I.kIn a o hk, hc, hd, by simpa using hs⟩, ?_⟩
    have e := r.length
    simp only [Array.length_toList] at e
    omega
theorem Inv.tuple (I : Inv X pins σ H s) (h : SqT X.K H a xs) : ∃ its : List Value, Vals xs its ∧ IsTup s.heap a its.toArray ∧ xs.length ≤ sizeLine := by
  rcases h with h | ⟨o, its, n, hk, hc, hs, hz, r⟩
  · obtain ⟨z, its, r, p⟩ := h.ok I.hok
    exact ⟨its, r, p, z⟩
  · refine ⟨its.toList, r, ⟨o, I.kIn a o hk, hc, n, by simpa using hs⟩, ?_⟩
    have e := r.length
    simp only [Array.length_toList] at e
    omega
theorem Inv.list_inj (I : Inv X pins σ H s) (h : SqL X.K H a xs) (h' : SqL X.K H a ys) : xs = ys := by
  obtain ⟨its, r, ⟨o, n, e, _, _, d⟩, _⟩ := I.list h
  obtain ⟨its', r', ⟨o', n', e', _, _, d'⟩, _⟩ := I.list h'
  rw [e] at e'; cases e'
  rw [d] at d'
  injection d' with d1 _
  have : its = its' := by simpa using congrArg Array.toList d1
  subst this
  exact r.inj r'
end
abbrev Cx.wish (X : Cx) (E : Value → Shared → Prop) : Cx := { X with xe := E }
abbrev Cx.nox (X : Cx) : Cx := X.wish fun _ _ => False
theorem Cx.Ok.wish {X : Cx} (ok : X.Ok) (E : Value → Shared → Prop) : (X.wish E).Ok :=
  ⟨ok.mod, ok.kind, ok.glob, ok.blt, ok.above, ok.inj, ok.has, ok.cab, ok.hd, ok.frames, ok.stk, ok.exf, ok.bs, ok.bsz, ok.noex, ok.exfs, ok.funs, ok.frf⟩
theorem Cx.Ok.unwish {X : Cx} {E : Value → Shared → Prop} (ok : (X.wish E).Ok) : X.Ok :=
  ⟨ok.mod, ok.kind, ok.glob, ok.blt, ok.above, ok.inj, ok.has, ok.cab, ok.hd, ok.frames, ok.stk, ok.exf, ok.bs, ok.bsz, ok.noex, ok.exfs, ok.funs, ok.frf⟩
section
variable {X : Cx} {pins : List (Addr × Obj)} {σ : St} {H : Hp} {s : Shared} {E : Value → Shared → Prop}
theorem Inv.wish (I : Inv X pins σ H s) (E : Value → Shared → Prop) : Inv (X.wish E) pins σ H s := ⟨I.ok.wish E, I.os, I.bare, I.base, I.loc, I.cell, I.free, I.freeC, I.pin, I.hok, I.len⟩
theorem Inv.unwish (I : Inv (X.wish E) pins σ H s) : Inv X pins σ H s := ⟨I.ok.unwish, I.os, I.bare, I.base, I.loc, I.cell, I.free, I.freeC, I.pin, I.hok, I.len⟩
theorem SP.unwish {D : Ends} {f : Flow} {s' : Shared} (h : SP (X.wish E) pins D f s') : SP X pins D f s' := by
  cases f with
  | next => obtain ⟨σ', H', I, q⟩ := h; exact ⟨σ', H', I.unwish, q⟩
  | brk => obtain ⟨σ', H', I, q⟩ := h; exact ⟨σ', H', I.unwish, q⟩
  | cont => obtain ⟨σ', H', I, q⟩ := h; exact ⟨σ', H', I.unwish, q⟩
  | ret u => obtain ⟨v, σ', H', I, r, q⟩ := h; exact ⟨v, σ', H', I.unwish, r, q⟩
theorem PE.nox {e : Expr} {t : TE} (h : PE X.nox e t) : PE X e t := fun pins s σ H Q I hw =>
  wpAny_mono (h pins s σ H Q (I.wish _) hw) (fun _ _ ⟨v, H', I', r, q⟩ => ⟨v, H', I'.unwish, r, q⟩) fun _ _ z => False.elim z
theorem PT.nox {e : Expr} {t : TT} (h : PT X.nox e t) : PT X e t := fun pins s σ H Q I hw =>
  wpAny_mono (h pins s σ H Q (I.wish _) hw) (fun _ _ ⟨H', I', q⟩ => ⟨H', I'.unwish, q⟩) fun _ _ z => False.elim z
theorem PSs.nox {st : List Stmt} {t : TS} (h : PSs X.nox st t) : PSs X st t := fun pins s σ H D I hw =>
  wpAny_mono (h pins s σ H D (I.wish _) hw) (fun _ _ q => q.unwish) fun _ _ z => False.elim z
end
section
variable {X : Cx} {st : Stmt} {rest : List Stmt} {t u : TS} {e : Expr} {te : TE} {pos : Pos}
def tNext : TS := fun D σ H => D.nx σ H
def tSeq (t u : TS) : TS := fun D σ H => t { D with nx := u D } σ H
theorem pss_nil : PSs X [] tNext := fun _ _ σ H _ I h => wpAny_execs_nil ⟨σ, H, I, h⟩
theorem pss_cons (h1 : PS X st t) (h2 : PSs X rest u) : PSs X (st :: rest) (tSeq t u) := by
  intro pins s σ H D I h
  refine wpAny_execs_cons (thn (h1 pins s σ H { D with nx := u D } I h) fun f s1 q => ?_)
  cases f with
  | next =>
    obtain ⟨σ', H', I', q⟩ := q
    exact h2 pins s1 σ' H' D I' q
  | ret v => exact q
  | brk => exact q
  | cont => exact q
theorem pss_one (h1 : PS X st t) : PSs X [st] t := by
  intro pins s σ H D I h
  refine wpAny_execs_cons (thn (h1 pins s σ H D I h) fun f s1 q => ?_)
  cases f with
  | next => exact wpAny_execs_nil q
  | ret v => exact q
  | brk => exact q
  | cont => exact q
theorem Inv.quiet {pins : List (Addr × Obj)} {σ : St} {H : Hp} {s : Shared} (I : Inv X pins σ H s) : interactive X.env = false := by simp [interactive, I.ok.kind]
def tDrop (te : TE) : TS := fun D σ H => te σ H fun _ H1 => D.nx σ H1
theorem ps_expr (he : PE X e te) (hs : swapsWith e none pos.line X.env = pure false := by rfl) : PS X (.Expr e pos) (tDrop te) := by
  intro pins s σ H D I h
  exact wpAny_Expr_any (thn (he pins s σ H _ I h) fun v s1 ⟨x, H1, I1, r1, q1⟩ => ⟨σ, H1, I1, q1⟩) I.quiet hs
def tRet (te : TE) : TS := fun D σ H => te σ H D.rt
theorem ps_ret (he : PE X e te) : PS X (.Return (some e) pos) (tRet te) := by
  intro pins s σ H D I h
  exact wpAny_Return_some (thn (he pins s σ H _ I h) fun v s1 ⟨x, H1, I1, r1, q1⟩ => ⟨x, σ, H1, I1, r1, q1⟩)
def tIfS (c : TT) (t u : TS) : TS := fun D σ H => c σ H fun b H1 => if b = true then t D σ H1 else u D σ H1
theorem ps_if {c : Expr} {a b : List Stmt} {tc : TT} (hc : PT X c tc) (ha : PSs X a t) (hb : PSs X b u) : PS X (.If c a b pos) (tIfS tc t u) := by
  intro pins s σ H D I h
  refine wpAny_If (thn (hc pins s σ H _ I h) fun d s1 ⟨H1, I1, q1⟩ => ?_)
  cases d with
  | true => exact ha pins s1 σ H1 D I1 q1
  | false => exact hb pins s1 σ H1 D I1 q1
def tNever : TS := fun _ _ _ => False
theorem ps_never : PS X st tNever := fun _ _ _ _ _ _ h => h.elim
end
abbrev TG := V → St → Hp → (St → Hp → Prop) → Prop
abbrev TGs := List V → St → Hp → (St → Hp → Prop) → Prop
def PG (X : Cx) (target : Expr) (t : TG) : Prop :=
  ∀ (pins : List (Addr × Obj)) (s : Shared) (σ : St) (H : Hp) (v : V) (u : Value) (Q : St → Hp → Prop), Inv X pins σ H s → RelV v u → t v σ H Q →
    wpAny (model X.prog X.w) X.A (assign target X.env u) (fun _ s' => ∃ σ' H', Inv X pins σ' H' s' ∧ Q σ' H') X.xe s
def PGs (X : Cx) (ts : List Expr) (t : TGs) : Prop :=
  ∀ (pins : List (Addr × Obj)) (s : Shared) (σ : St) (H : Hp) (vs : List V) (us : List Value) (Q : St → Hp → Prop), Inv X pins σ H s → Vals vs us → t vs σ H Q →
    wpAny (model X.prog X.w) X.A (assignInOrder ((assignEach ts X.env).map (·.2)) us) (fun _ s' => ∃ σ' H', Inv X pins σ' H' s' ∧ Q σ' H') X.xe s
abbrev TSet := V → V → V → Hp → (Hp → Prop) → Prop
def PSet (X : Cx) (t : TSet) : Prop :=
  ∀ (pins : List (Addr × Obj)) (s : Shared) (σ : St) (H : Hp) (o i v : V) (ov iv u : Value) (Q : Hp → Prop), Inv X pins σ H s → RelV o ov → RelV i iv → RelV v u → t o i v H Q →
    wpAny (model X.prog X.w) X.A (setItem ov iv u) (fun _ s' => ∃ H', Inv X pins σ H' s' ∧ Q H') X.xe s
section
variable {X : Cx} {pos : Pos}
def gName (i : Nat) : TG := fun v σ H Q => Q (σ.set i (some v)) H
theorem pg_name {i : Nat} {x : Str} (hN : X.N.Nodup) (hi : X.N[i]? = some x) (hx : Loc X.env.scope x) (hf : X.fn x = true ∨ X.env.scope.names.lookup x = some .local := by first | exact .inl rfl | exact .inr rfl | assumption) : PG X (.Name x pos) (gName i) := by
  intro pins s σ H v u Q I r h
  exact wpAny_assign_Name (store_ok I hN hi hx r (fun s' I' => ⟨_, H, I', h⟩) hf)
def gNil : TGs := fun vs σ H Q => vs = [] ∧ Q σ H
def gCons (t : TG) (u : TGs) : TGs := fun vs σ H Q => ∃ v r, vs = v :: r ∧ t v σ H fun σ' H' => u r σ' H' Q
theorem pgs_nil : PGs X [] gNil := by
  intro pins s σ H vs us Q I r h
  obtain ⟨e, h⟩ := h
  subst e
  cases r
  exact assignInOrder_nil ⟨σ, H, I, h⟩
theorem pgs_cons {e : Expr} {es : List Expr} {t : TG} {u : TGs} (h1 : PG X e t) (h2 : PGs X es u)
    (hs : (assignEach (e :: es) X.env).map (·.2) = assign e X.env :: (assignEach es X.env).map (·.2) := by rfl) : PGs X (e :: es) (gCons t u) := by
  intro pins s σ H vs us Q I r h
  obtain ⟨v, vr, e1, h⟩ := h
  subst e1
  cases r with
  | cons r rr =>
    rw [hs]
    refine assignInOrder_cons (thn (h1 pins s σ H _ _ _ I r h) fun _ s1 ⟨σ1, H1, I1, q1⟩ => ?_)
    exact h2 pins s1 σ1 H1 _ _ Q I1 rr q1
def gTup (K : PySem.W.Frag) (n : Nat) (t : TGs) : TG := fun v σ H Q => ∃ a xs, v = .ref a ∧ SqT K H a xs ∧ xs.length = n ∧ t xs σ H Q
theorem pg_tup {es : List Expr} {k : Nat} {t : TGs} {n : Nat} (hc : X.calm = true) (h : PGs X es t)
    (hn : (assignEach es X.env).length = n := by rfl) (hst : (assignEach es X.env).findIdx? (·.1) = none := by rfl) : PG X (.Tuple es k pos) (gTup X.K n t) := by
  intro pins s σ H v u Q I r hw
  obtain ⟨a, xs, e1, hq, hl, hw⟩ := hw
  subst e1
  cases r
  obtain ⟨its, rv, ht, hz⟩ := I.tuple hq
  refine assign_Tuple_tuple (I.ok.hd hc) ht (by simp [hn, ← hl, rv.length]) hst fun h' hx => ?_
  have I1 : Inv X pins σ H { s with heap := h' } := I.kept (t' := s.toks) fun b o e => hx b o (Nat.ne_of_lt (Heap.lt_size e)) e
  exact h pins _ σ H xs _ Q I1 (by simpa using rv) hw
def gSub (to ti : TE) (t : TSet) : TG := fun v σ H Q => to σ H fun o H1 => ti σ H1 fun i H2 => t o i v H2 fun H3 => Q σ H3
theorem pg_sub {o i : Expr} {to ti : TE} {t : TSet} (ho : PE X o to) (hi : PE X i ti) (hs : PSet X t)
    (ha : ∀ v, assign (.Subscript o i pos) X.env v = (do
      let ov ← holding [v] (eval o X.env)
      let iv ← holding [v, ov] (eval i X.env)
      standAt pos
      holding [v, ov, iv] (setItem ov iv v)
      release [v, ov, iv] []) := by intro _; rfl) : PG X (.Subscript o i pos) (gSub to ti t) := by
  intro pins s σ H v u Q I r h
  rw [ha]
  refine wpAny_bind (wpAny_holding (thn (ho pins s σ H _ I h) fun ov s1 ⟨x, H1, I1, r1, q1⟩ => ?_))
  refine wpAny_bind (wpAny_holding (thn (hi pins s1 σ H1 _ I1 q1) fun iv s2 ⟨y, H2, I2, r2, q2⟩ => ?_))
  refine wpAny_bind (wpAny_standAt (wpAny_bind (wpAny_holding (thn (hs pins s2 σ H2 x y v ov iv u _ I2 r1 r2 r q2) fun _ s3 ⟨H3, I3, q3⟩ => ?_))))
  exact wpAny_release ⟨σ, H3, I3, q3⟩
def tAsg (te : TE) (g : TG) : TS := fun D σ H => te σ H fun x H1 => g x σ H1 D.nx
theorem ps_asg {tg e : Expr} {te : TE} {g : TG} (he : PE X e te) (hg : PG X tg g) (hs : swapsWithSole [tg] e pos.line X.env = pure false := by rfl) (hw : swappedStores [tg] e X.env = pure none := by rfl)
    (h1 : (assignEach [tg] X.env).map (·.2) = [assign tg X.env] := by rfl) : PS X (.Assign [tg] e pos) (tAsg te g) := by
  intro pins s σ H D I h
  refine wpAny_Assign_stores (thn (he pins s σ H _ I h) fun v s1 ⟨x, H1, I1, r1, q1⟩ => ?_) hs hw
  rw [h1]
  exact thn (hg pins s1 σ H1 x v _ I1 r1 q1) fun _ s2 q => q
theorem ps_set {i : Nat} {x : Str} {e : Expr} {te : TE} {pos' : Pos} (hN : X.N.Nodup) (hi : X.N[i]? = some x) (hx : Loc X.env.scope x) (he : PE X e te) (hs : swapsWith e (some (.Name x pos')) pos.line X.env = pure false := by rfl) (hf : X.fn x = true ∨ X.env.scope.names.lookup x = some .local := by first | exact .inl rfl | exact .inr rfl | assumption) :
    PS X (.Assign [.Name x pos'] e pos) (tAsg te (gName i)) := by
  intro pins s σ H D I h
  refine wpAny_Assign_Name (thn (he pins s σ H _ I h) fun v s1 ⟨y, H1, I1, r1, q1⟩ => ?_) hs
  exact store_ok I1 hN hi hx r1 (fun s2 I2 => ⟨_, H1, I2, q1⟩) hf
def tPar (i j : Nat) (ta : TA) : TS := fun D σ H => ta σ H fun vs H1 => ∃ v w, vs = [v, w] ∧ D.nx ((σ.set i (some v)).set j (some w)) H1
theorem ps_par {i j : Nat} {x y : Str} {a b : Expr} {ta : TA} {px py pt : Pos} {kt k2 pt2} (hc : X.calm = true) (hN : X.N.Nodup) (hi : X.N[i]? = some x) (hj : X.N[j]? = some y) (hij : i ≠ j)
    (hx : X.env.scope.names.lookup x = some .local) (hy : X.env.scope.names.lookup y = some .local) (ha : PA X [a, b] ta)
    (hw : swappedStores [.Tuple [.Name x px, .Name y py] kt pt] (.Tuple [a, b] k2 pt2) X.env = pure (some [x, y]))
    (hs : swapsWithSole [.Tuple [.Name x px, .Name y py] kt pt] (.Tuple [a, b] k2 pt2) pos.line X.env = pure false := by rfl) :
    PS X (.Assign [.Tuple [.Name x px, .Name y py] kt pt] (.Tuple [a, b] k2 pt2) pos) (tPar i j ta) := by
  intro pins s σ H D I h
  rw [exec_Assign_arm]
  refine wpAny_bind (wpAny_standAt ?_)
  rw [hs]
  refine wpAny_bind (wpAny_pure ?_)
  rw [if_neg (by decide)]
  refine wpAny_bind (Tuple_ (thn (ha _ pins s σ H _ I h) fun us s1 ⟨vs, H1, I1, r1, q1⟩ => ?_))
  obtain ⟨v, w, e1, q1⟩ := q1
  subst e1
  obtain ⟨u1, u2, rfl, rv, rw'⟩ : ∃ u1 u2, us = [u1, u2] ∧ RelV v u1 ∧ RelV w u2 := by
    cases r1 with
    | cons p q =>
      cases q with
      | cons p' q' =>
        cases q'
        exact ⟨_, _, rfl, p, p'⟩
  refine wpAny_newObj_type ?_ (by show 2 ≤ sizeLine; decide)
  have I2 : Inv X pins σ H1 { s1 with heap := s1.heap.push { cls := .type "tuple", data := .seq [u1, u2].toArray } } := I1.kept (t' := s1.toks) fun b o e => Heap.get?_push_of_some _ e
  rw [hw]
  refine wpAny_bind (wpAny_pure ?_)
  show wpAny (model X.prog X.w) X.A (do rule "assign.swapped-stores"; let items ← unpackItems (.ref s1.heap.objs.size) 2 none; assignInOrder [fun v => bindName X.env y v, fun v => bindName X.env x v] items.reverse; pure Flow.next) _ _ _
  refine wpAny_bind (wpAny_rule (wpAny_bind (unpackItems_tuple (items := #[u1, u2]) (I.ok.hd hc) (IsTup.new s1.heap _) fun h' hx' => ?_)))
  have I3 := I2.kept (h' := h') (t' := s1.toks) fun b o e => hx' b o (Nat.ne_of_lt (Heap.lt_size e)) e
  show wpAny _ _ (assignInOrder [fun v => bindName X.env y v, fun v => bindName X.env x v] [u2, u1] >>= fun _ => pure Flow.next) _ _ _
  refine wpAny_bind (assignInOrder_cons (wpAny_bindName (store_ok I3 hN hj (.inl hy) rw' (fun s2 I4 => ?_) (.inr hy))))
  refine assignInOrder_cons (wpAny_bindName (store_ok I4 hN hi (.inl hx) rv (fun s3 I5 => assignInOrder_nil (wpAny_pure ?_)) (.inr hx)))
  rw [List.set_comm _ _ (Ne.symm hij)] at I5
  exact ⟨_, H1, I5, q1⟩
end
section
variable {X : Cx} {pos : Pos}
def tWhile (c : TT) (tb : TS) : TS := fun D σ H => ∃ W : Nat → St → Hp → Prop, (∃ m, W m σ H) ∧ ∀ m σ H, W m σ H →
  c σ H fun b H1 => if b = true then ∃ N : St → Hp → Prop, (∀ σ' H', N σ' H' → ∃ m', m' < m ∧ W m' σ' H') ∧ tb { D with nx := N, ct := N, bk := D.nx } σ H1 else D.nx σ H1
theorem ps_while {c : Expr} {body : List Stmt} {tc : TT} {tb : TS} (hp : PassesOwn (model X.prog X.w) X.A X.env X.xe) (hc : PT X c tc) (hb : PSs X body tb) : PS X (.While c body [] pos) (tWhile tc tb) := by
  intro pins s σ H D I h
  obtain ⟨W, ⟨m0, w0⟩, turn⟩ := h
  refine wpAny_While (codeAny_whileLoop (fun n s' => ∃ σ' H', Inv X pins σ' H' s' ∧ W n σ' H') ?_ m0 ⟨σ, H, I, w0⟩)
  rintro n s1 ⟨σ1, H1, I1, w1⟩
  refine wpAny_passesOwn hp (thn (hc pins s1 σ1 H1 _ I1 (turn n σ1 H1 w1)) fun b s2 ⟨H2, I2, q2⟩ => ?_)
  cases b with
  | true =>
    obtain ⟨N, hN, q2⟩ := q2
    rw [if_pos rfl]
    refine wpAny_passesOwn hp (thn (hb pins s2 σ1 H2 _ I2 q2) fun f s3 q3 => ?_)
    cases f with
    | next =>
      obtain ⟨σ3, H3, I3, n3⟩ := q3
      obtain ⟨m', hm, w3⟩ := hN σ3 H3 n3
      exact ⟨m', hm, σ3, H3, I3, w3⟩
    | cont =>
      obtain ⟨σ3, H3, I3, n3⟩ := q3
      obtain ⟨m', hm, w3⟩ := hN σ3 H3 n3
      exact ⟨m', hm, σ3, H3, I3, w3⟩
    | brk => exact q3
    | ret v => exact q3
  | false =>
    rw [if_neg Bool.false_ne_true]
    exact wpAny_execs_nil ⟨σ1, H2, I2, q2⟩
end
structure It where
  go : Nat → Hp → Prop
  yld : Nat → Hp → V → Hp → Prop
  stop : Nat → Hp → Prop
def FpOk (X : Cx) (pins : List (Addr × Obj)) (H : Hp) (b : Addr) : Prop :=
  H b = none ∧ b ≠ X.env.locals ∧ b ∉ X.fs ∧ (b ∈ X.ex ∨ X.s₀.heap.objs.size ≤ b) ∧ (∀ x c, X.env.cells.lookup x = some c → c ≠ b) ∧ ∀ p ∈ X.pn ++ pins, p.1 ≠ b
theorem Inv.fpOk {X : Cx} {pins : List (Addr × Obj)} {σ : St} {H H' : Hp} {s : Shared} {b : Addr} (I : Inv X pins σ H s) (hb : s.heap.objs.size ≤ b) (hn : H' b = none) : FpOk X pins H' b := by
  refine ⟨hn, Nat.ne_of_gt (Nat.lt_of_lt_of_le I.lt hb), I.nofs hb, .inr (Nat.le_trans I.sz hb), fun x c e z => ?_, fun p hp z => ?_⟩
  · obtain ⟨v, q⟩ := I.cell x c e
    exact absurd (Nat.lt_of_lt_of_le q.lt (by rw [z]; exact hb)) (Nat.lt_irrefl _)
  · exact absurd (Nat.lt_of_lt_of_le (Heap.lt_size (I.pin p hp).1) (by rw [z]; exact hb)) (Nat.lt_irrefl _)
structure Turn (P : Program) (w : World) (K : PySem.W.Frag) (tg : Expr) (J : It) (fp : List Addr) (it : Addr) (tn : Nat → Heap → Prop) : Prop where
  mem : it ∈ fp
  obj : ∀ i h, tn i h → ∀ b ∈ fp, ∃ o, h.get? b = some o ∧ ∀ v, o.data ≠ .cell v
  keep : ∀ i h h', tn i h → (∀ b ∈ fp, ∀ o, h.get? b = some o → h'.get? b = some o) → tn i h'
  item : ∀ (X : Cx), X.prog = P → X.w = w → X.K = K → X.calm = true → ∀ (i : Nat) (pins : List (Addr × Obj)) (s : Shared) (σ : St) (H : Hp) (E : Value → Shared → Prop), Inv X pins σ H s → (∀ b ∈ fp, FpOk X pins H b) → tn i s.heap → J.go i H →
    wpAny (model P w) X.A (pyNext (.ref it)) (fun r s1 => ∃ u, r = some u ∧
      wpAny (model P w) X.A (letOwnedTupleGo tg (.ref it) u) (fun _ s2 => ∃ x H', Inv X pins σ H' s2 ∧ RelV x u ∧ J.yld i H x H' ∧ tn (i + 1) s2.heap ∧ ∀ b ∈ fp, H' b = none) E s1) E s
  done : ∀ (X : Cx), X.prog = P → X.w = w → X.K = K → X.calm = true → ∀ (i : Nat) (pins : List (Addr × Obj)) (s : Shared) (σ : St) (H : Hp) (E : Value → Shared → Prop), Inv X pins σ H s → (∀ b ∈ fp, FpOk X pins H b) → tn i s.heap → J.stop i H →
    wpAny (model P w) X.A (pyNext (.ref it)) (fun r s1 => r = none ∧ Inv X pins σ H s1) E s
  self : ∀ (A : Around) (i : Nat) (s : Shared) (Q : Value → Shared → Prop) (E : Value → Shared → Prop), tn i s.heap → Q (.ref it) s → wpAny (model P w) A (pyIter (.ref it)) Q E s
abbrev TI := St → Hp → (It → Hp → Prop) → Prop
def PIE (X : Cx) (pins : List (Addr × Obj)) (σ : St) (tg : Expr) (R : It → Hp → Prop) (itv : Value) (s2 : Shared) : Prop :=
  ∃ (it : Addr) (fp : List Addr) (tn : Nat → Heap → Prop) (J : It) (H' : Hp), itv = .ref it ∧ Inv X pins σ H' s2 ∧ Turn X.prog X.w X.K tg J fp it tn ∧ tn 0 s2.heap ∧ (∀ b ∈ fp, FpOk X pins H' b) ∧ R J H'
def PI (X : Cx) (tg iter : Expr) (wi : TI) : Prop :=
  ∀ (pins : List (Addr × Obj)) (s : Shared) (σ : St) (H : Hp) (R : It → Hp → Prop), Inv X pins σ H s → wi σ H R →
    wpAny (model X.prog X.w) X.A (eval iter X.env) (fun v s1 => wpAny (model X.prog X.w) X.A (pyIter v) (PIE X pins σ tg R) X.xe s1) X.xe s
theorem go_of {M : Model} {A : Around} {E : Value → Shared → Prop} {s : Shared} {tg : Expr} {it : Addr} {u : Value} {o : Obj} {n : String} {vs : Array Value} {Q : Unit → Shared → Prop} (ho : s.heap.get? it = some o) (hc : o.cls = .type n) (hd : o.data = .fields vs)
    (hn : ["enumerate", "zip", "dict_itemiterator", "dict_reverseitemiterator", "odict_iterator", "itertools.zip_longest", "itertools.pairwise"].contains n = false) (hQ : Q () s) : wpAny M A (letOwnedTupleGo tg (.ref it) u) Q E s := by
  unfold letOwnedTupleGo
  cases tg <;> first
    | exact wpAny_pure hQ
    | (cases u <;> first
        | exact wpAny_pure hQ
        | (refine wpAny_bind (wpAny_load ho ?_)
           rw [hc, hd]
           show wpAny M A (if (["enumerate", "zip", "dict_itemiterator", "dict_reverseitemiterator", "odict_iterator", "itertools.zip_longest", "itertools.pairwise"].contains n && vs[0]? == some (rawInt _)) = true then _ else _) Q E s
           rw [if_neg (by intro h; rw [hn, Bool.false_and] at h; cases h)]
           exact wpAny_pure hQ))
def Itl (K : PySem.W.Frag) (a : Addr) : It :=
  ⟨fun i H => ∃ xs x, SqL K H a xs ∧ xs[i]? = some x, fun i H x H' => H' = H ∧ ∀ xs, SqL K H a xs → xs[i]? = some x, fun i H => ∃ xs, SqL K H a xs ∧ xs.length ≤ i⟩
def Itr (lo : Int) (n : Nat) : It := ⟨fun i _ => i < n, fun i H x H' => H' = H ∧ x = .int (lo + i), fun i _ => n ≤ i⟩
theorem turn_list {P : Program} {w : World} {K : PySem.W.Frag} {tg : Expr} (a it : Addr) : Turn P w K tg (Itl K a) [it] it (fun i h => h.IsListIter it a i) where
  mem := by simp
  obj := fun i h st b hb => by
    have e : b = it := by simpa using hb
    subst e
    obtain ⟨o, e, c, d⟩ := st
    exact ⟨o, e, fun v z => by rw [d] at z; cases z⟩
  keep := fun i h h' st k => st.at fun o e => k it (by simp) o e
  item := by
    intro X hP hw hK hc i pins s σ H E I hf st hg
    subst hP hw hK
    obtain ⟨xs, x, hq, hx⟩ := hg
    obtain ⟨its, rv, p, hz⟩ := I.list hq
    obtain ⟨u, hu, ru⟩ := rv.get hx
    obtain ⟨f0, f1, f2, f3, f4, f5⟩ := hf it (by simp)
    refine wpAny_pyNext_list_item st p.isList (x := u) (by simpa using hu) fun h' st' sb => ?_
    have I1 : Inv X pins σ H { s with heap := h' } := I.turned (t' := s.toks) (fun b o hb e => (sb.2 b hb).trans e) f0 f1 f3 f4 f5
    obtain ⟨o, e, c, d⟩ := id st'
    exact ⟨u, rfl, go_of (s := { s with heap := h' }) e c d (by decide) ⟨x, H, I1, ru, ⟨rfl, fun ys hy => by rw [I.list_inj hy hq]; exact hx⟩, st', fun b hb => (hf b hb).1⟩⟩
  done := by
    intro X hP hw hK hc i pins s σ H E I hf st hg
    subst hP hw hK
    obtain ⟨xs, hq, hx⟩ := hg
    obtain ⟨its, rv, p, hz⟩ := I.list hq
    obtain ⟨f0, f1, f2, f3, f4, f5⟩ := hf it (by simp)
    have hl := rv.length
    exact wpAny_pyNext_list_end (I.ok.hd hc) st p.isList (by simp; omega) fun h' eb => ⟨rfl, I.turned (t' := s.toks) (fun b o hb e => eb b o hb e) f0 f1 f3 f4 f5⟩
  self := fun _ _ _ _ _ st h => wpAny_pyIter_listiter st h
theorem turn_range {P : Program} {w : World} {K : PySem.W.Frag} {tg : Expr} (it : Addr) (lo : Int) (n : Nat) : Turn P w K tg (Itr lo n) [it] it (fun i h => IsRangeIter h it (lo + (i : Nat) * 1) ((n : Int) - (i : Nat)) 1) where
  mem := by simp
  obj := fun i h st b hb => by
    have e : b = it := by simpa using hb
    subst e
    exact ⟨_, st, fun v z => by
      have z' : Data.fields _ = Data.cell v := z
      cases z'⟩
  keep := fun i h h' st k => k it (by simp) _ st
  item := by
    intro X hP hw hK hc i pins s σ H E I hf st hg
    subst hP hw hK
    obtain ⟨f0, f1, f2, f3, f4, f5⟩ := hf it (by simp)
    have W := Walks.range (prog := X.prog) (w := X.w) (I.ok.hd hc) it lo 1 n
    refine W.item i s _ _ hg st fun v h' tk hv st' kk => ?_
    obtain ⟨t, rfl⟩ := hv
    have I1 : Inv X pins σ H { s with heap := h', toks := tk } := I.turned (fun b o hb e => kk b o (by simpa using hb) e) f0 f1 f3 f4 f5
    refine ⟨_, rfl, go_of (s := { s with heap := h', toks := tk }) (n := "range_iterator") st' rfl rfl (by decide) ⟨.int (lo + i), H, I1, ⟨t, ?_⟩, ⟨rfl, rfl⟩, st', fun b hb => (hf b hb).1⟩⟩
    rw [Int.mul_one]
  done := by
    intro X hP hw hK hc i pins s σ H E I hf st hg
    subst hP hw hK
    obtain ⟨f0, f1, f2, f3, f4, f5⟩ := hf it (by simp)
    exact wpAny_pyNext_range_end (I.ok.hd hc) st (by have : n ≤ i := hg; omega) fun h' eb => ⟨rfl, I.turned (t' := s.toks) (fun b o hb e => eb b o hb e) f0 f1 f3 f4 f5⟩
  self := fun _ _ _ _ _ st h => wpAny_pyIter_rangeiter st h
end L2
namespace L2
open PySem PySem.Spec PyProof.Rows
section
variable {X : Cx} {tg : Expr}
def iList (K : PySem.W.Frag) (tl : TE) : TI := fun σ H R => tl σ H fun x H1 => ∃ a, x = .ref a ∧ (∃ xs, SqL K H1 a xs) ∧ R (Itl K a) H1
theorem pi_list {l : Expr} {tl : TE} (hl : PE X l tl) : PI X tg l (iList X.K tl) := by
  intro pins s σ H R I h
  refine thn (hl pins s σ H _ I h) fun v s1 ⟨x, H1, I1, r1, q1⟩ => ?_
  obtain ⟨a, e, ⟨xs, hq⟩, q⟩ := q1
  subst e
  cases r1
  obtain ⟨its, rv, p, hz⟩ := I1.list hq
  refine wpAny_pyIter_list p.isList ?_
  refine ⟨s1.heap.objs.size, [s1.heap.objs.size], _, _, H1, rfl, I1.kept (t' := s1.toks) fun b o e => Heap.get?_push_of_some _ e, turn_list a _, ⟨_, Heap.get?_push_size _ rfl, rfl, rfl⟩, fun b hb => ?_, q⟩
  have e : b = s1.heap.objs.size := by simpa using hb
  subst e
  exact I1.fpOk (Nat.le_refl _) (I1.hok.fresh (Nat.le_refl _))
theorem range_it {pins : List (Addr × Obj)} {σ : St} {H : Hp} {s : Shared} {R : It → Hp → Prop} {E : Value → Shared → Prop} {lo hi : Int} {t u v : Tok} {tk : Nat} (I : Inv X pins σ H s) (h1 : -(2 ^ 62) ≤ lo) (h2 : lo < 2 ^ 62) (h3 : -(2 ^ 62) ≤ hi) (h4 : hi < 2 ^ 62)
    (q : R (Itr lo (hi - lo).toNat) H) : wpAny (model X.prog X.w) X.A (pyIter (.ref s.heap.objs.size)) (PIE X pins σ tg R) E { s with heap := s.heap.push { cls := .type "range", data := .fields #[.int lo t, .int hi u, .int 1 v] }, toks := tk } := by
  refine wpAny_pyIter_range (IsRange.new ..) (small_one h1 h2 h3 h4) ?_
  have I1 : Inv X pins σ H { s with heap := s.heap.push { cls := .type "range", data := .fields #[.int lo t, .int hi u, .int 1 v] }, toks := tk } := I.kept fun b o e => Heap.get?_push_of_some _ e
  refine ⟨(s.heap.push { cls := .type "range", data := .fields #[.int lo t, .int hi u, .int 1 v] }).objs.size, [(s.heap.push { cls := .type "range", data := .fields #[.int lo t, .int hi u, .int 1 v] }).objs.size], _, _, H, rfl,
    I1.kept (t' := tk) fun b o e => Heap.get?_push_of_some _ e, turn_range _ lo (hi - lo).toNat, ?_, fun b hb => ?_, q⟩
  · have e1 : lo + ((0 : Nat) : Int) * 1 = lo := by simp
    have e2 : (((hi - lo).toNat : Nat) : Int) - ((0 : Nat) : Int) = Builtin.Range.rangeSize lo hi 1 := by rw [rangeSize_one]; split <;> omega
    show IsRangeIter _ _ (lo + ((0 : Nat) : Int) * 1) ((((hi - lo).toNat : Nat) : Int) - ((0 : Nat) : Int)) 1
    rw [e1, e2]
    exact Heap.get?_push_size _ rfl
  · have e : b = (s.heap.push { cls := .type "range", data := .fields #[.int lo t, .int hi u, .int 1 v] }).objs.size := by simpa using hb
    subst e
    exact I1.fpOk (Nat.le_refl _) (I1.hok.fresh (Nat.le_refl _))
def iRng1 (ta : TA) : TI := fun σ H R => ta σ H fun vs H1 => ∃ j : Int, vs = [.int j] ∧ -(2 ^ 62) ≤ j ∧ j < 2 ^ 62 ∧ R (Itr 0 j.toNat) H1
theorem pi_range1 {a : Expr} {ta : TA} {p pos : Pos} (hg : Gl X "range") (hm : X.mg "range" = none) (ha : PA X [a] ta) (hs : starEach [a] X.env = [(false, eval a X.env)] := by rfl) : PI X tg (.Call (.Name "range" p) [a] [] pos) (iRng1 ta) := by
  intro pins s σ H R I h
  refine Call_ (ld_blt I hg hm boot_range (PyProof.Rows.callWith_type1 (thn (ha pos pins s σ H _ I h) fun us s1 ⟨vs, H1, I1, r1, q1⟩ => ?_) hs rfl))
  obtain ⟨j, e, q1, q2, q⟩ := q1
  subst e
  cases r1 with
  | cons r rr =>
    cases rr
    obtain ⟨t, rfl⟩ := r
    exact call_range_1 (range_it I1 (by omega) (by omega) q1 q2 (by simpa using q))
def tFor (wi : TI) (g : TG) (tb : TS) : TS := fun D σ H => wi σ H fun J H1 => ∃ W : Nat → Nat → St → Hp → Prop, (∃ m, W 0 m σ H1) ∧ ∀ i m σ H, W i m σ H →
  (J.stop i H ∧ D.nx σ H) ∨ (J.go i H ∧ ∃ N : St → Hp → Prop, (∀ σ' H', N σ' H' → ∃ m', m' < m ∧ W (i + 1) m' σ' H') ∧ ∀ x H', J.yld i H x H' → g x σ H' fun σ2 H2 => tb { D with nx := N, ct := N, bk := D.nx } σ2 H2)
def pinsAt (fp : List Addr) (h : Heap) : List (Addr × Obj) := fp.filterMap fun b => (h.get? b).map fun o => (b, o)
theorem mem_pinsAt {fp : List Addr} {h : Heap} {b : Addr} {o : Obj} (hb : b ∈ fp) (e : h.get? b = some o) : (b, o) ∈ pinsAt fp h := List.mem_filterMap.mpr ⟨b, hb, by rw [e]; rfl⟩
theorem of_pinsAt {fp : List Addr} {h : Heap} {p : Addr × Obj} (hp : p ∈ pinsAt fp h) : p.1 ∈ fp ∧ h.get? p.1 = some p.2 := by
  obtain ⟨b, hb, e⟩ := List.mem_filterMap.mp hp
  cases q : h.get? b with
  | none => rw [q] at e; cases e
  | some o =>
    rw [q] at e
    have e' : (b, o) = p := Option.some.inj e
    subst e'
    exact ⟨hb, q⟩
theorem Inv.pinned {pins : List (Addr × Obj)} {σ : St} {H : Hp} {s : Shared} {fp : List Addr} (I : Inv X pins σ H s) (hf : ∀ b ∈ fp, FpOk X pins H b) (ho : ∀ b ∈ fp, ∃ o, s.heap.get? b = some o ∧ ∀ v, o.data ≠ .cell v) : Inv X (pins ++ pinsAt fp s.heap) σ H s :=
  I.pins_of fun p hp => (List.mem_append.mp hp).elim (fun z => I.pin p (List.mem_append_right _ z)) fun z => by
    obtain ⟨hb, e⟩ := of_pinsAt z
    obtain ⟨f0, f1, f2, _⟩ := hf p.1 hb
    obtain ⟨o, e', d⟩ := ho p.1 hb
    rw [e] at e'; cases e'
    exact ⟨e, f0, f1, f2, d⟩
theorem Inv.unpinned {pins pl : List (Addr × Obj)} {σ : St} {H : Hp} {s : Shared} (I : Inv X (pins ++ pl) σ H s) : Inv X pins σ H s := I.pins_of fun p hp => I.pin p (List.mem_append_right _ (List.mem_append_left _ hp))
theorem ps_for {iter : Expr} {body : List Stmt} {wi : TI} {g : TG} {tb : TS} {pos : Pos} (hp : PassesOwn (model X.prog X.w) X.A X.env X.xe) (hc : X.calm = true) (hi : PI X tg iter wi) (hg : PG X tg g) (hb : PSs X body tb)
    (hs : ∀ x, foldedSetIterable iter X.env x = pure x := by intro _; rfl) : PS X (.For tg iter body [] pos) (tFor wi g tb) := by
  intro pins s σ H D I h
  refine wpAny_For (thn (hi pins s σ H _ I h) fun v s1 h1 => thn h1 fun itv s2 h2 => ?_) hs
  obtain ⟨it, fp, tn, J, H2, e, I2, T, st2, f2, W, ⟨m0, w0⟩, turn⟩ := h2
  subst e
  have stat : ∀ {H' : Hp}, (∀ b ∈ fp, H' b = none) → ∀ b ∈ fp, FpOk X pins H' b := fun hn b hb => ⟨hn b hb, (f2 b hb).2⟩
  refine codeAny_forLoop_any (fun n s' => ∃ i σ' H', Inv X pins σ' H' s' ∧ tn i s'.heap ∧ (∀ b ∈ fp, H' b = none) ∧ W i n σ' H') ?_ m0 ⟨0, σ, H2, I2, st2, fun b hb => (f2 b hb).1, w0⟩
  rintro n s3 ⟨i, σ3, H3, I3, st3, fr3, w3⟩
  rcases turn i n σ3 H3 w3 with ⟨stop, qn⟩ | ⟨go, N, hN, step⟩
  · refine wpAny_passesOwn hp (thn (T.done X rfl rfl rfl hc i pins s3 σ3 H3 X.xe I3 (stat fr3) st3 stop) fun r s4 ⟨hr, I4⟩ => ?_)
    subst hr
    exact wpAny_execs_nil ⟨σ3, H3, I4, qn⟩
  · refine wpAny_passesOwn hp (thn (T.item X rfl rfl rfl hc i pins s3 σ3 H3 X.xe I3 (stat fr3) st3 go) fun r s4 ⟨u, hr, h4⟩ => ?_)
    subst hr
    refine wpAny_passesOwn hp (thn h4 fun _ s5 ⟨x, H5, I5, r5, y5, st5, fr5⟩ => ?_)
    have I5' := I5.pinned (stat fr5) (T.obj _ _ st5)
    refine wpAny_passesOwn hp (thn (hg _ s5 σ3 H5 x u _ I5' r5 (step x H5 y5)) fun _ s6 ⟨σ6, H6, I6, q6⟩ => ?_)
    refine wpAny_passesOwn hp (thn (hb _ s6 σ6 H6 _ I6 q6) fun f s7 q7 => ?_)
    have again : ∀ {σ7 : St} {H7 : Hp}, Inv X (pins ++ pinsAt fp s5.heap) σ7 H7 s7 → N σ7 H7 → ∃ m, m < n ∧ ∃ i σ' H', Inv X pins σ' H' s7 ∧ tn i s7.heap ∧ (∀ b ∈ fp, H' b = none) ∧ W i m σ' H' := fun {σ7 H7} I7 n7 => by
      obtain ⟨m', hm, w7⟩ := hN σ7 H7 n7
      refine ⟨m', hm, i + 1, σ7, H7, I7.unpinned, T.keep _ _ _ st5 fun b hb o e => (I7.pin (b, o) (List.mem_append_right _ (List.mem_append_right _ (mem_pinsAt hb e)))).1, fun b hb => ?_, w7⟩
      obtain ⟨o, e, d⟩ := T.obj _ _ st5 b hb
      exact (I7.pin (b, o) (List.mem_append_right _ (List.mem_append_right _ (mem_pinsAt hb e)))).2.1
    cases f with
    | next => obtain ⟨σ7, H7, I7, n7⟩ := q7; exact again I7 n7
    | cont => obtain ⟨σ7, H7, I7, n7⟩ := q7; exact again I7 n7
    | brk => obtain ⟨σ7, H7, I7, q7⟩ := q7; exact ⟨σ7, H7, I7.unpinned, q7⟩
    | ret v => obtain ⟨x7, σ7, H7, I7, r7, q7⟩ := q7; exact ⟨x7, σ7, H7, I7.unpinned, r7, q7⟩
end
theorem for_list {K : PySem.W.Frag} {a : Addr} {xs : List V} {g : TG} {tb : TS} {D : Ends} {σ : St} {H : Hp} (Pv : Nat → St → Hp → Prop) (h0 : Pv 0 σ H) (hl : ∀ i σ H, i ≤ xs.length → Pv i σ H → SqL K H a xs)
    (hs : ∀ i x σ H, xs[i]? = some x → Pv i σ H → g x σ H fun σ2 H2 => tb { D with nx := Pv (i + 1), ct := Pv (i + 1), bk := D.nx } σ2 H2) (hd : ∀ σ H, Pv xs.length σ H → D.nx σ H) :
    ∃ W : Nat → Nat → St → Hp → Prop, (∃ m, W 0 m σ H) ∧ ∀ i m σ H, W i m σ H →
      ((Itl K a).stop i H ∧ D.nx σ H) ∨ ((Itl K a).go i H ∧ ∃ N : St → Hp → Prop, (∀ σ' H', N σ' H' → ∃ m', m' < m ∧ W (i + 1) m' σ' H') ∧ ∀ x H', (Itl K a).yld i H x H' → g x σ H' fun σ2 H2 => tb { D with nx := N, ct := N, bk := D.nx } σ2 H2) := by
  refine ⟨fun i m σ H => m = xs.length - i ∧ i ≤ xs.length ∧ Pv i σ H, ⟨xs.length, by simp, Nat.zero_le _, h0⟩, ?_⟩
  rintro i m σ H ⟨rfl, hi, p⟩
  have q := hl i σ H hi p
  by_cases hlt : i < xs.length
  · refine .inr ⟨⟨xs, xs[i], q, by simp [hlt]⟩, Pv (i + 1), fun σ' H' p' => ⟨xs.length - (i + 1), by omega, rfl, hlt, p'⟩, fun x H' y => ?_⟩
    obtain ⟨e, y⟩ := y
    subst e
    exact hs i x σ _ (y xs q) p
  · have e : i = xs.length := by omega
    subst e
    exact .inl ⟨⟨xs, q, Nat.le_refl _⟩, hd σ H p⟩
theorem for_range {lo : Int} {n : Nat} {g : TG} {tb : TS} {D : Ends} {σ : St} {H : Hp} (Pv : Nat → St → Hp → Prop) (h0 : Pv 0 σ H)
    (hs : ∀ i σ H, i < n → Pv i σ H → g (.int (lo + i)) σ H fun σ2 H2 => tb { D with nx := Pv (i + 1), ct := Pv (i + 1), bk := D.nx } σ2 H2) (hd : ∀ σ H, Pv n σ H → D.nx σ H) :
    ∃ W : Nat → Nat → St → Hp → Prop, (∃ m, W 0 m σ H) ∧ ∀ i m σ H, W i m σ H →
      ((Itr lo n).stop i H ∧ D.nx σ H) ∨ ((Itr lo n).go i H ∧ ∃ N : St → Hp → Prop, (∀ σ' H', N σ' H' → ∃ m', m' < m ∧ W (i + 1) m' σ' H') ∧ ∀ x H', (Itr lo n).yld i H x H' → g x σ H' fun σ2 H2 => tb { D with nx := N, ct := N, bk := D.nx } σ2 H2) := by
  refine ⟨fun i m σ H => m = n - i ∧ i ≤ n ∧ Pv i σ H, ⟨n, by simp, Nat.zero_le _, h0⟩, ?_⟩
  rintro i m σ H ⟨rfl, hi, p⟩
  by_cases hlt : i < n
  · refine .inr ⟨hlt, Pv (i + 1), fun σ' H' p' => ⟨n - (i + 1), by omega, rfl, hlt, p'⟩, fun x H' y => ?_⟩
    obtain ⟨e, y⟩ := y
    subst e y
    exact hs i σ _ hlt p
  · have e : i = n := by omega
    subst e
    exact .inl ⟨Nat.le_refl _, hd σ H p⟩
end L2
namespace L2
open PySem PySem.Spec PyProof.Rows
abbrev R2 := V → V → Hp → VK → Prop
def OpR (X : Cx) (f : Value → Value → Sem Value) (r : R2) : Prop :=
  ∀ (pins : List (Addr × Obj)) (s : Shared) (σ : St) (H : Hp) (x y : V) (v u : Value) (Q : VK), Inv X pins σ H s → RelV x v → RelV y u → r x y H Q →
    wpAny (model X.prog X.w) X.A (f v u) (EP X pins σ Q) X.xe s
def UnR (X : Cx) (f : Value → Sem Value) (r : V → Hp → VK → Prop) : Prop :=
  ∀ (pins : List (Addr × Obj)) (s : Shared) (σ : St) (H : Hp) (x : V) (v : Value) (Q : VK), Inv X pins σ H s → RelV x v → r x H Q →
    wpAny (model X.prog X.w) X.A (f v) (EP X pins σ Q) X.xe s
def CallR (X : Cx) (f : Value) (r : List V → Hp → VK → Prop) : Prop :=
  ∀ (pins : List (Addr × Obj)) (s : Shared) (σ : St) (H : Hp) (xs : List V) (us : List Value) (Q : VK), Inv X pins σ H s → Vals xs us → r xs H Q →
    wpAny (model X.prog X.w) X.A (call f us) (EP X pins σ Q) X.xe s
def tOp (r : R2) (ta tb : TE) : TE := fun σ H Q => ta σ H fun x H1 => tb σ H1 fun y H2 => r x y H2 Q
def tUn (r : V → Hp → VK → Prop) (ta : TE) : TE := fun σ H Q => ta σ H fun x H1 => r x H1 Q
def rI (C : Int → Int → Prop) (g : Int → Int → V) : R2 := fun x y H Q => ∃ i j, x = .int i ∧ y = .int j ∧ C i j ∧ Q (g i j) H
def rI0 (g : Int → Int → V) : R2 := fun x y H Q => ∃ i j, x = .int i ∧ y = .int j ∧ Q (g i j) H
def rU (g : Int → V) : V → Hp → VK → Prop := fun x H Q => ∃ i, x = .int i ∧ Q (g i) H
section
variable {X : Cx} {a b c : Expr} {ta tb tc : TE} {pos : Pos}
theorem binT (ha : PE X a ta) (hb : PE X b tb) {pins : List (Addr × Obj)} {s : Shared} {σ : St} {H : Hp} {R : V → V → Hp → Prop} (I : Inv X pins σ H s)
    (h : ta σ H fun x H1 => tb σ H1 fun y H2 => R x y H2) {Q : Value → Shared → Prop} {f : Value → Value → Sem Value}
    (hf : ∀ v u s2 x y H2, Inv X pins σ H2 s2 → RelV x v → RelV y u → R x y H2 → wpAny (model X.prog X.w) X.A (f v u) Q X.xe s2) :
    wpAny (model X.prog X.w) X.A (eval a X.env) (fun v s₁ => wpAny (model X.prog X.w) X.A (eval b X.env) (fun u s₂ => wpAny (model X.prog X.w) X.A (f v u) Q X.xe s₂) X.xe s₁) X.xe s := by
  refine thn (ha pins s σ H _ I h) fun v s1 ⟨x, H1, I1, r1, q1⟩ => ?_
  refine thn (hb pins s1 σ H1 _ I1 q1) fun u s2 ⟨y, H2, I2, r2, q2⟩ => ?_
  exact hf v u s2 x y H2 I2 r1 r2 q2
theorem pe_op {op : Operator} {r : R2} (ho : OpR X (binaryOp op) r) (ha : PE X a ta) (hb : PE X b tb) : PE X (.BinOp a op b pos) (tOp r ta tb) := by
  intro pins s σ H Q I h
  exact wpAny_BinOp (binT ha hb I h fun v u s2 x y H2 I2 rx ry q => ho pins s2 σ H2 x y v u Q I2 rx ry q)
theorem pe_un {op : UnaryOp} {r : V → Hp → VK → Prop} (ho : UnR X (unaryOp op) r) (ha : PE X a ta) : PE X (.UnaryOp op a pos) (tUn r ta) := by
  intro pins s σ H Q I h
  exact UnaryOp_ (thn (ha pins s σ H _ I h) fun v s1 ⟨x, H1, I1, r1, q1⟩ => ho pins s1 σ H1 x v Q I1 r1 q1)
theorem opI {f : Value → Value → Sem Value} {C : Int → Int → Prop} {g : Int → Int → Int}
    (rule : ∀ (i j : Int) (t u : Tok) (s : Shared) (Q : Value → Shared → Prop) (E : Value → Shared → Prop), C i j → Q (.int (g i j) s.toks) { s with toks := s.toks + 1 } → wpAny (model X.prog X.w) X.A (f (.int i t) (.int j u)) Q E s) :
    OpR X f (rI C fun i j => .int (g i j)) := by
  intro pins s σ H x y v u Q I rx ry h
  obtain ⟨i, j, rfl, rfl, hc, q⟩ := h
  obtain ⟨t, rfl⟩ := rx
  obtain ⟨t', rfl⟩ := ry
  exact rule i j t t' s _ _ hc ⟨.int (g i j), H, I.tok _, ⟨_, rfl⟩, q⟩
theorem opI0 {f : Value → Value → Sem Value} {g : Int → Int → Int}
    (rule : ∀ (i j : Int) (t u : Tok) (s : Shared) (Q : Value → Shared → Prop) (E : Value → Shared → Prop), Q (.int (g i j) s.toks) { s with toks := s.toks + 1 } → wpAny (model X.prog X.w) X.A (f (.int i t) (.int j u)) Q E s) :
    OpR X f (rI0 fun i j => .int (g i j)) := by
  intro pins s σ H x y v u Q I rx ry h
  obtain ⟨i, j, rfl, rfl, q⟩ := h
  obtain ⟨t, rfl⟩ := rx
  obtain ⟨t', rfl⟩ := ry
  exact rule i j t t' s _ _ ⟨.int (g i j), H, I.tok _, ⟨_, rfl⟩, q⟩
theorem opB0 {f : Value → Value → Sem Value} {g : Int → Int → Bool}
    (rule : ∀ (i j : Int) (t u : Tok) (s : Shared) (Q : Value → Shared → Prop) (E : Value → Shared → Prop), Q (.bool (g i j)) s → wpAny (model X.prog X.w) X.A (f (.int i t) (.int j u)) Q E s) :
    OpR X f (rI0 fun i j => .bl (g i j)) := by
  intro pins s σ H x y v u Q I rx ry h
  obtain ⟨i, j, rfl, rfl, q⟩ := h
  obtain ⟨t, rfl⟩ := rx
  obtain ⟨t', rfl⟩ := ry
  exact rule i j t t' s _ _ ⟨.bl (g i j), H, I, rfl, q⟩
def CDiv (i j : Int) : Prop := 0 < j ∧ j < 1073741824
def CPow (i j : Int) : Prop := 0 ≤ j ∧ j ≤ 1000000 ∧ i.natAbs < 2 ^ 64
def CMul (i j : Int) : Prop := (-(2 ^ 64) < i ∧ i < 2 ^ 64) ∨ (-(2 ^ 64) < j ∧ j < 2 ^ 64)
theorem CMul.ok {i j : Int} (h : CMul i j) : IntMulOk i j := by
  rcases h with ⟨h1, h2⟩ | ⟨h1, h2⟩
  · exact .of_left (intBits_le_64 h1 h2)
  · exact .of_right (intBits_le_64 h1 h2)
theorem op_add : OpR X (binaryOp .Add) (rI0 fun i j => .int (i + j)) := opI0 fun _ _ _ _ _ _ _ q => add_int q
theorem op_sub : OpR X (binaryOp .Sub) (rI0 fun i j => .int (i - j)) := opI0 fun _ _ _ _ _ _ _ q => sub_int q
theorem op_fdiv : OpR X (binaryOp .FloorDiv) (rI CDiv fun i j => .int (i / j)) := opI fun i j _ _ _ _ _ hc q => by
  have h1 : (0 : Int) < j := hc.1
  have h2 : j < 1073741824 := hc.2
  exact floordiv_int (by omega) (by rw [Int.fdiv_eq_ediv_of_nonneg i (by omega)]; exact q) (.inl (PyProof.noPylong_small (by omega)))
theorem op_mod : OpR X (binaryOp .Mod) (rI (fun _ j => 0 < j) fun i j => .int (i % j)) := opI fun i j _ _ _ _ _ hc q => by
  have h1 : (0 : Int) < j := hc
  exact mod_int' (by omega) (by rw [Int.fmod_eq_emod_of_nonneg i (by omega)]; exact q)
theorem op_pow : OpR X (binaryOp .Pow) (rI CPow fun i j => .int (i ^ j.toNat)) := opI fun _ _ _ _ _ _ _ hc q => pow_int_small hc.1 hc.2.1 hc.2.2 q
theorem unI {f : Value → Sem Value} {g : Int → Int}
    (rule : ∀ (i : Int) (t : Tok) (s : Shared) (Q : Value → Shared → Prop) (E : Value → Shared → Prop), Q (.int (g i) s.toks) { s with toks := s.toks + 1 } → wpAny (model X.prog X.w) X.A (f (.int i t)) Q E s) :
    UnR X f (rU fun i => .int (g i)) := by
  intro pins s σ H x v Q I rx h
  obtain ⟨i, rfl, q⟩ := h
  obtain ⟨t, rfl⟩ := rx
  exact rule i t s _ _ ⟨.int (g i), H, I.tok _, ⟨_, rfl⟩, q⟩
theorem un_neg : UnR X (unaryOp .USub) (rU fun i => .int (-i)) := unI fun _ _ _ _ _ q => neg_int q
end
def scal : V → V → Bool
  | .non, .non => true | .non, .int _ => true | .int _, .non => true | .non, .bl _ => true | .bl _, .non => true | .non, .str _ => true | .str _, .non => true
  | .int _, .int _ => true | .bl _, .bl _ => true | .str _, .str _ => true | .byt _, .byt _ => true
  | .int _, .str _ => true | .str _, .int _ => true | .bl _, .str _ => true | .str _, .bl _ => true
  | _, _ => false
def rEq : R2 := fun x y H Q => scal x y = true ∧ Q (.bl (decide (x = y))) H
def rNe : R2 := fun x y H Q => scal x y = true ∧ Q (.bl (!decide (x = y))) H
theorem dec_int {i j : Int} : decide (V.int i = V.int j) = (i == j) := by
  rw [Bool.eq_iff_iff]
  simp
theorem dec_bl {i j : Bool} : decide (V.bl i = V.bl j) = (i == j) := by
  rw [Bool.eq_iff_iff]
  simp
theorem dec_str {i j : Str} : decide (V.str i = V.str j) = (i == j) := by
  rw [Bool.eq_iff_iff]
  simp
theorem dec_byt {i j : Array UInt8} : decide (V.byt i = V.byt j) = (i.toList == j.toList) := by
  rw [Bool.eq_iff_iff]
  cases i
  cases j
  simp
section
variable {X : Cx} {a b c : Expr} {ta tb tc : TE} {pos : Pos}
theorem fin_bl {pins : List (Addr × Obj)} {σ : St} {H : Hp} {s : Shared} {Q : VK} {k k' : Bool} (I : Inv X pins σ H s) (q : Q (.bl k) H) (e : k = k') : EP X pins σ Q (.bool k') s := by
  subst e
  exact ⟨.bl k, H, I, rfl, q⟩
theorem op_eq : OpR X (compareOp .Eq) rEq := by
  intro pins s σ H x y v u Q I rx ry h
  obtain ⟨hs, q⟩ := h
  cases x with
  | non =>
    cases rx
    cases y with
    | non => cases ry; exact PySem.EqNone.eq_none_none (fin_bl I q (by simp))
    | bl j => cases ry; exact PySem.EqNone.eq_none_bool (fin_bl I q (by simp))
    | int j => obtain ⟨t', rfl⟩ := ry; exact PySem.EqNone.eq_none_int (fin_bl I q (by simp))
    | str j => obtain ⟨t', rfl⟩ := ry; exact PySem.EqNone.eq_none_str (fin_bl I q (by simp))
    | _ => exact absurd (show false = true from hs) Bool.false_ne_true
  | bl i =>
    cases rx
    cases y with
    | non => cases ry; exact PySem.EqNone.eq_bool_none (fin_bl I q (by simp))
    | bl j => cases ry; exact eq_bool (fin_bl I q dec_bl)
    | str j => obtain ⟨t', rfl⟩ := ry; exact PySem.EqMixed.eq_bool_str (fin_bl I q (by simp))
    | _ => exact absurd (show false = true from hs) Bool.false_ne_true
  | int i =>
    obtain ⟨t, rfl⟩ := rx
    cases y with
    | non => cases ry; exact PySem.EqNone.eq_int_none (fin_bl I q (by simp))
    | int j => obtain ⟨t', rfl⟩ := ry; exact eq_int (fin_bl I q dec_int)
    | str j => obtain ⟨t', rfl⟩ := ry; exact PySem.EqMixed.eq_int_str (fin_bl I q (by simp))
    | _ => exact absurd (show false = true from hs) Bool.false_ne_true
  | str i =>
    obtain ⟨t, rfl⟩ := rx
    cases y with
    | non => cases ry; exact PySem.EqNone.eq_str_none (fin_bl I q (by simp))
    | bl j => cases ry; exact PySem.EqMixed.eq_str_bool (fin_bl I q (by simp))
    | int j => obtain ⟨t', rfl⟩ := ry; exact PySem.EqMixed.eq_str_int (fin_bl I q (by simp))
    | str j => obtain ⟨t', rfl⟩ := ry; exact eq_str (fin_bl I q dec_str)
    | _ => exact absurd (show false = true from hs) Bool.false_ne_true
  | byt i =>
    obtain ⟨t, rfl⟩ := rx
    cases y with
    | byt j => obtain ⟨t', rfl⟩ := ry; exact PySem.W.eq_bytes (fin_bl I q dec_byt)
    | _ => exact absurd (show false = true from hs) Bool.false_ne_true
  | _ => cases y <;> exact absurd (show false = true from hs) Bool.false_ne_true
theorem op_ne : OpR X (compareOp .NotEq) rNe := by
  intro pins s σ H x y v u Q I rx ry h
  obtain ⟨hs, q⟩ := h
  cases x with
  | non =>
    cases rx
    cases y with
    | non => cases ry; exact PySem.EqNone.ne_none_none (fin_bl I q (by simp))
    | bl j => cases ry; exact PySem.EqNone.ne_none_bool (fin_bl I q (by simp))
    | int j => obtain ⟨t', rfl⟩ := ry; exact PySem.EqNone.ne_none_int (fin_bl I q (by simp))
    | str j => obtain ⟨t', rfl⟩ := ry; exact PySem.EqNone.ne_none_str (fin_bl I q (by simp))
    | _ => exact absurd (show false = true from hs) Bool.false_ne_true
  | bl i =>
    cases rx
    cases y with
    | non => cases ry; exact PySem.EqNone.ne_bool_none (fin_bl I q (by simp))
    | bl j => cases ry; exact ne_bool (fin_bl I q (congrArg not dec_bl))
    | str j => obtain ⟨t', rfl⟩ := ry; exact PySem.EqMixed.ne_bool_str (fin_bl I q (by simp))
    | _ => exact absurd (show false = true from hs) Bool.false_ne_true
  | int i =>
    obtain ⟨t, rfl⟩ := rx
    cases y with
    | non => cases ry; exact PySem.EqNone.ne_int_none (fin_bl I q (by simp))
    | int j => obtain ⟨t', rfl⟩ := ry; exact ne_int (fin_bl I q (congrArg not dec_int))
    | str j => obtain ⟨t', rfl⟩ := ry; exact PySem.EqMixed.ne_int_str (fin_bl I q (by simp))
    | _ => exact absurd (show false = true from hs) Bool.false_ne_true
  | str i =>
    obtain ⟨t, rfl⟩ := rx
    cases y with
    | non => cases ry; exact PySem.EqNone.ne_str_none (fin_bl I q (by simp))
    | bl j => cases ry; exact PySem.EqMixed.ne_str_bool (fin_bl I q (by simp))
    | int j => obtain ⟨t', rfl⟩ := ry; exact PySem.EqMixed.ne_str_int (fin_bl I q (by simp))
    | str j => obtain ⟨t', rfl⟩ := ry; exact ne_str (fin_bl I q (congrArg not dec_str))
    | _ => exact absurd (show false = true from hs) Bool.false_ne_true
  | byt i =>
    obtain ⟨t, rfl⟩ := rx
    cases y with
    | byt j => obtain ⟨t', rfl⟩ := ry; exact PySem.W.ne_bytes (fin_bl I q (congrArg not dec_byt))
    | _ => exact absurd (show false = true from hs) Bool.false_ne_true
  | _ => cases y <;> exact absurd (show false = true from hs) Bool.false_ne_true
theorem op_lt : OpR X (compareOp .Lt) (rI0 fun i j => .bl (decide (i < j))) := opB0 fun _ _ _ _ _ _ _ q => lt_int q
theorem op_le : OpR X (compareOp .LtE) (rI0 fun i j => .bl (decide (i ≤ j))) := opB0 fun _ _ _ _ _ _ _ q => le_int q
theorem OpR.or {f : Value → Value → Sem Value} {r r' : R2} (h : OpR X f r) (h' : OpR X f r') : OpR X f (fun x y H Q => r x y H Q ∨ r' x y H Q) := by
  intro pins s σ H x y v u Q I rx ry q
  rcases q with q | q
  · exact h pins s σ H x y v u Q I rx ry q
  · exact h' pins s σ H x y v u Q I rx ry q
theorem nomark (b : Expr) {op : CmpOp} (h : op ≠ .In := by decide) (h2 : op ≠ .NotIn := by decide) : behindInMarks op b = false := by
  have e1 : (op == CmpOp.In) = false := by cases op <;> first | rfl | exact absurd rfl h
  have e2 : (op == CmpOp.NotIn) = false := by cases op <;> first | rfl | exact absurd rfl h2
  cases b <;> simp [behindInMarks, e1, e2]
theorem pe_cmpR {op : CmpOp} {r : R2} (ho : OpR X (compareOp op) r) (ha : PE X a ta) (hb : PE X b tb) (hm : behindInMarks op b = false) : PE X (.Compare a [op] [b] pos) (tOp r ta tb) := by
  intro pins s σ H Q I h
  exact wpAny_Compare1 (binT ha hb I h fun v u s2 x y H2 I2 rx ry q => ho pins s2 σ H2 x y v u Q I2 rx ry q) hm
def tTest (t : TE) : TT := fun σ H Q => t σ H fun x H' => ∃ k, x = .bl k ∧ Q k H'
theorem pt_cmpR {op : CmpOp} {r : R2} (ho : OpR X (compareOp op) r) (ha : PE X a ta) (hb : PE X b tb) (hm : behindInMarks op b = false) : PT X (.Compare a [op] [b] pos) (tTest (tOp r ta tb)) := by
  intro pins s σ H Q I h
  refine wpAny_isTrue_Compare1 (thn (ha pins s σ H _ I h) fun v s1 ⟨x, H1, I1, r1, q1⟩ => thn (hb pins s1 σ H1 _ I1 q1) fun u s2 ⟨y, H2, I2, r2, q2⟩ =>
    thn (ho pins s2 σ H2 x y v u _ I2 r1 r2 q2) fun c s3 ⟨z, H3, I3, r3, k, e, q3⟩ => ?_) hm
  subst e
  cases r3
  exact wpAny_truthy_bool ⟨H3, I3, q3⟩
theorem line63 : (sizeLine : Nat) < 2 ^ 63 := by rw [sizeLine_eq]; decide
theorem vals1 {x : V} {us : List Value} (r : Vals [x] us) : ∃ u, us = [u] ∧ RelV x u := by
  cases r with
  | cons r1 r2 => cases r2; exact ⟨_, rfl, r1⟩
theorem vals2 {x y : V} {us : List Value} (r : Vals [x, y] us) : ∃ u w', us = [u, w'] ∧ RelV x u ∧ RelV y w' := by
  cases r with
  | cons r1 r2 =>
    cases r2 with
    | cons r3 r4 => cases r4; exact ⟨_, _, rfl, r1, r3⟩
theorem call_abs : CallR X (.builtin "abs") (fun xs H Q => ∃ i, xs = [.int i] ∧ Q (.int (if i < 0 then -i else i)) H) := by
  intro pins s σ H xs us Q I r h
  obtain ⟨i, rfl, q⟩ := h
  obtain ⟨u, rfl, t, rfl⟩ := vals1 r
  exact call_abs_int fun u tk => ⟨.int (if i < 0 then -i else i), H, I.tok _, ⟨_, rfl⟩, q⟩
end
end L2
namespace L2
open PySem PySem.Spec PyProof.Rows
structure ObjM (h : Heap) (x dx C : Addr) (mA : Str → Option Value) : Prop where
  obj : h.get? x = some (PySem.W.instObj C dx)
  ns : h.Ns1 dx mA
  ne : dx ≠ x
theorem lookIn_ns {h : Heap} {dx : Addr} {mA : Str → Option Value} (n : h.Ns1 dx mA) : ∃ od, h.get? dx = some od ∧ ∀ name, PySem.W.lookIn name od = some (mA name) := by
  obtain ⟨o, es, ep, ho, hd, hk, _, hm⟩ := n
  refine ⟨o, ho, fun name => ?_⟩
  have e := hm name
  unfold nsFind findBy at e
  rw [← Array.find?_toList] at e
  unfold PySem.W.lookIn
  rw [hd]
  dsimp only
  split
  · rename_i y q
    rw [q] at e
    exact congrArg some e
  · rename_i q
    rw [q] at e
    have a : es.toList.any (·.refKey) = false := by
      rw [List.any_eq_false]
      intro y hy
      obtain ⟨z, t, hkey⟩ := hk y (Array.mem_toList_iff.mp hy)
      simp [DictEntry.refKey, hkey]
    have a' : ¬ es.toList.any (·.refKey) = true := by rw [a]; exact Bool.false_ne_true
    rw [if_neg a']
    exact congrArg some e
theorem ObjM.look {h : Heap} {x dx C : Addr} {mA : Str → Option Value} (I : ObjM h x dx C mA) : ∃ od, PySem.W.InstAt h x (PySem.W.instObj C dx) C (some od) ∧ ∀ name, PySem.W.lookIn name od = some (mA name) :=
  let ⟨od, ho, hl⟩ := lookIn_ns I.ns
  ⟨od, ⟨I.obj, rfl, rfl, ho⟩, hl⟩
section
variable {prog : Program} {w : World} {A : Around} {E : Value → Shared → Prop} {s : Shared} {K : PySem.W.Frag} {x dx C f : Addr} {mA : Str → Option Value} {name : Str} {v : Value}
end
theorem RelO.some_of {v : V} {o : Option Value} (r : RelO (some v) o) : ∃ u, o = some u ∧ RelV v u := by
  cases o with
  | none => exact (show False from r).elim
  | some u => exact ⟨u, rfl, r⟩
section
variable {P : Program} {w : World} {H H' : Hp} {h h' : Heap} {a C dx : Addr} {fs fs' : List (Str × V)}
theorem ins_get (hok : HOk P w H h) (e : H a = some (.ins C dx fs)) : ∃ mA, ObjM h a dx C mA ∧ (∀ f, RelO (fs.lookup f) (mA f)) ∧ PySem.Within mA (fs.map (·.1)) ∧ fs.length ≤ 1000 ∧ H dx = some (.own a) := by
  obtain ⟨d, z, ne, ob, mA, n, r, q⟩ := (show ObjOk P w H h a (.ins C dx fs) from hok a _ e)
  exact ⟨mA, ⟨ob, n, ne⟩, r, q, z, d⟩
end
structure Cls (K : PySem.W.Frag) (C : Addr) : Prop where
  pg : PySem.W.plainGet K C Str.empty = true
  hd : PySem.W.hasDictIn K C = true
  po : PySem.W.plainOver K C = true
  sa : PySem.W.findIn K (.ref C) "__setattr__" = some (some (.builtin "object.__setattr__"))
theorem Cls.get {K : PySem.W.Frag} {C : Addr} (c : Cls K C) (f : Str) : PySem.W.plainGet K C f = true := c.pg
structure Con (K : PySem.W.Frag) (C : Addr) (f : Str) (v : V) (u : Value) : Prop where
  at_ : PySem.W.findIn K (.ref C) f = some (some u)
  rel : RelV v u
  get : PySem.W.specialIn K u "__get__" = some none
  cp : PySem.W.copiedNames.contains f = false
structure Meth (K : PySem.W.Frag) (C : Addr) (m : Str) (f : Addr) : Prop where
  at_ : PySem.W.findIn K (.ref C) m = some (some (.ref f))
  fn : PySem.W.isFn K (.ref f) = true
  kp : PySem.W.keepIn K (.ref f) = true
section
variable {X : Cx} {pins : List (Addr × Obj)} {σ : St} {H : Hp} {s : Shared} {a C dx : Addr} {fs : List (Str × V)} {f : Str} {v : V} {A : Around} {E : Value → Shared → Prop}
end
section
variable {X : Cx} {o e value : Expr} {f : Str} {pos pos' tpos : Pos} {ta tv : TE}
end
section
variable {X : Cx} {pins : List (Addr × Obj)} {σ : St} {H : Hp} {s : Shared} {A : Around} {E : Value → Shared → Prop} {Q : Value → Shared → Prop} {c : Value} {b : Bool}
inductive TyOf (K : PySem.W.Frag) (H : Hp) : V → Value → Prop where
  | non : TyOf K H .non (.type "NoneType")
  | bl (x : Bool) : TyOf K H (.bl x) (.type "bool")
  | int (i : Int) : TyOf K H (.int i) (.type "int")
  | str (x : Str) : TyOf K H (.str x) (.type "str")
  | flt (x : UInt64) : TyOf K H (.flt x) (.type "float")
  | lst {a : Addr} {xs : List V} (e : H a = some (.lst xs)) : TyOf K H (.ref a) (.type "list")
  | frz {a : Addr} {o : Obj} {xs : List V} (e : H a = some (.frz o (.lst xs))) : TyOf K H (.ref a) (.type "list")
  | tup {a : Addr} {xs : List V} (e : H a = some (.tup xs)) : TyOf K H (.ref a) (.type "tuple")
  | dK {a : Addr} {kvs : List (Key × V)} (e : H a = some (.dK kvs)) : TyOf K H (.ref a) (.type "dict")
  | dT {a : Addr} {kvs : List (List Key × V)} (e : H a = some (.dT kvs)) : TyOf K H (.ref a) (.type "dict")
  | ins {a C dx : Addr} {fs : List (Str × V)} (e : H a = some (.ins C dx fs)) (cl : Cls K C) (ha : PySem.W.findIn K (.ref C) "__class__" = some (some (.builtin "object.__class__")))
      (hn : PySem.W.specialIn K (.builtin "object.__class__") "__get__" = some (some (.builtin "getset_descriptor.__get__"))) (htk : PySem.W.takesIn K (.builtin "object.__class__") = some true)
      (hm : PySem.W.mroIn K C (.type "object") = some true) : TyOf K H (.ref a) (.ref C)
theorem isinst_ok {x : V} {u t : Value} (I : Inv X pins σ H s) (rx : RelV x u) (ty : TyOf X.K H x t) (e : PySem.W.kitOne X.K t c = some b) (h : ∀ tk, Q (.bool b) { s with toks := tk }) :
    wpAny (model X.prog X.w) A (call (.builtin "isinstance") [u, c]) Q E s := by
  cases ty with
  | non => cases (show u = Value.none from rx); exact PySem.W.kia_one PySem.W.kitx_none I.kIn True.intro e (fun z => nomatch z) h
  | bl y => cases (show u = Value.bool y from rx); exact PySem.W.kia_one PySem.W.kitx_bool I.kIn True.intro e (fun z => nomatch z) h
  | int i => obtain ⟨t, q⟩ := (show ∃ t, u = Value.int i t from rx); cases q; exact PySem.W.kia_one PySem.W.kitx_int I.kIn True.intro e (fun z => nomatch z) h
  | str y => obtain ⟨t, q⟩ := (show ∃ t, u = Value.str y t from rx); cases q; exact PySem.W.kia_one PySem.W.kitx_str I.kIn True.intro e (fun z => nomatch z) h
  | flt y => obtain ⟨t, q⟩ := (show ∃ t, u = Value.float y t from rx); cases q; exact PySem.W.kia_one PySem.W.kitx_float I.kIn True.intro e (fun z => nomatch z) h
  | @lst a xs ea =>
    cases (show u = Value.ref a from rx)
    obtain ⟨_, _, n, _, h1⟩ := (show ObjOk X.prog X.w H s.heap a (.lst xs) from I.hok a _ ea)
    exact PySem.W.kia_one PySem.W.kitx_list I.kIn ⟨_, h1, rfl⟩ e (fun z => nomatch z) h
  | @frz a ob xs ea =>
    cases (show u = Value.ref a from rx)
    obtain ⟨_, _, _, n, _, h1⟩ := (show ObjOk X.prog X.w H s.heap a (.frz ob (.lst xs)) from I.hok a _ ea)
    exact PySem.W.kia_one PySem.W.kitx_list I.kIn ⟨_, h1, rfl⟩ e (fun z => nomatch z) h
  | @tup a xs ea =>
    cases (show u = Value.ref a from rx)
    obtain ⟨_, _, _, p⟩ := (show ObjOk X.prog X.w H s.heap a (.tup xs) from I.hok a _ ea)
    obtain ⟨o, h1, h2, _⟩ := p
    exact PySem.W.kia_one PySem.W.kitx_tuple I.kIn ⟨o, h1, h2⟩ e (fun z => nomatch z) h
  | @dK a kvs ea =>
    cases (show u = Value.ref a from rx)
    obtain ⟨_, _, vs, _, p⟩ := (show ObjOk X.prog X.w H s.heap a (.dK kvs) from I.hok a _ ea)
    obtain ⟨o, es, ep, h1, h2, _⟩ := p
    exact PySem.W.kia_one PySem.W.kitx_dict I.kIn ⟨o, h1, h2.1⟩ e (fun z => nomatch z) h
  | @dT a kvs ea =>
    cases (show u = Value.ref a from rx)
    obtain ⟨_, _, xs, _, o, es, ep, h1, h2, _⟩ := (show ObjOk X.prog X.w H s.heap a (.dT kvs) from I.hok a _ ea)
    exact PySem.W.kia_one PySem.W.kitx_dict I.kIn ⟨o, h1, h2.1⟩ e (fun z => nomatch z) h
  | @ins a C dx fs ea cl ha hn htk hm =>
    cases (show u = Value.ref a from rx)
    obtain ⟨mA, O, _⟩ := ins_get I.hok ea
    obtain ⟨od, J, _⟩ := O.look
    exact PySem.W.kia_one (PySem.W.kitx_own (cl.get _) cl.hd ha hn htk hm) I.kIn J e (fun z => nomatch z) h
end
end L2
namespace L2
open PySem PySem.Spec PyProof.Rows
structure Room (k : Nat) (A : Around) : Prop where
  hd : A.handled = none
  dp : A.depth + 3 * k + 5 < recursionLimit
  un : A.units + 16 * k + 200 < cLine
theorem Room.mono {j k : Nat} {A : Around} (r : Room k A) (h : j ≤ k) : Room j A := ⟨r.hd, by have := r.dp; omega, by have := r.un; omega⟩
theorem Room.deeper {k : Nat} {A : Around} (r : Room (k + 1) A) (env : Env) : Room k (A.deeper env) :=
  ⟨r.hd, by have := r.dp; show A.depth + 1 + 3 * k + 5 < _; omega, by have := r.un; show A.units + 3 + 16 * k + 200 < _; omega⟩
theorem Room.in1 {k : Nat} {A : Around} (r : Room (k + 1) A) : Room k A.in1 :=
  ⟨r.hd, by have := r.dp; show A.depth + 3 * k + 5 < _; omega, by have := r.un; show A.units + 1 + 16 * k + 200 < _; omega⟩
theorem Room.depth {k : Nat} {A : Around} (r : Room k A) : A.depth < recursionLimit := by have := r.dp; omega
theorem Room.units {k : Nat} {A : Around} (r : Room k A) : A.units + 64 < cLine := by have := r.un; omega
def tNil : TA := fun _ H Q => Q [] H
def tCons (ta : TE) (tr : TA) : TA := fun σ H Q => ta σ H fun x H1 => tr σ H1 fun xs H2 => Q (x :: xs) H2
section
variable {X : Cx} {e : Expr} {es : List Expr} {te : TE} {t : TA} {pos : Pos}
theorem pa_nil : PA X [] tNil := fun _ _ _ _ H Q I h => Calls.spliced_nil ⟨[], H, I, .nil, h⟩
theorem pa_cons (ha : PE X e te) (hr : PA X es t) (hs : starEach (e :: es) X.env = (false, eval e X.env) :: starEach es X.env := by rfl) : PA X (e :: es) (tCons te t) := by
  intro pos pins s σ H Q I h
  rw [hs]
  show wpAny _ _ (spliced ((false, eval e X.env) :: backTo pos (starEach es X.env))) _ _ s
  refine Calls.spliced_cons (thn (ha pins s σ H _ I h) fun u s1 ⟨x, H1, I1, r1, q1⟩ => ?_)
  exact thn (hr pos pins s1 σ H1 _ I1 q1) fun us s2 ⟨xs, H2, I2, r2, q2⟩ => ⟨x :: xs, H2, I2, .cons r1 r2, q2⟩
def tTup (t : TA) : TE := fun σ H Q => t σ H fun xs H1 => xs.length ≤ sizeLine ∧ ∀ p, H1 p = none → Q (.ref p) (upd H1 p (.tup xs))
def tLst (t : TA) : TE := fun σ H Q => t σ H fun xs H1 => xs.length ≤ sizeLine ∧ ∀ p, H1 p = none → Q (.ref p) (upd H1 p (.lst xs))
theorem pe_tup {x1} (h : PA X es t) : PE X (.Tuple es x1 pos) (tTup t) := by
  intro pins s σ H Q I hq
  refine wpAny_Tuple_spliced (thn (h pos pins s σ H _ I hq) fun us s1 ⟨xs, H1, I1, r, z, q⟩ => ⟨by rw [← r.length]; exact z, ?_⟩)
  have hf : H1 s1.heap.objs.size = none := I1.hok.fresh (Nat.le_refl _)
  refine ⟨.ref s1.heap.objs.size, upd H1 s1.heap.objs.size (.tup xs), I1.laid (t' := s1.toks) (fun b u e => Heap.get?_push_of_some _ e) (Nat.le_refl _) ?_, rfl, q _ hf⟩
  exact ⟨z, us, r, ⟨_, Heap.get?_push_size _ rfl, rfl, _, rfl⟩⟩
theorem pe_lst (h : PA X es t) : PE X (.List es pos) (tLst t) := by
  intro pins s σ H Q I hq
  refine wpAny_List_spliced (thn (h pos pins s σ H _ I hq) fun us s1 ⟨xs, H1, I1, r, z, q⟩ => ⟨by rw [← r.length]; exact z, ?_⟩)
  have hf : H1 s1.heap.objs.size = none := I1.hok.fresh (Nat.le_refl _)
  refine ⟨.ref s1.heap.objs.size, upd H1 s1.heap.objs.size (.lst xs), I1.laid (t' := s1.toks) (fun b u e => Heap.get?_push_of_some _ e) (Nat.le_refl _) ?_, rfl, q _ hf⟩
  exact ⟨z, us, 0, r, Heap.get?_push_size _ rfl⟩
end
abbrev Sp := List V → Hp → VK → XK → Prop
abbrev CXT := List Env → Hp → Shared → XK → Value → Shared → Prop
structure Env0 (P : Program) (w : World) (K : PySem.W.Frag) (mg : Str → Option Value) (base : Heap) (A : Around) (outer : List Env) (s : Shared) (H : Hp) : Prop where
  frames : A.frames = some outer
  mod : Mod K mg base
  bs : ∀ b o, base.get? b = some o → s.heap.get? b = some o ∧ H b = none
  bsz : base.objs.size ≤ s.heap.objs.size
  funs : s.heap.FunFrames base outer
  frf : ∀ b ∈ frs outer, H b = none
  hok : HOk P w H s.heap
  bare : AllBare s.gens
def CE (outer : List Env) (P : Program) (w : World) (H : Hp) (s : Shared) (Q : VK) (u : Value) (s' : Shared) : Prop :=
  ∃ v H', s'.os = s.os ∧ AllBare s'.gens ∧ Un (frs outer) [] H H' s.heap s'.heap ∧ HOk P w H' s'.heap ∧ RelV v u ∧ Q v H'
def CR (CX : CXT) (outer : List Env) (P : Program) (w : World) (H : Hp) (s : Shared) (Q : VK) (E : XK) (r : Result) (s' : Shared) : Prop :=
  match r with
  | .ok (.ret u) => CE outer P w H s Q u s'
  | .ok _ => False
  | .error e => CX outer H s E e s'
structure FnOk (P : Program) (w : World) (K : PySem.W.Frag) (mg : Str → Option Value) (base : Heap) (CX : CXT) (k : Nat) (f : Addr) (fd : FuncData) (ps : List Str) (sp : Sp) : Prop where
  len : ∀ vs H Q E, sp vs H Q E → vs.length = ps.length
  run : ∀ (A : Around) (outer : List Env) (s : Shared) (H : Hp) (args : Args) (us : List Value) (vs : List V) (Q : VK) (E : XK), Room k A → Env0 P w K mg base A outer s H → BindsTo s fd args (ps.zip us) → Vals vs us → sp vs H Q E →
    codeAny (model P w) A (.call (.ref f) args) (CR CX outer P w H s Q E) s
theorem FnOk.mono {P : Program} {w : World} {K : PySem.W.Frag} {mg : Str → Option Value} {base : Heap} {CX : CXT} {j k : Nat} {f : Addr} {fd : FuncData} {ps : List Str} {sp : Sp} (F : FnOk P w K mg base CX j f fd ps sp) (h : j ≤ k) :
    FnOk P w K mg base CX k f fd ps sp := ⟨F.len, fun A outer s H args us vs Q E hr => F.run A outer s H args us vs Q E (hr.mono h)⟩
theorem FnOk.imp {P : Program} {w : World} {K : PySem.W.Frag} {mg : Str → Option Value} {base : Heap} {CX : CXT} {k : Nat} {f : Addr} {fd : FuncData} {ps : List Str} {sp sp' : Sp} (F : FnOk P w K mg base CX k f fd ps sp)
    (h : ∀ vs H Q E, sp' vs H Q E → sp vs H Q E) : FnOk P w K mg base CX k f fd ps sp' :=
  ⟨fun vs H Q E q => F.len vs H Q E (h _ _ _ _ q), fun A outer s H args us vs Q E hr he hb hv hs => F.run A outer s H args us vs Q E hr he hb hv (h _ _ _ _ hs)⟩
theorem Env0.in1 {P : Program} {w : World} {K : PySem.W.Frag} {mg : Str → Option Value} {base : Heap} {A : Around} {outer : List Env} {s : Shared} {H : Hp} (e : Env0 P w K mg base A outer s H) :
    Env0 P w K mg base A.in1 outer s H := ⟨e.frames, e.mod, e.bs, e.bsz, e.funs, e.frf, e.hok, e.bare⟩
section
variable {X : Cx} {pins : List (Addr × Obj)} {σ : St} {H : Hp} {s s' : Shared}
theorem Inv.env0 (I : Inv X pins σ H s) : Env0 X.prog X.w X.K X.mg X.base X.A X.stack s H :=
  ⟨I.ok.frames, I.ok.mod, I.bs, Nat.le_trans I.ok.bsz I.sz, I.stack, I.stkFree, I.hok, I.bare⟩
theorem Inv.after {Q : VK} {u : Value} (I : Inv X pins σ H s) (h : CE X.stack X.prog X.w H s Q u s') : EP X pins σ Q u s' := by
  obtain ⟨v, H', os, bare, un, hok, r, q⟩ := h
  obtain ⟨hh, g, d, t, os'⟩ := s'
  obtain rfl : os' = s.os := os
  exact ⟨v, H', I.call (h' := hh) (g' := g) (d' := d) (t' := t) (ch := []) un hok bare (fun b z => absurd z (by simp)), r, q⟩
end
def tCall (sp : Sp) (dvs : List V) (E : XK) (t : TA) : TE := fun σ H Q => t σ H fun vs H1 => sp (vs ++ dvs) H1 Q E
def Binds (K : PySem.W.Frag) (fd : FuncData) (ps : List Str) (ds : List Value) : Prop :=
  ∀ (s : Shared) (us : List Value), K.In s.heap → (us ++ ds).length = ps.length → BindsTo s fd ⟨us, []⟩ (ps.zip (us ++ ds))
theorem Binds.all {K : PySem.W.Frag} {fd : FuncData} {ps : List Str} (h : ∀ us : List Value, us.length = ps.length → bindArgs fd ⟨us, []⟩ = pure (ps.zip us)) : Binds K fd ps [] := fun s us _ hl => by
  rw [List.append_nil] at hl ⊢
  exact .of_eq (h us hl)
def Passes (CX : CXT) (X : Cx) (E : XK) : Prop := ∀ (pins : List (Addr × Obj)) (σ : St) (H : Hp) (s : Shared) (e : Value) (s' : Shared), Inv X pins σ H s → CX X.stack H s E e s' → X.xe e s'
section
variable {X : Cx} {CX : CXT} {k : Nat} {f C : Addr} {fd : FuncData} {ps : List Str} {sp : Sp} {dvs : List V} {ds : List Value} {E : XK} {x m : Str} {p pos apos : Pos} {e o : Expr} {es : List Expr} {ta : TE} {t : TA}
theorem run_fn {pins : List (Addr × Obj)} {σ : St} {H : Hp} {s : Shared} {Q : VK} {us : List Value} {vs : List V} (F : FnOk X.prog X.w X.K X.mg X.base CX k f fd ps sp) (hr : Room k X.A) (hb : Binds X.K fd ps ds) (hd : Vals dvs ds) (hx : Passes CX X E)
    (I : Inv X pins σ H s) (r : Vals vs us) (h : sp (vs ++ dvs) H Q E) : wpAny (model X.prog X.w) X.A (call (.ref f) us) (EP X pins σ Q) X.xe s := by
  have r2 : Vals (vs ++ dvs) (us ++ ds) := r.append hd
  have hl : (us ++ ds).length = ps.length := by rw [← r2.length]; exact F.len _ _ _ _ h
  refine wpAny_call (codeAny_mono (F.run X.A X.stack s H ⟨us, []⟩ (us ++ ds) (vs ++ dvs) Q E hr I.env0 (hb s us I.kIn hl) r2 h) fun r s' hq => ?_)
  cases r with
  | error e => exact hx pins σ H s e s' I hq
  | ok fl =>
    cases fl with
    | ret u => exact I.after hq
    | next => exact False.elim hq
    | brk => exact False.elim hq
    | cont => exact False.elim hq
theorem pe_call (F : FnOk X.prog X.w X.K X.mg X.base CX k f fd ps sp) (hr : Room k X.A) (hg : Gl X x) (hm : X.mg x = some (.ref f)) (hk : PySem.W.keepIn X.K (.ref f) = true) (hb : Binds X.K fd ps ds) (hd : Vals dvs ds) (hx : Passes CX X E)
    (ha : PA X (e :: es) t) (hdb : (x == ("__debug__" : Str)) = false := by decide) (he : starEach (e :: es) X.env = (false, eval e X.env) :: starEach es X.env := by rfl) (hpl : (backTo pos (starEach es X.env)).any (·.1) = false := by rfl) :
    PE X (.Call (.Name x p) (e :: es) [] pos) (tCall sp dvs E t) := by
  intro pins s σ H Q I h
  refine wpAny_Call_Name_kw (ld_glob I hg hm ?_ hdb)
  refine PySem.W.callWith_K (h₀ := X.base) I.ok.mod.kin hk (thn (ha pos pins s σ H _ I h) fun us s1 ⟨vs, H1, I1, r, q⟩ => ⟨I1.kIn, ?_⟩) he hpl
  exact run_fn F hr hb hd hx I1 r q
structure Mk (K : PySem.W.Frag) (C f : Addr) : Prop where
  makes : PySem.W.makesIn K C = true
  init : PySem.W.findIn K (.ref C) "__init__" = some (some (.ref f))
  fn : PySem.W.isFn K (.ref f) = true
  kp : PySem.W.keepIn K (.ref C) = true
end
section
variable {X : Cx} {CX : CXT} {k : Nat} {f C : Addr} {fd : FuncData} {ps ks : List Str} {sp : Sp} {E : XK} {x m : Str} {p pos apos kpos : Pos} {e o : Expr} {es : List Expr} {kws : List Keyword} {te ta : TE} {t tk : TA} {nm : Option Str}
structure KBinds (K : PySem.W.Frag) (fd : FuncData) (ps ks : List Str) (g : List Value → List Value → List Value) (gV : List V → List V → List V) : Prop where
  to : ∀ (s : Shared) (us ws : List Value), K.In s.heap → (g us ws).length = ps.length → BindsTo s fd ⟨us, ks.zip ws⟩ (ps.zip (g us ws))
  rel : ∀ {vs : List V} {us : List Value} {zs : List V} {ws : List Value}, Vals vs us → Vals zs ws → Vals (gV vs zs) (g us ws)
variable {g : List Value → List Value → List Value} {gV : List V → List V → List V}
end
structure FnScope (N P : List Str) (sc : Scope) : Prop where
  kind : sc.kind = .function
  co : sc.isCoroutine = false
  gen : sc.isGenerator = false
  nd : N.Nodup
  pre : N.take P.length = P
  par : ∀ x ∈ P, sc.names.lookup x = some .local ∨ sc.names.lookup x = some .cell
  nofree : ∀ y ∈ sc.names, y.2 ≠ .free
theorem bindL_out {kindOf : Str → Option NameKind} {x : Str} : ∀ {binds : List (Str × Value)} {m : Str → Option Value}, (∀ v, (x, v) ∉ binds) → bindL kindOf binds m x = m x
  | [], _, _ => rfl
  | (n, v) :: r, m, h => by
    unfold bindL
    rw [bindL_out fun w hw => h w (List.mem_cons_of_mem _ hw)]
    split
    · have : x ≠ n := by rintro rfl; exact h v List.mem_cons_self
      simp [this]
    · rfl
theorem bindC_out {kindOf : Str → Option NameKind} {x : Str} : ∀ {binds : List (Str × Value)} {m : Str → Option Value}, (∀ v, (x, v) ∉ binds) → bindC kindOf binds m x = m x
  | [], _, _ => rfl
  | (n, v) :: r, m, h => by
    unfold bindC
    rw [bindC_out fun w hw => h w (List.mem_cons_of_mem _ hw)]
    split
    · rfl
    · have : x ≠ n := by rintro rfl; exact h v List.mem_cons_self
      simp [this]
theorem bindL_get {kindOf : Str → Option NameKind} {x : Str} {v : Value} : ∀ {P : List Str} {vs : List Value} {i : Nat} {m : Str → Option Value}, P.Nodup → P[i]? = some x → vs[i]? = some v → kindOf x = some .local →
    bindL kindOf (P.zip vs) m x = some v
  | [], _, _, _, _, h, _, _ => by simp at h
  | _ :: _, [], _, _, _, _, h, _ => by simp at h
  | p :: P, w :: vs, 0, m, nd, h1, h2, hk => by
    simp at h1 h2; subst h1; subst h2
    show bindL kindOf ((p, w) :: P.zip vs) m p = _
    unfold bindL
    rw [bindL_out fun v hv => (List.nodup_cons.mp nd).1 (List.of_mem_zip hv).1, if_pos hk]
    simp
  | p :: P, w :: vs, i + 1, m, nd, h1, h2, hk => by
    show bindL kindOf ((p, w) :: P.zip vs) m x = _
    unfold bindL
    exact bindL_get (i := i) (List.nodup_cons.mp nd).2 (by simpa using h1) (by simpa using h2) hk
theorem bindC_get {kindOf : Str → Option NameKind} {x : Str} {v : Value} : ∀ {P : List Str} {vs : List Value} {i : Nat} {m : Str → Option Value}, P.Nodup → P[i]? = some x → vs[i]? = some v → kindOf x ≠ some .local →
    bindC kindOf (P.zip vs) m x = some v
  | [], _, _, _, _, h, _, _ => by simp at h
  | _ :: _, [], _, _, _, _, h, _ => by simp at h
  | p :: P, w :: vs, 0, m, nd, h1, h2, hk => by
    simp at h1 h2; subst h1; subst h2
    show bindC kindOf ((p, w) :: P.zip vs) m p = _
    unfold bindC
    rw [bindC_out fun v hv => (List.nodup_cons.mp nd).1 (List.of_mem_zip hv).1, if_neg hk]
    simp
  | p :: P, w :: vs, i + 1, m, nd, h1, h2, hk => by
    show bindC kindOf ((p, w) :: P.zip vs) m x = _
    unfold bindC
    exact bindC_get (i := i) (List.nodup_cons.mp nd).2 (by simpa using h1) (by simpa using h2) hk
def start (N : List Str) (vs : List V) : St := vs.map some ++ List.replicate (N.length - vs.length) none
def cxOf (CX : CXT) (P : Program) (w : World) (K : PySem.W.Frag) (mg : Str → Option Value) (base : Heap) (N : List Str) (qual : Str) (scope : Scope) (f : Addr) (cd : Value) (A : Around) (outer : List Env) (s : Shared) (H : Hp) (E : XK) : Cx where
  prog := P
  w := w
  K := K
  mg := mg
  base := base
  A := A.deeper (envOfC qual scope s.heap.objs.size f cd)
  N := N
  s₀ := s
  H₀ := H
  env := envOfC qual scope s.heap.objs.size f cd
  outer := outer
  stack := envOfC qual scope s.heap.objs.size f cd :: outer
  ex := []
  calm := true
  fn := fun _ => true
  pn := []
  xe := fun e s' => wpAny (model P w) (A.deeper (envOfC qual scope s.heap.objs.size f cd)) (leaving (envOfC qual scope s.heap.objs.size f cd) e) (fun _ s'' => CX outer H s E e s'') (fun e' s'' => CX outer H s E e' s'') s'
theorem cell_has {sc : Scope} {n : Nat} {x : Str} (h : sc.names.lookup x = some .cell) : ∃ c, (cellsFrom n sc.names []).lookup x = some c := by
  have q := PySem.W.cellsFrom_some sc.names n [] (.inl h)
  exact Option.isSome_iff_exists.mp q
theorem inv_start {CX : CXT} {P : Program} {w : World} {K : PySem.W.Frag} {mg : Str → Option Value} {base : Heap} {N ps : List Str} {qual : Str} {scope : Scope} {f : Addr} {cd : Value} {A : Around} {outer : List Env} {s s1 : Shared} {H : Hp} {E : XK} {us : List Value} {vs : List V}
    (S : FnScope N ps scope) (hd : A.handled = none) (e0 : Env0 P w K mg base A outer s H) (hl : vs.length = ps.length) (r : Vals vs us)
    (x : InCallC s s.heap.objs.size (bindL (envOfC qual scope s.heap.objs.size f cd).kindOf (ps.zip us) fun _ => none) (cellsFrom (s.heap.objs.size + 1) scope.names []) (bindC (envOfC qual scope s.heap.objs.size f cd).kindOf (ps.zip us) fun _ => none) s1) :
    Inv (cxOf CX P w K mg base N qual scope f cd A outer s H E) [] (start N vs) H s1 := by
  have hpl : ps.length ≤ N.length := by have := congrArg List.length S.pre; rw [List.length_take] at this; omega
  obtain ⟨h1, tk, rfl, hk⟩ := x.done
  have noA : ∀ b : Addr, b ∉ (cxOf CX P w K mg base N qual scope f cd A outer s H E).ex := fun b z => absurd (show b ∈ ([] : List Addr) from z) (by simp)
  refine ⟨⟨e0.mod, S.kind, rfl, rfl, Nat.le_refl _, fun y z c h1 h2 => ?_, fun y hy => ?_, fun y c _ h => ?_, fun _ => hd, Around.frames_deeper e0.frames, .inr ⟨rfl, rfl⟩, fun b z => absurd z (noA b), e0.bs, e0.bsz, fun b _ _ => noA b, fun b z => absurd z (noA b), e0.funs, e0.frf⟩,
    rfl, e0.bare, Un.kept hk, ⟨_, x.toInCall.ns, fun i y v h1 h2 h3 => ?_⟩, fun y c h => ⟨_, x.cell y c h⟩, e0.hok.fresh (Nat.le_refl _), fun y c h => ?_, fun p hp => absurd (show p ∈ ([] : List (Addr × Obj)) from hp) (by simp), e0.hok.kept hk, ?_⟩
  · exact name_of_addr x.apart (PySem.mem_of_lookup h1) (PySem.mem_of_lookup h2)
  · have hy : scope.names.lookup y = some .cell ∨ scope.names.lookup y = some .free := hy
    rcases hy with hy | hy
    · exact cell_has hy
    · exact absurd rfl (S.nofree _ (PySem.mem_of_lookup hy))
  · exact Nat.le_of_lt (x.above y c (PySem.mem_of_lookup h))
  · have hi : i < vs.length := by
      unfold start at h2
      by_cases hi : i < vs.length
      · exact hi
      · rw [List.getElem?_append_right (by simpa using hi)] at h2
        rw [List.getElem?_replicate] at h2
        split at h2 <;> cases h2
    have ha : vs[i]? = some v := by
      unfold start at h2
      rw [List.getElem?_append_left (by simpa using hi), List.getElem?_map] at h2
      cases e : vs[i]? with
      | none => rw [e] at h2; cases h2
      | some a => rw [e] at h2; cases h2; rfl
    obtain ⟨u, hu, rv⟩ := r.get ha
    have hp : ps[i]? = some y := by
      rw [← S.pre, List.getElem?_take_of_lt (by omega)]; exact h1
    have ndP : ps.Nodup := by rw [← S.pre]; exact S.nd.sublist (List.take_sublist _ _)
    refine ⟨u, rv, ?_⟩
    rcases S.par y (List.mem_of_getElem? hp) with k | k
    · exact .inl ⟨k, bindL_get ndP hp hu k⟩
    · obtain ⟨c, e⟩ := cell_has (n := s.heap.objs.size + 1) k
      refine .inr ⟨.inl k, c, e, ?_⟩
      have q := x.cell y c e
      rw [bindC_get ndP hp hu (by show scope.names.lookup y ≠ _; rw [k]; decide)] at q
      exact q
  · exact e0.hok.fresh (Nat.le_of_lt (x.above y c (PySem.mem_of_lookup h)))
  · unfold start
    show _ = N.length
    rw [List.length_append, List.length_map, List.length_replicate]
    omega
theorem fn_of {CX : CXT} {P : Program} {w : World} {K : PySem.W.Frag} {mg : Str → Option Value} {base : Heap} {k : Nat} {f : Addr} {name qual : Str} {params : Arguments} {body : List Stmt} {scope : Scope} {dV kV doc pm cdv ct oc : Value} {an od : Option Addr}
    {osl : Array (Option Value)} {N ps : List Str} {sp : Sp} (lk : K.lookup f = some ⟨oc, od, .func (PySem.W.fnOf name qual params body scope dV kV doc pm an cdv ct), osl⟩) (hcd : PySem.W.codeIn K cdv qual = true) (S : FnScope N ps scope)
    (len : ∀ vs H Q E, sp vs H Q E → vs.length = ps.length)
    (hbody : ∀ (A : Around) (outer : List Env) (s : Shared) (H : Hp) (vs : List V) (Q : VK) (E : XK), Room k (A.deeper (envOfC qual scope s.heap.objs.size f cdv)) → sp vs H Q E →
      ∃ t, PSs (cxOf CX P w K mg base N qual scope f cdv A outer s H E) body t ∧ t { nx := fun _ H' => Q .non H', rt := Q } (start N vs) H) :
    FnOk P w K mg base CX (k + 1) f (PySem.W.fnOf name qual params body scope dV kV doc pm an cdv ct) ps sp := by
  refine ⟨len, fun A outer s H args us vs Q E hr e0 hb r hsp => ?_⟩
  have hl := len _ _ _ _ hsp
  have KX : K.In s.heap := e0.mod.kin.keeps fun b o e => (e0.bs b o e).1
  have lim : s.heap.NoLimit := e0.mod.nolimit.keeps fun b o e => (e0.bs b o e).1
  have hkind : ∀ y ∈ ps.zip us, scope.names.lookup y.1 = some .local ∨ (scope.names.lookup y.1 = some .cell ∧ ((cellsFrom (s.heap.objs.size + 1) scope.names []).lookup y.1).isSome = true) := fun ⟨n, v⟩ hy => by
    rcases S.par n (List.of_mem_zip hy).1 with q | q
    · exact .inl q
    · exact .inr ⟨q, PySem.W.cellsFrom_some _ _ _ (.inl q)⟩
  refine codeAny_call_function hr.depth (KX _ _ lk) rfl S.co S.gen rfl (PySem.W.codeRec_of KX hcd) (hb _ _ _ _ ?_)
  refine wpAny_newFunctionEnv_cells S.kind hkind fun env he s1 x => ?_
  subst he
  refine ⟨lim.keeps x.toInCall.keep, codeAny_func ?_⟩
  obtain ⟨t, ht, hq⟩ := hbody A outer s H vs Q E (hr.deeper _) hsp
  have I : Inv (cxOf CX P w K mg base N qual scope f cdv A outer s H E) [] (start N vs) H s1 := inv_start S hr.hd e0 hl r x
  refine wpAny_mono (ht [] s1 (start N vs) H _ I hq) (fun fl s' hs => ?_) fun e s' hs => hs
  have fin : ∀ {σ' : St} {H' : Hp} {v : V} {u : Value}, Inv (cxOf CX P w K mg base N qual scope f cdv A outer s H E) [] σ' H' s' → RelV v u → Q v H' → CE outer P w H s Q u s' :=
    fun {σ' H' v u} J rv q => ⟨v, H', J.os, J.bare, J.base, J.hok, rv, q⟩
  cases fl with
  | ret u =>
    obtain ⟨v, σ', H', J, rv, q⟩ := hs
    exact fin J rv q
  | next =>
    obtain ⟨σ', H', J, q⟩ := hs
    exact fin (v := V.non) (u := Value.none) J rfl q
  | brk =>
    obtain ⟨_, _, _, q⟩ := hs
    exact False.elim q
  | cont =>
    obtain ⟨_, _, _, q⟩ := hs
    exact False.elim q
end L2
namespace L2
open PySem PySem.Spec PyProof.Rows
section
variable {X : Cx} {x : Str} {p pos : Pos} {e : Expr} {es : List Expr} {t : TA} {id T : String} {r : List V → Hp → VK → Prop}
def tCB (r : List V → Hp → VK → Prop) (t : TA) : TE := fun σ H Q => t σ H fun vs H1 => r vs H1 Q
theorem pe_callB (hc : CallR X (.builtin id) r) (hg : Gl X x) (hm : X.mg x = none) (hv : bootBuiltins x = some (.builtin id)) (ha : PA X (e :: es) t) (hn : x ≠ "__name__" := by decide) (hdb : (x == ("__debug__" : Str)) = false := by decide)
    (he : starEach (e :: es) X.env = (false, eval e X.env) :: starEach es X.env := by rfl) (hpl : (backTo pos (starEach es X.env)).any (·.1) = false := by rfl) : PE X (.Call (.Name x p) (e :: es) [] pos) (tCB r t) := by
  intro pins s σ H Q I h
  refine wpAny_Call_Name_kw (ld_blt I hg hm hv ?_ hn hdb)
  exact PyProof.Rows.callWith_builtin1 (thn (ha pos pins s σ H _ I h) fun us s1 ⟨vs, H1, I1, r1, q1⟩ => hc pins s1 σ H1 vs us Q I1 r1 q1) he hpl
theorem pe_callTy (hc : CallR X (.type T) r) (hg : Gl X x) (hm : X.mg x = none) (hv : bootBuiltins x = some (.type T)) (ha : PA X (e :: es) t) (hn : x ≠ "__name__" := by decide) (hdb : (x == ("__debug__" : Str)) = false := by decide)
    (he : starEach (e :: es) X.env = (false, eval e X.env) :: starEach es X.env := by rfl) (hpl : (backTo pos (starEach es X.env)).any (·.1) = false := by rfl) : PE X (.Call (.Name x p) (e :: es) [] pos) (tCB r t) := by
  intro pins s σ H Q I h
  refine wpAny_Call_Name_kw (ld_blt I hg hm hv ?_ hn hdb)
  exact PyProof.Rows.callWith_type1 (thn (ha pos pins s σ H _ I h) fun us s1 ⟨vs, H1, I1, r1, q1⟩ => hc pins s1 σ H1 vs us Q I1 r1 q1) he hpl
end
end L2
namespace L2
open PySem PySem.Spec PyProof.Rows
section
variable {κ : Type} [DecidableEq κ]
def valV (kvs : List (κ × V)) (k : κ) : Option V := (kvs.find? fun kv => decide (kv.1 = k)).map (·.2)
def putK (kvs : List (κ × V)) (k : κ) (v : V) : List (κ × V) :=
  if (kvs.any fun kv => decide (kv.1 = k)) = true then kvs.map (fun kv => if kv.1 = k then (kv.1, v) else kv) else kvs ++ [(k, v)]
def dropK (kvs : List (κ × V)) (k : κ) : List (κ × V) := kvs.filter fun kv => decide (kv.1 ≠ k)
theorem valV_pos {p : κ × V} {r : List (κ × V)} {k : κ} (e : p.1 = k) : valV (p :: r) k = some p.2 := by simp [valV, List.find?_cons, e]
theorem valV_neg {p : κ × V} {r : List (κ × V)} {k : κ} (e : ¬ p.1 = k) : valV (p :: r) k = valV r k := by simp [valV, List.find?_cons, e]
theorem valV_any (k : κ) : ∀ kvs : List (κ × V), (kvs.any fun kv => decide (kv.1 = k)) = (valV kvs k).isSome
  | [] => rfl
  | p :: r => by
    rw [List.any_cons]
    by_cases e : p.1 = k
    · simp only [valV_pos e, decide_eq_true e, Bool.true_or, Option.isSome_some]
    · rw [valV_neg e, decide_eq_false e, Bool.false_or]; exact valV_any k r
theorem length_putK (kvs : List (κ × V)) (k : κ) (v : V) : (putK kvs k v).length ≤ kvs.length + 1 := by
  unfold putK
  split
  · rw [List.length_map]; omega
  · rw [List.length_append, List.length_cons, List.length_nil]; omega
theorem RelO.isSome_eq {o : Option V} {u : Option Value} (r : RelO o u) : o.isSome = u.isSome := by
  cases o with
  | none => cases u with
    | none => rfl
    | some _ => exact (show False from r).elim
  | some _ => cases u with
    | none => exact (show False from r).elim
    | some _ => rfl
theorem RelO.getD {o : Option V} {u : Option Value} {d : V} {d' : Value} (r : RelO o u) (rd : RelV d d') : RelV (o.getD d) (u.getD d') := by
  cases o with
  | none => cases u with
    | none => exact rd
    | some _ => exact (show False from r).elim
  | some _ => cases u with
    | none => exact (show False from r).elim
    | some _ => exact r
theorem KV.val {kvs : List (κ × V)} {vs : List (κ × Value)} (r : KV kvs vs) (k : κ) : RelO (valV kvs k) (valueAt vs k) := by
  unfold KV at r
  induction r with
  | nil => exact True.intro
  | @cons p q ps qs h t ih =>
    obtain ⟨h1, h2⟩ := h
    by_cases e : p.1 = k
    · have e' : q.1 = k := h1.symm.trans e
      have b : valueAt (q :: qs) k = some q.2 := by simp [valueAt, List.find?_cons, e']
      rw [valV_pos e, b]; exact h2
    · have e' : ¬ q.1 = k := fun z => e (h1.trans z)
      have b : valueAt (q :: qs) k = valueAt qs k := by simp [valueAt, List.find?_cons, e']
      rw [valV_neg e, b]; exact ih
theorem KV.any {kvs : List (κ × V)} {vs : List (κ × Value)} (r : KV kvs vs) (k : κ) : (kvs.any fun kv => decide (kv.1 = k)) = vs.any fun kv => decide (kv.1 = k) := by
  unfold KV at r
  induction r with
  | nil => rfl
  | cons h t ih => rw [List.any_cons, List.any_cons, ih, h.1]
theorem KV.repl {kvs : List (κ × V)} {vs : List (κ × Value)} (r : KV kvs vs) (k : κ) {y : V} {u : Value} (ry : RelV y u) :
    KV (kvs.map fun kv => if kv.1 = k then (kv.1, y) else kv) (vs.map fun kv => if kv.1 = k then (kv.1, u) else kv) := by
  unfold KV at r ⊢
  induction r with
  | nil => exact .nil
  | @cons p q ps qs h t ih =>
    rw [List.map_cons, List.map_cons]
    refine .cons ?_ ih
    obtain ⟨h1, h2⟩ := h
    by_cases e : p.1 = k
    · rw [if_pos e, if_pos (h1.symm.trans e)]; exact ⟨h1, ry⟩
    · rw [if_neg e, if_neg (fun z => e (h1.trans z))]; exact ⟨h1, h2⟩
theorem KV.put {kvs : List (κ × V)} {vs : List (κ × Value)} (r : KV kvs vs) (k : κ) {y : V} {u : Value} (ry : RelV y u) : KV (putK kvs k y) (stored vs k u) := by
  unfold putK stored
  rw [r.any k]
  by_cases e : (vs.any fun kv => decide (kv.1 = k)) = true
  · rw [if_pos e, if_pos e]; exact r.repl k ry
  · rw [if_neg e, if_neg e]; exact Paired.snoc r ⟨rfl, ry⟩
theorem KV.drop {kvs : List (κ × V)} {vs : List (κ × Value)} (r : KV kvs vs) (k : κ) : KV (dropK kvs k) (without vs k) := by
  unfold KV at r ⊢
  unfold dropK without
  induction r with
  | nil => exact .nil
  | @cons p q ps qs h t ih =>
    obtain ⟨h1, h2⟩ := h
    rw [List.filter_cons, List.filter_cons]
    by_cases e : p.1 = k
    · have a : ¬ decide (p.1 ≠ k) = true := by simp [e]
      have b : ¬ decide (q.1 ≠ k) = true := by simp [h1.symm.trans e]
      rw [if_neg a, if_neg b]; exact ih
    · have e' : ¬ q.1 = k := fun z => e (h1.trans z)
      have a : decide (p.1 ≠ k) = true := by simp [e]
      have b : decide (q.1 ≠ k) = true := by simp [e']
      rw [if_pos a, if_pos b]; exact .cons ⟨h1, h2⟩ ih
theorem KV.keys {kvs : List (κ × V)} {vs : List (κ × Value)} (r : KV kvs vs) : kvs.map (·.1) = vs.map (·.1) := by
  unfold KV at r
  induction r with
  | nil => rfl
  | cons h t ih => rw [List.map_cons, List.map_cons, ih, h.1]
theorem KV.length {kvs : List (κ × V)} {vs : List (κ × Value)} (r : KV kvs vs) : kvs.length = vs.length := Paired.length r
end
theorem kV_is {P : Program} {w : World} {k : Key} {u : Value} (r : RelV (kV k) u) : (mixKind P w).is k u = true := by
  cases k with
  | inl i => obtain ⟨t, e⟩ := (show ∃ t, u = Value.int i t from r); subst e; exact mixKind_int P w i t
  | inr x => obtain ⟨t, e⟩ := (show ∃ t, u = Value.str x t from r); subst e; exact mixKind_str P w x t
theorem items_are {P : Program} {w : World} : ∀ {ks : List Key} {us : List Value}, Vals (ks.map kV) us → ItemsAre (mixKind P w) ks us
  | [], _, r => by rw [List.map_nil] at r; cases r; exact .nil
  | k :: ks, _, r => by
    rw [List.map_cons] at r
    cases r with
    | cons h t => exact .cons (kV_is h) (items_are t)
abbrev KT (H : Hp) : List (List Key × V) → List (List Key × Addr × Value) → Prop := Paired fun p q => p.1 = q.1 ∧ H q.2.1 = some (.tup (p.1.map kV)) ∧ RelV p.2 q.2.2
theorem KT.val {H : Hp} {kvs : List (List Key × V)} {xs : List (List Key × Addr × Value)} (r : KT H kvs xs) (k : List Key) : RelO (valV kvs k) ((atKey xs k).map (·.2)) := by
  induction r with
  | nil => exact True.intro
  | @cons p q ps qs h t ih =>
    obtain ⟨h1, _, h2⟩ := h
    by_cases e : p.1 = k
    · have e' : q.1 = k := h1.symm.trans e
      have b : atKey (q :: qs) k = some q.2 := by simp [atKey, List.find?_cons, e']
      rw [valV_pos e, b]; exact h2
    · have e' : ¬ q.1 = k := fun z => e (h1.trans z)
      have b : atKey (q :: qs) k = atKey qs k := by simp [atKey, List.find?_cons, e']
      rw [valV_neg e, b]; exact ih
theorem KT.repl {H : Hp} {kvs : List (List Key × V)} {xs : List (List Key × Addr × Value)} (r : KT H kvs xs) (k : List Key) {y : V} {u : Value} (ry : RelV y u) :
    KT H (kvs.map fun kv => if kv.1 = k then (kv.1, y) else kv) (xs.map (putAt k u)) := by
  induction r with
  | nil => exact .nil
  | @cons p q ps qs h t ih =>
    rw [List.map_cons, List.map_cons]
    refine .cons ?_ ih
    obtain ⟨h1, h2, h3⟩ := h
    unfold putAt
    by_cases e : p.1 = k
    · rw [if_pos e, if_pos (h1.symm.trans e)]; exact ⟨h1, h2, ry⟩
    · rw [if_neg e, if_neg (fun z => e (h1.trans z))]; exact ⟨h1, h2, h3⟩
theorem KT.put {H : Hp} {kvs : List (List Key × V)} {xs : List (List Key × Addr × Value)} (r : KT H kvs xs) (k : List Key) {b : Addr} {y : V} {u : Value} (hb : H b = some (.tup (k.map kV))) (ry : RelV y u) :
    KT H (putK kvs k y) (storedH xs k b u) := by
  have e : (kvs.any fun kv => decide (kv.1 = k)) = (atKey xs k).isSome := by
    rw [valV_any, (r.val k).isSome_eq, Option.isSome_map]
  unfold putK storedH
  rw [e]
  by_cases q : (atKey xs k).isSome = true
  · rw [if_pos q, if_pos q]; exact r.repl k ry
  · rw [if_neg q, if_neg q]; exact Paired.snoc r ⟨rfl, hb, ry⟩
theorem KT.keeps {H H' : Hp} {kvs : List (List Key × V)} {xs : List (List Key × Addr × Value)} (r : KT H kvs xs) (ht : ∀ b ys, H b = some (.tup ys) → H' b = some (.tup ys)) : KT H' kvs xs :=
  Paired.mapP r fun _ _ z => ⟨z.1, ht _ _ z.2.1, z.2.2⟩
section
variable {P : Program} {w : World} {H : Hp} {h : Heap} {a : Addr}
theorem rd_of {u : HO} (ok : HOk P w H h) (e : Rd H a u) : ObjOk P w H h a u := e.ok ok
theorem dk_rd {kvs : List (Key × V)} (ok : HOk P w H h) (e : Rd H a (.dK kvs)) : kvs.length ≤ sizeLine ∧ (a == sysModules) = false ∧ ∃ vs, KV kvs vs ∧ h.DictOf (mixKind P w) a vs :=
  show ObjOk P w H h a (.dK kvs) from rd_of ok e
theorem dk_of {kvs : List (Key × V)} (ok : HOk P w H h) (e : H a = some (.dK kvs)) : kvs.length ≤ sizeLine ∧ (a == sysModules) = false ∧ ∃ vs, KV kvs vs ∧ h.DictOf (mixKind P w) a vs := dk_rd ok (.inl e)
theorem key_of {ks : List Key} (ok : HOk P w H h) (e : H a = some (.tup (ks.map kV))) : (tupleKind (mixKind P w)).is h ks a := by
  obtain ⟨_, its, r, o, h1, h2, n, h3⟩ := (show ObjOk P w H h a (.tup (ks.map kV)) from ok a _ e)
  exact ⟨o, its.toArray, n, h1, h2, h3, by simpa using items_are r⟩
theorem dt_rd {kvs : List (List Key × V)} (ok : HOk P w H h) (e : Rd H a (.dT kvs)) : kvs.length ≤ sizeLine ∧ (a == sysModules) = false ∧
    ∃ xs, KT H kvs xs ∧ h.DictOfH (tupleKind (mixKind P w)) a xs := by
  obtain ⟨z, y, xs, r, o, es, ep, h1, h2, h3, h4, h5⟩ := (show ObjOk P w H h a (.dT kvs) from rd_of ok e)
  refine ⟨z, y, xs, r, o, es, ep, h1, h2, h3, h4, fun x hx => ?_, h5⟩
  have all : ∀ {l : List (List Key × V)} {m : List (List Key × Addr × Value)}, KT H l m → ∀ x ∈ m, (tupleKind (mixKind P w)).is h x.1 x.2.1 := by
    intro l m q
    induction q with
    | nil => intro x hx; exact nomatch hx
    | @cons p q ps qs hq t ih =>
      intro x hx
      rcases List.mem_cons.mp hx with e | hx
      · subst e
        exact key_of ok (by rw [← hq.1]; exact hq.2.1)
      · exact ih x hx
  exact all r x hx
theorem dt_of {kvs : List (List Key × V)} (ok : HOk P w H h) (e : H a = some (.dT kvs)) : kvs.length ≤ sizeLine ∧ (a == sysModules) = false ∧
    ∃ xs, KT H kvs xs ∧ h.DictOfH (tupleKind (mixKind P w)) a xs := dt_rd ok (.inl e)
end
def DGet (H : Hp) (a : Addr) (y : V) (r : Option V) : Prop :=
  (∃ kvs k, Rd H a (.dK kvs) ∧ y = kV k ∧ r = valV kvs k) ∨ ∃ kvs k b, Rd H a (.dT kvs) ∧ y = .ref b ∧ H b = some (.tup (k.map kV)) ∧ r = valV kvs k
def DPut (H : Hp) (a : Addr) (y v : V) (H' : Hp) : Prop :=
  (∃ kvs k, H a = some (.dK kvs) ∧ y = kV k ∧ kvs.length < sizeLine ∧ H' = upd H a (.dK (putK kvs k v))) ∨
  ∃ kvs k b, H a = some (.dT kvs) ∧ y = .ref b ∧ H b = some (.tup (k.map kV)) ∧ kvs.length < sizeLine ∧ H' = upd H a (.dT (putK kvs k v))
theorem DGet.k {H : Hp} {a : Addr} {kvs : List (Key × V)} {k : Key} (e : H a = some (.dK kvs)) : DGet H a (kV k) (valV kvs k) := .inl ⟨kvs, k, .inl e, rfl, rfl⟩
theorem DGet.t {H : Hp} {a b : Addr} {kvs : List (List Key × V)} {k : List Key} (e : H a = some (.dT kvs)) (eb : H b = some (.tup (k.map kV))) : DGet H a (.ref b) (valV kvs k) := .inr ⟨kvs, k, b, .inl e, rfl, eb, rfl⟩
theorem DPut.k {H : Hp} {a : Addr} {kvs : List (Key × V)} {k : Key} {v : V} (e : H a = some (.dK kvs)) (hl : kvs.length < sizeLine) : DPut H a (kV k) v (upd H a (.dK (putK kvs k v))) := .inl ⟨kvs, k, e, rfl, hl, rfl⟩
theorem DPut.t {H : Hp} {a b : Addr} {kvs : List (List Key × V)} {k : List Key} {v : V} (e : H a = some (.dT kvs)) (eb : H b = some (.tup (k.map kV))) (hl : kvs.length < sizeLine) :
    DPut H a (.ref b) v (upd H a (.dT (putK kvs k v))) := .inr ⟨kvs, k, b, e, rfl, eb, hl, rfl⟩
section
variable {X : Cx} {pins : List (Addr × Obj)} {σ : St} {H : Hp} {s : Shared} {a : Addr} {y v : V} {u r : Value} {o : Option V} {A : Around} {E : Value → Shared → Prop}
theorem Inv.big (I : Inv X pins σ H s) : sysModules < s.heap.objs.size := by
  have h : mainGlobals < s.heap.objs.size := (I.mod.glob.keeps I.bk).lt
  exact Nat.lt_trans (by decide) h
theorem d_getItem {Q : Value → Shared → Prop} (hu : A.units + 1 < cLine) (I : Inv X pins σ H s) (g : DGet H a y (some v)) (ry : RelV y u) (h : ∀ w' s', Inv X pins σ H s' → RelV v w' → Q w' s') :
    wpAny (model X.prog X.w) A (getItem (.ref a) u) Q E s := by
  rcases g with ⟨kvs, k, e, ey, l⟩ | ⟨kvs, k, b, e, ey, eb, l⟩
  · subst ey
    obtain ⟨z, hd, vs, rel, dd⟩ := dk_rd I.hok e
    obtain ⟨w', hw, rw'⟩ := RelO.some_of (v := v) (o := valueAt vs k) (by rw [l]; exact rel.val k)
    exact wpAny_getItem_of (kV_is ry) dd.mapOf hw (h w' _ (I.tok _) rw')
  · subst ey
    cases (show u = Value.ref b from ry)
    obtain ⟨z, hd, xs, rel, dd⟩ := dt_rd I.hok e
    obtain ⟨w', hw, rw'⟩ := RelO.some_of (v := v) (o := (atKey xs k).map (·.2)) (by rw [l]; exact rel.val k)
    obtain ⟨p, hp, hp2⟩ := Option.map_eq_some_iff.mp hw
    refine wpAny_getItem_heap (tupleKind_room_in1 hu) (key_of I.hok eb) dd hp ?_
    rw [hp2]
    exact h w' _ (I.tok _) rw'
theorem d_write {h' : Heap} {t' : Nat} {ob : HO} (I : Inv X pins σ H s) (mu : Mut (H a)) (hs : Heap.SameBut a s.heap h') (he : ∃ q, h'.get? a = some q) (new : ObjOk X.prog X.w (upd H a ob) h' a ob) :
    Inv X pins σ (upd H a ob) { s with heap := h', toks := t' } :=
  I.write (x := a) (e := a) mu (.inl rfl) (fun b q hb z => (hs.2 b hb).trans z) he new
theorem dk_new {P : Program} {w : World} {H' : Hp} {h' : Heap} {kvs : List (Key × V)} {vs : List (Key × Value)} (z : kvs.length ≤ sizeLine) (hd : (a == sysModules) = false) (rel : KV kvs vs) (dd : h'.DictOf (mixKind P w) a vs) :
    ObjOk P w H' h' a (.dK kvs) := ⟨z, hd, vs, rel, dd⟩
theorem d_setItem {H' : Hp} {Q : Unit → Shared → Prop} (hu : A.units + 1 < cLine) (I : Inv X pins σ H s) (g : DPut H a y v H') (ry : RelV y u) (rv : RelV v r) (h : ∀ s', Inv X pins σ H' s' → Q () s') :
    wpAny (model X.prog X.w) A (setItem (.ref a) u r) Q E s := by
  rcases g with ⟨kvs, k, e, ey, l, eH⟩ | ⟨kvs, k, b, e, ey, eb, l, eH⟩
  · subst ey eH
    obtain ⟨z, hd, vs, rel, dd⟩ := dk_of I.hok e
    have hz : vs.length ≤ sizeLine := by rw [← rel.length]; exact z
    have hl : (putK kvs k v).length ≤ sizeLine := by have := length_putK kvs k v; omega
    refine wpAny_setItem_pairs (hsz := hz) (kV_is ry) dd fun h' dd' hs => h _ ?_
    have he : ∃ q, h'.get? a = some q := let ⟨q, _, _, hq, _⟩ := dd'; ⟨q, hq⟩
    exact d_write I (by rw [e]; exact True.intro) hs he (dk_new hl hd (rel.put k rv) dd')
  · subst ey eH
    cases (show u = Value.ref b from ry)
    obtain ⟨z, hd, xs, rel, dd⟩ := dt_of I.hok e
    have hz : xs.length ≤ sizeLine := by rw [← Paired.length rel]; exact z
    have hl : (putK kvs k v).length ≤ sizeLine := by have := length_putK kvs k v; omega
    refine wpAny_setItem_heap (hsz := hz) (tupleKind_room_in1 hu) (key_of I.hok eb) dd fun h' dd' hs => h _ ?_
    obtain ⟨q, es, ep, hq, h2, h3, h4, _, h5⟩ := dd'
    refine d_write I (by rw [e]; exact True.intro) hs ⟨q, hq⟩ ⟨hl, hd, _, (rel.put k eb rv).keeps fun c ys ec => ?_, q, es, ep, hq, h2, h3, h4, h5⟩
    rw [upd_ne (ne_of ec e (fun z => nomatch z))]
    exact ec
end
section
variable {X : Cx} {pins : List (Addr × Obj)} {σ : St} {H : Hp} {s : Shared} {a : Addr} {kvs : List (Key × V)} {k : Key} {u : Value} {A : Around} {E : Value → Shared → Prop}
end
def NoSl (i : Expr) : Prop := ∀ ov iv, subscripted i false ov iv = operate [ov, iv] (getItem ov iv)
theorem subD_of {prog : Program} {w : World} {A : Around} {E : Value → Shared → Prop} {s : Shared} {env : Env} {value slice : Expr} {pos : Pos} {T id : String} {Q : Value → Shared → Prop}
    (hl : typeLookup (.type T) "__getitem__" = pure (some (.builtin id))) (hs : NoSl slice)
    (h : wpAny (model prog w) A (eval value env) (fun o s₁ => wpAny (model prog w) A (eval slice env) (fun i s₂ => s₂.TypeIs o T ∧ wpAny (model prog w) A (getItem o i) Q E s₂) E s₁) E s) :
    wpAny (model prog w) A (eval (.Subscript value slice pos) env) Q E s := by
  refine Subscript_ (wpAny_mono h (fun o s₁ h₁ => wpAny_mono h₁ (fun i s₂ h₂ => ?_) fun _ _ x => x) fun _ _ x => x)
  obtain ⟨hT, h₂⟩ := h₂
  unfold subscriptTail
  refine wpAny_bind ?_
  rw [getitemInPython_of_ne hT.not_modules]
  refine wpAny_bind (wpAny_specialOf hT hl ?_)
  have fin : wpAny (model prog w) A (subscripted slice false o i) (fun r s₃ => wpAny (model prog w) A (letTemporaryGo value o r >>= fun _ => pure r) Q E s₃) E s₂ := by
    rw [hs o i]
    exact wpAny_operating (wpAny_mono h₂ (fun r s₃ h₃ => wpAny_bind (wpAny_letTemporaryGo (wpAny_pure h₃))) fun _ _ x => x)
  first
    | exact wpAny_pure (wpAny_bind fin)
    | exact wpAny_bind (wpAny_pure (wpAny_bind fin))
    | exact wpAny_bind fin
theorem dict_typeIs {X : Cx} {pins : List (Addr × Obj)} {σ : St} {H : Hp} {s : Shared} {a : Addr} {y : V} {o : Option V} (I : Inv X pins σ H s) (g : DGet H a y o) : s.TypeIs (.ref a) "dict" := by
  rcases g with ⟨kvs, k, e, _, _⟩ | ⟨kvs, k, b, e, _, _, _⟩
  · obtain ⟨_, _, vs, _, dd⟩ := dk_rd I.hok e
    exact dd.typeIs
  · obtain ⟨_, _, xs, _, dd⟩ := dt_rd I.hok e
    exact dd.typeIs
def tDGet (td ty : TE) : TE := fun σ H Q => td σ H fun x H1 => ty σ H1 fun y H2 => ∃ a v, x = .ref a ∧ DGet H2 a y (some v) ∧ Q v H2
def sDPut (td ty tv : TE) : TS := fun D σ H => tv σ H fun v H1 => td σ H1 fun x H2 => ty σ H2 fun y H3 => ∃ a H4, x = .ref a ∧ DPut H3 a y v H4 ∧ D.nx σ H4
section
variable {X : Cx} {o i e value : Expr} {pos pos' tpos : Pos} {td ty tv : TE}
theorem pe_dget (hu : X.A.units + 1 < cLine) (ho : PE X o td) (hi : PE X i ty) (hs : NoSl i) : PE X (.Subscript o i pos) (tDGet td ty) := by
  intro pins s σ H Q I h
  refine subD_of PySem.F.slot_dict_getitem.lookup hs (thn (ho pins s σ H _ I h) fun u s1 ⟨x, H1, I1, rx, q1⟩ => thn (hi pins s1 σ H1 _ I1 q1) fun iv s2 ⟨y, H2, I2, ry, a, v, ex, g, q2⟩ => ?_)
  subst ex
  obtain rfl : u = Value.ref a := rx
  exact ⟨dict_typeIs I2 g, d_getItem hu I2 g ry fun w' s3 I3 rw' => ⟨v, H2, I3, rw', q2⟩⟩
theorem ps_dput (hu : X.A.units + 1 < cLine) (ho : PE X o td) (hi : PE X i ty) (hv : PE X value tv) (hs : swapsWith value (some (.Subscript o i pos')) pos.line X.env = pure false) :
    PS X (.Assign [.Subscript o i pos'] value pos) (sDPut td ty tv) := by
  intro pins s σ H D I h
  refine wpAny_Assign_Subscript (thn (hv pins s σ H _ I h) fun r s1 ⟨v, H1, I1, rv, q1⟩ => thn (ho pins s1 σ H1 _ I1 q1) fun u s2 ⟨x, H2, I2, rx, q2⟩ => thn (hi pins s2 σ H2 _ I2 q2) fun iv s3 ⟨y, H3, I3, ry, a, H4, ex, g, q3⟩ => ?_) hs
  subst ex
  obtain rfl : u = Value.ref a := rx
  exact d_setItem hu I3 g ry rv fun s4 I4 => ⟨σ, H4, I4, q3⟩
end
theorem dk_empty {P : Program} {w : World} {H : Hp} (h : Heap) (hb : sysModules < h.objs.size) : ObjOk P w H (h.push { cls := .type "dict", data := .dict #[] }) h.objs.size (.dK []) :=
  ⟨Nat.zero_le _, beq_eq_false_iff_ne.mpr (Ne.symm (Nat.ne_of_lt hb)), [], .nil, Heap.DictOf.new h⟩
def tDNewK : TE := fun _ H Q => ∀ p, H p = none → Q (.ref p) (upd H p (.dK []))
section
variable {X : Cx} {pos : Pos}
theorem pe_dnewK : PE X (.Dict [] [] pos) tDNewK := fun pins s σ H Q I h =>
  wpAny_Dict_empty ⟨.ref s.heap.objs.size, _, I.laid (a := s.heap.objs.size) (o := .dK []) (t' := s.toks) (fun _ _ q => Heap.get?_push_of_some _ q) (Nat.le_refl _) (dk_empty s.heap I.big), rfl, h _ (I.hok.fresh (Nat.le_refl _))⟩
end
structure M1 (X : Cx) (o : Expr) (m : Str) (apos : Pos) (e : Expr) (cpos : Pos) : Prop where
  base : attributeBase o m X.env (eval o X.env) = eval o X.env
  few : ((backTo cpos (starEach [e] X.env)).all (fun x => !x.1) && (backToKw cpos (keywordEach [] X.env)).all (fun x => x.1.isSome)
    && decide (([e] : List Expr).length + ([] : List Keyword).length + (if ([] : List Keyword).isEmpty then 0 else 1) < 30)) = true
  line : (apos.endLine == cpos.line) = true
  trees : backTo cpos (starEach [e] X.env) = [(false, eval e X.env)]
structure M2 (X : Cx) (o : Expr) (m : Str) (apos : Pos) (e f : Expr) (cpos : Pos) : Prop where
  base : attributeBase o m X.env (eval o X.env) = eval o X.env
  few : ((backTo cpos (starEach [e, f] X.env)).all (fun x => !x.1) && (backToKw cpos (keywordEach [] X.env)).all (fun x => x.1.isSome)
    && decide (([e, f] : List Expr).length + ([] : List Keyword).length + (if ([] : List Keyword).isEmpty then 0 else 1) < 30)) = true
  line : (apos.endLine == cpos.line) = true
  trees : backTo cpos (starEach [e, f] X.env) = [(false, eval e X.env), (false, eval f X.env)]
def IsD (H : Hp) (a : Addr) : Prop := (∃ kvs, Rd H a (.dK kvs)) ∨ ∃ kvs, Rd H a (.dT kvs)
theorem isD_at {X : Cx} {pins : List (Addr × Obj)} {σ : St} {H : Hp} {s : Shared} {a : Addr} (I : Inv X pins σ H s) (d : IsD H a) :
    s.TypeIs (.ref a) "dict" ∧ (∀ b, Value.ref a = .ref b → ∃ ob, s.heap.get? b = some ob ∧ ob.dict = none) ∧ (a == sysModules) = false := by
  rcases d with ⟨kvs, e⟩ | ⟨kvs, e⟩
  · obtain ⟨_, hd, vs, _, dd⟩ := dk_rd I.hok e
    refine ⟨dd.typeIs, fun b q => ?_, hd⟩
    cases q
    obtain ⟨ob, _, _, h1, h2, _⟩ := dd
    exact ⟨ob, h1, h2.2.1⟩
  · obtain ⟨_, hd, xs, _, dd⟩ := dt_rd I.hok e
    refine ⟨dd.typeIs, fun b q => ?_, hd⟩
    cases q
    obtain ⟨ob, _, _, h1, h2, _⟩ := dd
    exact ⟨ob, h1, h2.2.1⟩
section
variable {X : Cx} {pins : List (Addr × Obj)} {σ : St} {H : Hp} {s : Shared} {a : Addr} {y d : V} {u r : Value} {o : Option V} {A : Around} {E : Value → Shared → Prop}
end
section
variable {X : Cx} {o e f : Expr} {apos cpos : Pos} {td ty tx : TE}
end
section
variable {X : Cx} {pins : List (Addr × Obj)} {σ : St} {H : Hp} {s : Shared} {a : Addr} {kvs : List (Key × V)} {A : Around} {E : Value → Shared → Prop}
theorem d_copyOf {Q : Value → Shared → Prop} (I : Inv X pins σ H s) (e : Rd H a (.dK kvs)) (h : ∀ p s', H p = none → Inv X pins σ (upd H p (.dK kvs)) s' → Q (.ref p) s') : wpAny (model X.prog X.w) A (call (.type "dict") [.ref a]) Q E s := by
  obtain ⟨z, hd, vs, rel, dd⟩ := dk_rd I.hok e
  refine kt_call_dict hd dd (by rw [← rel.length]; exact z) fun h' dd' hs => ?_
  refine h _ _ (I.hok.fresh (Nat.le_refl _)) (I.laid (a := s.heap.objs.size) (o := .dK kvs) (t' := s.toks) (fun b q hq => ?_) (Nat.le_refl _) (dk_new z (beq_eq_false_iff_ne.mpr (Ne.symm (Nat.ne_of_lt I.big))) rel dd'))
  exact (hs.2 b (Nat.ne_of_lt (Heap.lt_size hq))).trans (Heap.get?_push_of_some _ hq)
end
section
variable {X : Cx} {pins : List (Addr × Obj)} {σ : St} {H : Hp} {s : Shared} {a : Addr} {y : V} {u : Value} {A : Around} {E : Value → Shared → Prop}
end
end L2
namespace HT
open PySem PyProof.Rows
section
open PySem.SeqAt
open PySem.AutoSeq1 (wpAny_loadPart')
open PySem.MeetsSeq PySem.MeetsSeq2 PySem.MeetsSeq3
end
section
variable {prog : Program} {w : World} {A : Around} {E : Value → Shared → Prop} {s : Shared}
end
end HT
namespace L2
open PySem PySem.Spec PyProof.Rows
abbrev TO := St → Hp → (Option Int → Hp → Prop) → Prop
def tNoPart : TO := fun _ H Q => Q none H
def tPart (t : TE) : TO := fun σ H Q => t σ H fun x H1 => ∃ i, x = .int i ∧ Q (some i) H1
section
variable {X : Cx} {e : Expr} {te : TE} {lo hi : Option Expr} {tl th : TO} {pos p2 : Pos}
def SlR (X : Cx) (r : V → Option Int → Option Int → Hp → VK → Prop) : Prop :=
  ∀ (pins : List (Addr × Obj)) (s : Shared) (σ : St) (H : Hp) (x : V) (v vl vu : Value) (lo hi : Option Int) (sl : Addr) (Q : VK), Inv X pins σ H s → RelV x v → s.heap.IsSliceOf sl vl vu .none → IsPart vl lo → IsPart vu hi → r x lo hi H Q →
    ∃ T id, typeLookup (.type T) "__getitem__" = pure (some (.builtin id)) ∧ s.TypeIs v T ∧ wpAny (model X.prog X.w) X.A (getItem v (.ref sl)) (EP X pins σ Q) X.xe s
theorem SlR.or {r r' : V → Option Int → Option Int → Hp → VK → Prop} (h : SlR X r) (h' : SlR X r') : SlR X (fun x lo hi H Q => r x lo hi H Q ∨ r' x lo hi H Q) := by
  intro pins s σ H x v vl vu lo hi sl Q I rx hs pl pu q
  rcases q with q | q
  · exact h pins s σ H x v vl vu lo hi sl Q I rx hs pl pu q
  · exact h' pins s σ H x v vl vu lo hi sl Q I rx hs pl pu q
def tSl (r : V → Option Int → Option Int → Hp → VK → Prop) (te : TE) (tl th : TO) : TE := fun σ H Q => te σ H fun x H1 => tl σ H1 fun l H2 => th σ H2 fun u H3 => r x l u H3 Q
end
end L2
namespace L2
open PySem PySem.Spec PyProof.Rows
def ixN (n : Nat) (i : Int) : Option Nat := if 0 ≤ i then (if i < n then some i.toNat else none) else if -(n : Int) ≤ i then some (i + n).toNat else none
def atI {α : Type} (xs : List α) (i : Int) : Option α := (ixN xs.length i).bind fun j => xs[j]?
theorem ixN_seq {n : Nat} {i : Int} {j : Nat} (h : ixN n i = some j) : seqIndex? i n = some j ∧ j < n ∧ -(n : Int) ≤ i ∧ i < n := by
  unfold ixN at h
  by_cases h0 : 0 ≤ i
  · rw [if_pos h0] at h
    by_cases h1 : i < n
    · rw [if_pos h1] at h
      have e : i.toNat = j := Option.some.inj h
      exact ⟨by rw [seqIndex_of h0 h1, e], by omega, by omega, h1⟩
    · rw [if_neg h1] at h; cases h
  · rw [if_neg h0] at h
    by_cases h1 : -(n : Int) ≤ i
    · rw [if_pos h1] at h
      have e : (i + n).toNat = j := Option.some.inj h
      exact ⟨by rw [seqIndex_neg (by omega) h1, e], by omega, h1, by omega⟩
    · rw [if_neg h1] at h; cases h
theorem atI_get {α : Type} {xs : List α} {i : Int} {v : α} (h : atI xs i = some v) : ∃ j, seqIndex? i xs.length = some j ∧ xs[j]? = some v ∧ j < xs.length ∧ -(xs.length : Int) ≤ i ∧ i < xs.length := by
  unfold atI at h
  cases e : ixN xs.length i with
  | none => rw [e] at h; cases h
  | some j =>
    rw [e] at h
    obtain ⟨h1, h2, h3, h4⟩ := ixN_seq e
    exact ⟨j, h1, h, h2, h3, h4⟩
theorem atI_nat {α : Type} {xs : List α} {j : Nat} {v : α} (h : xs[j]? = some v) : atI xs (j : Int) = some v := by
  have hj : j < xs.length := (List.getElem?_eq_some_iff.mp h).1
  have e : ixN xs.length (j : Int) = some j := by
    unfold ixN
    rw [if_pos (by omega), if_pos (by omega)]; simp
  unfold atI; rw [e]; exact h
def PlainIx (b : Expr) : Prop := ∀ o i, subscripted b false o i = operate [o, i] (getItem o i)
def IxR (X : Cx) (r : R2) : Prop :=
  ∀ (value slice : Expr) (pins : List (Addr × Obj)) (s : Shared) (σ : St) (H : Hp) (x y : V) (v u : Value) (Q : VK), Inv X pins σ H s → RelV x v → RelV y u → r x y H Q →
    subscripted slice false v u = operate [v, u] (getItem v u) → wpAny (model X.prog X.w) X.A (subscriptTail value slice v u) (EP X pins σ Q) X.xe s
def MtR (X : Cx) (id : String) (r : V → List V → Hp → VK → Prop) : Prop :=
  ∀ (pins : List (Addr × Obj)) (s : Shared) (σ : St) (H : Hp) (x : V) (xs : List V) (v : Value) (us : List Value) (Q : VK), Inv X pins σ H s → RelV x v → Vals xs us → r x xs H Q →
    wpAny (model X.prog X.w) X.A (call (.builtin id) (v :: us)) (EP X pins σ Q) X.xe s
section
variable {X : Cx} {a b : Expr} {ta tb : TE} {pos : Pos}
theorem IxR.or {r r' : R2} (h : IxR X r) (h' : IxR X r') : IxR X (fun x y H Q => r x y H Q ∨ r' x y H Q) := by
  intro value slice pins s σ H x y v u Q I rx ry q hs
  rcases q with q | q
  · exact h value slice pins s σ H x y v u Q I rx ry q hs
  · exact h' value slice pins s σ H x y v u Q I rx ry q hs
theorem MtR.or {id : String} {r r' : V → List V → Hp → VK → Prop} (h : MtR X id r) (h' : MtR X id r') : MtR X id (fun x xs H Q => r x xs H Q ∨ r' x xs H Q) := by
  intro pins s σ H x xs v us Q I rx rs q
  rcases q with q | q
  · exact h pins s σ H x xs v us Q I rx rs q
  · exact h' pins s σ H x xs v us Q I rx rs q
theorem pe_ix {r : R2} (hr : IxR X r) (ha : PE X a ta) (hb : PE X b tb) (hs : PlainIx b) : PE X (.Subscript a b pos) (tOp r ta tb) := by
  intro pins s σ H Q I h
  exact Subscript_ (binT ha hb I h fun v u s2 x y H2 I2 rx ry q => hr a b pins s2 σ H2 x y v u Q I2 rx ry q (hs _ _))
def rIxL (K : PySem.W.Frag) : R2 := fun x y H Q => ∃ p xs i v, x = .ref p ∧ y = .int i ∧ SqL K H p xs ∧ atI xs i = some v ∧ Q v H
def rIxT (K : PySem.W.Frag) : R2 := fun x y H Q => ∃ p xs i v, x = .ref p ∧ y = .int i ∧ SqT K H p xs ∧ atI xs i = some v ∧ Q v H
def rIxS : R2 := fun x y H Q => ∃ z i c, x = .str z ∧ y = .int i ∧ z.length ≤ sizeLine ∧ atI z.cps.toList i = some c ∧ Q (.str ⟨#[c]⟩) H
theorem ix_list : IxR X (rIxL X.K) := by
  intro value slice pins s σ H x y v u Q I rx ry h hs
  obtain ⟨p, xs, i, z, rfl, rfl, hq, he, q⟩ := h
  cases rx
  obtain ⟨t, rfl⟩ := ry
  obtain ⟨its, r, pl, hz⟩ := I.list hq
  obtain ⟨j, h1, h2, h3, h4, h5⟩ := atI_get he
  obtain ⟨w, ew, rw'⟩ := r.get h2
  have hl := r.length
  have hn := line63
  have fin : EP X pins σ Q w s := ⟨z, H, I, rw', q⟩
  by_cases h0 : 0 ≤ i
  · have hj : i.toNat = j := by
      rw [seqIndex_of h0 h5] at h1
      exact Option.some.inj h1
    exact item_listR pl.isList h0 (by omega) (by rw [hj]; simpa using ew) fin hs
  · have hj : (i + (its.toArray.size : Int)).toNat = j := by
      rw [seqIndex_neg (by omega) h4] at h1
      rw [List.size_toArray, ← hl]
      exact Option.some.inj h1
    exact subscriptTail_builtinR (x := w) pl.isList.typeIs slot_list_getitem.lookup
      (wpAny_getItem_list_neg (Q := fun r s' => r = w ∧ EP X pins σ Q r s') pl.isList (by omega) (by rw [List.size_toArray] <;> omega) (by omega) (by rw [hj]; simpa using ew) ⟨rfl, fin⟩) hs
theorem ix_tup : IxR X (rIxT X.K) := by
  intro value slice pins s σ H x y v u Q I rx ry h hs
  obtain ⟨p, xs, i, z, rfl, rfl, hq, he, q⟩ := h
  cases rx
  obtain ⟨t, rfl⟩ := ry
  obtain ⟨its, r, pl, hz⟩ := I.tuple hq
  obtain ⟨j, h1, h2, h3, h4, h5⟩ := atI_get he
  obtain ⟨w, ew, rw'⟩ := r.get h2
  have hl := r.length
  have hn := line63
  have fin : EP X pins σ Q w s := ⟨z, H, I, rw', q⟩
  exact subscriptTail_builtinR (x := w) pl.typeIs slot_tuple_getitem.lookup
    (getItem_tuple (j := j) (Q := fun r s' => r = w ∧ EP X pins σ Q r s') pl (by omega) (by omega) (by rw [List.size_toArray, ← hl]; exact h1) (by simpa using ew) ⟨rfl, fin⟩) hs
theorem ix_str : IxR X rIxS := by
  intro value slice pins s σ H x y v u Q I rx ry h hs
  obtain ⟨z, i, c, rfl, rfl, hz, he, q⟩ := h
  obtain ⟨t, rfl⟩ := rx
  obtain ⟨t', rfl⟩ := ry
  obtain ⟨j, h1, h2, h3, h4, h5⟩ := atI_get he
  have hl : z.cps.toList.length = z.length := by simp [Str.length]
  rw [hl] at h1 h4 h5
  have hn := line63
  exact tail_any (typeIs_str s z t) slot_str_getitem.lookup (getItem_str (c := c) (by
    have e1 : decide (i < -(2 ^ 63 : Int)) = false := decide_eq_false (by omega)
    have e2 : decide (i ≥ 2 ^ 63) = false := decide_eq_false (by omega)
    rw [e1, e2, Bool.or_false]) (by rw [h1]; simpa using h2) ⟨.str ⟨#[c]⟩, H, I.tok _, ⟨_, rfl⟩, q⟩) hs
theorem mapSeq_set (its : List Value) (n j : Nat) (u : Value) : Obj.mapSeq (·.setIfInBounds j u) { cls := .type "list", data := .seq its.toArray n } = { cls := .type "list", data := .seq (its.set j u).toArray n } := by
  simp [Obj.mapSeq]
theorem Inv.lst {pins : List (Addr × Obj)} {σ : St} {H : Hp} {s : Shared} {p : Addr} {xs : List V} (I : Inv X pins σ H s) (h : H p = some (.lst xs)) :
    ∃ (its : List Value) (n : Nat), Vals xs its ∧ s.heap.get? p = some { cls := .type "list", data := .seq its.toArray n } ∧ xs.length ≤ sizeLine := by
  obtain ⟨z, its, n, r, e⟩ := I.hok p _ h
  exact ⟨its, n, r, e, z⟩
theorem Inv.lstUpd {pins : List (Addr × Obj)} {σ : St} {H : Hp} {s : Shared} {p : Addr} {xs ys : List V} {its its' : List Value} {n n' : Nat} {f : Obj → Obj} (I : Inv X pins σ H s) (h : H p = some (.lst xs))
    (ho : s.heap.get? p = some { cls := .type "list", data := .seq its.toArray n }) (hf : f { cls := .type "list", data := .seq its.toArray n } = { cls := .type "list", data := .seq its'.toArray n' }) (r : Vals ys its') (hz : ys.length ≤ sizeLine) (t : Nat) :
    Inv X pins σ (upd H p (.lst ys)) { s with heap := s.heap.update p f, toks := t } := by
  have e : (s.heap.update p f).get? p = some { cls := .type "list", data := .seq its'.toArray n' } := by
    rw [Heap.get?_update_self f ho (by rw [hf] <;> rfl), hf]
  refine I.write (x := p) (e := p) (by rw [h]; trivial) (.inl rfl) (fun b u hb q => (Heap.get?_update_other _ _ (Ne.symm hb)).trans q) ⟨_, e⟩ ?_
  exact ⟨hz, its', n', r, e⟩
def rSetL : V → V → V → Hp → (Hp → Prop) → Prop := fun o i v H Q => ∃ p xs k j, o = .ref p ∧ i = .int k ∧ H p = some (.lst xs) ∧ ixN xs.length k = some j ∧ Q (upd H p (.lst (xs.set j v)))
theorem set_list : PSet X rSetL := by
  intro pins s σ H o i v ov iv u Q I ro ri rv h
  obtain ⟨p, xs, k, j, rfl, rfl, hp, hj, q⟩ := h
  cases ro
  obtain ⟨t, rfl⟩ := ri
  obtain ⟨its, n, r, ho, hz⟩ := I.lst hp
  obtain ⟨h1, h2, h3, h4⟩ := ixN_seq hj
  have hl := r.length
  have hn := line63
  have I' : Inv X pins σ (upd H p (.lst (xs.set j v))) { s with heap := s.heap.update p (Obj.mapSeq (·.setIfInBounds j u)) } :=
    I.lstUpd hp ho (mapSeq_set its n j u) (r.set rv j) (by rw [List.length_set]; exact hz) s.toks
  by_cases h0 : 0 ≤ k
  · have hk : k.toNat = j := by
      rw [seqIndex_of h0 h4] at h1
      exact Option.some.inj h1
    exact PySem.W.ki_setAt ho h0 (by omega) (by rw [List.size_toArray, ← hl]; exact h4) (by rw [hk]; exact ⟨_, I', q⟩)
  · have hk : (k + (its.toArray.size : Int)).toNat = j := by
      rw [seqIndex_neg (by omega) h3] at h1
      rw [List.size_toArray, ← hl]
      exact Option.some.inj h1
    exact PySem.W.ki_setBack ho (by omega) (by rw [List.size_toArray, ← hl]; exact h3) (by omega) (by rw [hk]; exact ⟨_, I', q⟩)
def flatV : V → Bool
  | .non => true
  | .bl _ => true
  | .int _ => true
  | .str _ => true
  | _ => false
def eqV : V → V → Bool
  | .non, .non => true
  | .bl a, .bl b => a == b
  | .bl a, .int b => (if a then 1 else 0) == b
  | .int a, .bl b => a == (if b then 1 else 0)
  | .int a, .int b => a == b
  | .str a, .str b => a == b
  | _, _ => false
theorem eqAt_V {A : Around} {s : Shared} {y x : V} {u v : Value} (ry : RelV y u) (rx : RelV x v) (fy : flatV y = true) (fx : flatV x = true) : SeqAt.EqAt A s u v (eqV y x) := by
  cases y with
  | non =>
    cases ry
    cases x with
    | non => cases rx; exact SeqAt.EqAt.same _
    | bl b => cases rx; exact SeqAt.EqAt.none_bool b
    | int b => obtain ⟨t, rfl⟩ := rx; exact SeqAt.EqAt.none_int b t
    | str b => obtain ⟨t, rfl⟩ := rx; exact SeqAt.EqAt.none_str b t
    | _ => exact absurd (show false = true from fx) Bool.false_ne_true
  | bl a =>
    cases ry
    cases x with
    | non => cases rx; exact SeqAt.EqAt.bool_none a
    | bl b => cases rx; exact SeqAt.EqAt.bool_bool a b
    | int b => obtain ⟨t, rfl⟩ := rx; exact SeqAt.EqAt.bool_int a b t
    | str b => obtain ⟨t, rfl⟩ := rx; exact SeqAt.EqAt.bool_str a b t
    | _ => exact absurd (show false = true from fx) Bool.false_ne_true
  | int a =>
    obtain ⟨t', rfl⟩ := ry
    cases x with
    | non => cases rx; exact SeqAt.EqAt.int_none a t'
    | bl b => cases rx; exact SeqAt.EqAt.int_bool a t' b
    | int b => obtain ⟨t, rfl⟩ := rx; exact SeqAt.EqAt.int_int a t' b t
    | str b => obtain ⟨t, rfl⟩ := rx; exact SeqAt.EqAt.int_str a t' b t
    | _ => exact absurd (show false = true from fx) Bool.false_ne_true
  | str a =>
    obtain ⟨t', rfl⟩ := ry
    cases x with
    | non => cases rx; exact SeqAt.EqAt.str_none a t'
    | bl b => cases rx; exact SeqAt.EqAt.str_bool a t' b
    | int b => obtain ⟨t, rfl⟩ := rx; exact SeqAt.EqAt.str_int a t' b t
    | str b => obtain ⟨t, rfl⟩ := rx; exact SeqAt.EqAt.str_str a t' b t
    | _ => exact absurd (show false = true from fx) Bool.false_ne_true
  | _ => exact absurd (show false = true from fy) Bool.false_ne_true
theorem call_len_seq : CallR X (.builtin "len") (fun xs H Q => ∃ p ys, xs = [.ref p] ∧ (SqL X.K H p ys ∨ SqT X.K H p ys) ∧ Q (.int ys.length) H) := by
  intro pins s σ H xs us Q I r h
  obtain ⟨p, ys, rfl, hq, q⟩ := h
  obtain ⟨u, rfl, rx⟩ := vals1 r
  cases rx
  have hn := line63
  rcases hq with hq | hq
  · obtain ⟨its, r', pl, hz⟩ := I.list hq
    have hlen := r'.length
    exact Calls.call_len_list pl.isList (by simp only [List.size_toArray] <;> omega) ⟨.int ys.length, H, I.tok _, ⟨s.toks + 1, by rw [List.size_toArray, hlen]⟩, q⟩
  · obtain ⟨its, r', pl, hz⟩ := I.tuple hq
    have hlen := r'.length
    exact len_tuple pl (by simp only [List.size_toArray] <;> omega) ⟨.int ys.length, H, I.tok _, ⟨s.toks + 1, by rw [List.size_toArray, hlen]⟩, q⟩
theorem call_len_str : CallR X (.builtin "len") (fun xs H Q => ∃ z, xs = [.str z] ∧ z.length ≤ sizeLine ∧ Q (.int z.length) H) := by
  intro pins s σ H xs us Q I r h
  obtain ⟨z, rfl, hz, q⟩ := h
  obtain ⟨u, rfl, t, rfl⟩ := vals1 r
  have hn := line63
  exact len_str (by omega) ⟨.int z.length, H, I.tok _, ⟨_, rfl⟩, q⟩
theorem CallR.or {f : Value} {r r' : List V → Hp → VK → Prop} (h : CallR X f r) (h' : CallR X f r') : CallR X f (fun xs H Q => r xs H Q ∨ r' xs H Q) := by
  intro pins s σ H xs us Q I rs q
  rcases q with q | q
  · exact h pins s σ H xs us Q I rs q
  · exact h' pins s σ H xs us Q I rs q
theorem call_list_of : CallR X (.type "list") (fun xs H Q => ∃ p ys, xs = [.ref p] ∧ (SqL X.K H p ys ∨ SqT X.K H p ys) ∧ ∀ l, H l = none → Q (.ref l) (upd H l (.lst ys))) := by
  intro pins s σ H xs us Q I r h
  obtain ⟨p, ys, rfl, hq, q⟩ := h
  obtain ⟨u, rfl, rx⟩ := vals1 r
  cases rx
  have fin : ∀ (its : List Value), Vals ys its → ys.length ≤ sizeLine → ∀ (h' : Heap) (c' : Nat), (∀ b o', s.heap.get? b = some o' → h'.get? b = some o') →
      h'.get? s.heap.objs.size = some { cls := .type "list", dict := none, data := .seq its.toArray c', slots := #[] } → EP X pins σ Q (.ref s.heap.objs.size) { s with heap := h' } := fun its r' hz h' c' kp e =>
    ⟨.ref s.heap.objs.size, _, I.laid (t' := s.toks) kp (Nat.le_refl _) (show ObjOk X.prog X.w _ h' _ (.lst ys) from ⟨hz, its, c', r', e⟩), rfl, q _ (I.hok.fresh (Nat.le_refl _))⟩
  rcases hq with hq | hq
  · obtain ⟨its, r', pl, hz⟩ := I.list hq
    have hlen := r'.length
    obtain ⟨o, ho, hc, n, hd⟩ := pl.isList
    exact call_list_seq p (.inl rfl) ho hc hd (fun h' c' kp e => fin its r' hz h' c' kp e) (by simp only [List.size_toArray] <;> omega)
  · obtain ⟨its, r', pl, hz⟩ := I.tuple hq
    have hlen := r'.length
    obtain ⟨o, ho, hc, n, hd⟩ := pl
    exact call_list_seq p (.inr rfl) ho hc hd (fun h' c' kp e => fin its r' hz h' c' kp e) (by simp only [List.size_toArray] <;> omega)
theorem call_tuple_of : CallR X (.type "tuple") (fun xs H Q => ∃ p ys, xs = [.ref p] ∧ ((SqL X.K H p ys ∧ ∀ l, H l = none → Q (.ref l) (upd H l (.tup ys))) ∨ (SqT X.K H p ys ∧ Q (.ref p) H))) := by
  intro pins s σ H xs us Q I r h
  obtain ⟨p, ys, rfl, h⟩ := h
  obtain ⟨u, rfl, rx⟩ := vals1 r
  cases rx
  rcases h with ⟨hq, q⟩ | ⟨hq, q⟩
  · obtain ⟨its, r', pl, hz⟩ := I.list hq
    have hlen := r'.length
    refine call_tuple_list pl.isList (fun h' kp => ?_) (by simp only [List.size_toArray] <;> omega)
    have I1 : Inv X pins σ H { s with heap := h' } := I.kept (t' := s.toks) kp
    have I2 : Inv X pins σ (upd H h'.objs.size (.tup ys)) { s with heap := h'.push { cls := .type "tuple", data := .seq its.toArray } } :=
      I1.laid (t' := s.toks) (fun b o e => Heap.get?_push_of_some _ e) (Nat.le_refl _) (show ObjOk X.prog X.w _ _ _ (.tup ys) from ⟨hz, its, r', IsTup.new _ _⟩)
    exact ⟨.ref h'.objs.size, _, I2, rfl, q _ (I1.hok.fresh (Nat.le_refl _))⟩
  · obtain ⟨its, r', pl, hz⟩ := I.tuple hq
    exact call_tuple_same pl ⟨.ref p, H, I, rfl, q⟩
def tyV (K : PySem.W.Frag) (T : String) (x : V) (H : Hp) : Prop := match x with
  | .str _ => T = "str"
  | .int _ => T = "int"
  | .ref p => (T = "list" ∧ ∃ xs, SqL K H p xs) ∨ (T = "tuple" ∧ ∃ o, K.lookup p = some o ∧ o.cls = .type "tuple" ∧ o.dict = none) ∨
      (T = "dict" ∧ ((∃ kvs, H p = some (.dK kvs)) ∨ ∃ kvs, H p = some (.dT kvs))) ∨ (T = "set" ∧ ∃ S n, H p = some (.set S n))
  | _ => False
theorem tyV_is {pins : List (Addr × Obj)} {σ : St} {H : Hp} {s : Shared} {T : String} {x : V} {v : Value} (I : Inv X pins σ H s) (r : RelV x v) (ty : tyV X.K T x H) :
    s.TypeIs v T ∧ ∀ a, v = .ref a → ∃ ob, s.heap.get? a = some ob ∧ ob.dict = none := by
  cases x with
  | str z =>
    obtain ⟨t, rfl⟩ := r
    cases (show T = "str" from ty)
    exact ⟨typeIs_str s z t, fun _ e => nomatch e⟩
  | int i =>
    obtain ⟨t, rfl⟩ := r
    cases (show T = "int" from ty)
    exact ⟨typeIs_int s i t, fun _ e => nomatch e⟩
  | ref p =>
    cases r
    rcases ty with ⟨rfl, xs, hq⟩ | ⟨rfl, o, hk, hc, hd⟩ | ⟨rfl, hk⟩ | ⟨rfl, S, n, hk⟩
    · obtain ⟨its, _, pl, _⟩ := I.list hq
      refine ⟨pl.isList.typeIs, fun a e => ?_⟩
      cases e
      obtain ⟨o, n, e, c, hd, _⟩ := pl
      exact ⟨o, e, hd⟩
    · refine ⟨⟨o, I.kIn p o hk, hc⟩, fun a e => ?_⟩
      cases e
      exact ⟨o, I.kIn _ o hk, hd⟩
    · have z : ∃ o, s.heap.get? p = some o ∧ o.ExactDict := by
        rcases hk with ⟨kvs, hk⟩ | ⟨kvs, hk⟩
        · obtain ⟨_, _, _, _, o, _, _, e, ex, _⟩ := I.hok p _ hk
          exact ⟨o, e, ex⟩
        · obtain ⟨_, _, _, _, o, _, _, e, ex, _⟩ := I.hok p _ hk
          exact ⟨o, e, ex⟩
      obtain ⟨o, e, ex⟩ := z
      refine ⟨⟨o, e, ex.1⟩, fun a e2 => ?_⟩
      cases e2
      exact ⟨o, e, ex.2.1⟩
    · obtain ⟨o, _, _, _, e, ex, _⟩ := I.hok p _ hk
      refine ⟨⟨o, e, ex.1⟩, fun a e2 => ?_⟩
      cases e2
      exact ⟨o, e, ex.2.1⟩
  | _ => exact False.elim ty
def tBM0 (K : PySem.W.Frag) (T : String) (r : V → List V → Hp → VK → Prop) (to : TE) : TE := fun σ H Q => to σ H fun x H1 => tyV K T x H1 ∧ r x [] H1 Q
def tBM (K : PySem.W.Frag) (T : String) (r : V → List V → Hp → VK → Prop) (to : TE) (t : TA) : TE := fun σ H Q => to σ H fun x H1 => tyV K T x H1 ∧ t σ H1 fun xs H2 => r x xs H2 Q
variable {o e : Expr} {es : List Expr} {to : TE} {t : TA} {name : Str} {apos cpos : Pos} {T id : String} {r : V → List V → Hp → VK → Prop}
theorem pe_bm0 (pa : PlainAttrs T) (slot : Slot T name id) (hty : typeOf (.builtin id) = pure (.type "method_descriptor")) (hm : MtR X id r) (ho : PE X o to)
    (hbase : attributeBase o name X.env (eval o X.env) = eval o X.env := by rfl) (hline : (apos.endLine == cpos.line) = true := by rfl) : PE X (.Call (.Attribute o name apos) [] [] cpos) (tBM0 X.K T r to) := by
  intro pins s σ H Q I h
  refine wpAny_Call_method0_late hbase hline (thn (ho pins s σ H _ I h) fun v s1 ⟨x, H1, I1, r1, ty, q1⟩ => ?_)
  obtain ⟨h1, h2⟩ := tyV_is I1 r1 ty
  exact ⟨T, id, pa, slot, hty, h1, h2, Calls.callWith_builtin rfl (PySem.evalArgs_none (hm pins s1 σ H1 x [] v [] Q I1 r1 .nil q1))⟩
theorem pe_bm (pa : PlainAttrs T) (slot : Slot T name id) (hty : typeOf (.builtin id) = pure (.type "method_descriptor")) (hm : MtR X id r) (ho : PE X o to) (ha : PA X (e :: es) t)
    (hbase : attributeBase o name X.env (eval o X.env) = eval o X.env := by rfl)
    (hfew : ((backTo cpos (starEach (e :: es) X.env)).all (fun x => !x.1) && (backToKw cpos (keywordEach [] X.env)).all (fun x => x.1.isSome)
      && decide ((e :: es).length + ([] : List Keyword).length + (if ([] : List Keyword).isEmpty then 0 else 1) < 30)) = true := by rfl)
    (hline : (apos.endLine == cpos.line) = true := by rfl) (hs : starEach (e :: es) X.env = (false, eval e X.env) :: starEach es X.env := by rfl) (hplain : (backTo cpos (starEach es X.env)).any (·.1) = false := by rfl) :
    PE X (.Call (.Attribute o name apos) (e :: es) [] cpos) (tBM X.K T r to t) := by
  intro pins s σ H Q I h
  refine wpAny_Call_method_late hbase hfew hline rfl (thn (ho pins s σ H _ I h) fun v s1 ⟨x, H1, I1, r1, ty, q1⟩ => ?_)
  obtain ⟨h1, h2⟩ := tyV_is I1 r1 ty
  refine ⟨T, id, pa, slot, hty, h1, h2, ?_⟩
  have hA := ha cpos pins s1 σ H1 _ I1 q1
  rw [hs] at hA ⊢
  refine Calls.callWith_builtin (by show (false || (backTo cpos (starEach es X.env)).any (·.1)) = false; rw [hplain] <;> rfl) (Calls.evalArgs_plain ?_)
  exact thn hA fun us s2 ⟨vs, H2, I2, r2, q2⟩ => hm pins s2 σ H2 x vs v us Q I2 r1 r2 q2
end
end L2
namespace L2
open PySem PySem.Spec PyProof.Rows
def MtM (X : Cx) (id : String) (r : V → List V → Hp → VK → Prop) : Prop :=
  ∀ (pins : List (Addr × Obj)) (s : Shared) (σ : St) (H : Hp) (x : V) (xs : List V) (v : Value) (us : List Value) (Q : VK), Inv X pins σ H s → RelV x v → Vals xs us → r x xs H Q →
    wpAny (model X.prog X.w) X.A (call (.builtin id) (v :: us)) (EP X pins σ Q) X.xe s
theorem Vals.one : ∀ {x : V} {us : List Value}, Vals [x] us → ∃ u, us = [u] ∧ RelV x u
  | _, _, .cons r .nil => ⟨_, rfl, r⟩
theorem Vals.zero : ∀ {us : List Value}, Vals [] us → us = []
  | _, .nil => rfl
theorem Vals.reverse {xs : List V} {us : List Value} (h : Vals xs us) : Vals xs.reverse us.reverse := by
  induction h with
  | nil => exact .nil
  | cons r t ih => rw [List.reverse_cons, List.reverse_cons]; exact Vals.append ih (.cons r .nil)
theorem Vals.rep {xs : List V} {us : List Value} (h : Vals xs us) : ∀ k : Nat, Vals (List.replicate k xs).flatten (List.replicate k us).flatten
  | 0 => .nil
  | k + 1 => by
    rw [List.replicate_succ, List.replicate_succ, List.flatten_cons, List.flatten_cons]
    exact Vals.append h (Vals.rep h k)
theorem foldl_rep (its : List Value) : ∀ (k : Nat) (acc : List Value),
    List.foldl (fun x1 x2 => x1 ++ x2) acc.toArray (List.replicate k its.toArray) = (acc ++ (List.replicate k its).flatten).toArray
  | 0, acc => by simp
  | k + 1, acc => by
    have e : acc.toArray ++ its.toArray = (acc ++ its).toArray := by simp
    have e2 : (acc ++ its) ++ (List.replicate k its).flatten = acc ++ (List.replicate (k + 1) its).flatten := by
      rw [List.replicate_succ, List.flatten_cons, List.append_assoc]
    rw [← e2, ← foldl_rep its k (acc ++ its), ← e, List.replicate_succ, List.foldl_cons]
section
variable {X : Cx} {pins : List (Addr × Obj)} {σ : St} {H : Hp} {s : Shared} {l b : Addr} {xs ys zs : List V}
theorem Inv.lset {its its' : List Value} {n : Nat} {f : Array Value → Array Value} {t' : Nat} (I : Inv X pins σ H s) (hH : H l = some (.lst xs))
    (e : s.heap.get? l = some { cls := .type "list", data := .seq its.toArray n }) (hf : f its.toArray = its'.toArray) (hv : Vals ys its') (hz : ys.length ≤ sizeLine) :
    Inv X pins σ (upd H l (.lst ys)) { s with heap := s.heap.update l (Obj.mapSeq f), toks := t' } := by
  have q := PySem.IsL.update e f
  rw [hf] at q
  refine I.write (x := l) (e := l) (by rw [hH]; exact trivial) (.inl rfl) (fun b' u hb hu => (Heap.get?_update_other s.heap (Obj.mapSeq f) (Ne.symm hb)).trans hu) ⟨_, q⟩ ?_
  exact ⟨hz, its', _, hv, q⟩
theorem Inv.lnew {its : List Value} {t' : Nat} (I : Inv X pins σ H s) (hv : Vals ys its) (hz : ys.length ≤ sizeLine) :
    Inv X pins σ (upd H s.heap.objs.size (.lst ys)) { s with heap := s.heap.push { cls := .type "list", data := .seq its.toArray }, toks := t' } :=
  I.laid (fun _ _ q => Heap.get?_push_of_some _ q) (Nat.le_refl _) ⟨hz, its, 0, hv, Heap.get?_push_size _ rfl⟩
theorem Inv.fresh (I : Inv X pins σ H s) : H s.heap.objs.size = none := I.hok.fresh (Nat.le_refl _)
theorem Inv.lstM (I : Inv X pins σ H s) (hH : H l = some (.lst xs)) : xs.length ≤ sizeLine ∧ ∃ (its : List Value) (n : Nat), Vals xs its ∧ xs.length = its.length ∧ s.heap.get? l = some { cls := .type "list", data := .seq its.toArray n } := by
  obtain ⟨z, its, n, r, e⟩ := I.hok l _ hH
  exact ⟨z, its, n, r, r.length, e⟩
theorem notLongL {n : Nat} (h : n ≤ sizeLine) : Builtin.List.listTooLong n = false := by
  unfold Builtin.List.listTooLong
  exact decide_eq_false (by omega)
end
section
variable {X : Cx}
def rAppend : V → List V → Hp → VK → Prop := fun x vs H Q => ∃ l xs y, x = .ref l ∧ vs = [y] ∧ H l = some (.lst xs) ∧ xs.length < sizeLine ∧ Q .non (upd H l (.lst (xs ++ [y])))
theorem mt_append : MtM X "list.append" rAppend := by
  intro pins s σ H x vs v us Q I rx rv h
  obtain ⟨l, xs, y, rfl, rfl, hH, hz, q⟩ := h
  cases rx
  obtain ⟨u, rfl, ru⟩ := rv.one
  obtain ⟨z, its, n, r, hl, e⟩ := I.lstM hH
  refine call_meets F.slot_list_append ⟨_, e, rfl⟩ F.entry_list_append (F.args_list_append_2 _ _) (PySem.list_append l its.toArray n u (by rw [List.size_toArray]; omega)) ⟨e, ?_⟩
  refine ⟨.non, _, I.lset (its' := its ++ [u]) hH e (by simp) (r.append (.cons ru .nil)) ?_, rfl, q⟩
  rw [List.length_append, List.length_singleton]
  omega
def rClear : V → List V → Hp → VK → Prop := fun x vs H Q => ∃ l xs, x = .ref l ∧ vs = [] ∧ H l = some (.lst xs) ∧ Q .non (upd H l (.lst []))
theorem mt_clear : MtM X "list.clear" rClear := by
  intro pins s σ H x vs v us Q I rx rv h
  obtain ⟨l, xs, rfl, rfl, hH, q⟩ := h
  cases rx
  have hus := rv.zero
  subst hus
  obtain ⟨z, its, n, r, hl, e⟩ := I.lstM hH
  refine call_meets F.slot_list_clear ⟨_, e, rfl⟩ F.entry_list_clear (F.args_list_clear_1 _) (AutoSeq1.list_clear_list_0 l its.toArray n (by rw [List.size_toArray]; omega)) ⟨e, ?_⟩
  exact ⟨.non, _, I.lset (its' := []) (ys := []) hH e rfl .nil (Nat.zero_le _), rfl, q⟩
def rCat : R2 := fun x y H Q => ∃ l b xs zs, x = .ref l ∧ y = .ref b ∧ H l = some (.lst xs) ∧ H b = some (.lst zs) ∧ xs.length + zs.length ≤ sizeLine ∧ ∀ p, H p = none → Q (.ref p) (upd H p (.lst (xs ++ zs)))
theorem op_cat : OpR X (binaryOp .Add) rCat := by
  intro pins s σ H x y v u Q I rx ry h
  obtain ⟨l, b, xs, zs, rfl, rfl, hH, hB, hz, q⟩ := h
  cases rx
  cases ry
  obtain ⟨z, its, n, r, hl, e⟩ := I.lstM hH
  obtain ⟨z2, its2, n2, r2, hl2, e2⟩ := I.lstM hB
  refine PySem.P.add_list e e2 ?_ (by rw [List.size_toArray, List.size_toArray]; omega)
  have ea : its.toArray ++ its2.toArray = (its ++ its2).toArray := by simp
  rw [ea]
  exact ⟨.ref _, _, I.lnew (t' := s.toks) (r.append r2) (by rw [List.length_append]; omega), rfl, q _ I.fresh⟩
def rRep : R2 := fun x y H Q => ∃ l k xs, x = .ref l ∧ y = .int k ∧ H l = some (.lst xs) ∧ -(2 ^ 63) ≤ k ∧ k < 2 ^ 63 ∧ xs.length * k.toNat ≤ sizeLine ∧
  ∀ p, H p = none → Q (.ref p) (upd H p (.lst (List.replicate k.toNat xs).flatten))
theorem len_rep {α : Type} (xs : List α) (k : Nat) : (List.replicate k xs).flatten.length = k * xs.length := by
  induction k with
  | zero => simp
  | succ k ih => rw [List.replicate_succ, List.flatten_cons, List.length_append, ih, Nat.succ_mul, Nat.add_comm]
theorem op_rep : OpR X (binaryOp .Mult) rRep := by
  intro pins s σ H x y v u Q I rx ry h
  obtain ⟨l, k, xs, rfl, rfl, hH, h1, h2, hz, q⟩ := h
  cases rx
  obtain ⟨t, rfl⟩ := ry
  obtain ⟨z, its, n, r, hl, e⟩ := I.lstM hH
  have hlen : its.toArray.size * k.toNat ≤ sizeLine := by rw [List.size_toArray, ← hl]; exact hz
  have hcap : ¬ its.toArray.size * k.toNat > (2 ^ 63 - 1) / 8 := by
    have : (sizeLine : Nat) ≤ (2 ^ 63 - 1) / 8 := by decide
    omega
  have hfit : ¬ (!Builtin.List.listFitsIndex k) = true := by
    rw [fitsIndex_both h1 h2]
    exact Bool.false_ne_true
  have hlong : ¬ Builtin.List.listTooLong (its.toArray.size * k.toNat) = true := by
    rw [notLongL hlen]
    exact Bool.false_ne_true
  have hnew : List.foldl (fun x1 x2 => x1 ++ x2) #[] (List.replicate (if its.toArray.isEmpty = true then 0 else k.toNat) its.toArray) = (List.replicate k.toNat its).flatten.toArray := by
    have f0 : ∀ m : Nat, List.foldl (fun x1 x2 => x1 ++ x2) #[] (List.replicate m its.toArray) = (List.replicate m its).flatten.toArray := fun m => by
      have := foldl_rep its m []
      rw [List.nil_append] at this
      exact this
    rw [f0]
    cases its with
    | nil => simp
    | cons a r' => rw [if_neg (by simp)]
  refine wpAny_binaryOp_repeat_ref (T := "list") (U := "int") (by decide) ⟨_, e, rfl⟩ (fun s' => typeIs_int s' k t) noFill_list_mul F.fills_int_mul F.slot_int_rmul repeat_list F.slot_int_index.lookup
    (call_meets F.slot_int_rmul (typeIs_int s k t) F.entry_int_rmul (F.args_int_rmul_2 _ _) (int___rmul___int_list k t l its.toArray n)
      ⟨e, rfl, ⟨_, e, rfl⟩, call_meets F.slot_list_mul ⟨_, e, rfl⟩ F.entry_list_mul (F.args_list_mul_2 _ _) (AutoListH.list___mul___list_int_3 l its.toArray n k t hfit hcap hlong) ⟨e, ?_⟩⟩)
  rw [hnew]
  exact ⟨.ref _, _, I.lnew (t' := s.toks) (r.rep k.toNat) (by rw [len_rep, Nat.mul_comm]; exact hz), rfl, q _ I.fresh⟩
end
section
variable {prog : Program} {w : World} {A : Around} {E : Value → Shared → Prop} {s : Shared}
end
section
variable {X : Cx}
end
end L2
namespace Att
open PySem PySem.W PySem.Calls PyProof.Rows
theorem ints_of_wellAll {P : Params} {h : Heap} : ∀ (ns : List Int) (vs : List Value), WellAll P h vs (ns.map WData.int) → IntsAre vs ns := by
  intro ns
  induction ns with
  | nil =>
    intro vs w
    rw [List.map_nil] at w
    cases w
    exact .nil
  | cons n ns ih =>
    intro vs w
    rw [List.map_cons] at w
    cases w with
    | cons a b =>
      cases a
      exact .cons _ _ (ih _ b)
theorem script_of {l : OpenLaw} {n : Nat} (hn : l.most = some n) {P : Params} {h : Heap} {args : List WData} {vals : List Value}
    (hpre : l.row.toRowW.claim.pre args = true) (hwl : WellAll P h vals args) :
    ∃ a vs ns, vals = [Value.ref a] ∧ args = [WData.list (ns.map WData.int)] ∧ h.get? a = some { cls := .type "list", data := .seq vs.toArray } ∧ IntsAre vs ns ∧ ns.length ≤ n := by
  have hsh : WShape.hasAll [] args [.list .int] = true := (pre_splitW hpre).1
  have hc : l.pre.holds [] { args := args } = true := (pre_splitW hpre).2
  obtain ⟨d, r, rfl, h1, h2⟩ := hasAllW_cons hsh
  obtain rfl := hasAllW_nil h2
  obtain ⟨xs, rfl, h3⟩ := hasW_list h1
  obtain ⟨ns, rfl⟩ := items_int h3
  have hlen : ns.length ≤ n := by
    unfold OpenLaw.pre at hc
    have h4 : (WTm.not (.lt (.lit (.int (n : Int))) (.len (.arg 0)))).holds [] { args := [.list (ns.map .int)] } = true := by
      have h4 := (holds_andW hc).1
      rw [hn] at h4
      exact h4
    have h5 := condW_of h4 (w_not (w_lt w_lit (w_len_list (w_arg rfl))))
    rw [List.length_map] at h5
    refine Nat.le_of_not_lt fun q => ?_
    have q' : (n : Int) < ((ns.length : Nat) : Int) := by omega
    first
      | (rw [decide_eq_true q'] at h5; exact absurd h5 (by decide))
      | (simp at h5; omega)
  cases hwl with
  | cons w1 w2 =>
    cases w2
    cases w1 with
    | list ho hall => exact ⟨_, _, ns, rfl, rfl, ho, ints_of_wellAll ns _ hall, hlen⟩
theorem post_true (l : OpenLaw) (args : List WData) : l.row.toRowW.claim.post args (.bool true) args = true :=
  postW_of (r := l.row.toRowW) (X := (true == true))
    (show WShape.has [] (.bool true) .bool = true by first | rfl | decide | simp [WShape.has, WShape.arms, WShape.armsAll])
    (show (WTm.eq .res (.lit (.bool true))).value [] { args := args, res := some (.bool true), after := args } = some (.bool (true == true)) from w_eq_bool (w_res rfl) w_lit) rfl
theorem attach_call {l : OpenLaw} {n : Nat} {q : Program} {loose : List Str} {XP : (Str → Option Value) → Heap → Prop} {YP : World → Heap → Prop} {d : DefRec}
    (hn : l.most = some n) (hdf : d.params.defaults = [])
    (call : ∀ (w : World) (s₀ s₁ : Shared) (mg mb : Str → Option Value) (fa : Addr) (o : Obj) (pm cd doc : Value) (a : Addr) (vs : List Value) (ns : List Int),
      Ground q loose [] XP w s₀ mg mb s₁.heap → YP w s₁.heap →
      s₁.heap.get? fa = some o → o.data = .func (docDef d.name d.params d.body d.scope pm cd doc) → s₁.heap.CodeRec cd d.name → mg d.name = some (.ref fa) →
      s₁.heap.get? a = some { cls := .type "list", data := .seq vs.toArray } → IntsAre vs ns → ns.length ≤ n → s₁.gens = #[] →
      codeAny (model l.prog w) callerA (.call (.ref fa) ⟨[.ref a], []⟩) (fun r s' => r = .ok (.ret (.bool true)) ∧ OldK s₁.heap s'.heap ∧ s'.os = s₁.os ∧ AllBare s'.gens) s₁) :
    WalkO q loose XP YP l.row.toRowW d [] (fun f vs => PySem.call f vs) := by
  intro w s₀ s₁ mg mb G Y fa o pm cd doc dV kV ho hd hcd hD hmg hg args vals as hpre hlay hrd hwl hlo
  obtain rfl : dV = .none := Dflts.none hD hdf
  obtain rfl : kV = .none := Dflts.noKw hD
  obtain ⟨a, vs, ns, rfl, rfl, hobj, hints, hlen⟩ := script_of hn hpre hwl
  refine enter_call (codeAny_mono (call w s₀ s₁ mg mb fa o pm cd doc a vs ns G Y ho (fd_plain hd) hcd hmg hobj hints hlen hg) fun r s' hq => ?_)
  obtain ⟨rfl, h2, h3, h4⟩ := hq
  exact ⟨.inl ⟨.bool true, .bool true, [], rfl, fun _ => rfl, .bool true, post_true l _, fun _ => ⟨List.Pairwise.nil, fun _ hm => (nomatch hm)⟩⟩, h2, h3, h4⟩
section
variable {prog : Program} {w : World} {A : Around} {E : Value → Shared → Prop} {s : Shared} {K : Frag}
end
end Att
namespace L2
open PySem PySem.Spec PyProof.Rows
theorem vals_ints : ∀ {vs : List Value} {ns : List Int}, IntsAre vs ns → Vals (ns.map V.int) vs
  | _, _, .nil => .nil
  | _, _, .cons n t h => .cons ⟨t, rfl⟩ (vals_ints h)
def Only (H : Hp) : Prop := ∀ b, H b = none ∨ ∃ o xs, H b = some (.frz o (.lst xs))
theorem law_call {P : Program} {w : World} {K : PySem.W.Frag} {mg mb : Str → Option Value} {CX : CXT} {k : Nat} {fa a : Addr} {fd : FuncData} {x : Str} {sp : Sp} {s₁ : Shared} {vs : List Value} {ns : List Int}
    (KX : K.In s₁.heap) (hns : s₁.heap.Ns mainGlobals mg) (hb : s₁.heap.Ns builtinsNs mb) (hbb : ∀ x : Str, x ≠ "__name__" → mb x = bootBuiltins x) (hlim : s₁.heap.NoLimit) (hg : s₁.gens = #[])
    (ha : s₁.heap.get? a = some { cls := .type "list", data := .seq vs.toArray }) (hi : IntsAre vs ns) (hl : ns.length ≤ sizeLine) (hr : Room k callerA)
    (F : ∀ base : Heap, K.In base → base.Ns mainGlobals mg → FnOk P w K mg base CX k fa fd [x] sp) (hbind : ∀ (s : Shared) (u : Value), BindsTo s fd ⟨[u], []⟩ [(x, u)])
    (hsp : ∀ H : Hp, Only H → SqL K H a (ns.map V.int) → sp [.ref a] H (fun v _ => v = .bl true) fun _ _ _ => False)
    (hCX : ∀ H e s', CX [] H s₁ (fun _ _ _ => False) e s' → False) :
    codeAny (model P w) callerA (.call (.ref fa) ⟨[.ref a], []⟩) (fun r s' => r = .ok (.ret (.bool true)) ∧ OldK s₁.heap s'.heap ∧ s'.os = s₁.os ∧ AllBare s'.gens) s₁ := by
  have rv := vals_ints hi
  have lenV := hi.length
  have core : ∀ H : Hp, Only H → SqL K H a (ns.map V.int) → HOk P w H s₁.heap → (∀ b, H b ≠ none → b = a) → (H a ≠ none → K.lookup a = none) →
      codeAny (model P w) callerA (.call (.ref fa) ⟨[.ref a], []⟩) (fun r s' => r = .ok (.ret (.bool true)) ∧ OldK s₁.heap s'.heap ∧ s'.os = s₁.os ∧ AllBare s'.gens) s₁ := by
    intro H hO hS hok hA hK
    have base_of : ∀ {b : Addr} {o : Obj}, s₁.heap.get? b = some o → H b = none → (hidT s₁.heap H).get? b = some o := fun e n => hidT_get e n
    have noA : ∀ {b : Addr} {o : Obj} {es : Array DictEntry} {ep : Nat}, s₁.heap.get? b = some o → o.data = .dict es ep → H b = none := fun {b o es ep} e d => by
      cases q : H b with
      | none => rfl
      | some u =>
        have e' : b = a := hA b (by rw [q]; simp)
        subst e'
        rw [ha] at e; cases e
        have d' : Data.seq vs.toArray _ = Data.dict es ep := d
        cases d'
    have nsK : ∀ {b : Addr} {m : Str → Option Value}, s₁.heap.Ns b m → (hidT s₁.heap H).Ns b m := fun {b m} ⟨o, es, ep, e, d, r⟩ => ⟨o, es, ep, base_of e (noA e d), d, r⟩
    have hKb : K.In (hidT s₁.heap H) := fun b o e => base_of (KX b o e) (by
      cases q : H b with
      | none => rfl
      | some u =>
        have e' : b = a := hA b (by rw [q]; simp)
        subst e'
        rw [hK (by rw [q]; simp)] at e; cases e)
    have hM : Mod K mg (hidT s₁.heap H) := ⟨hKb, nsK hns, ⟨mb, nsK hb, hbb⟩, let ⟨mc, h1, h2⟩ := hlim; ⟨mc, nsK h1, h2⟩⟩
    have e0 : Env0 P w K mg (hidT s₁.heap H) callerA [] s₁ H := ⟨rfl, hM, fun b o e => of_hidT e, Nat.le_of_eq (hidT_size _ _), trivial, fun b hb => absurd (show b ∈ ([] : List Addr) from hb) (by simp), hok, .of_eq hg⟩
    refine codeAny_mono ((F _ hKb (nsK hns)).run callerA [] s₁ H ⟨[.ref a], []⟩ [.ref a] [.ref a] _ _ hr e0 (hbind s₁ (.ref a)) (.cons rfl .nil) (hsp H hO hS)) fun r s' h => ?_
    cases r with
    | error e => exact (hCX H e s' h).elim
    | ok fl =>
      cases fl with
      | next => exact False.elim h
      | brk => exact False.elim h
      | cont => exact False.elim h
      | ret u =>
        obtain ⟨v, H', os, bare, un, hok', r', q⟩ := h
        have q' : v = .bl true := q
        subst q'
        obtain rfl : u = Value.bool true := r'
        refine ⟨rfl, OldK.of_keep fun b o e => ?_, os, bare⟩
        cases q : H b with
        | none => exact un.keep b o e q (by intro z; exact absurd (show b ∈ ([] : List Addr) from z) (by simp)) (by simp)
        | some u =>
          rcases hO b with z | ⟨ob, xs, z⟩
          · rw [q] at z; cases z
          · have z2 := un.frzs b ob _ z
            obtain ⟨e1, _⟩ := hok b _ z
            obtain ⟨e2, _⟩ := hok' b _ z2
            rw [e] at e1; cases e1
            exact e2
  cases hk : K.lookup a with
  | some o =>
    have e := KX a o hk
    rw [ha] at e
    cases e
    refine core (fun _ => none) (fun _ => .inl rfl) (.inr ⟨_, vs.toArray, _, hk, rfl, rfl, rfl, by rw [List.size_toArray, lenV]; exact hl, by simpa using rv⟩) (fun b u z => by have z' : (none : Option HO) = some u := z; cases z') (fun b z => absurd rfl z) fun z => absurd rfl z
  | none =>
    refine core (fun b => if b = a then some (.frz { cls := .type "list", data := .seq vs.toArray } (.lst (ns.map V.int))) else none) (fun b => ?_) (.inl (.inr ⟨{ cls := .type "list", data := .seq vs.toArray }, if_pos rfl⟩)) (fun b u z => ?_) (fun b z => ?_) fun _ => hk
    · by_cases hb : b = a
      · exact .inr ⟨_, _, if_pos hb⟩
      · exact .inl (if_neg hb)
    · by_cases hb : b = a
      · have z' := (if_pos hb).symm.trans z
        cases z'
        subst hb
        exact ⟨ha, by rw [List.length_map]; exact hl, vs, _, rv, ha⟩
      · have z' := (if_neg hb).symm.trans z
        cases z'
    · by_cases hb : b = a
      · exact hb
      · exact absurd (if_neg hb) z
end L2
namespace L2
open PySem PySem.Spec PyProof.Rows
theorem walk_of {l : PySem.W.OpenLaw} {n k : Nat} {q : Program} {loose : List Str} {XP : (Str → Option Value) → Heap → Prop} {YP : World → Heap → Prop} {d : DefRec} {K : Params → PySem.W.Frag} {CX : World → CXT} {sp : World → Sp} {x : Str}
    (hn : l.most = some n) (hn2 : n ≤ sizeLine) (hdf : d.params.defaults = []) (hr : Room k callerA)
    (hY : ∀ (w : World) (h : Heap), YP w h → (K w.params).In h)
    (F : ∀ (w : World) (mg : Str → Option Value) (fa : Addr) (h : Heap), (K w.params).In h → h.Ns mainGlobals mg → mg d.name = some (.ref fa) →
      ∃ fd : FuncData, (∀ (s : Shared) (u : Value), BindsTo s fd ⟨[u], []⟩ [(x, u)]) ∧
        ∀ base : Heap, (K w.params).In base → base.Ns mainGlobals mg → FnOk l.prog w (K w.params) mg base (CX w) k fa fd [x] (sp w))
    (hsp : ∀ (w : World) (H : Hp) (a : Addr) (ns : List Int), ns.length ≤ n → Only H → SqL (K w.params) H a (ns.map V.int) → sp w [.ref a] H (fun v _ => v = .bl true) fun _ _ _ => False)
    (hCX : ∀ (w : World) (H : Hp) (s : Shared) (e : Value) (s' : Shared), CX w [] H s (fun _ _ _ => False) e s' → False) :
    PySem.W.WalkO q loose XP YP l.row.toRowW d [] (fun f vs => PySem.call f vs) := by
  refine Att.attach_call hn hdf fun w s₀ s₁ mg mb fa o pm cd doc a vs ns G Y ho hd hcd hmg hobj hints hlen hg => ?_
  have KX := hY w _ Y
  obtain ⟨fd, hb, hF⟩ := F w mg fa _ KX G.T.g hmg
  exact law_call KX G.T.g G.T.b G.T.builtins G.T.nolimit hg hobj hints (Nat.le_trans hlen hn2) hr hF hb (fun H hO hS => hsp w H a ns hlen hO hS) fun H e s' => hCX w H s₁ e s'
end L2
namespace L2
open PySem PySem.Spec PyProof.Rows
def defArgs (s : Stmt) : Arguments := match s with
  | .FunctionDef _ a _ _ _ _ _ _ _ _ => a
  | _ => { posonlyargs := [], args := [], vararg := none, kwonlyargs := [], kw_defaults := [], kwarg := none, defaults := [] }
def defBody (s : Stmt) : List Stmt := match s with
  | .FunctionDef _ _ b _ _ _ _ _ _ _ => b
  | _ => []
def defScope (s : Stmt) : Scope := match s with
  | .FunctionDef _ _ _ _ _ _ sc _ _ _ => sc
  | _ => { kind := .function, names := [], isGenerator := false, isCoroutine := false }
abbrev CX0 : CXT := fun _ _ _ _ _ _ => False
abbrev E0 : XK := fun _ _ _ => False
theorem pass0 {X : Cx} : Passes CX0 X E0 := fun _ _ _ _ _ _ _ h => h.elim
structure Fun (K : PySem.W.Frag) (x qual : Str) (st : Stmt) (f : Addr) (fd : FuncData) : Prop where
  ex : ∃ (oc : Value) (od : Option Addr) (kV doc pm : Value) (an : Option Addr) (cdv ct : Value) (osl : Array (Option Value)),
    fd = PySem.W.fnOf x qual (defArgs st) (defBody st) (defScope st) .none kV doc pm an cdv ct ∧ K.lookup f = some ⟨oc, od, .func fd, osl⟩ ∧ PySem.W.codeIn K cdv qual = true
  kp : PySem.W.keepIn K (.ref f) = true
section
variable {P : Program} {w : World} {K : PySem.W.Frag} {mg : Str → Option Value} {base : Heap}
theorem Fun.ok {x qual : Str} {st : Stmt} {f : Addr} {fd : FuncData} {N ps : List Str} {k : Nat} {sp : Sp} (F : Fun K x qual st f fd) (S : FnScope N ps (defScope st)) (len : ∀ vs H Q E, sp vs H Q E → vs.length = ps.length)
    (hbody : ∀ (cdv : Value) (A : Around) (outer : List Env) (s : Shared) (H : Hp) (vs : List V) (Q : VK) (E : XK), Room k (A.deeper (envOfC qual (defScope st) s.heap.objs.size f cdv)) → sp vs H Q E →
      ∃ t, PSs (cxOf CX0 P w K mg base N qual (defScope st) f cdv A outer s H E).nox (defBody st) t ∧ t { nx := fun _ H' => Q .non H', rt := Q } (start N vs) H) : FnOk P w K mg base CX0 (k + 1) f fd ps sp := by
  obtain ⟨oc, od, kV, doc, pm, an, cdv, ct, osl, rfl, lk, hcd⟩ := F.ex
  refine fn_of lk hcd S len fun A outer s H vs Q E hr hsp => ?_
  obtain ⟨t, h, q⟩ := hbody cdv A outer s H vs Q E hr hsp
  exact ⟨t, h.nox, q⟩
theorem Fun.binds {x qual : Str} {st : Stmt} {f : Addr} {fd : FuncData} {ps : List Str} (F : Fun K x qual st f fd)
    (h : ∀ (kV doc pm : Value) (an : Option Addr) (cdv ct : Value) (us : List Value), us.length = ps.length → bindArgs (PySem.W.fnOf x qual (defArgs st) (defBody st) (defScope st) .none kV doc pm an cdv ct) ⟨us, []⟩ = pure (ps.zip us)) : Binds K fd ps [] := by
  obtain ⟨oc, od, kV, doc, pm, an, cdv, ct, osl, rfl, lk, hcd⟩ := F.ex
  exact .all (h kV doc pm an cdv ct)
theorem fun_mk {x qual : Str} {st : Stmt} {f : Addr} {oc : Value} {od an : Option Addr} {osl : Array (Option Value)} {kV doc pm cdv ct : Value} (l : K.lookup f = some ⟨oc, od, .func (PySem.W.fnOf x qual (defArgs st) (defBody st) (defScope st) .none kV doc pm an cdv ct), osl⟩)
    (c : PySem.W.codeIn K cdv qual = true) (k : PySem.W.keepIn K (.ref f) = true) : Fun K x qual st f (PySem.W.fnOf x qual (defArgs st) (defBody st) (defScope st) .none kV doc pm an cdv ct) := ⟨⟨oc, od, kV, doc, pm, an, cdv, ct, osl, rfl, l, c⟩, k⟩
end
theorem hu_of {A : Around} {k : Nat} (hr : Room k A) : A.units + 1 < cLine := Nat.lt_of_le_of_lt (Nat.add_le_add_left (by decide : 1 ≤ 64) _) hr.units
section
variable {X : Cx}
theorem pv (i : Nat) {x : Str} {pos : Pos} (hN : X.N[i]? = some x := by rfl) (hv : Vis X.env.scope x := by first | exact Or.inl rfl | exact Or.inr (Or.inl rfl) | exact Or.inr (Or.inr rfl)) (hd : (x == ("__debug__" : Str)) = false := by decide)
    (hcd : (x == ("__classdict__" : Str)) = false := by decide) : PE X (.Name x pos) (tVar i) := pe_var hN hv hd hcd
end
theorem iteF {A B : Prop} (h : B) : if false = true then A else B := by
  rw [if_neg Bool.false_ne_true]
  exact h
theorem iteT {A B : Prop} (h : A) : if true = true then A else B := by
  rw [if_pos rfl]
  exact h
def Same (H H' : Hp) : Prop := ∀ b o, H b = some o → H' b = some o
theorem Same.refl (H : Hp) : Same H H := fun _ _ h => h
theorem Same.trans {H H1 H2 : Hp} (a : Same H H1) (b : Same H1 H2) : Same H H2 := fun c o h => b c o (a c o h)
theorem Same.free {H H' : Hp} (e : Same H H') {l : Addr} (h : H' l = Option.none) : H l = Option.none := by
  cases q : H l with
  | none => rfl
  | some o =>
    rw [e l o q] at h
    cases h
theorem Same.seq {K : PySem.W.Frag} {H H' : Hp} {a : Addr} {xs : List V} (e : Same H H') (h : SqL K H a xs) : SqL K H' a xs := by
  rcases h with (h | ⟨o, h⟩) | h
  · exact .inl (.inl (e _ _ h))
  · exact .inl (.inr ⟨o, e _ _ h⟩)
  · exact .inr h
end L2
namespace L2
open PySem PySem.Spec PyProof.Rows
section
variable {X : Cx}
end
section
variable {κ : Type} [DecidableEq κ]
end
end L2
set_option Elab.async false
set_option linter.all false
set_option maxRecDepth 100000
set_option maxHeartbeats 4000000
namespace L2
open PySem PySem.Spec PyProof.Rows
def CMulB (i j : Int) : Prop := ∃ n : Nat, n ≤ 60000000 ∧ i.natAbs < 2 ^ n ∧ j.natAbs < 2 ^ n
theorem bits_le {x : Int} {n : Nat} (h : x.natAbs < 2 ^ n) : Builtin.Int.intBits x ≤ n := by
  unfold Builtin.Int.intBits
  by_cases e : (x == 0) = true
  · rw [if_pos e]; exact Nat.zero_le _
  · rw [if_neg e]
    have hx : x.natAbs ≠ 0 := by
      intro z
      have : x = 0 := by omega
      rw [this] at e
      exact e rfl
    exact (Nat.log2_lt hx).mpr h
theorem CMulB.ok {i j : Int} (h : CMulB i j) : IntMulOk i j := by
  obtain ⟨n, hn, h1, h2⟩ := h
  have b1 := bits_le h1
  have b2 := bits_le h2
  intro z
  simp only [Bool.and_eq_true, Builtin.Int.intTooBig, decide_eq_true_eq] at z
  have e : (bitsLine : Nat) = 134217728 := by decide
  have z2 := z.2
  rw [e] at z2
  omega
def CMulX (i j : Int) : Prop := CMul i j ∨ CMulB i j
def CDivB (_ j : Int) : Prop := j ≠ 0 ∧ j.natAbs < 2 ^ 8000
theorem CDivB.ok {i j : Int} (h : CDivB i j) : Builtin.divisionGoesByPylong i j = false := by
  refine PyProof.noPylong_of_log2 ?_
  have hx : j.natAbs ≠ 0 := by have := h.1; omega
  have := (Nat.log2_lt hx).mpr h.2
  omega
section
variable {X : Cx}
theorem op_mulB : OpR X (binaryOp .Mult) (rI CMulX fun i j => .int (i * j)) := opI fun _ _ _ _ _ _ _ hc q => mul_int q (hc.elim CMul.ok CMulB.ok)
theorem op_fdivB : OpR X (binaryOp .FloorDiv) (rI CDivB fun i j => .int (i.fdiv j)) := opI fun _ _ _ _ _ _ _ hc q => floordiv_int hc.1 q (.inl hc.ok)
end
section
variable {X : Cx} {pins : List (Addr × Obj)} {σ : St} {H : Hp} {s : Shared} {a : Addr} {kvs : List (Key × V)}
theorem Inv.freeze (I : Inv X pins σ H s) (e : H a = some (.dK kvs)) : ∃ o, s.heap.get? a = some o ∧ Inv X pins σ (upd H a (.frz o (.dK kvs))) s := by
  have ok : ObjOk X.prog X.w H s.heap a (.dK kvs) := I.hok a _ e
  obtain ⟨z, y, vs, r, o, es, ep, ho, c⟩ := id ok
  refine ⟨o, ho, ?_⟩
  exact I.write (h' := s.heap) (t' := s.toks) (x := a) (e := a) (by rw [e]; exact True.intro) (.inl rfl) (fun _ _ _ q => q) ⟨o, ho⟩ ⟨ho, z, y, vs, r, o, es, ep, ho, c⟩
theorem Inv.thaw {o : Obj} (I : Inv X pins σ H s) (e : H a = some (.frz o (.dK kvs))) (hn : ∀ o u, X.H₀ a ≠ some (.frz o u)) : Inv X pins σ (upd H a (.dK kvs)) s := by
  have ne : ∀ b u, H b = some u → (∀ o u', u ≠ .frz o u') → b ≠ a := fun b u h d z => by
    subst z
    rw [e] at h
    exact d _ _ (Option.some.inj h).symm
  obtain ⟨ho, ok⟩ := (show ObjOk X.prog X.w H s.heap a (.frz o (.dK kvs)) from I.hok a _ e)
  refine ⟨I.ok, I.os, I.bare, ⟨fun b ob q n hb hx => I.base.keep b ob q n hb hx, fun b ob q n hb hx => I.base.slot b ob q n hb hx, fun b ob q n hx => ?_, fun b ob q hx => I.base.there b ob q hx, fun b xs q => ?_, fun b ob u q => ?_, fun b ps q => ?_⟩, I.loc, I.cell, ?_, fun x c q => ?_, fun p hp => ?_, fun b u q => ?_, I.len⟩
  · have z := I.base.free b ob q n hx
    rw [upd_ne (by intro y; subst y; rw [e] at z; cases z)]
    exact z
  · have z := I.base.tups b xs q
    rw [upd_ne (ne b _ z (fun _ _ y => by cases y))]
    exact z
  · have z := I.base.frzs b ob u q
    rw [upd_ne (by intro y; subst y; exact hn _ _ q)]
    exact z
  · obtain ⟨m, z⟩ := I.base.tbls b ps q
    exact ⟨m, by rw [upd_ne (ne b _ z (fun _ _ y => by cases y))]; exact z⟩
  · rw [upd_ne (by intro y; have z := I.free; rw [y, e] at z; cases z)]
    exact I.free
  · rw [upd_ne (by intro y; have z := I.freeC x c q; rw [y, e] at z; cases z)]
    exact I.freeC x c q
  · obtain ⟨p1, p2, p3, p4, p5⟩ := I.pin p hp
    refine ⟨p1, ?_, p3, p4, p5⟩
    rw [upd_ne (by intro y; rw [y, e] at p2; cases p2)]
    exact p2
  · by_cases hb : b = a
    · subst hb
      rw [upd_same] at q
      cases q
      exact ok
    · rw [upd_ne hb] at q
      exact (I.hok b u q).stay (fun _ _ _ z => z) (fun c z => by rw [upd_ne (ne c _ z (fun _ _ y => by cases y))]; exact z) fun c xs z => by rw [upd_ne (ne c _ z (fun _ _ y => by cases y))]; exact z
end
def Itd (a : Addr) (ob : Obj) (kvs : List (Key × V)) : It :=
  ⟨fun i H => i < kvs.length ∧ H a = some (.frz ob (.dK kvs)), fun i H x H' => ∃ p k v, kvs[i]? = some (k, v) ∧ H p = none ∧ x = .ref p ∧ H' = upd H p (.tup [kV k, v]), fun i H => kvs.length ≤ i ∧ H a = some (.frz ob (.dK kvs))⟩
theorem kV_of_is {P : Program} {w : World} {k : Key} {u : Value} (h : (mixKind P w).is k u = true) : RelV (kV k) u := by
  rcases keyIs_shape (k := k) (v := u) h with ⟨i, t, rfl, rfl⟩ | ⟨x, t, rfl, rfl⟩
  · exact ⟨t, rfl⟩
  · exact ⟨t, rfl⟩
theorem KV.at {kvs : List (Key × V)} {vs : List (Key × Value)} (r : KV kvs vs) : ∀ {i : Nat} {k : Key} {v : V}, kvs[i]? = some (k, v) → ∃ u, vs[i]? = some (k, u) ∧ RelV v u := by
  unfold KV at r
  induction r with
  | nil => intro i k v h; simp at h
  | @cons p q ps qs h t ih =>
    intro i k v e
    cases i with
    | zero =>
      simp at e
      subst e
      have e1 : k = q.1 := h.1
      exact ⟨q.2, by rw [e1]; rfl, h.2⟩
    | succ i => simpa using ih (i := i) (k := k) (v := v) (by simpa using e)
theorem turn_items {P : Program} {w : World} {K : PySem.W.Frag} {elts : List Expr} {x1 : Nat} {pos : Pos} (a it : Addr) (ob : Obj) (kvs : List (Key × V)) (hne : a ≠ it) :
    Turn P w K (.Tuple elts x1 pos) (Itd a ob kvs) [it] it (fun i h => ∃ es ep ok ov, ob.data = .dict es ep ∧ IsItemIter h it a i kvs.length ep ok ov) where
  mem := by simp
  obj := fun i h st b hb => by
    have e : b = it := by simpa using hb
    subst e
    obtain ⟨es, ep, ok, ov, hd, e⟩ := st
    exact ⟨_, e, fun v z => by cases z⟩
  keep := fun i h h' st k => by
    obtain ⟨es, ep, ok, ov, hd, e⟩ := st
    exact ⟨es, ep, ok, ov, hd, k it (by simp) _ e⟩
  item := by
    intro X hP hw hK hc i pins s σ H E I hf st hg
    subst hP hw hK
    obtain ⟨es, ep, ok, ov, hd, hit⟩ := st
    obtain ⟨hi, hH⟩ := hg
    obtain ⟨ho, z, y, vs, r, o', es', ep', ho', c1, c2, c3, c4, c5⟩ := (show ObjOk X.prog X.w H s.heap a (.frz ob (.dK kvs)) from I.hok a _ hH)
    have eo : o' = ob := by rw [ho] at ho'; exact (Option.some.inj ho').symm
    subst eo
    rw [hd] at c2
    cases c2
    have hm : s.heap.DictAt (mixKind X.prog X.w) a vs ep := ⟨o', es, ho, c1, hd, c3, c4, c5⟩
    obtain ⟨⟨k, v⟩, hkv⟩ : ∃ q, kvs[i]? = some q := ⟨kvs[i], by simp [hi]⟩
    obtain ⟨u, hu, ru⟩ := r.at hkv
    have hl : kvs.length = vs.length := KV.length r
    rw [hl] at hit
    obtain ⟨f0, f1, f2, f3, f4, f5⟩ := hf it (by simp)
    refine wpAny_pyNext_items_item hit hm hu fun key h' hkey hout hT hsz hk => ?_
    refine ⟨.ref s.heap.objs.size, rfl, wpAny_letOwnedTupleGo_items hout fun h2 he hs => ?_⟩
    have lit : it < s.heap.objs.size := Heap.lt_size hit
    have I1 := I.laid (a := s.heap.objs.size) (o := .tup [kV k, v]) (h' := s.heap.push { cls := .type "tuple", data := .seq #[key, u] }) (t' := s.toks) (fun b q hq => Heap.get?_push_of_some _ hq) (Nat.le_refl _)
      ⟨by show 2 ≤ sizeLine; decide, [key, u], .cons (kV_of_is hkey) (.cons ru .nil), ⟨_, Heap.get?_push_size _ rfl, rfl, _, rfl⟩⟩
    have hfr : H s.heap.objs.size = none := I.hok.fresh (Nat.le_refl _)
    have nit : it ≠ s.heap.objs.size := Nat.ne_of_lt lit
    refine ⟨.ref s.heap.objs.size, upd H s.heap.objs.size (.tup [kV k, v]), ?_, rfl, ⟨_, k, v, hkv, hfr, rfl, rfl⟩, ⟨es, ep, key, u, hd, by rw [hl]; exact he⟩, fun b hb => ?_⟩
    · have I2 : Inv X pins σ (upd H s.heap.objs.size (.tup [kV k, v])) { s with heap := h2, toks := s.toks } := Inv.turned (s := { s with heap := s.heap.push { cls := .type "tuple", data := .seq #[key, u] }, toks := s.toks }) I1 (h' := h2) (t' := s.toks) (it := it) (fun b q hb hq => ?_) (by rw [upd_ne nit]; exact f0) f1 f3 f4 f5
      · exact I2
      · refine hs.extBut b q hb ?_
        rcases Heap.get?_push_cases hq with ⟨hbs, eq⟩ | hq
        · subst hbs
          subst eq
          exact hT
        · exact hk b q hb hq
    · have e : b = it := by simpa using hb
      subst e
      rw [upd_ne nit]
      exact f0
  done := by
    intro X hP hw hK hc i pins s σ H E I hf st hg
    subst hP hw hK
    obtain ⟨es, ep, ok, ov, hd, hit⟩ := st
    obtain ⟨hi, hH⟩ := hg
    obtain ⟨ho, z, y, vs, r, o', es', ep', ho', c1, c2, c3, c4, c5⟩ := (show ObjOk X.prog X.w H s.heap a (.frz ob (.dK kvs)) from I.hok a _ hH)
    have eo : o' = ob := by rw [ho] at ho'; exact (Option.some.inj ho').symm
    subst eo
    rw [hd] at c2
    cases c2
    have hm : s.heap.DictAt (mixKind X.prog X.w) a vs ep := ⟨o', es, ho, c1, hd, c3, c4, c5⟩
    have hl : kvs.length = vs.length := KV.length r
    rw [hl] at hit
    obtain ⟨f0, f1, f2, f3, f4, f5⟩ := hf it (by simp)
    exact wpAny_pyNext_items_end (I.ok.hd hc) hit hm (by simp; omega) fun h' eb => ⟨rfl, I.turned (t' := s.toks) (fun b o hb e => eb b o hb e) f0 f1 f3 f4 f5⟩
  self := fun A i s Q E st h => by
    obtain ⟨es, ep, ok, ov, hd, hit⟩ := st
    exact PySem.W.kcp_self hit h
section
variable {X : Cx}
def iItems (X : Cx) (td : TE) : TI := fun σ H R => td σ H fun x H1 => ∃ a kvs, x = .ref a ∧ H1 a = some (.dK kvs) ∧ ∀ ob, (∀ o u, X.H₀ a ≠ some (.frz o u)) → R (Itd a ob kvs) (upd H1 a (.frz ob (.dK kvs)))
theorem pi_items {o : Expr} {td : TE} {elts : List Expr} {x1 : Nat} {pos apos cpos : Pos} (ho : PE X o td) (hbase : attributeBase o "items" X.env (eval o X.env) = eval o X.env) (hline : (apos.endLine == cpos.line) = true) :
    PI X (.Tuple elts x1 pos) (.Call (.Attribute o "items" apos) [] [] cpos) (iItems X td) := by
  intro pins s σ H R I h
  refine wpAny_Call_method0_late hbase hline (thn (ho pins s σ H _ I h) fun v s1 ⟨x, H1, I1, r1, a, kvs, ex, hH, q⟩ => ?_)
  subst ex
  obtain rfl : v = Value.ref a := r1
  obtain ⟨t1, t2, hd⟩ := isD_at I1 (.inl ⟨kvs, .inl hH⟩)
  refine ⟨"dict", "dict.items", PySem.F.plainAttrs_dict, PySem.F.slot_dict_items, PySem.F.type_dict_items, t1, t2, Calls.callWith_builtin rfl (PySem.evalArgs_none ?_)⟩
  obtain ⟨z, y, vs, r, dd⟩ := dk_of I1.hok hH
  refine call_meetsIn PySem.F.slot_dict_items t1 PySem.F.entry_dict_items (PySem.F.args_dict_items_1 _) (meets_dict_items (mixKind X.prog X.w) a hd) ⟨⟨vs, dd⟩, ?_⟩
  have I2 : Inv X pins σ H1 { s1 with heap := s1.heap.push { cls := .type "dict_items", data := .fields #[.ref a] } } := I1.kept (t' := s1.toks) fun b o e => Heap.get?_push_of_some _ e
  have hna : ∀ o u, X.H₀ a ≠ some (.frz o u) := fun o u z => by
    have := I1.base.frzs a o u z
    rw [hH] at this
    cases this
  obtain ⟨ep, hat⟩ := dd.dictAt
  have hat2 := hat.push { cls := .type "dict_items", data := .fields #[.ref a] }
  refine wpAny_pyIter_items (v := s1.heap.objs.size) (d := a) ⟨_, Heap.get?_push_size _ rfl, rfl, rfl⟩ hat2 ?_
  obtain ⟨ob, hob, I3⟩ := (I2.kept (t' := s1.toks) (h' := (s1.heap.push { cls := .type "dict_items", data := .fields #[.ref a] }).push { cls := .type "dict_itemiterator", data := .fields #[.none, .bool false, .ref a, .int 0 0, .int vs.length 0, .int ep 0, .none, .none] }) fun b o e => Heap.get?_push_of_some _ e).freeze hH
  have la : a < (s1.heap.push { cls := .type "dict_items", data := .fields #[.ref a] }).objs.size := hat2.lt_size
  have hl : kvs.length = vs.length := KV.length r
  refine ⟨_, [_], _, _, upd H1 a (.frz ob (.dK kvs)), rfl, I3, turn_items a (s1.heap.push { cls := .type "dict_items", data := .fields #[.ref a] }).objs.size ob kvs (Nat.ne_of_lt la), ?_, fun b hb => ?_, q ob hna⟩
  · obtain ⟨o2, es, ho2, c1, c2, _⟩ := hat2
    have e3 : ob = o2 := by
      have e4 := Heap.get?_push_of_some { cls := .type "dict_itemiterator", data := .fields #[.none, .bool false, .ref a, .int 0 0, .int vs.length 0, .int ep 0, .none, .none] } ho2
      rw [e4] at hob
      exact (Option.some.inj hob).symm
    subst e3
    refine ⟨es, ep, .none, .none, c2, ?_⟩
    rw [hl]
    exact Heap.get?_push_size _ rfl
  · have e : b = (s1.heap.push { cls := .type "dict_items", data := .fields #[.ref a] }).objs.size := by simpa using hb
    subst e
    refine I2.fpOk (Nat.le_refl _) ?_
    rw [upd_ne (Nat.ne_of_gt la)]
    exact I2.hok.fresh (Nat.le_refl _)
def Thaw (X : Cx) (R : Hp → Prop) (H : Hp) : Prop := ∃ a ob kvs, H a = some (.frz ob (.dK kvs)) ∧ (∀ o u, X.H₀ a ≠ some (.frz o u)) ∧ R (upd H a (.dK kvs))
def ThawD (X : Cx) (D : Ends) : Ends := { nx := fun σ => Thaw X (D.nx σ), rt := fun v => Thaw X (D.rt v), bk := fun σ => Thaw X (D.bk σ), ct := fun σ => Thaw X (D.ct σ) }
def tForD (X : Cx) (td : TE) (g : TG) (tb : TS) : TS := fun D σ H => tFor (iItems X td) g tb (ThawD X D) σ H
theorem ps_forD {o : Expr} {td : TE} {elts : List Expr} {x1 : Nat} {pos apos cpos fpos : Pos} {body : List Stmt} {g : TG} {tb : TS} (hp : PassesOwn (model X.prog X.w) X.A X.env X.xe) (hc : X.calm = true) (ho : PE X o td)
    (hg : PG X (.Tuple elts x1 pos) g) (hb : PSs X body tb) (hbase : attributeBase o "items" X.env (eval o X.env) = eval o X.env := by rfl) (hline : (apos.endLine == cpos.line) = true := by rfl)
    (hs : ∀ x, foldedSetIterable (.Call (.Attribute o "items" apos) [] [] cpos) X.env x = pure x := by intro _; rfl) : PS X (.For (.Tuple elts x1 pos) (.Call (.Attribute o "items" apos) [] [] cpos) body [] fpos) (tForD X td g tb) := by
  intro pins s σ H D I h
  have base := ps_for (pos := fpos) hp hc (pi_items (elts := elts) (x1 := x1) (pos := pos) ho hbase hline) hg hb hs pins s σ H (ThawD X D) I h
  refine thn base fun f s' q => ?_
  cases f with
  | next => obtain ⟨σ', H', I', a, ob, kvs, e, hn, r⟩ := q; exact ⟨σ', _, I'.thaw e hn, r⟩
  | brk => obtain ⟨σ', H', I', a, ob, kvs, e, hn, r⟩ := q; exact ⟨σ', _, I'.thaw e hn, r⟩
  | cont => obtain ⟨σ', H', I', a, ob, kvs, e, hn, r⟩ := q; exact ⟨σ', _, I'.thaw e hn, r⟩
  | ret u => obtain ⟨v, σ', H', I', rv, a, ob, kvs, e, hn, r⟩ := q; exact ⟨v, σ', _, I'.thaw e hn, rv, r⟩
end
theorem for_items {a : Addr} {ob : Obj} {kvs : List (Key × V)} {g : TG} {tb : TS} {D : Ends} {σ : St} {H : Hp} (Pv : Nat → St → Hp → Prop) (h0 : Pv 0 σ H) (hl : ∀ i σ H, i ≤ kvs.length → Pv i σ H → H a = some (.frz ob (.dK kvs)))
    (hs : ∀ i k v σ H p, kvs[i]? = some (k, v) → Pv i σ H → H p = none → g (.ref p) σ (upd H p (.tup [kV k, v])) fun σ2 H2 => tb { D with nx := Pv (i + 1), ct := Pv (i + 1), bk := D.nx } σ2 H2) (hd : ∀ σ H, Pv kvs.length σ H → D.nx σ H) :
    ∃ W : Nat → Nat → St → Hp → Prop, (∃ m, W 0 m σ H) ∧ ∀ i m σ H, W i m σ H →
      ((Itd a ob kvs).stop i H ∧ D.nx σ H) ∨ ((Itd a ob kvs).go i H ∧ ∃ N : St → Hp → Prop, (∀ σ' H', N σ' H' → ∃ m', m' < m ∧ W (i + 1) m' σ' H') ∧ ∀ x H', (Itd a ob kvs).yld i H x H' → g x σ H' fun σ2 H2 => tb { D with nx := N, ct := N, bk := D.nx } σ2 H2) := by
  refine ⟨fun i m σ H => m = kvs.length - i ∧ i ≤ kvs.length ∧ Pv i σ H, ⟨kvs.length, by simp, Nat.zero_le _, h0⟩, ?_⟩
  rintro i m σ H ⟨rfl, hi, p⟩
  have q := hl i σ H hi p
  by_cases hlt : i < kvs.length
  · refine .inr ⟨⟨hlt, q⟩, Pv (i + 1), fun σ' H' p' => ⟨kvs.length - (i + 1), by omega, rfl, hlt, p'⟩, fun x H' y => ?_⟩
    obtain ⟨pa, k, v, e1, e2, rfl, rfl⟩ := y
    exact hs i k v σ H pa e1 p e2
  · have e : i = kvs.length := by omega
    subst e
    exact .inl ⟨⟨Nat.le_refl _, q⟩, hd σ H p⟩
section
variable {X : Cx}
theorem call_dictD : CallR X (.type "dict") (fun xs H Q => ∃ a kvs, xs = [.ref a] ∧ Rd H a (.dK kvs) ∧ ∀ p, H p = none → Q (.ref p) (upd H p (.dK kvs))) := by
  intro pins s σ H xs us Q I r h
  obtain ⟨a, kvs, rfl, ha, q⟩ := h
  obtain ⟨u, rfl, ru⟩ := vals1 r
  cases ru
  exact d_copyOf I ha fun p s' hp I' => ⟨.ref p, _, I', rfl, q p hp⟩
def clsV : V → Option Value
  | .ty n => some (.type n)
  | .ref a => some (.ref a)
  | _ => none
theorem call_isi : CallR X (.builtin "isinstance") (fun xs H Q => ∃ x c t b u, xs = [x, c] ∧ TyOf X.K H x t ∧ clsV c = some u ∧ PySem.W.kitOne X.K t u = some b ∧ Q (.bl b) H) := by
  intro pins s σ H xs us Q I r h
  obtain ⟨x, c, t, b, u, rfl, ty, rc, e, q⟩ := h
  obtain ⟨v, w', rfl, rx, rw'⟩ := vals2 r
  have ew : w' = u := by
    cases c with
    | ref a => cases rc; exact rw'
    | ty n => cases rc; exact rw'
    | non => cases rc
    | bl n => cases rc
    | int i => cases rc
    | str i => cases rc
    | byt i => cases rc
    | flt i => cases rc
  subst ew
  exact isinst_ok I rx ty e fun tk => ⟨.bl b, H, I.tok tk, rfl, q⟩
end
def All2 (R : V → V → Prop) : List V → List V → Prop
  | [], [] => True
  | x :: xs, y :: ys => R x y ∧ All2 R xs ys
  | _, _ => False
theorem All2.length {R : V → V → Prop} : ∀ {xs ys : List V}, All2 R xs ys → xs.length = ys.length
  | [], [], _ => rfl
  | _ :: xs, _ :: ys, h => by rw [List.length_cons, List.length_cons, All2.length h.2]
  | [], _ :: _, h => h.elim
  | _ :: _, [], h => h.elim
theorem All2.get {R : V → V → Prop} : ∀ {xs ys : List V} {j : Nat} {x y : V}, All2 R xs ys → xs[j]? = some x → ys[j]? = some y → R x y
  | x :: xs, y :: ys, 0, _, _, h, e1, e2 => by simp at e1 e2; subst e1 e2; exact h.1
  | _ :: xs, _ :: ys, j + 1, x, y, h, e1, e2 => All2.get (xs := xs) (ys := ys) (j := j) h.2 (by simpa using e1) (by simpa using e2)
  | [], [], _, _, _, _, e1, _ => by simp at e1
  | [], _ :: _, _, _, _, h, _, _ => h.elim
  | _ :: _, [], _, _, _, h, _, _ => h.elim
def EqT (K : PySem.W.Frag) (H : Hp) : Nat → V → V → Prop
  | 0, x, y => flatV x = true ∧ x = y
  | n + 1, x, y => (flatV x = true ∧ x = y) ∨ ∃ p q xs ys, x = .ref p ∧ y = .ref q ∧ ((SqT K H p xs ∧ SqT K H q ys) ∨ (SqL K H p xs ∧ SqL K H q ys)) ∧ All2 (EqT K H n) xs ys
theorem eqV_refl {x : V} (h : flatV x = true) : eqV x x = true := by
  cases x <;> first | rfl | (simp [eqV]; done) | (simp [flatV] at h)
theorem in1_units (A : Around) : A.in1.units = A.units + 1 := rfl
section
variable {X : Cx} {pins : List (Addr × Obj)} {σ : St} {H : Hp} {s : Shared}
theorem rcT_of {A : Around} {p q : Addr} {xs ys : List V} (I : Inv X pins σ H s) (hk : (SqT X.K H p xs ∧ SqT X.K H q ys) ∨ (SqL X.K H p xs ∧ SqL X.K H q ys)) (hu : A.units < cLine) (hl : xs.length = ys.length)
    (he : ∀ (j : Nat) x y u v, xs[j]? = some x → ys[j]? = some y → RelV x u → RelV y v → SeqAt.EqAt A.in1 s u v true) : SeqAt.RcAt A s (.ref p) (.ref q) true := by
  have fin : ∀ (its its2 : List Value), Vals xs its → Vals ys its2 → ∀ j (h1 : j < its.toArray.size) (h2 : j < its2.toArray.size), SeqAt.EqAt A.in1 s its.toArray[j] its2.toArray[j] true := by
    intro its its2 r1 r2 j h1 h2
    have l1 := r1.length
    have l2 := r2.length
    simp only [List.size_toArray] at h1 h2
    obtain ⟨u, hu1, ru⟩ := r1.get (i := j) (x := xs[j]'(by omega)) (by simp)
    obtain ⟨v, hv1, rv⟩ := r2.get (i := j) (x := ys[j]'(by omega)) (by simp)
    have e1 : its.toArray[j]'(by simpa using h1) = u := by
      have := List.getElem?_eq_some_iff.mp hu1
      obtain ⟨_, z⟩ := this
      simpa using z
    have e2 : its2.toArray[j]'(by simpa using h2) = v := by
      have := List.getElem?_eq_some_iff.mp hv1
      obtain ⟨_, z⟩ := this
      simpa using z
    rw [e1, e2]
    exact he j _ _ u v (by simp) (by simp) ru rv
  rcases hk with ⟨h1, h2⟩ | ⟨h1, h2⟩
  · obtain ⟨its, r1, t1, _⟩ := I.tuple h1
    obtain ⟨its2, r2, t2, _⟩ := I.tuple h2
    have l1 := r1.length
    have l2 := r2.length
    have z := SeqAt.RcAt.tuples (A := A) (e := fun _ => true) t1 t2 hu (fin its its2 r1 r2)
    have e : ((List.range (min its.toArray.size its2.toArray.size)).all (fun _ => true) && its.toArray.size == its2.toArray.size) = true := by
      simp only [List.size_toArray]
      simp
      omega
    rw [e] at z
    exact z
  · obtain ⟨its, r1, t1, _⟩ := I.list h1
    obtain ⟨its2, r2, t2, _⟩ := I.list h2
    have l1 := r1.length
    have l2 := r2.length
    have z := SeqAt.RcAt.lists (A := A) (e := fun _ => true) t1.isList t2.isList (by simp; omega) hu (fin its its2 r1 r2)
    have e : (List.range its.toArray.size).all (fun _ => true) = true := by simp
    rw [e] at z
    exact z
theorem eqT_at (I : Inv X pins σ H s) : ∀ (n : Nat) {A : Around} {x y : V} {u v : Value}, EqT X.K H n x y → RelV x u → RelV y v → A.units + n < cLine → SeqAt.EqAt A s u v true
  | 0, A, x, y, u, v, ⟨f, e⟩, ru, rv, _ => by
    subst e
    have z := eqAt_V (A := A) (s := s) ru rv f f
    rw [eqV_refl f] at z
    exact z
  | n + 1, A, x, y, u, v, .inl ⟨f, e⟩, ru, rv, _ => by
    subst e
    have z := eqAt_V (A := A) (s := s) ru rv f f
    rw [eqV_refl f] at z
    exact z
  | n + 1, A, x, y, u, v, .inr ⟨p, q, xs, ys, hx, hy, hk, al⟩, ru, rv, hu => by
    subst hx hy
    cases ru
    cases rv
    by_cases e : p = q
    · subst e
      exact SeqAt.EqAt.same _
    · refine SeqAt.EqAt.of_refs e (rcT_of I hk (by omega) al.length fun j x y u v h1 h2 r1 r2 => ?_)
      exact eqT_at I n (A := A.in1) (al.get h1 h2) r1 r2 (by rw [in1_units]; omega)
end
section
variable {X : Cx}
theorem valueAt_of {kvs : List (Key × V)} {vs : List (Key × Value)} {k : Key} {y : V} (r : KV kvs vs) (e : valV kvs k = some y) : ∃ u, valueAt vs k = some u ∧ RelV y u :=
  RelO.some_of (v := y) (o := valueAt vs k) (by rw [← e]; exact r.val k)
def DEqT (K : PySem.W.Frag) (H : Hp) (n : Nat) (ka kb : List (Key × V)) : Prop := ka.length = kb.length ∧ ∀ k v, (k, v) ∈ ka → ∃ y, valV kb k = some y ∧ EqT K H n v y
theorem hitsT {pins : List (Addr × Obj)} {σ : St} {H : Hp} {s : Shared} {A : Around} {n : Nat} {kb : List (Key × V)} {vb : List (Key × Value)} (I : Inv X pins σ H s) (hu : A.units + n < cLine) (rb : KV kb vb) :
    ∀ {ka : List (Key × V)} {va : List (Key × Value)}, KV ka va → (∀ k v, (k, v) ∈ ka → ∃ y, valV kb k = some y ∧ EqT X.K H n v y) → PySem.W.KeqHits A s vb va true := by
  intro ka va ra
  unfold KV at ra
  induction ra with
  | nil => intro _; exact .nil
  | @cons p q ps qs h t ih =>
    intro f
    obtain ⟨y, e1, e2⟩ := f p.1 p.2 (List.mem_cons_self ..)
    obtain ⟨u, e3, ru⟩ := valueAt_of rb e1
    have z := PySem.W.KeqHits.hit (A := A) (s := s) (k := q.1) (v := q.2) (y := u) (r := qs) (by rw [← h.1]; exact e3) (eqT_at I n (A := A) e2 h.2 ru hu) (ih fun k v m => f k v (List.mem_cons_of_mem _ m))
    simpa using z
def rEqD (K : PySem.W.Frag) (b : Bool) : R2 := fun x y H Q => ∃ n p q ka kb, n ≤ 40 ∧ x = .ref p ∧ y = .ref q ∧ Rd H p (.dK ka) ∧ Rd H q (.dK kb) ∧ DEqT K H n ka kb ∧ Q (.bl b) H
theorem op_neD (hu : X.A.units + 64 < cLine) : OpR X (compareOp .NotEq) (rEqD X.K false) := by
  intro pins s σ H x y v u Q I rx ry h
  obtain ⟨n, p, q, ka, kb, hn, rfl, rfl, h1, h2, ⟨hl, al⟩, hq⟩ := h
  cases rx
  cases ry
  obtain ⟨z1, y1, va, r1, d1⟩ := dk_rd I.hok h1
  obtain ⟨z2, y2, vb, r2, d2⟩ := dk_rd I.hok h2
  have l1 : ka.length = va.length := KV.length r1
  have l2 : kb.length = vb.length := KV.length r2
  refine PySem.W.keq_ne (r := true) y1 y2 d1 d2 (by omega) (fun _ => hitsT I (by rw [in1_units]; omega) r2 r1 al) ?_
  have e : (va.length == vb.length && true) = true := by simp; omega
  rw [e]
  exact ⟨.bl false, H, I, rfl, hq⟩
end
end L2
namespace L2
open PySem PySem.Spec PyProof.Rows
section
variable {σ : St} {H : Hp} {Q : VK} {D : Ends} {K : PySem.W.Frag}
theorem a_seq {t u : TS} (h : t { D with nx := u D } σ H) : tSeq t u D σ H := h
theorem a_seqM {t u : TS} (M : St → Hp → Prop) (h1 : ∀ R : St → Hp → Prop, (∀ σ H, M σ H → R σ H) → t { D with nx := R } σ H) (h2 : ∀ σ H, M σ H → u D σ H) : tSeq t u D σ H := h1 (u D) h2
theorem a_asg {te : TE} {g : TG} (h : te σ H fun x H1 => g x σ H1 D.nx) : tAsg te g D σ H := h
theorem a_name {i : Nat} {v : V} {R : St → Hp → Prop} (h : R (σ.set i (some v)) H) : gName i v σ H R := h
theorem a_ret {te : TE} (h : te σ H D.rt) : tRet te D σ H := h
theorem a_drop {te : TE} (h : te σ H fun _ H1 => D.nx σ H1) : tDrop te D σ H := h
theorem a_next (h : D.nx σ H) : tNext D σ H := h
theorem a_if {c : TT} {t u : TS} (h : c σ H fun b H1 => if b = true then t D σ H1 else u D σ H1) : tIfS c t u D σ H := h
theorem a_var {i : Nat} {v : V} (e : σ[i]? = some (some v)) (h : Q v H) : tVar i σ H Q := ⟨v, e, h⟩
theorem a_c {v : V} (h : Q v H) : tC v σ H Q := h
theorem a_op {r : R2} {ta tb : TE} (h : ta σ H fun x H1 => tb σ H1 fun y H2 => r x y H2 Q) : tOp r ta tb σ H Q := h
theorem a_un {r : V → Hp → VK → Prop} {ta : TE} (h : ta σ H fun x H1 => r x H1 Q) : tUn r ta σ H Q := h
theorem a_I0 {g : Int → Int → V} {i j : Int} (h : Q (g i j) H) : rI0 g (.int i) (.int j) H Q := ⟨i, j, rfl, rfl, h⟩
theorem a_I {C : Int → Int → Prop} {g : Int → Int → V} {i j : Int} (c : C i j) (h : Q (g i j) H) : rI C g (.int i) (.int j) H Q := ⟨i, j, rfl, rfl, c, h⟩
theorem a_U {g : Int → V} {i : Int} (h : Q (g i) H) : rU g (.int i) H Q := ⟨i, rfl, h⟩
theorem a_test {t : TE} {R : Bool → Hp → Prop} (h : t σ H fun x H' => ∃ k, x = .bl k ∧ R k H') : tTest t σ H R := h
theorem a_tB {t : TE} {R : Bool → Hp → Prop} (h : t σ H fun x H' => ∃ k, x = .bl k ∧ R k H') : tB t σ H R := h
theorem a_bl {k : Bool} {R : Bool → Prop} (h : R k) : ∃ k', V.bl k = .bl k' ∧ R k' := ⟨k, rfl, h⟩
theorem a_eqI {i j : Int} (h : Q (.bl (decide (i = j))) H) : rEq (.int i) (.int j) H Q := ⟨rfl, by rw [dec_int, Bool.beq_eq_decide_eq]; exact h⟩
theorem a_neI {i j : Int} (h : Q (.bl (!decide (i = j))) H) : rNe (.int i) (.int j) H Q := ⟨rfl, by rw [dec_int, Bool.beq_eq_decide_eq]; exact h⟩
theorem a_eqB {i j : Bool} (h : Q (.bl (i == j)) H) : rEq (.bl i) (.bl j) H Q := ⟨rfl, by rw [dec_bl]; exact h⟩
theorem a_neB {i j : Bool} (h : Q (.bl (!(i == j))) H) : rNe (.bl i) (.bl j) H Q := ⟨rfl, by rw [dec_bl]; exact h⟩
theorem a_call {sp : Sp} {dvs : List V} {E : XK} {t : TA} (h : t σ H fun vs H1 => sp (vs ++ dvs) H1 Q E) : tCall sp dvs E t σ H Q := h
theorem a_cons {ta : TE} {tr : TA} {R : List V → Hp → Prop} (h : ta σ H fun x H1 => tr σ H1 fun xs H2 => R (x :: xs) H2) : tCons ta tr σ H R := h
theorem a_nil {R : List V → Hp → Prop} (h : R [] H) : tNil σ H R := h
theorem a_cb {r : List V → Hp → VK → Prop} {t : TA} (h : t σ H fun vs H1 => r vs H1 Q) : tCB r t σ H Q := h
theorem a_tup {t : TA} (h : t σ H fun xs H1 => xs.length ≤ sizeLine ∧ ∀ p, H1 p = none → Q (.ref p) (upd H1 p (.tup xs))) : tTup t σ H Q := h
theorem a_lst {t : TA} (h : t σ H fun xs H1 => xs.length ≤ sizeLine ∧ ∀ p, H1 p = none → Q (.ref p) (upd H1 p (.lst xs))) : tLst t σ H Q := h
theorem a_ixT {p : Addr} {xs : List V} {i : Int} {v : V} (h : SqT K H p xs) (e : atI xs i = some v) (q : Q v H) : rIxT K (.ref p) (.int i) H Q := ⟨p, xs, i, v, rfl, rfl, h, e, q⟩
theorem a_ixL {p : Addr} {xs : List V} {i : Int} {v : V} (h : SqL K H p xs) (e : atI xs i = some v) (q : Q v H) : rIxL K (.ref p) (.int i) H Q := ⟨p, xs, i, v, rfl, rfl, h, e, q⟩
theorem a_and {t u : TT} {R : Bool → Hp → Prop} (h : t σ H fun c H1 => if c = true then u σ H1 R else R false H1) : tAnd t u σ H R := h
theorem a_or {t u : TT} {R : Bool → Hp → Prop} (h : t σ H fun c H1 => if c = true then R true H1 else u σ H1 R) : tOr t u σ H R := h
theorem a_not {t : TT} {R : Bool → Hp → Prop} (h : t σ H fun c H1 => R (!c) H1) : tNot t σ H R := h
theorem a_andV {ta tb : TE} (h : ta σ H fun x H1 => ∃ c, x = .bl c ∧ if c = true then tb σ H1 Q else Q (.bl false) H1) : tAndV ta tb σ H Q := h
theorem a_orV {ta tb : TE} (h : ta σ H fun x H1 => ∃ c, x = .bl c ∧ if c = true then Q (.bl true) H1 else tb σ H1 Q) : tOrV ta tb σ H Q := h
theorem a_notV {ta : TE} (h : ta σ H fun x H1 => ∃ c, x = .bl c ∧ Q (.bl (!c)) H1) : tNotV ta σ H Q := h
theorem a_ifE {t : TT} {ta tb : TE} (h : t σ H fun c H1 => if c = true then ta σ H1 Q else tb σ H1 Q) : tIf t ta tb σ H Q := h
theorem a_par {i j : Nat} {ta : TA} (h : ta σ H fun vs H1 => ∃ v w, vs = [v, w] ∧ D.nx ((σ.set i (some v)).set j (some w)) H1) : tPar i j ta D σ H := h
theorem a_par2 {i j : Nat} {v w : V} {R : St → Hp → Prop} (h : R ((σ.set i (some v)).set j (some w)) H) : ∃ v' w', [v, w] = [v', w'] ∧ R ((σ.set i (some v')).set j (some w')) H := ⟨v, w, rfl, h⟩
theorem iteD {c : Prop} [Decidable c] {A B : Prop} (h1 : c → A) (h2 : ¬ c → B) : if decide c = true then A else B := by
  by_cases h : c
  · rw [decide_eq_true h]; exact iteT (h1 h)
  · rw [decide_eq_false h]; exact iteF (h2 h)
theorem iteDN {c : Prop} [Decidable c] {A B : Prop} (h1 : ¬ c → A) (h2 : c → B) : if (!decide c) = true then A else B := by
  by_cases h : c
  · rw [decide_eq_true h]; exact iteF (h2 h)
  · rw [decide_eq_false h]; exact iteT (h1 h)
theorem iteDF {c : Prop} [Decidable c] {A B : Prop} (hc : ¬ c) (h : B) : if decide c = true then A else B := by rw [decide_eq_false hc]; exact iteF h
theorem iteNT {A B : Prop} (h : B) : if (!true) = true then A else B := iteF h
theorem Same.upd {a : Addr} {o : HO} (h : H a = none) : Same H (upd H a o) := fun b u e => by rw [upd_ne (ne_of_none e h)]; exact e
theorem Same.tup {H' : Hp} {a : Addr} {xs : List V} (e : Same H H') (h : SqT K H a xs) : SqT K H' a xs := by
  rcases h with (h | ⟨o, h⟩) | h
  · exact .inl (.inl (e _ _ h))
  · exact .inl (.inr ⟨o, e _ _ h⟩)
  · exact .inr h
theorem Same.rd {H' : Hp} {a : Addr} {u : HO} (e : Same H H') (h : Rd H a u) : Rd H' a u := by
  rcases h with h | ⟨o, h⟩
  · exact .inl (e _ _ h)
  · exact .inr ⟨o, e _ _ h⟩
theorem Same.thaw {H' : Hp} {a : Addr} {ob : Obj} {kvs : List (Key × V)} (h : H a = some (.dK kvs)) (e : Same (L2.upd H a (.frz ob (.dK kvs))) H') : Same H (L2.upd H' a (.dK kvs)) := fun b o q => by
  by_cases hb : b = a
  · subst hb; rw [upd_same]; rw [h] at q; exact q
  · rw [upd_ne hb]; exact e b o (by rw [upd_ne hb]; exact q)
end
end L2
namespace L2
open PySem PySem.Spec PyProof.Rows
section
variable {σ : St} {H : Hp} {Q : VK} {D : Ends} {K : PySem.W.Frag} {X : Cx}
theorem a_forD {td : TE} {g : TG} {tb : TS} (h : td σ H fun x H1 => ∃ a kvs, x = .ref a ∧ H1 a = some (.dK kvs) ∧ ∀ ob, (∀ o u, X.H₀ a ≠ some (.frz o u)) → ∃ W : Nat → Nat → St → Hp → Prop, (∃ m, W 0 m σ (upd H1 a (.frz ob (.dK kvs)))) ∧ ∀ i m σ H, W i m σ H →
      ((Itd a ob kvs).stop i H ∧ (ThawD X D).nx σ H) ∨ ((Itd a ob kvs).go i H ∧ ∃ N : St → Hp → Prop, (∀ σ' H', N σ' H' → ∃ m', m' < m ∧ W (i + 1) m' σ' H') ∧ ∀ x H', (Itd a ob kvs).yld i H x H' → g x σ H' fun σ2 H2 => tb { ThawD X D with nx := N, ct := N, bk := (ThawD X D).nx } σ2 H2)) :
    tForD X td g tb D σ H := h
theorem a_gtup2 {i j : Nat} {p : Addr} {x y : V} {R : St → Hp → Prop} (h : SqT K H p [x, y]) (q : R ((σ.set i (some x)).set j (some y)) H) : gTup K 2 (gCons (gName i) (gCons (gName j) gNil)) (.ref p) σ H R :=
  ⟨p, [x, y], rfl, h, rfl, x, [y], rfl, y, [], rfl, rfl, q⟩
theorem a_dput {td ty tv : TE} (h : tv σ H fun v H1 => td σ H1 fun x H2 => ty σ H2 fun y H3 => ∃ a H4, x = .ref a ∧ DPut H3 a y v H4 ∧ D.nx σ H4) : sDPut td ty tv D σ H := h
theorem a_dputK {a : Addr} {x : Str} {v : V} {kvs : List (Key × V)} {R : Hp → Prop} (h : H a = some (.dK kvs)) (hl : kvs.length < 100000) (q : R (upd H a (.dK (putK kvs (Sum.inr x) v)))) : ∃ a' H4, V.ref a = .ref a' ∧ DPut H a' (.str x) v H4 ∧ R H4 :=
  ⟨a, _, rfl, DPut.k (k := Sum.inr x) h (Nat.lt_trans hl (by decide)), q⟩
theorem a_dget {td ty : TE} (h : td σ H fun x H1 => ty σ H1 fun y H2 => ∃ a v, x = .ref a ∧ DGet H2 a y (some v) ∧ Q v H2) : tDGet td ty σ H Q := h
theorem a_dgetK {a : Addr} {x : Str} {v : V} {kvs : List (Key × V)} {R : V → Prop} (h : Rd H a (.dK kvs)) (e : valV kvs (Sum.inr x : Key) = some v) (q : R v) : ∃ a' v', V.ref a = .ref a' ∧ DGet H a' (kV (Sum.inr x)) (some v') ∧ R v' :=
  ⟨a, v, rfl, .inl ⟨kvs, Sum.inr x, h, rfl, e.symm⟩, q⟩
theorem Same.updN {H' : Hp} {a : Addr} {o : HO} (e : Same H H') (n : H a = none) : Same H (L2.upd H' a o) := fun b u q => by rw [upd_ne (ne_of_none q n)]; exact e b u q
theorem a_sl {r : V → Option Int → Option Int → Hp → VK → Prop} {te : TE} {tl th : TO} (h : te σ H fun x H1 => tl σ H1 fun l H2 => th σ H2 fun u H3 => r x l u H3 Q) : tSl r te tl th σ H Q := h
theorem a_part {t : TE} {R : Option Int → Hp → Prop} (h : t σ H fun x H1 => ∃ i, x = .int i ∧ R (some i) H1) : tPart t σ H R := h
theorem a_pint {i : Int} {R : Int → Prop} (h : R i) : ∃ i', V.int i = .int i' ∧ R i' := ⟨i, rfl, h⟩
theorem a_noPart {R : Option Int → Hp → Prop} (h : R none H) : tNoPart σ H R := h
end
end L2
namespace L2
open PySem PySem.Spec PyProof.Rows
def EqW (P : Program) (w : World) (A : Around) (s : Shared) (u v : Value) : Prop := ∀ (E : Value → Shared → Prop) (Q : Bool → Shared → Prop), Q true s → wpAny (model P w) A (eqBool u v) Q E s
def RcW (P : Program) (w : World) (A : Around) (s : Shared) (u v : Value) : Prop := ∀ (E : Value → Shared → Prop) (Q : Value → Shared → Prop), Q (.bool true) s → wpAny (model P w) A (richCompare .Eq u v) Q E s
section
variable {P : Program} {w : World} {A : Around} {s : Shared}
theorem EqW.of_refs {a b : Addr} (h : RcW P w A s (.ref a) (.ref b)) : EqW P w A s (.ref a) (.ref b) := fun E Q q => by
  by_cases e : a = b
  · subst e
    exact SeqAt.EqAt.same _ P w E Q q
  · unfold eqBool
    refine wpAny_holding (wpAny_ite_split (fun z => absurd (Value.ref.inj (eq_of_beq z)) e) fun _ => ?_)
    exact wpAny_bind (h E _ (wpAny_truthy_bool q))
section
open PySem.AutoSeq1 (wpAny_loadPart')
theorem tupW (a b : Addr) (xs ys : Array Value) (n m : Nat) (da db : Option Addr) (sa sb : Array (Option Value)) (hz : xs.size = ys.size) :
    MeetsIn P w (Builtin.«tuple.__eq__» ⟨[.ref a, .ref b], []⟩) (fun A R s => s.heap.get? a = some ⟨.type "tuple", da, .seq xs n, sa⟩ ∧ s.heap.get? b = some ⟨.type "tuple", db, .seq ys m, sb⟩ ∧
      (∀ j (h1 : j < xs.size) (h2 : j < ys.size), EqW P w A.in1 s xs[j] ys[j]) ∧ R (.ok (.ret (.bool true))) s) := by
  refine .of_wp fun A R s h => ?_
  obtain ⟨hp, g, d, tk, os⟩ := s
  obtain ⟨ha, hb, he, hR⟩ := h
  have sub := AutoSeq1.sub_tuple_tuple
  have len : (xs.toList.zip ys.toList).length = xs.size := by simp; omega
  wp_walk using wpAny_loadPart' ha, wpAny_loadPart' hb, wpAny_forIn_list _ (fun r c s' => c.1 = none ∧ s' = ⟨hp, g, d, tk, os⟩ ∧ ∃ i, r = (xs.toList.zip ys.toList).drop i) _
  case turn =>
    rintro ⟨x, y⟩ r c s' ⟨hc, rfl, i, hr⟩
    by_cases lt : i < (xs.toList.zip ys.toList).length
    · rw [List.drop_eq_getElem_cons lt] at hr
      injection hr with e1 e2
      have i1 : i < xs.size := by omega
      have i2 : i < ys.size := by omega
      obtain ⟨ex, ey⟩ : x = xs[i] ∧ y = ys[i] := by
        have z := Prod.mk.inj (e1.trans List.getElem_zip)
        exact ⟨by simpa using z.1, by simpa using z.2⟩
      subst ex ey
      refine wpAny_bind (he i i1 i2 _ _ ?_)
      wp_walk
      exact ⟨rfl, rfl, i + 1, e2⟩
    · rw [List.drop_of_length_le (by omega)] at hr
      cases hr
  case fin =>
    rintro ⟨c1, c2⟩ s' ⟨hc, rfl, _⟩
    simp only at hc
    subst hc
    wp_walk
    refine ⟨_, rfl, ?_⟩
    simpa [Builtin.Tuple.tupleCompareSizes, hz] using hR
  case h => exact ⟨rfl, rfl, 0, rfl⟩
end
theorem RcW.tuples {a b : Addr} {xs ys : Array Value} (ha : IsTup s.heap a xs) (hb : IsTup s.heap b ys) (hz : xs.size = ys.size) (hu : A.units < cLine) (he : ∀ j (h1 : j < xs.size) (h2 : j < ys.size), EqW P w A.in1 s xs[j] ys[j]) : RcW P w A s (.ref a) (.ref b) := fun E Q q => by
  obtain ⟨⟨ca, da, xa, sa⟩, oa, ka, n, va⟩ := id ha
  obtain ⟨⟨cb, db, xb, sb⟩, ob, kb, m, vb⟩ := id hb
  simp only at ka va kb vb
  subst ka va kb vb
  refine wpAny_richCompare_same_room (op := .Eq) (T := "tuple") ⟨_, oa, rfl⟩ ⟨_, ob, rfl⟩ PySem.F.slot_tuple_eq ?_ hu
  exact call_meetsIn PySem.F.slot_tuple_eq ⟨_, oa, rfl⟩ PySem.F.entry_tuple_eq (PySem.F.args_tuple_eq_2 _ _) (tupW a b xs ys n m da db sa sb hz) ⟨oa, ob, he, ⟨(fun z => nomatch z), q⟩⟩
section
open PySem.AutoSeq1 (wpAny_loadPart')
open PySem.MeetsSeq PySem.MeetsSeq2 PySem.MeetsSeq3 PySem.SeqRoads2 PySem.SeqAt
theorem lstLoopW (a b : Addr) (xs ys : Array Value) (n m : Nat) (da db : Option Addr) (sa sb : Array (Option Value)) (hz : xs.size = ys.size) : ∀ (k i : Nat), xs.size - i = k →
    MeetsIn P w (Builtin.«list.__eq__.loop» ⟨[.ref a, .ref b, rawInt i, rawInt 2], []⟩) (fun A R s => s.heap.get? a = some ⟨.type "list", da, .seq xs n, sa⟩ ∧ s.heap.get? b = some ⟨.type "list", db, .seq ys m, sb⟩ ∧
      (∀ j (h1 : j < xs.size) (h2 : j < ys.size), EqW P w A.in1 s xs[j] ys[j]) ∧ R (.ok (.ret (.bool true))) s)
  | 0, i, hk => fun A R s h => by
    obtain ⟨hp, g, d, tk, os⟩ := s
    obtain ⟨ha, hb, he, hR⟩ := h
    wp_walk using wpAny_loadPart' ha, wpAny_loadPart' hb
    have z1 : xs[((i : Nat) : Int).toNat]? = none := by simp; omega
    have z2 : ys[((i : Nat) : Int).toNat]? = none := by simp; omega
    rw [z1, z2]
    wp_walk using wpAny_loadPart' ha, wpAny_loadPart' hb
    show R (.ok (.ret (.bool (xs.size == ys.size)))) _
    rw [hz, beq_self_eq_true]
    exact hR
  | k + 1, i, hk => fun A R s h => by
    obtain ⟨hp, g, d, tk, os⟩ := s
    obtain ⟨ha, hb, he, hR⟩ := h
    wp_walk using wpAny_loadPart' ha, wpAny_loadPart' hb
    have i1 : i < xs.size := by omega
    have i2 : i < ys.size := by omega
    have z1 : xs[((i : Nat) : Int).toNat]? = some xs[i] := by simp [i1]
    have z2 : ys[((i : Nat) : Int).toNat]? = some ys[i] := by simp [i2]
    rw [z1, z2]
    refine wpAny_bind (he i i1 i2 _ _ ?_)
    wp_walk
    have up : ((i : Int) + 1) = ((i + 1 : Nat) : Int) := Int.natCast_succ i
    rw [up]
    refine ⟨plainId_quiet plain_eq_loop _, codeAny_builtin entry_eq_loop ?_⟩
    rw [Around.under_plainId plain_eq_loop _]
    exact lstLoopW a b xs ys n m da db sa sb hz k (i + 1) (by omega) A R _ ⟨ha, hb, he, hR⟩
theorem lstW (a b : Addr) (xs ys : Array Value) (n m : Nat) (da db : Option Addr) (sa sb : Array (Option Value)) (hz : xs.size = ys.size) :
    MeetsIn P w (Builtin.«list.__eq__» ⟨[.ref a, .ref b], []⟩) (fun A R s => s.heap.get? a = some ⟨.type "list", da, .seq xs n, sa⟩ ∧ s.heap.get? b = some ⟨.type "list", db, .seq ys m, sb⟩ ∧
      (∀ j (h1 : j < xs.size) (h2 : j < ys.size), EqW P w A.in1 s xs[j] ys[j]) ∧ R (.ok (.ret (.bool true))) s) := fun A R s h => by
  obtain ⟨hp, g, d, tk, os⟩ := s
  obtain ⟨ha, hb, he, hR⟩ := h
  have sub := AutoSeq1.sub_list_list
  have same : ¬ (xs.size != ys.size) = true := by simp [hz]
  wp_walk using wpAny_loadPart' ha, wpAny_loadPart' hb
  refine ⟨plainId_quiet plain_eq_loop _, codeAny_builtin entry_eq_loop ?_⟩
  rw [Around.under_plainId plain_eq_loop _]
  exact lstLoopW a b xs ys n m da db sa sb hz _ 0 rfl A R _ ⟨ha, hb, he, hR⟩
end
theorem RcW.lists {a b : Addr} {xs ys : Array Value} (ha : s.heap.IsList a xs) (hb : s.heap.IsList b ys) (hz : xs.size = ys.size) (hu : A.units < cLine) (he : ∀ j (h1 : j < xs.size) (h2 : j < ys.size), EqW P w A.in1 s xs[j] ys[j]) : RcW P w A s (.ref a) (.ref b) := fun E Q q => by
  obtain ⟨⟨ca, da, xa, sa⟩, oa, ka, n, va⟩ := id ha
  obtain ⟨⟨cb, db, xb, sb⟩, ob, kb, m, vb⟩ := id hb
  simp only at ka va kb vb
  subst ka va kb vb
  refine wpAny_richCompare_same_room (op := .Eq) (T := "list") ⟨_, oa, rfl⟩ ⟨_, ob, rfl⟩ PySem.F.slot_list_eq ?_ hu
  exact call_meetsIn PySem.F.slot_list_eq ⟨_, oa, rfl⟩ PySem.F.entry_list_eq (PySem.F.args_list_eq_2 _ _) (lstW a b xs ys n m da db sa sb hz) ⟨oa, ob, he, ⟨(fun z => nomatch z), q⟩⟩
end
def EqN (K : PySem.W.Frag) (H : Hp) : Nat → V → V → Prop
  | 0, x, y => flatV x = true ∧ x = y
  | n + 1, x, y => (flatV x = true ∧ x = y) ∨ ∃ p q, x = .ref p ∧ y = .ref q ∧ ((∃ xs ys, ((SqT K H p xs ∧ SqT K H q ys) ∨ (SqL K H p xs ∧ SqL K H q ys)) ∧ All2 (EqN K H n) xs ys) ∨
      ∃ ka kb, Rd H p (.dK ka) ∧ Rd H q (.dK kb) ∧ DEqT K H n ka kb)
section
variable {X : Cx} {pins : List (Addr × Obj)} {σ : St} {H : Hp} {s : Shared}
end
section
variable {X : Cx}
end
end L2
namespace Sf
def gd (a b : Int) : Int := (Int.gcd a b : Nat)
theorem gd_zero (a : Int) (h : 0 ≤ a) : gd a 0 = a := by
  unfold gd; rw [Int.gcd_zero_right]; omega
theorem gd_mod {a b : Int} (ha : 0 ≤ a) (hb : 0 < b) : gd b (a % b) = gd a b := by
  unfold gd Int.gcd
  have e : (a % b).natAbs = a.natAbs % b.natAbs := by
    obtain ⟨m, rfl⟩ := Int.eq_ofNat_of_zero_le ha
    obtain ⟨n, rfl⟩ := Int.eq_ofNat_of_zero_le (Int.le_of_lt hb)
    simp only [Int.natAbs_natCast]
    rw [← Int.natCast_emod, Int.natAbs_natCast]
  rw [e, Nat.gcd_comm b.natAbs, Nat.gcd_comm a.natAbs, Nat.gcd_rec b.natAbs a.natAbs]
theorem gd_pos {a b : Int} (h : b ≠ 0) : 0 < gd a b := by
  unfold gd
  have := Int.gcd_pos_of_ne_zero_right a h
  omega
theorem gd_abs (a b : Int) : gd (a.natAbs : Int) (b.natAbs : Int) = gd a b := by
  unfold gd; simp [Int.gcd]
theorem abs_if (a : Int) : (if a < 0 then -a else a) = (a.natAbs : Int) := by split <;> omega
theorem gd_abs' (a b : Int) : gd (if a < 0 then -a else a) (if b < 0 then -b else b) = gd a b := by
  rw [abs_if, abs_if, gd_abs]
def dv (t b : Int) : Int := if b < 0 then -(gd t b) else gd t b
theorem dv_ne {t b : Int} (h : b ≠ 0) : dv t b ≠ 0 := by
  have := gd_pos (a := t) h
  unfold dv; split <;> omega
theorem gd_dvd_l (t b : Int) : gd t b ∣ t := Int.gcd_dvd_left ..
theorem gd_dvd_r (t b : Int) : gd t b ∣ b := Int.gcd_dvd_right ..
theorem dv_dvd_l (t b : Int) : dv t b ∣ t := by
  unfold dv; split
  · exact Int.neg_dvd.mpr (gd_dvd_l t b)
  · exact gd_dvd_l t b
theorem dv_dvd_r (t b : Int) : dv t b ∣ b := by
  unfold dv; split
  · exact Int.neg_dvd.mpr (gd_dvd_r t b)
  · exact gd_dvd_r t b
theorem fd_ex {x d : Int} (h : d ∣ x) : x.fdiv d * d = x := by
  rw [Int.fdiv_mul_cancel h]
theorem part_num {t b : Int} (h : b ≠ 0) : t.fdiv (dv t b) = (Rat.divInt t b).num := by
  have hd := dv_ne (t := t) h
  refine Int.eq_of_mul_eq_mul_right hd ?_
  rw [fd_ex (dv_dvd_l t b), Rat.num_divInt]
  have e : b.gcd t = t.gcd b := Int.gcd_comm ..
  rw [e]
  have hg : ((t.gcd b : Nat) : Int) ∣ t := Int.gcd_dvd_left ..
  have hp := gd_pos (a := t) h
  unfold gd at hp
  unfold dv gd
  rw [Int.mul_ediv_assoc _ hg]
  obtain ⟨k, hk⟩ := hg
  generalize hG : ((t.gcd b : Nat) : Int) = g at *
  have hk2 : t / g = k := by rw [hk]; exact Int.mul_ediv_cancel_left k (by omega)
  rw [hk2]
  split
  · rename_i hb
    rw [Int.sign_eq_neg_one_of_neg hb]; grind
  · rename_i hb
    rw [Int.sign_eq_one_of_pos (by omega)]; grind
theorem part_den {t b : Int} (h : b ≠ 0) : b.fdiv (dv t b) = ((Rat.divInt t b).den : Int) := by
  have hd := dv_ne (t := t) h
  refine Int.eq_of_mul_eq_mul_right hd ?_
  rw [fd_ex (dv_dvd_r t b), Rat.den_divInt, if_neg h]
  have e : b.gcd t = t.gcd b := Int.gcd_comm ..
  rw [e]
  have hg : (t.gcd b) ∣ b.natAbs := by rw [← Int.ofNat_dvd_left]; exact Int.gcd_dvd_right ..
  have hp := gd_pos (a := t) h
  unfold gd at hp
  unfold dv gd
  obtain ⟨k, hk⟩ := hg
  have hk2 : b.natAbs / t.gcd b = k := by rw [hk]; exact Nat.mul_div_cancel_left k (by omega)
  rw [hk2]
  generalize t.gcd b = g at *
  have hk3 : (b.natAbs : Int) = (g : Int) * (k : Int) := by rw [hk]; exact Int.natCast_mul ..
  split <;> grind
theorem den_pos (q : Rat) : 0 < (q.den : Int) := by have := q.den_nz; omega
end Sf
namespace Sf
def Sm (n : Nat) (q : Rat) : Prop := q.num.natAbs < 2 ^ n ∧ q.den < 2 ^ n
theorem Sm.mono {n m : Nat} {q : Rat} (h : Sm n q) (k : n ≤ m) : Sm m q :=
  ⟨Nat.lt_of_lt_of_le h.1 (Nat.pow_le_pow_right (by decide) k), Nat.lt_of_lt_of_le h.2 (Nat.pow_le_pow_right (by decide) k)⟩
theorem divInt_le {t b : Int} (h : b ≠ 0) : (Rat.divInt t b).num.natAbs ≤ t.natAbs ∧ (Rat.divInt t b).den ≤ b.natAbs := by
  obtain ⟨m, hm, e1, e2⟩ := Rat.divInt_num_den (n := t) (d := b) h (n' := (Rat.divInt t b).num) (d' := (Rat.divInt t b).den) (z' := (Rat.divInt t b).den_nz) (c := (Rat.divInt t b).reduced) rfl
  have hm1 : 1 ≤ m.natAbs := by omega
  have a1 := congrArg Int.natAbs e1
  have a2 := congrArg Int.natAbs e2
  rw [Int.natAbs_mul] at a1 a2
  rw [Int.natAbs_natCast] at a2
  constructor
  · rw [a1]; exact Nat.le_mul_of_pos_right _ hm1
  · rw [a2]; exact Nat.le_mul_of_pos_right _ hm1
theorem sm_divInt {n : Nat} {t b : Int} (h : b ≠ 0) (h1 : t.natAbs < 2 ^ n) (h2 : b.natAbs < 2 ^ n) : Sm n (Rat.divInt t b) :=
  ⟨Nat.lt_of_le_of_lt (divInt_le h).1 h1, Nat.lt_of_le_of_lt (divInt_le h).2 h2⟩
theorem add_divInt (a b : Rat) : a + b = Rat.divInt (a.num * b.den + b.num * a.den) (a.den * b.den) := by
  rw [Rat.add_def', ← Rat.divInt_ofNat]
  rfl
theorem mul_divInt (a b : Rat) : a * b = Rat.divInt (a.num * b.num) (a.den * b.den) := by
  rw [Rat.mul_def', ← Rat.divInt_ofNat]
  rfl
theorem dens_ne (a b : Rat) : (a.den * b.den : Int) ≠ 0 := by
  have h1 := den_pos a
  have h2 := den_pos b
  exact Int.ne_of_gt (Int.mul_pos h1 h2)
theorem lt_mul {x y n m : Nat} (h1 : x < 2 ^ n) (h2 : y < 2 ^ m) : x * y < 2 ^ (n + m) := by
  rw [Nat.pow_add]
  exact Nat.mul_lt_mul'' h1 h2
theorem abs_mul_lt {x y : Int} {n m : Nat} (h1 : x.natAbs < 2 ^ n) (h2 : y.natAbs < 2 ^ m) : (x * y).natAbs < 2 ^ (n + m) := by
  rw [Int.natAbs_mul]; exact lt_mul h1 h2
theorem abs_add_lt {x y : Int} {n : Nat} (h1 : x.natAbs < 2 ^ n) (h2 : y.natAbs < 2 ^ n) : (x + y).natAbs < 2 ^ (n + 1) := by
  rw [Nat.pow_succ]; omega
theorem den_abs {n : Nat} {q : Rat} (h : Sm n q) : (q.den : Int).natAbs < 2 ^ n := by rw [Int.natAbs_natCast]; exact h.2
theorem up2 {x : Int} {n m : Nat} (h : x.natAbs < 2 ^ n) (k : n ≤ m) : x.natAbs < 2 ^ m := Nat.lt_of_lt_of_le h (Nat.pow_le_pow_right (by decide) k)
theorem sm_add {n m : Nat} {a b : Rat} (h1 : Sm n a) (h2 : Sm m b) : Sm (n + m + 1) (a + b) := by
  rw [add_divInt]
  refine sm_divInt (dens_ne a b) ?_ ?_
  · refine abs_add_lt (abs_mul_lt h1.1 (den_abs h2)) ?_
    rw [Nat.add_comm n m]; exact abs_mul_lt h2.1 (den_abs h1)
  · exact up2 (abs_mul_lt (den_abs h1) (den_abs h2)) (by omega)
theorem sm_mul {n m : Nat} {a b : Rat} (h1 : Sm n a) (h2 : Sm m b) : Sm (n + m) (a * b) := by
  rw [mul_divInt]
  exact sm_divInt (dens_ne a b) (abs_mul_lt h1.1 h2.1) (abs_mul_lt (den_abs h1) (den_abs h2))
theorem sm_zero : Sm 1 0 := ⟨by decide, by decide⟩
end Sf
namespace Sf
section
variable {κ : Type} [DecidableEq κ]
abbrev FL (κ : Type) := List (κ × Rat)
def gt (m : FL κ) (k : κ) : Option Rat := (m.find? fun p => decide (p.1 = k)).map (·.2)
def pt (m : FL κ) (k : κ) (q : Rat) : FL κ := if (m.any fun p => decide (p.1 = k)) = true then m.map (fun p => if p.1 = k then (p.1, q) else p) else m ++ [(k, q)]
def dr (m : FL κ) (k : κ) : FL κ := m.filter fun p => decide (p.1 ≠ k)
def sc (m : FL κ) (n : Rat) : FL κ := m.map fun p => (p.1, p.2 * n)
def val : FL κ → (κ → Rat) → Rat
  | [], _ => 0
  | p :: r, P => p.2 * P p.1 + val r P
def Nd (m : FL κ) : Prop := (m.map (·.1)).Nodup
theorem gt_nil (k : κ) : gt ([] : FL κ) k = none := rfl
theorem gt_pos {p : κ × Rat} {r : FL κ} {k : κ} (e : p.1 = k) : gt (p :: r) k = some p.2 := by simp [gt, List.find?_cons, e]
theorem gt_neg {p : κ × Rat} {r : FL κ} {k : κ} (e : ¬ p.1 = k) : gt (p :: r) k = gt r k := by simp [gt, List.find?_cons, e]
theorem gt_any (k : κ) : ∀ m : FL κ, (m.any fun p => decide (p.1 = k)) = (gt m k).isSome
  | [] => rfl
  | p :: r => by
    rw [List.any_cons]
    by_cases e : p.1 = k
    · simp [gt_pos e, e]
    · rw [gt_neg e, gt_any k r]; simp [e]
theorem gt_of_mem {k : κ} {q : Rat} : ∀ {m : FL κ}, Nd m → (k, q) ∈ m → gt m k = some q
  | p :: r, n, h => by
    obtain ⟨n1, n2⟩ := List.nodup_cons.mp (show (p.1 :: r.map (·.1)).Nodup from n)
    rcases List.mem_cons.mp h with e | h
    · subst e; exact gt_pos rfl
    · have ne : ¬ p.1 = k := fun z => n1 (by rw [z]; exact List.mem_map.mpr ⟨_, h, rfl⟩)
      rw [gt_neg ne]; exact gt_of_mem n2 h
theorem gt_repl (k j : κ) (q : Rat) : ∀ m : FL κ, gt (m.map (fun p => if p.1 = k then (p.1, q) else p)) j = (gt m j).map fun x => if j = k then q else x
  | [] => rfl
  | p :: r => by
    have ih := gt_repl k j q r
    rw [List.map_cons]
    by_cases h : p.1 = k
    · rw [if_pos h]
      by_cases e : p.1 = j
      · rw [gt_pos (p := (p.1, q)) e, gt_pos e]; simp [← e, h]
      · rw [gt_neg (p := (p.1, q)) e, gt_neg e, ih]
    · rw [if_neg h]
      by_cases e : p.1 = j
      · rw [gt_pos e, gt_pos e]; simp [← e, h]
      · rw [gt_neg e, gt_neg e, ih]
theorem gt_snoc (k j : κ) (q : Rat) : ∀ m : FL κ, gt m k = none → gt (m ++ [(k, q)]) j = if j = k then some q else gt m j
  | [], _ => by
    by_cases e : k = j
    · rw [if_pos e.symm]; exact gt_pos (p := (k, q)) e
    · rw [if_neg (Ne.symm e)]; exact gt_neg (p := (k, q)) e
  | p :: r, h => by
    have hk : ¬ p.1 = k := fun z => by rw [gt_pos z] at h; cases h
    rw [gt_neg hk] at h
    have ih := gt_snoc k j q r h
    rw [List.cons_append]
    by_cases e : p.1 = j
    · rw [gt_pos e, gt_pos e, if_neg (fun z => hk (e.trans z))]
    · rw [gt_neg e, gt_neg e, ih]
theorem gt_pt (m : FL κ) (k j : κ) (q : Rat) : gt (pt m k q) j = if j = k then some q else gt m j := by
  unfold pt
  by_cases h : (m.any fun p => decide (p.1 = k)) = true
  · rw [if_pos h, gt_repl]
    rw [gt_any] at h
    by_cases e : j = k
    · subst e
      obtain ⟨x, hx⟩ := Option.isSome_iff_exists.mp h
      simp [hx]
    · simp [e]
  · rw [if_neg h]
    refine gt_snoc k j q m ?_
    rw [gt_any] at h
    cases z : gt m k with
    | none => rfl
    | some _ => rw [z] at h; simp at h
def run (P : κ → Rat) (r : Rat) (m : FL κ) : Rat := m.foldl (fun t p => t + p.2 * P p.1) r
end
end Sf
namespace Sf
section
variable {κ : Type} [DecidableEq κ]
end
end Sf
namespace Sf
section
variable {κ : Type} [DecidableEq κ]
theorem gt_sc {x : κ} (n : Rat) : ∀ m : FL κ, gt (sc m n) x = (gt m x).map (· * n)
  | [] => rfl
  | p :: r => by
    have ih := gt_sc (x := x) n r
    unfold sc at ih ⊢
    rw [List.map_cons]
    by_cases e : p.1 = x
    · rw [gt_pos (p := (p.1, p.2 * n)) e, gt_pos e]; rfl
    · rw [gt_neg (p := (p.1, p.2 * n)) e, gt_neg e, ih]
theorem gt_dr {x k : κ} : ∀ m : FL κ, gt (dr m k) x = if x = k then none else gt m x
  | [] => by simp [dr, gt_nil]
  | p :: r => by
    have ih := gt_dr (x := x) (k := k) r
    unfold dr at ih ⊢
    by_cases e : p.1 = k
    · rw [List.filter_cons_of_neg (by simp [e]), ih]
      by_cases h : x = k
      · simp [h]
      · rw [if_neg h, if_neg h, gt_neg (fun z => h (z.symm.trans e))]
    · rw [List.filter_cons_of_pos (by simp [e])]
      by_cases h : p.1 = x
      · rw [gt_pos h, gt_pos h, if_neg (fun z => e (h.trans z))]
      · rw [gt_neg h, gt_neg h, ih]
def SmM (n : Nat) (m : FL κ) : Prop := ∀ x q, gt m x = some q → Sm n q
theorem SmM.mono {n k : Nat} {m : FL κ} (h : SmM n m) (e : n ≤ k) : SmM k m := fun x q z => (h x q z).mono e
theorem SmM.nil (n : Nat) : SmM n ([] : FL κ) := fun x q z => by cases z
theorem SmM.pt {n : Nat} {m : FL κ} (h : SmM n m) {k : κ} {q : Rat} (hq : Sm n q) : SmM n (pt m k q) := fun x r z => by
  rw [gt_pt] at z
  split at z
  · injection z with z; rw [← z]; exact hq
  · exact h x r z
theorem SmM.getD {n : Nat} {m : FL κ} (h : SmM n m) (hn : 1 ≤ n) (x : κ) : Sm n ((gt m x).getD 0) := by
  cases e : gt m x with
  | none => exact sm_zero.mono hn
  | some q => exact h x q e
theorem SmM.sc {n k : Nat} {a : FL κ} {t : Rat} (ha : SmM n a) (ht : Sm k t) : SmM (n + k) (sc a t) := fun x r z => by
  rw [gt_sc] at z
  cases e : gt a x with
  | none => rw [e] at z; cases z
  | some q => rw [e] at z; injection z with z; rw [← z]; exact sm_mul (ha x q e) ht
theorem SmM.dr {n : Nat} {a : FL κ} (ha : SmM n a) (k : κ) : SmM n (dr a k) := fun x r z => by
  rw [gt_dr] at z
  split at z
  · cases z
  · exact ha x r z
theorem SmM.at {n : Nat} {m : FL κ} (h : SmM n m) (nd : Nd m) {i : Nat} {x : κ} {q : Rat} (e : m[i]? = some (x, q)) : Sm n q := h x q (gt_of_mem nd (List.mem_of_getElem? e))
end
end Sf
namespace Sf
section
variable {κ : Type} [DecidableEq κ]
end
end Sf
namespace Sf
section
variable {κ : Type} [DecidableEq κ]
end
end Sf
namespace Sf
section
variable {κ : Type} [DecidableEq κ]
end
end Sf
namespace Sf
open PySem L2
def fr (q : Rat) : List V := [.int q.num, .int (q.den : Int)]
theorem fr0 (q : Rat) : atI (fr q) 0 = some (.int q.num) := rfl
theorem fr1 (q : Rat) : atI (fr q) 1 = some (.int (q.den : Int)) := rfl
def TupS (H H' : Hp) : Prop := ∀ b xs, H b = some (.tup xs) → H' b = some (.tup xs)
theorem TupS.refl (H : Hp) : TupS H H := fun _ _ h => h
theorem TupS.trans {H H1 H2 : Hp} (a : TupS H H1) (b : TupS H1 H2) : TupS H H2 := fun c xs h => b c xs (a c xs h)
theorem TupS.of {H H' : Hp} (e : Same H H') : TupS H H' := fun b xs h => e b _ h
theorem TupS.new {H : Hp} {a : Addr} {o : HO} (h : H a = none) : TupS H (upd H a o) := fun b xs e => by rw [upd_ne (ne_of_none e h)]; exact e
theorem TupS.put {H : Hp} {a : Addr} {o : HO} {kvs : List (Key × V)} (h : H a = some (.dK kvs)) : TupS H (upd H a o) := fun b xs e => by rw [upd_ne (ne_of e h (by intro z; cases z))]; exact e
theorem TupS.frz {H : Hp} {a : Addr} {ob : Obj} {u o : HO} (h : H a = some (.frz ob u)) : TupS H (upd H a o) := fun b xs e => by rw [upd_ne (ne_of e h (by intro z; cases z))]; exact e
def FK (H : Hp) : List (Key × V) → FL Str → Prop
  | [], [] => True
  | p :: r, x :: s => p.1 = Sum.inr x.1 ∧ (∃ a, p.2 = .ref a ∧ H a = some (.tup (fr x.2))) ∧ FK H r s
  | _, _ => False
theorem FK.mono {H H' : Hp} (e : TupS H H') : ∀ {kvs : List (Key × V)} {m : FL Str}, FK H kvs m → FK H' kvs m
  | [], [], _ => True.intro
  | p :: r, x :: s, ⟨h1, ⟨a, h2, h3⟩, h4⟩ => ⟨h1, ⟨a, h2, e _ _ h3⟩, FK.mono e h4⟩
  | [], _ :: _, h => h.elim
  | _ :: _, [], h => h.elim
theorem FK.length {H : Hp} : ∀ {kvs : List (Key × V)} {m : FL Str}, FK H kvs m → kvs.length = m.length
  | [], [], _ => rfl
  | _ :: r, _ :: s, h => by rw [List.length_cons, List.length_cons, FK.length h.2.2]
  | [], _ :: _, h => h.elim
  | _ :: _, [], h => h.elim
theorem FK.get {H : Hp} : ∀ {kvs : List (Key × V)} {m : FL Str} {i : Nat} {k : Key} {v : V}, FK H kvs m → kvs[i]? = some (k, v) → ∃ x q a, m[i]? = some (x, q) ∧ k = Sum.inr x ∧ v = .ref a ∧ H a = some (.tup (fr q))
  | p :: r, x :: s, 0, k, v, ⟨h1, ⟨a, h2, h3⟩, h4⟩, e => by
    simp at e
    subst e
    exact ⟨x.1, x.2, a, rfl, h1, h2, h3⟩
  | p :: r, x :: s, i + 1, k, v, ⟨h1, _, h4⟩, e => by
    obtain ⟨x', q, a, e1, e2⟩ := FK.get (i := i) h4 (by simpa using e)
    exact ⟨x', q, a, by simpa using e1, e2⟩
  | [], [], i, _, _, _, e => by simp at e
  | [], _ :: _, _, _, _, h, _ => h.elim
  | _ :: _, [], _, _, _, h, _ => h.elim
theorem FK.snoc {H : Hp} {x : Str} {q : Rat} {a : Addr} (ha : H a = some (.tup (fr q))) : ∀ {kvs : List (Key × V)} {m : FL Str}, FK H kvs m → FK H (kvs ++ [(Sum.inr x, .ref a)]) (m ++ [(x, q)])
  | [], [], _ => ⟨rfl, ⟨a, rfl, ha⟩, True.intro⟩
  | _ :: _, _ :: _, ⟨h1, h2, h4⟩ => ⟨h1, h2, FK.snoc ha h4⟩
  | [], _ :: _, h => h.elim
  | _ :: _, [], h => h.elim
theorem FK.val {H : Hp} (x : Str) : ∀ {kvs : List (Key × V)} {m : FL Str}, FK H kvs m → (valV kvs (Sum.inr x : Key) = none ∧ gt m x = none) ∨ ∃ a q, valV kvs (Sum.inr x : Key) = some (.ref a) ∧ gt m x = some q ∧ H a = some (.tup (fr q))
  | [], [], _ => .inl ⟨rfl, rfl⟩
  | p :: r, y :: s, ⟨h1, ⟨a, h2, h3⟩, h4⟩ => by
    by_cases e : y.1 = x
    · have e2 : p.1 = (Sum.inr x : Key) := by rw [h1, e]
      exact .inr ⟨a, y.2, by rw [valV_pos e2, h2], gt_pos e, h3⟩
    · have e2 : ¬ p.1 = (Sum.inr x : Key) := by rw [h1]; exact fun z => e (Sum.inr.inj z)
      rw [valV_neg e2, gt_neg e]
      exact FK.val x h4
  | [], _ :: _, h => h.elim
  | _ :: _, [], h => h.elim
theorem FK.any {H : Hp} (x : Str) {kvs : List (Key × V)} {m : FL Str} (h : FK H kvs m) : (kvs.any fun kv => decide (kv.1 = (Sum.inr x : Key))) = (m.any fun p => decide (p.1 = x)) := by
  rw [valV_any, gt_any]
  rcases h.val x with ⟨h1, h2⟩ | ⟨a, q, h1, h2, _⟩
  · rw [h1, h2]; rfl
  · rw [h1, h2]; rfl
theorem FK.repl {H : Hp} {x : Str} {q : Rat} {a : Addr} (ha : H a = some (.tup (fr q))) : ∀ {kvs : List (Key × V)} {m : FL Str}, FK H kvs m →
    FK H (kvs.map fun kv => if kv.1 = (Sum.inr x : Key) then (kv.1, .ref a) else kv) (m.map fun p => if p.1 = x then (p.1, q) else p)
  | [], [], _ => True.intro
  | p :: r, y :: s, ⟨h1, h2, h4⟩ => by
    have ih := FK.repl (x := x) ha h4
    rw [List.map_cons, List.map_cons]
    by_cases e : y.1 = x
    · have e2 : p.1 = (Sum.inr x : Key) := by rw [h1, e]
      rw [if_pos e2, if_pos e]
      exact ⟨h1, ⟨a, rfl, ha⟩, ih⟩
    · have e2 : ¬ p.1 = (Sum.inr x : Key) := by rw [h1]; exact fun z => e (Sum.inr.inj z)
      rw [if_neg e2, if_neg e]
      exact ⟨h1, h2, ih⟩
  | [], _ :: _, h => h.elim
  | _ :: _, [], h => h.elim
theorem FK.put {H : Hp} {x : Str} {q : Rat} {a : Addr} (ha : H a = some (.tup (fr q))) {kvs : List (Key × V)} {m : FL Str} (h : FK H kvs m) : FK H (putK kvs (Sum.inr x : Key) (.ref a)) (pt m x q) := by
  unfold putK pt
  rw [h.any x]
  split
  · exact h.repl ha
  · exact h.snoc ha
theorem FK.drop {H : Hp} (x : Str) : ∀ {kvs : List (Key × V)} {m : FL Str}, FK H kvs m → FK H (dropK kvs (Sum.inr x : Key)) (dr m x)
  | [], [], _ => True.intro
  | p :: r, y :: s, ⟨h1, h2, h4⟩ => by
    have ih := FK.drop x h4
    unfold dropK dr at ih ⊢
    by_cases e : y.1 = x
    · have e2 : p.1 = (Sum.inr x : Key) := by rw [h1, e]
      rw [List.filter_cons_of_neg (by simp [e2]), List.filter_cons_of_neg (by simp [e])]
      exact ih
    · have e2 : ¬ p.1 = (Sum.inr x : Key) := by rw [h1]; exact fun z => e (Sum.inr.inj z)
      rw [List.filter_cons_of_pos (by simp [e2]), List.filter_cons_of_pos (by simp [e])]
      exact ⟨h1, h2, ih⟩
  | [], _ :: _, h => h.elim
  | _ :: _, [], h => h.elim
end Sf
namespace Vc
open PySem L2 Sf
def Le (F F' : Hp) : Prop := ∀ a u, (∀ o w, u ≠ .frz o w) → Rd F a u → Rd F' a u
theorem Le.refl (F : Hp) : Le F F := fun _ _ _ h => h
theorem Le.trans {F G H : Hp} (a : Le F G) (b : Le G H) : Le F H := fun x u n h => b x u n (a x u n h)
theorem Le.of {F F' : Hp} (e : Same F F') : Le F F' := fun a u _ h => e.rd h
theorem Le.tup {K : PySem.W.Frag} {F F' : Hp} {a : Addr} {xs : List V} (e : Le F F') (h : SqT K F a xs) : SqT K F' a xs := by
  rcases h with h | h
  · exact .inl (e _ _ (by intro o w z; cases z) h)
  · exact .inr h
theorem Le.lst {K : PySem.W.Frag} {F F' : Hp} {a : Addr} {xs : List V} (e : Le F F') (h : SqL K F a xs) : SqL K F' a xs := by
  rcases h with h | h
  · exact .inl (e _ _ (by intro o w z; cases z) h)
  · exact .inr h
theorem Le.dic {F F' : Hp} {a : Addr} {kvs : List (Key × V)} (e : Le F F') (h : Rd F a (.dK kvs)) : Rd F' a (.dK kvs) := e _ _ (by intro o w z; cases z) h
def Fz (S : Addr → Prop) (F : Hp) : Prop := ∀ a o u, F a = some (.frz o u) → S a
abbrev S0 : Addr → Prop := fun _ => False
def frzd (F : Hp) : Addr → Prop := fun a => ∃ o u, F a = some (.frz o u)
structure Gr0 (F H F' H' : Hp) : Prop where
  h : Same H H'
  f : Same F F'
  s : Same F' H'
  n : ∀ a u, F' a = some u → F a = none → H a = none
structure Gr (F H F' H' : Hp) : Prop extends Gr0 F H F' H' where
  z : Fz (frzd F) F'
theorem Gr0.refl {F H : Hp} (s : Same F H) : Gr0 F H F H := ⟨Same.refl _, Same.refl _, s, (fun a u h e => by rw [h] at e; cases e)⟩
theorem Fz.refl (F : Hp) : Fz (frzd F) F := fun _ o u h => ⟨o, u, h⟩
theorem Gr.of {F H F' H' : Hp} (g : Gr0 F H F' H') (z : Fz (frzd F) F') : Gr F H F' H' := ⟨g, z⟩
theorem Gr.of0 {F H F' H' : Hp} (g : Gr0 F H F' H') (z : Fz S0 F') : Gr F H F' H' := ⟨g, fun a o u h => (z a o u h).elim⟩
theorem Gr.le {F H F' H' : Hp} (g : Gr F H F' H') : Le F F' := .of g.f
theorem Gr.fz {F H F' H' : Hp} {S : Addr → Prop} (g : Gr F H F' H') (c : Fz S F) : Fz S F' := fun a o u h => by
  obtain ⟨o', u', e⟩ := g.z a o u h
  exact c a o' u' e
theorem Gr0.trans {F H F1 H1 F2 H2 : Hp} (a : Gr0 F H F1 H1) (b : Gr0 F1 H1 F2 H2) : Gr0 F H F2 H2 :=
  ⟨a.h.trans b.h, a.f.trans b.f, b.s, (fun x u h e => match q : F1 x with
    | none => a.h.free (b.n x u h q)
    | some w => a.n x w q e)⟩
theorem Gr0.tr {F H F1 H1 F2 H2 : Hp} (a : Gr0 F H F1 H1) (b : Gr F1 H1 F2 H2) : Gr0 F H F2 H2 := a.trans b.toGr0
theorem Gr.own {F H F' H' : Hp} (g : Gr F H F' H') {o : Addr} {u : HO} (eF : F o = none) (eH : H o = some u) : F' o = none := by
  cases q : F' o with
  | none => rfl
  | some w => have := g.n o w q eF; rw [eH] at this; cases this
theorem al {F H : Hp} {o : HO} {R : V → Hp → Prop} (wd : Same F H) (nf : ∀ x u, o ≠ .frz x u) (h : ∀ (p : Addr) (F' H' : Hp), Gr F H F' H' → F' p = some o → R (.ref p) H') : ∀ p, H p = none → R (.ref p) (upd H p o) := fun p hp => by
  have fp : F p = none := wd.free hp
  refine h p (upd F p o) (upd H p o) ⟨⟨Same.upd hp, Same.upd fp, ?_, fun a u e q => ?_⟩, fun a x u e => ?_⟩ upd_same
  · intro b u e
    by_cases hb : b = p
    · subst hb; rw [upd_same] at e ⊢; exact e
    · rw [upd_ne hb] at e ⊢; exact wd b u e
  · by_cases hb : a = p
    · subst hb; exact hp
    · rw [upd_ne hb, q] at e; cases e
  · by_cases hb : a = p
    · subst hb; rw [upd_same] at e; exact absurd (Option.some.inj e) (nf x u)
    · rw [upd_ne hb] at e; exact ⟨_, _, e⟩
theorem al1 {F H : Hp} {o : HO} {p : Addr} {R : Hp → Prop} (wd : Same F H) (nf : ∀ x u, o ≠ .frz x u) (hp : H p = none) (h : ∀ F' H' : Hp, Gr F H F' H' → F' p = some o → R H') : R (upd H p o) := by
  have := al (R := fun v H' => ∀ q, v = .ref q → q = p → R H') wd nf (fun q F' H' g e z hz hq => by cases hz; subst hq; exact h F' H' g e) p hp
  exact this p rfl rfl
theorem Gr.at {F H F' H' : Hp} (g : Gr F H F' H') {o : Addr} {u : HO} {w : Option HO} (eH : H o = some u) (e : F o = w) : F' o = w := by
  cases q : F o with
  | none => rw [← e, q]; exact g.own q eH
  | some x => rw [← e, q]; exact g.f _ _ q
theorem al2 {F H : Hp} {o : HO} {p : Addr} (wd : Same F H) (nf : ∀ x u, o ≠ .frz x u) (hp : H p = none) : ∃ F', Gr F H F' (upd H p o) ∧ F' p = some o :=
  al1 (R := fun H' => ∃ F', Gr F H F' H' ∧ F' p = some o) wd nf hp fun F' _ g e => ⟨F', g, e⟩
theorem alo2 {Fb Hb F H : Hp} {o : HO} {p : Addr} (gb : Gr0 Fb Hb F H) (hp : H p = none) : Gr0 Fb Hb F (upd H p o) ∧ Same H (upd H p o) ∧ Hb p = none ∧ F p = none ∧ (upd H p o) p = some o ∧ (∀ a u, H a = some u → a ≠ p) :=
  ⟨⟨gb.h.updN (gb.h.free hp), gb.f, gb.s.updN (gb.s.free hp), gb.n⟩, Same.upd hp, gb.h.free hp, gb.s.free hp, upd_same, fun _ _ e => ne_of_none e hp⟩
theorem chg {Fb Hb F H : Hp} {p : Addr} {o : HO} {R : Hp → Prop} (gb : Gr0 Fb Hb F H) (hb : Hb p = none) (hf : F p = none) (h : ∀ H' : Hp, Gr0 Fb Hb F H' → H' p = some o → (∀ a, a ≠ p → H' a = H a) → R H') : R (upd H p o) :=
  h (upd H p o) ⟨gb.h.updN hb, gb.f, gb.s.updN hf, gb.n⟩ upd_same fun _ e => upd_ne e
theorem frz {Fb Hb F H : Hp} {S : Addr → Prop} {p : Addr} {o : HO} (gb : Gr0 Fb Hb F H) (cm : Fz S F) (hb : Hb p = none) (hf : F p = none) (hH : H p = some o) (nf : ∀ x u, o ≠ .frz x u) : ∃ F', Gr0 Fb Hb F' H ∧ Fz S F' ∧ Same F F' ∧ F' p = some o ∧ ∀ a, a ≠ p → F' a = F a := by
  refine ⟨upd F p o, ⟨gb.h, gb.f.trans (Same.upd hf), ?_, fun a u e q => ?_⟩, fun a x u e => ?_, Same.upd hf, upd_same, fun _ e => upd_ne e⟩
  · intro b u e
    by_cases hb : b = p
    · subst hb; rw [upd_same] at e; cases e; exact hH
    · rw [upd_ne hb] at e; exact gb.s b u e
  · by_cases hb' : a = p
    · subst hb'; exact hb
    · rw [upd_ne hb'] at e; exact gb.n a u e q
  · by_cases hb' : a = p
    · subst hb'; rw [upd_same] at e; exact absurd (Option.some.inj e) (nf x u)
    · rw [upd_ne hb'] at e; exact cm a x u e
theorem it2 {K : PySem.W.Frag} {F H : Hp} {i j : Nat} {p : Addr} {x y : V} {σ : St} {R : St → Hp → Prop} (wd : Same F H) (hp : H p = none) (h : ∀ F' H' : Hp, Gr F H F' H' → F' p = some (.tup [x, y]) → R ((σ.set i (some x)).set j (some y)) H') :
    gTup K 2 (gCons (gName i) (gCons (gName j) gNil)) (.ref p) σ (upd H p (.tup [x, y])) R :=
  al1 (R := fun H' => gTup K 2 (gCons (gName i) (gCons (gName j) gNil)) (.ref p) σ H' R) wd (by intro _ _ z; cases z) hp fun F' H' g e => a_gtup2 (SqT.of (g.s _ _ e)) (h F' H' g e)
def fz (X : Hp) (a : Addr) (o : HO) : Hp := fun b => if b = a then (if X a = none then none else some o) else X b
theorem fz_ne {X : Hp} {a b : Addr} {o : HO} (h : b ≠ a) : fz X a o b = X b := by unfold fz; rw [if_neg h]
theorem fz_at {X : Hp} {a : Addr} {o : HO} : fz X a o a = if X a = none then none else some o := by unfold fz; rw [if_pos rfl]
theorem fz_some {X : Hp} {a : Addr} {o u : HO} (h : fz X a o a = some u) : X a ≠ none ∧ some o = some u := by
  rw [fz_at] at h
  split at h
  · cases h
  · rename_i q; exact ⟨q, h⟩
theorem fz_gr {Fb Hb F H : Hp} {a : Addr} (z : HO) (gb : Gr0 Fb Hb F H) : Gr0 (fz Fb a z) (fz Hb a z) (fz F a z) (upd H a z) := by
  refine ⟨fun b u e => ?_, fun b u e => ?_, fun b u e => ?_, fun b u e q => ?_⟩
  · by_cases hb : b = a
    · subst hb; rw [upd_same]; exact (fz_some e).2
    · rw [fz_ne hb] at e; rw [upd_ne hb]; exact gb.h b u e
  · by_cases hb : b = a
    · subst hb
      rw [fz_at] at e ⊢
      split at e
      · cases e
      · rename_i h
        obtain ⟨w, hw⟩ := Option.ne_none_iff_exists'.mp h
        rw [if_neg (by rw [gb.f _ _ hw]; intro z; cases z)]; exact e
    · rw [fz_ne hb] at e ⊢; exact gb.f b u e
  · by_cases hb : b = a
    · subst hb; rw [upd_same]; exact (fz_some e).2
    · rw [fz_ne hb] at e; rw [upd_ne hb]; exact gb.s b u e
  · by_cases hb : b = a
    · subst hb
      rw [fz_at] at e q ⊢
      split at e
      · cases e
      · rename_i h
        obtain ⟨w, hw⟩ := Option.ne_none_iff_exists'.mp h
        split at q
        · rename_i hf
          rw [if_pos (gb.n _ _ hw hf)]
        · cases q
    · rw [fz_ne hb] at e q ⊢; exact gb.n b u e q
theorem fz_le {F : Hp} {a : Addr} {ob : Obj} {kvs : List (Key × V)} (hF : F a = none ∨ F a = some (.dK kvs)) : Le F (fz F a (.frz ob (.dK kvs))) := fun b u n h => by
  by_cases hb : b = a
  · subst hb
    rcases hF with hF | hF
    · rcases h with h | ⟨o, h⟩ <;> (rw [hF] at h; cases h)
    · rcases h with h | ⟨o, h⟩
      · rw [hF] at h
        cases h
        refine .inr ⟨ob, ?_⟩
        rw [fz_at, if_neg (by rw [hF]; intro z; cases z)]
      · rw [hF] at h; cases h
  · rcases h with h | ⟨o, h⟩
    · exact .inl (by rw [fz_ne hb]; exact h)
    · exact .inr ⟨o, by rw [fz_ne hb]; exact h⟩
theorem fz_fz {F : Hp} {a : Addr} {z : HO} {S : Addr → Prop} (c : Fz S F) : Fz (fun b => b = a ∨ S b) (fz F a z) := fun b o u h => by
  by_cases hb : b = a
  · exact .inl hb
  · rw [fz_ne hb] at h; exact .inr (c b o u h)
theorem thw {Fb Hb F H F' H' : Hp} {S : Addr → Prop} {a : Addr} {ob : Obj} {kvs : List (Key × V)} {R : Hp → Prop} (gb : Gr0 Fb Hb F H) (hH : H a = some (.dK kvs)) (hF : F a = none ∨ F a = some (.dK kvs))
    (gz : Gr0 (fz Fb a (.frz ob (.dK kvs))) (fz Hb a (.frz ob (.dK kvs))) F' H') (sF : F' a = fz F a (.frz ob (.dK kvs)) a) (cm : Fz (fun b => b = a ∨ S b) F')
    (h : ∀ F'' H'' : Hp, Gr0 Fb Hb F'' H'' → Fz S F'' → Le F' F'' → F'' a = F a → H'' a = some (.dK kvs) → (∀ b, b ≠ a → F'' b = F' b) → (∀ b, b ≠ a → H'' b = H' b) → R H'') : R (upd H' a (.dK kvs)) := by
  have nn : F'  a = none ∨ F' a = some (.frz ob (.dK kvs)) := by
    rw [sF, fz_at]; split
    · exact .inl rfl
    · exact .inr rfl
  refine h (fz F' a (.dK kvs)) (upd H' a (.dK kvs)) ⟨fun b u e => ?_, fun b u e => ?_, fun b u e => ?_, fun b u e q => ?_⟩ (fun b o u e => ?_) (fun b u n e => ?_) ?_ upd_same (fun b hb => fz_ne hb) (fun b hb => upd_ne hb)
  · by_cases hb : b = a
    · subst hb; rw [upd_same]; have := gb.h _ _ e; rw [hH] at this; exact this
    · rw [upd_ne hb]; exact gz.h b u (by rw [fz_ne hb]; exact e)
  · by_cases hb : b = a
    · subst hb
      have e1 := gb.f _ _ e
      rcases hF with hF | hF
      · rw [hF] at e1; cases e1
      · rw [hF] at e1
        have e2 : F' b = some (.frz ob (.dK kvs)) := by rw [sF, fz_at, if_neg (by rw [hF]; intro z; cases z)]
        rw [fz_at, if_neg (by rw [e2]; intro z; cases z)]
        exact e1
    · rw [fz_ne hb]; exact gz.f b u (by rw [fz_ne hb]; exact e)
  · by_cases hb : b = a
    · subst hb; rw [upd_same]; exact (fz_some e).2
    · rw [fz_ne hb] at e; rw [upd_ne hb]; exact gz.s b u e
  · by_cases hb : b = a
    · subst hb
      rw [fz_at] at e
      split at e
      · cases e
      · rename_i hn
        rw [sF, fz_at] at hn
        split at hn
        · exact absurd rfl hn
        · rename_i hf
          obtain ⟨w, hw⟩ := Option.ne_none_iff_exists'.mp hf
          exact gb.n _ _ hw q
    · rw [fz_ne hb] at e
      have := gz.n b u e (by rw [fz_ne hb]; exact q)
      rw [fz_ne hb] at this
      exact this
  · by_cases hb : b = a
    · subst hb; cases (fz_some e).2
    · rw [fz_ne hb] at e
      rcases cm b o u e with x | x
      · exact absurd x hb
      · exact x
  · by_cases hb : b = a
    · subst hb
      rcases nn with nn | nn
      · rcases e with e | ⟨o, e⟩ <;> (rw [nn] at e; cases e)
      · rcases e with e | ⟨o, e⟩
        · rw [nn] at e; cases e; exact absurd rfl (n _ _)
        · rw [nn] at e; cases e; refine .inl ?_; rw [fz_at, if_neg (by rw [nn]; intro z; cases z)]
    · rcases e with e | ⟨o, e⟩
      · exact .inl (by rw [fz_ne hb]; exact e)
      · exact .inr ⟨o, by rw [fz_ne hb]; exact e⟩
  · rw [fz_at, sF, fz_at]
    rcases hF with hF | hF <;> rw [hF]
    · rfl
    · rfl
theorem calm_at {F : Hp} {a : Addr} {kvs : List (Key × V)} (c : Fz S0 F) (h : Rd F a (.dK kvs)) : F a = some (.dK kvs) := by
  rcases h with h | ⟨o, h⟩
  · exact h
  · exact (c _ _ _ h).elim
abbrev Rep (α : Type) := Hp → V → α → Prop
class Mo {α : Type} (A : Rep α) : Prop where
  mo : ∀ {F F' : Hp} {v : V} {x : α}, Le F F' → A F v x → A F' v x
def rI : Rep Int := fun _ v n => v = .int n
def rB : Rep Bool := fun _ v b => v = .bl b
def rS : Rep Str := fun _ v s => v = .str s
def rN : Rep Unit := fun _ v _ => v = .non
def rFr (K : PySem.W.Frag) : Rep Rat := fun F v q => ∃ a, v = .ref a ∧ SqT K F a (fr q)
def r2 (K : PySem.W.Frag) {α β : Type} (A : Rep α) (B : Rep β) : Rep (α × β) := fun F v x => ∃ a v1 v2, v = .ref a ∧ SqT K F a [v1, v2] ∧ A F v1 x.1 ∧ B F v2 x.2
def r3 (K : PySem.W.Frag) {α β γ : Type} (A : Rep α) (B : Rep β) (C : Rep γ) : Rep (α × β × γ) := fun F v x => ∃ a v1 v2 v3, v = .ref a ∧ SqT K F a [v1, v2, v3] ∧ A F v1 x.1 ∧ B F v2 x.2.1 ∧ C F v3 x.2.2
def r5 (K : PySem.W.Frag) {α β γ δ ε : Type} (A : Rep α) (B : Rep β) (C : Rep γ) (D : Rep δ) (E : Rep ε) : Rep (α × β × γ × δ × ε) := fun F v x => ∃ a v1 v2 v3 v4 v5, v = .ref a ∧ SqT K F a [v1, v2, v3, v4, v5] ∧ A F v1 x.1 ∧ B F v2 x.2.1 ∧ C F v3 x.2.2.1 ∧ D F v4 x.2.2.2.1 ∧ E F v5 x.2.2.2.2
def Al {α : Type} (A : Rep α) (F : Hp) : List V → List α → Prop
  | [], [] => True
  | v :: vs, x :: xs => A F v x ∧ Al A F vs xs
  | _, _ => False
def rL (K : PySem.W.Frag) {α : Type} (A : Rep α) : Rep (List α) := fun F v xs => ∃ a vs, v = .ref a ∧ SqL K F a vs ∧ Al A F vs xs
def Dk {α : Type} (A : Rep α) (F : Hp) : List (Key × V) → List (Str × α) → Prop
  | [], [] => True
  | p :: r, x :: s => p.1 = Sum.inr x.1 ∧ A F p.2 x.2 ∧ Dk A F r s
  | _, _ => False
def rD {α : Type} (A : Rep α) : Rep (List (Str × α)) := fun F v m => ∃ a kvs, v = .ref a ∧ Rd F a (.dK kvs) ∧ Dk A F kvs m ∧ (m.map (·.1)).Nodup
instance : Mo rI := ⟨fun _ h => h⟩
instance : Mo rB := ⟨fun _ h => h⟩
instance : Mo rS := ⟨fun _ h => h⟩
instance : Mo rN := ⟨fun _ h => h⟩
instance {K : PySem.W.Frag} : Mo (rFr K) := ⟨fun e ⟨a, h1, h2⟩ => ⟨a, h1, e.tup h2⟩⟩
instance {K : PySem.W.Frag} {α β : Type} {A : Rep α} {B : Rep β} [Mo A] [Mo B] : Mo (r2 K A B) := ⟨fun e ⟨a, v1, v2, h1, h2, h3, h4⟩ => ⟨a, v1, v2, h1, e.tup h2, Mo.mo e h3, Mo.mo e h4⟩⟩
instance {K : PySem.W.Frag} {α β γ : Type} {A : Rep α} {B : Rep β} {C : Rep γ} [Mo A] [Mo B] [Mo C] : Mo (r3 K A B C) := ⟨fun e ⟨a, v1, v2, v3, h1, h2, h3, h4, h5⟩ => ⟨a, v1, v2, v3, h1, e.tup h2, Mo.mo e h3, Mo.mo e h4, Mo.mo e h5⟩⟩
instance {K : PySem.W.Frag} {α β γ δ ε : Type} {A : Rep α} {B : Rep β} {C : Rep γ} {D : Rep δ} {E : Rep ε} [Mo A] [Mo B] [Mo C] [Mo D] [Mo E] : Mo (r5 K A B C D E) :=
  ⟨fun e ⟨a, v1, v2, v3, v4, v5, h1, h2, h3, h4, h5, h6, h7⟩ => ⟨a, v1, v2, v3, v4, v5, h1, e.tup h2, Mo.mo e h3, Mo.mo e h4, Mo.mo e h5, Mo.mo e h6, Mo.mo e h7⟩⟩
theorem Al.mo {α : Type} {A : Rep α} [Mo A] {F F' : Hp} (e : Le F F') : ∀ {vs : List V} {xs : List α}, Al A F vs xs → Al A F' vs xs
  | [], [], _ => True.intro
  | _ :: _, _ :: _, h => ⟨Mo.mo e h.1, Al.mo e h.2⟩
  | [], _ :: _, h => h.elim
  | _ :: _, [], h => h.elim
theorem Al.length {α : Type} {A : Rep α} {F : Hp} : ∀ {vs : List V} {xs : List α}, Al A F vs xs → vs.length = xs.length
  | [], [], _ => rfl
  | _ :: vs, _ :: xs, h => by rw [List.length_cons, List.length_cons, Al.length h.2]
  | [], _ :: _, h => h.elim
  | _ :: _, [], h => h.elim
theorem Al.get {α : Type} {A : Rep α} {F : Hp} : ∀ {vs : List V} {xs : List α} {i : Nat} {v : V}, Al A F vs xs → vs[i]? = some v → ∃ x, xs[i]? = some x ∧ A F v x
  | v :: vs, x :: xs, 0, w, h, e => by simp at e; subst e; exact ⟨x, rfl, h.1⟩
  | v :: vs, x :: xs, i + 1, w, h, e => by
    obtain ⟨y, h1, h2⟩ := Al.get (i := i) h.2 (by simpa using e)
    exact ⟨y, by simpa using h1, h2⟩
  | [], [], _, _, _, e => by simp at e
  | [], _ :: _, _, _, h, _ => h.elim
  | _ :: _, [], _, _, h, _ => h.elim
theorem Al.at {α : Type} {A : Rep α} {F : Hp} {vs : List V} {xs : List α} {i : Nat} {x : α} (h : Al A F vs xs) (e : xs[i]? = some x) : ∃ v, vs[i]? = some v ∧ A F v x := by
  have hl := h.length
  have hi : i < vs.length := by rw [hl]; exact (List.getElem?_eq_some_iff.mp e).1
  obtain ⟨y, h1, h2⟩ := h.get (i := i) (v := vs[i]) (by simp)
  rw [e] at h1
  cases h1
  exact ⟨_, by simp, h2⟩
theorem Al.app {α : Type} {A : Rep α} {F : Hp} : ∀ {vs ws : List V} {xs ys : List α}, Al A F vs xs → Al A F ws ys → Al A F (vs ++ ws) (xs ++ ys)
  | [], _, [], _, _, h => h
  | _ :: _, _, _ :: _, _, h, g => ⟨h.1, Al.app h.2 g⟩
  | [], _, _ :: _, _, h, _ => h.elim
  | _ :: _, _, [], _, h, _ => h.elim
theorem Al.snoc {α : Type} {A : Rep α} {F : Hp} {vs : List V} {xs : List α} {v : V} {x : α} (h : Al A F vs xs) (g : A F v x) : Al A F (vs ++ [v]) (xs ++ [x]) := h.app ⟨g, True.intro⟩
theorem al_ints {F : Hp} : ∀ {ns : List Int}, Al rI F (ns.map V.int) ns
  | [] => True.intro
  | _ :: ns => ⟨rfl, al_ints⟩
theorem Dk.mo {α : Type} {A : Rep α} [Mo A] {F F' : Hp} (e : Le F F') : ∀ {vs : List (Key × V)} {xs : List (Str × α)}, Dk A F vs xs → Dk A F' vs xs
  | [], [], _ => True.intro
  | _ :: _, _ :: _, h => ⟨h.1, Mo.mo e h.2.1, Dk.mo e h.2.2⟩
  | [], _ :: _, h => h.elim
  | _ :: _, [], h => h.elim
theorem Dk.length {α : Type} {A : Rep α} {F : Hp} : ∀ {vs : List (Key × V)} {xs : List (Str × α)}, Dk A F vs xs → vs.length = xs.length
  | [], [], _ => rfl
  | _ :: vs, _ :: xs, h => by rw [List.length_cons, List.length_cons, Dk.length h.2.2]
  | [], _ :: _, h => h.elim
  | _ :: _, [], h => h.elim
instance {K : PySem.W.Frag} {α : Type} {A : Rep α} [Mo A] : Mo (rL K A) := ⟨fun e ⟨a, vs, h1, h2, h3⟩ => ⟨a, vs, h1, e.lst h2, h3.mo e⟩⟩
instance {α : Type} {A : Rep α} [Mo A] : Mo (rD A) := ⟨fun e ⟨a, kvs, h1, h2, h3, h4⟩ => ⟨a, kvs, h1, e.dic h2, h3.mo e, h4⟩⟩
theorem Dk.get {α : Type} {A : Rep α} {F : Hp} : ∀ {kvs : List (Key × V)} {m : List (Str × α)} {i : Nat} {k : Key} {v : V}, Dk A F kvs m → kvs[i]? = some (k, v) → ∃ x y, m[i]? = some (x, y) ∧ k = Sum.inr x ∧ A F v y
  | p :: r, x :: s, 0, k, v, h, e => by
    simp at e
    subst e
    exact ⟨x.1, x.2, rfl, h.1, h.2.1⟩
  | p :: r, x :: s, i + 1, k, v, h, e => by
    obtain ⟨x', y, e1, e2⟩ := Dk.get (i := i) h.2.2 (by simpa using e)
    exact ⟨x', y, by simpa using e1, e2⟩
  | [], [], i, _, _, _, e => by simp at e
  | [], _ :: _, _, _, _, h, _ => h.elim
  | _ :: _, [], _, _, _, h, _ => h.elim
section
variable {α : Type}
def gtd (m : List (Str × α)) (k : Str) : Option α := (m.find? fun p => decide (p.1 = k)).map (·.2)
def ptd (m : List (Str × α)) (k : Str) (y : α) : List (Str × α) := if (m.any fun p => decide (p.1 = k)) = true then m.map (fun p => if p.1 = k then (p.1, y) else p) else m ++ [(k, y)]
theorem gtd_pos {p : Str × α} {r : List (Str × α)} {k : Str} (e : p.1 = k) : gtd (p :: r) k = some p.2 := by simp [gtd, List.find?_cons, e]
theorem gtd_neg {p : Str × α} {r : List (Str × α)} {k : Str} (e : ¬ p.1 = k) : gtd (p :: r) k = gtd r k := by simp [gtd, List.find?_cons, e]
theorem gtd_any (k : Str) : ∀ m : List (Str × α), (m.any fun p => decide (p.1 = k)) = (gtd m k).isSome
  | [] => rfl
  | p :: r => by
    rw [List.any_cons, gtd_any k r]
    by_cases e : p.1 = k
    · rw [gtd_pos e, decide_eq_true e]; rfl
    · rw [gtd_neg e, decide_eq_false e]; rfl
theorem gtd_ptd (m : List (Str × α)) (k j : Str) (y : α) : gtd (ptd m k y) j = if j = k then some y else gtd m j := by
  have repl : ∀ m : List (Str × α), gtd (m.map (fun p => if p.1 = k then (p.1, y) else p)) j = (gtd m j).map fun x => if j = k then y else x := by
    intro m
    induction m with
    | nil => rfl
    | cons p r ih =>
      rw [List.map_cons]
      by_cases e : p.1 = k
      · rw [if_pos e]
        by_cases f : p.1 = j
        · rw [gtd_pos (p := (p.1, y)) f, gtd_pos f, Option.map_some, if_pos (f.symm.trans e)]
        · rw [gtd_neg (p := (p.1, y)) f, gtd_neg f, ih]
      · rw [if_neg e]
        by_cases f : p.1 = j
        · rw [gtd_pos f, gtd_pos f, Option.map_some, if_neg (fun z => e (f.trans z))]
        · rw [gtd_neg f, gtd_neg f, ih]
  unfold ptd
  rw [gtd_any]
  by_cases h : (gtd m k).isSome = true
  · rw [if_pos h, repl]
    by_cases f : j = k
    · subst f
      obtain ⟨v, e⟩ := Option.isSome_iff_exists.mp h
      rw [e, if_pos rfl]; simp
    · rw [if_neg f]; simp [f]
  · rw [if_neg h]
    have hn : gtd m k = none := by simpa using h
    have snoc : ∀ m : List (Str × α), gtd m k = none → gtd (m ++ [(k, y)]) j = if j = k then some y else gtd m j := by
      intro m
      induction m with
      | nil =>
        intro _
        by_cases f : j = k
        · rw [if_pos f]; exact gtd_pos f.symm
        · rw [if_neg f]; exact gtd_neg (fun z => f z.symm)
      | cons p r ih =>
        intro hm
        by_cases e : p.1 = k
        · rw [gtd_pos e] at hm; cases hm
        · rw [gtd_neg e] at hm
          rw [List.cons_append]
          by_cases f : p.1 = j
          · rw [gtd_pos f, gtd_pos f, if_neg (fun z => e (f.trans z))]
          · rw [gtd_neg f, gtd_neg f, ih hm]
    exact snoc m hn
theorem Dk.val {A : Rep α} {F : Hp} (x : Str) : ∀ {kvs : List (Key × V)} {m : List (Str × α)}, Dk A F kvs m → (valV kvs (Sum.inr x : Key) = none ∧ gtd m x = none) ∨ ∃ v y, valV kvs (Sum.inr x : Key) = some v ∧ gtd m x = some y ∧ A F v y
  | [], [], _ => .inl ⟨rfl, rfl⟩
  | p :: r, y :: s, h => by
    by_cases e : y.1 = x
    · have e2 : p.1 = (Sum.inr x : Key) := by rw [h.1, e]
      exact .inr ⟨p.2, y.2, by rw [valV_pos e2], gtd_pos e, h.2.1⟩
    · have e2 : ¬ p.1 = (Sum.inr x : Key) := by rw [h.1]; exact fun z => e (Sum.inr.inj z)
      rw [valV_neg e2, gtd_neg e]
      exact Dk.val x h.2.2
  | [], _ :: _, h => h.elim
  | _ :: _, [], h => h.elim
theorem Dk.some {A : Rep α} {F : Hp} {x : Str} {y : α} {kvs : List (Key × V)} {m : List (Str × α)} (h : Dk A F kvs m) (e : gtd m x = some y) : ∃ v, valV kvs (Sum.inr x : Key) = some v ∧ A F v y := by
  rcases h.val x with ⟨_, h2⟩ | ⟨v, y', h1, h2, h3⟩
  · rw [e] at h2; cases h2
  · rw [e] at h2; cases h2; exact ⟨v, h1, h3⟩
theorem Dk.none {A : Rep α} {F : Hp} {x : Str} {kvs : List (Key × V)} {m : List (Str × α)} (h : Dk A F kvs m) (e : gtd m x = none) : valV kvs (Sum.inr x : Key) = none := by
  rcases h.val x with ⟨h1, _⟩ | ⟨v, y', h1, h2, h3⟩
  · exact h1
  · rw [e] at h2; cases h2
theorem Dk.any {A : Rep α} {F : Hp} (x : Str) {kvs : List (Key × V)} {m : List (Str × α)} (h : Dk A F kvs m) : (kvs.any fun kv => decide (kv.1 = (Sum.inr x : Key))) = (m.any fun p => decide (p.1 = x)) := by
  rw [valV_any, gtd_any]
  rcases h.val x with ⟨h1, h2⟩ | ⟨a, q, h1, h2, _⟩
  · rw [h1, h2]; rfl
  · rw [h1, h2]; rfl
theorem Dk.snoc {A : Rep α} {F : Hp} {x : Str} {y : α} {v : V} (hv : A F v y) : ∀ {kvs : List (Key × V)} {m : List (Str × α)}, Dk A F kvs m → Dk A F (kvs ++ [(Sum.inr x, v)]) (m ++ [(x, y)])
  | [], [], _ => ⟨rfl, hv, True.intro⟩
  | _ :: _, _ :: _, h => ⟨h.1, h.2.1, Dk.snoc hv h.2.2⟩
  | [], _ :: _, h => h.elim
  | _ :: _, [], h => h.elim
theorem Dk.repl {A : Rep α} {F : Hp} {x : Str} {y : α} {v : V} (hv : A F v y) : ∀ {kvs : List (Key × V)} {m : List (Str × α)}, Dk A F kvs m →
    Dk A F (kvs.map fun kv => if kv.1 = (Sum.inr x : Key) then (kv.1, v) else kv) (m.map fun p => if p.1 = x then (p.1, y) else p)
  | [], [], _ => True.intro
  | p :: r, z :: s, h => by
    have ih := Dk.repl (x := x) hv h.2.2
    rw [List.map_cons, List.map_cons]
    by_cases e : z.1 = x
    · have e2 : p.1 = (Sum.inr x : Key) := by rw [h.1, e]
      rw [if_pos e2, if_pos e]
      exact ⟨h.1, hv, ih⟩
    · have e2 : ¬ p.1 = (Sum.inr x : Key) := by rw [h.1]; exact fun z => e (Sum.inr.inj z)
      rw [if_neg e2, if_neg e]
      exact ⟨h.1, h.2.1, ih⟩
  | [], _ :: _, h => h.elim
  | _ :: _, [], h => h.elim
theorem Dk.put {A : Rep α} {F : Hp} {x : Str} {y : α} {v : V} (hv : A F v y) {kvs : List (Key × V)} {m : List (Str × α)} (h : Dk A F kvs m) : Dk A F (putK kvs (Sum.inr x : Key) v) (ptd m x y) := by
  unfold putK ptd
  rw [h.any x]
  split
  · exact h.repl hv
  · exact h.snoc hv
end
def bl (n : Nat) : Nat := if n = 0 then 0 else Nat.log2 n + 1
theorem bl_lt {n k : Nat} : n < 2 ^ k ↔ bl n ≤ k := by
  unfold bl
  by_cases h : n = 0
  · subst h; simp [Nat.two_pow_pos]
  · rw [if_neg h, ← Nat.log2_lt h]; omega
theorem bl_self (n : Nat) : n < 2 ^ bl n := bl_lt.mpr (Nat.le_refl _)
def bi (x : Int) : Nat := bl x.natAbs
def bs (q : Rat) : Nat := max (bl q.num.natAbs) (bl q.den)
theorem sm_of {q : Rat} {n : Nat} (h : bs q ≤ n) : Sm n q := ⟨bl_lt.mpr (by unfold bs at h; omega), bl_lt.mpr (by unfold bs at h; omega)⟩
theorem of_sm {q : Rat} {n : Nat} (h : Sm n q) : bs q ≤ n := by
  have h1 := bl_lt.mp h.1
  have h2 := bl_lt.mp h.2
  unfold bs
  omega
theorem sm_bs (q : Rat) : Sm (bs q) q := sm_of (Nat.le_refl _)
theorem bs_add (a b : Rat) : bs (a + b) ≤ bs a + bs b + 1 := of_sm (sm_add (sm_bs a) (sm_bs b))
theorem bi_lt {x : Int} {k : Nat} (h : x.natAbs < 2 ^ k) : bi x ≤ k := bl_lt.mp h
theorem lt_bi {x : Int} {k : Nat} (h : bi x ≤ k) : x.natAbs < 2 ^ k := bl_lt.mpr h
theorem bi_mul (x y : Int) : bi (x * y) ≤ bi x + bi y := bl_lt.mp (abs_mul_lt (bl_self _) (bl_self _))
theorem bi_add (x y : Int) : bi (x + y) ≤ max (bi x) (bi y) + 1 := by
  have h1 : x.natAbs < 2 ^ (max (bi x) (bi y)) := Nat.lt_of_lt_of_le (bl_self _) (Nat.pow_le_pow_right (by decide) (Nat.le_max_left _ _))
  have h2 : y.natAbs < 2 ^ (max (bi x) (bi y)) := Nat.lt_of_lt_of_le (bl_self _) (Nat.pow_le_pow_right (by decide) (Nat.le_max_right _ _))
  exact bl_lt.mp (abs_add_lt h1 h2)
theorem bi_small {x : Int} (k : Nat) (h : x.natAbs < 2 ^ k) : bi x ≤ k := bl_lt.mp h
theorem bi_num (q : Rat) : bi q.num ≤ bs q := by unfold bi bs; omega
theorem bi_den (q : Rat) : bi (q.den : Int) ≤ bs q := by unfold bi bs; rw [Int.natAbs_natCast]; omega
theorem bs_divInt {t b : Int} (h : b ≠ 0) {k : Nat} (h1 : bi t ≤ k) (h2 : bi b ≤ k) : bs (Rat.divInt t b) ≤ k := of_sm (sm_divInt h (lt_bi h1) (lt_bi h2))
theorem mulBB {x y : Int} (h1 : bi x ≤ 60000000) (h2 : bi y ≤ 60000000) : CMulX x y := .inr ⟨60000000, Nat.le_refl _, lt_bi h1, lt_bi h2⟩
theorem mulL2 {x y : Int} (h1 : -18446744073709551616 < x) (h2 : x < 18446744073709551616) : CMulX x y := .inl (.inl ⟨by omega, by omega⟩)
theorem mulR2 {x y : Int} (h1 : -18446744073709551616 < y) (h2 : y < 18446744073709551616) : CMulX x y := .inl (.inr ⟨by omega, by omega⟩)
theorem mulLB {x y : Int} (h1 : bi x ≤ 60) : CMulX x y := by
  have h := lt_bi h1
  refine .inl (.inl ⟨?_, ?_⟩) <;> omega
theorem mulRB {x y : Int} (h1 : bi y ≤ 60) : CMulX x y := by
  have h := lt_bi h1
  refine .inl (.inr ⟨?_, ?_⟩) <;> omega
theorem divB {x y : Int} (h0 : y ≠ 0) (h1 : bi y ≤ 8000) : CDivB x y := ⟨h0, lt_bi h1⟩
section
variable {σ : St} {H : Hp} {Q : VK} {D : Ends} {K : PySem.W.Frag}
theorem a_powC {i j z : Int} (e : i ^ j.toNat = z) (c : CPow i j) (h : Q (.int z) H) : L2.rI CPow (fun i j => .int (i ^ j.toNat)) (.int i) (.int j) H Q := ⟨i, j, rfl, rfl, c, by dsimp only; rw [e]; exact h⟩
theorem a_neS {x y : Str} (h : Q (.bl (!decide (x = y))) H) : rNe (.str x) (.str y) H Q := ⟨rfl, by
  have e : decide (V.str x = V.str y) = decide (x = y) := by
    by_cases q : x = y
    · subst q; simp
    · rw [decide_eq_false q, decide_eq_false (fun z => q (V.str.inj z))]
  rw [e]; exact h⟩
theorem fr_int (n : Int) : fr ((n : Int) : Rat) = [.int n, .int 1] := by
  unfold fr
  rw [Rat.num_intCast, Rat.den_intCast]
  rfl
end
def TyX (K : PySem.W.Frag) (H : Hp) (x : V) (t : Value) : Prop := TyOf K H x t ∨ (t = .type "tuple" ∧ ∃ a xs, x = .ref a ∧ SqT K H a xs) ∨ (t = .type "list" ∧ ∃ a xs, x = .ref a ∧ SqL K H a xs) ∨ (t = .type "dict" ∧ ∃ a kvs, x = .ref a ∧ Rd H a (.dK kvs))
section
variable {K : PySem.W.Frag} {H : Hp}
theorem tx_lst {a : Addr} {xs : List V} (h : SqL K H a xs) : TyX K H (.ref a) (.type "list") := .inr (.inr (.inl ⟨rfl, a, xs, rfl, h⟩))
theorem tx_str {i : Str} : TyX K H (.str i) (.type "str") := .inl (.str i)
end
section
open PySem.Spec PyProof.Rows
variable {X : Cx}
theorem call_isx : CallR X (.builtin "isinstance") (fun xs H Q => ∃ x c t b u, xs = [x, c] ∧ TyX X.K H x t ∧ clsV c = some u ∧ PySem.W.kitOne X.K t u = some b ∧ Q (.bl b) H) := by
  intro pins s σ H xs us Q I r h
  obtain ⟨x, c, t, b, u, rfl, ty, rc, e, q⟩ := h
  rcases ty with ty | ⟨rfl, a, ys, rfl, hs⟩ | ⟨rfl, a, ys, rfl, hs⟩ | ⟨rfl, a, kvs, rfl, hs⟩
  · exact call_isi pins s σ H [x, c] us Q I r ⟨x, c, t, b, u, rfl, ty, rc, e, q⟩
  all_goals
    obtain ⟨v, w', rfl, rx, rw'⟩ := vals2 r
    have ew : w' = u := by
      cases c with
      | ref a => cases rc; exact rw'
      | ty n => cases rc; exact rw'
      | non => cases rc
      | bl n => cases rc
      | int i => cases rc
      | str i => cases rc
      | byt i => cases rc
      | flt i => cases rc
    subst ew
    cases (show v = Value.ref a from rx)
  · obtain ⟨its, _, p, _⟩ := I.tuple hs
    obtain ⟨o, h1, h2, _⟩ := p
    exact PySem.W.kia_one PySem.W.kitx_tuple I.kIn ⟨o, h1, h2⟩ e (fun z => nomatch z) fun tk => ⟨.bl b, H, I.tok tk, rfl, q⟩
  · obtain ⟨its, _, p, _⟩ := I.list hs
    obtain ⟨o, h1, h2, _⟩ := p.isList
    exact PySem.W.kia_one PySem.W.kitx_list I.kIn ⟨o, h1, h2⟩ e (fun z => nomatch z) fun tk => ⟨.bl b, H, I.tok tk, rfl, q⟩
  · obtain ⟨_, _, vs, _, p⟩ := dk_rd I.hok hs
    obtain ⟨o, es, ep, h1, h2, _⟩ := p
    exact PySem.W.kia_one PySem.W.kitx_dict I.kIn ⟨o, h1, h2.1⟩ e (fun z => nomatch z) fun tk => ⟨.bl b, H, I.tok tk, rfl, q⟩
end
theorem Al.ix {α : Type} {A : Rep α} {F : Hp} {vs : List V} {xs : List α} (h : Al A F vs xs) {i : Int} (h0 : 0 ≤ i) (h1 : i < xs.length) : ∃ x v, xs[i.toNat]? = some x ∧ atI vs i = some v ∧ A F v x := by
  have hi : i.toNat < xs.length := by omega
  obtain ⟨v, e1, e2⟩ := h.at (i := i.toNat) (x := xs[i.toNat]) (by simp [hi])
  refine ⟨xs[i.toNat], v, by simp [hi], ?_, e2⟩
  have := atI_nat e1
  rw [Int.toNat_of_nonneg h0] at this
  exact this
theorem nd_ptd {α : Type} {m : List (Str × α)} (n : (m.map (·.1)).Nodup) (k : Str) (y : α) : ((ptd m k y).map (·.1)).Nodup := by
  unfold ptd
  split
  · rw [List.map_map]
    have e : (m.map ((·.1) ∘ fun p => if p.1 = k then (p.1, y) else p)) = m.map (·.1) := by
      apply List.map_congr_left
      intro p _
      simp only [Function.comp]
      split <;> rfl
    rw [e]; exact n
  · rename_i h
    rw [List.map_append, List.nodup_append]
    refine ⟨n, by simp, ?_⟩
    intro a ha b hb e
    simp at hb
    subst hb
    subst e
    obtain ⟨p, hp, hk⟩ := List.mem_map.mp ha
    apply h
    rw [List.any_eq_true]
    exact ⟨p, hp, by simp [hk]⟩
def sgn (z : Str) (i : Int) : Str := ⟨#[z.cps.toList.getD i.toNat 0]⟩
theorem a_ixS {H : Hp} {Q : VK} {z : Str} {i : Int} (hz : z.length ≤ sizeLine) (h0 : 0 ≤ i) (h1 : i < z.length) (h : Q (.str (sgn z i)) H) : rIxS (.str z) (.int i) H Q := by
  have hl : z.cps.toList.length = z.length := by rw [Array.length_toList]; rfl
  have e : z.cps.toList[i.toNat]? = some (z.cps.toList.getD i.toNat 0) := by
    rw [List.getD_eq_getElem?_getD, List.getElem?_eq_getElem (by omega)]
    rfl
  have := atI_nat e
  rw [Int.toNat_of_nonneg h0] at this
  exact ⟨z, i, _, rfl, rfl, hz, this, h⟩
theorem Al.drop {α : Type} {A : Rep α} {F : Hp} : ∀ (n : Nat) {vs : List V} {xs : List α}, Al A F vs xs → Al A F (vs.drop n) (xs.drop n)
  | 0, _, _, h => h
  | _ + 1, [], [], _ => True.intro
  | n + 1, _ :: _, _ :: _, h => Al.drop n h.2
  | _ + 1, [], _ :: _, h => h.elim
  | _ + 1, _ :: _, [], h => h.elim
theorem Al.take {α : Type} {A : Rep α} {F : Hp} : ∀ (n : Nat) {vs : List V} {xs : List α}, Al A F vs xs → Al A F (vs.take n) (xs.take n)
  | 0, _, _, _ => True.intro
  | _ + 1, [], [], _ => True.intro
  | n + 1, _ :: _, _ :: _, h => ⟨h.1, Al.take n h.2⟩
  | _ + 1, [], _ :: _, h => h.elim
  | _ + 1, _ :: _, [], h => h.elim
end Vc
namespace Vc
open PySem L2 Sf
section
variable {X : Cx} {pins : List (Addr × Obj)} {σ : St} {F H : Hp} {s : Shared} {Au : Around}
theorem rel_fun : ∀ {x y : V} {u : Value}, RelV x u → RelV y u → x = y := by
  intro x y u h1 h2
  cases x <;> cases y <;> simp only [RelV] at h1 h2 <;> first
    | rfl
    | (subst h1; simp at h2; subst h2; rfl)
    | (subst h1; simp at h2; done)
    | (obtain ⟨t, rfl⟩ := h1; obtain ⟨t', e⟩ := h2; simp at e; rw [e.1])
    | (obtain ⟨t, rfl⟩ := h1; simp at h2; done)
    | (obtain ⟨t, rfl⟩ := h2; simp at h1; done)
theorem vals_fun : ∀ {xs ys : List V} {us : List Value}, Vals xs us → Vals ys us → xs = ys
  | [], [], _, _, _ => rfl
  | _ :: _, _ :: _, _, .cons h t, .cons h' t' => by rw [rel_fun h h', vals_fun t t']
  | [], _ :: _, _, h, h' => by cases h; cases h'
  | _ :: _, [], _, h, h' => by cases h'; cases h
theorem sqT_fun {a : Addr} {xs ys : List V} (I : Inv X pins σ H s) (h1 : SqT X.K H a xs) (h2 : SqT X.K H a ys) : xs = ys := by
  obtain ⟨us, r1, ⟨o1, g1, c1, n1, d1⟩, _⟩ := I.tuple h1
  obtain ⟨ws, r2, ⟨o2, g2, c2, n2, d2⟩, _⟩ := I.tuple h2
  rw [g1] at g2
  cases g2
  rw [d1] at d2
  injection d2 with e _
  have : us = ws := by simpa using e
  subst this
  exact vals_fun r1 r2
theorem sqL_fun {a : Addr} {xs ys : List V} (I : Inv X pins σ H s) (h1 : SqL X.K H a xs) (h2 : SqL X.K H a ys) : xs = ys := by
  obtain ⟨us, r1, p1, _⟩ := I.list h1
  obtain ⟨ws, r2, p2, _⟩ := I.list h2
  obtain ⟨o1, g1, c1, n1, d1⟩ := p1.isList
  obtain ⟨o2, g2, c2, n2, d2⟩ := p2.isList
  rw [g1] at g2
  cases g2
  rw [d1] at d2
  injection d2 with e _
  have : us = ws := by simpa using e
  subst this
  exact vals_fun r1 r2
theorem rc_tups {a b : Addr} {xs ys : List V} (I : Inv X pins σ H s) (h1 : SqT X.K H a xs) (h2 : SqT X.K H b ys) (hu : Au.units < cLine) (hl : xs.length = ys.length) (e : Nat → Bool)
    (he : ∀ (j : Nat) x y u v, xs[j]? = some x → ys[j]? = some y → RelV x u → RelV y v → SeqAt.EqAt Au.in1 s u v (e j)) : SeqAt.RcAt Au s (.ref a) (.ref b) ((List.range xs.length).all e) := by
  obtain ⟨us, r1, t1, _⟩ := I.tuple h1
  obtain ⟨ws, r2, t2, _⟩ := I.tuple h2
  have l1 := r1.length
  have l2 := r2.length
  have z := SeqAt.RcAt.tuples (A := Au) (e := e) t1 t2 hu (fun j h1 h2 => ?_)
  · have e0 : ((List.range (min us.toArray.size ws.toArray.size)).all e && us.toArray.size == ws.toArray.size) = (List.range xs.length).all e := by
      simp only [List.size_toArray]
      have e1 : min us.length ws.length = xs.length := by omega
      have e2 : (us.length == ws.length) = true := by simp; omega
      rw [e1, e2, Bool.and_true]
    rw [e0] at z
    exact z
  · simp only [List.size_toArray] at h1 h2
    obtain ⟨u, e1, ru⟩ := r1.get (i := j) (x := xs[j]'(by omega)) (by simp)
    obtain ⟨v, e2, rv⟩ := r2.get (i := j) (x := ys[j]'(by omega)) (by simp)
    obtain ⟨_, f1⟩ := List.getElem?_eq_some_iff.mp e1
    obtain ⟨_, f2⟩ := List.getElem?_eq_some_iff.mp e2
    have g1 : us.toArray[j]'(by simpa using h1) = u := by simpa using f1
    have g2 : ws.toArray[j]'(by simpa using h2) = v := by simpa using f2
    rw [g1, g2]
    exact he j _ _ u v (by simp) (by simp) ru rv
theorem rc_lsts {a b : Addr} {xs ys : List V} (I : Inv X pins σ H s) (h1 : SqL X.K H a xs) (h2 : SqL X.K H b ys) (hu : Au.units < cLine) (hl : xs.length = ys.length) (e : Nat → Bool)
    (he : ∀ (j : Nat) x y u v, xs[j]? = some x → ys[j]? = some y → RelV x u → RelV y v → SeqAt.EqAt Au.in1 s u v (e j)) : SeqAt.RcAt Au s (.ref a) (.ref b) ((List.range xs.length).all e) := by
  obtain ⟨us, r1, t1, _⟩ := I.list h1
  obtain ⟨ws, r2, t2, _⟩ := I.list h2
  have l1 := r1.length
  have l2 := r2.length
  have z := SeqAt.RcAt.lists (A := Au) (e := e) t1.isList t2.isList (by simp; omega) hu (fun j h1 h2 => ?_)
  · have e0 : (List.range us.toArray.size).all e = (List.range xs.length).all e := by
      simp only [List.size_toArray]
      rw [← l1]
    rw [e0] at z
    exact z
  · simp only [List.size_toArray] at h1 h2
    obtain ⟨u, e1, ru⟩ := r1.get (i := j) (x := xs[j]'(by omega)) (by simp)
    obtain ⟨v, e2, rv⟩ := r2.get (i := j) (x := ys[j]'(by omega)) (by simp)
    obtain ⟨_, f1⟩ := List.getElem?_eq_some_iff.mp e1
    obtain ⟨_, f2⟩ := List.getElem?_eq_some_iff.mp e2
    have g1 : us.toArray[j]'(by simpa using h1) = u := by simpa using f1
    have g2 : ws.toArray[j]'(by simpa using h2) = v := by simpa using f2
    rw [g1, g2]
    exact he j _ _ u v (by simp) (by simp) ru rv
end
class Qf {α : Type} [DecidableEq α] (K : PySem.W.Frag) (A : Rep α) (dep : outParam Nat) : Prop where
  fn : ∀ {X : Cx} {pins : List (Addr × Obj)} {σ : St} {F H : Hp} {s : Shared} {v : V} {x y : α}, X.K = K → Inv X pins σ H s → Same F H → A F v x → A F v y → x = y
  qf : ∀ {X : Cx} {pins : List (Addr × Obj)} {σ : St} {F H : Hp} {s : Shared} {Au : Around} {v w : V} {x y : α} {u u' : Value}, X.K = K → Inv X pins σ H s → Same F H → A F v x → A F w y → RelV v u → RelV w u' → Au.units + dep < cLine → SeqAt.EqAt Au s u u' (decide (x = y))
class Qr {α : Type} [DecidableEq α] (K : PySem.W.Frag) (A : Rep α) (dep : outParam Nat) : Prop where
  fn : ∀ {X : Cx} {pins : List (Addr × Obj)} {σ : St} {F H : Hp} {s : Shared} {v : V} {x y : α}, X.K = K → Inv X pins σ H s → Same F H → A F v x → A F v y → x = y
  rf : ∀ {F : Hp} {v : V} {x : α}, A F v x → ∃ a, v = .ref a
  rc : ∀ {X : Cx} {pins : List (Addr × Obj)} {σ : St} {F H : Hp} {s : Shared} {Au : Around} {a b : Addr} {x y : α}, X.K = K → Inv X pins σ H s → Same F H → A F (.ref a) x → A F (.ref b) y → Au.units + dep < cLine → SeqAt.RcAt Au s (.ref a) (.ref b) (decide (x = y))
instance (priority := low) {α : Type} [DecidableEq α] {K : PySem.W.Frag} {A : Rep α} {d : Nat} [q : Qr K A d] : Qf K A d where
  fn := q.fn
  qf := fun {X pins σ F H s Au v w x y u u'} hK I wd h1 h2 r1 r2 hu => by
    obtain ⟨a, rfl⟩ := q.rf h1
    obtain ⟨b, rfl⟩ := q.rf h2
    cases r1
    cases r2
    by_cases e : a = b
    · subst e
      rw [decide_eq_true (q.fn hK I wd h1 h2)]
      exact SeqAt.EqAt.same _
    · exact SeqAt.EqAt.of_refs e (q.rc hK I wd h1 h2 hu)
theorem qf_flat {α : Type} [DecidableEq α] {K : PySem.W.Frag} {A : Rep α} (f : α → V) (hf : ∀ F v x, A F v x ↔ v = f x) (fl : ∀ x, flatV (f x) = true) (he : ∀ x y, eqV (f x) (f y) = decide (x = y)) (hi : ∀ x y, f x = f y → x = y) : Qf K A 0 where
  fn := fun {X pins σ F H s v x y} _ _ _ h1 h2 => hi x y (((hf F v x).mp h1).symm.trans ((hf F v y).mp h2))
  qf := fun {X pins σ F H s Au v w x y u u'} _ _ _ h1 h2 r1 r2 _ => by
    have e1 := (hf F v x).mp h1
    have e2 := (hf F w y).mp h2
    subst e1 e2
    rw [← he x y]
    exact eqAt_V r1 r2 (fl x) (fl y)
instance {K : PySem.W.Frag} : Qf K rI 0 := qf_flat V.int (fun _ _ _ => Iff.rfl) (fun _ => rfl) (fun x y => by show (x == y) = _; rw [Bool.beq_eq_decide_eq]) (fun _ _ h => V.int.inj h)
instance {K : PySem.W.Frag} : Qf K rS 0 := qf_flat V.str (fun _ _ _ => Iff.rfl) (fun _ => rfl) (fun x y => by show (x == y) = _; rw [Bool.beq_eq_decide_eq]) (fun _ _ h => V.str.inj h)
instance {K : PySem.W.Frag} : Qf K rB 0 := qf_flat V.bl (fun _ _ _ => Iff.rfl) (fun _ => rfl) (fun x y => by show (x == y) = _; rw [Bool.beq_eq_decide_eq]) (fun _ _ h => V.bl.inj h)
theorem rat_dec (p q : Rat) : decide (p = q) = (decide (p.num = q.num) && decide ((p.den : Int) = (q.den : Int))) := by
  by_cases h : p = q
  · subst h; simp
  · rw [decide_eq_false h]
    by_cases h1 : p.num = q.num
    · have h2 : ¬ ((p.den : Int) = (q.den : Int)) := fun z => h (Rat.ext h1 (by omega))
      rw [decide_eq_false h2, Bool.and_false]
    · rw [decide_eq_false h1, Bool.false_and]
theorem int_eqAt {Au : Around} {s : Shared} {i j : Int} {u v : Value} (r1 : RelV (.int i) u) (r2 : RelV (.int j) v) : SeqAt.EqAt Au s u v (decide (i = j)) := by
  have z := eqAt_V (A := Au) (s := s) r1 r2 rfl rfl
  have e : eqV (.int i) (.int j) = decide (i = j) := by show (i == j) = _; rw [Bool.beq_eq_decide_eq]
  rw [e] at z
  exact z
instance {K : PySem.W.Frag} : Qr K (rFr K) 1 where
  fn := fun {X pins σ F H s v x y} hK I wd h1 h2 => by
    subst hK
    obtain ⟨a, rfl, g1⟩ := h1
    obtain ⟨b, e, g2⟩ := h2
    cases e
    have z := sqT_fun I (wd.tup g1) (wd.tup g2)
    unfold fr at z
    injection z with z1 z2
    injection z2 with z2 _
    have n1 := V.int.inj z1
    have n2 := V.int.inj z2
    exact Rat.ext n1 (by omega)
  rf := fun ⟨a, h, _⟩ => ⟨a, h⟩
  rc := fun {X pins σ F H s Au a b x y} hK I wd h1 h2 hu => by
    subst hK
    obtain ⟨a', e1, g1⟩ := h1
    obtain ⟨b', e2, g2⟩ := h2
    cases e1
    cases e2
    have z := rc_tups (Au := Au) I (wd.tup g1) (wd.tup g2) (by omega) rfl (fun j => if j = 0 then decide (x.num = y.num) else decide ((x.den : Int) = (y.den : Int))) (fun j p q u v h1 h2 r1 r2 => by
      match j, h1, h2 with
      | 0, h1, h2 => cases h1; cases h2; exact int_eqAt r1 r2
      | 1, h1, h2 => cases h1; cases h2; exact int_eqAt r1 r2
      | j + 2, h1, h2 => cases h1)
    rw [rat_dec]
    have e : (List.range (fr x).length).all (fun j => if j = 0 then decide (x.num = y.num) else decide ((x.den : Int) = (y.den : Int))) = (decide (x.num = y.num) && decide ((x.den : Int) = (y.den : Int))) := by
      show (List.range 2).all _ = _
      simp [List.range_succ]
    rw [e] at z
    exact z
instance {K : PySem.W.Frag} {α β : Type} [DecidableEq α] [DecidableEq β] {A : Rep α} {B : Rep β} {d e : Nat} [qa : Qf K A d] [qb : Qf K B e] : Qr K (r2 K A B) (d + e + 1) where
  fn := fun {X pins σ F H s v x y} hK I wd h1 h2 => by
    subst hK
    obtain ⟨a, v1, v2, rfl, g, k1, k2⟩ := h1
    obtain ⟨b, w1, w2, e, g', l1, l2⟩ := h2
    cases e
    have z := sqT_fun I (wd.tup g) (wd.tup g')
    injection z with z1 z2
    injection z2 with z2 _
    subst z1 z2
    exact Prod.ext (qa.fn rfl I wd k1 l1) (qb.fn rfl I wd k2 l2)
  rf := fun ⟨a, _, _, h, _⟩ => ⟨a, h⟩
  rc := fun {X pins σ F H s Au a b x y} hK I wd h1 h2 hu => by
    subst hK
    obtain ⟨a', v1, v2, e1, g1, k1, k2⟩ := h1
    obtain ⟨b', w1, w2, e2, g2, l1, l2⟩ := h2
    cases e1
    cases e2
    have z := rc_tups (Au := Au) I (wd.tup g1) (wd.tup g2) (by omega) rfl (fun j => if j = 0 then decide (x.1 = y.1) else decide (x.2 = y.2)) (fun j p q u v h1 h2 r1 r2 => by
      match j, h1, h2 with
      | 0, h1, h2 => cases h1; cases h2; exact qa.qf rfl I wd k1 l1 r1 r2 (by rw [in1_units]; omega)
      | 1, h1, h2 => cases h1; cases h2; exact qb.qf rfl I wd k2 l2 r1 r2 (by rw [in1_units]; omega)
      | j + 2, h1, h2 => cases h1)
    have e0 : decide (x = y) = (decide (x.1 = y.1) && decide (x.2 = y.2)) := by
      rw [← Bool.decide_and]
      congr 1
      exact propext Prod.ext_iff
    have e : (List.range [v1, v2].length).all (fun j => if j = 0 then decide (x.1 = y.1) else decide (x.2 = y.2)) = (decide (x.1 = y.1) && decide (x.2 = y.2)) := by
      show (List.range 2).all _ = _
      simp [List.range_succ]
    rw [e] at z
    rw [e0]
    exact z
theorem al_fun {K : PySem.W.Frag} {α : Type} [DecidableEq α] {A : Rep α} {d : Nat} [qa : Qf K A d] {X : Cx} {pins : List (Addr × Obj)} {σ : St} {F H : Hp} {s : Shared} (hK : X.K = K) (I : Inv X pins σ H s) (wd : Same F H) :
    ∀ {vs : List V} {xs ys : List α}, Al A F vs xs → Al A F vs ys → xs = ys
  | [], [], [], _, _ => rfl
  | _ :: _, _ :: _, _ :: _, h, g => by rw [qa.fn hK I wd h.1 g.1, al_fun hK I wd h.2 g.2]
  | [], _ :: _, _, h, _ => h.elim
  | [], [], _ :: _, _, h => h.elim
  | _ :: _, [], _, h, _ => h.elim
  | _ :: _, _ :: _, [], _, h => h.elim
theorem all_dec {α : Type} [DecidableEq α] : ∀ (xs ys : List α), xs.length = ys.length → (List.range xs.length).all (fun j => decide (xs[j]? = ys[j]?)) = decide (xs = ys) := by
  intro xs ys h
  by_cases e : xs = ys
  · subst e; simp
  · rw [decide_eq_false e, Bool.eq_false_iff]
    intro z
    apply e
    rw [List.all_eq_true] at z
    apply List.ext_getElem? 
    intro j
    by_cases hj : j < xs.length
    · exact of_decide_eq_true (z j (List.mem_range.mpr hj))
    · rw [List.getElem?_eq_none (by omega), List.getElem?_eq_none (by omega)]
instance {K : PySem.W.Frag} {α : Type} [DecidableEq α] {A : Rep α} {d : Nat} [qa : Qf K A d] : Qr K (rL K A) (d + 1) where
  fn := fun {X pins σ F H s v x y} hK I wd h1 h2 => by
    obtain ⟨a, vs, rfl, g, k1⟩ := h1
    obtain ⟨b, ws, e, g', l1⟩ := h2
    cases e
    subst hK
    have z := sqL_fun I (wd.seq g) (wd.seq g')
    subst z
    exact al_fun rfl I wd k1 l1
  rf := fun ⟨a, _, h, _⟩ => ⟨a, h⟩
  rc := fun {X pins σ F H s Au a b x y} hK I wd h1 h2 hu => by
    subst hK
    obtain ⟨a', vs, e1, g1, k1⟩ := h1
    obtain ⟨b', ws, e2, g2, l1⟩ := h2
    cases e1
    cases e2
    have n1 := k1.length
    have n2 := l1.length
    by_cases hl : x.length = y.length
    · have z := rc_lsts (Au := Au) I (wd.seq g1) (wd.seq g2) (by omega) (by omega) (fun j => decide (x[j]? = y[j]?)) (fun j p q u v h1 h2 r1 r2 => by
        obtain ⟨m1, e1, f1⟩ := k1.get h1
        obtain ⟨m2, e2, f2⟩ := l1.get h2
        have e0 : decide (x[j]? = y[j]?) = decide (m1 = m2) := by
          rw [e1, e2]
          congr 1
          exact propext ⟨fun h => Option.some.inj h, fun h => by rw [h]⟩
        rw [e0]
        exact qa.qf rfl I wd f1 f2 r1 r2 (by rw [in1_units]; omega))
      rw [n1, all_dec x y hl] at z
      exact z
    · rw [decide_eq_false (fun z => hl (by rw [z]))]
      obtain ⟨us, r1, t1, _⟩ := I.list (wd.seq g1)
      obtain ⟨zs, r2, t2, _⟩ := I.list (wd.seq g2)
      have m1 := r1.length
      have m2 := r2.length
      exact SeqAt.RcAt.lists_lengths t1.isList t2.isList (by simp; omega) (by omega)
section
variable {X : Cx}
def rQ {α : Type} [DecidableEq α] (A : Rep α) : R2 := fun v w H Q => ∃ F x y, Same F H ∧ A F v x ∧ A F w y ∧ Q (.bl (decide (x = y))) H
theorem op_eqQ {α : Type} [DecidableEq α] {K : PySem.W.Frag} {A : Rep α} {d : Nat} [q : Qr K A d] (hK : X.K = K) (hu : X.A.units + 64 < cLine) (hd : d ≤ 60 := by decide) : OpR X (compareOp .Eq) (rQ A) := by
  intro pins s σ H x y v u Q I rx ry h
  obtain ⟨F, p, r, wd, h1, h2, hq⟩ := h
  obtain ⟨a, rfl⟩ := q.rf h1
  obtain ⟨b, rfl⟩ := q.rf h2
  cases rx
  cases ry
  exact q.rc hK I wd h1 h2 (by omega) X.prog X.w X.xe _ ⟨.bl _, H, I, rfl, hq⟩
end
theorem eqT_up {K : PySem.W.Frag} {H : Hp} : ∀ {n : Nat} {x y : V}, EqT K H n x y → EqT K H (n + 1) x y
  | 0, _, _, h => .inl h
  | n + 1, _, _, .inl h => .inl h
  | n + 1, _, _, .inr ⟨p, q, xs, ys, h1, h2, h3, h4⟩ => .inr ⟨p, q, xs, ys, h1, h2, h3, by
    have gen : ∀ {xs ys : List V}, All2 (EqT K H n) xs ys → All2 (EqT K H (n + 1)) xs ys := by
      intro xs
      induction xs with
      | nil => intro ys h; cases ys with
        | nil => exact True.intro
        | cons _ _ => exact h.elim
      | cons x xs ih => intro ys h; cases ys with
        | nil => exact h.elim
        | cons y ys => exact ⟨eqT_up h.1, ih h.2⟩
    exact gen h4⟩
theorem eqT_mono {K : PySem.W.Frag} {H : Hp} {n m : Nat} {x y : V} (h : EqT K H n x y) (k : n ≤ m) : EqT K H m x y := by
  induction k with
  | refl => exact h
  | step _ ih => exact eqT_up ih
theorem deqT_up {K : PySem.W.Frag} {H : Hp} {n : Nat} {ka kb : List (Key × V)} (h : DEqT K H n ka kb) : DEqT K H (n + 1) ka kb := ⟨h.1, fun k v m => by obtain ⟨y, e1, e2⟩ := h.2 k v m; exact ⟨y, e1, eqT_up e2⟩⟩
theorem eqN_up {K : PySem.W.Frag} {H : Hp} : ∀ {n : Nat} {x y : V}, EqN K H n x y → EqN K H (n + 1) x y
  | 0, _, _, h => .inl h
  | n + 1, _, _, .inl h => .inl h
  | n + 1, _, _, .inr ⟨p, q, h1, h2, .inr ⟨ka, kb, g1, g2, g3⟩⟩ => .inr ⟨p, q, h1, h2, .inr ⟨ka, kb, g1, g2, deqT_up g3⟩⟩
  | n + 1, _, _, .inr ⟨p, q, h1, h2, .inl ⟨xs, ys, h3, h4⟩⟩ => .inr ⟨p, q, h1, h2, .inl ⟨xs, ys, h3, by
    have gen : ∀ {xs ys : List V}, All2 (EqN K H n) xs ys → All2 (EqN K H (n + 1)) xs ys := by
      intro xs
      induction xs with
      | nil => intro ys h; cases ys with
        | nil => exact True.intro
        | cons _ _ => exact h.elim
      | cons x xs ih => intro ys h; cases ys with
        | nil => exact h.elim
        | cons y ys => exact ⟨eqN_up h.1, ih h.2⟩
    exact gen h4⟩⟩
theorem eqN_mono {K : PySem.W.Frag} {H : Hp} {n m : Nat} {x y : V} (h : EqN K H n x y) (k : n ≤ m) : EqN K H m x y := by
  induction k with
  | refl => exact h
  | step _ ih => exact eqN_up ih
theorem eqT_toN {K : PySem.W.Frag} {H : Hp} : ∀ {n : Nat} {x y : V}, EqT K H n x y → EqN K H n x y
  | 0, _, _, h => h
  | n + 1, _, _, .inl h => .inl h
  | n + 1, _, _, .inr ⟨p, q, xs, ys, h1, h2, h3, h4⟩ => .inr ⟨p, q, h1, h2, .inl ⟨xs, ys, h3, by
    have gen : ∀ {xs ys : List V}, All2 (EqT K H n) xs ys → All2 (EqN K H n) xs ys := by
      intro xs
      induction xs with
      | nil => intro ys h; cases ys with
        | nil => exact True.intro
        | cons _ _ => exact h.elim
      | cons x xs ih => intro ys h; cases ys with
        | nil => exact h.elim
        | cons y ys => exact ⟨eqT_toN h.1, ih h.2⟩
    exact gen h4⟩⟩
class Et {α : Type} (K : PySem.W.Frag) (A : Rep α) (n : outParam Nat) : Prop where
  et : ∀ {F H : Hp} {v w : V} {x : α}, Same F H → A F v x → A F w x → EqT K H n v w
instance {K : PySem.W.Frag} : Et K rI 0 := ⟨fun _ h g => by cases h; cases g; exact ⟨rfl, rfl⟩⟩
instance {K : PySem.W.Frag} : Et K rS 0 := ⟨fun _ h g => by cases h; cases g; exact ⟨rfl, rfl⟩⟩
instance {K : PySem.W.Frag} : Et K rB 0 := ⟨fun _ h g => by cases h; cases g; exact ⟨rfl, rfl⟩⟩
instance {K : PySem.W.Frag} : Et K rN 0 := ⟨fun _ h g => by cases h; cases g; exact ⟨rfl, rfl⟩⟩
instance {K : PySem.W.Frag} : Et K (rFr K) 1 := ⟨fun wd ⟨a, h1, h2⟩ ⟨b, g1, g2⟩ => .inr ⟨a, b, _, _, h1, g1, .inl ⟨wd.tup h2, wd.tup g2⟩, ⟨rfl, rfl⟩, ⟨rfl, rfl⟩, True.intro⟩⟩
instance {K : PySem.W.Frag} {α β : Type} {A : Rep α} {B : Rep β} {n m : Nat} [Et K A n] [Et K B m] : Et K (r2 K A B) (n + m + 1) :=
  ⟨fun wd ⟨a, v1, v2, h1, h2, h3, h4⟩ ⟨b, w1, w2, g1, g2, g3, g4⟩ => .inr ⟨a, b, _, _, h1, g1, .inl ⟨wd.tup h2, wd.tup g2⟩, eqT_mono (Et.et wd h3 g3) (by omega), eqT_mono (Et.et wd h4 g4) (by omega), True.intro⟩⟩
theorem al_et {K : PySem.W.Frag} {α : Type} {A : Rep α} {n : Nat} [Et K A n] {F H : Hp} (wd : Same F H) : ∀ {vs ws : List V} {xs : List α}, Al A F vs xs → Al A F ws xs → All2 (EqT K H n) vs ws
  | [], [], [], _, _ => True.intro
  | _ :: _, _ :: _, _ :: _, h, g => ⟨Et.et wd h.1 g.1, al_et wd h.2 g.2⟩
  | [], _ :: _, [], _, g => g.elim
  | _ :: _, _, [], h, _ => h.elim
  | [], _, _ :: _, h, _ => h.elim
  | _ :: _, [], _ :: _, _, g => g.elim
instance {K : PySem.W.Frag} {α : Type} {A : Rep α} {n : Nat} [Et K A n] : Et K (rL K A) (n + 1) :=
  ⟨fun wd ⟨a, vs, h1, h2, h3⟩ ⟨b, ws, g1, g2, g3⟩ => .inr ⟨a, b, _, _, h1, g1, .inr ⟨wd.seq h2, wd.seq g2⟩, al_et wd h3 g3⟩⟩
class En {α : Type} (K : PySem.W.Frag) (A : Rep α) (n : outParam Nat) : Prop where
  en : ∀ {F H : Hp} {v w : V} {x : α}, Same F H → A F v x → A F w x → EqN K H n v w
instance (priority := low) {K : PySem.W.Frag} {α : Type} {A : Rep α} {n : Nat} [Et K A n] : En K A n := ⟨fun wd h g => eqT_toN (Et.et wd h g)⟩
theorem dk_deq {K : PySem.W.Frag} {α : Type} {A : Rep α} {n : Nat} [Et K A n] {F H : Hp} {ka kb : List (Key × V)} {m m' : List (Str × α)} (wd : Same F H) (h : Dk A F ka m) (g : Dk A F kb m') (hn : (m.map (·.1)).Nodup) (hl : m.length = m'.length) (hg : ∀ k y, gtd m k = some y → gtd m' k = some y) : DEqT K H n ka kb := by
  refine ⟨by rw [h.length, g.length, hl], fun k v hm => ?_⟩
  obtain ⟨i, hi⟩ := List.getElem?_of_mem hm
  obtain ⟨x, q, e1, rfl, ha⟩ := h.get hi
  have hgt : gtd m x = some q := by
    have mem := List.mem_of_getElem? e1
    clear h hi hm hl hg e1
    induction m with
    | nil => cases mem
    | cons p r ih =>
      rw [List.map_cons, List.nodup_cons] at hn
      rcases List.mem_cons.mp mem with e | e
      · subst e; exact gtd_pos rfl
      · have ne : ¬ p.1 = x := fun z => hn.1 (by rw [z]; exact List.mem_map.mpr ⟨_, e, rfl⟩)
        rw [gtd_neg ne]; exact ih hn.2 e
  obtain ⟨w, v1, v3⟩ := g.some (hg x q hgt)
  exact ⟨w, v1, Et.et wd ha v3⟩
instance {K : PySem.W.Frag} {α : Type} {A : Rep α} {n : Nat} [Et K A n] : En K (rD A) (n + 1) :=
  ⟨fun wd ⟨a, ka, h1, h2, h3, h4⟩ ⟨b, kb, g1, g2, g3, g4⟩ => .inr ⟨a, b, h1, g1, .inr ⟨ka, kb, wd.rd h2, wd.rd g2, dk_deq wd h3 g3 h4 rfl fun _ _ e => e⟩⟩⟩
instance (priority := low) {K : PySem.W.Frag} {α β : Type} {A : Rep α} {B : Rep β} {n m : Nat} [En K A n] [En K B m] : En K (r2 K A B) (n + m + 1) :=
  ⟨fun wd ⟨a, v1, v2, h1, h2, h3, h4⟩ ⟨b, w1, w2, g1, g2, g3, g4⟩ => .inr ⟨a, b, h1, g1, .inl ⟨_, _, .inl ⟨wd.tup h2, wd.tup g2⟩, eqN_mono (En.en wd h3 g3) (by omega), eqN_mono (En.en wd h4 g4) (by omega), True.intro⟩⟩⟩
instance {K : PySem.W.Frag} {α β γ δ ε : Type} {A : Rep α} {B : Rep β} {C : Rep γ} {D : Rep δ} {E : Rep ε} {n m k l j : Nat} [En K A n] [En K B m] [En K C k] [En K D l] [En K E j] : En K (r5 K A B C D E) (n + m + k + l + j + 1) :=
  ⟨fun wd ⟨a, v1, v2, v3, v4, v5, h1, h2, h3, h4, h5, h6, h7⟩ ⟨b, w1, w2, w3, w4, w5, g1, g2, g3, g4, g5, g6, g7⟩ =>
    .inr ⟨a, b, h1, g1, .inl ⟨_, _, .inl ⟨wd.tup h2, wd.tup g2⟩, eqN_mono (En.en wd h3 g3) (by omega), eqN_mono (En.en wd h4 g4) (by omega), eqN_mono (En.en wd h5 g5) (by omega), eqN_mono (En.en wd h6 g6) (by omega), eqN_mono (En.en wd h7 g7) (by omega), True.intro⟩⟩⟩
theorem al_en {K : PySem.W.Frag} {α : Type} {A : Rep α} {n : Nat} [En K A n] {F H : Hp} (wd : Same F H) : ∀ {vs ws : List V} {xs : List α}, Al A F vs xs → Al A F ws xs → All2 (EqN K H n) vs ws
  | [], [], [], _, _ => True.intro
  | _ :: _, _ :: _, _ :: _, h, g => ⟨En.en wd h.1 g.1, al_en wd h.2 g.2⟩
  | [], _ :: _, [], _, g => g.elim
  | _ :: _, _, [], h, _ => h.elim
  | [], _, _ :: _, h, _ => h.elim
  | _ :: _, [], _ :: _, _, g => g.elim
instance (priority := low) {K : PySem.W.Frag} {α : Type} {A : Rep α} {n : Nat} [En K A n] : En K (rL K A) (n + 1) :=
  ⟨fun wd ⟨a, vs, h1, h2, h3⟩ ⟨b, ws, g1, g2, g3⟩ => .inr ⟨a, b, h1, g1, .inl ⟨_, _, .inr ⟨wd.seq h2, wd.seq g2⟩, al_en wd h3 g3⟩⟩⟩
section
variable {K : PySem.W.Frag} {F H : Hp} {Q : VK}
theorem a_eqDr {α : Type} {A : Rep α} {n : Nat} [Et K A n] {p q : Addr} {ka kb : List (Key × V)} {m m' : List (Str × α)} (wd : Same F H) (h1 : Rd H p (.dK ka)) (h : Dk A F ka m) (g1 : Rd H q (.dK kb)) (g : Dk A F kb m') (hm : (m.map (·.1)).Nodup) (hl : m.length = m'.length) (hg : ∀ k y, gtd m k = some y → gtd m' k = some y) (hn : n ≤ 40) {b : Bool} (k : Q (.bl b) H) : rEqD K b (.ref p) (.ref q) H Q :=
  ⟨n, p, q, ka, kb, hn, rfl, rfl, h1, g1, dk_deq wd h g hm hl hg, k⟩
end
end Vc
namespace L2
open PySem PySem.Spec PyProof.Rows
def clStep (env : Env) (cs : List (Str × Addr)) (y : Str × NameKind) : List (Str × Addr) := if (y.2 == .free) = true then (match env.cells.lookup y.1 with | some a => (y.1, a) :: cs | none => cs) else cs
def clOf (scope : Scope) (env : Env) : List (Str × Addr) := scope.names.foldl (clStep env) []
def clAll (scope : Scope) (env : Env) : Bool := scope.names.all fun y => !(y.2 == .free) || (env.cells.lookup y.1).isSome
theorem closureFor_clOf {scope : Scope} {env : Env} (h : clAll scope env = true) : closureFor scope env = pure (clOf scope env) := by
  unfold closureFor clOf
  unfold clAll at h
  have gen : ∀ (l : List (Str × NameKind)) (cs : List (Str × Addr)), (l.all fun y => !(y.2 == .free) || (env.cells.lookup y.1).isSome) = true →
      (forIn l cs fun x r => match x with | (name, kind) => if (kind == NameKind.free) = true then (do let a ← cellOf env name; pure (ForInStep.yield ((name, a) :: r))) else pure (ForInStep.yield r) : Sem (List (Str × Addr))) = pure (l.foldl (clStep env) cs) := by
    intro l
    induction l with
    | nil => intro cs _; rfl
    | cons y r ih =>
      intro cs ha
      rw [List.all_cons, Bool.and_eq_true] at ha
      obtain ⟨n, k⟩ := y
      rw [List.forIn_cons, List.foldl_cons]
      by_cases hk : (k == NameKind.free) = true
      · have h1 := ha.1
        simp only [hk, Bool.not_true, Bool.false_or] at h1
        obtain ⟨a, e⟩ := Option.isSome_iff_exists.mp h1
        have e1 : clStep env cs (n, k) = (n, a) :: cs := by unfold clStep; simp [hk, e]
        have e2 : cellOf env n = pure a := by unfold cellOf; rw [e]
        rw [e1, ← ih _ ha.2]
        simp only [hk, if_true, e2, pure_bind]
      · have e1 : clStep env cs (n, k) = cs := by unfold clStep; simp [hk]
        rw [e1, ← ih _ ha.2]
        simp only [hk, if_false, pure_bind, Bool.false_eq_true]
  have := gen scope.names [] h
  simp only [this, pure_bind]
theorem clOf_sub {scope : Scope} {env : Env} {x : Str} {c : Addr} (h : (clOf scope env).lookup x = some c) : env.cells.lookup x = some c := by
  unfold clOf at h
  have gen : ∀ (l : List (Str × NameKind)) (cs : List (Str × Addr)), (cs.lookup x = some c → env.cells.lookup x = some c) → (l.foldl (clStep env) cs).lookup x = some c → env.cells.lookup x = some c := by
    intro l
    induction l with
    | nil => intro cs f g; exact f g
    | cons y r ih =>
      intro cs f g
      rw [List.foldl_cons] at g
      refine ih _ (fun z => ?_) g
      unfold clStep at z
      split at z
      · split at z
        · rename_i a e
          rw [List.lookup_cons] at z
          by_cases hx : (x == y.1) = true
          · rw [hx] at z
            have := eq_of_beq hx
            subst this
            simp at z
            rw [← z]; exact e
          · simp only [hx] at z
            exact f z
        · exact f z
      · exact f z
  exact gen scope.names [] (fun z => by cases z) h
theorem clOf_has {scope : Scope} {env : Env} {x : Str} (ha : clAll scope env = true) (h : scope.names.lookup x = some .free) : ∃ c, (clOf scope env).lookup x = some c := by
  unfold clOf
  unfold clAll at ha
  have keep : ∀ (l : List (Str × NameKind)) (cs : List (Str × Addr)), (∃ c, cs.lookup x = some c) → ∃ c, (l.foldl (clStep env) cs).lookup x = some c := by
    intro l
    induction l with
    | nil => intro cs f; exact f
    | cons y r ih =>
      intro cs f
      rw [List.foldl_cons]
      refine ih _ ?_
      unfold clStep
      split
      · split
        · rw [List.lookup_cons]
          by_cases hx : (x == y.1) = true
          · rw [hx]; exact ⟨_, rfl⟩
          · simp only [hx]; exact f
        · exact f
      · exact f
  have gen : ∀ (l : List (Str × NameKind)) (cs : List (Str × Addr)), (l.all fun y => !(y.2 == .free) || (env.cells.lookup y.1).isSome) = true → l.lookup x = some .free → ∃ c, (l.foldl (clStep env) cs).lookup x = some c := by
    intro l
    induction l with
    | nil => intro cs _ f; cases f
    | cons y r ih =>
      intro cs ha f
      rw [List.all_cons, Bool.and_eq_true] at ha
      obtain ⟨n, k⟩ := y
      rw [List.foldl_cons]
      rw [List.lookup_cons] at f
      by_cases hx : (x == n) = true
      · rw [hx] at f
        have := eq_of_beq hx
        subst this
        simp at f
        subst f
        refine keep r _ ?_
        have h1 : (env.cells.lookup x).isSome = true := ha.1
        obtain ⟨a, e⟩ := Option.isSome_iff_exists.mp h1
        refine ⟨a, ?_⟩
        unfold clStep
        rw [if_pos (show ((NameKind.free) == NameKind.free) = true from rfl)]
        dsimp only
        rw [e]
        dsimp only
        rw [List.lookup_cons, hx]
      · simp only [hx] at f
        exact ih _ ha.2 f
  exact gen scope.names [] ha h
theorem relabel_inv {scope : Scope} {env : Env} {x : Str} (hcell : ∀ y ∈ scope.names, y.2 ≠ .cell) (h : (relabel scope env).names.lookup x = some .cell ∨ (relabel scope env).names.lookup x = some .free) : scope.names.lookup x = some .free := by
  unfold relabel at h
  dsimp only at h
  have gen : ∀ l : List (Str × NameKind), (∀ y ∈ l, y.2 ≠ .cell) → ((l.map fun (n, k) => if (k == NameKind.free && env.scope.kind == .function && env.kindOf n == some .cell) then (n, NameKind.cell) else (n, k)).lookup x = some .cell ∨ (l.map fun (n, k) => if (k == NameKind.free && env.scope.kind == .function && env.kindOf n == some .cell) then (n, NameKind.cell) else (n, k)).lookup x = some .free) → l.lookup x = some .free := by
    intro l
    induction l with
    | nil => intro _ f; rcases f with f | f <;> cases f
    | cons y r ih =>
      intro hc f
      obtain ⟨n, k⟩ := y
      have hk : k ≠ .cell := hc (n, k) (List.mem_cons_self ..)
      rw [List.map_cons] at f
      rw [List.lookup_cons]
      by_cases hx : (x == n) = true
      · rw [hx]
        dsimp only at f ⊢
        by_cases hf : (k == NameKind.free && env.scope.kind == .function && env.kindOf n == some .cell) = true
        · have : k = .free := by
            simp only [Bool.and_eq_true] at hf
            exact eq_of_beq hf.1.1
          rw [this]
        · rw [if_neg hf, List.lookup_cons, hx] at f
          simp only [Option.some.injEq] at f
          rcases f with f | f
          · exact absurd f hk
          · rw [f]
      · simp only [hx]
        refine ih (fun y hy => hc y (List.mem_cons_of_mem _ hy)) ?_
        dsimp only at f
        split at f <;> (rw [List.lookup_cons] at f; simp only [hx] at f; exact f)
  exact gen scope.names hcell h
inductive Wk : St → St → Prop
  | nil : Wk [] []
  | non {a b : St} {x : Option V} : Wk a b → Wk (none :: a) (x :: b)
  | som {a b : St} {v : V} : Wk a b → Wk (some v :: a) (some v :: b)
theorem Wk.length {a b : St} (h : Wk a b) : b.length = a.length := by
  induction h with
  | nil => rfl
  | non _ ih => simp [ih]
  | som _ ih => simp [ih]
theorem Wk.get {a b : St} (h : Wk a b) : ∀ {i : Nat} {v : V}, a[i]? = some (some v) → b[i]? = some (some v) := by
  induction h with
  | nil => intro i v e; simp at e
  | non _ ih =>
    intro i v e
    cases i with
    | zero => simp at e
    | succ i => simpa using ih (i := i) (v := v) (by simpa using e)
  | som _ ih =>
    intro i v e
    cases i with
    | zero => simpa using e
    | succ i => simpa using ih (i := i) (v := v) (by simpa using e)
theorem wk_refl : ∀ a : St, Wk a a
  | [] => .nil
  | none :: a => .non (wk_refl a)
  | some _ :: a => .som (wk_refl a)
def pickS (ix : List (Option Nat)) (σ : St) : St := ix.map fun o => match o with | none => none | some i => (σ[i]?).getD none
def PickOk (X : Cx) (sc : Scope) : List Str → List (Option Nat) → Prop
  | [], [] => True
  | _ :: N, none :: ix => PickOk X sc N ix
  | x :: N, some i :: ix => X.N[i]? = some x ∧ X.env.kindOf x = some .cell ∧ sc.names.lookup x = some .free ∧ PickOk X sc N ix
  | _, _ => False
theorem PickOk.length {X : Cx} {sc : Scope} : ∀ {N : List Str} {ix : List (Option Nat)}, PickOk X sc N ix → ix.length = N.length
  | [], [], _ => rfl
  | _ :: N, none :: ix, h => by rw [List.length_cons, List.length_cons, PickOk.length (X := X) (sc := sc) (N := N) (ix := ix) h]
  | _ :: N, some i :: ix, h => by rw [List.length_cons, List.length_cons, PickOk.length (X := X) (sc := sc) (N := N) (ix := ix) h.2.2.2]
  | [], _ :: _, h => h.elim
  | _ :: _, [], h => h.elim
theorem PickOk.get {X : Cx} {sc : Scope} {σ : St} : ∀ {N : List Str} {ix : List (Option Nat)} {j : Nat} {x : Str} {v : V}, PickOk X sc N ix → N[j]? = some x → (pickS ix σ)[j]? = some (some v) → ∃ i : Nat, X.N[i]? = some x ∧ X.env.kindOf x = some .cell ∧ sc.names.lookup x = some .free ∧ σ[i]? = some (some v)
  | _ :: N, none :: ix, 0, x, v, h, e1, e2 => by simp [pickS] at e2
  | _ :: N, none :: ix, j + 1, x, v, h, e1, e2 => PickOk.get (N := N) (ix := ix) (j := j) h (by simpa using e1) (by simpa [pickS] using e2)
  | y :: N, some i :: ix, 0, x, v, h, e1, e2 => by
    simp at e1
    subst e1
    refine ⟨i, h.1, h.2.1, h.2.2.1, ?_⟩
    simp [pickS] at e2
    cases q : σ[i]? with
    | none => rw [q] at e2; simp at e2
    | some o => rw [q] at e2; simp at e2; rw [e2]
  | y :: N, some i :: ix, j + 1, x, v, h, e1, e2 => PickOk.get (N := N) (ix := ix) (j := j) h.2.2.2 (by simpa using e1) (by simpa [pickS] using e2)
  | [], [], _, _, _, _, e1, _ => by simp at e1
  | [], _ :: _, _, _, _, h, _, _ => h.elim
  | _ :: _, [], _, _, _, h, _, _ => h.elim
theorem relabel_free {scope : Scope} {env : Env} {x : Str} (h : scope.names.lookup x = some .free) : (relabel scope env).names.lookup x = some .cell ∨ (relabel scope env).names.lookup x = some .free := by
  unfold relabel
  dsimp only
  have gen : ∀ l : List (Str × NameKind), l.lookup x = some .free → ((l.map fun (n, k) => if (k == NameKind.free && env.scope.kind == .function && env.kindOf n == some .cell) then (n, NameKind.cell) else (n, k)).lookup x = some .cell ∨ (l.map fun (n, k) => if (k == NameKind.free && env.scope.kind == .function && env.kindOf n == some .cell) then (n, NameKind.cell) else (n, k)).lookup x = some .free) := by
    intro l
    induction l with
    | nil => intro f; cases f
    | cons y r ih =>
      intro f
      obtain ⟨n, k⟩ := y
      rw [List.lookup_cons] at f
      rw [List.map_cons]
      by_cases hx : (x == n) = true
      · rw [hx] at f
        simp at f
        subst f
        dsimp only
        split
        · left; rw [List.lookup_cons, hx]
        · right; rw [List.lookup_cons, hx]
      · simp only [hx] at f
        dsimp only
        split <;> (rw [List.lookup_cons]; simp only [hx]; exact ih f)
  exact gen scope.names h
def cxComp (X : Cx) (scope : Scope) (N : List Str) (C : Addr) (s : Shared) (H : Hp) (fp : List Addr) (pl : List (Addr × Obj)) : Cx where
  prog := X.prog
  w := X.w
  K := X.K
  mg := X.mg
  base := X.base
  A := X.A
  N := N
  s₀ := s
  H₀ := H
  env := compEnvC scope (clOf scope X.env) C X.env
  outer := X.stack
  stack := X.stack
  ex := fp
  fn := fun _ => false
  calm := X.calm
  pn := X.pn ++ pl
  xe := fun _ _ => False
def PTs (Y : Cx) (ifs : List Expr) (t : TT) : Prop :=
  ∀ (pins : List (Addr × Obj)) (s : Shared) (σ : St) (H : Hp) (Q : Bool → Hp → Prop), Inv Y pins σ H s → t σ H Q →
    wpAny (model Y.prog Y.w) Y.A (forIn ifs true fun c r => if r = true then do let ok ← isTrue c Y.env (eval c Y.env); pure (ForInStep.yield ok) else pure (ForInStep.yield r)) (TP Y pins σ Q) Y.xe s
def tYes : TT := fun _ H Q => Q true H
theorem pts_nil {Y : Cx} : PTs Y [] tYes := fun _ _ _ H _ I h => wpAny_tests_nil ⟨H, I, h⟩
theorem compLoop_any {prog : Program} {w : World} {A : Around} {R : Result → Shared → Prop} {s : Shared} {elt target iter : Expr} {ifs : List Expr} {scope : Scope} {pos : Pos} {it acc : Value} {env : Env} (I : Nat → Shared → Prop)
    (turn : ∀ n s, I n s → wpAny (model prog w) A (pyNext it) (fun r s₁ => match r with
      | none => R (.ok .next) s₁
      | some v => wpAny (model prog w) A (letOwnedTupleGo target it v) (fun _ s₀ => wpAny (model prog w) A (assign target env v) (fun _ s₂ =>
          wpAny (model prog w) A (forIn ifs true fun c r => if r = true then do let ok ← isTrue c env (eval c env); pure (ForInStep.yield ok) else pure (ForInStep.yield r)) (fun ok s₃ =>
            if ok = true then wpAny (model prog w) A (eval elt env) (fun x s₄ =>
              wpAny (model prog w) A (call (.builtin "list.append") [acc, x]) (fun _ s₅ => ∃ m, m < n ∧ I m s₅) (notedBy (model prog w) A env fun e s' => R (.error e) s') s₄) (notedBy (model prog w) A env fun e s' => R (.error e) s') s₃
            else ∃ m, m < n ∧ I m s₃) (notedBy (model prog w) A env fun e s' => R (.error e) s') s₂) (notedBy (model prog w) A env fun e s' => R (.error e) s') s₀) (notedBy (model prog w) A env fun e s' => R (.error e) s') s₁) (notedBy (model prog w) A env fun e s' => R (.error e) s') s)
    (n : Nat) (h : I n s) : codeAny (model prog w) A (.compLoop (.ListComp elt [⟨target, iter, ifs, 0⟩] scope pos) 0 it acc env) R s := by
  refine codeAny_loop rfl I (fun n s hI => ?_) n h
  show wpAny _ A ((compTurn (.ListComp elt [⟨target, iter, ifs, 0⟩] scope pos) 0 it acc env).onRaise (fun x => do noteFrame x env; theTreesLotGoes x)) _ _ s
  refine wpAny_noted ?_
  rw [compTurn_list]
  refine wpAny_bind (wpAny_standAt (wpAny_bind (wpAny_mono (turn n s hI) (fun r s₁ h₁ => ?_) fun _ _ h' => h')))
  cases r with
  | none => exact wpAny_pure h₁
  | some v =>
    refine wpAny_bind (wpAny_mono h₁ (fun _ s₀ h₀ => ?_) fun _ _ h' => h')
    refine wpAny_bind (wpAny_mono h₀ (fun _ s₂ h₂ => wpAny_bind (wpAny_mono h₂ (fun ok s₃ h₃ => ?_) fun _ _ h' => h')) fun _ _ h' => h')
    cases ok with
    | false => exact wpAny_pure ⟨rfl, h₃⟩
    | true =>
      exact wpAny_bind (wpAny_bind (wpAny_mono h₃ (fun x s₄ h₄ => wpAny_bind (wpAny_mono h₄ (fun _ s₅ h₅ => wpAny_pure (wpAny_pure ⟨rfl, h₅⟩)) fun _ _ h' => h')) fun _ _ h' => h'))
end L2
namespace L2
open PySem PySem.Spec PyProof.Rows
section
variable {X : Cx} {pins : List (Addr × Obj)} {σ : St} {H : Hp} {s : Shared} {scope : Scope} {N : List Str} {fp : List Addr} {C : Addr}
theorem comp_ok (I : Inv X pins σ H s) (hC : s.heap.objs.size ≤ C) (hf : ∀ b ∈ fp, FpOk X pins H b) (hfo : ∀ b ∈ fp, ∃ o, s.heap.get? b = some o) (hkind : scope.kind = .function) (hcell : ∀ y ∈ scope.names, y.2 ≠ .cell) (hall : clAll scope X.env = true) :
    (cxComp X scope N C s H fp pins).Ok where
  mod := I.ok.mod
  kind := hkind
  glob := I.ok.glob
  blt := I.ok.blt
  above := hC
  inj := fun x y c h1 h2 => I.ok.inj x y c (clOf_sub h1) (clOf_sub h2)
  has := fun x h => clOf_has hall (relabel_inv hcell h)
  cab := fun x c h => by cases h
  hd := I.ok.hd
  frames := I.ok.frames
  stk := .inl rfl
  exf := fun b hb => ⟨fun z => by obtain ⟨o, e⟩ := hfo b hb; have := Heap.lt_size e; subst z; exact absurd (Nat.lt_of_lt_of_le this hC) (Nat.lt_irrefl _), fun x c e => (hf b hb).2.2.2.2.1 x c (clOf_sub e)⟩
  bs := I.bs
  bsz := Nat.le_trans I.ok.bsz I.sz
  noex := fun b o e hb => by
    rcases (hf b hb).2.2.2.1 with z | z
    · exact I.ok.noex b o e z
    · exact absurd (Nat.lt_of_lt_of_le (Heap.lt_size e) (Nat.le_trans I.ok.bsz z)) (Nat.lt_irrefl _)
  exfs := fun b hb hm => by
    rcases List.mem_cons.mp (I.stkSub b hm) with z | z
    · exact (hf b hb).2.1 z
    · exact (hf b hb).2.2.1 z
  funs := I.stack
  frf := I.stkFree
theorem comp_inv {h' : Heap} {m : Str → Option Value} {t' : Nat} {ix : List (Option Nat)} (I : Inv X pins σ H s) (ok : (cxComp X scope N C s H fp pins).Ok) (hC : s.heap.objs.size ≤ C) (k : ∀ b o, s.heap.get? b = some o → h'.get? b = some o) (hn : h'.Ns C m) (hpk : PickOk X scope N ix) (hall : clAll scope X.env = true) :
    Inv (cxComp X scope N C s H fp pins) [] (pickS ix σ) H { s with heap := h', toks := t' } where
  ok := ok
  os := rfl
  bare := I.bare
  base := Un.kept k
  loc := ⟨m, hn, fun i x v e1 e2 e3 => by
    obtain ⟨i', hN, hk, hfr, hσ⟩ := hpk.get e1 e2
    obtain ⟨m0, _, hl⟩ := I.loc
    obtain ⟨u, r, look⟩ := hl i' x v hN hσ (.inr (.inl hk))
    rcases look with ⟨z, _⟩ | ⟨_, c, hc, o, ho, hd⟩
    · rw [hk] at z; cases z
    · obtain ⟨c', hc'⟩ := clOf_has hall hfr
      have e := clOf_sub hc'
      rw [hc] at e
      cases e
      exact ⟨u, r, .inr ⟨relabel_free hfr, c, hc', o, k _ _ ho, hd⟩⟩⟩
  cell := fun x c e => by
    obtain ⟨v, o, ho, hd⟩ := I.cell x c (clOf_sub e)
    exact ⟨v, o, k _ _ ho, hd⟩
  free := I.hok.fresh hC
  freeC := fun x c e => I.freeC x c (clOf_sub e)
  pin := fun p hp => by
    have hp' : p ∈ X.pn ++ pins := by simpa [cxComp] using hp
    obtain ⟨e, n, ne, nf, d⟩ := I.pin p hp'
    refine ⟨k _ _ e, n, fun z => ?_, fun z => ?_, d⟩
    · have := Heap.lt_size e
      have z' : p.1 = C := z
      rw [z'] at this
      exact absurd (Nat.lt_of_lt_of_le this hC) (Nat.lt_irrefl _)
    · rcases List.mem_cons.mp (I.stkSub p.1 z) with q | q
      · exact ne q
      · exact nf q
  hok := I.hok.kept k
  len := by
    have := hpk.length
    simp [pickS, cxComp, this]
theorem comp_back {σ' : St} {H' : Hp} {s' : Shared} {D : Addr} {acc : List V} {its : List Value} {pl : List (Addr × Obj)} (I : Inv X pins σ H s) (J : Inv (cxComp X scope N C s H fp pins) pl σ' H' s') (hD : D = s.heap.objs.size) (hf : ∀ b ∈ fp, FpOk X pins H b)
    (hl : s'.heap.PlainList D its.toArray) (hv : Vals acc its) (hz : acc.length ≤ sizeLine) (hn : H' D = none) : Inv X pins σ (upd H' D (.lst acc)) s' := by
  have hDn : ∀ b o, s.heap.get? b = some o → b ≠ D := fun b o e z => by rw [z, hD] at e; exact absurd (Heap.lt_size e) (Nat.lt_irrefl _)
  have hHD : H D = none := I.hok.fresh (by rw [hD]; exact Nat.le_refl _)
  refine I.call' (ch := fp) J.os ⟨J.base.keep, J.base.slot, fun b o e n hx => ?_, J.base.there, fun b xs e => ?_, fun b o u e => ?_, fun b ps e => ?_⟩ (fun b u e => ?_) J.bare fun b hb => ⟨(hf b hb).2.2.2.1, (hf b hb).2.1, (hf b hb).2.2.2.2.1, (hf b hb).2.2.2.2.2⟩
  · rw [upd_ne (hDn b o e)]; exact J.base.free b o e n hx
  · rw [upd_ne (ne_of_none e hHD)]; exact J.base.tups b xs e
  · rw [upd_ne (ne_of_none e hHD)]; exact J.base.frzs b o u e
  · obtain ⟨mo, e2⟩ := J.base.tbls b ps e
    exact ⟨mo, by rw [upd_ne (ne_of_none e hHD)]; exact e2⟩
  · by_cases hb : b = D
    · subst hb
      rw [upd_same] at e
      cases e
      obtain ⟨n, g⟩ := hl
      exact ⟨hz, its, n, hv, g⟩
    · rw [upd_ne hb] at e
      exact (J.hok b u e).stay (fun _ _ _ q => q) (fun c q => by rw [upd_ne (ne_of_none q hn)]; exact q) fun c xs q => by rw [upd_ne (ne_of_none q hn)]; exact q
end
def tComp (wi : TI) (g : TG) (ti : TT) (te : TE) (ix : List (Option Nat)) : TE := fun σ H Q => wi σ H fun J H1 => ∃ W : Nat → Nat → List V → Hp → Prop, (∃ m, W 0 m [] H1) ∧ ∀ i m acc H, W i m acc H →
  (J.stop i H ∧ acc.length ≤ sizeLine ∧ ∀ p, H p = none → Q (.ref p) (upd H p (.lst acc))) ∨
  (J.go i H ∧ ∃ N : List V → Hp → Prop, (∀ acc' H', N acc' H' → ∃ m', m' < m ∧ W (i + 1) m' acc' H') ∧ ∀ x H', J.yld i H x H' → g x (pickS ix σ) H' fun σ2 H2 => Wk (pickS ix σ) σ2 ∧ ti σ2 H2 fun b H3 => if b = true then te σ2 H3 fun v H4 => acc.length < sizeLine ∧ N (acc ++ [v]) H4 else N acc H3)
section
variable {X : Cx} {elt target iter : Expr} {ifs : List Expr} {scope : Scope} {pos : Pos} {N : List Str} {ix : List (Option Nat)} {wi : TI} {g : TG} {ti : TT} {te : TE}
theorem comp_run {pins : List (Addr × Obj)} {σ : St} {H2 : Hp} {s2 : Shared} {Q : VK} {RR : Value → Addr → Result → Shared → Prop} {E : Value → Shared → Prop} {it : Addr} {fp : List Addr} {tn : Nat → Heap → Prop} {J : It}
    (hc : X.calm = true) (hg : ∀ C s H fp pl, PG (cxComp X scope N C s H fp pl) target g) (ht : ∀ C s H fp pl, PTs (cxComp X scope N C s H fp pl) ifs ti) (he : ∀ C s H fp pl, PE (cxComp X scope N C s H fp pl) elt te)
    (hkind : scope.kind = .function) (hcell : ∀ y ∈ scope.names, y.2 ≠ .cell) (hall : clAll scope X.env = true) (hpk : PickOk X scope N ix)
    (I2 : Inv X pins σ H2 s2) (T : Turn X.prog X.w X.K target J fp it tn) (st2 : tn 0 s2.heap) (f2 : ∀ b ∈ fp, FpOk X pins H2 b)
    (h : ∃ W : Nat → Nat → List V → Hp → Prop, (∃ m, W 0 m [] H2) ∧ ∀ i m acc H, W i m acc H →
      (J.stop i H ∧ acc.length ≤ sizeLine ∧ ∀ p, H p = none → Q (.ref p) (upd H p (.lst acc))) ∨
      (J.go i H ∧ ∃ N : List V → Hp → Prop, (∀ acc' H', N acc' H' → ∃ m', m' < m ∧ W (i + 1) m' acc' H') ∧ ∀ x H', J.yld i H x H' → g x (pickS ix σ) H' fun σ2 H2 => Wk (pickS ix σ) σ2 ∧ ti σ2 H2 fun b H3 => if b = true then te σ2 H3 fun v H4 => acc.length < sizeLine ∧ N (acc ++ [v]) H4 else N acc H3))
    (hR : ∀ (D C : Addr) (s' : Shared) (H' : Hp) (m : Str → Option Value), Inv X pins σ H' s' → s'.heap.Ns C m → H' C = none → s2.heap.objs.size ≤ C → Q (.ref D) H' → RR (.ref D) C (.ok .next) s') :
    wpAny (model X.prog X.w) X.A (newList []) (fun acc s₃ => wpAny (model X.prog X.w) X.A (newFunctionEnv scope X.env.globals (clOf scope X.env) [] X.env.qual none .none (some X.env)) (fun cenv s₄ =>
      codeAny (model X.prog X.w) X.A (.compStart (.ListComp elt [⟨target, iter, ifs, 0⟩] scope pos) 0 (.ref it) acc { cenv with scope := relabel scope X.env }) (RR acc cenv.locals) s₄) E s₃) E s2 := by
  obtain ⟨W, ⟨m0, w0⟩, turn⟩ := h
  refine wpAny_newObj_type (wpAny_newFunctionEnv hcell (by intro y hy; simp at hy) (fun h₁ hns₁ hsb₁ => ?_) hkind)
  dsimp only at hns₁ hsb₁ ⊢
  generalize hH2 : s2.heap.push { cls := .type "list", dict := none, data := .seq ([] : List Value).toArray } = P2 at hns₁ hsb₁ ⊢
  have hC : P2.objs.size = s2.heap.objs.size + 1 := by rw [← hH2, Heap.size_push]
  have hDC : s2.heap.objs.size ≠ P2.objs.size := by rw [hC]; exact Nat.ne_of_lt (Nat.lt_succ_self _)
  have hCle : s2.heap.objs.size ≤ P2.objs.size := by rw [hC]; exact Nat.le_succ _
  have below : ∀ b, b < s2.heap.objs.size → b ≠ P2.objs.size ∧ b ≠ s2.heap.objs.size := fun b hb => ⟨by rw [hC]; exact Nat.ne_of_lt (Nat.lt_succ_of_lt hb), Nat.ne_of_lt hb⟩
  have old : ∀ b o, s2.heap.get? b = some o → h₁.get? b = some o := fun b o e => hsb₁.extBut b o (below b (Heap.lt_size e)).1 (Heap.get?_push_of_some _ (hH2 ▸ Heap.get?_push_of_some _ e))
  have hacc : h₁.PlainList s2.heap.objs.size #[] := ⟨_, hsb₁.extBut _ _ hDC (Heap.get?_push_of_some _ (hH2 ▸ Heap.get?_push_size _ rfl))⟩
  have hfo : ∀ b ∈ fp, ∃ o, s2.heap.get? b = some o := fun b hb => let ⟨o, e, _⟩ := T.obj 0 _ st2 b hb; ⟨o, e⟩
  have hfD : s2.heap.objs.size ∉ fp := fun hm => by obtain ⟨o, e⟩ := hfo _ hm; exact absurd (Heap.lt_size e) (Nat.lt_irrefl _)
  have ok := comp_ok (N := N) (C := P2.objs.size) I2 hCle f2 hfo hkind hcell hall
  have st1 : tn 0 h₁ := T.keep 0 _ _ st2 fun b _ o e => old b o e
  have J0 := comp_inv (t' := s2.toks + ([] : List (Str × Value)).length) (ix := ix) I2 ok hCle old hns₁ hpk hall
  have pnD : ∀ p ∈ X.pn ++ pins, p.1 ≠ s2.heap.objs.size := fun p hp => (below _ (Heap.lt_size (I2.pin p hp).1)).2
  have cellD : ∀ x c, (clOf scope X.env).lookup x = some c → c ≠ s2.heap.objs.size := fun x c e => by
    obtain ⟨v, o, ho, _⟩ := I2.cell x c (clOf_sub e)
    exact (below _ (Heap.lt_size ho)).2
  have stat : ∀ {pl : List (Addr × Obj)} {H' : Hp}, (∀ b ∈ fp, H' b = none) → (∀ p ∈ pl, p.1 = s2.heap.objs.size) → ∀ b ∈ fp, FpOk (cxComp X scope N P2.objs.size s2 H2 fp pins) pl H' b := fun {pl H'} hn hp b hb => by
    refine ⟨hn b hb, (ok.exf b hb).1, ok.exfs b hb, .inl hb, (ok.exf b hb).2, fun p hm => ?_⟩
    rcases List.mem_append.mp hm with z | z
    · exact (f2 b hb).2.2.2.2.2 p z
    · rw [hp p z]; intro q; rw [q] at hfD; exact hfD hb
  have loop : ∀ s₃ : Shared, s₃ = { s2 with heap := h₁, toks := s2.toks + ([] : List (Str × Value)).length } →
      codeAny (model X.prog X.w) X.A (.compLoop (.ListComp elt [⟨target, iter, ifs, 0⟩] scope pos) 0 (.ref it) (.ref s2.heap.objs.size) (compEnvC scope (clOf scope X.env) P2.objs.size X.env)) (RR (.ref s2.heap.objs.size) P2.objs.size) s₃ := by
    rintro s₃ rfl
    refine compLoop_any (fun n s' => ∃ i acc its σ' H', Inv (cxComp X scope N P2.objs.size s2 H2 fp pins) [] σ' H' s' ∧ Wk (pickS ix σ) σ' ∧ tn i s'.heap ∧ (∀ b ∈ fp, H' b = none) ∧ s'.heap.PlainList s2.heap.objs.size (List.toArray its) ∧ Vals acc its ∧ H' s2.heap.objs.size = none ∧ W i n acc H') ?_ m0
      ⟨0, [], [], _, H2, J0, wk_refl _, st1, fun b hb => (f2 b hb).1, hacc, .nil, I2.hok.fresh (Nat.le_refl _), w0⟩
    rintro n s3 ⟨i, acc, its, σ3, H3, I3, wk3, st3, fr3, pl3, va3, nd3, w3⟩
    obtain ⟨kk, g3⟩ := id pl3
    have I3' : Inv (cxComp X scope N P2.objs.size s2 H2 fp pins) [(s2.heap.objs.size, ⟨.type "list", none, .seq (List.toArray its) kk, #[]⟩)] σ3 H3 s3 := I3.pins_of fun p hp => by
      have e := List.mem_singleton.mp hp
      subst e
      refine ⟨g3, nd3, hDC, fun z => ?_, fun v q => by cases q⟩
      obtain ⟨_, o, ho, _⟩ := (I2.stack).mem z
      exact absurd (Heap.lt_size ho) (Nat.lt_irrefl _)
    have onlyD : ∀ p ∈ [((s2.heap.objs.size, ⟨.type "list", none, .seq (List.toArray its) kk, #[]⟩) : Addr × Obj)], p.1 = s2.heap.objs.size := fun p hp => by
      rw [List.mem_singleton.mp hp]
    rcases turn i n acc H3 w3 with ⟨stop, hlen, fin⟩ | ⟨go, NN, hNN, step⟩
    · refine wpAny_mono (T.done (cxComp X scope N P2.objs.size s2 H2 fp pins) rfl rfl rfl hc i _ s3 σ3 H3 _ I3' (stat fr3 onlyD) st3 stop) (fun r s4 h4 => ?_) fun _ _ z => z
      obtain ⟨hr, I4⟩ := h4
      subst hr
      have g4 := (I4.pin (s2.heap.objs.size, _) (List.mem_append_right _ (List.mem_singleton.mpr rfl))).1
      obtain ⟨mm, hnm, _⟩ := I4.loc
      have B := comp_back I2 I4 rfl f2 ⟨kk, g4⟩ va3 hlen nd3
      refine hR _ _ s4 _ mm B hnm ?_ hCle (fin _ nd3)
      rw [upd_ne (Ne.symm hDC)]
      exact I4.free
    · refine wpAny_mono (T.item (cxComp X scope N P2.objs.size s2 H2 fp pins) rfl rfl rfl hc i _ s3 σ3 H3 _ I3' (stat fr3 onlyD) st3 go) (fun r s4 h4 => ?_) fun _ _ z => z
      obtain ⟨u, hr, h4⟩ := h4
      subst hr
      refine wpAny_mono h4 (fun _ s5 h5 => ?_) fun _ _ z => z
      obtain ⟨x, H5, I5, r5, y5, st5, fr5⟩ := h5
      have I5w := I5.weak wk3.length.symm (fun i v e => wk3.get e)
      have I5' := I5w.pinned (fp := fp) (stat fr5 onlyD) (T.obj _ _ st5)
      refine wpAny_mono (hg P2.objs.size s2 H2 fp pins _ s5 _ H5 x u _ I5' r5 (step x H5 y5)) (fun _ s6 h6 => ?_) fun _ _ z => z.elim
      obtain ⟨σ6, H6, I6, wk6, q6⟩ := h6
      refine wpAny_mono (ht P2.objs.size s2 H2 fp pins _ s6 σ6 H6 _ I6 q6) (fun ok s7 h7 => ?_) fun _ _ z => z.elim
      obtain ⟨H7, I7, q7⟩ := h7
      have keepT : ∀ {σ8 : St} {H8 : Hp} {s8 : Shared}, Inv (cxComp X scope N P2.objs.size s2 H2 fp pins) ([((s2.heap.objs.size, ⟨.type "list", none, .seq (List.toArray its) kk, #[]⟩) : Addr × Obj)] ++ pinsAt fp s5.heap) σ8 H8 s8 →
          (∀ b ∈ fp, ∀ o, s5.heap.get? b = some o → s8.heap.get? b = some o) ∧ (∀ b ∈ fp, H8 b = none) := fun {σ8 H8 s8} I8 => by
        refine ⟨fun b hb o e => (I8.pin (b, o) (List.mem_append_right _ (List.mem_append_right _ (mem_pinsAt hb e)))).1, fun b hb => ?_⟩
        obtain ⟨o, e, d⟩ := T.obj _ _ st5 b hb
        exact (I8.pin (b, o) (List.mem_append_right _ (List.mem_append_right _ (mem_pinsAt hb e)))).2.1
      have unpin : ∀ {σ8 : St} {H8 : Hp} {s8 : Shared} {pl : List (Addr × Obj)}, Inv (cxComp X scope N P2.objs.size s2 H2 fp pins) pl σ8 H8 s8 → Inv (cxComp X scope N P2.objs.size s2 H2 fp pins) [] σ8 H8 s8 := fun I8 => I8.pins_of fun p hp => by cases hp
      cases ok with
      | false =>
        simp only [Bool.false_eq_true, if_false] at q7 ⊢
        obtain ⟨m', hm, w7⟩ := hNN _ _ q7
        have p7 := I7.pin (s2.heap.objs.size, _) (List.mem_append_right _ (List.mem_append_left _ (List.mem_singleton.mpr rfl)))
        obtain ⟨k1, k2⟩ := keepT I7
        exact ⟨m', hm, i + 1, acc, its, σ6, H7, unpin I7, wk6, T.keep _ _ _ st5 k1, k2, ⟨kk, p7.1⟩, va3, p7.2.1, w7⟩
      | true =>
        simp only [if_true] at q7 ⊢
        refine wpAny_mono (he P2.objs.size s2 H2 fp pins _ s7 σ6 H7 _ I7 q7) (fun y s8 h8 => ?_) fun _ _ z => z.elim
        obtain ⟨v, H8, I8, r8, hlt, q8⟩ := h8
        obtain ⟨m', hm, w8⟩ := hNN _ _ q8
        have p8 := I8.pin (s2.heap.objs.size, _) (List.mem_append_right _ (List.mem_append_left _ (List.mem_singleton.mpr rfl)))
        obtain ⟨k1, k2⟩ := keepT I8
        have hl := va3.length
        refine wpAny_list_append_plain (items := List.toArray its) (hsz := by rw [List.size_toArray, ← hl]; exact Nat.le_of_lt hlt) ⟨kk, p8.1⟩ fun h₅ hl₅ hs₅ => ?_
        have I9 : Inv (cxComp X scope N P2.objs.size s2 H2 fp pins) [] σ6 H8 { s8 with heap := h₅ } := (unpin I8).turned (t' := s8.toks) (it := s2.heap.objs.size) (fun b o hb e => hs₅.extBut b o hb e) p8.2.1 hDC (.inr (Nat.le_refl _)) cellD (fun p hp => by
          have hp' : p ∈ X.pn ++ pins := by simpa [cxComp] using hp
          exact pnD p hp')
        refine ⟨m', hm, i + 1, acc ++ [v], its ++ [y], σ6, H8, I9, wk6, T.keep _ _ _ st5 fun b hb o e => hs₅.extBut b o (fun z => hfD (z ▸ hb)) (k1 b hb o e), k2, ?_, va3.append (.cons r8 .nil), p8.2.1, w8⟩
        have e : (its ++ [y]).toArray = its.toArray.push y := by simp
        rw [e]
        exact hl₅
  exact codeAny_compStart_list (loop _ rfl) (T.self X.A 0 _ _ _ st1 (loop _ rfl))
theorem pe_comp (hc : X.calm = true) (hi : PI X target iter wi) (hg : ∀ C s H fp pl, PG (cxComp X scope N C s H fp pl) target g) (ht : ∀ C s H fp pl, PTs (cxComp X scope N C s H fp pl) ifs ti) (he : ∀ C s H fp pl, PE (cxComp X scope N C s H fp pl) elt te)
    (hpk : PickOk X scope N ix) (hkind : scope.kind = .function := by rfl) (hcell : ∀ y ∈ scope.names, y.2 ≠ .cell := by decide) (hnames : ∀ x ∈ scope.names, x.2 = .local → scope.names.lookup x.1 = some .local := by decide) (hall : clAll scope X.env = true := by rfl)
    (hs : ∀ x, foldedSetIterable iter X.env x = pure x := by intro _; rfl) : PE X (.ListComp elt [⟨target, iter, ifs, 0⟩] scope pos) (tComp wi g ti te ix) := by
  intro pins s σ H Q I h
  rw [eval_ListComp]
  refine wpAny_comprehension_free (use := none) rfl hs (closureFor_clOf hall) hkind hnames ?_
  refine thn (hi pins s σ H _ I h) fun v s1 h1 => thn h1 fun itv s2 h2 => ?_
  obtain ⟨it, fp, tn, J, H2, e, I2, T, st2, f2, h⟩ := h2
  subst e
  refine comp_run (RR := fun acc C => compPost (model X.prog X.w) X.A X.xe none (EP X pins σ Q) acc C) hc hg ht he hkind hcell hall hpk I2 T st2 f2 h ?_
  intro D C s' H' m B hn hHC hle q
  refine ⟨m, hn, fun h' hs' => ⟨.ref D, H', B.turned (t' := s'.toks) (it := C) (fun b o hb e => hs'.extBut b o hb e) hHC (Nat.ne_of_gt (Nat.lt_of_lt_of_le I2.lt hle)) (.inr (Nat.le_trans I2.sz hle)) (fun x c e => ?_) (fun p hp => ?_), rfl, q⟩⟩
  · obtain ⟨v, o, ho, _⟩ := I2.cell x c e
    exact Nat.ne_of_lt (Nat.lt_of_lt_of_le (Heap.lt_size ho) hle)
  · exact Nat.ne_of_lt (Nat.lt_of_lt_of_le (Heap.lt_size (I2.pin p hp).1) hle)
theorem ps_setC {i : Nat} {y : Str} {py spos : Pos} (hN : X.N.Nodup) (hyi : X.N[i]? = some y) (hy : Loc X.env.scope y) (hc : X.calm = true) (hi : PI X target iter wi) (hg : ∀ C s H fp pl, PG (cxComp X scope N C s H fp pl) target g) (ht : ∀ C s H fp pl, PTs (cxComp X scope N C s H fp pl) ifs ti) (he : ∀ C s H fp pl, PE (cxComp X scope N C s H fp pl) elt te)
    (hpk : PickOk X scope N ix) (hsw : swapsWith (.ListComp elt [⟨target, iter, ifs, 0⟩] scope pos) (some (.Name y py)) spos.line X.env = pure true := by with_unfolding_all rfl) (hkind : scope.kind = .function := by rfl) (hcell : ∀ y ∈ scope.names, y.2 ≠ .cell := by decide) (hnames : ∀ x ∈ scope.names, x.2 = .local → scope.names.lookup x.1 = some .local := by decide) (hall : clAll scope X.env = true := by rfl)
    (hs : ∀ x, foldedSetIterable iter X.env x = pure x := by intro _; rfl) (hf : X.fn y = true ∨ X.env.scope.names.lookup y = some .local := by first | exact .inl rfl | exact .inr rfl | assumption) : PS X (.Assign [.Name y py] (.ListComp elt [⟨target, iter, ifs, 0⟩] scope pos) spos) (tAsg (tComp wi g ti te ix) (gName i)) := by
  intro pins s σ H D I h
  rw [exec_Assign_Name_used _ _ _ _ hsw]
  refine wpAny_bind (wpAny_standAt (wpAny_bind ?_))
  show wpAny _ X.A (do let _ ← comprehension (.ListComp elt [⟨target, iter, ifs, 0⟩] scope pos) scope X.env _ (newList []) false (eval iter X.env) (some (assign (.Name y py) X.env))) _ _ s
  refine wpAny_bind (wpAny_mono (wpAny_comprehension_free (use := some (assign (.Name y py) X.env)) (Q := fun _ s' => SP X pins D .next s') rfl hs (closureFor_clOf hall) hkind hnames ?_) (fun _ s' hq => wpAny_pure (wpAny_pure hq)) fun _ _ e => e)
  refine thn (hi pins s σ H _ I h) fun v s1 h1 => thn h1 fun itv s2 h2 => ?_
  obtain ⟨it, fp, tn, J, H2, e, I2, T, st2, f2, h⟩ := h2
  subst e
  refine comp_run (Q := fun x H1 => gName i x σ H1 D.nx) (RR := fun acc C => compPost (model X.prog X.w) X.A X.xe (some (assign (.Name y py) X.env)) (fun _ s' => SP X pins D .next s') acc C) hc hg ht he hkind hcell hall hpk I2 T st2 f2 h ?_
  intro Dd C s' H' m B hn hHC hle q
  show wpAny _ X.A (assign (.Name y py) X.env (.ref Dd)) _ _ _
  have cC : ∀ x c, X.env.cells.lookup x = some c → c ≠ C := fun x c e => by
    obtain ⟨v, o, ho, _⟩ := I2.cell x c e
    exact Nat.ne_of_lt (Nat.lt_of_lt_of_le (Heap.lt_size ho) hle)
  have lC : X.env.locals ≠ C := Nat.ne_of_lt (Nat.lt_of_lt_of_le I2.lt hle)
  refine wpAny_assign_Name (store_ok2 (v := .ref Dd) B hN hyi hy rfl (fun s4 I4 hsb => ?_) hf)
  obtain ⟨a, hsa, ha⟩ := hsb
  have nC : C ≠ a := by
    rcases ha with z | z
    · rw [z]; exact Ne.symm lC
    · exact Ne.symm (cC _ _ z)
  refine ⟨m, hn.sameBut hsa nC, fun h' hs' => ⟨_, H', I4.turned (t' := s4.toks) (it := C) (fun b o hb e => hs'.extBut b o hb e) hHC (Ne.symm lC) (.inr (Nat.le_trans I2.sz hle)) cC (fun p hp => ?_), q⟩⟩
  exact Nat.ne_of_lt (Nat.lt_of_lt_of_le (Heap.lt_size (I2.pin p hp).1) hle)
end
section
variable {g : TG} {ti : TT} {te : TE} {ix : List (Option Nat)} {σ : St} {Q : VK}
def CompW (J : It) (g : TG) (ti : TT) (te : TE) (ix : List (Option Nat)) (σ : St) (Q : VK) (H1 : Hp) : Prop := ∃ W : Nat → Nat → List V → Hp → Prop, (∃ m, W 0 m [] H1) ∧ ∀ i m acc H, W i m acc H →
  (J.stop i H ∧ acc.length ≤ sizeLine ∧ ∀ p, H p = none → Q (.ref p) (upd H p (.lst acc))) ∨
  (J.go i H ∧ ∃ N : List V → Hp → Prop, (∀ acc' H', N acc' H' → ∃ m', m' < m ∧ W (i + 1) m' acc' H') ∧ ∀ x H', J.yld i H x H' → g x (pickS ix σ) H' fun σ2 H2 => Wk (pickS ix σ) σ2 ∧ ti σ2 H2 fun b H3 => if b = true then te σ2 H3 fun v H4 => acc.length < sizeLine ∧ N (acc ++ [v]) H4 else N acc H3)
theorem a_comp {wi : TI} {H : Hp} (h : wi σ H fun J H1 => CompW J g ti te ix σ Q H1) : tComp wi g ti te ix σ H Q := h
theorem compw {J : It} {n : Nat} {H1 : Hp} (Pv : Nat → List V → Hp → Prop) (h0 : Pv 0 [] H1) (hgo : ∀ i acc H, i < n → Pv i acc H → J.go i H) (hst : ∀ acc H, Pv n acc H → J.stop n H)
    (hs : ∀ i x acc H H', i < n → Pv i acc H → J.yld i H x H' → g x (pickS ix σ) H' fun σ2 H2 => Wk (pickS ix σ) σ2 ∧ ti σ2 H2 fun b H3 => if b = true then te σ2 H3 fun v H4 => acc.length < sizeLine ∧ Pv (i + 1) (acc ++ [v]) H4 else Pv (i + 1) acc H3)
    (hd : ∀ acc H, Pv n acc H → acc.length ≤ sizeLine ∧ ∀ p, H p = none → Q (.ref p) (upd H p (.lst acc))) : CompW J g ti te ix σ Q H1 := by
  refine ⟨fun i m acc H => m = n - i ∧ i ≤ n ∧ Pv i acc H, ⟨n, by simp, Nat.zero_le _, h0⟩, ?_⟩
  rintro i m acc H ⟨rfl, hi, p⟩
  by_cases hlt : i < n
  · exact .inr ⟨hgo i acc H hlt p, Pv (i + 1), fun acc' H' p' => ⟨n - (i + 1), by omega, rfl, hlt, p'⟩, fun x H' y => hs i x acc H H' hlt p y⟩
  · have e : i = n := by omega
    subst e
    exact .inl ⟨hst acc H p, hd acc H p⟩
theorem comp_list {K : PySem.W.Frag} {a : Addr} {xs : List V} {H1 : Hp} (Pv : Nat → List V → Hp → Prop) (h0 : Pv 0 [] H1) (hl : ∀ i acc H, i ≤ xs.length → Pv i acc H → SqL K H a xs)
    (hs : ∀ i x acc H, xs[i]? = some x → Pv i acc H → g x (pickS ix σ) H fun σ2 H2 => Wk (pickS ix σ) σ2 ∧ ti σ2 H2 fun b H3 => if b = true then te σ2 H3 fun v H4 => acc.length < sizeLine ∧ Pv (i + 1) (acc ++ [v]) H4 else Pv (i + 1) acc H3)
    (hd : ∀ acc H, Pv xs.length acc H → acc.length ≤ sizeLine ∧ ∀ p, H p = none → Q (.ref p) (upd H p (.lst acc))) : CompW (Itl K a) g ti te ix σ Q H1 := by
  refine compw (n := xs.length) Pv h0 (fun i acc H hi p => ⟨xs, xs[i], hl i acc H (Nat.le_of_lt hi) p, by simp [hi]⟩) (fun acc H p => ⟨xs, hl _ acc H (Nat.le_refl _) p, Nat.le_refl _⟩) (fun i x acc H H' hi p y => ?_) hd
  obtain ⟨e, y⟩ := y
  subst e
  exact hs i x acc _ (y xs (hl i acc _ (Nat.le_of_lt hi) p)) p
theorem comp_range {lo : Int} {n : Nat} {H1 : Hp} (Pv : Nat → List V → Hp → Prop) (h0 : Pv 0 [] H1)
    (hs : ∀ i acc H, i < n → Pv i acc H → g (.int (lo + i)) (pickS ix σ) H fun σ2 H2 => Wk (pickS ix σ) σ2 ∧ ti σ2 H2 fun b H3 => if b = true then te σ2 H3 fun v H4 => acc.length < sizeLine ∧ Pv (i + 1) (acc ++ [v]) H4 else Pv (i + 1) acc H3)
    (hd : ∀ acc H, Pv n acc H → acc.length ≤ sizeLine ∧ ∀ p, H p = none → Q (.ref p) (upd H p (.lst acc))) : CompW (Itr lo n) g ti te ix σ Q H1 := by
  refine compw (n := n) Pv h0 (fun i acc H hi p => hi) (fun acc H p => Nat.le_refl _) (fun i x acc H H' hi p y => ?_) hd
  obtain ⟨e, y⟩ := y
  subst e
  subst y
  exact hs i acc _ hi p
end
end L2
namespace L2
open PySem PySem.Spec PyProof.Rows
section
variable {X : Cx}
end
section
variable {X : Cx} {tg : Expr}
end
section
variable {σ : St} {H : Hp} {R : It → Hp → Prop} {K : PySem.W.Frag}
theorem a_for {wi : TI} {g : TG} {tb : TS} {D : Ends} (h : wi σ H fun J H1 => ∃ W : Nat → Nat → St → Hp → Prop, (∃ m, W 0 m σ H1) ∧ ∀ i m σ H, W i m σ H →
  (J.stop i H ∧ D.nx σ H) ∨ (J.go i H ∧ ∃ N : St → Hp → Prop, (∀ σ' H', N σ' H' → ∃ m', m' < m ∧ W (i + 1) m' σ' H') ∧ ∀ x H', J.yld i H x H' → g x σ H' fun σ2 H2 => tb { D with nx := N, ct := N, bk := D.nx } σ2 H2)) : tFor wi g tb D σ H := h
theorem a_rng1 {ta : TA} (h : ta σ H fun vs H1 => ∃ j : Int, vs = [.int j] ∧ -(2 ^ 62) ≤ j ∧ j < 2 ^ 62 ∧ R (Itr 0 j.toNat) H1) : iRng1 ta σ H R := h
theorem a_ilist {tl : TE} (h : tl σ H fun x H1 => ∃ a, x = .ref a ∧ (∃ xs, SqL K H1 a xs) ∧ R (Itl K a) H1) : iList K tl σ H R := h
end
end L2
namespace L2
open PySem PySem.Spec PyProof.Rows
theorem ObjOk.has {P : Program} {w : World} {H : Hp} {h : Heap} {a : Addr} {o : HO} (x : ObjOk P w H h a o) : ∃ u, h.get? a = some u := by
  cases o with
  | lst xs => obtain ⟨_, _, _, _, e⟩ := x; exact ⟨_, e⟩
  | tup xs => obtain ⟨_, _, _, u, e, _⟩ := x; exact ⟨_, e⟩
  | dK kvs => obtain ⟨_, _, _, _, u, _, _, e, _⟩ := x; exact ⟨_, e⟩
  | dT kvs => obtain ⟨_, _, _, _, u, _, _, e, _⟩ := x; exact ⟨_, e⟩
  | set S n => obtain ⟨u, _, _, _, e, _⟩ := x; exact ⟨_, e⟩
  | ins C dx fs => obtain ⟨_, _, _, e, _⟩ := x; exact ⟨_, e⟩
  | own y => exact x
  | xd fs => obtain ⟨_, ⟨u, _, _, e, _⟩, _⟩ := x; exact ⟨_, e⟩
  | rng lo hi => obtain ⟨_, _, _, e⟩ := x; exact ⟨_, e⟩
  | frz ob u => obtain ⟨e, _⟩ := x; exact ⟨_, e⟩
  | tbl ps => exact ⟨_, x⟩
  | met f y => exact ⟨_, x⟩
  | ext φ => exact x.2.1
section
variable {X : Cx} {pins : List (Addr × Obj)} {σ : St} {H : Hp} {s : Shared}
end
section
variable {X : Cx}
end
end L2
namespace L2
open PySem PySem.Spec PyProof.Rows
section
variable {P : Program} {w : World} {K : PySem.W.Frag} {mg : Str → Option Value} {base : Heap}
end
section
variable {X : Cx}
variable {CX : CXT} {k : Nat} {f : Addr} {fd : FuncData} {ps : List Str} {sp : Sp} {dvs : List V} {ds : List Value} {x : Str} {p pos : Pos} {e : Expr} {es : List Expr} {t : TA}
theorem SP.imp {Y : Cx} {pins pins' : List (Addr × Obj)} {D : Ends} {fl : Flow} {s : Shared} (q : SP Y pins' D fl s) (h : ∀ σ H, Inv Y pins' σ H s → Inv X pins σ H s) : SP X pins D fl s := by
  cases fl with
  | next => obtain ⟨σ', H', I, q⟩ := q; exact ⟨σ', H', h _ _ I, q⟩
  | brk => obtain ⟨σ', H', I, q⟩ := q; exact ⟨σ', H', h _ _ I, q⟩
  | cont => obtain ⟨σ', H', I, q⟩ := q; exact ⟨σ', H', h _ _ I, q⟩
  | ret u => obtain ⟨v, σ', H', I, r, q⟩ := q; exact ⟨v, σ', H', h _ _ I, r, q⟩
end
end L2
namespace L2
open PySem PySem.Spec PyProof.Rows PySem.W Builtin Builtin.ObjectAttr Builtin.Getset_descriptor
structure ExcK (K : Frag) (C : Addr) : Prop where
  fg : findIn K (.ref C) "__getattribute__" = some (some (.builtin "BaseException.__getattribute__"))
  fn : findIn K (.ref C) "__getattr__" = some none
  fc : findIn K (.ref C) "__class__" = some (some (.builtin "object.__class__"))
  mo : mroIn K C (.type "object") = some true
  sb : subIn K (.ref C) (.type "BaseException") = some true
def ExAt (x C : Addr) (h : Heap) : Prop := ∃ o, h.get? x = some o ∧ o.cls = .ref C
theorem ExAt.ty {M : Model} {x C : Addr} {h : Heap} (p : ExAt x C h) : Looks M h (typeOf (.ref x)) (.ref C) := by
  obtain ⟨o, h1, h2⟩ := p
  rw [← h2]
  exact (Looks.ld h1).andThen .now
section
variable {prog : Program} {w : World} {A : Around} {E : Value → Shared → Prop} {K : Frag} {h : Heap} {g : Array GenState} {d : Drawn} {t : Nat} {os : OsState} {x C : Addr}
end
section
variable {X : Cx}
end
end L2
namespace L2
open PySem PySem.Spec PyProof.Rows
structure RoomH (k : Nat) (A : Around) : Prop where
  dp : A.depth + 3 * k + 5 < recursionLimit
  un : A.units + 16 * k + 200 < cLine
theorem RoomH.deeper {k : Nat} {A : Around} (r : RoomH (k + 1) A) (env : Env) : RoomH k (A.deeper env) :=
  ⟨by have := r.dp; show A.depth + 1 + 3 * k + 5 < _; omega, by have := r.un; show A.units + 3 + 16 * k + 200 < _; omega⟩
theorem RoomH.units {k : Nat} {A : Around} (r : RoomH k A) : A.units + 64 < cLine := by have := r.un; omega
structure FnOkH (P : Program) (w : World) (K : PySem.W.Frag) (mg : Str → Option Value) (base : Heap) (k : Nat) (f : Addr) (fd : FuncData) (ps : List Str) (sp : Sp) : Prop where
  len : ∀ vs H Q E, sp vs H Q E → vs.length = ps.length
  run : ∀ (A : Around) (outer : List Env) (s : Shared) (H : Hp) (args : Args) (us : List Value) (vs : List V) (Q : VK) (E : XK), RoomH k A → Env0 P w K mg base A outer s H → BindsTo s fd args (ps.zip us) → Vals vs us → sp vs H Q E →
    codeAny (model P w) A (.call (.ref f) args) (CR CX0 outer P w H s Q E) s
abbrev Cx.loose (X : Cx) : Cx := { X with calm := false, xe := fun _ _ => False }
section
variable {P : Program} {w : World} {K : PySem.W.Frag} {mg : Str → Option Value} {base : Heap}
end
section
variable {X : Cx} {k : Nat} {f : Addr} {fd : FuncData} {ps : List Str} {sp : Sp} {x : Str} {p pos : Pos} {e : Expr} {es : List Expr} {t : TA}
end
section
variable {X : Cx}
end
end L2
namespace Vc
open PySem L2 Sf
end Vc
namespace L2
open PySem PySem.Spec PyProof.Rows
def Ite (K : PySem.W.Frag) (a : Addr) : It :=
  ⟨fun i H => ∃ xs x, SqL K H a xs ∧ xs[i]? = some x, fun i H y H' => ∃ p x, y = .ref p ∧ H p = none ∧ (∀ xs, SqL K H a xs → xs[i]? = some x) ∧ H' = upd H p (.tup [.int i, x]), fun i H => ∃ xs, SqL K H a xs ∧ xs.length ≤ i⟩
theorem Inv.turned2 {X : Cx} {pins : List (Addr × Obj)} {σ : St} {H : Hp} {s : Shared} {h' : Heap} {t' : Nat} {a b : Addr} (I : Inv X pins σ H s) (k : ∀ c o, c ≠ a → c ≠ b → s.heap.get? c = some o → h'.get? c = some o)
    (ha : FpOk X pins H a) (hb : FpOk X pins H b) (ea : ∃ o, h'.get? a = some o) (eb : ∃ o, h'.get? b = some o) : Inv X pins σ H { s with heap := h', toks := t' } := by
  obtain ⟨a0, a1, a2, a3, a4, a5⟩ := ha
  obtain ⟨b0, b1, b2, b3, b4, b5⟩ := hb
  refine I.call' (s' := { s with heap := h', toks := t' }) (ch := [a, b]) rfl ⟨fun c o e _ _ hc => ?_, fun c o e _ _ hc => ⟨o.slots, ?_⟩, fun _ _ _ n _ => n, fun c o e hc => ⟨o, ?_⟩, fun _ _ q => q, fun _ _ _ q => q, fun _ ps q => ⟨#[], by rw [q]; simp⟩⟩ (fun c u e => ?_) I.bare (fun c hc => ?_)
  · exact k c o (fun z => hc (by simp [z])) (fun z => hc (by simp [z])) e
  · exact k c o (fun z => hc (by simp [z])) (fun z => hc (by simp [z])) e
  · exact k c o (fun z => hc (by simp [z])) (fun z => hc (by simp [z])) e
  · refine (I.hok c u e).stay (fun d o hd q => k d o ?_ ?_ q) (fun _ q => q) fun _ _ q => q
    · rintro rfl
      rcases hd with z | z
      · rw [← z, a0] at e; cases e
      · rw [a0] at z; cases z
    · rintro rfl
      rcases hd with z | z
      · rw [← z, b0] at e; cases e
      · rw [b0] at z; cases z
  · rcases List.mem_cons.mp hc with z | hc
    · rw [z]; exact ⟨a3, a1, a4, a5⟩
    · have z : c = b := by simpa using hc
      rw [z]; exact ⟨b3, b1, b4, b5⟩
theorem turn_enum {P : Program} {w : World} {K : PySem.W.Frag} {elts : List Expr} {x1 : Nat} {pos : Pos} (a it en : Addr) (hne : en ≠ it) :
    Turn P w K (.Tuple elts x1 pos) (Ite K a) [en, it] en (fun i h => (∃ old, IsEnum h en it i old) ∧ h.IsListIter it a i) where
  mem := by simp
  obj := fun i h st b hb => by
    obtain ⟨⟨old, e1⟩, o, e2, c, d⟩ := st
    rcases List.mem_cons.mp hb with z | hb
    · rw [z]; exact ⟨_, e1, fun v z => by cases z⟩
    · have z : b = it := by simpa using hb
      rw [z]; exact ⟨o, e2, fun v z => by rw [d] at z; cases z⟩
  keep := fun i h h' st k => by
    obtain ⟨⟨old, e1⟩, e2⟩ := st
    exact ⟨⟨old, k en (by simp) _ e1⟩, e2.at fun o e => k it (by simp) o e⟩
  item := by
    intro X hP hw hK hc i pins s σ H E I hf st hg
    subst hP hw hK
    obtain ⟨⟨old, he⟩, hit⟩ := st
    obtain ⟨xs, x, hq, hx⟩ := hg
    obtain ⟨its, rv, p, hz⟩ := I.list hq
    obtain ⟨u, hu, ru⟩ := rv.get hx
    have fe := hf en (by simp)
    have fi := hf it (by simp)
    refine wpAny_pyNext_enum_item he hit p.isList (x := u) (by simpa using hu) hne fun h' hout hit' hT hsz hk => ?_
    refine ⟨.ref s.heap.objs.size, rfl, wpAny_letOwnedTupleGo_enum hout fun h2 he2 hs => ?_⟩
    have le : en < s.heap.objs.size := Heap.lt_size he
    have li : it < s.heap.objs.size := let ⟨o, e, _⟩ := hit; Heap.lt_size e
    have hfr : H s.heap.objs.size = none := I.hok.fresh (Nat.le_refl _)
    have ne1 : en ≠ s.heap.objs.size := Nat.ne_of_lt le
    have ne2 : it ≠ s.heap.objs.size := Nat.ne_of_lt li
    have I1 := I.laid (a := s.heap.objs.size) (o := .tup [.int i, x]) (h' := s.heap.push { cls := .type "tuple", data := .seq #[.int i s.toks, u] }) (t' := s.toks) (fun b q hq => Heap.get?_push_of_some _ hq) (Nat.le_refl _)
      ⟨by show 2 ≤ sizeLine; decide, [.int i s.toks, u], .cons ⟨_, rfl⟩ (.cons ru .nil), ⟨_, Heap.get?_push_size _ rfl, rfl, _, rfl⟩⟩
    have up : ∀ {b : Addr}, b ≠ s.heap.objs.size → FpOk X pins H b → FpOk X pins (upd H s.heap.objs.size (.tup [.int i, x])) b := fun hb f => ⟨by rw [upd_ne hb]; exact f.1, f.2⟩
    have hk2 : ∀ b q, b ≠ en → b ≠ it → (s.heap.push { cls := .type "tuple", data := .seq #[.int i s.toks, u] }).get? b = some q → h2.get? b = some q := fun b q h1 h3 hq => by
      refine hs.extBut b q h1 ?_
      rcases Heap.get?_push_cases hq with ⟨hbs, eq⟩ | hq
      · subst hbs
        subst eq
        exact hT
      · exact hk b q h1 h3 hq
    obtain ⟨oi, ei, ci, di⟩ := hit'
    have hit2 : h2.IsListIter it a (i + 1) := ⟨oi, hs.extBut it oi (Ne.symm hne) ei, ci, di⟩
    refine ⟨.ref s.heap.objs.size, upd H s.heap.objs.size (.tup [.int i, x]), ?_, rfl, ⟨_, x, rfl, hfr, fun ys hy => by rw [I.list_inj hy hq]; exact hx, rfl⟩, ⟨⟨_, he2⟩, hit2⟩, fun b hb => ?_⟩
    · exact Inv.turned2 (s := { s with heap := s.heap.push { cls := .type "tuple", data := .seq #[.int i s.toks, u] }, toks := s.toks }) (t' := s.toks + 1) I1 hk2 (up ne1 fe) (up ne2 fi) ⟨_, he2⟩ ⟨oi, hs.extBut it oi (Ne.symm hne) ei⟩
    · rcases List.mem_cons.mp hb with z | hb
      · rw [z, upd_ne ne1]; exact fe.1
      · have z : b = it := by simpa using hb
        rw [z, upd_ne ne2]; exact fi.1
  done := by
    intro X hP hw hK hc i pins s σ H E I hf st hg
    subst hP hw hK
    obtain ⟨⟨old, he⟩, hit⟩ := st
    obtain ⟨xs, hq, hx⟩ := hg
    obtain ⟨its, rv, p, hz⟩ := I.list hq
    have hl := rv.length
    obtain ⟨f0, f1, f2, f3, f4, f5⟩ := hf it (by simp)
    exact wpAny_pyNext_enum_end (I.ok.hd hc) he hit p.isList (by simp; omega) fun h' eb => ⟨rfl, I.turned (t' := s.toks) (fun b o hb e => eb b o hb e) f0 f1 f3 f4 f5⟩
  self := fun _ _ _ _ _ st h => let ⟨⟨_, he⟩, _⟩ := st; wpAny_pyIter_enum he h
section
variable {X : Cx}
def iEnum (K : PySem.W.Frag) (ta : TA) : TI := fun σ H R => ta σ H fun vs H1 => ∃ a, vs = [.ref a] ∧ (∃ xs, SqL K H1 a xs) ∧ R (Ite K a) H1
theorem pi_enum {l : Expr} {ta : TA} {elts : List Expr} {x1 : Nat} {tpos p pos : Pos} (hg : Gl X "enumerate") (hm : X.mg "enumerate" = none) (ha : PA X [l] ta) (hs : starEach [l] X.env = [(false, eval l X.env)] := by rfl) :
    PI X (.Tuple elts x1 tpos) (.Call (.Name "enumerate" p) [l] [] pos) (iEnum X.K ta) := by
  intro pins s σ H R I h
  refine Call_ (ld_blt I hg hm (u := .type "enumerate") rfl (PyProof.Rows.callWith_type1 (thn (ha pos pins s σ H _ I h) fun us s1 ⟨vs, H1, I1, r1, a, e, ⟨xs, hq⟩, q⟩ => ?_) hs rfl))
  subst e
  cases r1 with
  | cons r rr =>
    cases rr
    cases r
    obtain ⟨its, rv, p, hz⟩ := I1.list hq
    refine call_enumerate_list p.isList fun h' hE hit hsz hk => wpAny_pyIter_enum hE ?_
    have ne : s1.heap.objs.size + 1 ≠ s1.heap.objs.size := by omega
    refine ⟨s1.heap.objs.size + 1, [s1.heap.objs.size + 1, s1.heap.objs.size], _, _, H1, rfl, I1.kept (t' := s1.toks) hk, turn_enum a _ _ ne, ⟨⟨_, hE⟩, hit⟩, fun b hb => ?_, q⟩
    rcases List.mem_cons.mp hb with z | hb
    · rw [z]; exact I1.fpOk (by omega) (I1.hok.fresh (by omega))
    · have z : b = s1.heap.objs.size := by simpa using hb
      rw [z]; exact I1.fpOk (Nat.le_refl _) (I1.hok.fresh (Nat.le_refl _))
end
theorem a_ienum {K : PySem.W.Frag} {ta : TA} {σ : St} {H : Hp} {R : It → Hp → Prop} (h : ta σ H fun vs H1 => ∃ a, vs = [.ref a] ∧ (∃ xs, SqL K H1 a xs) ∧ R (Ite K a) H1) : iEnum K ta σ H R := h
theorem for_enum {K : PySem.W.Frag} {a : Addr} {xs : List V} {g : TG} {tb : TS} {D : Ends} {σ : St} {H : Hp} (Pv : Nat → St → Hp → Prop) (h0 : Pv 0 σ H)
    (hl : ∀ i σ H, i ≤ xs.length → Pv i σ H → SqL K H a xs)
    (hs : ∀ i x σ H p, xs[i]? = some x → Pv i σ H → H p = none → g (.ref p) σ (upd H p (.tup [.int i, x])) fun σ2 H2 => tb { D with nx := Pv (i + 1), ct := Pv (i + 1), bk := D.nx } σ2 H2) (hd : ∀ σ H, Pv xs.length σ H → D.nx σ H) :
    ∃ W : Nat → Nat → St → Hp → Prop, (∃ m, W 0 m σ H) ∧ ∀ i m σ H, W i m σ H →
      ((Ite K a).stop i H ∧ D.nx σ H) ∨ ((Ite K a).go i H ∧ ∃ N : St → Hp → Prop, (∀ σ' H', N σ' H' → ∃ m', m' < m ∧ W (i + 1) m' σ' H') ∧ ∀ x H', (Ite K a).yld i H x H' → g x σ H' fun σ2 H2 => tb { D with nx := N, ct := N, bk := D.nx } σ2 H2) := by
  refine ⟨fun i m σ H => m = xs.length - i ∧ i ≤ xs.length ∧ Pv i σ H, ⟨xs.length, by simp, Nat.zero_le _, h0⟩, ?_⟩
  rintro i m σ H ⟨rfl, hi, p⟩
  have q := hl i σ H hi p
  rcases Nat.lt_or_ge i xs.length with hlt | hge
  · refine .inr ⟨⟨xs, xs[i], q, by simp [hlt]⟩, Pv (i + 1), fun σ' H' p' => ⟨xs.length - (i + 1), by omega, rfl, hlt, p'⟩, fun y H' z => ?_⟩
    obtain ⟨pa, x, rfl, e2, e3, rfl⟩ := z
    exact hs i x σ H pa (e3 xs q) p e2
  · obtain rfl : i = xs.length := by omega
    exact .inl ⟨⟨xs, q, hge⟩, hd σ H p⟩
end L2
namespace L2
open PySem PySem.Spec PyProof.Rows
section
variable {X : Cx}
end
end L2
namespace L2
theorem a_yes {σ : St} {H : Hp} {R : Bool → Hp → Prop} (h : R true H) : tYes σ H R := h
theorem sizeLine_big : 1000000 ≤ PySem.sizeLine := by decide
end L2
namespace Vc
open PySem L2 Sf
end Vc
namespace L2
open PySem PySem.Spec PyProof.Rows
section
variable {X : Cx}
end
section
variable {g : TG} {ti : TT} {te : TE} {ix : List (Option Nat)} {σ : St} {Q : VK}
end
end L2
namespace L2
open PySem PySem.Spec PyProof.Rows
section
variable {X : Cx}
end
end L2
namespace Vc
open PySem L2 Sf
end Vc
namespace L2
end L2
namespace L2
open PySem PySem.Spec PyProof.Rows
section
variable {X : Cx}
end
section
variable {σ : St} {H : Hp} {Q : VK}
theorem a_bm {K : PySem.W.Frag} {T : String} {r : V → List V → Hp → VK → Prop} {to : TE} {t : TA} (h : to σ H fun x H1 => tyV K T x H1 ∧ t σ H1 fun xs H2 => r x xs H2 Q) : tBM K T r to t σ H Q := h
theorem a_bm0 {K : PySem.W.Frag} {T : String} {r : V → List V → Hp → VK → Prop} {to : TE} (h : to σ H fun x H1 => tyV K T x H1 ∧ r x [] H1 Q) : tBM0 K T r to σ H Q := h
theorem a_app {l : Addr} {xs : List V} {y : V} (h : H l = some (.lst xs)) (hz : xs.length < sizeLine) (q : Q .non (upd H l (.lst (xs ++ [y])))) : rAppend (.ref l) [y] H Q := ⟨l, xs, y, rfl, rfl, h, hz, q⟩
end
section
variable {g : TG} {ti : TT} {te : TE} {ix : List (Option Nat)} {σ : St} {Q : VK}
end
end L2
namespace Vc
open PySem L2 Sf
section
variable {X : Cx} {pins : List (Addr × Obj)} {σ : St} {H : Hp} {s : Shared} {Au : Around}
end
section
variable {X : Cx}
end
theorem Al.strs {F : Hp} : ∀ {vs : List V} {xs : List Str}, Al rS F vs xs → vs = xs.map V.str
  | [], [], _ => rfl
  | v :: vs, x :: xs, h => by rw [List.map_cons, ← Al.strs h.2]; exact congrArg (· :: vs) h.1
  | [], _ :: _, h => h.elim
  | _ :: _, [], h => h.elim
end Vc
namespace Vc
open PySem L2 Sf
def ownL {α : Type} (A : Rep α) (F H H' : Hp) (v : V) (r : List α) : Prop := ∃ p vs, v = .ref p ∧ H p = none ∧ H' p = some (.lst vs) ∧ F p = none ∧ Al A F vs r
theorem tyV_lst {K : PySem.W.Frag} {H : Hp} {p : Addr} {xs : List V} (h : H p = some (.lst xs)) : tyV K "list" (.ref p) H := by
  exact .inl ⟨rfl, xs, SqL.of h⟩
theorem map_take_succ {α β : Type} {xs : List α} {i : Nat} {x : α} (f : α → β) (hx : xs[i]? = some x) : (xs.take (i + 1)).map f = (xs.take i).map f ++ [f x] := by
  rw [List.take_add_one, hx, List.map_append]
  rfl
theorem getD_of {α : Type} {xs : List α} {n : Nat} {x d : α} (h : xs[n]? = some x) : xs.getD n d = x := by rw [List.getD_eq_getElem?_getD, h]; rfl
end Vc
namespace L2
open PySem PySem.Spec PyProof.Rows
end L2
namespace Vc
open PySem L2 Sf
end Vc
namespace L2
open PySem PySem.Spec PyProof.Rows
section
variable {X : Cx}
theorem strsAre_of {ks : List Str} : ∀ {us : List Value}, us.length = ks.length → (∀ (j : Nat) x u, ks[j]? = some x → us[j]? = some u → ∃ t, u = .str x t) → StrsAre us ks := by
  induction ks with
  | nil => intro us e _; cases us with
    | nil => exact .nil
    | cons _ _ => simp at e
  | cons x r ih =>
    intro us e f
    cases us with
    | nil => simp at e
    | cons u us =>
      obtain ⟨t, rfl⟩ := f 0 x u rfl rfl
      exact .cons _ _ (ih (by simpa using e) fun j y v h1 h2 => f (j + 1) y v (by simpa using h1) (by simpa using h2))
theorem vals_strs {us : List Value} {ks : List Str} (h : StrsAre us ks) : Vals (ks.map V.str) us := by
  induction h with
  | nil => exact .nil
  | cons _ _ _ ih => exact .cons ⟨_, rfl⟩ ih
def rSortD : List V → Hp → VK → Prop := fun xs H Q => ∃ a kvs ks, xs = [.ref a] ∧ Rd H a (.dK kvs) ∧ kvs.map (·.1) = ks.map (Sum.inr : Str → Key) ∧ ks.length < 64 ∧
    ∀ ks' : List Str, ks'.Perm ks → sortedS ks' = true → ∀ p, H p = none → Q (.ref p) (upd H p (.lst (ks'.map V.str)))
theorem call_sortedD (hc : X.calm = true) : CallR X (.builtin "sorted") rSortD := by
  intro pins s σ H xs us Q I r h
  obtain ⟨a, kvs, ks, rfl, ha, hk, h64, q⟩ := h
  obtain ⟨u, rfl, ru⟩ := vals1 r
  cases ru
  obtain ⟨z, y, vs, rel, dd⟩ := dk_rd I.hok ha
  obtain ⟨ep, hat⟩ := dd.dictAt
  have hl : kvs.length = vs.length := KV.length rel
  have hlk : kvs.length = ks.length := by have := congrArg List.length hk; simpa using this
  refine Calls.call_function_entry kind_sorted plain_sorted entry_sorted (args_sorted1 _) ?_
  unfold Builtin.«sorted»
  refine wpAny_bind (m := checkCount "sorted" 1 1 _) (wpAny_pure ?_)
  refine wpAny_bind (PySem.W.kdu_collect (PySem.W.kdl_dict (knd := mixKind X.prog X.w) (kvs := vs) (ep := ep) y) (I.ok.hd hc) hat (by rw [← hl]; exact z) fun h' tk acc hkp hacc => ?_)
  have hS : StrsAre acc.toList ks := by
    refine strsAre_of (by rw [Array.length_toList, hacc.1, ← hl, hlk]) fun j x u h1 h2 => ?_
    obtain ⟨k', v, hx, hkey⟩ := hacc.2 j u (by rw [← Array.getElem?_toList]; exact h2)
    obtain ⟨p, hp⟩ : ∃ p, kvs[j]? = some p := by
      have : j < kvs.length := by rw [hlk]; exact (List.getElem?_eq_some_iff.mp h1).1
      exact ⟨kvs[j], by simp [this]⟩
    have e1 : p.1 = Sum.inr x := by
      have := congrArg (fun l => l[j]?) hk
      simp only [List.getElem?_map, hp, h1, Option.map_some] at this
      exact Option.some.inj this
    obtain ⟨u', hu', _⟩ := rel.at (k := p.1) (v := p.2) hp
    rw [hu'] at hx
    cases hx
    have := kV_of_is hkey
    rw [e1] at this
    exact this
  have I1 : Inv X pins σ H { s with heap := h', toks := tk } := I.kept (t' := tk) hkp
  refine wpAny_bind (wpAny_newList ?_)
  have hoL : (h'.push (seqObj "list" acc.toList.toArray 0)).get? h'.objs.size = some (seqObj "list" acc.toList.toArray 0) := Heap.get?_push_size _ rfl
  show wpAny _ _ _ _ _ { s with heap := h'.push (seqObj "list" acc.toList.toArray 0), toks := tk }
  have h64' : acc.toList.length < 64 := by rw [Array.length_toList, hacc.1, ← hl, hlk]; exact h64
  refine wpAny_bind (wpAny_holding (wpAny_call_entry slot_list_sort ⟨_, hoL, rfl⟩ entry_list_sort (list_sort_treeK strKind_oneLt hoL hS.keysOf (fun v1 v2 rest e => keyKind_strs (by rw [← e]; exact hS)) h64' fun st' a1 a2 => ⟨_, rfl, ?_⟩) (args_list_sort _)))
  obtain ⟨ss', b1, b2, b3⟩ := sorted_out_str hS a1 a2
  refine wpAny_pure ⟨_, rfl, ?_⟩
  obtain ⟨e, he⟩ := sortedHeap_at (out := (arrOf st').map (·.2)) hoL
  have hfr : H h'.objs.size = none := I1.hok.fresh (Nat.le_refl _)
  refine ⟨.ref h'.objs.size, _, I1.laid (a := h'.objs.size) (o := .lst (ss'.map V.str)) (t' := tk) (fun b o eb => ?_) (Nat.le_refl _) ⟨?_, ((arrOf st').map (·.2)).toList, e, vals_strs b1, by rw [Array.toArray_toList]; exact he⟩, rfl, q ss' b2 b3 _ hfr⟩
  · have lb : b < h'.objs.size := Heap.lt_size eb
    rw [sortedHeap_old (Nat.ne_of_lt lb) (by rw [size_push']; exact Nat.lt_succ_of_lt lb)]
    exact Heap.get?_push_of_some _ eb
  · rw [List.length_map, b2.length_eq]
    have := line63
    have : ks.length ≤ sizeLine := by rw [← hlk]; exact z
    exact this
end
section
variable {X : Cx}
end
section
variable {X : Cx}
end
end L2
namespace Vc
open PySem L2 Sf
theorem str_lt_anti {a b : List Nat} (h1 : ¬ a < b) (h2 : ¬ b < a) : a = b := by
  rw [List.not_lt] at h1 h2
  exact List.le_antisymm h2 h1
theorem sortedS_pw : ∀ (l : List Str), PyProof.Rows.sortedS l = true → l.Pairwise (fun a b => ¬ b.cps.toList < a.cps.toList)
  | [], _ => .nil
  | x :: r, h => by
    have tr : ∀ a b c : List Nat, ¬ b < a → ¬ c < b → ¬ c < a := fun a b c h1 h2 => by
      rw [List.not_lt] at h1 h2 ⊢
      exact List.le_trans h1 h2
    have gen : ∀ (r : List Str) (p : Str), PyProof.Rows.risingS p r = true → (p :: r).Pairwise (fun a b => ¬ b.cps.toList < a.cps.toList) := by
      intro r
      induction r with
      | nil => intro p _; exact List.pairwise_singleton _ _
      | cons y t ih =>
        intro p h
        have h' : (!PySem.Spec.ltCps y.cps.toList p.cps.toList && PyProof.Rows.risingS y t) = true := h
        rw [Bool.and_eq_true, PyProof.Rows.ltCps_eq] at h'
        have h1 : ¬ y.cps.toList < p.cps.toList := by simpa using h'.1
        have w := ih y h'.2
        refine List.pairwise_cons.mpr ⟨fun b hb => ?_, w⟩
        rcases List.mem_cons.mp hb with e | hb
        · rw [e]; exact h1
        · exact tr _ _ _ h1 ((List.pairwise_cons.mp w).1 b hb)
    exact gen r x h
theorem sorted_one {a b : List Str} (h1 : PyProof.Rows.sortedS a = true) (h2 : PyProof.Rows.sortedS b = true) (p : a.Perm b) : a = b := by
  refine List.Perm.eq_of_pairwise (le := fun a b => ¬ b.cps.toList < a.cps.toList) (fun x y _ _ e1 e2 => ?_) (sortedS_pw a h1) (sortedS_pw b h2) p
  have := str_lt_anti e2 e1
  cases x; cases y
  simpa using this
theorem Dk.vals {α : Type} {A : Rep α} {F : Hp} : ∀ {kvs : List (Key × V)} {m : List (Str × α)}, Dk A F kvs m → Al A F (kvs.map (·.2)) (m.map (·.2))
  | [], [], _ => True.intro
  | _ :: _, _ :: _, h => ⟨h.2.1, Dk.vals h.2.2⟩
  | [], _ :: _, h => h.elim
  | _ :: _, [], h => h.elim
theorem Dk.keys {α : Type} {A : Rep α} {F : Hp} : ∀ {kvs : List (Key × V)} {m : List (Str × α)}, Dk A F kvs m → kvs.map (·.1) = (m.map (·.1)).map (Sum.inr : Str → Key)
  | [], [], _ => rfl
  | p :: r, x :: s, h => by rw [List.map_cons, List.map_cons, List.map_cons, h.1, Dk.keys h.2.2]
  | [], _ :: _, h => h.elim
  | _ :: _, [], h => h.elim
theorem al_strs {F : Hp} : ∀ {xs : List Str}, Al rS F (xs.map V.str) xs
  | [] => True.intro
  | _ :: _ => ⟨rfl, al_strs⟩
noncomputable def srt (ks : List Str) : List Str := Classical.epsilon fun l => l.Perm ks ∧ PyProof.Rows.sortedS l = true
theorem srt_of {ks l : List Str} (h : l.Perm ks) (g : PyProof.Rows.sortedS l = true) : l = srt ks := by
  have := Classical.epsilon_spec (p := fun l : List Str => l.Perm ks ∧ PyProof.Rows.sortedS l = true) ⟨l, h, g⟩
  exact sorted_one g this.2 (h.trans this.1.symm)
section
variable {K : PySem.W.Frag} {F H : Hp} {Q : VK}
theorem a_sortD {α : Type} {A : Rep α} {a : Addr} {kvs : List (Key × V)} {m : List (Str × α)} (h : Rd H a (.dK kvs)) (dk : Dk A F kvs m) (hl : m.length < 64) (q : ∀ p, H p = none → Q (.ref p) (upd H p (.lst ((srt (m.map (·.1))).map V.str)))) :
    rSortD [V.ref a] H Q :=
  ⟨a, kvs, m.map (·.1), rfl, h, dk.keys, by rw [List.length_map]; exact hl, fun ks' e1 e2 p hp => by rw [srt_of e1 e2]; exact q p hp⟩
end
end Vc
namespace Vc
open PySem L2 Sf
theorem mem_nd {α : Type} {m : List (Str × α)} (n : (m.map (·.1)).Nodup) {x : Str} {y : α} (h : (x, y) ∈ m) : gtd m x = some y := by
  induction m with
  | nil => cases h
  | cons p r ih =>
    rw [List.map_cons, List.nodup_cons] at n
    rcases List.mem_cons.mp h with e | e
    · subst e; exact gtd_pos rfl
    · have ne : ¬ p.1 = x := fun z => n.1 (by rw [z]; exact List.mem_map.mpr ⟨_, e, rfl⟩)
      rw [gtd_neg ne]; exact ih n.2 e
theorem srt_ex (ks : List Str) : ∃ l : List Str, l.Perm ks ∧ PyProof.Rows.sortedS l = true := by
  have e : ∃ l : List Str, l.Perm ks ∧ PyProof.Rows.sortedS l = true := by
    refine ⟨ks.mergeSort (fun a b => !decide (b.cps.toList < a.cps.toList)), List.mergeSort_perm _ _, PyProof.Rows.sortedS_of_pairwise _ ?_⟩
    have := List.pairwise_mergeSort (le := fun a b : Str => !decide (b.cps.toList < a.cps.toList)) (fun a b c h1 h2 => by
      have h1' : ¬ b.cps.toList < a.cps.toList := by simpa using h1
      have h2' : ¬ c.cps.toList < b.cps.toList := by simpa using h2
      rw [List.not_lt] at h1' h2'
      have := List.not_lt.mpr (List.le_trans h1' h2')
      simpa using this) (fun a b => by
      rcases List.le_total a.cps.toList b.cps.toList with h | h
      · have := List.not_lt.mpr h
        simp [this]
      · have := List.not_lt.mpr h
        simp [this]) ks
    refine this.imp fun h => ?_
    rw [PyProof.Rows.ltCps_eq]
    simpa using h
  exact e
theorem srt_len (ks : List Str) : (srt ks).length = ks.length := (Classical.epsilon_spec (srt_ex ks)).1.length_eq
end Vc
namespace L2
open PySem PySem.Spec PyProof.Rows
structure FunD (K : PySem.W.Frag) (x qual : Str) (st : Stmt) (f : Addr) (fd : FuncData) (ds : List Value) : Prop where
  ex : ∃ (oc : Value) (od : Option Addr) (kV doc pm : Value) (an : Option Addr) (cdv ct : Value) (osl : Array (Option Value)) (T : Addr) (o : Obj) (n : Nat),
    fd = PySem.W.fnOf x qual (defArgs st) (defBody st) (defScope st) (.ref T) kV doc pm an cdv ct ∧ K.lookup f = some ⟨oc, od, .func fd, osl⟩ ∧ PySem.W.codeIn K cdv qual = true ∧ K.lookup T = some o ∧ o.data = .seq ds.toArray n
  kp : PySem.W.keepIn K (.ref f) = true
section
variable {P : Program} {w : World} {K : PySem.W.Frag} {mg : Str → Option Value} {base : Heap}
theorem FunD.binds {x qual : Str} {st : Stmt} {f : Addr} {fd : FuncData} {ps : List Str} {ds ds' : List Value} (F : FunD K x qual st f fd ds)
    (h : ∀ (T : Addr) (kV doc pm : Value) (an : Option Addr) (cdv ct : Value) (us : List Value), (us ++ ds').length = ps.length → ∃ k : Option (Array Value) → Sem (List (Str × Value)),
      bindArgs (PySem.W.fnOf x qual (defArgs st) (defBody st) (defScope st) (.ref T) kV doc pm an cdv ct) ⟨us, []⟩ = (seqItems? (.ref T) >>= k) ∧ k (some ds.toArray) = pure (ps.zip (us ++ ds'))) : Binds K fd ps ds' := by
  obtain ⟨oc, od, kV, doc, pm, an, cdv, ct, osl, T, o, n, rfl, lk, hcd, lT, hT⟩ := F.ex
  intro s us X hl
  obtain ⟨k, h1, h2⟩ := h T kV doc pm an cdv ct us hl
  exact BindsTo.of_defaults (T := T) (o := o) rfl (X _ _ lT) hT h1 h2
end
section
variable {g : TG} {ti : TT} {te : TE} {ix : List (Option Nat)} {σ : St} {Q : VK}
end
end L2
namespace Vc
open PySem L2 Sf
def r4 (K : PySem.W.Frag) {α β γ δ : Type} (A : Rep α) (B : Rep β) (C : Rep γ) (D : Rep δ) : Rep (α × β × γ × δ) := fun F v x => ∃ a v1 v2 v3 v4, v = .ref a ∧ SqT K F a [v1, v2, v3, v4] ∧ A F v1 x.1 ∧ B F v2 x.2.1 ∧ C F v3 x.2.2.1 ∧ D F v4 x.2.2.2
instance {K : PySem.W.Frag} {α β γ δ : Type} {A : Rep α} {B : Rep β} {C : Rep γ} {D : Rep δ} [Mo A] [Mo B] [Mo C] [Mo D] : Mo (r4 K A B C D) := ⟨fun e ⟨a, v1, v2, v3, v4, h1, h2, h3, h4, h5, h6⟩ => ⟨a, v1, v2, v3, v4, h1, e.tup h2, Mo.mo e h3, Mo.mo e h4, Mo.mo e h5, Mo.mo e h6⟩⟩
section
variable {K : PySem.W.Frag} {F H : Hp} {Q : VK}
end
end Vc
namespace L2
open PySem PySem.Spec PyProof.Rows
def RnW (P : Program) (w : World) (A : Around) (s : Shared) (u v : Value) : Prop := ∀ (E : Value → Shared → Prop) (Q : Value → Shared → Prop), Q (.bool false) s → wpAny (model P w) A (richCompare .NotEq u v) Q E s
section
variable {P : Program} {w : World} {A : Around} {s : Shared}
section
open PySem.AutoSeq1 (wpAny_loadPart')
theorem tupNW (a b : Addr) (xs ys : Array Value) (n m : Nat) (da db : Option Addr) (sa sb : Array (Option Value)) (hz : xs.size = ys.size) :
    MeetsIn P w (Builtin.«tuple.__ne__» ⟨[.ref a, .ref b], []⟩) (fun A R s => s.heap.get? a = some ⟨.type "tuple", da, .seq xs n, sa⟩ ∧ s.heap.get? b = some ⟨.type "tuple", db, .seq ys m, sb⟩ ∧
      (∀ j (h1 : j < xs.size) (h2 : j < ys.size), EqW P w A.in1 s xs[j] ys[j]) ∧ R (.ok (.ret (.bool false))) s) := by
  refine .of_wp fun A R s h => ?_
  obtain ⟨hp, g, d, tk, os⟩ := s
  obtain ⟨ha, hb, he, hR⟩ := h
  have sub := AutoSeq1.sub_tuple_tuple
  have len : (xs.toList.zip ys.toList).length = xs.size := by simp; omega
  wp_walk using wpAny_loadPart' ha, wpAny_loadPart' hb, wpAny_forIn_list _ (fun r c s' => c.1 = none ∧ s' = ⟨hp, g, d, tk, os⟩ ∧ ∃ i, r = (xs.toList.zip ys.toList).drop i) _
  case turn =>
    rintro ⟨x, y⟩ r c s' ⟨hc, rfl, i, hr⟩
    by_cases lt : i < (xs.toList.zip ys.toList).length
    · rw [List.drop_eq_getElem_cons lt] at hr
      injection hr with e1 e2
      have i1 : i < xs.size := by omega
      have i2 : i < ys.size := by omega
      obtain ⟨ex, ey⟩ : x = xs[i] ∧ y = ys[i] := by
        have z := Prod.mk.inj (e1.trans List.getElem_zip)
        exact ⟨by simpa using z.1, by simpa using z.2⟩
      subst ex ey
      refine wpAny_bind (he i i1 i2 _ _ ?_)
      wp_walk
      exact ⟨rfl, rfl, i + 1, e2⟩
    · rw [List.drop_of_length_le (by omega)] at hr
      cases hr
  case fin =>
    rintro ⟨c1, c2⟩ s' ⟨hc, rfl, _⟩
    simp only at hc
    subst hc
    wp_walk
    refine ⟨_, rfl, ?_⟩
    simpa [Builtin.Tuple.tupleCompareSizes, hz] using hR
  case h => exact ⟨rfl, rfl, 0, rfl⟩
end
theorem RnW.tuples {a b : Addr} {xs ys : Array Value} (ha : IsTup s.heap a xs) (hb : IsTup s.heap b ys) (hz : xs.size = ys.size) (hu : A.units < cLine) (he : ∀ j (h1 : j < xs.size) (h2 : j < ys.size), EqW P w A.in1 s xs[j] ys[j]) : RnW P w A s (.ref a) (.ref b) := fun E Q q => by
  obtain ⟨⟨ca, da, xa, sa⟩, oa, ka, n, va⟩ := id ha
  obtain ⟨⟨cb, db, xb, sb⟩, ob, kb, m, vb⟩ := id hb
  simp only at ka va kb vb
  subst ka va kb vb
  refine wpAny_richCompare_same_room (op := .NotEq) (T := "tuple") ⟨_, oa, rfl⟩ ⟨_, ob, rfl⟩ PySem.F.slot_tuple_ne ?_ hu
  exact call_meetsIn PySem.F.slot_tuple_ne ⟨_, oa, rfl⟩ PySem.F.entry_tuple_ne (PySem.F.args_tuple_ne_2 _ _) (tupNW a b xs ys n m da db sa sb hz) ⟨oa, ob, he, ⟨(fun z => nomatch z), q⟩⟩
section
open PySem.AutoSeq1 (wpAny_loadPart')
open PySem.MeetsSeq PySem.MeetsSeq2 PySem.MeetsSeq3 PySem.SeqRoads2 PySem.SeqAt
theorem lstLoopNW (a b : Addr) (xs ys : Array Value) (n m : Nat) (da db : Option Addr) (sa sb : Array (Option Value)) (hz : xs.size = ys.size) : ∀ (k i : Nat), xs.size - i = k →
    MeetsIn P w (Builtin.«list.__eq__.loop» ⟨[.ref a, .ref b, rawInt i, rawInt 3], []⟩) (fun A R s => s.heap.get? a = some ⟨.type "list", da, .seq xs n, sa⟩ ∧ s.heap.get? b = some ⟨.type "list", db, .seq ys m, sb⟩ ∧
      (∀ j (h1 : j < xs.size) (h2 : j < ys.size), EqW P w A.in1 s xs[j] ys[j]) ∧ R (.ok (.ret (.bool false))) s)
  | 0, i, hk => fun A R s h => by
    obtain ⟨hp, g, d, tk, os⟩ := s
    obtain ⟨ha, hb, he, hR⟩ := h
    wp_walk using wpAny_loadPart' ha, wpAny_loadPart' hb
    have z1 : xs[((i : Nat) : Int).toNat]? = none := by simp; omega
    have z2 : ys[((i : Nat) : Int).toNat]? = none := by simp; omega
    rw [z1, z2]
    wp_walk using wpAny_loadPart' ha, wpAny_loadPart' hb
    show R (.ok (.ret (.bool (xs.size != ys.size)))) _
    rw [hz, bne_self_eq_false]
    exact hR
  | k + 1, i, hk => fun A R s h => by
    obtain ⟨hp, g, d, tk, os⟩ := s
    obtain ⟨ha, hb, he, hR⟩ := h
    wp_walk using wpAny_loadPart' ha, wpAny_loadPart' hb
    have i1 : i < xs.size := by omega
    have i2 : i < ys.size := by omega
    have z1 : xs[((i : Nat) : Int).toNat]? = some xs[i] := by simp [i1]
    have z2 : ys[((i : Nat) : Int).toNat]? = some ys[i] := by simp [i2]
    rw [z1, z2]
    refine wpAny_bind (he i i1 i2 _ _ ?_)
    wp_walk
    have up : ((i : Int) + 1) = ((i + 1 : Nat) : Int) := Int.natCast_succ i
    rw [up]
    refine ⟨plainId_quiet plain_eq_loop _, codeAny_builtin entry_eq_loop ?_⟩
    rw [Around.under_plainId plain_eq_loop _]
    exact lstLoopNW a b xs ys n m da db sa sb hz k (i + 1) (by omega) A R _ ⟨ha, hb, he, hR⟩
theorem lstNW (a b : Addr) (xs ys : Array Value) (n m : Nat) (da db : Option Addr) (sa sb : Array (Option Value)) (hz : xs.size = ys.size) :
    MeetsIn P w (Builtin.«list.__ne__» ⟨[.ref a, .ref b], []⟩) (fun A R s => s.heap.get? a = some ⟨.type "list", da, .seq xs n, sa⟩ ∧ s.heap.get? b = some ⟨.type "list", db, .seq ys m, sb⟩ ∧
      (∀ j (h1 : j < xs.size) (h2 : j < ys.size), EqW P w A.in1 s xs[j] ys[j]) ∧ R (.ok (.ret (.bool false))) s) := fun A R s h => by
  obtain ⟨hp, g, d, tk, os⟩ := s
  obtain ⟨ha, hb, he, hR⟩ := h
  have sub := AutoSeq1.sub_list_list
  have same : ¬ (xs.size != ys.size) = true := by simp [hz]
  wp_walk using wpAny_loadPart' ha, wpAny_loadPart' hb
  refine ⟨plainId_quiet plain_eq_loop _, codeAny_builtin entry_eq_loop ?_⟩
  rw [Around.under_plainId plain_eq_loop _]
  exact lstLoopNW a b xs ys n m da db sa sb hz _ 0 rfl A R _ ⟨ha, hb, he, hR⟩
end
theorem RnW.lists {a b : Addr} {xs ys : Array Value} (ha : s.heap.IsList a xs) (hb : s.heap.IsList b ys) (hz : xs.size = ys.size) (hu : A.units < cLine) (he : ∀ j (h1 : j < xs.size) (h2 : j < ys.size), EqW P w A.in1 s xs[j] ys[j]) : RnW P w A s (.ref a) (.ref b) := fun E Q q => by
  obtain ⟨⟨ca, da, xa, sa⟩, oa, ka, n, va⟩ := id ha
  obtain ⟨⟨cb, db, xb, sb⟩, ob, kb, m, vb⟩ := id hb
  simp only at ka va kb vb
  subst ka va kb vb
  refine wpAny_richCompare_same_room (op := .NotEq) (T := "list") ⟨_, oa, rfl⟩ ⟨_, ob, rfl⟩ PySem.F.slot_list_ne ?_ hu
  exact call_meetsIn PySem.F.slot_list_ne ⟨_, oa, rfl⟩ PySem.F.entry_list_ne (PySem.F.args_list_ne_2 _ _) (lstNW a b xs ys n m da db sa sb hz) ⟨oa, ob, he, ⟨(fun z => nomatch z), q⟩⟩
end
section
variable {X : Cx} {pins : List (Addr × Obj)} {σ : St} {H : Hp} {s : Shared}
end
section
variable {X : Cx}
end
end L2
namespace Vc
open PySem L2 Sf
section
variable {K : PySem.W.Frag} {F H : Hp} {Q : VK}
end
def DeepA (F H0 : Hp) (vs : List V) : Prop := ∀ u ∈ vs, ∃ t d xs kvs, u = V.ref t ∧ F t = some (.tup (V.ref d :: xs)) ∧ F d = some (.dK kvs) ∧ H0 d = none
theorem DeepA.same {F F' H0 : Hp} {vs : List V} (h : DeepA F H0 vs) (s : Same F F') : DeepA F' H0 vs := fun u hu => by
  obtain ⟨t, d, xs, kvs, e, h1, h2, h3⟩ := h u hu
  exact ⟨t, d, xs, kvs, e, s _ _ h1, s _ _ h2, h3⟩
theorem DeepA.nil {F H0 : Hp} : DeepA F H0 [] := fun u hu => nomatch hu
theorem DeepA.snoc {F H0 : Hp} {vs : List V} {t d : Addr} {xs : List V} {kvs : List (Key × V)} (h : DeepA F H0 vs) (h1 : F t = some (.tup (V.ref d :: xs))) (h2 : F d = some (.dK kvs)) (h3 : H0 d = none) : DeepA F H0 (vs ++ [V.ref t]) := fun u hu => by
  rcases List.mem_append.mp hu with z | z
  · exact h u z
  · rw [List.mem_singleton.mp z]; exact ⟨t, d, xs, kvs, rfl, h1, h2, h3⟩
def DeepH (H Hb F : Hp) (vs : List V) : Prop := ∀ u ∈ vs, ∃ t d xs kvs, u = V.ref t ∧ H t = some (.tup (V.ref d :: xs)) ∧ H d = some (.dK kvs) ∧ Hb d = none ∧ F d = none
theorem DeepA.h {F F0 H H0 Hb : Hp} {vs : List V} (h : DeepA F H0 vs) (s : Same F H) (sb : Same Hb H0) (sf : Same F0 H0) : DeepH H Hb F0 vs := fun u hu => by
  obtain ⟨t, d, xs, kvs, e, h1, h2, h3⟩ := h u hu
  exact ⟨t, d, xs, kvs, e, s _ _ h1, s _ _ h2, sb.free h3, sf.free h3⟩
theorem DeepH.upd {H Hb F : Hp} {vs : List V} {d : Addr} (h : DeepH H Hb F vs) {kv : List (Key × V)} (hd : H d = some (.dK kv)) : DeepH (upd H d (.dK [])) Hb F vs := fun u hu => by
  obtain ⟨t, d', xs, kvs, e, h1, h2, h3, h4⟩ := h u hu
  have n1 : t ≠ d := fun z => by rw [z, hd] at h1; cases h1
  by_cases z : d' = d
  · subst z
    exact ⟨t, d', xs, [], e, by rw [upd_ne n1]; exact h1, upd_same, h3, h4⟩
  · exact ⟨t, d', xs, kvs, e, by rw [upd_ne n1]; exact h1, by rw [upd_ne z]; exact h2, h3, h4⟩
theorem gr_updN {Fb Hb F H : Hp} {p : Addr} {o : HO} (gb : Gr0 Fb Hb F H) (hb : Hb p = none) (hf : F p = none) : Gr0 Fb Hb F (upd H p o) := ⟨gb.h.updN hb, gb.f, gb.s.updN hf, gb.n⟩
end Vc
namespace L2
open PySem PySem.Spec PyProof.Rows
def Itz1 (x : Str) : It :=
  ⟨fun i _ => i < x.cps.size, fun i H v H' => ∃ p c, v = .ref p ∧ H p = none ∧ x.cps[i]? = some c ∧ H' = upd H p (.tup [.int i, .str ⟨#[c]⟩]), fun i _ => x.cps.size ≤ i⟩
theorem draws_str {prog : Program} {w : World} {A : Around} (hh : A.handled = none) (it : Addr) (x : Str) (t : Tok) :
    Draws prog w A it [it] x.cps.size (fun i v => ∃ c u, x.cps[i]? = some c ∧ v = .str ⟨#[c]⟩ u) (fun i h => h.IsStrIter it (strIterType x) x t i) := by
  cases e : x.cps.all (· < 128)
  · have z : strIterType x = "str_iterator" := by unfold strIterType; rw [e]; rfl
    rw [z]; exact Draws.strWide hh it x t
  · have z : strIterType x = "str_ascii_iterator" := by unfold strIterType; rw [e]; rfl
    rw [z]; exact Draws.strAscii hh it x t
theorem turn_enumS {P : Program} {w : World} {K : PySem.W.Frag} {elts : List Expr} {x1 : Nat} {pos : Pos} (x : Str) (t : Tok) (it en : Addr) (hne : en ≠ it) :
    Turn P w K (.Tuple elts x1 pos) (Itz1 x) [en, it] en (fun i h => i ≤ x.cps.size ∧ (∃ old, IsEnum h en it i old) ∧ h.IsStrIter it (strIterType x) x t i) where
  mem := by simp
  obj := fun i h st b hb => by
    obtain ⟨_, ⟨old, e1⟩, o, e2, c, d⟩ := st
    rcases List.mem_cons.mp hb with z | hb
    · rw [z]; exact ⟨_, e1, fun v z => by cases z⟩
    · have z : b = it := by simpa using hb
      rw [z]; exact ⟨o, e2, fun v z => by rw [d] at z; cases z⟩
  keep := fun i h h' st k => by
    obtain ⟨hz, ⟨old, e1⟩, o, e2, c, d⟩ := st
    exact ⟨hz, ⟨old, k en (by simp) _ e1⟩, o, k it (by simp) o e2, c, d⟩
  item := by
    intro X hP hw hK hc i pins s σ H E I hf st hg
    subst hP hw hK
    obtain ⟨hz, ⟨old, he⟩, hit⟩ := st
    have fe := hf en (by simp)
    have fi := hf it (by simp)
    have le : en < s.heap.objs.size := Heap.lt_size he
    have li : it < s.heap.objs.size := let ⟨o, e, _⟩ := hit; Heap.lt_size e
    refine wpAny_pyNext_enum_itemD (draws_str (A := X.A.in1) (I.ok.hd hc) it x t) he hit hg hne (by simpa using hne) fun v h' tk hv hout hit' hT hsz hk => ?_
    obtain ⟨c, u, hx, rfl⟩ := hv
    refine ⟨.ref s.heap.objs.size, rfl, wpAny_letOwnedTupleGo_enum hout fun h2 he2 hs => ?_⟩
    have hfr : H s.heap.objs.size = none := I.hok.fresh (Nat.le_refl _)
    have ne1 : en ≠ s.heap.objs.size := Nat.ne_of_lt le
    have ne2 : it ≠ s.heap.objs.size := Nat.ne_of_lt li
    have I1 := I.laid (a := s.heap.objs.size) (o := .tup [.int i, .str ⟨#[c]⟩]) (h' := s.heap.push { cls := .type "tuple", data := .seq #[.int i tk, .str ⟨#[c]⟩ u] }) (t' := tk) (fun b q hq => Heap.get?_push_of_some _ hq) (Nat.le_refl _)
      ⟨by show 2 ≤ sizeLine; decide, [.int i tk, .str ⟨#[c]⟩ u], .cons ⟨_, rfl⟩ (.cons ⟨_, rfl⟩ .nil), ⟨_, Heap.get?_push_size _ rfl, rfl, _, rfl⟩⟩
    have up : ∀ {b : Addr}, b ≠ s.heap.objs.size → FpOk X pins H b → FpOk X pins (upd H s.heap.objs.size (.tup [.int i, .str ⟨#[c]⟩])) b := fun hb f => ⟨by rw [upd_ne hb]; exact f.1, f.2⟩
    have hk2 : ∀ b q, b ≠ en → b ≠ it → (s.heap.push { cls := .type "tuple", data := .seq #[.int i tk, .str ⟨#[c]⟩ u] }).get? b = some q → h2.get? b = some q := fun b q h1 h3 hq => by
      refine hs.extBut b q h1 ?_
      rcases Heap.get?_push_cases hq with ⟨hbs, eq⟩ | hq
      · subst hbs
        subst eq
        exact hT
      · exact hk b q h1 h3 hq
    obtain ⟨oi, ei, ci, di⟩ := hit'
    have hit2 : h2.IsStrIter it (strIterType x) x t (i + 1) := ⟨oi, hs.extBut it oi (Ne.symm hne) ei, ci, di⟩
    refine ⟨.ref s.heap.objs.size, upd H s.heap.objs.size (.tup [.int i, .str ⟨#[c]⟩]), ?_, rfl, ⟨_, c, rfl, hfr, hx, rfl⟩, ⟨hg, ⟨_, he2⟩, hit2⟩, fun b hb => ?_⟩
    · exact Inv.turned2 (s := { s with heap := s.heap.push { cls := .type "tuple", data := .seq #[.int i tk, .str ⟨#[c]⟩ u] }, toks := tk }) (t' := tk + 1) I1 hk2 (up ne1 fe) (up ne2 fi) ⟨_, he2⟩ ⟨oi, hs.extBut it oi (Ne.symm hne) ei⟩
    · rcases List.mem_cons.mp hb with z | hb
      · rw [z, upd_ne ne1]; exact fe.1
      · have z : b = it := by simpa using hb
        rw [z, upd_ne ne2]; exact fi.1
  done := by
    intro X hP hw hK hc i pins s σ H E I hf st hg
    subst hP hw hK
    obtain ⟨hz, ⟨old, he⟩, hit⟩ := st
    obtain ⟨f0, f1, f2, f3, f4, f5⟩ := hf it (by simp)
    have hi : i = x.cps.size := Nat.le_antisymm hz hg
    rw [hi] at hit
    exact wpAny_pyNext_enum_endD (draws_str (A := X.A.in1) (I.ok.hd hc) it x t) he hit fun h' eb => ⟨rfl, I.turned (t' := s.toks) (fun b o hb e => eb b o hb e) f0 f1 f3 f4 f5⟩
  self := fun _ _ _ _ _ st h => let ⟨_, ⟨_, he⟩, _⟩ := st; wpAny_pyIter_enum he h
section
variable {X : Cx}
def iEnumS (ta : TA) : TI := fun σ H R => ta σ H fun vs H1 => ∃ x, vs = [.str x] ∧ R (Itz1 x) H1
theorem pi_enumS {l : Expr} {ta : TA} {elts : List Expr} {x1 : Nat} {tpos p pos : Pos} (hg : Gl X "enumerate") (hm : X.mg "enumerate" = none) (ha : PA X [l] ta) (hs : starEach [l] X.env = [(false, eval l X.env)] := by rfl) :
    PI X (.Tuple elts x1 tpos) (.Call (.Name "enumerate" p) [l] [] pos) (iEnumS ta) := by
  intro pins s σ H R I h
  refine Call_ (ld_blt I hg hm (u := .type "enumerate") rfl (PyProof.Rows.callWith_type1 (thn (ha pos pins s σ H _ I h) fun us s1 ⟨vs, H1, I1, r1, x, e, q⟩ => ?_) hs rfl))
  subst e
  cases r1 with
  | cons r rr =>
    cases rr
    obtain ⟨t, rfl⟩ := r
    refine call_enumerate_str fun h' hE hit hsz hk => wpAny_pyIter_enum hE ?_
    have ne : s1.heap.objs.size + 1 ≠ s1.heap.objs.size := by omega
    refine ⟨s1.heap.objs.size + 1, [s1.heap.objs.size + 1, s1.heap.objs.size], _, _, H1, rfl, I1.kept (t' := s1.toks) hk, turn_enumS x t _ _ ne, ⟨Nat.zero_le _, ⟨_, hE⟩, hit⟩, fun b hb => ?_, q⟩
    rcases List.mem_cons.mp hb with z | hb
    · rw [z]; exact I1.fpOk (by omega) (I1.hok.fresh (by omega))
    · have z : b = s1.heap.objs.size := by simpa using hb
      rw [z]; exact I1.fpOk (Nat.le_refl _) (I1.hok.fresh (Nat.le_refl _))
end
theorem a_ienumS {ta : TA} {σ : St} {H : Hp} {R : It → Hp → Prop} (h : ta σ H fun vs H1 => ∃ x, vs = [.str x] ∧ R (Itz1 x) H1) : iEnumS ta σ H R := h
theorem for_enumS {x : Str} {g : TG} {tb : TS} {D : Ends} {σ : St} {H : Hp} (Pv : Nat → St → Hp → Prop) (h0 : Pv 0 σ H)
    (hs : ∀ i c σ H p, x.cps[i]? = some c → Pv i σ H → H p = none → g (.ref p) σ (upd H p (.tup [.int i, .str ⟨#[c]⟩])) fun σ2 H2 => tb { D with nx := Pv (i + 1), ct := Pv (i + 1), bk := D.nx } σ2 H2) (hd : ∀ σ H, Pv x.cps.size σ H → D.nx σ H) :
    ∃ W : Nat → Nat → St → Hp → Prop, (∃ m, W 0 m σ H) ∧ ∀ i m σ H, W i m σ H →
      ((Itz1 x).stop i H ∧ D.nx σ H) ∨ ((Itz1 x).go i H ∧ ∃ N : St → Hp → Prop, (∀ σ' H', N σ' H' → ∃ m', m' < m ∧ W (i + 1) m' σ' H') ∧ ∀ y H', (Itz1 x).yld i H y H' → g y σ H' fun σ2 H2 => tb { D with nx := N, ct := N, bk := D.nx } σ2 H2) := by
  refine ⟨fun i m σ H => m = x.cps.size - i ∧ i ≤ x.cps.size ∧ Pv i σ H, ⟨x.cps.size, by simp, Nat.zero_le _, h0⟩, ?_⟩
  rintro i m σ H ⟨rfl, hi, p⟩
  rcases Nat.lt_or_ge i x.cps.size with hlt | hge
  · refine .inr ⟨hlt, Pv (i + 1), fun σ' H' p' => ⟨x.cps.size - (i + 1), by omega, rfl, hlt, p'⟩, fun y H' z => ?_⟩
    obtain ⟨pa, c, rfl, e2, e3, rfl⟩ := z
    exact hs i c σ H pa e3 p e2
  · obtain rfl : i = x.cps.size := by omega
    exact .inl ⟨Nat.le_refl _, hd σ H p⟩
section
variable {X : Cx}
def rJoin (K : PySem.W.Frag) : V → List V → Hp → VK → Prop := fun x vs H Q => ∃ sep p ys, x = .str sep ∧ vs = [.ref p] ∧ SqL K H p (ys.map V.str) ∧ (ys.map (·.length)).sum + ys.length * sep.length ≤ 16777216 ∧ Q (.str (Txt.join sep ys)) H
theorem strsAre_vals {ys : List Str} : ∀ {us : List Value}, Vals (ys.map V.str) us → StrsAre us ys := by
  induction ys with
  | nil => intro us r; cases r; exact .nil
  | cons y r ih =>
    intro us h
    cases h with
    | cons h1 h2 => obtain ⟨t, rfl⟩ := h1; exact .cons y t (ih h2)
theorem mt_join : MtM X "str.join" (rJoin X.K) := by
  intro pins s σ H x vs v us Q I rx rv h
  obtain ⟨sep, p, ys, rfl, rfl, hq, hok, q⟩ := h
  obtain ⟨t, rfl⟩ := rx
  obtain ⟨u, rfl, ru⟩ := rv.one
  cases ru
  obtain ⟨its, r, pl, hz⟩ := I.list hq
  exact join_list pl.isList (by simpa using strsAre_vals r) hok fun t' k => ⟨.str _, H, I.tok _, ⟨_, rfl⟩, q⟩
theorem op_gt_str : OpR X (compareOp .Gt) (fun x y H Q => ∃ i j, x = .str i ∧ y = .str j ∧ Q (.bl (decide (j.cps.toList < i.cps.toList))) H) := by
  intro pins s σ H x y v u Q I rx ry h
  obtain ⟨i, j, rfl, rfl, q⟩ := h
  obtain ⟨t, rfl⟩ := rx
  obtain ⟨t', rfl⟩ := ry
  exact PySem.P.gt_str (fin_bl I q rfl)
end
end L2
namespace Vc
open PySem L2 Sf
abbrev Grid := List (List Str)
def Sq (H Hb F : Hp) (p : Addr) (rs : List Addr) (g : Grid) : Prop :=
  H p = some (.lst (rs.map V.ref)) ∧ F p = none ∧ rs.length = g.length ∧ rs.Nodup ∧ ∀ (i : Nat) r row, rs[i]? = some r → g[i]? = some row → H r = some (.lst (row.map V.str)) ∧ Hb r = none ∧ F r = none
theorem Sq.gr {H H' Hb F F' : Hp} {p : Addr} {rs : List Addr} {g : Grid} (h : Sq H Hb F p rs g) (k : Gr F H F' H') : Sq H' Hb F' p rs g :=
  ⟨k.h _ _ h.1, k.own h.2.1 h.1, h.2.2.1, h.2.2.2.1, fun i r row h1 h2 => by
    obtain ⟨a, b, c⟩ := h.2.2.2.2 i r row h1 h2
    exact ⟨k.h _ _ a, b, k.own c a⟩⟩
def gset (g : Grid) (i j : Nat) (x : Str) : Grid := g.set i ((g.getD i []).set j x)
theorem Sq.at {H Hb F : Hp} {p : Addr} {rs : List Addr} {g : Grid} (h : Sq H Hb F p rs g) {i : Nat} (hi : i < g.length) : ∃ r row, rs[i]? = some r ∧ g[i]? = some row ∧ H r = some (.lst (row.map V.str)) ∧ Hb r = none ∧ F r = none := by
  have h1 : rs[i]? = some (rs[i]'(by have := h.2.2.1; omega)) := by simp
  have h2 : g[i]? = some g[i] := by simp [hi]
  exact ⟨_, _, h1, h2, h.2.2.2.2 i _ _ h1 h2⟩
theorem Sq.set {H Hb F : Hp} {p r : Addr} {rs : List Addr} {g : Grid} {i j : Nat} {row : List Str} {x : Str} (h : Sq H Hb F p rs g) (hr : rs[i]? = some r) (hg : g[i]? = some row) : Sq (upd H r (.lst ((row.map V.str).set j (V.str x)))) Hb F p rs (gset g i j x) := by
  obtain ⟨a, b, c, d, e⟩ := h
  obtain ⟨e1, e2, e3⟩ := e i r row hr hg
  have npr : p ≠ r := fun z => by
    rw [z, e1] at a
    have a' : row.map V.str = rs.map V.ref := by injection a with a; injection a
    cases rs with
    | nil => cases hr
    | cons q t => cases row with
      | nil => cases a'
      | cons y u => rw [List.map_cons, List.map_cons] at a'; injection a' with z1 _; cases z1
  refine ⟨by rw [upd_ne npr]; exact a, b, by unfold gset; rw [List.length_set]; exact c, d, fun k q w h1 h2 => ?_⟩
  unfold gset at h2
  by_cases hk : k = i
  · subst hk
    rw [hr] at h1
    cases h1
    rw [List.getElem?_set_self (List.getElem?_eq_some_iff.mp hg).1, getD_of hg] at h2
    cases h2
    exact ⟨by rw [upd_same, List.map_set], e2, e3⟩
  · rw [List.getElem?_set_ne (Ne.symm hk)] at h2
    obtain ⟨f1, f2, f3⟩ := e k q w h1 h2
    have nq : q ≠ r := fun z => hk ((List.getElem?_inj (List.getElem?_eq_some_iff.mp h1).1 d).mp (by rw [h1, hr, z]))
    exact ⟨by rw [upd_ne nq]; exact f1, f2, f3⟩
def SqA (H Hb F : Hp) (rs : List Addr) (n : Nat) : Prop := rs.Nodup ∧ ∀ r ∈ rs, H r = some (.lst (List.replicate n (V.str "."))) ∧ Hb r = none ∧ F r = none
theorem SqA.nil {H Hb F : Hp} {n : Nat} : SqA H Hb F [] n := ⟨List.nodup_nil, fun _ h => nomatch h⟩
theorem SqA.snoc {H Hb F Fb : Hp} {rs : List Addr} {n : Nat} {p1 p2 : Addr} {o1 : HO} (h : SqA H Hb F rs n) (gb : Gr0 Fb Hb F H) (hp1 : H p1 = none) (hp2 : upd H p1 o1 p2 = none) :
    SqA (upd (upd H p1 o1) p2 (.lst (List.replicate n (V.str ".")))) Hb F (rs ++ [p2]) n ∧ Gr0 Fb Hb F (upd (upd H p1 o1) p2 (.lst (List.replicate n (V.str ".")))) := by
  have n12 : p2 ≠ p1 := fun z => by rw [z, upd_same] at hp2; cases hp2
  have hp2' : H p2 = none := by rw [upd_ne n12] at hp2; exact hp2
  have g1 := gr_updN (o := o1) gb (gb.h.free hp1) (gb.s.free hp1)
  have g2 := gr_updN (o := .lst (List.replicate n (V.str "."))) g1 (gb.h.free hp2') (gb.s.free hp2')
  refine ⟨⟨?_, fun r hr => ?_⟩, g2⟩
  · rw [List.nodup_append]
    refine ⟨h.1, by simp, fun a ha b hb => ?_⟩
    rw [List.mem_singleton.mp hb]
    rintro rfl
    have := (h.2 a ha).1
    rw [hp2'] at this; cases this
  · rcases List.mem_append.mp hr with z | z
    · obtain ⟨a, b, c⟩ := h.2 r z
      have m1 : r ≠ p1 := fun z => by rw [z, hp1] at a; cases a
      have m2 : r ≠ p2 := fun z => by rw [z, hp2'] at a; cases a
      exact ⟨by rw [upd_ne m2, upd_ne m1]; exact a, b, c⟩
    · rw [List.mem_singleton.mp z]
      exact ⟨upd_same, gb.h.free hp2', gb.s.free hp2'⟩
theorem Sq.of {H Hb F Fb : Hp} {rs : List Addr} {n m : Nat} {p : Addr} (h : SqA H Hb F rs n) (gb : Gr0 Fb Hb F H) (hp : H p = none) (hl : rs.length = m) :
    Sq (upd H p (.lst (rs.map V.ref))) Hb F p rs (List.replicate m (List.replicate n ".")) ∧ Gr0 Fb Hb F (upd H p (.lst (rs.map V.ref))) := by
  refine ⟨⟨upd_same, gb.s.free hp, by rw [List.length_replicate]; exact hl, h.1, fun i r row h1 h2 => ?_⟩, gr_updN gb (gb.h.free hp) (gb.s.free hp)⟩
  have hr := List.mem_of_getElem? h1
  obtain ⟨a, b, c⟩ := h.2 r hr
  have hrow : row = List.replicate n (("." : Str)) := List.eq_of_mem_replicate (List.mem_of_getElem? h2)
  have ne : r ≠ p := fun z => by rw [z, hp] at a; cases a
  exact ⟨by rw [upd_ne ne, hrow, List.map_replicate]; exact a, b, c⟩
theorem rep_one {α : Type} (k : Nat) (x : α) : (List.replicate k [x]).flatten = List.replicate k x := by
  induction k with
  | zero => rfl
  | succ k ih => rw [List.replicate_succ, List.flatten_cons, ih, List.replicate_succ]; rfl
theorem a_gsub {to ti : TE} {t : TSet} {v : V} {σ : L2.St} {H : Hp} {Q : L2.St → Hp → Prop} (h : to σ H fun o H1 => ti σ H1 fun i H2 => t o i v H2 fun H3 => Q σ H3) : gSub to ti t v σ H Q := h
theorem ixN_nat {n : Nat} {i : Int} (h0 : 0 ≤ i) (h1 : i < n) : ixN n i = some i.toNat := by unfold ixN; rw [if_pos h0, if_pos h1]
theorem at_ref {rs : List Addr} {i : Int} {r : Addr} (h0 : 0 ≤ i) (h : rs[i.toNat]? = some r) : atI (rs.map V.ref) i = some (V.ref r) := by
  have e : (rs.map V.ref)[i.toNat]? = some (V.ref r) := by rw [List.getElem?_map, h]; rfl
  have := atI_nat e
  rwa [Int.toNat_of_nonneg h0] at this
theorem Al.four {α : Type} {A : Rep α} {F : Hp} {vs : List V} {xs : List α} (h : Al A F vs xs) (hl : xs.length = 4) : ∃ v1 v2 v3 v4 x1 x2 x3 x4, vs = [v1, v2, v3, v4] ∧ xs = [x1, x2, x3, x4] ∧ A F v1 x1 ∧ A F v2 x2 ∧ A F v3 x3 ∧ A F v4 x4 := by
  match xs, hl with
  | [x1, x2, x3, x4], _ =>
    match vs, h with
    | [v1, v2, v3, v4], h => exact ⟨v1, v2, v3, v4, x1, x2, x3, x4, rfl, rfl, h.1, h.2.1, h.2.2.1, h.2.2.2.1⟩
    | [], h => exact h.elim
    | [_], h => exact h.2.elim
    | [_, _], h => exact h.2.2.elim
    | [_, _, _], h => exact h.2.2.2.elim
    | _ :: _ :: _ :: _ :: _ :: _, h => exact h.2.2.2.2.elim
instance {K : PySem.W.Frag} {α β γ δ : Type} {A : Rep α} {B : Rep β} {C : Rep γ} {D : Rep δ} {n m k l : Nat} [Et K A n] [Et K B m] [Et K C k] [Et K D l] : Et K (r4 K A B C D) (n + m + k + l + 1) :=
  ⟨fun wd ⟨a, v1, v2, v3, v4, h1, h2, h3, h4, h5, h6⟩ ⟨b, w1, w2, w3, w4, g1, g2, g3, g4, g5, g6⟩ => .inr ⟨a, b, _, _, h1, g1, .inl ⟨wd.tup h2, wd.tup g2⟩, eqT_mono (Et.et wd h3 g3) (by omega), eqT_mono (Et.et wd h4 g4) (by omega), eqT_mono (Et.et wd h5 g5) (by omega), eqT_mono (Et.et wd h6 g6) (by omega), True.intro⟩⟩
structure ZSs (X : Cx) (st : List Stmt) (t : TS) : Prop where
  h : PSs X st t
theorem zss_cons {X : Cx} {st : Stmt} {rest : List Stmt} {t u : TS} (h1 : PS X st t) (h2 : ZSs X rest u) : ZSs X (st :: rest) (tSeq t u) := ⟨pss_cons h1 h2.h⟩
theorem zss_one {X : Cx} {st : Stmt} {t : TS} (h1 : PS X st t) : ZSs X [st] t := ⟨pss_one h1⟩
structure ZS (X : Cx) (st : Stmt) (t : TS) : Prop where
  h : PS X st t
structure ZE (X : Cx) (e : Expr) (t : TE) : Prop where
  h : PE X e t
structure ZA (X : Cx) (e : List Expr) (t : TA) : Prop where
  h : PA X e t
theorem zss_consZ {X : Cx} {st : Stmt} {rest : List Stmt} {t u : TS} (h1 : ZS X st t) (h2 : ZSs X rest u) : ZSs X (st :: rest) (tSeq t u) := ⟨pss_cons h1.h h2.h⟩
theorem zs_set {X : Cx} {pos : Pos} {i : Nat} {x : Str} {e : Expr} {te : TE} {pos' : Pos} (hN : X.N.Nodup) (hi : X.N[i]? = some x) (hx : Loc X.env.scope x) (hs : swapsWith e (some (.Name x pos')) pos.line X.env = pure false) (hf : X.fn x = true ∨ X.env.scope.names.lookup x = some .local) (he : ZE X e te) :
    ZS X (.Assign [.Name x pos'] e pos) (tAsg te (gName i)) := ⟨ps_set hN hi hx he.h hs hf⟩
theorem ze_lst {X : Cx} {pos : Pos} {es t} (h : ZA X es t) : ZE X (.List es pos) (tLst t) := ⟨pe_lst h.h⟩
theorem za_cons {X : Cx} {e te es t} (hs : starEach (e :: es) X.env = (false, eval e X.env) :: starEach es X.env) (ha : ZE X e te) (hr : ZA X es t) : ZA X (e :: es) (tCons te t) := ⟨pa_cons ha.h hr.h hs⟩
theorem za_nil {X : Cx} : ZA X [] tNil := ⟨pa_nil⟩
theorem ze_str {X : Cx} {x j pos} : ZE X (.Constant (.str x) j pos) (tC (.str x)) := ⟨pe_str⟩
end Vc
namespace Sf
open PySem L2 Vc
def top (i : Nat) : Stmt := PySem.Challenge.pw_springframe_k81_drawings.main.body.getD i (.Pass ⟨0, 0, 0, 0⟩)
abbrev s_part : Stmt := top 4
abbrev s_greatest_divisor : Stmt := top 5
abbrev s_plus : Stmt := top 6
abbrev s_under : Stmt := top 7
abbrev s_middles_within : Stmt := top 10
abbrev s_drawn : Stmt := top 11
abbrev s_law_cell_at : Stmt := top 13
abbrev s_law_stream : Stmt := top 14
abbrev s_law_lowest : Stmt := top 15
abbrev s_law_number : Stmt := top 16
abbrev s_law_places : Stmt := top 17
abbrev s_law_in : Stmt := top 18
abbrev s_law_sign : Stmt := top 19
abbrev s_law : Stmt := top 20
theorem sc_part : FnScope ["top", "bottom", "divisor"] ["top", "bottom"] (defScope s_part) := ⟨rfl, rfl, rfl, by decide +kernel, rfl, by decide +kernel, by decide +kernel⟩
theorem sc_greatest_divisor : FnScope ["one", "other", "remainder"] ["one", "other"] (defScope s_greatest_divisor) := ⟨rfl, rfl, rfl, by decide +kernel, rfl, by decide +kernel, by decide +kernel⟩
theorem sc_plus : FnScope ["one", "other"] ["one", "other"] (defScope s_plus) := ⟨rfl, rfl, rfl, by decide +kernel, rfl, by decide +kernel, by decide +kernel⟩
theorem sc_under : FnScope ["one", "other"] ["one", "other"] (defScope s_under) := ⟨rfl, rfl, rfl, by decide +kernel, rfl, by decide +kernel, by decide +kernel⟩
theorem sc_middles_within : FnScope ["start", "length", "many", "end", "found", "number", "middle"] ["start", "length", "many"] (defScope s_middles_within) := ⟨rfl, rfl, rfl, by decide +kernel, rfl, by decide +kernel, by decide +kernel⟩
theorem sc_drawn : FnScope ["places", "wide", "high", "squares", "name", "place", "columns", "row", "column"] ["places", "wide", "high"] (defScope s_drawn) := ⟨rfl, rfl, rfl, by decide +kernel, rfl, by decide +kernel, by decide +kernel⟩
theorem sc_law_cell_at : FnScope ["_law_script", "_law_k"] ["_law_script", "_law_k"] (defScope s_law_cell_at) := ⟨rfl, rfl, rfl, by decide +kernel, rfl, by decide +kernel, by decide +kernel⟩
theorem sc_law_stream : FnScope ["_law_cell", "_law_many", "_law_found", "_law_number_here", "_law_k"] ["_law_cell", "_law_many"] (defScope s_law_stream) := ⟨rfl, rfl, rfl, by decide +kernel, rfl, by decide +kernel, by decide +kernel⟩
theorem sc_law_lowest : FnScope ["_law_top", "_law_bottom", "_law_one", "_law_other"] ["_law_top", "_law_bottom"] (defScope s_law_lowest) := ⟨rfl, rfl, rfl, by decide +kernel, rfl, by decide +kernel, by decide +kernel⟩
theorem sc_law_number : FnScope ["_law_number_here", "_law_bottom", "_law_top"] ["_law_number_here"] (defScope s_law_number) := ⟨rfl, rfl, rfl, by decide +kernel, rfl, by decide +kernel, by decide +kernel⟩
theorem sc_law_places : FnScope ["_law_names", "_law_cell", "_law_xs", "_law_found", "_law_many", "_law_k", "_law_name"] ["_law_names", "_law_cell"] (defScope s_law_places) := ⟨rfl, rfl, rfl, by decide +kernel, rfl, by decide +kernel, by decide +kernel⟩
theorem sc_law_in : FnScope ["_law_at", "_law_low", "_law_long", "_law_middle", "_law_left"] ["_law_at", "_law_low", "_law_long"] (defScope s_law_in) := ⟨rfl, rfl, rfl, by decide +kernel, rfl, by decide +kernel, by decide +kernel⟩
theorem sc_law_sign : FnScope ["_law_places_here", "_law_x", "_law_y", "_law_sign_here", "_law_last", "_law_name", "_law_place"] ["_law_places_here", "_law_x", "_law_y"] (defScope s_law_sign) := ⟨rfl, rfl, rfl, by decide +kernel, rfl, by decide +kernel, by decide +kernel⟩
theorem sc_law : FnScope ["_law_script", "_law_cell", "_law_names", "_law_places_here", "_law_wide", "_law_high", "_law_handed", "_law_found", "_law_y", "_law_signs", "_law_x", "_law_sign_here", "_law_kept"] ["_law_script"] (defScope s_law) := ⟨rfl, rfl, rfl, by decide +kernel, rfl, by decide +kernel, by decide +kernel⟩
structure Tx (K : PySem.W.Frag) (mg : Str → Option Value) where
  a_part : Addr
  d_part : FuncData
  F_part : Fun K "part" "part" s_part a_part d_part
  b_part : Binds K d_part ["top", "bottom"] []
  m_part : mg "part" = some (.ref a_part)
  a_greatest_divisor : Addr
  d_greatest_divisor : FuncData
  F_greatest_divisor : Fun K "greatest_divisor" "greatest_divisor" s_greatest_divisor a_greatest_divisor d_greatest_divisor
  b_greatest_divisor : Binds K d_greatest_divisor ["one", "other"] []
  m_greatest_divisor : mg "greatest_divisor" = some (.ref a_greatest_divisor)
  a_plus : Addr
  d_plus : FuncData
  F_plus : Fun K "plus" "plus" s_plus a_plus d_plus
  b_plus : Binds K d_plus ["one", "other"] []
  m_plus : mg "plus" = some (.ref a_plus)
  a_under : Addr
  d_under : FuncData
  F_under : Fun K "under" "under" s_under a_under d_under
  b_under : Binds K d_under ["one", "other"] []
  m_under : mg "under" = some (.ref a_under)
  a_middles_within : Addr
  d_middles_within : FuncData
  F_middles_within : Fun K "middles_within" "middles_within" s_middles_within a_middles_within d_middles_within
  b_middles_within : Binds K d_middles_within ["start", "length", "many"] []
  m_middles_within : mg "middles_within" = some (.ref a_middles_within)
  a_drawn : Addr
  d_drawn : FuncData
  F_drawn : Fun K "drawn" "drawn" s_drawn a_drawn d_drawn
  b_drawn : Binds K d_drawn ["places", "wide", "high"] []
  m_drawn : mg "drawn" = some (.ref a_drawn)
  a_law_cell_at : Addr
  d_law_cell_at : FuncData
  F_law_cell_at : Fun K "_law_cell_at" "_law_cell_at" s_law_cell_at a_law_cell_at d_law_cell_at
  b_law_cell_at : Binds K d_law_cell_at ["_law_script", "_law_k"] []
  m_law_cell_at : mg "_law_cell_at" = some (.ref a_law_cell_at)
  a_law_stream : Addr
  d_law_stream : FuncData
  F_law_stream : Fun K "_law_stream" "_law_stream" s_law_stream a_law_stream d_law_stream
  b_law_stream : Binds K d_law_stream ["_law_cell", "_law_many"] []
  m_law_stream : mg "_law_stream" = some (.ref a_law_stream)
  a_law_lowest : Addr
  d_law_lowest : FuncData
  F_law_lowest : Fun K "_law_lowest" "_law_lowest" s_law_lowest a_law_lowest d_law_lowest
  b_law_lowest : Binds K d_law_lowest ["_law_top", "_law_bottom"] []
  m_law_lowest : mg "_law_lowest" = some (.ref a_law_lowest)
  a_law_number : Addr
  d_law_number : FuncData
  F_law_number : Fun K "_law_number" "_law_number" s_law_number a_law_number d_law_number
  b_law_number : Binds K d_law_number ["_law_number_here"] []
  m_law_number : mg "_law_number" = some (.ref a_law_number)
  a_law_places : Addr
  d_law_places : FuncData
  F_law_places : Fun K "_law_places" "_law_places" s_law_places a_law_places d_law_places
  b_law_places : Binds K d_law_places ["_law_names", "_law_cell"] []
  m_law_places : mg "_law_places" = some (.ref a_law_places)
  a_law_in : Addr
  d_law_in : FuncData
  F_law_in : Fun K "_law_in" "_law_in" s_law_in a_law_in d_law_in
  b_law_in : Binds K d_law_in ["_law_at", "_law_low", "_law_long"] []
  m_law_in : mg "_law_in" = some (.ref a_law_in)
  a_law_sign : Addr
  d_law_sign : FuncData
  F_law_sign : Fun K "_law_sign" "_law_sign" s_law_sign a_law_sign d_law_sign
  b_law_sign : Binds K d_law_sign ["_law_places_here", "_law_x", "_law_y"] []
  m_law_sign : mg "_law_sign" = some (.ref a_law_sign)
  a_law : Addr
  d_law : FuncData
  F_law : Fun K "law" "law" s_law a_law d_law
  b_law : Binds K d_law ["_law_script"] []
  m_law : mg "law" = some (.ref a_law)
  k_NO_PANE : Tok
  m_NO_PANE : mg "NO_PANE" = some (.str "." k_NO_PANE)
  z_abs : mg "abs" = none
  z_len : mg "len" = none
  z_range : mg "range" = none
  z_isinstance : mg "isinstance" = none
  z_tuple : mg "tuple" = none
  z_dict : mg "dict" = none
  z_list : mg "list" = none
  z_sorted : mg "sorted" = none
  z_enumerate : mg "enumerate" = none
  z_str : mg "str" = none
def tx_mk {K : PySem.W.Frag} {h : Heap} {mg : Str → Option Value} (X : K.In h) (G : h.Ns mainGlobals mg)
    {f0 : Addr} {od0 an0 : Option Addr} {sl0 : Array (Option Value)} {oc0 kV0 dc0 pm0 cd0 ct0 : Value}
    {f1 : Addr} {od1 an1 : Option Addr} {sl1 : Array (Option Value)} {oc1 kV1 dc1 pm1 cd1 ct1 : Value}
    {f2 : Addr} {od2 an2 : Option Addr} {sl2 : Array (Option Value)} {oc2 kV2 dc2 pm2 cd2 ct2 : Value}
    {f3 : Addr} {od3 an3 : Option Addr} {sl3 : Array (Option Value)} {oc3 kV3 dc3 pm3 cd3 ct3 : Value}
    {f4 : Addr} {od4 an4 : Option Addr} {sl4 : Array (Option Value)} {oc4 kV4 dc4 pm4 cd4 ct4 : Value}
    {f5 : Addr} {od5 an5 : Option Addr} {sl5 : Array (Option Value)} {oc5 kV5 dc5 pm5 cd5 ct5 : Value}
    {f6 : Addr} {od6 an6 : Option Addr} {sl6 : Array (Option Value)} {oc6 kV6 dc6 pm6 cd6 ct6 : Value}
    {f7 : Addr} {od7 an7 : Option Addr} {sl7 : Array (Option Value)} {oc7 kV7 dc7 pm7 cd7 ct7 : Value}
    {f8 : Addr} {od8 an8 : Option Addr} {sl8 : Array (Option Value)} {oc8 kV8 dc8 pm8 cd8 ct8 : Value}
    {f9 : Addr} {od9 an9 : Option Addr} {sl9 : Array (Option Value)} {oc9 kV9 dc9 pm9 cd9 ct9 : Value}
    {f10 : Addr} {od10 an10 : Option Addr} {sl10 : Array (Option Value)} {oc10 kV10 dc10 pm10 cd10 ct10 : Value}
    {f11 : Addr} {od11 an11 : Option Addr} {sl11 : Array (Option Value)} {oc11 kV11 dc11 pm11 cd11 ct11 : Value}
    {f12 : Addr} {od12 an12 : Option Addr} {sl12 : Array (Option Value)} {oc12 kV12 dc12 pm12 cd12 ct12 : Value}
    {f13 : Addr} {od13 an13 : Option Addr} {sl13 : Array (Option Value)} {oc13 kV13 dc13 pm13 cd13 ct13 : Value}
    {yk_NO_PANE : Tok}
    (e0 : PySem.W.nsIn K mainGlobals "part" = some (some (.ref f0)))
    (l0 : K.lookup f0 = some ⟨oc0, od0, .func (PySem.W.fnOf "part" "part" (defArgs s_part) (defBody s_part) (defScope s_part) .none kV0 dc0 pm0 an0 cd0 ct0), sl0⟩)
    (c0 : PySem.W.codeIn K cd0 "part" = true)
    (k0 : PySem.W.keepIn K (.ref f0) = true)
    (e1 : PySem.W.nsIn K mainGlobals "greatest_divisor" = some (some (.ref f1)))
    (l1 : K.lookup f1 = some ⟨oc1, od1, .func (PySem.W.fnOf "greatest_divisor" "greatest_divisor" (defArgs s_greatest_divisor) (defBody s_greatest_divisor) (defScope s_greatest_divisor) .none kV1 dc1 pm1 an1 cd1 ct1), sl1⟩)
    (c1 : PySem.W.codeIn K cd1 "greatest_divisor" = true)
    (k1 : PySem.W.keepIn K (.ref f1) = true)
    (e2 : PySem.W.nsIn K mainGlobals "plus" = some (some (.ref f2)))
    (l2 : K.lookup f2 = some ⟨oc2, od2, .func (PySem.W.fnOf "plus" "plus" (defArgs s_plus) (defBody s_plus) (defScope s_plus) .none kV2 dc2 pm2 an2 cd2 ct2), sl2⟩)
    (c2 : PySem.W.codeIn K cd2 "plus" = true)
    (k2 : PySem.W.keepIn K (.ref f2) = true)
    (e3 : PySem.W.nsIn K mainGlobals "under" = some (some (.ref f3)))
    (l3 : K.lookup f3 = some ⟨oc3, od3, .func (PySem.W.fnOf "under" "under" (defArgs s_under) (defBody s_under) (defScope s_under) .none kV3 dc3 pm3 an3 cd3 ct3), sl3⟩)
    (c3 : PySem.W.codeIn K cd3 "under" = true)
    (k3 : PySem.W.keepIn K (.ref f3) = true)
    (e4 : PySem.W.nsIn K mainGlobals "middles_within" = some (some (.ref f4)))
    (l4 : K.lookup f4 = some ⟨oc4, od4, .func (PySem.W.fnOf "middles_within" "middles_within" (defArgs s_middles_within) (defBody s_middles_within) (defScope s_middles_within) .none kV4 dc4 pm4 an4 cd4 ct4), sl4⟩)
    (c4 : PySem.W.codeIn K cd4 "middles_within" = true)
    (k4 : PySem.W.keepIn K (.ref f4) = true)
    (e5 : PySem.W.nsIn K mainGlobals "drawn" = some (some (.ref f5)))
    (l5 : K.lookup f5 = some ⟨oc5, od5, .func (PySem.W.fnOf "drawn" "drawn" (defArgs s_drawn) (defBody s_drawn) (defScope s_drawn) .none kV5 dc5 pm5 an5 cd5 ct5), sl5⟩)
    (c5 : PySem.W.codeIn K cd5 "drawn" = true)
    (k5 : PySem.W.keepIn K (.ref f5) = true)
    (e6 : PySem.W.nsIn K mainGlobals "_law_cell_at" = some (some (.ref f6)))
    (l6 : K.lookup f6 = some ⟨oc6, od6, .func (PySem.W.fnOf "_law_cell_at" "_law_cell_at" (defArgs s_law_cell_at) (defBody s_law_cell_at) (defScope s_law_cell_at) .none kV6 dc6 pm6 an6 cd6 ct6), sl6⟩)
    (c6 : PySem.W.codeIn K cd6 "_law_cell_at" = true)
    (k6 : PySem.W.keepIn K (.ref f6) = true)
    (e7 : PySem.W.nsIn K mainGlobals "_law_stream" = some (some (.ref f7)))
    (l7 : K.lookup f7 = some ⟨oc7, od7, .func (PySem.W.fnOf "_law_stream" "_law_stream" (defArgs s_law_stream) (defBody s_law_stream) (defScope s_law_stream) .none kV7 dc7 pm7 an7 cd7 ct7), sl7⟩)
    (c7 : PySem.W.codeIn K cd7 "_law_stream" = true)
    (k7 : PySem.W.keepIn K (.ref f7) = true)
    (e8 : PySem.W.nsIn K mainGlobals "_law_lowest" = some (some (.ref f8)))
    (l8 : K.lookup f8 = some ⟨oc8, od8, .func (PySem.W.fnOf "_law_lowest" "_law_lowest" (defArgs s_law_lowest) (defBody s_law_lowest) (defScope s_law_lowest) .none kV8 dc8 pm8 an8 cd8 ct8), sl8⟩)
    (c8 : PySem.W.codeIn K cd8 "_law_lowest" = true)
    (k8 : PySem.W.keepIn K (.ref f8) = true)
    (e9 : PySem.W.nsIn K mainGlobals "_law_number" = some (some (.ref f9)))
    (l9 : K.lookup f9 = some ⟨oc9, od9, .func (PySem.W.fnOf "_law_number" "_law_number" (defArgs s_law_number) (defBody s_law_number) (defScope s_law_number) .none kV9 dc9 pm9 an9 cd9 ct9), sl9⟩)
    (c9 : PySem.W.codeIn K cd9 "_law_number" = true)
    (k9 : PySem.W.keepIn K (.ref f9) = true)
    (e10 : PySem.W.nsIn K mainGlobals "_law_places" = some (some (.ref f10)))
    (l10 : K.lookup f10 = some ⟨oc10, od10, .func (PySem.W.fnOf "_law_places" "_law_places" (defArgs s_law_places) (defBody s_law_places) (defScope s_law_places) .none kV10 dc10 pm10 an10 cd10 ct10), sl10⟩)
    (c10 : PySem.W.codeIn K cd10 "_law_places" = true)
    (k10 : PySem.W.keepIn K (.ref f10) = true)
    (e11 : PySem.W.nsIn K mainGlobals "_law_in" = some (some (.ref f11)))
    (l11 : K.lookup f11 = some ⟨oc11, od11, .func (PySem.W.fnOf "_law_in" "_law_in" (defArgs s_law_in) (defBody s_law_in) (defScope s_law_in) .none kV11 dc11 pm11 an11 cd11 ct11), sl11⟩)
    (c11 : PySem.W.codeIn K cd11 "_law_in" = true)
    (k11 : PySem.W.keepIn K (.ref f11) = true)
    (e12 : PySem.W.nsIn K mainGlobals "_law_sign" = some (some (.ref f12)))
    (l12 : K.lookup f12 = some ⟨oc12, od12, .func (PySem.W.fnOf "_law_sign" "_law_sign" (defArgs s_law_sign) (defBody s_law_sign) (defScope s_law_sign) .none kV12 dc12 pm12 an12 cd12 ct12), sl12⟩)
    (c12 : PySem.W.codeIn K cd12 "_law_sign" = true)
    (k12 : PySem.W.keepIn K (.ref f12) = true)
    (e13 : PySem.W.nsIn K mainGlobals "law" = some (some (.ref f13)))
    (l13 : K.lookup f13 = some ⟨oc13, od13, .func (PySem.W.fnOf "law" "law" (defArgs s_law) (defBody s_law) (defScope s_law) .none kV13 dc13 pm13 an13 cd13 ct13), sl13⟩)
    (c13 : PySem.W.codeIn K cd13 "law" = true)
    (k13 : PySem.W.keepIn K (.ref f13) = true)
    (yi_NO_PANE : PySem.W.nsIn K mainGlobals "NO_PANE" = some (some (.str "." yk_NO_PANE)))
    (z0 : PySem.W.nsIn K mainGlobals "abs" = some none)
    (z1 : PySem.W.nsIn K mainGlobals "len" = some none)
    (z2 : PySem.W.nsIn K mainGlobals "range" = some none)
    (z3 : PySem.W.nsIn K mainGlobals "isinstance" = some none)
    (z4 : PySem.W.nsIn K mainGlobals "tuple" = some none)
    (z5 : PySem.W.nsIn K mainGlobals "dict" = some none)
    (z6 : PySem.W.nsIn K mainGlobals "list" = some none)
    (z7 : PySem.W.nsIn K mainGlobals "sorted" = some none)
    (z8 : PySem.W.nsIn K mainGlobals "enumerate" = some none)
    (z9 : PySem.W.nsIn K mainGlobals "str" = some none)
    : Tx K mg where
  a_part := f0
  d_part := _
  F_part := fun_mk (st := s_part) l0 c0 k0
  b_part := (fun_mk (st := s_part) l0 c0 k0).binds (ps := ["top", "bottom"]) fun _ _ _ _ _ _ us hl => match us, hl with | [_, _], _ => rfl
  m_part := PySem.W.mg_of X G e0
  a_greatest_divisor := f1
  d_greatest_divisor := _
  F_greatest_divisor := fun_mk (st := s_greatest_divisor) l1 c1 k1
  b_greatest_divisor := (fun_mk (st := s_greatest_divisor) l1 c1 k1).binds (ps := ["one", "other"]) fun _ _ _ _ _ _ us hl => match us, hl with | [_, _], _ => rfl
  m_greatest_divisor := PySem.W.mg_of X G e1
  a_plus := f2
  d_plus := _
  F_plus := fun_mk (st := s_plus) l2 c2 k2
  b_plus := (fun_mk (st := s_plus) l2 c2 k2).binds (ps := ["one", "other"]) fun _ _ _ _ _ _ us hl => match us, hl with | [_, _], _ => rfl
  m_plus := PySem.W.mg_of X G e2
  a_under := f3
  d_under := _
  F_under := fun_mk (st := s_under) l3 c3 k3
  b_under := (fun_mk (st := s_under) l3 c3 k3).binds (ps := ["one", "other"]) fun _ _ _ _ _ _ us hl => match us, hl with | [_, _], _ => rfl
  m_under := PySem.W.mg_of X G e3
  a_middles_within := f4
  d_middles_within := _
  F_middles_within := fun_mk (st := s_middles_within) l4 c4 k4
  b_middles_within := (fun_mk (st := s_middles_within) l4 c4 k4).binds (ps := ["start", "length", "many"]) fun _ _ _ _ _ _ us hl => match us, hl with | [_, _, _], _ => rfl
  m_middles_within := PySem.W.mg_of X G e4
  a_drawn := f5
  d_drawn := _
  F_drawn := fun_mk (st := s_drawn) l5 c5 k5
  b_drawn := (fun_mk (st := s_drawn) l5 c5 k5).binds (ps := ["places", "wide", "high"]) fun _ _ _ _ _ _ us hl => match us, hl with | [_, _, _], _ => rfl
  m_drawn := PySem.W.mg_of X G e5
  a_law_cell_at := f6
  d_law_cell_at := _
  F_law_cell_at := fun_mk (st := s_law_cell_at) l6 c6 k6
  b_law_cell_at := (fun_mk (st := s_law_cell_at) l6 c6 k6).binds (ps := ["_law_script", "_law_k"]) fun _ _ _ _ _ _ us hl => match us, hl with | [_, _], _ => rfl
  m_law_cell_at := PySem.W.mg_of X G e6
  a_law_stream := f7
  d_law_stream := _
  F_law_stream := fun_mk (st := s_law_stream) l7 c7 k7
  b_law_stream := (fun_mk (st := s_law_stream) l7 c7 k7).binds (ps := ["_law_cell", "_law_many"]) fun _ _ _ _ _ _ us hl => match us, hl with | [_, _], _ => rfl
  m_law_stream := PySem.W.mg_of X G e7
  a_law_lowest := f8
  d_law_lowest := _
  F_law_lowest := fun_mk (st := s_law_lowest) l8 c8 k8
  b_law_lowest := (fun_mk (st := s_law_lowest) l8 c8 k8).binds (ps := ["_law_top", "_law_bottom"]) fun _ _ _ _ _ _ us hl => match us, hl with | [_, _], _ => rfl
  m_law_lowest := PySem.W.mg_of X G e8
  a_law_number := f9
  d_law_number := _
  F_law_number := fun_mk (st := s_law_number) l9 c9 k9
  b_law_number := (fun_mk (st := s_law_number) l9 c9 k9).binds (ps := ["_law_number_here"]) fun _ _ _ _ _ _ us hl => match us, hl with | [_], _ => rfl
  m_law_number := PySem.W.mg_of X G e9
  a_law_places := f10
  d_law_places := _
  F_law_places := fun_mk (st := s_law_places) l10 c10 k10
  b_law_places := (fun_mk (st := s_law_places) l10 c10 k10).binds (ps := ["_law_names", "_law_cell"]) fun _ _ _ _ _ _ us hl => match us, hl with | [_, _], _ => rfl
  m_law_places := PySem.W.mg_of X G e10
  a_law_in := f11
  d_law_in := _
  F_law_in := fun_mk (st := s_law_in) l11 c11 k11
  b_law_in := (fun_mk (st := s_law_in) l11 c11 k11).binds (ps := ["_law_at", "_law_low", "_law_long"]) fun _ _ _ _ _ _ us hl => match us, hl with | [_, _, _], _ => rfl
  m_law_in := PySem.W.mg_of X G e11
  a_law_sign := f12
  d_law_sign := _
  F_law_sign := fun_mk (st := s_law_sign) l12 c12 k12
  b_law_sign := (fun_mk (st := s_law_sign) l12 c12 k12).binds (ps := ["_law_places_here", "_law_x", "_law_y"]) fun _ _ _ _ _ _ us hl => match us, hl with | [_, _, _], _ => rfl
  m_law_sign := PySem.W.mg_of X G e12
  a_law := f13
  d_law := _
  F_law := fun_mk (st := s_law) l13 c13 k13
  b_law := (fun_mk (st := s_law) l13 c13 k13).binds (ps := ["_law_script"]) fun _ _ _ _ _ _ us hl => match us, hl with | [_], _ => rfl
  m_law := PySem.W.mg_of X G e13
  k_NO_PANE := yk_NO_PANE
  m_NO_PANE := PySem.W.mg_of X G yi_NO_PANE
  z_abs := PySem.W.mg_none_of X G z0
  z_len := PySem.W.mg_none_of X G z1
  z_range := PySem.W.mg_none_of X G z2
  z_isinstance := PySem.W.mg_none_of X G z3
  z_tuple := PySem.W.mg_none_of X G z4
  z_dict := PySem.W.mg_none_of X G z5
  z_list := PySem.W.mg_none_of X G z6
  z_sorted := PySem.W.mg_none_of X G z7
  z_enumerate := PySem.W.mg_none_of X G z8
  z_str := PySem.W.mg_none_of X G z9
section
variable {P : Program} {w : World} {K : PySem.W.Frag} {mg : Str → Option Value} {base : Heap}
local macro_rules | `(tactic| walk_at "v0") => `(tactic| first
  | with_reducible refine a_asg ?_
  | with_reducible refine a_name ?_
  | with_reducible refine a_ret ?_
  | with_reducible refine a_drop ?_
  | with_reducible refine a_next ?_
  | with_reducible refine a_if ?_
  | ((with_reducible refine' a_var ?ve ?_); (case ve => rfl))
  | with_reducible refine a_c ?_
  | with_reducible refine a_op ?_
  | with_reducible refine a_un ?_
  | with_reducible refine a_I0 ?_
  | with_reducible refine a_U ?_
  | with_reducible refine a_test ?_
  | with_reducible refine a_tB ?_
  | with_reducible refine a_bl ?_
  | with_reducible refine a_eqI ?_
  | with_reducible refine a_neI ?_
  | with_reducible refine a_eqB ?_
  | with_reducible refine a_neB ?_
  | with_reducible refine a_call ?_
  | with_reducible refine a_cons ?_
  | with_reducible refine a_nil ?_
  | with_reducible refine a_cb ?_
  | with_reducible refine a_tup ?_
  | with_reducible refine a_lst ?_
  | with_reducible refine a_and ?_
  | with_reducible refine a_or ?_
  | with_reducible refine a_not ?_
  | with_reducible refine a_andV ?_
  | with_reducible refine a_orV ?_
  | with_reducible refine a_notV ?_
  | with_reducible refine a_ifE ?_
  | with_reducible refine a_sl ?_
  | with_reducible refine a_part ?_
  | with_reducible refine a_noPart ?_
  | with_reducible refine a_pint ?_
  | with_reducible refine a_par ?_
  | with_reducible refine a_par2 ?_
  | dsimp only)
local macro_rules | `(tactic| walk_at "v") => `(tactic| first | with_reducible refine a_seq ?_ | walk_at "v0")
local macro_rules | `(tactic| walk_at "vt") => `(tactic| repeat walk_at "v0")
local macro_rules | `(tactic| walk_at "vs") => `(tactic| repeat walk_at "v")
local macro_rules | `(tactic| walk_at "o") => `(tactic| first | assumption | omega | rfl | trivial | decide | (refine ⟨?_, ?_⟩ <;> walk_at "o"))
local macro_rules | `(tactic| walk_at "ol") => `(tactic| first | omega | (simp only [List.length_cons, List.length_nil, List.length_append]; omega))
local macro_rules | `(tactic| walk_at "om") => `(tactic| first | exact mulL2 (by omega) (by omega) | exact mulR2 (by omega) (by omega) | exact mulLB (by omega) | exact mulRB (by omega) | exact mulBB (by omega) (by omega))
local macro_rules | `(tactic| walk_at "od") => `(tactic| first | exact divB (by omega) (by omega))
/-! ### numbers -/
def sp_gd : Sp := fun vs H Q _ => ∃ a b : Int, vs = [.int a, .int b] ∧ 0 ≤ a ∧ 0 ≤ b ∧ Q (.int (gd a b)) H
theorem ok_greatest_divisor (T : Tx K mg) : FnOk P w K mg base CX0 1 T.a_greatest_divisor T.d_greatest_divisor ["one", "other"] sp_gd := by
  refine T.F_greatest_divisor.ok sc_greatest_divisor (fun vs H Q E h => ?_) (fun cdv A outer s H vs Q E hr h => ?_)
  · obtain ⟨a, b, rfl, _⟩ := h
    rfl
  · obtain ⟨a, b, rfl, ha, hb, k⟩ := h
    refine ⟨_, (ZSs.h (zss_cons (ps_while PassesOwn.never (pt_cmpR op_ne (pv 1) pe_int (nomark _)) (ZSs.h (zss_cons (ps_set (i := 2) sc_greatest_divisor.nd rfl (Or.inl rfl) (pe_op op_mod (pv 0) (pv 1)))
      (zss_cons (ps_set (i := 0) sc_greatest_divisor.nd rfl (Or.inl rfl) (pv 1))
      (zss_one (ps_set (i := 1) sc_greatest_divisor.nd rfl (Or.inl rfl) (pv 2)))))))
      (zss_one (ps_ret (pv 0))))), ?_⟩
    refine a_seq ?_
    refine ⟨fun m σ H' => ∃ (x y : Int) (z : Option V), σ = [some (.int x), some (.int y), z] ∧ H' = H ∧ 0 ≤ x ∧ 0 ≤ y ∧ gd x y = gd a b ∧ m = y.toNat, ⟨b.toNat, a, b, none, rfl, rfl, ha, hb, rfl, rfl⟩, ?_⟩
    rintro m σ H' ⟨x, y, z, rfl, rfl, hx, hy, e, rfl⟩
    walk_at "vs"
    refine iteDN (fun hne => ?_) (fun hz => ?_)
    · refine ⟨fun σ' H' => ∃ (x' y' : Int) (z : Option V), σ' = [some (.int x'), some (.int y'), z] ∧ H' = _ ∧ 0 ≤ x' ∧ 0 ≤ y' ∧ gd x' y' = gd a b ∧ y'.toNat < y.toNat, fun σ' H' ⟨x', y', z', e1, e2, e3, e4, e5, e6⟩ => ⟨y'.toNat, e6, x', y', z', e1, e2, e3, e4, e5, rfl⟩, ?_⟩
      walk_at "vs"
      refine a_I (by omega) ?_
      walk_at "vs"
      refine ⟨y, x % y, _, rfl, rfl, hy, Int.emod_nonneg _ hne, ?_, ?_⟩
      · rw [gd_mod hx (by omega)]; exact e
      · have := Int.emod_lt_of_pos x (show 0 < y by omega)
        have := Int.emod_nonneg x hne
        omega
    · walk_at "vs"
      rw [hz, gd_zero x hx] at e
      rw [e]
      exact k
def sp_part : Sp := fun vs H Q _ => ∃ t b : Int, vs = [.int t, .int b] ∧ b ≠ 0 ∧ b.natAbs < 2 ^ 8000 ∧ ∀ p, H p = none → Q (.ref p) (upd H p (.tup (fr (Rat.divInt t b))))
theorem gd_le {t b : Int} (h : b ≠ 0) : (gd t b).natAbs ≤ b.natAbs := by
  have h1 := gd_dvd_r t b
  have h2 := Int.natAbs_dvd_natAbs.mpr h1
  exact Nat.le_of_dvd (by omega) h2
theorem dv_le {t b : Int} (h : b ≠ 0) : (dv t b).natAbs ≤ b.natAbs := by
  have := gd_le (t := t) h
  unfold dv
  split
  · rw [Int.natAbs_neg]; exact this
  · exact this
theorem ok_part (T : Tx K mg) : FnOk P w K mg base CX0 2 T.a_part T.d_part ["top", "bottom"] sp_part := by
  refine T.F_part.ok sc_part (fun vs H Q E h => ?_) (fun cdv A outer s H vs Q E hr h => ?_)
  · obtain ⟨a, b, rfl, _⟩ := h
    rfl
  · obtain ⟨t, b, rfl, hb, hz, k⟩ := h
    refine ⟨_, (ZSs.h (zss_cons (ps_if (pt_cmpR op_eq (pv 1) pe_int (nomark _)) (pss_one ps_never) pss_nil)
      (zss_cons (ps_set (i := 2) sc_part.nd rfl (Or.inl rfl) (pe_call ((ok_greatest_divisor T).mono (by decide)) hr rfl T.m_greatest_divisor T.F_greatest_divisor.kp T.b_greatest_divisor .nil pass0 (pa_cons (pe_callB call_abs rfl T.z_abs rfl (pa_cons (pv 0) pa_nil)) (pa_cons (pe_callB call_abs rfl T.z_abs rfl (pa_cons (pv 1) pa_nil)) pa_nil))))
      (zss_cons (ps_if (pt_cmpR op_lt (pv 1) pe_int (nomark _)) (pss_one (ps_set (i := 2) sc_part.nd rfl (Or.inl rfl) (pe_un un_neg (pv 2)))) pss_nil)
      (zss_one (ps_ret (pe_tup (pa_cons (pe_op op_fdivB (pv 0) (pv 2)) (pa_cons (pe_op op_fdivB (pv 1) (pv 2)) pa_nil))))))))), ?_⟩
    walk_at "vs"
    refine iteDF hb ?_
    walk_at "vs"
    refine ⟨t, rfl, ?_⟩
    walk_at "vs"
    refine ⟨b, rfl, ?_⟩
    walk_at "vs"
    have e : gd (if t < 0 then -t else t) (if b < 0 then -b else b) = gd t b := gd_abs' t b
    refine ⟨_, _, rfl, (by split <;> omega), (by split <;> omega), ?_⟩
    rw [e]
    have hd := dv_ne (t := t) hb
    have hl : (dv t b).natAbs < 2 ^ 8000 := Nat.lt_of_le_of_lt (dv_le hb) hz
    have fin : ∀ p, H p = none → Q (.ref p) (upd H p (.tup [.int (t.fdiv (dv t b)), .int (b.fdiv (dv t b))])) := fun p hp => by
      rw [part_num hb, part_den hb]
      exact k p hp
    walk_at "vs"
    refine iteD (fun hn => ?_) (fun hn => ?_)
    · have ed : -(gd t b) = dv t b := by unfold dv; rw [if_pos hn]
      walk_at "vs"
      rw [ed]
      refine a_I ⟨hd, hl⟩ ?_
      walk_at "vs"
      refine a_I ⟨hd, hl⟩ ?_
      walk_at "vs"
      exact ⟨by show 2 ≤ sizeLine; decide, fin⟩
    · have ed : gd t b = dv t b := by unfold dv; rw [if_neg hn]
      walk_at "vs"
      rw [ed]
      refine a_I ⟨hd, hl⟩ ?_
      walk_at "vs"
      refine a_I ⟨hd, hl⟩ ?_
      walk_at "vs"
      exact ⟨by show 2 ≤ sizeLine; decide, fin⟩
def sp_two (f : Rat → Rat → Rat) (K : PySem.W.Frag) : Sp := fun vs H Q _ => ∃ (a b : Addr) (p q : Rat), vs = [.ref a, .ref b] ∧ SqT K H a (fr p) ∧ SqT K H b (fr q) ∧ Sm 3900 p ∧ Sm 3900 q ∧ ∀ c, H c = none → Q (.ref c) (upd H c (.tup (fr (f p q))))
theorem mulB {x y : Int} (h1 : x.natAbs < 2 ^ 3900) (h2 : y.natAbs < 2 ^ 3900) : CMulX x y := .inr ⟨3900, by decide, h1, h2⟩
theorem ok_plus (T : Tx K mg) : FnOk P w K mg base CX0 3 T.a_plus T.d_plus ["one", "other"] (sp_two (· + ·) K) := by
  refine T.F_plus.ok sc_plus (fun vs H Q E h => ?_) (fun cdv A outer s H vs Q E hr h => ?_)
  · obtain ⟨a, b, p, q, rfl, _⟩ := h
    rfl
  · obtain ⟨a, b, p, q, rfl, ta, tb, sp, sq, k⟩ := h
    refine ⟨_, (pss_one (ps_ret (pe_call ((ok_part T).mono (by decide)) hr rfl T.m_part T.F_part.kp T.b_part .nil pass0 (pa_cons (pe_op op_add (pe_op op_mulB (pe_ix ix_tup (pv 0) pe_int (fun _ _ => rfl)) (pe_ix ix_tup (pv 1) pe_int (fun _ _ => rfl))) (pe_op op_mulB (pe_ix ix_tup (pv 1) pe_int (fun _ _ => rfl)) (pe_ix ix_tup (pv 0) pe_int (fun _ _ => rfl)))) (pa_cons (pe_op op_mulB (pe_ix ix_tup (pv 0) pe_int (fun _ _ => rfl)) (pe_ix ix_tup (pv 1) pe_int (fun _ _ => rfl))) pa_nil))))), ?_⟩
    have d1 := den_abs sp
    have d2 := den_abs sq
    walk_at "vs"
    refine a_ixT ta (fr0 p) ?_
    walk_at "vs"
    refine a_ixT tb (fr1 q) ?_
    refine a_I (mulB sp.1 d2) ?_
    walk_at "vs"
    refine a_ixT tb (fr0 q) ?_
    walk_at "vs"
    refine a_ixT ta (fr1 p) ?_
    refine a_I (mulB sq.1 d1) ?_
    walk_at "vs"
    refine a_ixT ta (fr1 p) ?_
    walk_at "vs"
    refine a_ixT tb (fr1 q) ?_
    refine a_I (mulB d1 d2) ?_
    walk_at "vs"
    refine ⟨_, _, rfl, dens_ne p q, up2 (abs_mul_lt d1 d2) (by decide), fun c hc => ?_⟩
    have e := add_divInt p q
    rw [← e]
    exact k c hc
def sp_under (K : PySem.W.Frag) : Sp := fun vs H Q _ => ∃ (a b : Addr) (p q : Rat), vs = [.ref a, .ref b] ∧ SqT K H a (fr p) ∧ SqT K H b (fr q) ∧ Sm 3900 p ∧ Sm 3900 q ∧ Q (.bl (decide (p < q))) H
theorem lt_cross (p q : Rat) : decide (p.num * (q.den : Int) < q.num * (p.den : Int)) = decide (p < q) := by
  have h : p.num * (q.den : Int) < q.num * (p.den : Int) ↔ p < q := (Rat.lt_iff p q).symm
  by_cases c : p < q
  · rw [decide_eq_true c, decide_eq_true (h.mpr c)]
  · rw [decide_eq_false c, decide_eq_false (fun z => c (h.mp z))]
theorem ok_under (T : Tx K mg) : FnOk P w K mg base CX0 1 T.a_under T.d_under ["one", "other"] (sp_under K) := by
  refine T.F_under.ok sc_under (fun vs H Q E h => ?_) (fun cdv A outer s H vs Q E hr h => ?_)
  · obtain ⟨a, b, p, q, rfl, _⟩ := h
    rfl
  · obtain ⟨a, b, p, q, rfl, ta, tb, sp, sq, k⟩ := h
    refine ⟨_, (pss_one (ps_ret (pe_cmpR op_lt (pe_op op_mulB (pe_ix ix_tup (pv 0) pe_int (fun _ _ => rfl)) (pe_ix ix_tup (pv 1) pe_int (fun _ _ => rfl))) (pe_op op_mulB (pe_ix ix_tup (pv 1) pe_int (fun _ _ => rfl)) (pe_ix ix_tup (pv 0) pe_int (fun _ _ => rfl))) (nomark _)))), ?_⟩
    have d1 := den_abs sp
    have d2 := den_abs sq
    walk_at "vs"
    refine a_ixT ta (fr0 p) ?_
    walk_at "vs"
    refine a_ixT tb (fr1 q) ?_
    refine a_I (mulB sp.1 d2) ?_
    walk_at "vs"
    refine a_ixT tb (fr0 q) ?_
    walk_at "vs"
    refine a_ixT ta (fr1 p) ?_
    refine a_I (mulB sq.1 d1) ?_
    walk_at "vs"
    rw [lt_cross]
    exact k
theorem fr_half (n : Int) : fr (Rat.divInt (2 * n + 1) 2) = [.int (2 * n + 1), .int 2] := by
  have h2 : (2 : Int) ≠ 0 := by decide
  have hg : gd (2 * n + 1) 2 = 1 := by
    unfold gd
    have : Int.gcd (2 * n + 1) 2 = 1 := by
      rw [show (2 * n + 1 : Int) = 1 + 2 * n by omega, Int.gcd_add_mul_left_left]
      decide
    rw [this]; rfl
  have e : dv (2 * n + 1) 2 = 1 := by unfold dv; rw [if_neg (by decide), hg]
  unfold fr
  rw [← part_num h2, ← part_den h2, e]
  simp
def half (k : Nat) : Rat := Rat.divInt (2 * (k : Int) + 1) 2
def midUp (s l : Rat) (n : Nat) : List Int := ((List.range n).filter fun k => decide (¬ half k < s ∧ half k < s + l)).map fun k : Nat => (k : Int)
def midS (s l : Rat) (many : Int) : List Int := midUp s l many.toNat
theorem midUp_succ (s l : Rat) (n : Nat) : midUp s l (n + 1) = midUp s l n ++ (if ¬ half n < s ∧ half n < s + l then [(n : Int)] else []) := by
  unfold midUp
  rw [List.range_succ, List.filter_append, List.map_append]
  congr 1
  by_cases h : ¬ half n < s ∧ half n < s + l
  · rw [if_pos h, List.filter_cons, if_pos (by simpa using h)]; rfl
  · rw [if_neg h, List.filter_cons, if_neg (by simpa using h)]; rfl
theorem mid_put {s l : Rat} {n : Nat} (h1 : ¬ Rat.divInt (2 * (n : Int) + 1) 2 < s) (h2 : Rat.divInt (2 * (n : Int) + 1) 2 < s + l) : midUp s l n ++ [(n : Int)] = midUp s l (n + 1) := by rw [midUp_succ, if_pos ⟨h1, h2⟩]
theorem mid_skip1 {s l : Rat} {n : Nat} (h1 : Rat.divInt (2 * (n : Int) + 1) 2 < s) : midUp s l n = midUp s l (n + 1) := by rw [midUp_succ, if_neg (fun z => z.1 h1), List.append_nil]
theorem mid_skip2 {s l : Rat} {n : Nat} (h1 : ¬ Rat.divInt (2 * (n : Int) + 1) 2 < s + l) : midUp s l n = midUp s l (n + 1) := by rw [midUp_succ, if_neg (fun z => h1 z.2), List.append_nil]
theorem mid_in {s l : Rat} {many x : Int} (h : x ∈ midS s l many) (h0 : 0 ≤ many) : 0 ≤ x ∧ x < many := by
  unfold midS midUp at h
  obtain ⟨k, hk, rfl⟩ := List.mem_map.mp h
  have := List.mem_range.mp (List.mem_filter.mp hk).1
  omega
abbrev Pl := Rat × Rat × Rat × Rat
def fillR (g : Grid) (r : Int) (cols : List Int) (ch : Str) : Grid := cols.foldl (fun g c => gset g r.toNat c.toNat ch) g
def fillG (g : Grid) (rows cols : List Int) (ch : Str) : Grid := rows.foldl (fun g r => fillR g r cols ch) g
def stepG (pl : List (Str × Pl)) (wide high : Int) (g : Grid) (n : Str) : Grid := match gtd pl n with
  | none => g
  | some p => fillG g (midS p.2.1 p.2.2.2 high) (midS p.1 p.2.2.1 wide) (sgn n 0)
noncomputable def drawG (pl : List (Str × Pl)) (wide high : Int) : Grid := (srt (pl.map (·.1))).foldl (stepG pl wide high) (List.replicate high.toNat (List.replicate wide.toNat ("." : Str)))
noncomputable def drawS (pl : List (Str × Pl)) (wide high : Int) : List Str := (drawG pl wide high).map (Txt.join ("" : Str))
def Shape (g : Grid) (h w : Nat) : Prop := g.length = h ∧ ∀ row ∈ g, row.length = w ∧ ∀ x ∈ row, x.length = 1
theorem shape0 (h w : Nat) : Shape (List.replicate h (List.replicate w ("." : Str))) h w := by
  refine ⟨List.length_replicate, fun row hr => ?_⟩
  rw [List.eq_of_mem_replicate hr]
  exact ⟨List.length_replicate, fun x hx => by rw [List.eq_of_mem_replicate hx]; decide +kernel⟩
theorem shape_set {g : Grid} {h w i j : Nat} {x : Str} (s : Shape g h w) (hx : x.length = 1) : Shape (gset g i j x) h w := by
  unfold gset
  refine ⟨by rw [List.length_set]; exact s.1, fun row hr => ?_⟩
  rcases List.mem_or_eq_of_mem_set hr with z | z
  · exact s.2 row z
  · subst z
    by_cases hi : i < g.length
    · have hg : g.getD i [] = g[i] := by rw [List.getD_eq_getElem?_getD, List.getElem?_eq_getElem hi]; rfl
      rw [hg]
      obtain ⟨a, b⟩ := s.2 g[i] (List.getElem_mem hi)
      refine ⟨by rw [List.length_set]; exact a, fun y hy => ?_⟩
      rcases List.mem_or_eq_of_mem_set hy with q | q
      · exact b y q
      · rw [q]; exact hx
    · rw [List.set_eq_of_length_le (by omega)] at hr
      exact s.2 _ hr
theorem foldl_take {α β : Type} {xs : List α} {i : Nat} {x : α} (f : β → α → β) (a : β) (h : xs[i]? = some x) : (xs.take (i + 1)).foldl f a = f ((xs.take i).foldl f a) x := by
  rw [List.take_add_one, h, List.foldl_append]; rfl
theorem step_some {pl : List (Str × Pl)} {wide high : Int} {g : Grid} {n : Str} {p : Pl} (h : gtd pl n = some p) : stepG pl wide high g n = fillG g (midS p.2.1 p.2.2.2 high) (midS p.1 p.2.2.1 wide) (sgn n 0) := by unfold stepG; rw [h]
theorem srt_perm (ks : List Str) : (srt ks).Perm ks := by
  have hl := srt_len ks
  by_cases h : ∃ l : List Str, l.Perm ks ∧ PyProof.Rows.sortedS l = true
  · exact (Classical.epsilon_spec h).1
  · exfalso
    exact h (srt_ex ks)
theorem key_of_srt {α : Type} {m : List (Str × α)} {x : Str} (h : x ∈ srt (m.map (·.1))) : ∃ y, gtd m x = some y := by
  have := (srt_perm _).mem_iff.mp h
  obtain ⟨p, hp, e⟩ := List.mem_map.mp this
  have z : (gtd m x).isSome = true := by rw [← gtd_any, List.any_eq_true]; exact ⟨p, hp, by simpa using e⟩
  exact Option.isSome_iff_exists.mp z
theorem get_ref {rs : List Addr} {i : Nat} {y : V} (h : (rs.map V.ref)[i]? = some y) : ∃ r, rs[i]? = some r ∧ V.ref r = y := by
  rw [List.getElem?_map] at h
  cases e : rs[i]? with
  | none => rw [e] at h; cases h
  | some r => rw [e] at h; exact ⟨r, rfl, Option.some.inj h⟩
theorem sum_ones {row : List Str} (h : ∀ x ∈ row, x.length = 1) : (row.map (·.length)).sum = row.length := PyProof.Rows.sumLen_of_ones row h
theorem al_map {F : Hp} (g : Grid) : Al rS F (g.map fun row => V.str (Txt.join ("" : Str) row)) (g.map (Txt.join ("" : Str))) := by
  induction g with
  | nil => exact True.intro
  | cons a t ih => exact ⟨rfl, ih⟩
def chr (s : Str) : Nat := s.cps.toList.getD 0 0
theorem one_chr {s : Str} (h : s.length = 1) : s.cps.toList = [chr s] := by
  have hl : s.cps.toList.length = 1 := by rw [Array.length_toList]; exact h
  unfold chr
  match e : s.cps.toList, hl with
  | [c], _ => rfl
theorem mk_chr {s : Str} (h : s.length = 1) : (⟨#[chr s]⟩ : Str) = s := by
  have := one_chr h
  cases s with
  | mk a =>
    cases a with
    | mk l =>
      simp only at this
      exact congrArg (fun z => (⟨⟨z⟩⟩ : Str)) this.symm
theorem glue_fold : ∀ (ps : List Str) (a : Array Nat), (∀ x ∈ ps, x.length = 1) → (ps.foldl (fun acc p => acc ++ ("" : Str).cps ++ p.cps) a).toList = a.toList ++ ps.map chr
  | [], a, _ => by simp
  | x :: r, a, h => by
    rw [List.foldl_cons, glue_fold r _ (fun z hz => h z (List.mem_cons_of_mem _ hz)), Array.toList_append, Array.toList_append, one_chr (h x (by simp)), show (("" : Str).cps).toList = [] from rfl]
    simp
theorem join_cps : ∀ (row : List Str), (∀ x ∈ row, x.length = 1) → (Txt.join ("" : Str) row).cps.toList = row.map chr
  | [], _ => rfl
  | x :: r, h => by
    show (r.foldl (fun acc p => acc ++ ("" : Str).cps ++ p.cps) x.cps).toList = _
    rw [glue_fold r _ (fun z hz => h z (List.mem_cons_of_mem _ hz)), one_chr (h x (by simp))]
    rfl
theorem join_len {row : List Str} (h : ∀ x ∈ row, x.length = 1) : (Txt.join ("" : Str) row).length = row.length := by
  have := congrArg List.length (join_cps row h)
  rw [List.length_map, Array.length_toList] at this
  exact this
theorem join_at {row : List Str} {i c : Nat} (h : ∀ x ∈ row, x.length = 1) (e : (Txt.join ("" : Str) row).cps[i]? = some c) : row[i]? = some (⟨#[c]⟩ : Str) := by
  rw [← Array.getElem?_toList, join_cps row h, List.getElem?_map] at e
  cases q : row[i]? with
  | none => rw [q] at e; cases e
  | some s =>
    rw [q] at e
    have : chr s = c := Option.some.inj e
    rw [← this, mk_chr (h s (List.mem_of_getElem? q))]
/-! ### what stands in a cell -/
def cell (g : Grid) (y x : Nat) : Str := (g.getD y []).getD x ""
theorem cell_set {g : Grid} {h w i j y x : Nat} {c : Str} (s : Shape g h w) (hi : i < h) (hj : j < w) : cell (gset g i j c) y x = if y = i ∧ x = j then c else cell g y x := by
  unfold cell gset
  have hil : i < g.length := by rw [s.1]; exact hi
  by_cases hy : y = i
  · subst hy
    have hg : (g.set y ((g.getD y []).set j c)).getD y [] = (g.getD y []).set j c := by rw [List.getD_eq_getElem?_getD, List.getElem?_set_self hil]; rfl
    rw [hg]
    have hw : (g.getD y []).length = w := by
      have e : g.getD y [] = g[y] := by rw [List.getD_eq_getElem?_getD, List.getElem?_eq_getElem hil]; rfl
      rw [e]; exact (s.2 _ (List.getElem_mem hil)).1
    by_cases hx : x = j
    · subst hx
      rw [if_pos ⟨rfl, rfl⟩, List.getD_eq_getElem?_getD, List.getElem?_set_self (by omega)]; rfl
    · rw [if_neg (fun z => hx z.2), List.getD_eq_getElem?_getD, List.getElem?_set_ne (Ne.symm hx), ← List.getD_eq_getElem?_getD]
  · have e : (g.set i ((g.getD i []).set j c)).getD y [] = g.getD y [] := by rw [List.getD_eq_getElem?_getD, List.getElem?_set_ne (Ne.symm hy), ← List.getD_eq_getElem?_getD]
    rw [if_neg (fun z => hy z.1), e]
theorem fillR_cell {h w r y x : Nat} {ch : Str} (hch : ch.length = 1) (hr : r < h) : ∀ (cols : List Int) (g : Grid), Shape g h w → (∀ c ∈ cols, 0 ≤ c ∧ c < (w : Int)) →
    Shape (fillR g (r : Int) cols ch) h w ∧ cell (fillR g (r : Int) cols ch) y x = if y = r ∧ (x : Int) ∈ cols then ch else cell g y x
  | [], g, s, _ => ⟨s, by rw [if_neg (fun z => nomatch z.2)]; rfl⟩
  | c :: t, g, s, hc => by
    have hc0 := hc c (by simp)
    have s1 : Shape (gset g ((r : Int)).toNat c.toNat ch) h w := shape_set s hch
    obtain ⟨i1, i2⟩ := fillR_cell (y := y) (x := x) hch hr t (gset g ((r : Int)).toNat c.toNat ch) s1 (fun d hd => hc d (List.mem_cons_of_mem _ hd))
    refine ⟨i1, ?_⟩
    show cell (fillR (gset g ((r : Int)).toNat c.toNat ch) (r : Int) t ch) y x = _
    rw [i2, Int.toNat_natCast, cell_set s hr (show c.toNat < w by omega)]
    by_cases h1 : y = r ∧ (x : Int) ∈ t
    · rw [if_pos h1, if_pos ⟨h1.1, List.mem_cons_of_mem _ h1.2⟩]
    · rw [if_neg h1]
      by_cases h2 : y = r ∧ x = c.toNat
      · rw [if_pos h2, if_pos ⟨h2.1, by rw [show (x : Int) = c by omega]; simp⟩]
      · rw [if_neg h2, if_neg]
        rintro ⟨z1, z2⟩
        rcases List.mem_cons.mp z2 with z | z
        · exact h2 ⟨z1, by omega⟩
        · exact h1 ⟨z1, z⟩
theorem fillG_cell {h w y x : Nat} {ch : Str} {cols : List Int} (hch : ch.length = 1) (hc : ∀ c ∈ cols, 0 ≤ c ∧ c < (w : Int)) : ∀ (rows : List Int) (g : Grid), Shape g h w → (∀ r ∈ rows, 0 ≤ r ∧ r < (h : Int)) →
    Shape (fillG g rows cols ch) h w ∧ cell (fillG g rows cols ch) y x = if (y : Int) ∈ rows ∧ (x : Int) ∈ cols then ch else cell g y x
  | [], g, s, _ => ⟨s, by rw [if_neg (fun z => nomatch z.1)]; rfl⟩
  | r :: t, g, s, hr => by
    have hr0 := hr r (by simp)
    obtain ⟨m, rfl⟩ : ∃ m : Nat, r = (m : Int) := ⟨r.toNat, by omega⟩
    obtain ⟨f1, f2⟩ := fillR_cell (y := y) (x := x) hch (show m < h by omega) cols g s hc
    obtain ⟨i1, i2⟩ := fillG_cell (y := y) (x := x) hch hc t (fillR g (m : Int) cols ch) f1 (fun d hd => hr d (List.mem_cons_of_mem _ hd))
    refine ⟨i1, ?_⟩
    show cell (fillG (fillR g (m : Int) cols ch) t cols ch) y x = _
    rw [i2, f2]
    by_cases h1 : (y : Int) ∈ t ∧ (x : Int) ∈ cols
    · rw [if_pos h1, if_pos ⟨List.mem_cons_of_mem _ h1.1, h1.2⟩]
    · rw [if_neg h1]
      by_cases h2 : y = m ∧ (x : Int) ∈ cols
      · rw [if_pos h2, if_pos ⟨by rw [h2.1]; simp, h2.2⟩]
      · rw [if_neg h2, if_neg]
        rintro ⟨z1, z2⟩
        rcases List.mem_cons.mp z1 with z | z
        · exact h2 ⟨by omega, z2⟩
        · exact h1 ⟨z, z2⟩
/-- the middle of the square lies in the place -/
def inP (k : Nat) (s l : Rat) : Prop := ¬ half k < s ∧ half k < s + l
theorem mid_mem {s l : Rat} {n : Int} {k : Nat} (hk : (k : Int) < n) : (k : Int) ∈ midS s l n ↔ inP k s l := by
  unfold midS midUp inP
  rw [List.mem_map]
  constructor
  · rintro ⟨j, hj, e⟩
    have : j = k := by omega
    subst this
    simpa using (List.mem_filter.mp hj).2
  · intro h
    exact ⟨k, List.mem_filter.mpr ⟨List.mem_range.mpr (by omega), by simpa using h⟩, rfl⟩
def insd (pl : List (Str × Pl)) (x y : Nat) (n : Str) : Prop := ∃ p, gtd pl n = some p ∧ inP x p.1 p.2.2.1 ∧ inP y p.2.1 p.2.2.2
open Classical in
theorem draw_cell {pl : List (Str × Pl)} {wide high : Int} {x y : Nat} (hx : (x : Int) < wide) (hy : (y : Int) < high) : ∀ (ns : List Str) (g : Grid), Shape g high.toNat wide.toNat →
    Shape (ns.foldl (stepG pl wide high) g) high.toNat wide.toNat ∧ cell (ns.foldl (stepG pl wide high) g) y x = ns.foldl (fun c n => if insd pl x y n then sgn n 0 else c) (cell g y x)
  | [], g, s => ⟨s, rfl⟩
  | n :: t, g, s => by
    have key : Shape (stepG pl wide high g n) high.toNat wide.toNat ∧ cell (stepG pl wide high g n) y x = if insd pl x y n then sgn n 0 else cell g y x := by
      unfold stepG
      cases e : gtd pl n with
      | none =>
        refine ⟨s, ?_⟩
        rw [if_neg]
        rintro ⟨p, hp, _⟩
        rw [e] at hp; cases hp
      | some p =>
        have b1 : ∀ c ∈ midS p.1 p.2.2.1 wide, 0 ≤ c ∧ c < (wide.toNat : Int) := fun c hc => by have := mid_in hc (by omega); omega
        have b2 : ∀ c ∈ midS p.2.1 p.2.2.2 high, 0 ≤ c ∧ c < (high.toNat : Int) := fun c hc => by have := mid_in hc (by omega); omega
        obtain ⟨f1, f2⟩ := fillG_cell (y := y) (x := x) (ch := sgn n 0) rfl b1 (midS p.2.1 p.2.2.2 high) g s b2
        refine ⟨f1, ?_⟩
        show cell (fillG g (midS p.2.1 p.2.2.2 high) (midS p.1 p.2.2.1 wide) (sgn n 0)) y x = _
        rw [f2]
        by_cases q : inP y p.2.1 p.2.2.2 ∧ inP x p.1 p.2.2.1
        · rw [if_pos ⟨(mid_mem hy).mpr q.1, (mid_mem hx).mpr q.2⟩, if_pos ⟨p, e, q.2, q.1⟩]
        · rw [if_neg (fun z => q ⟨(mid_mem hy).mp z.1, (mid_mem hx).mp z.2⟩), if_neg]
          rintro ⟨p', hp', r1, r2⟩
          rw [e] at hp'; cases hp'
          exact q ⟨r2, r1⟩
    rw [List.foldl_cons, List.foldl_cons]
    obtain ⟨i1, i2⟩ := draw_cell hx hy t _ key.1
    exact ⟨i1, by rw [i2, key.2]⟩
/-! ### the last name by order, the greatest name -/
def sle (a b : Str) : Prop := ¬ b.cps.toList < a.cps.toList
/-- c is told by the greatest of the names that are in, or is c0 where there is none -/
def Top (I : Str → Prop) (ns : List Str) (c0 c : Str) : Prop := ((∀ n ∈ ns, ¬ I n) ∧ c = c0) ∨ ∃ m ∈ ns, I m ∧ (∀ n ∈ ns, I n → sle n m) ∧ c = sgn m 0
theorem sle_anti {a b : Str} (h1 : sle a b) (h2 : sle b a) : a = b := by
  have := str_lt_anti h2 h1
  cases a; cases b
  simpa using this
theorem Top.one {I : Str → Prop} {ns ms : List Str} {c0 c d : Str} (h1 : Top I ns c0 c) (h2 : Top I ms c0 d) (hm : ∀ n, n ∈ ns ↔ n ∈ ms) : c = d := by
  rcases h1 with ⟨a, b⟩ | ⟨m, m1, m2, m3, m4⟩
  · rcases h2 with ⟨_, e⟩ | ⟨m, m1, m2, _⟩
    · rw [b, e]
    · exact absurd m2 (a m ((hm m).mpr m1))
  · rcases h2 with ⟨e, _⟩ | ⟨k, k1, k2, k3, k4⟩
    · exact absurd m2 (e m ((hm m).mp m1))
    · rw [m4, k4, sle_anti (k3 m ((hm m).mp m1) m2) (m3 k ((hm k).mpr k1) k2)]
open Classical in
theorem top_sorted {I : Str → Prop} {c0 : Str} : ∀ (ns : List Str), ns.Pairwise sle → ∀ (c : Str) (ps : List Str), Top I ps c0 c → (∀ p ∈ ps, ∀ n ∈ ns, sle p n) → Top I (ps ++ ns) c0 (ns.foldl (fun c n => if I n then sgn n 0 else c) c)
  | [], _, c, ps, h, _ => by rw [List.append_nil]; exact h
  | n :: t, pw, c, ps, h, hp => by
    rw [List.foldl_cons]
    have pw' := List.pairwise_cons.mp pw
    have h1 : Top I (ps ++ [n]) c0 (if I n then sgn n 0 else c) := by
      by_cases q : I n
      · rw [if_pos q]
        refine .inr ⟨n, by simp, q, fun k hk _ => ?_, rfl⟩
        rcases List.mem_append.mp hk with z | z
        · exact hp k z n (by simp)
        · rw [List.mem_singleton.mp z]; exact List.lt_irrefl _
      · rw [if_neg q]
        rcases h with ⟨a, b⟩ | ⟨m, m1, m2, m3, m4⟩
        · refine .inl ⟨fun k hk => ?_, b⟩
          rcases List.mem_append.mp hk with z | z
          · exact a k z
          · rw [List.mem_singleton.mp z]; exact q
        · refine .inr ⟨m, List.mem_append_left _ m1, m2, fun k hk hI => ?_, m4⟩
          rcases List.mem_append.mp hk with z | z
          · exact m3 k z hI
          · rw [List.mem_singleton.mp z] at hI; exact absurd hI q
    have := top_sorted t pw'.2 _ (ps ++ [n]) h1 (fun p hpp k hk => by
      rcases List.mem_append.mp hpp with z | z
      · exact hp p z k (List.mem_cons_of_mem _ hk)
      · rw [List.mem_singleton.mp z]; exact pw'.1 k hk)
    rwa [List.append_assoc, List.singleton_append] at this
/-! ### the law's own -/
noncomputable def signStep (x y : Nat) (a : Str × Str) (e : Str × Pl) : Str × Str :=
  open Classical in if a.1.cps.toList < e.1.cps.toList ∧ inP x e.2.1 e.2.2.2.1 ∧ inP y e.2.2.1 e.2.2.2.2 then (e.1, sgn e.1 0) else a
noncomputable def signS (pl : List (Str × Pl)) (x y : Nat) : Str := (pl.foldl (signStep x y) ("", ".")).2
def TopL (I : Str → Prop) (ns : List Str) (a : Str × Str) : Prop := ((∀ n ∈ ns, ¬ I n) ∧ a = (("" : Str), ("." : Str))) ∨ (a.1 ∈ ns ∧ I a.1 ∧ (∀ n ∈ ns, I n → sle n a.1) ∧ a.2 = sgn a.1 0)
theorem top_law {pl : List (Str × Pl)} {x y : Nat} (hnd : (pl.map (·.1)).Nodup) (hne : ∀ e ∈ pl, 1 ≤ e.1.length) : ∀ (ps t : List (Str × Pl)) (a : Str × Str), pl = ps ++ t → TopL (insd pl x y) (ps.map (·.1)) a → TopL (insd pl x y) (pl.map (·.1)) (t.foldl (signStep x y) a)
  | ps, [], a, e, h => by rw [List.append_nil] at e; subst e; exact h
  | ps, q :: t, a, e, h => by
    rw [List.foldl_cons]
    have hq : q ∈ pl := by rw [e]; simp
    have hg : gtd pl q.1 = some q.2 := mem_nd hnd hq
    have hin : insd pl x y q.1 ↔ (inP x q.2.1 q.2.2.2.1 ∧ inP y q.2.2.1 q.2.2.2.2) := by
      unfold insd
      constructor
      · rintro ⟨p, hp, r⟩
        rw [hg] at hp; cases hp; exact r
      · intro r; exact ⟨q.2, hg, r⟩
    have hpos : ("" : Str).cps.toList < q.1.cps.toList := by
      have hl := hne q hq
      cases eq : q.1.cps.toList with
      | nil =>
        have : q.1.cps.toList.length = q.1.length := by rw [Array.length_toList]; rfl
        rw [eq] at this; simp at this; omega
      | cons c r => exact List.nil_lt_cons _ _
    refine top_law hnd hne (ps ++ [q]) t _ (by rw [e]; simp) ?_
    rw [List.map_append]
    unfold signStep
    by_cases c : a.1.cps.toList < q.1.cps.toList ∧ inP x q.2.1 q.2.2.2.1 ∧ inP y q.2.2.1 q.2.2.2.2
    · rw [if_pos c]
      refine .inr ⟨by simp, hin.mpr c.2, fun n hn hI => ?_, rfl⟩
      rcases List.mem_append.mp hn with z | z
      · rcases h with ⟨h1, _⟩ | ⟨_, _, h3, _⟩
        · exact absurd hI (h1 n z)
        · have := h3 n z hI
          unfold sle at this ⊢
          rw [List.not_lt] at this ⊢
          exact List.le_of_lt (List.lt_of_le_of_lt this c.1)
      · have : n = q.1 := by simpa using z
        rw [this]; exact List.lt_irrefl _
    · rw [if_neg c]
      rcases h with ⟨h1, h2⟩ | ⟨h1, h2, h3, h4⟩
      · refine .inl ⟨fun n hn => ?_, h2⟩
        rcases List.mem_append.mp hn with z | z
        · exact h1 n z
        · have e1 : n = q.1 := by simpa using z
          rw [e1]
          intro hI
          exact c ⟨by rw [h2]; exact hpos, hin.mp hI⟩
      · refine .inr ⟨List.mem_append_left _ h1, h2, fun n hn hI => ?_, h4⟩
        rcases List.mem_append.mp hn with z | z
        · exact h3 n z hI
        · have e1 : n = q.1 := by simpa using z
          rw [e1] at hI ⊢
          exact fun w => c ⟨w, hin.mp hI⟩
theorem TopL.top {I : Str → Prop} {ns : List Str} {a : Str × Str} (h : TopL I ns a) : Top I ns "." a.2 := by
  rcases h with ⟨h1, h2⟩ | ⟨h1, h2, h3, h4⟩
  · exact .inl ⟨h1, by rw [h2]⟩
  · exact .inr ⟨a.1, h1, h2, h3, h4⟩
/-- what is drawn in a cell is what the law asks for -/
theorem draw_sign {pl : List (Str × Pl)} {wide high : Int} {x y : Nat} (hnd : (pl.map (·.1)).Nodup) (hne : ∀ e ∈ pl, 1 ≤ e.1.length) (hx : (x : Int) < wide) (hy : (y : Int) < high) : cell (drawG pl wide high) y x = signS pl x y := by
  obtain ⟨_, h2⟩ := draw_cell (pl := pl) hx hy (srt (pl.map (·.1))) _ (shape0 high.toNat wide.toNat)
  unfold drawG
  rw [h2]
  have c0 : cell (List.replicate high.toNat (List.replicate wide.toNat ("." : Str))) y x = "." := by
    unfold cell
    have e1 : (List.replicate high.toNat (List.replicate wide.toNat ("." : Str))).getD y [] = List.replicate wide.toNat ("." : Str) := by
      rw [List.getD_eq_getElem?_getD, List.getElem?_replicate, if_pos (by omega)]; rfl
    rw [e1, List.getD_eq_getElem?_getD, List.getElem?_replicate, if_pos (by omega)]; rfl
  rw [c0]
  have sp : PyProof.Rows.sortedS (srt (pl.map fun e => e.1)) = true := by
    have z := Classical.epsilon_spec (srt_ex (pl.map fun e => e.1))
    exact z.2
  have t1 := top_sorted (I := insd pl x y) (c0 := ".") (srt (pl.map (·.1))) (sortedS_pw _ sp) "." [] (.inl ⟨fun _ h => (nomatch h), rfl⟩) (fun p hp => nomatch hp)
  have t2 := (top_law (x := x) (y := y) hnd hne [] pl ("", ".") rfl (.inl ⟨fun _ h => (nomatch h), rfl⟩)).top
  exact Top.one t1 t2 fun n => (srt_perm _).mem_iff
/-! ### the law's reckoning by 84 parts -/
theorem by84 {q : Rat} (h : (q.den : Int) ∣ 84) : ((Int.fdiv (84 * q.num) (q.den : Int) : Int) : Rat) = 84 * q := by
  obtain ⟨k, hk⟩ := h
  have hd : (q.den : Int) ≠ 0 := by have := den_pos q; omega
  have e : 84 * q.num = (q.den : Int) * (k * q.num) := by rw [← Int.mul_assoc, ← hk]
  rw [e, Int.mul_fdiv_cancel_left _ hd]
  have e2 : (84 : Rat) = (q.den : Rat) * (k : Rat) := by
    have := congrArg (fun z : Int => (z : Rat)) hk
    simp only [Rat.intCast_mul] at this
    exact_mod_cast this
  have e3 : (q.den : Rat) * q = (q.num : Rat) := by
    have h1 : q = (q.num : Rat) / ((q.den : Int) : Rat) := by
      conv => lhs; rw [← Rat.num_divInt_den q]
      rw [Rat.divInt_eq_div]
    have h2 : ((q.den : Int) : Rat) ≠ 0 := by
      intro z
      exact hd (by exact_mod_cast z)
    have h3 : (q.den : Rat) = ((q.den : Int) : Rat) := (Rat.intCast_natCast q.den).symm
    rw [h3]
    conv => lhs; rw [h1]
    grind
  rw [Rat.intCast_mul, e2, Rat.mul_comm (q.den : Rat) (k : Rat), Rat.mul_assoc, e3]
theorem in84 {k : Nat} {s l : Rat} (hs : (s.den : Int) ∣ 84) (hl : (l.den : Int) ∣ 84) :
    (Int.fdiv (84 * s.num) (s.den : Int) ≤ (2 * (k : Int) + 1) * 3 * 7 * 2 ∧ (2 * (k : Int) + 1) * 3 * 7 * 2 < Int.fdiv (84 * s.num) (s.den : Int) + Int.fdiv (84 * l.num) (l.den : Int)) ↔ inP k s l := by
  have hm : (((2 * (k : Int) + 1) * 3 * 7 * 2 : Int) : Rat) = 84 * half k := by
    unfold half
    have : (Rat.divInt (2 * (k : Int) + 1) 2) = ((2 * (k : Int) + 1 : Int) : Rat) / 2 := by rw [Rat.divInt_eq_div]; rfl
    rw [this]
    grind
  have h84 : (0 : Rat) < 84 := by decide +kernel
  unfold inP
  constructor
  · rintro ⟨h1, h2⟩
    have h1' : (84 : Rat) * s ≤ 84 * half k := by rw [← by84 hs, ← hm]; exact Rat.intCast_le_intCast.mpr h1
    have h2' : (84 : Rat) * half k < 84 * s + 84 * l := by rw [← by84 hs, ← by84 hl, ← hm, ← Rat.intCast_add]; exact Rat.intCast_lt_intCast.mpr h2
    constructor <;> grind
  · rintro ⟨h1, h2⟩
    constructor
    · have : (84 : Rat) * s ≤ 84 * half k := by grind
      rw [← by84 hs, ← hm] at this; exact Rat.intCast_le_intCast.mp this
    · have : (84 : Rat) * half k < 84 * s + 84 * l := by grind
      rw [← by84 hs, ← by84 hl, ← hm, ← Rat.intCast_add] at this; exact Rat.intCast_lt_intCast.mp this
theorem den84 {t b : Int} (h : b ≠ 0) (hb : b ∣ 84) : ((Rat.divInt t b).den : Int) ∣ 84 := by
  have e : ((Rat.divInt t b).den : Int) * dv t b = b := by rw [← part_den h, fd_ex (dv_dvd_r t b)]
  exact Int.dvd_trans ⟨dv t b, e.symm⟩ hb
def sp_middles_within (K : PySem.W.Frag) : Sp := fun vs H Q _ => ∃ (F : Hp) (v_start v_length v_many : V) (start : Rat) (length : Rat) (many : Int), vs = [v_start, v_length, v_many] ∧ Same F H ∧ (rFr K) F v_start start ∧ (rFr K) F v_length length ∧ rI F v_many many ∧ (bs start ≤ 60 ∧ bs length ≤ 60 ∧ 0 ≤ many ∧ many ≤ 100) ∧ ∀ (v : V) (F' H' : Hp), Gr F H F' H' → (rL K rI) F' v (midS start length many) → (∀ x ∈ (midS start length many), 0 ≤ x ∧ x < many) → Q v H'
set_option linter.unusedVariables false in
theorem ok_middles_within (T : Tx K mg) : FnOk P w K mg base CX0 4 T.a_middles_within T.d_middles_within ["start", "length", "many"] (sp_middles_within K) := by
  refine T.F_middles_within.ok sc_middles_within (fun vs H Q E h => ?_) (fun cdv A outer s H vs Q E hr h => ?_)
  · obtain ⟨F, v_start, v_length, v_many, start, length, many, rfl, _⟩ := h
    rfl
  · obtain ⟨F, v_start, v_length, v_many, start, length, many, rfl, wd, r_start, r_length, r_many, hpre, k⟩ := h
    have hu := hu_of hr
    have gb := Gr0.refl wd
    have cm := Fz.refl F
    obtain ⟨a1, rfl, sq2⟩ := r_start
    obtain ⟨a3, rfl, sq4⟩ := r_length
    obtain rfl : v_many = V.int many := r_many
    obtain ⟨w1, w2, w3, w4⟩ := hpre
    refine ⟨_, (ZSs.h (zss_cons (ps_set (i := 3) sc_middles_within.nd rfl (Or.inl rfl) (pe_call ((ok_plus T).mono (by decide)) hr rfl T.m_plus T.F_plus.kp T.b_plus .nil pass0 (pa_cons (pv 0) (pa_cons (pv 1) pa_nil))))
          (zss_cons (ps_set (i := 4) sc_middles_within.nd rfl (Or.inl rfl) (pe_lst pa_nil))
          (zss_cons (ps_for PassesOwn.never rfl (pi_range1 rfl T.z_range (pa_cons (pv 2) pa_nil)) (pg_name (i := 5) sc_middles_within.nd rfl (Or.inl rfl)) (ZSs.h (zss_cons (ps_set (i := 6) sc_middles_within.nd rfl (Or.inl rfl) (pe_tup (pa_cons (pe_op op_add (pe_op op_mulB pe_int (pv 5)) pe_int) (pa_cons pe_int pa_nil))))
          (zss_one (ps_if (PW.pt (pw_and (pt_not (pt_val (pe_call ((ok_under T).mono (by decide)) hr rfl T.m_under T.F_under.kp T.b_under .nil pass0 (pa_cons (pv 6) (pa_cons (pv 0) pa_nil))))) (pw_and1 (pt_val (pe_call ((ok_under T).mono (by decide)) hr rfl T.m_under T.F_under.kp T.b_under .nil pass0 (pa_cons (pv 6) (pa_cons (pv 3) pa_nil))))))) (pss_one (ps_expr (pe_bm PySem.F.plainAttrs_list PySem.F.slot_list_append PySem.F.type_list_append mt_append (pv 4) (pa_cons (pv 5) pa_nil)))) pss_nil)))))
          (zss_one (ps_ret (pv 4))))))), ?_⟩
    refine a_seq ?_
    refine a_asg ?_
    refine a_call ?_
    refine a_cons ?_
    refine a_var rfl ?_
    refine a_cons ?_
    refine a_var rfl ?_
    refine a_nil ?_
    refine ⟨_, _, start, length, rfl, (Same.tup gb.s sq2), (Same.tup gb.s sq4), sm_of (by walk_at "o"), sm_of (by walk_at "o"), fun p5 hp6 => ?_⟩
    obtain ⟨F7, g9, e10⟩ := al2 (o := (.tup (fr (start + length)))) gb.s (by intro _ _ z; cases z) hp6
    generalize upd H p5 (.tup (fr (start + length))) = H8 at g9 ⊢
    have gb11 := gb.tr g9
    have le12 := g9.le
    have cm13 := g9.fz cm
    have b14 := bs_add start length
    refine a_name ?_
    try dsimp only
    refine a_seq ?_
    refine a_asg ?_
    refine a_lst ?_
    refine a_nil ?_
    refine ⟨by show 0 ≤ sizeLine; decide, fun p15 hp16 => ?_⟩
    obtain ⟨gb18, sm19, hb20, oF21, oH22, ne23⟩ := alo2 (o := (.lst [])) gb11 hp16
    generalize upd H8 p15 (.lst []) = H17 at gb18 sm19 oH22 ⊢
    refine a_name ?_
    try dsimp only
    refine a_seq ?_
    refine a_for ?_
    refine a_rng1 ?_
    refine a_cons ?_
    refine a_var rfl ?_
    refine a_nil ?_
    refine ⟨_, rfl, by first | omega | walk_at "o", by first | omega | walk_at "o", for_range (lo := 0) (n := (Int.toNat many)) (fun i σ' H' => ∃ (F24 : Hp) (kv25 : List V) (found26 : List Int) (o27 : Option V) (o28 : Option V), σ' = [some (V.ref a1), some (V.ref a3), some (V.int many), some (V.ref p5), some (V.ref p15), o28, o27] ∧ Gr0 F H F24 H' ∧ Fz (frzd F) F24 ∧ Le F7 F24 ∧ H' p15 = some (.lst kv25) ∧ F24 p15 = none ∧ Al rI F24 kv25 found26 ∧ (found26 = midUp start length i ∧ found26.length ≤ i)) ?_ ?_ ?_⟩
    · exact ⟨F7, _, [], _, _, rfl, gb18, cm13, Le.refl _, oH22, oF21, True.intro, by exact ⟨rfl, Nat.le_refl _⟩⟩
    · rintro i29 σ' H30 hi31 ⟨F32, kv36, m37, o38, o39, rfl, gb33, cm34, le35, oH40, oF41, dk42, ⟨q1, q2⟩⟩
      rw [show (0 : Int) + (i29 : Int) = (i29 : Int) from Int.zero_add _]
      refine a_name ?_
      try dsimp only
      have hm : bs (Rat.divInt (2 * (i29 : Int) + 1) 2) ≤ 60 := bs_divInt (by decide) (bi_small 60 (by omega)) (by decide +kernel)
      refine a_seq ?_
      refine a_asg ?_
      refine a_tup ?_
      refine a_cons ?_
      refine a_op ?_
      refine a_op ?_
      refine a_c ?_
      refine a_var rfl ?_
      refine a_I (mulL2 (by decide) (by decide)) ?_
      refine a_c ?_
      refine a_I0 ?_
      refine a_cons ?_
      refine a_c ?_
      refine a_nil ?_
      refine ⟨by show 2 ≤ sizeLine; decide, fun p43 hp44 => ?_⟩
      obtain ⟨F45, g47, e48⟩ := al2 (o := (.tup [V.int ((2 * (i29 : Int)) + 1), V.int 2])) gb33.s (by intro _ _ z; cases z) hp44
      generalize upd H30 p43 (.tup [V.int ((2 * (i29 : Int)) + 1), V.int 2]) = H46 at g47 ⊢
      have gb49 := gb33.tr g47
      have le50 := g47.le
      have oH51 := g47.h _ _ oH40
      have oF52 := g47.own oF41 oH40
      have cm53 := g47.fz cm34
      have sq54 : SqT K F45 p43 (fr (Rat.divInt (2 * (i29 : Int) + 1) 2)) := by rw [show fr (Rat.divInt (2 * (i29 : Int) + 1) 2) = [V.int ((2 * (i29 : Int)) + 1), V.int 2] from by exact fr_half _]; exact SqT.of e48
      refine a_name ?_
      try dsimp only
      refine a_if ?_
      refine a_and ?_
      refine a_not ?_
      refine a_tB ?_
      refine a_call ?_
      refine a_cons ?_
      refine a_var rfl ?_
      refine a_cons ?_
      refine a_var rfl ?_
      refine a_nil ?_
      refine ⟨_, _, (Rat.divInt (2 * (i29 : Int) + 1) 2), start, rfl, (Same.tup gb49.s sq54), (Same.tup gb49.s (Le.tup ((le12.trans le35).trans le50) sq2)), sm_of (by walk_at "o"), sm_of (by walk_at "o"), ?_⟩
      refine a_bl ?_
      refine iteDN (fun c55 => ?_) (fun c55 => ?_)
      · refine a_tB ?_
        refine a_call ?_
        refine a_cons ?_
        refine a_var rfl ?_
        refine a_cons ?_
        refine a_var rfl ?_
        refine a_nil ?_
        refine ⟨_, _, (Rat.divInt (2 * (i29 : Int) + 1) 2), (start + length), rfl, (Same.tup gb49.s sq54), (Same.tup gb49.s (Le.tup (le35.trans le50) (SqT.of e10))), sm_of (by walk_at "o"), sm_of (by walk_at "o"), ?_⟩
        refine a_bl ?_
        refine iteD (fun c56 => ?_) (fun c56 => ?_)
        · refine a_drop ?_
          refine a_bm ?_
          refine a_var rfl ?_
          refine ⟨tyV_lst oH51, ?_⟩
          refine a_cons ?_
          refine a_var rfl ?_
          refine a_nil ?_
          refine a_app oH51 (Nat.lt_of_lt_of_le (show _ < 100000 by rw [Al.length (Al.mo le50 dk42)]; walk_at "ol") (by decide)) (chg (R := fun H' => _) gb49 hb20 oF52 (fun H57 gb58 oH59 ne60 => ?_))
          have al61 := Al.snoc (Al.mo le50 dk42) (show rI F45 (V.int (i29 : Int)) (i29 : Int) from rfl)
          try dsimp only
          exact ⟨F45, _, (m37 ++ [(i29 : Int)]), _, _, rfl, gb58, cm53, (le35.trans le50), oH59, oF52, al61, by first | exact ⟨by rw [q1]; exact mid_put (by assumption) (by assumption), by walk_at "ol"⟩ | exact ⟨by rw [q1]; exact mid_skip1 (by assumption), by omega⟩ | exact ⟨by rw [q1]; exact mid_skip2 (by assumption), by omega⟩⟩
        · refine a_next ?_
          try dsimp only
          exact ⟨F45, _, m37, _, _, rfl, gb49, cm53, (le35.trans le50), oH51, oF52, (Al.mo le50 dk42), by first | exact ⟨by rw [q1]; exact mid_put (by assumption) (by assumption), by walk_at "ol"⟩ | exact ⟨by rw [q1]; exact mid_skip1 (by assumption), by omega⟩ | exact ⟨by rw [q1]; exact mid_skip2 (by assumption), by omega⟩⟩
      · refine iteF ?_
        refine a_next ?_
        try dsimp only
        exact ⟨F45, _, m37, _, _, rfl, gb49, cm53, (le35.trans le50), oH51, oF52, (Al.mo le50 dk42), by first | exact ⟨by rw [q1]; exact mid_put (by assumption) (by assumption), by walk_at "ol"⟩ | exact ⟨by rw [q1]; exact mid_skip1 (by assumption), by omega⟩ | exact ⟨by rw [q1]; exact mid_skip2 (by assumption), by omega⟩⟩
    · rintro σ' H62 ⟨F63, kv67, m68, o69, o70, rfl, gb64, cm65, le66, oH71, oF72, dk73, ⟨q1, q2⟩⟩
      try dsimp only
      refine a_ret ?_
      refine a_var rfl ?_
      obtain ⟨F74, gb75, cm76, le77s, e78, ne79⟩ := frz gb64 cm65 hb20 oF72 oH71 (by intro _ _ z; cases z)
      have le77 := Le.of le77s
      have hval : (m68 : (List Int)) = (midS start length many) := by exact q1
      have rp80 : (rL K rI) F74 (V.ref p15) (m68) := ⟨_, _, rfl, (SqL.of e78), (Al.mo le77 dk73)⟩
      replace rp80 := Eq.mp (congrArg ((rL K rI) F74 (V.ref p15)) hval) rp80
      exact k _ _ _ (Gr.of gb75 cm76) rp80 (by exact fun x h => mid_in h w3)
def sp_drawn (K : PySem.W.Frag) : Sp := fun vs H Q _ => ∃ (F : Hp) (v_places v_wide v_high : V) (places : (List (Str × (Rat × Rat × Rat × Rat)))) (wide : Int) (high : Int), vs = [v_places, v_wide, v_high] ∧ Same F H ∧ (rD (r4 K (rFr K) (rFr K) (rFr K) (rFr K))) F v_places places ∧ rI F v_wide wide ∧ rI F v_high high ∧ (places.length ≤ 60 ∧ (∀ x p, gtd places x = some p → (1 ≤ x.length ∧ x.length ≤ 100) ∧ bs p.1 ≤ 60 ∧ bs p.2.1 ≤ 60 ∧ bs p.2.2.1 ≤ 60 ∧ bs p.2.2.2 ≤ 60) ∧ 0 ≤ wide ∧ wide ≤ 100 ∧ 0 ≤ high ∧ high ≤ 100) ∧ ∀ (v : V) (F' H' : Hp), Gr F H F' H' → ownL rS F' H H' v (drawS places wide high) → Q v H'
set_option linter.unusedVariables false in
theorem ok_drawn (T : Tx K mg) : FnOk P w K mg base CX0 5 T.a_drawn T.d_drawn ["places", "wide", "high"] (sp_drawn K) := by
  refine T.F_drawn.ok sc_drawn (fun vs H Q E h => ?_) (fun cdv A outer s H vs Q E hr h => ?_)
  · obtain ⟨F, v_places, v_wide, v_high, places, wide, high, rfl, _⟩ := h
    rfl
  · obtain ⟨F, v_places, v_wide, v_high, places, wide, high, rfl, wd, r_places, r_wide, r_high, hpre, k⟩ := h
    have hu := hu_of hr
    have gb := Gr0.refl wd
    have cm := Fz.refl F
    obtain ⟨a1, kvs2, rfl, rd3, dk4, nd5⟩ := r_places
    obtain rfl : v_wide = V.int wide := r_wide
    obtain rfl : v_high = V.int high := r_high
    obtain ⟨w1, w2, w3, w4, w5, w6⟩ := hpre
    refine ⟨_, (ZSs.h (zss_cons (ps_setC (i := 3) (N := ["row", "wide"]) (ix := [none, some 1]) sc_drawn.nd rfl (Or.inl rfl) rfl (pi_range1 rfl T.z_range (pa_cons (pv 2) pa_nil)) (fun _ _ _ _ _ => (pg_name (i := 0) (show List.Nodup (["row", "wide"] : List Str) from by decide) rfl (Or.inl rfl))) (fun _ _ _ _ _ => pts_nil) (fun _ _ _ _ _ => (pe_op op_rep (pe_lst (pa_cons (pe_glob (v := .str ".") rfl T.m_NO_PANE ⟨_, rfl⟩) pa_nil)) (pv 1))) ⟨rfl, rfl, rfl, True.intro⟩)
          (zss_cons (ps_for PassesOwn.never rfl (pi_list (pe_callB (call_sortedD rfl) rfl T.z_sorted rfl (pa_cons (pv 0) pa_nil))) (pg_name (i := 4) sc_drawn.nd rfl (Or.inl rfl)) (ZSs.h (zss_cons (ps_set (i := 5) sc_drawn.nd rfl (Or.inl rfl) (pe_dget hu (pv 0) (pv 4) (fun _ _ => rfl)))
          (zss_cons (ps_set (i := 6) sc_drawn.nd rfl (Or.inl rfl) (pe_call ((ok_middles_within T).mono (by decide)) hr rfl T.m_middles_within T.F_middles_within.kp T.b_middles_within .nil pass0 (pa_cons (pe_ix ix_tup (pv 5) pe_int (fun _ _ => rfl)) (pa_cons (pe_ix ix_tup (pv 5) pe_int (fun _ _ => rfl)) (pa_cons (pv 1) pa_nil)))))
          (zss_one (ps_for PassesOwn.never rfl (pi_list (pe_call ((ok_middles_within T).mono (by decide)) hr rfl T.m_middles_within T.F_middles_within.kp T.b_middles_within .nil pass0 (pa_cons (pe_ix ix_tup (pv 5) pe_int (fun _ _ => rfl)) (pa_cons (pe_ix ix_tup (pv 5) pe_int (fun _ _ => rfl)) (pa_cons (pv 2) pa_nil))))) (pg_name (i := 7) sc_drawn.nd rfl (Or.inl rfl)) (pss_one (ps_for PassesOwn.never rfl (pi_list (pv 6)) (pg_name (i := 8) sc_drawn.nd rfl (Or.inl rfl)) (pss_one (ps_asg (pe_ix ix_str (pv 4) pe_int (fun _ _ => rfl)) (pg_sub (pe_ix ix_list (pv 3) (pv 7) (fun _ _ => rfl)) (pv 8) set_list)))))))))))
          (zss_one (ps_ret (pe_comp (N := ["signs"]) (ix := [none]) rfl (pi_list (pv 3)) (fun _ _ _ _ _ => (pg_name (i := 0) (show List.Nodup (["signs"] : List Str) from by decide) rfl (Or.inl rfl))) (fun _ _ _ _ _ => pts_nil) (fun _ _ _ _ _ => (show PE _ _ (tBM K "str" (rJoin K) _ _) from pe_bm PySem.F.plainAttrs_str PySem.F.slot_str_join PySem.F.type_str_join mt_join pe_str (pa_cons (pv 0) pa_nil))) True.intro)))))), ?_⟩
    refine a_seq ?_
    refine a_asg ?_
    refine a_comp ?_
    refine a_rng1 ?_
    refine a_cons ?_
    refine a_var rfl ?_
    refine a_nil ?_
    refine ⟨_, rfl, by omega, by omega, comp_range (lo := 0) (n := high.toNat) (fun i acc H' => ∃ rs : List Addr, acc = rs.map V.ref ∧ rs.length = i ∧ SqA H' H F rs wide.toNat ∧ Gr0 F H F H') ⟨[], rfl, rfl, SqA.nil, gb⟩ ?_ ?_⟩
    · rintro i acc H' hi ⟨rs, rfl, hl, hq, g⟩
      refine a_name ?_
      refine ⟨Wk.non (Wk.som Wk.nil), ?_⟩
      try dsimp only
      refine a_yes ?_
      refine iteT ?_
      refine a_op ?_
      refine a_lst ?_
      refine a_cons ?_
      refine a_c ?_
      refine a_nil ?_
      refine ⟨by show 1 ≤ sizeLine; decide, fun p1 hp1 => ?_⟩
      refine a_var rfl ?_
      refine ⟨_, _, _, rfl, rfl, upd_same, by omega, by omega, Nat.le_trans (show _ ≤ 100000 by rw [List.length_singleton]; omega) (by decide), fun p2 hp2 => ?_⟩
      rw [rep_one]
      obtain ⟨hq2, g2⟩ := hq.snoc g hp1 hp2
      refine ⟨Nat.lt_of_lt_of_le (show _ < 100000 by rw [List.length_map]; omega) (by decide), ?_⟩
      exact ⟨rs ++ [p2], by rw [List.map_append]; rfl, by rw [List.length_append, hl]; rfl, hq2, g2⟩
    · rintro acc H1 ⟨rs, rfl, hl, hq, g⟩
      refine ⟨Nat.le_trans (show _ ≤ 100000 by rw [List.length_map]; omega) (by decide), fun p hp => ?_⟩
      obtain ⟨sq0, gb0⟩ := Sq.of hq g hp hl
      generalize upd H1 p (.lst (rs.map V.ref)) = H2 at sq0 gb0 ⊢
      refine a_name ?_
      try dsimp only
      refine a_seq ?_
      refine a_for ?_
      refine a_ilist ?_
      refine a_cb ?_
      refine a_cons ?_
      refine a_var rfl ?_
      refine a_nil ?_
      refine a_sortD (Same.rd gb0.s rd3) dk4 (by omega) (fun p6 hp7 => ?_)
      obtain ⟨F8, g10, e11⟩ := al2 (o := (.lst ((srt (places.map (·.1))).map V.str))) gb0.s (by intro _ _ z; cases z) hp7
      generalize upd H2 p6 (.lst ((srt (places.map (·.1))).map V.str)) = H9 at g10 ⊢
      have gb12 := gb0.tr g10
      have le13 := g10.le
      have cm14 := g10.fz cm
      have sq15 := sq0.gr g10
      refine ⟨_, rfl, ⟨_, (Same.seq gb12.s (SqL.of e11))⟩, for_list (xs := ((srt (places.map (·.1))).map V.str)) (K := K) (a := p6) (fun i σ' H' => ∃ (F16 : Hp) (gq17 : Grid) (o18 : Option V) (o19 : Option V) (o20 : Option V) (o21 : Option V) (o22 : Option V), σ' = [some (V.ref a1), some (V.int wide), some (V.int high), some (V.ref p), o22, o18, o19, o20, o21] ∧ Gr0 F H F16 H' ∧ Fz (frzd F) F16 ∧ Le F8 F16 ∧ Sq H' H F16 p rs gq17 ∧ (gq17 = ((srt (places.map (·.1))).take i).foldl (stepG places wide high) (List.replicate high.toNat (List.replicate wide.toNat ("." : Str))) ∧ Shape gq17 high.toNat wide.toNat)) ?_ ?_ ?_ ?_⟩
      · exact ⟨F8, (List.replicate high.toNat (List.replicate wide.toNat ("." : Str))), _, _, _, _, _, rfl, gb12, cm14, Le.refl _, sq15, by exact ⟨rfl, shape0 _ _⟩⟩
      · rintro i σ' H23 _ ⟨F24, gq28, o30, o31, o32, o33, o34, rfl, gb25, cm26, le27, sq29, ⟨q1, hsh⟩⟩
        exact (Same.seq gb25.s (Le.lst le27 (SqL.of e11)))
      · rintro i35 y38 σ' H36 hi37 ⟨F39, gq43, o45, o46, o47, o48, o49, rfl, gb40, cm41, le42, sq44, ⟨q1, hsh⟩⟩
        obtain ⟨x50, hx51, hr52⟩ := Al.get (Al.mo le42 (al_strs (F := F8) (xs := (srt (places.map (·.1)))))) hi37
        refine a_name ?_
        try dsimp only
        obtain rfl : y38 = V.str x50 := hr52
        obtain ⟨yq, hyq⟩ := key_of_srt (List.mem_of_getElem? hx51)
        obtain ⟨⟨n1, n2⟩, b1, b2, b3, b4⟩ := w2 _ _ hyq
        have hnx := hx51
        refine a_seq ?_
        refine a_asg ?_
        refine a_dget ?_
        refine a_var rfl ?_
        refine a_var rfl ?_
        obtain ⟨v53, h54, h55⟩ := Dk.some (Dk.mo (le13.trans le42) dk4) hyq
        refine a_dgetK (Same.rd gb40.s (Le.dic (le13.trans le42) rd3)) h54 ?_
        obtain ⟨a57, v59, v60, v61, v62, rfl, sq58, h63, h64, h65, h66⟩ := h55
        obtain ⟨a67, rfl, sq68⟩ := h63
        obtain ⟨a69, rfl, sq70⟩ := h64
        obtain ⟨a71, rfl, sq72⟩ := h65
        obtain ⟨a73, rfl, sq74⟩ := h66
        refine a_name ?_
        try dsimp only
        refine a_seq ?_
        refine a_asg ?_
        refine a_call ?_
        refine a_cons ?_
        refine a_op ?_
        refine a_var rfl ?_
        refine a_c ?_
        refine a_ixT (Same.tup gb40.s sq58) rfl ?_
        refine a_cons ?_
        refine a_op ?_
        refine a_var rfl ?_
        refine a_c ?_
        refine a_ixT (Same.tup gb40.s sq58) rfl ?_
        refine a_cons ?_
        refine a_var rfl ?_
        refine a_nil ?_
        refine ⟨F39, _, _, _, yq.1, yq.2.2.1, wide, rfl, gb40.s, ⟨_, rfl, sq68⟩, ⟨_, rfl, sq72⟩, rfl, (by walk_at "o"), ?_⟩
        rintro v75 F76 H77  g79 hr80 hp81
        have gb82 := gb40.tr g79
        have le83 := g79.le
        have cm84 := g79.fz cm41
        have sq85 := sq44.gr g79
        obtain ⟨a86, vs87, rfl, sq88, al89⟩ := hr80
        have hpC := hp81
        refine a_name ?_
        try dsimp only
        obtain ⟨gA, hgA⟩ : ∃ gA, gA = gq43 := ⟨_, rfl⟩
        refine a_for ?_
        refine a_ilist ?_
        refine a_call ?_
        refine a_cons ?_
        refine a_op ?_
        refine a_var rfl ?_
        refine a_c ?_
        refine a_ixT (Same.tup gb82.s (Le.tup le83 sq58)) rfl ?_
        refine a_cons ?_
        refine a_op ?_
        refine a_var rfl ?_
        refine a_c ?_
        refine a_ixT (Same.tup gb82.s (Le.tup le83 sq58)) rfl ?_
        refine a_cons ?_
        refine a_var rfl ?_
        refine a_nil ?_
        refine ⟨F76, _, _, _, yq.2.1, yq.2.2.2, high, rfl, gb82.s, ⟨_, rfl, (Le.tup le83 sq70)⟩, ⟨_, rfl, (Le.tup le83 sq74)⟩, rfl, (by walk_at "o"), ?_⟩
        rintro v90 F91 H92  g94 hr95 hp96
        have gb97 := gb82.tr g94
        have le98 := g94.le
        have cm99 := g94.fz cm84
        have sq100 := sq85.gr g94
        obtain ⟨a101, vs102, rfl, sq103, al104⟩ := hr95
        have hpR := hp96
        refine ⟨_, rfl, ⟨_, (Same.seq gb97.s sq103)⟩, for_list (xs := vs102) (K := K) (a := a101) (fun i σ' H' => ∃ (F105 : Hp) (gq106 : Grid) (o107 : Option V) (o108 : Option V), σ' = [some (V.ref a1), some (V.int wide), some (V.int high), some (V.ref p), some (V.str x50), some (V.ref a57), some (V.ref a86), o108, o107] ∧ Gr0 F H F105 H' ∧ Fz (frzd F) F105 ∧ Le F91 F105 ∧ Sq H' H F105 p rs gq106 ∧ (gq106 = ((midS yq.2.1 yq.2.2.2 high).take i).foldl (fun g r => fillR g r (midS yq.1 yq.2.2.1 wide) (sgn x50 0)) gA ∧ Shape gq106 high.toNat wide.toNat)) ?_ ?_ ?_ ?_⟩
        · exact ⟨F91, gq43, _, _, rfl, gb97, cm99, Le.refl _, sq100, by exact ⟨hgA.symm, hsh⟩⟩
        · rintro i σ' H109 _ ⟨F110, gq114, o116, o117, rfl, gb111, cm112, le113, sq115, ⟨q2, hsh⟩⟩
          exact (Same.seq gb111.s (Le.lst le113 sq103))
        · rintro i118 y121 σ' H119 hi120 ⟨F122, gq126, o128, o129, rfl, gb123, cm124, le125, sq127, ⟨q2, hsh⟩⟩
          obtain ⟨x130, hx131, hr132⟩ := Al.get (Al.mo le125 al104) hi120
          refine a_name ?_
          try dsimp only
          obtain rfl : y121 = V.int x130 := hr132
          have hnr := hx131
          obtain ⟨ur1, ur2⟩ := hpR _ (List.mem_of_getElem? hnr)
          obtain ⟨gB, hgB⟩ : ∃ gB, gB = gq126 := ⟨_, rfl⟩
          refine a_for ?_
          refine a_ilist ?_
          refine a_var rfl ?_
          refine ⟨_, rfl, ⟨_, (Same.seq gb123.s (Le.lst (le98.trans le125) sq88))⟩, for_list (xs := vs87) (K := K) (a := a86) (fun i σ' H' => ∃ (F133 : Hp) (gq134 : Grid) (o135 : Option V), σ' = [some (V.ref a1), some (V.int wide), some (V.int high), some (V.ref p), some (V.str x50), some (V.ref a57), some (V.ref a86), some (V.int x130), o135] ∧ Gr0 F H F133 H' ∧ Fz (frzd F) F133 ∧ Le F122 F133 ∧ Sq H' H F133 p rs gq134 ∧ (gq134 = ((midS yq.1 yq.2.2.1 wide).take i).foldl (fun g c => gset g x130.toNat c.toNat (sgn x50 0)) gB ∧ Shape gq134 high.toNat wide.toNat)) ?_ ?_ ?_ ?_⟩
          · exact ⟨F122, gq126, _, rfl, gb123, cm124, Le.refl _, sq127, by exact ⟨hgB.symm, hsh⟩⟩
          · rintro i σ' H136 _ ⟨F137, gq141, o143, rfl, gb138, cm139, le140, sq142, ⟨q3, hsh⟩⟩
            exact (Same.seq gb138.s (Le.lst ((le98.trans le125).trans le140) sq88))
          · rintro i144 y147 σ' H145 hi146 ⟨F148, gq152, o154, rfl, gb149, cm150, le151, sq153, ⟨q3, hsh⟩⟩
            obtain ⟨x155, hx156, hr157⟩ := Al.get (Al.mo ((le98.trans le125).trans le151) al89) hi146
            refine a_name ?_
            try dsimp only
            obtain rfl : y147 = V.int x155 := hr157
            have hnc := hx156
            obtain ⟨uc1, uc2⟩ := hpC _ (List.mem_of_getElem? hnc)
            have hs1 := hsh.1
            refine a_asg ?_
            refine a_op ?_
            refine a_var rfl ?_
            refine a_c ?_
            refine a_ixS (Nat.le_trans (show x50.length ≤ 100000 by omega) (by decide)) (by walk_at "o") (by walk_at "o") ?_
            have ln158 : (sgn x50 0).length = 1 := rfl
            refine a_gsub ?_
            refine a_op ?_
            refine a_var rfl ?_
            refine a_var rfl ?_
            obtain ⟨r9, w9, hr9, hg9, hH9, hb9, hF9⟩ := sq153.at (i := x130.toNat) (by omega)
            have hw9 := (hsh.2 _ (List.mem_of_getElem? hg9)).1
            refine a_ixL (SqL.of sq153.1) (at_ref (by omega) hr9) ?_
            refine a_var rfl ?_
            refine ⟨_, _, _, _, rfl, rfl, hH9, ixN_nat (by omega) (by rw [List.length_map]; omega), ?_⟩
            have sq159 := Sq.set (j := x155.toNat) (x := (sgn x50 0)) sq153 hr9 hg9
            have gb160 := gr_updN (o := .lst ((w9.map V.str).set x155.toNat (V.str (sgn x50 0)))) gb149 hb9 hF9
            generalize upd H145 r9 (.lst ((w9.map V.str).set x155.toNat (V.str (sgn x50 0)))) = H161 at sq159 gb160 ⊢
            try dsimp only
            exact ⟨F148, (gset gq152 x130.toNat x155.toNat (sgn x50 0)), _, rfl, gb160, cm150, le151, sq159, by exact ⟨by rw [foldl_take _ _ hnc, ← q3], shape_set hsh rfl⟩⟩
          · rintro σ' H162 ⟨F163, gq167, o169, rfl, gb164, cm165, le166, sq168, ⟨q3, hsh⟩⟩
            have hlen := Al.length (Al.mo ((le98.trans le125).trans le166) al89)
            try dsimp only
            exact ⟨F163, gq167, _, _, rfl, gb164, cm165, (le125.trans le166), sq168, by exact ⟨by rw [q3, List.take_of_length_le (by omega), foldl_take _ _ hnr, ← q2, ← hgB]; rfl, hsh⟩⟩
        · rintro σ' H170 ⟨F171, gq175, o177, o178, rfl, gb172, cm173, le174, sq176, ⟨q2, hsh⟩⟩
          have hlen := Al.length (Al.mo le174 al104)
          try dsimp only
          exact ⟨F171, gq175, _, _, _, _, _, rfl, gb172, cm173, (((le42.trans le83).trans le98).trans le174), sq176, by exact ⟨by rw [q2, List.take_of_length_le (by omega), foldl_take _ _ hnx, ← q1, step_some hyq, ← hgA]; rfl, hsh⟩⟩
      · rintro σ' H179 ⟨F180, gq184, o186, o187, o188, o189, o190, rfl, gb181, cm182, le183, sq185, ⟨q1, hsh⟩⟩
        have hlen := Al.length (Al.mo le183 (al_strs (F := F8) (xs := (srt (places.map (·.1))))))
        try dsimp only
        rw [hlen, List.take_of_length_le (Nat.le_refl _)] at q1
        have hs1 := hsh.1
        have hs2 := sq185.2.2.1
        refine a_ret ?_
        refine a_comp ?_
        refine a_ilist ?_
        refine a_var rfl ?_
        refine ⟨_, rfl, ⟨_, SqL.of sq185.1⟩, comp_list (K := K) (a := p) (xs := rs.map V.ref) (fun i acc H' => H179 = H' ∧ acc = ((gq184).take i).map (fun row => V.str (Txt.join ("" : Str) row))) ⟨rfl, rfl⟩ (fun i acc H' _ h => by rw [← h.1]; exact SqL.of sq185.1) ?_ ?_⟩
        · rintro i y acc H' hi ⟨rfl, rfl⟩
          obtain ⟨r8, hr8, rfl⟩ := get_ref hi
          have hlt := (List.getElem?_eq_some_iff.mp hr8).1
          obtain ⟨r7, w7, hr7, hg7, hH7, _, _⟩ := sq185.at (i := i) (by have := sq185.2.2.1; omega)
          obtain rfl := Option.some.inj (hr7.symm.trans hr8)
          have hw7 := hsh.2 _ (List.mem_of_getElem? hg7)
          refine a_name ?_
          refine ⟨Wk.non Wk.nil, ?_⟩
          try dsimp only
          refine a_yes ?_
          refine iteT ?_
          refine a_bm ?_
          refine a_c ?_
          refine ⟨rfl, ?_⟩
          refine a_cons ?_
          refine a_var rfl ?_
          refine a_nil ?_
          refine ⟨_, _, w7, rfl, rfl, SqL.of hH7, (by rw [sum_ones hw7.2]; simp only [show ("" : Str).length = 0 from by decide +kernel]; omega), ?_⟩
          refine ⟨Nat.lt_of_le_of_lt (show _ ≤ 1000 by rw [List.length_map, List.length_take]; omega) (by decide), rfl, ?_⟩
          rw [map_take_succ _ hg7]
        · rintro acc H' ⟨rfl, rfl⟩
          have al191 : Al rS F180 (((gq184).take (rs.map V.ref).length).map (fun row => V.str (Txt.join ("" : Str) row))) (((gq184).take (rs.map V.ref).length).map (Txt.join ("" : Str))) := al_map _
          refine ⟨Nat.le_trans (show _ ≤ 1000 by rw [List.length_map, List.length_take]; omega) (by decide), fun p192 hp193 => ?_⟩
          obtain ⟨gb195, sm196, hb197, oF198, oH199, ne200⟩ := alo2 (o := (.lst (((gq184).take (rs.map V.ref).length).map (fun row => V.str (Txt.join ("" : Str) row))))) gb181 hp193
          generalize upd H179 p192 (.lst (((gq184).take (rs.map V.ref).length).map (fun row => V.str (Txt.join ("" : Str) row)))) = H194 at gb195 sm196 oH199 ⊢
          have hval : ((((gq184).take (rs.map V.ref).length).map (Txt.join ("" : Str))) : (List Str)) = (drawS places wide high) := by (rw [List.take_of_length_le (by rw [List.length_map]; omega), q1]; rfl)
          have rp201 : ownL rS F180 H H194 (V.ref p192) ((((gq184).take (rs.map V.ref).length).map (Txt.join ("" : Str)))) := ⟨_, _, rfl, hb197, oH199, oF198, al191⟩
          rw [hval] at rp201
          exact k _ _ _ (Gr.of gb195 cm182) rp201
theorem bi_mono {x y : Int} (h : x.natAbs ≤ y.natAbs) : bi x ≤ bi y := bi_lt (Nat.lt_of_le_of_lt h (lt_bi (Nat.le_refl _)))
theorem gd_mod' {a b : Int} (hb : 0 < b) : gd b (a % b) = gd a b := by
  unfold gd
  have e : a % b = a - b * (a / b) := Int.emod_def a b
  rw [e, Int.gcd_sub_mul_left_right, Int.gcd_comm]
theorem ptd_len {α : Type} (m : List (Str × α)) (x : Str) (y : α) : (ptd m x y).length ≤ m.length + 1 := by
  unfold ptd
  split
  · rw [List.length_map]; omega
  · rw [List.length_append]; exact Nat.le_refl _
theorem dvd84 {b : Int} (h : b = 1 ∨ b = 2 ∨ b = 3 ∨ b = 7) : b ∣ 84 := by rcases h with rfl | rfl | rfl | rfl <;> decide
def GoodP (p : Pl) : Prop := (bs p.1 ≤ 60 ∧ bs p.2.1 ≤ 60 ∧ bs p.2.2.1 ≤ 60 ∧ bs p.2.2.2 ≤ 60) ∧ (p.1.den : Int) ∣ 84 ∧ (p.2.1.den : Int) ∣ 84 ∧ (p.2.2.1.den : Int) ∣ 84 ∧ (p.2.2.2.den : Int) ∣ 84
theorem good_four {ts : List Rat} {a b c d : Rat} (e : ts = [a, b, c, d]) (h : ∀ q ∈ ts, bs q ≤ 60 ∧ (q.den : Int) ∣ 84) : GoodP (a, b, c, d) := by
  subst e
  obtain ⟨a1, a2⟩ := h a (by simp)
  obtain ⟨b1, b2⟩ := h b (by simp)
  obtain ⟨c1, c2⟩ := h c (by simp)
  obtain ⟨d1, d2⟩ := h d (by simp)
  exact ⟨⟨a1, b1, c1, d1⟩, a2, b2, c2, d2⟩
theorem good_all : GoodP (((0 : Int) : Rat), ((0 : Int) : Rat), ((1000000 : Int) : Rat), ((1000000 : Int) : Rat)) := by
  unfold GoodP; decide +kernel
theorem ok_put {m : List (Str × Pl)} {k : Str} {q : Pl} (h : ∀ x p, gtd m x = some p → (1 ≤ x.length ∧ x.length ≤ 100) ∧ GoodP p) (hk : 1 ≤ k.length ∧ k.length ≤ 100) (hq : GoodP q) : ∀ x p, gtd (ptd m k q) x = some p → (1 ≤ x.length ∧ x.length ≤ 100) ∧ GoodP p := fun x p e => by
  rw [gtd_ptd] at e
  by_cases z : x = k
  · rw [if_pos z] at e; cases e; rw [z]; exact ⟨hk, hq⟩
  · rw [if_neg z] at e; exact h x p e
theorem names_good {x : List Str} (h : x ∈ ([["a", "b", "c", "d"], ["ab", "aa", "a", "abc"], ["z", "y", "za", "zb"], ["left", "of", "l", "o"]] : List (List Str)) ++ ([["bottom", "b", "x", "bo"]] : List (List Str))) : x.length = 4 ∧ ∀ s ∈ x, 1 ≤ s.length ∧ s.length ≤ 100 := by
  have : ∀ x ∈ ([["a", "b", "c", "d"], ["ab", "aa", "a", "abc"], ["z", "y", "za", "zb"], ["left", "of", "l", "o"]] : List (List Str)) ++ ([["bottom", "b", "x", "bo"]] : List (List Str)), x.length = 4 ∧ ∀ s ∈ x, 1 ≤ s.length ∧ s.length ≤ 100 := by decide +kernel
  exact this x h
instance (k : Nat) (s l : Rat) : Decidable (inP k s l) := by unfold inP; infer_instance
theorem in_t {a : Int} {s l : Rat} (h0 : 0 ≤ a) (hs : (s.den : Int) ∣ 84) (hl : (l.den : Int) ∣ 84) (c : Int.fdiv (84 * s.num) (s.den : Int) ≤ (2 * a + 1) * 3 * 7 * 2) :
    decide ((2 * a + 1) * 3 * 7 * 2 < Int.fdiv (84 * s.num) (s.den : Int) + Int.fdiv (84 * l.num) (l.den : Int)) = decide (inP a.toNat s l) := by
  obtain ⟨k, rfl⟩ := Int.eq_ofNat_of_zero_le h0
  have := in84 (k := k) hs hl
  rw [Int.toNat_natCast]
  by_cases q : inP k s l
  · rw [decide_eq_true q, decide_eq_true (this.mpr q).2]
  · rw [decide_eq_false q, decide_eq_false (fun z => q (this.mp ⟨c, z⟩))]
theorem in_f {a : Int} {s l : Rat} (h0 : 0 ≤ a) (hs : (s.den : Int) ∣ 84) (hl : (l.den : Int) ∣ 84) (c : ¬ Int.fdiv (84 * s.num) (s.den : Int) ≤ (2 * a + 1) * 3 * 7 * 2) : false = decide (inP a.toNat s l) := by
  obtain ⟨k, rfl⟩ := Int.eq_ofNat_of_zero_le h0
  have := in84 (k := k) hs hl
  rw [Int.toNat_natCast, decide_eq_false (fun z => c (this.mpr z).1)]
section
variable {m : List (Str × Pl)} {i x y : Nat} {n l s : Str} {p : Pl}
theorem sign_put (hm : m[i]? = some (n, p)) (q : (l, s) = (m.take i).foldl (signStep x y) ("", ".")) (c1 : l.cps.toList < n.cps.toList) (c2 : inP x p.1 p.2.2.1) (c3 : inP y p.2.1 p.2.2.2) : (n, sgn n 0) = (m.take (i + 1)).foldl (signStep x y) ("", ".") := by
  rw [foldl_take _ _ hm, ← q]; unfold signStep; rw [if_pos ⟨c1, c2, c3⟩]
theorem sign_skip (hm : m[i]? = some (n, p)) (q : (l, s) = (m.take i).foldl (signStep x y) ("", ".")) (c : ¬ (l.cps.toList < n.cps.toList ∧ inP x p.1 p.2.2.1 ∧ inP y p.2.1 p.2.2.2)) : (l, s) = (m.take (i + 1)).foldl (signStep x y) ("", ".") := by
  rw [foldl_take _ _ hm, ← q]; unfold signStep; rw [if_neg c]
end
theorem drawG_shape (pl : List (Str × Pl)) (wide high : Int) (hw : 0 < wide) (hh : 0 < high) : Shape (drawG pl wide high) high.toNat wide.toNat := (draw_cell (x := 0) (y := 0) (by omega) (by omega) _ _ (shape0 _ _)).1
theorem drawS_len {pl : List (Str × Pl)} {wide high : Int} (hw : 0 < wide := by omega) (hh : 0 < high := by omega) : (drawS pl wide high).length = high.toNat := by unfold drawS; rw [List.length_map]; exact (drawG_shape pl wide high hw hh).1
theorem drawS_get {pl : List (Str × Pl)} {wide high : Int} {y : Nat} {s : Str} (hnd : (pl.map (·.1)).Nodup) (hne : ∀ e ∈ pl, 1 ≤ e.1.length) (hw : 0 < wide) (hh : 0 < high) (h : (drawS pl wide high)[y]? = some s) : s.length = wide.toNat ∧ ∀ (x c : Nat), s.cps[x]? = some c → (⟨#[c]⟩ : Str) = signS pl ((x : Int)).toNat ((y : Int)).toNat := by
  have sh := drawG_shape pl wide high hw hh
  unfold drawS at h
  rw [List.getElem?_map] at h
  cases e : (drawG pl wide high)[y]? with
  | none => rw [e] at h; cases h
  | some row =>
    rw [e] at h
    obtain rfl : Txt.join ("" : Str) row = s := Option.some.inj h
    obtain ⟨r1, r2⟩ := sh.2 row (List.mem_of_getElem? e)
    have hyl : y < high.toNat := by rw [← sh.1]; exact (List.getElem?_eq_some_iff.mp e).1
    refine ⟨by rw [join_len r2]; exact r1, fun x c hc => ?_⟩
    have hr := join_at r2 hc
    have hxl : x < wide.toNat := by rw [← r1]; exact (List.getElem?_eq_some_iff.mp hr).1
    have := draw_sign (x := x) (y := y) (wide := wide) (high := high) hnd hne (by omega) (by omega)
    rw [Int.toNat_natCast, Int.toNat_natCast, ← this]
    unfold cell
    rw [getD_of e, getD_of hr]
def sp_law_cell_at (K : PySem.W.Frag) : Sp := fun vs H Q _ => ∃ (F : Hp) (v_script v_k' : V) (script : (List Int)) (k' : Int), vs = [v_script, v_k'] ∧ Same F H ∧ (∃ a, v_script = .ref a ∧ SqL K H a (script.map V.int)) ∧ rI F v_k' k' ∧ (0 ≤ k') ∧ ∀ (v : V) (F' H' : Hp) (r : Int), Gr F H F' H' → rI F' v r → Q v H'
set_option linter.unusedVariables false in
theorem ok_law_cell_at (T : Tx K mg) : FnOk P w K mg base CX0 1 T.a_law_cell_at T.d_law_cell_at ["_law_script", "_law_k"] (sp_law_cell_at K) := by
  refine T.F_law_cell_at.ok sc_law_cell_at (fun vs H Q E h => ?_) (fun cdv A outer s H vs Q E hr h => ?_)
  · obtain ⟨F, v_script, v_k', script, k', rfl, _⟩ := h
    rfl
  · obtain ⟨F, v_script, v_k', script, k', rfl, wd, r_script, r_k', hpre, k⟩ := h
    have hu := hu_of hr
    have gb := Gr0.refl wd
    have cm := Fz.refl F
    obtain ⟨a1, rfl, sq2⟩ := r_script
    obtain rfl : v_k' = V.int k' := r_k'
    refine ⟨_, (ZSs.h (zss_cons (ps_if (pt_cmpR op_lt (pv 1) (pe_callB call_len_seq rfl T.z_len rfl (pa_cons (pv 0) pa_nil)) (nomark _)) (pss_one (ps_ret (pe_ix ix_list (pv 0) (pv 1) (fun _ _ => rfl)))) pss_nil)
          (zss_one (ps_ret pe_int)))), ?_⟩
    refine a_seq ?_
    refine a_if ?_
    refine a_test ?_
    refine a_op ?_
    refine a_var rfl ?_
    refine a_cb ?_
    refine a_cons ?_
    refine a_var rfl ?_
    refine a_nil ?_
    refine ⟨_, _, rfl, .inl (Same.seq gb.h sq2), ?_⟩
    rw [Al.length (al_ints (F := F) (ns := script))]
    refine a_I0 ?_
    refine a_bl ?_
    refine iteD (fun c3 => ?_) (fun c3 => ?_)
    · refine a_ret ?_
      refine a_op ?_
      refine a_var rfl ?_
      refine a_var rfl ?_
      obtain ⟨x5, v4, h6, h7, h8⟩ := Al.ix (al_ints (F := F) (ns := script)) (i := k') (by walk_at "o") (by walk_at "ol")
      refine a_ixL (Same.seq gb.h sq2) h7 ?_
      obtain rfl : v4 = V.int x5 := h8
      exact k _ _ _ (x5) (Gr.of gb cm) (rfl)
    · refine a_next ?_
      try dsimp only
      refine a_ret ?_
      refine a_c ?_
      exact k _ _ _ (0) (Gr.of gb cm) (rfl)
def sp_law_stream (K : PySem.W.Frag) : Sp := fun vs H Q _ => ∃ (F : Hp) (v_cell v_many : V) (cell : Int) (many : Int), vs = [v_cell, v_many] ∧ Same F H ∧ rI F v_cell cell ∧ rI F v_many many ∧ (0 ≤ many ∧ many ≤ 100) ∧ ∀ (v : V) (F' H' : Hp) (r : (List Int)), Gr F H F' H' → (rL K rI) F' v r → (r.length = many.toNat ∧ ∀ x ∈ r, 0 ≤ x ∧ x < 2147483647) → Q v H'
set_option linter.unusedVariables false in
theorem ok_law_stream (T : Tx K mg) : FnOk P w K mg base CX0 1 T.a_law_stream T.d_law_stream ["_law_cell", "_law_many"] (sp_law_stream K) := by
  refine T.F_law_stream.ok sc_law_stream (fun vs H Q E h => ?_) (fun cdv A outer s H vs Q E hr h => ?_)
  · obtain ⟨F, v_cell, v_many, cell, many, rfl, _⟩ := h
    rfl
  · obtain ⟨F, v_cell, v_many, cell, many, rfl, wd, r_cell, r_many, hpre, k⟩ := h
    have hu := hu_of hr
    have gb := Gr0.refl wd
    have cm := Fz.refl F
    obtain rfl : v_cell = V.int cell := r_cell
    obtain rfl : v_many = V.int many := r_many
    refine ⟨_, (ZSs.h (zss_cons (ps_set (i := 2) sc_law_stream.nd rfl (Or.inl rfl) (pe_lst pa_nil))
          (zss_cons (ps_set (i := 3) sc_law_stream.nd rfl (Or.inl rfl) (pe_op op_mod (pe_op op_mulB (pe_op op_add (pv 0) pe_int) pe_int) pe_int))
          (zss_cons (ps_for PassesOwn.never rfl (pi_range1 rfl T.z_range (pa_cons (pv 1) pa_nil)) (pg_name (i := 4) sc_law_stream.nd rfl (Or.inl rfl)) (ZSs.h (zss_cons (ps_set (i := 3) sc_law_stream.nd rfl (Or.inl rfl) (pe_op op_mod (pe_op op_mulB (pv 3) (pe_op op_add (pe_op op_add (pe_op op_fdiv (pv 3) pe_int) pe_int) (pv 4))) pe_int))
          (zss_cons (ps_expr (pe_bm PySem.F.plainAttrs_list PySem.F.slot_list_append PySem.F.type_list_append mt_append (pv 2) (pa_cons (pv 3) pa_nil)))
          (zss_one (ps_set (i := 3) sc_law_stream.nd rfl (Or.inl rfl) (pe_op op_add (pv 3) pe_int)))))))
          (zss_one (ps_ret (pv 2))))))), ?_⟩
    refine a_seq ?_
    refine a_asg ?_
    refine a_lst ?_
    refine a_nil ?_
    refine ⟨by show 0 ≤ sizeLine; decide, fun p1 hp2 => ?_⟩
    obtain ⟨gb4, sm5, hb6, oF7, oH8, ne9⟩ := alo2 (o := (.lst [])) gb hp2
    generalize upd H p1 (.lst []) = H3 at gb4 sm5 oH8 ⊢
    refine a_name ?_
    try dsimp only
    refine a_seq ?_
    refine a_asg ?_
    refine a_op ?_
    refine a_op ?_
    refine a_op ?_
    refine a_var rfl ?_
    refine a_c ?_
    refine a_I0 ?_
    refine a_c ?_
    refine a_I (mulR2 (by decide) (by decide)) ?_
    refine a_c ?_
    refine a_I (by decide) ?_
    have m10 : 0 ≤ (((cell + 7919) * 48271) % 2147483647) ∧ (((cell + 7919) * 48271) % 2147483647) < 2147483647 := ⟨Int.emod_nonneg _ (by decide), Int.emod_lt_of_pos _ (by decide)⟩
    refine a_name ?_
    try dsimp only
    refine a_seq ?_
    refine a_for ?_
    refine a_rng1 ?_
    refine a_cons ?_
    refine a_var rfl ?_
    refine a_nil ?_
    refine ⟨_, rfl, by first | omega | walk_at "o", by first | omega | walk_at "o", for_range (lo := 0) (n := (Int.toNat many)) (fun i σ' H' => ∃ (F11 : Hp) (number_here12 : Int) (kv13 : List V) (found14 : List Int) (o15 : Option V), σ' = [some (V.int cell), some (V.int many), some (V.ref p1), some (V.int number_here12), o15] ∧ Gr0 F H F11 H' ∧ Fz (frzd F) F11 ∧ Le F F11 ∧ H' p1 = some (.lst kv13) ∧ F11 p1 = none ∧ Al rI F11 kv13 found14 ∧ ((0 ≤ number_here12 ∧ number_here12 ≤ 2147483647) ∧ found14.length = i ∧ ∀ x ∈ found14, 0 ≤ x ∧ x < 2147483647)) ?_ ?_ ?_⟩
    · exact ⟨F, (((cell + 7919) * 48271) % 2147483647), _, [], _, rfl, gb4, cm, Le.refl _, oH8, oF7, True.intro, by exact ⟨by omega, rfl, fun x h => nomatch h⟩⟩
    · rintro i16 σ' H17 hi18 ⟨F19, number_here23, kv24, m25, o26, rfl, gb20, cm21, le22, oH27, oF28, dk29, ⟨⟨n1, n2⟩, q1, q2⟩⟩
      rw [show (0 : Int) + (i16 : Int) = (i16 : Int) from Int.zero_add _]
      refine a_name ?_
      try dsimp only
      refine a_seq ?_
      refine a_asg ?_
      refine a_op ?_
      refine a_op ?_
      refine a_var rfl ?_
      refine a_op ?_
      refine a_op ?_
      refine a_op ?_
      refine a_var rfl ?_
      refine a_c ?_
      refine a_I ⟨by decide, by decide⟩ ?_
      refine a_c ?_
      refine a_I0 ?_
      refine a_var rfl ?_
      refine a_I0 ?_
      refine a_I (by walk_at "om") ?_
      refine a_c ?_
      refine a_I (by decide) ?_
      have m30 : 0 ≤ ((number_here23 * (((number_here23 / 1009) + 69621) + (i16 : Int))) % 2147483647) ∧ ((number_here23 * (((number_here23 / 1009) + 69621) + (i16 : Int))) % 2147483647) < 2147483647 := ⟨Int.emod_nonneg _ (by decide), Int.emod_lt_of_pos _ (by decide)⟩
      refine a_name ?_
      try dsimp only
      refine a_seq ?_
      refine a_drop ?_
      refine a_bm ?_
      refine a_var rfl ?_
      refine ⟨tyV_lst oH27, ?_⟩
      refine a_cons ?_
      refine a_var rfl ?_
      refine a_nil ?_
      refine a_app oH27 (Nat.lt_of_lt_of_le (show _ < 100000 by rw [Al.length dk29]; walk_at "ol") (by decide)) (chg (R := fun H' => _) gb20 hb6 oF28 (fun H31 gb32 oH33 ne34 => ?_))
      have al35 := Al.snoc dk29 (show rI F19 (V.int ((number_here23 * (((number_here23 / 1009) + 69621) + (i16 : Int))) % 2147483647)) ((number_here23 * (((number_here23 / 1009) + 69621) + (i16 : Int))) % 2147483647) from rfl)
      try dsimp only
      refine a_asg ?_
      refine a_op ?_
      refine a_var rfl ?_
      refine a_c ?_
      refine a_I0 ?_
      refine a_name ?_
      try dsimp only
      exact ⟨F19, (((number_here23 * (((number_here23 / 1009) + 69621) + (i16 : Int))) % 2147483647) + 1), _, (m25 ++ [((number_here23 * (((number_here23 / 1009) + 69621) + (i16 : Int))) % 2147483647)]), _, rfl, gb32, cm21, le22, oH33, oF28, al35, by exact ⟨by omega, by walk_at "ol", fun x h => (List.mem_append.mp h).elim (q2 x) fun z => by rw [List.mem_singleton.mp z]; omega⟩⟩
    · rintro σ' H36 ⟨F37, number_here41, kv42, m43, o44, rfl, gb38, cm39, le40, oH45, oF46, dk47, ⟨⟨n1, n2⟩, q1, q2⟩⟩
      try dsimp only
      refine a_ret ?_
      refine a_var rfl ?_
      obtain ⟨F48, gb49, cm50, le51s, e52, ne53⟩ := frz gb38 cm39 hb6 oF46 oH45 (by intro _ _ z; cases z)
      have le51 := Le.of le51s
      exact k _ _ _ (m43) (Gr.of gb49 cm50) (⟨_, _, rfl, (SqL.of e52), (Al.mo le51 dk47)⟩) (by exact ⟨q1, q2⟩)
def sp_law_lowest (K : PySem.W.Frag) : Sp := fun vs H Q _ => ∃ (F : Hp) (v_top v_bottom : V) (top : Int) (bottom : Int), vs = [v_top, v_bottom] ∧ Same F H ∧ rI F v_top top ∧ rI F v_bottom bottom ∧ (0 ≤ top ∧ 0 < bottom ∧ bottom ≤ 10) ∧ ∀ (v : V) (F' H' : Hp), Gr F H F' H' → (rFr K) F' v (Rat.divInt top bottom) → Q v H'
set_option linter.unusedVariables false in
theorem ok_law_lowest (T : Tx K mg) : FnOk P w K mg base CX0 1 T.a_law_lowest T.d_law_lowest ["_law_top", "_law_bottom"] (sp_law_lowest K) := by
  refine T.F_law_lowest.ok sc_law_lowest (fun vs H Q E h => ?_) (fun cdv A outer s H vs Q E hr h => ?_)
  · obtain ⟨F, v_top, v_bottom, top, bottom, rfl, _⟩ := h
    rfl
  · obtain ⟨F, v_top, v_bottom, top, bottom, rfl, wd, r_top, r_bottom, hpre, k⟩ := h
    have hu := hu_of hr
    have gb := Gr0.refl wd
    have cm := Fz.refl F
    obtain rfl : v_top = V.int top := r_top
    obtain rfl : v_bottom = V.int bottom := r_bottom
    obtain ⟨w1, w2, w3⟩ := hpre
    refine ⟨_, (ZSs.h (zss_cons (ps_set (i := 2) sc_law_lowest.nd rfl (Or.inl rfl) (pv 0))
          (zss_cons (ps_set (i := 3) sc_law_lowest.nd rfl (Or.inl rfl) (pv 1))
          (zss_cons (ps_while PassesOwn.never (pt_cmpR op_ne (pv 3) pe_int (nomark _)) (pss_one (ps_par (i := 2) (j := 3) rfl sc_law_lowest.nd rfl rfl (by decide) rfl rfl (pa_cons (pv 3) (pa_cons (pe_op op_mod (pv 2) (pv 3)) pa_nil)) rfl)))
          (zss_one (ps_ret (pe_tup (pa_cons (pe_op op_fdivB (pv 0) (pv 2)) (pa_cons (pe_op op_fdivB (pv 1) (pv 2)) pa_nil))))))))), ?_⟩
    refine a_seq ?_
    refine a_asg ?_
    refine a_var rfl ?_
    refine a_name ?_
    try dsimp only
    refine a_seq ?_
    refine a_asg ?_
    refine a_var rfl ?_
    refine a_name ?_
    try dsimp only
    refine a_seq ?_
    refine ⟨fun m σ' H' => ∃ (F1 : Hp) (one2 : Int) (other3 : Int), σ' = [some (V.int top), some (V.int bottom), some (V.int one2), some (V.int other3)] ∧ Gr0 F H F1 H' ∧ Fz (frzd F) F1 ∧ Le F F1 ∧ (0 ≤ one2 ∧ 0 ≤ other3 ∧ gd one2 other3 = gd top bottom) ∧ m = other3.toNat, ⟨bottom.toNat, ?_⟩, ?_⟩
    · exact ⟨F, top, bottom, rfl, gb, cm, Le.refl _, by exact ⟨w1, by omega, rfl⟩, rfl⟩
    · rintro m σ' H4 ⟨F5, one9, other10, rfl, gb6, cm7, le8, ⟨i0, i1, i2⟩, rfl⟩
      refine a_test ?_
      refine a_op ?_
      refine a_var rfl ?_
      refine a_c ?_
      refine a_neI ?_
      refine a_bl ?_
      refine iteDN (fun c11 => ?_) (fun c11 => ?_)
      · refine ⟨fun σ' H' => ∃ (F1 : Hp) (one2 : Int) (other3 : Int), σ' = [some (V.int top), some (V.int bottom), some (V.int one2), some (V.int other3)] ∧ Gr0 F H F1 H' ∧ Fz (frzd F) F1 ∧ Le F F1 ∧ (0 ≤ one2 ∧ 0 ≤ other3 ∧ gd one2 other3 = gd top bottom) ∧ other3.toNat < other10.toNat, fun σ' H' ⟨y0, y1, y2, y3, y4, y5, y6, y7, hlt⟩ => ⟨_, hlt, y0, y1, y2, y3, y4, y5, y6, y7, rfl⟩, ?_⟩
        refine a_par ?_
        refine a_cons ?_
        refine a_var rfl ?_
        refine a_cons ?_
        refine a_op ?_
        refine a_var rfl ?_
        refine a_var rfl ?_
        refine a_I (by walk_at "o") ?_
        have m12 : 0 ≤ (one9 % other10) ∧ (one9 % other10) < other10 := ⟨Int.emod_nonneg _ (by walk_at "o"), Int.emod_lt_of_pos _ (by walk_at "o")⟩
        refine a_nil ?_
        refine a_par2 ?_
        try dsimp only
        exact ⟨F5, other10, (one9 % other10), rfl, gb6, cm7, le8, by exact ⟨by omega, Int.emod_nonneg _ (by omega), by rw [gd_mod' (by omega)]; exact i2⟩, by (have := Int.emod_lt_of_pos one9 (show 0 < other10 by omega); omega)⟩
      · try dsimp only
        have e0 : other10 = 0 := by omega
        rw [e0, gd_zero _ i0] at i2
        have hb0 : bottom ≠ 0 := by omega
        have ed : gd top bottom = dv top bottom := by unfold dv; rw [if_neg (by omega)]
        have hd : one9 ≠ 0 := by rw [i2, ed]; exact dv_ne hb0
        have hl : bi one9 ≤ 8000 := by rw [i2, ed]; exact Nat.le_trans (bi_mono (dv_le hb0)) (Nat.le_trans (bi_small 20 (by omega)) (by decide))
        refine a_ret ?_
        refine a_tup ?_
        refine a_cons ?_
        refine a_op ?_
        refine a_var rfl ?_
        refine a_var rfl ?_
        refine a_I (by walk_at "od") ?_
        refine a_cons ?_
        refine a_op ?_
        refine a_var rfl ?_
        refine a_var rfl ?_
        refine a_I (by walk_at "od") ?_
        refine a_nil ?_
        refine ⟨by show 2 ≤ sizeLine; decide, fun p13 hp14 => ?_⟩
        obtain ⟨F15, g17, e18⟩ := al2 (o := (.tup [V.int (Int.fdiv top one9), V.int (Int.fdiv bottom one9)])) gb6.s (by intro _ _ z; cases z) hp14
        generalize upd H4 p13 (.tup [V.int (Int.fdiv top one9), V.int (Int.fdiv bottom one9)]) = H16 at g17 ⊢
        have gb19 := gb6.tr g17
        have le20 := g17.le
        have cm21 := g17.fz cm7
        have sq22 : SqT K F15 p13 (fr (Rat.divInt top bottom)) := by rw [show fr (Rat.divInt top bottom) = [V.int (Int.fdiv top one9), V.int (Int.fdiv bottom one9)] from by unfold fr; rw [← part_num hb0, ← part_den hb0, ← ed, ← i2]]; exact SqT.of e18
        have rp23 : (rFr K) F15 (V.ref p13) ((Rat.divInt top bottom)) := ⟨_, rfl, sq22⟩
        exact k _ _ _ (Gr.of gb19 cm21) rp23
def sp_law_number (K : PySem.W.Frag) : Sp := fun vs H Q _ => ∃ (F : Hp) (v_number_here : V) (number_here : Int), vs = [v_number_here] ∧ Same F H ∧ rI F v_number_here number_here ∧ (0 ≤ number_here) ∧ ∀ (v : V) (F' H' : Hp) (r : Rat), Gr F H F' H' → (rFr K) F' v r → (bs r ≤ 60 ∧ (r.den : Int) ∣ 84) → Q v H'
set_option linter.unusedVariables false in
theorem ok_law_number (T : Tx K mg) : FnOk P w K mg base CX0 2 T.a_law_number T.d_law_number ["_law_number_here"] (sp_law_number K) := by
  refine T.F_law_number.ok sc_law_number (fun vs H Q E h => ?_) (fun cdv A outer s H vs Q E hr h => ?_)
  · obtain ⟨F, v_number_here, number_here, rfl, _⟩ := h
    rfl
  · obtain ⟨F, v_number_here, number_here, rfl, wd, r_number_here, hpre, k⟩ := h
    have hu := hu_of hr
    have gb := Gr0.refl wd
    have cm := Fz.refl F
    obtain rfl : v_number_here = V.int number_here := r_number_here
    refine ⟨_, (ZSs.h (zss_cons (ps_set (i := 1) sc_law_number.nd rfl (Or.inl rfl) (pe_ix ix_list (pe_lst (pa_cons pe_int (pa_cons pe_int (pa_cons pe_int (pa_cons pe_int (pa_cons pe_int pa_nil)))))) (pe_op op_mod (pv 0) pe_int) (fun _ _ => rfl)))
          (zss_cons (ps_set (i := 2) sc_law_number.nd rfl (Or.inl rfl) (pe_op op_mod (pe_op op_fdiv (pv 0) pe_int) (pe_op op_mulB pe_int (pv 1))))
          (zss_cons (ps_if (pt_cmpR op_eq (pe_op op_mod (pe_op op_fdiv (pv 0) pe_int) pe_int) pe_int (nomark _)) (pss_one (ps_set (i := 2) sc_law_number.nd rfl (Or.inl rfl) (pe_op op_sub (pe_op op_mulB (pe_op op_pow pe_int pe_int) (pv 1)) pe_int))) pss_nil)
          (zss_cons (ps_if (pt_cmpR op_eq (pe_op op_mod (pe_op op_fdiv (pv 0) pe_int) pe_int) pe_int (nomark _)) (pss_one (ps_set (i := 2) sc_law_number.nd rfl (Or.inl rfl) pe_int)) pss_nil)
          (zss_one (ps_ret (pe_call ((ok_law_lowest T).mono (by decide)) hr rfl T.m_law_lowest T.F_law_lowest.kp T.b_law_lowest .nil pass0 (pa_cons (pv 2) (pa_cons (pv 1) pa_nil)))))))))), ?_⟩
    refine a_seq ?_
    refine a_asg ?_
    refine a_op ?_
    refine a_lst ?_
    refine a_cons ?_
    refine a_c ?_
    refine a_cons ?_
    refine a_c ?_
    refine a_cons ?_
    refine a_c ?_
    refine a_cons ?_
    refine a_c ?_
    refine a_cons ?_
    refine a_c ?_
    refine a_nil ?_
    refine ⟨by show 5 ≤ sizeLine; decide, fun p1 hp2 => ?_⟩
    obtain ⟨F3, g5, e6⟩ := al2 (o := (.lst [V.int 1, V.int 2, V.int 3, V.int 7, V.int 1])) gb.s (by intro _ _ z; cases z) hp2
    generalize upd H p1 (.lst [V.int 1, V.int 2, V.int 3, V.int 7, V.int 1]) = H4 at g5 ⊢
    have gb7 := gb.tr g5
    have le8 := g5.le
    have cm9 := g5.fz cm
    have al10 : Al rI F3 [.int 1, .int 2, .int 3, .int 7, .int 1] [1, 2, 3, 7, 1] := ⟨rfl, ⟨rfl, ⟨rfl, ⟨rfl, ⟨rfl, True.intro⟩⟩⟩⟩⟩
    refine a_op ?_
    refine a_var rfl ?_
    refine a_c ?_
    refine a_I (by decide) ?_
    have m11 : 0 ≤ (number_here % 5) ∧ (number_here % 5) < 5 := ⟨Int.emod_nonneg _ (by decide), Int.emod_lt_of_pos _ (by decide)⟩
    obtain ⟨x13, v12, h14, h15, h16⟩ := Al.ix al10 (i := (number_here % 5)) (by walk_at "o") (by walk_at "ol")
    refine a_ixL (Same.seq gb7.s (SqL.of e6)) h15 ?_
    have h14m := List.mem_of_getElem? h14
    simp only [List.mem_cons, List.not_mem_nil, or_false] at h14m
    obtain rfl : v12 = V.int x13 := h16
    refine a_name ?_
    try dsimp only
    have hB : x13 = 1 ∨ x13 = 2 ∨ x13 = 3 ∨ x13 = 7 := by omega
    refine a_seq ?_
    refine a_asg ?_
    refine a_op ?_
    refine a_op ?_
    refine a_var rfl ?_
    refine a_c ?_
    refine a_I ⟨by decide, by decide⟩ ?_
    refine a_op ?_
    refine a_c ?_
    refine a_var rfl ?_
    refine a_I (mulL2 (by decide) (by decide)) ?_
    refine a_I (by walk_at "o") ?_
    have m17 : 0 ≤ ((number_here / 5) % (30 * x13)) ∧ ((number_here / 5) % (30 * x13)) < (30 * x13) := ⟨Int.emod_nonneg _ (by walk_at "o"), Int.emod_lt_of_pos _ (by walk_at "o")⟩
    refine a_name ?_
    try dsimp only
    refine a_seqM (fun σ' H' => ∃ (F18 : Hp) (top19 : Int), σ' = [some (V.int number_here), some (V.int x13), some (V.int top19)] ∧ Gr0 F H F18 H' ∧ Fz (frzd F) F18 ∧ Le F3 F18 ∧ (0 ≤ top19 ∧ top19 ≤ 10000000)) (fun R hR => ?_) ?_
    · refine a_if ?_
      refine a_test ?_
      refine a_op ?_
      refine a_op ?_
      refine a_op ?_
      refine a_var rfl ?_
      refine a_c ?_
      refine a_I ⟨by decide, by decide⟩ ?_
      refine a_c ?_
      refine a_I (by decide) ?_
      have m20 : 0 ≤ ((number_here / 1024) % 16) ∧ ((number_here / 1024) % 16) < 16 := ⟨Int.emod_nonneg _ (by decide), Int.emod_lt_of_pos _ (by decide)⟩
      refine a_c ?_
      refine a_eqI ?_
      refine a_bl ?_
      refine iteD (fun c21 => ?_) (fun c21 => ?_)
      · refine a_asg ?_
        refine a_op ?_
        refine a_op ?_
        refine a_op ?_
        refine a_c ?_
        refine a_c ?_
        refine a_powC (z := 1000000) (by decide) ⟨by decide, by decide, by decide⟩ ?_
        refine a_var rfl ?_
        refine a_I (mulL2 (by decide) (by decide)) ?_
        refine a_c ?_
        refine a_I0 ?_
        refine a_name ?_
        try dsimp only
        exact hR _ _ ⟨F3, ((1000000 * x13) - 1), rfl, gb7, cm9, Le.refl _, by walk_at "o"⟩
      · refine a_next ?_
        try dsimp only
        exact hR _ _ ⟨F3, ((number_here / 5) % (30 * x13)), rfl, gb7, cm9, Le.refl _, by walk_at "o"⟩
    · rintro σ' H22 ⟨F23, top27, rfl, gb24, cm25, le26, ⟨j1, j2⟩⟩
      refine a_seqM (fun σ' H' => ∃ (F28 : Hp) (top29 : Int), σ' = [some (V.int number_here), some (V.int x13), some (V.int top29)] ∧ Gr0 F H F28 H' ∧ Fz (frzd F) F28 ∧ Le F23 F28 ∧ (0 ≤ top29 ∧ top29 ≤ 10000000)) (fun R hR => ?_) ?_
      · refine a_if ?_
        refine a_test ?_
        refine a_op ?_
        refine a_op ?_
        refine a_op ?_
        refine a_var rfl ?_
        refine a_c ?_
        refine a_I ⟨by decide, by decide⟩ ?_
        refine a_c ?_
        refine a_I (by decide) ?_
        have m30 : 0 ≤ ((number_here / 1024) % 16) ∧ ((number_here / 1024) % 16) < 16 := ⟨Int.emod_nonneg _ (by decide), Int.emod_lt_of_pos _ (by decide)⟩
        refine a_c ?_
        refine a_eqI ?_
        refine a_bl ?_
        refine iteD (fun c31 => ?_) (fun c31 => ?_)
        · refine a_asg ?_
          refine a_c ?_
          refine a_name ?_
          try dsimp only
          exact hR _ _ ⟨F23, 0, rfl, gb24, cm25, Le.refl _, by walk_at "o"⟩
        · refine a_next ?_
          try dsimp only
          exact hR _ _ ⟨F23, top27, rfl, gb24, cm25, Le.refl _, by walk_at "o"⟩
      · rintro σ' H32 ⟨F33, top37, rfl, gb34, cm35, le36, ⟨j1, j2⟩⟩
        refine a_ret ?_
        refine a_call ?_
        refine a_cons ?_
        refine a_var rfl ?_
        refine a_cons ?_
        refine a_var rfl ?_
        refine a_nil ?_
        refine ⟨F33, _, _, top37, x13, rfl, gb34.s, rfl, rfl, (by walk_at "o"), ?_⟩
        rintro v38 F39 H40  g42 hr43 
        have gb45 := gb34.tr g42
        have le46 := g42.le
        have cm47 := g42.fz cm35
        obtain ⟨a48, rfl, sq49⟩ := hr43
        exact k _ _ _ ((Rat.divInt top37 x13)) (Gr.of gb45 cm47) (⟨_, rfl, sq49⟩) (by exact ⟨bs_divInt (by omega) (bi_small 60 (by omega)) (bi_small 60 (by omega)), den84 (by omega) (dvd84 hB)⟩)
def sp_law_places (K : PySem.W.Frag) : Sp := fun vs H Q _ => ∃ (F : Hp) (v_names v_cell : V) (names : (List Str)) (cell : Int), vs = [v_names, v_cell] ∧ Same F H ∧ (rL K rS) F v_names names ∧ rI F v_cell cell ∧ (names.length = 4 ∧ ∀ x ∈ names, 1 ≤ x.length ∧ x.length ≤ 100) ∧ ∀ (v : V) (F' H' : Hp) (r : (List (Str × (Rat × Rat × Rat × Rat)))), Gr F H F' H' → (rD (r4 K (rFr K) (rFr K) (rFr K) (rFr K))) F' v r → (r.length ≤ 10 ∧ ∀ x p, gtd r x = some p → (1 ≤ x.length ∧ x.length ≤ 100) ∧ GoodP p) → Q v H'
set_option linter.unusedVariables false in
theorem ok_law_places (T : Tx K mg) : FnOk P w K mg base CX0 3 T.a_law_places T.d_law_places ["_law_names", "_law_cell"] (sp_law_places K) := by
  refine T.F_law_places.ok sc_law_places (fun vs H Q E h => ?_) (fun cdv A outer s H vs Q E hr h => ?_)
  · obtain ⟨F, v_names, v_cell, names, cell, rfl, _⟩ := h
    rfl
  · obtain ⟨F, v_names, v_cell, names, cell, rfl, wd, r_names, r_cell, hpre, k⟩ := h
    have hu := hu_of hr
    have gb := Gr0.refl wd
    have cm := Fz.refl F
    obtain ⟨a1, vs2, rfl, sq3, al4⟩ := r_names
    obtain rfl : v_cell = V.int cell := r_cell
    obtain ⟨w1, w2⟩ := hpre
    refine ⟨_, (ZSs.h (zss_cons (ps_set (i := 2) sc_law_places.nd rfl (Or.inr rfl) (pe_call ((ok_law_stream T).mono (by decide)) hr rfl T.m_law_stream T.F_law_stream.kp T.b_law_stream .nil pass0 (pa_cons (pv 1) (pa_cons pe_int pa_nil))))
          (zss_cons (ps_set (i := 3) sc_law_places.nd rfl (Or.inl rfl) pe_dnewK)
          (zss_cons (ps_set (i := 4) sc_law_places.nd rfl (Or.inl rfl) (pe_op op_mod (pe_ix ix_list (pv 2) pe_int (fun _ _ => rfl)) pe_int))
          (zss_cons (ps_for PassesOwn.never rfl (pi_range1 rfl T.z_range (pa_cons (pv 4) pa_nil)) (pg_name (i := 5) sc_law_places.nd rfl (Or.inr rfl)) (ZSs.h (zss_cons (ps_set (i := 6) sc_law_places.nd rfl (Or.inl rfl) (pe_ix ix_list (pv 0) (pe_op op_mod (pe_op op_add (pv 5) (pe_ix ix_list (pv 2) pe_int (fun _ _ => rfl))) pe_int) (fun _ _ => rfl)))
          (zss_cons (ps_dput hu (pv 3) (pv 6) (pe_callTy call_tuple_of rfl T.z_tuple rfl (pa_cons (pe_comp (N := ["_law_edge", "_law_xs", "_law_k"]) (ix := [none, some 2, some 5]) rfl (pi_range1 rfl T.z_range (pa_cons pe_int pa_nil)) (fun _ _ _ _ _ => (pg_name (i := 0) (show List.Nodup (["_law_edge", "_law_xs", "_law_k"] : List Str) from by decide) rfl (Or.inl rfl))) (fun _ _ _ _ _ => pts_nil) (fun _ _ _ _ _ => (pe_call ((ok_law_number T).mono (by decide)) hr rfl T.m_law_number T.F_law_number.kp T.b_law_number .nil pass0 (pa_cons (pe_ix (show IxR _ (rIxL K) from ix_list) (pv 1) (pe_op op_add (pe_op op_mulB pe_int (pv 2)) (pv 0)) (fun _ _ => rfl)) pa_nil))) ⟨rfl, rfl, rfl, ⟨rfl, rfl, rfl, True.intro⟩⟩) pa_nil)) rfl)
          (zss_one (ps_if (pt_cmpR op_eq (pe_op op_mod (pe_ix ix_list (pv 2) (pe_op op_add pe_int (pe_op op_mod (pv 5) pe_int)) (fun _ _ => rfl)) pe_int) pe_int (nomark _)) (pss_one (ps_dput hu (pv 3) (pv 6) (pe_tup (pa_cons (pe_tup (pa_cons pe_int (pa_cons pe_int pa_nil))) (pa_cons (pe_tup (pa_cons pe_int (pa_cons pe_int pa_nil))) (pa_cons (pe_tup (pa_cons (pe_op op_pow pe_int pe_int) (pa_cons pe_int pa_nil))) (pa_cons (pe_tup (pa_cons (pe_op op_pow pe_int pe_int) (pa_cons pe_int pa_nil))) pa_nil))))) rfl)) pss_nil))))))
          (zss_one (ps_ret (pv 3)))))))), ?_⟩
    refine a_seq ?_
    refine a_asg ?_
    refine a_call ?_
    refine a_cons ?_
    refine a_var rfl ?_
    refine a_cons ?_
    refine a_c ?_
    refine a_nil ?_
    refine ⟨F, _, _, cell, 20, rfl, gb.s, rfl, rfl, (by walk_at "o"), ?_⟩
    rintro v5 F6 H7 r8 g9 hr10 hp11
    have gb12 := gb.tr g9
    have le13 := g9.le
    have cm14 := g9.fz cm
    obtain ⟨a15, vs16, rfl, sq17, al18⟩ := hr10
    obtain ⟨hx1, hx2⟩ := hp11
    refine a_name ?_
    try dsimp only
    refine a_seq ?_
    refine a_asg ?_
    refine fun p19 hp20 => ?_
    obtain ⟨gb22, sm23, hb24, oF25, oH26, ne27⟩ := alo2 (o := (.dK [])) gb12 hp20
    generalize upd H7 p19 (.dK []) = H21 at gb22 sm23 oH26 ⊢
    refine a_name ?_
    try dsimp only
    refine a_seq ?_
    refine a_asg ?_
    refine a_op ?_
    refine a_op ?_
    refine a_var rfl ?_
    refine a_c ?_
    obtain ⟨x29, v28, h30, h31, h32⟩ := Al.ix al18 (i := 16) (by walk_at "o") (by walk_at "ol")
    refine a_ixL (Same.seq gb22.s sq17) h31 ?_
    obtain rfl : v28 = V.int x29 := h32
    refine a_c ?_
    refine a_I (by decide) ?_
    have m33 : 0 ≤ (x29 % 5) ∧ (x29 % 5) < 5 := ⟨Int.emod_nonneg _ (by decide), Int.emod_lt_of_pos _ (by decide)⟩
    refine a_name ?_
    try dsimp only
    refine a_seq ?_
    refine a_for ?_
    refine a_rng1 ?_
    refine a_cons ?_
    refine a_var rfl ?_
    refine a_nil ?_
    refine ⟨_, rfl, by first | omega | walk_at "o", by first | omega | walk_at "o", for_range (lo := 0) (n := (Int.toNat (x29 % 5))) (fun i σ' H' => ∃ (F34 : Hp) (kv35 : List (Key × V)) (found36 : List (Str × (Rat × Rat × Rat × Rat))) (o37 : Option V) (o38 : Option V), σ' = [some (V.ref a1), some (V.int cell), some (V.ref a15), some (V.ref p19), some (V.int (x29 % 5)), o38, o37] ∧ Gr0 F H F34 H' ∧ Fz (frzd F) F34 ∧ Le F6 F34 ∧ H' p19 = some (.dK kv35) ∧ F34 p19 = none ∧ Dk (r4 K (rFr K) (rFr K) (rFr K) (rFr K)) F34 kv35 found36 ∧ (found36.map (·.1)).Nodup ∧ (found36.length ≤ 2 * i ∧ ∀ x p, gtd found36 x = some p → (1 ≤ x.length ∧ x.length ≤ 100) ∧ GoodP p)) ?_ ?_ ?_⟩
    · exact ⟨F6, _, [], _, _, rfl, gb22, cm14, Le.refl _, oH26, oF25, True.intro, List.nodup_nil, by exact ⟨Nat.le_refl _, fun x p h => nomatch h⟩⟩
    · rintro i39 σ' H40 hi41 ⟨F42, kv46, m47, o48, o49, rfl, gb43, cm44, le45, oH50, oF51, dk52, nd53, ⟨q1, q2⟩⟩
      rw [show (0 : Int) + (i39 : Int) = (i39 : Int) from Int.zero_add _]
      refine a_name ?_
      try dsimp only
      have ui : i39 ≤ 3 := by omega
      refine a_seq ?_
      refine a_asg ?_
      refine a_op ?_
      refine a_var rfl ?_
      refine a_op ?_
      refine a_op ?_
      refine a_var rfl ?_
      refine a_op ?_
      refine a_var rfl ?_
      refine a_c ?_
      obtain ⟨x55, v54, h56, h57, h58⟩ := Al.ix (Al.mo le45 al18) (i := 17) (by walk_at "o") (by walk_at "ol")
      refine a_ixL (Same.seq gb43.s (Le.lst le45 sq17)) h57 ?_
      obtain rfl : v54 = V.int x55 := h58
      refine a_I0 ?_
      refine a_c ?_
      refine a_I (by decide) ?_
      have m59 : 0 ≤ (((i39 : Int) + x55) % 4) ∧ (((i39 : Int) + x55) % 4) < 4 := ⟨Int.emod_nonneg _ (by decide), Int.emod_lt_of_pos _ (by decide)⟩
      obtain ⟨x61, v60, h62, h63, h64⟩ := Al.ix (Al.mo (le13.trans le45) al4) (i := (((i39 : Int) + x55) % 4)) (by walk_at "o") (by walk_at "ol")
      refine a_ixL (Same.seq gb43.s (Le.lst (le13.trans le45) sq3)) h63 ?_
      obtain rfl : v60 = V.str x61 := h64
      refine a_name ?_
      try dsimp only
      have un := w2 _ (List.mem_of_getElem? (by assumption : names[_]? = some x61))
      refine a_seq ?_
      refine a_dput ?_
      refine a_cb ?_
      refine a_cons ?_
      refine a_comp ?_
      refine a_rng1 ?_
      refine a_cons ?_
      refine a_c ?_
      refine a_nil ?_
      have hml69 : (Int.toNat 4) ≤ 1000000 := by omega
      refine ⟨_, rfl, by first | omega | walk_at "o", by first | omega | walk_at "o", comp_range (lo := 0) (n := (Int.toNat 4)) (fun i acc H' => ∃ (F65 : Hp) (kv66 : List (Key × V)) (found67 : List (Str × (Rat × Rat × Rat × Rat))) (ts68 : List Rat), True ∧ Gr0 F H F65 H' ∧ Fz (frzd F) F65 ∧ Le F42 F65 ∧ H' p19 = some (.dK kv66) ∧ F65 p19 = none ∧ Dk (r4 K (rFr K) (rFr K) (rFr K) (rFr K)) F65 kv66 found67 ∧ (found67.map (·.1)).Nodup ∧ m47 = found67 ∧ Al (rFr K) F65 acc ts68 ∧ ts68.length ≤ i ∧ (ts68.length = i ∧ ∀ q ∈ ts68, bs q ≤ 60 ∧ (q.den : Int) ∣ 84)) ?_ ?_ ?_⟩
      · exact ⟨F42, _, m47, [], True.intro, gb43, cm44, Le.refl _, oH50, oF51, dk52, nd53, rfl, (show Al (rFr K) F42 [] [] from True.intro), (by first | (simp; done) | (rw [List.length_append]; simp only [List.length_cons, List.length_nil]; omega) | omega), by exact ⟨rfl, fun q h => nomatch h⟩⟩
      · rintro i70 acc73 H71 hi72 ⟨F74, kv78, m79, ts80, _, gb75, cm76, le77, oH83, oF84, dk85, nd86, rfl, al81, tl82, ⟨c1, c2⟩⟩
        rw [show (0 : Int) + (i70 : Int) = (i70 : Int) from Int.zero_add _]
        refine a_name ?_
        refine ⟨Wk.non (Wk.som (Wk.som (Wk.nil))), ?_⟩
        try dsimp only
        refine a_yes ?_
        refine iteT ?_
        refine a_call ?_
        refine a_cons ?_
        refine a_op ?_
        refine a_var rfl ?_
        refine a_op ?_
        refine a_op ?_
        refine a_c ?_
        refine a_var rfl ?_
        refine a_I (mulL2 (by decide) (by decide)) ?_
        refine a_var rfl ?_
        refine a_I0 ?_
        obtain ⟨x88, v87, h89, h90, h91⟩ := Al.ix (Al.mo (le45.trans le77) al18) (i := ((4 * (i39 : Int)) + (i70 : Int))) (by walk_at "o") (by walk_at "ol")
        refine a_ixL (Same.seq gb75.s (Le.lst (le45.trans le77) sq17)) h90 ?_
        obtain rfl : v87 = V.int x88 := h91
        refine a_nil ?_
        refine ⟨F74, _, x88, rfl, gb75.s, rfl, (by exact (hx2 _ (List.mem_of_getElem? (by assumption))).1), ?_⟩
        rintro v92 F93 H94 r95 g96 hr97 hp98
        have gb99 := gb75.tr g96
        have le100 := g96.le
        have oH101 := g96.h _ _ oH83
        have oF102 := g96.own oF84 oH83
        have cm103 := g96.fz cm76
        obtain ⟨a104, rfl, sq105⟩ := hr97
        refine ⟨by rw [Al.length (Al.mo le100 al81)]; have := sizeLine_big; omega, ?_⟩
        exact ⟨F93, _, m47, (ts80 ++ [r95]), True.intro, gb99, cm103, (le77.trans le100), oH101, oF102, (Dk.mo le100 dk85), nd86, rfl, (Al.snoc (Al.mo le100 al81) ⟨_, rfl, sq105⟩), (by first | (simp; done) | (rw [List.length_append]; simp only [List.length_cons, List.length_nil]; omega) | omega), by exact ⟨by walk_at "ol", fun q h => (List.mem_append.mp h).elim (c2 q) fun z => by rw [List.mem_singleton.mp z]; assumption⟩⟩
      · rintro acc107 H106 ⟨F108, kv112, m113, ts114, _, gb109, cm110, le111, oH117, oF118, dk119, nd120, rfl, al115, tl116, ⟨c1, c2⟩⟩
        refine ⟨(by rw [Al.length al115]; have := sizeLine_big; omega), fun p121 hp122 => ?_⟩
        obtain ⟨F123, g125, e126⟩ := al2 (o := (.lst acc107)) gb109.s (by intro _ _ z; cases z) hp122
        generalize upd H106 p121 (.lst acc107) = H124 at g125 ⊢
        have gb127 := gb109.tr g125
        have le128 := g125.le
        have oH129 := g125.h _ _ oH117
        have oF130 := g125.own oF118 oH117
        have cm131 := g125.fz cm110
        refine a_nil ?_
        obtain ⟨v132, v133, v134, v135, x136, x137, x138, x139, ev144, et145, h140, h141, h142, h143⟩ := Al.four (Al.mo le128 al115) (by rw [c1]; rfl)
        refine ⟨_, _, rfl, .inl ⟨(Same.seq gb127.s (SqL.of e126)), fun p146 hp147 => ?_⟩⟩
        rw [ev144]
        obtain ⟨F148, g150, e151⟩ := al2 (o := (.tup [v132, v133, v134, v135])) gb127.s (by intro _ _ z; cases z) hp147
        generalize upd H124 p146 (.tup [v132, v133, v134, v135]) = H149 at g150 ⊢
        obtain ⟨a152, rfl, sq153⟩ := h140
        obtain ⟨a154, rfl, sq155⟩ := h141
        obtain ⟨a156, rfl, sq157⟩ := h142
        obtain ⟨a158, rfl, sq159⟩ := h143
        have gb160 := gb127.tr g150
        have le161 := g150.le
        have oH162 := g150.h _ _ oH129
        have oF163 := g150.own oF130 oH129
        have cm164 := g150.fz cm131
        refine a_var rfl ?_
        refine a_var rfl ?_
        refine a_dputK oH162 (by rw [Dk.length (Dk.mo (le128.trans le161) dk119)]; omega) (chg gb160 hb24 oF163 (fun H165 gb166 oH167 ne168 => ?_))
        have dk169 := Dk.put (x := x61) (show (r4 K (rFr K) (rFr K) (rFr K) (rFr K)) F148 (V.ref p146) ((x136, x137, x138, x139)) from ⟨_, _, _, _, _, rfl, (SqT.of e151), ⟨_, rfl, (Le.tup le161 sq153)⟩, ⟨_, rfl, (Le.tup le161 sq155)⟩, ⟨_, rfl, (Le.tup le161 sq157)⟩, ⟨_, rfl, (Le.tup le161 sq159)⟩⟩) (Dk.mo (le128.trans le161) dk119)
        try dsimp only
        have hg4 := good_four et145 c2
        refine a_if ?_
        refine a_test ?_
        refine a_op ?_
        refine a_op ?_
        refine a_op ?_
        refine a_var rfl ?_
        refine a_op ?_
        refine a_c ?_
        refine a_op ?_
        refine a_var rfl ?_
        refine a_c ?_
        refine a_I (by decide) ?_
        have m170 : 0 ≤ ((i39 : Int) % 2) ∧ ((i39 : Int) % 2) < 2 := ⟨Int.emod_nonneg _ (by decide), Int.emod_lt_of_pos _ (by decide)⟩
        refine a_I0 ?_
        obtain ⟨x172, v171, h173, h174, h175⟩ := Al.ix (Al.mo (((le45.trans le111).trans le128).trans le161) al18) (i := (18 + ((i39 : Int) % 2))) (by walk_at "o") (by walk_at "ol")
        refine a_ixL (Same.seq gb166.s (Le.lst (((le45.trans le111).trans le128).trans le161) sq17)) h174 ?_
        obtain rfl : v171 = V.int x172 := h175
        refine a_c ?_
        refine a_I (by decide) ?_
        have m176 : 0 ≤ (x172 % 9) ∧ (x172 % 9) < 9 := ⟨Int.emod_nonneg _ (by decide), Int.emod_lt_of_pos _ (by decide)⟩
        refine a_c ?_
        refine a_eqI ?_
        refine a_bl ?_
        refine iteD (fun c177 => ?_) (fun c177 => ?_)
        · refine a_dput ?_
          refine a_tup ?_
          refine a_cons ?_
          refine a_tup ?_
          refine a_cons ?_
          refine a_c ?_
          refine a_cons ?_
          refine a_c ?_
          refine a_nil ?_
          refine ⟨by show 2 ≤ sizeLine; decide, fun p178 hp179 => ?_⟩
          obtain ⟨F180, g182, e183⟩ := al2 (o := (.tup [V.int 0, V.int 1])) gb166.s (by intro _ _ z; cases z) hp179
          generalize upd H165 p178 (.tup [V.int 0, V.int 1]) = H181 at g182 ⊢
          have gb184 := gb166.tr g182
          have le185 := g182.le
          have oH186 := g182.h _ _ oH167
          have oF187 := g182.own oF163 oH167
          have cm188 := g182.fz cm164
          have sq189 : SqT K F180 p178 (fr ((0 : Int) : Rat)) := by rw [fr_int]; exact SqT.of e183
          refine a_cons ?_
          refine a_tup ?_
          refine a_cons ?_
          refine a_c ?_
          refine a_cons ?_
          refine a_c ?_
          refine a_nil ?_
          refine ⟨by show 2 ≤ sizeLine; decide, fun p190 hp191 => ?_⟩
          obtain ⟨F192, g194, e195⟩ := al2 (o := (.tup [V.int 0, V.int 1])) gb184.s (by intro _ _ z; cases z) hp191
          generalize upd H181 p190 (.tup [V.int 0, V.int 1]) = H193 at g194 ⊢
          have gb196 := gb184.tr g194
          have le197 := g194.le
          have oH198 := g194.h _ _ oH186
          have oF199 := g194.own oF187 oH186
          have cm200 := g194.fz cm188
          have sq201 : SqT K F192 p190 (fr ((0 : Int) : Rat)) := by rw [fr_int]; exact SqT.of e195
          refine a_cons ?_
          refine a_tup ?_
          refine a_cons ?_
          refine a_op ?_
          refine a_c ?_
          refine a_c ?_
          refine a_powC (z := 1000000) (by decide) ⟨by decide, by decide, by decide⟩ ?_
          refine a_cons ?_
          refine a_c ?_
          refine a_nil ?_
          refine ⟨by show 2 ≤ sizeLine; decide, fun p202 hp203 => ?_⟩
          obtain ⟨F204, g206, e207⟩ := al2 (o := (.tup [V.int 1000000, V.int 1])) gb196.s (by intro _ _ z; cases z) hp203
          generalize upd H193 p202 (.tup [V.int 1000000, V.int 1]) = H205 at g206 ⊢
          have gb208 := gb196.tr g206
          have le209 := g206.le
          have oH210 := g206.h _ _ oH198
          have oF211 := g206.own oF199 oH198
          have cm212 := g206.fz cm200
          have sq213 : SqT K F204 p202 (fr ((1000000 : Int) : Rat)) := by rw [fr_int]; exact SqT.of e207
          refine a_cons ?_
          refine a_tup ?_
          refine a_cons ?_
          refine a_op ?_
          refine a_c ?_
          refine a_c ?_
          refine a_powC (z := 1000000) (by decide) ⟨by decide, by decide, by decide⟩ ?_
          refine a_cons ?_
          refine a_c ?_
          refine a_nil ?_
          refine ⟨by show 2 ≤ sizeLine; decide, fun p214 hp215 => ?_⟩
          obtain ⟨F216, g218, e219⟩ := al2 (o := (.tup [V.int 1000000, V.int 1])) gb208.s (by intro _ _ z; cases z) hp215
          generalize upd H205 p214 (.tup [V.int 1000000, V.int 1]) = H217 at g218 ⊢
          have gb220 := gb208.tr g218
          have le221 := g218.le
          have oH222 := g218.h _ _ oH210
          have oF223 := g218.own oF211 oH210
          have cm224 := g218.fz cm212
          have sq225 : SqT K F216 p214 (fr ((1000000 : Int) : Rat)) := by rw [fr_int]; exact SqT.of e219
          refine a_nil ?_
          refine ⟨by show 4 ≤ sizeLine; decide, fun p226 hp227 => ?_⟩
          obtain ⟨F228, g230, e231⟩ := al2 (o := (.tup [V.ref p178, V.ref p190, V.ref p202, V.ref p214])) gb220.s (by intro _ _ z; cases z) hp227
          generalize upd H217 p226 (.tup [V.ref p178, V.ref p190, V.ref p202, V.ref p214]) = H229 at g230 ⊢
          have gb232 := gb220.tr g230
          have le233 := g230.le
          have oH234 := g230.h _ _ oH222
          have oF235 := g230.own oF223 oH222
          have cm236 := g230.fz cm224
          refine a_var rfl ?_
          refine a_var rfl ?_
          refine a_dputK oH234 (by rw [Dk.length (Dk.mo ((((le185.trans le197).trans le209).trans le221).trans le233) dk169)]; exact Nat.lt_of_le_of_lt (ptd_len _ _ _) (by omega)) (chg gb232 hb24 oF235 (fun H237 gb238 oH239 ne240 => ?_))
          have dk241 := Dk.put (x := x61) (show (r4 K (rFr K) (rFr K) (rFr K) (rFr K)) F228 (V.ref p226) ((((0 : Int) : Rat), ((0 : Int) : Rat), ((1000000 : Int) : Rat), ((1000000 : Int) : Rat))) from ⟨_, _, _, _, _, rfl, (SqT.of e231), ⟨_, rfl, (Le.tup (((le197.trans le209).trans le221).trans le233) sq189)⟩, ⟨_, rfl, (Le.tup ((le209.trans le221).trans le233) sq201)⟩, ⟨_, rfl, (Le.tup (le221.trans le233) sq213)⟩, ⟨_, rfl, (Le.tup le233 sq225)⟩⟩) (Dk.mo ((((le185.trans le197).trans le209).trans le221).trans le233) dk169)
          try dsimp only
          exact ⟨F228, _, (ptd (ptd m47 x61 (x136, x137, x138, x139)) x61 (((0 : Int) : Rat), ((0 : Int) : Rat), ((1000000 : Int) : Rat), ((1000000 : Int) : Rat))), _, _, rfl, gb238, cm236, ((((((((le45.trans le111).trans le128).trans le161).trans le185).trans le197).trans le209).trans le221).trans le233), oH239, oF235, dk241, (nd_ptd (nd_ptd nd120 x61 (x136, x137, x138, x139)) x61 (((0 : Int) : Rat), ((0 : Int) : Rat), ((1000000 : Int) : Rat), ((1000000 : Int) : Rat))), by first | exact ⟨Nat.le_trans (ptd_len _ _ _) (Nat.le_trans (Nat.succ_le_succ (ptd_len _ _ _)) (by omega)), ok_put (ok_put q2 un hg4) un good_all⟩ | exact ⟨Nat.le_trans (ptd_len _ _ _) (by omega), ok_put q2 un hg4⟩⟩
        · refine a_next ?_
          try dsimp only
          exact ⟨F148, _, (ptd m47 x61 (x136, x137, x138, x139)), _, _, rfl, gb166, cm164, (((le45.trans le111).trans le128).trans le161), oH167, oF163, dk169, (nd_ptd nd120 x61 (x136, x137, x138, x139)), by first | exact ⟨Nat.le_trans (ptd_len _ _ _) (Nat.le_trans (Nat.succ_le_succ (ptd_len _ _ _)) (by omega)), ok_put (ok_put q2 un hg4) un good_all⟩ | exact ⟨Nat.le_trans (ptd_len _ _ _) (by omega), ok_put q2 un hg4⟩⟩
    · rintro σ' H242 ⟨F243, kv247, m248, o249, o250, rfl, gb244, cm245, le246, oH251, oF252, dk253, nd254, ⟨q1, q2⟩⟩
      try dsimp only
      refine a_ret ?_
      refine a_var rfl ?_
      obtain ⟨F255, gb256, cm257, le258s, e259, ne260⟩ := frz gb244 cm245 hb24 oF252 oH251 (by intro _ _ z; cases z)
      have le258 := Le.of le258s
      exact k _ _ _ (m248) (Gr.of gb256 cm257) (⟨_, _, rfl, (Rd.of e259), (Dk.mo le258 dk253), nd254⟩) (by exact ⟨by omega, q2⟩)
def sp_law_in (K : PySem.W.Frag) : Sp := fun vs H Q _ => ∃ (F : Hp) (v_at' v_low v_long : V) (at' : Int) (low : Rat) (long : Rat), vs = [v_at', v_low, v_long] ∧ Same F H ∧ rI F v_at' at' ∧ (rFr K) F v_low low ∧ (rFr K) F v_long long ∧ (0 ≤ at' ∧ at' ≤ 100 ∧ bs low ≤ 60 ∧ bs long ≤ 60 ∧ (low.den : Int) ∣ 84 ∧ (long.den : Int) ∣ 84) ∧ ∀ (v : V) (F' H' : Hp), Gr F H F' H' → rB F' v (decide (inP at'.toNat low long)) → Q v H'
set_option linter.unusedVariables false in
theorem ok_law_in (T : Tx K mg) : FnOk P w K mg base CX0 1 T.a_law_in T.d_law_in ["_law_at", "_law_low", "_law_long"] (sp_law_in K) := by
  refine T.F_law_in.ok sc_law_in (fun vs H Q E h => ?_) (fun cdv A outer s H vs Q E hr h => ?_)
  · obtain ⟨F, v_at', v_low, v_long, at', low, long, rfl, _⟩ := h
    rfl
  · obtain ⟨F, v_at', v_low, v_long, at', low, long, rfl, wd, r_at', r_low, r_long, hpre, k⟩ := h
    have hu := hu_of hr
    have gb := Gr0.refl wd
    have cm := Fz.refl F
    obtain rfl : v_at' = V.int at' := r_at'
    obtain ⟨a1, rfl, sq2⟩ := r_low
    obtain ⟨a3, rfl, sq4⟩ := r_long
    obtain ⟨w1, w2, w3, w4, w5, w6⟩ := hpre
    refine ⟨_, (ZSs.h (zss_cons (ps_set (i := 3) sc_law_in.nd rfl (Or.inl rfl) (pe_op op_mulB (pe_op op_mulB (pe_op op_mulB (pe_op op_add (pe_op op_mulB pe_int (pv 0)) pe_int) pe_int) pe_int) pe_int))
          (zss_cons (ps_set (i := 4) sc_law_in.nd rfl (Or.inl rfl) (pe_op op_fdivB (pe_op op_mulB pe_int (pe_ix ix_tup (pv 1) pe_int (fun _ _ => rfl))) (pe_ix ix_tup (pv 1) pe_int (fun _ _ => rfl))))
          (zss_one (ps_ret (pe_and (pe_cmpR op_le (pv 4) (pv 3) (nomark _)) (pe_one (pe_cmpR op_lt (pv 3) (pe_op op_add (pv 4) (pe_op op_fdivB (pe_op op_mulB pe_int (pe_ix ix_tup (pv 2) pe_int (fun _ _ => rfl))) (pe_ix ix_tup (pv 2) pe_int (fun _ _ => rfl)))) (nomark _))))))))), ?_⟩
    have hd1 := den_pos low
    have hd2 := den_pos long
    refine a_seq ?_
    refine a_asg ?_
    refine a_op ?_
    refine a_op ?_
    refine a_op ?_
    refine a_op ?_
    refine a_op ?_
    refine a_c ?_
    refine a_var rfl ?_
    refine a_I (mulL2 (by decide) (by decide)) ?_
    have b5 := bi_mul (2 : Int) at'
    refine a_c ?_
    refine a_I0 ?_
    have b6 := bi_add (2 * at') (1 : Int)
    refine a_c ?_
    refine a_I (mulR2 (by decide) (by decide)) ?_
    have b7 := bi_mul ((2 * at') + 1) (3 : Int)
    refine a_c ?_
    refine a_I (mulR2 (by decide) (by decide)) ?_
    have b8 := bi_mul (((2 * at') + 1) * 3) (7 : Int)
    refine a_c ?_
    refine a_I (mulR2 (by decide) (by decide)) ?_
    have b9 := bi_mul ((((2 * at') + 1) * 3) * 7) (2 : Int)
    refine a_name ?_
    try dsimp only
    refine a_seq ?_
    refine a_asg ?_
    refine a_op ?_
    refine a_op ?_
    refine a_c ?_
    refine a_op ?_
    refine a_var rfl ?_
    refine a_c ?_
    refine a_ixT (Same.tup gb.s sq2) (fr0 low) ?_
    have b10 := bi_num low
    refine a_I (mulL2 (by decide) (by decide)) ?_
    have b11 := bi_mul (84 : Int) low.num
    refine a_op ?_
    refine a_var rfl ?_
    refine a_c ?_
    refine a_ixT (Same.tup gb.s sq2) (fr1 low) ?_
    have b12 := bi_den low
    refine a_I (by walk_at "od") ?_
    refine a_name ?_
    try dsimp only
    refine a_ret ?_
    refine a_andV ?_
    refine a_op ?_
    refine a_var rfl ?_
    refine a_var rfl ?_
    refine a_I0 ?_
    refine a_bl ?_
    refine iteD (fun c13 => ?_) (fun c13 => ?_)
    · refine a_op ?_
      refine a_var rfl ?_
      refine a_op ?_
      refine a_var rfl ?_
      refine a_op ?_
      refine a_op ?_
      refine a_c ?_
      refine a_op ?_
      refine a_var rfl ?_
      refine a_c ?_
      refine a_ixT (Same.tup gb.s sq4) (fr0 long) ?_
      have b14 := bi_num long
      refine a_I (mulL2 (by decide) (by decide)) ?_
      have b15 := bi_mul (84 : Int) long.num
      refine a_op ?_
      refine a_var rfl ?_
      refine a_c ?_
      refine a_ixT (Same.tup gb.s sq4) (fr1 long) ?_
      have b16 := bi_den long
      refine a_I (by walk_at "od") ?_
      refine a_I0 ?_
      have b17 := bi_add (Int.fdiv (84 * low.num) (low.den : Int)) (Int.fdiv (84 * long.num) (long.den : Int))
      refine a_I0 ?_
      have hval : ((decide ((((((2 * at') + 1) * 3) * 7) * 2) < ((Int.fdiv (84 * low.num) (low.den : Int)) + (Int.fdiv (84 * long.num) (long.den : Int))))) : Bool) = (decide (inP at'.toNat low long)) := by first | exact in_t w1 w5 w6 (by assumption) | exact in_f w1 w5 w6 (by assumption)
      have rp18 : rB F (V.bl (decide ((((((2 * at') + 1) * 3) * 7) * 2) < ((Int.fdiv (84 * low.num) (low.den : Int)) + (Int.fdiv (84 * long.num) (long.den : Int)))))) ((decide ((((((2 * at') + 1) * 3) * 7) * 2) < ((Int.fdiv (84 * low.num) (low.den : Int)) + (Int.fdiv (84 * long.num) (long.den : Int)))))) := rfl
      replace rp18 := Eq.mp (congrArg (rB F (V.bl (decide ((((((2 * at') + 1) * 3) * 7) * 2) < ((Int.fdiv (84 * low.num) (low.den : Int)) + (Int.fdiv (84 * long.num) (long.den : Int))))))) hval) rp18
      exact k _ _ _ (Gr.of gb cm) rp18
    · have hval : (false : Bool) = (decide (inP at'.toNat low long)) := by first | exact in_t w1 w5 w6 (by assumption) | exact in_f w1 w5 w6 (by assumption)
      have rp19 : rB F (V.bl false) (false) := rfl
      replace rp19 := Eq.mp (congrArg (rB F (V.bl false)) hval) rp19
      exact k _ _ _ (Gr.of gb cm) rp19
def sp_law_sign (K : PySem.W.Frag) : Sp := fun vs H Q _ => ∃ (F : Hp) (v_places_here v_x v_y : V) (places_here : (List (Str × (Rat × Rat × Rat × Rat)))) (x : Int) (y : Int), vs = [v_places_here, v_x, v_y] ∧ Same F H ∧ Fz S0 F ∧ (rD (r4 K (rFr K) (rFr K) (rFr K) (rFr K))) F v_places_here places_here ∧ rI F v_x x ∧ rI F v_y y ∧ ((0 ≤ x ∧ x ≤ 100 ∧ 0 ≤ y ∧ y ≤ 100) ∧ ∀ x p, gtd places_here x = some p → (1 ≤ x.length ∧ x.length ≤ 100) ∧ GoodP p) ∧ ∀ (v : V) (F' H' : Hp), Gr F H F' H' → rS F' v (signS places_here x.toNat y.toNat) → Q v H'
set_option linter.unusedVariables false in
theorem ok_law_sign (T : Tx K mg) : FnOk P w K mg base CX0 2 T.a_law_sign T.d_law_sign ["_law_places_here", "_law_x", "_law_y"] (sp_law_sign K) := by
  refine T.F_law_sign.ok sc_law_sign (fun vs H Q E h => ?_) (fun cdv A outer s H vs Q E hr h => ?_)
  · obtain ⟨F, v_places_here, v_x, v_y, places_here, x, y, rfl, _⟩ := h
    rfl
  · obtain ⟨F, v_places_here, v_x, v_y, places_here, x, y, rfl, wd, cm, r_places_here, r_x, r_y, hpre, k⟩ := h
    have hu := hu_of hr
    have gb := Gr0.refl wd
    obtain ⟨a1, kvs2, rfl, rd3, dk4, nd5⟩ := r_places_here
    obtain rfl : v_x = V.int x := r_x
    obtain rfl : v_y = V.int y := r_y
    obtain ⟨⟨w1, w2, w3, w4⟩, w5⟩ := hpre
    refine ⟨_, (ZSs.h (zss_cons (ps_set (i := 3) sc_law_sign.nd rfl (Or.inl rfl) pe_str)
          (zss_cons (ps_set (i := 4) sc_law_sign.nd rfl (Or.inl rfl) pe_str)
          (zss_cons (ps_forD PassesOwn.never rfl (pv 0) (pg_tup rfl (pgs_cons (pg_name (i := 5) sc_law_sign.nd rfl (Or.inl rfl)) (pgs_cons (pg_name (i := 6) sc_law_sign.nd rfl (Or.inl rfl)) pgs_nil))) (pss_one (ps_if (PW.pt (pw_and (pt_cmpR op_gt_str (pv 5) (pv 4) (nomark _)) (pw_and (pt_val (pe_call ((ok_law_in T).mono (by decide)) hr rfl T.m_law_in T.F_law_in.kp T.b_law_in .nil pass0 (pa_cons (pv 1) (pa_cons (pe_ix ix_tup (pv 6) pe_int (fun _ _ => rfl)) (pa_cons (pe_ix ix_tup (pv 6) pe_int (fun _ _ => rfl)) pa_nil))))) (pw_and1 (pt_val (pe_call ((ok_law_in T).mono (by decide)) hr rfl T.m_law_in T.F_law_in.kp T.b_law_in .nil pass0 (pa_cons (pv 2) (pa_cons (pe_ix ix_tup (pv 6) pe_int (fun _ _ => rfl)) (pa_cons (pe_ix ix_tup (pv 6) pe_int (fun _ _ => rfl)) pa_nil))))))))) (ZSs.h (zss_cons (ps_set (i := 4) sc_law_sign.nd rfl (Or.inl rfl) (pv 5))
          (zss_one (ps_set (i := 3) sc_law_sign.nd rfl (Or.inl rfl) (pe_ix ix_str (pv 5) pe_int (fun _ _ => rfl)))))) pss_nil)))
          (zss_one (ps_ret (pv 3))))))), ?_⟩
    refine a_seq ?_
    refine a_asg ?_
    refine a_c ?_
    have ln6 : ("." : Str).length = 1 := by decide +kernel
    refine a_name ?_
    try dsimp only
    refine a_seq ?_
    refine a_asg ?_
    refine a_c ?_
    have ln7 : ("" : Str).length = 0 := by decide +kernel
    refine a_name ?_
    try dsimp only
    refine a_seq ?_
    refine a_forD ?_
    refine a_var rfl ?_
    have fa13 := calm_at cm rd3
    have ha11 : H a1 = some (.dK kvs2) := gb.s _ _ fa13
    have fa10 : F a1 = none ∨ F a1 = some (.dK kvs2) := .inr fa13
    have dk12 := dk4
    have hnd := nd5
    have hdl := Dk.length dk12
    refine ⟨_, kvs2, rfl, ha11, fun ob8 hna9 => ?_⟩
    have gb14 := fz_gr (a := a1) (.frz ob8 (.dK kvs2)) gb
    have cm15 := fz_fz (a := a1) (z := (.frz ob8 (.dK kvs2))) cm
    have le16 := fz_le (ob := ob8) fa10
    refine for_items (a := a1) (ob := ob8) (kvs := kvs2) (fun i σ' H' => ∃ (F17 : Hp) (sign_here18 : Str) (last19 : Str) (o20 : Option V) (o21 : Option V), σ' = [some (V.ref a1), some (V.int x), some (V.int y), some (V.str sign_here18), some (V.str last19), o20, o21] ∧ Gr0 (fz F a1 (.frz ob8 (.dK kvs2))) (fz H a1 (.frz ob8 (.dK kvs2))) F17 H' ∧ Fz (fun b => b = a1 ∨ S0 b) F17 ∧ Le F F17 ∧ F17 a1 = fz F a1 (.frz ob8 (.dK kvs2)) a1 ∧ H' a1 = some (.frz ob8 (.dK kvs2)) ∧ ((last19, sign_here18) = (places_here.take i).foldl (signStep x.toNat y.toNat) ("", "."))) ?_ ?_ ?_ ?_
    · exact ⟨(fz F a1 (.frz ob8 (.dK kvs2))), ("." : Str), ("" : Str), _, _, rfl, gb14, cm15, le16, rfl, upd_same, by rfl⟩
    · rintro i σ' H22 _ ⟨F23, sign_here27, last28, o29, o30, rfl, gb24, cm25, le26, x31, x32, q1⟩
      exact x32
    · rintro i33 ky49 y36 σ' H34 p37 hi35 ⟨F39, sign_here43, last44, o45, o46, rfl, gb40, cm41, le42, x47, x48, q1⟩ hp38
      obtain ⟨name50, place51, hm52, rfl, hr53⟩ := Dk.get (Dk.mo le42 dk12) hi35
      obtain ⟨a58, v60, v61, v62, v63, rfl, sq59, h64, h65, h66, h67⟩ := hr53
      obtain ⟨a68, rfl, sq69⟩ := h64
      obtain ⟨a70, rfl, sq71⟩ := h65
      obtain ⟨a72, rfl, sq73⟩ := h66
      obtain ⟨a74, rfl, sq75⟩ := h67
      refine it2 (K := K) gb40.s hp38 (fun F54 H55 g56 e57 => ?_)
      have gb76 := gb40.tr g56
      have le77 := g56.le
      have cm78 := g56.fz cm41
      have za79 := g56.h _ _ x48
      have zf80 := g56.at x48 x47
      try dsimp only
      obtain ⟨⟨n1, n2⟩, gd1⟩ := w5 _ _ (mem_nd hnd (List.mem_of_getElem? hm52))
      obtain ⟨⟨b1, b2, b3, b4⟩, d1, d2, d3, d4⟩ := gd1
      refine a_if ?_
      refine a_and ?_
      refine a_test ?_
      refine a_op ?_
      refine a_var rfl ?_
      refine a_var rfl ?_
      refine ⟨_, _, rfl, rfl, ?_⟩
      refine a_bl ?_
      refine iteD (fun c81 => ?_) (fun c81 => ?_)
      · refine a_and ?_
        refine a_tB ?_
        refine a_call ?_
        refine a_cons ?_
        refine a_var rfl ?_
        refine a_cons ?_
        refine a_op ?_
        refine a_var rfl ?_
        refine a_c ?_
        refine a_ixT (Same.tup gb76.s (Le.tup le77 sq59)) rfl ?_
        refine a_cons ?_
        refine a_op ?_
        refine a_var rfl ?_
        refine a_c ?_
        refine a_ixT (Same.tup gb76.s (Le.tup le77 sq59)) rfl ?_
        refine a_nil ?_
        refine ⟨F54, _, _, _, x, place51.1, place51.2.2.1, rfl, gb76.s, rfl, ⟨_, rfl, (Le.tup le77 sq69)⟩, ⟨_, rfl, (Le.tup le77 sq73)⟩, (by walk_at "o"), ?_⟩
        rintro v82 F83 H84  g86 hr87 
        have gb89 := gb76.tr g86
        have le90 := g86.le
        have cm91 := g86.fz cm78
        have za92 := g86.h _ _ za79
        have zf93 := g86.at za79 zf80
        obtain rfl : v82 = V.bl (decide (inP x.toNat place51.1 place51.2.2.1)) := hr87
        refine a_bl ?_
        refine iteD (fun c94 => ?_) (fun c94 => ?_)
        · refine a_tB ?_
          refine a_call ?_
          refine a_cons ?_
          refine a_var rfl ?_
          refine a_cons ?_
          refine a_op ?_
          refine a_var rfl ?_
          refine a_c ?_
          refine a_ixT (Same.tup gb89.s (Le.tup (le77.trans le90) sq59)) rfl ?_
          refine a_cons ?_
          refine a_op ?_
          refine a_var rfl ?_
          refine a_c ?_
          refine a_ixT (Same.tup gb89.s (Le.tup (le77.trans le90) sq59)) rfl ?_
          refine a_nil ?_
          refine ⟨F83, _, _, _, y, place51.2.1, place51.2.2.2, rfl, gb89.s, rfl, ⟨_, rfl, (Le.tup (le77.trans le90) sq71)⟩, ⟨_, rfl, (Le.tup (le77.trans le90) sq75)⟩, (by walk_at "o"), ?_⟩
          rintro v95 F96 H97  g99 hr100 
          have gb102 := gb89.tr g99
          have le103 := g99.le
          have cm104 := g99.fz cm91
          have za105 := g99.h _ _ za92
          have zf106 := g99.at za92 zf93
          obtain rfl : v95 = V.bl (decide (inP y.toNat place51.2.1 place51.2.2.2)) := hr100
          refine a_bl ?_
          refine iteD (fun c107 => ?_) (fun c107 => ?_)
          · refine a_seq ?_
            refine a_asg ?_
            refine a_var rfl ?_
            refine a_name ?_
            try dsimp only
            refine a_asg ?_
            refine a_op ?_
            refine a_var rfl ?_
            refine a_c ?_
            refine a_ixS (Nat.le_trans (show name50.length ≤ 100000 by omega) (by decide)) (by walk_at "o") (by walk_at "o") ?_
            have ln108 : (sgn name50 0).length = 1 := rfl
            refine a_name ?_
            try dsimp only
            exact ⟨F96, (sgn name50 0), name50, _, _, rfl, gb102, cm104, (((le42.trans le77).trans le90).trans le103), zf106, za105, by first | exact sign_put hm52 q1 (by assumption) (by assumption) (by assumption) | exact sign_skip hm52 q1 (fun z => (by assumption : ¬ _) z.1) | exact sign_skip hm52 q1 (fun z => (by assumption : ¬ _) z.2.1) | exact sign_skip hm52 q1 (fun z => (by assumption : ¬ _) z.2.2)⟩
          · refine a_next ?_
            try dsimp only
            exact ⟨F96, sign_here43, last44, _, _, rfl, gb102, cm104, (((le42.trans le77).trans le90).trans le103), zf106, za105, by first | exact sign_put hm52 q1 (by assumption) (by assumption) (by assumption) | exact sign_skip hm52 q1 (fun z => (by assumption : ¬ _) z.1) | exact sign_skip hm52 q1 (fun z => (by assumption : ¬ _) z.2.1) | exact sign_skip hm52 q1 (fun z => (by assumption : ¬ _) z.2.2)⟩
        · refine iteF ?_
          refine a_next ?_
          try dsimp only
          exact ⟨F83, sign_here43, last44, _, _, rfl, gb89, cm91, ((le42.trans le77).trans le90), zf93, za92, by first | exact sign_put hm52 q1 (by assumption) (by assumption) (by assumption) | exact sign_skip hm52 q1 (fun z => (by assumption : ¬ _) z.1) | exact sign_skip hm52 q1 (fun z => (by assumption : ¬ _) z.2.1) | exact sign_skip hm52 q1 (fun z => (by assumption : ¬ _) z.2.2)⟩
      · refine iteF ?_
        refine a_next ?_
        try dsimp only
        exact ⟨F54, sign_here43, last44, _, _, rfl, gb76, cm78, (le42.trans le77), zf80, za79, by first | exact sign_put hm52 q1 (by assumption) (by assumption) (by assumption) | exact sign_skip hm52 q1 (fun z => (by assumption : ¬ _) z.1) | exact sign_skip hm52 q1 (fun z => (by assumption : ¬ _) z.2.1) | exact sign_skip hm52 q1 (fun z => (by assumption : ¬ _) z.2.2)⟩
    · rintro σ' H109 ⟨F110, sign_here114, last115, o116, o117, rfl, gb111, cm112, le113, x118, x119, q1⟩
      refine ⟨a1, ob8, kvs2, x119, hna9, ?_⟩
      refine thw gb ha11 fa10 gb111 x118 cm112 (fun F120 H121 gb122 cm123 le124 ea125 eb126 nF127 nH128 => ?_)
      try dsimp only
      rw [hdl, List.take_length] at q1
      refine a_ret ?_
      refine a_var rfl ?_
      have hval : (sign_here114 : Str) = (signS places_here x.toNat y.toNat) := by exact congrArg Prod.snd q1
      have rp129 : rS F120 (V.str sign_here114) (sign_here114) := rfl
      replace rp129 := Eq.mp (congrArg (rS F120 (V.str sign_here114)) hval) rp129
      exact k _ _ _ (Gr.of0 gb122 cm123) rp129
def sp_law (K : PySem.W.Frag) : Sp := fun vs H Q _ => ∃ (a : Addr) (ns : List Int), vs = [.ref a] ∧ SqL K H a (ns.map V.int) ∧ ns.length ≤ 63 ∧ ∀ H', Q (.bl true) H'
theorem ok_law (T : Tx K mg) : FnOk P w K mg base CX0 8 T.a_law T.d_law ["_law_script"] (sp_law K) := by
  refine T.F_law.ok sc_law (fun vs H Q E h => ?_) (fun cdv A outer s H vs Q E hr h => ?_)
  · obtain ⟨a, script, rfl, _⟩ := h
    rfl
  · obtain ⟨a, script, rfl, hS, hl, k⟩ := h
    have hu := hu_of hr
    have gb : Gr0 (fun _ => none) H (fun _ => none) H := Gr0.refl (fun _ _ z => by cases z)
    have cm : Fz S0 (fun _ => none) := fun _ _ _ z => by cases z
    refine ⟨_, (ZSs.h (zss_cons (ps_set (i := 1) sc_law.nd rfl (Or.inl rfl) (pe_op op_mod (pe_call ((ok_law_cell_at T).mono (by decide)) hr rfl T.m_law_cell_at T.F_law_cell_at.kp T.b_law_cell_at .nil pass0 (pa_cons (pv 0) (pa_cons pe_int pa_nil))) pe_int))
          (zss_consZ (zs_set (i := 2) sc_law.nd rfl (Or.inl rfl) rfl (.inl rfl) (ze_lst (za_cons rfl (ze_lst (za_cons rfl ze_str (za_cons rfl ze_str (za_cons rfl ze_str (za_cons rfl ze_str za_nil))))) (za_cons rfl (ze_lst (za_cons rfl ze_str (za_cons rfl ze_str (za_cons rfl ze_str (za_cons rfl ze_str za_nil))))) (za_cons rfl (ze_lst (za_cons rfl ze_str (za_cons rfl ze_str (za_cons rfl ze_str (za_cons rfl ze_str za_nil))))) (za_cons rfl (ze_lst (za_cons rfl ze_str (za_cons rfl ze_str (za_cons rfl ze_str (za_cons rfl ze_str za_nil))))) za_nil))))))
          (zss_cons (ps_set (i := 2) sc_law.nd rfl (Or.inl rfl) (pe_ix ix_list (pe_op op_cat (pv 2) (pe_lst (pa_cons (pe_lst (pa_cons pe_str (pa_cons pe_str (pa_cons pe_str (pa_cons pe_str pa_nil))))) pa_nil))) (pe_op op_mod (pv 1) pe_int) (fun _ _ => rfl)))
          (zss_cons (ps_set (i := 3) sc_law.nd rfl (Or.inl rfl) (pe_call ((ok_law_places T).mono (by decide)) hr rfl T.m_law_places T.F_law_places.kp T.b_law_places .nil pass0 (pa_cons (pv 2) (pa_cons (pe_call ((ok_law_cell_at T).mono (by decide)) hr rfl T.m_law_cell_at T.F_law_cell_at.kp T.b_law_cell_at .nil pass0 (pa_cons (pv 0) (pa_cons pe_int pa_nil))) pa_nil))))
          (zss_cons (ps_set (i := 4) sc_law.nd rfl (Or.inl rfl) (pe_op op_add pe_int (pe_op op_mod (pe_op op_fdiv (pv 1) pe_int) pe_int)))
          (zss_cons (ps_set (i := 5) sc_law.nd rfl (Or.inl rfl) (pe_op op_add pe_int (pe_op op_mod (pe_op op_fdiv (pv 1) pe_int) pe_int)))
          (zss_cons (ps_if (pt_cmpR op_eq (pe_op op_mod (pe_op op_fdiv (pv 1) pe_int) pe_int) pe_int (nomark _)) (ZSs.h (zss_cons (ps_set (i := 4) sc_law.nd rfl (Or.inl rfl) pe_int)
          (zss_one (ps_set (i := 5) sc_law.nd rfl (Or.inl rfl) (pe_op op_add pe_int (pe_op op_mod (pe_op op_fdiv (pv 1) pe_int) pe_int)))))) pss_nil)
          (zss_cons (ps_if (pt_cmpR op_eq (pe_op op_mod (pe_op op_fdiv (pv 1) pe_int) pe_int) pe_int (nomark _)) (ZSs.h (zss_cons (ps_set (i := 4) sc_law.nd rfl (Or.inl rfl) (pe_op op_add pe_int (pe_op op_mod (pe_op op_fdiv (pv 1) pe_int) pe_int)))
          (zss_one (ps_set (i := 5) sc_law.nd rfl (Or.inl rfl) pe_int)))) pss_nil)
          (zss_cons (ps_set (i := 6) sc_law.nd rfl (Or.inl rfl) (pe_callTy call_dictD rfl T.z_dict rfl (pa_cons (pv 3) pa_nil)))
          (zss_cons (ps_set (i := 7) sc_law.nd rfl (Or.inl rfl) (pe_call ((ok_drawn T).mono (by decide)) hr rfl T.m_drawn T.F_drawn.kp T.b_drawn .nil pass0 (pa_cons (pv 6) (pa_cons (pv 4) (pa_cons (pv 5) pa_nil)))))
          (zss_cons (ps_if (PW.pt (pw_or (pt_not (pt_val (pe_callB call_isx rfl T.z_isinstance rfl (pa_cons (pv 7) (pa_cons (pe_bltn (v := .ty "list") rfl T.z_list rfl rfl) pa_nil))))) (pw_or (pt_cmpR op_ne (pe_callB call_len_seq rfl T.z_len rfl (pa_cons (pv 7) pa_nil)) (pv 5) (nomark _)) (pw_or1 (pt_cmpR (op_neD hr.units) (pv 6) (pv 3) (nomark _)))))) (pss_one (ps_ret pe_bl)) pss_nil)
          (zss_cons (ps_for PassesOwn.never rfl (pi_enum rfl T.z_enumerate (pa_cons (pv 7) pa_nil)) (pg_tup rfl (pgs_cons (pg_name (i := 8) sc_law.nd rfl (Or.inl rfl)) (pgs_cons (pg_name (i := 9) sc_law.nd rfl (Or.inl rfl)) pgs_nil))) (ZSs.h (zss_cons (ps_if (PW.pt (pw_or (pt_not (pt_val (pe_callB call_isx rfl T.z_isinstance rfl (pa_cons (pv 9) (pa_cons (pe_bltn (v := .ty "str") rfl T.z_str rfl rfl) pa_nil))))) (pw_or1 (pt_cmpR op_ne (pe_callB call_len_str rfl T.z_len rfl (pa_cons (pv 9) pa_nil)) (pv 4) (nomark _))))) (pss_one (ps_ret pe_bl)) pss_nil)
          (zss_one (ps_for PassesOwn.never rfl (pi_enumS rfl T.z_enumerate (pa_cons (pv 9) pa_nil)) (pg_tup rfl (pgs_cons (pg_name (i := 10) sc_law.nd rfl (Or.inl rfl)) (pgs_cons (pg_name (i := 11) sc_law.nd rfl (Or.inl rfl)) pgs_nil))) (pss_one (ps_if (pt_cmpR op_ne (pv 11) (pe_call ((ok_law_sign T).mono (by decide)) hr rfl T.m_law_sign T.F_law_sign.kp T.b_law_sign .nil pass0 (pa_cons (pv 3) (pa_cons (pv 10) (pa_cons (pv 8) pa_nil)))) (nomark _)) (pss_one (ps_ret pe_bl)) pss_nil)))))))
          (zss_cons (ps_set (i := 12) sc_law.nd rfl (Or.inl rfl) (pe_callTy call_list_of rfl T.z_list rfl (pa_cons (pv 7) pa_nil)))
          (zss_cons (ps_expr (pe_bm0 PySem.F.plainAttrs_list PySem.F.slot_list_clear PySem.F.type_list_clear mt_clear (pv 7)))
          (zss_one (ps_ret (pe_cmpR (op_eqQ (K := K) (A := (rL K rS)) rfl hr.units) (pe_call ((ok_drawn T).mono (by decide)) hr rfl T.m_drawn T.F_drawn.kp T.b_drawn .nil pass0 (pa_cons (pv 3) (pa_cons (pv 4) (pa_cons (pv 5) pa_nil)))) (pv 12) (nomark _))))))))))))))))))), ?_⟩
    refine a_seq ?_
    refine a_asg ?_
    refine a_op ?_
    refine a_call ?_
    refine a_cons ?_
    refine a_var rfl ?_
    refine a_cons ?_
    refine a_c ?_
    refine a_nil ?_
    refine ⟨(fun _ => none), _, _, script, 0, rfl, gb.s, ⟨_, rfl, (Same.seq gb.h hS)⟩, rfl, (by walk_at "o"), ?_⟩
    rintro v1 F2 H3 r4 g5 hr6 
    have gb8 := gb.tr g5
    have le9 := g5.le
    have cm10 := g5.fz cm
    obtain rfl : v1 = V.int r4 := hr6
    refine a_c ?_
    refine a_I (by decide) ?_
    have m11 : 0 ≤ (r4 % 2147483647) ∧ (r4 % 2147483647) < 2147483647 := ⟨Int.emod_nonneg _ (by decide), Int.emod_lt_of_pos _ (by decide)⟩
    refine a_name ?_
    try dsimp only
    refine a_seq ?_
    refine a_asg ?_
    refine a_lst ?_
    refine a_cons ?_
    refine a_lst ?_
    refine a_cons ?_
    refine a_c ?_
    have ln12 : ("a" : Str).length = 1 := by decide +kernel
    refine a_cons ?_
    refine a_c ?_
    have ln13 : ("b" : Str).length = 1 := by decide +kernel
    refine a_cons ?_
    refine a_c ?_
    have ln14 : ("c" : Str).length = 1 := by decide +kernel
    refine a_cons ?_
    refine a_c ?_
    have ln15 : ("d" : Str).length = 1 := by decide +kernel
    refine a_nil ?_
    refine ⟨by show 4 ≤ sizeLine; decide, fun p16 hp17 => ?_⟩
    obtain ⟨F18, g20, e21⟩ := al2 (o := (.lst [V.str ("a" : Str), V.str ("b" : Str), V.str ("c" : Str), V.str ("d" : Str)])) gb8.s (by intro _ _ z; cases z) hp17
    generalize upd H3 p16 (.lst [V.str ("a" : Str), V.str ("b" : Str), V.str ("c" : Str), V.str ("d" : Str)]) = H19 at g20 ⊢
    have gb22 := gb8.tr g20
    have le23 := g20.le
    have cm24 := g20.fz cm10
    have al25 : Al rS F18 [.str ("a" : Str), .str ("b" : Str), .str ("c" : Str), .str ("d" : Str)] [("a" : Str), ("b" : Str), ("c" : Str), ("d" : Str)] := ⟨rfl, ⟨rfl, ⟨rfl, ⟨rfl, True.intro⟩⟩⟩⟩
    refine a_cons ?_
    refine a_lst ?_
    refine a_cons ?_
    refine a_c ?_
    have ln26 : ("ab" : Str).length = 2 := by decide +kernel
    refine a_cons ?_
    refine a_c ?_
    have ln27 : ("aa" : Str).length = 2 := by decide +kernel
    refine a_cons ?_
    refine a_c ?_
    have ln28 : ("a" : Str).length = 1 := by decide +kernel
    refine a_cons ?_
    refine a_c ?_
    have ln29 : ("abc" : Str).length = 3 := by decide +kernel
    refine a_nil ?_
    refine ⟨by show 4 ≤ sizeLine; decide, fun p30 hp31 => ?_⟩
    obtain ⟨F32, g34, e35⟩ := al2 (o := (.lst [V.str ("ab" : Str), V.str ("aa" : Str), V.str ("a" : Str), V.str ("abc" : Str)])) gb22.s (by intro _ _ z; cases z) hp31
    generalize upd H19 p30 (.lst [V.str ("ab" : Str), V.str ("aa" : Str), V.str ("a" : Str), V.str ("abc" : Str)]) = H33 at g34 ⊢
    have gb36 := gb22.tr g34
    have le37 := g34.le
    have cm38 := g34.fz cm24
    have al39 : Al rS F32 [.str ("ab" : Str), .str ("aa" : Str), .str ("a" : Str), .str ("abc" : Str)] [("ab" : Str), ("aa" : Str), ("a" : Str), ("abc" : Str)] := ⟨rfl, ⟨rfl, ⟨rfl, ⟨rfl, True.intro⟩⟩⟩⟩
    refine a_cons ?_
    refine a_lst ?_
    refine a_cons ?_
    refine a_c ?_
    have ln40 : ("z" : Str).length = 1 := by decide +kernel
    refine a_cons ?_
    refine a_c ?_
    have ln41 : ("y" : Str).length = 1 := by decide +kernel
    refine a_cons ?_
    refine a_c ?_
    have ln42 : ("za" : Str).length = 2 := by decide +kernel
    refine a_cons ?_
    refine a_c ?_
    have ln43 : ("zb" : Str).length = 2 := by decide +kernel
    refine a_nil ?_
    refine ⟨by show 4 ≤ sizeLine; decide, fun p44 hp45 => ?_⟩
    obtain ⟨F46, g48, e49⟩ := al2 (o := (.lst [V.str ("z" : Str), V.str ("y" : Str), V.str ("za" : Str), V.str ("zb" : Str)])) gb36.s (by intro _ _ z; cases z) hp45
    generalize upd H33 p44 (.lst [V.str ("z" : Str), V.str ("y" : Str), V.str ("za" : Str), V.str ("zb" : Str)]) = H47 at g48 ⊢
    have gb50 := gb36.tr g48
    have le51 := g48.le
    have cm52 := g48.fz cm38
    have al53 : Al rS F46 [.str ("z" : Str), .str ("y" : Str), .str ("za" : Str), .str ("zb" : Str)] [("z" : Str), ("y" : Str), ("za" : Str), ("zb" : Str)] := ⟨rfl, ⟨rfl, ⟨rfl, ⟨rfl, True.intro⟩⟩⟩⟩
    refine a_cons ?_
    refine a_lst ?_
    refine a_cons ?_
    refine a_c ?_
    have ln54 : ("left" : Str).length = 4 := by decide +kernel
    refine a_cons ?_
    refine a_c ?_
    have ln55 : ("of" : Str).length = 2 := by decide +kernel
    refine a_cons ?_
    refine a_c ?_
    have ln56 : ("l" : Str).length = 1 := by decide +kernel
    refine a_cons ?_
    refine a_c ?_
    have ln57 : ("o" : Str).length = 1 := by decide +kernel
    refine a_nil ?_
    refine ⟨by show 4 ≤ sizeLine; decide, fun p58 hp59 => ?_⟩
    obtain ⟨F60, g62, e63⟩ := al2 (o := (.lst [V.str ("left" : Str), V.str ("of" : Str), V.str ("l" : Str), V.str ("o" : Str)])) gb50.s (by intro _ _ z; cases z) hp59
    generalize upd H47 p58 (.lst [V.str ("left" : Str), V.str ("of" : Str), V.str ("l" : Str), V.str ("o" : Str)]) = H61 at g62 ⊢
    have gb64 := gb50.tr g62
    have le65 := g62.le
    have cm66 := g62.fz cm52
    have al67 : Al rS F60 [.str ("left" : Str), .str ("of" : Str), .str ("l" : Str), .str ("o" : Str)] [("left" : Str), ("of" : Str), ("l" : Str), ("o" : Str)] := ⟨rfl, ⟨rfl, ⟨rfl, ⟨rfl, True.intro⟩⟩⟩⟩
    refine a_nil ?_
    refine ⟨by show 4 ≤ sizeLine; decide, fun p68 hp69 => ?_⟩
    obtain ⟨F70, g72, e73⟩ := al2 (o := (.lst [V.ref p16, V.ref p30, V.ref p44, V.ref p58])) gb64.s (by intro _ _ z; cases z) hp69
    generalize upd H61 p68 (.lst [V.ref p16, V.ref p30, V.ref p44, V.ref p58]) = H71 at g72 ⊢
    have gb74 := gb64.tr g72
    have le75 := g72.le
    have cm76 := g72.fz cm66
    have al77 : Al (rL K rS) F70 [.ref p16, .ref p30, .ref p44, .ref p58] [[("a" : Str), ("b" : Str), ("c" : Str), ("d" : Str)], [("ab" : Str), ("aa" : Str), ("a" : Str), ("abc" : Str)], [("z" : Str), ("y" : Str), ("za" : Str), ("zb" : Str)], [("left" : Str), ("of" : Str), ("l" : Str), ("o" : Str)]] := ⟨⟨_, _, rfl, (Le.lst (((le37.trans le51).trans le65).trans le75) (SqL.of e21)), (Al.mo (((le37.trans le51).trans le65).trans le75) al25)⟩, ⟨⟨_, _, rfl, (Le.lst ((le51.trans le65).trans le75) (SqL.of e35)), (Al.mo ((le51.trans le65).trans le75) al39)⟩, ⟨⟨_, _, rfl, (Le.lst (le65.trans le75) (SqL.of e49)), (Al.mo (le65.trans le75) al53)⟩, ⟨⟨_, _, rfl, (Le.lst le75 (SqL.of e63)), (Al.mo le75 al67)⟩, True.intro⟩⟩⟩⟩
    refine a_name ?_
    try dsimp only
    refine a_seq ?_
    refine a_asg ?_
    refine a_op ?_
    refine a_op ?_
    refine a_var rfl ?_
    refine a_lst ?_
    refine a_cons ?_
    refine a_lst ?_
    refine a_cons ?_
    refine a_c ?_
    have ln78 : ("bottom" : Str).length = 6 := by decide +kernel
    refine a_cons ?_
    refine a_c ?_
    have ln79 : ("b" : Str).length = 1 := by decide +kernel
    refine a_cons ?_
    refine a_c ?_
    have ln80 : ("x" : Str).length = 1 := by decide +kernel
    refine a_cons ?_
    refine a_c ?_
    have ln81 : ("bo" : Str).length = 2 := by decide +kernel
    refine a_nil ?_
    have al82 : Al rS F70 [V.str ("bottom" : Str), V.str ("b" : Str), V.str ("x" : Str), V.str ("bo" : Str)] [("bottom" : Str), ("b" : Str), ("x" : Str), ("bo" : Str)] := ⟨rfl, ⟨rfl, ⟨rfl, ⟨rfl, True.intro⟩⟩⟩⟩
    refine ⟨by show 4 ≤ sizeLine; decide, fun p83 hp84 => ?_⟩
    obtain ⟨gb86, sm87, hb88, oF89, oH90, ne91⟩ := alo2 (o := (.lst [V.str ("bottom" : Str), V.str ("b" : Str), V.str ("x" : Str), V.str ("bo" : Str)])) gb74 hp84
    generalize upd H71 p83 (.lst [V.str ("bottom" : Str), V.str ("b" : Str), V.str ("x" : Str), V.str ("bo" : Str)]) = H85 at gb86 sm87 oH90 ⊢
    refine a_nil ?_
    obtain ⟨F92, gb93, cm94, le95s, e96, ne97⟩ := frz gb86 cm76 hb88 oF89 oH90 (by intro _ _ z; cases z)
    have le95 := Le.of le95s
    have al98 : Al (rL K rS) F92 [V.ref p83] [[("bottom" : Str), ("b" : Str), ("x" : Str), ("bo" : Str)]] := ⟨⟨_, _, rfl, (SqL.of e96), (Al.mo le95 al82)⟩, True.intro⟩
    refine ⟨by show 1 ≤ sizeLine; decide, fun p99 hp100 => ?_⟩
    obtain ⟨gb102, sm103, hb104, oF105, oH106, ne107⟩ := alo2 (o := (.lst [V.ref p83])) gb93 hp100
    generalize upd H85 p99 (.lst [V.ref p83]) = H101 at gb102 sm103 oH106 ⊢
    have al108 := (Al.mo le95 al77)
    have al109 := al98
    refine ⟨_, _, _, _, rfl, rfl, (gb102.s _ _ (le95s _ _ e73)), oH106, (Nat.le_trans (show _ ≤ 100000 by rw [Al.length al108, Al.length al109]; (show 4 + 1 ≤ 100000; decide)) (by decide)), fun p110 hp111 => ?_⟩
    obtain ⟨F112, g114, e115⟩ := al2 (o := (.lst ([V.ref p16, V.ref p30, V.ref p44, V.ref p58] ++ [V.ref p83]))) gb102.s (by intro _ _ z; cases z) hp111
    generalize upd H101 p110 (.lst ([V.ref p16, V.ref p30, V.ref p44, V.ref p58] ++ [V.ref p83])) = H113 at g114 ⊢
    have gb116 := gb102.tr g114
    have le117 := g114.le
    have oH118 := g114.h _ _ oH106
    have oF119 := g114.own oF105 oH106
    have cm120 := g114.fz cm94
    have al121 := Al.mo le117 (Al.app al108 al109)
    refine a_op ?_
    refine a_var rfl ?_
    refine a_c ?_
    refine a_I (by decide) ?_
    have m122 : 0 ≤ ((r4 % 2147483647) % 5) ∧ ((r4 % 2147483647) % 5) < 5 := ⟨Int.emod_nonneg _ (by decide), Int.emod_lt_of_pos _ (by decide)⟩
    obtain ⟨x124, v123, h125, h126, h127⟩ := Al.ix al121 (i := ((r4 % 2147483647) % 5)) (by walk_at "o") (by walk_at "ol")
    refine a_ixL (Same.seq gb116.s (SqL.of e115)) h126 ?_
    have ng := names_good (List.mem_of_getElem? h125)
    obtain ⟨a128, vs129, rfl, sq130, al131⟩ := h127
    refine a_name ?_
    try dsimp only
    refine a_seq ?_
    refine a_asg ?_
    refine a_call ?_
    refine a_cons ?_
    refine a_var rfl ?_
    refine a_cons ?_
    refine a_call ?_
    refine a_cons ?_
    refine a_var rfl ?_
    refine a_cons ?_
    refine a_c ?_
    refine a_nil ?_
    refine ⟨F112, _, _, script, 1, rfl, gb116.s, ⟨_, rfl, (Same.seq gb116.h hS)⟩, rfl, (by walk_at "o"), ?_⟩
    rintro v132 F133 H134 r135 g136 hr137 
    have gb139 := gb116.tr g136
    have le140 := g136.le
    have oH141 := g136.h _ _ oH118
    have oF142 := g136.own oF119 oH118
    have cm143 := g136.fz cm120
    obtain rfl : v132 = V.int r135 := hr137
    refine a_nil ?_
    refine ⟨F133, _, _, x124, r135, rfl, gb139.s, ⟨_, _, rfl, (Le.lst le140 sq130), (Al.mo le140 al131)⟩, rfl, (by exact ng), ?_⟩
    rintro v144 F145 H146 r147 g148 hr149 hp150
    have gb151 := gb139.tr g148
    have le152 := g148.le
    have oH153 := g148.h _ _ oH141
    have oF154 := g148.own oF142 oH141
    have cm155 := g148.fz cm143
    obtain ⟨a156, kvs157, rfl, rd158, dk159, nd160⟩ := hr149
    obtain ⟨pk1, pk2⟩ := hp150
    refine a_name ?_
    try dsimp only
    refine a_seq ?_
    refine a_asg ?_
    refine a_op ?_
    refine a_c ?_
    refine a_op ?_
    refine a_op ?_
    refine a_var rfl ?_
    refine a_c ?_
    refine a_I ⟨by decide, by decide⟩ ?_
    refine a_c ?_
    refine a_I (by decide) ?_
    have m161 : 0 ≤ (((r4 % 2147483647) / 5) % 24) ∧ (((r4 % 2147483647) / 5) % 24) < 24 := ⟨Int.emod_nonneg _ (by decide), Int.emod_lt_of_pos _ (by decide)⟩
    refine a_I0 ?_
    refine a_name ?_
    try dsimp only
    refine a_seq ?_
    refine a_asg ?_
    refine a_op ?_
    refine a_c ?_
    refine a_op ?_
    refine a_op ?_
    refine a_var rfl ?_
    refine a_c ?_
    refine a_I ⟨by decide, by decide⟩ ?_
    refine a_c ?_
    refine a_I (by decide) ?_
    have m162 : 0 ≤ (((r4 % 2147483647) / 120) % 16) ∧ (((r4 % 2147483647) / 120) % 16) < 16 := ⟨Int.emod_nonneg _ (by decide), Int.emod_lt_of_pos _ (by decide)⟩
    refine a_I0 ?_
    refine a_name ?_
    try dsimp only
    refine a_seqM (fun σ' H' => ∃ (F163 : Hp) (wide164 : Int) (high165 : Int) (kv166 : List V) (m167 : List (List Str)), σ' = [some (V.ref a), some (V.int (r4 % 2147483647)), some (V.ref a128), some (V.ref a156), some (V.int wide164), some (V.int high165), none, none, none, none, none, none, none] ∧ Gr0 (fun _ => none) H F163 H' ∧ Fz S0 F163 ∧ Le F145 F163 ∧ H' p99 = some (.lst kv166) ∧ F163 p99 = none ∧ Al (rL K rS) F163 kv166 m167 ∧ [[("bottom" : Str), ("b" : Str), ("x" : Str), ("bo" : Str)]] = m167 ∧ (1 ≤ wide164 ∧ wide164 ≤ 60 ∧ 1 ≤ high165 ∧ high165 ≤ 60)) (fun R hR => ?_) ?_
    · refine a_if ?_
      refine a_test ?_
      refine a_op ?_
      refine a_op ?_
      refine a_op ?_
      refine a_var rfl ?_
      refine a_c ?_
      refine a_I ⟨by decide, by decide⟩ ?_
      refine a_c ?_
      refine a_I (by decide) ?_
      have m168 : 0 ≤ (((r4 % 2147483647) / 2000) % 8) ∧ (((r4 % 2147483647) / 2000) % 8) < 8 := ⟨Int.emod_nonneg _ (by decide), Int.emod_lt_of_pos _ (by decide)⟩
      refine a_c ?_
      refine a_eqI ?_
      refine a_bl ?_
      refine iteD (fun c169 => ?_) (fun c169 => ?_)
      · refine a_seq ?_
        refine a_asg ?_
        refine a_c ?_
        refine a_name ?_
        try dsimp only
        refine a_asg ?_
        refine a_op ?_
        refine a_c ?_
        refine a_op ?_
        refine a_op ?_
        refine a_var rfl ?_
        refine a_c ?_
        refine a_I ⟨by decide, by decide⟩ ?_
        refine a_c ?_
        refine a_I (by decide) ?_
        have m170 : 0 ≤ (((r4 % 2147483647) / 16000) % 3) ∧ (((r4 % 2147483647) / 16000) % 3) < 3 := ⟨Int.emod_nonneg _ (by decide), Int.emod_lt_of_pos _ (by decide)⟩
        refine a_I0 ?_
        refine a_name ?_
        try dsimp only
        exact hR _ _ ⟨F145, 60, (1 + (((r4 % 2147483647) / 16000) % 3)), _, [[("bottom" : Str), ("b" : Str), ("x" : Str), ("bo" : Str)]], rfl, gb151, cm155, Le.refl _, oH153, oF154, (Al.mo ((le117.trans le140).trans le152) al98), rfl, by walk_at "o"⟩
      · refine a_next ?_
        try dsimp only
        exact hR _ _ ⟨F145, (1 + (((r4 % 2147483647) / 5) % 24)), (1 + (((r4 % 2147483647) / 120) % 16)), _, [[("bottom" : Str), ("b" : Str), ("x" : Str), ("bo" : Str)]], rfl, gb151, cm155, Le.refl _, oH153, oF154, (Al.mo ((le117.trans le140).trans le152) al98), rfl, by walk_at "o"⟩
    · rintro σ' H171 ⟨F172, wide176, high177, kv178, m179, rfl, gb173, cm174, le175, oH180, oF181, dk182, rfl, ⟨j1, j2, j3, j4⟩⟩
      refine a_seqM (fun σ' H' => ∃ (F183 : Hp) (wide184 : Int) (high185 : Int) (kv186 : List V) (m187 : List (List Str)), σ' = [some (V.ref a), some (V.int (r4 % 2147483647)), some (V.ref a128), some (V.ref a156), some (V.int wide184), some (V.int high185), none, none, none, none, none, none, none] ∧ Gr0 (fun _ => none) H F183 H' ∧ Fz S0 F183 ∧ Le F172 F183 ∧ H' p99 = some (.lst kv186) ∧ F183 p99 = none ∧ Al (rL K rS) F183 kv186 m187 ∧ [[("bottom" : Str), ("b" : Str), ("x" : Str), ("bo" : Str)]] = m187 ∧ (1 ≤ wide184 ∧ wide184 ≤ 60 ∧ 1 ≤ high185 ∧ high185 ≤ 60)) (fun R hR => ?_) ?_
      · refine a_if ?_
        refine a_test ?_
        refine a_op ?_
        refine a_op ?_
        refine a_op ?_
        refine a_var rfl ?_
        refine a_c ?_
        refine a_I ⟨by decide, by decide⟩ ?_
        refine a_c ?_
        refine a_I (by decide) ?_
        have m188 : 0 ≤ (((r4 % 2147483647) / 2000) % 8) ∧ (((r4 % 2147483647) / 2000) % 8) < 8 := ⟨Int.emod_nonneg _ (by decide), Int.emod_lt_of_pos _ (by decide)⟩
        refine a_c ?_
        refine a_eqI ?_
        refine a_bl ?_
        refine iteD (fun c189 => ?_) (fun c189 => ?_)
        · refine a_seq ?_
          refine a_asg ?_
          refine a_op ?_
          refine a_c ?_
          refine a_op ?_
          refine a_op ?_
          refine a_var rfl ?_
          refine a_c ?_
          refine a_I ⟨by decide, by decide⟩ ?_
          refine a_c ?_
          refine a_I (by decide) ?_
          have m190 : 0 ≤ (((r4 % 2147483647) / 16000) % 3) ∧ (((r4 % 2147483647) / 16000) % 3) < 3 := ⟨Int.emod_nonneg _ (by decide), Int.emod_lt_of_pos _ (by decide)⟩
          refine a_I0 ?_
          refine a_name ?_
          try dsimp only
          refine a_asg ?_
          refine a_c ?_
          refine a_name ?_
          try dsimp only
          exact hR _ _ ⟨F172, (1 + (((r4 % 2147483647) / 16000) % 3)), 60, _, [[("bottom" : Str), ("b" : Str), ("x" : Str), ("bo" : Str)]], rfl, gb173, cm174, Le.refl _, oH180, oF181, dk182, rfl, by walk_at "o"⟩
        · refine a_next ?_
          try dsimp only
          exact hR _ _ ⟨F172, wide176, high177, _, [[("bottom" : Str), ("b" : Str), ("x" : Str), ("bo" : Str)]], rfl, gb173, cm174, Le.refl _, oH180, oF181, dk182, rfl, by walk_at "o"⟩
      · rintro σ' H191 ⟨F192, wide196, high197, kv198, m199, rfl, gb193, cm194, le195, oH200, oF201, dk202, rfl, ⟨j1, j2, j3, j4⟩⟩
        have hndp : (r147.map (·.1)).Nodup := by assumption
        have hnep : ∀ e ∈ r147, 1 ≤ e.1.length := fun e h => (pk2 _ _ (mem_nd hndp h)).1.1
        refine a_seq ?_
        refine a_asg ?_
        refine a_cb ?_
        refine a_cons ?_
        refine a_var rfl ?_
        refine a_nil ?_
        refine ⟨_, _, rfl, (Same.rd gb193.s (Le.dic (le175.trans le195) rd158)), fun p203 hp204 => ?_⟩
        obtain ⟨gb206, sm207, hb208, oF209, oH210, ne211⟩ := alo2 (o := (.dK kvs157)) gb193 hp204
        generalize upd H191 p203 (.dK kvs157) = H205 at gb206 sm207 oH210 ⊢
        have ne212 := ne211 _ _ oH200
        have oH213 := sm207 _ _ oH200
        refine a_name ?_
        try dsimp only
        refine a_seq ?_
        refine a_asg ?_
        refine a_call ?_
        refine a_cons ?_
        refine a_var rfl ?_
        refine a_cons ?_
        refine a_var rfl ?_
        refine a_cons ?_
        refine a_var rfl ?_
        refine a_nil ?_
        obtain ⟨F214, gb215, cm216, le217s, e218, ne219⟩ := frz gb206 cm194 hb208 oF209 oH210 (by intro _ _ z; cases z)
        have le217 := Le.of le217s
        have oF220 := (ne219 _ ne212).trans oF201
        refine ⟨F214, _, _, _, r147, wide196, high197, rfl, gb215.s, ⟨_, _, rfl, (Rd.of e218), (Dk.mo le217 (Dk.mo (le175.trans le195) dk159)), nd160⟩, rfl, rfl, (by exact ⟨by omega, fun x p h => ⟨(pk2 x p h).1, (pk2 x p h).2.1⟩, by omega, by omega, by omega, by omega⟩), ?_⟩
        rintro v221 F222 H223  g225 hr226 
        obtain ⟨p228, vs229, rfl, hn230, oH231, oF232, al233⟩ := hr226
        have hb234 := gb215.h.free hn230
        have ne235 := ne_of_none oH213 hn230
        have gb236 := gb215.tr g225
        have le237 := g225.le
        have oH238 := g225.h _ _ oH213
        have oF239 := g225.own oF220 oH213
        have cm240 := g225.fz cm216
        refine a_name ?_
        try dsimp only
        refine a_seq ?_
        refine a_if ?_
        refine a_or ?_
        refine a_not ?_
        refine a_tB ?_
        refine a_cb ?_
        refine a_cons ?_
        refine a_var rfl ?_
        refine a_cons ?_
        refine a_c ?_
        refine a_nil ?_
        refine ⟨_, _, _, true, _, rfl, (tx_lst (SqL.of oH231)), rfl, rfl, ?_⟩
        refine a_bl ?_
        refine iteNT ?_
        refine a_or ?_
        refine a_test ?_
        refine a_op ?_
        refine a_cb ?_
        refine a_cons ?_
        refine a_var rfl ?_
        refine a_nil ?_
        refine ⟨_, _, rfl, .inl (SqL.of oH231), ?_⟩
        rw [Al.length al233]
        refine a_var rfl ?_
        refine a_neI ?_
        refine a_bl ?_
        refine iteDN (fun c241 => ?_) (fun c241 => ?_)
        · refine iteT ?_
          refine a_ret ?_
          refine a_c ?_
          exfalso
          first | exact c241 (by rw [drawS_len]; omega) | exact c241 (by omega) | exact c241 hsx
        · refine a_test ?_
          refine a_op ?_
          refine a_var rfl ?_
          refine a_var rfl ?_
          refine a_eqDr (K := K) gb236.s (Same.rd gb236.s (Le.dic le237 (Rd.of e218))) (Dk.mo le237 (Dk.mo le217 (Dk.mo (le175.trans le195) dk159))) (Same.rd gb236.s (Le.dic (((le175.trans le195).trans le217).trans le237) rd158)) (Dk.mo (((le175.trans le195).trans le217).trans le237) dk159) nd160 (by rfl) (by exact fun _ _ e => e) (by decide) ?_
          refine a_bl ?_
          refine iteF ?_
          refine a_next ?_
          try dsimp only
          refine a_seq ?_
          refine a_for ?_
          refine a_ienum ?_
          refine a_cons ?_
          refine a_var rfl ?_
          refine a_nil ?_
          refine ⟨_, rfl, ⟨_, (SqL.of oH231)⟩, for_enum (xs := vs229) (K := K) (a := p228) (fun i σ' H' => ∃ (F242 : Hp) (kv243 : List V) (m244 : List (List Str)) (kv245 : List V) (found246 : List Str) (o247 : Option V) (o248 : Option V) (o249 : Option V) (o250 : Option V), σ' = [some (V.ref a), some (V.int (r4 % 2147483647)), some (V.ref a128), some (V.ref a156), some (V.int wide196), some (V.int high197), some (V.ref p203), some (V.ref p228), o249, o250, o247, o248, none] ∧ Gr0 (fun _ => none) H F242 H' ∧ Fz S0 F242 ∧ Le F222 F242 ∧ H' p99 = some (.lst kv243) ∧ F242 p99 = none ∧ Al (rL K rS) F242 kv243 m244 ∧ [[("bottom" : Str), ("b" : Str), ("x" : Str), ("bo" : Str)]] = m244 ∧ kv198 = kv243 ∧ H' p228 = some (.lst kv245) ∧ F242 p228 = none ∧ Al rS F242 kv245 found246 ∧ (drawS r147 wide196 high197) = found246 ∧ vs229 = kv245 ∧ (True)) ?_ ?_ ?_ ?_⟩
          · exact ⟨F222, _, [[("bottom" : Str), ("b" : Str), ("x" : Str), ("bo" : Str)]], _, (drawS r147 wide196 high197), _, _, _, _, rfl, gb236, cm240, Le.refl _, oH238, oF239, (Al.mo (le217.trans le237) dk202), rfl, rfl, oH231, oF232, al233, rfl, rfl, by trivial⟩
          · rintro i σ' H251 _ ⟨F252, kv257, m258, kv259, m260, o261, o262, o263, o264, rfl, gb253, cm254, le255, oH265, oF266, dk267, rfl, rfl, oH268, oF269, dk270, rfl, rfl, inv256⟩
            exact (SqL.of oH268)
          · rintro i271 y274 σ' H272 p294 hi273 ⟨F275, kv280, m281, kv282, m283, o284, o285, o286, o287, rfl, gb276, cm277, le278, oH288, oF289, dk290, rfl, rfl, oH291, oF292, dk293, rfl, rfl, inv279⟩ hp295
            obtain ⟨x296, hx297, hr298⟩ := Al.get dk293 hi273
            obtain rfl : y274 = V.str x296 := hr298
            refine it2 (K := K) gb276.s hp295 (fun F299 H300 g301 e302 => ?_)
            have gb303 := gb276.tr g301
            have le304 := g301.le
            have oH305 := g301.h _ _ oH288
            have oF306 := g301.own oF289 oH288
            have oH307 := g301.h _ _ oH291
            have oF308 := g301.own oF292 oH291
            have cm309 := g301.fz cm277
            try dsimp only
            have hil := (List.getElem?_eq_some_iff.mp hx297).1
            have hy0 := hx297
            obtain ⟨hsl, hsg⟩ := drawS_get hndp hnep (by omega) (by omega) hy0
            have hyl := (List.getElem?_eq_some_iff.mp hy0).1
            rw [drawS_len] at hyl
            refine a_seq ?_
            refine a_if ?_
            refine a_or ?_
            refine a_not ?_
            refine a_tB ?_
            refine a_cb ?_
            refine a_cons ?_
            refine a_var rfl ?_
            refine a_cons ?_
            refine a_c ?_
            refine a_nil ?_
            refine ⟨_, _, _, true, _, rfl, tx_str, rfl, rfl, ?_⟩
            refine a_bl ?_
            refine iteNT ?_
            refine a_test ?_
            refine a_op ?_
            refine a_cb ?_
            refine a_cons ?_
            refine a_var rfl ?_
            refine a_nil ?_
            refine ⟨_, rfl, Nat.le_trans (show x296.length ≤ 100000 by omega) (by decide), ?_⟩
            refine a_var rfl ?_
            refine a_neI ?_
            refine a_bl ?_
            refine iteDN (fun c310 => ?_) (fun c310 => ?_)
            · refine a_ret ?_
              refine a_c ?_
              exfalso
              first | exact c310 (by rw [drawS_len]; omega) | exact c310 (by omega) | exact c310 hsx
            · refine a_next ?_
              try dsimp only
              refine a_for ?_
              refine a_ienumS ?_
              refine a_cons ?_
              refine a_var rfl ?_
              refine a_nil ?_
              refine ⟨_, rfl, for_enumS (x := x296) (fun i σ' H' => ∃ (F311 : Hp) (kv312 : List V) (m313 : List (List Str)) (kv314 : List V) (found315 : List Str) (o316 : Option V) (o317 : Option V), σ' = [some (V.ref a), some (V.int (r4 % 2147483647)), some (V.ref a128), some (V.ref a156), some (V.int wide196), some (V.int high197), some (V.ref p203), some (V.ref p228), some (V.int (i271 : Nat)), some (V.str x296), o316, o317, none] ∧ Gr0 (fun _ => none) H F311 H' ∧ Fz S0 F311 ∧ Le F299 F311 ∧ H' p99 = some (.lst kv312) ∧ F311 p99 = none ∧ Al (rL K rS) F311 kv312 m313 ∧ [[("bottom" : Str), ("b" : Str), ("x" : Str), ("bo" : Str)]] = m313 ∧ kv198 = kv312 ∧ H' p228 = some (.lst kv314) ∧ F311 p228 = none ∧ Al rS F311 kv314 found315 ∧ (drawS r147 wide196 high197) = found315 ∧ vs229 = kv314 ∧ (True)) ?_ ?_ ?_⟩
              · exact ⟨F299, _, [[("bottom" : Str), ("b" : Str), ("x" : Str), ("bo" : Str)]], _, (drawS r147 wide196 high197), _, _, rfl, gb303, cm309, Le.refl _, oH305, oF306, (Al.mo le304 dk290), rfl, rfl, oH307, oF308, (Al.mo le304 dk293), rfl, rfl, by trivial⟩
              · rintro i318 ch319 σ' H320 p321 hx322 ⟨F324, kv329, m330, kv331, m332, o333, o334, rfl, gb325, cm326, le327, oH335, oF336, dk337, rfl, rfl, oH338, oF339, dk340, rfl, rfl, inv328⟩ hp323
                refine it2 (K := K) gb325.s hp323 (fun F341 H342 g343 e344 => ?_)
                have gb345 := gb325.tr g343
                have le346 := g343.le
                have oH347 := g343.h _ _ oH335
                have oF348 := g343.own oF336 oH335
                have oH349 := g343.h _ _ oH338
                have oF350 := g343.own oF339 oH338
                have cm351 := g343.fz cm326
                try dsimp only
                have hil : i318 < x296.length := (Array.getElem?_eq_some_iff.mp hx322).1
                have hsx := hsg _ _ hx322
                refine a_if ?_
                refine a_test ?_
                refine a_op ?_
                refine a_var rfl ?_
                refine a_call ?_
                refine a_cons ?_
                refine a_var rfl ?_
                refine a_cons ?_
                refine a_var rfl ?_
                refine a_cons ?_
                refine a_var rfl ?_
                refine a_nil ?_
                refine ⟨F341, _, _, _, r147, (i318 : Int), (i271 : Int), rfl, gb345.s, cm351, ⟨_, _, rfl, (Le.dic (((((((le175.trans le195).trans le217).trans le237).trans le278).trans le304).trans le327).trans le346) rd158), (Dk.mo (((((((le175.trans le195).trans le217).trans le237).trans le278).trans le304).trans le327).trans le346) dk159), nd160⟩, rfl, rfl, (by exact ⟨⟨by omega, by omega, by omega, by omega⟩, pk2⟩), ?_⟩
                rintro v352 F353 H354  g356 hr357 
                have gb359 := gb345.tr g356
                have le360 := g356.le
                have oH361 := g356.h _ _ oH347
                have oF362 := g356.own oF348 oH347
                have oH363 := g356.h _ _ oH349
                have oF364 := g356.own oF350 oH349
                have cm365 := g356.fz cm351
                obtain rfl : v352 = V.str (signS r147 ((i318 : Int)).toNat ((i271 : Int)).toNat) := hr357
                refine a_neS ?_
                refine a_bl ?_
                refine iteDN (fun c366 => ?_) (fun c366 => ?_)
                · refine a_ret ?_
                  refine a_c ?_
                  exfalso
                  first | exact c366 (by rw [drawS_len]; omega) | exact c366 (by omega) | exact c366 hsx
                · refine a_next ?_
                  try dsimp only
                  exact ⟨F353, _, [[("bottom" : Str), ("b" : Str), ("x" : Str), ("bo" : Str)]], _, (drawS r147 wide196 high197), _, _, rfl, gb359, cm365, ((le327.trans le346).trans le360), oH361, oF362, (Al.mo (le346.trans le360) dk337), rfl, rfl, oH363, oF364, (Al.mo (le346.trans le360) dk340), rfl, rfl, by trivial⟩
              · rintro σ' H367 ⟨F368, kv373, m374, kv375, m376, o377, o378, rfl, gb369, cm370, le371, oH379, oF380, dk381, rfl, rfl, oH382, oF383, dk384, rfl, rfl, inv372⟩
                try dsimp only
                exact ⟨F368, _, [[("bottom" : Str), ("b" : Str), ("x" : Str), ("bo" : Str)]], _, (drawS r147 wide196 high197), _, _, _, _, rfl, gb369, cm370, ((le278.trans le304).trans le371), oH379, oF380, dk381, rfl, rfl, oH382, oF383, dk384, rfl, rfl, by trivial⟩
          · rintro σ' H385 ⟨F386, kv391, m392, kv393, m394, o395, o396, o397, o398, rfl, gb387, cm388, le389, oH399, oF400, dk401, rfl, rfl, oH402, oF403, dk404, rfl, rfl, inv390⟩
            have hlen := Al.length dk404
            try dsimp only
            refine a_seq ?_
            refine a_asg ?_
            refine a_cb ?_
            refine a_cons ?_
            refine a_var rfl ?_
            refine a_nil ?_
            have al405 := dk404
            refine ⟨_, _, rfl, .inl (SqL.of oH402), fun p406 hp407 => ?_⟩
            obtain ⟨F408, g410, e411⟩ := al2 (o := (.lst vs229)) gb387.s (by intro _ _ z; cases z) hp407
            generalize upd H385 p406 (.lst vs229) = H409 at g410 ⊢
            have gb412 := gb387.tr g410
            have le413 := g410.le
            have oH414 := g410.h _ _ oH399
            have oF415 := g410.own oF400 oH399
            have oH416 := g410.h _ _ oH402
            have oF417 := g410.own oF403 oH402
            have cm418 := g410.fz cm388
            refine a_name ?_
            try dsimp only
            refine a_seq ?_
            refine a_drop ?_
            refine a_bm0 ?_
            refine a_var rfl ?_
            refine ⟨tyV_lst oH416, _, _, rfl, rfl, oH416, (chg (R := fun H' => _) gb412 hb234 oF417 (fun H419 gb420 oH421 ne422 => ?_))⟩
            have oH423 := (ne422 _ ne235).trans oH414
            try dsimp only
            refine a_ret ?_
            refine a_op ?_
            refine a_call ?_
            refine a_cons ?_
            refine a_var rfl ?_
            refine a_cons ?_
            refine a_var rfl ?_
            refine a_cons ?_
            refine a_var rfl ?_
            refine a_nil ?_
            refine ⟨F408, _, _, _, r147, wide196, high197, rfl, gb420.s, ⟨_, _, rfl, (Le.dic (((((le175.trans le195).trans le217).trans le237).trans le389).trans le413) rd158), (Dk.mo (((((le175.trans le195).trans le217).trans le237).trans le389).trans le413) dk159), nd160⟩, rfl, rfl, (by exact ⟨by omega, fun x p h => ⟨(pk2 x p h).1, (pk2 x p h).2.1⟩, by omega, by omega, by omega, by omega⟩), ?_⟩
            rintro v424 F425 H426  g428 hr429 
            obtain ⟨p431, vs432, rfl, hn433, oH434, oF435, al436⟩ := hr429
            have hb437 := gb420.h.free hn433
            have ne438 := ne_of_none oH423 hn433
            have ne439 := ne_of_none oH421 hn433
            have gb440 := gb420.tr g428
            have le441 := g428.le
            have oH442 := g428.h _ _ oH423
            have oF443 := g428.own oF415 oH423
            have oH444 := g428.h _ _ oH421
            have oF445 := g428.own oF417 oH421
            have cm446 := g428.fz cm418
            refine a_var rfl ?_
            obtain ⟨F447, gb448, cm449, le450s, e451, ne452⟩ := frz gb440 cm446 hb437 oF435 oH434 (by intro _ _ z; cases z)
            have le450 := Le.of le450s
            have oF453 := (ne452 _ ne438).trans oF443
            have oF454 := (ne452 _ ne439).trans oF445
            refine ⟨F447, (drawS r147 wide196 high197), (drawS r147 wide196 high197), gb448.s, ⟨_, _, rfl, (SqL.of e451), (Al.mo le450 al436)⟩, ⟨_, _, rfl, (Le.lst (le441.trans le450) (SqL.of e411)), (Al.mo (le441.trans le450) (Al.mo le413 al405))⟩, ?_⟩
            rw [show (decide ((drawS r147 wide196 high197) = (drawS r147 wide196 high197))) = true from by exact decide_eq_true rfl]
            exact k _
end
theorem walk {l : PySem.W.OpenLaw} {q : Program} {loose : List Str} {XP : (Str → Option Value) → Heap → Prop} {YP : World → Heap → Prop} {d : DefRec} {K : Params → PySem.W.Frag} (hn : l.most = some 63) (hdf : d.params.defaults = []) (hnm : d.name = "law")
    (hY : ∀ (w : World) (h : Heap), YP w h → (K w.params).In h)
    (F : ∀ (w : World) (mg : Str → Option Value) (h : Heap), (K w.params).In h → h.Ns mainGlobals mg → Nonempty (Tx (K w.params) mg)) :
    PySem.W.WalkO q loose XP YP l.row.toRowW d [] (fun f vs => PySem.call f vs) := by
  refine L2.walk_of (n := 63) (k := 8) (x := "_law_script") (CX := fun _ => CX0) (sp := fun w => sp_law (K w.params)) hn (by decide) hdf ⟨rfl, by decide, by decide⟩ hY ?_ (fun _ _ a ns hl _ hS => ⟨a, ns, rfl, hS, hl, fun _ => rfl⟩) fun _ _ _ _ _ z => z
  intro w mg fa h KX G hmg
  obtain ⟨T⟩ := F w mg h KX G
  rw [hnm] at hmg
  have e := hmg.symm.trans T.m_law
  cases e
  refine ⟨T.d_law, fun s v => ?_, fun base _ _ => ok_law T⟩
  obtain ⟨oc, od, kV, doc, pm, an, cdv, ct, osl, hfd, lk, hcd⟩ := T.F_law.ex
  rw [hfd]
  exact .of_eq rfl
end Sf
open PySem PySem.W PyProof.Rows
set_option maxRecDepth 100000 in
set_option maxHeartbeats 0 in
theorem PySem.Challenge.cw_springframe_k81_drawings_holds : PySem.Challenge.rw_springframe_k81_drawings.Holds := by
  w_on; o_law; k_head; (case hw => w_witness2)
  k_fill
  refine Sf.walk (l := PySem.Challenge.rw_springframe_k81_drawings) rfl rfl rfl (fun w h Y => PySem.W.kIn_of Y) ?F
  case F =>
    intro w mg h KX G
    refine' ⟨Sf.tx_mk KX G ?e0 ?l0 ?c0 ?k0 ?e1 ?l1 ?c1 ?k1 ?e2 ?l2 ?c2 ?k2 ?e3 ?l3 ?c3 ?k3 ?e4 ?l4 ?c4 ?k4 ?e5 ?l5 ?c5 ?k5 ?e6 ?l6 ?c6 ?k6 ?e7 ?l7 ?c7 ?k7 ?e8 ?l8 ?c8 ?k8 ?e9 ?l9 ?c9 ?k9 ?e10 ?l10 ?c10 ?k10 ?e11 ?l11 ?c11 ?k11 ?e12 ?l12 ?c12 ?k12 ?e13 ?l13 ?c13 ?k13 ?yi_NO_PANE ?z0 ?z1 ?z2 ?z3 ?z4 ?z5 ?z6 ?z7 ?z8 ?z9⟩
    (case e0 => k_is)
    (case l0 => k_is)
    (case c0 => k_is)
    (case k0 => k_is)
    (case e1 => k_is)
    (case l1 => k_is)
    (case c1 => k_is)
    (case k1 => k_is)
    (case e2 => k_is)
    (case l2 => k_is)
    (case c2 => k_is)
    (case k2 => k_is)
    (case e3 => k_is)
    (case l3 => k_is)
    (case c3 => k_is)
    (case k3 => k_is)
    (case e4 => k_is)
    (case l4 => k_is)
    (case c4 => k_is)
    (case k4 => k_is)
    (case e5 => k_is)
    (case l5 => k_is)
    (case c5 => k_is)
    (case k5 => k_is)
    (case e6 => k_is)
    (case l6 => k_is)
    (case c6 => k_is)
    (case k6 => k_is)
    (case e7 => k_is)
    (case l7 => k_is)
    (case c7 => k_is)
    (case k7 => k_is)
    (case e8 => k_is)
    (case l8 => k_is)
    (case c8 => k_is)
    (case k8 => k_is)
    (case e9 => k_is)
    (case l9 => k_is)
    (case c9 => k_is)
    (case k9 => k_is)
    (case e10 => k_is)
    (case l10 => k_is)
    (case c10 => k_is)
    (case k10 => k_is)
    (case e11 => k_is)
    (case l11 => k_is)
    (case c11 => k_is)
    (case k11 => k_is)
    (case e12 => k_is)
    (case l12 => k_is)
    (case c12 => k_is)
    (case k12 => k_is)
    (case e13 => k_is)
    (case l13 => k_is)
    (case c13 => k_is)
    (case k13 => k_is)
    (case yi_NO_PANE => k_is)
    (case z0 => k_is)
    (case z1 => k_is)
    (case z2 => k_is)
    (case z3 => k_is)
    (case z4 => k_is)
    (case z5 => k_is)
    (case z6 => k_is)
    (case z7 => k_is)
    (case z8 => k_is)
    (case z9 => k_is)
#print axioms PySem.Challenge.cw_springframe_k81_drawings_holds

