import PyProof.Rows.All
import Wide.All
import OpenK.AllK
import Wide.FinOn
import Lean
import PyProof.EqAt
import PyProof.EqKinds
import PyProof.TupleCall
import PySem.Challenge.RW_springframe_k13_across_and_down
set_option Elab.async false
set_option linter.all false
set_option maxRecDepth 100000
namespace L2
open PySem PySem.Spec PyProof.Rows
abbrev Key := Sum Int Str
def keyIs : Key → Value → Bool
  | .inl k, v => Value.isInt k v
  | .inr x, v => Value.isStrOf x v
def keyH (w : World) : Key → Int
  | .inl k => hashInt k
  | .inr x => hashStr w x
theorem keyIs_shape : ∀ {k : Key} {v : Value}, keyIs k v = true → (∃ i t, k = Sum.inl i ∧ v = Value.int i t) ∨ (∃ x t, k = Sum.inr x ∧ v = Value.str x t)
  | .inl i, v, h => by
    obtain ⟨t, e⟩ := Value.isInt_shape (k := i) (v := v) h
    exact .inl ⟨i, t, rfl, e⟩
  | .inr x, v, h => by
    obtain ⟨t, e⟩ := Value.isStrOf_shape (x := x) (v := v) h
    exact .inr ⟨x, t, rfl, e⟩
theorem keyIs_int (i : Int) (t : Tok) : keyIs (.inl i) (.int i t) = true := by simp [keyIs, Value.isInt]
theorem keyIs_str (x : Str) (t : Tok) : keyIs (.inr x) (.str x t) = true := by simp [keyIs, Value.isStrOf]
theorem key_ll (a b : Int) : decide ((Sum.inl a : Key) = Sum.inl b) = (a == b) := by
  by_cases e : a = b
  · subst e; simp
  · have h : ¬ (Sum.inl a : Key) = Sum.inl b := fun q => e (Sum.inl.inj q)
    rw [decide_eq_false h]
    exact (beq_eq_false_iff_ne.mpr e).symm
theorem key_rr (a b : Str) : decide ((Sum.inr a : Key) = Sum.inr b) = decide (a = b) := by
  by_cases e : a = b
  · subst e; simp
  · have h : ¬ (Sum.inr a : Key) = Sum.inr b := fun q => e (Sum.inr.inj q)
    rw [decide_eq_false h, decide_eq_false e]
theorem key_lr (a : Int) (b : Str) : decide ((Sum.inl a : Key) = Sum.inr b) = false := decide_eq_false (fun q => nomatch q)
theorem key_rl (a : Str) (b : Int) : decide ((Sum.inr a : Key) = Sum.inl b) = false := decide_eq_false (fun q => nomatch q)
def mixKind (prog : Program) (w : World) : PySem.KeyKind prog w Key where
  is := keyIs
  hash := keyH w
  inj := fun v a b ha hb => by
    rcases keyIs_shape ha with ⟨i, t, rfl, rfl⟩ | ⟨x, t, rfl, rfl⟩
    · rcases keyIs_shape hb with ⟨j, u, rfl, e⟩ | ⟨y, u, rfl, e⟩
      · injection e with e1 _; rw [e1]
      · exact nomatch e
    · rcases keyIs_shape hb with ⟨j, u, rfl, e⟩ | ⟨y, u, rfl, e⟩
      · exact nomatch e
      · injection e with e1 _; rw [e1]
  byValue := fun k v h => by
    rcases keyIs_shape h with ⟨i, t, rfl, rfl⟩ | ⟨x, t, rfl, rfl⟩ <;> rfl
  pyHash := fun hv h => by
    rcases keyIs_shape hv with ⟨i, t, rfl, rfl⟩ | ⟨x, t, rfl, rfl⟩
    · exact wpAny_pyHash_int h
    · exact wpAny_pyHash_str h
  eqBool := fun hu hv h => by
    rcases keyIs_shape hu with ⟨i, t, rfl, rfl⟩ | ⟨x, t, rfl, rfl⟩
    · rcases keyIs_shape hv with ⟨j, u, rfl, rfl⟩ | ⟨y, u, rfl, rfl⟩
      · rw [key_ll] at h; exact wpAny_eqBool_int h
      · rw [key_lr] at h; exact SeqAt.EqAt.int_str i t y u _ _ _ _ h
    · rcases keyIs_shape hv with ⟨j, u, rfl, rfl⟩ | ⟨y, u, rfl, rfl⟩
      · rw [key_rl] at h; exact SeqAt.EqAt.str_int x t j u _ _ _ _ h
      · rw [key_rr] at h; exact wpAny_eqBool_str h
  «strs» := fun k x t v h => by
    rcases keyIs_shape h with ⟨i, u, rfl, e⟩ | ⟨y, u, rfl, e⟩
    · exact nomatch e
    · injection e with e1 _
      subst e1
      cases v <;> rfl
theorem mixKind_int (prog : Program) (w : World) (i : Int) (t : Tok) : (mixKind prog w).is (.inl i) (.int i t) = true := keyIs_int i t
theorem mixKind_str (prog : Program) (w : World) (x : Str) (t : Tok) : (mixKind prog w).is (.inr x) (.str x t) = true := keyIs_str x t
end L2
namespace L2
open PySem PySem.Spec PyProof.Rows
inductive V where
  | non | bl (b : Bool) | int (i : Int) | str (x : Str) | byt (b : Array UInt8) | flt (b : UInt64) | ref (a : Addr) | ty (n : String)
  deriving DecidableEq
def RelV : V → Value → Prop
  | .non, u => u = Value.none
  | .bl b, u => u = Value.bool b
  | .int i, u => ∃ t, u = Value.int i t
  | .str x, u => ∃ t, u = Value.str x t
  | .byt b, u => ∃ t, u = Value.bytes b t
  | .flt b, u => ∃ t, u = Value.float b t
  | .ref a, u => u = Value.ref a
  | .ty n, u => u = Value.type n
abbrev Vals : List V → List Value → Prop := Paired RelV
theorem Vals.length {xs : List V} {us : List Value} (r : Vals xs us) : xs.length = us.length := Paired.length r
theorem Vals.get : ∀ {xs : List V} {us : List Value} {i : Nat} {x : V}, Vals xs us → xs[i]? = some x → ∃ u, us[i]? = some u ∧ RelV x u
  | _, _, _, _, .nil, e => by simp at e
  | _, _, 0, _, .cons r _, e => by simp at e; subst e; exact ⟨_, rfl, r⟩
  | _, _, i + 1, x, .cons _ t, e => by
    obtain ⟨u, h1, h2⟩ := Vals.get (i := i) (x := x) t (by simpa using e)
    exact ⟨u, by simpa using h1, h2⟩
theorem Vals.set {x : V} {u : Value} (r : RelV x u) : ∀ {xs : List V} {us : List Value} (i : Nat), Vals xs us → Vals (xs.set i x) (us.set i u)
  | _, _, _, .nil => .nil
  | _, _, 0, .cons _ t => .cons r t
  | _, _, i + 1, .cons q t => .cons q (Vals.set r i t)
theorem Vals.append : ∀ {xs ys : List V} {us ws : List Value}, Vals xs us → Vals ys ws → Vals (xs ++ ys) (us ++ ws)
  | _, _, _, _, .nil, s => s
  | _, _, _, _, .cons r t, s => .cons r (Vals.append t s)
theorem Vals.take : ∀ {xs : List V} {us : List Value} (n : Nat), Vals xs us → Vals (xs.take n) (us.take n)
  | _, _, 0, _ => .nil
  | _, _, _ + 1, .nil => .nil
  | _, _, n + 1, .cons r t => .cons r (Vals.take n t)
theorem Vals.drop : ∀ {xs : List V} {us : List Value} (n : Nat), Vals xs us → Vals (xs.drop n) (us.drop n)
  | _, _, 0, r => r
  | _, _, _ + 1, .nil => .nil
  | _, _, n + 1, .cons _ t => Vals.drop n t
theorem Vals.none_of : ∀ {xs : List V} {us : List Value} {i : Nat}, Vals xs us → xs[i]? = none → us[i]? = none := fun {xs us i} r e => by
  have h1 := r.length
  have h2 : xs.length ≤ i := List.getElem?_eq_none_iff.mp e
  exact List.getElem?_eq_none_iff.mpr (by omega)
def RelO : Option V → Option Value → Prop
  | some v, some u => RelV v u
  | none, none => True
  | _, _ => False
def KV {κ : Type} : List (κ × V) → List (κ × Value) → Prop := Paired fun (p : κ × V) (q : κ × Value) => p.1 = q.1 ∧ RelV p.2 q.2
def kV : Key → V
  | .inl i => .int i
  | .inr x => .str x
inductive HO where
  /-- a list -/
  | lst (xs : List V)
  /-- a tuple (never changes) -/
  | tup (xs : List V)
  /-- a dict whose keys are ints and texts; one whose keys are tuples of ints and texts (the empty one is both) -/
  | dK (kvs : List (Key × V)) | dT (kvs : List (List Key × V))
  /-- a set of ints: its members, its size -/
  | set (S : Int → Bool) (n : Nat)
  /-- an instance of the class at C, its dict at dx, its attributes -/
  | ins (C dx : Addr) (fs : List (Str × V))
  /-- the dict of the instance at x -/
  | own (x : Addr)
  /-- the dict of an exception -/
  | xd (fs : List (Str × V))
  /-- a bound method, f of x -/
  | met (f x : Addr)
  /-- a range object lo, lo + 1, .. below hi -/
  | rng (lo hi : Int)
  /-- a thing that is known to the object (the script; a dict while a loop walks it): read, never written while it is so -/
  | frz (o : Obj) (u : HO)
  /-- a code object's table -/
  | tbl (ps : Array Value)
  /-- any other thing, by what is true of its one object (a def of one's own: SetO a S n := HO.ext fun h => ..) -/
  | ext (φ : Heap → Prop)
abbrev Hp := Addr → Option HO
def upd (H : Hp) (a : Addr) (o : HO) : Hp := fun b => if b = a then some o else H b
theorem upd_same {H : Hp} {a : Addr} {o : HO} : upd H a o a = some o := by unfold upd; rw [if_pos rfl]
theorem upd_ne {H : Hp} {a b : Addr} {o : HO} (h : b ≠ a) : upd H a o b = H b := by unfold upd; rw [if_neg h]
theorem upd_upd {H : Hp} {a : Addr} {o u : HO} : upd (upd H a o) a u = upd H a u := by
  funext b; unfold upd; split <;> rfl
theorem ne_of {H : Hp} {a b : Addr} {o u : HO} (h : H a = some o) (h' : H b = some u) (d : o ≠ u) : a ≠ b := by
  intro e; subst e; rw [h] at h'; exact d (Option.some.inj h')
theorem ne_of_none {H : Hp} {a b : Addr} {o : HO} (h : H a = some o) (h' : H b = none) : a ≠ b := by
  intro e; subst e; rw [h] at h'; cases h'
section
variable (P : Program) (w : World)
def ObjOk (H : Hp) (h : Heap) (a : Addr) : HO → Prop
  | .lst xs => xs.length ≤ sizeLine ∧ ∃ (its : List Value) (n : Nat), Vals xs its ∧ h.get? a = some { cls := .type "list", data := .seq its.toArray n }
  | .tup xs => xs.length ≤ sizeLine ∧ ∃ its : List Value, Vals xs its ∧ IsTup h a its.toArray
  | .dK kvs => kvs.length ≤ sizeLine ∧ (a == sysModules) = false ∧ ∃ vs, KV kvs vs ∧ h.DictOf (mixKind P w) a vs
  | .dT kvs => kvs.length ≤ sizeLine ∧ (a == sysModules) = false ∧ ∃ xs : List (List Key × Addr × Value),
      Paired (fun (p : List Key × V) (q : List Key × Addr × Value) => p.1 = q.1 ∧ H q.2.1 = some (.tup (p.1.map kV)) ∧ RelV p.2 q.2.2) kvs xs ∧
      ∃ o es ep, h.get? a = some o ∧ o.ExactDict ∧ o.data = .dict es ep ∧ es.toList = xs.map (entryOfKey (tupleKind (mixKind P w))) ∧ (xs.map (·.1)).Nodup
  | .set S n => h.SetOf (intKind P w) a S n
  | .ins C dx fs => H dx = some (.own a) ∧ fs.length ≤ 1000 ∧ dx ≠ a ∧ h.get? a = some (PySem.W.instObj C dx) ∧
      ∃ mA, h.Ns1 dx mA ∧ (∀ f, RelO (fs.lookup f) (mA f)) ∧ PySem.Within mA (fs.map (·.1))
  | .own _ => ∃ o, h.get? a = some o
  | .xd fs => ∃ mA, h.Ns1 a mA ∧ ∀ f, RelO (fs.lookup f) (mA f)
  | .rng lo hi => ∃ t u v, h.get? a = some { cls := .type "range", data := .fields #[.int lo t, .int hi u, .int 1 v] }
  | .frz o u => h.get? a = some o ∧ ObjOk H h a u
  | .tbl ps => h.get? a = some { cls := .none, data := .fields ps }
  | .met f x => h.get? a = some (PySem.W.methodObj (.ref f) (.ref x))
  | .ext φ => φ h ∧ (∃ o, h.get? a = some o) ∧ ∀ h1 h2 : Heap, φ h1 → (∀ o, h1.get? a = some o → h2.get? a = some o) → φ h2
def HOk (H : Hp) (h : Heap) : Prop := ∀ a o, H a = some o → ObjOk P w H h a o
end
section
variable {P : Program} {w : World} {H H' : Hp} {h h' : Heap} {a : Addr} {o : HO}
theorem ObjOk.lt (x : ObjOk P w H h a o) : a < h.objs.size := by
  cases o with
  | lst xs => obtain ⟨_, _, _, _, e⟩ := x; exact Heap.lt_size e
  | tup xs => obtain ⟨_, _, _, p⟩ := x; exact p.lt
  | dK kvs => obtain ⟨_, _, _, _, o, _, _, e, _⟩ := x; exact Heap.lt_size e
  | dT kvs => obtain ⟨_, _, _, _, o, _, _, e, _⟩ := x; exact Heap.lt_size e
  | set S n => obtain ⟨o, _, _, _, e, _⟩ := x; exact Heap.lt_size e
  | ins C dx fs => obtain ⟨_, _, _, e, _⟩ := x; exact Heap.lt_size e
  | own y => obtain ⟨_, e⟩ := x; exact Heap.lt_size e
  | xd fs => obtain ⟨_, ⟨_, _, _, e, _⟩, _⟩ := x; exact Heap.lt_size e
  | rng lo hi => obtain ⟨_, _, _, e⟩ := x; exact Heap.lt_size e
  | frz ob u => obtain ⟨e, _⟩ := x; exact Heap.lt_size e
  | tbl ps => exact Heap.lt_size (show h.get? a = some _ from x)
  | met f y => exact Heap.lt_size (show h.get? a = some _ from x)
  | ext φ => obtain ⟨_, ⟨_, e⟩, _⟩ := x; exact Heap.lt_size e
theorem Paired.mapP {α β : Type} {F G : α → β → Prop} : ∀ {l₁ : List α} {l₂ : List β}, Paired F l₁ l₂ → (∀ a b, F a b → G a b) → Paired G l₁ l₂
  | _, _, .nil, _ => .nil
  | _, _, .cons r t, f => .cons (f _ _ r) (Paired.mapP t f)
theorem ObjOk.stay (x : ObjOk P w H h a o) (k : ∀ b u, (b = a ∨ H b = some (.own a)) → h.get? b = some u → h'.get? b = some u)
    (ho : ∀ b, H b = some (.own a) → H' b = some (.own a)) (ht : ∀ b xs, H b = some (.tup xs) → H' b = some (.tup xs)) : ObjOk P w H' h' a o := by
  induction o with
  | lst xs => obtain ⟨z, its, n, r, e⟩ := x; exact ⟨z, its, n, r, k _ _ (.inl rfl) e⟩
  | tup xs => obtain ⟨z, its, r, ob, e, c⟩ := x; exact ⟨z, its, r, ob, k _ _ (.inl rfl) e, c⟩
  | dK kvs => obtain ⟨z, y, vs, r, ob, es, ep, e, c⟩ := x; exact ⟨z, y, vs, r, ob, es, ep, k _ _ (.inl rfl) e, c⟩
  | dT kvs =>
    obtain ⟨z, y, xs, r, ob, es, ep, e, c⟩ := x
    exact ⟨z, y, xs, Paired.mapP r fun p q z => ⟨z.1, ht _ _ z.2.1, z.2.2⟩, ob, es, ep, k _ _ (.inl rfl) e, c⟩
  | set S n => obtain ⟨ob, es, ep, t, e, c⟩ := x; exact ⟨ob, es, ep, t, k _ _ (.inl rfl) e, c⟩
  | ins C dx fs =>
    obtain ⟨d, z, ne, e, mA, ⟨od, es, ep, e2, c⟩, r⟩ := x
    exact ⟨ho _ d, z, ne, k _ _ (.inl rfl) e, mA, ⟨od, es, ep, k _ _ (.inr d) e2, c⟩, r⟩
  | own y => obtain ⟨ob, e⟩ := x; exact ⟨ob, k _ _ (.inl rfl) e⟩
  | xd fs => obtain ⟨mA, ⟨od, es, ep, e, c⟩, r⟩ := x; exact ⟨mA, ⟨od, es, ep, k _ _ (.inl rfl) e, c⟩, r⟩
  | rng lo hi => obtain ⟨t, u, v, e⟩ := x; exact ⟨t, u, v, k _ _ (.inl rfl) e⟩
  | frz ob u ih => obtain ⟨e, q⟩ := x; exact ⟨k _ _ (.inl rfl) e, ih q⟩
  | tbl ps =>
    have e : h.get? a = some { cls := .none, data := .fields ps } := x
    show h'.get? a = some { cls := .none, data := .fields ps }
    exact k a _ (.inl rfl) e
  | met f y =>
    have e : h.get? a = some (PySem.W.methodObj (.ref f) (.ref y)) := x
    show h'.get? a = some (PySem.W.methodObj (.ref f) (.ref y))
    exact k a _ (.inl rfl) e
  | ext φ => obtain ⟨p, ⟨o, e⟩, st⟩ := x; exact ⟨st _ _ p fun o q => k _ _ (.inl rfl) q, ⟨o, k _ _ (.inl rfl) e⟩, st⟩
theorem HOk.lt (x : HOk P w H h) (e : H a = some o) : a < h.objs.size := (x a o e).lt
theorem HOk.fresh (x : HOk P w H h) (e : h.objs.size ≤ a) : H a = none := by
  cases q : H a with
  | none => rfl
  | some u => exact absurd (Nat.lt_of_lt_of_le (x.lt q) e) (Nat.lt_irrefl _)
theorem HOk.kept (x : HOk P w H h) (k : ∀ b u, h.get? b = some u → h'.get? b = some u) : HOk P w H h' := fun a o e =>
  (x a o e).stay (fun b u _ q => k b u q) (fun _ q => q) fun _ _ q => q
theorem HOk.laid (x : HOk P w H h) (k : ∀ b u, h.get? b = some u → h'.get? b = some u) (hp : h.objs.size ≤ a) (new : ObjOk P w (upd H a o) h' a o) : HOk P w (upd H a o) h' := fun b u e => by
  have hn := x.fresh hp
  by_cases hb : b = a
  · subst hb; rw [upd_same] at e; cases e; exact new
  · rw [upd_ne hb] at e
    exact (x b u e).stay (fun c v _ q => k c v q) (fun c q => by rw [upd_ne (ne_of_none q hn)]; exact q) fun c xs q => by rw [upd_ne (ne_of_none q hn)]; exact q
end
def Rd (H : Hp) (a : Addr) (u : HO) : Prop := H a = some u ∨ ∃ o, H a = some (.frz o u)
theorem Rd.of {H : Hp} {a : Addr} {u : HO} (h : H a = some u) : Rd H a u := .inl h
theorem Rd.ok {P : Program} {w : World} {H : Hp} {h : Heap} {a : Addr} {u : HO} (r : Rd H a u) (x : HOk P w H h) : ObjOk P w H h a u := by
  rcases r with r | ⟨o, r⟩
  · exact x a u r
  · obtain ⟨_, q⟩ := x a _ r
    exact q
def Mut : Option HO → Prop
  | some (.lst _) => True
  | some (.dK _) => True
  | some (.dT _) => True
  | some (.set _ _) => True
  | some (.ins _ _ _) => True
  | some (.ext _) => True
  | _ => False
section
variable {P : Program} {w : World} {H : Hp} {h h' : Heap} {x e : Addr} {o' : HO}
theorem HOk.write (ok : HOk P w H h) (mu : Mut (H x)) (he : e = x ∨ H e = some (.own x)) (k : ∀ b u, b ≠ e → h.get? b = some u → h'.get? b = some u) (heo : ∃ u, h'.get? e = some u)
    (new : ObjOk P w (upd H x o') h' x o') : HOk P w (upd H x o') h' := fun b u q => by
  have nown : ∀ c y, H c = some (.own y) → c ≠ x := fun c y r z => by subst z; rw [r] at mu; exact mu
  have ntup : ∀ c xs, H c = some (.tup xs) → c ≠ x := fun c xs r z => by subst z; rw [r] at mu; exact mu
  by_cases hb : b = x
  · subst hb; rw [upd_same] at q; cases q; exact new
  · rw [upd_ne hb] at q
    by_cases hbe : b = e
    · have q' : H b = some (.own x) := by
        rcases he with z | z
        · exact absurd (hbe.trans z) hb
        · rw [hbe]; exact z
      rw [q] at q'; cases q'
      obtain ⟨v, hv⟩ := heo
      exact ⟨v, by rw [hbe]; exact hv⟩
    · refine (ok b u q).stay (fun c v hc r => k c v ?_ r) (fun c r => by rw [upd_ne (nown c b r)]; exact r) fun c xs r => by rw [upd_ne (ntup c xs r)]; exact r
      rcases hc with rfl | hc
      · exact hbe
      · rintro rfl
        rcases he with z | z
        · exact nown c b hc z
        · rw [hc] at z; cases z; exact hb rfl
end
structure Un (fs ex : List Addr) (H H' : Hp) (h h' : Heap) : Prop where
  keep : ∀ b o, h.get? b = some o → H b = none → b ∉ fs → b ∉ ex → h'.get? b = some o
  slot : ∀ b o, h.get? b = some o → H b = none → b ∈ fs → b ∉ ex → ∃ sl, h'.get? b = some { o with slots := sl }
  free : ∀ b o, h.get? b = some o → H b = none → b ∉ ex → H' b = none
  there : ∀ b o, h.get? b = some o → b ∉ ex → ∃ o', h'.get? b = some o'
  tups : ∀ b xs, H b = some (.tup xs) → H' b = some (.tup xs)
  frzs : ∀ b o u, H b = some (.frz o u) → H' b = some (.frz o u)
  tbls : ∀ b ps, H b = some (.tbl ps) → ∃ more, H' b = some (.tbl (ps ++ more))
section
variable {fs fs' ex ex' : List Addr} {H H1 H2 : Hp} {h h1 h2 h' : Heap} {a x e : Addr} {o : HO}
theorem Un.any (u : Un fs ex H H1 h h1) {b : Addr} {ob : Obj} (q : h.get? b = some ob) (n : H b = none) (hx : b ∉ ex) : ∃ sl, h1.get? b = some { ob with slots := sl } := by
  by_cases hb : b ∈ fs
  · exact u.slot b ob q n hb hx
  · exact ⟨ob.slots, u.keep b ob q n hb hx⟩
theorem Un.trans (a : Un fs ex H H1 h h1) (b : Un fs ex H1 H2 h1 h2) : Un fs ex H H2 h h2 where
  keep := fun c ob q n hc hx => b.keep c ob (a.keep c ob q n hc hx) (a.free c ob q n hx) hc hx
  slot := fun c ob q n hc hx => by
    obtain ⟨sl, e1⟩ := a.slot c ob q n hc hx
    obtain ⟨sl', e2⟩ := b.slot c _ e1 (a.free c ob q n hx) hc hx
    exact ⟨sl', e2⟩
  free := fun c ob q n hx => by
    obtain ⟨o', e1⟩ := a.there c ob q hx
    exact b.free c o' e1 (a.free c ob q n hx) hx
  there := fun c ob q hx => by
    obtain ⟨o', e1⟩ := a.there c ob q hx
    exact b.there c o' e1 hx
  tups := fun c xs q => b.tups c xs (a.tups c xs q)
  frzs := fun c ob xs q => b.frzs c ob xs (a.frzs c ob xs q)
  tbls := fun c ps q => by
    obtain ⟨m1, e1⟩ := a.tbls c ps q
    obtain ⟨m2, e2⟩ := b.tbls c _ e1
    exact ⟨m1 ++ m2, by rw [e2, Array.append_assoc]⟩
theorem Un.kept (k : ∀ b u, h.get? b = some u → h'.get? b = some u) : Un fs ex H H h h' :=
  ⟨fun b ob q _ _ _ => k b ob q, fun b ob q _ _ _ => ⟨ob.slots, k b ob q⟩, fun _ _ _ n _ => n, fun b ob q _ => ⟨ob, k b ob q⟩, fun _ _ q => q, fun _ _ _ q => q, fun _ ps q => ⟨#[], by rw [q]; simp⟩⟩
theorem Un.refl : Un fs ex H H h h := Un.kept fun _ _ q => q
theorem Un.laid (k : ∀ b u, h.get? b = some u → h'.get? b = some u) (hp : h.objs.size ≤ a) (hn : H a = none) : Un fs ex H (upd H a o) h h' where
  keep := fun b u q _ _ _ => k b u q
  slot := fun b u q _ _ _ => ⟨u.slots, k b u q⟩
  free := fun b u q n _ => by rw [upd_ne (Nat.ne_of_lt (Nat.lt_of_lt_of_le (Heap.lt_size q) hp))]; exact n
  there := fun b u q _ => ⟨u, k b u q⟩
  tups := fun b xs q => by rw [upd_ne (ne_of_none q hn)]; exact q
  frzs := fun b u xs q => by rw [upd_ne (ne_of_none q hn)]; exact q
  tbls := fun b ps q => ⟨#[], by rw [upd_ne (ne_of_none q hn), q]; simp⟩
theorem Un.write (mu : Mut (H x)) (he : e = x ∨ H e = some (.own x)) (k : ∀ b u, b ≠ e → h.get? b = some u → h'.get? b = some u) (heo : ∃ u, h'.get? e = some u) : Un fs ex H (upd H x o) h h' := by
  have hx : ∀ b, H b = none → b ≠ x := fun b n z => by subst z; rw [n] at mu; exact mu
  have hb : ∀ b, H b = none → b ≠ e := fun b n z => by
    subst z
    rcases he with r | r
    · exact hx b n r
    · rw [n] at r; cases r
  have hm : ∀ b u, H b = some u → ¬ Mut (some u) → b ≠ x := fun b u q nm z => by subst z; rw [q] at mu; exact nm mu
  refine ⟨fun b u q n _ _ => k b u (hb b n) q, fun b u q n _ _ => ⟨u.slots, k b u (hb b n) q⟩, fun b u q n _ => by rw [upd_ne (hx b n)]; exact n, fun b u q _ => ?_,
    fun b xs q => by rw [upd_ne (hm b _ q fun z => z)]; exact q, fun b u xs q => by rw [upd_ne (hm b _ q fun z => z)]; exact q, fun b ps q => ⟨#[], by rw [upd_ne (hm b _ q fun z => z), q]; simp⟩⟩
  by_cases hbe : b = e
  · subst hbe; exact heo
  · exact ⟨u, k b u hbe q⟩
theorem Un.mono (u : Un fs ex H H1 h h1) (hs : ∀ b ∈ fs, b ∈ fs') (hx : ∀ b ∈ ex, b ∈ ex') : Un fs' ex' H H1 h h1 :=
  ⟨fun b ob q n hb he => u.keep b ob q n (fun z => hb (hs b z)) fun z => he (hx b z), fun _ _ q n _ he => u.any q n fun z => he (hx _ z), fun b ob q n he => u.free b ob q n fun z => he (hx b z), fun b ob q he => u.there b ob q fun z => he (hx b z), u.tups, u.frzs, u.tbls⟩
end
def trk (h : Heap) (H : Hp) : List Addr := (List.range h.objs.size).filter fun a => (H a).isSome
def hidT (h : Heap) (H : Hp) : Heap := PySem.W.hideAll h (trk h H)
theorem hidT_size (h : Heap) (H : Hp) : (hidT h H).objs.size = h.objs.size := PySem.W.hideAll_size _ _
theorem hidT_get {h : Heap} {H : Hp} {b : Addr} {o : Obj} (e : h.get? b = some o) (n : H b = none) : (hidT h H).get? b = some o :=
  PySem.W.hideAll_get _ e fun hm => by
    have q : (H b).isSome = true := (List.mem_filter.mp hm).2
    rw [n] at q; simp at q
theorem of_hidT {h : Heap} {H : Hp} {b : Addr} {o : Obj} (e : (hidT h H).get? b = some o) : h.get? b = some o ∧ H b = none := by
  have e' : h.get? b = some o := PySem.W.of_hideAll (trk h H) e
  refine ⟨e', ?_⟩
  cases q : H b with
  | none => rfl
  | some x =>
    have hm : b ∈ trk h H := List.mem_filter.mpr ⟨List.mem_range.mpr (Heap.lt_size e'), by simp [q]⟩
    have z : (hidT h H).get? b = none := PySem.W.hideAll_none (trk h H) hm
    rw [z] at e; cases e
def allNews (g h : Heap) (L : Addr) : List (Addr × Obj) := (List.range h.objs.size).filterMap fun a => if a = L ∨ (g.get? a).isSome = true then none else (h.get? a).map fun o => (a, o)
def rest (g h : Heap) (L d : Addr) : List (Addr × Obj) := (allNews g h L).filter fun p => decide (p.1 ≠ d)
end L2
namespace L2
open PySem PySem.Spec PyProof.Rows
structure Mod (K : PySem.W.Frag) (mg : Str → Option Value) (base : Heap) : Prop where
  kin : K.In base
  glob : base.Ns mainGlobals mg
  blt : ∃ mb, base.Ns builtinsNs mb ∧ ∀ x : Str, x ≠ "__name__" → mb x = bootBuiltins x
  nolimit : base.NoLimit
structure Cx where
  prog : Program
  w : World
  K : PySem.W.Frag
  mg : Str → Option Value
  base : Heap
  A : Around
  N : List Str
  s₀ : Shared
  H₀ : Hp
  env : Env
  outer : List Env
  stack : List Env
  ex : List Addr
  fn : Str → Bool
  calm : Bool
  pn : List (Addr × Obj)
  xe : Value → Shared → Prop
def frs (l : List Env) : List Addr := l.filterMap (·.frame)
abbrev Cx.fs (X : Cx) : List Addr := frs X.outer
def Vis (sc : Scope) (x : Str) : Prop := sc.names.lookup x = some .local ∨ sc.names.lookup x = some .cell ∨ sc.names.lookup x = some .free
def Loc (sc : Scope) (x : Str) : Prop := sc.names.lookup x = some .local ∨ sc.names.lookup x = some .cell
def Look (env : Env) (h : Heap) (m : Str → Option Value) (x : Str) (u : Value) : Prop :=
  (env.kindOf x = some .local ∧ m x = some u) ∨ ((env.kindOf x = some .cell ∨ env.kindOf x = some .free) ∧ ∃ c, env.cells.lookup x = some c ∧ h.IsCell c (some u))
structure Cx.Ok (X : Cx) : Prop where
  mod : Mod X.K X.mg X.base
  kind : X.env.scope.kind = .function
  glob : X.env.globals = mainGlobals
  blt : X.env.builtins = builtinsNs
  above : X.s₀.heap.objs.size ≤ X.env.locals
  inj : ∀ x y c, X.env.cells.lookup x = some c → X.env.cells.lookup y = some c → x = y
  has : ∀ x, (X.env.kindOf x = some .cell ∨ X.env.kindOf x = some .free) → ∃ c, X.env.cells.lookup x = some c
  cab : ∀ x c, X.fn x = true → X.env.cells.lookup x = some c → X.s₀.heap.objs.size ≤ c
  hd : X.calm = true → X.A.handled = none
  frames : X.A.frames = some X.stack
  stk : X.stack = X.outer ∨ (X.stack = X.env :: X.outer ∧ X.env.frame = some X.env.locals)
  exf : ∀ b ∈ X.ex, b ≠ X.env.locals ∧ ∀ x c, X.env.cells.lookup x = some c → c ≠ b
  bs : ∀ b o, X.base.get? b = some o → X.s₀.heap.get? b = some o ∧ X.H₀ b = none
  bsz : X.base.objs.size ≤ X.s₀.heap.objs.size
  noex : ∀ b o, X.base.get? b = some o → b ∉ X.ex
  exfs : ∀ b ∈ X.ex, b ∉ X.fs
  funs : X.s₀.heap.FunFrames X.base X.outer
  frf : ∀ b ∈ X.fs, X.H₀ b = none
structure Inv (X : Cx) (pins : List (Addr × Obj)) (σ : List (Option V)) (H : Hp) (s : Shared) : Prop where
  ok : X.Ok
  os : s.os = X.s₀.os
  bare : AllBare s.gens
  base : Un X.fs X.ex X.H₀ H X.s₀.heap s.heap
  loc : ∃ m, s.heap.Ns X.env.locals m ∧ ∀ (i : Nat) (x : Str) (v : V), X.N[i]? = some x → σ[i]? = some (some v) → Vis X.env.scope x → ∃ u, RelV v u ∧ Look X.env s.heap m x u
  cell : ∀ x c, X.env.cells.lookup x = some c → ∃ v, s.heap.IsCell c v
  free : H X.env.locals = none
  freeC : ∀ x c, X.env.cells.lookup x = some c → H c = none
  pin : ∀ p ∈ X.pn ++ pins, s.heap.get? p.1 = some p.2 ∧ H p.1 = none ∧ p.1 ≠ X.env.locals ∧ p.1 ∉ X.fs ∧ ∀ v, p.2.data ≠ .cell v
  hok : HOk X.prog X.w H s.heap
  len : σ.length = X.N.length
section
variable {X : Cx} {pins : List (Addr × Obj)} {σ : List (Option V)} {H H' : Hp} {s : Shared} {h' : Heap}
theorem Cx.Ok.nofr (ok : X.Ok) {b : Addr} {o : Obj} (e : X.base.get? b = some o) : b ∉ X.fs := fun hb => by
  have := (ok.funs.mem hb).1
  rw [e] at this; cases this
theorem Inv.bs (I : Inv X pins σ H s) : ∀ b o, X.base.get? b = some o → s.heap.get? b = some o ∧ H b = none := fun b o e =>
  ⟨I.base.keep b o (I.ok.bs b o e).1 (I.ok.bs b o e).2 (I.ok.nofr e) (I.ok.noex b o e), I.base.free b o (I.ok.bs b o e).1 (I.ok.bs b o e).2 (I.ok.noex b o e)⟩
theorem Inv.bk (I : Inv X pins σ H s) : ∀ b o, X.base.get? b = some o → s.heap.get? b = some o := fun b o e => (I.bs b o e).1
theorem Inv.mod (I : Inv X pins σ H s) : Mod X.K X.mg X.base := I.ok.mod
theorem Inv.kIn (I : Inv X pins σ H s) : X.K.In s.heap := I.ok.mod.kin.keeps I.bk
theorem Inv.nolimit (I : Inv X pins σ H s) : s.heap.NoLimit := I.ok.mod.nolimit.keeps I.bk
theorem Inv.lt (I : Inv X pins σ H s) : X.env.locals < s.heap.objs.size := let ⟨_, hn, _⟩ := I.loc; hn.lt
theorem Inv.sz (I : Inv X pins σ H s) : X.s₀.heap.objs.size ≤ s.heap.objs.size := Nat.le_trans I.ok.above (Nat.le_of_lt I.lt)
theorem Inv.nofs (I : Inv X pins σ H s) {a : Addr} (h : s.heap.objs.size ≤ a) : a ∉ X.fs := fun hb => by
  obtain ⟨_, o, ho, _⟩ := I.ok.funs.mem hb
  exact absurd (Nat.lt_of_lt_of_le (Heap.lt_size ho) (Nat.le_trans I.sz h)) (Nat.lt_irrefl _)
theorem Inv.cne (I : Inv X pins σ H s) : ∀ x c, X.env.cells.lookup x = some c → c ≠ X.env.locals := fun x c e z => by
  obtain ⟨v, o, ho, hd⟩ := I.cell x c e
  obtain ⟨m, ⟨o', es, ep, ho', hd', _⟩, _⟩ := I.loc
  rw [z, ho'] at ho; cases ho; rw [hd'] at hd; cases hd
theorem Inv.funs (I : Inv X pins σ H s) : s.heap.FunFrames X.base X.outer := by
  have all : ∀ (l : List Env), (∀ b ∈ frs l, b ∈ X.fs) → X.s₀.heap.FunFrames X.base l → s.heap.FunFrames X.base l := by
    intro l
    induction l with
    | nil => intro _ _; trivial
    | cons env r ih =>
      intro hs hl
      obtain ⟨hk, ⟨L, o, hf, hn, ho, hd⟩, hr⟩ := hl
      have hL : L ∈ X.fs := hs L (by unfold frs; rw [List.filterMap_cons, hf]; exact List.mem_cons_self)
      obtain ⟨sl, e⟩ := I.base.slot L o ho (I.ok.frf L hL) hL fun z => I.ok.exfs L z hL
      exact ⟨hk, ⟨L, _, hf, hn, e, hd⟩, ih (fun b hb => hs b (by unfold frs; rw [List.filterMap_cons, hf]; exact List.mem_cons_of_mem _ hb)) hr⟩
  exact all X.outer (fun _ hb => hb) I.ok.funs
theorem Inv.stack (I : Inv X pins σ H s) : s.heap.FunFrames X.base X.stack := by
  rcases I.ok.stk with e | ⟨e, hf⟩
  · rw [e]; exact I.funs
  · rw [e]
    obtain ⟨m, hn, _⟩ := I.loc
    refine .cons (by rw [I.ok.kind]; decide) hf hn ?_ I.funs
    exact Heap.get?_none_of_le (Nat.le_trans I.ok.bsz I.ok.above)
theorem Inv.stkSub (I : Inv X pins σ H s) : ∀ b ∈ frs X.stack, b ∈ X.env.locals :: X.fs := fun b hb => by
  rcases I.ok.stk with e | ⟨e, hf⟩
  · rw [e] at hb; exact List.mem_cons_of_mem _ hb
  · rw [e] at hb
    unfold frs at hb
    rw [List.filterMap_cons, hf] at hb
    exact hb
theorem Inv.stkFree (I : Inv X pins σ H s) : ∀ b ∈ frs X.stack, H b = none := fun b hb => by
  rcases List.mem_cons.mp (I.stkSub b hb) with e | hb
  · rw [e]; exact I.free
  · obtain ⟨_, o, ho, _⟩ := I.ok.funs.mem hb
    exact I.base.free b o ho (I.ok.frf b hb) fun z => I.ok.exfs b z hb
theorem Inv.step {g' : Array GenState} {t' : Nat} {d' : Drawn} {ch : List Addr} (I : Inv X pins σ H s)
    (hch : ∀ b ∈ ch, (b ∈ X.ex ∨ X.s₀.heap.objs.size ≤ b) ∧ b ≠ X.env.locals ∧ (∀ x c, X.env.cells.lookup x = some c → c ≠ b) ∧ ∀ p ∈ X.pn ++ pins, p.1 ≠ b)
    (keep : ∀ b o, b ≠ X.env.locals → b ∉ X.fs → b ∉ ch → s.heap.get? b = some o → H b = none → h'.get? b = some o)
    (slot : ∀ b o, b ≠ X.env.locals → b ∈ X.fs → b ∉ ch → s.heap.get? b = some o → H b = none → ∃ sl, h'.get? b = some { o with slots := sl }) (free : ∀ b o, b ∉ ch → s.heap.get? b = some o → H b = none → H' b = none)
    (there : ∀ b o, b ∉ ch → s.heap.get? b = some o → ∃ o', h'.get? b = some o')
    (tups : ∀ b xs, H b = some (.tup xs) → H' b = some (.tup xs)) (frzs : ∀ b o u, H b = some (.frz o u) → H' b = some (.frz o u)) (tbls : ∀ b ps, H b = some (.tbl ps) → ∃ more, H' b = some (.tbl (ps ++ more)))
    (ns : ∀ m, s.heap.Ns X.env.locals m → h'.Ns X.env.locals m) (hok : HOk X.prog X.w H' h') (hg : AllBare g') :
    Inv X pins σ H' { s with heap := h', gens := g', drawn := d', toks := t' } := by
  have neL : ∀ b o, X.s₀.heap.get? b = some o → b ≠ X.env.locals := fun b o e => Nat.ne_of_lt (Nat.lt_of_lt_of_le (Heap.lt_size e) I.ok.above)
  have neC : ∀ b o, X.s₀.heap.get? b = some o → b ∉ X.ex → b ∉ ch := fun b o e hx hb => by
    rcases (hch b hb).1 with z | z
    · exact hx z
    · exact absurd (Nat.lt_of_lt_of_le (Heap.lt_size e) z) (Nat.lt_irrefl _)
  have cellK : ∀ x c, X.env.cells.lookup x = some c → ∀ v, s.heap.IsCell c v → h'.IsCell c v := fun x c e v ⟨o, ho, hd⟩ => by
    have nch : c ∉ ch := fun z => (hch c z).2.2.1 x c e rfl
    by_cases hc : c ∈ X.fs
    · obtain ⟨sl, q⟩ := slot c o (I.cne x c e) hc nch ho (I.freeC x c e)
      exact ⟨_, q, hd⟩
    · exact ⟨o, keep c o (I.cne x c e) hc nch ho (I.freeC x c e), hd⟩
  refine ⟨I.ok, I.os, hg, ⟨fun b o e n hb hx => ?_, fun b o e n hb hx => ?_, fun b o e n hx => ?_, fun b o e hx => ?_, fun b xs e => tups b xs (I.base.tups b xs e), fun b o xs e => frzs b o xs (I.base.frzs b o xs e), fun b ps e => ?_⟩, ?_, fun x c e => ?_, ?_, fun x c e => ?_, fun p hp => ?_, hok, I.len⟩
  · exact keep b o (neL b o e) hb (neC b o e hx) (I.base.keep b o e n hb hx) (I.base.free b o e n hx)
  · obtain ⟨sl, e1⟩ := I.base.slot b o e n hb hx
    obtain ⟨sl', e2⟩ := slot b _ (neL b o e) hb (neC b o e hx) e1 (I.base.free b o e n hx)
    exact ⟨sl', e2⟩
  · obtain ⟨o', e1⟩ := I.base.there b o e hx
    exact free b o' (neC b o e hx) e1 (I.base.free b o e n hx)
  · obtain ⟨o', e1⟩ := I.base.there b o e hx
    exact there b o' (neC b o e hx) e1
  · obtain ⟨m1, e1⟩ := I.base.tbls b ps e
    obtain ⟨m2, e2⟩ := tbls b _ e1
    exact ⟨m1 ++ m2, by rw [e2, Array.append_assoc]⟩
  · obtain ⟨m, hn, hl⟩ := I.loc
    refine ⟨m, ns m hn, fun i x v e1 e2 e3 => ?_⟩
    obtain ⟨u, r, l⟩ := hl i x v e1 e2 e3
    refine ⟨u, r, ?_⟩
    rcases l with l | ⟨k, c, e, z⟩
    · exact .inl l
    · exact .inr ⟨k, c, e, cellK x c e _ z⟩
  · obtain ⟨v, z⟩ := I.cell x c e
    exact ⟨v, cellK x c e v z⟩
  · obtain ⟨m, ⟨o, _, _, ho, _⟩, _⟩ := I.loc
    exact free _ o (fun z => (hch _ z).2.1 rfl) ho I.free
  · obtain ⟨v, o, ho, hd⟩ := I.cell x c e
    exact free c o (fun z => (hch c z).2.2.1 x c e rfl) ho (I.freeC x c e)
  · obtain ⟨e, n, ne, nf, d⟩ := I.pin p hp
    have nch : p.1 ∉ ch := fun z => (hch p.1 z).2.2.2 p hp rfl
    exact ⟨keep p.1 p.2 ne nf nch e n, free p.1 p.2 nch e n, ne, nf, d⟩
theorem Inv.un {t' : Nat} (I : Inv X pins σ H s) (u : Un X.fs [] H H' s.heap h') (hok : HOk X.prog X.w H' h') : Inv X pins σ H' { s with heap := h', toks := t' } := by
  obtain ⟨m, ⟨o, es, ep, ho, r⟩, _⟩ := id I.loc
  obtain ⟨sl, hL⟩ := u.any ho I.free (by simp)
  exact I.step (g' := s.gens) (d' := s.drawn) (ch := []) (fun _ z => nomatch z) (fun b o _ hb _ e n => u.keep b o e n hb (by simp)) (fun b o _ hb _ e n => u.slot b o e n hb (by simp)) (fun b o _ e n => u.free b o e n (by simp)) (fun b o _ e => u.there b o e (by simp)) u.tups u.frzs u.tbls (fun m' hm => by
    obtain ⟨o', es', ep', ho', r'⟩ := hm
    rw [ho] at ho'; cases ho'
    exact ⟨_, es', ep', hL, r'⟩) hok I.bare
theorem Inv.call {g' : Array GenState} {t' : Nat} {d' : Drawn} {ch : List Addr} (I : Inv X pins σ H s) (u : Un (frs X.stack) ch H H' s.heap h') (hok : HOk X.prog X.w H' h') (hg : AllBare g')
    (hch : ∀ b ∈ ch, (b ∈ X.ex ∨ X.s₀.heap.objs.size ≤ b) ∧ b ≠ X.env.locals ∧ (∀ x c, X.env.cells.lookup x = some c → c ≠ b) ∧ ∀ p ∈ X.pn ++ pins, p.1 ≠ b) :
    Inv X pins σ H' { s with heap := h', gens := g', drawn := d', toks := t' } := by
  obtain ⟨m, ⟨o, es, ep, ho, r⟩, _⟩ := id I.loc
  obtain ⟨sl, hL⟩ := u.any ho I.free fun z => (hch _ z).2.1 rfl
  exact I.step (ch := ch) hch (fun b o hL hb hc e n => u.keep b o e n (fun z => (List.mem_cons.mp (I.stkSub b z)).elim hL hb) hc) (fun b o _ _ hc e n => u.any e n hc) (fun b o hc e n => u.free b o e n hc) (fun b o hc e => u.there b o e hc) u.tups u.frzs u.tbls (fun m' hm => by
    obtain ⟨o', es', ep', ho', r'⟩ := hm
    rw [ho] at ho'; cases ho'
    exact ⟨_, es', ep', hL, r'⟩) hok hg
theorem Inv.turned {t' : Nat} {it : Addr} (I : Inv X pins σ H s) (k : ∀ b o, b ≠ it → s.heap.get? b = some o → h'.get? b = some o) (hn : H it = none) (hL : it ≠ X.env.locals)
    (h1 : it ∈ X.ex ∨ X.s₀.heap.objs.size ≤ it) (h2 : ∀ x c, X.env.cells.lookup x = some c → c ≠ it) (h3 : ∀ p ∈ X.pn ++ pins, p.1 ≠ it) : Inv X pins σ H { s with heap := h', toks := t' } := by
  have nit : ∀ b u, H b = some u → b ≠ it := fun b u e z => by rw [z, hn] at e; cases e
  refine I.step (g' := s.gens) (d' := s.drawn) (ch := [it]) (fun b hb => ?_) (fun b o _ _ hc e _ => k b o (fun z => hc (by simp [z])) e) (fun b o _ _ hc e _ => ⟨o.slots, k b o (fun z => hc (by simp [z])) e⟩) (fun _ _ _ _ n => n)
    (fun b o hc e => ⟨o, k b o (fun z => hc (by simp [z])) e⟩) (fun _ _ e => e) (fun _ _ _ e => e) (fun b ps e => ⟨#[], by rw [e]; simp⟩) (fun m hm => ?_) (fun b u e => ?_) I.bare
  · have e : b = it := by simpa using hb
    subst e
    exact ⟨h1, hL, h2, h3⟩
  · obtain ⟨o, es, ep, ho, r⟩ := hm
    exact ⟨o, es, ep, k _ o (Ne.symm hL) ho, r⟩
  · refine (I.hok b u e).stay (fun c v hc q => k c v ?_ q) (fun _ q => q) fun _ _ q => q
    rcases hc with z | z
    · rw [z]; exact nit b u e
    · exact nit c _ z
theorem Inv.tok (I : Inv X pins σ H s) (t : Nat) : Inv X pins σ H { s with toks := t } := I.un (h' := s.heap) (t' := t) Un.refl I.hok
theorem Inv.kept {t' : Nat} (I : Inv X pins σ H s) (k : ∀ b u, s.heap.get? b = some u → h'.get? b = some u) : Inv X pins σ H { s with heap := h', toks := t' } := I.un (Un.kept k) (I.hok.kept k)
theorem Inv.laid {a : Addr} {o : HO} {t' : Nat} (I : Inv X pins σ H s) (k : ∀ b u, s.heap.get? b = some u → h'.get? b = some u) (hp : s.heap.objs.size ≤ a) (new : ObjOk X.prog X.w (upd H a o) h' a o) :
    Inv X pins σ (upd H a o) { s with heap := h', toks := t' } := I.un (Un.laid k hp (I.hok.fresh hp)) (I.hok.laid k hp new)
theorem Inv.write {x e : Addr} {o : HO} {t' : Nat} (I : Inv X pins σ H s) (mu : Mut (H x)) (he : e = x ∨ H e = some (.own x)) (k : ∀ b u, b ≠ e → s.heap.get? b = some u → h'.get? b = some u) (heo : ∃ u, h'.get? e = some u)
    (new : ObjOk X.prog X.w (upd H x o) h' x o) : Inv X pins σ (upd H x o) { s with heap := h', toks := t' } := I.un (Un.write mu he k heo) (I.hok.write mu he k heo new)
theorem Inv.weak {σ' : List (Option V)} (I : Inv X pins σ H s) (hl : σ'.length = σ.length) (w : ∀ (i : Nat) v, σ'[i]? = some (some v) → σ[i]? = some (some v)) : Inv X pins σ' H s :=
  ⟨I.ok, I.os, I.bare, I.base, let ⟨m, hn, hl'⟩ := I.loc; ⟨m, hn, fun i x v e1 e2 e3 => hl' i x v e1 (w i v e2) e3⟩, I.cell, I.free, I.freeC, I.pin, I.hok, hl.trans I.len⟩
theorem Inv.pins_of {pins' : List (Addr × Obj)} (I : Inv X pins σ H s) (h : ∀ p ∈ pins', s.heap.get? p.1 = some p.2 ∧ H p.1 = none ∧ p.1 ≠ X.env.locals ∧ p.1 ∉ X.fs ∧ ∀ v, p.2.data ≠ .cell v) : Inv X pins' σ H s :=
  ⟨I.ok, I.os, I.bare, I.base, I.loc, I.cell, I.free, I.freeC, fun p hp => (List.mem_append.mp hp).elim (fun z => I.pin p (List.mem_append_left _ z)) (h p), I.hok, I.len⟩
theorem nodup_ix {N : List Str} (hN : N.Nodup) {i j : Nat} {x : Str} (a : N[i]? = some x) (b : N[j]? = some x) : i = j := by
  obtain ⟨h1, e1⟩ := List.getElem?_eq_some_iff.mp a
  obtain ⟨h2, e2⟩ := List.getElem?_eq_some_iff.mp b
  exact (List.getElem_inj hN).mp (e1.trans e2.symm)
theorem store_ok2 {M : Model} {A : Around} {E : Value → Shared → Prop} {i : Nat} {x : Str} {v : V} {u : Value} {Q : Unit → Shared → Prop} (I : Inv X pins σ H s) (hN : X.N.Nodup) (hi : X.N[i]? = some x) (hx : Loc X.env.scope x) (r : RelV v u)
    (h : ∀ s', Inv X pins (σ.set i (some v)) H s' → (∃ a, Heap.SameBut a s.heap s'.heap ∧ (a = X.env.locals ∨ X.env.cells.lookup x = some a)) → Q () s') (hf : X.fn x = true ∨ X.env.scope.names.lookup x = some .local := by first | exact .inl rfl | exact .inr rfl | assumption) : wpAny M A (storeName X.env x u) Q E s := by
  obtain ⟨m, hn, hl⟩ := id I.loc
  have hcls : (X.env.scope.kind == .class || (X.env.scope.kind == .module && X.env.locals != X.env.globals)) = false := by rw [I.ok.kind]; rfl
  have hiσ : i < σ.length := by rw [I.len]; exact (List.getElem?_eq_some_iff.mp hi).1
  have cne := I.cne
  have tracked : ∀ {a : Addr} {h' : Heap}, (∃ o, s.heap.get? a = some o ∧ H a = none) → Heap.SameBut a s.heap h' → HOk X.prog X.w H h' := fun {a h'} ha hs b ob e => by
    obtain ⟨_, _, hfree⟩ := ha
    refine (I.hok b ob e).stay (fun c w' hc q => (hs.2 c ?_).trans q) (fun _ q => q) fun _ _ q => q
    rintro rfl
    rcases hc with rfl | hc
    · rw [hfree] at e; cases e
    · rw [hfree] at hc; cases hc
  rcases hx with hk | hk
  · refine wpAny_storeName_local hk hn (fun h' hn' hs => ?_) hcls
    obtain ⟨oL, _, _, hoL, _⟩ := id hn
    refine h _ ⟨I.ok, I.os, I.bare, ⟨fun b o e n hb hx => ?_, fun b o e n hb hx => ?_, I.base.free, fun b o e hx => ?_, I.base.tups, I.base.frzs, I.base.tbls⟩, ⟨_, hn', fun j y v' e1 e2 e3 => ?_⟩, fun y c e => ?_, I.free, I.freeC, fun p hp => ?_, tracked ⟨oL, hoL, I.free⟩ hs, by simpa using I.len⟩ ⟨_, hs, .inl rfl⟩
    · exact (hs.2 b (Nat.ne_of_lt (Nat.lt_of_lt_of_le (Heap.lt_size e) I.ok.above))).trans (I.base.keep b o e n hb hx)
    · obtain ⟨sl, e1⟩ := I.base.slot b o e n hb hx
      exact ⟨sl, (hs.2 b (Nat.ne_of_lt (Nat.lt_of_lt_of_le (Heap.lt_size e) I.ok.above))).trans e1⟩
    · obtain ⟨o', e1⟩ := I.base.there b o e hx
      exact ⟨o', (hs.2 b (Nat.ne_of_lt (Nat.lt_of_lt_of_le (Heap.lt_size e) I.ok.above))).trans e1⟩
    · by_cases hj : j = i
      · subst hj
        rw [hi] at e1; cases e1
        rw [List.getElem?_set_self hiσ] at e2
        cases e2
        exact ⟨u, r, .inl ⟨hk, by simp⟩⟩
      · rw [List.getElem?_set_ne (Ne.symm hj)] at e2
        obtain ⟨u', r', q⟩ := hl j y v' e1 e2 e3
        refine ⟨u', r', ?_⟩
        rcases q with ⟨k, e⟩ | ⟨k, c, e, z⟩
        · refine .inl ⟨k, ?_⟩
          have : y ≠ x := fun e => hj (nodup_ix hN e1 (e ▸ hi))
          simp [this, e]
        · exact .inr ⟨k, c, e, z.sameBut hs (cne y c e)⟩
    · obtain ⟨w', z⟩ := I.cell y c e
      exact ⟨w', z.sameBut hs (cne y c e)⟩
    · obtain ⟨e, n, ne, nf, d⟩ := I.pin p hp
      exact ⟨(hs.2 p.1 ne).trans e, n, ne, nf, d⟩
  · have hfn : X.fn x = true := by
      rcases hf with z | z
      · exact z
      · rw [z] at hk; cases hk
    obtain ⟨c, hc⟩ := I.ok.has x (.inl hk)
    obtain ⟨w', z⟩ := I.cell x c hc
    refine wpAny_storeName_cell I.ok.kind hk hc z (fun h' hc' hs => ?_)
    obtain ⟨oc, hoc, hocd⟩ := id z
    refine h { s with heap := h' } ⟨I.ok, I.os, I.bare, ⟨fun b o e n hb hx => ?_, fun b o e n hb hx => ?_, I.base.free, fun b o e hx => ?_, I.base.tups, I.base.frzs, I.base.tbls⟩, ⟨m, hn.sameBut hs (Ne.symm (cne x c hc)), fun j y v' e1 e2 e3 => ?_⟩, fun y c' e => ?_, I.free, I.freeC, fun p hp => ?_, tracked ⟨oc, hoc, I.freeC x c hc⟩ hs, by simpa using I.len⟩ ⟨c, hs, .inr hc⟩
    · exact (hs.2 b (Nat.ne_of_lt (Nat.lt_of_lt_of_le (Heap.lt_size e) (I.ok.cab x c hfn hc)))).trans (I.base.keep b o e n hb hx)
    · obtain ⟨sl, e1⟩ := I.base.slot b o e n hb hx
      exact ⟨sl, (hs.2 b (Nat.ne_of_lt (Nat.lt_of_lt_of_le (Heap.lt_size e) (I.ok.cab x c hfn hc)))).trans e1⟩
    · obtain ⟨o', e1⟩ := I.base.there b o e hx
      exact ⟨o', (hs.2 b (Nat.ne_of_lt (Nat.lt_of_lt_of_le (Heap.lt_size e) (I.ok.cab x c hfn hc)))).trans e1⟩
    · by_cases hj : j = i
      · subst hj
        rw [hi] at e1; cases e1
        rw [List.getElem?_set_self hiσ] at e2
        cases e2
        exact ⟨u, r, .inr ⟨.inl hk, c, hc, hc'⟩⟩
      · rw [List.getElem?_set_ne (Ne.symm hj)] at e2
        obtain ⟨u', r', q⟩ := hl j y v' e1 e2 e3
        refine ⟨u', r', ?_⟩
        rcases q with q | ⟨k, c', e, z'⟩
        · exact .inl q
        · refine .inr ⟨k, c', e, z'.sameBut hs ?_⟩
          rintro rfl
          exact hj (nodup_ix hN e1 (I.ok.inj _ _ _ e hc ▸ hi))
    · by_cases hcc : c' = c
      · subst hcc; exact ⟨_, hc'⟩
      · obtain ⟨w2, z2⟩ := I.cell y c' e
        exact ⟨w2, z2.sameBut hs hcc⟩
    · obtain ⟨e, n, ne, nf, d⟩ := I.pin p hp
      refine ⟨(hs.2 p.1 ?_).trans e, n, ne, nf, d⟩
      intro q
      rw [q, hoc] at e
      have q' : oc = p.2 := Option.some.inj e
      exact d w' (by rw [← q']; exact hocd)
theorem store_ok {M : Model} {A : Around} {E : Value → Shared → Prop} {i : Nat} {x : Str} {v : V} {u : Value} {Q : Unit → Shared → Prop} (I : Inv X pins σ H s) (hN : X.N.Nodup) (hi : X.N[i]? = some x) (hx : Loc X.env.scope x) (r : RelV v u)
    (h : ∀ s', Inv X pins (σ.set i (some v)) H s' → Q () s') (hf : X.fn x = true ∨ X.env.scope.names.lookup x = some .local := by first | exact .inl rfl | exact .inr rfl | assumption) : wpAny M A (storeName X.env x u) Q E s :=
  store_ok2 I hN hi hx r (fun s' I' _ => h s' I') hf
theorem Inv.call' {s' : Shared} {ch : List Addr} (I : Inv X pins σ H s) (ho : s'.os = s.os) (u : Un (frs X.stack) ch H H' s.heap s'.heap) (hok : HOk X.prog X.w H' s'.heap) (hg : AllBare s'.gens)
    (hch : ∀ b ∈ ch, (b ∈ X.ex ∨ X.s₀.heap.objs.size ≤ b) ∧ b ≠ X.env.locals ∧ (∀ x c, X.env.cells.lookup x = some c → c ≠ b) ∧ ∀ p ∈ X.pn ++ pins, p.1 ≠ b) : Inv X pins σ H' s' := by
  obtain ⟨h', g', d', t', o'⟩ := s'
  have e : o' = s.os := ho
  subst e
  exact I.call (g' := g') (t' := t') (d' := d') u hok hg hch
end
abbrev XK := Value → Option Addr → Hp → Prop
abbrev St := List (Option V)
abbrev VK := V → Hp → Prop
abbrev TE := St → Hp → VK → Prop
abbrev TT := St → Hp → (Bool → Hp → Prop) → Prop
abbrev TA := St → Hp → (List V → Hp → Prop) → Prop
structure Ends where
  nx : St → Hp → Prop
  rt : VK
  bk : St → Hp → Prop := fun _ _ => False
  ct : St → Hp → Prop := fun _ _ => False
abbrev TS := Ends → St → Hp → Prop
def EP (X : Cx) (pins : List (Addr × Obj)) (σ : St) (Q : VK) (u : Value) (s' : Shared) : Prop := ∃ v H', Inv X pins σ H' s' ∧ RelV v u ∧ Q v H'
def TP (X : Cx) (pins : List (Addr × Obj)) (σ : St) (Q : Bool → Hp → Prop) (b : Bool) (s' : Shared) : Prop := ∃ H', Inv X pins σ H' s' ∧ Q b H'
def AP (X : Cx) (pins : List (Addr × Obj)) (σ : St) (Q : List V → Hp → Prop) (us : List Value) (s' : Shared) : Prop := ∃ vs H', Inv X pins σ H' s' ∧ Vals vs us ∧ Q vs H'
def SP (X : Cx) (pins : List (Addr × Obj)) (D : Ends) (f : Flow) (s' : Shared) : Prop :=
  match f with
  | .next => ∃ σ' H', Inv X pins σ' H' s' ∧ D.nx σ' H'
  | .brk => ∃ σ' H', Inv X pins σ' H' s' ∧ D.bk σ' H'
  | .cont => ∃ σ' H', Inv X pins σ' H' s' ∧ D.ct σ' H'
  | .ret u => ∃ v σ' H', Inv X pins σ' H' s' ∧ RelV v u ∧ D.rt v H'
def PE (X : Cx) (e : Expr) (t : TE) : Prop :=
  ∀ (pins : List (Addr × Obj)) (s : Shared) (σ : St) (H : Hp) (Q : VK), Inv X pins σ H s → t σ H Q → wpAny (model X.prog X.w) X.A (eval e X.env) (EP X pins σ Q) X.xe s
def PT (X : Cx) (e : Expr) (t : TT) : Prop :=
  ∀ (pins : List (Addr × Obj)) (s : Shared) (σ : St) (H : Hp) (Q : Bool → Hp → Prop), Inv X pins σ H s → t σ H Q → wpAny (model X.prog X.w) X.A (isTrue e X.env (eval e X.env)) (TP X pins σ Q) X.xe s
def PW (X : Cx) (e : Expr) (t : TT) : Prop :=
  ∀ (whole : Sem Value) (pins : List (Addr × Obj)) (s : Shared) (σ : St) (H : Hp) (Q : Bool → Hp → Prop), Inv X pins σ H s → t σ H Q → wpAny (model X.prog X.w) X.A (isTrue e X.env whole) (TP X pins σ Q) X.xe s
theorem PW.pt {X : Cx} {e : Expr} {t : TT} (h : PW X e t) : PT X e t := h _
def PA (X : Cx) (es : List Expr) (t : TA) : Prop :=
  ∀ (pos : Pos) (pins : List (Addr × Obj)) (s : Shared) (σ : St) (H : Hp) (Q : List V → Hp → Prop), Inv X pins σ H s → t σ H Q → wpAny (model X.prog X.w) X.A (spliced (backTo pos (starEach es X.env))) (AP X pins σ Q) X.xe s
def PS (X : Cx) (st : Stmt) (t : TS) : Prop :=
  ∀ (pins : List (Addr × Obj)) (s : Shared) (σ : St) (H : Hp) (D : Ends), Inv X pins σ H s → t D σ H → wpAny (model X.prog X.w) X.A (exec st X.env) (SP X pins D) X.xe s
def PSs (X : Cx) (st : List Stmt) (t : TS) : Prop :=
  ∀ (pins : List (Addr × Obj)) (s : Shared) (σ : St) (H : Hp) (D : Ends), Inv X pins σ H s → t D σ H → wpAny (model X.prog X.w) X.A (execs st X.env) (SP X pins D) X.xe s
theorem thn {α : Type} {t : Sem α} {Q Q' : α → Shared → Prop} {M : Model} {A : Around} {E : Value → Shared → Prop} {s : Shared} (h : wpAny M A t Q E s) (hQ : ∀ a s, Q a s → Q' a s) : wpAny M A t Q' E s := wpAny_mono h hQ fun _ _ x => x
end L2
namespace L2
open PySem PySem.Spec PyProof.Rows
section
variable {X : Cx}
def tVar (i : Nat) : TE := fun σ H Q => ∃ v, σ[i]? = some (some v) ∧ Q v H
def tC (v : V) : TE := fun _ H Q => Q v H
theorem pe_var {i : Nat} {x : Str} {pos : Pos} (hN : X.N[i]? = some x) (hv : Vis X.env.scope x) (hd : (x == ("__debug__" : Str)) = false := by decide) (hcd : (x == ("__classdict__" : Str)) = false := by decide) : PE X (.Name x pos) (tVar i) := by
  intro pins s σ H Q I h
  obtain ⟨v, e, h⟩ := h
  obtain ⟨m, hn, hl⟩ := I.loc
  obtain ⟨u, r, l⟩ := hl i x v hN e hv
  have fin : EP X pins σ Q u s := ⟨v, H, I, r, h⟩
  rcases l with ⟨hk, hm⟩ | ⟨hk, c, hc, hcell⟩
  · exact wpAny_Name (wpAny_loadName_local I.ok.kind hk hn hm fin) hd
  · rcases hk with hk | hk
    · exact wpAny_Name (wpAny_loadName_cell I.ok.kind hk hc hcell fin) hd
    · exact wpAny_Name (wpAny_loadName_free I.ok.kind hk hc hcell fin hcd) hd
theorem pe_int {i j pos} : PE X (.Constant (.int i) j pos) (tC (.int i)) := fun _ _ _ H _ I h => wpAny_Constant_int ⟨.int i, H, I.tok _, ⟨_, rfl⟩, h⟩
theorem pe_bl {b j pos} : PE X (.Constant (.bool b) j pos) (tC (.bl b)) := fun _ _ _ H _ I h => Constant_bool ⟨.bl b, H, I, rfl, h⟩
theorem pe_non {j pos} : PE X (.Constant .none j pos) (tC .non) := fun _ _ _ H _ I h => Constant_none ⟨.non, H, I, rfl, h⟩
theorem pe_str {x j pos} : PE X (.Constant (.str x) j pos) (tC (.str x)) := fun _ _ _ H _ I h => Calls.Constant_str ⟨.str x, H, I.tok _, ⟨_, rfl⟩, h⟩
def Gl (X : Cx) (x : Str) : Prop := X.env.kindOf x = some .globalImplicit
theorem ld_glob {E : Value → Shared → Prop} {pins : List (Addr × Obj)} {s : Shared} {σ : St} {H : Hp} {x : Str} {u : Value} {pos : Pos} {Q : Value → Shared → Prop} (I : Inv X pins σ H s) (hg : Gl X x) (hm : X.mg x = some u) (h : Q u s)
    (hd : (x == ("__debug__" : Str)) = false := by decide) : wpAny (model X.prog X.w) X.A (eval (.Name x pos) X.env) Q E s :=
  Calls.Name_function_global I.ok.kind hg (Calls.loadGlobal_global (by rw [I.ok.glob]; exact I.mod.glob.keeps I.bk) hm h) hd
theorem ld_blt {E : Value → Shared → Prop} {pins : List (Addr × Obj)} {s : Shared} {σ : St} {H : Hp} {x : Str} {u : Value} {pos : Pos} {Q : Value → Shared → Prop} (I : Inv X pins σ H s) (hg : Gl X x) (hm : X.mg x = none) (hv : bootBuiltins x = some u) (h : Q u s)
    (hn : x ≠ "__name__" := by decide) (hd : (x == ("__debug__" : Str)) = false := by decide) : wpAny (model X.prog X.w) X.A (eval (.Name x pos) X.env) Q E s := by
  obtain ⟨mb, h1, h2⟩ := I.mod.blt
  exact Calls.Name_function_global I.ok.kind hg (Calls.loadGlobal_builtin (by rw [I.ok.glob]; exact I.mod.glob.keeps I.bk) hm (by rw [I.ok.blt]; exact h1.keeps I.bk) ((h2 x hn).trans hv) h) hd
theorem pe_glob {x : Str} {v : V} {u : Value} {pos : Pos} (hg : Gl X x) (hm : X.mg x = some u) (r : RelV v u) (hd : (x == ("__debug__" : Str)) = false := by decide) : PE X (.Name x pos) (tC v) :=
  fun _ _ _ H _ I h => ld_glob I hg hm ⟨v, H, I, r, h⟩ hd
theorem pe_bltn {x : Str} {v : V} {u : Value} {pos : Pos} (hg : Gl X x) (hm : X.mg x = none) (hv : bootBuiltins x = some u) (r : RelV v u) (hn : x ≠ "__name__" := by decide) (hd : (x == ("__debug__" : Str)) = false := by decide) : PE X (.Name x pos) (tC v) :=
  fun _ _ _ H _ I h => ld_blt I hg hm hv ⟨v, H, I, r, h⟩ hn hd
variable {a b : Expr} {ta tb : TE} {pos : Pos}
def tB (t : TE) : TT := fun σ H Q => t σ H fun x H1 => ∃ c, x = .bl c ∧ Q c H1
theorem pt_val {e : Expr} {t : TE} (h : PE X e t) (he : ∀ whole, isTrue e X.env whole = (do let v ← whole; standAt e.pos; holding [v] (truthy v)) := by intro _; rfl) : PT X e (tB t) := by
  intro pins s σ H Q I hw
  refine isTrue_plain (thn (h pins s σ H _ I hw) fun v s1 ⟨x, H1, I1, r1, q1⟩ => ?_) (he _)
  obtain ⟨d, rfl, q⟩ := q1
  cases r1
  exact wpAny_truthy_bool ⟨H1, I1, q⟩
variable {tA tB' : TT} {rest : List Expr}
def tAnd (t u : TT) : TT := fun σ H Q => t σ H fun c H1 => if c = true then u σ H1 Q else Q false H1
def tOr (t u : TT) : TT := fun σ H Q => t σ H fun c H1 => if c = true then Q true H1 else u σ H1 Q
def tNot (t : TT) : TT := fun σ H Q => t σ H fun c H1 => Q (!c) H1
theorem pw_and1 (ha : PT X a tA) : PW X (.BoolOp .And [a] pos) tA := by
  intro wh pins s σ H Q I h
  refine isTrue_and (thn (ha pins s σ H Q I h) fun c s1 e => ?_)
  cases c with
  | true => exact isTrue_and_nil e
  | false => exact e
theorem pw_or1 (ha : PT X a tA) : PW X (.BoolOp .Or [a] pos) tA := by
  intro wh pins s σ H Q I h
  refine isTrue_or (thn (ha pins s σ H Q I h) fun c s1 e => ?_)
  cases c with
  | false => exact isTrue_or_nil e
  | true => exact e
theorem pw_and (ha : PT X a tA) (hb : PW X (.BoolOp .And (b :: rest) pos) tB') : PW X (.BoolOp .And (a :: b :: rest) pos) (tAnd tA tB') := by
  intro wh pins s σ H Q I h
  refine isTrue_and (thn (ha pins s σ H _ I h) fun c s1 ⟨H1, I1, q1⟩ => ?_)
  cases c with
  | true => exact hb wh pins s1 σ H1 Q I1 q1
  | false => exact ⟨H1, I1, q1⟩
theorem pw_or (ha : PT X a tA) (hb : PW X (.BoolOp .Or (b :: rest) pos) tB') : PW X (.BoolOp .Or (a :: b :: rest) pos) (tOr tA tB') := by
  intro wh pins s σ H Q I h
  refine isTrue_or (thn (ha pins s σ H _ I h) fun c s1 ⟨H1, I1, q1⟩ => ?_)
  cases c with
  | true => exact ⟨H1, I1, q1⟩
  | false => exact hb wh pins s1 σ H1 Q I1 q1
theorem pt_not (ha : PT X a tA) : PT X (.UnaryOp .Not a pos) (tNot tA) := by
  intro pins s σ H Q I h
  exact isTrue_not (ha pins s σ H (fun c H1 => Q (!c) H1) I h)
def tAndV (ta tb : TE) : TE := fun σ H Q => ta σ H fun x H1 => ∃ c, x = .bl c ∧ if c = true then tb σ H1 Q else Q (.bl false) H1
def tOrV (ta tb : TE) : TE := fun σ H Q => ta σ H fun x H1 => ∃ c, x = .bl c ∧ if c = true then Q (.bl true) H1 else tb σ H1 Q
def tNotV (ta : TE) : TE := fun σ H Q => ta σ H fun x H1 => ∃ c, x = .bl c ∧ Q (.bl (!c)) H1
theorem pe_not (ha : PE X a ta) : PE X (.UnaryOp .Not a pos) (tNotV ta) := by
  intro pins s σ H Q I h
  refine UnaryOp_ (thn (ha pins s σ H _ I h) fun v s1 ⟨x, H1, I1, r1, q1⟩ => ?_)
  obtain ⟨c, rfl, q1⟩ := q1
  cases r1
  exact not_of (wpAny_truthy_bool ⟨.bl (!c), H1, I1, rfl, q1⟩)
def tIf (t : TT) (ta tb : TE) : TE := fun σ H Q => t σ H fun c H1 => if c = true then ta σ H1 Q else tb σ H1 Q
theorem pe_ifExp {c : Expr} (hc : PT X c tA) (ha : PE X a ta) (hb : PE X b tb) : PE X (.IfExp c a b pos) (tIf tA ta tb) := by
  intro pins s σ H Q I h
  refine wpAny_IfExp (thn (hc pins s σ H _ I h) fun d s1 ⟨H1, I1, q1⟩ => ?_)
  cases d with
  | true => exact ha pins s1 σ H1 Q I1 q1
  | false => exact hb pins s1 σ H1 Q I1 q1
end
end L2
namespace L2
open PySem PySem.Spec PyProof.Rows
def SqL (K : PySem.W.Frag) (H : Hp) (a : Addr) (xs : List V) : Prop :=
  Rd H a (.lst xs) ∨
    ∃ (o : Obj) (its : Array Value) (n : Nat), K.lookup a = some o ∧ o.cls = .type "list" ∧ o.dict = none ∧ o.data = .seq its n ∧ its.size ≤ sizeLine ∧ Vals xs its.toList
def SqT (K : PySem.W.Frag) (H : Hp) (a : Addr) (xs : List V) : Prop :=
  Rd H a (.tup xs) ∨
    ∃ (o : Obj) (its : Array Value) (n : Nat), K.lookup a = some o ∧ o.cls = .type "tuple" ∧ o.data = .seq its n ∧ its.size ≤ sizeLine ∧ Vals xs its.toList
def absV : Value → Option V
  | .none => some .non
  | .bool b => some (.bl b)
  | .int i _ => some (.int i)
  | .str x _ => some (.str x)
  | .bytes b _ => some (.byt b)
  | .float b _ => some (.flt b)
  | .ref a => some (.ref a)
  | .type n => some (.ty n)
  | _ => none
theorem RelV.abs {x : V} {u : Value} (r : RelV x u) : absV u = some x := by
  cases x with
  | non => cases r; rfl
  | bl _ => cases r; rfl
  | int _ => obtain ⟨t, rfl⟩ := r; rfl
  | str _ => obtain ⟨t, rfl⟩ := r; rfl
  | byt _ => obtain ⟨t, rfl⟩ := r; rfl
  | flt _ => obtain ⟨t, rfl⟩ := r; rfl
  | ref _ => cases r; rfl
  | ty _ => cases r; rfl
theorem RelV.inj {x y : V} {u : Value} (r : RelV x u) (q : RelV y u) : x = y := Option.some.inj (r.abs.symm.trans q.abs)
theorem Vals.inj : ∀ {xs ys : List V} {us : List Value}, Vals xs us → Vals ys us → xs = ys
  | _, _, _, .nil, .nil => rfl
  | _, _, _, .cons r t, .cons r' t' => by rw [r.inj r', Vals.inj t t']
section
variable {X : Cx} {pins : List (Addr × Obj)} {σ : St} {H : Hp} {s : Shared} {a : Addr} {xs ys : List V}
theorem SqL.of {K : PySem.W.Frag} (h : H a = some (.lst xs)) : SqL K H a xs := .inl (.inl h)
theorem SqT.of {K : PySem.W.Frag} (h : H a = some (.tup xs)) : SqT K H a xs := .inl (.inl h)
theorem Inv.list (I : Inv X pins σ H s) (h : SqL X.K H a xs) : ∃ its : List Value, Vals xs its ∧ PlainL s.heap a its.toArray ∧ xs.length ≤ sizeLine := by
  rcases h with h | ⟨o, its, n, hk, hc, hd, hs, hz, r⟩
  · obtain ⟨z, its, n, r, e⟩ := h.ok I.hok
    exact ⟨its, r, ⟨_, n, e, rfl, rfl, rfl⟩, z⟩
  · refine ⟨its.toList, r, ⟨o, n, I.kIn a o hk, hc, hd, by simpa using hs⟩, ?_⟩
    have e := r.length
    simp only [Array.length_toList] at e
    omega
theorem Inv.tuple (I : Inv X pins σ H s) (h : SqT X.K H a xs) : ∃ its : List Value, Vals xs its ∧ IsTup s.heap a its.toArray ∧ xs.length ≤ sizeLine := by
  rcases h with h | ⟨o, its, n, hk, hc, hs, hz, r⟩
  · obtain ⟨z, its, r, p⟩ := h.ok I.hok
    exact ⟨its, r, p, z⟩
  · refine ⟨its.toList, r, ⟨o, I.kIn a o hk, hc, n, by simpa using hs⟩, ?_⟩
    have e := r.length
    simp only [Array.length_toList] at e
    omega
theorem Inv.list_inj (I : Inv X pins σ H s) (h : SqL X.K H a xs) (h' : SqL X.K H a ys) : xs = ys := by
  obtain ⟨its, r, ⟨o, n, e, _, _, d⟩, _⟩ := I.list h
  obtain ⟨its', r', ⟨o', n', e', _, _, d'⟩, _⟩ := I.list h'
  rw [e] at e'; cases e'
  rw [d] at d'
  injection d' with d1 _
  have : its = its' := by simpa using congrArg Array.toList d1
  subst this
  exact r.inj r'
end
abbrev Cx.wish (X : Cx) (E : Value → Shared → Prop) : Cx := { X with xe := E }
abbrev Cx.nox (X : Cx) : Cx := X.wish fun _ _ => False
theorem Cx.Ok.wish {X : Cx} (ok : X.Ok) (E : Value → Shared → Prop) : (X.wish E).Ok :=
  ⟨ok.mod, ok.kind, ok.glob, ok.blt, ok.above, ok.inj, ok.has, ok.cab, ok.hd, ok.frames, ok.stk, ok.exf, ok.bs, ok.bsz, ok.noex, ok.exfs, ok.funs, ok.frf⟩
theorem Cx.Ok.unwish {X : Cx} {E : Value → Shared → Prop} (ok : (X.wish E).Ok) : X.Ok :=
  ⟨ok.mod, ok.kind, ok.glob, ok.blt, ok.above, ok.inj, ok.has, ok.cab, ok.hd, ok.frames, ok.stk, ok.exf, ok.bs, ok.bsz, ok.noex, ok.exfs, ok.funs, ok.frf⟩
section
variable {X : Cx} {pins : List (Addr × Obj)} {σ : St} {H : Hp} {s : Shared} {E : Value → Shared → Prop}
theorem Inv.wish (I : Inv X pins σ H s) (E : Value → Shared → Prop) : Inv (X.wish E) pins σ H s := ⟨I.ok.wish E, I.os, I.bare, I.base, I.loc, I.cell, I.free, I.freeC, I.pin, I.hok, I.len⟩
theorem Inv.unwish (I : Inv (X.wish E) pins σ H s) : Inv X pins σ H s := ⟨I.ok.unwish, I.os, I.bare, I.base, I.loc, I.cell, I.free, I.freeC, I.pin, I.hok, I.len⟩
theorem SP.unwish {D : Ends} {f : Flow} {s' : Shared} (h : SP (X.wish E) pins D f s') : SP X pins D f s' := by
  cases f with
  | next => obtain ⟨σ', H', I, q⟩ := h; exact ⟨σ', H', I.unwish, q⟩
  | brk => obtain ⟨σ', H', I, q⟩ := h; exact ⟨σ', H', I.unwish, q⟩
  | cont => obtain ⟨σ', H', I, q⟩ := h; exact ⟨σ', H', I.unwish, q⟩
  | ret u => obtain ⟨v, σ', H', I, r, q⟩ := h; exact ⟨v, σ', H', I.unwish, r, q⟩
theorem PE.nox {e : Expr} {t : TE} (h : PE X.nox e t) : PE X e t := fun pins s σ H Q I hw =>
  wpAny_mono (h pins s σ H Q (I.wish _) hw) (fun _ _ ⟨v, H', I', r, q⟩ => ⟨v, H', I'.unwish, r, q⟩) fun _ _ z => False.elim z
theorem PT.nox {e : Expr} {t : TT} (h : PT X.nox e t) : PT X e t := fun pins s σ H Q I hw =>
  wpAny_mono (h pins s σ H Q (I.wish _) hw) (fun _ _ ⟨H', I', q⟩ => ⟨H', I'.unwish, q⟩) fun _ _ z => False.elim z
theorem PSs.nox {st : List Stmt} {t : TS} (h : PSs X.nox st t) : PSs X st t := fun pins s σ H D I hw =>
  wpAny_mono (h pins s σ H D (I.wish _) hw) (fun _ _ q => q.unwish) fun _ _ z => False.elim z
end
section
variable {X : Cx} {st : Stmt} {rest : List Stmt} {t u : TS} {e : Expr} {te : TE} {pos : Pos}
def tNext : TS := fun D σ H => D.nx σ H
def tSeq (t u : TS) : TS := fun D σ H => t { D with nx := u D } σ H
theorem pss_nil : PSs X [] tNext := fun _ _ σ H _ I h => wpAny_execs_nil ⟨σ, H, I, h⟩
theorem pss_cons (h1 : PS X st t) (h2 : PSs X rest u) : PSs X (st :: rest) (tSeq t u) := by
  intro pins s σ H D I h
  refine wpAny_execs_cons (thn (h1 pins s σ H { D with nx := u D } I h) fun f s1 q => ?_)
  cases f with
  | next =>
    obtain ⟨σ', H', I', q⟩ := q
    exact h2 pins s1 σ' H' D I' q
  | ret v => exact q
  | brk => exact q
  | cont => exact q
theorem pss_one (h1 : PS X st t) : PSs X [st] t := by
  intro pins s σ H D I h
  refine wpAny_execs_cons (thn (h1 pins s σ H D I h) fun f s1 q => ?_)
  cases f with
  | next => exact wpAny_execs_nil q
  | ret v => exact q
  | brk => exact q
  | cont => exact q
theorem Inv.quiet {pins : List (Addr × Obj)} {σ : St} {H : Hp} {s : Shared} (I : Inv X pins σ H s) : interactive X.env = false := by simp [interactive, I.ok.kind]
def tDrop (te : TE) : TS := fun D σ H => te σ H fun _ H1 => D.nx σ H1
theorem ps_expr (he : PE X e te) (hs : swapsWith e none pos.line X.env = pure false := by rfl) : PS X (.Expr e pos) (tDrop te) := by
  intro pins s σ H D I h
  exact wpAny_Expr_any (thn (he pins s σ H _ I h) fun v s1 ⟨x, H1, I1, r1, q1⟩ => ⟨σ, H1, I1, q1⟩) I.quiet hs
def tRet (te : TE) : TS := fun D σ H => te σ H D.rt
theorem ps_ret (he : PE X e te) : PS X (.Return (some e) pos) (tRet te) := by
  intro pins s σ H D I h
  exact wpAny_Return_some (thn (he pins s σ H _ I h) fun v s1 ⟨x, H1, I1, r1, q1⟩ => ⟨x, σ, H1, I1, r1, q1⟩)
def tIfS (c : TT) (t u : TS) : TS := fun D σ H => c σ H fun b H1 => if b = true then t D σ H1 else u D σ H1
theorem ps_if {c : Expr} {a b : List Stmt} {tc : TT} (hc : PT X c tc) (ha : PSs X a t) (hb : PSs X b u) : PS X (.If c a b pos) (tIfS tc t u) := by
  intro pins s σ H D I h
  refine wpAny_If (thn (hc pins s σ H _ I h) fun d s1 ⟨H1, I1, q1⟩ => ?_)
  cases d with
  | true => exact ha pins s1 σ H1 D I1 q1
  | false => exact hb pins s1 σ H1 D I1 q1
end
abbrev TG := V → St → Hp → (St → Hp → Prop) → Prop
abbrev TGs := List V → St → Hp → (St → Hp → Prop) → Prop
def PG (X : Cx) (target : Expr) (t : TG) : Prop :=
  ∀ (pins : List (Addr × Obj)) (s : Shared) (σ : St) (H : Hp) (v : V) (u : Value) (Q : St → Hp → Prop), Inv X pins σ H s → RelV v u → t v σ H Q →
    wpAny (model X.prog X.w) X.A (assign target X.env u) (fun _ s' => ∃ σ' H', Inv X pins σ' H' s' ∧ Q σ' H') X.xe s
def PGs (X : Cx) (ts : List Expr) (t : TGs) : Prop :=
  ∀ (pins : List (Addr × Obj)) (s : Shared) (σ : St) (H : Hp) (vs : List V) (us : List Value) (Q : St → Hp → Prop), Inv X pins σ H s → Vals vs us → t vs σ H Q →
    wpAny (model X.prog X.w) X.A (assignInOrder ((assignEach ts X.env).map (·.2)) us) (fun _ s' => ∃ σ' H', Inv X pins σ' H' s' ∧ Q σ' H') X.xe s
section
variable {X : Cx} {pos : Pos}
def gName (i : Nat) : TG := fun v σ H Q => Q (σ.set i (some v)) H
theorem pg_name {i : Nat} {x : Str} (hN : X.N.Nodup) (hi : X.N[i]? = some x) (hx : Loc X.env.scope x) (hf : X.fn x = true ∨ X.env.scope.names.lookup x = some .local := by first | exact .inl rfl | exact .inr rfl | assumption) : PG X (.Name x pos) (gName i) := by
  intro pins s σ H v u Q I r h
  exact wpAny_assign_Name (store_ok I hN hi hx r (fun s' I' => ⟨_, H, I', h⟩) hf)
def gNil : TGs := fun vs σ H Q => vs = [] ∧ Q σ H
def gCons (t : TG) (u : TGs) : TGs := fun vs σ H Q => ∃ v r, vs = v :: r ∧ t v σ H fun σ' H' => u r σ' H' Q
theorem pgs_nil : PGs X [] gNil := by
  intro pins s σ H vs us Q I r h
  obtain ⟨e, h⟩ := h
  subst e
  cases r
  exact assignInOrder_nil ⟨σ, H, I, h⟩
theorem pgs_cons {e : Expr} {es : List Expr} {t : TG} {u : TGs} (h1 : PG X e t) (h2 : PGs X es u)
    (hs : (assignEach (e :: es) X.env).map (·.2) = assign e X.env :: (assignEach es X.env).map (·.2) := by rfl) : PGs X (e :: es) (gCons t u) := by
  intro pins s σ H vs us Q I r h
  obtain ⟨v, vr, e1, h⟩ := h
  subst e1
  cases r with
  | cons r rr =>
    rw [hs]
    refine assignInOrder_cons (thn (h1 pins s σ H _ _ _ I r h) fun _ s1 ⟨σ1, H1, I1, q1⟩ => ?_)
    exact h2 pins s1 σ1 H1 _ _ Q I1 rr q1
def gTup (K : PySem.W.Frag) (n : Nat) (t : TGs) : TG := fun v σ H Q => ∃ a xs, v = .ref a ∧ SqT K H a xs ∧ xs.length = n ∧ t xs σ H Q
theorem pg_tup {es : List Expr} {k : Nat} {t : TGs} {n : Nat} (hc : X.calm = true) (h : PGs X es t)
    (hn : (assignEach es X.env).length = n := by rfl) (hst : (assignEach es X.env).findIdx? (·.1) = none := by rfl) : PG X (.Tuple es k pos) (gTup X.K n t) := by
  intro pins s σ H v u Q I r hw
  obtain ⟨a, xs, e1, hq, hl, hw⟩ := hw
  subst e1
  cases r
  obtain ⟨its, rv, ht, hz⟩ := I.tuple hq
  refine assign_Tuple_tuple (I.ok.hd hc) ht (by simp [hn, ← hl, rv.length]) hst fun h' hx => ?_
  have I1 : Inv X pins σ H { s with heap := h' } := I.kept (t' := s.toks) fun b o e => hx b o (Nat.ne_of_lt (Heap.lt_size e)) e
  exact h pins _ σ H xs _ Q I1 (by simpa using rv) hw
def tAsg (te : TE) (g : TG) : TS := fun D σ H => te σ H fun x H1 => g x σ H1 D.nx
theorem ps_asg {tg e : Expr} {te : TE} {g : TG} (he : PE X e te) (hg : PG X tg g) (hs : swapsWithSole [tg] e pos.line X.env = pure false := by rfl) (hw : swappedStores [tg] e X.env = pure none := by rfl)
    (h1 : (assignEach [tg] X.env).map (·.2) = [assign tg X.env] := by rfl) : PS X (.Assign [tg] e pos) (tAsg te g) := by
  intro pins s σ H D I h
  refine wpAny_Assign_stores (thn (he pins s σ H _ I h) fun v s1 ⟨x, H1, I1, r1, q1⟩ => ?_) hs hw
  rw [h1]
  exact thn (hg pins s1 σ H1 x v _ I1 r1 q1) fun _ s2 q => q
theorem ps_set {i : Nat} {x : Str} {e : Expr} {te : TE} {pos' : Pos} (hN : X.N.Nodup) (hi : X.N[i]? = some x) (hx : Loc X.env.scope x) (he : PE X e te) (hs : swapsWith e (some (.Name x pos')) pos.line X.env = pure false := by rfl) (hf : X.fn x = true ∨ X.env.scope.names.lookup x = some .local := by first | exact .inl rfl | exact .inr rfl | assumption) :
    PS X (.Assign [.Name x pos'] e pos) (tAsg te (gName i)) := by
  intro pins s σ H D I h
  refine wpAny_Assign_Name (thn (he pins s σ H _ I h) fun v s1 ⟨y, H1, I1, r1, q1⟩ => ?_) hs
  exact store_ok I1 hN hi hx r1 (fun s2 I2 => ⟨_, H1, I2, q1⟩) hf
def tPar (i j : Nat) (ta : TA) : TS := fun D σ H => ta σ H fun vs H1 => ∃ v w, vs = [v, w] ∧ D.nx ((σ.set i (some v)).set j (some w)) H1
end
section
variable {X : Cx} {pos : Pos}
end
structure It where
  go : Nat → Hp → Prop
  yld : Nat → Hp → V → Hp → Prop
  stop : Nat → Hp → Prop
def FpOk (X : Cx) (pins : List (Addr × Obj)) (H : Hp) (b : Addr) : Prop :=
  H b = none ∧ b ≠ X.env.locals ∧ b ∉ X.fs ∧ (b ∈ X.ex ∨ X.s₀.heap.objs.size ≤ b) ∧ (∀ x c, X.env.cells.lookup x = some c → c ≠ b) ∧ ∀ p ∈ X.pn ++ pins, p.1 ≠ b
theorem Inv.fpOk {X : Cx} {pins : List (Addr × Obj)} {σ : St} {H H' : Hp} {s : Shared} {b : Addr} (I : Inv X pins σ H s) (hb : s.heap.objs.size ≤ b) (hn : H' b = none) : FpOk X pins H' b := by
  refine ⟨hn, Nat.ne_of_gt (Nat.lt_of_lt_of_le I.lt hb), I.nofs hb, .inr (Nat.le_trans I.sz hb), fun x c e z => ?_, fun p hp z => ?_⟩
  · obtain ⟨v, q⟩ := I.cell x c e
    exact absurd (Nat.lt_of_lt_of_le q.lt (by rw [z]; exact hb)) (Nat.lt_irrefl _)
  · exact absurd (Nat.lt_of_lt_of_le (Heap.lt_size (I.pin p hp).1) (by rw [z]; exact hb)) (Nat.lt_irrefl _)
structure Turn (P : Program) (w : World) (K : PySem.W.Frag) (tg : Expr) (J : It) (fp : List Addr) (it : Addr) (tn : Nat → Heap → Prop) : Prop where
  mem : it ∈ fp
  obj : ∀ i h, tn i h → ∀ b ∈ fp, ∃ o, h.get? b = some o ∧ ∀ v, o.data ≠ .cell v
  keep : ∀ i h h', tn i h → (∀ b ∈ fp, ∀ o, h.get? b = some o → h'.get? b = some o) → tn i h'
  item : ∀ (X : Cx), X.prog = P → X.w = w → X.K = K → X.calm = true → ∀ (i : Nat) (pins : List (Addr × Obj)) (s : Shared) (σ : St) (H : Hp) (E : Value → Shared → Prop), Inv X pins σ H s → (∀ b ∈ fp, FpOk X pins H b) → tn i s.heap → J.go i H →
    wpAny (model P w) X.A (pyNext (.ref it)) (fun r s1 => ∃ u, r = some u ∧
      wpAny (model P w) X.A (letOwnedTupleGo tg (.ref it) u) (fun _ s2 => ∃ x H', Inv X pins σ H' s2 ∧ RelV x u ∧ J.yld i H x H' ∧ tn (i + 1) s2.heap ∧ ∀ b ∈ fp, H' b = none) E s1) E s
  done : ∀ (X : Cx), X.prog = P → X.w = w → X.K = K → X.calm = true → ∀ (i : Nat) (pins : List (Addr × Obj)) (s : Shared) (σ : St) (H : Hp) (E : Value → Shared → Prop), Inv X pins σ H s → (∀ b ∈ fp, FpOk X pins H b) → tn i s.heap → J.stop i H →
    wpAny (model P w) X.A (pyNext (.ref it)) (fun r s1 => r = none ∧ Inv X pins σ H s1) E s
  self : ∀ (A : Around) (i : Nat) (s : Shared) (Q : Value → Shared → Prop) (E : Value → Shared → Prop), tn i s.heap → Q (.ref it) s → wpAny (model P w) A (pyIter (.ref it)) Q E s
abbrev TI := St → Hp → (It → Hp → Prop) → Prop
def PIE (X : Cx) (pins : List (Addr × Obj)) (σ : St) (tg : Expr) (R : It → Hp → Prop) (itv : Value) (s2 : Shared) : Prop :=
  ∃ (it : Addr) (fp : List Addr) (tn : Nat → Heap → Prop) (J : It) (H' : Hp), itv = .ref it ∧ Inv X pins σ H' s2 ∧ Turn X.prog X.w X.K tg J fp it tn ∧ tn 0 s2.heap ∧ (∀ b ∈ fp, FpOk X pins H' b) ∧ R J H'
def PI (X : Cx) (tg iter : Expr) (wi : TI) : Prop :=
  ∀ (pins : List (Addr × Obj)) (s : Shared) (σ : St) (H : Hp) (R : It → Hp → Prop), Inv X pins σ H s → wi σ H R →
    wpAny (model X.prog X.w) X.A (eval iter X.env) (fun v s1 => wpAny (model X.prog X.w) X.A (pyIter v) (PIE X pins σ tg R) X.xe s1) X.xe s
theorem go_of {M : Model} {A : Around} {E : Value → Shared → Prop} {s : Shared} {tg : Expr} {it : Addr} {u : Value} {o : Obj} {n : String} {vs : Array Value} {Q : Unit → Shared → Prop} (ho : s.heap.get? it = some o) (hc : o.cls = .type n) (hd : o.data = .fields vs)
    (hn : ["enumerate", "zip", "dict_itemiterator", "dict_reverseitemiterator", "odict_iterator", "itertools.zip_longest", "itertools.pairwise"].contains n = false) (hQ : Q () s) : wpAny M A (letOwnedTupleGo tg (.ref it) u) Q E s := by
  unfold letOwnedTupleGo
  cases tg <;> first
    | exact wpAny_pure hQ
    | (cases u <;> first
        | exact wpAny_pure hQ
        | (refine wpAny_bind (wpAny_load ho ?_)
           rw [hc, hd]
           show wpAny M A (if (["enumerate", "zip", "dict_itemiterator", "dict_reverseitemiterator", "odict_iterator", "itertools.zip_longest", "itertools.pairwise"].contains n && vs[0]? == some (rawInt _)) = true then _ else _) Q E s
           rw [if_neg (by intro h; rw [hn, Bool.false_and] at h; cases h)]
           exact wpAny_pure hQ))
def Itl (K : PySem.W.Frag) (a : Addr) : It :=
  ⟨fun i H => ∃ xs x, SqL K H a xs ∧ xs[i]? = some x, fun i H x H' => H' = H ∧ ∀ xs, SqL K H a xs → xs[i]? = some x, fun i H => ∃ xs, SqL K H a xs ∧ xs.length ≤ i⟩
def Itr (lo : Int) (n : Nat) : It := ⟨fun i _ => i < n, fun i H x H' => H' = H ∧ x = .int (lo + i), fun i _ => n ≤ i⟩
theorem turn_list {P : Program} {w : World} {K : PySem.W.Frag} {tg : Expr} (a it : Addr) : Turn P w K tg (Itl K a) [it] it (fun i h => h.IsListIter it a i) where
  mem := by simp
  obj := fun i h st b hb => by
    have e : b = it := by simpa using hb
    subst e
    obtain ⟨o, e, c, d⟩ := st
    exact ⟨o, e, fun v z => by rw [d] at z; cases z⟩
  keep := fun i h h' st k => st.at fun o e => k it (by simp) o e
  item := by
    intro X hP hw hK hc i pins s σ H E I hf st hg
    subst hP hw hK
    obtain ⟨xs, x, hq, hx⟩ := hg
    obtain ⟨its, rv, p, hz⟩ := I.list hq
    obtain ⟨u, hu, ru⟩ := rv.get hx
    obtain ⟨f0, f1, f2, f3, f4, f5⟩ := hf it (by simp)
    refine wpAny_pyNext_list_item st p.isList (x := u) (by simpa using hu) fun h' st' sb => ?_
    have I1 : Inv X pins σ H { s with heap := h' } := I.turned (t' := s.toks) (fun b o hb e => (sb.2 b hb).trans e) f0 f1 f3 f4 f5
    obtain ⟨o, e, c, d⟩ := id st'
    exact ⟨u, rfl, go_of (s := { s with heap := h' }) e c d (by decide) ⟨x, H, I1, ru, ⟨rfl, fun ys hy => by rw [I.list_inj hy hq]; exact hx⟩, st', fun b hb => (hf b hb).1⟩⟩
  done := by
    intro X hP hw hK hc i pins s σ H E I hf st hg
    subst hP hw hK
    obtain ⟨xs, hq, hx⟩ := hg
    obtain ⟨its, rv, p, hz⟩ := I.list hq
    obtain ⟨f0, f1, f2, f3, f4, f5⟩ := hf it (by simp)
    have hl := rv.length
    exact wpAny_pyNext_list_end (I.ok.hd hc) st p.isList (by simp; omega) fun h' eb => ⟨rfl, I.turned (t' := s.toks) (fun b o hb e => eb b o hb e) f0 f1 f3 f4 f5⟩
  self := fun _ _ _ _ _ st h => wpAny_pyIter_listiter st h
theorem turn_range {P : Program} {w : World} {K : PySem.W.Frag} {tg : Expr} (it : Addr) (lo : Int) (n : Nat) : Turn P w K tg (Itr lo n) [it] it (fun i h => IsRangeIter h it (lo + (i : Nat) * 1) ((n : Int) - (i : Nat)) 1) where
  mem := by simp
  obj := fun i h st b hb => by
    have e : b = it := by simpa using hb
    subst e
    exact ⟨_, st, fun v z => by
      have z' : Data.fields _ = Data.cell v := z
      cases z'⟩
  keep := fun i h h' st k => k it (by simp) _ st
  item := by
    intro X hP hw hK hc i pins s σ H E I hf st hg
    subst hP hw hK
    obtain ⟨f0, f1, f2, f3, f4, f5⟩ := hf it (by simp)
    have W := Walks.range (prog := X.prog) (w := X.w) (I.ok.hd hc) it lo 1 n
    refine W.item i s _ _ hg st fun v h' tk hv st' kk => ?_
    obtain ⟨t, rfl⟩ := hv
    have I1 : Inv X pins σ H { s with heap := h', toks := tk } := I.turned (fun b o hb e => kk b o (by simpa using hb) e) f0 f1 f3 f4 f5
    refine ⟨_, rfl, go_of (s := { s with heap := h', toks := tk }) (n := "range_iterator") st' rfl rfl (by decide) ⟨.int (lo + i), H, I1, ⟨t, ?_⟩, ⟨rfl, rfl⟩, st', fun b hb => (hf b hb).1⟩⟩
    rw [Int.mul_one]
  done := by
    intro X hP hw hK hc i pins s σ H E I hf st hg
    subst hP hw hK
    obtain ⟨f0, f1, f2, f3, f4, f5⟩ := hf it (by simp)
    exact wpAny_pyNext_range_end (I.ok.hd hc) st (by have : n ≤ i := hg; omega) fun h' eb => ⟨rfl, I.turned (t' := s.toks) (fun b o hb e => eb b o hb e) f0 f1 f3 f4 f5⟩
  self := fun _ _ _ _ _ st h => wpAny_pyIter_rangeiter st h
end L2
namespace L2
open PySem PySem.Spec PyProof.Rows
section
variable {X : Cx} {tg : Expr}
def iList (K : PySem.W.Frag) (tl : TE) : TI := fun σ H R => tl σ H fun x H1 => ∃ a, x = .ref a ∧ (∃ xs, SqL K H1 a xs) ∧ R (Itl K a) H1
theorem pi_list {l : Expr} {tl : TE} (hl : PE X l tl) : PI X tg l (iList X.K tl) := by
  intro pins s σ H R I h
  refine thn (hl pins s σ H _ I h) fun v s1 ⟨x, H1, I1, r1, q1⟩ => ?_
  obtain ⟨a, e, ⟨xs, hq⟩, q⟩ := q1
  subst e
  cases r1
  obtain ⟨its, rv, p, hz⟩ := I1.list hq
  refine wpAny_pyIter_list p.isList ?_
  refine ⟨s1.heap.objs.size, [s1.heap.objs.size], _, _, H1, rfl, I1.kept (t' := s1.toks) fun b o e => Heap.get?_push_of_some _ e, turn_list a _, ⟨_, Heap.get?_push_size _ rfl, rfl, rfl⟩, fun b hb => ?_, q⟩
  have e : b = s1.heap.objs.size := by simpa using hb
  subst e
  exact I1.fpOk (Nat.le_refl _) (I1.hok.fresh (Nat.le_refl _))
theorem range_it {pins : List (Addr × Obj)} {σ : St} {H : Hp} {s : Shared} {R : It → Hp → Prop} {E : Value → Shared → Prop} {lo hi : Int} {t u v : Tok} {tk : Nat} (I : Inv X pins σ H s) (h1 : -(2 ^ 62) ≤ lo) (h2 : lo < 2 ^ 62) (h3 : -(2 ^ 62) ≤ hi) (h4 : hi < 2 ^ 62)
    (q : R (Itr lo (hi - lo).toNat) H) : wpAny (model X.prog X.w) X.A (pyIter (.ref s.heap.objs.size)) (PIE X pins σ tg R) E { s with heap := s.heap.push { cls := .type "range", data := .fields #[.int lo t, .int hi u, .int 1 v] }, toks := tk } := by
  refine wpAny_pyIter_range (IsRange.new ..) (small_one h1 h2 h3 h4) ?_
  have I1 : Inv X pins σ H { s with heap := s.heap.push { cls := .type "range", data := .fields #[.int lo t, .int hi u, .int 1 v] }, toks := tk } := I.kept fun b o e => Heap.get?_push_of_some _ e
  refine ⟨(s.heap.push { cls := .type "range", data := .fields #[.int lo t, .int hi u, .int 1 v] }).objs.size, [(s.heap.push { cls := .type "range", data := .fields #[.int lo t, .int hi u, .int 1 v] }).objs.size], _, _, H, rfl,
    I1.kept (t' := tk) fun b o e => Heap.get?_push_of_some _ e, turn_range _ lo (hi - lo).toNat, ?_, fun b hb => ?_, q⟩
  · have e1 : lo + ((0 : Nat) : Int) * 1 = lo := by simp
    have e2 : (((hi - lo).toNat : Nat) : Int) - ((0 : Nat) : Int) = Builtin.Range.rangeSize lo hi 1 := by rw [rangeSize_one]; split <;> omega
    show IsRangeIter _ _ (lo + ((0 : Nat) : Int) * 1) ((((hi - lo).toNat : Nat) : Int) - ((0 : Nat) : Int)) 1
    rw [e1, e2]
    exact Heap.get?_push_size _ rfl
  · have e : b = (s.heap.push { cls := .type "range", data := .fields #[.int lo t, .int hi u, .int 1 v] }).objs.size := by simpa using hb
    subst e
    exact I1.fpOk (Nat.le_refl _) (I1.hok.fresh (Nat.le_refl _))
def iRng1 (ta : TA) : TI := fun σ H R => ta σ H fun vs H1 => ∃ j : Int, vs = [.int j] ∧ -(2 ^ 62) ≤ j ∧ j < 2 ^ 62 ∧ R (Itr 0 j.toNat) H1
theorem pi_range1 {a : Expr} {ta : TA} {p pos : Pos} (hg : Gl X "range") (hm : X.mg "range" = none) (ha : PA X [a] ta) (hs : starEach [a] X.env = [(false, eval a X.env)] := by rfl) : PI X tg (.Call (.Name "range" p) [a] [] pos) (iRng1 ta) := by
  intro pins s σ H R I h
  refine Call_ (ld_blt I hg hm boot_range (PyProof.Rows.callWith_type1 (thn (ha pos pins s σ H _ I h) fun us s1 ⟨vs, H1, I1, r1, q1⟩ => ?_) hs rfl))
  obtain ⟨j, e, q1, q2, q⟩ := q1
  subst e
  cases r1 with
  | cons r rr =>
    cases rr
    obtain ⟨t, rfl⟩ := r
    exact call_range_1 (range_it I1 (by omega) (by omega) q1 q2 (by simpa using q))
def tFor (wi : TI) (g : TG) (tb : TS) : TS := fun D σ H => wi σ H fun J H1 => ∃ W : Nat → Nat → St → Hp → Prop, (∃ m, W 0 m σ H1) ∧ ∀ i m σ H, W i m σ H →
  (J.stop i H ∧ D.nx σ H) ∨ (J.go i H ∧ ∃ N : St → Hp → Prop, (∀ σ' H', N σ' H' → ∃ m', m' < m ∧ W (i + 1) m' σ' H') ∧ ∀ x H', J.yld i H x H' → g x σ H' fun σ2 H2 => tb { D with nx := N, ct := N, bk := D.nx } σ2 H2)
def pinsAt (fp : List Addr) (h : Heap) : List (Addr × Obj) := fp.filterMap fun b => (h.get? b).map fun o => (b, o)
theorem mem_pinsAt {fp : List Addr} {h : Heap} {b : Addr} {o : Obj} (hb : b ∈ fp) (e : h.get? b = some o) : (b, o) ∈ pinsAt fp h := List.mem_filterMap.mpr ⟨b, hb, by rw [e]; rfl⟩
theorem of_pinsAt {fp : List Addr} {h : Heap} {p : Addr × Obj} (hp : p ∈ pinsAt fp h) : p.1 ∈ fp ∧ h.get? p.1 = some p.2 := by
  obtain ⟨b, hb, e⟩ := List.mem_filterMap.mp hp
  cases q : h.get? b with
  | none => rw [q] at e; cases e
  | some o =>
    rw [q] at e
    have e' : (b, o) = p := Option.some.inj e
    subst e'
    exact ⟨hb, q⟩
theorem Inv.pinned {pins : List (Addr × Obj)} {σ : St} {H : Hp} {s : Shared} {fp : List Addr} (I : Inv X pins σ H s) (hf : ∀ b ∈ fp, FpOk X pins H b) (ho : ∀ b ∈ fp, ∃ o, s.heap.get? b = some o ∧ ∀ v, o.data ≠ .cell v) : Inv X (pins ++ pinsAt fp s.heap) σ H s :=
  I.pins_of fun p hp => (List.mem_append.mp hp).elim (fun z => I.pin p (List.mem_append_right _ z)) fun z => by
    obtain ⟨hb, e⟩ := of_pinsAt z
    obtain ⟨f0, f1, f2, _⟩ := hf p.1 hb
    obtain ⟨o, e', d⟩ := ho p.1 hb
    rw [e] at e'; cases e'
    exact ⟨e, f0, f1, f2, d⟩
theorem Inv.unpinned {pins pl : List (Addr × Obj)} {σ : St} {H : Hp} {s : Shared} (I : Inv X (pins ++ pl) σ H s) : Inv X pins σ H s := I.pins_of fun p hp => I.pin p (List.mem_append_right _ (List.mem_append_left _ hp))
theorem ps_for {iter : Expr} {body : List Stmt} {wi : TI} {g : TG} {tb : TS} {pos : Pos} (hp : PassesOwn (model X.prog X.w) X.A X.env X.xe) (hc : X.calm = true) (hi : PI X tg iter wi) (hg : PG X tg g) (hb : PSs X body tb)
    (hs : ∀ x, foldedSetIterable iter X.env x = pure x := by intro _; rfl) : PS X (.For tg iter body [] pos) (tFor wi g tb) := by
  intro pins s σ H D I h
  refine wpAny_For (thn (hi pins s σ H _ I h) fun v s1 h1 => thn h1 fun itv s2 h2 => ?_) hs
  obtain ⟨it, fp, tn, J, H2, e, I2, T, st2, f2, W, ⟨m0, w0⟩, turn⟩ := h2
  subst e
  have stat : ∀ {H' : Hp}, (∀ b ∈ fp, H' b = none) → ∀ b ∈ fp, FpOk X pins H' b := fun hn b hb => ⟨hn b hb, (f2 b hb).2⟩
  refine codeAny_forLoop_any (fun n s' => ∃ i σ' H', Inv X pins σ' H' s' ∧ tn i s'.heap ∧ (∀ b ∈ fp, H' b = none) ∧ W i n σ' H') ?_ m0 ⟨0, σ, H2, I2, st2, fun b hb => (f2 b hb).1, w0⟩
  rintro n s3 ⟨i, σ3, H3, I3, st3, fr3, w3⟩
  rcases turn i n σ3 H3 w3 with ⟨stop, qn⟩ | ⟨go, N, hN, step⟩
  · refine wpAny_passesOwn hp (thn (T.done X rfl rfl rfl hc i pins s3 σ3 H3 X.xe I3 (stat fr3) st3 stop) fun r s4 ⟨hr, I4⟩ => ?_)
    subst hr
    exact wpAny_execs_nil ⟨σ3, H3, I4, qn⟩
  · refine wpAny_passesOwn hp (thn (T.item X rfl rfl rfl hc i pins s3 σ3 H3 X.xe I3 (stat fr3) st3 go) fun r s4 ⟨u, hr, h4⟩ => ?_)
    subst hr
    refine wpAny_passesOwn hp (thn h4 fun _ s5 ⟨x, H5, I5, r5, y5, st5, fr5⟩ => ?_)
    have I5' := I5.pinned (stat fr5) (T.obj _ _ st5)
    refine wpAny_passesOwn hp (thn (hg _ s5 σ3 H5 x u _ I5' r5 (step x H5 y5)) fun _ s6 ⟨σ6, H6, I6, q6⟩ => ?_)
    refine wpAny_passesOwn hp (thn (hb _ s6 σ6 H6 _ I6 q6) fun f s7 q7 => ?_)
    have again : ∀ {σ7 : St} {H7 : Hp}, Inv X (pins ++ pinsAt fp s5.heap) σ7 H7 s7 → N σ7 H7 → ∃ m, m < n ∧ ∃ i σ' H', Inv X pins σ' H' s7 ∧ tn i s7.heap ∧ (∀ b ∈ fp, H' b = none) ∧ W i m σ' H' := fun {σ7 H7} I7 n7 => by
      obtain ⟨m', hm, w7⟩ := hN σ7 H7 n7
      refine ⟨m', hm, i + 1, σ7, H7, I7.unpinned, T.keep _ _ _ st5 fun b hb o e => (I7.pin (b, o) (List.mem_append_right _ (List.mem_append_right _ (mem_pinsAt hb e)))).1, fun b hb => ?_, w7⟩
      obtain ⟨o, e, d⟩ := T.obj _ _ st5 b hb
      exact (I7.pin (b, o) (List.mem_append_right _ (List.mem_append_right _ (mem_pinsAt hb e)))).2.1
    cases f with
    | next => obtain ⟨σ7, H7, I7, n7⟩ := q7; exact again I7 n7
    | cont => obtain ⟨σ7, H7, I7, n7⟩ := q7; exact again I7 n7
    | brk => obtain ⟨σ7, H7, I7, q7⟩ := q7; exact ⟨σ7, H7, I7.unpinned, q7⟩
    | ret v => obtain ⟨x7, σ7, H7, I7, r7, q7⟩ := q7; exact ⟨x7, σ7, H7, I7.unpinned, r7, q7⟩
end
end L2
namespace L2
open PySem PySem.Spec PyProof.Rows
abbrev R2 := V → V → Hp → VK → Prop
def OpR (X : Cx) (f : Value → Value → Sem Value) (r : R2) : Prop :=
  ∀ (pins : List (Addr × Obj)) (s : Shared) (σ : St) (H : Hp) (x y : V) (v u : Value) (Q : VK), Inv X pins σ H s → RelV x v → RelV y u → r x y H Q →
    wpAny (model X.prog X.w) X.A (f v u) (EP X pins σ Q) X.xe s
def UnR (X : Cx) (f : Value → Sem Value) (r : V → Hp → VK → Prop) : Prop :=
  ∀ (pins : List (Addr × Obj)) (s : Shared) (σ : St) (H : Hp) (x : V) (v : Value) (Q : VK), Inv X pins σ H s → RelV x v → r x H Q →
    wpAny (model X.prog X.w) X.A (f v) (EP X pins σ Q) X.xe s
def CallR (X : Cx) (f : Value) (r : List V → Hp → VK → Prop) : Prop :=
  ∀ (pins : List (Addr × Obj)) (s : Shared) (σ : St) (H : Hp) (xs : List V) (us : List Value) (Q : VK), Inv X pins σ H s → Vals xs us → r xs H Q →
    wpAny (model X.prog X.w) X.A (call f us) (EP X pins σ Q) X.xe s
def tOp (r : R2) (ta tb : TE) : TE := fun σ H Q => ta σ H fun x H1 => tb σ H1 fun y H2 => r x y H2 Q
def tUn (r : V → Hp → VK → Prop) (ta : TE) : TE := fun σ H Q => ta σ H fun x H1 => r x H1 Q
def rI (C : Int → Int → Prop) (g : Int → Int → V) : R2 := fun x y H Q => ∃ i j, x = .int i ∧ y = .int j ∧ C i j ∧ Q (g i j) H
def rI0 (g : Int → Int → V) : R2 := fun x y H Q => ∃ i j, x = .int i ∧ y = .int j ∧ Q (g i j) H
def rU (g : Int → V) : V → Hp → VK → Prop := fun x H Q => ∃ i, x = .int i ∧ Q (g i) H
section
variable {X : Cx} {a b c : Expr} {ta tb tc : TE} {pos : Pos}
theorem binT (ha : PE X a ta) (hb : PE X b tb) {pins : List (Addr × Obj)} {s : Shared} {σ : St} {H : Hp} {R : V → V → Hp → Prop} (I : Inv X pins σ H s)
    (h : ta σ H fun x H1 => tb σ H1 fun y H2 => R x y H2) {Q : Value → Shared → Prop} {f : Value → Value → Sem Value}
    (hf : ∀ v u s2 x y H2, Inv X pins σ H2 s2 → RelV x v → RelV y u → R x y H2 → wpAny (model X.prog X.w) X.A (f v u) Q X.xe s2) :
    wpAny (model X.prog X.w) X.A (eval a X.env) (fun v s₁ => wpAny (model X.prog X.w) X.A (eval b X.env) (fun u s₂ => wpAny (model X.prog X.w) X.A (f v u) Q X.xe s₂) X.xe s₁) X.xe s := by
  refine thn (ha pins s σ H _ I h) fun v s1 ⟨x, H1, I1, r1, q1⟩ => ?_
  refine thn (hb pins s1 σ H1 _ I1 q1) fun u s2 ⟨y, H2, I2, r2, q2⟩ => ?_
  exact hf v u s2 x y H2 I2 r1 r2 q2
theorem pe_op {op : Operator} {r : R2} (ho : OpR X (binaryOp op) r) (ha : PE X a ta) (hb : PE X b tb) : PE X (.BinOp a op b pos) (tOp r ta tb) := by
  intro pins s σ H Q I h
  exact wpAny_BinOp (binT ha hb I h fun v u s2 x y H2 I2 rx ry q => ho pins s2 σ H2 x y v u Q I2 rx ry q)
theorem pe_un {op : UnaryOp} {r : V → Hp → VK → Prop} (ho : UnR X (unaryOp op) r) (ha : PE X a ta) : PE X (.UnaryOp op a pos) (tUn r ta) := by
  intro pins s σ H Q I h
  exact UnaryOp_ (thn (ha pins s σ H _ I h) fun v s1 ⟨x, H1, I1, r1, q1⟩ => ho pins s1 σ H1 x v Q I1 r1 q1)
theorem opI {f : Value → Value → Sem Value} {C : Int → Int → Prop} {g : Int → Int → Int}
    (rule : ∀ (i j : Int) (t u : Tok) (s : Shared) (Q : Value → Shared → Prop) (E : Value → Shared → Prop), C i j → Q (.int (g i j) s.toks) { s with toks := s.toks + 1 } → wpAny (model X.prog X.w) X.A (f (.int i t) (.int j u)) Q E s) :
    OpR X f (rI C fun i j => .int (g i j)) := by
  intro pins s σ H x y v u Q I rx ry h
  obtain ⟨i, j, rfl, rfl, hc, q⟩ := h
  obtain ⟨t, rfl⟩ := rx
  obtain ⟨t', rfl⟩ := ry
  exact rule i j t t' s _ _ hc ⟨.int (g i j), H, I.tok _, ⟨_, rfl⟩, q⟩
theorem opI0 {f : Value → Value → Sem Value} {g : Int → Int → Int}
    (rule : ∀ (i j : Int) (t u : Tok) (s : Shared) (Q : Value → Shared → Prop) (E : Value → Shared → Prop), Q (.int (g i j) s.toks) { s with toks := s.toks + 1 } → wpAny (model X.prog X.w) X.A (f (.int i t) (.int j u)) Q E s) :
    OpR X f (rI0 fun i j => .int (g i j)) := by
  intro pins s σ H x y v u Q I rx ry h
  obtain ⟨i, j, rfl, rfl, q⟩ := h
  obtain ⟨t, rfl⟩ := rx
  obtain ⟨t', rfl⟩ := ry
  exact rule i j t t' s _ _ ⟨.int (g i j), H, I.tok _, ⟨_, rfl⟩, q⟩
theorem opB0 {f : Value → Value → Sem Value} {g : Int → Int → Bool}
    (rule : ∀ (i j : Int) (t u : Tok) (s : Shared) (Q : Value → Shared → Prop) (E : Value → Shared → Prop), Q (.bool (g i j)) s → wpAny (model X.prog X.w) X.A (f (.int i t) (.int j u)) Q E s) :
    OpR X f (rI0 fun i j => .bl (g i j)) := by
  intro pins s σ H x y v u Q I rx ry h
  obtain ⟨i, j, rfl, rfl, q⟩ := h
  obtain ⟨t, rfl⟩ := rx
  obtain ⟨t', rfl⟩ := ry
  exact rule i j t t' s _ _ ⟨.bl (g i j), H, I, rfl, q⟩
def CDiv (i j : Int) : Prop := 0 < j ∧ j < 1073741824
def CPow (i j : Int) : Prop := 0 ≤ j ∧ j ≤ 1000000 ∧ i.natAbs < 2 ^ 64
def CMul (i j : Int) : Prop := (-(2 ^ 64) < i ∧ i < 2 ^ 64) ∨ (-(2 ^ 64) < j ∧ j < 2 ^ 64)
theorem CMul.ok {i j : Int} (h : CMul i j) : IntMulOk i j := by
  rcases h with ⟨h1, h2⟩ | ⟨h1, h2⟩
  · exact .of_left (intBits_le_64 h1 h2)
  · exact .of_right (intBits_le_64 h1 h2)
theorem op_sub : OpR X (binaryOp .Sub) (rI0 fun i j => .int (i - j)) := opI0 fun _ _ _ _ _ _ _ q => sub_int q
theorem op_fdiv : OpR X (binaryOp .FloorDiv) (rI CDiv fun i j => .int (i / j)) := opI fun i j _ _ _ _ _ hc q => by
  have h1 : (0 : Int) < j := hc.1
  have h2 : j < 1073741824 := hc.2
  exact floordiv_int (by omega) (by rw [Int.fdiv_eq_ediv_of_nonneg i (by omega)]; exact q) (.inl (PyProof.noPylong_small (by omega)))
theorem op_mod : OpR X (binaryOp .Mod) (rI (fun _ j => 0 < j) fun i j => .int (i % j)) := opI fun i j _ _ _ _ _ hc q => by
  have h1 : (0 : Int) < j := hc
  exact mod_int' (by omega) (by rw [Int.fmod_eq_emod_of_nonneg i (by omega)]; exact q)
theorem op_pow : OpR X (binaryOp .Pow) (rI CPow fun i j => .int (i ^ j.toNat)) := opI fun _ _ _ _ _ _ _ hc q => pow_int_small hc.1 hc.2.1 hc.2.2 q
theorem unI {f : Value → Sem Value} {g : Int → Int}
    (rule : ∀ (i : Int) (t : Tok) (s : Shared) (Q : Value → Shared → Prop) (E : Value → Shared → Prop), Q (.int (g i) s.toks) { s with toks := s.toks + 1 } → wpAny (model X.prog X.w) X.A (f (.int i t)) Q E s) :
    UnR X f (rU fun i => .int (g i)) := by
  intro pins s σ H x v Q I rx h
  obtain ⟨i, rfl, q⟩ := h
  obtain ⟨t, rfl⟩ := rx
  exact rule i t s _ _ ⟨.int (g i), H, I.tok _, ⟨_, rfl⟩, q⟩
theorem un_neg : UnR X (unaryOp .USub) (rU fun i => .int (-i)) := unI fun _ _ _ _ _ q => neg_int q
end
def scal : V → V → Bool
  | .non, .non => true | .non, .int _ => true | .int _, .non => true | .non, .bl _ => true | .bl _, .non => true | .non, .str _ => true | .str _, .non => true
  | .int _, .int _ => true | .bl _, .bl _ => true | .str _, .str _ => true | .byt _, .byt _ => true
  | .int _, .str _ => true | .str _, .int _ => true | .bl _, .str _ => true | .str _, .bl _ => true
  | _, _ => false
def rEq : R2 := fun x y H Q => scal x y = true ∧ Q (.bl (decide (x = y))) H
def rNe : R2 := fun x y H Q => scal x y = true ∧ Q (.bl (!decide (x = y))) H
theorem dec_int {i j : Int} : decide (V.int i = V.int j) = (i == j) := by
  rw [Bool.eq_iff_iff]
  simp
theorem dec_bl {i j : Bool} : decide (V.bl i = V.bl j) = (i == j) := by
  rw [Bool.eq_iff_iff]
  simp
theorem dec_str {i j : Str} : decide (V.str i = V.str j) = (i == j) := by
  rw [Bool.eq_iff_iff]
  simp
theorem dec_byt {i j : Array UInt8} : decide (V.byt i = V.byt j) = (i.toList == j.toList) := by
  rw [Bool.eq_iff_iff]
  cases i
  cases j
  simp
section
variable {X : Cx} {a b c : Expr} {ta tb tc : TE} {pos : Pos}
theorem fin_bl {pins : List (Addr × Obj)} {σ : St} {H : Hp} {s : Shared} {Q : VK} {k k' : Bool} (I : Inv X pins σ H s) (q : Q (.bl k) H) (e : k = k') : EP X pins σ Q (.bool k') s := by
  subst e
  exact ⟨.bl k, H, I, rfl, q⟩
theorem op_eq : OpR X (compareOp .Eq) rEq := by
  intro pins s σ H x y v u Q I rx ry h
  obtain ⟨hs, q⟩ := h
  cases x with
  | non =>
    cases rx
    cases y with
    | non => cases ry; exact PySem.EqNone.eq_none_none (fin_bl I q (by simp))
    | bl j => cases ry; exact PySem.EqNone.eq_none_bool (fin_bl I q (by simp))
    | int j => obtain ⟨t', rfl⟩ := ry; exact PySem.EqNone.eq_none_int (fin_bl I q (by simp))
    | str j => obtain ⟨t', rfl⟩ := ry; exact PySem.EqNone.eq_none_str (fin_bl I q (by simp))
    | _ => exact absurd (show false = true from hs) Bool.false_ne_true
  | bl i =>
    cases rx
    cases y with
    | non => cases ry; exact PySem.EqNone.eq_bool_none (fin_bl I q (by simp))
    | bl j => cases ry; exact eq_bool (fin_bl I q dec_bl)
    | str j => obtain ⟨t', rfl⟩ := ry; exact PySem.EqMixed.eq_bool_str (fin_bl I q (by simp))
    | _ => exact absurd (show false = true from hs) Bool.false_ne_true
  | int i =>
    obtain ⟨t, rfl⟩ := rx
    cases y with
    | non => cases ry; exact PySem.EqNone.eq_int_none (fin_bl I q (by simp))
    | int j => obtain ⟨t', rfl⟩ := ry; exact eq_int (fin_bl I q dec_int)
    | str j => obtain ⟨t', rfl⟩ := ry; exact PySem.EqMixed.eq_int_str (fin_bl I q (by simp))
    | _ => exact absurd (show false = true from hs) Bool.false_ne_true
  | str i =>
    obtain ⟨t, rfl⟩ := rx
    cases y with
    | non => cases ry; exact PySem.EqNone.eq_str_none (fin_bl I q (by simp))
    | bl j => cases ry; exact PySem.EqMixed.eq_str_bool (fin_bl I q (by simp))
    | int j => obtain ⟨t', rfl⟩ := ry; exact PySem.EqMixed.eq_str_int (fin_bl I q (by simp))
    | str j => obtain ⟨t', rfl⟩ := ry; exact eq_str (fin_bl I q dec_str)
    | _ => exact absurd (show false = true from hs) Bool.false_ne_true
  | byt i =>
    obtain ⟨t, rfl⟩ := rx
    cases y with
    | byt j => obtain ⟨t', rfl⟩ := ry; exact PySem.W.eq_bytes (fin_bl I q dec_byt)
    | _ => exact absurd (show false = true from hs) Bool.false_ne_true
  | _ => cases y <;> exact absurd (show false = true from hs) Bool.false_ne_true
theorem op_ne : OpR X (compareOp .NotEq) rNe := by
  intro pins s σ H x y v u Q I rx ry h
  obtain ⟨hs, q⟩ := h
  cases x with
  | non =>
    cases rx
    cases y with
    | non => cases ry; exact PySem.EqNone.ne_none_none (fin_bl I q (by simp))
    | bl j => cases ry; exact PySem.EqNone.ne_none_bool (fin_bl I q (by simp))
    | int j => obtain ⟨t', rfl⟩ := ry; exact PySem.EqNone.ne_none_int (fin_bl I q (by simp))
    | str j => obtain ⟨t', rfl⟩ := ry; exact PySem.EqNone.ne_none_str (fin_bl I q (by simp))
    | _ => exact absurd (show false = true from hs) Bool.false_ne_true
  | bl i =>
    cases rx
    cases y with
    | non => cases ry; exact PySem.EqNone.ne_bool_none (fin_bl I q (by simp))
    | bl j => cases ry; exact ne_bool (fin_bl I q (congrArg not dec_bl))
    | str j => obtain ⟨t', rfl⟩ := ry; exact PySem.EqMixed.ne_bool_str (fin_bl I q (by simp))
    | _ => exact absurd (show false = true from hs) Bool.false_ne_true
  | int i =>
    obtain ⟨t, rfl⟩ := rx
    cases y with
    | non => cases ry; exact PySem.EqNone.ne_int_none (fin_bl I q (by simp))
    | int j => obtain ⟨t', rfl⟩ := ry; exact ne_int (fin_bl I q (congrArg not dec_int))
    | str j => obtain ⟨t', rfl⟩ := ry; exact PySem.EqMixed.ne_int_str (fin_bl I q (by simp))
    | _ => exact absurd (show false = true from hs) Bool.false_ne_true
  | str i =>
    obtain ⟨t, rfl⟩ := rx
    cases y with
    | non => cases ry; exact PySem.EqNone.ne_str_none (fin_bl I q (by simp))
    | bl j => cases ry; exact PySem.EqMixed.ne_str_bool (fin_bl I q (by simp))
    | int j => obtain ⟨t', rfl⟩ := ry; exact PySem.EqMixed.ne_str_int (fin_bl I q (by simp))
    | str j => obtain ⟨t', rfl⟩ := ry; exact ne_str (fin_bl I q (congrArg not dec_str))
    | _ => exact absurd (show false = true from hs) Bool.false_ne_true
  | byt i =>
    obtain ⟨t, rfl⟩ := rx
    cases y with
    | byt j => obtain ⟨t', rfl⟩ := ry; exact PySem.W.ne_bytes (fin_bl I q (congrArg not dec_byt))
    | _ => exact absurd (show false = true from hs) Bool.false_ne_true
  | _ => cases y <;> exact absurd (show false = true from hs) Bool.false_ne_true
theorem op_lt : OpR X (compareOp .Lt) (rI0 fun i j => .bl (decide (i < j))) := opB0 fun _ _ _ _ _ _ _ q => lt_int q
theorem op_gt : OpR X (compareOp .Gt) (rI0 fun i j => .bl (decide (j < i))) := opB0 fun _ _ _ _ _ _ _ q => gt_int q
theorem nomark (b : Expr) {op : CmpOp} (h : op ≠ .In := by decide) (h2 : op ≠ .NotIn := by decide) : behindInMarks op b = false := by
  have e1 : (op == CmpOp.In) = false := by cases op <;> first | rfl | exact absurd rfl h
  have e2 : (op == CmpOp.NotIn) = false := by cases op <;> first | rfl | exact absurd rfl h2
  cases b <;> simp [behindInMarks, e1, e2]
theorem pe_cmpR {op : CmpOp} {r : R2} (ho : OpR X (compareOp op) r) (ha : PE X a ta) (hb : PE X b tb) (hm : behindInMarks op b = false) : PE X (.Compare a [op] [b] pos) (tOp r ta tb) := by
  intro pins s σ H Q I h
  exact wpAny_Compare1 (binT ha hb I h fun v u s2 x y H2 I2 rx ry q => ho pins s2 σ H2 x y v u Q I2 rx ry q) hm
def tTest (t : TE) : TT := fun σ H Q => t σ H fun x H' => ∃ k, x = .bl k ∧ Q k H'
theorem pt_cmpR {op : CmpOp} {r : R2} (ho : OpR X (compareOp op) r) (ha : PE X a ta) (hb : PE X b tb) (hm : behindInMarks op b = false) : PT X (.Compare a [op] [b] pos) (tTest (tOp r ta tb)) := by
  intro pins s σ H Q I h
  refine wpAny_isTrue_Compare1 (thn (ha pins s σ H _ I h) fun v s1 ⟨x, H1, I1, r1, q1⟩ => thn (hb pins s1 σ H1 _ I1 q1) fun u s2 ⟨y, H2, I2, r2, q2⟩ =>
    thn (ho pins s2 σ H2 x y v u _ I2 r1 r2 q2) fun c s3 ⟨z, H3, I3, r3, k, e, q3⟩ => ?_) hm
  subst e
  cases r3
  exact wpAny_truthy_bool ⟨H3, I3, q3⟩
theorem line63 : (sizeLine : Nat) < 2 ^ 63 := by rw [sizeLine_eq]; decide
theorem vals1 {x : V} {us : List Value} (r : Vals [x] us) : ∃ u, us = [u] ∧ RelV x u := by
  cases r with
  | cons r1 r2 => cases r2; exact ⟨_, rfl, r1⟩
theorem vals2 {x y : V} {us : List Value} (r : Vals [x, y] us) : ∃ u w', us = [u, w'] ∧ RelV x u ∧ RelV y w' := by
  cases r with
  | cons r1 r2 =>
    cases r2 with
    | cons r3 r4 => cases r4; exact ⟨_, _, rfl, r1, r3⟩
end
end L2
namespace L2
open PySem PySem.Spec PyProof.Rows
structure ObjM (h : Heap) (x dx C : Addr) (mA : Str → Option Value) : Prop where
  obj : h.get? x = some (PySem.W.instObj C dx)
  ns : h.Ns1 dx mA
  ne : dx ≠ x
theorem lookIn_ns {h : Heap} {dx : Addr} {mA : Str → Option Value} (n : h.Ns1 dx mA) : ∃ od, h.get? dx = some od ∧ ∀ name, PySem.W.lookIn name od = some (mA name) := by
  obtain ⟨o, es, ep, ho, hd, hk, _, hm⟩ := n
  refine ⟨o, ho, fun name => ?_⟩
  have e := hm name
  unfold nsFind findBy at e
  rw [← Array.find?_toList] at e
  unfold PySem.W.lookIn
  rw [hd]
  dsimp only
  split
  · rename_i y q
    rw [q] at e
    exact congrArg some e
  · rename_i q
    rw [q] at e
    have a : es.toList.any (·.refKey) = false := by
      rw [List.any_eq_false]
      intro y hy
      obtain ⟨z, t, hkey⟩ := hk y (Array.mem_toList_iff.mp hy)
      simp [DictEntry.refKey, hkey]
    have a' : ¬ es.toList.any (·.refKey) = true := by rw [a]; exact Bool.false_ne_true
    rw [if_neg a']
    exact congrArg some e
theorem ObjM.look {h : Heap} {x dx C : Addr} {mA : Str → Option Value} (I : ObjM h x dx C mA) : ∃ od, PySem.W.InstAt h x (PySem.W.instObj C dx) C (some od) ∧ ∀ name, PySem.W.lookIn name od = some (mA name) :=
  let ⟨od, ho, hl⟩ := lookIn_ns I.ns
  ⟨od, ⟨I.obj, rfl, rfl, ho⟩, hl⟩
section
variable {prog : Program} {w : World} {A : Around} {E : Value → Shared → Prop} {s : Shared} {K : PySem.W.Frag} {x dx C f : Addr} {mA : Str → Option Value} {name : Str} {v : Value}
theorem get_map {expr : Bool} {Q : Value → Shared → Prop} (X : K.In s.heap) (I : ObjM s.heap x dx C mA) (hg : PySem.W.plainGet K C name = true) (hh : PySem.W.hasDictIn K C = true)
    (ha : PySem.W.findIn K (.ref C) name = some none) (hv : mA name = some v) (hv' : PySem.W.handedIn v = true) (h : Q v { s with toks := s.toks + 1 }) :
    wpAny (model prog w) A (getAttr (.ref x) name expr) Q E s := by
  obtain ⟨od, J, hl⟩ := I.look
  exact PySem.W.get_value X J (PySem.W.plainGet_of hg).1 (PySem.W.findObj_own hh ha rfl (by rw [hl, hv])) hv' h
theorem get_meth {pl : Sem Bool} {Q : Value × List Value → Shared → Prop} (X : K.In s.heap) (I : ObjM s.heap x dx C mA) (hg : PySem.W.plainGet K C name = true)
    (hf : PySem.W.findIn K (.ref C) name = some (some (.ref f))) (ht : PySem.W.isFn K (.ref f) = true) (hv : mA name = none) (h : Q (.ref f, [.ref x]) s) :
    wpAny (model prog w) A (getMethod (.ref x) name pl) Q E s := by
  obtain ⟨od, J, hl⟩ := I.look
  exact PySem.W.method_fn X J (PySem.W.plainGet_of hg).1 (PySem.W.plainGet_of hg).2 hf (beq_iff_eq.mp ht) (by show (PySem.W.lookIn name od).map (·.isSome) = some false; rw [hl, hv]; rfl) h
theorem set_map {ns : List Str} {Q : Unit → Shared → Prop} (X : K.In s.heap) (I : ObjM s.heap x dx C mA)
    (hs : PySem.W.findIn K (.ref C) "__setattr__" = some (some (.builtin "object.__setattr__"))) (hp : PySem.W.plainOver K C = true) (ht : PySem.W.takerIn K C name = some none) (hh : PySem.W.hasDictIn K C = true)
    (hw : PySem.Within mA ns) (hsz : ns.length ≤ sizeLine)
    (h : ∀ h', ObjM h' x dx C (fun y => if y = name then some v else mA y) → Heap.SameBut dx s.heap h' → Q () { s with heap := h', toks := s.toks + 2 }) :
    wpAny (model prog w) A (setAttr (.ref x) name v) Q E s := by
  obtain ⟨od, J, hl⟩ := I.look
  refine PySem.W.set_plain X J hs (PySem.W.osa_open (s := { s with toks := s.toks + 1 }) (r := none) X J hp ht fun b => ?_)
  obtain ⟨cd, hc, hd'⟩ := PySem.W.any_some hh
  have hx : s.heap.get? x = some ⟨.ref C, some dx, .plain, #[]⟩ := I.obj
  refine wpAny_bind (wpAny_pure (wpAny_bind (wpAny_bind (wpAny_loadPart hx (wpAny_bind (PySem.W.Looks.here (s := { s with toks := s.toks + 1 }) (PySem.W.looks_clsIn X hc) ?_))))))
  rw [hd']
  refine wpAny_pure (a := some dx) (wpAny_bind (wpAny_pure (wpAny_bind ?_)))
  refine wpAny_nsSet1 (s := { s with toks := s.toks + 1 }) I.ns fun h' hn2 hs2 => ?_
  obtain ⟨oD, esD, epD, hoD, hdD, hcD⟩ := hn2.count (PySem.Within.cons name v hw)
  refine wpAny_bind (wpAny_lookBehind hoD (by rw [hdD]; exact pastItsLine_dict (Nat.le_trans hcD (by rw [List.length_cons]; omega))) ?_)
  exact wpAny_pure (h _ ⟨(hs2.2 _ (Ne.symm I.ne)).trans I.obj, hn2, I.ne⟩ hs2)
theorem make_map {R : Result → Shared → Prop} {vs : List Value} {kw : List (Str × Value)} (X : K.In s.heap) (hm : PySem.W.makesIn K C = true)
    (hi : PySem.W.findIn K (.ref C) "__init__" = some (some (.ref f))) (hf : PySem.W.typeIn K (.ref f) = some (.type "function"))
    (h : codeAny (model prog w) (A.under (.builtin "type.__call__" ⟨.ref C :: vs, kw⟩)) (.call (.ref f) ⟨.ref (s.heap.objs.size + 1) :: vs, kw⟩) (PySem.W.InitBack (s.heap.objs.size + 1) R)
      { s with heap := (s.heap.push PySem.W.emptyDict).push (PySem.W.instObj C s.heap.objs.size) }) :
    codeAny (model prog w) A (.call (.ref C) ⟨vs, kw⟩) R s := by
  obtain ⟨hh, g, d, t, os⟩ := s
  exact PySem.W.make_core (PySem.W.makes_of X hm) (PySem.W.looks_findIn X hi) (fun self => PySem.W.bind_fn X self hf) (.inl rfl) h
end
def putF (f : Str) (v : V) : List (Str × V) → List (Str × V)
  | [] => [(f, v)]
  | (g, x) :: r => if g = f then (g, v) :: r else (g, x) :: putF f v r
theorem lookup_putF (f g : Str) (v : V) : ∀ fs : List (Str × V), (putF f v fs).lookup g = if g = f then some v else fs.lookup g
  | [] => by
    show List.lookup g [(f, v)] = _
    by_cases h : g = f
    · have hb : (g == f) = true := beq_iff_eq.mpr h
      simp only [List.lookup, hb, if_pos h]
    · have hb : (g == f) = false := beq_eq_false_iff_ne.mpr h
      simp only [List.lookup, hb, if_neg h]
  | (k, x) :: r => by
    have ih := lookup_putF f g v r
    rw [show putF f v ((k, x) :: r) = (if k = f then (k, v) :: r else (k, x) :: putF f v r) from rfl]
    by_cases hk : k = f
    · rw [if_pos hk]
      by_cases h : g = k
      · have hb : (g == k) = true := beq_iff_eq.mpr h
        simp only [List.lookup, hb, if_pos (h.trans hk)]
      · have hb : (g == k) = false := beq_eq_false_iff_ne.mpr h
        simp only [List.lookup, hb, if_neg (fun e : g = f => h (e.trans hk.symm))]
    · rw [if_neg hk]
      by_cases h : g = k
      · have hb : (g == k) = true := beq_iff_eq.mpr h
        simp only [List.lookup, hb, if_neg (fun e : g = f => hk (h.symm.trans e))]
      · have hb : (g == k) = false := beq_eq_false_iff_ne.mpr h
        simp only [List.lookup, hb]
        exact ih
theorem keys_putF (f : Str) (v : V) : ∀ fs : List (Str × V), f ∈ (putF f v fs).map (·.1) ∧ ∀ g, g ∈ fs.map (·.1) → g ∈ (putF f v fs).map (·.1)
  | [] => ⟨by simp [putF], fun g h => by simp at h⟩
  | (k, x) :: r => by
    obtain ⟨i1, i2⟩ := keys_putF f v r
    rw [show putF f v ((k, x) :: r) = (if k = f then (k, v) :: r else (k, x) :: putF f v r) from rfl]
    by_cases hk : k = f
    · rw [if_pos hk]
      subst hk
      exact ⟨by simp, fun g h => by simpa using h⟩
    · rw [if_neg hk]
      refine ⟨?_, fun g h => ?_⟩
      · rw [List.map_cons]
        exact List.mem_cons_of_mem _ i1
      · rw [List.map_cons] at h ⊢
        rcases List.mem_cons.mp h with e | e
        · exact List.mem_cons.mpr (.inl e)
        · exact List.mem_cons_of_mem _ (i2 g e)
theorem length_putF (f : Str) (v : V) : ∀ fs : List (Str × V), (putF f v fs).length ≤ fs.length + 1
  | [] => by simp [putF]
  | (k, x) :: r => by
    have ih := length_putF f v r
    rw [show putF f v ((k, x) :: r) = (if k = f then (k, v) :: r else (k, x) :: putF f v r) from rfl]
    by_cases hk : k = f
    · rw [if_pos hk, List.length_cons, List.length_cons]; omega
    · rw [if_neg hk, List.length_cons, List.length_cons]; omega
theorem RelO.some_of {v : V} {o : Option Value} (r : RelO (some v) o) : ∃ u, o = some u ∧ RelV v u := by
  cases o with
  | none => exact (show False from r).elim
  | some u => exact ⟨u, rfl, r⟩
theorem RelO.none_of {o : Option Value} (r : RelO none o) : o = none := by
  cases o with
  | none => rfl
  | some u => exact (show False from r).elim
theorem handed_of {v : V} {u : Value} (r : RelV v u) : PySem.W.handedIn u = true := by
  cases v with
  | non => cases (show u = Value.none from r); rfl
  | bl b => cases (show u = Value.bool b from r); rfl
  | int i => obtain ⟨t, e⟩ := (show ∃ t, u = Value.int i t from r); cases e; rfl
  | str x => obtain ⟨t, e⟩ := (show ∃ t, u = Value.str x t from r); cases e; rfl
  | byt b => obtain ⟨t, e⟩ := (show ∃ t, u = Value.bytes b t from r); cases e; rfl
  | flt b => obtain ⟨t, e⟩ := (show ∃ t, u = Value.float b t from r); cases e; rfl
  | ref a => cases (show u = Value.ref a from r); rfl
  | ty n => cases (show u = Value.type n from r); rfl
section
variable {P : Program} {w : World} {H H' : Hp} {h h' : Heap} {a C dx : Addr} {fs fs' : List (Str × V)}
theorem ins_get (hok : HOk P w H h) (e : H a = some (.ins C dx fs)) : ∃ mA, ObjM h a dx C mA ∧ (∀ f, RelO (fs.lookup f) (mA f)) ∧ PySem.Within mA (fs.map (·.1)) ∧ fs.length ≤ 1000 ∧ H dx = some (.own a) := by
  obtain ⟨d, z, ne, ob, mA, n, r, q⟩ := (show ObjOk P w H h a (.ins C dx fs) from hok a _ e)
  exact ⟨mA, ⟨ob, n, ne⟩, r, q, z, d⟩
end
structure Cls (K : PySem.W.Frag) (C : Addr) : Prop where
  pg : PySem.W.plainGet K C Str.empty = true
  hd : PySem.W.hasDictIn K C = true
  po : PySem.W.plainOver K C = true
  sa : PySem.W.findIn K (.ref C) "__setattr__" = some (some (.builtin "object.__setattr__"))
theorem Cls.get {K : PySem.W.Frag} {C : Addr} (c : Cls K C) (f : Str) : PySem.W.plainGet K C f = true := c.pg
def NoAttr (K : PySem.W.Frag) (C : Addr) (f : Str) : Prop := PySem.W.findIn K (.ref C) f = some none
theorem NoAttr.taker {K : PySem.W.Frag} {C : Addr} {f : Str} (n : NoAttr K C f) : PySem.W.takerIn K C f = some none := by
  unfold PySem.W.takerIn
  rw [show PySem.W.findIn K (.ref C) f = some none from n]
  rfl
structure Con (K : PySem.W.Frag) (C : Addr) (f : Str) (v : V) (u : Value) : Prop where
  at_ : PySem.W.findIn K (.ref C) f = some (some u)
  rel : RelV v u
  get : PySem.W.specialIn K u "__get__" = some none
  cp : PySem.W.copiedNames.contains f = false
structure Meth (K : PySem.W.Frag) (C : Addr) (m : Str) (f : Addr) : Prop where
  at_ : PySem.W.findIn K (.ref C) m = some (some (.ref f))
  fn : PySem.W.isFn K (.ref f) = true
  kp : PySem.W.keepIn K (.ref f) = true
section
variable {X : Cx} {pins : List (Addr × Obj)} {σ : St} {H : Hp} {s : Shared} {a C dx : Addr} {fs : List (Str × V)} {f : Str} {v : V} {A : Around} {E : Value → Shared → Prop}
theorem setattr_ok {y : V} {u : Value} {Q : Unit → Shared → Prop} (I : Inv X pins σ H s) (e : H a = some (.ins C dx fs)) (c : Cls X.K C) (n : NoAttr X.K C f) (hl : fs.length < 1000) (ry : RelV y u)
    (h : ∀ s', Inv X pins σ (upd H a (.ins C dx (putF f y fs))) s' → Q () s') : wpAny (model X.prog X.w) A (setAttr (.ref a) f u) Q E s := by
  obtain ⟨mA, O, r, wi, _, ho⟩ := ins_get I.hok e
  have hz : (fs.map (·.1)).length ≤ sizeLine := by rw [List.length_map, sizeLine_eq]; omega
  refine set_map I.kIn O c.sa c.po n.taker c.hd wi hz fun h' O' sb => h _ ?_
  have hd : ∃ o, h'.get? dx = some o := let ⟨o, _, _, e', _⟩ := O'.ns; ⟨o, e'⟩
  refine I.write (x := a) (e := dx) (by rw [e]; exact True.intro) (.inr ho) (fun b q hb z => (sb.2 b hb).trans z) hd ?_
  refine ⟨by rw [upd_ne O.ne]; exact ho, ?_, O.ne, O'.obj, _, O'.ns, fun g => ?_, fun g hg => ?_⟩
  · have := length_putF f y fs; omega
  · show RelO ((putF f y fs).lookup g) (if g = f then some u else mA g)
    rw [lookup_putF]
    by_cases q : g = f
    · rw [if_pos q, if_pos q]; exact ry
    · rw [if_neg q, if_neg q]; exact r g
  · by_cases q : g = f
    · rw [q]; exact (keys_putF f y fs).1
    · refine (keys_putF f y fs).2 g (wi g fun z => hg ?_)
      show (if g = f then some u else mA g) = none
      rw [if_neg q]; exact z
theorem Inv.made (I : Inv X pins σ H s) : Inv X pins σ (upd (upd H s.heap.objs.size (.own (s.heap.objs.size + 1))) (s.heap.objs.size + 1) (.ins C s.heap.objs.size []))
    { s with heap := (s.heap.push PySem.W.emptyDict).push (PySem.W.instObj C s.heap.objs.size) } := by
  have e1 : (s.heap.push PySem.W.emptyDict).get? s.heap.objs.size = some PySem.W.emptyDict := Heap.get?_push_size s.heap rfl
  have e2 : ((s.heap.push PySem.W.emptyDict).push (PySem.W.instObj C s.heap.objs.size)).get? (s.heap.objs.size + 1) = some (PySem.W.instObj C s.heap.objs.size) := by
    have := Heap.get?_push_size (s.heap.push PySem.W.emptyDict) (o := PySem.W.instObj C s.heap.objs.size) rfl
    rwa [Heap.size_push] at this
  have e3 : (s.heap.push PySem.W.emptyDict).Ns s.heap.objs.size (fun _ => none) := ⟨PySem.W.emptyDict, #[], _, e1, rfl, (fun e he => absurd he (by simp)), fun _ => rfl⟩
  have I1 := I.laid (a := s.heap.objs.size) (o := .own (s.heap.objs.size + 1)) (h' := s.heap.push PySem.W.emptyDict) (t' := s.toks) (fun b u q => Heap.get?_push_of_some _ q) (Nat.le_refl _) ⟨_, e1⟩
  refine I1.laid (a := s.heap.objs.size + 1) (o := .ins C s.heap.objs.size []) (t' := s.toks) (fun b u q => Heap.get?_push_of_some _ q) (Nat.le_of_eq (Heap.size_push _ _)) ?_
  have ne : s.heap.objs.size ≠ s.heap.objs.size + 1 := Nat.ne_of_lt (Nat.lt_succ_self _)
  refine ⟨by rw [upd_ne ne, upd_same], Nat.zero_le _, ne, e2, fun _ => none, (Heap.Ns1.of_empty e3).at fun o q => Heap.get?_push_of_some _ q, fun _ => True.intro, fun y hy => absurd rfl hy⟩
theorem attr_of {prog : Program} {w : World} {env : Env} {e : Expr} {f : Str} {pos : Pos} {s : Shared} {Q : Value → Shared → Prop} (hb : attributeBase e f env (eval e env) = eval e env)
    (h : wpAny (model prog w) A (eval e env) (fun o s₁ => wpAny (model prog w) A (getAttr o f true) Q E s₁) E s) : wpAny (model prog w) A (eval (.Attribute e f pos) env) Q E s :=
  Attribute_any_ h (by rw [arm_eval_Attribute, hb])
end
def sFld (K : PySem.W.Frag) (ta tv : TE) (f : Str) : TS := fun D σ H => tv σ H fun y H1 => ta σ H1 fun x H2 => ∃ a C dx fs, x = .ref a ∧ H2 a = some (.ins C dx fs) ∧ Cls K C ∧ NoAttr K C f ∧ fs.length < 1000 ∧
  D.nx σ (upd H2 a (.ins C dx (putF f y fs)))
section
variable {X : Cx} {o e value : Expr} {f : Str} {pos pos' tpos : Pos} {ta tv : TE}
theorem ps_fld (ha : PE X o ta) (hv : PE X value tv) (hs : swapsWith value (some (.Attribute o f pos')) pos.line X.env = pure false) : PS X (.Assign [.Attribute o f pos'] value pos) (sFld X.K ta tv f) := by
  intro pins s σ H D I h
  refine plainObj_wpAny_Assign_Attribute (thn (hv pins s σ H _ I h) fun u s1 ⟨y, H1, I1, ry, q⟩ => thn (ha pins s1 σ H1 _ I1 q) fun ov s2 ⟨x, H2, I2, rx, a, C, dx, fs, ex, ea, c, n, l, q2⟩ => ?_) hs
  subst ex
  obtain rfl : ov = Value.ref a := rx
  exact setattr_ok I2 ea c n l ry fun s3 I3 => ⟨σ, _, I3, q2⟩
end
section
variable {X : Cx} {pins : List (Addr × Obj)} {σ : St} {H : Hp} {s : Shared} {A : Around} {E : Value → Shared → Prop} {Q : Value → Shared → Prop} {c : Value} {b : Bool}
inductive TyOf (K : PySem.W.Frag) (H : Hp) : V → Value → Prop where
  | non : TyOf K H .non (.type "NoneType")
  | bl (x : Bool) : TyOf K H (.bl x) (.type "bool")
  | int (i : Int) : TyOf K H (.int i) (.type "int")
  | str (x : Str) : TyOf K H (.str x) (.type "str")
  | flt (x : UInt64) : TyOf K H (.flt x) (.type "float")
  | lst {a : Addr} {xs : List V} (e : H a = some (.lst xs)) : TyOf K H (.ref a) (.type "list")
  | frz {a : Addr} {o : Obj} {xs : List V} (e : H a = some (.frz o (.lst xs))) : TyOf K H (.ref a) (.type "list")
  | tup {a : Addr} {xs : List V} (e : H a = some (.tup xs)) : TyOf K H (.ref a) (.type "tuple")
  | dK {a : Addr} {kvs : List (Key × V)} (e : H a = some (.dK kvs)) : TyOf K H (.ref a) (.type "dict")
  | dT {a : Addr} {kvs : List (List Key × V)} (e : H a = some (.dT kvs)) : TyOf K H (.ref a) (.type "dict")
  | ins {a C dx : Addr} {fs : List (Str × V)} (e : H a = some (.ins C dx fs)) (cl : Cls K C) (ha : PySem.W.findIn K (.ref C) "__class__" = some (some (.builtin "object.__class__")))
      (hn : PySem.W.specialIn K (.builtin "object.__class__") "__get__" = some (some (.builtin "getset_descriptor.__get__"))) (htk : PySem.W.takesIn K (.builtin "object.__class__") = some true)
      (hm : PySem.W.mroIn K C (.type "object") = some true) : TyOf K H (.ref a) (.ref C)
theorem isinst_ok {x : V} {u t : Value} (I : Inv X pins σ H s) (rx : RelV x u) (ty : TyOf X.K H x t) (e : PySem.W.kitOne X.K t c = some b) (h : ∀ tk, Q (.bool b) { s with toks := tk }) :
    wpAny (model X.prog X.w) A (call (.builtin "isinstance") [u, c]) Q E s := by
  cases ty with
  | non => cases (show u = Value.none from rx); exact PySem.W.kia_one PySem.W.kitx_none I.kIn True.intro e (fun z => nomatch z) h
  | bl y => cases (show u = Value.bool y from rx); exact PySem.W.kia_one PySem.W.kitx_bool I.kIn True.intro e (fun z => nomatch z) h
  | int i => obtain ⟨t, q⟩ := (show ∃ t, u = Value.int i t from rx); cases q; exact PySem.W.kia_one PySem.W.kitx_int I.kIn True.intro e (fun z => nomatch z) h
  | str y => obtain ⟨t, q⟩ := (show ∃ t, u = Value.str y t from rx); cases q; exact PySem.W.kia_one PySem.W.kitx_str I.kIn True.intro e (fun z => nomatch z) h
  | flt y => obtain ⟨t, q⟩ := (show ∃ t, u = Value.float y t from rx); cases q; exact PySem.W.kia_one PySem.W.kitx_float I.kIn True.intro e (fun z => nomatch z) h
  | @lst a xs ea =>
    cases (show u = Value.ref a from rx)
    obtain ⟨_, _, n, _, h1⟩ := (show ObjOk X.prog X.w H s.heap a (.lst xs) from I.hok a _ ea)
    exact PySem.W.kia_one PySem.W.kitx_list I.kIn ⟨_, h1, rfl⟩ e (fun z => nomatch z) h
  | @frz a ob xs ea =>
    cases (show u = Value.ref a from rx)
    obtain ⟨_, _, _, n, _, h1⟩ := (show ObjOk X.prog X.w H s.heap a (.frz ob (.lst xs)) from I.hok a _ ea)
    exact PySem.W.kia_one PySem.W.kitx_list I.kIn ⟨_, h1, rfl⟩ e (fun z => nomatch z) h
  | @tup a xs ea =>
    cases (show u = Value.ref a from rx)
    obtain ⟨_, _, _, p⟩ := (show ObjOk X.prog X.w H s.heap a (.tup xs) from I.hok a _ ea)
    obtain ⟨o, h1, h2, _⟩ := p
    exact PySem.W.kia_one PySem.W.kitx_tuple I.kIn ⟨o, h1, h2⟩ e (fun z => nomatch z) h
  | @dK a kvs ea =>
    cases (show u = Value.ref a from rx)
    obtain ⟨_, _, vs, _, p⟩ := (show ObjOk X.prog X.w H s.heap a (.dK kvs) from I.hok a _ ea)
    obtain ⟨o, es, ep, h1, h2, _⟩ := p
    exact PySem.W.kia_one PySem.W.kitx_dict I.kIn ⟨o, h1, h2.1⟩ e (fun z => nomatch z) h
  | @dT a kvs ea =>
    cases (show u = Value.ref a from rx)
    obtain ⟨_, _, xs, _, o, es, ep, h1, h2, _⟩ := (show ObjOk X.prog X.w H s.heap a (.dT kvs) from I.hok a _ ea)
    exact PySem.W.kia_one PySem.W.kitx_dict I.kIn ⟨o, h1, h2.1⟩ e (fun z => nomatch z) h
  | @ins a C dx fs ea cl ha hn htk hm =>
    cases (show u = Value.ref a from rx)
    obtain ⟨mA, O, _⟩ := ins_get I.hok ea
    obtain ⟨od, J, _⟩ := O.look
    exact PySem.W.kia_one (PySem.W.kitx_own (cl.get _) cl.hd ha hn htk hm) I.kIn J e (fun z => nomatch z) h
end
end L2
namespace L2
open PySem PySem.Spec PyProof.Rows
structure Room (k : Nat) (A : Around) : Prop where
  hd : A.handled = none
  dp : A.depth + 3 * k + 5 < recursionLimit
  un : A.units + 16 * k + 200 < cLine
theorem Room.mono {j k : Nat} {A : Around} (r : Room k A) (h : j ≤ k) : Room j A := ⟨r.hd, by have := r.dp; omega, by have := r.un; omega⟩
theorem Room.deeper {k : Nat} {A : Around} (r : Room (k + 1) A) (env : Env) : Room k (A.deeper env) :=
  ⟨r.hd, by have := r.dp; show A.depth + 1 + 3 * k + 5 < _; omega, by have := r.un; show A.units + 3 + 16 * k + 200 < _; omega⟩
theorem Room.in1 {k : Nat} {A : Around} (r : Room (k + 1) A) : Room k A.in1 :=
  ⟨r.hd, by have := r.dp; show A.depth + 3 * k + 5 < _; omega, by have := r.un; show A.units + 1 + 16 * k + 200 < _; omega⟩
theorem make_depth {A : Around} {C : Addr} {us : List Value} {kw : List (Str × Value)} : (A.under (.builtin "type.__call__" ⟨.ref C :: us, kw⟩)).depth = A.depth + 1 := by
  first | rfl | simp [Around.under, Code.weight, Code.isCreation, Code.isGuard, Code.isCaller, Code.frames, Code.isFrame, guardIds]
theorem make_units {A : Around} {C : Addr} {us : List Value} {kw : List (Str × Value)} : (A.under (.builtin "type.__call__" ⟨.ref C :: us, kw⟩)).units = A.units + 1 := by
  first | rfl | simp [Around.under, Code.cUnits, Code.frames, Code.isFrame]
theorem Room.make {k : Nat} {A : Around} (r : Room (k + 1) A) (C : Addr) (us : List Value) (kw : List (Str × Value)) : Room k (A.under (.builtin "type.__call__" ⟨.ref C :: us, kw⟩)) :=
  ⟨r.hd, by have := r.dp; rw [make_depth]; omega, by have := r.un; rw [make_units]; omega⟩
theorem Room.depth {k : Nat} {A : Around} (r : Room k A) : A.depth < recursionLimit := by have := r.dp; omega
theorem Room.units {k : Nat} {A : Around} (r : Room k A) : A.units + 64 < cLine := by have := r.un; omega
def tNil : TA := fun _ H Q => Q [] H
def tCons (ta : TE) (tr : TA) : TA := fun σ H Q => ta σ H fun x H1 => tr σ H1 fun xs H2 => Q (x :: xs) H2
section
variable {X : Cx} {e : Expr} {es : List Expr} {te : TE} {t : TA} {pos : Pos}
theorem pa_nil : PA X [] tNil := fun _ _ _ _ H Q I h => Calls.spliced_nil ⟨[], H, I, .nil, h⟩
theorem pa_cons (ha : PE X e te) (hr : PA X es t) (hs : starEach (e :: es) X.env = (false, eval e X.env) :: starEach es X.env := by rfl) : PA X (e :: es) (tCons te t) := by
  intro pos pins s σ H Q I h
  rw [hs]
  show wpAny _ _ (spliced ((false, eval e X.env) :: backTo pos (starEach es X.env))) _ _ s
  refine Calls.spliced_cons (thn (ha pins s σ H _ I h) fun u s1 ⟨x, H1, I1, r1, q1⟩ => ?_)
  exact thn (hr pos pins s1 σ H1 _ I1 q1) fun us s2 ⟨xs, H2, I2, r2, q2⟩ => ⟨x :: xs, H2, I2, .cons r1 r2, q2⟩
def tTup (t : TA) : TE := fun σ H Q => t σ H fun xs H1 => xs.length ≤ sizeLine ∧ ∀ p, H1 p = none → Q (.ref p) (upd H1 p (.tup xs))
def tLst (t : TA) : TE := fun σ H Q => t σ H fun xs H1 => xs.length ≤ sizeLine ∧ ∀ p, H1 p = none → Q (.ref p) (upd H1 p (.lst xs))
theorem pe_tup {x1} (h : PA X es t) : PE X (.Tuple es x1 pos) (tTup t) := by
  intro pins s σ H Q I hq
  refine wpAny_Tuple_spliced (thn (h pos pins s σ H _ I hq) fun us s1 ⟨xs, H1, I1, r, z, q⟩ => ⟨by rw [← r.length]; exact z, ?_⟩)
  have hf : H1 s1.heap.objs.size = none := I1.hok.fresh (Nat.le_refl _)
  refine ⟨.ref s1.heap.objs.size, upd H1 s1.heap.objs.size (.tup xs), I1.laid (t' := s1.toks) (fun b u e => Heap.get?_push_of_some _ e) (Nat.le_refl _) ?_, rfl, q _ hf⟩
  exact ⟨z, us, r, ⟨_, Heap.get?_push_size _ rfl, rfl, _, rfl⟩⟩
theorem pe_lst (h : PA X es t) : PE X (.List es pos) (tLst t) := by
  intro pins s σ H Q I hq
  refine wpAny_List_spliced (thn (h pos pins s σ H _ I hq) fun us s1 ⟨xs, H1, I1, r, z, q⟩ => ⟨by rw [← r.length]; exact z, ?_⟩)
  have hf : H1 s1.heap.objs.size = none := I1.hok.fresh (Nat.le_refl _)
  refine ⟨.ref s1.heap.objs.size, upd H1 s1.heap.objs.size (.lst xs), I1.laid (t' := s1.toks) (fun b u e => Heap.get?_push_of_some _ e) (Nat.le_refl _) ?_, rfl, q _ hf⟩
  exact ⟨z, us, 0, r, Heap.get?_push_size _ rfl⟩
end
abbrev Sp := List V → Hp → VK → XK → Prop
abbrev CXT := List Env → Hp → Shared → XK → Value → Shared → Prop
structure Env0 (P : Program) (w : World) (K : PySem.W.Frag) (mg : Str → Option Value) (base : Heap) (A : Around) (outer : List Env) (s : Shared) (H : Hp) : Prop where
  frames : A.frames = some outer
  mod : Mod K mg base
  bs : ∀ b o, base.get? b = some o → s.heap.get? b = some o ∧ H b = none
  bsz : base.objs.size ≤ s.heap.objs.size
  funs : s.heap.FunFrames base outer
  frf : ∀ b ∈ frs outer, H b = none
  hok : HOk P w H s.heap
  bare : AllBare s.gens
def CE (outer : List Env) (P : Program) (w : World) (H : Hp) (s : Shared) (Q : VK) (u : Value) (s' : Shared) : Prop :=
  ∃ v H', s'.os = s.os ∧ AllBare s'.gens ∧ Un (frs outer) [] H H' s.heap s'.heap ∧ HOk P w H' s'.heap ∧ RelV v u ∧ Q v H'
def CR (CX : CXT) (outer : List Env) (P : Program) (w : World) (H : Hp) (s : Shared) (Q : VK) (E : XK) (r : Result) (s' : Shared) : Prop :=
  match r with
  | .ok (.ret u) => CE outer P w H s Q u s'
  | .ok _ => False
  | .error e => CX outer H s E e s'
structure FnOk (P : Program) (w : World) (K : PySem.W.Frag) (mg : Str → Option Value) (base : Heap) (CX : CXT) (k : Nat) (f : Addr) (fd : FuncData) (ps : List Str) (sp : Sp) : Prop where
  len : ∀ vs H Q E, sp vs H Q E → vs.length = ps.length
  run : ∀ (A : Around) (outer : List Env) (s : Shared) (H : Hp) (args : Args) (us : List Value) (vs : List V) (Q : VK) (E : XK), Room k A → Env0 P w K mg base A outer s H → BindsTo s fd args (ps.zip us) → Vals vs us → sp vs H Q E →
    codeAny (model P w) A (.call (.ref f) args) (CR CX outer P w H s Q E) s
theorem FnOk.mono {P : Program} {w : World} {K : PySem.W.Frag} {mg : Str → Option Value} {base : Heap} {CX : CXT} {j k : Nat} {f : Addr} {fd : FuncData} {ps : List Str} {sp : Sp} (F : FnOk P w K mg base CX j f fd ps sp) (h : j ≤ k) :
    FnOk P w K mg base CX k f fd ps sp := ⟨F.len, fun A outer s H args us vs Q E hr => F.run A outer s H args us vs Q E (hr.mono h)⟩
theorem FnOk.imp {P : Program} {w : World} {K : PySem.W.Frag} {mg : Str → Option Value} {base : Heap} {CX : CXT} {k : Nat} {f : Addr} {fd : FuncData} {ps : List Str} {sp sp' : Sp} (F : FnOk P w K mg base CX k f fd ps sp)
    (h : ∀ vs H Q E, sp' vs H Q E → sp vs H Q E) : FnOk P w K mg base CX k f fd ps sp' :=
  ⟨fun vs H Q E q => F.len vs H Q E (h _ _ _ _ q), fun A outer s H args us vs Q E hr he hb hv hs => F.run A outer s H args us vs Q E hr he hb hv (h _ _ _ _ hs)⟩
theorem Env0.make {P : Program} {w : World} {K : PySem.W.Frag} {mg : Str → Option Value} {base : Heap} {A : Around} {outer : List Env} {s : Shared} {H : Hp} (e : Env0 P w K mg base A outer s H) (C : Addr) (us : List Value) (kw : List (Str × Value)) :
    Env0 P w K mg base (A.under (.builtin "type.__call__" ⟨.ref C :: us, kw⟩)) outer s H := ⟨by first | exact e.frames | (simpa [Around.under, Code.envs, Code.isFrame, pushEnvs] using e.frames), e.mod, e.bs, e.bsz, e.funs, e.frf, e.hok, e.bare⟩
theorem Env0.in1 {P : Program} {w : World} {K : PySem.W.Frag} {mg : Str → Option Value} {base : Heap} {A : Around} {outer : List Env} {s : Shared} {H : Hp} (e : Env0 P w K mg base A outer s H) :
    Env0 P w K mg base A.in1 outer s H := ⟨e.frames, e.mod, e.bs, e.bsz, e.funs, e.frf, e.hok, e.bare⟩
section
variable {X : Cx} {pins : List (Addr × Obj)} {σ : St} {H : Hp} {s s' : Shared}
theorem Inv.env0 (I : Inv X pins σ H s) : Env0 X.prog X.w X.K X.mg X.base X.A X.stack s H :=
  ⟨I.ok.frames, I.ok.mod, I.bs, Nat.le_trans I.ok.bsz I.sz, I.stack, I.stkFree, I.hok, I.bare⟩
theorem Inv.after {Q : VK} {u : Value} (I : Inv X pins σ H s) (h : CE X.stack X.prog X.w H s Q u s') : EP X pins σ Q u s' := by
  obtain ⟨v, H', os, bare, un, hok, r, q⟩ := h
  obtain ⟨hh, g, d, t, os'⟩ := s'
  obtain rfl : os' = s.os := os
  exact ⟨v, H', I.call (h' := hh) (g' := g) (d' := d) (t' := t) (ch := []) un hok bare (fun b z => absurd z (by simp)), r, q⟩
end
def tCall (sp : Sp) (dvs : List V) (E : XK) (t : TA) : TE := fun σ H Q => t σ H fun vs H1 => sp (vs ++ dvs) H1 Q E
def tMake (C : Addr) (sp : Sp) (dvs : List V) (E : XK) (t : TA) : TE := fun σ H Q => t σ H fun vs H1 => ∀ x dx, H1 x = none → H1 dx = none → dx ≠ x →
  sp (.ref x :: (vs ++ dvs)) (upd (upd H1 dx (.own x)) x (.ins C dx [])) (fun v H2 => v = .non ∧ Q (.ref x) H2) E
def Binds (K : PySem.W.Frag) (fd : FuncData) (ps : List Str) (ds : List Value) : Prop :=
  ∀ (s : Shared) (us : List Value), K.In s.heap → (us ++ ds).length = ps.length → BindsTo s fd ⟨us, []⟩ (ps.zip (us ++ ds))
theorem Binds.all {K : PySem.W.Frag} {fd : FuncData} {ps : List Str} (h : ∀ us : List Value, us.length = ps.length → bindArgs fd ⟨us, []⟩ = pure (ps.zip us)) : Binds K fd ps [] := fun s us _ hl => by
  rw [List.append_nil] at hl ⊢
  exact .of_eq (h us hl)
def Passes (CX : CXT) (X : Cx) (E : XK) : Prop := ∀ (pins : List (Addr × Obj)) (σ : St) (H : Hp) (s : Shared) (e : Value) (s' : Shared), Inv X pins σ H s → CX X.stack H s E e s' → X.xe e s'
section
variable {X : Cx} {CX : CXT} {k : Nat} {f C : Addr} {fd : FuncData} {ps : List Str} {sp : Sp} {dvs : List V} {ds : List Value} {E : XK} {x m : Str} {p pos apos : Pos} {e o : Expr} {es : List Expr} {ta : TE} {t : TA}
theorem run_fn {pins : List (Addr × Obj)} {σ : St} {H : Hp} {s : Shared} {Q : VK} {us : List Value} {vs : List V} (F : FnOk X.prog X.w X.K X.mg X.base CX k f fd ps sp) (hr : Room k X.A) (hb : Binds X.K fd ps ds) (hd : Vals dvs ds) (hx : Passes CX X E)
    (I : Inv X pins σ H s) (r : Vals vs us) (h : sp (vs ++ dvs) H Q E) : wpAny (model X.prog X.w) X.A (call (.ref f) us) (EP X pins σ Q) X.xe s := by
  have r2 : Vals (vs ++ dvs) (us ++ ds) := r.append hd
  have hl : (us ++ ds).length = ps.length := by rw [← r2.length]; exact F.len _ _ _ _ h
  refine wpAny_call (codeAny_mono (F.run X.A X.stack s H ⟨us, []⟩ (us ++ ds) (vs ++ dvs) Q E hr I.env0 (hb s us I.kIn hl) r2 h) fun r s' hq => ?_)
  cases r with
  | error e => exact hx pins σ H s e s' I hq
  | ok fl =>
    cases fl with
    | ret u => exact I.after hq
    | next => exact False.elim hq
    | brk => exact False.elim hq
    | cont => exact False.elim hq
theorem pe_call (F : FnOk X.prog X.w X.K X.mg X.base CX k f fd ps sp) (hr : Room k X.A) (hg : Gl X x) (hm : X.mg x = some (.ref f)) (hk : PySem.W.keepIn X.K (.ref f) = true) (hb : Binds X.K fd ps ds) (hd : Vals dvs ds) (hx : Passes CX X E)
    (ha : PA X (e :: es) t) (hdb : (x == ("__debug__" : Str)) = false := by decide) (he : starEach (e :: es) X.env = (false, eval e X.env) :: starEach es X.env := by rfl) (hpl : (backTo pos (starEach es X.env)).any (·.1) = false := by rfl) :
    PE X (.Call (.Name x p) (e :: es) [] pos) (tCall sp dvs E t) := by
  intro pins s σ H Q I h
  refine wpAny_Call_Name_kw (ld_glob I hg hm ?_ hdb)
  refine PySem.W.callWith_K (h₀ := X.base) I.ok.mod.kin hk (thn (ha pos pins s σ H _ I h) fun us s1 ⟨vs, H1, I1, r, q⟩ => ⟨I1.kIn, ?_⟩) he hpl
  exact run_fn F hr hb hd hx I1 r q
structure Mk (K : PySem.W.Frag) (C f : Addr) : Prop where
  makes : PySem.W.makesIn K C = true
  init : PySem.W.findIn K (.ref C) "__init__" = some (some (.ref f))
  fn : PySem.W.isFn K (.ref f) = true
  kp : PySem.W.keepIn K (.ref C) = true
theorem run_make {pins : List (Addr × Obj)} {σ : St} {H : Hp} {s : Shared} {Q : VK} {us : List Value} {vs : List V} (M : Mk X.K C f) (F : FnOk X.prog X.w X.K X.mg X.base CX k f fd ps sp) (hr : Room (k + 1) X.A) (hb : Binds X.K fd ps ds) (hd : Vals dvs ds)
    (hx : Passes CX X E) (I : Inv X pins σ H s) (r : Vals vs us)
    (h : ∀ x dx, H x = none → H dx = none → dx ≠ x → sp (.ref x :: (vs ++ dvs)) (upd (upd H dx (.own x)) x (.ins C dx [])) (fun v H2 => v = .non ∧ Q (.ref x) H2) E) :
    wpAny (model X.prog X.w) X.A (call (.ref C) us) (EP X pins σ Q) X.xe s := by
  have hq := h (s.heap.objs.size + 1) s.heap.objs.size (I.hok.fresh (Nat.le_succ _)) (I.hok.fresh (Nat.le_refl _)) (Nat.ne_of_lt (Nat.lt_succ_self _))
  have I2 := Inv.made (C := C) I
  have r2 : Vals (V.ref (s.heap.objs.size + 1) :: (vs ++ dvs)) (Value.ref (s.heap.objs.size + 1) :: (us ++ ds)) := .cons rfl (r.append hd)
  have hl : (Value.ref (s.heap.objs.size + 1) :: us ++ ds).length = ps.length := by
    have e := r2.length
    rw [F.len _ _ _ _ hq] at e
    exact e.symm
  refine wpAny_call (make_map (f := f) I.kIn M.makes M.init (beq_iff_eq.mp M.fn) (codeAny_mono (F.run _ X.stack _ _ ⟨Value.ref (s.heap.objs.size + 1) :: us, []⟩ (Value.ref (s.heap.objs.size + 1) :: (us ++ ds)) _ _ E (hr.make C us [])
    (I2.env0.make C us []) (hb _ (Value.ref (s.heap.objs.size + 1) :: us) I2.kIn hl) r2 hq) fun r s' hq' => ?_))
  cases r with
  | error e => exact hx pins σ _ _ e s' I2 hq'
  | ok fl =>
    cases fl with
    | ret u =>
      obtain ⟨v, H', I3, rv, ev, q3⟩ := I2.after hq'
      subst ev
      exact ⟨rv, ⟨V.ref (s.heap.objs.size + 1), H', I3, rfl, q3⟩⟩
    | next => exact False.elim hq'
    | brk => exact False.elim hq'
    | cont => exact False.elim hq'
theorem pe_make (M : Mk X.K C f) (F : FnOk X.prog X.w X.K X.mg X.base CX k f fd ps sp) (hr : Room (k + 1) X.A) (hg : Gl X x) (hm : X.mg x = some (.ref C)) (hb : Binds X.K fd ps ds) (hd : Vals dvs ds) (hx : Passes CX X E)
    (ha : PA X (e :: es) t) (hdb : (x == ("__debug__" : Str)) = false := by decide) (he : starEach (e :: es) X.env = (false, eval e X.env) :: starEach es X.env := by rfl) (hpl : (backTo pos (starEach es X.env)).any (·.1) = false := by rfl) :
    PE X (.Call (.Name x p) (e :: es) [] pos) (tMake C sp dvs E t) := by
  intro pins s σ H Q I h
  refine wpAny_Call_Name_kw (ld_glob I hg hm ?_ hdb)
  refine PySem.W.callWith_K (h₀ := X.base) I.ok.mod.kin M.kp (thn (ha pos pins s σ H _ I h) fun us s1 ⟨vs, H1, I1, r, q⟩ => ⟨I1.kIn, ?_⟩) he hpl
  exact run_make M F hr hb hd hx I1 r q
end
section
variable {X : Cx} {CX : CXT} {k : Nat} {f C : Addr} {fd : FuncData} {ps ks : List Str} {sp : Sp} {E : XK} {x m : Str} {p pos apos kpos : Pos} {e o : Expr} {es : List Expr} {kws : List Keyword} {te ta : TE} {t tk : TA} {nm : Option Str}
structure KBinds (K : PySem.W.Frag) (fd : FuncData) (ps ks : List Str) (g : List Value → List Value → List Value) (gV : List V → List V → List V) : Prop where
  to : ∀ (s : Shared) (us ws : List Value), K.In s.heap → (g us ws).length = ps.length → BindsTo s fd ⟨us, ks.zip ws⟩ (ps.zip (g us ws))
  rel : ∀ {vs : List V} {us : List Value} {zs : List V} {ws : List Value}, Vals vs us → Vals zs ws → Vals (gV vs zs) (g us ws)
variable {g : List Value → List Value → List Value} {gV : List V → List V → List V}
end
structure FnScope (N P : List Str) (sc : Scope) : Prop where
  kind : sc.kind = .function
  co : sc.isCoroutine = false
  gen : sc.isGenerator = false
  nd : N.Nodup
  pre : N.take P.length = P
  par : ∀ x ∈ P, sc.names.lookup x = some .local ∨ sc.names.lookup x = some .cell
  nofree : ∀ y ∈ sc.names, y.2 ≠ .free
theorem bindL_out {kindOf : Str → Option NameKind} {x : Str} : ∀ {binds : List (Str × Value)} {m : Str → Option Value}, (∀ v, (x, v) ∉ binds) → bindL kindOf binds m x = m x
  | [], _, _ => rfl
  | (n, v) :: r, m, h => by
    unfold bindL
    rw [bindL_out fun w hw => h w (List.mem_cons_of_mem _ hw)]
    split
    · have : x ≠ n := by rintro rfl; exact h v List.mem_cons_self
      simp [this]
    · rfl
theorem bindC_out {kindOf : Str → Option NameKind} {x : Str} : ∀ {binds : List (Str × Value)} {m : Str → Option Value}, (∀ v, (x, v) ∉ binds) → bindC kindOf binds m x = m x
  | [], _, _ => rfl
  | (n, v) :: r, m, h => by
    unfold bindC
    rw [bindC_out fun w hw => h w (List.mem_cons_of_mem _ hw)]
    split
    · rfl
    · have : x ≠ n := by rintro rfl; exact h v List.mem_cons_self
      simp [this]
theorem bindL_get {kindOf : Str → Option NameKind} {x : Str} {v : Value} : ∀ {P : List Str} {vs : List Value} {i : Nat} {m : Str → Option Value}, P.Nodup → P[i]? = some x → vs[i]? = some v → kindOf x = some .local →
    bindL kindOf (P.zip vs) m x = some v
  | [], _, _, _, _, h, _, _ => by simp at h
  | _ :: _, [], _, _, _, _, h, _ => by simp at h
  | p :: P, w :: vs, 0, m, nd, h1, h2, hk => by
    simp at h1 h2; subst h1; subst h2
    show bindL kindOf ((p, w) :: P.zip vs) m p = _
    unfold bindL
    rw [bindL_out fun v hv => (List.nodup_cons.mp nd).1 (List.of_mem_zip hv).1, if_pos hk]
    simp
  | p :: P, w :: vs, i + 1, m, nd, h1, h2, hk => by
    show bindL kindOf ((p, w) :: P.zip vs) m x = _
    unfold bindL
    exact bindL_get (i := i) (List.nodup_cons.mp nd).2 (by simpa using h1) (by simpa using h2) hk
theorem bindC_get {kindOf : Str → Option NameKind} {x : Str} {v : Value} : ∀ {P : List Str} {vs : List Value} {i : Nat} {m : Str → Option Value}, P.Nodup → P[i]? = some x → vs[i]? = some v → kindOf x ≠ some .local →
    bindC kindOf (P.zip vs) m x = some v
  | [], _, _, _, _, h, _, _ => by simp at h
  | _ :: _, [], _, _, _, _, h, _ => by simp at h
  | p :: P, w :: vs, 0, m, nd, h1, h2, hk => by
    simp at h1 h2; subst h1; subst h2
    show bindC kindOf ((p, w) :: P.zip vs) m p = _
    unfold bindC
    rw [bindC_out fun v hv => (List.nodup_cons.mp nd).1 (List.of_mem_zip hv).1, if_neg hk]
    simp
  | p :: P, w :: vs, i + 1, m, nd, h1, h2, hk => by
    show bindC kindOf ((p, w) :: P.zip vs) m x = _
    unfold bindC
    exact bindC_get (i := i) (List.nodup_cons.mp nd).2 (by simpa using h1) (by simpa using h2) hk
def start (N : List Str) (vs : List V) : St := vs.map some ++ List.replicate (N.length - vs.length) none
def cxOf (CX : CXT) (P : Program) (w : World) (K : PySem.W.Frag) (mg : Str → Option Value) (base : Heap) (N : List Str) (qual : Str) (scope : Scope) (f : Addr) (cd : Value) (A : Around) (outer : List Env) (s : Shared) (H : Hp) (E : XK) : Cx where
  prog := P
  w := w
  K := K
  mg := mg
  base := base
  A := A.deeper (envOfC qual scope s.heap.objs.size f cd)
  N := N
  s₀ := s
  H₀ := H
  env := envOfC qual scope s.heap.objs.size f cd
  outer := outer
  stack := envOfC qual scope s.heap.objs.size f cd :: outer
  ex := []
  calm := true
  fn := fun _ => true
  pn := []
  xe := fun e s' => wpAny (model P w) (A.deeper (envOfC qual scope s.heap.objs.size f cd)) (leaving (envOfC qual scope s.heap.objs.size f cd) e) (fun _ s'' => CX outer H s E e s'') (fun e' s'' => CX outer H s E e' s'') s'
theorem cell_has {sc : Scope} {n : Nat} {x : Str} (h : sc.names.lookup x = some .cell) : ∃ c, (cellsFrom n sc.names []).lookup x = some c := by
  have q := PySem.W.cellsFrom_some sc.names n [] (.inl h)
  exact Option.isSome_iff_exists.mp q
theorem inv_start {CX : CXT} {P : Program} {w : World} {K : PySem.W.Frag} {mg : Str → Option Value} {base : Heap} {N ps : List Str} {qual : Str} {scope : Scope} {f : Addr} {cd : Value} {A : Around} {outer : List Env} {s s1 : Shared} {H : Hp} {E : XK} {us : List Value} {vs : List V}
    (S : FnScope N ps scope) (hd : A.handled = none) (e0 : Env0 P w K mg base A outer s H) (hl : vs.length = ps.length) (r : Vals vs us)
    (x : InCallC s s.heap.objs.size (bindL (envOfC qual scope s.heap.objs.size f cd).kindOf (ps.zip us) fun _ => none) (cellsFrom (s.heap.objs.size + 1) scope.names []) (bindC (envOfC qual scope s.heap.objs.size f cd).kindOf (ps.zip us) fun _ => none) s1) :
    Inv (cxOf CX P w K mg base N qual scope f cd A outer s H E) [] (start N vs) H s1 := by
  have hpl : ps.length ≤ N.length := by have := congrArg List.length S.pre; rw [List.length_take] at this; omega
  obtain ⟨h1, tk, rfl, hk⟩ := x.done
  have noA : ∀ b : Addr, b ∉ (cxOf CX P w K mg base N qual scope f cd A outer s H E).ex := fun b z => absurd (show b ∈ ([] : List Addr) from z) (by simp)
  refine ⟨⟨e0.mod, S.kind, rfl, rfl, Nat.le_refl _, fun y z c h1 h2 => ?_, fun y hy => ?_, fun y c _ h => ?_, fun _ => hd, Around.frames_deeper e0.frames, .inr ⟨rfl, rfl⟩, fun b z => absurd z (noA b), e0.bs, e0.bsz, fun b _ _ => noA b, fun b z => absurd z (noA b), e0.funs, e0.frf⟩,
    rfl, e0.bare, Un.kept hk, ⟨_, x.toInCall.ns, fun i y v h1 h2 h3 => ?_⟩, fun y c h => ⟨_, x.cell y c h⟩, e0.hok.fresh (Nat.le_refl _), fun y c h => ?_, fun p hp => absurd (show p ∈ ([] : List (Addr × Obj)) from hp) (by simp), e0.hok.kept hk, ?_⟩
  · exact name_of_addr x.apart (PySem.mem_of_lookup h1) (PySem.mem_of_lookup h2)
  · have hy : scope.names.lookup y = some .cell ∨ scope.names.lookup y = some .free := hy
    rcases hy with hy | hy
    · exact cell_has hy
    · exact absurd rfl (S.nofree _ (PySem.mem_of_lookup hy))
  · exact Nat.le_of_lt (x.above y c (PySem.mem_of_lookup h))
  · have hi : i < vs.length := by
      unfold start at h2
      by_cases hi : i < vs.length
      · exact hi
      · rw [List.getElem?_append_right (by simpa using hi)] at h2
        rw [List.getElem?_replicate] at h2
        split at h2 <;> cases h2
    have ha : vs[i]? = some v := by
      unfold start at h2
      rw [List.getElem?_append_left (by simpa using hi), List.getElem?_map] at h2
      cases e : vs[i]? with
      | none => rw [e] at h2; cases h2
      | some a => rw [e] at h2; cases h2; rfl
    obtain ⟨u, hu, rv⟩ := r.get ha
    have hp : ps[i]? = some y := by
      rw [← S.pre, List.getElem?_take_of_lt (by omega)]; exact h1
    have ndP : ps.Nodup := by rw [← S.pre]; exact S.nd.sublist (List.take_sublist _ _)
    refine ⟨u, rv, ?_⟩
    rcases S.par y (List.mem_of_getElem? hp) with k | k
    · exact .inl ⟨k, bindL_get ndP hp hu k⟩
    · obtain ⟨c, e⟩ := cell_has (n := s.heap.objs.size + 1) k
      refine .inr ⟨.inl k, c, e, ?_⟩
      have q := x.cell y c e
      rw [bindC_get ndP hp hu (by show scope.names.lookup y ≠ _; rw [k]; decide)] at q
      exact q
  · exact e0.hok.fresh (Nat.le_of_lt (x.above y c (PySem.mem_of_lookup h)))
  · unfold start
    show _ = N.length
    rw [List.length_append, List.length_map, List.length_replicate]
    omega
theorem fn_of {CX : CXT} {P : Program} {w : World} {K : PySem.W.Frag} {mg : Str → Option Value} {base : Heap} {k : Nat} {f : Addr} {name qual : Str} {params : Arguments} {body : List Stmt} {scope : Scope} {dV kV doc pm cdv ct oc : Value} {an od : Option Addr}
    {osl : Array (Option Value)} {N ps : List Str} {sp : Sp} (lk : K.lookup f = some ⟨oc, od, .func (PySem.W.fnOf name qual params body scope dV kV doc pm an cdv ct), osl⟩) (hcd : PySem.W.codeIn K cdv qual = true) (S : FnScope N ps scope)
    (len : ∀ vs H Q E, sp vs H Q E → vs.length = ps.length)
    (hbody : ∀ (A : Around) (outer : List Env) (s : Shared) (H : Hp) (vs : List V) (Q : VK) (E : XK), Room k (A.deeper (envOfC qual scope s.heap.objs.size f cdv)) → sp vs H Q E →
      ∃ t, PSs (cxOf CX P w K mg base N qual scope f cdv A outer s H E) body t ∧ t { nx := fun _ H' => Q .non H', rt := Q } (start N vs) H) :
    FnOk P w K mg base CX (k + 1) f (PySem.W.fnOf name qual params body scope dV kV doc pm an cdv ct) ps sp := by
  refine ⟨len, fun A outer s H args us vs Q E hr e0 hb r hsp => ?_⟩
  have hl := len _ _ _ _ hsp
  have KX : K.In s.heap := e0.mod.kin.keeps fun b o e => (e0.bs b o e).1
  have lim : s.heap.NoLimit := e0.mod.nolimit.keeps fun b o e => (e0.bs b o e).1
  have hkind : ∀ y ∈ ps.zip us, scope.names.lookup y.1 = some .local ∨ (scope.names.lookup y.1 = some .cell ∧ ((cellsFrom (s.heap.objs.size + 1) scope.names []).lookup y.1).isSome = true) := fun ⟨n, v⟩ hy => by
    rcases S.par n (List.of_mem_zip hy).1 with q | q
    · exact .inl q
    · exact .inr ⟨q, PySem.W.cellsFrom_some _ _ _ (.inl q)⟩
  refine codeAny_call_function hr.depth (KX _ _ lk) rfl S.co S.gen rfl (PySem.W.codeRec_of KX hcd) (hb _ _ _ _ ?_)
  refine wpAny_newFunctionEnv_cells S.kind hkind fun env he s1 x => ?_
  subst he
  refine ⟨lim.keeps x.toInCall.keep, codeAny_func ?_⟩
  obtain ⟨t, ht, hq⟩ := hbody A outer s H vs Q E (hr.deeper _) hsp
  have I : Inv (cxOf CX P w K mg base N qual scope f cdv A outer s H E) [] (start N vs) H s1 := inv_start S hr.hd e0 hl r x
  refine wpAny_mono (ht [] s1 (start N vs) H _ I hq) (fun fl s' hs => ?_) fun e s' hs => hs
  have fin : ∀ {σ' : St} {H' : Hp} {v : V} {u : Value}, Inv (cxOf CX P w K mg base N qual scope f cdv A outer s H E) [] σ' H' s' → RelV v u → Q v H' → CE outer P w H s Q u s' :=
    fun {σ' H' v u} J rv q => ⟨v, H', J.os, J.bare, J.base, J.hok, rv, q⟩
  cases fl with
  | ret u =>
    obtain ⟨v, σ', H', J, rv, q⟩ := hs
    exact fin J rv q
  | next =>
    obtain ⟨σ', H', J, q⟩ := hs
    exact fin (v := V.non) (u := Value.none) J rfl q
  | brk =>
    obtain ⟨_, _, _, q⟩ := hs
    exact False.elim q
  | cont =>
    obtain ⟨_, _, _, q⟩ := hs
    exact False.elim q
end L2
namespace L2
open PySem PySem.Spec PyProof.Rows
section
variable {X : Cx} {x : Str} {p pos : Pos} {e : Expr} {es : List Expr} {t : TA} {id T : String} {r : List V → Hp → VK → Prop}
def tCB (r : List V → Hp → VK → Prop) (t : TA) : TE := fun σ H Q => t σ H fun vs H1 => r vs H1 Q
theorem pe_callB (hc : CallR X (.builtin id) r) (hg : Gl X x) (hm : X.mg x = none) (hv : bootBuiltins x = some (.builtin id)) (ha : PA X (e :: es) t) (hn : x ≠ "__name__" := by decide) (hdb : (x == ("__debug__" : Str)) = false := by decide)
    (he : starEach (e :: es) X.env = (false, eval e X.env) :: starEach es X.env := by rfl) (hpl : (backTo pos (starEach es X.env)).any (·.1) = false := by rfl) : PE X (.Call (.Name x p) (e :: es) [] pos) (tCB r t) := by
  intro pins s σ H Q I h
  refine wpAny_Call_Name_kw (ld_blt I hg hm hv ?_ hn hdb)
  exact PyProof.Rows.callWith_builtin1 (thn (ha pos pins s σ H _ I h) fun us s1 ⟨vs, H1, I1, r1, q1⟩ => hc pins s1 σ H1 vs us Q I1 r1 q1) he hpl
theorem pe_callTy (hc : CallR X (.type T) r) (hg : Gl X x) (hm : X.mg x = none) (hv : bootBuiltins x = some (.type T)) (ha : PA X (e :: es) t) (hn : x ≠ "__name__" := by decide) (hdb : (x == ("__debug__" : Str)) = false := by decide)
    (he : starEach (e :: es) X.env = (false, eval e X.env) :: starEach es X.env := by rfl) (hpl : (backTo pos (starEach es X.env)).any (·.1) = false := by rfl) : PE X (.Call (.Name x p) (e :: es) [] pos) (tCB r t) := by
  intro pins s σ H Q I h
  refine wpAny_Call_Name_kw (ld_blt I hg hm hv ?_ hn hdb)
  exact PyProof.Rows.callWith_type1 (thn (ha pos pins s σ H _ I h) fun us s1 ⟨vs, H1, I1, r1, q1⟩ => hc pins s1 σ H1 vs us Q I1 r1 q1) he hpl
end
end L2
namespace L2
open PySem PySem.Spec PyProof.Rows
section
variable {κ : Type} [DecidableEq κ]
def valV (kvs : List (κ × V)) (k : κ) : Option V := (kvs.find? fun kv => decide (kv.1 = k)).map (·.2)
def putK (kvs : List (κ × V)) (k : κ) (v : V) : List (κ × V) :=
  if (kvs.any fun kv => decide (kv.1 = k)) = true then kvs.map (fun kv => if kv.1 = k then (kv.1, v) else kv) else kvs ++ [(k, v)]
def dropK (kvs : List (κ × V)) (k : κ) : List (κ × V) := kvs.filter fun kv => decide (kv.1 ≠ k)
theorem valV_pos {p : κ × V} {r : List (κ × V)} {k : κ} (e : p.1 = k) : valV (p :: r) k = some p.2 := by simp [valV, List.find?_cons, e]
theorem valV_neg {p : κ × V} {r : List (κ × V)} {k : κ} (e : ¬ p.1 = k) : valV (p :: r) k = valV r k := by simp [valV, List.find?_cons, e]
theorem valV_any (k : κ) : ∀ kvs : List (κ × V), (kvs.any fun kv => decide (kv.1 = k)) = (valV kvs k).isSome
  | [] => rfl
  | p :: r => by
    rw [List.any_cons]
    by_cases e : p.1 = k
    · simp only [valV_pos e, decide_eq_true e, Bool.true_or, Option.isSome_some]
    · rw [valV_neg e, decide_eq_false e, Bool.false_or]; exact valV_any k r
theorem RelO.isSome_eq {o : Option V} {u : Option Value} (r : RelO o u) : o.isSome = u.isSome := by
  cases o with
  | none => cases u with
    | none => rfl
    | some _ => exact (show False from r).elim
  | some _ => cases u with
    | none => exact (show False from r).elim
    | some _ => rfl
theorem RelO.getD {o : Option V} {u : Option Value} {d : V} {d' : Value} (r : RelO o u) (rd : RelV d d') : RelV (o.getD d) (u.getD d') := by
  cases o with
  | none => cases u with
    | none => exact rd
    | some _ => exact (show False from r).elim
  | some _ => cases u with
    | none => exact (show False from r).elim
    | some _ => exact r
theorem KV.val {kvs : List (κ × V)} {vs : List (κ × Value)} (r : KV kvs vs) (k : κ) : RelO (valV kvs k) (valueAt vs k) := by
  unfold KV at r
  induction r with
  | nil => exact True.intro
  | @cons p q ps qs h t ih =>
    obtain ⟨h1, h2⟩ := h
    by_cases e : p.1 = k
    · have e' : q.1 = k := h1.symm.trans e
      have b : valueAt (q :: qs) k = some q.2 := by simp [valueAt, List.find?_cons, e']
      rw [valV_pos e, b]; exact h2
    · have e' : ¬ q.1 = k := fun z => e (h1.trans z)
      have b : valueAt (q :: qs) k = valueAt qs k := by simp [valueAt, List.find?_cons, e']
      rw [valV_neg e, b]; exact ih
theorem KV.any {kvs : List (κ × V)} {vs : List (κ × Value)} (r : KV kvs vs) (k : κ) : (kvs.any fun kv => decide (kv.1 = k)) = vs.any fun kv => decide (kv.1 = k) := by
  unfold KV at r
  induction r with
  | nil => rfl
  | cons h t ih => rw [List.any_cons, List.any_cons, ih, h.1]
theorem KV.repl {kvs : List (κ × V)} {vs : List (κ × Value)} (r : KV kvs vs) (k : κ) {y : V} {u : Value} (ry : RelV y u) :
    KV (kvs.map fun kv => if kv.1 = k then (kv.1, y) else kv) (vs.map fun kv => if kv.1 = k then (kv.1, u) else kv) := by
  unfold KV at r ⊢
  induction r with
  | nil => exact .nil
  | @cons p q ps qs h t ih =>
    rw [List.map_cons, List.map_cons]
    refine .cons ?_ ih
    obtain ⟨h1, h2⟩ := h
    by_cases e : p.1 = k
    · rw [if_pos e, if_pos (h1.symm.trans e)]; exact ⟨h1, ry⟩
    · rw [if_neg e, if_neg (fun z => e (h1.trans z))]; exact ⟨h1, h2⟩
theorem KV.put {kvs : List (κ × V)} {vs : List (κ × Value)} (r : KV kvs vs) (k : κ) {y : V} {u : Value} (ry : RelV y u) : KV (putK kvs k y) (stored vs k u) := by
  unfold putK stored
  rw [r.any k]
  by_cases e : (vs.any fun kv => decide (kv.1 = k)) = true
  · rw [if_pos e, if_pos e]; exact r.repl k ry
  · rw [if_neg e, if_neg e]; exact Paired.snoc r ⟨rfl, ry⟩
theorem KV.drop {kvs : List (κ × V)} {vs : List (κ × Value)} (r : KV kvs vs) (k : κ) : KV (dropK kvs k) (without vs k) := by
  unfold KV at r ⊢
  unfold dropK without
  induction r with
  | nil => exact .nil
  | @cons p q ps qs h t ih =>
    obtain ⟨h1, h2⟩ := h
    rw [List.filter_cons, List.filter_cons]
    by_cases e : p.1 = k
    · have a : ¬ decide (p.1 ≠ k) = true := by simp [e]
      have b : ¬ decide (q.1 ≠ k) = true := by simp [h1.symm.trans e]
      rw [if_neg a, if_neg b]; exact ih
    · have e' : ¬ q.1 = k := fun z => e (h1.trans z)
      have a : decide (p.1 ≠ k) = true := by simp [e]
      have b : decide (q.1 ≠ k) = true := by simp [e']
      rw [if_pos a, if_pos b]; exact .cons ⟨h1, h2⟩ ih
theorem KV.length {kvs : List (κ × V)} {vs : List (κ × Value)} (r : KV kvs vs) : kvs.length = vs.length := Paired.length r
end
theorem kV_is {P : Program} {w : World} {k : Key} {u : Value} (r : RelV (kV k) u) : (mixKind P w).is k u = true := by
  cases k with
  | inl i => obtain ⟨t, e⟩ := (show ∃ t, u = Value.int i t from r); subst e; exact mixKind_int P w i t
  | inr x => obtain ⟨t, e⟩ := (show ∃ t, u = Value.str x t from r); subst e; exact mixKind_str P w x t
abbrev KT (H : Hp) : List (List Key × V) → List (List Key × Addr × Value) → Prop := Paired fun p q => p.1 = q.1 ∧ H q.2.1 = some (.tup (p.1.map kV)) ∧ RelV p.2 q.2.2
theorem KT.val {H : Hp} {kvs : List (List Key × V)} {xs : List (List Key × Addr × Value)} (r : KT H kvs xs) (k : List Key) : RelO (valV kvs k) ((atKey xs k).map (·.2)) := by
  induction r with
  | nil => exact True.intro
  | @cons p q ps qs h t ih =>
    obtain ⟨h1, _, h2⟩ := h
    by_cases e : p.1 = k
    · have e' : q.1 = k := h1.symm.trans e
      have b : atKey (q :: qs) k = some q.2 := by simp [atKey, List.find?_cons, e']
      rw [valV_pos e, b]; exact h2
    · have e' : ¬ q.1 = k := fun z => e (h1.trans z)
      have b : atKey (q :: qs) k = atKey qs k := by simp [atKey, List.find?_cons, e']
      rw [valV_neg e, b]; exact ih
theorem KT.repl {H : Hp} {kvs : List (List Key × V)} {xs : List (List Key × Addr × Value)} (r : KT H kvs xs) (k : List Key) {y : V} {u : Value} (ry : RelV y u) :
    KT H (kvs.map fun kv => if kv.1 = k then (kv.1, y) else kv) (xs.map (putAt k u)) := by
  induction r with
  | nil => exact .nil
  | @cons p q ps qs h t ih =>
    rw [List.map_cons, List.map_cons]
    refine .cons ?_ ih
    obtain ⟨h1, h2, h3⟩ := h
    unfold putAt
    by_cases e : p.1 = k
    · rw [if_pos e, if_pos (h1.symm.trans e)]; exact ⟨h1, h2, ry⟩
    · rw [if_neg e, if_neg (fun z => e (h1.trans z))]; exact ⟨h1, h2, h3⟩
theorem KT.put {H : Hp} {kvs : List (List Key × V)} {xs : List (List Key × Addr × Value)} (r : KT H kvs xs) (k : List Key) {b : Addr} {y : V} {u : Value} (hb : H b = some (.tup (k.map kV))) (ry : RelV y u) :
    KT H (putK kvs k y) (storedH xs k b u) := by
  have e : (kvs.any fun kv => decide (kv.1 = k)) = (atKey xs k).isSome := by
    rw [valV_any, (r.val k).isSome_eq, Option.isSome_map]
  unfold putK storedH
  rw [e]
  by_cases q : (atKey xs k).isSome = true
  · rw [if_pos q, if_pos q]; exact r.repl k ry
  · rw [if_neg q, if_neg q]; exact Paired.snoc r ⟨rfl, hb, ry⟩
theorem KT.keeps {H H' : Hp} {kvs : List (List Key × V)} {xs : List (List Key × Addr × Value)} (r : KT H kvs xs) (ht : ∀ b ys, H b = some (.tup ys) → H' b = some (.tup ys)) : KT H' kvs xs :=
  Paired.mapP r fun _ _ z => ⟨z.1, ht _ _ z.2.1, z.2.2⟩
section
variable {P : Program} {w : World} {H : Hp} {h : Heap} {a : Addr}
end
section
variable {X : Cx} {pins : List (Addr × Obj)} {σ : St} {H : Hp} {s : Shared} {a : Addr} {y v : V} {u r : Value} {o : Option V} {A : Around} {E : Value → Shared → Prop}
end
section
variable {X : Cx} {pins : List (Addr × Obj)} {σ : St} {H : Hp} {s : Shared} {a : Addr} {kvs : List (Key × V)} {k : Key} {u : Value} {A : Around} {E : Value → Shared → Prop}
end
section
variable {X : Cx} {o i e value : Expr} {pos pos' tpos : Pos} {td ty tv : TE}
end
section
variable {X : Cx} {pos : Pos}
end
structure M1 (X : Cx) (o : Expr) (m : Str) (apos : Pos) (e : Expr) (cpos : Pos) : Prop where
  base : attributeBase o m X.env (eval o X.env) = eval o X.env
  few : ((backTo cpos (starEach [e] X.env)).all (fun x => !x.1) && (backToKw cpos (keywordEach [] X.env)).all (fun x => x.1.isSome)
    && decide (([e] : List Expr).length + ([] : List Keyword).length + (if ([] : List Keyword).isEmpty then 0 else 1) < 30)) = true
  line : (apos.endLine == cpos.line) = true
  trees : backTo cpos (starEach [e] X.env) = [(false, eval e X.env)]
structure M2 (X : Cx) (o : Expr) (m : Str) (apos : Pos) (e f : Expr) (cpos : Pos) : Prop where
  base : attributeBase o m X.env (eval o X.env) = eval o X.env
  few : ((backTo cpos (starEach [e, f] X.env)).all (fun x => !x.1) && (backToKw cpos (keywordEach [] X.env)).all (fun x => x.1.isSome)
    && decide (([e, f] : List Expr).length + ([] : List Keyword).length + (if ([] : List Keyword).isEmpty then 0 else 1) < 30)) = true
  line : (apos.endLine == cpos.line) = true
  trees : backTo cpos (starEach [e, f] X.env) = [(false, eval e X.env), (false, eval f X.env)]
section
variable {X : Cx} {pins : List (Addr × Obj)} {σ : St} {H : Hp} {s : Shared} {a : Addr} {y d : V} {u r : Value} {o : Option V} {A : Around} {E : Value → Shared → Prop}
end
section
variable {X : Cx} {o e f : Expr} {apos cpos : Pos} {td ty tx : TE}
end
section
variable {X : Cx} {pins : List (Addr × Obj)} {σ : St} {H : Hp} {s : Shared} {a : Addr} {kvs : List (Key × V)} {A : Around} {E : Value → Shared → Prop}
end
section
variable {X : Cx} {pins : List (Addr × Obj)} {σ : St} {H : Hp} {s : Shared} {a : Addr} {y : V} {u : Value} {A : Around} {E : Value → Shared → Prop}
end
end L2
namespace HT
open PySem PyProof.Rows
section
open PySem.SeqAt
open PySem.AutoSeq1 (wpAny_loadPart')
open PySem.MeetsSeq PySem.MeetsSeq2 PySem.MeetsSeq3
end
section
variable {prog : Program} {w : World} {A : Around} {E : Value → Shared → Prop} {s : Shared}
def sIx (n d : Nat) : Option Int → Nat
  | none => d
  | some v => if v < 0 then (v + (n : Int)).toNat else min v.toNat n
theorem sIx_nat (n d k : Nat) : sIx n d (some (k : Int)) = min k n := by
  show (if (k : Int) < 0 then ((k : Int) + (n : Int)).toNat else min (k : Int).toNat n) = min k n
  rw [if_neg (by omega), Int.toNat_natCast]
end
end HT
namespace L2
open PySem PySem.Spec PyProof.Rows
abbrev TO := St → Hp → (Option Int → Hp → Prop) → Prop
def PO (X : Cx) (e : Option Expr) (t : TO) : Prop :=
  ∀ (pins : List (Addr × Obj)) (s : Shared) (σ : St) (H : Hp) (Q : Option Int → Hp → Prop), Inv X pins σ H s → t σ H Q →
    wpAny (model X.prog X.w) X.A (evalPart e X.env) (fun u s' => ∃ o H', Inv X pins σ H' s' ∧ IsPart u o ∧ Q o H') X.xe s
def tNoPart : TO := fun _ H Q => Q none H
def tPart (t : TE) : TO := fun σ H Q => t σ H fun x H1 => ∃ i, x = .int i ∧ Q (some i) H1
section
variable {X : Cx} {e : Expr} {te : TE} {lo hi : Option Expr} {tl th : TO} {pos p2 : Pos}
theorem po_some (h : PE X e te) : PO X (some e) (tPart te) := by
  intro pins s σ H Q I hw
  rw [evalPart_some]
  refine thn (h pins s σ H _ I hw) fun u s1 ⟨x, H1, I1, r1, q1⟩ => ?_
  obtain ⟨i, rfl, q⟩ := q1
  obtain ⟨t, rfl⟩ := r1
  exact ⟨some i, H1, I1, .int i t, q⟩
def SlR (X : Cx) (r : V → Option Int → Option Int → Hp → VK → Prop) : Prop :=
  ∀ (pins : List (Addr × Obj)) (s : Shared) (σ : St) (H : Hp) (x : V) (v vl vu : Value) (lo hi : Option Int) (sl : Addr) (Q : VK), Inv X pins σ H s → RelV x v → s.heap.IsSliceOf sl vl vu .none → IsPart vl lo → IsPart vu hi → r x lo hi H Q →
    ∃ T id, typeLookup (.type T) "__getitem__" = pure (some (.builtin id)) ∧ s.TypeIs v T ∧ wpAny (model X.prog X.w) X.A (getItem v (.ref sl)) (EP X pins σ Q) X.xe s
def tSl (r : V → Option Int → Option Int → Hp → VK → Prop) (te : TE) (tl th : TO) : TE := fun σ H Q => te σ H fun x H1 => tl σ H1 fun l H2 => th σ H2 fun u H3 => r x l u H3 Q
theorem pe_slice {r : V → Option Int → Option Int → Hp → VK → Prop} (hr : SlR X r) (he : PE X e te) (hl : PO X lo tl) (hu : PO X hi th) : PE X (.Subscript e (.Slice lo hi none p2) pos) (tSl r te tl th) := by
  intro pins s σ H Q I h
  refine Subscript_ (thn (he pins s σ H _ I h) fun v s1 ⟨x, H1, I1, r1, q1⟩ => ?_)
  refine wpAny_Slice (thn (hl pins s1 σ H1 _ I1 q1) fun vl s2 ⟨l, H2, I2, pl, q2⟩ => thn (hu pins s2 σ H2 _ I2 q2) fun vu s3 ⟨u, H3, I3, pu, q3⟩ => ?_)
  rw [evalPart_none]
  refine wpAny_pure ?_
  have I4 : Inv X pins σ H3 { s3 with heap := s3.heap.push { cls := .type "slice", data := .fields #[vl, vu, .none] } } := I3.kept (t' := s3.toks) fun b ob q => Heap.get?_push_of_some _ q
  obtain ⟨T, id, hT, ht, hg⟩ := hr pins { s3 with heap := s3.heap.push { cls := .type "slice", data := .fields #[vl, vu, .none] } } σ H3 x v vl vu l u s3.heap.objs.size Q I4 r1 (Heap.IsSliceOf.new ..) pl pu q3
  show wpAny (model X.prog X.w) X.A (subscriptTail e (.Slice lo hi none p2) v (.ref s3.heap.objs.size)) (EP X pins σ Q) X.xe { s3 with heap := s3.heap.push { cls := .type "slice", data := .fields #[vl, vu, .none] } }
  exact tail_any (ops := [.ref s3.heap.objs.size, v]) ht hT hg (by with_unfolding_all rfl)
def cutV (xs : List V) (lo hi : Option Int) : List V := (xs.drop (HT.sIx xs.length 0 lo)).take (HT.sIx xs.length xs.length hi - HT.sIx xs.length 0 lo)
theorem cutV_length (xs : List V) (lo hi : Option Int) : (cutV xs lo hi).length ≤ xs.length := by
  unfold cutV
  rw [List.length_take, List.length_drop]
  omega
end
end L2
namespace L2
open PySem PySem.Spec PyProof.Rows
def ixN (n : Nat) (i : Int) : Option Nat := if 0 ≤ i then (if i < n then some i.toNat else none) else if -(n : Int) ≤ i then some (i + n).toNat else none
def atI {α : Type} (xs : List α) (i : Int) : Option α := (ixN xs.length i).bind fun j => xs[j]?
theorem ixN_seq {n : Nat} {i : Int} {j : Nat} (h : ixN n i = some j) : seqIndex? i n = some j ∧ j < n ∧ -(n : Int) ≤ i ∧ i < n := by
  unfold ixN at h
  by_cases h0 : 0 ≤ i
  · rw [if_pos h0] at h
    by_cases h1 : i < n
    · rw [if_pos h1] at h
      have e : i.toNat = j := Option.some.inj h
      exact ⟨by rw [seqIndex_of h0 h1, e], by omega, by omega, h1⟩
    · rw [if_neg h1] at h; cases h
  · rw [if_neg h0] at h
    by_cases h1 : -(n : Int) ≤ i
    · rw [if_pos h1] at h
      have e : (i + n).toNat = j := Option.some.inj h
      exact ⟨by rw [seqIndex_neg (by omega) h1, e], by omega, h1, by omega⟩
    · rw [if_neg h1] at h; cases h
theorem atI_get {α : Type} {xs : List α} {i : Int} {v : α} (h : atI xs i = some v) : ∃ j, seqIndex? i xs.length = some j ∧ xs[j]? = some v ∧ j < xs.length ∧ -(xs.length : Int) ≤ i ∧ i < xs.length := by
  unfold atI at h
  cases e : ixN xs.length i with
  | none => rw [e] at h; cases h
  | some j =>
    rw [e] at h
    obtain ⟨h1, h2, h3, h4⟩ := ixN_seq e
    exact ⟨j, h1, h, h2, h3, h4⟩
theorem atI_nat {α : Type} {xs : List α} {j : Nat} {v : α} (h : xs[j]? = some v) : atI xs (j : Int) = some v := by
  have hj : j < xs.length := (List.getElem?_eq_some_iff.mp h).1
  have e : ixN xs.length (j : Int) = some j := by
    unfold ixN
    rw [if_pos (by omega), if_pos (by omega)]; simp
  unfold atI; rw [e]; exact h
def PlainIx (b : Expr) : Prop := ∀ o i, subscripted b false o i = operate [o, i] (getItem o i)
def IxR (X : Cx) (r : R2) : Prop :=
  ∀ (value slice : Expr) (pins : List (Addr × Obj)) (s : Shared) (σ : St) (H : Hp) (x y : V) (v u : Value) (Q : VK), Inv X pins σ H s → RelV x v → RelV y u → r x y H Q →
    subscripted slice false v u = operate [v, u] (getItem v u) → wpAny (model X.prog X.w) X.A (subscriptTail value slice v u) (EP X pins σ Q) X.xe s
def MtR (X : Cx) (id : String) (r : V → List V → Hp → VK → Prop) : Prop :=
  ∀ (pins : List (Addr × Obj)) (s : Shared) (σ : St) (H : Hp) (x : V) (xs : List V) (v : Value) (us : List Value) (Q : VK), Inv X pins σ H s → RelV x v → Vals xs us → r x xs H Q →
    wpAny (model X.prog X.w) X.A (call (.builtin id) (v :: us)) (EP X pins σ Q) X.xe s
section
variable {X : Cx} {a b : Expr} {ta tb : TE} {pos : Pos}
theorem pe_ix {r : R2} (hr : IxR X r) (ha : PE X a ta) (hb : PE X b tb) (hs : PlainIx b) : PE X (.Subscript a b pos) (tOp r ta tb) := by
  intro pins s σ H Q I h
  exact Subscript_ (binT ha hb I h fun v u s2 x y H2 I2 rx ry q => hr a b pins s2 σ H2 x y v u Q I2 rx ry q (hs _ _))
def rIxL (K : PySem.W.Frag) : R2 := fun x y H Q => ∃ p xs i v, x = .ref p ∧ y = .int i ∧ SqL K H p xs ∧ atI xs i = some v ∧ Q v H
def rIxT (K : PySem.W.Frag) : R2 := fun x y H Q => ∃ p xs i v, x = .ref p ∧ y = .int i ∧ SqT K H p xs ∧ atI xs i = some v ∧ Q v H
theorem ix_list : IxR X (rIxL X.K) := by
  intro value slice pins s σ H x y v u Q I rx ry h hs
  obtain ⟨p, xs, i, z, rfl, rfl, hq, he, q⟩ := h
  cases rx
  obtain ⟨t, rfl⟩ := ry
  obtain ⟨its, r, pl, hz⟩ := I.list hq
  obtain ⟨j, h1, h2, h3, h4, h5⟩ := atI_get he
  obtain ⟨w, ew, rw'⟩ := r.get h2
  have hl := r.length
  have hn := line63
  have fin : EP X pins σ Q w s := ⟨z, H, I, rw', q⟩
  by_cases h0 : 0 ≤ i
  · have hj : i.toNat = j := by
      rw [seqIndex_of h0 h5] at h1
      exact Option.some.inj h1
    exact item_listR pl.isList h0 (by omega) (by rw [hj]; simpa using ew) fin hs
  · have hj : (i + (its.toArray.size : Int)).toNat = j := by
      rw [seqIndex_neg (by omega) h4] at h1
      rw [List.size_toArray, ← hl]
      exact Option.some.inj h1
    exact subscriptTail_builtinR (x := w) pl.isList.typeIs slot_list_getitem.lookup
      (wpAny_getItem_list_neg (Q := fun r s' => r = w ∧ EP X pins σ Q r s') pl.isList (by omega) (by rw [List.size_toArray] <;> omega) (by omega) (by rw [hj]; simpa using ew) ⟨rfl, fin⟩) hs
theorem ix_tup : IxR X (rIxT X.K) := by
  intro value slice pins s σ H x y v u Q I rx ry h hs
  obtain ⟨p, xs, i, z, rfl, rfl, hq, he, q⟩ := h
  cases rx
  obtain ⟨t, rfl⟩ := ry
  obtain ⟨its, r, pl, hz⟩ := I.tuple hq
  obtain ⟨j, h1, h2, h3, h4, h5⟩ := atI_get he
  obtain ⟨w, ew, rw'⟩ := r.get h2
  have hl := r.length
  have hn := line63
  have fin : EP X pins σ Q w s := ⟨z, H, I, rw', q⟩
  exact subscriptTail_builtinR (x := w) pl.typeIs slot_tuple_getitem.lookup
    (getItem_tuple (j := j) (Q := fun r s' => r = w ∧ EP X pins σ Q r s') pl (by omega) (by omega) (by rw [List.size_toArray, ← hl]; exact h1) (by simpa using ew) ⟨rfl, fin⟩) hs
theorem Inv.lst {pins : List (Addr × Obj)} {σ : St} {H : Hp} {s : Shared} {p : Addr} {xs : List V} (I : Inv X pins σ H s) (h : H p = some (.lst xs)) :
    ∃ (its : List Value) (n : Nat), Vals xs its ∧ s.heap.get? p = some { cls := .type "list", data := .seq its.toArray n } ∧ xs.length ≤ sizeLine := by
  obtain ⟨z, its, n, r, e⟩ := I.hok p _ h
  exact ⟨its, n, r, e, z⟩
theorem slice_bounds (lo hi : Option Int) (n : Nat) : (sliceBounds lo hi none n).1 = ((HT.sIx n 0 lo : Nat) : Int) ∧ (sliceBounds lo hi none n).2.1 = ((HT.sIx n n hi : Nat) : Int) ∧ (sliceBounds lo hi none n).2.2 = 1 := by
  refine ⟨?_, ?_, rfl⟩
  · cases lo with
    | none => simp [sliceBounds, HT.sIx]
    | some i =>
      simp only [sliceBounds, HT.sIx, Option.getD_none, show (1 : Int) > 0 by decide, if_true]
      by_cases h : i < 0
      · simp only [h, if_true] <;> omega
      · simp only [h, if_false] <;> omega
  · cases hi with
    | none => simp [sliceBounds, HT.sIx]
    | some i =>
      simp only [sliceBounds, HT.sIx, Option.getD_none, show (1 : Int) > 0 by decide, if_true]
      by_cases h : i < 0
      · simp only [h, if_true] <;> omega
      · simp only [h, if_false] <;> omega
theorem slicePick_cut (its : List Value) (lo hi : Option Int) : slicePick its.toArray lo hi none = ((its.drop (HT.sIx its.length 0 lo)).take (HT.sIx its.length its.length hi - HT.sIx its.length 0 lo)).toArray := by
  obtain ⟨h1, h2, h3⟩ := slice_bounds lo hi its.toArray.size
  unfold slicePick
  rw [h1, h2, h3]
  simp only [sliceRange_one, pick_run, List.size_toArray] <;> rfl
def rSlL (K : PySem.W.Frag) : V → Option Int → Option Int → Hp → VK → Prop := fun x lo hi H Q => ∃ a xs, x = .ref a ∧ SqL K H a xs ∧ ∀ p, H p = none → Q (.ref p) (upd H p (.lst (cutV xs lo hi)))
theorem sl_list : SlR X (rSlL X.K) := by
  intro pins s σ H x v vl vu lo hi sl Q I rx hs pl pu h
  obtain ⟨a, xs, rfl, hx, q⟩ := h
  cases rx
  obtain ⟨its, r, ht, hz⟩ := I.list hx
  have hlen := r.length
  refine ⟨"list", _, slot_list_getitem.lookup, ht.isList.typeIs, ?_⟩
  refine wpAny_getItem_list_slice ht.isList hs pl pu .none (by simp) ?_ (by rw [List.size_toArray] <;> omega)
  rw [slicePick_cut, ← hlen]
  refine ⟨.ref s.heap.objs.size, _, I.laid (t' := s.toks) (o := .lst (cutV xs lo hi)) (fun b ob q => Heap.get?_push_of_some _ q) (Nat.le_refl _) ?_, rfl, q _ (I.hok.fresh (Nat.le_refl _))⟩
  exact ⟨Nat.le_trans (cutV_length xs lo hi) hz, _, 0, (r.drop (HT.sIx xs.length 0 lo)).take (HT.sIx xs.length xs.length hi - HT.sIx xs.length 0 lo), Heap.get?_push_size _ rfl⟩
def flatV : V → Bool
  | .non => true
  | .bl _ => true
  | .int _ => true
  | .str _ => true
  | _ => false
def eqV : V → V → Bool
  | .non, .non => true
  | .bl a, .bl b => a == b
  | .bl a, .int b => (if a then 1 else 0) == b
  | .int a, .bl b => a == (if b then 1 else 0)
  | .int a, .int b => a == b
  | .str a, .str b => a == b
  | _, _ => false
theorem eqAt_V {A : Around} {s : Shared} {y x : V} {u v : Value} (ry : RelV y u) (rx : RelV x v) (fy : flatV y = true) (fx : flatV x = true) : SeqAt.EqAt A s u v (eqV y x) := by
  cases y with
  | non =>
    cases ry
    cases x with
    | non => cases rx; exact SeqAt.EqAt.same _
    | bl b => cases rx; exact SeqAt.EqAt.none_bool b
    | int b => obtain ⟨t, rfl⟩ := rx; exact SeqAt.EqAt.none_int b t
    | str b => obtain ⟨t, rfl⟩ := rx; exact SeqAt.EqAt.none_str b t
    | _ => exact absurd (show false = true from fx) Bool.false_ne_true
  | bl a =>
    cases ry
    cases x with
    | non => cases rx; exact SeqAt.EqAt.bool_none a
    | bl b => cases rx; exact SeqAt.EqAt.bool_bool a b
    | int b => obtain ⟨t, rfl⟩ := rx; exact SeqAt.EqAt.bool_int a b t
    | str b => obtain ⟨t, rfl⟩ := rx; exact SeqAt.EqAt.bool_str a b t
    | _ => exact absurd (show false = true from fx) Bool.false_ne_true
  | int a =>
    obtain ⟨t', rfl⟩ := ry
    cases x with
    | non => cases rx; exact SeqAt.EqAt.int_none a t'
    | bl b => cases rx; exact SeqAt.EqAt.int_bool a t' b
    | int b => obtain ⟨t, rfl⟩ := rx; exact SeqAt.EqAt.int_int a t' b t
    | str b => obtain ⟨t, rfl⟩ := rx; exact SeqAt.EqAt.int_str a t' b t
    | _ => exact absurd (show false = true from fx) Bool.false_ne_true
  | str a =>
    obtain ⟨t', rfl⟩ := ry
    cases x with
    | non => cases rx; exact SeqAt.EqAt.str_none a t'
    | bl b => cases rx; exact SeqAt.EqAt.str_bool a t' b
    | int b => obtain ⟨t, rfl⟩ := rx; exact SeqAt.EqAt.str_int a t' b t
    | str b => obtain ⟨t, rfl⟩ := rx; exact SeqAt.EqAt.str_str a t' b t
    | _ => exact absurd (show false = true from fx) Bool.false_ne_true
  | _ => exact absurd (show false = true from fy) Bool.false_ne_true
def eqU (x : V) (u : Value) : Bool := match u with
  | .none => eqV .non x
  | .bool b => eqV (.bl b) x
  | .int i _ => eqV (.int i) x
  | .str z _ => eqV (.str z) x
  | _ => false
theorem eqU_of {x y : V} {u : Value} (r : RelV y u) (f : flatV y = true) : eqU x u = eqV y x := by
  cases y with
  | non => cases r; rfl
  | bl b => cases r; rfl
  | int i => obtain ⟨t, rfl⟩ := r; rfl
  | str z => obtain ⟨t, rfl⟩ := r; rfl
  | _ => exact absurd (show false = true from f) Bool.false_ne_true
theorem any_eqU {x : V} : ∀ {xs : List V} {us : List Value}, Vals xs us → xs.all flatV = true → us.any (eqU x) = xs.any fun y => eqV y x
  | _, _, .nil, _ => rfl
  | y :: xs, u :: us, .cons r t, f => by
    rw [List.all_cons, Bool.and_eq_true] at f
    rw [List.any_cons, List.any_cons, eqU_of r f.1, any_eqU t f.2]
theorem mem_eqAt {A : Around} {s : Shared} {x : V} {v : Value} (rx : RelV x v) (fx : flatV x = true) : ∀ {xs : List V} {us : List Value}, Vals xs us → xs.all flatV = true → ∀ u ∈ us, SeqAt.EqAt A s u v (eqU x u)
  | _, _, .nil, _ => fun u hu => by cases hu
  | y :: xs, u :: us, .cons r t, f => fun u' hu => by
    rw [List.all_cons, Bool.and_eq_true] at f
    rcases List.mem_cons.mp hu with rfl | hu
    · rw [eqU_of r f.1]; exact eqAt_V r rx f.1 fx
    · exact mem_eqAt rx fx t f.2 u' hu
def inV (x : V) (xs : List V) : Bool := xs.any fun y => eqV y x
def rIn (K : PySem.W.Frag) (neg : Bool) : R2 := fun x y H Q => ∃ p xs, y = .ref p ∧ (SqL K H p xs ∨ SqT K H p xs) ∧ flatV x = true ∧ xs.all flatV = true ∧ Q (.bl (if neg then !inV x xs else inV x xs)) H
theorem op_in_seq : OpR X (compareOp .In) (rIn X.K false) := by
  intro pins s σ H x y v u Q I rx ry h
  obtain ⟨p, xs, rfl, hq, fx, fs, q⟩ := h
  cases ry
  rcases hq with hq | hq
  · obtain ⟨its, r, pl, hz⟩ := I.list hq
    refine SeqAt.in_listAt (eqU x) pl.isList (fun w hw => mem_eqAt rx fx r fs w (by simpa using hw)) ⟨.bl _, H, I, rfl, ?_⟩
    rw [show its.toArray.any (eqU x) = its.any (eqU x) by simp, any_eqU r fs]
    exact q
  · obtain ⟨its, r, pl, hz⟩ := I.tuple hq
    refine SeqAt.in_tupleAt (eqU x) pl (fun w hw => mem_eqAt rx fx r fs w (by simpa using hw)) ⟨.bl _, H, I, rfl, ?_⟩
    rw [show its.toArray.any (eqU x) = its.any (eqU x) by simp, any_eqU r fs]
    exact q
theorem call_len_seq : CallR X (.builtin "len") (fun xs H Q => ∃ p ys, xs = [.ref p] ∧ (SqL X.K H p ys ∨ SqT X.K H p ys) ∧ Q (.int ys.length) H) := by
  intro pins s σ H xs us Q I r h
  obtain ⟨p, ys, rfl, hq, q⟩ := h
  obtain ⟨u, rfl, rx⟩ := vals1 r
  cases rx
  have hn := line63
  rcases hq with hq | hq
  · obtain ⟨its, r', pl, hz⟩ := I.list hq
    have hlen := r'.length
    exact Calls.call_len_list pl.isList (by simp only [List.size_toArray] <;> omega) ⟨.int ys.length, H, I.tok _, ⟨s.toks + 1, by rw [List.size_toArray, hlen]⟩, q⟩
  · obtain ⟨its, r', pl, hz⟩ := I.tuple hq
    have hlen := r'.length
    exact len_tuple pl (by simp only [List.size_toArray] <;> omega) ⟨.int ys.length, H, I.tok _, ⟨s.toks + 1, by rw [List.size_toArray, hlen]⟩, q⟩
def tyV (K : PySem.W.Frag) (T : String) (x : V) (H : Hp) : Prop := match x with
  | .str _ => T = "str"
  | .int _ => T = "int"
  | .ref p => (T = "list" ∧ ∃ xs, SqL K H p xs) ∨ (T = "tuple" ∧ ∃ o, K.lookup p = some o ∧ o.cls = .type "tuple" ∧ o.dict = none) ∨
      (T = "dict" ∧ ((∃ kvs, H p = some (.dK kvs)) ∨ ∃ kvs, H p = some (.dT kvs))) ∨ (T = "set" ∧ ∃ S n, H p = some (.set S n))
  | _ => False
theorem tyV_is {pins : List (Addr × Obj)} {σ : St} {H : Hp} {s : Shared} {T : String} {x : V} {v : Value} (I : Inv X pins σ H s) (r : RelV x v) (ty : tyV X.K T x H) :
    s.TypeIs v T ∧ ∀ a, v = .ref a → ∃ ob, s.heap.get? a = some ob ∧ ob.dict = none := by
  cases x with
  | str z =>
    obtain ⟨t, rfl⟩ := r
    cases (show T = "str" from ty)
    exact ⟨typeIs_str s z t, fun _ e => nomatch e⟩
  | int i =>
    obtain ⟨t, rfl⟩ := r
    cases (show T = "int" from ty)
    exact ⟨typeIs_int s i t, fun _ e => nomatch e⟩
  | ref p =>
    cases r
    rcases ty with ⟨rfl, xs, hq⟩ | ⟨rfl, o, hk, hc, hd⟩ | ⟨rfl, hk⟩ | ⟨rfl, S, n, hk⟩
    · obtain ⟨its, _, pl, _⟩ := I.list hq
      refine ⟨pl.isList.typeIs, fun a e => ?_⟩
      cases e
      obtain ⟨o, n, e, c, hd, _⟩ := pl
      exact ⟨o, e, hd⟩
    · refine ⟨⟨o, I.kIn p o hk, hc⟩, fun a e => ?_⟩
      cases e
      exact ⟨o, I.kIn _ o hk, hd⟩
    · have z : ∃ o, s.heap.get? p = some o ∧ o.ExactDict := by
        rcases hk with ⟨kvs, hk⟩ | ⟨kvs, hk⟩
        · obtain ⟨_, _, _, _, o, _, _, e, ex, _⟩ := I.hok p _ hk
          exact ⟨o, e, ex⟩
        · obtain ⟨_, _, _, _, o, _, _, e, ex, _⟩ := I.hok p _ hk
          exact ⟨o, e, ex⟩
      obtain ⟨o, e, ex⟩ := z
      refine ⟨⟨o, e, ex.1⟩, fun a e2 => ?_⟩
      cases e2
      exact ⟨o, e, ex.2.1⟩
    · obtain ⟨o, _, _, _, e, ex, _⟩ := I.hok p _ hk
      refine ⟨⟨o, e, ex.1⟩, fun a e2 => ?_⟩
      cases e2
      exact ⟨o, e, ex.2.1⟩
  | _ => exact False.elim ty
def tBM (K : PySem.W.Frag) (T : String) (r : V → List V → Hp → VK → Prop) (to : TE) (t : TA) : TE := fun σ H Q => to σ H fun x H1 => tyV K T x H1 ∧ t σ H1 fun xs H2 => r x xs H2 Q
variable {o e : Expr} {es : List Expr} {to : TE} {t : TA} {name : Str} {apos cpos : Pos} {T id : String} {r : V → List V → Hp → VK → Prop}
theorem pe_bm (pa : PlainAttrs T) (slot : Slot T name id) (hty : typeOf (.builtin id) = pure (.type "method_descriptor")) (hm : MtR X id r) (ho : PE X o to) (ha : PA X (e :: es) t)
    (hbase : attributeBase o name X.env (eval o X.env) = eval o X.env := by rfl)
    (hfew : ((backTo cpos (starEach (e :: es) X.env)).all (fun x => !x.1) && (backToKw cpos (keywordEach [] X.env)).all (fun x => x.1.isSome)
      && decide ((e :: es).length + ([] : List Keyword).length + (if ([] : List Keyword).isEmpty then 0 else 1) < 30)) = true := by rfl)
    (hline : (apos.endLine == cpos.line) = true := by rfl) (hs : starEach (e :: es) X.env = (false, eval e X.env) :: starEach es X.env := by rfl) (hplain : (backTo cpos (starEach es X.env)).any (·.1) = false := by rfl) :
    PE X (.Call (.Attribute o name apos) (e :: es) [] cpos) (tBM X.K T r to t) := by
  intro pins s σ H Q I h
  refine wpAny_Call_method_late hbase hfew hline rfl (thn (ho pins s σ H _ I h) fun v s1 ⟨x, H1, I1, r1, ty, q1⟩ => ?_)
  obtain ⟨h1, h2⟩ := tyV_is I1 r1 ty
  refine ⟨T, id, pa, slot, hty, h1, h2, ?_⟩
  have hA := ha cpos pins s1 σ H1 _ I1 q1
  rw [hs] at hA ⊢
  refine Calls.callWith_builtin (by show (false || (backTo cpos (starEach es X.env)).any (·.1)) = false; rw [hplain] <;> rfl) (Calls.evalArgs_plain ?_)
  exact thn hA fun us s2 ⟨vs, H2, I2, r2, q2⟩ => hm pins s2 σ H2 x vs v us Q I2 r1 r2 q2
end
end L2
namespace L2
open PySem PySem.Spec PyProof.Rows
def MtM (X : Cx) (id : String) (r : V → List V → Hp → VK → Prop) : Prop :=
  ∀ (pins : List (Addr × Obj)) (s : Shared) (σ : St) (H : Hp) (x : V) (xs : List V) (v : Value) (us : List Value) (Q : VK), Inv X pins σ H s → RelV x v → Vals xs us → r x xs H Q →
    wpAny (model X.prog X.w) X.A (call (.builtin id) (v :: us)) (EP X pins σ Q) X.xe s
theorem Vals.one : ∀ {x : V} {us : List Value}, Vals [x] us → ∃ u, us = [u] ∧ RelV x u
  | _, _, .cons r .nil => ⟨_, rfl, r⟩
theorem Vals.eraseIdx : ∀ {xs : List V} {us : List Value} (i : Nat), Vals xs us → Vals (xs.eraseIdx i) (us.eraseIdx i)
  | _, _, _, .nil => .nil
  | _, _, 0, .cons _ t => t
  | _, _, i + 1, .cons r t => .cons r (Vals.eraseIdx i t)
theorem Vals.reverse {xs : List V} {us : List Value} (h : Vals xs us) : Vals xs.reverse us.reverse := by
  induction h with
  | nil => exact .nil
  | cons r t ih => rw [List.reverse_cons, List.reverse_cons]; exact Vals.append ih (.cons r .nil)
section
variable {X : Cx} {pins : List (Addr × Obj)} {σ : St} {H : Hp} {s : Shared} {l b : Addr} {xs ys zs : List V}
theorem Inv.lset {its its' : List Value} {n : Nat} {f : Array Value → Array Value} {t' : Nat} (I : Inv X pins σ H s) (hH : H l = some (.lst xs))
    (e : s.heap.get? l = some { cls := .type "list", data := .seq its.toArray n }) (hf : f its.toArray = its'.toArray) (hv : Vals ys its') (hz : ys.length ≤ sizeLine) :
    Inv X pins σ (upd H l (.lst ys)) { s with heap := s.heap.update l (Obj.mapSeq f), toks := t' } := by
  have q := PySem.IsL.update e f
  rw [hf] at q
  refine I.write (x := l) (e := l) (by rw [hH]; exact trivial) (.inl rfl) (fun b' u hb hu => (Heap.get?_update_other s.heap (Obj.mapSeq f) (Ne.symm hb)).trans hu) ⟨_, q⟩ ?_
  exact ⟨hz, its', _, hv, q⟩
theorem Inv.lnew {its : List Value} {t' : Nat} (I : Inv X pins σ H s) (hv : Vals ys its) (hz : ys.length ≤ sizeLine) :
    Inv X pins σ (upd H s.heap.objs.size (.lst ys)) { s with heap := s.heap.push { cls := .type "list", data := .seq its.toArray }, toks := t' } :=
  I.laid (fun _ _ q => Heap.get?_push_of_some _ q) (Nat.le_refl _) ⟨hz, its, 0, hv, Heap.get?_push_size _ rfl⟩
theorem Inv.fresh (I : Inv X pins σ H s) : H s.heap.objs.size = none := I.hok.fresh (Nat.le_refl _)
theorem Inv.lstM (I : Inv X pins σ H s) (hH : H l = some (.lst xs)) : xs.length ≤ sizeLine ∧ ∃ (its : List Value) (n : Nat), Vals xs its ∧ xs.length = its.length ∧ s.heap.get? l = some { cls := .type "list", data := .seq its.toArray n } := by
  obtain ⟨z, its, n, r, e⟩ := I.hok l _ hH
  exact ⟨z, its, n, r, r.length, e⟩
end
section
variable {X : Cx}
def rAppend : V → List V → Hp → VK → Prop := fun x vs H Q => ∃ l xs y, x = .ref l ∧ vs = [y] ∧ H l = some (.lst xs) ∧ xs.length < sizeLine ∧ Q .non (upd H l (.lst (xs ++ [y])))
theorem mt_append : MtM X "list.append" rAppend := by
  intro pins s σ H x vs v us Q I rx rv h
  obtain ⟨l, xs, y, rfl, rfl, hH, hz, q⟩ := h
  cases rx
  obtain ⟨u, rfl, ru⟩ := rv.one
  obtain ⟨z, its, n, r, hl, e⟩ := I.lstM hH
  refine call_meets F.slot_list_append ⟨_, e, rfl⟩ F.entry_list_append (F.args_list_append_2 _ _) (PySem.list_append l its.toArray n u (by rw [List.size_toArray]; omega)) ⟨e, ?_⟩
  refine ⟨.non, _, I.lset (its' := its ++ [u]) hH e (by simp) (r.append (.cons ru .nil)) ?_, rfl, q⟩
  rw [List.length_append, List.length_singleton]
  omega
end
section
variable {prog : Program} {w : World} {A : Around} {E : Value → Shared → Prop} {s : Shared}
end
section
variable {X : Cx}
end
end L2
namespace Att
open PySem PySem.W PySem.Calls PyProof.Rows
theorem ints_of_wellAll {P : Params} {h : Heap} : ∀ (ns : List Int) (vs : List Value), WellAll P h vs (ns.map WData.int) → IntsAre vs ns := by
  intro ns
  induction ns with
  | nil =>
    intro vs w
    rw [List.map_nil] at w
    cases w
    exact .nil
  | cons n ns ih =>
    intro vs w
    rw [List.map_cons] at w
    cases w with
    | cons a b =>
      cases a
      exact .cons _ _ (ih _ b)
theorem script_of {l : OpenLaw} {n : Nat} (hn : l.most = some n) {P : Params} {h : Heap} {args : List WData} {vals : List Value}
    (hpre : l.row.toRowW.claim.pre args = true) (hwl : WellAll P h vals args) :
    ∃ a vs ns, vals = [Value.ref a] ∧ args = [WData.list (ns.map WData.int)] ∧ h.get? a = some { cls := .type "list", data := .seq vs.toArray } ∧ IntsAre vs ns ∧ ns.length ≤ n := by
  have hsh : WShape.hasAll [] args [.list .int] = true := (pre_splitW hpre).1
  have hc : l.pre.holds [] { args := args } = true := (pre_splitW hpre).2
  obtain ⟨d, r, rfl, h1, h2⟩ := hasAllW_cons hsh
  obtain rfl := hasAllW_nil h2
  obtain ⟨xs, rfl, h3⟩ := hasW_list h1
  obtain ⟨ns, rfl⟩ := items_int h3
  have hlen : ns.length ≤ n := by
    unfold OpenLaw.pre at hc
    have h4 : (WTm.not (.lt (.lit (.int (n : Int))) (.len (.arg 0)))).holds [] { args := [.list (ns.map .int)] } = true := by
      have h4 := (holds_andW hc).1
      rw [hn] at h4
      exact h4
    have h5 := condW_of h4 (w_not (w_lt w_lit (w_len_list (w_arg rfl))))
    rw [List.length_map] at h5
    refine Nat.le_of_not_lt fun q => ?_
    have q' : (n : Int) < ((ns.length : Nat) : Int) := by omega
    first
      | (rw [decide_eq_true q'] at h5; exact absurd h5 (by decide))
      | (simp at h5; omega)
  cases hwl with
  | cons w1 w2 =>
    cases w2
    cases w1 with
    | list ho hall => exact ⟨_, _, ns, rfl, rfl, ho, ints_of_wellAll ns _ hall, hlen⟩
theorem post_true (l : OpenLaw) (args : List WData) : l.row.toRowW.claim.post args (.bool true) args = true :=
  postW_of (r := l.row.toRowW) (X := (true == true))
    (show WShape.has [] (.bool true) .bool = true by first | rfl | decide | simp [WShape.has, WShape.arms, WShape.armsAll])
    (show (WTm.eq .res (.lit (.bool true))).value [] { args := args, res := some (.bool true), after := args } = some (.bool (true == true)) from w_eq_bool (w_res rfl) w_lit) rfl
theorem attach_call {l : OpenLaw} {n : Nat} {q : Program} {loose : List Str} {XP : (Str → Option Value) → Heap → Prop} {YP : World → Heap → Prop} {d : DefRec}
    (hn : l.most = some n) (hdf : d.params.defaults = [])
    (call : ∀ (w : World) (s₀ s₁ : Shared) (mg mb : Str → Option Value) (fa : Addr) (o : Obj) (pm cd doc : Value) (a : Addr) (vs : List Value) (ns : List Int),
      Ground q loose [] XP w s₀ mg mb s₁.heap → YP w s₁.heap →
      s₁.heap.get? fa = some o → o.data = .func (docDef d.name d.params d.body d.scope pm cd doc) → s₁.heap.CodeRec cd d.name → mg d.name = some (.ref fa) →
      s₁.heap.get? a = some { cls := .type "list", data := .seq vs.toArray } → IntsAre vs ns → ns.length ≤ n → s₁.gens = #[] →
      codeAny (model l.prog w) callerA (.call (.ref fa) ⟨[.ref a], []⟩) (fun r s' => r = .ok (.ret (.bool true)) ∧ OldK s₁.heap s'.heap ∧ s'.os = s₁.os ∧ AllBare s'.gens) s₁) :
    WalkO q loose XP YP l.row.toRowW d [] (fun f vs => PySem.call f vs) := by
  intro w s₀ s₁ mg mb G Y fa o pm cd doc dV kV ho hd hcd hD hmg hg args vals as hpre hlay hrd hwl hlo
  obtain rfl : dV = .none := Dflts.none hD hdf
  obtain rfl : kV = .none := Dflts.noKw hD
  obtain ⟨a, vs, ns, rfl, rfl, hobj, hints, hlen⟩ := script_of hn hpre hwl
  refine enter_call (codeAny_mono (call w s₀ s₁ mg mb fa o pm cd doc a vs ns G Y ho (fd_plain hd) hcd hmg hobj hints hlen hg) fun r s' hq => ?_)
  obtain ⟨rfl, h2, h3, h4⟩ := hq
  exact ⟨.inl ⟨.bool true, .bool true, [], rfl, fun _ => rfl, .bool true, post_true l _, fun _ => ⟨List.Pairwise.nil, fun _ hm => (nomatch hm)⟩⟩, h2, h3, h4⟩
section
variable {prog : Program} {w : World} {A : Around} {E : Value → Shared → Prop} {s : Shared} {K : Frag}
end
end Att
namespace L2
open PySem PySem.Spec PyProof.Rows
theorem vals_ints : ∀ {vs : List Value} {ns : List Int}, IntsAre vs ns → Vals (ns.map V.int) vs
  | _, _, .nil => .nil
  | _, _, .cons n t h => .cons ⟨t, rfl⟩ (vals_ints h)
def Only (H : Hp) : Prop := ∀ b, H b = none ∨ ∃ o xs, H b = some (.frz o (.lst xs))
theorem law_call {P : Program} {w : World} {K : PySem.W.Frag} {mg mb : Str → Option Value} {CX : CXT} {k : Nat} {fa a : Addr} {fd : FuncData} {x : Str} {sp : Sp} {s₁ : Shared} {vs : List Value} {ns : List Int}
    (KX : K.In s₁.heap) (hns : s₁.heap.Ns mainGlobals mg) (hb : s₁.heap.Ns builtinsNs mb) (hbb : ∀ x : Str, x ≠ "__name__" → mb x = bootBuiltins x) (hlim : s₁.heap.NoLimit) (hg : s₁.gens = #[])
    (ha : s₁.heap.get? a = some { cls := .type "list", data := .seq vs.toArray }) (hi : IntsAre vs ns) (hl : ns.length ≤ sizeLine) (hr : Room k callerA)
    (F : ∀ base : Heap, K.In base → base.Ns mainGlobals mg → FnOk P w K mg base CX k fa fd [x] sp) (hbind : ∀ (s : Shared) (u : Value), BindsTo s fd ⟨[u], []⟩ [(x, u)])
    (hsp : ∀ H : Hp, Only H → SqL K H a (ns.map V.int) → sp [.ref a] H (fun v _ => v = .bl true) fun _ _ _ => False)
    (hCX : ∀ H e s', CX [] H s₁ (fun _ _ _ => False) e s' → False) :
    codeAny (model P w) callerA (.call (.ref fa) ⟨[.ref a], []⟩) (fun r s' => r = .ok (.ret (.bool true)) ∧ OldK s₁.heap s'.heap ∧ s'.os = s₁.os ∧ AllBare s'.gens) s₁ := by
  have rv := vals_ints hi
  have lenV := hi.length
  have core : ∀ H : Hp, Only H → SqL K H a (ns.map V.int) → HOk P w H s₁.heap → (∀ b, H b ≠ none → b = a) → (H a ≠ none → K.lookup a = none) →
      codeAny (model P w) callerA (.call (.ref fa) ⟨[.ref a], []⟩) (fun r s' => r = .ok (.ret (.bool true)) ∧ OldK s₁.heap s'.heap ∧ s'.os = s₁.os ∧ AllBare s'.gens) s₁ := by
    intro H hO hS hok hA hK
    have base_of : ∀ {b : Addr} {o : Obj}, s₁.heap.get? b = some o → H b = none → (hidT s₁.heap H).get? b = some o := fun e n => hidT_get e n
    have noA : ∀ {b : Addr} {o : Obj} {es : Array DictEntry} {ep : Nat}, s₁.heap.get? b = some o → o.data = .dict es ep → H b = none := fun {b o es ep} e d => by
      cases q : H b with
      | none => rfl
      | some u =>
        have e' : b = a := hA b (by rw [q]; simp)
        subst e'
        rw [ha] at e; cases e
        have d' : Data.seq vs.toArray _ = Data.dict es ep := d
        cases d'
    have nsK : ∀ {b : Addr} {m : Str → Option Value}, s₁.heap.Ns b m → (hidT s₁.heap H).Ns b m := fun {b m} ⟨o, es, ep, e, d, r⟩ => ⟨o, es, ep, base_of e (noA e d), d, r⟩
    have hKb : K.In (hidT s₁.heap H) := fun b o e => base_of (KX b o e) (by
      cases q : H b with
      | none => rfl
      | some u =>
        have e' : b = a := hA b (by rw [q]; simp)
        subst e'
        rw [hK (by rw [q]; simp)] at e; cases e)
    have hM : Mod K mg (hidT s₁.heap H) := ⟨hKb, nsK hns, ⟨mb, nsK hb, hbb⟩, let ⟨mc, h1, h2⟩ := hlim; ⟨mc, nsK h1, h2⟩⟩
    have e0 : Env0 P w K mg (hidT s₁.heap H) callerA [] s₁ H := ⟨rfl, hM, fun b o e => of_hidT e, Nat.le_of_eq (hidT_size _ _), trivial, fun b hb => absurd (show b ∈ ([] : List Addr) from hb) (by simp), hok, .of_eq hg⟩
    refine codeAny_mono ((F _ hKb (nsK hns)).run callerA [] s₁ H ⟨[.ref a], []⟩ [.ref a] [.ref a] _ _ hr e0 (hbind s₁ (.ref a)) (.cons rfl .nil) (hsp H hO hS)) fun r s' h => ?_
    cases r with
    | error e => exact (hCX H e s' h).elim
    | ok fl =>
      cases fl with
      | next => exact False.elim h
      | brk => exact False.elim h
      | cont => exact False.elim h
      | ret u =>
        obtain ⟨v, H', os, bare, un, hok', r', q⟩ := h
        have q' : v = .bl true := q
        subst q'
        obtain rfl : u = Value.bool true := r'
        refine ⟨rfl, OldK.of_keep fun b o e => ?_, os, bare⟩
        cases q : H b with
        | none => exact un.keep b o e q (by intro z; exact absurd (show b ∈ ([] : List Addr) from z) (by simp)) (by simp)
        | some u =>
          rcases hO b with z | ⟨ob, xs, z⟩
          · rw [q] at z; cases z
          · have z2 := un.frzs b ob _ z
            obtain ⟨e1, _⟩ := hok b _ z
            obtain ⟨e2, _⟩ := hok' b _ z2
            rw [e] at e1; cases e1
            exact e2
  cases hk : K.lookup a with
  | some o =>
    have e := KX a o hk
    rw [ha] at e
    cases e
    refine core (fun _ => none) (fun _ => .inl rfl) (.inr ⟨_, vs.toArray, _, hk, rfl, rfl, rfl, by rw [List.size_toArray, lenV]; exact hl, by simpa using rv⟩) (fun b u z => by have z' : (none : Option HO) = some u := z; cases z') (fun b z => absurd rfl z) fun z => absurd rfl z
  | none =>
    refine core (fun b => if b = a then some (.frz { cls := .type "list", data := .seq vs.toArray } (.lst (ns.map V.int))) else none) (fun b => ?_) (.inl (.inr ⟨{ cls := .type "list", data := .seq vs.toArray }, if_pos rfl⟩)) (fun b u z => ?_) (fun b z => ?_) fun _ => hk
    · by_cases hb : b = a
      · exact .inr ⟨_, _, if_pos hb⟩
      · exact .inl (if_neg hb)
    · by_cases hb : b = a
      · have z' := (if_pos hb).symm.trans z
        cases z'
        subst hb
        exact ⟨ha, by rw [List.length_map]; exact hl, vs, _, rv, ha⟩
      · have z' := (if_neg hb).symm.trans z
        cases z'
    · by_cases hb : b = a
      · exact hb
      · exact absurd (if_neg hb) z
end L2
namespace L2
open PySem PySem.Spec PyProof.Rows
theorem walk_of {l : PySem.W.OpenLaw} {n k : Nat} {q : Program} {loose : List Str} {XP : (Str → Option Value) → Heap → Prop} {YP : World → Heap → Prop} {d : DefRec} {K : Params → PySem.W.Frag} {CX : World → CXT} {sp : World → Sp} {x : Str}
    (hn : l.most = some n) (hn2 : n ≤ sizeLine) (hdf : d.params.defaults = []) (hr : Room k callerA)
    (hY : ∀ (w : World) (h : Heap), YP w h → (K w.params).In h)
    (F : ∀ (w : World) (mg : Str → Option Value) (fa : Addr) (h : Heap), (K w.params).In h → h.Ns mainGlobals mg → mg d.name = some (.ref fa) →
      ∃ fd : FuncData, (∀ (s : Shared) (u : Value), BindsTo s fd ⟨[u], []⟩ [(x, u)]) ∧
        ∀ base : Heap, (K w.params).In base → base.Ns mainGlobals mg → FnOk l.prog w (K w.params) mg base (CX w) k fa fd [x] (sp w))
    (hsp : ∀ (w : World) (H : Hp) (a : Addr) (ns : List Int), ns.length ≤ n → Only H → SqL (K w.params) H a (ns.map V.int) → sp w [.ref a] H (fun v _ => v = .bl true) fun _ _ _ => False)
    (hCX : ∀ (w : World) (H : Hp) (s : Shared) (e : Value) (s' : Shared), CX w [] H s (fun _ _ _ => False) e s' → False) :
    PySem.W.WalkO q loose XP YP l.row.toRowW d [] (fun f vs => PySem.call f vs) := by
  refine Att.attach_call hn hdf fun w s₀ s₁ mg mb fa o pm cd doc a vs ns G Y ho hd hcd hmg hobj hints hlen hg => ?_
  have KX := hY w _ Y
  obtain ⟨fd, hb, hF⟩ := F w mg fa _ KX G.T.g hmg
  exact law_call KX G.T.g G.T.b G.T.builtins G.T.nolimit hg hobj hints (Nat.le_trans hlen hn2) hr hF hb (fun H hO hS => hsp w H a ns hlen hO hS) fun H e s' => hCX w H s₁ e s'
end L2
namespace L2
open PySem PySem.Spec PyProof.Rows
def inClass (s : Stmt) (j : Nat) : Stmt := match s with
  | .ClassDef _ _ _ body _ _ _ _ _ _ _ => body.getD j (.Pass ⟨0, 0, 0, 0⟩)
  | _ => .Pass ⟨0, 0, 0, 0⟩
def defArgs (s : Stmt) : Arguments := match s with
  | .FunctionDef _ a _ _ _ _ _ _ _ _ => a
  | _ => { posonlyargs := [], args := [], vararg := none, kwonlyargs := [], kw_defaults := [], kwarg := none, defaults := [] }
def defBody (s : Stmt) : List Stmt := match s with
  | .FunctionDef _ _ b _ _ _ _ _ _ _ => b
  | _ => []
def defScope (s : Stmt) : Scope := match s with
  | .FunctionDef _ _ _ _ _ _ sc _ _ _ => sc
  | _ => { kind := .function, names := [], isGenerator := false, isCoroutine := false }
abbrev CX0 : CXT := fun _ _ _ _ _ _ => False
abbrev E0 : XK := fun _ _ _ => False
theorem pass0 {X : Cx} : Passes CX0 X E0 := fun _ _ _ _ _ _ _ h => h.elim
structure Fun (K : PySem.W.Frag) (x qual : Str) (st : Stmt) (f : Addr) (fd : FuncData) : Prop where
  ex : ∃ (oc : Value) (od : Option Addr) (kV doc pm : Value) (an : Option Addr) (cdv ct : Value) (osl : Array (Option Value)),
    fd = PySem.W.fnOf x qual (defArgs st) (defBody st) (defScope st) .none kV doc pm an cdv ct ∧ K.lookup f = some ⟨oc, od, .func fd, osl⟩ ∧ PySem.W.codeIn K cdv qual = true
  kp : PySem.W.keepIn K (.ref f) = true
section
variable {P : Program} {w : World} {K : PySem.W.Frag} {mg : Str → Option Value} {base : Heap}
theorem Fun.ok {x qual : Str} {st : Stmt} {f : Addr} {fd : FuncData} {N ps : List Str} {k : Nat} {sp : Sp} (F : Fun K x qual st f fd) (S : FnScope N ps (defScope st)) (len : ∀ vs H Q E, sp vs H Q E → vs.length = ps.length)
    (hbody : ∀ (cdv : Value) (A : Around) (outer : List Env) (s : Shared) (H : Hp) (vs : List V) (Q : VK) (E : XK), Room k (A.deeper (envOfC qual (defScope st) s.heap.objs.size f cdv)) → sp vs H Q E →
      ∃ t, PSs (cxOf CX0 P w K mg base N qual (defScope st) f cdv A outer s H E).nox (defBody st) t ∧ t { nx := fun _ H' => Q .non H', rt := Q } (start N vs) H) : FnOk P w K mg base CX0 (k + 1) f fd ps sp := by
  obtain ⟨oc, od, kV, doc, pm, an, cdv, ct, osl, rfl, lk, hcd⟩ := F.ex
  refine fn_of lk hcd S len fun A outer s H vs Q E hr hsp => ?_
  obtain ⟨t, h, q⟩ := hbody cdv A outer s H vs Q E hr hsp
  exact ⟨t, h.nox, q⟩
theorem Fun.binds {x qual : Str} {st : Stmt} {f : Addr} {fd : FuncData} {ps : List Str} (F : Fun K x qual st f fd)
    (h : ∀ (kV doc pm : Value) (an : Option Addr) (cdv ct : Value) (us : List Value), us.length = ps.length → bindArgs (PySem.W.fnOf x qual (defArgs st) (defBody st) (defScope st) .none kV doc pm an cdv ct) ⟨us, []⟩ = pure (ps.zip us)) : Binds K fd ps [] := by
  obtain ⟨oc, od, kV, doc, pm, an, cdv, ct, osl, rfl, lk, hcd⟩ := F.ex
  exact .all (h kV doc pm an cdv ct)
theorem fun_mk {x qual : Str} {st : Stmt} {f : Addr} {oc : Value} {od an : Option Addr} {osl : Array (Option Value)} {kV doc pm cdv ct : Value} (l : K.lookup f = some ⟨oc, od, .func (PySem.W.fnOf x qual (defArgs st) (defBody st) (defScope st) .none kV doc pm an cdv ct), osl⟩)
    (c : PySem.W.codeIn K cdv qual = true) (k : PySem.W.keepIn K (.ref f) = true) : Fun K x qual st f (PySem.W.fnOf x qual (defArgs st) (defBody st) (defScope st) .none kV doc pm an cdv ct) := ⟨⟨oc, od, kV, doc, pm, an, cdv, ct, osl, rfl, l, c⟩, k⟩
end
theorem hu_of {A : Around} {k : Nat} (hr : Room k A) : A.units + 1 < cLine := Nat.lt_of_le_of_lt (Nat.add_le_add_left (by decide : 1 ≤ 64) _) hr.units
section
variable {X : Cx}
theorem pv (i : Nat) {x : Str} {pos : Pos} (hN : X.N[i]? = some x := by rfl) (hv : Vis X.env.scope x := by first | exact Or.inl rfl | exact Or.inr (Or.inl rfl) | exact Or.inr (Or.inr rfl)) (hd : (x == ("__debug__" : Str)) = false := by decide)
    (hcd : (x == ("__classdict__" : Str)) = false := by decide) : PE X (.Name x pos) (tVar i) := pe_var hN hv hd hcd
end
theorem iteF {A B : Prop} (h : B) : if false = true then A else B := by
  rw [if_neg Bool.false_ne_true]
  exact h
theorem iteT {A B : Prop} (h : A) : if true = true then A else B := by
  rw [if_pos rfl]
  exact h
def Same (H H' : Hp) : Prop := ∀ b o, H b = some o → H' b = some o
theorem Same.refl (H : Hp) : Same H H := fun _ _ h => h
theorem Same.trans {H H1 H2 : Hp} (a : Same H H1) (b : Same H1 H2) : Same H H2 := fun c o h => b c o (a c o h)
theorem Same.free {H H' : Hp} (e : Same H H') {l : Addr} (h : H' l = Option.none) : H l = Option.none := by
  cases q : H l with
  | none => rfl
  | some o =>
    rw [e l o q] at h
    cases h
theorem Same.seq {K : PySem.W.Frag} {H H' : Hp} {a : Addr} {xs : List V} (e : Same H H') (h : SqL K H a xs) : SqL K H' a xs := by
  rcases h with (h | ⟨o, h⟩) | h
  · exact .inl (.inl (e _ _ h))
  · exact .inl (.inr ⟨o, e _ _ h⟩)
  · exact .inr h
end L2
namespace L2
open PySem PySem.Spec PyProof.Rows
section
variable {X : Cx}
end
section
variable {κ : Type} [DecidableEq κ]
end
end L2
set_option Elab.async false
set_option linter.all false
set_option maxRecDepth 100000
set_option maxHeartbeats 4000000
namespace L2
open PySem PySem.Spec PyProof.Rows
def CMulB (i j : Int) : Prop := ∃ n : Nat, n ≤ 60000000 ∧ i.natAbs < 2 ^ n ∧ j.natAbs < 2 ^ n
theorem bits_le {x : Int} {n : Nat} (h : x.natAbs < 2 ^ n) : Builtin.Int.intBits x ≤ n := by
  unfold Builtin.Int.intBits
  by_cases e : (x == 0) = true
  · rw [if_pos e]; exact Nat.zero_le _
  · rw [if_neg e]
    have hx : x.natAbs ≠ 0 := by
      intro z
      have : x = 0 := by omega
      rw [this] at e
      exact e rfl
    exact (Nat.log2_lt hx).mpr h
theorem CMulB.ok {i j : Int} (h : CMulB i j) : IntMulOk i j := by
  obtain ⟨n, hn, h1, h2⟩ := h
  have b1 := bits_le h1
  have b2 := bits_le h2
  intro z
  simp only [Bool.and_eq_true, Builtin.Int.intTooBig, decide_eq_true_eq] at z
  have e : (bitsLine : Nat) = 134217728 := by decide
  have z2 := z.2
  rw [e] at z2
  omega
def CMulX (i j : Int) : Prop := CMul i j ∨ CMulB i j
def CDivB (_ j : Int) : Prop := j ≠ 0 ∧ j.natAbs < 2 ^ 8000
theorem CDivB.ok {i j : Int} (h : CDivB i j) : Builtin.divisionGoesByPylong i j = false := by
  refine PyProof.noPylong_of_log2 ?_
  have hx : j.natAbs ≠ 0 := by have := h.1; omega
  have := (Nat.log2_lt hx).mpr h.2
  omega
section
variable {X : Cx}
end
section
variable {X : Cx} {pins : List (Addr × Obj)} {σ : St} {H : Hp} {s : Shared} {a : Addr} {kvs : List (Key × V)}
end
theorem kV_of_is {P : Program} {w : World} {k : Key} {u : Value} (h : (mixKind P w).is k u = true) : RelV (kV k) u := by
  rcases keyIs_shape (k := k) (v := u) h with ⟨i, t, rfl, rfl⟩ | ⟨x, t, rfl, rfl⟩
  · exact ⟨t, rfl⟩
  · exact ⟨t, rfl⟩
theorem KV.at {kvs : List (Key × V)} {vs : List (Key × Value)} (r : KV kvs vs) : ∀ {i : Nat} {k : Key} {v : V}, kvs[i]? = some (k, v) → ∃ u, vs[i]? = some (k, u) ∧ RelV v u := by
  unfold KV at r
  induction r with
  | nil => intro i k v h; simp at h
  | @cons p q ps qs h t ih =>
    intro i k v e
    cases i with
    | zero =>
      simp at e
      subst e
      have e1 : k = q.1 := h.1
      exact ⟨q.2, by rw [e1]; rfl, h.2⟩
    | succ i => simpa using ih (i := i) (k := k) (v := v) (by simpa using e)
section
variable {X : Cx}
end
section
variable {X : Cx}
def clsV : V → Option Value
  | .ty n => some (.type n)
  | .ref a => some (.ref a)
  | _ => none
theorem call_isi : CallR X (.builtin "isinstance") (fun xs H Q => ∃ x c t b u, xs = [x, c] ∧ TyOf X.K H x t ∧ clsV c = some u ∧ PySem.W.kitOne X.K t u = some b ∧ Q (.bl b) H) := by
  intro pins s σ H xs us Q I r h
  obtain ⟨x, c, t, b, u, rfl, ty, rc, e, q⟩ := h
  obtain ⟨v, w', rfl, rx, rw'⟩ := vals2 r
  have ew : w' = u := by
    cases c with
    | ref a => cases rc; exact rw'
    | ty n => cases rc; exact rw'
    | non => cases rc
    | bl n => cases rc
    | int i => cases rc
    | str i => cases rc
    | byt i => cases rc
    | flt i => cases rc
  subst ew
  exact isinst_ok I rx ty e fun tk => ⟨.bl b, H, I.tok tk, rfl, q⟩
end
def All2 (R : V → V → Prop) : List V → List V → Prop
  | [], [] => True
  | x :: xs, y :: ys => R x y ∧ All2 R xs ys
  | _, _ => False
theorem All2.length {R : V → V → Prop} : ∀ {xs ys : List V}, All2 R xs ys → xs.length = ys.length
  | [], [], _ => rfl
  | _ :: xs, _ :: ys, h => by rw [List.length_cons, List.length_cons, All2.length h.2]
  | [], _ :: _, h => h.elim
  | _ :: _, [], h => h.elim
theorem All2.get {R : V → V → Prop} : ∀ {xs ys : List V} {j : Nat} {x y : V}, All2 R xs ys → xs[j]? = some x → ys[j]? = some y → R x y
  | x :: xs, y :: ys, 0, _, _, h, e1, e2 => by simp at e1 e2; subst e1 e2; exact h.1
  | _ :: xs, _ :: ys, j + 1, x, y, h, e1, e2 => All2.get (xs := xs) (ys := ys) (j := j) h.2 (by simpa using e1) (by simpa using e2)
  | [], [], _, _, _, _, e1, _ => by simp at e1
  | [], _ :: _, _, _, _, h, _, _ => h.elim
  | _ :: _, [], _, _, _, h, _, _ => h.elim
def EqT (K : PySem.W.Frag) (H : Hp) : Nat → V → V → Prop
  | 0, x, y => flatV x = true ∧ x = y
  | n + 1, x, y => (flatV x = true ∧ x = y) ∨ ∃ p q xs ys, x = .ref p ∧ y = .ref q ∧ ((SqT K H p xs ∧ SqT K H q ys) ∨ (SqL K H p xs ∧ SqL K H q ys)) ∧ All2 (EqT K H n) xs ys
theorem eqV_refl {x : V} (h : flatV x = true) : eqV x x = true := by
  cases x <;> first | rfl | (simp [eqV]; done) | (simp [flatV] at h)
theorem in1_units (A : Around) : A.in1.units = A.units + 1 := rfl
section
variable {X : Cx} {pins : List (Addr × Obj)} {σ : St} {H : Hp} {s : Shared}
end
section
variable {X : Cx}
def DEqT (K : PySem.W.Frag) (H : Hp) (n : Nat) (ka kb : List (Key × V)) : Prop := ka.length = kb.length ∧ ∀ k v, (k, v) ∈ ka → ∃ y, valV kb k = some y ∧ EqT K H n v y
end
end L2
namespace L2
open PySem PySem.Spec PyProof.Rows
section
variable {σ : St} {H : Hp} {Q : VK} {D : Ends} {K : PySem.W.Frag}
theorem a_seq {t u : TS} (h : t { D with nx := u D } σ H) : tSeq t u D σ H := h
theorem a_seqM {t u : TS} (M : St → Hp → Prop) (h1 : ∀ R : St → Hp → Prop, (∀ σ H, M σ H → R σ H) → t { D with nx := R } σ H) (h2 : ∀ σ H, M σ H → u D σ H) : tSeq t u D σ H := h1 (u D) h2
theorem a_asg {te : TE} {g : TG} (h : te σ H fun x H1 => g x σ H1 D.nx) : tAsg te g D σ H := h
theorem a_name {i : Nat} {v : V} {R : St → Hp → Prop} (h : R (σ.set i (some v)) H) : gName i v σ H R := h
theorem a_ret {te : TE} (h : te σ H D.rt) : tRet te D σ H := h
theorem a_drop {te : TE} (h : te σ H fun _ H1 => D.nx σ H1) : tDrop te D σ H := h
theorem a_next (h : D.nx σ H) : tNext D σ H := h
theorem a_if {c : TT} {t u : TS} (h : c σ H fun b H1 => if b = true then t D σ H1 else u D σ H1) : tIfS c t u D σ H := h
theorem a_var {i : Nat} {v : V} (e : σ[i]? = some (some v)) (h : Q v H) : tVar i σ H Q := ⟨v, e, h⟩
theorem a_c {v : V} (h : Q v H) : tC v σ H Q := h
theorem a_op {r : R2} {ta tb : TE} (h : ta σ H fun x H1 => tb σ H1 fun y H2 => r x y H2 Q) : tOp r ta tb σ H Q := h
theorem a_un {r : V → Hp → VK → Prop} {ta : TE} (h : ta σ H fun x H1 => r x H1 Q) : tUn r ta σ H Q := h
theorem a_I0 {g : Int → Int → V} {i j : Int} (h : Q (g i j) H) : rI0 g (.int i) (.int j) H Q := ⟨i, j, rfl, rfl, h⟩
theorem a_I {C : Int → Int → Prop} {g : Int → Int → V} {i j : Int} (c : C i j) (h : Q (g i j) H) : rI C g (.int i) (.int j) H Q := ⟨i, j, rfl, rfl, c, h⟩
theorem a_U {g : Int → V} {i : Int} (h : Q (g i) H) : rU g (.int i) H Q := ⟨i, rfl, h⟩
theorem a_test {t : TE} {R : Bool → Hp → Prop} (h : t σ H fun x H' => ∃ k, x = .bl k ∧ R k H') : tTest t σ H R := h
theorem a_tB {t : TE} {R : Bool → Hp → Prop} (h : t σ H fun x H' => ∃ k, x = .bl k ∧ R k H') : tB t σ H R := h
theorem a_bl {k : Bool} {R : Bool → Prop} (h : R k) : ∃ k', V.bl k = .bl k' ∧ R k' := ⟨k, rfl, h⟩
theorem a_eqI {i j : Int} (h : Q (.bl (decide (i = j))) H) : rEq (.int i) (.int j) H Q := ⟨rfl, by rw [dec_int, Bool.beq_eq_decide_eq]; exact h⟩
theorem a_neI {i j : Int} (h : Q (.bl (!decide (i = j))) H) : rNe (.int i) (.int j) H Q := ⟨rfl, by rw [dec_int, Bool.beq_eq_decide_eq]; exact h⟩
theorem a_eqB {i j : Bool} (h : Q (.bl (i == j)) H) : rEq (.bl i) (.bl j) H Q := ⟨rfl, by rw [dec_bl]; exact h⟩
theorem a_neB {i j : Bool} (h : Q (.bl (!(i == j))) H) : rNe (.bl i) (.bl j) H Q := ⟨rfl, by rw [dec_bl]; exact h⟩
theorem a_call {sp : Sp} {dvs : List V} {E : XK} {t : TA} (h : t σ H fun vs H1 => sp (vs ++ dvs) H1 Q E) : tCall sp dvs E t σ H Q := h
theorem a_cons {ta : TE} {tr : TA} {R : List V → Hp → Prop} (h : ta σ H fun x H1 => tr σ H1 fun xs H2 => R (x :: xs) H2) : tCons ta tr σ H R := h
theorem a_nil {R : List V → Hp → Prop} (h : R [] H) : tNil σ H R := h
theorem a_cb {r : List V → Hp → VK → Prop} {t : TA} (h : t σ H fun vs H1 => r vs H1 Q) : tCB r t σ H Q := h
theorem a_tup {t : TA} (h : t σ H fun xs H1 => xs.length ≤ sizeLine ∧ ∀ p, H1 p = none → Q (.ref p) (upd H1 p (.tup xs))) : tTup t σ H Q := h
theorem a_lst {t : TA} (h : t σ H fun xs H1 => xs.length ≤ sizeLine ∧ ∀ p, H1 p = none → Q (.ref p) (upd H1 p (.lst xs))) : tLst t σ H Q := h
theorem a_ixT {p : Addr} {xs : List V} {i : Int} {v : V} (h : SqT K H p xs) (e : atI xs i = some v) (q : Q v H) : rIxT K (.ref p) (.int i) H Q := ⟨p, xs, i, v, rfl, rfl, h, e, q⟩
theorem a_ixL {p : Addr} {xs : List V} {i : Int} {v : V} (h : SqL K H p xs) (e : atI xs i = some v) (q : Q v H) : rIxL K (.ref p) (.int i) H Q := ⟨p, xs, i, v, rfl, rfl, h, e, q⟩
theorem a_and {t u : TT} {R : Bool → Hp → Prop} (h : t σ H fun c H1 => if c = true then u σ H1 R else R false H1) : tAnd t u σ H R := h
theorem a_or {t u : TT} {R : Bool → Hp → Prop} (h : t σ H fun c H1 => if c = true then R true H1 else u σ H1 R) : tOr t u σ H R := h
theorem a_not {t : TT} {R : Bool → Hp → Prop} (h : t σ H fun c H1 => R (!c) H1) : tNot t σ H R := h
theorem a_andV {ta tb : TE} (h : ta σ H fun x H1 => ∃ c, x = .bl c ∧ if c = true then tb σ H1 Q else Q (.bl false) H1) : tAndV ta tb σ H Q := h
theorem a_orV {ta tb : TE} (h : ta σ H fun x H1 => ∃ c, x = .bl c ∧ if c = true then Q (.bl true) H1 else tb σ H1 Q) : tOrV ta tb σ H Q := h
theorem a_notV {ta : TE} (h : ta σ H fun x H1 => ∃ c, x = .bl c ∧ Q (.bl (!c)) H1) : tNotV ta σ H Q := h
theorem a_ifE {t : TT} {ta tb : TE} (h : t σ H fun c H1 => if c = true then ta σ H1 Q else tb σ H1 Q) : tIf t ta tb σ H Q := h
theorem a_par {i j : Nat} {ta : TA} (h : ta σ H fun vs H1 => ∃ v w, vs = [v, w] ∧ D.nx ((σ.set i (some v)).set j (some w)) H1) : tPar i j ta D σ H := h
theorem a_par2 {i j : Nat} {v w : V} {R : St → Hp → Prop} (h : R ((σ.set i (some v)).set j (some w)) H) : ∃ v' w', [v, w] = [v', w'] ∧ R ((σ.set i (some v')).set j (some w')) H := ⟨v, w, rfl, h⟩
theorem iteD {c : Prop} [Decidable c] {A B : Prop} (h1 : c → A) (h2 : ¬ c → B) : if decide c = true then A else B := by
  by_cases h : c
  · rw [decide_eq_true h]; exact iteT (h1 h)
  · rw [decide_eq_false h]; exact iteF (h2 h)
theorem iteDN {c : Prop} [Decidable c] {A B : Prop} (h1 : ¬ c → A) (h2 : c → B) : if (!decide c) = true then A else B := by
  by_cases h : c
  · rw [decide_eq_true h]; exact iteF (h2 h)
  · rw [decide_eq_false h]; exact iteT (h1 h)
theorem iteNT {A B : Prop} (h : B) : if (!true) = true then A else B := iteF h
theorem Same.upd {a : Addr} {o : HO} (h : H a = none) : Same H (upd H a o) := fun b u e => by rw [upd_ne (ne_of_none e h)]; exact e
theorem Same.tup {H' : Hp} {a : Addr} {xs : List V} (e : Same H H') (h : SqT K H a xs) : SqT K H' a xs := by
  rcases h with (h | ⟨o, h⟩) | h
  · exact .inl (.inl (e _ _ h))
  · exact .inl (.inr ⟨o, e _ _ h⟩)
  · exact .inr h
theorem Same.rd {H' : Hp} {a : Addr} {u : HO} (e : Same H H') (h : Rd H a u) : Rd H' a u := by
  rcases h with h | ⟨o, h⟩
  · exact .inl (e _ _ h)
  · exact .inr ⟨o, e _ _ h⟩
end
end L2
namespace L2
open PySem PySem.Spec PyProof.Rows
section
variable {σ : St} {H : Hp} {Q : VK} {D : Ends} {K : PySem.W.Frag} {X : Cx}
theorem a_gtup2 {i j : Nat} {p : Addr} {x y : V} {R : St → Hp → Prop} (h : SqT K H p [x, y]) (q : R ((σ.set i (some x)).set j (some y)) H) : gTup K 2 (gCons (gName i) (gCons (gName j) gNil)) (.ref p) σ H R :=
  ⟨p, [x, y], rfl, h, rfl, x, [y], rfl, y, [], rfl, rfl, q⟩
theorem Same.updN {H' : Hp} {a : Addr} {o : HO} (e : Same H H') (n : H a = none) : Same H (L2.upd H' a o) := fun b u q => by rw [upd_ne (ne_of_none q n)]; exact e b u q
theorem a_sl {r : V → Option Int → Option Int → Hp → VK → Prop} {te : TE} {tl th : TO} (h : te σ H fun x H1 => tl σ H1 fun l H2 => th σ H2 fun u H3 => r x l u H3 Q) : tSl r te tl th σ H Q := h
theorem a_part {t : TE} {R : Option Int → Hp → Prop} (h : t σ H fun x H1 => ∃ i, x = .int i ∧ R (some i) H1) : tPart t σ H R := h
theorem a_pint {i : Int} {R : Int → Prop} (h : R i) : ∃ i', V.int i = .int i' ∧ R i' := ⟨i, rfl, h⟩
theorem a_noPart {R : Option Int → Hp → Prop} (h : R none H) : tNoPart σ H R := h
end
end L2
namespace L2
open PySem PySem.Spec PyProof.Rows
def EqW (P : Program) (w : World) (A : Around) (s : Shared) (u v : Value) : Prop := ∀ (E : Value → Shared → Prop) (Q : Bool → Shared → Prop), Q true s → wpAny (model P w) A (eqBool u v) Q E s
def RcW (P : Program) (w : World) (A : Around) (s : Shared) (u v : Value) : Prop := ∀ (E : Value → Shared → Prop) (Q : Value → Shared → Prop), Q (.bool true) s → wpAny (model P w) A (richCompare .Eq u v) Q E s
section
variable {P : Program} {w : World} {A : Around} {s : Shared}
theorem EqW.of_refs {a b : Addr} (h : RcW P w A s (.ref a) (.ref b)) : EqW P w A s (.ref a) (.ref b) := fun E Q q => by
  by_cases e : a = b
  · subst e
    exact SeqAt.EqAt.same _ P w E Q q
  · unfold eqBool
    refine wpAny_holding (wpAny_ite_split (fun z => absurd (Value.ref.inj (eq_of_beq z)) e) fun _ => ?_)
    exact wpAny_bind (h E _ (wpAny_truthy_bool q))
section
open PySem.AutoSeq1 (wpAny_loadPart')
theorem tupW (a b : Addr) (xs ys : Array Value) (n m : Nat) (da db : Option Addr) (sa sb : Array (Option Value)) (hz : xs.size = ys.size) :
    MeetsIn P w (Builtin.«tuple.__eq__» ⟨[.ref a, .ref b], []⟩) (fun A R s => s.heap.get? a = some ⟨.type "tuple", da, .seq xs n, sa⟩ ∧ s.heap.get? b = some ⟨.type "tuple", db, .seq ys m, sb⟩ ∧
      (∀ j (h1 : j < xs.size) (h2 : j < ys.size), EqW P w A.in1 s xs[j] ys[j]) ∧ R (.ok (.ret (.bool true))) s) := by
  refine .of_wp fun A R s h => ?_
  obtain ⟨hp, g, d, tk, os⟩ := s
  obtain ⟨ha, hb, he, hR⟩ := h
  have sub := AutoSeq1.sub_tuple_tuple
  have len : (xs.toList.zip ys.toList).length = xs.size := by simp; omega
  wp_walk using wpAny_loadPart' ha, wpAny_loadPart' hb, wpAny_forIn_list _ (fun r c s' => c.1 = none ∧ s' = ⟨hp, g, d, tk, os⟩ ∧ ∃ i, r = (xs.toList.zip ys.toList).drop i) _
  case turn =>
    rintro ⟨x, y⟩ r c s' ⟨hc, rfl, i, hr⟩
    by_cases lt : i < (xs.toList.zip ys.toList).length
    · rw [List.drop_eq_getElem_cons lt] at hr
      injection hr with e1 e2
      have i1 : i < xs.size := by omega
      have i2 : i < ys.size := by omega
      obtain ⟨ex, ey⟩ : x = xs[i] ∧ y = ys[i] := by
        have z := Prod.mk.inj (e1.trans List.getElem_zip)
        exact ⟨by simpa using z.1, by simpa using z.2⟩
      subst ex ey
      refine wpAny_bind (he i i1 i2 _ _ ?_)
      wp_walk
      exact ⟨rfl, rfl, i + 1, e2⟩
    · rw [List.drop_of_length_le (by omega)] at hr
      cases hr
  case fin =>
    rintro ⟨c1, c2⟩ s' ⟨hc, rfl, _⟩
    simp only at hc
    subst hc
    wp_walk
    refine ⟨_, rfl, ?_⟩
    simpa [Builtin.Tuple.tupleCompareSizes, hz] using hR
  case h => exact ⟨rfl, rfl, 0, rfl⟩
end
theorem RcW.tuples {a b : Addr} {xs ys : Array Value} (ha : IsTup s.heap a xs) (hb : IsTup s.heap b ys) (hz : xs.size = ys.size) (hu : A.units < cLine) (he : ∀ j (h1 : j < xs.size) (h2 : j < ys.size), EqW P w A.in1 s xs[j] ys[j]) : RcW P w A s (.ref a) (.ref b) := fun E Q q => by
  obtain ⟨⟨ca, da, xa, sa⟩, oa, ka, n, va⟩ := id ha
  obtain ⟨⟨cb, db, xb, sb⟩, ob, kb, m, vb⟩ := id hb
  simp only at ka va kb vb
  subst ka va kb vb
  refine wpAny_richCompare_same_room (op := .Eq) (T := "tuple") ⟨_, oa, rfl⟩ ⟨_, ob, rfl⟩ PySem.F.slot_tuple_eq ?_ hu
  exact call_meetsIn PySem.F.slot_tuple_eq ⟨_, oa, rfl⟩ PySem.F.entry_tuple_eq (PySem.F.args_tuple_eq_2 _ _) (tupW a b xs ys n m da db sa sb hz) ⟨oa, ob, he, ⟨(fun z => nomatch z), q⟩⟩
section
open PySem.AutoSeq1 (wpAny_loadPart')
open PySem.MeetsSeq PySem.MeetsSeq2 PySem.MeetsSeq3 PySem.SeqRoads2 PySem.SeqAt
theorem lstLoopW (a b : Addr) (xs ys : Array Value) (n m : Nat) (da db : Option Addr) (sa sb : Array (Option Value)) (hz : xs.size = ys.size) : ∀ (k i : Nat), xs.size - i = k →
    MeetsIn P w (Builtin.«list.__eq__.loop» ⟨[.ref a, .ref b, rawInt i, rawInt 2], []⟩) (fun A R s => s.heap.get? a = some ⟨.type "list", da, .seq xs n, sa⟩ ∧ s.heap.get? b = some ⟨.type "list", db, .seq ys m, sb⟩ ∧
      (∀ j (h1 : j < xs.size) (h2 : j < ys.size), EqW P w A.in1 s xs[j] ys[j]) ∧ R (.ok (.ret (.bool true))) s)
  | 0, i, hk => fun A R s h => by
    obtain ⟨hp, g, d, tk, os⟩ := s
    obtain ⟨ha, hb, he, hR⟩ := h
    wp_walk using wpAny_loadPart' ha, wpAny_loadPart' hb
    have z1 : xs[((i : Nat) : Int).toNat]? = none := by simp; omega
    have z2 : ys[((i : Nat) : Int).toNat]? = none := by simp; omega
    rw [z1, z2]
    wp_walk using wpAny_loadPart' ha, wpAny_loadPart' hb
    show R (.ok (.ret (.bool (xs.size == ys.size)))) _
    rw [hz, beq_self_eq_true]
    exact hR
  | k + 1, i, hk => fun A R s h => by
    obtain ⟨hp, g, d, tk, os⟩ := s
    obtain ⟨ha, hb, he, hR⟩ := h
    wp_walk using wpAny_loadPart' ha, wpAny_loadPart' hb
    have i1 : i < xs.size := by omega
    have i2 : i < ys.size := by omega
    have z1 : xs[((i : Nat) : Int).toNat]? = some xs[i] := by simp [i1]
    have z2 : ys[((i : Nat) : Int).toNat]? = some ys[i] := by simp [i2]
    rw [z1, z2]
    refine wpAny_bind (he i i1 i2 _ _ ?_)
    wp_walk
    have up : ((i : Int) + 1) = ((i + 1 : Nat) : Int) := Int.natCast_succ i
    rw [up]
    refine ⟨plainId_quiet plain_eq_loop _, codeAny_builtin entry_eq_loop ?_⟩
    rw [Around.under_plainId plain_eq_loop _]
    exact lstLoopW a b xs ys n m da db sa sb hz k (i + 1) (by omega) A R _ ⟨ha, hb, he, hR⟩
theorem lstW (a b : Addr) (xs ys : Array Value) (n m : Nat) (da db : Option Addr) (sa sb : Array (Option Value)) (hz : xs.size = ys.size) :
    MeetsIn P w (Builtin.«list.__eq__» ⟨[.ref a, .ref b], []⟩) (fun A R s => s.heap.get? a = some ⟨.type "list", da, .seq xs n, sa⟩ ∧ s.heap.get? b = some ⟨.type "list", db, .seq ys m, sb⟩ ∧
      (∀ j (h1 : j < xs.size) (h2 : j < ys.size), EqW P w A.in1 s xs[j] ys[j]) ∧ R (.ok (.ret (.bool true))) s) := fun A R s h => by
  obtain ⟨hp, g, d, tk, os⟩ := s
  obtain ⟨ha, hb, he, hR⟩ := h
  have sub := AutoSeq1.sub_list_list
  have same : ¬ (xs.size != ys.size) = true := by simp [hz]
  wp_walk using wpAny_loadPart' ha, wpAny_loadPart' hb
  refine ⟨plainId_quiet plain_eq_loop _, codeAny_builtin entry_eq_loop ?_⟩
  rw [Around.under_plainId plain_eq_loop _]
  exact lstLoopW a b xs ys n m da db sa sb hz _ 0 rfl A R _ ⟨ha, hb, he, hR⟩
end
theorem RcW.lists {a b : Addr} {xs ys : Array Value} (ha : s.heap.IsList a xs) (hb : s.heap.IsList b ys) (hz : xs.size = ys.size) (hu : A.units < cLine) (he : ∀ j (h1 : j < xs.size) (h2 : j < ys.size), EqW P w A.in1 s xs[j] ys[j]) : RcW P w A s (.ref a) (.ref b) := fun E Q q => by
  obtain ⟨⟨ca, da, xa, sa⟩, oa, ka, n, va⟩ := id ha
  obtain ⟨⟨cb, db, xb, sb⟩, ob, kb, m, vb⟩ := id hb
  simp only at ka va kb vb
  subst ka va kb vb
  refine wpAny_richCompare_same_room (op := .Eq) (T := "list") ⟨_, oa, rfl⟩ ⟨_, ob, rfl⟩ PySem.F.slot_list_eq ?_ hu
  exact call_meetsIn PySem.F.slot_list_eq ⟨_, oa, rfl⟩ PySem.F.entry_list_eq (PySem.F.args_list_eq_2 _ _) (lstW a b xs ys n m da db sa sb hz) ⟨oa, ob, he, ⟨(fun z => nomatch z), q⟩⟩
end
def EqN (K : PySem.W.Frag) (H : Hp) : Nat → V → V → Prop
  | 0, x, y => flatV x = true ∧ x = y
  | n + 1, x, y => (flatV x = true ∧ x = y) ∨ ∃ p q, x = .ref p ∧ y = .ref q ∧ ((∃ xs ys, ((SqT K H p xs ∧ SqT K H q ys) ∨ (SqL K H p xs ∧ SqL K H q ys)) ∧ All2 (EqN K H n) xs ys) ∨
      ∃ ka kb, Rd H p (.dK ka) ∧ Rd H q (.dK kb) ∧ DEqT K H n ka kb)
section
variable {X : Cx} {pins : List (Addr × Obj)} {σ : St} {H : Hp} {s : Shared}
end
section
variable {X : Cx}
end
end L2
namespace Sf
end Sf
namespace Sf
def Sm (n : Nat) (q : Rat) : Prop := q.num.natAbs < 2 ^ n ∧ q.den < 2 ^ n
theorem Sm.mono {n m : Nat} {q : Rat} (h : Sm n q) (k : n ≤ m) : Sm m q :=
  ⟨Nat.lt_of_lt_of_le h.1 (Nat.pow_le_pow_right (by decide) k), Nat.lt_of_lt_of_le h.2 (Nat.pow_le_pow_right (by decide) k)⟩
theorem sm_zero : Sm 1 0 := ⟨by decide, by decide⟩
end Sf
namespace Sf
section
variable {κ : Type} [DecidableEq κ]
abbrev FL (κ : Type) := List (κ × Rat)
def gt (m : FL κ) (k : κ) : Option Rat := (m.find? fun p => decide (p.1 = k)).map (·.2)
def pt (m : FL κ) (k : κ) (q : Rat) : FL κ := if (m.any fun p => decide (p.1 = k)) = true then m.map (fun p => if p.1 = k then (p.1, q) else p) else m ++ [(k, q)]
def dr (m : FL κ) (k : κ) : FL κ := m.filter fun p => decide (p.1 ≠ k)
def sc (m : FL κ) (n : Rat) : FL κ := m.map fun p => (p.1, p.2 * n)
def val : FL κ → (κ → Rat) → Rat
  | [], _ => 0
  | p :: r, P => p.2 * P p.1 + val r P
def Nd (m : FL κ) : Prop := (m.map (·.1)).Nodup
theorem gt_pos {p : κ × Rat} {r : FL κ} {k : κ} (e : p.1 = k) : gt (p :: r) k = some p.2 := by simp [gt, List.find?_cons, e]
theorem gt_neg {p : κ × Rat} {r : FL κ} {k : κ} (e : ¬ p.1 = k) : gt (p :: r) k = gt r k := by simp [gt, List.find?_cons, e]
theorem gt_any (k : κ) : ∀ m : FL κ, (m.any fun p => decide (p.1 = k)) = (gt m k).isSome
  | [] => rfl
  | p :: r => by
    rw [List.any_cons]
    by_cases e : p.1 = k
    · simp [gt_pos e, e]
    · rw [gt_neg e, gt_any k r]; simp [e]
theorem gt_of_mem {k : κ} {q : Rat} : ∀ {m : FL κ}, Nd m → (k, q) ∈ m → gt m k = some q
  | p :: r, n, h => by
    obtain ⟨n1, n2⟩ := List.nodup_cons.mp (show (p.1 :: r.map (·.1)).Nodup from n)
    rcases List.mem_cons.mp h with e | h
    · subst e; exact gt_pos rfl
    · have ne : ¬ p.1 = k := fun z => n1 (by rw [z]; exact List.mem_map.mpr ⟨_, h, rfl⟩)
      rw [gt_neg ne]; exact gt_of_mem n2 h
theorem gt_repl (k j : κ) (q : Rat) : ∀ m : FL κ, gt (m.map (fun p => if p.1 = k then (p.1, q) else p)) j = (gt m j).map fun x => if j = k then q else x
  | [] => rfl
  | p :: r => by
    have ih := gt_repl k j q r
    rw [List.map_cons]
    by_cases h : p.1 = k
    · rw [if_pos h]
      by_cases e : p.1 = j
      · rw [gt_pos (p := (p.1, q)) e, gt_pos e]; simp [← e, h]
      · rw [gt_neg (p := (p.1, q)) e, gt_neg e, ih]
    · rw [if_neg h]
      by_cases e : p.1 = j
      · rw [gt_pos e, gt_pos e]; simp [← e, h]
      · rw [gt_neg e, gt_neg e, ih]
theorem gt_snoc (k j : κ) (q : Rat) : ∀ m : FL κ, gt m k = none → gt (m ++ [(k, q)]) j = if j = k then some q else gt m j
  | [], _ => by
    by_cases e : k = j
    · rw [if_pos e.symm]; exact gt_pos (p := (k, q)) e
    · rw [if_neg (Ne.symm e)]; exact gt_neg (p := (k, q)) e
  | p :: r, h => by
    have hk : ¬ p.1 = k := fun z => by rw [gt_pos z] at h; cases h
    rw [gt_neg hk] at h
    have ih := gt_snoc k j q r h
    rw [List.cons_append]
    by_cases e : p.1 = j
    · rw [gt_pos e, gt_pos e, if_neg (fun z => hk (e.trans z))]
    · rw [gt_neg e, gt_neg e, ih]
theorem gt_pt (m : FL κ) (k j : κ) (q : Rat) : gt (pt m k q) j = if j = k then some q else gt m j := by
  unfold pt
  by_cases h : (m.any fun p => decide (p.1 = k)) = true
  · rw [if_pos h, gt_repl]
    rw [gt_any] at h
    by_cases e : j = k
    · subst e
      obtain ⟨x, hx⟩ := Option.isSome_iff_exists.mp h
      simp [hx]
    · simp [e]
  · rw [if_neg h]
    refine gt_snoc k j q m ?_
    rw [gt_any] at h
    cases z : gt m k with
    | none => rfl
    | some _ => rw [z] at h; simp at h
def run (P : κ → Rat) (r : Rat) (m : FL κ) : Rat := m.foldl (fun t p => t + p.2 * P p.1) r
end
end Sf
namespace Sf
section
variable {κ : Type} [DecidableEq κ]
end
end Sf
namespace Sf
section
variable {κ : Type} [DecidableEq κ]
def SmM (n : Nat) (m : FL κ) : Prop := ∀ x q, gt m x = some q → Sm n q
theorem SmM.mono {n k : Nat} {m : FL κ} (h : SmM n m) (e : n ≤ k) : SmM k m := fun x q z => (h x q z).mono e
theorem SmM.nil (n : Nat) : SmM n ([] : FL κ) := fun x q z => by cases z
theorem SmM.pt {n : Nat} {m : FL κ} (h : SmM n m) {k : κ} {q : Rat} (hq : Sm n q) : SmM n (pt m k q) := fun x r z => by
  rw [gt_pt] at z
  split at z
  · injection z with z; rw [← z]; exact hq
  · exact h x r z
theorem SmM.getD {n : Nat} {m : FL κ} (h : SmM n m) (hn : 1 ≤ n) (x : κ) : Sm n ((gt m x).getD 0) := by
  cases e : gt m x with
  | none => exact sm_zero.mono hn
  | some q => exact h x q e
theorem SmM.at {n : Nat} {m : FL κ} (h : SmM n m) (nd : Nd m) {i : Nat} {x : κ} {q : Rat} (e : m[i]? = some (x, q)) : Sm n q := h x q (gt_of_mem nd (List.mem_of_getElem? e))
end
end Sf
namespace Sf
section
variable {κ : Type} [DecidableEq κ]
end
end Sf
namespace Sf
section
variable {κ : Type} [DecidableEq κ]
end
end Sf
namespace Sf
section
variable {κ : Type} [DecidableEq κ]
end
end Sf
namespace Sf
open PySem L2
def fr (q : Rat) : List V := [.int q.num, .int (q.den : Int)]
def TupS (H H' : Hp) : Prop := ∀ b xs, H b = some (.tup xs) → H' b = some (.tup xs)
theorem TupS.refl (H : Hp) : TupS H H := fun _ _ h => h
theorem TupS.trans {H H1 H2 : Hp} (a : TupS H H1) (b : TupS H1 H2) : TupS H H2 := fun c xs h => b c xs (a c xs h)
theorem TupS.of {H H' : Hp} (e : Same H H') : TupS H H' := fun b xs h => e b _ h
theorem TupS.new {H : Hp} {a : Addr} {o : HO} (h : H a = none) : TupS H (upd H a o) := fun b xs e => by rw [upd_ne (ne_of_none e h)]; exact e
theorem TupS.put {H : Hp} {a : Addr} {o : HO} {kvs : List (Key × V)} (h : H a = some (.dK kvs)) : TupS H (upd H a o) := fun b xs e => by rw [upd_ne (ne_of e h (by intro z; cases z))]; exact e
theorem TupS.frz {H : Hp} {a : Addr} {ob : Obj} {u o : HO} (h : H a = some (.frz ob u)) : TupS H (upd H a o) := fun b xs e => by rw [upd_ne (ne_of e h (by intro z; cases z))]; exact e
def FK (H : Hp) : List (Key × V) → FL Str → Prop
  | [], [] => True
  | p :: r, x :: s => p.1 = Sum.inr x.1 ∧ (∃ a, p.2 = .ref a ∧ H a = some (.tup (fr x.2))) ∧ FK H r s
  | _, _ => False
theorem FK.mono {H H' : Hp} (e : TupS H H') : ∀ {kvs : List (Key × V)} {m : FL Str}, FK H kvs m → FK H' kvs m
  | [], [], _ => True.intro
  | p :: r, x :: s, ⟨h1, ⟨a, h2, h3⟩, h4⟩ => ⟨h1, ⟨a, h2, e _ _ h3⟩, FK.mono e h4⟩
  | [], _ :: _, h => h.elim
  | _ :: _, [], h => h.elim
theorem FK.length {H : Hp} : ∀ {kvs : List (Key × V)} {m : FL Str}, FK H kvs m → kvs.length = m.length
  | [], [], _ => rfl
  | _ :: r, _ :: s, h => by rw [List.length_cons, List.length_cons, FK.length h.2.2]
  | [], _ :: _, h => h.elim
  | _ :: _, [], h => h.elim
theorem FK.get {H : Hp} : ∀ {kvs : List (Key × V)} {m : FL Str} {i : Nat} {k : Key} {v : V}, FK H kvs m → kvs[i]? = some (k, v) → ∃ x q a, m[i]? = some (x, q) ∧ k = Sum.inr x ∧ v = .ref a ∧ H a = some (.tup (fr q))
  | p :: r, x :: s, 0, k, v, ⟨h1, ⟨a, h2, h3⟩, h4⟩, e => by
    simp at e
    subst e
    exact ⟨x.1, x.2, a, rfl, h1, h2, h3⟩
  | p :: r, x :: s, i + 1, k, v, ⟨h1, _, h4⟩, e => by
    obtain ⟨x', q, a, e1, e2⟩ := FK.get (i := i) h4 (by simpa using e)
    exact ⟨x', q, a, by simpa using e1, e2⟩
  | [], [], i, _, _, _, e => by simp at e
  | [], _ :: _, _, _, _, h, _ => h.elim
  | _ :: _, [], _, _, _, h, _ => h.elim
theorem FK.snoc {H : Hp} {x : Str} {q : Rat} {a : Addr} (ha : H a = some (.tup (fr q))) : ∀ {kvs : List (Key × V)} {m : FL Str}, FK H kvs m → FK H (kvs ++ [(Sum.inr x, .ref a)]) (m ++ [(x, q)])
  | [], [], _ => ⟨rfl, ⟨a, rfl, ha⟩, True.intro⟩
  | _ :: _, _ :: _, ⟨h1, h2, h4⟩ => ⟨h1, h2, FK.snoc ha h4⟩
  | [], _ :: _, h => h.elim
  | _ :: _, [], h => h.elim
theorem FK.val {H : Hp} (x : Str) : ∀ {kvs : List (Key × V)} {m : FL Str}, FK H kvs m → (valV kvs (Sum.inr x : Key) = none ∧ gt m x = none) ∨ ∃ a q, valV kvs (Sum.inr x : Key) = some (.ref a) ∧ gt m x = some q ∧ H a = some (.tup (fr q))
  | [], [], _ => .inl ⟨rfl, rfl⟩
  | p :: r, y :: s, ⟨h1, ⟨a, h2, h3⟩, h4⟩ => by
    by_cases e : y.1 = x
    · have e2 : p.1 = (Sum.inr x : Key) := by rw [h1, e]
      exact .inr ⟨a, y.2, by rw [valV_pos e2, h2], gt_pos e, h3⟩
    · have e2 : ¬ p.1 = (Sum.inr x : Key) := by rw [h1]; exact fun z => e (Sum.inr.inj z)
      rw [valV_neg e2, gt_neg e]
      exact FK.val x h4
  | [], _ :: _, h => h.elim
  | _ :: _, [], h => h.elim
theorem FK.any {H : Hp} (x : Str) {kvs : List (Key × V)} {m : FL Str} (h : FK H kvs m) : (kvs.any fun kv => decide (kv.1 = (Sum.inr x : Key))) = (m.any fun p => decide (p.1 = x)) := by
  rw [valV_any, gt_any]
  rcases h.val x with ⟨h1, h2⟩ | ⟨a, q, h1, h2, _⟩
  · rw [h1, h2]; rfl
  · rw [h1, h2]; rfl
theorem FK.repl {H : Hp} {x : Str} {q : Rat} {a : Addr} (ha : H a = some (.tup (fr q))) : ∀ {kvs : List (Key × V)} {m : FL Str}, FK H kvs m →
    FK H (kvs.map fun kv => if kv.1 = (Sum.inr x : Key) then (kv.1, .ref a) else kv) (m.map fun p => if p.1 = x then (p.1, q) else p)
  | [], [], _ => True.intro
  | p :: r, y :: s, ⟨h1, h2, h4⟩ => by
    have ih := FK.repl (x := x) ha h4
    rw [List.map_cons, List.map_cons]
    by_cases e : y.1 = x
    · have e2 : p.1 = (Sum.inr x : Key) := by rw [h1, e]
      rw [if_pos e2, if_pos e]
      exact ⟨h1, ⟨a, rfl, ha⟩, ih⟩
    · have e2 : ¬ p.1 = (Sum.inr x : Key) := by rw [h1]; exact fun z => e (Sum.inr.inj z)
      rw [if_neg e2, if_neg e]
      exact ⟨h1, h2, ih⟩
  | [], _ :: _, h => h.elim
  | _ :: _, [], h => h.elim
theorem FK.put {H : Hp} {x : Str} {q : Rat} {a : Addr} (ha : H a = some (.tup (fr q))) {kvs : List (Key × V)} {m : FL Str} (h : FK H kvs m) : FK H (putK kvs (Sum.inr x : Key) (.ref a)) (pt m x q) := by
  unfold putK pt
  rw [h.any x]
  split
  · exact h.repl ha
  · exact h.snoc ha
theorem FK.drop {H : Hp} (x : Str) : ∀ {kvs : List (Key × V)} {m : FL Str}, FK H kvs m → FK H (dropK kvs (Sum.inr x : Key)) (dr m x)
  | [], [], _ => True.intro
  | p :: r, y :: s, ⟨h1, h2, h4⟩ => by
    have ih := FK.drop x h4
    unfold dropK dr at ih ⊢
    by_cases e : y.1 = x
    · have e2 : p.1 = (Sum.inr x : Key) := by rw [h1, e]
      rw [List.filter_cons_of_neg (by simp [e2]), List.filter_cons_of_neg (by simp [e])]
      exact ih
    · have e2 : ¬ p.1 = (Sum.inr x : Key) := by rw [h1]; exact fun z => e (Sum.inr.inj z)
      rw [List.filter_cons_of_pos (by simp [e2]), List.filter_cons_of_pos (by simp [e])]
      exact ⟨h1, h2, ih⟩
  | [], _ :: _, h => h.elim
  | _ :: _, [], h => h.elim
end Sf
namespace Vc
open PySem L2 Sf
def Le (F F' : Hp) : Prop := ∀ a u, (∀ o w, u ≠ .frz o w) → Rd F a u → Rd F' a u
theorem Le.refl (F : Hp) : Le F F := fun _ _ _ h => h
theorem Le.trans {F G H : Hp} (a : Le F G) (b : Le G H) : Le F H := fun x u n h => b x u n (a x u n h)
theorem Le.of {F F' : Hp} (e : Same F F') : Le F F' := fun a u _ h => e.rd h
theorem Le.tup {K : PySem.W.Frag} {F F' : Hp} {a : Addr} {xs : List V} (e : Le F F') (h : SqT K F a xs) : SqT K F' a xs := by
  rcases h with h | h
  · exact .inl (e _ _ (by intro o w z; cases z) h)
  · exact .inr h
theorem Le.lst {K : PySem.W.Frag} {F F' : Hp} {a : Addr} {xs : List V} (e : Le F F') (h : SqL K F a xs) : SqL K F' a xs := by
  rcases h with h | h
  · exact .inl (e _ _ (by intro o w z; cases z) h)
  · exact .inr h
theorem Le.dic {F F' : Hp} {a : Addr} {kvs : List (Key × V)} (e : Le F F') (h : Rd F a (.dK kvs)) : Rd F' a (.dK kvs) := e _ _ (by intro o w z; cases z) h
def Fz (S : Addr → Prop) (F : Hp) : Prop := ∀ a o u, F a = some (.frz o u) → S a
abbrev S0 : Addr → Prop := fun _ => False
def frzd (F : Hp) : Addr → Prop := fun a => ∃ o u, F a = some (.frz o u)
structure Gr0 (F H F' H' : Hp) : Prop where
  h : Same H H'
  f : Same F F'
  s : Same F' H'
  n : ∀ a u, F' a = some u → F a = none → H a = none
structure Gr (F H F' H' : Hp) : Prop extends Gr0 F H F' H' where
  z : Fz (frzd F) F'
theorem Gr0.refl {F H : Hp} (s : Same F H) : Gr0 F H F H := ⟨Same.refl _, Same.refl _, s, (fun a u h e => by rw [h] at e; cases e)⟩
theorem Fz.refl (F : Hp) : Fz (frzd F) F := fun _ o u h => ⟨o, u, h⟩
theorem Gr.of {F H F' H' : Hp} (g : Gr0 F H F' H') (z : Fz (frzd F) F') : Gr F H F' H' := ⟨g, z⟩
theorem Gr.le {F H F' H' : Hp} (g : Gr F H F' H') : Le F F' := .of g.f
theorem Gr.fz {F H F' H' : Hp} {S : Addr → Prop} (g : Gr F H F' H') (c : Fz S F) : Fz S F' := fun a o u h => by
  obtain ⟨o', u', e⟩ := g.z a o u h
  exact c a o' u' e
theorem Gr0.trans {F H F1 H1 F2 H2 : Hp} (a : Gr0 F H F1 H1) (b : Gr0 F1 H1 F2 H2) : Gr0 F H F2 H2 :=
  ⟨a.h.trans b.h, a.f.trans b.f, b.s, (fun x u h e => match q : F1 x with
    | none => a.h.free (b.n x u h q)
    | some w => a.n x w q e)⟩
theorem Gr0.tr {F H F1 H1 F2 H2 : Hp} (a : Gr0 F H F1 H1) (b : Gr F1 H1 F2 H2) : Gr0 F H F2 H2 := a.trans b.toGr0
theorem Gr.own {F H F' H' : Hp} (g : Gr F H F' H') {o : Addr} {u : HO} (eF : F o = none) (eH : H o = some u) : F' o = none := by
  cases q : F' o with
  | none => rfl
  | some w => have := g.n o w q eF; rw [eH] at this; cases this
theorem al {F H : Hp} {o : HO} {R : V → Hp → Prop} (wd : Same F H) (nf : ∀ x u, o ≠ .frz x u) (h : ∀ (p : Addr) (F' H' : Hp), Gr F H F' H' → F' p = some o → R (.ref p) H') : ∀ p, H p = none → R (.ref p) (upd H p o) := fun p hp => by
  have fp : F p = none := wd.free hp
  refine h p (upd F p o) (upd H p o) ⟨⟨Same.upd hp, Same.upd fp, ?_, fun a u e q => ?_⟩, fun a x u e => ?_⟩ upd_same
  · intro b u e
    by_cases hb : b = p
    · subst hb; rw [upd_same] at e ⊢; exact e
    · rw [upd_ne hb] at e ⊢; exact wd b u e
  · by_cases hb : a = p
    · subst hb; exact hp
    · rw [upd_ne hb, q] at e; cases e
  · by_cases hb : a = p
    · subst hb; rw [upd_same] at e; exact absurd (Option.some.inj e) (nf x u)
    · rw [upd_ne hb] at e; exact ⟨_, _, e⟩
theorem al1 {F H : Hp} {o : HO} {p : Addr} {R : Hp → Prop} (wd : Same F H) (nf : ∀ x u, o ≠ .frz x u) (hp : H p = none) (h : ∀ F' H' : Hp, Gr F H F' H' → F' p = some o → R H') : R (upd H p o) := by
  have := al (R := fun v H' => ∀ q, v = .ref q → q = p → R H') wd nf (fun q F' H' g e z hz hq => by cases hz; subst hq; exact h F' H' g e) p hp
  exact this p rfl rfl
theorem Gr.at {F H F' H' : Hp} (g : Gr F H F' H') {o : Addr} {u : HO} {w : Option HO} (eH : H o = some u) (e : F o = w) : F' o = w := by
  cases q : F o with
  | none => rw [← e, q]; exact g.own q eH
  | some x => rw [← e, q]; exact g.f _ _ q
theorem al2 {F H : Hp} {o : HO} {p : Addr} (wd : Same F H) (nf : ∀ x u, o ≠ .frz x u) (hp : H p = none) : ∃ F', Gr F H F' (upd H p o) ∧ F' p = some o :=
  al1 (R := fun H' => ∃ F', Gr F H F' H' ∧ F' p = some o) wd nf hp fun F' _ g e => ⟨F', g, e⟩
theorem alo2 {Fb Hb F H : Hp} {o : HO} {p : Addr} (gb : Gr0 Fb Hb F H) (hp : H p = none) : Gr0 Fb Hb F (upd H p o) ∧ Same H (upd H p o) ∧ Hb p = none ∧ F p = none ∧ (upd H p o) p = some o ∧ (∀ a u, H a = some u → a ≠ p) :=
  ⟨⟨gb.h.updN (gb.h.free hp), gb.f, gb.s.updN (gb.s.free hp), gb.n⟩, Same.upd hp, gb.h.free hp, gb.s.free hp, upd_same, fun _ _ e => ne_of_none e hp⟩
theorem chg {Fb Hb F H : Hp} {p : Addr} {o : HO} {R : Hp → Prop} (gb : Gr0 Fb Hb F H) (hb : Hb p = none) (hf : F p = none) (h : ∀ H' : Hp, Gr0 Fb Hb F H' → H' p = some o → (∀ a, a ≠ p → H' a = H a) → R H') : R (upd H p o) :=
  h (upd H p o) ⟨gb.h.updN hb, gb.f, gb.s.updN hf, gb.n⟩ upd_same fun _ e => upd_ne e
theorem frz {Fb Hb F H : Hp} {S : Addr → Prop} {p : Addr} {o : HO} (gb : Gr0 Fb Hb F H) (cm : Fz S F) (hb : Hb p = none) (hf : F p = none) (hH : H p = some o) (nf : ∀ x u, o ≠ .frz x u) : ∃ F', Gr0 Fb Hb F' H ∧ Fz S F' ∧ Same F F' ∧ F' p = some o ∧ ∀ a, a ≠ p → F' a = F a := by
  refine ⟨upd F p o, ⟨gb.h, gb.f.trans (Same.upd hf), ?_, fun a u e q => ?_⟩, fun a x u e => ?_, Same.upd hf, upd_same, fun _ e => upd_ne e⟩
  · intro b u e
    by_cases hb : b = p
    · subst hb; rw [upd_same] at e; cases e; exact hH
    · rw [upd_ne hb] at e; exact gb.s b u e
  · by_cases hb' : a = p
    · subst hb'; exact hb
    · rw [upd_ne hb'] at e; exact gb.n a u e q
  · by_cases hb' : a = p
    · subst hb'; rw [upd_same] at e; exact absurd (Option.some.inj e) (nf x u)
    · rw [upd_ne hb'] at e; exact cm a x u e
theorem it2 {K : PySem.W.Frag} {F H : Hp} {i j : Nat} {p : Addr} {x y : V} {σ : St} {R : St → Hp → Prop} (wd : Same F H) (hp : H p = none) (h : ∀ F' H' : Hp, Gr F H F' H' → F' p = some (.tup [x, y]) → R ((σ.set i (some x)).set j (some y)) H') :
    gTup K 2 (gCons (gName i) (gCons (gName j) gNil)) (.ref p) σ (upd H p (.tup [x, y])) R :=
  al1 (R := fun H' => gTup K 2 (gCons (gName i) (gCons (gName j) gNil)) (.ref p) σ H' R) wd (by intro _ _ z; cases z) hp fun F' H' g e => a_gtup2 (SqT.of (g.s _ _ e)) (h F' H' g e)
def fz (X : Hp) (a : Addr) (o : HO) : Hp := fun b => if b = a then (if X a = none then none else some o) else X b
abbrev Rep (α : Type) := Hp → V → α → Prop
class Mo {α : Type} (A : Rep α) : Prop where
  mo : ∀ {F F' : Hp} {v : V} {x : α}, Le F F' → A F v x → A F' v x
def rI : Rep Int := fun _ v n => v = .int n
def rB : Rep Bool := fun _ v b => v = .bl b
def rS : Rep Str := fun _ v s => v = .str s
def rN : Rep Unit := fun _ v _ => v = .non
def rFr (K : PySem.W.Frag) : Rep Rat := fun F v q => ∃ a, v = .ref a ∧ SqT K F a (fr q)
def r2 (K : PySem.W.Frag) {α β : Type} (A : Rep α) (B : Rep β) : Rep (α × β) := fun F v x => ∃ a v1 v2, v = .ref a ∧ SqT K F a [v1, v2] ∧ A F v1 x.1 ∧ B F v2 x.2
def r3 (K : PySem.W.Frag) {α β γ : Type} (A : Rep α) (B : Rep β) (C : Rep γ) : Rep (α × β × γ) := fun F v x => ∃ a v1 v2 v3, v = .ref a ∧ SqT K F a [v1, v2, v3] ∧ A F v1 x.1 ∧ B F v2 x.2.1 ∧ C F v3 x.2.2
def r5 (K : PySem.W.Frag) {α β γ δ ε : Type} (A : Rep α) (B : Rep β) (C : Rep γ) (D : Rep δ) (E : Rep ε) : Rep (α × β × γ × δ × ε) := fun F v x => ∃ a v1 v2 v3 v4 v5, v = .ref a ∧ SqT K F a [v1, v2, v3, v4, v5] ∧ A F v1 x.1 ∧ B F v2 x.2.1 ∧ C F v3 x.2.2.1 ∧ D F v4 x.2.2.2.1 ∧ E F v5 x.2.2.2.2
def Al {α : Type} (A : Rep α) (F : Hp) : List V → List α → Prop
  | [], [] => True
  | v :: vs, x :: xs => A F v x ∧ Al A F vs xs
  | _, _ => False
def rL (K : PySem.W.Frag) {α : Type} (A : Rep α) : Rep (List α) := fun F v xs => ∃ a vs, v = .ref a ∧ SqL K F a vs ∧ Al A F vs xs
def Dk {α : Type} (A : Rep α) (F : Hp) : List (Key × V) → List (Str × α) → Prop
  | [], [] => True
  | p :: r, x :: s => p.1 = Sum.inr x.1 ∧ A F p.2 x.2 ∧ Dk A F r s
  | _, _ => False
def rD {α : Type} (A : Rep α) : Rep (List (Str × α)) := fun F v m => ∃ a kvs, v = .ref a ∧ Rd F a (.dK kvs) ∧ Dk A F kvs m ∧ (m.map (·.1)).Nodup
instance : Mo rI := ⟨fun _ h => h⟩
instance : Mo rB := ⟨fun _ h => h⟩
instance : Mo rS := ⟨fun _ h => h⟩
instance : Mo rN := ⟨fun _ h => h⟩
instance {K : PySem.W.Frag} : Mo (rFr K) := ⟨fun e ⟨a, h1, h2⟩ => ⟨a, h1, e.tup h2⟩⟩
instance {K : PySem.W.Frag} {α β : Type} {A : Rep α} {B : Rep β} [Mo A] [Mo B] : Mo (r2 K A B) := ⟨fun e ⟨a, v1, v2, h1, h2, h3, h4⟩ => ⟨a, v1, v2, h1, e.tup h2, Mo.mo e h3, Mo.mo e h4⟩⟩
instance {K : PySem.W.Frag} {α β γ : Type} {A : Rep α} {B : Rep β} {C : Rep γ} [Mo A] [Mo B] [Mo C] : Mo (r3 K A B C) := ⟨fun e ⟨a, v1, v2, v3, h1, h2, h3, h4, h5⟩ => ⟨a, v1, v2, v3, h1, e.tup h2, Mo.mo e h3, Mo.mo e h4, Mo.mo e h5⟩⟩
instance {K : PySem.W.Frag} {α β γ δ ε : Type} {A : Rep α} {B : Rep β} {C : Rep γ} {D : Rep δ} {E : Rep ε} [Mo A] [Mo B] [Mo C] [Mo D] [Mo E] : Mo (r5 K A B C D E) :=
  ⟨fun e ⟨a, v1, v2, v3, v4, v5, h1, h2, h3, h4, h5, h6, h7⟩ => ⟨a, v1, v2, v3, v4, v5, h1, e.tup h2, Mo.mo e h3, Mo.mo e h4, Mo.mo e h5, Mo.mo e h6, Mo.mo e h7⟩⟩
theorem Al.mo {α : Type} {A : Rep α} [Mo A] {F F' : Hp} (e : Le F F') : ∀ {vs : List V} {xs : List α}, Al A F vs xs → Al A F' vs xs
  | [], [], _ => True.intro
  | _ :: _, _ :: _, h => ⟨Mo.mo e h.1, Al.mo e h.2⟩
  | [], _ :: _, h => h.elim
  | _ :: _, [], h => h.elim
theorem Al.length {α : Type} {A : Rep α} {F : Hp} : ∀ {vs : List V} {xs : List α}, Al A F vs xs → vs.length = xs.length
  | [], [], _ => rfl
  | _ :: vs, _ :: xs, h => by rw [List.length_cons, List.length_cons, Al.length h.2]
  | [], _ :: _, h => h.elim
  | _ :: _, [], h => h.elim
theorem Al.get {α : Type} {A : Rep α} {F : Hp} : ∀ {vs : List V} {xs : List α} {i : Nat} {v : V}, Al A F vs xs → vs[i]? = some v → ∃ x, xs[i]? = some x ∧ A F v x
  | v :: vs, x :: xs, 0, w, h, e => by simp at e; subst e; exact ⟨x, rfl, h.1⟩
  | v :: vs, x :: xs, i + 1, w, h, e => by
    obtain ⟨y, h1, h2⟩ := Al.get (i := i) h.2 (by simpa using e)
    exact ⟨y, by simpa using h1, h2⟩
  | [], [], _, _, _, e => by simp at e
  | [], _ :: _, _, _, h, _ => h.elim
  | _ :: _, [], _, _, h, _ => h.elim
theorem Al.at {α : Type} {A : Rep α} {F : Hp} {vs : List V} {xs : List α} {i : Nat} {x : α} (h : Al A F vs xs) (e : xs[i]? = some x) : ∃ v, vs[i]? = some v ∧ A F v x := by
  have hl := h.length
  have hi : i < vs.length := by rw [hl]; exact (List.getElem?_eq_some_iff.mp e).1
  obtain ⟨y, h1, h2⟩ := h.get (i := i) (v := vs[i]) (by simp)
  rw [e] at h1
  cases h1
  exact ⟨_, by simp, h2⟩
theorem Al.app {α : Type} {A : Rep α} {F : Hp} : ∀ {vs ws : List V} {xs ys : List α}, Al A F vs xs → Al A F ws ys → Al A F (vs ++ ws) (xs ++ ys)
  | [], _, [], _, _, h => h
  | _ :: _, _, _ :: _, _, h, g => ⟨h.1, Al.app h.2 g⟩
  | [], _, _ :: _, _, h, _ => h.elim
  | _ :: _, _, [], _, h, _ => h.elim
theorem Al.snoc {α : Type} {A : Rep α} {F : Hp} {vs : List V} {xs : List α} {v : V} {x : α} (h : Al A F vs xs) (g : A F v x) : Al A F (vs ++ [v]) (xs ++ [x]) := h.app ⟨g, True.intro⟩
theorem al_ints {F : Hp} : ∀ {ns : List Int}, Al rI F (ns.map V.int) ns
  | [] => True.intro
  | _ :: ns => ⟨rfl, al_ints⟩
theorem Dk.mo {α : Type} {A : Rep α} [Mo A] {F F' : Hp} (e : Le F F') : ∀ {vs : List (Key × V)} {xs : List (Str × α)}, Dk A F vs xs → Dk A F' vs xs
  | [], [], _ => True.intro
  | _ :: _, _ :: _, h => ⟨h.1, Mo.mo e h.2.1, Dk.mo e h.2.2⟩
  | [], _ :: _, h => h.elim
  | _ :: _, [], h => h.elim
theorem Dk.length {α : Type} {A : Rep α} {F : Hp} : ∀ {vs : List (Key × V)} {xs : List (Str × α)}, Dk A F vs xs → vs.length = xs.length
  | [], [], _ => rfl
  | _ :: vs, _ :: xs, h => by rw [List.length_cons, List.length_cons, Dk.length h.2.2]
  | [], _ :: _, h => h.elim
  | _ :: _, [], h => h.elim
instance {K : PySem.W.Frag} {α : Type} {A : Rep α} [Mo A] : Mo (rL K A) := ⟨fun e ⟨a, vs, h1, h2, h3⟩ => ⟨a, vs, h1, e.lst h2, h3.mo e⟩⟩
instance {α : Type} {A : Rep α} [Mo A] : Mo (rD A) := ⟨fun e ⟨a, kvs, h1, h2, h3, h4⟩ => ⟨a, kvs, h1, e.dic h2, h3.mo e, h4⟩⟩
theorem Dk.get {α : Type} {A : Rep α} {F : Hp} : ∀ {kvs : List (Key × V)} {m : List (Str × α)} {i : Nat} {k : Key} {v : V}, Dk A F kvs m → kvs[i]? = some (k, v) → ∃ x y, m[i]? = some (x, y) ∧ k = Sum.inr x ∧ A F v y
  | p :: r, x :: s, 0, k, v, h, e => by
    simp at e
    subst e
    exact ⟨x.1, x.2, rfl, h.1, h.2.1⟩
  | p :: r, x :: s, i + 1, k, v, h, e => by
    obtain ⟨x', y, e1, e2⟩ := Dk.get (i := i) h.2.2 (by simpa using e)
    exact ⟨x', y, by simpa using e1, e2⟩
  | [], [], i, _, _, _, e => by simp at e
  | [], _ :: _, _, _, _, h, _ => h.elim
  | _ :: _, [], _, _, _, h, _ => h.elim
section
variable {α : Type}
def gtd (m : List (Str × α)) (k : Str) : Option α := (m.find? fun p => decide (p.1 = k)).map (·.2)
def ptd (m : List (Str × α)) (k : Str) (y : α) : List (Str × α) := if (m.any fun p => decide (p.1 = k)) = true then m.map (fun p => if p.1 = k then (p.1, y) else p) else m ++ [(k, y)]
theorem gtd_pos {p : Str × α} {r : List (Str × α)} {k : Str} (e : p.1 = k) : gtd (p :: r) k = some p.2 := by simp [gtd, List.find?_cons, e]
theorem gtd_neg {p : Str × α} {r : List (Str × α)} {k : Str} (e : ¬ p.1 = k) : gtd (p :: r) k = gtd r k := by simp [gtd, List.find?_cons, e]
theorem gtd_any (k : Str) : ∀ m : List (Str × α), (m.any fun p => decide (p.1 = k)) = (gtd m k).isSome
  | [] => rfl
  | p :: r => by
    rw [List.any_cons, gtd_any k r]
    by_cases e : p.1 = k
    · rw [gtd_pos e, decide_eq_true e]; rfl
    · rw [gtd_neg e, decide_eq_false e]; rfl
theorem Dk.val {A : Rep α} {F : Hp} (x : Str) : ∀ {kvs : List (Key × V)} {m : List (Str × α)}, Dk A F kvs m → (valV kvs (Sum.inr x : Key) = none ∧ gtd m x = none) ∨ ∃ v y, valV kvs (Sum.inr x : Key) = some v ∧ gtd m x = some y ∧ A F v y
  | [], [], _ => .inl ⟨rfl, rfl⟩
  | p :: r, y :: s, h => by
    by_cases e : y.1 = x
    · have e2 : p.1 = (Sum.inr x : Key) := by rw [h.1, e]
      exact .inr ⟨p.2, y.2, by rw [valV_pos e2], gtd_pos e, h.2.1⟩
    · have e2 : ¬ p.1 = (Sum.inr x : Key) := by rw [h.1]; exact fun z => e (Sum.inr.inj z)
      rw [valV_neg e2, gtd_neg e]
      exact Dk.val x h.2.2
  | [], _ :: _, h => h.elim
  | _ :: _, [], h => h.elim
theorem Dk.some {A : Rep α} {F : Hp} {x : Str} {y : α} {kvs : List (Key × V)} {m : List (Str × α)} (h : Dk A F kvs m) (e : gtd m x = some y) : ∃ v, valV kvs (Sum.inr x : Key) = some v ∧ A F v y := by
  rcases h.val x with ⟨_, h2⟩ | ⟨v, y', h1, h2, h3⟩
  · rw [e] at h2; cases h2
  · rw [e] at h2; cases h2; exact ⟨v, h1, h3⟩
theorem Dk.none {A : Rep α} {F : Hp} {x : Str} {kvs : List (Key × V)} {m : List (Str × α)} (h : Dk A F kvs m) (e : gtd m x = none) : valV kvs (Sum.inr x : Key) = none := by
  rcases h.val x with ⟨h1, _⟩ | ⟨v, y', h1, h2, h3⟩
  · exact h1
  · rw [e] at h2; cases h2
theorem Dk.any {A : Rep α} {F : Hp} (x : Str) {kvs : List (Key × V)} {m : List (Str × α)} (h : Dk A F kvs m) : (kvs.any fun kv => decide (kv.1 = (Sum.inr x : Key))) = (m.any fun p => decide (p.1 = x)) := by
  rw [valV_any, gtd_any]
  rcases h.val x with ⟨h1, h2⟩ | ⟨a, q, h1, h2, _⟩
  · rw [h1, h2]; rfl
  · rw [h1, h2]; rfl
theorem Dk.snoc {A : Rep α} {F : Hp} {x : Str} {y : α} {v : V} (hv : A F v y) : ∀ {kvs : List (Key × V)} {m : List (Str × α)}, Dk A F kvs m → Dk A F (kvs ++ [(Sum.inr x, v)]) (m ++ [(x, y)])
  | [], [], _ => ⟨rfl, hv, True.intro⟩
  | _ :: _, _ :: _, h => ⟨h.1, h.2.1, Dk.snoc hv h.2.2⟩
  | [], _ :: _, h => h.elim
  | _ :: _, [], h => h.elim
theorem Dk.repl {A : Rep α} {F : Hp} {x : Str} {y : α} {v : V} (hv : A F v y) : ∀ {kvs : List (Key × V)} {m : List (Str × α)}, Dk A F kvs m →
    Dk A F (kvs.map fun kv => if kv.1 = (Sum.inr x : Key) then (kv.1, v) else kv) (m.map fun p => if p.1 = x then (p.1, y) else p)
  | [], [], _ => True.intro
  | p :: r, z :: s, h => by
    have ih := Dk.repl (x := x) hv h.2.2
    rw [List.map_cons, List.map_cons]
    by_cases e : z.1 = x
    · have e2 : p.1 = (Sum.inr x : Key) := by rw [h.1, e]
      rw [if_pos e2, if_pos e]
      exact ⟨h.1, hv, ih⟩
    · have e2 : ¬ p.1 = (Sum.inr x : Key) := by rw [h.1]; exact fun z => e (Sum.inr.inj z)
      rw [if_neg e2, if_neg e]
      exact ⟨h.1, h.2.1, ih⟩
  | [], _ :: _, h => h.elim
  | _ :: _, [], h => h.elim
theorem Dk.put {A : Rep α} {F : Hp} {x : Str} {y : α} {v : V} (hv : A F v y) {kvs : List (Key × V)} {m : List (Str × α)} (h : Dk A F kvs m) : Dk A F (putK kvs (Sum.inr x : Key) v) (ptd m x y) := by
  unfold putK ptd
  rw [h.any x]
  split
  · exact h.repl hv
  · exact h.snoc hv
end
def bl (n : Nat) : Nat := if n = 0 then 0 else Nat.log2 n + 1
theorem bl_lt {n k : Nat} : n < 2 ^ k ↔ bl n ≤ k := by
  unfold bl
  by_cases h : n = 0
  · subst h; simp [Nat.two_pow_pos]
  · rw [if_neg h, ← Nat.log2_lt h]; omega
def bi (x : Int) : Nat := bl x.natAbs
def bs (q : Rat) : Nat := max (bl q.num.natAbs) (bl q.den)
theorem lt_bi {x : Int} {k : Nat} (h : bi x ≤ k) : x.natAbs < 2 ^ k := bl_lt.mpr h
theorem mulBB {x y : Int} (h1 : bi x ≤ 60000000) (h2 : bi y ≤ 60000000) : CMulX x y := .inr ⟨60000000, Nat.le_refl _, lt_bi h1, lt_bi h2⟩
theorem mulL2 {x y : Int} (h1 : -18446744073709551616 < x) (h2 : x < 18446744073709551616) : CMulX x y := .inl (.inl ⟨by omega, by omega⟩)
theorem mulR2 {x y : Int} (h1 : -18446744073709551616 < y) (h2 : y < 18446744073709551616) : CMulX x y := .inl (.inr ⟨by omega, by omega⟩)
theorem mulLB {x y : Int} (h1 : bi x ≤ 60) : CMulX x y := by
  have h := lt_bi h1
  refine .inl (.inl ⟨?_, ?_⟩) <;> omega
theorem mulRB {x y : Int} (h1 : bi y ≤ 60) : CMulX x y := by
  have h := lt_bi h1
  refine .inl (.inr ⟨?_, ?_⟩) <;> omega
theorem divB {x y : Int} (h0 : y ≠ 0) (h1 : bi y ≤ 8000) : CDivB x y := ⟨h0, lt_bi h1⟩
section
variable {σ : St} {H : Hp} {Q : VK} {D : Ends} {K : PySem.W.Frag}
theorem a_powC {i j z : Int} (e : i ^ j.toNat = z) (c : CPow i j) (h : Q (.int z) H) : L2.rI CPow (fun i j => .int (i ^ j.toNat)) (.int i) (.int j) H Q := ⟨i, j, rfl, rfl, c, by dsimp only; rw [e]; exact h⟩
theorem a_neS {x y : Str} (h : Q (.bl (!decide (x = y))) H) : rNe (.str x) (.str y) H Q := ⟨rfl, by
  have e : decide (V.str x = V.str y) = decide (x = y) := by
    by_cases q : x = y
    · subst q; simp
    · rw [decide_eq_false q, decide_eq_false (fun z => q (V.str.inj z))]
  rw [e]; exact h⟩
theorem fr_int (n : Int) : fr ((n : Int) : Rat) = [.int n, .int 1] := by
  unfold fr
  rw [Rat.num_intCast, Rat.den_intCast]
  rfl
theorem fr_lit {q : Rat} {t b : Int} (h1 : q.num = t) (h2 : (q.den : Int) = b) : fr q = [.int t, .int b] := by unfold fr; rw [h1, h2]
end
section
variable {K : PySem.W.Frag} {H : Hp}
end
section
open PySem.Spec PyProof.Rows
variable {X : Cx}
end
theorem Al.ix {α : Type} {A : Rep α} {F : Hp} {vs : List V} {xs : List α} (h : Al A F vs xs) {i : Int} (h0 : 0 ≤ i) (h1 : i < xs.length) : ∃ x v, xs[i.toNat]? = some x ∧ atI vs i = some v ∧ A F v x := by
  have hi : i.toNat < xs.length := by omega
  obtain ⟨v, e1, e2⟩ := h.at (i := i.toNat) (x := xs[i.toNat]) (by simp [hi])
  refine ⟨xs[i.toNat], v, by simp [hi], ?_, e2⟩
  have := atI_nat e1
  rw [Int.toNat_of_nonneg h0] at this
  exact this
def cutA {α : Type} (xs : List α) (lo hi : Option Int) : List α := (xs.drop (HT.sIx xs.length 0 lo)).take (HT.sIx xs.length xs.length hi - HT.sIx xs.length 0 lo)
theorem cutA_le {α : Type} (xs : List α) (lo hi : Option Int) : (cutA xs lo hi).length ≤ xs.length := by
  unfold cutA
  rw [List.length_take, List.length_drop]
  omega
theorem Al.drop {α : Type} {A : Rep α} {F : Hp} : ∀ (n : Nat) {vs : List V} {xs : List α}, Al A F vs xs → Al A F (vs.drop n) (xs.drop n)
  | 0, _, _, h => h
  | _ + 1, [], [], _ => True.intro
  | n + 1, _ :: _, _ :: _, h => Al.drop n h.2
  | _ + 1, [], _ :: _, h => h.elim
  | _ + 1, _ :: _, [], h => h.elim
theorem Al.take {α : Type} {A : Rep α} {F : Hp} : ∀ (n : Nat) {vs : List V} {xs : List α}, Al A F vs xs → Al A F (vs.take n) (xs.take n)
  | 0, _, _, _ => True.intro
  | _ + 1, [], [], _ => True.intro
  | n + 1, _ :: _, _ :: _, h => ⟨h.1, Al.take n h.2⟩
  | _ + 1, [], _ :: _, h => h.elim
  | _ + 1, _ :: _, [], h => h.elim
theorem Al.cut {α : Type} {A : Rep α} {F : Hp} {vs : List V} {xs : List α} (lo hi : Option Int) (h : Al A F vs xs) : Al A F (cutV vs lo hi) (cutA xs lo hi) := by
  unfold cutV cutA
  rw [h.length]
  exact (h.drop _).take _
end Vc
namespace Vc
open PySem L2 Sf
section
variable {X : Cx} {pins : List (Addr × Obj)} {σ : St} {F H : Hp} {s : Shared} {Au : Around}
theorem rel_fun : ∀ {x y : V} {u : Value}, RelV x u → RelV y u → x = y := by
  intro x y u h1 h2
  cases x <;> cases y <;> simp only [RelV] at h1 h2 <;> first
    | rfl
    | (subst h1; simp at h2; subst h2; rfl)
    | (subst h1; simp at h2; done)
    | (obtain ⟨t, rfl⟩ := h1; obtain ⟨t', e⟩ := h2; simp at e; rw [e.1])
    | (obtain ⟨t, rfl⟩ := h1; simp at h2; done)
    | (obtain ⟨t, rfl⟩ := h2; simp at h1; done)
theorem vals_fun : ∀ {xs ys : List V} {us : List Value}, Vals xs us → Vals ys us → xs = ys
  | [], [], _, _, _ => rfl
  | _ :: _, _ :: _, _, .cons h t, .cons h' t' => by rw [rel_fun h h', vals_fun t t']
  | [], _ :: _, _, h, h' => by cases h; cases h'
  | _ :: _, [], _, h, h' => by cases h'; cases h
theorem sqT_fun {a : Addr} {xs ys : List V} (I : Inv X pins σ H s) (h1 : SqT X.K H a xs) (h2 : SqT X.K H a ys) : xs = ys := by
  obtain ⟨us, r1, ⟨o1, g1, c1, n1, d1⟩, _⟩ := I.tuple h1
  obtain ⟨ws, r2, ⟨o2, g2, c2, n2, d2⟩, _⟩ := I.tuple h2
  rw [g1] at g2
  cases g2
  rw [d1] at d2
  injection d2 with e _
  have : us = ws := by simpa using e
  subst this
  exact vals_fun r1 r2
theorem sqL_fun {a : Addr} {xs ys : List V} (I : Inv X pins σ H s) (h1 : SqL X.K H a xs) (h2 : SqL X.K H a ys) : xs = ys := by
  obtain ⟨us, r1, p1, _⟩ := I.list h1
  obtain ⟨ws, r2, p2, _⟩ := I.list h2
  obtain ⟨o1, g1, c1, n1, d1⟩ := p1.isList
  obtain ⟨o2, g2, c2, n2, d2⟩ := p2.isList
  rw [g1] at g2
  cases g2
  rw [d1] at d2
  injection d2 with e _
  have : us = ws := by simpa using e
  subst this
  exact vals_fun r1 r2
theorem rc_tups {a b : Addr} {xs ys : List V} (I : Inv X pins σ H s) (h1 : SqT X.K H a xs) (h2 : SqT X.K H b ys) (hu : Au.units < cLine) (hl : xs.length = ys.length) (e : Nat → Bool)
    (he : ∀ (j : Nat) x y u v, xs[j]? = some x → ys[j]? = some y → RelV x u → RelV y v → SeqAt.EqAt Au.in1 s u v (e j)) : SeqAt.RcAt Au s (.ref a) (.ref b) ((List.range xs.length).all e) := by
  obtain ⟨us, r1, t1, _⟩ := I.tuple h1
  obtain ⟨ws, r2, t2, _⟩ := I.tuple h2
  have l1 := r1.length
  have l2 := r2.length
  have z := SeqAt.RcAt.tuples (A := Au) (e := e) t1 t2 hu (fun j h1 h2 => ?_)
  · have e0 : ((List.range (min us.toArray.size ws.toArray.size)).all e && us.toArray.size == ws.toArray.size) = (List.range xs.length).all e := by
      simp only [List.size_toArray]
      have e1 : min us.length ws.length = xs.length := by omega
      have e2 : (us.length == ws.length) = true := by simp; omega
      rw [e1, e2, Bool.and_true]
    rw [e0] at z
    exact z
  · simp only [List.size_toArray] at h1 h2
    obtain ⟨u, e1, ru⟩ := r1.get (i := j) (x := xs[j]'(by omega)) (by simp)
    obtain ⟨v, e2, rv⟩ := r2.get (i := j) (x := ys[j]'(by omega)) (by simp)
    obtain ⟨_, f1⟩ := List.getElem?_eq_some_iff.mp e1
    obtain ⟨_, f2⟩ := List.getElem?_eq_some_iff.mp e2
    have g1 : us.toArray[j]'(by simpa using h1) = u := by simpa using f1
    have g2 : ws.toArray[j]'(by simpa using h2) = v := by simpa using f2
    rw [g1, g2]
    exact he j _ _ u v (by simp) (by simp) ru rv
theorem rc_lsts {a b : Addr} {xs ys : List V} (I : Inv X pins σ H s) (h1 : SqL X.K H a xs) (h2 : SqL X.K H b ys) (hu : Au.units < cLine) (hl : xs.length = ys.length) (e : Nat → Bool)
    (he : ∀ (j : Nat) x y u v, xs[j]? = some x → ys[j]? = some y → RelV x u → RelV y v → SeqAt.EqAt Au.in1 s u v (e j)) : SeqAt.RcAt Au s (.ref a) (.ref b) ((List.range xs.length).all e) := by
  obtain ⟨us, r1, t1, _⟩ := I.list h1
  obtain ⟨ws, r2, t2, _⟩ := I.list h2
  have l1 := r1.length
  have l2 := r2.length
  have z := SeqAt.RcAt.lists (A := Au) (e := e) t1.isList t2.isList (by simp; omega) hu (fun j h1 h2 => ?_)
  · have e0 : (List.range us.toArray.size).all e = (List.range xs.length).all e := by
      simp only [List.size_toArray]
      rw [← l1]
    rw [e0] at z
    exact z
  · simp only [List.size_toArray] at h1 h2
    obtain ⟨u, e1, ru⟩ := r1.get (i := j) (x := xs[j]'(by omega)) (by simp)
    obtain ⟨v, e2, rv⟩ := r2.get (i := j) (x := ys[j]'(by omega)) (by simp)
    obtain ⟨_, f1⟩ := List.getElem?_eq_some_iff.mp e1
    obtain ⟨_, f2⟩ := List.getElem?_eq_some_iff.mp e2
    have g1 : us.toArray[j]'(by simpa using h1) = u := by simpa using f1
    have g2 : ws.toArray[j]'(by simpa using h2) = v := by simpa using f2
    rw [g1, g2]
    exact he j _ _ u v (by simp) (by simp) ru rv
end
class Qf {α : Type} [DecidableEq α] (K : PySem.W.Frag) (A : Rep α) (dep : outParam Nat) : Prop where
  fn : ∀ {X : Cx} {pins : List (Addr × Obj)} {σ : St} {F H : Hp} {s : Shared} {v : V} {x y : α}, X.K = K → Inv X pins σ H s → Same F H → A F v x → A F v y → x = y
  qf : ∀ {X : Cx} {pins : List (Addr × Obj)} {σ : St} {F H : Hp} {s : Shared} {Au : Around} {v w : V} {x y : α} {u u' : Value}, X.K = K → Inv X pins σ H s → Same F H → A F v x → A F w y → RelV v u → RelV w u' → Au.units + dep < cLine → SeqAt.EqAt Au s u u' (decide (x = y))
class Qr {α : Type} [DecidableEq α] (K : PySem.W.Frag) (A : Rep α) (dep : outParam Nat) : Prop where
  fn : ∀ {X : Cx} {pins : List (Addr × Obj)} {σ : St} {F H : Hp} {s : Shared} {v : V} {x y : α}, X.K = K → Inv X pins σ H s → Same F H → A F v x → A F v y → x = y
  rf : ∀ {F : Hp} {v : V} {x : α}, A F v x → ∃ a, v = .ref a
  rc : ∀ {X : Cx} {pins : List (Addr × Obj)} {σ : St} {F H : Hp} {s : Shared} {Au : Around} {a b : Addr} {x y : α}, X.K = K → Inv X pins σ H s → Same F H → A F (.ref a) x → A F (.ref b) y → Au.units + dep < cLine → SeqAt.RcAt Au s (.ref a) (.ref b) (decide (x = y))
instance (priority := low) {α : Type} [DecidableEq α] {K : PySem.W.Frag} {A : Rep α} {d : Nat} [q : Qr K A d] : Qf K A d where
  fn := q.fn
  qf := fun {X pins σ F H s Au v w x y u u'} hK I wd h1 h2 r1 r2 hu => by
    obtain ⟨a, rfl⟩ := q.rf h1
    obtain ⟨b, rfl⟩ := q.rf h2
    cases r1
    cases r2
    by_cases e : a = b
    · subst e
      rw [decide_eq_true (q.fn hK I wd h1 h2)]
      exact SeqAt.EqAt.same _
    · exact SeqAt.EqAt.of_refs e (q.rc hK I wd h1 h2 hu)
theorem qf_flat {α : Type} [DecidableEq α] {K : PySem.W.Frag} {A : Rep α} (f : α → V) (hf : ∀ F v x, A F v x ↔ v = f x) (fl : ∀ x, flatV (f x) = true) (he : ∀ x y, eqV (f x) (f y) = decide (x = y)) (hi : ∀ x y, f x = f y → x = y) : Qf K A 0 where
  fn := fun {X pins σ F H s v x y} _ _ _ h1 h2 => hi x y (((hf F v x).mp h1).symm.trans ((hf F v y).mp h2))
  qf := fun {X pins σ F H s Au v w x y u u'} _ _ _ h1 h2 r1 r2 _ => by
    have e1 := (hf F v x).mp h1
    have e2 := (hf F w y).mp h2
    subst e1 e2
    rw [← he x y]
    exact eqAt_V r1 r2 (fl x) (fl y)
instance {K : PySem.W.Frag} : Qf K rI 0 := qf_flat V.int (fun _ _ _ => Iff.rfl) (fun _ => rfl) (fun x y => by show (x == y) = _; rw [Bool.beq_eq_decide_eq]) (fun _ _ h => V.int.inj h)
instance {K : PySem.W.Frag} : Qf K rS 0 := qf_flat V.str (fun _ _ _ => Iff.rfl) (fun _ => rfl) (fun x y => by show (x == y) = _; rw [Bool.beq_eq_decide_eq]) (fun _ _ h => V.str.inj h)
instance {K : PySem.W.Frag} : Qf K rB 0 := qf_flat V.bl (fun _ _ _ => Iff.rfl) (fun _ => rfl) (fun x y => by show (x == y) = _; rw [Bool.beq_eq_decide_eq]) (fun _ _ h => V.bl.inj h)
theorem rat_dec (p q : Rat) : decide (p = q) = (decide (p.num = q.num) && decide ((p.den : Int) = (q.den : Int))) := by
  by_cases h : p = q
  · subst h; simp
  · rw [decide_eq_false h]
    by_cases h1 : p.num = q.num
    · have h2 : ¬ ((p.den : Int) = (q.den : Int)) := fun z => h (Rat.ext h1 (by omega))
      rw [decide_eq_false h2, Bool.and_false]
    · rw [decide_eq_false h1, Bool.false_and]
theorem int_eqAt {Au : Around} {s : Shared} {i j : Int} {u v : Value} (r1 : RelV (.int i) u) (r2 : RelV (.int j) v) : SeqAt.EqAt Au s u v (decide (i = j)) := by
  have z := eqAt_V (A := Au) (s := s) r1 r2 rfl rfl
  have e : eqV (.int i) (.int j) = decide (i = j) := by show (i == j) = _; rw [Bool.beq_eq_decide_eq]
  rw [e] at z
  exact z
instance {K : PySem.W.Frag} : Qr K (rFr K) 1 where
  fn := fun {X pins σ F H s v x y} hK I wd h1 h2 => by
    subst hK
    obtain ⟨a, rfl, g1⟩ := h1
    obtain ⟨b, e, g2⟩ := h2
    cases e
    have z := sqT_fun I (wd.tup g1) (wd.tup g2)
    unfold fr at z
    injection z with z1 z2
    injection z2 with z2 _
    have n1 := V.int.inj z1
    have n2 := V.int.inj z2
    exact Rat.ext n1 (by omega)
  rf := fun ⟨a, h, _⟩ => ⟨a, h⟩
  rc := fun {X pins σ F H s Au a b x y} hK I wd h1 h2 hu => by
    subst hK
    obtain ⟨a', e1, g1⟩ := h1
    obtain ⟨b', e2, g2⟩ := h2
    cases e1
    cases e2
    have z := rc_tups (Au := Au) I (wd.tup g1) (wd.tup g2) (by omega) rfl (fun j => if j = 0 then decide (x.num = y.num) else decide ((x.den : Int) = (y.den : Int))) (fun j p q u v h1 h2 r1 r2 => by
      match j, h1, h2 with
      | 0, h1, h2 => cases h1; cases h2; exact int_eqAt r1 r2
      | 1, h1, h2 => cases h1; cases h2; exact int_eqAt r1 r2
      | j + 2, h1, h2 => cases h1)
    rw [rat_dec]
    have e : (List.range (fr x).length).all (fun j => if j = 0 then decide (x.num = y.num) else decide ((x.den : Int) = (y.den : Int))) = (decide (x.num = y.num) && decide ((x.den : Int) = (y.den : Int))) := by
      show (List.range 2).all _ = _
      simp [List.range_succ]
    rw [e] at z
    exact z
instance {K : PySem.W.Frag} {α β : Type} [DecidableEq α] [DecidableEq β] {A : Rep α} {B : Rep β} {d e : Nat} [qa : Qf K A d] [qb : Qf K B e] : Qr K (r2 K A B) (d + e + 1) where
  fn := fun {X pins σ F H s v x y} hK I wd h1 h2 => by
    subst hK
    obtain ⟨a, v1, v2, rfl, g, k1, k2⟩ := h1
    obtain ⟨b, w1, w2, e, g', l1, l2⟩ := h2
    cases e
    have z := sqT_fun I (wd.tup g) (wd.tup g')
    injection z with z1 z2
    injection z2 with z2 _
    subst z1 z2
    exact Prod.ext (qa.fn rfl I wd k1 l1) (qb.fn rfl I wd k2 l2)
  rf := fun ⟨a, _, _, h, _⟩ => ⟨a, h⟩
  rc := fun {X pins σ F H s Au a b x y} hK I wd h1 h2 hu => by
    subst hK
    obtain ⟨a', v1, v2, e1, g1, k1, k2⟩ := h1
    obtain ⟨b', w1, w2, e2, g2, l1, l2⟩ := h2
    cases e1
    cases e2
    have z := rc_tups (Au := Au) I (wd.tup g1) (wd.tup g2) (by omega) rfl (fun j => if j = 0 then decide (x.1 = y.1) else decide (x.2 = y.2)) (fun j p q u v h1 h2 r1 r2 => by
      match j, h1, h2 with
      | 0, h1, h2 => cases h1; cases h2; exact qa.qf rfl I wd k1 l1 r1 r2 (by rw [in1_units]; omega)
      | 1, h1, h2 => cases h1; cases h2; exact qb.qf rfl I wd k2 l2 r1 r2 (by rw [in1_units]; omega)
      | j + 2, h1, h2 => cases h1)
    have e0 : decide (x = y) = (decide (x.1 = y.1) && decide (x.2 = y.2)) := by
      rw [← Bool.decide_and]
      congr 1
      exact propext Prod.ext_iff
    have e : (List.range [v1, v2].length).all (fun j => if j = 0 then decide (x.1 = y.1) else decide (x.2 = y.2)) = (decide (x.1 = y.1) && decide (x.2 = y.2)) := by
      show (List.range 2).all _ = _
      simp [List.range_succ]
    rw [e] at z
    rw [e0]
    exact z
theorem al_fun {K : PySem.W.Frag} {α : Type} [DecidableEq α] {A : Rep α} {d : Nat} [qa : Qf K A d] {X : Cx} {pins : List (Addr × Obj)} {σ : St} {F H : Hp} {s : Shared} (hK : X.K = K) (I : Inv X pins σ H s) (wd : Same F H) :
    ∀ {vs : List V} {xs ys : List α}, Al A F vs xs → Al A F vs ys → xs = ys
  | [], [], [], _, _ => rfl
  | _ :: _, _ :: _, _ :: _, h, g => by rw [qa.fn hK I wd h.1 g.1, al_fun hK I wd h.2 g.2]
  | [], _ :: _, _, h, _ => h.elim
  | [], [], _ :: _, _, h => h.elim
  | _ :: _, [], _, h, _ => h.elim
  | _ :: _, _ :: _, [], _, h => h.elim
theorem all_dec {α : Type} [DecidableEq α] : ∀ (xs ys : List α), xs.length = ys.length → (List.range xs.length).all (fun j => decide (xs[j]? = ys[j]?)) = decide (xs = ys) := by
  intro xs ys h
  by_cases e : xs = ys
  · subst e; simp
  · rw [decide_eq_false e, Bool.eq_false_iff]
    intro z
    apply e
    rw [List.all_eq_true] at z
    apply List.ext_getElem? 
    intro j
    by_cases hj : j < xs.length
    · exact of_decide_eq_true (z j (List.mem_range.mpr hj))
    · rw [List.getElem?_eq_none (by omega), List.getElem?_eq_none (by omega)]
instance {K : PySem.W.Frag} {α : Type} [DecidableEq α] {A : Rep α} {d : Nat} [qa : Qf K A d] : Qr K (rL K A) (d + 1) where
  fn := fun {X pins σ F H s v x y} hK I wd h1 h2 => by
    obtain ⟨a, vs, rfl, g, k1⟩ := h1
    obtain ⟨b, ws, e, g', l1⟩ := h2
    cases e
    subst hK
    have z := sqL_fun I (wd.seq g) (wd.seq g')
    subst z
    exact al_fun rfl I wd k1 l1
  rf := fun ⟨a, _, h, _⟩ => ⟨a, h⟩
  rc := fun {X pins σ F H s Au a b x y} hK I wd h1 h2 hu => by
    subst hK
    obtain ⟨a', vs, e1, g1, k1⟩ := h1
    obtain ⟨b', ws, e2, g2, l1⟩ := h2
    cases e1
    cases e2
    have n1 := k1.length
    have n2 := l1.length
    by_cases hl : x.length = y.length
    · have z := rc_lsts (Au := Au) I (wd.seq g1) (wd.seq g2) (by omega) (by omega) (fun j => decide (x[j]? = y[j]?)) (fun j p q u v h1 h2 r1 r2 => by
        obtain ⟨m1, e1, f1⟩ := k1.get h1
        obtain ⟨m2, e2, f2⟩ := l1.get h2
        have e0 : decide (x[j]? = y[j]?) = decide (m1 = m2) := by
          rw [e1, e2]
          congr 1
          exact propext ⟨fun h => Option.some.inj h, fun h => by rw [h]⟩
        rw [e0]
        exact qa.qf rfl I wd f1 f2 r1 r2 (by rw [in1_units]; omega))
      rw [n1, all_dec x y hl] at z
      exact z
    · rw [decide_eq_false (fun z => hl (by rw [z]))]
      obtain ⟨us, r1, t1, _⟩ := I.list (wd.seq g1)
      obtain ⟨zs, r2, t2, _⟩ := I.list (wd.seq g2)
      have m1 := r1.length
      have m2 := r2.length
      exact SeqAt.RcAt.lists_lengths t1.isList t2.isList (by simp; omega) (by omega)
section
variable {X : Cx}
def rQ {α : Type} [DecidableEq α] (A : Rep α) : R2 := fun v w H Q => ∃ F x y, Same F H ∧ A F v x ∧ A F w y ∧ Q (.bl (decide (x = y))) H
theorem op_eqQ {α : Type} [DecidableEq α] {K : PySem.W.Frag} {A : Rep α} {d : Nat} [q : Qr K A d] (hK : X.K = K) (hu : X.A.units + 64 < cLine) (hd : d ≤ 60 := by decide) : OpR X (compareOp .Eq) (rQ A) := by
  intro pins s σ H x y v u Q I rx ry h
  obtain ⟨F, p, r, wd, h1, h2, hq⟩ := h
  obtain ⟨a, rfl⟩ := q.rf h1
  obtain ⟨b, rfl⟩ := q.rf h2
  cases rx
  cases ry
  exact q.rc hK I wd h1 h2 (by omega) X.prog X.w X.xe _ ⟨.bl _, H, I, rfl, hq⟩
end
theorem eqT_up {K : PySem.W.Frag} {H : Hp} : ∀ {n : Nat} {x y : V}, EqT K H n x y → EqT K H (n + 1) x y
  | 0, _, _, h => .inl h
  | n + 1, _, _, .inl h => .inl h
  | n + 1, _, _, .inr ⟨p, q, xs, ys, h1, h2, h3, h4⟩ => .inr ⟨p, q, xs, ys, h1, h2, h3, by
    have gen : ∀ {xs ys : List V}, All2 (EqT K H n) xs ys → All2 (EqT K H (n + 1)) xs ys := by
      intro xs
      induction xs with
      | nil => intro ys h; cases ys with
        | nil => exact True.intro
        | cons _ _ => exact h.elim
      | cons x xs ih => intro ys h; cases ys with
        | nil => exact h.elim
        | cons y ys => exact ⟨eqT_up h.1, ih h.2⟩
    exact gen h4⟩
theorem eqT_mono {K : PySem.W.Frag} {H : Hp} {n m : Nat} {x y : V} (h : EqT K H n x y) (k : n ≤ m) : EqT K H m x y := by
  induction k with
  | refl => exact h
  | step _ ih => exact eqT_up ih
theorem deqT_up {K : PySem.W.Frag} {H : Hp} {n : Nat} {ka kb : List (Key × V)} (h : DEqT K H n ka kb) : DEqT K H (n + 1) ka kb := ⟨h.1, fun k v m => by obtain ⟨y, e1, e2⟩ := h.2 k v m; exact ⟨y, e1, eqT_up e2⟩⟩
theorem eqN_up {K : PySem.W.Frag} {H : Hp} : ∀ {n : Nat} {x y : V}, EqN K H n x y → EqN K H (n + 1) x y
  | 0, _, _, h => .inl h
  | n + 1, _, _, .inl h => .inl h
  | n + 1, _, _, .inr ⟨p, q, h1, h2, .inr ⟨ka, kb, g1, g2, g3⟩⟩ => .inr ⟨p, q, h1, h2, .inr ⟨ka, kb, g1, g2, deqT_up g3⟩⟩
  | n + 1, _, _, .inr ⟨p, q, h1, h2, .inl ⟨xs, ys, h3, h4⟩⟩ => .inr ⟨p, q, h1, h2, .inl ⟨xs, ys, h3, by
    have gen : ∀ {xs ys : List V}, All2 (EqN K H n) xs ys → All2 (EqN K H (n + 1)) xs ys := by
      intro xs
      induction xs with
      | nil => intro ys h; cases ys with
        | nil => exact True.intro
        | cons _ _ => exact h.elim
      | cons x xs ih => intro ys h; cases ys with
        | nil => exact h.elim
        | cons y ys => exact ⟨eqN_up h.1, ih h.2⟩
    exact gen h4⟩⟩
theorem eqN_mono {K : PySem.W.Frag} {H : Hp} {n m : Nat} {x y : V} (h : EqN K H n x y) (k : n ≤ m) : EqN K H m x y := by
  induction k with
  | refl => exact h
  | step _ ih => exact eqN_up ih
theorem eqT_toN {K : PySem.W.Frag} {H : Hp} : ∀ {n : Nat} {x y : V}, EqT K H n x y → EqN K H n x y
  | 0, _, _, h => h
  | n + 1, _, _, .inl h => .inl h
  | n + 1, _, _, .inr ⟨p, q, xs, ys, h1, h2, h3, h4⟩ => .inr ⟨p, q, h1, h2, .inl ⟨xs, ys, h3, by
    have gen : ∀ {xs ys : List V}, All2 (EqT K H n) xs ys → All2 (EqN K H n) xs ys := by
      intro xs
      induction xs with
      | nil => intro ys h; cases ys with
        | nil => exact True.intro
        | cons _ _ => exact h.elim
      | cons x xs ih => intro ys h; cases ys with
        | nil => exact h.elim
        | cons y ys => exact ⟨eqT_toN h.1, ih h.2⟩
    exact gen h4⟩⟩
class Et {α : Type} (K : PySem.W.Frag) (A : Rep α) (n : outParam Nat) : Prop where
  et : ∀ {F H : Hp} {v w : V} {x : α}, Same F H → A F v x → A F w x → EqT K H n v w
instance {K : PySem.W.Frag} : Et K rI 0 := ⟨fun _ h g => by cases h; cases g; exact ⟨rfl, rfl⟩⟩
instance {K : PySem.W.Frag} : Et K rS 0 := ⟨fun _ h g => by cases h; cases g; exact ⟨rfl, rfl⟩⟩
instance {K : PySem.W.Frag} : Et K rB 0 := ⟨fun _ h g => by cases h; cases g; exact ⟨rfl, rfl⟩⟩
instance {K : PySem.W.Frag} : Et K rN 0 := ⟨fun _ h g => by cases h; cases g; exact ⟨rfl, rfl⟩⟩
instance {K : PySem.W.Frag} : Et K (rFr K) 1 := ⟨fun wd ⟨a, h1, h2⟩ ⟨b, g1, g2⟩ => .inr ⟨a, b, _, _, h1, g1, .inl ⟨wd.tup h2, wd.tup g2⟩, ⟨rfl, rfl⟩, ⟨rfl, rfl⟩, True.intro⟩⟩
instance {K : PySem.W.Frag} {α β : Type} {A : Rep α} {B : Rep β} {n m : Nat} [Et K A n] [Et K B m] : Et K (r2 K A B) (n + m + 1) :=
  ⟨fun wd ⟨a, v1, v2, h1, h2, h3, h4⟩ ⟨b, w1, w2, g1, g2, g3, g4⟩ => .inr ⟨a, b, _, _, h1, g1, .inl ⟨wd.tup h2, wd.tup g2⟩, eqT_mono (Et.et wd h3 g3) (by omega), eqT_mono (Et.et wd h4 g4) (by omega), True.intro⟩⟩
theorem al_et {K : PySem.W.Frag} {α : Type} {A : Rep α} {n : Nat} [Et K A n] {F H : Hp} (wd : Same F H) : ∀ {vs ws : List V} {xs : List α}, Al A F vs xs → Al A F ws xs → All2 (EqT K H n) vs ws
  | [], [], [], _, _ => True.intro
  | _ :: _, _ :: _, _ :: _, h, g => ⟨Et.et wd h.1 g.1, al_et wd h.2 g.2⟩
  | [], _ :: _, [], _, g => g.elim
  | _ :: _, _, [], h, _ => h.elim
  | [], _, _ :: _, h, _ => h.elim
  | _ :: _, [], _ :: _, _, g => g.elim
instance {K : PySem.W.Frag} {α : Type} {A : Rep α} {n : Nat} [Et K A n] : Et K (rL K A) (n + 1) :=
  ⟨fun wd ⟨a, vs, h1, h2, h3⟩ ⟨b, ws, g1, g2, g3⟩ => .inr ⟨a, b, _, _, h1, g1, .inr ⟨wd.seq h2, wd.seq g2⟩, al_et wd h3 g3⟩⟩
class En {α : Type} (K : PySem.W.Frag) (A : Rep α) (n : outParam Nat) : Prop where
  en : ∀ {F H : Hp} {v w : V} {x : α}, Same F H → A F v x → A F w x → EqN K H n v w
instance (priority := low) {K : PySem.W.Frag} {α : Type} {A : Rep α} {n : Nat} [Et K A n] : En K A n := ⟨fun wd h g => eqT_toN (Et.et wd h g)⟩
theorem dk_deq {K : PySem.W.Frag} {α : Type} {A : Rep α} {n : Nat} [Et K A n] {F H : Hp} {ka kb : List (Key × V)} {m m' : List (Str × α)} (wd : Same F H) (h : Dk A F ka m) (g : Dk A F kb m') (hn : (m.map (·.1)).Nodup) (hl : m.length = m'.length) (hg : ∀ k y, gtd m k = some y → gtd m' k = some y) : DEqT K H n ka kb := by
  refine ⟨by rw [h.length, g.length, hl], fun k v hm => ?_⟩
  obtain ⟨i, hi⟩ := List.getElem?_of_mem hm
  obtain ⟨x, q, e1, rfl, ha⟩ := h.get hi
  have hgt : gtd m x = some q := by
    have mem := List.mem_of_getElem? e1
    clear h hi hm hl hg e1
    induction m with
    | nil => cases mem
    | cons p r ih =>
      rw [List.map_cons, List.nodup_cons] at hn
      rcases List.mem_cons.mp mem with e | e
      · subst e; exact gtd_pos rfl
      · have ne : ¬ p.1 = x := fun z => hn.1 (by rw [z]; exact List.mem_map.mpr ⟨_, e, rfl⟩)
        rw [gtd_neg ne]; exact ih hn.2 e
  obtain ⟨w, v1, v3⟩ := g.some (hg x q hgt)
  exact ⟨w, v1, Et.et wd ha v3⟩
instance {K : PySem.W.Frag} {α : Type} {A : Rep α} {n : Nat} [Et K A n] : En K (rD A) (n + 1) :=
  ⟨fun wd ⟨a, ka, h1, h2, h3, h4⟩ ⟨b, kb, g1, g2, g3, g4⟩ => .inr ⟨a, b, h1, g1, .inr ⟨ka, kb, wd.rd h2, wd.rd g2, dk_deq wd h3 g3 h4 rfl fun _ _ e => e⟩⟩⟩
instance (priority := low) {K : PySem.W.Frag} {α β : Type} {A : Rep α} {B : Rep β} {n m : Nat} [En K A n] [En K B m] : En K (r2 K A B) (n + m + 1) :=
  ⟨fun wd ⟨a, v1, v2, h1, h2, h3, h4⟩ ⟨b, w1, w2, g1, g2, g3, g4⟩ => .inr ⟨a, b, h1, g1, .inl ⟨_, _, .inl ⟨wd.tup h2, wd.tup g2⟩, eqN_mono (En.en wd h3 g3) (by omega), eqN_mono (En.en wd h4 g4) (by omega), True.intro⟩⟩⟩
instance {K : PySem.W.Frag} {α β γ δ ε : Type} {A : Rep α} {B : Rep β} {C : Rep γ} {D : Rep δ} {E : Rep ε} {n m k l j : Nat} [En K A n] [En K B m] [En K C k] [En K D l] [En K E j] : En K (r5 K A B C D E) (n + m + k + l + j + 1) :=
  ⟨fun wd ⟨a, v1, v2, v3, v4, v5, h1, h2, h3, h4, h5, h6, h7⟩ ⟨b, w1, w2, w3, w4, w5, g1, g2, g3, g4, g5, g6, g7⟩ =>
    .inr ⟨a, b, h1, g1, .inl ⟨_, _, .inl ⟨wd.tup h2, wd.tup g2⟩, eqN_mono (En.en wd h3 g3) (by omega), eqN_mono (En.en wd h4 g4) (by omega), eqN_mono (En.en wd h5 g5) (by omega), eqN_mono (En.en wd h6 g6) (by omega), eqN_mono (En.en wd h7 g7) (by omega), True.intro⟩⟩⟩
theorem al_en {K : PySem.W.Frag} {α : Type} {A : Rep α} {n : Nat} [En K A n] {F H : Hp} (wd : Same F H) : ∀ {vs ws : List V} {xs : List α}, Al A F vs xs → Al A F ws xs → All2 (EqN K H n) vs ws
  | [], [], [], _, _ => True.intro
  | _ :: _, _ :: _, _ :: _, h, g => ⟨En.en wd h.1 g.1, al_en wd h.2 g.2⟩
  | [], _ :: _, [], _, g => g.elim
  | _ :: _, _, [], h, _ => h.elim
  | [], _, _ :: _, h, _ => h.elim
  | _ :: _, [], _ :: _, _, g => g.elim
instance (priority := low) {K : PySem.W.Frag} {α : Type} {A : Rep α} {n : Nat} [En K A n] : En K (rL K A) (n + 1) :=
  ⟨fun wd ⟨a, vs, h1, h2, h3⟩ ⟨b, ws, g1, g2, g3⟩ => .inr ⟨a, b, h1, g1, .inl ⟨_, _, .inr ⟨wd.seq h2, wd.seq g2⟩, al_en wd h3 g3⟩⟩⟩
section
variable {K : PySem.W.Frag} {F H : Hp} {Q : VK}
end
end Vc
namespace L2
open PySem PySem.Spec PyProof.Rows
def clStep (env : Env) (cs : List (Str × Addr)) (y : Str × NameKind) : List (Str × Addr) := if (y.2 == .free) = true then (match env.cells.lookup y.1 with | some a => (y.1, a) :: cs | none => cs) else cs
def clOf (scope : Scope) (env : Env) : List (Str × Addr) := scope.names.foldl (clStep env) []
def clAll (scope : Scope) (env : Env) : Bool := scope.names.all fun y => !(y.2 == .free) || (env.cells.lookup y.1).isSome
theorem closureFor_clOf {scope : Scope} {env : Env} (h : clAll scope env = true) : closureFor scope env = pure (clOf scope env) := by
  unfold closureFor clOf
  unfold clAll at h
  have gen : ∀ (l : List (Str × NameKind)) (cs : List (Str × Addr)), (l.all fun y => !(y.2 == .free) || (env.cells.lookup y.1).isSome) = true →
      (forIn l cs fun x r => match x with | (name, kind) => if (kind == NameKind.free) = true then (do let a ← cellOf env name; pure (ForInStep.yield ((name, a) :: r))) else pure (ForInStep.yield r) : Sem (List (Str × Addr))) = pure (l.foldl (clStep env) cs) := by
    intro l
    induction l with
    | nil => intro cs _; rfl
    | cons y r ih =>
      intro cs ha
      rw [List.all_cons, Bool.and_eq_true] at ha
      obtain ⟨n, k⟩ := y
      rw [List.forIn_cons, List.foldl_cons]
      by_cases hk : (k == NameKind.free) = true
      · have h1 := ha.1
        simp only [hk, Bool.not_true, Bool.false_or] at h1
        obtain ⟨a, e⟩ := Option.isSome_iff_exists.mp h1
        have e1 : clStep env cs (n, k) = (n, a) :: cs := by unfold clStep; simp [hk, e]
        have e2 : cellOf env n = pure a := by unfold cellOf; rw [e]
        rw [e1, ← ih _ ha.2]
        simp only [hk, if_true, e2, pure_bind]
      · have e1 : clStep env cs (n, k) = cs := by unfold clStep; simp [hk]
        rw [e1, ← ih _ ha.2]
        simp only [hk, if_false, pure_bind, Bool.false_eq_true]
  have := gen scope.names [] h
  simp only [this, pure_bind]
theorem clOf_sub {scope : Scope} {env : Env} {x : Str} {c : Addr} (h : (clOf scope env).lookup x = some c) : env.cells.lookup x = some c := by
  unfold clOf at h
  have gen : ∀ (l : List (Str × NameKind)) (cs : List (Str × Addr)), (cs.lookup x = some c → env.cells.lookup x = some c) → (l.foldl (clStep env) cs).lookup x = some c → env.cells.lookup x = some c := by
    intro l
    induction l with
    | nil => intro cs f g; exact f g
    | cons y r ih =>
      intro cs f g
      rw [List.foldl_cons] at g
      refine ih _ (fun z => ?_) g
      unfold clStep at z
      split at z
      · split at z
        · rename_i a e
          rw [List.lookup_cons] at z
          by_cases hx : (x == y.1) = true
          · rw [hx] at z
            have := eq_of_beq hx
            subst this
            simp at z
            rw [← z]; exact e
          · simp only [hx] at z
            exact f z
        · exact f z
      · exact f z
  exact gen scope.names [] (fun z => by cases z) h
theorem clOf_has {scope : Scope} {env : Env} {x : Str} (ha : clAll scope env = true) (h : scope.names.lookup x = some .free) : ∃ c, (clOf scope env).lookup x = some c := by
  unfold clOf
  unfold clAll at ha
  have keep : ∀ (l : List (Str × NameKind)) (cs : List (Str × Addr)), (∃ c, cs.lookup x = some c) → ∃ c, (l.foldl (clStep env) cs).lookup x = some c := by
    intro l
    induction l with
    | nil => intro cs f; exact f
    | cons y r ih =>
      intro cs f
      rw [List.foldl_cons]
      refine ih _ ?_
      unfold clStep
      split
      · split
        · rw [List.lookup_cons]
          by_cases hx : (x == y.1) = true
          · rw [hx]; exact ⟨_, rfl⟩
          · simp only [hx]; exact f
        · exact f
      · exact f
  have gen : ∀ (l : List (Str × NameKind)) (cs : List (Str × Addr)), (l.all fun y => !(y.2 == .free) || (env.cells.lookup y.1).isSome) = true → l.lookup x = some .free → ∃ c, (l.foldl (clStep env) cs).lookup x = some c := by
    intro l
    induction l with
    | nil => intro cs _ f; cases f
    | cons y r ih =>
      intro cs ha f
      rw [List.all_cons, Bool.and_eq_true] at ha
      obtain ⟨n, k⟩ := y
      rw [List.foldl_cons]
      rw [List.lookup_cons] at f
      by_cases hx : (x == n) = true
      · rw [hx] at f
        have := eq_of_beq hx
        subst this
        simp at f
        subst f
        refine keep r _ ?_
        have h1 : (env.cells.lookup x).isSome = true := ha.1
        obtain ⟨a, e⟩ := Option.isSome_iff_exists.mp h1
        refine ⟨a, ?_⟩
        unfold clStep
        rw [if_pos (show ((NameKind.free) == NameKind.free) = true from rfl)]
        dsimp only
        rw [e]
        dsimp only
        rw [List.lookup_cons, hx]
      · simp only [hx] at f
        exact ih _ ha.2 f
  exact gen scope.names [] ha h
theorem relabel_inv {scope : Scope} {env : Env} {x : Str} (hcell : ∀ y ∈ scope.names, y.2 ≠ .cell) (h : (relabel scope env).names.lookup x = some .cell ∨ (relabel scope env).names.lookup x = some .free) : scope.names.lookup x = some .free := by
  unfold relabel at h
  dsimp only at h
  have gen : ∀ l : List (Str × NameKind), (∀ y ∈ l, y.2 ≠ .cell) → ((l.map fun (n, k) => if (k == NameKind.free && env.scope.kind == .function && env.kindOf n == some .cell) then (n, NameKind.cell) else (n, k)).lookup x = some .cell ∨ (l.map fun (n, k) => if (k == NameKind.free && env.scope.kind == .function && env.kindOf n == some .cell) then (n, NameKind.cell) else (n, k)).lookup x = some .free) → l.lookup x = some .free := by
    intro l
    induction l with
    | nil => intro _ f; rcases f with f | f <;> cases f
    | cons y r ih =>
      intro hc f
      obtain ⟨n, k⟩ := y
      have hk : k ≠ .cell := hc (n, k) (List.mem_cons_self ..)
      rw [List.map_cons] at f
      rw [List.lookup_cons]
      by_cases hx : (x == n) = true
      · rw [hx]
        dsimp only at f ⊢
        by_cases hf : (k == NameKind.free && env.scope.kind == .function && env.kindOf n == some .cell) = true
        · have : k = .free := by
            simp only [Bool.and_eq_true] at hf
            exact eq_of_beq hf.1.1
          rw [this]
        · rw [if_neg hf, List.lookup_cons, hx] at f
          simp only [Option.some.injEq] at f
          rcases f with f | f
          · exact absurd f hk
          · rw [f]
      · simp only [hx]
        refine ih (fun y hy => hc y (List.mem_cons_of_mem _ hy)) ?_
        dsimp only at f
        split at f <;> (rw [List.lookup_cons] at f; simp only [hx] at f; exact f)
  exact gen scope.names hcell h
inductive Wk : St → St → Prop
  | nil : Wk [] []
  | non {a b : St} {x : Option V} : Wk a b → Wk (none :: a) (x :: b)
  | som {a b : St} {v : V} : Wk a b → Wk (some v :: a) (some v :: b)
theorem Wk.length {a b : St} (h : Wk a b) : b.length = a.length := by
  induction h with
  | nil => rfl
  | non _ ih => simp [ih]
  | som _ ih => simp [ih]
theorem Wk.get {a b : St} (h : Wk a b) : ∀ {i : Nat} {v : V}, a[i]? = some (some v) → b[i]? = some (some v) := by
  induction h with
  | nil => intro i v e; simp at e
  | non _ ih =>
    intro i v e
    cases i with
    | zero => simp at e
    | succ i => simpa using ih (i := i) (v := v) (by simpa using e)
  | som _ ih =>
    intro i v e
    cases i with
    | zero => simpa using e
    | succ i => simpa using ih (i := i) (v := v) (by simpa using e)
theorem wk_refl : ∀ a : St, Wk a a
  | [] => .nil
  | none :: a => .non (wk_refl a)
  | some _ :: a => .som (wk_refl a)
def pickS (ix : List (Option Nat)) (σ : St) : St := ix.map fun o => match o with | none => none | some i => (σ[i]?).getD none
def PickOk (X : Cx) (sc : Scope) : List Str → List (Option Nat) → Prop
  | [], [] => True
  | _ :: N, none :: ix => PickOk X sc N ix
  | x :: N, some i :: ix => X.N[i]? = some x ∧ X.env.kindOf x = some .cell ∧ sc.names.lookup x = some .free ∧ PickOk X sc N ix
  | _, _ => False
theorem PickOk.length {X : Cx} {sc : Scope} : ∀ {N : List Str} {ix : List (Option Nat)}, PickOk X sc N ix → ix.length = N.length
  | [], [], _ => rfl
  | _ :: N, none :: ix, h => by rw [List.length_cons, List.length_cons, PickOk.length (X := X) (sc := sc) (N := N) (ix := ix) h]
  | _ :: N, some i :: ix, h => by rw [List.length_cons, List.length_cons, PickOk.length (X := X) (sc := sc) (N := N) (ix := ix) h.2.2.2]
  | [], _ :: _, h => h.elim
  | _ :: _, [], h => h.elim
theorem PickOk.get {X : Cx} {sc : Scope} {σ : St} : ∀ {N : List Str} {ix : List (Option Nat)} {j : Nat} {x : Str} {v : V}, PickOk X sc N ix → N[j]? = some x → (pickS ix σ)[j]? = some (some v) → ∃ i : Nat, X.N[i]? = some x ∧ X.env.kindOf x = some .cell ∧ sc.names.lookup x = some .free ∧ σ[i]? = some (some v)
  | _ :: N, none :: ix, 0, x, v, h, e1, e2 => by simp [pickS] at e2
  | _ :: N, none :: ix, j + 1, x, v, h, e1, e2 => PickOk.get (N := N) (ix := ix) (j := j) h (by simpa using e1) (by simpa [pickS] using e2)
  | y :: N, some i :: ix, 0, x, v, h, e1, e2 => by
    simp at e1
    subst e1
    refine ⟨i, h.1, h.2.1, h.2.2.1, ?_⟩
    simp [pickS] at e2
    cases q : σ[i]? with
    | none => rw [q] at e2; simp at e2
    | some o => rw [q] at e2; simp at e2; rw [e2]
  | y :: N, some i :: ix, j + 1, x, v, h, e1, e2 => PickOk.get (N := N) (ix := ix) (j := j) h.2.2.2 (by simpa using e1) (by simpa [pickS] using e2)
  | [], [], _, _, _, _, e1, _ => by simp at e1
  | [], _ :: _, _, _, _, h, _, _ => h.elim
  | _ :: _, [], _, _, _, h, _, _ => h.elim
theorem relabel_free {scope : Scope} {env : Env} {x : Str} (h : scope.names.lookup x = some .free) : (relabel scope env).names.lookup x = some .cell ∨ (relabel scope env).names.lookup x = some .free := by
  unfold relabel
  dsimp only
  have gen : ∀ l : List (Str × NameKind), l.lookup x = some .free → ((l.map fun (n, k) => if (k == NameKind.free && env.scope.kind == .function && env.kindOf n == some .cell) then (n, NameKind.cell) else (n, k)).lookup x = some .cell ∨ (l.map fun (n, k) => if (k == NameKind.free && env.scope.kind == .function && env.kindOf n == some .cell) then (n, NameKind.cell) else (n, k)).lookup x = some .free) := by
    intro l
    induction l with
    | nil => intro f; cases f
    | cons y r ih =>
      intro f
      obtain ⟨n, k⟩ := y
      rw [List.lookup_cons] at f
      rw [List.map_cons]
      by_cases hx : (x == n) = true
      · rw [hx] at f
        simp at f
        subst f
        dsimp only
        split
        · left; rw [List.lookup_cons, hx]
        · right; rw [List.lookup_cons, hx]
      · simp only [hx] at f
        dsimp only
        split <;> (rw [List.lookup_cons]; simp only [hx]; exact ih f)
  exact gen scope.names h
def cxComp (X : Cx) (scope : Scope) (N : List Str) (C : Addr) (s : Shared) (H : Hp) (fp : List Addr) (pl : List (Addr × Obj)) : Cx where
  prog := X.prog
  w := X.w
  K := X.K
  mg := X.mg
  base := X.base
  A := X.A
  N := N
  s₀ := s
  H₀ := H
  env := compEnvC scope (clOf scope X.env) C X.env
  outer := X.stack
  stack := X.stack
  ex := fp
  fn := fun _ => false
  calm := X.calm
  pn := X.pn ++ pl
  xe := fun _ _ => False
def PTs (Y : Cx) (ifs : List Expr) (t : TT) : Prop :=
  ∀ (pins : List (Addr × Obj)) (s : Shared) (σ : St) (H : Hp) (Q : Bool → Hp → Prop), Inv Y pins σ H s → t σ H Q →
    wpAny (model Y.prog Y.w) Y.A (forIn ifs true fun c r => if r = true then do let ok ← isTrue c Y.env (eval c Y.env); pure (ForInStep.yield ok) else pure (ForInStep.yield r)) (TP Y pins σ Q) Y.xe s
def tYes : TT := fun _ H Q => Q true H
theorem pts_nil {Y : Cx} : PTs Y [] tYes := fun _ _ _ H _ I h => wpAny_tests_nil ⟨H, I, h⟩
theorem pts_one {Y : Cx} {c : Expr} {t : TT} (h : PT Y c t) : PTs Y [c] t := fun pins s σ H Q I q => wpAny_tests_one (h pins s σ H Q I q)
theorem compLoop_any {prog : Program} {w : World} {A : Around} {R : Result → Shared → Prop} {s : Shared} {elt target iter : Expr} {ifs : List Expr} {scope : Scope} {pos : Pos} {it acc : Value} {env : Env} (I : Nat → Shared → Prop)
    (turn : ∀ n s, I n s → wpAny (model prog w) A (pyNext it) (fun r s₁ => match r with
      | none => R (.ok .next) s₁
      | some v => wpAny (model prog w) A (letOwnedTupleGo target it v) (fun _ s₀ => wpAny (model prog w) A (assign target env v) (fun _ s₂ =>
          wpAny (model prog w) A (forIn ifs true fun c r => if r = true then do let ok ← isTrue c env (eval c env); pure (ForInStep.yield ok) else pure (ForInStep.yield r)) (fun ok s₃ =>
            if ok = true then wpAny (model prog w) A (eval elt env) (fun x s₄ =>
              wpAny (model prog w) A (call (.builtin "list.append") [acc, x]) (fun _ s₅ => ∃ m, m < n ∧ I m s₅) (notedBy (model prog w) A env fun e s' => R (.error e) s') s₄) (notedBy (model prog w) A env fun e s' => R (.error e) s') s₃
            else ∃ m, m < n ∧ I m s₃) (notedBy (model prog w) A env fun e s' => R (.error e) s') s₂) (notedBy (model prog w) A env fun e s' => R (.error e) s') s₀) (notedBy (model prog w) A env fun e s' => R (.error e) s') s₁) (notedBy (model prog w) A env fun e s' => R (.error e) s') s)
    (n : Nat) (h : I n s) : codeAny (model prog w) A (.compLoop (.ListComp elt [⟨target, iter, ifs, 0⟩] scope pos) 0 it acc env) R s := by
  refine codeAny_loop rfl I (fun n s hI => ?_) n h
  show wpAny _ A ((compTurn (.ListComp elt [⟨target, iter, ifs, 0⟩] scope pos) 0 it acc env).onRaise (fun x => do noteFrame x env; theTreesLotGoes x)) _ _ s
  refine wpAny_noted ?_
  rw [compTurn_list]
  refine wpAny_bind (wpAny_standAt (wpAny_bind (wpAny_mono (turn n s hI) (fun r s₁ h₁ => ?_) fun _ _ h' => h')))
  cases r with
  | none => exact wpAny_pure h₁
  | some v =>
    refine wpAny_bind (wpAny_mono h₁ (fun _ s₀ h₀ => ?_) fun _ _ h' => h')
    refine wpAny_bind (wpAny_mono h₀ (fun _ s₂ h₂ => wpAny_bind (wpAny_mono h₂ (fun ok s₃ h₃ => ?_) fun _ _ h' => h')) fun _ _ h' => h')
    cases ok with
    | false => exact wpAny_pure ⟨rfl, h₃⟩
    | true =>
      exact wpAny_bind (wpAny_bind (wpAny_mono h₃ (fun x s₄ h₄ => wpAny_bind (wpAny_mono h₄ (fun _ s₅ h₅ => wpAny_pure (wpAny_pure ⟨rfl, h₅⟩)) fun _ _ h' => h')) fun _ _ h' => h'))
end L2
namespace L2
open PySem PySem.Spec PyProof.Rows
section
variable {X : Cx} {pins : List (Addr × Obj)} {σ : St} {H : Hp} {s : Shared} {scope : Scope} {N : List Str} {fp : List Addr} {C : Addr}
theorem comp_ok (I : Inv X pins σ H s) (hC : s.heap.objs.size ≤ C) (hf : ∀ b ∈ fp, FpOk X pins H b) (hfo : ∀ b ∈ fp, ∃ o, s.heap.get? b = some o) (hkind : scope.kind = .function) (hcell : ∀ y ∈ scope.names, y.2 ≠ .cell) (hall : clAll scope X.env = true) :
    (cxComp X scope N C s H fp pins).Ok where
  mod := I.ok.mod
  kind := hkind
  glob := I.ok.glob
  blt := I.ok.blt
  above := hC
  inj := fun x y c h1 h2 => I.ok.inj x y c (clOf_sub h1) (clOf_sub h2)
  has := fun x h => clOf_has hall (relabel_inv hcell h)
  cab := fun x c h => by cases h
  hd := I.ok.hd
  frames := I.ok.frames
  stk := .inl rfl
  exf := fun b hb => ⟨fun z => by obtain ⟨o, e⟩ := hfo b hb; have := Heap.lt_size e; subst z; exact absurd (Nat.lt_of_lt_of_le this hC) (Nat.lt_irrefl _), fun x c e => (hf b hb).2.2.2.2.1 x c (clOf_sub e)⟩
  bs := I.bs
  bsz := Nat.le_trans I.ok.bsz I.sz
  noex := fun b o e hb => by
    rcases (hf b hb).2.2.2.1 with z | z
    · exact I.ok.noex b o e z
    · exact absurd (Nat.lt_of_lt_of_le (Heap.lt_size e) (Nat.le_trans I.ok.bsz z)) (Nat.lt_irrefl _)
  exfs := fun b hb hm => by
    rcases List.mem_cons.mp (I.stkSub b hm) with z | z
    · exact (hf b hb).2.1 z
    · exact (hf b hb).2.2.1 z
  funs := I.stack
  frf := I.stkFree
theorem comp_inv {h' : Heap} {m : Str → Option Value} {t' : Nat} {ix : List (Option Nat)} (I : Inv X pins σ H s) (ok : (cxComp X scope N C s H fp pins).Ok) (hC : s.heap.objs.size ≤ C) (k : ∀ b o, s.heap.get? b = some o → h'.get? b = some o) (hn : h'.Ns C m) (hpk : PickOk X scope N ix) (hall : clAll scope X.env = true) :
    Inv (cxComp X scope N C s H fp pins) [] (pickS ix σ) H { s with heap := h', toks := t' } where
  ok := ok
  os := rfl
  bare := I.bare
  base := Un.kept k
  loc := ⟨m, hn, fun i x v e1 e2 e3 => by
    obtain ⟨i', hN, hk, hfr, hσ⟩ := hpk.get e1 e2
    obtain ⟨m0, _, hl⟩ := I.loc
    obtain ⟨u, r, look⟩ := hl i' x v hN hσ (.inr (.inl hk))
    rcases look with ⟨z, _⟩ | ⟨_, c, hc, o, ho, hd⟩
    · rw [hk] at z; cases z
    · obtain ⟨c', hc'⟩ := clOf_has hall hfr
      have e := clOf_sub hc'
      rw [hc] at e
      cases e
      exact ⟨u, r, .inr ⟨relabel_free hfr, c, hc', o, k _ _ ho, hd⟩⟩⟩
  cell := fun x c e => by
    obtain ⟨v, o, ho, hd⟩ := I.cell x c (clOf_sub e)
    exact ⟨v, o, k _ _ ho, hd⟩
  free := I.hok.fresh hC
  freeC := fun x c e => I.freeC x c (clOf_sub e)
  pin := fun p hp => by
    have hp' : p ∈ X.pn ++ pins := by simpa [cxComp] using hp
    obtain ⟨e, n, ne, nf, d⟩ := I.pin p hp'
    refine ⟨k _ _ e, n, fun z => ?_, fun z => ?_, d⟩
    · have := Heap.lt_size e
      have z' : p.1 = C := z
      rw [z'] at this
      exact absurd (Nat.lt_of_lt_of_le this hC) (Nat.lt_irrefl _)
    · rcases List.mem_cons.mp (I.stkSub p.1 z) with q | q
      · exact ne q
      · exact nf q
  hok := I.hok.kept k
  len := by
    have := hpk.length
    simp [pickS, cxComp, this]
theorem comp_back {σ' : St} {H' : Hp} {s' : Shared} {D : Addr} {acc : List V} {its : List Value} {pl : List (Addr × Obj)} (I : Inv X pins σ H s) (J : Inv (cxComp X scope N C s H fp pins) pl σ' H' s') (hD : D = s.heap.objs.size) (hf : ∀ b ∈ fp, FpOk X pins H b)
    (hl : s'.heap.PlainList D its.toArray) (hv : Vals acc its) (hz : acc.length ≤ sizeLine) (hn : H' D = none) : Inv X pins σ (upd H' D (.lst acc)) s' := by
  have hDn : ∀ b o, s.heap.get? b = some o → b ≠ D := fun b o e z => by rw [z, hD] at e; exact absurd (Heap.lt_size e) (Nat.lt_irrefl _)
  have hHD : H D = none := I.hok.fresh (by rw [hD]; exact Nat.le_refl _)
  refine I.call' (ch := fp) J.os ⟨J.base.keep, J.base.slot, fun b o e n hx => ?_, J.base.there, fun b xs e => ?_, fun b o u e => ?_, fun b ps e => ?_⟩ (fun b u e => ?_) J.bare fun b hb => ⟨(hf b hb).2.2.2.1, (hf b hb).2.1, (hf b hb).2.2.2.2.1, (hf b hb).2.2.2.2.2⟩
  · rw [upd_ne (hDn b o e)]; exact J.base.free b o e n hx
  · rw [upd_ne (ne_of_none e hHD)]; exact J.base.tups b xs e
  · rw [upd_ne (ne_of_none e hHD)]; exact J.base.frzs b o u e
  · obtain ⟨mo, e2⟩ := J.base.tbls b ps e
    exact ⟨mo, by rw [upd_ne (ne_of_none e hHD)]; exact e2⟩
  · by_cases hb : b = D
    · subst hb
      rw [upd_same] at e
      cases e
      obtain ⟨n, g⟩ := hl
      exact ⟨hz, its, n, hv, g⟩
    · rw [upd_ne hb] at e
      exact (J.hok b u e).stay (fun _ _ _ q => q) (fun c q => by rw [upd_ne (ne_of_none q hn)]; exact q) fun c xs q => by rw [upd_ne (ne_of_none q hn)]; exact q
end
def tComp (wi : TI) (g : TG) (ti : TT) (te : TE) (ix : List (Option Nat)) : TE := fun σ H Q => wi σ H fun J H1 => ∃ W : Nat → Nat → List V → Hp → Prop, (∃ m, W 0 m [] H1) ∧ ∀ i m acc H, W i m acc H →
  (J.stop i H ∧ acc.length ≤ sizeLine ∧ ∀ p, H p = none → Q (.ref p) (upd H p (.lst acc))) ∨
  (J.go i H ∧ ∃ N : List V → Hp → Prop, (∀ acc' H', N acc' H' → ∃ m', m' < m ∧ W (i + 1) m' acc' H') ∧ ∀ x H', J.yld i H x H' → g x (pickS ix σ) H' fun σ2 H2 => Wk (pickS ix σ) σ2 ∧ ti σ2 H2 fun b H3 => if b = true then te σ2 H3 fun v H4 => acc.length < sizeLine ∧ N (acc ++ [v]) H4 else N acc H3)
section
variable {X : Cx} {elt target iter : Expr} {ifs : List Expr} {scope : Scope} {pos : Pos} {N : List Str} {ix : List (Option Nat)} {wi : TI} {g : TG} {ti : TT} {te : TE}
theorem comp_run {pins : List (Addr × Obj)} {σ : St} {H2 : Hp} {s2 : Shared} {Q : VK} {RR : Value → Addr → Result → Shared → Prop} {E : Value → Shared → Prop} {it : Addr} {fp : List Addr} {tn : Nat → Heap → Prop} {J : It}
    (hc : X.calm = true) (hg : ∀ C s H fp pl, PG (cxComp X scope N C s H fp pl) target g) (ht : ∀ C s H fp pl, PTs (cxComp X scope N C s H fp pl) ifs ti) (he : ∀ C s H fp pl, PE (cxComp X scope N C s H fp pl) elt te)
    (hkind : scope.kind = .function) (hcell : ∀ y ∈ scope.names, y.2 ≠ .cell) (hall : clAll scope X.env = true) (hpk : PickOk X scope N ix)
    (I2 : Inv X pins σ H2 s2) (T : Turn X.prog X.w X.K target J fp it tn) (st2 : tn 0 s2.heap) (f2 : ∀ b ∈ fp, FpOk X pins H2 b)
    (h : ∃ W : Nat → Nat → List V → Hp → Prop, (∃ m, W 0 m [] H2) ∧ ∀ i m acc H, W i m acc H →
      (J.stop i H ∧ acc.length ≤ sizeLine ∧ ∀ p, H p = none → Q (.ref p) (upd H p (.lst acc))) ∨
      (J.go i H ∧ ∃ N : List V → Hp → Prop, (∀ acc' H', N acc' H' → ∃ m', m' < m ∧ W (i + 1) m' acc' H') ∧ ∀ x H', J.yld i H x H' → g x (pickS ix σ) H' fun σ2 H2 => Wk (pickS ix σ) σ2 ∧ ti σ2 H2 fun b H3 => if b = true then te σ2 H3 fun v H4 => acc.length < sizeLine ∧ N (acc ++ [v]) H4 else N acc H3))
    (hR : ∀ (D C : Addr) (s' : Shared) (H' : Hp) (m : Str → Option Value), Inv X pins σ H' s' → s'.heap.Ns C m → H' C = none → s2.heap.objs.size ≤ C → Q (.ref D) H' → RR (.ref D) C (.ok .next) s') :
    wpAny (model X.prog X.w) X.A (newList []) (fun acc s₃ => wpAny (model X.prog X.w) X.A (newFunctionEnv scope X.env.globals (clOf scope X.env) [] X.env.qual none .none (some X.env)) (fun cenv s₄ =>
      codeAny (model X.prog X.w) X.A (.compStart (.ListComp elt [⟨target, iter, ifs, 0⟩] scope pos) 0 (.ref it) acc { cenv with scope := relabel scope X.env }) (RR acc cenv.locals) s₄) E s₃) E s2 := by
  obtain ⟨W, ⟨m0, w0⟩, turn⟩ := h
  refine wpAny_newObj_type (wpAny_newFunctionEnv hcell (by intro y hy; simp at hy) (fun h₁ hns₁ hsb₁ => ?_) hkind)
  dsimp only at hns₁ hsb₁ ⊢
  generalize hH2 : s2.heap.push { cls := .type "list", dict := none, data := .seq ([] : List Value).toArray } = P2 at hns₁ hsb₁ ⊢
  have hC : P2.objs.size = s2.heap.objs.size + 1 := by rw [← hH2, Heap.size_push]
  have hDC : s2.heap.objs.size ≠ P2.objs.size := by rw [hC]; exact Nat.ne_of_lt (Nat.lt_succ_self _)
  have hCle : s2.heap.objs.size ≤ P2.objs.size := by rw [hC]; exact Nat.le_succ _
  have below : ∀ b, b < s2.heap.objs.size → b ≠ P2.objs.size ∧ b ≠ s2.heap.objs.size := fun b hb => ⟨by rw [hC]; exact Nat.ne_of_lt (Nat.lt_succ_of_lt hb), Nat.ne_of_lt hb⟩
  have old : ∀ b o, s2.heap.get? b = some o → h₁.get? b = some o := fun b o e => hsb₁.extBut b o (below b (Heap.lt_size e)).1 (Heap.get?_push_of_some _ (hH2 ▸ Heap.get?_push_of_some _ e))
  have hacc : h₁.PlainList s2.heap.objs.size #[] := ⟨_, hsb₁.extBut _ _ hDC (Heap.get?_push_of_some _ (hH2 ▸ Heap.get?_push_size _ rfl))⟩
  have hfo : ∀ b ∈ fp, ∃ o, s2.heap.get? b = some o := fun b hb => let ⟨o, e, _⟩ := T.obj 0 _ st2 b hb; ⟨o, e⟩
  have hfD : s2.heap.objs.size ∉ fp := fun hm => by obtain ⟨o, e⟩ := hfo _ hm; exact absurd (Heap.lt_size e) (Nat.lt_irrefl _)
  have ok := comp_ok (N := N) (C := P2.objs.size) I2 hCle f2 hfo hkind hcell hall
  have st1 : tn 0 h₁ := T.keep 0 _ _ st2 fun b _ o e => old b o e
  have J0 := comp_inv (t' := s2.toks + ([] : List (Str × Value)).length) (ix := ix) I2 ok hCle old hns₁ hpk hall
  have pnD : ∀ p ∈ X.pn ++ pins, p.1 ≠ s2.heap.objs.size := fun p hp => (below _ (Heap.lt_size (I2.pin p hp).1)).2
  have cellD : ∀ x c, (clOf scope X.env).lookup x = some c → c ≠ s2.heap.objs.size := fun x c e => by
    obtain ⟨v, o, ho, _⟩ := I2.cell x c (clOf_sub e)
    exact (below _ (Heap.lt_size ho)).2
  have stat : ∀ {pl : List (Addr × Obj)} {H' : Hp}, (∀ b ∈ fp, H' b = none) → (∀ p ∈ pl, p.1 = s2.heap.objs.size) → ∀ b ∈ fp, FpOk (cxComp X scope N P2.objs.size s2 H2 fp pins) pl H' b := fun {pl H'} hn hp b hb => by
    refine ⟨hn b hb, (ok.exf b hb).1, ok.exfs b hb, .inl hb, (ok.exf b hb).2, fun p hm => ?_⟩
    rcases List.mem_append.mp hm with z | z
    · exact (f2 b hb).2.2.2.2.2 p z
    · rw [hp p z]; intro q; rw [q] at hfD; exact hfD hb
  have loop : ∀ s₃ : Shared, s₃ = { s2 with heap := h₁, toks := s2.toks + ([] : List (Str × Value)).length } →
      codeAny (model X.prog X.w) X.A (.compLoop (.ListComp elt [⟨target, iter, ifs, 0⟩] scope pos) 0 (.ref it) (.ref s2.heap.objs.size) (compEnvC scope (clOf scope X.env) P2.objs.size X.env)) (RR (.ref s2.heap.objs.size) P2.objs.size) s₃ := by
    rintro s₃ rfl
    refine compLoop_any (fun n s' => ∃ i acc its σ' H', Inv (cxComp X scope N P2.objs.size s2 H2 fp pins) [] σ' H' s' ∧ Wk (pickS ix σ) σ' ∧ tn i s'.heap ∧ (∀ b ∈ fp, H' b = none) ∧ s'.heap.PlainList s2.heap.objs.size (List.toArray its) ∧ Vals acc its ∧ H' s2.heap.objs.size = none ∧ W i n acc H') ?_ m0
      ⟨0, [], [], _, H2, J0, wk_refl _, st1, fun b hb => (f2 b hb).1, hacc, .nil, I2.hok.fresh (Nat.le_refl _), w0⟩
    rintro n s3 ⟨i, acc, its, σ3, H3, I3, wk3, st3, fr3, pl3, va3, nd3, w3⟩
    obtain ⟨kk, g3⟩ := id pl3
    have I3' : Inv (cxComp X scope N P2.objs.size s2 H2 fp pins) [(s2.heap.objs.size, ⟨.type "list", none, .seq (List.toArray its) kk, #[]⟩)] σ3 H3 s3 := I3.pins_of fun p hp => by
      have e := List.mem_singleton.mp hp
      subst e
      refine ⟨g3, nd3, hDC, fun z => ?_, fun v q => by cases q⟩
      obtain ⟨_, o, ho, _⟩ := (I2.stack).mem z
      exact absurd (Heap.lt_size ho) (Nat.lt_irrefl _)
    have onlyD : ∀ p ∈ [((s2.heap.objs.size, ⟨.type "list", none, .seq (List.toArray its) kk, #[]⟩) : Addr × Obj)], p.1 = s2.heap.objs.size := fun p hp => by
      rw [List.mem_singleton.mp hp]
    rcases turn i n acc H3 w3 with ⟨stop, hlen, fin⟩ | ⟨go, NN, hNN, step⟩
    · refine wpAny_mono (T.done (cxComp X scope N P2.objs.size s2 H2 fp pins) rfl rfl rfl hc i _ s3 σ3 H3 _ I3' (stat fr3 onlyD) st3 stop) (fun r s4 h4 => ?_) fun _ _ z => z
      obtain ⟨hr, I4⟩ := h4
      subst hr
      have g4 := (I4.pin (s2.heap.objs.size, _) (List.mem_append_right _ (List.mem_singleton.mpr rfl))).1
      obtain ⟨mm, hnm, _⟩ := I4.loc
      have B := comp_back I2 I4 rfl f2 ⟨kk, g4⟩ va3 hlen nd3
      refine hR _ _ s4 _ mm B hnm ?_ hCle (fin _ nd3)
      rw [upd_ne (Ne.symm hDC)]
      exact I4.free
    · refine wpAny_mono (T.item (cxComp X scope N P2.objs.size s2 H2 fp pins) rfl rfl rfl hc i _ s3 σ3 H3 _ I3' (stat fr3 onlyD) st3 go) (fun r s4 h4 => ?_) fun _ _ z => z
      obtain ⟨u, hr, h4⟩ := h4
      subst hr
      refine wpAny_mono h4 (fun _ s5 h5 => ?_) fun _ _ z => z
      obtain ⟨x, H5, I5, r5, y5, st5, fr5⟩ := h5
      have I5w := I5.weak wk3.length.symm (fun i v e => wk3.get e)
      have I5' := I5w.pinned (fp := fp) (stat fr5 onlyD) (T.obj _ _ st5)
      refine wpAny_mono (hg P2.objs.size s2 H2 fp pins _ s5 _ H5 x u _ I5' r5 (step x H5 y5)) (fun _ s6 h6 => ?_) fun _ _ z => z.elim
      obtain ⟨σ6, H6, I6, wk6, q6⟩ := h6
      refine wpAny_mono (ht P2.objs.size s2 H2 fp pins _ s6 σ6 H6 _ I6 q6) (fun ok s7 h7 => ?_) fun _ _ z => z.elim
      obtain ⟨H7, I7, q7⟩ := h7
      have keepT : ∀ {σ8 : St} {H8 : Hp} {s8 : Shared}, Inv (cxComp X scope N P2.objs.size s2 H2 fp pins) ([((s2.heap.objs.size, ⟨.type "list", none, .seq (List.toArray its) kk, #[]⟩) : Addr × Obj)] ++ pinsAt fp s5.heap) σ8 H8 s8 →
          (∀ b ∈ fp, ∀ o, s5.heap.get? b = some o → s8.heap.get? b = some o) ∧ (∀ b ∈ fp, H8 b = none) := fun {σ8 H8 s8} I8 => by
        refine ⟨fun b hb o e => (I8.pin (b, o) (List.mem_append_right _ (List.mem_append_right _ (mem_pinsAt hb e)))).1, fun b hb => ?_⟩
        obtain ⟨o, e, d⟩ := T.obj _ _ st5 b hb
        exact (I8.pin (b, o) (List.mem_append_right _ (List.mem_append_right _ (mem_pinsAt hb e)))).2.1
      have unpin : ∀ {σ8 : St} {H8 : Hp} {s8 : Shared} {pl : List (Addr × Obj)}, Inv (cxComp X scope N P2.objs.size s2 H2 fp pins) pl σ8 H8 s8 → Inv (cxComp X scope N P2.objs.size s2 H2 fp pins) [] σ8 H8 s8 := fun I8 => I8.pins_of fun p hp => by cases hp
      cases ok with
      | false =>
        simp only [Bool.false_eq_true, if_false] at q7 ⊢
        obtain ⟨m', hm, w7⟩ := hNN _ _ q7
        have p7 := I7.pin (s2.heap.objs.size, _) (List.mem_append_right _ (List.mem_append_left _ (List.mem_singleton.mpr rfl)))
        obtain ⟨k1, k2⟩ := keepT I7
        exact ⟨m', hm, i + 1, acc, its, σ6, H7, unpin I7, wk6, T.keep _ _ _ st5 k1, k2, ⟨kk, p7.1⟩, va3, p7.2.1, w7⟩
      | true =>
        simp only [if_true] at q7 ⊢
        refine wpAny_mono (he P2.objs.size s2 H2 fp pins _ s7 σ6 H7 _ I7 q7) (fun y s8 h8 => ?_) fun _ _ z => z.elim
        obtain ⟨v, H8, I8, r8, hlt, q8⟩ := h8
        obtain ⟨m', hm, w8⟩ := hNN _ _ q8
        have p8 := I8.pin (s2.heap.objs.size, _) (List.mem_append_right _ (List.mem_append_left _ (List.mem_singleton.mpr rfl)))
        obtain ⟨k1, k2⟩ := keepT I8
        have hl := va3.length
        refine wpAny_list_append_plain (items := List.toArray its) (hsz := by rw [List.size_toArray, ← hl]; exact Nat.le_of_lt hlt) ⟨kk, p8.1⟩ fun h₅ hl₅ hs₅ => ?_
        have I9 : Inv (cxComp X scope N P2.objs.size s2 H2 fp pins) [] σ6 H8 { s8 with heap := h₅ } := (unpin I8).turned (t' := s8.toks) (it := s2.heap.objs.size) (fun b o hb e => hs₅.extBut b o hb e) p8.2.1 hDC (.inr (Nat.le_refl _)) cellD (fun p hp => by
          have hp' : p ∈ X.pn ++ pins := by simpa [cxComp] using hp
          exact pnD p hp')
        refine ⟨m', hm, i + 1, acc ++ [v], its ++ [y], σ6, H8, I9, wk6, T.keep _ _ _ st5 fun b hb o e => hs₅.extBut b o (fun z => hfD (z ▸ hb)) (k1 b hb o e), k2, ?_, va3.append (.cons r8 .nil), p8.2.1, w8⟩
        have e : (its ++ [y]).toArray = its.toArray.push y := by simp
        rw [e]
        exact hl₅
  exact codeAny_compStart_list (loop _ rfl) (T.self X.A 0 _ _ _ st1 (loop _ rfl))
theorem pe_comp (hc : X.calm = true) (hi : PI X target iter wi) (hg : ∀ C s H fp pl, PG (cxComp X scope N C s H fp pl) target g) (ht : ∀ C s H fp pl, PTs (cxComp X scope N C s H fp pl) ifs ti) (he : ∀ C s H fp pl, PE (cxComp X scope N C s H fp pl) elt te)
    (hpk : PickOk X scope N ix) (hkind : scope.kind = .function := by rfl) (hcell : ∀ y ∈ scope.names, y.2 ≠ .cell := by decide) (hnames : ∀ x ∈ scope.names, x.2 = .local → scope.names.lookup x.1 = some .local := by decide) (hall : clAll scope X.env = true := by rfl)
    (hs : ∀ x, foldedSetIterable iter X.env x = pure x := by intro _; rfl) : PE X (.ListComp elt [⟨target, iter, ifs, 0⟩] scope pos) (tComp wi g ti te ix) := by
  intro pins s σ H Q I h
  rw [eval_ListComp]
  refine wpAny_comprehension_free (use := none) rfl hs (closureFor_clOf hall) hkind hnames ?_
  refine thn (hi pins s σ H _ I h) fun v s1 h1 => thn h1 fun itv s2 h2 => ?_
  obtain ⟨it, fp, tn, J, H2, e, I2, T, st2, f2, h⟩ := h2
  subst e
  refine comp_run (RR := fun acc C => compPost (model X.prog X.w) X.A X.xe none (EP X pins σ Q) acc C) hc hg ht he hkind hcell hall hpk I2 T st2 f2 h ?_
  intro D C s' H' m B hn hHC hle q
  refine ⟨m, hn, fun h' hs' => ⟨.ref D, H', B.turned (t' := s'.toks) (it := C) (fun b o hb e => hs'.extBut b o hb e) hHC (Nat.ne_of_gt (Nat.lt_of_lt_of_le I2.lt hle)) (.inr (Nat.le_trans I2.sz hle)) (fun x c e => ?_) (fun p hp => ?_), rfl, q⟩⟩
  · obtain ⟨v, o, ho, _⟩ := I2.cell x c e
    exact Nat.ne_of_lt (Nat.lt_of_lt_of_le (Heap.lt_size ho) hle)
  · exact Nat.ne_of_lt (Nat.lt_of_lt_of_le (Heap.lt_size (I2.pin p hp).1) hle)
theorem ps_setC {i : Nat} {y : Str} {py spos : Pos} (hN : X.N.Nodup) (hyi : X.N[i]? = some y) (hy : Loc X.env.scope y) (hc : X.calm = true) (hi : PI X target iter wi) (hg : ∀ C s H fp pl, PG (cxComp X scope N C s H fp pl) target g) (ht : ∀ C s H fp pl, PTs (cxComp X scope N C s H fp pl) ifs ti) (he : ∀ C s H fp pl, PE (cxComp X scope N C s H fp pl) elt te)
    (hpk : PickOk X scope N ix) (hsw : swapsWith (.ListComp elt [⟨target, iter, ifs, 0⟩] scope pos) (some (.Name y py)) spos.line X.env = pure true := by with_unfolding_all rfl) (hkind : scope.kind = .function := by rfl) (hcell : ∀ y ∈ scope.names, y.2 ≠ .cell := by decide) (hnames : ∀ x ∈ scope.names, x.2 = .local → scope.names.lookup x.1 = some .local := by decide) (hall : clAll scope X.env = true := by rfl)
    (hs : ∀ x, foldedSetIterable iter X.env x = pure x := by intro _; rfl) (hf : X.fn y = true ∨ X.env.scope.names.lookup y = some .local := by first | exact .inl rfl | exact .inr rfl | assumption) : PS X (.Assign [.Name y py] (.ListComp elt [⟨target, iter, ifs, 0⟩] scope pos) spos) (tAsg (tComp wi g ti te ix) (gName i)) := by
  intro pins s σ H D I h
  rw [exec_Assign_Name_used _ _ _ _ hsw]
  refine wpAny_bind (wpAny_standAt (wpAny_bind ?_))
  show wpAny _ X.A (do let _ ← comprehension (.ListComp elt [⟨target, iter, ifs, 0⟩] scope pos) scope X.env _ (newList []) false (eval iter X.env) (some (assign (.Name y py) X.env))) _ _ s
  refine wpAny_bind (wpAny_mono (wpAny_comprehension_free (use := some (assign (.Name y py) X.env)) (Q := fun _ s' => SP X pins D .next s') rfl hs (closureFor_clOf hall) hkind hnames ?_) (fun _ s' hq => wpAny_pure (wpAny_pure hq)) fun _ _ e => e)
  refine thn (hi pins s σ H _ I h) fun v s1 h1 => thn h1 fun itv s2 h2 => ?_
  obtain ⟨it, fp, tn, J, H2, e, I2, T, st2, f2, h⟩ := h2
  subst e
  refine comp_run (Q := fun x H1 => gName i x σ H1 D.nx) (RR := fun acc C => compPost (model X.prog X.w) X.A X.xe (some (assign (.Name y py) X.env)) (fun _ s' => SP X pins D .next s') acc C) hc hg ht he hkind hcell hall hpk I2 T st2 f2 h ?_
  intro Dd C s' H' m B hn hHC hle q
  show wpAny _ X.A (assign (.Name y py) X.env (.ref Dd)) _ _ _
  have cC : ∀ x c, X.env.cells.lookup x = some c → c ≠ C := fun x c e => by
    obtain ⟨v, o, ho, _⟩ := I2.cell x c e
    exact Nat.ne_of_lt (Nat.lt_of_lt_of_le (Heap.lt_size ho) hle)
  have lC : X.env.locals ≠ C := Nat.ne_of_lt (Nat.lt_of_lt_of_le I2.lt hle)
  refine wpAny_assign_Name (store_ok2 (v := .ref Dd) B hN hyi hy rfl (fun s4 I4 hsb => ?_) hf)
  obtain ⟨a, hsa, ha⟩ := hsb
  have nC : C ≠ a := by
    rcases ha with z | z
    · rw [z]; exact Ne.symm lC
    · exact Ne.symm (cC _ _ z)
  refine ⟨m, hn.sameBut hsa nC, fun h' hs' => ⟨_, H', I4.turned (t' := s4.toks) (it := C) (fun b o hb e => hs'.extBut b o hb e) hHC (Ne.symm lC) (.inr (Nat.le_trans I2.sz hle)) cC (fun p hp => ?_), q⟩⟩
  exact Nat.ne_of_lt (Nat.lt_of_lt_of_le (Heap.lt_size (I2.pin p hp).1) hle)
end
section
variable {g : TG} {ti : TT} {te : TE} {ix : List (Option Nat)} {σ : St} {Q : VK}
def CompW (J : It) (g : TG) (ti : TT) (te : TE) (ix : List (Option Nat)) (σ : St) (Q : VK) (H1 : Hp) : Prop := ∃ W : Nat → Nat → List V → Hp → Prop, (∃ m, W 0 m [] H1) ∧ ∀ i m acc H, W i m acc H →
  (J.stop i H ∧ acc.length ≤ sizeLine ∧ ∀ p, H p = none → Q (.ref p) (upd H p (.lst acc))) ∨
  (J.go i H ∧ ∃ N : List V → Hp → Prop, (∀ acc' H', N acc' H' → ∃ m', m' < m ∧ W (i + 1) m' acc' H') ∧ ∀ x H', J.yld i H x H' → g x (pickS ix σ) H' fun σ2 H2 => Wk (pickS ix σ) σ2 ∧ ti σ2 H2 fun b H3 => if b = true then te σ2 H3 fun v H4 => acc.length < sizeLine ∧ N (acc ++ [v]) H4 else N acc H3)
theorem a_comp {wi : TI} {H : Hp} (h : wi σ H fun J H1 => CompW J g ti te ix σ Q H1) : tComp wi g ti te ix σ H Q := h
theorem compw {J : It} {n : Nat} {H1 : Hp} (Pv : Nat → List V → Hp → Prop) (h0 : Pv 0 [] H1) (hgo : ∀ i acc H, i < n → Pv i acc H → J.go i H) (hst : ∀ acc H, Pv n acc H → J.stop n H)
    (hs : ∀ i x acc H H', i < n → Pv i acc H → J.yld i H x H' → g x (pickS ix σ) H' fun σ2 H2 => Wk (pickS ix σ) σ2 ∧ ti σ2 H2 fun b H3 => if b = true then te σ2 H3 fun v H4 => acc.length < sizeLine ∧ Pv (i + 1) (acc ++ [v]) H4 else Pv (i + 1) acc H3)
    (hd : ∀ acc H, Pv n acc H → acc.length ≤ sizeLine ∧ ∀ p, H p = none → Q (.ref p) (upd H p (.lst acc))) : CompW J g ti te ix σ Q H1 := by
  refine ⟨fun i m acc H => m = n - i ∧ i ≤ n ∧ Pv i acc H, ⟨n, by simp, Nat.zero_le _, h0⟩, ?_⟩
  rintro i m acc H ⟨rfl, hi, p⟩
  by_cases hlt : i < n
  · exact .inr ⟨hgo i acc H hlt p, Pv (i + 1), fun acc' H' p' => ⟨n - (i + 1), by omega, rfl, hlt, p'⟩, fun x H' y => hs i x acc H H' hlt p y⟩
  · have e : i = n := by omega
    subst e
    exact .inl ⟨hst acc H p, hd acc H p⟩
theorem comp_list {K : PySem.W.Frag} {a : Addr} {xs : List V} {H1 : Hp} (Pv : Nat → List V → Hp → Prop) (h0 : Pv 0 [] H1) (hl : ∀ i acc H, i ≤ xs.length → Pv i acc H → SqL K H a xs)
    (hs : ∀ i x acc H, xs[i]? = some x → Pv i acc H → g x (pickS ix σ) H fun σ2 H2 => Wk (pickS ix σ) σ2 ∧ ti σ2 H2 fun b H3 => if b = true then te σ2 H3 fun v H4 => acc.length < sizeLine ∧ Pv (i + 1) (acc ++ [v]) H4 else Pv (i + 1) acc H3)
    (hd : ∀ acc H, Pv xs.length acc H → acc.length ≤ sizeLine ∧ ∀ p, H p = none → Q (.ref p) (upd H p (.lst acc))) : CompW (Itl K a) g ti te ix σ Q H1 := by
  refine compw (n := xs.length) Pv h0 (fun i acc H hi p => ⟨xs, xs[i], hl i acc H (Nat.le_of_lt hi) p, by simp [hi]⟩) (fun acc H p => ⟨xs, hl _ acc H (Nat.le_refl _) p, Nat.le_refl _⟩) (fun i x acc H H' hi p y => ?_) hd
  obtain ⟨e, y⟩ := y
  subst e
  exact hs i x acc _ (y xs (hl i acc _ (Nat.le_of_lt hi) p)) p
theorem comp_range {lo : Int} {n : Nat} {H1 : Hp} (Pv : Nat → List V → Hp → Prop) (h0 : Pv 0 [] H1)
    (hs : ∀ i acc H, i < n → Pv i acc H → g (.int (lo + i)) (pickS ix σ) H fun σ2 H2 => Wk (pickS ix σ) σ2 ∧ ti σ2 H2 fun b H3 => if b = true then te σ2 H3 fun v H4 => acc.length < sizeLine ∧ Pv (i + 1) (acc ++ [v]) H4 else Pv (i + 1) acc H3)
    (hd : ∀ acc H, Pv n acc H → acc.length ≤ sizeLine ∧ ∀ p, H p = none → Q (.ref p) (upd H p (.lst acc))) : CompW (Itr lo n) g ti te ix σ Q H1 := by
  refine compw (n := n) Pv h0 (fun i acc H hi p => hi) (fun acc H p => Nat.le_refl _) (fun i x acc H H' hi p y => ?_) hd
  obtain ⟨e, y⟩ := y
  subst e
  subst y
  exact hs i acc _ hi p
end
end L2
namespace L2
open PySem PySem.Spec PyProof.Rows
section
variable {X : Cx}
end
section
variable {X : Cx} {tg : Expr}
end
section
variable {σ : St} {H : Hp} {R : It → Hp → Prop} {K : PySem.W.Frag}
theorem a_for {wi : TI} {g : TG} {tb : TS} {D : Ends} (h : wi σ H fun J H1 => ∃ W : Nat → Nat → St → Hp → Prop, (∃ m, W 0 m σ H1) ∧ ∀ i m σ H, W i m σ H →
  (J.stop i H ∧ D.nx σ H) ∨ (J.go i H ∧ ∃ N : St → Hp → Prop, (∀ σ' H', N σ' H' → ∃ m', m' < m ∧ W (i + 1) m' σ' H') ∧ ∀ x H', J.yld i H x H' → g x σ H' fun σ2 H2 => tb { D with nx := N, ct := N, bk := D.nx } σ2 H2)) : tFor wi g tb D σ H := h
theorem a_rng1 {ta : TA} (h : ta σ H fun vs H1 => ∃ j : Int, vs = [.int j] ∧ -(2 ^ 62) ≤ j ∧ j < 2 ^ 62 ∧ R (Itr 0 j.toNat) H1) : iRng1 ta σ H R := h
theorem a_ilist {tl : TE} (h : tl σ H fun x H1 => ∃ a, x = .ref a ∧ (∃ xs, SqL K H1 a xs) ∧ R (Itl K a) H1) : iList K tl σ H R := h
end
end L2
namespace L2
open PySem PySem.Spec PyProof.Rows
def Fly (h0 h : Heap) (H : Hp) (x : Addr) (cls : Value) : Prop :=
  h0.get? x = none ∧ H x = none ∧ ∃ a0 oe vs T oT ts, h0.get? T = none ∧ H T = none ∧ h.get? x = some oe ∧ oe.cls = cls ∧ vs[0]? = some a0 ∧ oe.data = .fields vs ∧ vs[1]? = some (.ref T) ∧ T ≠ x ∧ h.get? T = some oT ∧ oT.data = .fields ts ∧ ts[3]? = some .none
def CX1 (P : Program) (w : World) : CXT := fun outer H s E e s' => ∃ x cls H', e = .ref x ∧ s'.os = s.os ∧ AllBare s'.gens ∧ Un (frs outer) [] H H' s.heap s'.heap ∧ HOk P w H' s'.heap ∧ Fly s.heap s'.heap H' x cls ∧ E cls none H'
theorem ObjOk.has {P : Program} {w : World} {H : Hp} {h : Heap} {a : Addr} {o : HO} (x : ObjOk P w H h a o) : ∃ u, h.get? a = some u := by
  cases o with
  | lst xs => obtain ⟨_, _, _, _, e⟩ := x; exact ⟨_, e⟩
  | tup xs => obtain ⟨_, _, _, u, e, _⟩ := x; exact ⟨_, e⟩
  | dK kvs => obtain ⟨_, _, _, _, u, _, _, e, _⟩ := x; exact ⟨_, e⟩
  | dT kvs => obtain ⟨_, _, _, _, u, _, _, e, _⟩ := x; exact ⟨_, e⟩
  | set S n => obtain ⟨u, _, _, _, e, _⟩ := x; exact ⟨_, e⟩
  | ins C dx fs => obtain ⟨_, _, _, e, _⟩ := x; exact ⟨_, e⟩
  | own y => exact x
  | xd fs => obtain ⟨_, ⟨u, _, _, e, _⟩, _⟩ := x; exact ⟨_, e⟩
  | rng lo hi => obtain ⟨_, _, _, e⟩ := x; exact ⟨_, e⟩
  | frz ob u => obtain ⟨e, _⟩ := x; exact ⟨_, e⟩
  | tbl ps => exact ⟨_, x⟩
  | met f y => exact ⟨_, x⟩
  | ext φ => exact x.2.1
theorem fly_on {P : Program} {w : World} {fs fr l bad : List Addr} {H H' : Hp} {h h1 h2 : Heap} (u : Un fs [] H H' h h1) (hok : HOk P w H' h1) (hl : ∀ b ∈ l, b ∈ bad ∨ b ∈ fr) (hb : ∀ b ∈ bad, h.get? b = none ∧ H' b = none)
    (hfr : ∀ b ∈ fr, (b ∈ fs ∨ h.get? b = none) ∧ H' b = none ∧ ∃ o, h1.get? b = some o ∧ ∀ vs, o.data ≠ .fields vs) (hfs : ∀ b ∈ fs, b ∈ fr) (k : (PySem.W.hideAll h1 l).StaysIn h2) (sm : h1.UpToSlots h2) :
    Un fs [] H H' h h2 ∧ HOk P w H' h2 ∧ ∀ x cls a0, h2.TracedW (PySem.W.hideAll h1 l) x cls a0 → h.get? x = none → H' x = none → Fly h h2 H' x cls := by
  have gt : ∀ b o, h1.get? b = some o → b ∉ bad → b ∉ fr → h2.get? b = some o := fun b o e n1 n2 => k b o (PySem.W.hideAll_get _ e fun z => (hl b z).elim n1 n2)
  have nb : ∀ b o, h.get? b = some o → b ∉ bad := fun b o e z => by rw [(hb b z).1] at e; cases e
  have slots : ∀ b o, b ∈ fr → h1.get? b = some o → ∃ sl, h2.get? b = some { o with slots := sl } := fun b o hf e => by
    obtain ⟨_, _, o', e', d⟩ := hfr b hf
    rw [e] at e'
    cases e'
    exact sm b o e d
  have tr : ∀ b u, H' b = some u → b ∉ bad ∧ b ∉ fr := fun b u e => ⟨fun z => (by rw [(hb b z).2] at e; cases e), fun z => (by rw [(hfr b z).2.1] at e; cases e)⟩
  refine ⟨⟨fun b o e n hf hx => ?_, fun b o e n hf hx => ?_, fun b o e n hx => u.free b o e n hx, fun b o e hx => ?_, u.tups, u.frzs, u.tbls⟩, fun b v e => ?_, fun x cls a0 ht hx hHx => ?_⟩
  · refine gt b o (u.keep b o e n hf hx) (nb b o e) fun z => ?_
    rcases (hfr b z).1 with q | q
    · exact hf q
    · rw [e] at q; cases q
  · obtain ⟨sl, e1⟩ := u.slot b o e n hf hx
    obtain ⟨sl', e2⟩ := slots b _ (hfs b hf) e1
    exact ⟨sl', e2⟩
  · obtain ⟨o', e1⟩ := u.there b o e hx
    by_cases hf : b ∈ fr
    · obtain ⟨sl, e2⟩ := slots b o' hf e1
      exact ⟨_, e2⟩
    · exact ⟨o', gt b o' e1 (nb b o e) hf⟩
  · refine (hok b v e).stay (fun c o hc q => ?_) (fun _ q => q) fun _ _ q => q
    rcases hc with rfl | hc
    · exact gt c o q (tr c v e).1 (tr c v e).2
    · exact gt c o q (tr c _ hc).1 (tr c _ hc).2
  · obtain ⟨oe, vs, T, oT, ts, t1, ⟨t2, t3⟩, t4, t5, t6, t7, t8, t9, t10⟩ := ht
    have hT : h.get? T = none ∧ H' T = none := by
      cases q : h1.get? T with
      | none =>
        refine ⟨?_, ?_⟩
        · cases r : h.get? T with
          | none => rfl
          | some o => obtain ⟨o', e'⟩ := u.there T o r (by simp); rw [q] at e'; cases e'
        · cases r : H' T with
          | none => rfl
          | some v => obtain ⟨o', e'⟩ := (hok T v r).has; rw [q] at e'; cases e'
      | some o =>
        by_cases hm : T ∈ l
        · rcases hl T hm with z | z
          · exact hb T z
          · obtain ⟨sl, e2⟩ := slots T o z q
            obtain ⟨_, _, o', e', d⟩ := hfr T z
            rw [q] at e'
            cases e'
            rw [t8] at e2
            cases e2
            exact absurd t9 (d ts)
        · have := PySem.W.hideAll_get _ q hm
          rw [t6] at this; cases this
    exact ⟨hx, hHx, a0, oe, vs, T, oT, ts, hT.1, hT.2, t1, t2, t3, t4, t5, t7, t8, t9, t10⟩
theorem Fly.traced {h0 h : Heap} {H : Hp} {x : Addr} {cls : Value} (f : Fly h0 h H x cls) : ∃ T a0, h0.get? T = none ∧ H T = none ∧ ∀ l : List Addr, T ∈ l → h.TracedW (PySem.W.hideAll h l) x cls a0 := by
  obtain ⟨_, _, a0, oe, vs, T, oT, ts, t1, t2, t3, t4, t5, t6, t7, t8, t9, t10, t11⟩ := f
  exact ⟨T, a0, t1, t2, fun l hl => ⟨oe, vs, T, oT, ts, t3, ⟨t4, t5⟩, t6, t7, PySem.W.hideAll_none _ hl, t8, t9, t10, t11⟩⟩
section
variable {X : Cx} {pins : List (Addr × Obj)} {σ : St} {H : Hp} {s : Shared}
theorem mem_frs {l : List Env} : ∀ env ∈ l, ∀ a, env.frame = some a → a ∈ frs l := fun env he a hf => List.mem_filterMap.mpr ⟨env, he, hf⟩
theorem Inv.frm (I : Inv X pins σ H s) : ∀ b ∈ frs X.stack, (b ∈ X.fs ∨ X.s₀.heap.get? b = none) ∧ H b = none ∧ ∃ o, s.heap.get? b = some o ∧ ∀ vs, o.data ≠ .fields vs := fun b hb => by
  refine ⟨?_, I.stkFree b hb, (I.stack.mem hb).2⟩
  rcases List.mem_cons.mp (I.stkSub b hb) with e | e
  · exact .inr (by rw [e]; exact Heap.get?_none_of_le I.ok.above)
  · exact .inl e
theorem leave1 {E : XK} {x : Addr} {cls : Value} (hs : X.stack = X.env :: X.outer) (hf : X.env.frame = some X.env.locals) (hex : X.ex = []) (I : Inv X pins σ H s) {l bad : List Addr} {h1 : Heap}
    (hl : ∀ b ∈ l, b ∈ bad ∨ b ∈ frs X.stack) (hb : ∀ b ∈ bad, X.s₀.heap.get? b = none ∧ H b = none) (k : (PySem.W.hideAll s.heap l).StaysIn h1) (sm : s.heap.UpToSlots h1) {a0 : Value} (ht : h1.TracedW (PySem.W.hideAll s.heap l) x cls a0)
    (hx : X.s₀.heap.get? x = none) (hHx : H x = none) (e : E cls none H) : CX1 X.prog X.w X.outer X.H₀ X.s₀ E (.ref x) { s with heap := h1 } := by
  have ub := I.base
  rw [hex] at ub
  obtain ⟨u, ok, fl⟩ := fly_on ub I.hok hl hb I.frm (fun b hb => by rw [hs]; unfold frs; rw [List.filterMap_cons, hf]; exact List.mem_cons_of_mem _ hb) k sm
  exact ⟨x, cls, H, rfl, I.os, I.bare, u, ok, fl x cls a0 ht hx hHx, e⟩
def Xe1 (X : Cx) (E : XK) : Prop := X.xe = fun e s' => wpAny (model X.prog X.w) X.A (leaving X.env e) (fun _ s'' => CX1 X.prog X.w X.outer X.H₀ X.s₀ E e s'') (fun e' s'' => CX1 X.prog X.w X.outer X.H₀ X.s₀ E e' s'') s'
end
theorem exc_obj {K : PySem.W.Frag} {h : Heap} {C : Addr} {bmB : List Value} {newId : String} (X : K.In h) (q : PySem.W.excIn K C bmB newId = true) :
    ∃ bm N nm qn bs hd sn sub ab col dd k0 k1 k2 k3 k5 mN, h.get? C = some (excClassObj nm qn C N bs bm hd sn sub ab col dd k0 k1 k2 k3 k5 newId) ∧ h.Ns N mN ∧ mN "__init__" = none ∧ OwnTail h bmB bm := by
  unfold PySem.W.excIn at q
  split at q
  case h_2 => cases q
  case h_1 ddc cdc slc hlook =>
    split at q
    case h_2 => cases q
    case h_1 Cc bmc k0 k1 k2 k3 nn k5 hmro hslots =>
      simp only [Bool.and_eq_true, beq_iff_eq, Bool.not_eq_true'] at q
      obtain ⟨⟨⟨⟨⟨e1, e2⟩, e3⟩, e4⟩, e5⟩, e6⟩ := q
      obtain ⟨nm, bs, mro, ns, qn, hd, sn, sub, ab, col, del⟩ := cdc
      dsimp only at hmro e3 e5 e6
      obtain ⟨ll⟩ := slc
      simp only at hslots
      subst e1 e2 e3 hmro hslots
      exact ⟨_, _, _, _, _, _, _, _, _, _, _, _, _, _, _, _, _, X _ _ hlook, .of_isNs (PySem.W.isNs_of_in X e5), PySem.W.nsMap_none_of_in X e5 e6, PySem.W.tail_of_in X e4⟩
def tRaise (C : Addr) (E : XK) (te : TE) : TS := fun _ σ H => te σ H fun _ H' => E (.ref C) none H'
section
variable {X : Cx}
theorem ps_raise {E : XK} {x : Str} {np cpos pos : Pos} {e₀ : Expr} {te : TE} {C : Addr} {B newId initId : String} {bmB : List Value} (hs : X.stack = X.env :: X.outer) (hf : X.env.frame = some X.env.locals) (hex : X.ex = []) (hxe : Xe1 X E)
    (hcalm : X.calm = true) (hg : Gl X x) (hm : X.mg x = some (.ref C)) (FB : ExcBaseFacts B newId initId bmB) (hq : PySem.W.excIn X.K C bmB newId = true) (he : PE X e₀ te) (hdb : (x == ("__debug__" : Str)) = false := by decide)
    (hst : starEach [e₀] X.env = (false, eval e₀ X.env) :: starEach [] X.env := by rfl) (hpl : (backTo cpos (starEach [] X.env)).any (·.1) = false := by rfl) :
    PS X (.Raise (some (.Call (.Name x np) [e₀] [] cpos)) none pos) (tRaise C E te) := by
  intro pins s σ H D I h
  obtain ⟨bm, N, nm, qn, bs, hd, sn, sub, ab, col, dd, k0, k1, k2, k3, k5, mN, hC, hN, hni, T⟩ := exc_obj I.ok.mod.kin hq
  refine wpAny_Raise_call_subT (C := C) (nm := nm) (q := qn) (N := N) (bs := bs) (bm := bm) (hdct := hd) (sn := sn) (sub := sub) (ab := ab) (col := col) (dd := dd) (k0 := k0) (k1 := k1) (k2 := k2) (k3 := k3) (k5 := k5)
    FB (mN := mN) (T.hasType FB.hasBase) (I.ok.hd hcalm) (by rw [hst]; show (false || (backTo cpos (starEach [] X.env)).any (·.1)) = false; rw [hpl]; rfl) hni (ld_glob I hg hm ⟨rfl, ?_⟩ hdb)
  rw [hst]
  refine Calls.evalArgs_plain ?_
  refine Calls.spliced_cons ?_
  refine thn (he pins s σ H _ I h) fun u s1 ⟨v, H1, I1, _, q1⟩ => ?_
  refine Calls.spliced_nil ?_
  refine ⟨rfl, by show (1 : Nat) ≤ sizeLine; decide, I1.bk _ _ hC, hN.keeps I1.bk, T.keeps I1.bk, fun h' e hmade => ?_⟩
  obtain ⟨t, ht, ht0, htt⟩ := hmade.there
  have J : Inv X pins σ H1 { s1 with heap := h' } := I1.call' (ch := []) rfl (Un.kept hmade.keeps) (I1.hok.kept hmade.keeps) I1.bare (fun b z => absurd z (by simp))
  have up : ∀ b, s1.heap.get? b = none → X.s₀.heap.get? b = none := fun b z => by
    cases q : X.s₀.heap.get? b with
    | none => rfl
    | some o => obtain ⟨o', e'⟩ := I1.base.there b o q (by rw [hex]; simp); rw [z] at e'; cases e'
  have hHe : H1 e = none := by
    cases r : H1 e with
    | none => rfl
    | some v => obtain ⟨o', e'⟩ := (I1.hok e v r).has; rw [hmade.new] at e'; cases e'
  rw [hxe]
  have hin : ∀ env ∈ X.env :: X.outer, ∀ a, env.frame = some a → a ∈ e :: frs X.stack := fun env he a hf => .tail _ (by rw [hs]; exact mem_frs env he a hf)
  refine wpAny_leaving_firstW (base := PySem.W.hideAll h' (e :: frs X.stack)) (a0 := .ref t) (by rw [J.ok.frames, hs]) (PySem.W.funFrames_hide (hs ▸ J.stack) hin) hf ht (fun b o q => PySem.W.of_hideAll _ q)
    (PySem.W.hideAll_none _ (.head _)) rfl rfl rfl fun h2 hL => ?_
  obtain ⟨l1, _, l3, l4⟩ := hL
  exact leave1 hs hf hex J (bad := [e]) (fun b hb => by
    rcases List.mem_cons.mp hb with z | hb
    · exact .inl (by rw [z]; exact .head _)
    · exact .inr hb) (fun b hb => by
    have z : b = e := by simpa using hb
    rw [z]; exact ⟨up _ hmade.new, hHe⟩) l1 l4 l3 (up _ hmade.new) hHe q1
end
end L2
namespace L2
open PySem PySem.Spec PyProof.Rows
section
variable {P : Program} {w : World} {K : PySem.W.Frag} {mg : Str → Option Value} {base : Heap}
theorem Fun.ok1 {x qual : Str} {st : Stmt} {f : Addr} {fd : FuncData} {N ps : List Str} {k : Nat} {sp : Sp} (F : Fun K x qual st f fd) (S : FnScope N ps (defScope st)) (len : ∀ vs H Q E, sp vs H Q E → vs.length = ps.length)
    (hbody : ∀ (cdv : Value) (A : Around) (outer : List Env) (s : Shared) (H : Hp) (vs : List V) (Q : VK) (E : XK), Room k (A.deeper (envOfC qual (defScope st) s.heap.objs.size f cdv)) → sp vs H Q E →
      ∃ t, PSs (cxOf (CX1 P w) P w K mg base N qual (defScope st) f cdv A outer s H E) (defBody st) t ∧ t { nx := fun _ H' => Q .non H', rt := Q } (start N vs) H) : FnOk P w K mg base (CX1 P w) (k + 1) f fd ps sp := by
  obtain ⟨oc, od, kV, doc, pm, an, cdv, ct, osl, rfl, lk, hcd⟩ := F.ex
  exact fn_of lk hcd S len fun A outer s H vs Q E hr hsp => hbody cdv A outer s H vs Q E hr hsp
end
section
variable {X : Cx}
def PassAt (CX : CXT) (X : Cx) (σ : St) (E : XK) : Prop := ∀ (pins : List (Addr × Obj)) (H : Hp) (s : Shared) (e : Value) (s' : Shared), Inv X pins σ H s → CX X.stack H s E e s' → X.xe e s'
variable {CX : CXT} {k : Nat} {f : Addr} {fd : FuncData} {ps : List Str} {sp : Sp} {dvs : List V} {ds : List Value} {x : Str} {p pos : Pos} {e : Expr} {es : List Expr} {t : TA}
abbrev Cx.kept2 (X : Cx) (pn : List (Addr × Obj)) (xe : Value → Shared → Prop) : Cx := { X with pn := pn, xe := xe }
theorem Cx.Ok.kept2 (ok : X.Ok) (pn : List (Addr × Obj)) (xe : Value → Shared → Prop) : (X.kept2 pn xe).Ok :=
  ⟨ok.mod, ok.kind, ok.glob, ok.blt, ok.above, ok.inj, ok.has, ok.cab, ok.hd, ok.frames, ok.stk, ok.exf, ok.bs, ok.bsz, ok.noex, ok.exfs, ok.funs, ok.frf⟩
theorem Inv.keep2 {pins : List (Addr × Obj)} {σ : St} {H : Hp} {s : Shared} (I : Inv X pins σ H s) (xe : Value → Shared → Prop) : Inv (X.kept2 (X.pn ++ pins) xe) [] σ H s :=
  ⟨I.ok.kept2 _ xe, I.os, I.bare, I.base, I.loc, I.cell, I.free, I.freeC, by rw [List.append_nil]; exact I.pin, I.hok, I.len⟩
theorem Inv.unkeep2 {pins more : List (Addr × Obj)} {xe : Value → Shared → Prop} {σ : St} {H : Hp} {s : Shared} (ok : X.Ok) (I : Inv (X.kept2 (X.pn ++ pins) xe) more σ H s) : Inv X pins σ H s :=
  ⟨ok, I.os, I.bare, I.base, I.loc, I.cell, I.free, I.freeC, fun p hp => I.pin p (List.mem_append_left _ hp), I.hok, I.len⟩
abbrev Cx.inHandler (X : Cx) (v : Value) : Cx := { X with A := X.A.mark (some v), calm := false, xe := fun _ _ => False }
theorem Inv.inHandler {pins : List (Addr × Obj)} {σ : St} {H : Hp} {s : Shared} (I : Inv X pins σ H s) (v : Value) : Inv (X.inHandler v) pins σ H s :=
  ⟨⟨I.ok.mod, I.ok.kind, I.ok.glob, I.ok.blt, I.ok.above, I.ok.inj, I.ok.has, I.ok.cab, fun z => Bool.noConfusion z, I.ok.frames, I.ok.stk, I.ok.exf, I.ok.bs, I.ok.bsz, I.ok.noex, I.ok.exfs, I.ok.funs, I.ok.frf⟩,
    I.os, I.bare, I.base, I.loc, I.cell, I.free, I.freeC, I.pin, I.hok, I.len⟩
theorem Inv.outHandler {pins : List (Addr × Obj)} {σ : St} {H : Hp} {s : Shared} {v : Value} (ok : X.Ok) (I : Inv (X.inHandler v) pins σ H s) : Inv X pins σ H s :=
  ⟨ok, I.os, I.bare, I.base, I.loc, I.cell, I.free, I.freeC, I.pin, I.hok, I.len⟩
theorem SP.imp {Y : Cx} {pins pins' : List (Addr × Obj)} {D : Ends} {fl : Flow} {s : Shared} (q : SP Y pins' D fl s) (h : ∀ σ H, Inv Y pins' σ H s → Inv X pins σ H s) : SP X pins D fl s := by
  cases fl with
  | next => obtain ⟨σ', H', I, q⟩ := q; exact ⟨σ', H', h _ _ I, q⟩
  | brk => obtain ⟨σ', H', I, q⟩ := q; exact ⟨σ', H', h _ _ I, q⟩
  | cont => obtain ⟨σ', H', I, q⟩ := q; exact ⟨σ', H', h _ _ I, q⟩
  | ret u => obtain ⟨v, σ', H', I, r, q⟩ := q; exact ⟨v, σ', H', h _ _ I, r, q⟩
theorem a_raise {C : Addr} {E : XK} {te : TE} {D : Ends} {σ : St} {H : Hp} (h : te σ H fun _ H' => E (.ref C) none H') : tRaise C E te D σ H := h
end
end L2
namespace L2
open PySem PySem.Spec PyProof.Rows PySem.W Builtin Builtin.ObjectAttr Builtin.Getset_descriptor
structure ExcK (K : Frag) (C : Addr) : Prop where
  fg : findIn K (.ref C) "__getattribute__" = some (some (.builtin "BaseException.__getattribute__"))
  fn : findIn K (.ref C) "__getattr__" = some none
  fc : findIn K (.ref C) "__class__" = some (some (.builtin "object.__class__"))
  mo : mroIn K C (.type "object") = some true
  sb : subIn K (.ref C) (.type "BaseException") = some true
def ExAt (x C : Addr) (h : Heap) : Prop := ∃ o, h.get? x = some o ∧ o.cls = .ref C
theorem ExAt.ty {M : Model} {x C : Addr} {h : Heap} (p : ExAt x C h) : Looks M h (typeOf (.ref x)) (.ref C) := by
  obtain ⟨o, h1, h2⟩ := p
  rw [← h2]
  exact (Looks.ld h1).andThen .now
section
variable {prog : Program} {w : World} {A : Around} {E : Value → Shared → Prop} {K : Frag} {h : Heap} {g : Array GenState} {d : Drawn} {t : Nat} {os : OsState} {x C : Addr}
theorem exc_check {M : Model} {nameV : Value} {Q : Unit → Shared → Prop} (Z : ExcK K C) (X : K.In h) (I : ExAt x C h) (hq : Q () ⟨h, g, d, t, os⟩) :
    wpAny M A (checkBuiltinCall "BaseException.__getattribute__" ⟨[.ref x, nameV], []⟩) Q E ⟨h, g, d, t, os⟩ := by
  have hk : builtinKind "BaseException.__getattribute__" = some .slot := by decide +kernel
  have hsp : splitId "BaseException.__getattribute__" = some ("BaseException", "__getattribute__") := by decide +kernel
  have ha := F.args_bexc_ga (.ref x) nameV
  have L0 := I.ty (M := M)
  have L1 := looks_subIn (M := M) X Z.sb
  simp only [checkBuiltinCall, hk, hsp]
  refine wpAny_bind ?_
  unfold isInstance
  refine wpAny_bind (L0.at (L1.at ?_))
  repeat (any_goals (first | assumption | wp_step))
theorem exc_get {tp : Value} {R : Result → Shared → Prop} (Z : ExcK K C) (X : K.In h) (I : ExAt x C h) (hq : R (.ok (.ret (.ref C))) ⟨h, g, d, t, os⟩) :
    codeAny (model prog w) A (.call (.builtin "getset_descriptor.__get__") ⟨[.builtin "object.__class__", .ref x, tp], []⟩) R ⟨h, g, d, t, os⟩ := by
  have hT5 : (⟨h, g, d, t, os⟩ : Shared).TypeIs (.builtin "object.__class__") "getset_descriptor" := F.typeOf_object_class
  have L0 := I.ty (M := model prog w)
  have L1 := looks_mroIn (M := model prog w) X Z.mo
  refine codeAny_call_builtin (KF.slot_gs).plain (KF.entry_gs) ((KF.slot_gs).check _ _ _ _ _ _ _ _ (KF.type_class) ((KF.args_gs) _ _ _) ?_)
  (unfold Builtin.«getset_descriptor.__get__» descrGet; rw [dga_obj]; refine wpAny_bind (wpAny_pure ?_); unfold descrGetter descrCheckInstance descrNameAndClass isInstance; simp only [KF.owner_class])
  repeat (any_goals (first | assumption | with_reducible refine Looks.at L0 ?_ | with_reducible refine Looks.at L1 ?_ | wp_step))
  (refine ⟨Code.quiet_builtin _ (by decide +kernel), codeAny_builtin KF.entry_class ?_⟩; unfold Builtin.«object.__class__» shownTypeOf)
  repeat (any_goals (first | assumption | with_reducible refine Looks.at L0 ?_ | wp_step))
theorem exc_entry {tk : Tok} {Q : Fin → Shared → Prop} (Z : ExcK K C) (X : K.In h) (I : ExAt x C h) (hq : Q (.done (.ret (.ref C))) ⟨h, g, d, t, os⟩) :
    wpAny (model prog w) A (Builtin.«object.__getattribute__» ⟨[.ref x, .str "__class__" tk], []⟩) Q E ⟨h, g, d, t, os⟩ := by
  have hT5 : (⟨h, g, d, t, os⟩ : Shared).TypeIs (.builtin "object.__class__") "getset_descriptor" := F.typeOf_object_class
  have f5 := F.typeOf_object_class
  have f6 := F.slot_gs_get.lookup
  have f7 := F.slot_gs_set.lookup
  have L0 := I.ty (M := model prog w)
  have L1 := looks_findIn (M := model prog w) X Z.fc
  repeat (any_goals (first | assumption | with_reducible refine Looks.at L0 ?_ | with_reducible refine Looks.at L1 ?_ | wp_step))
  refine exc_get Z X I ?_
  repeat (any_goals (first | assumption | wp_step))
theorem exc_by {tk : Tok} {Q : Value → Shared → Prop} (Z : ExcK K C) (X : K.In h) (I : ExAt x C h) (hq : Q (.ref C) ⟨h, g, d, t, os⟩) :
    wpAny (model prog w) A (getAttrBy (.ref x) (.str "__class__" tk) false) Q E ⟨h, g, d, t, os⟩ := by
  have f3 := F.excAttr_ValueError.ga.bind (.ref x)
  have L0 := I.ty (M := model prog w)
  have L1 := looks_findIn (M := model prog w) X Z.fg
  have L2 := looks_findIn (M := model prog w) X Z.fn
  have hx2 : (Value.builtin "BaseException.__getattribute__" == Value.builtin "object.__getattribute__") = false := by decide +kernel
  have hx1 : (onTheHeap (Value.ref C) && Value.builtin "BaseException.__getattribute__" == Value.builtin "object.__getattribute__") = false := by rw [hx2]; rfl
  repeat (any_goals (first | assumption | with_reducible refine Looks.at L0 ?_ | with_reducible refine Looks.at L1 ?_ | with_reducible refine Looks.at L2 ?_ | wp_step))
  refine codeAny_call_builtin F.excAttr_ValueError.ga.plain F.entry_bexc_ga (exc_check Z X I (exc_entry Z X I ?_))
  repeat (any_goals (first | assumption | wp_step))
theorem exc_class {Q : Option Value → Shared → Prop} (Z : ExcK K C) (X : K.In h) (I : ExAt x C h) (hq : Q (some (.ref C)) ⟨h, g, d, t + 1, os⟩) : wpAny (model prog w) A (getAttr? (.ref x) "__class__") Q E ⟨h, g, d, t, os⟩ := by
  unfold getAttr? getAttrBy?
  repeat (any_goals (first | assumption | with_reducible apply exc_by Z X I | wp_step))
theorem kitx_exc (Z : ExcK K C) : KitX K (.ref x) (.ref C) (ExAt x C) where
  ty := fun _ _ _ I => I.ty
  it := fun _ _ X _ => by
    have e := Z.fn
    unfold findIn at e
    dsimp only at e
    split at e
    · rename_i ho
      intro A' Q' E' s' k q
      unfold isType loadHead
      exact wpAny_bind (wpAny_loadPart (k _ _ (X _ _ ho)) (wpAny_pure q))
    · cases e
  ne := fun h tp dd its n sl X htp => by
    have e := Z.fn
    unfold findIn at e
    dsimp only at e
    split at e
    · rename_i ho
      refine Bool.eq_false_iff.mpr fun q => ?_
      have e : C = tp := Value.ref.inj (beq_iff_eq.mp q)
      subst e
      have z := (X _ _ ho).symm.trans htp
      cases z
    · cases e
  ca := fun {_ _ _ _ _ s} X I k => by
    obtain ⟨hh, gg, dd, tt, oo⟩ := s
    exact exc_class Z X I k
end
def exO (x C : Addr) : HO := .ext (ExAt x C)
theorem exO_ok {P : Program} {w : World} {H : Hp} {h : Heap} {x C : Addr} (p : ExAt x C h) : ObjOk P w H h x (exO x C) := by
  refine ⟨p, ?_, fun h1 h2 q k => ?_⟩
  · obtain ⟨o, e, _⟩ := p
    exact ⟨o, e⟩
  · obtain ⟨o, e, c⟩ := q
    exact ⟨o, k o e, c⟩
section
variable {X : Cx}
theorem call_ise : CallR X (.builtin "isinstance") (fun xs H Q => ∃ x D c b u, xs = [.ref x, c] ∧ Rd H x (exO x D) ∧ ExcK X.K D ∧ clsV c = some u ∧ kitOne X.K (.ref D) u = some b ∧ Q (.bl b) H) := by
  intro pins s σ H xs us Q I r h
  obtain ⟨x, D, c, b, u, rfl, hx, Z, rc, e, q⟩ := h
  obtain ⟨v, w', rfl, rx, rw'⟩ := vals2 r
  have ew : w' = u := by
    cases c with
    | ref a => cases rc; exact rw'
    | ty n => cases rc; exact rw'
    | non => cases rc
    | bl n => cases rc
    | int i => cases rc
    | str i => cases rc
    | byt i => cases rc
    | flt i => cases rc
  subst ew
  cases (show v = Value.ref x from rx)
  have hx : ExAt x D s.heap := by
    rcases hx with hx | ⟨o, hx⟩
    · exact (I.hok x _ hx).1
    · exact (I.hok x _ hx).2.1
  exact kia_one (kitx_exc Z) I.kIn hx e (fun z => nomatch z) fun tk => ⟨.bl b, H, I.tok tk, rfl, q⟩
end
end L2
namespace L2
open PySem PySem.Spec PyProof.Rows
structure RoomH (k : Nat) (A : Around) : Prop where
  dp : A.depth + 3 * k + 5 < recursionLimit
  un : A.units + 16 * k + 200 < cLine
theorem Room.toH {j k : Nat} {A : Around} (r : Room k A) (h : j ≤ k) (v : Option Value) : RoomH j (A.mark v) := ⟨by have := r.dp; show A.depth + 3 * j + 5 < _; omega, by have := r.un; show A.units + 16 * j + 200 < _; omega⟩
theorem RoomH.deeper {k : Nat} {A : Around} (r : RoomH (k + 1) A) (env : Env) : RoomH k (A.deeper env) :=
  ⟨by have := r.dp; show A.depth + 1 + 3 * k + 5 < _; omega, by have := r.un; show A.units + 3 + 16 * k + 200 < _; omega⟩
theorem RoomH.units {k : Nat} {A : Around} (r : RoomH k A) : A.units + 64 < cLine := by have := r.un; omega
theorem hu_ofH {A : Around} {k : Nat} (hr : RoomH k A) : A.units + 1 < cLine := by have := hr.un; omega
structure FnOkH (P : Program) (w : World) (K : PySem.W.Frag) (mg : Str → Option Value) (base : Heap) (k : Nat) (f : Addr) (fd : FuncData) (ps : List Str) (sp : Sp) : Prop where
  len : ∀ vs H Q E, sp vs H Q E → vs.length = ps.length
  run : ∀ (A : Around) (outer : List Env) (s : Shared) (H : Hp) (args : Args) (us : List Value) (vs : List V) (Q : VK) (E : XK), RoomH k A → Env0 P w K mg base A outer s H → BindsTo s fd args (ps.zip us) → Vals vs us → sp vs H Q E →
    codeAny (model P w) A (.call (.ref f) args) (CR CX0 outer P w H s Q E) s
abbrev Cx.loose (X : Cx) : Cx := { X with calm := false, xe := fun _ _ => False }
section
variable {P : Program} {w : World} {K : PySem.W.Frag} {mg : Str → Option Value} {base : Heap}
theorem Fun.okH {x qual : Str} {st : Stmt} {f : Addr} {fd : FuncData} {N ps : List Str} {k : Nat} {sp : Sp} (F : Fun K x qual st f fd) (S : FnScope N ps (defScope st)) (len : ∀ vs H Q E, sp vs H Q E → vs.length = ps.length)
    (hbody : ∀ (cdv : Value) (A : Around) (outer : List Env) (s : Shared) (H : Hp) (vs : List V) (Q : VK) (E : XK), RoomH k (A.deeper (envOfC qual (defScope st) s.heap.objs.size f cdv)) → sp vs H Q E →
      ∃ t, PSs (cxOf CX0 P w K mg base N qual (defScope st) f cdv A outer s H E).loose (defBody st) t ∧ t { nx := fun _ H' => Q .non H', rt := Q } (start N vs) H) : FnOkH P w K mg base (k + 1) f fd ps sp := by
  obtain ⟨oc, od, kV, doc, pm, an, cdv, ct, osl, rfl, lk, hcd⟩ := F.ex
  refine ⟨len, fun A outer s H args us vs Q E hr e0 hb r hsp => ?_⟩
  have KX : K.In s.heap := e0.mod.kin.keeps fun b o e => (e0.bs b o e).1
  have par : ∀ y ∈ ps.zip us, (defScope st).names.lookup y.1 = some .local ∨ ((defScope st).names.lookup y.1 = some .cell ∧ ((cellsFrom (s.heap.objs.size + 1) (defScope st).names []).lookup y.1).isSome = true) := fun y hy =>
    (S.par y.1 (List.of_mem_zip (show (y.1, y.2) ∈ ps.zip us from hy)).1).imp_right fun q => ⟨q, PySem.W.cellsFrom_some _ _ _ (.inl q)⟩
  refine codeAny_call_function (by have := hr.dp; omega) (KX _ _ lk) rfl S.co S.gen rfl (PySem.W.codeRec_of KX hcd) (hb _ _ _ _ (wpAny_newFunctionEnv_cells S.kind par fun env he s1 x => ?_))
  subst he
  refine ⟨(e0.mod.nolimit.keeps fun b o e => (e0.bs b o e).1).keeps x.toInCall.keep, codeAny_func ?_⟩
  obtain ⟨t, ht, hq⟩ := hbody cdv A outer s H vs Q E (hr.deeper _) hsp
  have I0 : Inv (cxOf CX0 P w K mg base N qual (defScope st) f cdv { A with handled := none } outer s H E) [] (start N vs) H s1 :=
    inv_start S rfl ⟨e0.frames, e0.mod, e0.bs, e0.bsz, e0.funs, e0.frf, e0.hok, e0.bare⟩ (len _ _ _ _ hsp) r x
  have o := I0.ok
  have I : Inv (cxOf CX0 P w K mg base N qual (defScope st) f cdv A outer s H E).loose [] (start N vs) H s1 :=
    ⟨⟨o.mod, o.kind, o.glob, o.blt, o.above, o.inj, o.has, o.cab, fun z => Bool.noConfusion z, Around.frames_deeper e0.frames, o.stk, o.exf, o.bs, o.bsz, o.noex, o.exfs, o.funs, o.frf⟩,
      I0.os, I0.bare, I0.base, I0.loc, I0.cell, I0.free, I0.freeC, I0.pin, I0.hok, I0.len⟩
  refine wpAny_mono (ht [] s1 (start N vs) H _ I hq) (fun fl s' hs => ?_) fun e s' hs => hs.elim
  match fl, hs with
  | .ret u, ⟨v, σ', H', J, rv, q⟩ => exact ⟨v, H', J.os, J.bare, J.base, J.hok, rv, q⟩
  | .next, ⟨σ', H', J, q⟩ => exact ⟨V.non, H', J.os, J.bare, J.base, J.hok, rfl, q⟩
  | .brk, ⟨_, _, _, q⟩ => exact q.elim
  | .cont, ⟨_, _, _, q⟩ => exact q.elim
end
section
variable {X : Cx} {k : Nat} {f : Addr} {fd : FuncData} {ps : List Str} {sp : Sp} {x : Str} {p pos : Pos} {e : Expr} {es : List Expr} {t : TA}
theorem pe_callH (F : FnOkH X.prog X.w X.K X.mg X.base k f fd ps sp) (hr : RoomH k X.A) (hg : Gl X x) (hm : X.mg x = some (.ref f)) (hk : PySem.W.keepIn X.K (.ref f) = true) (hb : Binds X.K fd ps []) (ha : PA X (e :: es) t)
    (hdb : (x == ("__debug__" : Str)) = false := by decide) (he : starEach (e :: es) X.env = (false, eval e X.env) :: starEach es X.env := by rfl) (hpl : (backTo pos (starEach es X.env)).any (·.1) = false := by rfl) :
    PE X (.Call (.Name x p) (e :: es) [] pos) (tCall sp [] E0 t) := by
  intro pins s σ H Q I h
  refine wpAny_Call_Name_kw (ld_glob I hg hm ?_ hdb)
  refine PySem.W.callWith_K (h₀ := X.base) I.ok.mod.kin hk (thn (ha pos pins s σ H _ I h) fun us s1 ⟨vs, H1, I1, r, q⟩ => ⟨I1.kIn, ?_⟩) he hpl
  have q : sp vs H1 Q E0 := by have z : sp (vs ++ []) H1 Q E0 := q; rw [List.append_nil] at z; exact z
  have hl : us.length = ps.length := r.length ▸ F.len _ _ _ _ q
  have hb' := hb s1 us I1.kIn (by rw [List.append_nil]; exact hl)
  rw [List.append_nil] at hb'
  refine wpAny_call (codeAny_mono (F.run X.A X.stack s1 H1 ⟨us, []⟩ us vs Q E0 hr I1.env0 hb' r q) fun r s' hq => ?_)
  match r, hq with
  | .error e, hq => exact hq.elim
  | .ok (.ret u), hq => exact I1.after hq
  | .ok .next, hq => exact hq.elim
  | .ok .brk, hq => exact hq.elim
  | .ok .cont, hq => exact hq.elim
end
section
variable {X : Cx}
theorem Inv.gone {pins : List (Addr × Obj)} {σ : St} {H : Hp} {s : Shared} {i : Nat} {n : Str} {m : Str → Option Value} {v : Option Value} {h' : Heap} {tk : Nat} (I : Inv X pins σ H s) (hN : X.N.Nodup) (hi : X.N[i]? = some n)
    (hm : s.heap.Ns X.env.locals m) (hl : ∀ (j : Nat) (x : Str) (v : V), X.N[j]? = some x → σ[j]? = some (some v) → Vis X.env.scope x → ∃ u, RelV v u ∧ Look X.env s.heap m x u)
    (hn : h'.Ns X.env.locals (fun x => if x = n then v else m x)) (hs : Heap.SameBut X.env.locals s.heap h') : Inv X pins (σ.set i none) H { s with heap := h', toks := tk } := by
  have apart : ∀ b o, X.s₀.heap.get? b = some o → b ≠ X.env.locals := fun b o e => Nat.ne_of_lt (Nat.lt_of_lt_of_le (Heap.lt_size e) I.ok.above)
  refine ⟨I.ok, I.os, I.bare, ⟨fun b o e q hb hx => (hs.2 b (apart b o e)).trans (I.base.keep b o e q hb hx), fun b o e q hb hx => ?_, I.base.free, fun b o e hx => ?_, I.base.tups, I.base.frzs, I.base.tbls⟩,
    ⟨_, hn, fun j y w' e1 e2 e3 => ?_⟩, fun y c e => ?_, I.free, I.freeC, fun p hp => ?_, fun b u e => ?_, by rw [List.length_set]; exact I.len⟩
  · obtain ⟨sl, z⟩ := I.base.slot b o e q hb hx
    exact ⟨sl, (hs.2 b (apart b o e)).trans z⟩
  · obtain ⟨o', z⟩ := I.base.there b o e hx
    exact ⟨o', (hs.2 b (apart b o e)).trans z⟩
  · have hj : i ≠ j := fun z => by
      subst z
      rw [List.getElem?_set] at e2
      split at e2
      · split at e2 <;> cases e2
      · rename_i q; exact q rfl
    rw [List.getElem?_set_ne hj] at e2
    obtain ⟨u, r, q⟩ := hl j y w' e1 e2 e3
    refine ⟨u, r, q.imp (fun q => ⟨q.1, ?_⟩) fun ⟨k, c, e, z⟩ => ⟨k, c, e, z.sameBut hs (I.cne y c e)⟩⟩
    have ny : y ≠ n := fun z => hj (nodup_ix hN hi (z ▸ e1))
    show (if y = n then v else m y) = _
    rw [if_neg ny]
    exact q.2
  · obtain ⟨u, z⟩ := I.cell y c e
    exact ⟨u, z.sameBut hs (I.cne y c e)⟩
  · obtain ⟨e, q, ne, r⟩ := I.pin p hp
    exact ⟨(hs.2 p.1 ne).trans e, q, ne, r⟩
  · refine (I.hok b u e).stay (fun c o hc q => (hs.2 c ?_).trans q) (fun _ q => q) fun _ _ q => q
    rintro rfl
    rcases hc with z | z
    · rw [← z, I.free] at e; cases e
    · rw [I.free] at z; cases z
def Ends.less (D : Ends) (i : Nat) : Ends := { nx := fun σ H => D.nx (σ.set i none) H, rt := D.rt, bk := fun σ H => D.bk (σ.set i none) H, ct := fun σ H => D.ct (σ.set i none) H }
def CatAs (K : PySem.W.Frag) (C : Addr) (i : Nat) (th : TS) (D : Ends) : St → XK := fun σ cls _ H => PySem.W.exmOne K cls (.ref C) = some true ∧ ∃ B, cls = .ref B ∧ ∀ y, H y = none → th (D.less i) (σ.set i (some (.ref y))) (upd H y (exO y B))
def tTryAs (K : PySem.W.Frag) (C : Addr) (i : Nat) (tb : (St → XK) → TS) (th : TS) : TS := fun D σ H => tb (CatAs K C i th D) D σ H
theorem ps_tryAs {body suite : List Stmt} {b₀ : Stmt} {x n : Str} {np hpos pos : Pos} {C : Addr} {i : Nat} {tb : (St → XK) → TS} {th : TS} (hs : X.stack = X.env :: X.outer) (hf : X.env.frame = some X.env.locals) (hg : Gl X x) (hm : X.mg x = some (.ref C))
    (hN : X.N.Nodup) (hi : X.N[i]? = some n) (hn : X.env.scope.names.lookup n = some .local)
    (hb : ∀ (pn : List (Addr × Obj)) (xe : Value → Shared → Prop) (R : St → XK), (∀ σ, PassAt (CX1 X.prog X.w) (X.kept2 pn xe) σ (R σ)) → PSs (X.kept2 pn xe) body (tb R))
    (hh : ∀ v : Value, PSs (X.inHandler v) (b₀ :: suite) th) (hdb : (x == ("__debug__" : Str)) = false := by decide) :
    PS X (.Try body [.ExceptHandler (some (.Name x np)) (some n) (b₀ :: suite) hpos] [] [] pos) (tTryAs X.K C i tb th) := by
  intro pins s σ H D I h
  refine wpAny_Try_except ?_
  have land : ∀ σ', PassAt (CX1 X.prog X.w) (X.kept2 (X.pn ++ pins) fun e s₁ => wpAny (model X.prog X.w) X.A (noteFrame e X.env) (fun _ s₂ => wpAny (model X.prog X.w) X.A (setFlight e none)
      (fun _ s₃ => wpAny (model X.prog X.w) X.A (handleBy e X.env [.ExceptHandler (some (.Name x np)) (some n) (b₀ :: suite) hpos]) (SP X pins D) X.xe s₃) X.xe s₂) X.xe s₁) σ' (CatAs X.K C i th D σ') := by
    intro σ' pins' H1 s1 e s2 I1 hc
    obtain ⟨y, cls, H2, rfl, os, bare, un, hok, fly, hcat, B, rfl, hth⟩ := hc
    have J1 : Inv X pins σ' H1 s1 := Inv.unkeep2 I.ok I1
    have J2 : Inv X pins σ' H2 s2 := J1.call' (ch := []) os un hok bare (fun b z => absurd z (by simp))
    obtain ⟨T, a0, hT0, hT, htr⟩ := fly.traced
    have hin : ∀ env ∈ X.env :: X.outer, ∀ a, env.frame = some a → a ∈ y :: T :: frs X.stack := fun env he a hf => .tail _ (.tail _ (by rw [hs]; exact mem_frs env he a hf))
    have fl0 : Heap.FlyingW (PySem.W.hideAll s2.heap (y :: T :: frs X.stack)) (X.env :: X.outer) y (.ref B) a0 s2.heap :=
      ⟨fun b o q => PySem.W.of_hideAll _ q, PySem.W.hideAll_none _ (.head _), PySem.W.funFrames_hide (hs ▸ J2.stack) hin, htr _ (.tail _ (.head _))⟩
    have on : ∀ h2 : Heap, (PySem.W.hideAll s2.heap (y :: T :: frs X.stack)).StaysIn h2 → s2.heap.UpToSlots h2 → Un (frs X.stack) [] H1 H2 s1.heap h2 ∧ HOk X.prog X.w H2 h2 := fun h2 k sm => by
      obtain ⟨u, ok, _⟩ := fly_on (fs := frs X.stack) (fr := frs X.stack) (bad := [y, T]) un hok (fun b hb => by
        rcases List.mem_cons.mp hb with z | hb
        · exact .inl (by rw [z]; exact .head _)
        · rcases List.mem_cons.mp hb with z | hb
          · exact .inl (by rw [z]; exact .tail _ (.head _))
          · exact .inr hb) (fun b hb => by
        rcases List.mem_cons.mp hb with z | hb
        · rw [z]; exact ⟨fly.1, fly.2.1⟩
        · have z : b = T := by simpa using hb
          rw [z]; exact ⟨hT0, hT⟩) (fun b hb => ⟨.inl hb, (J2.frm b hb).2⟩) (fun _ hb => hb) k sm
      exact ⟨u, ok⟩
    refine wpAny_looks_onW (by rw [I.ok.frames, hs]) hf fl0 fun h4 held4 sm4 => ?_
    refine wpAny_landsW held4 fun h5 fl5 sm5 => ?_
    have o5 := on h5 fl5.1 (sm4.trans sm5)
    have J5 : Inv X pins σ' H2 { s2 with heap := h5 } := J1.call' (s' := { s2 with heap := h5 }) (ch := []) os o5.1 o5.2 bare (fun b z => absurd z (by simp))
    refine wpAny_handleBy_cons (codeAny_handlers_test ?_) (by intro q; cases q)
    refine ld_glob (X := X.inHandler (.ref y)) (J5.inHandler (.ref y)) hg hm ?_ hdb
    obtain ⟨ob, hob, hoc⟩ := fl5.there
    refine (PySem.W.exm_one (M := model X.prog X.w) J5.kIn (show PySem.W.Looks _ h5 (typeOf (.ref y)) (.ref B) from ExAt.ty ⟨ob, hob, hoc⟩) hcat).here ?_
    refine codeAny_handlers_suite_as (lands_againW fl5 fun h6 fl6 sm6 => ?_)
    have o6 := on h6 fl6.1 ((sm4.trans sm5).trans sm6)
    obtain ⟨ob6, hob6, hoc6⟩ := fl6.there
    have ne : ∀ b o, H2 b = some o → b ≠ y := fun b o q z => by rw [z, fly.2.1] at q; cases q
    have un6 : Un (frs X.stack) [] H1 (upd H2 y (exO y B)) s1.heap h6 :=
      ⟨o6.1.keep, o6.1.slot, fun b o e q hx => by rw [upd_ne (fun z => by rw [z, fly.1] at e; cases e)]; exact o6.1.free b o e q hx, o6.1.there, fun b xs q => by rw [upd_ne (ne b _ (o6.1.tups b xs q))]; exact o6.1.tups b xs q,
        fun b o u q => by rw [upd_ne (ne b _ (o6.1.frzs b o u q))]; exact o6.1.frzs b o u q, fun b ps q => by
          obtain ⟨more, z⟩ := o6.1.tbls b ps q
          exact ⟨more, by rw [upd_ne (ne b _ z)]; exact z⟩⟩
    have ok6 : HOk X.prog X.w (upd H2 y (exO y B)) h6 := fun b o q => by
      by_cases z : b = y
      · subst z
        rw [upd_same] at q
        cases q
        exact exO_ok ⟨ob6, hob6, hoc6⟩
      · rw [upd_ne z] at q
        exact (o6.2 b o q).stay (fun _ _ _ e => e) (fun c e => by rw [upd_ne (ne c _ e)]; exact e) fun c xs e => by rw [upd_ne (ne c _ e)]; exact e
    have J6 : Inv X pins σ' (upd H2 y (exO y B)) { s2 with heap := h6 } := J1.call' (s' := { s2 with heap := h6 }) (ch := []) os un6 ok6 bare (fun b z => absurd z (by simp))
    refine store_ok (X := X.inHandler (.ref y)) (v := .ref y) (J6.inHandler (.ref y)) hN hi (.inl hn) rfl (fun s7 J7 => ?_) (.inr hn)
    refine wpAny_mono (hh (.ref y) pins s7 _ _ _ J7 (hth y fly.2.1)) (fun fl s8 q => ?_) fun _ _ z => z.elim
    have go : ∀ {σ8 : St} {H8 : Hp} {R : Unit → Shared → Prop}, Inv (X.inHandler (.ref y)) pins σ8 H8 s8 → (∀ s9, Inv X pins (σ8.set i none) H8 s9 → R () s9) → wpAny (model X.prog X.w) X.A (do bindName X.env n .none; unbindBehindTheSuite X.env n hpos) R X.xe s8 := by
      intro σ8 H8 R J8 hR
      have J := Inv.outHandler I.ok J8
      obtain ⟨m, hm8, hl8⟩ := J.loc
      exact wpAny_nameGoes_keeps hn hm8 (by rw [I.ok.kind]; rfl) fun h9 v hn9 hs9 => hR _ (J.gone hN hi hm8 hl8 hn9 hs9)
    match fl, q with
    | .next, ⟨σ8, H8, J8, q⟩ => exact go J8 fun s9 J9 => ⟨_, _, J9, q⟩
    | .brk, ⟨σ8, H8, J8, q⟩ => exact go J8 fun s9 J9 => ⟨_, _, J9, q⟩
    | .cont, ⟨σ8, H8, J8, q⟩ => exact go J8 fun s9 J9 => ⟨_, _, J9, q⟩
    | .ret u, ⟨v, σ8, H8, J8, rv, q⟩ => exact go J8 fun s9 J9 => ⟨v, _, _, J9, rv, q⟩
  refine wpAny_mono (hb _ _ _ land [] s σ H D (I.keep2 _) h) (fun fl s1 q => ?_) fun _ _ z => z
  have q' : SP X pins D fl s1 := q.imp fun σ H J => Inv.unkeep2 I.ok J
  cases fl with
  | next => exact wpAny_execs_nil q'
  | brk => exact q'
  | cont => exact q'
  | ret u => exact q'
theorem a_tryAs {K : PySem.W.Frag} {C : Addr} {i : Nat} {tb : (St → XK) → TS} {th : TS} {D : Ends} {σ : St} {H : Hp} (h : tb (CatAs K C i th D) D σ H) : tTryAs K C i tb th D σ H := h
theorem a_catAs {K : PySem.W.Frag} {C B : Addr} {i : Nat} {th : TS} {D : Ends} {σ : St} {o : Option Addr} {H : Hp} (h : PySem.W.exmOne K (.ref B) (.ref C) = some true) (q : ∀ y, H y = none → th (D.less i) (σ.set i (some (.ref y))) (upd H y (exO y B))) :
    CatAs K C i th D σ (.ref B) o H := ⟨h, B, rfl, q⟩
end
end L2
namespace Vc
open PySem L2 Sf
def rX : Rep Addr := fun F v B => ∃ a, v = .ref a ∧ Rd F a (exO a B)
theorem Le.exc {F F' : Hp} {a B : Addr} (e : Le F F') (h : Rd F a (exO a B)) : Rd F' a (exO a B) := e _ _ (by intro o w z; cases z) h
end Vc
namespace L2
open PySem PySem.Spec PyProof.Rows
def Ite (K : PySem.W.Frag) (a : Addr) : It :=
  ⟨fun i H => ∃ xs x, SqL K H a xs ∧ xs[i]? = some x, fun i H y H' => ∃ p x, y = .ref p ∧ H p = none ∧ (∀ xs, SqL K H a xs → xs[i]? = some x) ∧ H' = upd H p (.tup [.int i, x]), fun i H => ∃ xs, SqL K H a xs ∧ xs.length ≤ i⟩
theorem Inv.turned2 {X : Cx} {pins : List (Addr × Obj)} {σ : St} {H : Hp} {s : Shared} {h' : Heap} {t' : Nat} {a b : Addr} (I : Inv X pins σ H s) (k : ∀ c o, c ≠ a → c ≠ b → s.heap.get? c = some o → h'.get? c = some o)
    (ha : FpOk X pins H a) (hb : FpOk X pins H b) (ea : ∃ o, h'.get? a = some o) (eb : ∃ o, h'.get? b = some o) : Inv X pins σ H { s with heap := h', toks := t' } := by
  obtain ⟨a0, a1, a2, a3, a4, a5⟩ := ha
  obtain ⟨b0, b1, b2, b3, b4, b5⟩ := hb
  refine I.call' (s' := { s with heap := h', toks := t' }) (ch := [a, b]) rfl ⟨fun c o e _ _ hc => ?_, fun c o e _ _ hc => ⟨o.slots, ?_⟩, fun _ _ _ n _ => n, fun c o e hc => ⟨o, ?_⟩, fun _ _ q => q, fun _ _ _ q => q, fun _ ps q => ⟨#[], by rw [q]; simp⟩⟩ (fun c u e => ?_) I.bare (fun c hc => ?_)
  · exact k c o (fun z => hc (by simp [z])) (fun z => hc (by simp [z])) e
  · exact k c o (fun z => hc (by simp [z])) (fun z => hc (by simp [z])) e
  · exact k c o (fun z => hc (by simp [z])) (fun z => hc (by simp [z])) e
  · refine (I.hok c u e).stay (fun d o hd q => k d o ?_ ?_ q) (fun _ q => q) fun _ _ q => q
    · rintro rfl
      rcases hd with z | z
      · rw [← z, a0] at e; cases e
      · rw [a0] at z; cases z
    · rintro rfl
      rcases hd with z | z
      · rw [← z, b0] at e; cases e
      · rw [b0] at z; cases z
  · rcases List.mem_cons.mp hc with z | hc
    · rw [z]; exact ⟨a3, a1, a4, a5⟩
    · have z : c = b := by simpa using hc
      rw [z]; exact ⟨b3, b1, b4, b5⟩
theorem turn_enum {P : Program} {w : World} {K : PySem.W.Frag} {elts : List Expr} {x1 : Nat} {pos : Pos} (a it en : Addr) (hne : en ≠ it) :
    Turn P w K (.Tuple elts x1 pos) (Ite K a) [en, it] en (fun i h => (∃ old, IsEnum h en it i old) ∧ h.IsListIter it a i) where
  mem := by simp
  obj := fun i h st b hb => by
    obtain ⟨⟨old, e1⟩, o, e2, c, d⟩ := st
    rcases List.mem_cons.mp hb with z | hb
    · rw [z]; exact ⟨_, e1, fun v z => by cases z⟩
    · have z : b = it := by simpa using hb
      rw [z]; exact ⟨o, e2, fun v z => by rw [d] at z; cases z⟩
  keep := fun i h h' st k => by
    obtain ⟨⟨old, e1⟩, e2⟩ := st
    exact ⟨⟨old, k en (by simp) _ e1⟩, e2.at fun o e => k it (by simp) o e⟩
  item := by
    intro X hP hw hK hc i pins s σ H E I hf st hg
    subst hP hw hK
    obtain ⟨⟨old, he⟩, hit⟩ := st
    obtain ⟨xs, x, hq, hx⟩ := hg
    obtain ⟨its, rv, p, hz⟩ := I.list hq
    obtain ⟨u, hu, ru⟩ := rv.get hx
    have fe := hf en (by simp)
    have fi := hf it (by simp)
    refine wpAny_pyNext_enum_item he hit p.isList (x := u) (by simpa using hu) hne fun h' hout hit' hT hsz hk => ?_
    refine ⟨.ref s.heap.objs.size, rfl, wpAny_letOwnedTupleGo_enum hout fun h2 he2 hs => ?_⟩
    have le : en < s.heap.objs.size := Heap.lt_size he
    have li : it < s.heap.objs.size := let ⟨o, e, _⟩ := hit; Heap.lt_size e
    have hfr : H s.heap.objs.size = none := I.hok.fresh (Nat.le_refl _)
    have ne1 : en ≠ s.heap.objs.size := Nat.ne_of_lt le
    have ne2 : it ≠ s.heap.objs.size := Nat.ne_of_lt li
    have I1 := I.laid (a := s.heap.objs.size) (o := .tup [.int i, x]) (h' := s.heap.push { cls := .type "tuple", data := .seq #[.int i s.toks, u] }) (t' := s.toks) (fun b q hq => Heap.get?_push_of_some _ hq) (Nat.le_refl _)
      ⟨by show 2 ≤ sizeLine; decide, [.int i s.toks, u], .cons ⟨_, rfl⟩ (.cons ru .nil), ⟨_, Heap.get?_push_size _ rfl, rfl, _, rfl⟩⟩
    have up : ∀ {b : Addr}, b ≠ s.heap.objs.size → FpOk X pins H b → FpOk X pins (upd H s.heap.objs.size (.tup [.int i, x])) b := fun hb f => ⟨by rw [upd_ne hb]; exact f.1, f.2⟩
    have hk2 : ∀ b q, b ≠ en → b ≠ it → (s.heap.push { cls := .type "tuple", data := .seq #[.int i s.toks, u] }).get? b = some q → h2.get? b = some q := fun b q h1 h3 hq => by
      refine hs.extBut b q h1 ?_
      rcases Heap.get?_push_cases hq with ⟨hbs, eq⟩ | hq
      · subst hbs
        subst eq
        exact hT
      · exact hk b q h1 h3 hq
    obtain ⟨oi, ei, ci, di⟩ := hit'
    have hit2 : h2.IsListIter it a (i + 1) := ⟨oi, hs.extBut it oi (Ne.symm hne) ei, ci, di⟩
    refine ⟨.ref s.heap.objs.size, upd H s.heap.objs.size (.tup [.int i, x]), ?_, rfl, ⟨_, x, rfl, hfr, fun ys hy => by rw [I.list_inj hy hq]; exact hx, rfl⟩, ⟨⟨_, he2⟩, hit2⟩, fun b hb => ?_⟩
    · exact Inv.turned2 (s := { s with heap := s.heap.push { cls := .type "tuple", data := .seq #[.int i s.toks, u] }, toks := s.toks }) (t' := s.toks + 1) I1 hk2 (up ne1 fe) (up ne2 fi) ⟨_, he2⟩ ⟨oi, hs.extBut it oi (Ne.symm hne) ei⟩
    · rcases List.mem_cons.mp hb with z | hb
      · rw [z, upd_ne ne1]; exact fe.1
      · have z : b = it := by simpa using hb
        rw [z, upd_ne ne2]; exact fi.1
  done := by
    intro X hP hw hK hc i pins s σ H E I hf st hg
    subst hP hw hK
    obtain ⟨⟨old, he⟩, hit⟩ := st
    obtain ⟨xs, hq, hx⟩ := hg
    obtain ⟨its, rv, p, hz⟩ := I.list hq
    have hl := rv.length
    obtain ⟨f0, f1, f2, f3, f4, f5⟩ := hf it (by simp)
    exact wpAny_pyNext_enum_end (I.ok.hd hc) he hit p.isList (by simp; omega) fun h' eb => ⟨rfl, I.turned (t' := s.toks) (fun b o hb e => eb b o hb e) f0 f1 f3 f4 f5⟩
  self := fun _ _ _ _ _ st h => let ⟨⟨_, he⟩, _⟩ := st; wpAny_pyIter_enum he h
section
variable {X : Cx}
def iEnum (K : PySem.W.Frag) (ta : TA) : TI := fun σ H R => ta σ H fun vs H1 => ∃ a, vs = [.ref a] ∧ (∃ xs, SqL K H1 a xs) ∧ R (Ite K a) H1
theorem pi_enum {l : Expr} {ta : TA} {elts : List Expr} {x1 : Nat} {tpos p pos : Pos} (hg : Gl X "enumerate") (hm : X.mg "enumerate" = none) (ha : PA X [l] ta) (hs : starEach [l] X.env = [(false, eval l X.env)] := by rfl) :
    PI X (.Tuple elts x1 tpos) (.Call (.Name "enumerate" p) [l] [] pos) (iEnum X.K ta) := by
  intro pins s σ H R I h
  refine Call_ (ld_blt I hg hm (u := .type "enumerate") rfl (PyProof.Rows.callWith_type1 (thn (ha pos pins s σ H _ I h) fun us s1 ⟨vs, H1, I1, r1, a, e, ⟨xs, hq⟩, q⟩ => ?_) hs rfl))
  subst e
  cases r1 with
  | cons r rr =>
    cases rr
    cases r
    obtain ⟨its, rv, p, hz⟩ := I1.list hq
    refine call_enumerate_list p.isList fun h' hE hit hsz hk => wpAny_pyIter_enum hE ?_
    have ne : s1.heap.objs.size + 1 ≠ s1.heap.objs.size := by omega
    refine ⟨s1.heap.objs.size + 1, [s1.heap.objs.size + 1, s1.heap.objs.size], _, _, H1, rfl, I1.kept (t' := s1.toks) hk, turn_enum a _ _ ne, ⟨⟨_, hE⟩, hit⟩, fun b hb => ?_, q⟩
    rcases List.mem_cons.mp hb with z | hb
    · rw [z]; exact I1.fpOk (by omega) (I1.hok.fresh (by omega))
    · have z : b = s1.heap.objs.size := by simpa using hb
      rw [z]; exact I1.fpOk (Nat.le_refl _) (I1.hok.fresh (Nat.le_refl _))
end
theorem a_ienum {K : PySem.W.Frag} {ta : TA} {σ : St} {H : Hp} {R : It → Hp → Prop} (h : ta σ H fun vs H1 => ∃ a, vs = [.ref a] ∧ (∃ xs, SqL K H1 a xs) ∧ R (Ite K a) H1) : iEnum K ta σ H R := h
theorem for_enum {K : PySem.W.Frag} {a : Addr} {xs : List V} {g : TG} {tb : TS} {D : Ends} {σ : St} {H : Hp} (Pv : Nat → St → Hp → Prop) (h0 : Pv 0 σ H)
    (hl : ∀ i σ H, i ≤ xs.length → Pv i σ H → SqL K H a xs)
    (hs : ∀ i x σ H p, xs[i]? = some x → Pv i σ H → H p = none → g (.ref p) σ (upd H p (.tup [.int i, x])) fun σ2 H2 => tb { D with nx := Pv (i + 1), ct := Pv (i + 1), bk := D.nx } σ2 H2) (hd : ∀ σ H, Pv xs.length σ H → D.nx σ H) :
    ∃ W : Nat → Nat → St → Hp → Prop, (∃ m, W 0 m σ H) ∧ ∀ i m σ H, W i m σ H →
      ((Ite K a).stop i H ∧ D.nx σ H) ∨ ((Ite K a).go i H ∧ ∃ N : St → Hp → Prop, (∀ σ' H', N σ' H' → ∃ m', m' < m ∧ W (i + 1) m' σ' H') ∧ ∀ x H', (Ite K a).yld i H x H' → g x σ H' fun σ2 H2 => tb { D with nx := N, ct := N, bk := D.nx } σ2 H2) := by
  refine ⟨fun i m σ H => m = xs.length - i ∧ i ≤ xs.length ∧ Pv i σ H, ⟨xs.length, by simp, Nat.zero_le _, h0⟩, ?_⟩
  rintro i m σ H ⟨rfl, hi, p⟩
  have q := hl i σ H hi p
  rcases Nat.lt_or_ge i xs.length with hlt | hge
  · refine .inr ⟨⟨xs, xs[i], q, by simp [hlt]⟩, Pv (i + 1), fun σ' H' p' => ⟨xs.length - (i + 1), by omega, rfl, hlt, p'⟩, fun y H' z => ?_⟩
    obtain ⟨pa, x, rfl, e2, e3, rfl⟩ := z
    exact hs i x σ H pa (e3 xs q) p e2
  · obtain rfl : i = xs.length := by omega
    exact .inl ⟨⟨xs, q, hge⟩, hd σ H p⟩
end L2
namespace L2
open PySem PySem.Spec PyProof.Rows
section
variable {X : Cx}
end
end L2
namespace L2
theorem a_yes {σ : St} {H : Hp} {R : Bool → Hp → Prop} (h : R true H) : tYes σ H R := h
theorem sizeLine_big : 1000000 ≤ PySem.sizeLine := by decide
end L2
namespace Vc
open PySem L2 Sf
end Vc
namespace L2
open PySem PySem.Spec PyProof.Rows
section
variable {X : Cx}
end
section
variable {g : TG} {ti : TT} {te : TE} {ix : List (Option Nat)} {σ : St} {Q : VK}
end
end L2
namespace L2
open PySem PySem.Spec PyProof.Rows
section
variable {X : Cx}
end
end L2
namespace Vc
open PySem L2 Sf
end Vc
namespace L2
end L2
namespace L2
open PySem PySem.Spec PyProof.Rows
section
variable {X : Cx}
end
section
variable {σ : St} {H : Hp} {Q : VK}
theorem a_bm {K : PySem.W.Frag} {T : String} {r : V → List V → Hp → VK → Prop} {to : TE} {t : TA} (h : to σ H fun x H1 => tyV K T x H1 ∧ t σ H1 fun xs H2 => r x xs H2 Q) : tBM K T r to t σ H Q := h
theorem a_app {l : Addr} {xs : List V} {y : V} (h : H l = some (.lst xs)) (hz : xs.length < sizeLine) (q : Q .non (upd H l (.lst (xs ++ [y])))) : rAppend (.ref l) [y] H Q := ⟨l, xs, y, rfl, rfl, h, hz, q⟩
end
section
variable {g : TG} {ti : TT} {te : TE} {ix : List (Option Nat)} {σ : St} {Q : VK}
end
end L2
namespace Vc
open PySem L2 Sf
section
variable {X : Cx} {pins : List (Addr × Obj)} {σ : St} {H : Hp} {s : Shared} {Au : Around}
theorem rn_lsts {a b : Addr} {xs ys : List V} (I : Inv X pins σ H s) (h1 : SqL X.K H a xs) (h2 : SqL X.K H b ys) (hu : Au.units < cLine) (hl : xs.length = ys.length) (e : Nat → Bool)
    (he : ∀ (j : Nat) x y u v, xs[j]? = some x → ys[j]? = some y → RelV x u → RelV y v → SeqAt.EqAt Au.in1 s u v (e j)) : SeqAt.RcNeAt Au s (.ref a) (.ref b) (!(List.range xs.length).all e) := by
  obtain ⟨us, r1, t1, _⟩ := I.list h1
  obtain ⟨ws, r2, t2, _⟩ := I.list h2
  have l1 := r1.length
  have l2 := r2.length
  have z := SeqAt.RcNeAt.lists (A := Au) (e := e) t1.isList t2.isList (by simp; omega) hu (fun j h1 h2 => ?_)
  · have e0 : (List.range us.toArray.size).all e = (List.range xs.length).all e := by
      simp only [List.size_toArray]
      rw [← l1]
    rw [e0] at z
    exact z
  · simp only [List.size_toArray] at h1 h2
    obtain ⟨u, e1, ru⟩ := r1.get (i := j) (x := xs[j]'(by omega)) (by simp)
    obtain ⟨v, e2, rv⟩ := r2.get (i := j) (x := ys[j]'(by omega)) (by simp)
    obtain ⟨_, f1⟩ := List.getElem?_eq_some_iff.mp e1
    obtain ⟨_, f2⟩ := List.getElem?_eq_some_iff.mp e2
    have g1 : us.toArray[j]'(by simpa using h1) = u := by simpa using f1
    have g2 : ws.toArray[j]'(by simpa using h2) = v := by simpa using f2
    rw [g1, g2]
    exact he j _ _ u v (by simp) (by simp) ru rv
end
section
variable {X : Cx}
end
theorem Al.strs {F : Hp} : ∀ {vs : List V} {xs : List Str}, Al rS F vs xs → vs = xs.map V.str
  | [], [], _ => rfl
  | v :: vs, x :: xs, h => by rw [List.map_cons, ← Al.strs h.2]; exact congrArg (· :: vs) h.1
  | [], _ :: _, h => h.elim
  | _ :: _, [], h => h.elim
theorem inV_strs (x : Str) : ∀ xs : List Str, inV (.str x) (xs.map V.str) = decide (x ∈ xs)
  | [] => by rw [decide_eq_false (by simp)]; rfl
  | y :: r => by
    have ih := inV_strs x r
    unfold inV at ih ⊢
    rw [List.map_cons, List.any_cons, ih]
    by_cases e : y = x
    · subst e
      rw [show eqV (.str y) (.str y) = true from eqV_refl rfl, Bool.true_or, decide_eq_true (by simp)]
    · have h1 : eqV (.str y) (.str x) = false := by
        show (y == x) = false
        simpa using e
      rw [h1, Bool.false_or]
      by_cases m : x ∈ r
      · rw [decide_eq_true m, decide_eq_true (List.mem_cons_of_mem _ m)]
      · rw [decide_eq_false m, decide_eq_false]
        intro z
        rcases List.mem_cons.mp z with z | z
        · exact e z.symm
        · exact m z
theorem flat_strs : ∀ xs : List Str, (xs.map V.str).all flatV = true
  | [] => rfl
  | y :: r => by rw [List.map_cons, List.all_cons, flat_strs r]; rfl
theorem a_inS {K : PySem.W.Frag} {F H : Hp} {Q : VK} {p : Addr} {vs : List V} {xs : List Str} {x : Str} (h : SqL K H p vs) (al : Al rS F vs xs) (q : Q (.bl (decide (x ∈ xs))) H) : rIn K false (.str x) (.ref p) H Q := by
  refine ⟨p, vs, rfl, .inl h, rfl, ?_, ?_⟩
  · rw [al.strs]; exact flat_strs xs
  · rw [al.strs, if_neg (by simp), inV_strs]; exact q
end Vc
namespace Vc
open PySem L2 Sf
def ownL {α : Type} (A : Rep α) (F H H' : Hp) (v : V) (r : List α) : Prop := ∃ p vs, v = .ref p ∧ H p = none ∧ H' p = some (.lst vs) ∧ F p = none ∧ Al A F vs r
theorem tyV_lst {K : PySem.W.Frag} {H : Hp} {p : Addr} {xs : List V} (h : H p = some (.lst xs)) : tyV K "list" (.ref p) H := by
  exact .inl ⟨rfl, xs, SqL.of h⟩
theorem cutA_most {α : Type} (xs : List α) (a b : Nat) : (cutA xs (some (a : Int)) (some (b : Int))).length ≤ b - a := by
  unfold cutA
  rw [HT.sIx_nat, HT.sIx_nat, List.length_take, List.length_drop]
  omega
theorem map_take_succ {α β : Type} {xs : List α} {i : Nat} {x : α} (f : α → β) (hx : xs[i]? = some x) : (xs.take (i + 1)).map f = (xs.take i).map f ++ [f x] := by
  rw [List.take_add_one, hx, List.map_append]
  rfl
theorem getD_of {α : Type} {xs : List α} {n : Nat} {x d : α} (h : xs[n]? = some x) : xs.getD n d = x := by rw [List.getD_eq_getElem?_getD, h]; rfl
end Vc
namespace L2
open PySem PySem.Spec PyProof.Rows
end L2
namespace Vc
open PySem L2 Sf
end Vc
namespace L2
open PySem PySem.Spec PyProof.Rows
section
variable {X : Cx}
theorem vals_strs {us : List Value} {ks : List Str} (h : StrsAre us ks) : Vals (ks.map V.str) us := by
  induction h with
  | nil => exact .nil
  | cons _ _ _ ih => exact .cons ⟨_, rfl⟩ ih
end
section
variable {X : Cx}
end
section
variable {X : Cx}
end
end L2
namespace Vc
open PySem L2 Sf
theorem str_lt_anti {a b : List Nat} (h1 : ¬ a < b) (h2 : ¬ b < a) : a = b := by
  rw [List.not_lt] at h1 h2
  exact List.le_antisymm h2 h1
theorem sortedS_pw : ∀ (l : List Str), PyProof.Rows.sortedS l = true → l.Pairwise (fun a b => ¬ b.cps.toList < a.cps.toList)
  | [], _ => .nil
  | x :: r, h => by
    have tr : ∀ a b c : List Nat, ¬ b < a → ¬ c < b → ¬ c < a := fun a b c h1 h2 => by
      rw [List.not_lt] at h1 h2 ⊢
      exact List.le_trans h1 h2
    have gen : ∀ (r : List Str) (p : Str), PyProof.Rows.risingS p r = true → (p :: r).Pairwise (fun a b => ¬ b.cps.toList < a.cps.toList) := by
      intro r
      induction r with
      | nil => intro p _; exact List.pairwise_singleton _ _
      | cons y t ih =>
        intro p h
        have h' : (!PySem.Spec.ltCps y.cps.toList p.cps.toList && PyProof.Rows.risingS y t) = true := h
        rw [Bool.and_eq_true, PyProof.Rows.ltCps_eq] at h'
        have h1 : ¬ y.cps.toList < p.cps.toList := by simpa using h'.1
        have w := ih y h'.2
        refine List.pairwise_cons.mpr ⟨fun b hb => ?_, w⟩
        rcases List.mem_cons.mp hb with e | hb
        · rw [e]; exact h1
        · exact tr _ _ _ h1 ((List.pairwise_cons.mp w).1 b hb)
    exact gen r x h
theorem sorted_one {a b : List Str} (h1 : PyProof.Rows.sortedS a = true) (h2 : PyProof.Rows.sortedS b = true) (p : a.Perm b) : a = b := by
  refine List.Perm.eq_of_pairwise (le := fun a b => ¬ b.cps.toList < a.cps.toList) (fun x y _ _ e1 e2 => ?_) (sortedS_pw a h1) (sortedS_pw b h2) p
  have := str_lt_anti e2 e1
  cases x; cases y
  simpa using this
theorem al_strs {F : Hp} : ∀ {xs : List Str}, Al rS F (xs.map V.str) xs
  | [] => True.intro
  | _ :: _ => ⟨rfl, al_strs⟩
noncomputable def srt (ks : List Str) : List Str := Classical.epsilon fun l => l.Perm ks ∧ PyProof.Rows.sortedS l = true
theorem srt_of {ks l : List Str} (h : l.Perm ks) (g : PyProof.Rows.sortedS l = true) : l = srt ks := by
  have := Classical.epsilon_spec (p := fun l : List Str => l.Perm ks ∧ PyProof.Rows.sortedS l = true) ⟨l, h, g⟩
  exact sorted_one g this.2 (h.trans this.1.symm)
section
variable {K : PySem.W.Frag} {F H : Hp} {Q : VK}
end
end Vc
namespace Vc
open PySem L2 Sf
theorem srt_ex (ks : List Str) : ∃ l : List Str, l.Perm ks ∧ PyProof.Rows.sortedS l = true := by
  have e : ∃ l : List Str, l.Perm ks ∧ PyProof.Rows.sortedS l = true := by
    refine ⟨ks.mergeSort (fun a b => !decide (b.cps.toList < a.cps.toList)), List.mergeSort_perm _ _, PyProof.Rows.sortedS_of_pairwise _ ?_⟩
    have := List.pairwise_mergeSort (le := fun a b : Str => !decide (b.cps.toList < a.cps.toList)) (fun a b c h1 h2 => by
      have h1' : ¬ b.cps.toList < a.cps.toList := by simpa using h1
      have h2' : ¬ c.cps.toList < b.cps.toList := by simpa using h2
      rw [List.not_lt] at h1' h2'
      have := List.not_lt.mpr (List.le_trans h1' h2')
      simpa using this) (fun a b => by
      rcases List.le_total a.cps.toList b.cps.toList with h | h
      · have := List.not_lt.mpr h
        simp [this]
      · have := List.not_lt.mpr h
        simp [this]) ks
    refine this.imp fun h => ?_
    rw [PyProof.Rows.ltCps_eq]
    simpa using h
  exact e
theorem srt_len (ks : List Str) : (srt ks).length = ks.length := (Classical.epsilon_spec (srt_ex ks)).1.length_eq
end Vc
namespace L2
open PySem PySem.Spec PyProof.Rows
structure FunD (K : PySem.W.Frag) (x qual : Str) (st : Stmt) (f : Addr) (fd : FuncData) (ds : List Value) : Prop where
  ex : ∃ (oc : Value) (od : Option Addr) (kV doc pm : Value) (an : Option Addr) (cdv ct : Value) (osl : Array (Option Value)) (T : Addr) (o : Obj) (n : Nat),
    fd = PySem.W.fnOf x qual (defArgs st) (defBody st) (defScope st) (.ref T) kV doc pm an cdv ct ∧ K.lookup f = some ⟨oc, od, .func fd, osl⟩ ∧ PySem.W.codeIn K cdv qual = true ∧ K.lookup T = some o ∧ o.data = .seq ds.toArray n
  kp : PySem.W.keepIn K (.ref f) = true
section
variable {P : Program} {w : World} {K : PySem.W.Frag} {mg : Str → Option Value} {base : Heap}
theorem FunD.ok1 {x qual : Str} {st : Stmt} {f : Addr} {fd : FuncData} {ds : List Value} {N ps : List Str} {k : Nat} {sp : Sp} (F : FunD K x qual st f fd ds) (S : FnScope N ps (defScope st)) (len : ∀ vs H Q E, sp vs H Q E → vs.length = ps.length)
    (hbody : ∀ (cdv : Value) (A : Around) (outer : List Env) (s : Shared) (H : Hp) (vs : List V) (Q : VK) (E : XK), Room k (A.deeper (envOfC qual (defScope st) s.heap.objs.size f cdv)) → sp vs H Q E →
      ∃ t, PSs (cxOf (CX1 P w) P w K mg base N qual (defScope st) f cdv A outer s H E) (defBody st) t ∧ t { nx := fun _ H' => Q .non H', rt := Q } (start N vs) H) : FnOk P w K mg base (CX1 P w) (k + 1) f fd ps sp := by
  obtain ⟨oc, od, kV, doc, pm, an, cdv, ct, osl, T, o, n, rfl, lk, hcd, _⟩ := F.ex
  exact fn_of lk hcd S len fun A outer s H vs Q E hr hsp => hbody cdv A outer s H vs Q E hr hsp
theorem FunD.binds {x qual : Str} {st : Stmt} {f : Addr} {fd : FuncData} {ps : List Str} {ds ds' : List Value} (F : FunD K x qual st f fd ds)
    (h : ∀ (T : Addr) (kV doc pm : Value) (an : Option Addr) (cdv ct : Value) (us : List Value), (us ++ ds').length = ps.length → ∃ k : Option (Array Value) → Sem (List (Str × Value)),
      bindArgs (PySem.W.fnOf x qual (defArgs st) (defBody st) (defScope st) (.ref T) kV doc pm an cdv ct) ⟨us, []⟩ = (seqItems? (.ref T) >>= k) ∧ k (some ds.toArray) = pure (ps.zip (us ++ ds'))) : Binds K fd ps ds' := by
  obtain ⟨oc, od, kV, doc, pm, an, cdv, ct, osl, T, o, n, rfl, lk, hcd, lT, hT⟩ := F.ex
  intro s us X hl
  obtain ⟨k, h1, h2⟩ := h T kV doc pm an cdv ct us hl
  exact BindsTo.of_defaults (T := T) (o := o) rfl (X _ _ lT) hT h1 h2
end
section
variable {g : TG} {ti : TT} {te : TE} {ix : List (Option Nat)} {σ : St} {Q : VK}
end
end L2
namespace Vc
open PySem L2 Sf
def r4 (K : PySem.W.Frag) {α β γ δ : Type} (A : Rep α) (B : Rep β) (C : Rep γ) (D : Rep δ) : Rep (α × β × γ × δ) := fun F v x => ∃ a v1 v2 v3 v4, v = .ref a ∧ SqT K F a [v1, v2, v3, v4] ∧ A F v1 x.1 ∧ B F v2 x.2.1 ∧ C F v3 x.2.2.1 ∧ D F v4 x.2.2.2
instance {K : PySem.W.Frag} {α β γ δ : Type} {A : Rep α} {B : Rep β} {C : Rep γ} {D : Rep δ} [Mo A] [Mo B] [Mo C] [Mo D] : Mo (r4 K A B C D) := ⟨fun e ⟨a, v1, v2, v3, v4, h1, h2, h3, h4, h5, h6⟩ => ⟨a, v1, v2, v3, v4, h1, e.tup h2, Mo.mo e h3, Mo.mo e h4, Mo.mo e h5, Mo.mo e h6⟩⟩
section
variable {K : PySem.W.Frag} {F H : Hp} {Q : VK}
theorem a_inC {p : Addr} {xs : List Str} {x : Str} (h : SqT K H p (xs.map V.str)) (q : Q (.bl (decide (x ∈ xs))) H) : rIn K false (.str x) (.ref p) H Q := by
  refine ⟨p, xs.map V.str, rfl, .inr h, rfl, flat_strs xs, ?_⟩
  rw [if_neg (by simp), inV_strs]; exact q
end
end Vc
namespace L2
open PySem PySem.Spec PyProof.Rows
def RnW (P : Program) (w : World) (A : Around) (s : Shared) (u v : Value) : Prop := ∀ (E : Value → Shared → Prop) (Q : Value → Shared → Prop), Q (.bool false) s → wpAny (model P w) A (richCompare .NotEq u v) Q E s
section
variable {P : Program} {w : World} {A : Around} {s : Shared}
section
open PySem.AutoSeq1 (wpAny_loadPart')
theorem tupNW (a b : Addr) (xs ys : Array Value) (n m : Nat) (da db : Option Addr) (sa sb : Array (Option Value)) (hz : xs.size = ys.size) :
    MeetsIn P w (Builtin.«tuple.__ne__» ⟨[.ref a, .ref b], []⟩) (fun A R s => s.heap.get? a = some ⟨.type "tuple", da, .seq xs n, sa⟩ ∧ s.heap.get? b = some ⟨.type "tuple", db, .seq ys m, sb⟩ ∧
      (∀ j (h1 : j < xs.size) (h2 : j < ys.size), EqW P w A.in1 s xs[j] ys[j]) ∧ R (.ok (.ret (.bool false))) s) := by
  refine .of_wp fun A R s h => ?_
  obtain ⟨hp, g, d, tk, os⟩ := s
  obtain ⟨ha, hb, he, hR⟩ := h
  have sub := AutoSeq1.sub_tuple_tuple
  have len : (xs.toList.zip ys.toList).length = xs.size := by simp; omega
  wp_walk using wpAny_loadPart' ha, wpAny_loadPart' hb, wpAny_forIn_list _ (fun r c s' => c.1 = none ∧ s' = ⟨hp, g, d, tk, os⟩ ∧ ∃ i, r = (xs.toList.zip ys.toList).drop i) _
  case turn =>
    rintro ⟨x, y⟩ r c s' ⟨hc, rfl, i, hr⟩
    by_cases lt : i < (xs.toList.zip ys.toList).length
    · rw [List.drop_eq_getElem_cons lt] at hr
      injection hr with e1 e2
      have i1 : i < xs.size := by omega
      have i2 : i < ys.size := by omega
      obtain ⟨ex, ey⟩ : x = xs[i] ∧ y = ys[i] := by
        have z := Prod.mk.inj (e1.trans List.getElem_zip)
        exact ⟨by simpa using z.1, by simpa using z.2⟩
      subst ex ey
      refine wpAny_bind (he i i1 i2 _ _ ?_)
      wp_walk
      exact ⟨rfl, rfl, i + 1, e2⟩
    · rw [List.drop_of_length_le (by omega)] at hr
      cases hr
  case fin =>
    rintro ⟨c1, c2⟩ s' ⟨hc, rfl, _⟩
    simp only at hc
    subst hc
    wp_walk
    refine ⟨_, rfl, ?_⟩
    simpa [Builtin.Tuple.tupleCompareSizes, hz] using hR
  case h => exact ⟨rfl, rfl, 0, rfl⟩
end
theorem RnW.tuples {a b : Addr} {xs ys : Array Value} (ha : IsTup s.heap a xs) (hb : IsTup s.heap b ys) (hz : xs.size = ys.size) (hu : A.units < cLine) (he : ∀ j (h1 : j < xs.size) (h2 : j < ys.size), EqW P w A.in1 s xs[j] ys[j]) : RnW P w A s (.ref a) (.ref b) := fun E Q q => by
  obtain ⟨⟨ca, da, xa, sa⟩, oa, ka, n, va⟩ := id ha
  obtain ⟨⟨cb, db, xb, sb⟩, ob, kb, m, vb⟩ := id hb
  simp only at ka va kb vb
  subst ka va kb vb
  refine wpAny_richCompare_same_room (op := .NotEq) (T := "tuple") ⟨_, oa, rfl⟩ ⟨_, ob, rfl⟩ PySem.F.slot_tuple_ne ?_ hu
  exact call_meetsIn PySem.F.slot_tuple_ne ⟨_, oa, rfl⟩ PySem.F.entry_tuple_ne (PySem.F.args_tuple_ne_2 _ _) (tupNW a b xs ys n m da db sa sb hz) ⟨oa, ob, he, ⟨(fun z => nomatch z), q⟩⟩
section
open PySem.AutoSeq1 (wpAny_loadPart')
open PySem.MeetsSeq PySem.MeetsSeq2 PySem.MeetsSeq3 PySem.SeqRoads2 PySem.SeqAt
theorem lstLoopNW (a b : Addr) (xs ys : Array Value) (n m : Nat) (da db : Option Addr) (sa sb : Array (Option Value)) (hz : xs.size = ys.size) : ∀ (k i : Nat), xs.size - i = k →
    MeetsIn P w (Builtin.«list.__eq__.loop» ⟨[.ref a, .ref b, rawInt i, rawInt 3], []⟩) (fun A R s => s.heap.get? a = some ⟨.type "list", da, .seq xs n, sa⟩ ∧ s.heap.get? b = some ⟨.type "list", db, .seq ys m, sb⟩ ∧
      (∀ j (h1 : j < xs.size) (h2 : j < ys.size), EqW P w A.in1 s xs[j] ys[j]) ∧ R (.ok (.ret (.bool false))) s)
  | 0, i, hk => fun A R s h => by
    obtain ⟨hp, g, d, tk, os⟩ := s
    obtain ⟨ha, hb, he, hR⟩ := h
    wp_walk using wpAny_loadPart' ha, wpAny_loadPart' hb
    have z1 : xs[((i : Nat) : Int).toNat]? = none := by simp; omega
    have z2 : ys[((i : Nat) : Int).toNat]? = none := by simp; omega
    rw [z1, z2]
    wp_walk using wpAny_loadPart' ha, wpAny_loadPart' hb
    show R (.ok (.ret (.bool (xs.size != ys.size)))) _
    rw [hz, bne_self_eq_false]
    exact hR
  | k + 1, i, hk => fun A R s h => by
    obtain ⟨hp, g, d, tk, os⟩ := s
    obtain ⟨ha, hb, he, hR⟩ := h
    wp_walk using wpAny_loadPart' ha, wpAny_loadPart' hb
    have i1 : i < xs.size := by omega
    have i2 : i < ys.size := by omega
    have z1 : xs[((i : Nat) : Int).toNat]? = some xs[i] := by simp [i1]
    have z2 : ys[((i : Nat) : Int).toNat]? = some ys[i] := by simp [i2]
    rw [z1, z2]
    refine wpAny_bind (he i i1 i2 _ _ ?_)
    wp_walk
    have up : ((i : Int) + 1) = ((i + 1 : Nat) : Int) := Int.natCast_succ i
    rw [up]
    refine ⟨plainId_quiet plain_eq_loop _, codeAny_builtin entry_eq_loop ?_⟩
    rw [Around.under_plainId plain_eq_loop _]
    exact lstLoopNW a b xs ys n m da db sa sb hz k (i + 1) (by omega) A R _ ⟨ha, hb, he, hR⟩
theorem lstNW (a b : Addr) (xs ys : Array Value) (n m : Nat) (da db : Option Addr) (sa sb : Array (Option Value)) (hz : xs.size = ys.size) :
    MeetsIn P w (Builtin.«list.__ne__» ⟨[.ref a, .ref b], []⟩) (fun A R s => s.heap.get? a = some ⟨.type "list", da, .seq xs n, sa⟩ ∧ s.heap.get? b = some ⟨.type "list", db, .seq ys m, sb⟩ ∧
      (∀ j (h1 : j < xs.size) (h2 : j < ys.size), EqW P w A.in1 s xs[j] ys[j]) ∧ R (.ok (.ret (.bool false))) s) := fun A R s h => by
  obtain ⟨hp, g, d, tk, os⟩ := s
  obtain ⟨ha, hb, he, hR⟩ := h
  have sub := AutoSeq1.sub_list_list
  have same : ¬ (xs.size != ys.size) = true := by simp [hz]
  wp_walk using wpAny_loadPart' ha, wpAny_loadPart' hb
  refine ⟨plainId_quiet plain_eq_loop _, codeAny_builtin entry_eq_loop ?_⟩
  rw [Around.under_plainId plain_eq_loop _]
  exact lstLoopNW a b xs ys n m da db sa sb hz _ 0 rfl A R _ ⟨ha, hb, he, hR⟩
end
theorem RnW.lists {a b : Addr} {xs ys : Array Value} (ha : s.heap.IsList a xs) (hb : s.heap.IsList b ys) (hz : xs.size = ys.size) (hu : A.units < cLine) (he : ∀ j (h1 : j < xs.size) (h2 : j < ys.size), EqW P w A.in1 s xs[j] ys[j]) : RnW P w A s (.ref a) (.ref b) := fun E Q q => by
  obtain ⟨⟨ca, da, xa, sa⟩, oa, ka, n, va⟩ := id ha
  obtain ⟨⟨cb, db, xb, sb⟩, ob, kb, m, vb⟩ := id hb
  simp only at ka va kb vb
  subst ka va kb vb
  refine wpAny_richCompare_same_room (op := .NotEq) (T := "list") ⟨_, oa, rfl⟩ ⟨_, ob, rfl⟩ PySem.F.slot_list_ne ?_ hu
  exact call_meetsIn PySem.F.slot_list_ne ⟨_, oa, rfl⟩ PySem.F.entry_list_ne (PySem.F.args_list_ne_2 _ _) (lstNW a b xs ys n m da db sa sb hz) ⟨oa, ob, he, ⟨(fun z => nomatch z), q⟩⟩
end
section
variable {X : Cx} {pins : List (Addr × Obj)} {σ : St} {H : Hp} {s : Shared}
end
section
variable {X : Cx}
end
end L2
namespace Vc
open PySem L2 Sf
section
variable {K : PySem.W.Frag} {F H : Hp} {Q : VK}
end
def DeepA (F H0 : Hp) (vs : List V) : Prop := ∀ u ∈ vs, ∃ t d xs kvs, u = V.ref t ∧ F t = some (.tup (V.ref d :: xs)) ∧ F d = some (.dK kvs) ∧ H0 d = none
theorem DeepA.same {F F' H0 : Hp} {vs : List V} (h : DeepA F H0 vs) (s : Same F F') : DeepA F' H0 vs := fun u hu => by
  obtain ⟨t, d, xs, kvs, e, h1, h2, h3⟩ := h u hu
  exact ⟨t, d, xs, kvs, e, s _ _ h1, s _ _ h2, h3⟩
theorem DeepA.nil {F H0 : Hp} : DeepA F H0 [] := fun u hu => nomatch hu
theorem DeepA.snoc {F H0 : Hp} {vs : List V} {t d : Addr} {xs : List V} {kvs : List (Key × V)} (h : DeepA F H0 vs) (h1 : F t = some (.tup (V.ref d :: xs))) (h2 : F d = some (.dK kvs)) (h3 : H0 d = none) : DeepA F H0 (vs ++ [V.ref t]) := fun u hu => by
  rcases List.mem_append.mp hu with z | z
  · exact h u z
  · rw [List.mem_singleton.mp z]; exact ⟨t, d, xs, kvs, rfl, h1, h2, h3⟩
def DeepH (H Hb F : Hp) (vs : List V) : Prop := ∀ u ∈ vs, ∃ t d xs kvs, u = V.ref t ∧ H t = some (.tup (V.ref d :: xs)) ∧ H d = some (.dK kvs) ∧ Hb d = none ∧ F d = none
theorem DeepA.h {F F0 H H0 Hb : Hp} {vs : List V} (h : DeepA F H0 vs) (s : Same F H) (sb : Same Hb H0) (sf : Same F0 H0) : DeepH H Hb F0 vs := fun u hu => by
  obtain ⟨t, d, xs, kvs, e, h1, h2, h3⟩ := h u hu
  exact ⟨t, d, xs, kvs, e, s _ _ h1, s _ _ h2, sb.free h3, sf.free h3⟩
theorem DeepH.upd {H Hb F : Hp} {vs : List V} {d : Addr} (h : DeepH H Hb F vs) {kv : List (Key × V)} (hd : H d = some (.dK kv)) : DeepH (upd H d (.dK [])) Hb F vs := fun u hu => by
  obtain ⟨t, d', xs, kvs, e, h1, h2, h3, h4⟩ := h u hu
  have n1 : t ≠ d := fun z => by rw [z, hd] at h1; cases h1
  by_cases z : d' = d
  · subst z
    exact ⟨t, d', xs, [], e, by rw [upd_ne n1]; exact h1, upd_same, h3, h4⟩
  · exact ⟨t, d', xs, kvs, e, by rw [upd_ne n1]; exact h1, by rw [upd_ne z]; exact h2, h3, h4⟩
theorem gr_updN {Fb Hb F H : Hp} {p : Addr} {o : HO} (gb : Gr0 Fb Hb F H) (hb : Hb p = none) (hf : F p = none) : Gr0 Fb Hb F (upd H p o) := ⟨gb.h.updN hb, gb.f, gb.s.updN hf, gb.n⟩
end Vc
namespace L2
open PySem PySem.Spec PyProof.Rows
section
variable {X : Cx}
end
section
variable {X : Cx}
end
end L2
namespace Vc
open PySem L2 Sf
abbrev Grid := List (List Str)
def Sq (H Hb F : Hp) (p : Addr) (rs : List Addr) (g : Grid) : Prop :=
  H p = some (.lst (rs.map V.ref)) ∧ F p = none ∧ rs.length = g.length ∧ rs.Nodup ∧ ∀ (i : Nat) r row, rs[i]? = some r → g[i]? = some row → H r = some (.lst (row.map V.str)) ∧ Hb r = none ∧ F r = none
def gset (g : Grid) (i j : Nat) (x : Str) : Grid := g.set i ((g.getD i []).set j x)
theorem Sq.at {H Hb F : Hp} {p : Addr} {rs : List Addr} {g : Grid} (h : Sq H Hb F p rs g) {i : Nat} (hi : i < g.length) : ∃ r row, rs[i]? = some r ∧ g[i]? = some row ∧ H r = some (.lst (row.map V.str)) ∧ Hb r = none ∧ F r = none := by
  have h1 : rs[i]? = some (rs[i]'(by have := h.2.2.1; omega)) := by simp
  have h2 : g[i]? = some g[i] := by simp [hi]
  exact ⟨_, _, h1, h2, h.2.2.2.2 i _ _ h1 h2⟩
theorem Sq.set {H Hb F : Hp} {p r : Addr} {rs : List Addr} {g : Grid} {i j : Nat} {row : List Str} {x : Str} (h : Sq H Hb F p rs g) (hr : rs[i]? = some r) (hg : g[i]? = some row) : Sq (upd H r (.lst ((row.map V.str).set j (V.str x)))) Hb F p rs (gset g i j x) := by
  obtain ⟨a, b, c, d, e⟩ := h
  obtain ⟨e1, e2, e3⟩ := e i r row hr hg
  have npr : p ≠ r := fun z => by
    rw [z, e1] at a
    have a' : row.map V.str = rs.map V.ref := by injection a with a; injection a
    cases rs with
    | nil => cases hr
    | cons q t => cases row with
      | nil => cases a'
      | cons y u => rw [List.map_cons, List.map_cons] at a'; injection a' with z1 _; cases z1
  refine ⟨by rw [upd_ne npr]; exact a, b, by unfold gset; rw [List.length_set]; exact c, d, fun k q w h1 h2 => ?_⟩
  unfold gset at h2
  by_cases hk : k = i
  · subst hk
    rw [hr] at h1
    cases h1
    rw [List.getElem?_set_self (List.getElem?_eq_some_iff.mp hg).1, getD_of hg] at h2
    cases h2
    exact ⟨by rw [upd_same, List.map_set], e2, e3⟩
  · rw [List.getElem?_set_ne (Ne.symm hk)] at h2
    obtain ⟨f1, f2, f3⟩ := e k q w h1 h2
    have nq : q ≠ r := fun z => hk ((List.getElem?_inj (List.getElem?_eq_some_iff.mp h1).1 d).mp (by rw [h1, hr, z]))
    exact ⟨by rw [upd_ne nq]; exact f1, f2, f3⟩
def SqA (H Hb F : Hp) (rs : List Addr) (n : Nat) : Prop := rs.Nodup ∧ ∀ r ∈ rs, H r = some (.lst (List.replicate n (V.str "."))) ∧ Hb r = none ∧ F r = none
theorem SqA.nil {H Hb F : Hp} {n : Nat} : SqA H Hb F [] n := ⟨List.nodup_nil, fun _ h => nomatch h⟩
theorem SqA.snoc {H Hb F Fb : Hp} {rs : List Addr} {n : Nat} {p1 p2 : Addr} {o1 : HO} (h : SqA H Hb F rs n) (gb : Gr0 Fb Hb F H) (hp1 : H p1 = none) (hp2 : upd H p1 o1 p2 = none) :
    SqA (upd (upd H p1 o1) p2 (.lst (List.replicate n (V.str ".")))) Hb F (rs ++ [p2]) n ∧ Gr0 Fb Hb F (upd (upd H p1 o1) p2 (.lst (List.replicate n (V.str ".")))) := by
  have n12 : p2 ≠ p1 := fun z => by rw [z, upd_same] at hp2; cases hp2
  have hp2' : H p2 = none := by rw [upd_ne n12] at hp2; exact hp2
  have g1 := gr_updN (o := o1) gb (gb.h.free hp1) (gb.s.free hp1)
  have g2 := gr_updN (o := .lst (List.replicate n (V.str "."))) g1 (gb.h.free hp2') (gb.s.free hp2')
  refine ⟨⟨?_, fun r hr => ?_⟩, g2⟩
  · rw [List.nodup_append]
    refine ⟨h.1, by simp, fun a ha b hb => ?_⟩
    rw [List.mem_singleton.mp hb]
    rintro rfl
    have := (h.2 a ha).1
    rw [hp2'] at this; cases this
  · rcases List.mem_append.mp hr with z | z
    · obtain ⟨a, b, c⟩ := h.2 r z
      have m1 : r ≠ p1 := fun z => by rw [z, hp1] at a; cases a
      have m2 : r ≠ p2 := fun z => by rw [z, hp2'] at a; cases a
      exact ⟨by rw [upd_ne m2, upd_ne m1]; exact a, b, c⟩
    · rw [List.mem_singleton.mp z]
      exact ⟨upd_same, gb.h.free hp2', gb.s.free hp2'⟩
theorem Sq.of {H Hb F Fb : Hp} {rs : List Addr} {n m : Nat} {p : Addr} (h : SqA H Hb F rs n) (gb : Gr0 Fb Hb F H) (hp : H p = none) (hl : rs.length = m) :
    Sq (upd H p (.lst (rs.map V.ref))) Hb F p rs (List.replicate m (List.replicate n ".")) ∧ Gr0 Fb Hb F (upd H p (.lst (rs.map V.ref))) := by
  refine ⟨⟨upd_same, gb.s.free hp, by rw [List.length_replicate]; exact hl, h.1, fun i r row h1 h2 => ?_⟩, gr_updN gb (gb.h.free hp) (gb.s.free hp)⟩
  have hr := List.mem_of_getElem? h1
  obtain ⟨a, b, c⟩ := h.2 r hr
  have hrow : row = List.replicate n (("." : Str)) := List.eq_of_mem_replicate (List.mem_of_getElem? h2)
  have ne : r ≠ p := fun z => by rw [z, hp] at a; cases a
  exact ⟨by rw [upd_ne ne, hrow, List.map_replicate]; exact a, b, c⟩
instance {K : PySem.W.Frag} {α β γ δ : Type} {A : Rep α} {B : Rep β} {C : Rep γ} {D : Rep δ} {n m k l : Nat} [Et K A n] [Et K B m] [Et K C k] [Et K D l] : Et K (r4 K A B C D) (n + m + k + l + 1) :=
  ⟨fun wd ⟨a, v1, v2, v3, v4, h1, h2, h3, h4, h5, h6⟩ ⟨b, w1, w2, w3, w4, g1, g2, g3, g4, g5, g6⟩ => .inr ⟨a, b, _, _, h1, g1, .inl ⟨wd.tup h2, wd.tup g2⟩, eqT_mono (Et.et wd h3 g3) (by omega), eqT_mono (Et.et wd h4 g4) (by omega), eqT_mono (Et.et wd h5 g5) (by omega), eqT_mono (Et.et wd h6 g6) (by omega), True.intro⟩⟩
structure ZSs (X : Cx) (st : List Stmt) (t : TS) : Prop where
  h : PSs X st t
structure ZS (X : Cx) (st : Stmt) (t : TS) : Prop where
  h : PS X st t
structure ZE (X : Cx) (e : Expr) (t : TE) : Prop where
  h : PE X e t
structure ZA (X : Cx) (e : List Expr) (t : TA) : Prop where
  h : PA X e t
end Vc
namespace L2
open PySem PySem.Spec PyProof.Rows
section
variable {prog : Program} {w : World} {κ : Type} [DecidableEq κ] {kn : KeyKind prog w κ} {A : Around} {E : Value → Shared → Prop} {s : Shared}
end
section
variable {X : Cx}
end
end L2
namespace L2
open PySem PySem.Spec PyProof.Rows
section
variable {prog : Program} {w : World} {A : Around} {E : Value → Shared → Prop} {s : Shared}
end
section
variable {X : Cx}
end
section
variable {X : Cx}
end
end L2
namespace Vc
open PySem L2
section
variable {X : Cx} {pins : List (Addr × Obj)} {σ : St} {H : Hp} {s : Shared} {Au : Around}
open Sf in
end
section
variable {X : Cx}
end
end Vc
namespace L2
open PySem PySem.Spec PyProof.Rows
section
variable {X : Cx}
def rCatS (K : PySem.W.Frag) : R2 := fun x y H Q => ∃ l b xs zs, x = .ref l ∧ y = .ref b ∧ SqL K H l xs ∧ SqL K H b zs ∧ xs.length + zs.length ≤ sizeLine ∧ ∀ p, H p = none → Q (.ref p) (upd H p (.lst (xs ++ zs)))
theorem op_catS : OpR X (binaryOp .Add) (rCatS X.K) := by
  intro pins s σ H x y v u Q I rx ry h
  obtain ⟨l, b, xs, zs, rfl, rfl, hH, hB, hz, q⟩ := h
  cases rx
  cases ry
  obtain ⟨its, r, p1, z1⟩ := I.list hH
  obtain ⟨its2, r2, p2, z2⟩ := I.list hB
  have n1 := r.length
  have n2 := r2.length
  obtain ⟨⟨c1, d1, t1, sl1⟩, ho, hc, n, hd⟩ := p1.isList
  obtain ⟨⟨c2, d2, t2, sl2⟩, ho2, hc2, m, hd2⟩ := p2.isList
  simp only at hc hd hc2 hd2
  subst hc hd hc2 hd2
  refine concat_meets ⟨_, ho, rfl⟩ ⟨_, ho2, rfl⟩ noFill_list_add seq_list_add PySem.F.slot_list_add PySem.F.entry_list_add (PySem.F.args_list_add_2 _ _) (list_addW l b its.toArray its2.toArray n m d1 d2 sl1 sl2 (by simp; omega)) ⟨ho, ho2, ?_⟩
  rw [show its.toArray ++ its2.toArray = (its ++ its2).toArray by simp]
  exact ⟨.ref _, _, I.lnew (t' := s.toks) (r.append r2) (by rw [List.length_append]; omega), rfl, q _ I.fresh⟩
theorem call_intB : CallR X (.type "int") (fun xs H Q => ∃ b, xs = [.bl b] ∧ Q (.int (if b = true then 1 else 0)) H) := by
  intro pins s σ H xs us Q I r h
  obtain ⟨b, rfl, q⟩ := h
  obtain ⟨u, rfl, ru⟩ := vals1 r
  cases ru
  exact call_int_bool ⟨.int _, H, I.tok _, ⟨_, rfl⟩, q⟩
def rIseT (K : PySem.W.Frag) : List V → Hp → VK → Prop := fun xs H Q => ∃ (x D t : Addr) (cs : List Addr) (b : Bool), xs = [.ref x, .ref t] ∧ Rd H x (exO x D) ∧ ExcK K D ∧ SqT K H t (cs.map V.ref) ∧ PySem.W.kitAny K (.ref D) (cs.map Value.ref) = some b ∧ Q (.bl b) H
theorem call_iseT : CallR X (.builtin "isinstance") (rIseT X.K) := by
  intro pins s σ H xs us Q I r h
  obtain ⟨x, D, t, cs, b, rfl, hx, Z, ht, e, q⟩ := h
  obtain ⟨v, w', rfl, rx, rw'⟩ := vals2 r
  cases (show v = Value.ref x from rx)
  cases (show w' = Value.ref t from rw')
  have hx : ExAt x D s.heap := by
    rcases hx with hx | ⟨o, hx⟩
    · exact (I.hok x _ hx).1
    · exact (I.hok x _ hx).2.1
  obtain ⟨us, r1, pt, hsz⟩ := I.tuple ht
  have eu : us = cs.map Value.ref := by
    clear e ht q pt hsz
    induction cs generalizing us with
    | nil => cases r1; rfl
    | cons c cs ih => cases r1 with
      | cons a b => rw [List.map_cons, ih _ b]; exact congrArg (· :: _) a
  subst eu
  obtain ⟨⟨c1, d1, t1, sl1⟩, ho, hc, n, hd⟩ := pt
  simp only at hc hd
  subst hc hd
  exact PySem.W.kia_tup (kitx_exc Z) I.kIn hx ho e (fun z => nomatch z) fun tk => ⟨.bl b, H, I.tok tk, rfl, q⟩
end
end L2
namespace L2
open PySem
abbrev V.u : Int ⊕ Str → V
  | .inl n => .int n
  | .inr x => .str x
end L2
namespace Vc
open PySem L2
abbrev rU : Rep (Int ⊕ Str) := fun _ v u => v = V.u u
instance : Mo rU := ⟨fun _ h => h⟩
section
variable {X : Cx}
def rNeE (K : PySem.W.Frag) : R2 := fun x y H Q => ∃ p q xs, x = .ref p ∧ y = .ref q ∧ SqL K H p xs ∧ SqL K H q [] ∧ Q (.bl (!decide (xs.length = 0))) H
theorem op_neE (hu : X.A.units + 64 < cLine) : OpR X (compareOp .NotEq) (rNeE X.K) := by
  intro pins s σ H x y v u Q I rx ry h
  obtain ⟨p, q, xs, rfl, rfl, h1, h2, hq⟩ := h
  cases rx
  cases ry
  by_cases hl : xs.length = 0
  · have z := rn_lsts (Au := X.A) I h1 h2 (by omega) hl (fun _ => true) (fun j x y u v e _ _ _ => by rw [List.getElem?_eq_none (by omega)] at e; cases e)
    rw [hl] at z
    rw [decide_eq_true hl] at hq
    exact z X.prog X.w X.xe _ ⟨.bl _, H, I, rfl, hq⟩
  · rw [decide_eq_false hl] at hq
    obtain ⟨us, r1, t1, _⟩ := I.list h1
    obtain ⟨zs, r2, t2, _⟩ := I.list h2
    have m1 := r1.length
    have m2 : 0 = zs.length := r2.length
    exact SeqAt.RcNeAt.lists_lengths (A := X.A) t1.isList t2.isList (by simp; omega) (by omega) X.prog X.w X.xe _ ⟨.bl true, H, I, rfl, hq⟩
end
theorem chgX {Fb Hb F H : Hp} {p : Addr} {o : HO} (gb : Gr0 Fb Hb F H) (hb : Hb p = none) (hf : F p = none) : Gr0 Fb Hb F (upd H p o) ∧ (upd H p o) p = some o ∧ ∀ a, a ≠ p → (upd H p o) a = H a :=
  chg (R := fun U => Gr0 Fb Hb F U ∧ U p = some o ∧ ∀ a, a ≠ p → U a = H a) gb hb hf fun _ a b c => ⟨a, b, c⟩
end Vc
namespace Vc
open PySem L2
def hid (a b : Addr) (H : Hp) : Hp := fun x => if x = a ∨ x = b then none else H x
end Vc
namespace L2
end L2
namespace Vc
open PySem L2 Sf
def rOF (K : PySem.W.Frag) : Rep (Option Rat) := fun F v o => match o with
  | none => v = .non
  | some q => rFr K F v q
instance {K : PySem.W.Frag} : Mo (rOF K) := ⟨fun {F F' v x} le h => by
  cases x with
  | none => exact h
  | some q => exact Mo.mo (A := rFr K) le h⟩
instance {K : PySem.W.Frag} : Et K rU 0 := ⟨fun {F H v w x} _ h g => by
  have h : v = V.u x := h
  have g : w = V.u x := g
  subst h; subst g
  cases x <;> exact ⟨rfl, rfl⟩⟩
end Vc
namespace L2
open PySem
def Ris (xs : Array Nat) : Prop := ∀ i j (hj : j < xs.size) (hi : i < j), xs[i]'(Nat.lt_trans hi hj) < xs[j]
theorem below_go (xs : Array Nat) (j : Nat) (hR : Ris xs) : ∀ (fuel lo hi : Nat), hi - lo ≤ fuel → lo ≤ hi → hi ≤ xs.size → (∀ i (h : i < xs.size), i < lo → xs[i] < j) → (∀ i (h : i < xs.size), hi ≤ i → j ≤ xs[i]) →
    SetTable.below.go xs j fuel lo hi ≤ xs.size ∧ (∀ i (h : i < xs.size), i < SetTable.below.go xs j fuel lo hi → xs[i] < j) ∧ (∀ i (h : i < xs.size), SetTable.below.go xs j fuel lo hi ≤ i → j ≤ xs[i]) := by
  intro fuel
  induction fuel with
  | zero => intro lo hi h1 h2 h3 h4 h5; unfold SetTable.below.go; exact ⟨by omega, h4, fun i h e => h5 i h (by omega)⟩
  | succ f ih =>
    intro lo hi h1 h2 h3 h4 h5
    unfold SetTable.below.go
    by_cases hl : lo < hi
    · rw [if_pos hl]
      dsimp only
      have hm : (lo + hi) / 2 < xs.size := by omega
      have eg : xs.getD ((lo + hi) / 2) j = xs[(lo + hi) / 2] := by rw [Array.getD_eq_getD_getElem?, Array.getElem?_eq_getElem hm]; rfl
      rw [eg]
      by_cases hx : xs[(lo + hi) / 2] < j
      · rw [if_pos hx]
        refine ih _ _ (by omega) (by omega) h3 (fun i h e => ?_) h5
        by_cases z : i = (lo + hi) / 2
        · subst z; exact hx
        · exact Nat.lt_trans (hR i _ hm (by omega)) hx
      · rw [if_neg hx]
        refine ih _ _ (by omega) (by omega) (by omega) h4 fun i h e => ?_
        by_cases z : i = (lo + hi) / 2
        · subst z; omega
        · have := hR ((lo + hi) / 2) i h (by omega); omega
    · rw [if_neg hl]; exact ⟨by omega, h4, fun i h e => h5 i h (by omega)⟩
theorem below_spec {xs : Array Nat} (hR : Ris xs) (j : Nat) : SetTable.below xs j ≤ xs.size ∧ (∀ i (h : i < xs.size), i < SetTable.below xs j → xs[i] < j) ∧ (∀ i (h : i < xs.size), SetTable.below xs j ≤ i → j ≤ xs[i]) :=
  below_go xs j hR _ _ _ (by omega) (by omega) (Nat.le_refl _) (fun i h e => by omega) (fun i h e => by omega)
theorem below_at {xs : Array Nat} (hR : Ris xs) {i : Nat} (h : i < xs.size) : SetTable.below xs (xs[i] + 1) = i + 1 := by
  obtain ⟨a, b, c⟩ := below_spec hR (xs[i] + 1)
  have h1 : ¬ SetTable.below xs (xs[i] + 1) ≤ i := fun z => by have := c i h z; omega
  by_cases z : i + 1 < SetTable.below xs (xs[i] + 1)
  · have h2 : i + 1 < xs.size := by omega
    have := b (i + 1) h2 z
    have := hR i (i + 1) h2 (by omega)
    omega
  · omega
theorem below_zero {xs : Array Nat} (hR : Ris xs) : SetTable.below xs 0 = 0 := by
  obtain ⟨a, b, c⟩ := below_spec hR 0
  by_cases z : 0 < SetTable.below xs 0
  · have := b 0 (by omega) z; omega
  · omega
theorem ris_insert {xs : Array Nat} (hR : Ris xs) {j : Nat} (hn : xs[SetTable.below xs j]? ≠ some j) : Ris (SetTable.insertAt xs (SetTable.below xs j) j) := by
  obtain ⟨a, b, c⟩ := below_spec hR j
  generalize SetTable.below xs j = p at *
  have hs : (SetTable.insertAt xs p j).size = xs.size + 1 := by unfold SetTable.insertAt; simp; omega
  have at' : ∀ i, (SetTable.insertAt xs p j)[i]? = if i < p then xs[i]? else if i = p then some j else xs[i - 1]? := by
    intro i
    unfold SetTable.insertAt
    have hx : ((xs.extract 0 p).push j).size = p + 1 := by simp; omega
    rw [Array.getElem?_append]
    rw [hx]
    by_cases h1 : i < p
    · rw [if_pos (by omega), if_pos h1, Array.getElem?_push_lt (by simp; omega)]
      simp [Array.getElem_extract]
    · rw [if_neg h1]
      by_cases h2 : i = p
      · rw [if_pos (by omega), if_pos h2]
        have : (xs.extract 0 p).size = i := by simp; omega
        rw [← this, Array.getElem?_push_size]
      · rw [if_neg (by omega), if_neg h2]
        rw [Array.getElem?_extract]
        have e : p + (i - (p + 1)) = i - 1 := by omega
        rw [e]
        by_cases h3 : i - (p + 1) < min xs.size xs.size - p
        · rw [if_pos h3]
        · rw [if_neg h3, Array.getElem?_eq_none (by omega)]
  have strict : ∀ i (h : i < xs.size), p ≤ i → j < xs[i] := by
    intro i h hp
    have h0 : p < xs.size := by omega
    have h1 := c p h0 (Nat.le_refl _)
    have h2 : xs[p] ≠ j := fun z => hn (by rw [Array.getElem?_eq_getElem h0, z])
    by_cases z : i = p
    · subst z; omega
    · have := hR p i h (by omega); omega
  intro i k hk hi
  have gi := at' i
  have gk := at' k
  rw [Array.getElem?_eq_getElem (by omega)] at gi
  rw [Array.getElem?_eq_getElem hk] at gk
  rw [hs] at hk
  by_cases k1 : k < p
  · rw [if_pos k1, Array.getElem?_eq_getElem (by omega)] at gk
    rw [if_pos (by omega), Array.getElem?_eq_getElem (by omega)] at gi
    rw [Option.some.inj gi, Option.some.inj gk]; exact hR i k (by omega) hi
  · rw [if_neg k1] at gk
    by_cases k2 : k = p
    · rw [if_pos k2] at gk
      rw [if_pos (by omega), Array.getElem?_eq_getElem (by omega)] at gi
      rw [Option.some.inj gi, Option.some.inj gk]; exact b i (by omega) (by omega)
    · rw [if_neg k2, Array.getElem?_eq_getElem (by omega)] at gk
      rw [Option.some.inj gk]
      by_cases i1 : i < p
      · rw [if_pos i1, Array.getElem?_eq_getElem (by omega)] at gi
        rw [Option.some.inj gi]; exact hR i (k - 1) (by omega) (by omega)
      · rw [if_neg i1] at gi
        by_cases i2 : i = p
        · rw [if_pos i2] at gi
          rw [Option.some.inj gi]; exact strict (k - 1) (by omega) (by omega)
        · rw [if_neg i2, Array.getElem?_eq_getElem (by omega)] at gi
          rw [Option.some.inj gi]; exact hR (i - 1) (k - 1) (by omega) (by omega)
theorem ris_list {l : List Nat} (h : l.Pairwise (· < ·)) : Ris l.toArray := by
  intro i j hj hi
  have := List.pairwise_iff_getElem.mp h i j (by simpa using Nat.lt_trans hi hj) (by simpa using hj) hi
  simpa using this
theorem ris_range (n : Nat) : Ris (Array.range n) := by
  intro i j hj hi
  simp only [Array.getElem_range]; exact hi
theorem ris_empty : Ris #[] := fun i j hj hi => absurd hj (by simp)
theorem probe_free {t : SetTable} {hf : Nat → Int} {h : Int} : ∀ (fuel : Nat) (p : SetTable.Probe), (∀ d, p.dummy = some d → t.place[SetTable.below t.place d]? ≠ some d) →
    ∀ j d, SetTable.probe.go t hf h fuel p = some (.empty j d) → t.place[SetTable.below t.place (d.getD j)]? ≠ some (d.getD j) := by
  intro fuel
  induction fuel with
  | zero => intro p _ j d e; unfold SetTable.probe.go at e; cases e
  | succ f ih =>
    intro p hp j d e
    unfold SetTable.probe.go at e
    have nl : (t.slot p.j = .empty ∨ t.slot p.j = .dummy) → t.place[SetTable.below t.place p.j]? ≠ some p.j := by
      intro z q
      unfold SetTable.slot at z
      dsimp only at z
      rw [if_pos (by rw [q]; exact beq_self_eq_true _)] at z
      rcases z with z | z <;> cases z
    have adv : ∀ q : SetTable.Probe, (t.advance q).dummy = q.dummy := fun q => by unfold SetTable.advance; split <;> rfl
    split at e
    · rename_i hs
      cases e
      cases q : p.dummy with
      | none => exact nl (.inl hs)
      | some d => exact hp d q
    · rename_i hs
      refine ih _ (fun d q => ?_) j d e
      rw [adv] at q
      cases q
      exact nl (.inr hs)
    · rename_i i hs
      split at e
      · cases e
      · refine ih _ (fun d q => hp d (by rw [adv] at q; exact q)) j d e
theorem free_slot {t : SetTable} {h : Int} {s : Nat} {b : Bool} (e : t.freeSlot h = some (s, b)) : t.place[SetTable.below t.place s]? ≠ some s := by
  unfold SetTable.freeSlot at e
  split at e
  · rename_i j d q
    cases e
    exact probe_free _ _ (fun d z => by cases z) j d q
  · cases e
theorem orStandIn_ris {t : SetTable} (hR : Ris t.place) (n : Nat) : Ris (t.orStandIn n).place ∧ (t.orStandIn n).led = t.led := by
  unfold SetTable.orStandIn
  split
  · exact ⟨hR, rfl⟩
  · exact ⟨ris_range _, rfl⟩
theorem layNew_ris {t : SetTable} (hR : Ris t.place) (es : Array (Int × Value)) (h : Int) (x : Value) : Ris (layNew t es h x).2.1.place ∧ (layNew t es h x).2.1.led = t.led := by
  unfold layNew
  split
  · rename_i s b e
    exact orStandIn_ris (t := (t.put s).1) (ris_insert hR (free_slot e)) _
  · exact ⟨ris_range _, rfl⟩
theorem relayAll_ris {t : SetTable} (hR : Ris t.place) (es : Array (Int × Value)) (n : Nat) : Ris (relayAll t es n).2.1.place ∧ (relayAll t es n).2.1.led = t.led := by
  unfold relayAll
  split
  · rename_i t' o e
    dsimp only
    split
    · unfold SetTable.relaid SetTable.laid at e
      cases q : SetTable.layClean (SetTable.sizeAbove n - 1) (es.map (·.1)) with
      | none => rw [q] at e; cases e
      | some ow =>
        rw [q] at e
        cases e
        refine ⟨ris_list ?_, rfl⟩
        rw [List.pairwise_map]
        refine List.Pairwise.filterMap (R := (· < ·)) _ (fun a a' hlt b hb b' hb' => ?_) List.pairwise_lt_range
        cases z1 : ow.getD a none with
        | none => rw [z1] at hb; cases hb
        | some y1 =>
          rw [z1] at hb; cases hb
          cases z2 : ow.getD a' none with
          | none => rw [z2] at hb'; cases hb'
          | some y2 => rw [z2] at hb'; cases hb'; exact hlt
    · exact ⟨ris_range _, rfl⟩
  · exact ⟨ris_range _, rfl⟩
theorem erase_perm {α : Type} : ∀ (l : List α) (i : Nat) (h : i < l.length), (l[i] :: l.eraseIdx i).Perm l
  | [], _, h => absurd h (by simp)
  | _ :: _, 0, _ => .refl _
  | x :: r, i + 1, h => (List.Perm.swap x _ _).trans (List.Perm.cons x (erase_perm r i (by simpa using h)))
theorem pick_go {α : Type} (nx : Nat → Nat) : ∀ (fuel k : Nat) (left : List α) (out : Array α), left.length ≤ fuel → (pickOrder.go nx fuel k left out).toList.Perm (out.toList ++ left) := by
  intro fuel
  induction fuel with
  | zero => intro k left out h; unfold pickOrder.go; cases left with
    | nil => simp
    | cons _ _ => simp at h
  | succ f ih =>
    intro k left out h
    unfold pickOrder.go
    cases left with
    | nil => simp
    | cons y r =>
      have hm : nx k % (y :: r).length < (y :: r).length := Nat.mod_lt _ (by simp)
      rw [List.getElem?_eq_getElem hm]
      dsimp only
      refine (ih _ _ _ (by rw [List.length_eraseIdx_of_lt hm]; simp at h ⊢; omega)).trans ?_
      rw [Array.toList_push, List.append_assoc]
      refine List.Perm.append_left _ ?_
      exact erase_perm _ _ hm
theorem pick_perm {α : Type} (nx : Nat → Nat) (xs : Array α) : (pickOrder nx xs).toList.Perm xs.toList := by
  unfold pickOrder
  simpa using pick_go nx xs.size 0 xs.toList #[] (by simp)
end L2
namespace L2
open PySem
section
variable {prog : Program} {w : World} {K : Type} [DecidableEq K]
noncomputable def kfo (knd : KeyKind prog w K) (v : Value) : Option K := by
  classical exact if h : ∃ k, knd.is k v = true then some h.choose else none
variable {knd : KeyKind prog w K}
theorem kfo_of {k : K} {v : Value} (h : knd.is k v = true) : kfo knd v = some k := by
  unfold kfo
  have ex : ∃ k, knd.is k v = true := ⟨k, h⟩
  rw [dif_pos ex]
  exact congrArg some (knd.inj v _ _ ex.choose_spec h)
def led0 (w : World) : Bool := !(w.params.followText "set-order")
def GS (knd : KeyKind prog w K) (o : Obj) (ks : List K) : Prop :=
  o.ExactSet ∧ ∃ es ep t, o.data = .set es ep t ∧ ElemsOf knd es.toList ∧ t.fits es.size = true ∧ Ris t.place ∧ t.led = led0 w ∧ (es.toList.filterMap fun e => kfo knd e.2).Perm ks
theorem elems_len : ∀ {es : List (Int × Value)}, ElemsOf knd es → (es.filterMap fun e => kfo knd e.2).length = es.length
  | [], _ => rfl
  | e :: r, h => by
    obtain ⟨⟨k, hk, _⟩, _⟩ := h.head
    rw [List.filterMap_cons, kfo_of hk]
    simp [elems_len h.tail]
theorem gs_size {o : Obj} {es : Array (Int × Value)} {ks : List K} (h : ElemsOf knd es.toList) (p : (es.toList.filterMap fun e => kfo knd e.2).Perm ks) : es.size = ks.length := by
  rw [← p.length_eq, elems_len h, Array.length_toList]
theorem mem_keys {es : List (Int × Value)} (h : ElemsOf knd es) (k : K) : (k ∈ es.filterMap fun e => kfo knd e.2) ↔ ∃ e ∈ es, knd.is k e.2 = true := by
  rw [List.mem_filterMap]
  constructor
  · rintro ⟨e, he, q⟩
    obtain ⟨⟨k', hk, _⟩, _⟩ := h e he
    rw [kfo_of hk] at q
    cases q
    exact ⟨e, he, hk⟩
  · rintro ⟨e, he, q⟩
    exact ⟨e, he, kfo_of q⟩
variable {A : Around} {E : Value → Shared → Prop} {s : Shared}
theorem gs_put {h : Heap} {a : Addr} {o : Obj} {es es' : Array (Int × Value)} {ep : Nat} {t t' : SetTable} (ho : h.get? a = some o) (hd : o.data = .set es ep t) :
    (h.update a (Obj.putSet es' t')).get? a = some { o with data := .set es' (ep + 1) t' } := by
  have := Heap.get?_update_self (Obj.putSet es' t') ho (by rw [putSet_of es' t' hd]; rfl)
  rw [putSet_of es' t' hd] at this; exact this
theorem gs_tail {g : Bool → Sem Unit} (hg : ∀ (b : Bool) (s₁ : Shared) (Q' : Unit → Shared → Prop), Q' () s₁ → wpAny (model prog w) A (g b) Q' E s₁)
    {a : Addr} {o : Obj} {es : Array (Int × Value)} {ep : Nat} {t : SetTable} (ho : s.heap.get? a = some o) (hex : o.ExactSet) (hd : o.data = .set es ep t)
    {es1 : Array (Int × Value)} {t2 : SetTable} {ks : List K} (hel : ElemsOf knd es1.toList) (hp : (es1.toList.filterMap fun e => kfo knd e.2).Perm ks)
    (hb : es1.size < scanBound) (hf : t2.fits es1.size = true) (hR : Ris t2.place) (hL : t2.led = led0 w) {wd : Bool} {R : Option Bool → Shared → Prop}
    (h : ∀ h' o', Heap.SameBut a s.heap h' → h'.get? a = some o' → GS knd o' ks → R (some true) { s with heap := h' }) :
    wpAny (model prog w) A (do
        storeSet a es1 t2
        if (!wd && t2.tooFull) = true then do
            g (relayAll t2 es1 (SetTable.grown es1.size)).2.2
            storeSet a (relayAll t2 es1 (SetTable.grown es1.size)).1 (relayAll t2 es1 (SetTable.grown es1.size)).2.1
            pure (some true)
          else pure (some true)) R E s := by
  refine wpAny_bind (wpAny_storeSet_of ho hd ?_ (fits_of_scanBound hb))
  have ho1 := gs_put (es' := es1) (t' := t2) ho hd
  have hs1 := Heap.SameBut.update s.heap a (Obj.putSet es1 t2)
  split
  · have q1 := relayAll_perm t2 es1 (SetTable.grown es1.size)
    have q2 := relayAll_fits t2 es1 (SetTable.grown es1.size)
    have q3 := relayAll_ris hR es1 (SetTable.grown es1.size)
    generalize relayAll t2 es1 (SetTable.grown es1.size) = Rl at q1 q2 q3 ⊢
    have hsz : Rl.1.size = es1.size := by rw [← Array.length_toList, q1.length_eq, Array.length_toList]
    refine wpAny_bind (hg _ _ _ ?_)
    refine wpAny_bind (wpAny_storeSet_of ho1 rfl ?_ (fits_of_scanBound (by rw [hsz]; exact hb)))
    have ho2 := gs_put (es' := Rl.1) (t' := Rl.2.1) ho1 rfl
    exact wpAny_pure (h _ _ (hs1.trans (Heap.SameBut.update _ a _)) ho2 ⟨hex, _, _, _, rfl, hel.perm q1, q2, q3.1, q3.2.trans hL, (q1.filterMap _).trans hp⟩)
  · exact wpAny_pure (h _ _ hs1 ho1 ⟨hex, _, _, _, rfl, hel, hf, hR, hL, hp⟩)
def addk (ks : List K) (k : K) : List K := if k ∈ ks then ks else ks ++ [k]
theorem gs_add {a : Addr} {o : Obj} {ks : List K} {k : K} {x : Value} {Q : Bool → Shared → Prop} (hkey : knd.is k x = true) (hsc : x.scannable = true) (ho : s.heap.get? a = some o) (hG : GS knd o ks)
    (hroom : ks.length + 1 < scanBound) (h : ∀ (b : Bool) h' o', Heap.SameBut a s.heap h' → h'.get? a = some o' → GS knd o' (addk ks k) → Q b { s with heap := h' }) :
    wpAny (model prog w) A (setAddHashed a x (knd.hash k)) Q E s := by
  obtain ⟨hex, es, ep, t, hd, hel, hf, hR, hL, hp⟩ := hG
  have hn := gs_size (o := o) hel hp
  have hmem := mem_keys hel k
  unfold setAddHashed setAddHashedIn
  refine wpAny_holding (wpAny_bind (wpAny_setState_of ho hd hf ?_))
  dsimp only
  rw [byScan_of hsc (by rw [hn]; omega) hel]
  simp only [↓reduceIte]
  unfold setAddByScan
  refine wpAny_bind (wpAny_bind (wpAny_rule (wpAny_bind (wpAny_setScan_of hkey ho hd hf hel ?_))))
  cases hr : List.findIdx? (fun e => knd.is k e.2) es.toList with
  | some j =>
    dsimp only
    obtain ⟨hj, hpj, _⟩ := List.findIdx?_eq_some_iff_getElem.mp hr
    have hk : k ∈ ks := hp.mem_iff.mp (hmem.mpr ⟨es.toList[j], List.getElem_mem hj, hpj⟩)
    refine wpAny_pure (wpAny_pure ?_)
    have := h false s.heap o (Heap.SameBut.refl a s.heap) ho ⟨hex, es, ep, t, hd, hel, hf, hR, hL, by unfold addk; rw [if_pos hk]; exact hp⟩
    have e : s = { s with heap := s.heap } := by cases s; rfl
    rw [e]; exact this
  | none =>
    dsimp only
    have hk : ¬ k ∈ ks := fun z => by
      obtain ⟨e, he, q⟩ := hmem.mp (hp.mem_iff.mpr z)
      have := List.findIdx?_eq_none_iff.mp hr e he
      rw [q] at this; cases this
    have hgw : ∀ (b : Bool) {s₁ : Shared} {Q' : Unit → Shared → Prop}, Q' () s₁ → wpAny (model prog w) A (match b with | true => rule "set.scan.the-table-gave-way" | false => pure ()) Q' E s₁ :=
      fun b s₁ Q' hq => by cases b <;> first | exact wpAny_pure hq | exact wpAny_rule hq
    have q1 := layNew_perm t es (knd.hash k) x
    have q2 := layNew_fits t es (knd.hash k) x
    have q3 := layNew_ris hR es (knd.hash k) x
    generalize layNew t es (knd.hash k) x = L at q1 q2 q3 ⊢
    obtain ⟨es1, t1, wd, gave⟩ := L
    dsimp only at q1 q2 q3 ⊢
    rw [Array.toList_push] at q1
    have hel1 : ElemsOf knd es1.toList := (hel.push hkey hsc).perm q1
    have hp1 : (es1.toList.filterMap fun e => kfo knd e.2).Perm (addk ks k) := by
      refine (q1.filterMap _).trans ?_
      rw [List.filterMap_append]
      unfold addk
      rw [if_neg hk]
      refine List.Perm.append hp ?_
      rw [List.filterMap_cons, kfo_of (show knd.is k ((knd.hash k, x) : Int × Value).2 = true from hkey)]
      exact .refl _
    have hb1 : es1.size < scanBound := by rw [← Array.length_toList, q1.length_eq, List.length_append, Array.length_toList, hn]; exact hroom
    refine wpAny_bind (hgw _ ?_)
    split
    · refine wpAny_bind ?_
      rw [hashByValue_scannable 8 hsc]
      refine wpAny_pure ?_
      refine gs_tail ?_ ho hex hd hel1 hp1 hb1 ?_ ?_ ?_ ?_
      · intro b s₁ Q' hq; cases b <;> first | exact wpAny_pure hq | exact wpAny_rule hq
      · split
        · exact q2
        · exact SetTable.fits_plain_off q2
      · split <;> exact q3.1
      · split <;> exact q3.2.trans hL
      · intro h' o' hsb ho' hG'; dsimp only; exact wpAny_pure (h true h' o' hsb ho' hG')
    · refine wpAny_bind (wpAny_pure ?_)
      simp only [↓reduceIte]
      refine gs_tail ?_ ho hex hd hel1 hp1 hb1 q2 q3.1 (q3.2.trans hL) ?_
      · intro b s₁ Q' hq; cases b <;> first | exact wpAny_pure hq | exact wpAny_rule hq
      · intro h' o' hsb ho' hG'; dsimp only; exact wpAny_pure (h true h' o' hsb ho' hG')
def once (ks : List K) : List K := ks.foldl addk []
theorem once_snoc (ks : List K) (k : K) : once (ks ++ [k]) = addk (once ks) k := by unfold once; rw [List.foldl_append]; rfl
theorem addk_len (ks : List K) (k : K) : (addk ks k).length ≤ ks.length + 1 := by unfold addk; split <;> simp
theorem once_len_rev : ∀ ks : List K, (ks.reverse.foldr (fun x a => addk a x) []).length ≤ ks.length := by
  intro ks
  rw [List.foldr_reverse]
  generalize hq : ([] : List K) = a0
  have : ∀ (l a : List K), (l.foldl addk a).length ≤ a.length + l.length := by
    intro l
    induction l with
    | nil => intro a; exact Nat.le_refl _
    | cons x r ih => intro a; have := ih (addk a x); have := addk_len a x; simp only [List.foldl_cons, List.length_cons]; omega
  have := this ks a0
  rw [← hq] at this ⊢
  simpa using this
theorem once_len (ks : List K) : (once ks).length ≤ ks.length := by
  have := once_len_rev ks
  rw [List.foldr_reverse] at this
  exact this
end
end L2
namespace L2
open PySem
theorem slot_setiter_next : Slot "set_iterator" "__next__" "set_iterator.__next__" :=
  .of (owner := "set_iterator") (n := "__next__") (by rw [typeLookup_type, builtinLookup_eq_fast]; kernel_rfl) (by decide +kernel) (by decide +kernel) (by decide +kernel)
    (by first | exact .inl (by decide +kernel) | exact .inr (by decide +kernel)) (by rw [isSubtype_type]; kernel_rfl)
theorem entry_setiter_next : entryFor table "set_iterator.__next__" = some Builtin.«set_iterator.__next__» := entryFor_of_fast (by kernel_rfl)
theorem args_setiter_next (a : Value) : argsOk "set_iterator.__next__" ⟨[a], []⟩ := by unfold argsOk; kernel_rfl
theorem slot_setiter_iter : Slot "set_iterator" "__iter__" "set_iterator.__iter__" :=
  .of (owner := "set_iterator") (n := "__iter__") (by rw [typeLookup_type, builtinLookup_eq_fast]; kernel_rfl) (by decide +kernel) (by decide +kernel) (by decide +kernel)
    (by first | exact .inl (by decide +kernel) | exact .inr (by decide +kernel)) (by rw [isSubtype_type]; kernel_rfl)
theorem entry_setiter_iter : entryFor table "set_iterator.__iter__" = some Builtin.«dict_keyiterator.__iter__» :=
  entryFor_alias (id' := "dict_keyiterator.__iter__") (by kernel_rfl) rfl (by decide +kernel) (by kernel_rfl)
theorem args_setiter_iter (a : Value) : argsOk "set_iterator.__iter__" ⟨[a], []⟩ := by unfold argsOk; kernel_rfl
theorem entry_set_iter : entryFor table "set.__iter__" = some Builtin.«frozenset.__iter__» :=
  entryFor_alias (id' := "frozenset.__iter__") (by kernel_rfl) rfl (by decide +kernel) (by kernel_rfl)
def sit (first : Value) (i a n ep : Nat) : Obj := { cls := .type "set_iterator", data := .fields #[first, .int i 0, .ref a, .int n 0, .int ep 0] }
section
variable {prog : Program} {w : World} {A : Around} {E : Value → Shared → Prop} {s : Shared}
theorem sit_self {first : Value} {I i a n ep : Nat} {Q : Value → Shared → Prop} (hI : s.heap.get? I = some (sit first i a n ep)) (h : Q (.ref I) s) : wpAny (model prog w) A (pyIter (.ref I)) Q E s := by
  have hT : s.TypeIs (.ref I) "set_iterator" := ⟨_, hI, rfl⟩
  refine wpAny_pyIter_slot hT slot_setiter_iter (wpAny_call_entry slot_setiter_iter hT entry_setiter_iter ?_ (args_setiter_iter _))
  show wpAny _ _ (ret (.ref I)) _ _ s
  exact wpAny_pure ⟨_, rfl, "set_iterator", _, hT, slot_setiter_next.lookup, h⟩
theorem sit_item {I a o es ep t n} {sl sl' i : Nat} {x : Value} {Q : Option Value → Shared → Prop} (hI : s.heap.get? I = some (sit (.int sl 0) i a n ep)) (ho : s.heap.get? a = some o) (hd : o.data = .set es ep t) (hf : t.fits es.size = true) (hn : es.size = n)
    (hx : ∀ (A' : Around) (E' : Value → Shared → Prop) (Q' : Option (Value × Nat) → Shared → Prop), Q' (some (x, sl')) s → wpAny (model prog w) A' (setNext a sl i ep) Q' E' s)
    (hQ : ∀ h', h'.get? I = some (sit (.int sl' 0) (i + 1) a n ep) → Heap.SameBut I s.heap h' → Q (some x) { s with heap := h' }) : wpAny (model prog w) A (pyNext (.ref I)) Q E s := by
  have hT : s.TypeIs (.ref I) "set_iterator" := ⟨_, hI, rfl⟩
  unfold pyNext
  refine wpAny_bind (wpAny_attempt (wpAny_callSpecial?_slot (name := Str.ofString "__next__") hT slot_setiter_next (wpAny_call_entry slot_setiter_next hT entry_setiter_next ?_ (args_setiter_next _))))
  show wpAny _ _ (fieldsOf (.ref I) >>= _) _ _ s
  refine wpAny_bind (wpAny_fieldsOf hI rfl ?_)
  show wpAny _ _ (setEntries a >>= _) _ _ s
  refine wpAny_bind (wpAny_setEntries_of ho hd hf ?_)
  rw [if_neg (by rw [hn]; simp)]
  show wpAny _ _ (setNext a (Int.toNat sl) (Int.toNat i) (Int.toNat ep) >>= _) _ _ s
  simp only [Int.toNat_natCast]
  refine wpAny_bind (hx _ _ _ ?_)
  dsimp only
  refine wpAny_bind (wpAny_setField hI rfl (by simp) ?_)
  have h1 := Heap.get?_update_self (Obj.mapFields (·.setIfInBounds 0 (rawInt sl'))) hI rfl
  refine wpAny_bind (wpAny_setField h1 rfl (by simp [sit, Obj.mapFields]) (wpAny_pure ⟨x, rfl, wpAny_pure (hQ _ ?_ ((Heap.SameBut.update ..).trans (Heap.SameBut.update ..)))⟩))
  have h2 := Heap.get?_update_self (Obj.mapFields (·.setIfInBounds 1 (rawInt ((i : Int) + 1)))) h1 rfl
  exact h2
theorem sit_end {I a o es ep t n} {sl i : Nat} {Q : Option Value → Shared → Prop} (hh : A.handled = none) (hI : s.heap.get? I = some (sit (.int sl 0) i a n ep)) (ho : s.heap.get? a = some o) (hd : o.data = .set es ep t) (hf : t.fits es.size = true) (hn : es.size = n)
    (hx : ∀ (A' : Around) (E' : Value → Shared → Prop) (Q' : Option (Value × Nat) → Shared → Prop), Q' none s → wpAny (model prog w) A' (setNext a sl i ep) Q' E' s)
    (hQ : ∀ h', Heap.ExtBut I s.heap h' → Q none { s with heap := h' }) : wpAny (model prog w) A (pyNext (.ref I)) Q E s := by
  have hT : s.TypeIs (.ref I) "set_iterator" := ⟨_, hI, rfl⟩
  unfold pyNext
  refine wpAny_bind (wpAny_attempt (wpAny_callSpecial?_slot (name := Str.ofString "__next__") hT slot_setiter_next (wpAny_call_entry slot_setiter_next hT entry_setiter_next ?_ (args_setiter_next _))))
  show wpAny _ _ (fieldsOf (.ref I) >>= _) _ _ s
  refine wpAny_bind (wpAny_fieldsOf hI rfl ?_)
  show wpAny _ _ (setEntries a >>= _) _ _ s
  refine wpAny_bind (wpAny_setEntries_of ho hd hf ?_)
  rw [if_neg (by rw [hn]; simp)]
  show wpAny _ _ (setNext a (Int.toNat sl) (Int.toNat i) (Int.toNat ep) >>= _) _ _ s
  simp only [Int.toNat_natCast]
  refine wpAny_bind (hx _ _ _ ?_)
  dsimp only
  refine wpAny_bind (wpAny_setField hI rfl (by simp) ?_)
  show wpAny _ _ (newExc (.type "StopIteration") [] >>= _) _ _ _
  refine wpAny_bind ?_
  simp only [newExc, newTuple]
  refine wpAny_bind (wpAny_newObj_type ?_ (by size_fits))
  refine wpAny_bind (m := firstArgMember _ _) (wpAny_of_eq (a := Value.none) (by first | rfl | (simp only [firstArgMember]; rfl)) ?_)
  refine wpAny_newObj_type ?_ (by size_fits)
  simp only [raiseNew]
  refine wpAny_bind (wpAny_handled ?_)
  rw [show A.in1.handled = none from hh]
  refine wpAny_bind (wpAny_pure (wpAny_throw ?_))
  refine wpAny_bind (wpAny_isInstance (T := "StopIteration") (b := true) ⟨_, Heap.get?_push_size _ rfl, rfl⟩ isSubtype_stop ?_)
  exact wpAny_pure (hQ _ (((Heap.SameBut.update ..).extBut.push _).push _))
theorem sit_itemD {I a o es ep t n tp pl pn} {i j : Nat} {x : Value} {Q : Option Value → Shared → Prop} {po : Obj} (hI : s.heap.get? I = some (sit (.ref tp) i a n ep)) (ho : s.heap.get? a = some o) (hd : o.data = .set es ep t) (hf : t.fits es.size = true) (hn : es.size = n)
    (hp : s.heap.get? tp = some po) (hpd : po.data = .seq pl pn) (hj : pl[i]? = some (.int j 0)) (hx : ∃ h, es[j]? = some (h, x))
    (hQ : ∀ h', h'.get? I = some (sit (.ref tp) (i + 1) a n ep) → Heap.SameBut I s.heap h' → Q (some x) { s with heap := h' }) : wpAny (model prog w) A (pyNext (.ref I)) Q E s := by
  have hT : s.TypeIs (.ref I) "set_iterator" := ⟨_, hI, rfl⟩
  obtain ⟨hv, hx⟩ := hx
  unfold pyNext
  refine wpAny_bind (wpAny_attempt (wpAny_callSpecial?_slot (name := Str.ofString "__next__") hT slot_setiter_next (wpAny_call_entry slot_setiter_next hT entry_setiter_next ?_ (args_setiter_next _))))
  show wpAny _ _ (fieldsOf (.ref I) >>= _) _ _ s
  refine wpAny_bind (wpAny_fieldsOf hI rfl ?_)
  show wpAny _ _ (setEntries a >>= _) _ _ s
  refine wpAny_bind (wpAny_setEntries_of ho hd hf ?_)
  rw [if_neg (by rw [hn]; simp)]
  show wpAny _ _ (seqItems? (.ref tp) >>= _) _ _ s
  refine wpAny_bind (wpAny_seqItems hp hpd ?_)
  dsimp only
  simp only [Int.toNat_natCast, hj]
  refine wpAny_bind ?_
  unfold setNextDrawn
  refine wpAny_bind (wpAny_setState_of ho hd hf ?_)
  simp only [Int.toNat_natCast, bne_self_eq_false, Bool.false_eq_true, if_false, hx]
  refine wpAny_pure ?_
  refine wpAny_bind (wpAny_setField hI rfl (by simp) (wpAny_pure ⟨x, rfl, wpAny_pure (hQ _ ?_ (Heap.SameBut.update ..))⟩))
  exact Heap.get?_update_self (Obj.mapFields (·.setIfInBounds 1 (rawInt ((i : Int) + 1)))) hI rfl
theorem sit_endD {I a o es ep t n tp pl pn} {i : Nat} {Q : Option Value → Shared → Prop} {po : Obj} (hh : A.handled = none) (hI : s.heap.get? I = some (sit (.ref tp) i a n ep)) (ho : s.heap.get? a = some o) (hd : o.data = .set es ep t) (hf : t.fits es.size = true) (hn : es.size = n)
    (hp : s.heap.get? tp = some po) (hpd : po.data = .seq pl pn) (hj : pl[i]? = none)
    (hQ : ∀ h', Heap.ExtBut I s.heap h' → Q none { s with heap := h' }) : wpAny (model prog w) A (pyNext (.ref I)) Q E s := by
  have hT : s.TypeIs (.ref I) "set_iterator" := ⟨_, hI, rfl⟩
  unfold pyNext
  refine wpAny_bind (wpAny_attempt (wpAny_callSpecial?_slot (name := Str.ofString "__next__") hT slot_setiter_next (wpAny_call_entry slot_setiter_next hT entry_setiter_next ?_ (args_setiter_next _))))
  show wpAny _ _ (fieldsOf (.ref I) >>= _) _ _ s
  refine wpAny_bind (wpAny_fieldsOf hI rfl ?_)
  show wpAny _ _ (setEntries a >>= _) _ _ s
  refine wpAny_bind (wpAny_setEntries_of ho hd hf ?_)
  rw [if_neg (by rw [hn]; simp)]
  show wpAny _ _ (seqItems? (.ref tp) >>= _) _ _ s
  refine wpAny_bind (wpAny_seqItems hp hpd ?_)
  dsimp only
  simp only [Int.toNat_natCast, hj]
  refine wpAny_bind (wpAny_setField hI rfl (by simp) ?_)
  have h1 := Heap.get?_update_self (Obj.mapFields (·.setIfInBounds 0 (rawInt 0))) hI rfl
  refine wpAny_bind (wpAny_setField h1 rfl (by simp [sit, Obj.mapFields]) ?_)
  show wpAny _ _ (newExc (.type "StopIteration") [] >>= _) _ _ _
  refine wpAny_bind ?_
  simp only [newExc, newTuple]
  refine wpAny_bind (wpAny_newObj_type ?_ (by size_fits))
  refine wpAny_bind (m := firstArgMember _ _) (wpAny_of_eq (a := Value.none) (by first | rfl | (simp only [firstArgMember]; rfl)) ?_)
  refine wpAny_newObj_type ?_ (by size_fits)
  simp only [raiseNew]
  refine wpAny_bind (wpAny_handled ?_)
  rw [show A.in1.handled = none from hh]
  refine wpAny_bind (wpAny_pure (wpAny_throw ?_))
  refine wpAny_bind (wpAny_isInstance (T := "StopIteration") (b := true) ⟨_, Heap.get?_push_size _ rfl, rfl⟩ isSubtype_stop ?_)
  exact wpAny_pure (hQ _ ((((Heap.SameBut.update ..).trans (Heap.SameBut.update ..)).extBut.push _).push _))
end
end L2
namespace L2
open PySem
section
variable {prog : Program} {w : World} {A : Around} {E : Value → Shared → Prop} {s : Shared}
variable {a ep : Nat} {o : Obj} {es : Array (Int × Value)} {t : SetTable}
theorem byText_is {Q : Bool → Shared → Prop} (h : Q (w.params.followText "set-order") s) : wpAny (model prog w) A setsByText Q E s := by
  unfold setsByText
  exact wpAny_bind (wpAny_askSetting (wpAny_pure h))
theorem next_text {sl i : Nat} {Q : Option (Value × Nat) → Shared → Prop} (ho : s.heap.get? a = some o) (hd : o.data = .set es ep t) (hf : t.fits es.size = true) (hB : w.params.followText "set-order" = true)
    (h : Q (((pickOrder (w.params.setOrder a ep) es)[i]?).map fun e => (e.2, sl)) s) : wpAny (model prog w) A (setNext a sl i ep) Q E s := by
  unfold setNext
  refine wpAny_bind (wpAny_setState_of ho hd hf ?_)
  refine wpAny_bind (byText_is ?_)
  rw [hB]
  simp only [bne_self_eq_false, Bool.false_eq_true, if_false, if_true]
  refine wpAny_bind ?_
  unfold setWalk
  refine wpAny_bind (wpAny_setState_of ho hd hf ?_)
  refine wpAny_bind (byText_is ?_)
  rw [hB]
  simp only [if_true]
  refine wpAny_bind (wpAny_askSetting (wpAny_pure ?_))
  exact wpAny_pure h
theorem next_led {sl i : Nat} {Q : Option (Value × Nat) → Shared → Prop} (ho : s.heap.get? a = some o) (hd : o.data = .set es ep t) (hf : t.fits es.size = true) (hB : w.params.followText "set-order" = false) (hL : t.led = true) (hD : (!t.plain && decide (es.size > 1)) = false)
    (h : Q (match es[SetTable.below t.place sl]?, t.place[SetTable.below t.place sl]? with | some (_, x), some j => some (x, j + 1) | _, _ => none) s) : wpAny (model prog w) A (setNext a sl i ep) Q E s := by
  unfold setNext
  refine wpAny_bind (wpAny_setState_of ho hd hf ?_)
  refine wpAny_bind (byText_is ?_)
  rw [hB]
  simp only [Bool.false_eq_true, if_false]
  show wpAny _ _ (if (!t.plain && decide (es.size > 1)) = true then _ else _) _ _ _
  rw [hD]
  simp only [Bool.false_eq_true, if_false]
  refine wpAny_bind ?_
  show wpAny _ _ (if (!t.led && !es.isEmpty) = true then _ else _) _ _ _
  rw [hL]
  simp only [Bool.not_true, Bool.false_and, Bool.false_eq_true, if_false]
  exact wpAny_pure (wpAny_pure h)
theorem walk_plain (hh : A.handled = none) (I : Addr) (hne : a ≠ I) (hd : o.data = .set es ep t) (hf : t.fits es.size = true) (vals : Array Value) (hvs : vals.size = es.size) (sl : Nat → Nat)
    (hi : ∀ (s : Shared) (A' : Around) (E' : Value → Shared → Prop) (Q' : Option (Value × Nat) → Shared → Prop) (i : Nat) (x : Value), vals[i]? = some x → s.heap.get? a = some o → Q' (some (x, sl (i + 1))) s → wpAny (model prog w) A' (setNext a (sl i) i ep) Q' E' s)
    (he : ∀ (s : Shared) (A' : Around) (E' : Value → Shared → Prop) (Q' : Option (Value × Nat) → Shared → Prop), s.heap.get? a = some o → Q' none s → wpAny (model prog w) A' (setNext a (sl es.size) es.size ep) Q' E' s) :
    Walks prog w A I [I, a] [I] es.size (fun i v => vals[i]? = some v) (fun i h => h.get? I = some (sit (.int (sl i) 0) i a es.size ep) ∧ h.get? a = some o) where
  sub := fun b hb => by simp at hb; simp [hb]
  frame := fun _ _ _ st hk => ⟨hk I (by simp) _ st.1, hk a (by simp) _ st.2⟩
  item := fun i s Q E hlt st hQ => by
    have hx : vals[i]? = some vals[i] := Array.getElem?_eq_getElem (by omega)
    refine sit_item (n := es.size) st.1 st.2 hd hf rfl (fun A' E' Q' q => hi s A' E' Q' i _ hx st.2 q) fun h' hI' hs' => ?_
    exact hQ _ h' s.toks hx ⟨hI', hs'.extBut a _ hne st.2⟩ fun b o hb e => hs'.extBut b o (fun h => hb (by simp [h])) e
  done := fun s Q E st hQ => sit_end hh st.1 st.2 hd hf rfl (fun A' E' Q' q => he s A' E' Q' st.2 q) fun h' he' => hQ h' s.toks fun b o hb e => he' b o (fun h => hb (by simp [h])) e
  self := fun _ _ _ _ st hQ => sit_self st.1 hQ
theorem walk_drawn (hh : A.handled = none) (I tp : Addr) (hne : a ≠ I) (hnt : tp ≠ I) (hd : o.data = .set es ep t) (hf : t.fits es.size = true) (vals : Array Value) (hvs : vals.size = es.size) (js : List Nat) (hj : js.length = es.size) (hv : ∀ (i j : Nat), js[i]? = some j → ∃ h x, vals[i]? = some x ∧ es[j]? = some (h, x)) {po : Obj} {pn : Nat} (hpd : po.data = .seq (js.map fun j : Nat => rawInt j).toArray pn) :
    Walks prog w A I [I, a, tp] [I] es.size (fun i v => vals[i]? = some v) (fun i h => h.get? I = some (sit (.ref tp) i a es.size ep) ∧ h.get? a = some o ∧ h.get? tp = some po) where
  sub := fun b hb => by simp at hb; simp [hb]
  frame := fun _ _ _ st hk => ⟨hk I (by simp) _ st.1, hk a (by simp) _ st.2.1, hk tp (by simp) _ st.2.2⟩
  item := fun i s Q E hlt st hQ => by
    have e1 : js[i]? = some js[i] := List.getElem?_eq_getElem (by omega)
    obtain ⟨h, x, hx, hex⟩ := hv i _ e1
    refine sit_itemD (n := es.size) (j := js[i]) st.1 st.2.1 hd hf rfl st.2.2 hpd (by rw [List.getElem?_toArray, List.getElem?_map, e1]; rfl) ⟨h, hex⟩ fun h' hI' hs' => ?_
    exact hQ _ h' s.toks hx ⟨hI', hs'.extBut a _ hne st.2.1, hs'.extBut tp _ hnt st.2.2⟩ fun b o hb e => hs'.extBut b o (fun h => hb (by simp [h])) e
  done := fun s Q E st hQ => sit_endD hh st.1 st.2.1 hd hf rfl st.2.2 hpd (by rw [List.getElem?_toArray, List.getElem?_map, List.getElem?_eq_none (by omega)]; rfl) fun h' he' => hQ h' s.toks fun b o hb e => he' b o (fun h => hb (by simp [h])) e
  self := fun _ _ _ _ st hQ => sit_self st.1 hQ
theorem draw_perm {α : Type} : ∀ (n : Nat) (xs : List α) (s : Shared) (Q : List α → Shared → Prop), xs.length = n → (∀ d' ys, ys.Perm xs → Q ys { s with drawn := d' }) → wpAny (model prog w) A (drawOrder n xs) Q E s := by
  intro n
  induction n with
  | zero => intro xs s Q hl h; unfold drawOrder; cases xs with
    | nil => exact wpAny_pure (h s.drawn [] (.refl _))
    | cons _ _ => simp at hl
  | succ n ih =>
    intro xs s Q hl h
    cases xs with
    | nil => simp at hl
    | cons x r =>
      unfold drawOrder
      refine wpAny_bind ?_
      refine fun Γ p hΓ => ⟨by simp, ?_⟩
      have hm : (model prog w).w.draws .order (s.drawn.get .order) % (x :: r).length < (x :: r).length := Nat.mod_lt _ (by simp)
      show wpAny (model prog w) A _ Q E { s with drawn := s.drawn.bump .order }
      rw [List.getElem?_eq_getElem hm]
      dsimp only
      refine wpAny_bind (ih _ _ _ (by rw [List.length_eraseIdx_of_lt hm]; simp at hl ⊢; omega) fun d' ys hp => ?_)
      exact wpAny_pure (h d' _ ((hp.cons _).trans (erase_perm _ _ hm)))
theorem gs_iter {K : Type} [DecidableEq K] {knd : KeyKind prog w K} {ks : List K} (hh : A.handled = none) (ho : s.heap.get? a = some o) (hG : GS knd o ks) (hsz : ks.length ≤ sizeLine) {Q : Value → Shared → Prop}
    (h : ∀ (h1 : Heap) (d1 : Drawn) (I : Addr) (vals : Array Value) (fp : List Addr) (St : Nat → Heap → Prop), (∀ b o, s.heap.get? b = some o → h1.get? b = some o) → (∀ b ∈ fp, b = a ∨ s.heap.objs.size ≤ b ∧ b < h1.objs.size) → s.heap.objs.size ≤ I →
      (∀ v ∈ vals.toList, ∃ k, knd.is k v = true) → (vals.toList.filterMap (kfo knd)).Perm ks → Walks prog w A I fp [I] vals.size (fun i v => vals[i]? = some v) St → St 0 h1 → Q (.ref I) { s with heap := h1, drawn := d1 }) :
    wpAny (model prog w) A (pyIter (.ref a)) Q E s := by
  obtain ⟨hex, es, ep, t, hd, hel, hf, hR, hL, hp⟩ := hG
  have hT : s.TypeIs (.ref a) "set" := ⟨o, ho, hex.1⟩
  have ha : a < s.heap.objs.size := Heap.lt_size ho
  have keyz : ∀ vals : Array Value, vals.toList.Perm (es.toList.map (·.2)) → (∀ v ∈ vals.toList, ∃ k, knd.is k v = true) ∧ (vals.toList.filterMap (kfo knd)).Perm ks := by
    intro vals q
    refine ⟨fun v hv => ?_, (q.filterMap _).trans ?_⟩
    · obtain ⟨e, he, rfl⟩ := List.mem_map.mp (q.mem_iff.mp hv)
      obtain ⟨⟨k, hk, _⟩, _⟩ := hel e he
      exact ⟨k, hk⟩
    · rw [List.filterMap_map]; exact hp
  have hfz : t.place.size = es.size := by unfold SetTable.fits at hf; simp only [Bool.and_eq_true, beq_iff_eq] at hf; exact hf.1
  refine wpAny_pyIter_slot hT F.slot_set_iter (wpAny_call_entry F.slot_set_iter hT entry_set_iter ?_ (F.args_set_iter_1 _))
  show wpAny _ _ (Builtin.Frozenset.sizeOf a >>= _) _ _ s
  refine wpAny_bind ?_
  unfold Builtin.Frozenset.sizeOf
  refine wpAny_bind (wpAny_setEntries_of ho hd hf (wpAny_pure ?_))
  refine wpAny_bind ?_
  unfold setDrawn
  refine wpAny_bind (wpAny_setState_of ho hd hf ?_)
  refine wpAny_bind (byText_is ?_)
  show wpAny _ _ (pure (!(w.params.followText "set-order") && (!t.plain && decide (es.size > 1)))) _ _ _
  refine wpAny_pure ?_
  cases hB : w.params.followText "set-order" with
  | true =>
    simp only [Bool.not_true, Bool.false_and, Bool.false_eq_true, if_false]
    refine wpAny_bind (wpAny_pure ?_)
    refine wpAny_bind (wpAny_setEpoch_of ho hd hf ?_)
    refine wpAny_bind (wpAny_newObj_type (wpAny_pure ⟨_, rfl, "set_iterator", _, ⟨_, Heap.get?_push_size _ rfl, rfl⟩, slot_setiter_next.lookup, ?_⟩))
    have hq : ((pickOrder (w.params.setOrder a ep) es).map (·.2)).toList.Perm (es.toList.map (·.2)) := by rw [Array.toList_map]; exact (pick_perm _ es).map _
    have hz : ((pickOrder (w.params.setOrder a ep) es).map (·.2)).size = es.size := by rw [← Array.length_toList, hq.length_eq, List.length_map, Array.length_toList]
    obtain ⟨k1, k2⟩ := keyz _ hq
    have W := walk_plain (prog := prog) (w := w) (A := A) (a := a) (o := o) (ep := ep) (t := t) hh s.heap.objs.size (Nat.ne_of_lt ha) hd hf _ hz (fun _ => 0) (fun s A' E' Q' i x hx ho' q => next_text ho' hd hf hB (by rw [Array.getElem?_map] at hx; cases z : (pickOrder (w.params.setOrder a ep) es)[i]? with | none => rw [z] at hx; cases hx | some y => rw [z] at hx; cases hx; exact q)) (fun s A' E' Q' ho' q => next_text ho' hd hf hB (by rw [Array.getElem?_eq_none (by rw [Array.size_map] at hz; omega)]; exact q))
    rw [← hz] at W
    refine h _ s.drawn _ _ _ _ (fun b o e => Heap.get?_push_of_some _ e) (fun b hb => ?_) (Nat.le_refl _) k1 k2 W ⟨by rw [hz]; exact Heap.get?_push_size _ rfl, Heap.get?_push_of_some _ ho⟩
    rcases List.mem_cons.mp hb with rfl | hb
    · exact .inr ⟨Nat.le_refl _, by rw [Heap.size_push]; exact Nat.lt_succ_self _⟩
    · exact .inl (by simpa using hb)
  | false =>
    simp only [Bool.not_false, Bool.true_and]
    cases hD : (!t.plain && decide (es.size > 1)) with
    | false =>
      simp only [Bool.false_eq_true, if_false]
      refine wpAny_bind (wpAny_pure ?_)
      refine wpAny_bind (wpAny_setEpoch_of ho hd hf ?_)
      refine wpAny_bind (wpAny_newObj_type (wpAny_pure ⟨_, rfl, "set_iterator", _, ⟨_, Heap.get?_push_size _ rfl, rfl⟩, slot_setiter_next.lookup, ?_⟩))
      have hq : (es.map (·.2)).toList.Perm (es.toList.map (·.2)) := by rw [Array.toList_map]
      have hz : (es.map (·.2)).size = es.size := by rw [Array.size_map]
      obtain ⟨k1, k2⟩ := keyz _ hq
      have hL' : t.led = true := by rw [hL]; unfold led0; rw [hB]; rfl
      have hb0 : ∀ i, i ≤ es.size → SetTable.below t.place (if i = 0 then 0 else t.place.getD (i - 1) 0 + 1) = i := by
        intro i hi
        by_cases z : i = 0
        · rw [if_pos z, z]; exact below_zero hR
        · rw [if_neg z]
          have hlt : i - 1 < t.place.size := by omega
          have := below_at hR hlt
          rw [Array.getD_eq_getD_getElem?, Array.getElem?_eq_getElem hlt]
          show SetTable.below t.place (t.place[i - 1] + 1) = i
          rw [this]; omega
      have W := walk_plain (prog := prog) (w := w) (A := A) (a := a) (o := o) (ep := ep) (t := t) hh s.heap.objs.size (Nat.ne_of_lt ha) hd hf _ hz (fun i => if i = 0 then 0 else t.place.getD (i - 1) 0 + 1) (fun s A' E' Q' i x hx ho' q => next_led ho' hd hf hB hL' hD (by
            have hi : i < es.size := by have := (Array.getElem?_eq_some_iff.mp hx).1; rw [hz] at this; exact this
            rw [hb0 i (Nat.le_of_lt hi)]
            rw [Array.getElem?_map] at hx
            rw [Array.getElem?_eq_getElem hi] at hx ⊢
            rw [Array.getElem?_eq_getElem (by omega : i < t.place.size)]
            cases hx
            have e2 : (if i + 1 = 0 then 0 else t.place.getD (i + 1 - 1) 0 + 1) = t.place[i]'(by omega) + 1 := by
              rw [if_neg (by omega), Nat.add_sub_cancel, Array.getD_eq_getD_getElem?, Array.getElem?_eq_getElem (by omega)]; rfl
            rw [e2] at q
            exact q)) (fun s A' E' Q' ho' q => next_led ho' hd hf hB hL' hD (by
            rw [hb0 es.size (Nat.le_refl _), Array.getElem?_eq_none (Nat.le_refl _)]; exact q))
      rw [← hz] at W
      refine h _ s.drawn _ _ _ _ (fun b o e => Heap.get?_push_of_some _ e) (fun b hb => ?_) (Nat.le_refl _) k1 k2 W ⟨by rw [hz]; exact Heap.get?_push_size _ rfl, Heap.get?_push_of_some _ ho⟩
      rcases List.mem_cons.mp hb with rfl | hb
      · exact .inr ⟨Nat.le_refl _, by rw [Heap.size_push]; exact Nat.lt_succ_self _⟩
      · exact .inl (by simpa using hb)
    | true =>
      simp only [if_true]
      refine wpAny_bind (draw_perm es.size _ s _ List.length_range fun d1 js hjs => ?_)
      have hjl : js.length = es.size := by rw [hjs.length_eq, List.length_range]
      have hjb : ∀ j ∈ js, j < es.size := fun j hj => List.mem_range.mp (hjs.mem_iff.mp hj)
      simp only [newTuple]
      refine wpAny_bind (wpAny_newObj_type ?_ (by show (List.map _ js).toArray.size ≤ sizeLine; rw [List.size_toArray, List.length_map, hjl, gs_size (o := o) hel hp]; exact hsz))
      have ho1 : (s.heap.push { cls := .type "tuple", data := .seq (js.map fun j : Nat => rawInt j).toArray }).get? a = some o := Heap.get?_push_of_some _ ho
      refine wpAny_bind (wpAny_setEpoch_of (s := { s with heap := s.heap.push { cls := .type "tuple", data := .seq (js.map fun j : Nat => rawInt j).toArray }, drawn := d1 }) ho1 hd hf ?_)
      refine wpAny_bind (wpAny_newObj_type (wpAny_pure ⟨_, rfl, "set_iterator", _, ⟨_, Heap.get?_push_size _ rfl, rfl⟩, slot_setiter_next.lookup, ?_⟩))
      have emap : ∀ (l : List Nat), (∀ j ∈ l, j < es.size) → (l.filterMap fun j => es[j]?.map (·.2)).length = l.length := by
        intro l
        induction l with
        | nil => intro _; rfl
        | cons j r ih =>
          intro hl
          rw [List.filterMap_cons, Array.getElem?_eq_getElem (hl j List.mem_cons_self)]
          simp [ih fun i hi => hl i (List.mem_cons_of_mem _ hi)]
      have eat : ∀ (l : List Nat), (∀ j ∈ l, j < es.size) → ∀ (i j : Nat), l[i]? = some j → (l.filterMap fun j => es[j]?.map (·.2))[i]? = es[j]?.map (·.2) := by
        intro l
        induction l with
        | nil => intro _ i j e; simp at e
        | cons j r ih =>
          intro hl i k e
          have hj := hl j List.mem_cons_self
          rw [List.filterMap_cons, Array.getElem?_eq_getElem hj]
          cases i with
          | zero => simp at e; subst e; rw [Array.getElem?_eq_getElem hj]; rfl
          | succ i => simpa using ih (fun i hi => hl i (List.mem_cons_of_mem _ hi)) i k (by simpa using e)
      have hq : (js.filterMap fun j => es[j]?.map (·.2)).toArray.toList.Perm (es.toList.map (·.2)) := by
        refine (hjs.filterMap _).trans ?_
        have : ((List.range es.size).filterMap fun j => es[j]?.map (·.2)) = es.toList.map (·.2) := by
          refine List.ext_getElem? fun i => ?_
          by_cases hi : i < es.size
          · rw [eat (List.range es.size) (fun j hj => List.mem_range.mp hj) i i (by rw [List.getElem?_range hi]), List.getElem?_map, Array.getElem?_toList]
          · rw [List.getElem?_eq_none (by rw [emap _ fun j hj => List.mem_range.mp hj, List.length_range]; omega), List.getElem?_eq_none (by rw [List.length_map, Array.length_toList]; omega)]
        rw [this]
      have hz : (js.filterMap fun j => es[j]?.map (·.2)).toArray.size = es.size := by rw [List.size_toArray, emap js hjb, hjl]
      obtain ⟨k1, k2⟩ := keyz _ hq
      have hsp : (s.heap.push { cls := .type "tuple", data := .seq (js.map fun j : Nat => rawInt j).toArray }).objs.size = s.heap.objs.size + 1 := Heap.size_push _ _
      have W := walk_drawn (prog := prog) (w := w) (A := A) (a := a) (o := o) (ep := ep) (t := t) hh (s.heap.objs.size + 1) s.heap.objs.size (Nat.ne_of_lt (Nat.lt_succ_of_lt ha)) (Nat.ne_of_lt (Nat.lt_succ_self _)) hd hf _ hz js hjl (fun i j e => by
          have hj := hjb j (List.mem_of_getElem? e)
          refine ⟨es[j].1, es[j].2, ?_, Array.getElem?_eq_getElem hj⟩
          rw [List.getElem?_toArray, eat js hjb i j e, Array.getElem?_eq_getElem hj]; rfl) (po := { cls := .type "tuple", data := .seq (js.map fun j : Nat => rawInt j).toArray }) (pn := 0) rfl
      rw [← hz] at W
      rw [hsp]
      refine h _ d1 (s.heap.objs.size + 1) _ _ _ (fun b o e => Heap.get?_push_of_some _ (Heap.get?_push_of_some _ e)) (fun b hb => ?_) (Nat.le_succ _) k1 k2 W ⟨?_, Heap.get?_push_of_some _ ho1, Heap.get?_push_of_some _ (Heap.get?_push_size _ rfl)⟩
      · rw [Heap.size_push, hsp]
        simp only [List.mem_cons, List.not_mem_nil, or_false] at hb
        rcases hb with rfl | rfl | rfl
        · exact .inr ⟨Nat.le_succ _, Nat.lt_succ_self _⟩
        · exact .inl rfl
        · exact .inr ⟨Nat.le_refl _, Nat.lt_succ_of_lt (Nat.lt_succ_self _)⟩
      · rw [← hsp, hz]; exact Heap.get?_push_size _ rfl
theorem gs_hint (ho : s.heap.get? a = some o) (hex : o.ExactSet) {Q : Bool → Shared → Prop} (h : Q false s) : wpAny (model prog w) A (Builtin.List.listLengthHint (.ref a)) Q E s := by
  have hT : s.TypeIs (.ref a) "set" := ⟨o, ho, hex.1⟩
  unfold Builtin.List.listLengthHint
  refine wpAny_bind (wpAny_specialOf hT F.slot_set_len.lookup ?_)
  (generalize hid : ("set.__len__" : String) = id0; (fail_if_success (clear hid id0)); wp_delta; rw [show splitId id0 = some ("set", "__len__") from by subst hid; decide +kernel]; subst hid)
  refine wpAny_bind (wpAny_isInstance (b := true) hT (by rw [isSubtype_type]; kernel_rfl) ?_)
  refine wpAny_ite_split (fun z => absurd z (by decide)) (fun _ => ?_)
  refine wpAny_ite_split (fun _ => ?_) (fun z => absurd (by decide +kernel) z)
  exact wpAny_bind (wpAny_typeOf hT (wpAny_pure h))
theorem gs_collect {K : Type} [DecidableEq K] {knd : KeyKind prog w K} {ks : List K} (hh : A.handled = none) (ho : s.heap.get? a = some o) (hG : GS knd o ks) (hsz : ks.length ≤ sizeLine) {Q : List Value → Shared → Prop}
    (h : ∀ (h1 : Heap) (tk : Nat) (d1 : Drawn) (vs : List Value), (∀ b o, s.heap.get? b = some o → h1.get? b = some o) → (∀ v ∈ vs, ∃ k, knd.is k v = true) → (vs.filterMap (kfo knd)).Perm ks → Q vs { s with heap := h1, toks := tk, drawn := d1 }) :
    wpAny (model prog w) A (collect (.ref a)) Q E s := by
  have ha : a < s.heap.objs.size := Heap.lt_size ho
  have hex := hG.1
  unfold collect
  refine wpAny_bind (wpAny_runValue (codeAny_builtin F.entry_proto_collect ?_))
  rw [Around.under_plainId F.plain_proto_collect _]
  show wpAny _ A.in1 (newList [] >>= fun l => again (.builtin "list.__iadd__" ⟨[l, .ref a], []⟩)) _ _ s
  refine wpAny_bind (wpAny_newObj_type ?_)
  refine wpAny_pure ⟨plainId_quiet F.plain_list_iadd _, codeAny_builtin F.entry_list_iadd ?_⟩
  rw [Around.under_plainId F.plain_list_iadd _]
  show wpAny _ A.in1 (Builtin.List.listExtendWith (.ref s.heap.objs.size) (.ref a) (.ref s.heap.objs.size)) _ _ _
  have hS₁ : (s.heap.push { cls := .type "list", data := .seq ([] : List Value).toArray }).get? s.heap.objs.size = some { cls := .type "list", data := .seq ([] : List Value).toArray } := Heap.get?_push_size _ rfl
  have ho1 : (s.heap.push { cls := .type "list", data := .seq ([] : List Value).toArray }).get? a = some o := Heap.get?_push_of_some _ ho
  have h1 : Builtin.List.listSameRef (.ref s.heap.objs.size) (.ref a) = false := by simp [Builtin.List.listSameRef, Nat.ne_of_gt ha]
  unfold Builtin.List.listExtendWith
  refine wpAny_bind (wpAny_typeOf (T := "set") ⟨o, ho1, hex.1⟩ ?_)
  rw [if_neg (by rw [h1]; decide)]
  refine wpAny_bind (gs_iter (A := A.in1) (s := { s with heap := s.heap.push { cls := .type "list", data := .seq ([] : List Value).toArray } }) hh ho1 hG hsz fun g d1 I vals fp St hk hfp hI v1 v2 W st => ?_)
  have hn : vals.size ≤ sizeLine := by
    have : (vals.toList.filterMap (kfo knd)).length = vals.toList.length := by
      generalize vals.toList = l at v1
      induction l with
      | nil => rfl
      | cons v r ih =>
        obtain ⟨k, hk⟩ := v1 v List.mem_cons_self
        rw [List.filterMap_cons, kfo_of hk]
        simp [ih fun u hu => v1 u (List.mem_cons_of_mem _ hu)]
    have e2 := Array.length_toList (xs := vals)
    rw [← e2, ← this, v2.length_eq]; exact hsz
  have hSf : s.heap.objs.size ∉ fp := fun hm => by
    rcases hfp _ hm with e | ⟨e, _⟩
    · exact absurd e (Nat.ne_of_gt ha)
    · have e : (s.heap.push { cls := .type "list", data := .seq ([] : List Value).toArray }).objs.size ≤ s.heap.objs.size := e
      rw [Heap.size_push] at e; omega
  have hSI : s.heap.objs.size ≠ I := fun e => by
    have z : (s.heap.push { cls := .type "list", data := .seq ([] : List Value).toArray }).objs.size ≤ I := hI
    rw [Heap.size_push, ← e] at z; exact absurd z (Nat.not_succ_le_self _)
  refine wpAny_bind (wpAny_holding (gs_hint (hk _ _ ho1) hex ?_))
  refine wpAny_ite_split (fun _ => ?_) (fun z => absurd z (by decide))
  refine wpAny_bind (wpAny_rule ?_)
  refine wpAny_bind ?_
  have hS₂ := hk _ _ hS₁
  show wpAny _ A.in1 (updateSeq s.heap.objs.size (·.push .none) >>= fun _ => updateSeq s.heap.objs.size (·.pop)) _ _ _
  refine wpAny_bind (wpAny_updateSeq hS₂ rfl ?_)
  have hS₃ := Heap.get?_update_self (Obj.mapSeq (·.push Value.none)) hS₂ rfl
  refine wpAny_updateSeq (hz := by seq_fits) hS₃ rfl ?_
  have hS₄ := Heap.get?_update_self (Obj.mapSeq (·.pop)) hS₃ rfl
  have stay : ∀ b o, b ≠ s.heap.objs.size → g.get? b = some o → ((g.update s.heap.objs.size (Obj.mapSeq (·.push Value.none))).update s.heap.objs.size (Obj.mapSeq (·.pop))).get? b = some o := fun b o hb e =>
    (Heap.get?_update_other _ _ (Ne.symm hb)).trans ((Heap.get?_update_other _ _ (Ne.symm hb)).trans e)
  refine wpAny_pure ⟨plainId_quiet F.plain_extend_loop _, codeAny_extend_loopS W.toS hn s.heap.objs.size hSf _ vals.size 0 _ #[] _ rfl (Nat.zero_le _) (W.frame 0 _ _ st fun b hb o e => stay b o (fun z => hSf (z ▸ hb)) e) hS₄ (ItemsOf.nil _) fun s' acc' c' hm hS' hacc => ?_⟩
  show wpAny _ A (load s.heap.objs.size >>= _) _ _ s'
  refine wpAny_bind (wpAny_load hS' ?_)
  have ev : acc' = vals := by
    refine Array.ext_getElem? fun i => ?_
    by_cases hi : i < acc'.size
    · rw [hacc.2 i acc'[i] (Array.getElem?_eq_getElem hi)]; exact Array.getElem?_eq_getElem hi
    · rw [Array.getElem?_eq_none (by omega), Array.getElem?_eq_none (by have := hacc.1; omega)]
  subst ev
  obtain ⟨h', g', d', tk', os'⟩ := s'
  have eg : g' = s.gens := hm.gens
  have ed : d' = d1 := hm.drawn
  have eo : os' = s.os := hm.os
  subst eg; subst ed; subst eo
  refine wpAny_pure (h h' tk' d' _ (fun b o e => ?_) v1 v2)
  have hb0 : b < s.heap.objs.size := Heap.lt_size e
  refine hm.heap b o (fun hmem => ?_) (stay b o (Nat.ne_of_lt hb0) (hk b o (Heap.get?_push_of_some _ e)))
  rcases List.mem_cons.mp hmem with e' | hmem
  · exact absurd e' (Nat.ne_of_lt hb0)
  · have z : (s.heap.push { cls := .type "list", data := .seq ([] : List Value).toArray }).objs.size ≤ I := hI
    rw [Heap.size_push] at z
    rw [← List.mem_singleton.mp hmem] at z
    exact absurd (Nat.lt_of_lt_of_le hb0 (Nat.le_trans (Nat.le_succ _) z)) (Nat.lt_irrefl _)
end
end L2
namespace L2
open PySem
section
variable {prog : Program} {w : World} {K : Type} [DecidableEq K] {knd : KeyKind prog w K} {A : Around} {E : Value → Shared → Prop} {s : Shared}
section
variable {R : Result → Shared → Prop} {I : Addr} {fp wr : List Addr} {G : Array GenState → Array GenState → Prop} {n : Nat} {P : Nat → Value → Prop} {St : Nat → Shared → Prop}
theorem gs_loop (W : WalksS prog w A.in1 I fp wr G n P St) (S : Addr) (hSf : S ∉ fp) (ks : List K) (hl : ks.length = n) (hval : ∀ i v, P i v → v.scannable = true ∧ ∀ k, ks[i]? = some k → knd.is k v = true) (hb : n + 1 < scanBound) :
    ∀ (k i : Nat) (s : Shared) (o : Obj), n - i = k → i ≤ n → St i s → s.heap.get? S = some o → GS knd o (once (ks.take i)) →
      (∀ s' o', Moved (S :: wr) G s s' → s'.heap.get? S = some o' → GS knd o' (once ks) → R (.ok (.ret .none)) s') →
      codeAny (model prog w) A (.builtin "set.update.loop" ⟨[.ref S, .ref I], []⟩) R s := by
  have hSw : S ∉ wr := fun h => hSf (W.sub _ h)
  have hsub : ∀ b ∈ wr, b ∈ S :: wr := fun b hb => List.mem_cons_of_mem _ hb
  intro k
  induction k with
  | zero =>
    intro i s o hk hi hst hS hG hR
    have hin : i = n := by omega
    subst hin
    refine codeAny_builtin PyProof.Rows.F.entry_set_update_loop ?_
    rw [Around.under_plainId PyProof.Rows.F.plain_set_update_loop _]
    show wpAny _ A.in1 (pyNext (.ref I) >>= _) _ _ s
    refine wpAny_bind (W.done s _ _ hst fun s' hm => ?_)
    show wpAny _ A.in1 (ret Value.none) _ _ s'
    rw [← hl, List.take_length] at hG
    exact wpAny_pure (hR s' o (hm.mono hsub) (hm.heap S _ hSw hS) hG)
  | succ k ih =>
    intro i s o hk hi hst hS hG hR
    have hlt : i < n := by omega
    refine codeAny_builtin PyProof.Rows.F.entry_set_update_loop ?_
    rw [Around.under_plainId PyProof.Rows.F.plain_set_update_loop _]
    show wpAny _ A.in1 (pyNext (.ref I) >>= _) _ _ s
    refine wpAny_bind (W.item i s _ _ hlt hst fun v s' hP hst' hm => ?_)
    have hli : i < ks.length := by omega
    obtain ⟨hsc, hky⟩ := hval i v hP
    have hk1 := hky ks[i] (List.getElem?_eq_getElem hli)
    have hS' := hm.heap S _ hSw hS
    show wpAny _ A.in1 (holding [v] (setAdd S v) >>= _) _ _ s'
    refine wpAny_bind (wpAny_holding ?_)
    unfold setAdd
    refine wpAny_holding ?_
    refine wpAny_bind (knd.pyHash hk1 ?_)
    have hroom : (once (ks.take i)).length + 1 < scanBound := by have := once_len (ks.take i); rw [List.length_take] at this; omega
    refine gs_add (s := { s' with toks := s'.toks + 1 }) hk1 hsc hS' hG hroom fun b h' o' hsb ho' hG' => ?_
    have et : ks.take (i + 1) = ks.take i ++ [ks[i]] := by rw [List.take_succ, List.getElem?_eq_getElem hli]; rfl
    refine wpAny_pure ⟨plainId_quiet PyProof.Rows.F.plain_set_update_loop _, ih (i + 1) _ o' (by omega) hlt (W.frame _ s' _ _ hst' (Nat.le_succ _) fun b hb o e => ?_) ho' (by rw [et, once_snoc]; exact hG') fun s'' o'' hm'' hS'' hG'' => ?_⟩
    · rw [hsb.2 b (fun h : b = S => hSf (by rw [← h]; exact hb))]; exact e
    · refine hR s'' o'' (Moved.trans W.gtrans ((hm.mono hsub).then_heap (Nat.le_succ _) fun b o hb e => ?_) hm'') hS'' hG''
      rw [hsb.2 b (fun h : b = S => hb (by rw [h]; exact List.mem_cons_self))]; exact e
end
theorem gs_fresh : GS knd { cls := .type "set", dict := none, data := .set #[] 0 (.fresh 0 0 (led0 w)) } ([] : List K) :=
  ⟨⟨rfl, rfl, rfl⟩, #[], 0, _, rfl, fun e he => by simp at he, rfl, ris_empty, rfl, .refl _⟩
theorem gs_new (a : Value) {Q₁ : Value → Shared → Prop}
    (h : Q₁ (.ref s.heap.objs.size) { s with heap := s.heap.push { cls := .type "set", dict := none, data := .set #[] 0 (.fresh 0 0 (led0 w)) } }) :
    codeAny (model prog w) A (.call (.builtin "set.__new__") ⟨[.type "set", a], []⟩) (wants Q₁ E) s := by
  refine codeAny_of_tree ?_
  show wpAny _ A.in1 (do checkBuiltinCall "set.__new__" ⟨[.type "set", a], []⟩; again (.builtin "set.__new__" ⟨[.type "set", a], []⟩)) _ _ s
  refine wpAny_bind (wpAny_of_eq (F.newCall_set_1 a) (wpAny_pure ⟨plainId_quiet F.plain_set_new _, codeAny_builtin F.entry_set_new ?_⟩))
  rw [Around.under_plainId F.plain_set_new _]
  unfold Builtin.«set.__new__» Builtin.Frozenset.newClass
  have hsub := sub_set_self
  obtain ⟨hp, g, d, tk, os⟩ := s
  dsimp only
  wp_walk
  refine wpAny_askSetting (wpAny_pure ?_)
  dsimp only
  simp only [newObj]
  refine wpAny_bind (wpAny_alloc (wpAny_pure ?_))
  exact wpAny_pure h
theorem gs_call {l : Addr} {items : Array Value} {ks : List K} {Q : Value → Shared → Prop}
    (hh : A.handled = none) (hl : s.heap.IsList l items) (hks : ks.length = items.size) (hi : ∀ (i : Nat) v, items[i]? = some v → v.scannable = true ∧ ∀ k, ks[i]? = some k → knd.is k v = true) (hb : items.size + 1 < scanBound)
    (h : ∀ (h' : Heap) (tk : Nat) (o : Obj), h'.get? s.heap.objs.size = some o → GS knd o (once ks) → (∀ b o, s.heap.get? b = some o → h'.get? b = some o) → Q (.ref s.heap.objs.size) { s with heap := h', toks := tk }) :
    wpAny (model prog w) A (call (.type "set") [.ref l]) Q E s := by
  obtain ⟨c, tl, hmro⟩ := F.called_set.mro
  have hmade := F.called_set.made
  have hsub := F.called_set.sub
  refine wpAny_call (codeAny_of_tree ?_)
  show wpAny _ _ (callAny (.type "set") _) _ _ _
  refine wpAny_pure ⟨Code.quiet_builtin _ (by decide +kernel), codeAny_builtin F.entry_type_call ?_⟩
  rw [Around.under_plain (weight_type_call_type "set" [.ref l] []) rfl]
  have h1 := F.called_set.notType
  have h2 := F.called_set.canCreate
  have hct := F.typeCall_set_1 (.ref l)
  repeat (any_goals (first | assumption | wp_step))
  refine codeAny_mono (gs_new (.ref l) (E := E) (Q₁ := fun obj s₁ => obj = .ref s.heap.objs.size ∧ s₁ = { s with heap := s.heap.push { cls := .type "set", dict := none, data := .set #[] 0 (.fresh 0 0 (led0 w)) } }) ⟨rfl, rfl⟩) fun r s₁ hr => ?_
  have hG0 : GS knd { cls := .type "set", dict := none, data := .set #[] 0 (.fresh 0 0 (led0 w)) } ([] : List K) := gs_fresh
  cases r with
  | error e => exact hr
  | ok fl =>
    cases fl with
    | ret obj =>
      obtain ⟨rfl, rfl⟩ := hr
      have hS : (s.heap.push { cls := .type "set", dict := none, data := .set #[] 0 (.fresh 0 0 (led0 w)) }).get? s.heap.objs.size = some { cls := .type "set", dict := none, data := .set #[] 0 (.fresh 0 0 (led0 w)) } := Heap.get?_push_size _ rfl
      have hT : Shared.TypeIs { s with heap := s.heap.push { cls := .type "set", dict := none, data := .set #[] 0 (.fresh 0 0 (led0 w)) } } (.ref s.heap.objs.size) "set" := ⟨_, hS, hG0.1.1⟩
      have hli := F.called_set.init.lookup
      have hbi := F.called_set.init.bind (.ref s.heap.objs.size)
      repeat (any_goals (first | assumption | wp_step))
      refine codeAny_mono (codeAny_call_builtin (R := wants (fun r s₂ => r = .none ∧ ∃ h' tk o, s₂ = { s with heap := h', toks := tk } ∧ h'.get? s.heap.objs.size = some o ∧ GS knd o (once ks) ∧
          (∀ b o, s.heap.get? b = some o → h'.get? b = some o)) E) F.called_set.init.plain F.entry_set_init (check_set_init_1 hT ?_)) fun r₂ s₂ hr₂ => ?_
      · obtain ⟨ol, hol, hcl, nl, hdl⟩ := hl
        obtain ⟨ocls, odict, odata, oslots⟩ := ol
        simp only at hcl hdl
        subst hcl; subst hdl
        have hol' : (s.heap.push { cls := .type "set", dict := none, data := .set #[] 0 (.fresh 0 0 (led0 w)) }).get? l = some { cls := .type "list", dict := odict, data := .seq items nl, slots := oslots } := Heap.get?_push_of_some _ hol
        have hsls := F.sub_list_set
        have hslf := F.sub_list_frozenset
        have hne : (Value.type "list" == Value.type "dict") = false := by decide
        have hl1 : (s.heap.push { cls := .type "set", dict := none, data := .set #[] 0 (.fresh 0 0 (led0 w)) }).IsList l items := ⟨_, hol', rfl, nl, rfl⟩
        unfold Builtin.«set.__init__» noKeywords Builtin.Frozenset.updateFrom
        generalize hPI : pyIter = PI
        wp_walk
        subst hPI
        refine wpAny_pyIter_list hl1 ?_
        refine wpAny_bind (wpAny_runValue ?_)
        have hlS : l < s.heap.objs.size := Heap.lt_size hol
        have hh3 : A.in1.in1.in1.handled = none := by simp [hh]
        have hneI : l ≠ (s.heap.push { cls := .type "set", dict := none, data := .set #[] 0 (.fresh 0 0 (led0 w)) }).objs.size := by rw [Heap.size_push]; exact Nat.ne_of_lt (Nat.lt_succ_of_lt hlS)
        have hSf : s.heap.objs.size ∉ [(s.heap.push { cls := .type "set", dict := none, data := .set #[] 0 (.fresh 0 0 (led0 w)) }).objs.size, l] := by
          rw [Heap.size_push]; simp only [List.mem_cons, List.not_mem_nil, or_false, not_or]
          exact ⟨Nat.ne_of_lt (Nat.lt_succ_self _), Nat.ne_of_gt hlS⟩
        refine gs_loop (knd := knd) ((Walks.list hh3 _ l hneI items).toS) s.heap.objs.size hSf ks hks hi hb (items.size - 0) 0 _ { cls := .type "set", dict := none, data := .set #[] 0 (.fresh 0 0 (led0 w)) } (by omega) (Nat.zero_le _)
          ⟨⟨_, Heap.get?_push_size _ rfl, rfl, rfl⟩, (hl1.push _)⟩ (Heap.get?_push_of_some _ hS) hG0 fun s' o' hm ho' hG' => ?_
        obtain ⟨h', g', d', tk', os'⟩ := s'
        have eg : g' = s.gens := hm.gens
        have ed : d' = s.drawn := hm.drawn
        have eo : os' = s.os := hm.os
        subst eg; subst ed; subst eo
        show wpAny _ _ _ _ _ _
        refine wpAny_pure ?_
        show wpAny _ _ (ret Value.none) _ _ _
        refine wpAny_pure ⟨rfl, h', tk', o', rfl, ho', hG', fun b o e => ?_⟩
        have hb0 : b < s.heap.objs.size := Heap.lt_size e
        have hb1 : b ≠ s.heap.objs.size := Nat.ne_of_lt hb0
        have hb2 : b ≠ (s.heap.push { cls := .type "set", dict := none, data := .set #[] 0 (.fresh 0 0 (led0 w)) }).objs.size := by rw [Heap.size_push]; exact Nat.ne_of_lt (Nat.lt_succ_of_lt hb0)
        exact hm.heap b o (by simp only [List.mem_cons, List.not_mem_nil, or_false, not_or]; exact ⟨hb1, hb2⟩) (Heap.get?_push_of_some _ (Heap.get?_push_of_some _ e))
      · cases r₂ with
        | error e => exact hr₂
        | ok fl₂ =>
          cases fl₂ with
          | ret r =>
            obtain ⟨rfl, h', tk, o', rfl, ho', hG', hk'⟩ := hr₂
            repeat (any_goals (first | assumption | wp_step))
            exact h _ _ _ ho' hG' hk'
          | _ => exact hr₂.elim
    | _ => exact hr.elim
end
end L2
namespace L2
open PySem PySem.Spec PyProof.Rows
section
def SetC (P : Program) (w : World) (a : Addr) (ks : List Key) : HO := .ext fun h => ∃ o, h.get? a = some o ∧ GS (mixKind P w) o ks
theorem setC_ok {P : Program} {w : World} {H : Hp} {h : Heap} {a : Addr} {ks : List Key} {o : Obj} (e : h.get? a = some o) (g : GS (mixKind P w) o ks) : ObjOk P w H h a (SetC P w a ks) :=
  ⟨⟨o, e, g⟩, ⟨o, e⟩, fun _ _ ⟨o, e, g⟩ k => ⟨o, k o e, g⟩⟩
theorem kV_scan {k : Key} {v : Value} (r : RelV (kV k) v) : v.scannable = true := by
  cases k <;> (obtain ⟨t, rfl⟩ := r; rfl)
variable {X : Cx}
theorem call_setL (hc : X.calm = true) : CallR X (.type "set") (fun xs H Q => ∃ (a : Addr) (ks : List Key), xs = [.ref a] ∧ SqL X.K H a (ks.map kV) ∧ ks.length + 1 < 4096 ∧ ∀ p, H p = none → Q (.ref p) (upd H p (SetC X.prog X.w p (once ks)))) := by
  intro pins s σ H xs us Q I r h
  obtain ⟨a, ks, rfl, hq, hz, q⟩ := h
  obtain ⟨u, rfl, ru⟩ := vals1 r
  cases ru
  obtain ⟨its, rv, pl, hl⟩ := I.list hq
  have hlen : ks.length = its.toArray.size := by have := rv.length; rw [List.length_map] at this; rw [List.size_toArray, this]
  refine gs_call (knd := mixKind X.prog X.w) (ks := ks) (I.ok.hd hc) pl.isList hlen (fun i v e => ?_) (by rw [← hlen]; exact hz) fun h' tk o ho hG hk => ?_
  · have hi : i < ks.length := by rw [hlen]; exact (Array.getElem?_eq_some_iff.mp e).1
    obtain ⟨u, hu, ru⟩ := rv.get (x := kV ks[i]) (show (ks.map kV)[i]? = some (kV ks[i]) by rw [List.getElem?_map, List.getElem?_eq_getElem hi]; rfl)
    rw [List.getElem?_toArray, hu] at e
    cases e
    refine ⟨kV_scan ru, fun k hk => ?_⟩
    rw [List.getElem?_eq_getElem hi] at hk
    cases hk
    exact kV_is ru
  · exact ⟨.ref s.heap.objs.size, _, I.laid (t' := tk) hk (Nat.le_refl _) (setC_ok ho hG), rfl, q _ (I.hok.fresh (Nat.le_refl _))⟩
theorem Inv.drawn' {pins : List (Addr × Obj)} {σ : List (Option V)} {H : Hp} {s : Shared} (I : Inv X pins σ H s) (d : Drawn) : Inv X pins σ H { s with drawn := d } :=
  ⟨I.ok, I.os, I.bare, I.base, I.loc, I.cell, I.free, I.freeC, I.pin, I.hok, I.len⟩
theorem strs_of {P : Program} {w : World} : ∀ (vs : List Value), (∀ v ∈ vs, ∃ k, (mixKind P w).is k v = true) → (∀ k ∈ vs.filterMap (kfo (mixKind P w)), ∃ n : Str, k = Sum.inr n) →
    ∃ ns : List Str, StrsAre vs ns ∧ vs.filterMap (kfo (mixKind P w)) = ns.map Sum.inr
  | [], _, _ => ⟨[], .nil, rfl⟩
  | v :: r, h1, h2 => by
    obtain ⟨k, hk⟩ := h1 v List.mem_cons_self
    have e := kfo_of hk
    obtain ⟨ns, a, b⟩ := strs_of r (fun u hu => h1 u (List.mem_cons_of_mem _ hu)) fun k' hk' => h2 k' (by rw [List.filterMap_cons, e]; exact List.mem_cons_of_mem _ hk')
    obtain ⟨n, rfl⟩ := h2 k (by rw [List.filterMap_cons, e]; exact List.mem_cons_self)
    obtain ⟨t, rfl⟩ := kV_of_is hk
    exact ⟨n :: ns, .cons _ _ a, by rw [List.filterMap_cons, e, b]; rfl⟩
theorem perm_inr {a b : List Str} (h : (a.map (Sum.inr : Str → Key)).Perm (b.map Sum.inr)) : a.Perm b := by
  have := h.filterMap (fun k : Key => match k with | .inl _ => none | .inr x => some x)
  have e : ∀ l : List Str, (l.map (Sum.inr : Str → Key)).filterMap (fun k : Key => match k with | .inl _ => none | .inr x => some x) = l := fun l => by
    rw [List.filterMap_map]; show l.filterMap (fun n => some n) = l; simp
  rw [e, e] at this
  exact this
def rSortT (P : Program) (w : World) : List V → Hp → VK → Prop := fun xs H Q => ∃ (a : Addr) (ks : List Str), xs = [.ref a] ∧ H a = some (SetC P w a (ks.map Sum.inr)) ∧ ks.length < 64 ∧
    ∀ ks' : List Str, ks'.Perm ks → sortedS ks' = true → ∀ p, H p = none → Q (.ref p) (upd H p (.lst (ks'.map V.str)))
theorem call_sortedT (hc : X.calm = true) : CallR X (.builtin "sorted") (rSortT X.prog X.w) := by
  intro pins s σ H xs us Q I r h
  obtain ⟨a, ks, rfl, ha, h64, q⟩ := h
  obtain ⟨u, rfl, ru⟩ := vals1 r
  cases ru
  obtain ⟨⟨o, ho, hG⟩, _⟩ := I.hok a _ ha
  refine Calls.call_function_entry kind_sorted plain_sorted entry_sorted (args_sorted1 _) ?_
  unfold Builtin.«sorted»
  refine wpAny_bind (m := checkCount "sorted" 1 1 _) (wpAny_pure ?_)
  refine wpAny_bind (gs_collect (A := X.A.in1) (I.ok.hd hc) ho hG (by rw [List.length_map, sizeLine_eq]; omega) fun h' tk d1 vs hkp v1 v2 => ?_)
  obtain ⟨n1, hS, e1⟩ := strs_of vs v1 (fun k hk => by obtain ⟨n, _, rfl⟩ := List.mem_map.mp (v2.mem_iff.mp hk); exact ⟨n, rfl⟩)
  rw [e1] at v2
  have hp := perm_inr v2
  have hlv : vs.length = n1.length := by have := (vals_strs hS).length; rw [List.length_map] at this; exact this.symm
  have I1 : Inv X pins σ H { s with heap := h', toks := tk, drawn := d1 } := (I.kept (t' := tk) hkp).drawn' d1
  refine wpAny_bind (wpAny_newList ?_ (by rw [hlv, hp.length_eq, sizeLine_eq]; omega))
  have hoL : (h'.push (seqObj "list" vs.toArray 0)).get? h'.objs.size = some (seqObj "list" vs.toArray 0) := Heap.get?_push_size _ rfl
  show wpAny _ _ _ _ _ { s with heap := h'.push (seqObj "list" vs.toArray 0), toks := tk, drawn := d1 }
  refine wpAny_bind (wpAny_holding (wpAny_call_entry slot_list_sort ⟨_, hoL, rfl⟩ entry_list_sort (list_sort_treeK strKind_oneLt hoL hS.keysOf (fun v1 v2 rest e => keyKind_strs (by rw [← e]; exact hS)) (by rw [hlv, hp.length_eq]; exact h64) fun st' a1 a2 => ⟨_, rfl, ?_⟩) (args_list_sort _)))
  obtain ⟨ss', b1, b2, b3⟩ := sorted_out_str hS a1 a2
  refine wpAny_pure ⟨_, rfl, ?_⟩
  obtain ⟨e, he⟩ := sortedHeap_at (out := (arrOf st').map (·.2)) hoL
  have hfr : H h'.objs.size = none := I1.hok.fresh (Nat.le_refl _)
  refine ⟨.ref h'.objs.size, _, I1.laid (a := h'.objs.size) (o := .lst (ss'.map V.str)) (t' := tk) (fun b o eb => ?_) (Nat.le_refl _) ⟨?_, ((arrOf st').map (·.2)).toList, e, vals_strs b1, by rw [Array.toArray_toList]; exact he⟩, rfl, q ss' (b2.trans hp) b3 _ hfr⟩
  · have lb : b < h'.objs.size := Heap.lt_size eb
    rw [sortedHeap_old (Nat.ne_of_lt lb) (by rw [size_push']; exact Nat.lt_succ_of_lt lb)]
    exact Heap.get?_push_of_some _ eb
  · rw [List.length_map, b2.length_eq, hp.length_eq, sizeLine_eq]; omega
end
end L2
namespace Vc
open PySem L2 Sf
theorem hl1 {a : Addr} {Hb : Hp} (h : Hb a = none) : ∀ x ∈ [a], Hb x = none := fun x z => by rw [List.mem_singleton.mp z]; exact h
theorem hl2 {a b : Addr} {Hb : Hp} (h : Hb a = none) (g : Hb b = none) : ∀ x ∈ [a, b], Hb x = none := fun x z => (List.mem_cons.mp z).elim (fun e => by rw [e]; exact h) (hl1 g x)
theorem in1 {a b : Addr} {l : List Addr} : a ∈ b :: a :: l := List.mem_cons_of_mem _ List.mem_cons_self
end Vc
namespace L2
open PySem PySem.Spec PyProof.Rows
section
variable {P : Program} {w : World} {K : PySem.W.Frag}
def rSetX (P : Program) (w : World) (K : PySem.W.Frag) : List V → Hp → VK → Prop := fun xs H Q => ∃ (a : Addr) (ks : List Key), xs = [.ref a] ∧ SqL K H a (ks.map kV) ∧ ks.length + 1 < 4096 ∧ ∀ p, H p = none → Q (.ref p) (upd H p (SetC P w p (once ks)))
theorem call_setX {X : Cx} (hc : X.calm = true) : CallR X (.type "set") (rSetX X.prog X.w X.K) := call_setL hc
end
theorem once_map {α β : Type} [DecidableEq α] [DecidableEq β] {f : α → β} (hf : ∀ x y, f x = f y → x = y) (l : List α) : once (l.map f) = (once l).map f := by
  have key : ∀ (l a : List α), (l.map f).foldl addk (a.map f) = (l.foldl addk a).map f := by
    intro l
    induction l with
    | nil => intro a; rfl
    | cons x r ih =>
      intro a
      have e : addk (a.map f) (f x) = (addk a x).map f := by
        unfold addk
        by_cases h : x ∈ a
        · rw [if_pos h, if_pos (List.mem_map.mpr ⟨x, h, rfl⟩)]
        · rw [if_neg h, if_neg (fun z => by obtain ⟨y, hy, e⟩ := List.mem_map.mp z; exact h (hf _ _ e ▸ hy)), List.map_append]; rfl
      show ((r.map f).foldl addk (addk (a.map f) (f x))) = _
      rw [e]; exact ih _
  exact key l []
theorem once_nodup {α : Type} [DecidableEq α] (l : List α) : (once l).Nodup ∧ ∀ x, x ∈ once l ↔ x ∈ l := by
  have key : ∀ (l a : List α), a.Nodup → (l.foldl addk a).Nodup ∧ ∀ x, x ∈ l.foldl addk a ↔ x ∈ a ∨ x ∈ l := by
    intro l
    induction l with
    | nil => intro a h; exact ⟨h, fun x => by simp⟩
    | cons y r ih =>
      intro a h
      have h1 : (addk a y).Nodup := by
        unfold addk
        by_cases hy : y ∈ a
        · rw [if_pos hy]; exact h
        · rw [if_neg hy, List.nodup_append]; exact ⟨h, by simp, fun u hu v hv e => by rw [List.mem_singleton] at hv; exact hy (hv ▸ e ▸ hu)⟩
      have h2 : ∀ x, x ∈ addk a y ↔ x ∈ a ∨ x = y := by
        intro x
        unfold addk
        by_cases hy : y ∈ a
        · rw [if_pos hy]; exact ⟨.inl, fun z => z.elim id fun e => e ▸ hy⟩
        · rw [if_neg hy, List.mem_append, List.mem_singleton]
      obtain ⟨a1, a2⟩ := ih (addk a y) h1
      refine ⟨a1, fun x => (a2 x).trans ?_⟩
      rw [h2, List.mem_cons, or_assoc]
  obtain ⟨a, b⟩ := key l [] List.nodup_nil
  exact ⟨a, fun x => by rw [show once l = l.foldl addk [] from rfl, b x]; simp⟩
end L2
namespace Vc
open PySem L2 Sf
section
variable {P : Program} {w : World} {K : PySem.W.Frag} {F H : Hp} {Q : VK}
end
end Vc
namespace L2
open PySem PySem.Spec PyProof.Rows
theorem ins_rd {P : Program} {w : World} {H : Hp} {h : Heap} {a C dx : Addr} {fs : List (Str × V)} (hok : HOk P w H h) (e : Rd H a (.ins C dx fs)) : ∃ mA, ObjM h a dx C mA ∧ ∀ f, RelO (fs.lookup f) (mA f) := by
  have x : ObjOk P w H h a (.ins C dx fs) := by
    rcases e with e | ⟨o, e⟩
    · exact hok a _ e
    · exact (hok a _ e).2
  obtain ⟨d, z, ne, ob, mA, n, r, q⟩ := x
  exact ⟨mA, ⟨ob, n, ne⟩, r⟩
def tFldR (K : PySem.W.Frag) (ta : TE) (f : Str) : TE := fun σ H Q => ta σ H fun x H1 => ∃ a C dx fs v, x = .ref a ∧ Rd H1 a (.ins C dx fs) ∧ Cls K C ∧ NoAttr K C f ∧ fs.lookup f = some v ∧ Q v H1
def tMethD (D : Addr → Nat → Prop) (m : Str) (sp : Nat → Sp) (E : XK) (ta : TE) : TE := fun σ H Q => ta σ H fun x H1 => ∃ a C dx fs g, x = .ref a ∧ Rd H1 a (.ins C dx fs) ∧ D C g ∧ fs.lookup m = none ∧ sp g [x] H1 Q E
def MOk (P : Program) (w : World) (K : PySem.W.Frag) (mg : Str → Option Value) (base : Heap) (CX : CXT) (k : Nat) (m : Str) (C : Addr) (sp : Sp) : Prop :=
  Cls K C ∧ ∃ f fd, Meth K C m f ∧ FnOk P w K mg base CX k f fd ["self"] sp ∧ Binds K fd ["self"] []
section
variable {X : Cx} {CX : CXT} {k : Nat} {E : XK} {m f : Str} {pos apos : Pos} {o e : Expr} {ta : TE} {D : Addr → Nat → Prop} {sp : Nat → Sp}
theorem pe_fldR (he : PE X e ta) (hb : attributeBase e f X.env (eval e X.env) = eval e X.env) : PE X (.Attribute e f pos) (tFldR X.K ta f) := by
  intro pins s σ H Q I h
  refine attr_of hb (thn (he pins s σ H _ I h) fun u s1 ⟨x, H1, I1, rx, a, C, dx, fs, v, ex, ea, c, n, l, q⟩ => ?_)
  subst ex
  obtain rfl : u = Value.ref a := rx
  obtain ⟨mA, O, r⟩ := ins_rd I1.hok ea
  obtain ⟨u, hu, ru⟩ := RelO.some_of (v := v) (o := mA f) (by rw [← l]; exact r f)
  exact get_map I1.kIn O (c.get f) c.hd n hu (handed_of ru) ⟨v, H1, I1.tok _, ru, q⟩
theorem pe_methD {pl : Sem Bool} (he : PE X o ta) (hD : ∀ C g, D C g → MOk X.prog X.w X.K X.mg X.base CX k m C (sp g)) (hr : Room k X.A) (hx : Passes CX X E)
    (ht : eval (.Call (.Attribute o m apos) [] [] pos) X.env = (do
      let ov ← eval o X.env
      standAt apos.atName
      let (f, first) ← holding [ov] (getMethod ov m pl)
      callWith pos f first (backTo pos (starEach [] X.env)) (backToKw pos (keywordEach [] X.env))) := by rfl) :
    PE X (.Call (.Attribute o m apos) [] [] pos) (tMethD D m sp E ta) := by
  intro pins s σ H Q I h
  refine PySem.W.methodCall_KW (pl := pl) (thn (he pins s σ H _ I h) fun u s1 ⟨x, H1, I1, rx, a, C, dx, fs, g, ex, ea, d, l, q⟩ => ?_) ht
  subst ex
  obtain rfl : u = Value.ref a := rx
  obtain ⟨c, f, fd, hm, F, hb⟩ := hD C g d
  obtain ⟨mA, O, r⟩ := ins_rd I1.hok ea
  have hn : mA m = none := RelO.none_of (by rw [← l]; exact r m)
  refine get_meth I1.kIn O (c.get m) hm.at_ hm.fn hn ?_
  exact PySem.W.callWith_K0 (first := [.ref a]) I1.kIn hm.kp (run_fn (us := [.ref a]) (vs := [.ref a]) F hr hb .nil hx I1 (.cons rfl .nil) q)
theorem a_fldR {K : PySem.W.Frag} {σ : St} {H : Hp} {Q : VK} (h : ta σ H fun x H1 => ∃ a C dx fs v, x = .ref a ∧ Rd H1 a (.ins C dx fs) ∧ Cls K C ∧ NoAttr K C f ∧ fs.lookup f = some v ∧ Q v H1) : tFldR K ta f σ H Q := h
theorem a_make {σ : St} {H : Hp} {Q : VK} {C : Addr} {sp : Sp} {dvs : List V} {t : TA} (h : t σ H fun vs H1 => ∀ x dx, H1 x = none → H1 dx = none → dx ≠ x → sp (.ref x :: (vs ++ dvs)) (upd (upd H1 dx (.own x)) x (.ins C dx [])) (fun v H2 => v = .non ∧ Q (.ref x) H2) E) : tMake C sp dvs E t σ H Q := h
theorem a_methD {σ : St} {H : Hp} {Q : VK} (h : ta σ H fun x H1 => ∃ a C dx fs g, x = .ref a ∧ Rd H1 a (.ins C dx fs) ∧ D C g ∧ fs.lookup m = none ∧ sp g [x] H1 Q E) : tMethD D m sp E ta σ H Q := h
end
end L2
namespace Vc
open PySem L2 Sf
def spI1 (C : Addr) (f : Str) : Sp := fun vs H Q _ => ∃ (x dx : Addr) (v : V), vs = [.ref x, v] ∧ H x = some (.ins C dx []) ∧ Q .non (upd H x (.ins C dx [(f, v)]))
def spI2 (C : Addr) (f g : Str) : Sp := fun vs H Q _ => ∃ (x dx : Addr) (v u : V), vs = [.ref x, v, u] ∧ H x = some (.ins C dx []) ∧ Q .non (upd H x (.ins C dx [(f, v), (g, u)]))
theorem mk_al {F H : Hp} {C x dx : Addr} {fs : List (Str × V)} (wd : Same F H) (hx : H x = none) (hd : H dx = none) (ne : dx ≠ x) :
    ∃ F', Gr F H F' (upd (upd (upd H dx (.own x)) x (.ins C dx [])) x (.ins C dx fs)) ∧ F' x = some (.ins C dx fs) := by
  rw [upd_upd]
  obtain ⟨F1, g1, e1⟩ := al2 (o := .own x) wd (by intro _ _ z; cases z) hd
  obtain ⟨F2, g2, e2⟩ := al2 (o := .ins C dx fs) g1.s (by intro _ _ z; cases z) (show upd H dx (.own x) x = none by rw [upd_ne (Ne.symm ne)]; exact hx)
  exact ⟨F2, Gr.of (g1.toGr0.trans g2.toGr0) (fun a o u h => g1.z a _ _ (g2.z a o u h).choose_spec.choose_spec), e2⟩
end Vc
namespace L2
open PySem PySem.Spec PyProof.Rows
def rLenS (P : Program) (w : World) : List V → Hp → VK → Prop := fun xs H Q => ∃ (a : Addr) (ks : List Key), xs = [.ref a] ∧ H a = some (SetC P w a ks) ∧ ks.length < 4096 ∧ Q (.int ks.length) H
theorem call_lenS {X : Cx} : CallR X (.builtin "len") (rLenS X.prog X.w) := by
  intro pins s σ H xs us Q I r h
  obtain ⟨a, ks, rfl, ha, hl, q⟩ := h
  obtain ⟨u, rfl, ru⟩ := vals1 r
  cases ru
  obtain ⟨⟨o, ho, hex, es, ep, t, hd, hel, hf, _, _, hp⟩, _⟩ := I.hok a _ ha
  have hz := gs_size (o := o) hel hp
  exact call_len_set ho hex hd hf (by rw [hz]; omega) ⟨.int ks.length, H, I.tok _, ⟨_, by rw [hz]⟩, q⟩
theorem MOk.mono {P : Program} {w : World} {K : PySem.W.Frag} {mg : Str → Option Value} {base : Heap} {CX : CXT} {k k' : Nat} {m : Str} {C : Addr} {sp : Sp} (h : MOk P w K mg base CX k m C sp) (le : k ≤ k') : MOk P w K mg base CX k' m C sp := by
  obtain ⟨c, f, fd, hm, F, hb⟩ := h
  exact ⟨c, f, fd, hm, F.mono le, hb⟩
end L2
namespace Vc
open PySem L2 Sf
section
variable {P : Program} {w : World} {K : PySem.W.Frag} {F H : Hp} {Q : VK}
theorem al_str_eq {F : Hp} : ∀ {vs : List V} {ns : List Str}, Al rS F vs ns → vs = ns.map V.str
  | [], [], _ => rfl
  | _ :: _, _ :: _, h => by
    obtain ⟨h1, h2⟩ := h
    rw [List.map_cons, ← al_str_eq h2]
    exact congrArg (· :: _) h1
  | [], _ :: _, h => h.elim
  | _ :: _, [], h => h.elim
theorem a_setT {a : Addr} {vs : List V} {ns : List Str} (hq : SqL K H a vs) (al : Al rS F vs ns) (hl : ns.length + 1 < 4096) (q : ∀ p, H p = none → Q (.ref p) (upd H p (SetC P w p ((once ns).map Sum.inr)))) : rSetX P w K [V.ref a] H Q := by
  refine ⟨a, ns.map Sum.inr, rfl, ?_, by rw [List.length_map]; exact hl, fun p hp => ?_⟩
  · rw [List.map_map]
    have := al_str_eq al
    rw [this] at hq
    exact hq
  · rw [once_map (fun x y e => Sum.inr.inj e)]; exact q p hp
theorem a_sortT {a : Addr} {ns : List Str} (h : H a = some (SetC P w a (ns.map Sum.inr))) (hl : ns.length < 64) (q : ∀ p, H p = none → Q (.ref p) (upd H p (.lst ((srt ns).map V.str)))) : rSortT P w [V.ref a] H Q :=
  ⟨a, ns, rfl, h, hl, fun ns' e1 e2 p hp => by rw [srt_of e1 e2]; exact q p hp⟩
theorem a_lenS {α : Type} {f : α → Key} {a : Addr} {ns : List α} (h : H a = some (SetC P w a (ns.map f))) (hl : ns.length < 4096) (q : Q (.int (ns.length : Int)) H) : rLenS P w [V.ref a] H Q :=
  ⟨a, ns.map f, rfl, h, by rw [List.length_map]; exact hl, by rw [List.length_map]; exact q⟩
end
end Vc
namespace Vc
open PySem L2 Sf PyProof.Rows
end Vc
namespace L2
open PySem PySem.Spec PyProof.Rows
section
variable {X : Cx} {CX : CXT} {k : Nat} {f C : Addr} {fd : FuncData} {ps : List Str} {sp : Sp} {dvs : List V} {ds : List Value} {x : Str} {p pos : Pos} {e : Expr} {es : List Expr} {t : TA}
def tMakeX (C : Addr) (sp : Sp) (dvs : List V) (R : St → XK) (t : TA) : TE := fun σ H Q => t σ H fun vs H1 => ∀ x dx, H1 x = none → H1 dx = none → dx ≠ x →
  sp (.ref x :: (vs ++ dvs)) (upd (upd H1 dx (.own x)) x (.ins C dx [])) (fun v H2 => v = .non ∧ Q (.ref x) H2) (R σ)
theorem run_makeX {E : XK} {pins : List (Addr × Obj)} {σ : St} {H : Hp} {s : Shared} {Q : VK} {us : List Value} {vs : List V} (M : Mk X.K C f) (F : FnOk X.prog X.w X.K X.mg X.base CX k f fd ps sp) (hr : Room (k + 1) X.A) (hb : Binds X.K fd ps ds) (hd : Vals dvs ds)
    (hx : PassAt CX X σ E) (I : Inv X pins σ H s) (r : Vals vs us)
    (h : ∀ x dx, H x = none → H dx = none → dx ≠ x → sp (.ref x :: (vs ++ dvs)) (upd (upd H dx (.own x)) x (.ins C dx [])) (fun v H2 => v = .non ∧ Q (.ref x) H2) E) :
    wpAny (model X.prog X.w) X.A (call (.ref C) us) (EP X pins σ Q) X.xe s := by
  have hq := h (s.heap.objs.size + 1) s.heap.objs.size (I.hok.fresh (Nat.le_succ _)) (I.hok.fresh (Nat.le_refl _)) (Nat.ne_of_lt (Nat.lt_succ_self _))
  have I2 := Inv.made (C := C) I
  have r2 : Vals (V.ref (s.heap.objs.size + 1) :: (vs ++ dvs)) (Value.ref (s.heap.objs.size + 1) :: (us ++ ds)) := .cons rfl (r.append hd)
  have hl : (Value.ref (s.heap.objs.size + 1) :: us ++ ds).length = ps.length := (r2.length.symm.trans (F.len _ _ _ _ hq))
  refine wpAny_call (make_map (f := f) I.kIn M.makes M.init (beq_iff_eq.mp M.fn) (codeAny_mono (F.run _ X.stack _ _ ⟨Value.ref (s.heap.objs.size + 1) :: us, []⟩ (Value.ref (s.heap.objs.size + 1) :: (us ++ ds)) _ _ E (hr.make C us [])
    (I2.env0.make C us []) (hb _ (Value.ref (s.heap.objs.size + 1) :: us) I2.kIn hl) r2 hq) fun fl s' hq' => ?_))
  match fl, hq' with
  | .error e, hq' => exact hx pins _ _ e s' I2 hq'
  | .ok (.ret u), hq' =>
    obtain ⟨v, H', I3, rv, ev, q3⟩ := I2.after hq'
    subst ev
    exact ⟨rv, ⟨V.ref (s.heap.objs.size + 1), H', I3, rfl, q3⟩⟩
  | .ok .next, hq' => exact hq'.elim
  | .ok .brk, hq' => exact hq'.elim
  | .ok .cont, hq' => exact hq'.elim
theorem pe_makeX {R : St → XK} (M : Mk X.K C f) (F : FnOk X.prog X.w X.K X.mg X.base CX k f fd ps sp) (hr : Room (k + 1) X.A) (hg : Gl X x) (hm : X.mg x = some (.ref C)) (hb : Binds X.K fd ps ds) (hd : Vals dvs ds) (hx : ∀ σ, PassAt CX X σ (R σ))
    (ha : PA X (e :: es) t) (hdb : (x == ("__debug__" : Str)) = false := by decide) (he : starEach (e :: es) X.env = (false, eval e X.env) :: starEach es X.env := by rfl) (hpl : (backTo pos (starEach es X.env)).any (·.1) = false := by rfl) :
    PE X (.Call (.Name x p) (e :: es) [] pos) (tMakeX C sp dvs R t) := by
  intro pins s σ H Q I h
  refine wpAny_Call_Name_kw (ld_glob I hg hm ?_ hdb)
  exact PySem.W.callWith_K (h₀ := X.base) I.ok.mod.kin M.kp (thn (ha pos pins s σ H _ I h) fun us s1 ⟨vs, H1, I1, r, q⟩ => ⟨I1.kIn, run_makeX M F hr hb hd (hx σ) I1 r q⟩) he hpl
theorem a_makeX {R : St → XK} {σ : St} {H : Hp} {Q : VK} (h : t σ H fun vs H1 => ∀ x dx, H1 x = none → H1 dx = none → dx ≠ x → sp (.ref x :: (vs ++ [])) (upd (upd H1 dx (.own x)) x (.ins C dx [])) (fun v H2 => v = .non ∧ Q (.ref x) H2) (R σ)) : tMakeX C sp [] R t σ H Q := h
structure InsK (K : PySem.W.Frag) (C : Addr) : Prop where
  cl : Cls K C
  ha : PySem.W.findIn K (.ref C) "__class__" = some (some (.builtin "object.__class__"))
  hn : PySem.W.specialIn K (.builtin "object.__class__") "__get__" = some (some (.builtin "getset_descriptor.__get__"))
  htk : PySem.W.takesIn K (.builtin "object.__class__") = some true
  hm : PySem.W.mroIn K C (.type "object") = some true
def TyR (K : PySem.W.Frag) (H : Hp) (x : V) (t : Value) : Prop := TyOf K H x t ∨ ∃ a C dx fs, x = .ref a ∧ t = .ref C ∧ Rd H a (.ins C dx fs) ∧ InsK K C
def rIsR (K : PySem.W.Frag) : List V → Hp → VK → Prop := fun xs H Q => ∃ x c t b u, xs = [x, c] ∧ TyR K H x t ∧ clsV c = some u ∧ PySem.W.kitOne K t u = some b ∧ Q (.bl b) H
theorem call_isR : CallR X (.builtin "isinstance") (rIsR X.K) := by
  intro pins s σ H xs us Q I r h
  obtain ⟨x, c, t, b, u, rfl, ty, rc, e, q⟩ := h
  rcases ty with ty | ⟨a, C, dx, fs, rfl, rfl, ea, z⟩
  · exact call_isi pins s σ H _ us Q I r ⟨x, c, t, b, u, rfl, ty, rc, e, q⟩
  · obtain ⟨v, w', rfl, rx, rw'⟩ := vals2 r
    have ew : w' = u := by
      cases c with
      | ref a => cases rc; exact rw'
      | ty n => cases rc; exact rw'
      | non => cases rc
      | bl n => cases rc
      | int i => cases rc
      | str i => cases rc
      | byt i => cases rc
      | flt i => cases rc
    subst ew
    cases (show v = Value.ref a from rx)
    obtain ⟨mA, O, _⟩ := ins_rd I.hok ea
    obtain ⟨od, J, _⟩ := O.look
    exact PySem.W.kia_one (PySem.W.kitx_own (z.cl.get _) z.cl.hd z.ha z.hn z.htk z.hm) I.kIn J e (fun z => nomatch z) fun tk => ⟨.bl b, H, I.tok tk, rfl, q⟩
end
end L2
namespace Vc
open PySem L2 Sf
theorem mkX {F H : Hp} {C x dx : Addr} (wd : Same F H) (hx : H x = none) (hd : H dx = none) (ne : dx ≠ x) :
    ∃ F', Gr F H F' (upd (upd H dx (.own x)) x (.ins C dx [])) ∧ F' x = none ∧ (upd (upd H dx (.own x)) x (.ins C dx [])) x = some (.ins C dx []) := by
  obtain ⟨F1, g1, e1⟩ := al2 (o := .own x) wd (by intro _ _ z; cases z) hd
  have h1 : upd H dx (.own x) x = none := by rw [upd_ne (Ne.symm ne)]; exact hx
  obtain ⟨gb, sm, hb, oF, oH, _⟩ := alo2 (o := .ins C dx []) g1.toGr0 h1
  exact ⟨F1, Gr.of gb g1.z, oF, oH⟩
theorem mkY {F H F1 H1 F2 H2 : Hp} {C x dx : Addr} {o : HO} (fs : List (Str × V)) (g : Gr F H F1 H1) (hx : H x = none) (e1 : F1 x = none) (h1 : H1 x = some o) (g2 : Gr F1 H1 F2 H2) :
    ∃ F', Gr F H F' (upd H2 x (.ins C dx fs)) ∧ F' x = some (.ins C dx fs) := by
  have gb := g.toGr0.tr g2
  obtain ⟨gb', eH, _⟩ := chgX (o := .ins C dx fs) gb hx (g2.own e1 h1)
  obtain ⟨F', g', c', _, e, _⟩ := frz gb' (g2.fz g.z) hx (g2.own e1 h1) eH (by intro _ _ z; cases z)
  exact ⟨F', Gr.of g' c', e⟩
theorem Gr.trans {F H F1 H1 F2 H2 : Hp} (a : Gr F H F1 H1) (b : Gr F1 H1 F2 H2) : Gr F H F2 H2 := Gr.of (a.toGr0.tr b) (b.fz a.z)
end Vc
namespace Sf
open PySem L2 Vc
def inClass (s : Stmt) (j : Nat) : Stmt := match s with
  | .ClassDef _ _ _ body _ _ _ _ _ _ _ => body.getD j (.Pass ⟨0, 0, 0, 0⟩)
  | _ => .Pass ⟨0, 0, 0, 0⟩
def top (i : Nat) : Stmt := PySem.Challenge.pw_springframe_k13_across_and_down.main.body.getD i (.Pass ⟨0, 0, 0, 0⟩)
abbrev s_way_of : Stmt := top 36
abbrev s_law_cell_at : Stmt := top 45
abbrev s_law_leaf : Stmt := top 46
abbrev s_law_term : Stmt := top 47
abbrev s_law_alone : Stmt := top 48
abbrev s_law_made : Stmt := top 49
abbrev s_law : Stmt := top 50
abbrev s_Number___init__ : Stmt := inClass (top 39) 0
abbrev s_Term_edges : Stmt := inClass (top 38) 0
abbrev s_Term_ways : Stmt := inClass (top 38) 1
abbrev s_Edge___init__ : Stmt := inClass (top 40) 0
abbrev s_Edge_edges : Stmt := inClass (top 40) 1
abbrev s_Times___init__ : Stmt := inClass (top 41) 0
abbrev s_Times_edges : Stmt := inClass (top 41) 1
abbrev s_Plus___init__ : Stmt := inClass (top 42) 0
abbrev s_Plus_edges : Stmt := inClass (top 42) 1
abbrev s_Minus___init__ : Stmt := inClass (top 43) 0
abbrev s_Minus_edges : Stmt := inClass (top 43) 1
abbrev s_Wish___init__ : Stmt := inClass (top 24) 0
abbrev s_Wish_way : Stmt := inClass (top 24) 2
theorem sc_way_of : FnScope ["word"] ["word"] (defScope s_way_of) := ⟨rfl, rfl, rfl, by decide +kernel, rfl, by decide +kernel, by decide +kernel⟩
theorem sc_law_cell_at : FnScope ["_law_script", "_law_k"] ["_law_script", "_law_k"] (defScope s_law_cell_at) := ⟨rfl, rfl, rfl, by decide +kernel, rfl, by decide +kernel, by decide +kernel⟩
theorem sc_law_leaf : FnScope ["_law_cell", "_law_way", "_law_words", "_law_word"] ["_law_cell", "_law_way"] (defScope s_law_leaf) := ⟨rfl, rfl, rfl, by decide +kernel, rfl, by decide +kernel, by decide +kernel⟩
theorem sc_law_term : FnScope ["_law_cells", "_law_way", "_law_odd", "_law_term_here", "_law_words", "_law_k", "_law_cell", "_law_turn", "_law_leaf_here", "_law_word"] ["_law_cells", "_law_way", "_law_odd"] (defScope s_law_term) := ⟨rfl, rfl, rfl, by decide +kernel, rfl, by decide +kernel, by decide +kernel⟩
theorem sc_law_alone : FnScope ["_law_e"] ["_law_e"] (defScope s_law_alone) := ⟨rfl, rfl, rfl, by decide +kernel, rfl, by decide +kernel, by decide +kernel⟩
theorem sc_law_made : FnScope ["_law_kind", "_law_near", "_law_far", "_law_wish", "_law_told", "_law_e"] ["_law_kind", "_law_near", "_law_far"] (defScope s_law_made) := ⟨rfl, rfl, rfl, by decide +kernel, rfl, by decide +kernel, by decide +kernel⟩
theorem sc_law : FnScope ["_law_script", "_law_way", "_law_other", "_law_odd", "_law_near", "_law_words", "_law_far", "_law_more", "_law_down", "_law_due"] ["_law_script"] (defScope s_law) := ⟨rfl, rfl, rfl, by decide +kernel, rfl, by decide +kernel, by decide +kernel⟩
theorem sc_Number___init__ : FnScope ["self", "number"] ["self", "number"] (defScope s_Number___init__) := ⟨rfl, rfl, rfl, by decide +kernel, rfl, by decide +kernel, by decide +kernel⟩
theorem sc_Term_edges : FnScope ["self"] ["self"] (defScope s_Term_edges) := ⟨rfl, rfl, rfl, by decide +kernel, rfl, by decide +kernel, by decide +kernel⟩
theorem sc_Term_ways : FnScope ["self"] ["self"] (defScope s_Term_ways) := ⟨rfl, rfl, rfl, by decide +kernel, rfl, by decide +kernel, by decide +kernel⟩
theorem sc_Edge___init__ : FnScope ["self", "word", "name"] ["self", "word", "name"] (defScope s_Edge___init__) := ⟨rfl, rfl, rfl, by decide +kernel, rfl, by decide +kernel, by decide +kernel⟩
theorem sc_Edge_edges : FnScope ["self"] ["self"] (defScope s_Edge_edges) := ⟨rfl, rfl, rfl, by decide +kernel, rfl, by decide +kernel, by decide +kernel⟩
theorem sc_Times___init__ : FnScope ["self", "number", "inner"] ["self", "number", "inner"] (defScope s_Times___init__) := ⟨rfl, rfl, rfl, by decide +kernel, rfl, by decide +kernel, by decide +kernel⟩
theorem sc_Times_edges : FnScope ["self"] ["self"] (defScope s_Times_edges) := ⟨rfl, rfl, rfl, by decide +kernel, rfl, by decide +kernel, by decide +kernel⟩
theorem sc_Plus___init__ : FnScope ["self", "one", "other"] ["self", "one", "other"] (defScope s_Plus___init__) := ⟨rfl, rfl, rfl, by decide +kernel, rfl, by decide +kernel, by decide +kernel⟩
theorem sc_Plus_edges : FnScope ["self"] ["self"] (defScope s_Plus_edges) := ⟨rfl, rfl, rfl, by decide +kernel, rfl, by decide +kernel, by decide +kernel⟩
theorem sc_Minus___init__ : FnScope ["self", "one", "other"] ["self", "one", "other"] (defScope s_Minus___init__) := ⟨rfl, rfl, rfl, by decide +kernel, rfl, by decide +kernel, by decide +kernel⟩
theorem sc_Minus_edges : FnScope ["self"] ["self"] (defScope s_Minus_edges) := ⟨rfl, rfl, rfl, by decide +kernel, rfl, by decide +kernel, by decide +kernel⟩
theorem sc_Wish___init__ : FnScope ["self", "near", "far", "rank", "weight"] ["self", "near", "far", "rank", "weight"] (defScope s_Wish___init__) := ⟨rfl, rfl, rfl, by decide +kernel, rfl, by decide +kernel, by decide +kernel⟩
theorem sc_Wish_way : FnScope ["self"] ["self"] (defScope s_Wish_way) := ⟨rfl, rfl, rfl, by decide +kernel, rfl, by decide +kernel, by decide +kernel⟩
inductive Ex2 {A1 A2 : Type} (p : A1 → A2 → Prop) : Prop where | mk (a1 : A1) (a2 : A2) (h : p a1 a2) : Ex2 p
inductive Ex3 {A1 A2 A3 : Type} (p : A1 → A2 → A3 → Prop) : Prop where | mk (a1 : A1) (a2 : A2) (a3 : A3) (h : p a1 a2 a3) : Ex3 p
inductive Ex4 {A1 A2 A3 A4 : Type} (p : A1 → A2 → A3 → A4 → Prop) : Prop where | mk (a1 : A1) (a2 : A2) (a3 : A3) (a4 : A4) (h : p a1 a2 a3 a4) : Ex4 p
inductive Ex5 {A1 A2 A3 A4 A5 : Type} (p : A1 → A2 → A3 → A4 → A5 → Prop) : Prop where | mk (a1 : A1) (a2 : A2) (a3 : A3) (a4 : A4) (a5 : A5) (h : p a1 a2 a3 a4 a5) : Ex5 p
inductive Ex7 {A1 A2 A3 A4 A5 A6 A7 : Type} (p : A1 → A2 → A3 → A4 → A5 → A6 → A7 → Prop) : Prop where | mk (a1 : A1) (a2 : A2) (a3 : A3) (a4 : A4) (a5 : A5) (a6 : A6) (a7 : A7) (h : p a1 a2 a3 a4 a5 a6 a7) : Ex7 p
inductive Ex10 {A1 A2 A3 A4 A5 A6 A7 A8 A9 A10 : Type} (p : A1 → A2 → A3 → A4 → A5 → A6 → A7 → A8 → A9 → A10 → Prop) : Prop where | mk (a1 : A1) (a2 : A2) (a3 : A3) (a4 : A4) (a5 : A5) (a6 : A6) (a7 : A7) (a8 : A8) (a9 : A9) (a10 : A10) (h : p a1 a2 a3 a4 a5 a6 a7 a8 a9 a10) : Ex10 p
inductive Cj4 (p1 p2 p3 p4 : Prop) : Prop where | mk (h1 : p1) (h2 : p2) (h3 : p3) (h4 : p4) : Cj4 p1 p2 p3 p4
inductive Cj5 (p1 p2 p3 p4 p5 : Prop) : Prop where | mk (h1 : p1) (h2 : p2) (h3 : p3) (h4 : p4) (h5 : p5) : Cj5 p1 p2 p3 p4 p5
inductive Cj6 (p1 p2 p3 p4 p5 p6 : Prop) : Prop where | mk (h1 : p1) (h2 : p2) (h3 : p3) (h4 : p4) (h5 : p5) (h6 : p6) : Cj6 p1 p2 p3 p4 p5 p6
inductive Cj7 (p1 p2 p3 p4 p5 p6 p7 : Prop) : Prop where | mk (h1 : p1) (h2 : p2) (h3 : p3) (h4 : p4) (h5 : p5) (h6 : p6) (h7 : p7) : Cj7 p1 p2 p3 p4 p5 p6 p7
inductive Cj8 (p1 p2 p3 p4 p5 p6 p7 p8 : Prop) : Prop where | mk (h1 : p1) (h2 : p2) (h3 : p3) (h4 : p4) (h5 : p5) (h6 : p6) (h7 : p7) (h8 : p8) : Cj8 p1 p2 p3 p4 p5 p6 p7 p8
inductive Cj9 (p1 p2 p3 p4 p5 p6 p7 p8 p9 : Prop) : Prop where | mk (h1 : p1) (h2 : p2) (h3 : p3) (h4 : p4) (h5 : p5) (h6 : p6) (h7 : p7) (h8 : p8) (h9 : p9) : Cj9 p1 p2 p3 p4 p5 p6 p7 p8 p9
inductive Cj12 (p1 p2 p3 p4 p5 p6 p7 p8 p9 p10 p11 p12 : Prop) : Prop where | mk (h1 : p1) (h2 : p2) (h3 : p3) (h4 : p4) (h5 : p5) (h6 : p6) (h7 : p7) (h8 : p8) (h9 : p9) (h10 : p10) (h11 : p11) (h12 : p12) : Cj12 p1 p2 p3 p4 p5 p6 p7 p8 p9 p10 p11 p12
set_option genInjectivity false in
set_option genSizeOf false in
structure Tx (K : PySem.W.Frag) (mg : Str → Option Value) where
  a_way_of : Addr
  d_way_of : FuncData
  F_way_of : Fun K "way_of" "way_of" s_way_of a_way_of d_way_of
  b_way_of : Binds K d_way_of ["word"] []
  m_way_of : mg "way_of" = some (.ref a_way_of)
  a_law_cell_at : Addr
  d_law_cell_at : FuncData
  F_law_cell_at : Fun K "_law_cell_at" "_law_cell_at" s_law_cell_at a_law_cell_at d_law_cell_at
  b_law_cell_at : Binds K d_law_cell_at ["_law_script", "_law_k"] []
  m_law_cell_at : mg "_law_cell_at" = some (.ref a_law_cell_at)
  a_law_leaf : Addr
  d_law_leaf : FuncData
  F_law_leaf : Fun K "_law_leaf" "_law_leaf" s_law_leaf a_law_leaf d_law_leaf
  b_law_leaf : Binds K d_law_leaf ["_law_cell", "_law_way"] []
  m_law_leaf : mg "_law_leaf" = some (.ref a_law_leaf)
  a_law_term : Addr
  d_law_term : FuncData
  F_law_term : Fun K "_law_term" "_law_term" s_law_term a_law_term d_law_term
  b_law_term : Binds K d_law_term ["_law_cells", "_law_way", "_law_odd"] []
  m_law_term : mg "_law_term" = some (.ref a_law_term)
  a_law_alone : Addr
  d_law_alone : FuncData
  F_law_alone : Fun K "_law_alone" "_law_alone" s_law_alone a_law_alone d_law_alone
  b_law_alone : Binds K d_law_alone ["_law_e"] []
  m_law_alone : mg "_law_alone" = some (.ref a_law_alone)
  a_law_made : Addr
  d_law_made : FuncData
  F_law_made : Fun K "_law_made" "_law_made" s_law_made a_law_made d_law_made
  b_law_made : Binds K d_law_made ["_law_kind", "_law_near", "_law_far"] []
  m_law_made : mg "_law_made" = some (.ref a_law_made)
  a_law : Addr
  d_law : FuncData
  F_law : Fun K "law" "law" s_law a_law d_law
  b_law : Binds K d_law ["_law_script"] []
  m_law : mg "law" = some (.ref a_law)
  a_Number___init__ : Addr
  d_Number___init__ : FuncData
  F_Number___init__ : Fun K "__init__" "Number.__init__" s_Number___init__ a_Number___init__ d_Number___init__
  b_Number___init__ : Binds K d_Number___init__ ["self", "number"] []
  a_Term_edges : Addr
  d_Term_edges : FuncData
  F_Term_edges : Fun K "edges" "Term.edges" s_Term_edges a_Term_edges d_Term_edges
  b_Term_edges : Binds K d_Term_edges ["self"] []
  a_Term_ways : Addr
  d_Term_ways : FuncData
  F_Term_ways : Fun K "ways" "Term.ways" s_Term_ways a_Term_ways d_Term_ways
  b_Term_ways : Binds K d_Term_ways ["self"] []
  a_Edge___init__ : Addr
  d_Edge___init__ : FuncData
  F_Edge___init__ : Fun K "__init__" "Edge.__init__" s_Edge___init__ a_Edge___init__ d_Edge___init__
  b_Edge___init__ : Binds K d_Edge___init__ ["self", "word", "name"] []
  a_Edge_edges : Addr
  d_Edge_edges : FuncData
  F_Edge_edges : Fun K "edges" "Edge.edges" s_Edge_edges a_Edge_edges d_Edge_edges
  b_Edge_edges : Binds K d_Edge_edges ["self"] []
  a_Times___init__ : Addr
  d_Times___init__ : FuncData
  F_Times___init__ : Fun K "__init__" "Times.__init__" s_Times___init__ a_Times___init__ d_Times___init__
  b_Times___init__ : Binds K d_Times___init__ ["self", "number", "inner"] []
  a_Times_edges : Addr
  d_Times_edges : FuncData
  F_Times_edges : Fun K "edges" "Times.edges" s_Times_edges a_Times_edges d_Times_edges
  b_Times_edges : Binds K d_Times_edges ["self"] []
  a_Plus___init__ : Addr
  d_Plus___init__ : FuncData
  F_Plus___init__ : Fun K "__init__" "Plus.__init__" s_Plus___init__ a_Plus___init__ d_Plus___init__
  b_Plus___init__ : Binds K d_Plus___init__ ["self", "one", "other"] []
  a_Plus_edges : Addr
  d_Plus_edges : FuncData
  F_Plus_edges : Fun K "edges" "Plus.edges" s_Plus_edges a_Plus_edges d_Plus_edges
  b_Plus_edges : Binds K d_Plus_edges ["self"] []
  a_Minus___init__ : Addr
  d_Minus___init__ : FuncData
  F_Minus___init__ : Fun K "__init__" "Minus.__init__" s_Minus___init__ a_Minus___init__ d_Minus___init__
  b_Minus___init__ : Binds K d_Minus___init__ ["self", "one", "other"] []
  a_Minus_edges : Addr
  d_Minus_edges : FuncData
  F_Minus_edges : Fun K "edges" "Minus.edges" s_Minus_edges a_Minus_edges d_Minus_edges
  b_Minus_edges : Binds K d_Minus_edges ["self"] []
  a_Wish___init__ : Addr
  d_Wish___init__ : FuncData
  F_Wish___init__ : Fun K "__init__" "Wish.__init__" s_Wish___init__ a_Wish___init__ d_Wish___init__
  b_Wish___init__ : Binds K d_Wish___init__ ["self", "near", "far", "rank", "weight"] []
  a_Wish_way : Addr
  d_Wish_way : FuncData
  F_Wish_way : Fun K "way" "Wish.way" s_Wish_way a_Wish_way d_Wish_way
  b_Wish_way : Binds K d_Wish_way ["self"] []
  c_DOWN : Addr
  m_DOWN : mg "DOWN" = some (.ref c_DOWN)
  t_DOWN : ∃ (o : Obj) (its : Array Value) (n : Nat), K.lookup c_DOWN = some o ∧ o.cls = .type "tuple" ∧ o.data = .seq its n ∧ its.size ≤ sizeLine ∧ Vals ((["top", "height", "bottom", "centre", "drop"] : List Str).map V.str) its.toList
  c_FrameError : Addr
  m_FrameError : mg "FrameError" = some (.ref c_FrameError)
  q_FrameError : PySem.W.excIn K c_FrameError [.type "ValueError", .type "Exception", .type "BaseException", .type "object"] "ValueError.__new__" = true
  c_Mixed : Addr
  m_Mixed : mg "Mixed" = some (.ref c_Mixed)
  q_Mixed : PySem.W.excIn K c_Mixed [.type "ValueError", .type "Exception", .type "BaseException", .type "object"] "ValueError.__new__" = true
  c_NoName : Addr
  m_NoName : mg "NoName" = some (.ref c_NoName)
  q_NoName : PySem.W.excIn K c_NoName [.type "ValueError", .type "Exception", .type "BaseException", .type "object"] "ValueError.__new__" = true
  c_NoPane : Addr
  m_NoPane : mg "NoPane" = some (.ref c_NoPane)
  q_NoPane : PySem.W.excIn K c_NoPane [.type "ValueError", .type "Exception", .type "BaseException", .type "object"] "ValueError.__new__" = true
  c_NoRank : Addr
  m_NoRank : mg "NoRank" = some (.ref c_NoRank)
  q_NoRank : PySem.W.excIn K c_NoRank [.type "ValueError", .type "Exception", .type "BaseException", .type "object"] "ValueError.__new__" = true
  c_NoWish : Addr
  m_NoWish : mg "NoWish" = some (.ref c_NoWish)
  q_NoWish : PySem.W.excIn K c_NoWish [.type "ValueError", .type "Exception", .type "BaseException", .type "object"] "ValueError.__new__" = true
  x_Mixed : ExcK K c_Mixed
  ki_Mixed_FrameError : PySem.W.kitOne K (.ref c_Mixed) (.ref c_FrameError) = some true
  ki_Mixed_ValueError : PySem.W.kitOne K (.ref c_Mixed) (.type "ValueError") = some true
  kt_Mixed_NoName_NoPane_NoRank_NoWish : PySem.W.kitAny K (.ref c_Mixed) [.ref c_NoName, .ref c_NoPane, .ref c_NoRank, .ref c_NoWish] = some false
  em_Mixed_Mixed : PySem.W.exmOne K (.ref c_Mixed) (.ref c_Mixed) = some true
  c_Number : Addr
  m_Number : mg "Number" = some (.ref c_Number)
  cl_Number : Cls K c_Number
  nf_Number_number : NoAttr K c_Number "number"
  mk_Number : Mk K c_Number a_Number___init__
  mt_Number_edges : Meth K c_Number "edges" a_Term_edges
  mt_Number_ways : Meth K c_Number "ways" a_Term_ways
  c_Edge : Addr
  m_Edge : mg "Edge" = some (.ref c_Edge)
  cl_Edge : Cls K c_Edge
  nf_Edge_word : NoAttr K c_Edge "word"
  nf_Edge_name : NoAttr K c_Edge "name"
  mk_Edge : Mk K c_Edge a_Edge___init__
  mt_Edge_edges : Meth K c_Edge "edges" a_Edge_edges
  mt_Edge_ways : Meth K c_Edge "ways" a_Term_ways
  c_Times : Addr
  m_Times : mg "Times" = some (.ref c_Times)
  cl_Times : Cls K c_Times
  nf_Times_number : NoAttr K c_Times "number"
  nf_Times_inner : NoAttr K c_Times "inner"
  mk_Times : Mk K c_Times a_Times___init__
  mt_Times_edges : Meth K c_Times "edges" a_Times_edges
  mt_Times_ways : Meth K c_Times "ways" a_Term_ways
  c_Plus : Addr
  m_Plus : mg "Plus" = some (.ref c_Plus)
  cl_Plus : Cls K c_Plus
  nf_Plus_one : NoAttr K c_Plus "one"
  nf_Plus_other : NoAttr K c_Plus "other"
  mk_Plus : Mk K c_Plus a_Plus___init__
  mt_Plus_edges : Meth K c_Plus "edges" a_Plus_edges
  mt_Plus_ways : Meth K c_Plus "ways" a_Term_ways
  c_Minus : Addr
  m_Minus : mg "Minus" = some (.ref c_Minus)
  cl_Minus : Cls K c_Minus
  nf_Minus_one : NoAttr K c_Minus "one"
  nf_Minus_other : NoAttr K c_Minus "other"
  mk_Minus : Mk K c_Minus a_Minus___init__
  mt_Minus_edges : Meth K c_Minus "edges" a_Minus_edges
  mt_Minus_ways : Meth K c_Minus "ways" a_Term_ways
  c_Just : Addr
  m_Just : mg "Just" = some (.ref c_Just)
  cl_Just : Cls K c_Just
  nf_Just_near : NoAttr K c_Just "near"
  nf_Just_far : NoAttr K c_Just "far"
  nf_Just_rank : NoAttr K c_Just "rank"
  nf_Just_weight : NoAttr K c_Just "weight"
  mk_Just : Mk K c_Just a_Wish___init__
  mt_Just_way : Meth K c_Just "way" a_Wish_way
  c_AtLeast : Addr
  m_AtLeast : mg "AtLeast" = some (.ref c_AtLeast)
  cl_AtLeast : Cls K c_AtLeast
  nf_AtLeast_near : NoAttr K c_AtLeast "near"
  nf_AtLeast_far : NoAttr K c_AtLeast "far"
  nf_AtLeast_rank : NoAttr K c_AtLeast "rank"
  nf_AtLeast_weight : NoAttr K c_AtLeast "weight"
  mk_AtLeast : Mk K c_AtLeast a_Wish___init__
  mt_AtLeast_way : Meth K c_AtLeast "way" a_Wish_way
  c_AtMost : Addr
  m_AtMost : mg "AtMost" = some (.ref c_AtMost)
  cl_AtMost : Cls K c_AtMost
  nf_AtMost_near : NoAttr K c_AtMost "near"
  nf_AtMost_far : NoAttr K c_AtMost "far"
  nf_AtMost_rank : NoAttr K c_AtMost "rank"
  nf_AtMost_weight : NoAttr K c_AtMost "weight"
  mk_AtMost : Mk K c_AtMost a_Wish___init__
  mt_AtMost_way : Meth K c_AtMost "way" a_Wish_way
  c_Wish : Addr
  m_Wish : mg "Wish" = some (.ref c_Wish)
  cl_Wish : Cls K c_Wish
  ik_Just : InsK K c_Just
  ik_AtLeast : InsK K c_AtLeast
  ik_AtMost : InsK K c_AtMost
  kc_Just_Wish : PySem.W.kitOne K (.ref c_Just) (.ref c_Wish) = some true
  kc_AtLeast_Wish : PySem.W.kitOne K (.ref c_AtLeast) (.ref c_Wish) = some true
  kc_AtMost_Wish : PySem.W.kitOne K (.ref c_AtMost) (.ref c_Wish) = some true
  kc_NoneType_Wish : PySem.W.kitOne K (.type "NoneType") (.ref c_Wish) = some false
  z_ValueError : mg "ValueError" = none
  z_len : mg "len" = none
  z_set : mg "set" = none
  z_sorted : mg "sorted" = none
  z_range : mg "range" = none
  z_enumerate : mg "enumerate" = none
  z_isinstance : mg "isinstance" = none
  z_int : mg "int" = none
  z_abs : mg "abs" = none
def tx_mk {K : PySem.W.Frag} {h : Heap} {mg : Str → Option Value} (X : K.In h) (G : h.Ns mainGlobals mg)
    {x_Number : Addr}
    {x_Edge : Addr}
    {x_Times : Addr}
    {x_Plus : Addr}
    {x_Minus : Addr}
    {x_Just : Addr}
    {x_AtLeast : Addr}
    {x_AtMost : Addr}
    {x_Wish : Addr}
    {f0 : Addr} {od0 an0 : Option Addr} {sl0 : Array (Option Value)} {oc0 kV0 dc0 pm0 cd0 ct0 : Value}
    {f1 : Addr} {od1 an1 : Option Addr} {sl1 : Array (Option Value)} {oc1 kV1 dc1 pm1 cd1 ct1 : Value}
    {f2 : Addr} {od2 an2 : Option Addr} {sl2 : Array (Option Value)} {oc2 kV2 dc2 pm2 cd2 ct2 : Value}
    {f3 : Addr} {od3 an3 : Option Addr} {sl3 : Array (Option Value)} {oc3 kV3 dc3 pm3 cd3 ct3 : Value}
    {f4 : Addr} {od4 an4 : Option Addr} {sl4 : Array (Option Value)} {oc4 kV4 dc4 pm4 cd4 ct4 : Value}
    {f5 : Addr} {od5 an5 : Option Addr} {sl5 : Array (Option Value)} {oc5 kV5 dc5 pm5 cd5 ct5 : Value}
    {f6 : Addr} {od6 an6 : Option Addr} {sl6 : Array (Option Value)} {oc6 kV6 dc6 pm6 cd6 ct6 : Value}
    {f7 : Addr} {od7 an7 : Option Addr} {sl7 : Array (Option Value)} {oc7 kV7 dc7 pm7 cd7 ct7 : Value}
    {f8 : Addr} {od8 an8 : Option Addr} {sl8 : Array (Option Value)} {oc8 kV8 dc8 pm8 cd8 ct8 : Value}
    {f9 : Addr} {od9 an9 : Option Addr} {sl9 : Array (Option Value)} {oc9 kV9 dc9 pm9 cd9 ct9 : Value}
    {f10 : Addr} {od10 an10 : Option Addr} {sl10 : Array (Option Value)} {oc10 kV10 dc10 pm10 cd10 ct10 : Value}
    {f11 : Addr} {od11 an11 : Option Addr} {sl11 : Array (Option Value)} {oc11 kV11 dc11 pm11 cd11 ct11 : Value}
    {f12 : Addr} {od12 an12 : Option Addr} {sl12 : Array (Option Value)} {oc12 kV12 dc12 pm12 cd12 ct12 : Value}
    {f13 : Addr} {od13 an13 : Option Addr} {sl13 : Array (Option Value)} {oc13 kV13 dc13 pm13 cd13 ct13 : Value}
    {f14 : Addr} {od14 an14 : Option Addr} {sl14 : Array (Option Value)} {oc14 kV14 dc14 pm14 cd14 ct14 : Value}
    {f15 : Addr} {od15 an15 : Option Addr} {sl15 : Array (Option Value)} {oc15 kV15 dc15 pm15 cd15 ct15 : Value}
    {f16 : Addr} {od16 an16 : Option Addr} {sl16 : Array (Option Value)} {oc16 kV16 dc16 pm16 cd16 ct16 : Value}
    {f17 : Addr} {od17 an17 : Option Addr} {sl17 : Array (Option Value)} {oc17 kV17 dc17 pm17 cd17 ct17 : Value}
    {f18 : Addr} {od18 an18 : Option Addr} {sl18 : Array (Option Value)} {oc18 kV18 dc18 pm18 cd18 ct18 : Value}
    {f19 : Addr} {od19 an19 : Option Addr} {sl19 : Array (Option Value)} {oc19 kV19 dc19 pm19 cd19 ct19 : Value}
    {sg_DOWN : Addr} {sgd_DOWN : Option Addr} {sgs_DOWN : Array (Option Value)} {sgn_DOWN : Nat} {st_DOWN_0 st_DOWN_1 st_DOWN_2 st_DOWN_3 st_DOWN_4 : Tok}
    {x_FrameError : Addr}
    {x_Mixed : Addr}
    {x_NoName : Addr}
    {x_NoPane : Addr}
    {x_NoRank : Addr}
    {x_NoWish : Addr}
    (wn_Number : PySem.W.nsIn K mainGlobals "Number" = some (some (.ref x_Number)))
    (wa_Number : PySem.W.plainGet K x_Number Str.empty = true)
    (wb_Number : PySem.W.hasDictIn K x_Number = true)
    (wc_Number : PySem.W.plainOver K x_Number = true)
    (wd_Number : PySem.W.findIn K (.ref x_Number) "__setattr__" = some (some (.builtin "object.__setattr__")))
    (wf_Number_number : PySem.W.findIn K (.ref x_Number) "number" = some none)
    (wn_Edge : PySem.W.nsIn K mainGlobals "Edge" = some (some (.ref x_Edge)))
    (wa_Edge : PySem.W.plainGet K x_Edge Str.empty = true)
    (wb_Edge : PySem.W.hasDictIn K x_Edge = true)
    (wc_Edge : PySem.W.plainOver K x_Edge = true)
    (wd_Edge : PySem.W.findIn K (.ref x_Edge) "__setattr__" = some (some (.builtin "object.__setattr__")))
    (wf_Edge_word : PySem.W.findIn K (.ref x_Edge) "word" = some none)
    (wf_Edge_name : PySem.W.findIn K (.ref x_Edge) "name" = some none)
    (wn_Times : PySem.W.nsIn K mainGlobals "Times" = some (some (.ref x_Times)))
    (wa_Times : PySem.W.plainGet K x_Times Str.empty = true)
    (wb_Times : PySem.W.hasDictIn K x_Times = true)
    (wc_Times : PySem.W.plainOver K x_Times = true)
    (wd_Times : PySem.W.findIn K (.ref x_Times) "__setattr__" = some (some (.builtin "object.__setattr__")))
    (wf_Times_number : PySem.W.findIn K (.ref x_Times) "number" = some none)
    (wf_Times_inner : PySem.W.findIn K (.ref x_Times) "inner" = some none)
    (wn_Plus : PySem.W.nsIn K mainGlobals "Plus" = some (some (.ref x_Plus)))
    (wa_Plus : PySem.W.plainGet K x_Plus Str.empty = true)
    (wb_Plus : PySem.W.hasDictIn K x_Plus = true)
    (wc_Plus : PySem.W.plainOver K x_Plus = true)
    (wd_Plus : PySem.W.findIn K (.ref x_Plus) "__setattr__" = some (some (.builtin "object.__setattr__")))
    (wf_Plus_one : PySem.W.findIn K (.ref x_Plus) "one" = some none)
    (wf_Plus_other : PySem.W.findIn K (.ref x_Plus) "other" = some none)
    (wn_Minus : PySem.W.nsIn K mainGlobals "Minus" = some (some (.ref x_Minus)))
    (wa_Minus : PySem.W.plainGet K x_Minus Str.empty = true)
    (wb_Minus : PySem.W.hasDictIn K x_Minus = true)
    (wc_Minus : PySem.W.plainOver K x_Minus = true)
    (wd_Minus : PySem.W.findIn K (.ref x_Minus) "__setattr__" = some (some (.builtin "object.__setattr__")))
    (wf_Minus_one : PySem.W.findIn K (.ref x_Minus) "one" = some none)
    (wf_Minus_other : PySem.W.findIn K (.ref x_Minus) "other" = some none)
    (wn_Just : PySem.W.nsIn K mainGlobals "Just" = some (some (.ref x_Just)))
    (wa_Just : PySem.W.plainGet K x_Just Str.empty = true)
    (wb_Just : PySem.W.hasDictIn K x_Just = true)
    (wc_Just : PySem.W.plainOver K x_Just = true)
    (wd_Just : PySem.W.findIn K (.ref x_Just) "__setattr__" = some (some (.builtin "object.__setattr__")))
    (wf_Just_near : PySem.W.findIn K (.ref x_Just) "near" = some none)
    (wf_Just_far : PySem.W.findIn K (.ref x_Just) "far" = some none)
    (wf_Just_rank : PySem.W.findIn K (.ref x_Just) "rank" = some none)
    (wf_Just_weight : PySem.W.findIn K (.ref x_Just) "weight" = some none)
    (wn_AtLeast : PySem.W.nsIn K mainGlobals "AtLeast" = some (some (.ref x_AtLeast)))
    (wa_AtLeast : PySem.W.plainGet K x_AtLeast Str.empty = true)
    (wb_AtLeast : PySem.W.hasDictIn K x_AtLeast = true)
    (wc_AtLeast : PySem.W.plainOver K x_AtLeast = true)
    (wd_AtLeast : PySem.W.findIn K (.ref x_AtLeast) "__setattr__" = some (some (.builtin "object.__setattr__")))
    (wf_AtLeast_near : PySem.W.findIn K (.ref x_AtLeast) "near" = some none)
    (wf_AtLeast_far : PySem.W.findIn K (.ref x_AtLeast) "far" = some none)
    (wf_AtLeast_rank : PySem.W.findIn K (.ref x_AtLeast) "rank" = some none)
    (wf_AtLeast_weight : PySem.W.findIn K (.ref x_AtLeast) "weight" = some none)
    (wn_AtMost : PySem.W.nsIn K mainGlobals "AtMost" = some (some (.ref x_AtMost)))
    (wa_AtMost : PySem.W.plainGet K x_AtMost Str.empty = true)
    (wb_AtMost : PySem.W.hasDictIn K x_AtMost = true)
    (wc_AtMost : PySem.W.plainOver K x_AtMost = true)
    (wd_AtMost : PySem.W.findIn K (.ref x_AtMost) "__setattr__" = some (some (.builtin "object.__setattr__")))
    (wf_AtMost_near : PySem.W.findIn K (.ref x_AtMost) "near" = some none)
    (wf_AtMost_far : PySem.W.findIn K (.ref x_AtMost) "far" = some none)
    (wf_AtMost_rank : PySem.W.findIn K (.ref x_AtMost) "rank" = some none)
    (wf_AtMost_weight : PySem.W.findIn K (.ref x_AtMost) "weight" = some none)
    (wn_Wish : PySem.W.nsIn K mainGlobals "Wish" = some (some (.ref x_Wish)))
    (wa_Wish : PySem.W.plainGet K x_Wish Str.empty = true)
    (wb_Wish : PySem.W.hasDictIn K x_Wish = true)
    (wc_Wish : PySem.W.plainOver K x_Wish = true)
    (wd_Wish : PySem.W.findIn K (.ref x_Wish) "__setattr__" = some (some (.builtin "object.__setattr__")))
    (wg_Just : PySem.W.findIn K (.ref x_Just) "__class__" = some (some (.builtin "object.__class__")))
    (wh_Just : PySem.W.mroIn K x_Just (.type "object") = some true)
    (wi_0 : PySem.W.specialIn K (.builtin "object.__class__") "__get__" = some (some (.builtin "getset_descriptor.__get__")))
    (wj_0 : PySem.W.takesIn K (.builtin "object.__class__") = some true)
    (wg_AtLeast : PySem.W.findIn K (.ref x_AtLeast) "__class__" = some (some (.builtin "object.__class__")))
    (wh_AtLeast : PySem.W.mroIn K x_AtLeast (.type "object") = some true)
    (wg_AtMost : PySem.W.findIn K (.ref x_AtMost) "__class__" = some (some (.builtin "object.__class__")))
    (wh_AtMost : PySem.W.mroIn K x_AtMost (.type "object") = some true)
    (wkc_Just_Wish : PySem.W.kitOne K (.ref x_Just) (.ref x_Wish) = some true)
    (wkc_AtLeast_Wish : PySem.W.kitOne K (.ref x_AtLeast) (.ref x_Wish) = some true)
    (wkc_AtMost_Wish : PySem.W.kitOne K (.ref x_AtMost) (.ref x_Wish) = some true)
    (wkc_NoneType_Wish : PySem.W.kitOne K (.type "NoneType") (.ref x_Wish) = some false)
    (e0 : PySem.W.nsIn K mainGlobals "way_of" = some (some (.ref f0)))
    (l0 : K.lookup f0 = some ⟨oc0, od0, .func (PySem.W.fnOf "way_of" "way_of" (defArgs s_way_of) (defBody s_way_of) (defScope s_way_of) .none kV0 dc0 pm0 an0 cd0 ct0), sl0⟩)
    (c0 : PySem.W.codeIn K cd0 "way_of" = true)
    (k0 : PySem.W.keepIn K (.ref f0) = true)
    (e1 : PySem.W.nsIn K mainGlobals "_law_cell_at" = some (some (.ref f1)))
    (l1 : K.lookup f1 = some ⟨oc1, od1, .func (PySem.W.fnOf "_law_cell_at" "_law_cell_at" (defArgs s_law_cell_at) (defBody s_law_cell_at) (defScope s_law_cell_at) .none kV1 dc1 pm1 an1 cd1 ct1), sl1⟩)
    (c1 : PySem.W.codeIn K cd1 "_law_cell_at" = true)
    (k1 : PySem.W.keepIn K (.ref f1) = true)
    (e2 : PySem.W.nsIn K mainGlobals "_law_leaf" = some (some (.ref f2)))
    (l2 : K.lookup f2 = some ⟨oc2, od2, .func (PySem.W.fnOf "_law_leaf" "_law_leaf" (defArgs s_law_leaf) (defBody s_law_leaf) (defScope s_law_leaf) .none kV2 dc2 pm2 an2 cd2 ct2), sl2⟩)
    (c2 : PySem.W.codeIn K cd2 "_law_leaf" = true)
    (k2 : PySem.W.keepIn K (.ref f2) = true)
    (e3 : PySem.W.nsIn K mainGlobals "_law_term" = some (some (.ref f3)))
    (l3 : K.lookup f3 = some ⟨oc3, od3, .func (PySem.W.fnOf "_law_term" "_law_term" (defArgs s_law_term) (defBody s_law_term) (defScope s_law_term) .none kV3 dc3 pm3 an3 cd3 ct3), sl3⟩)
    (c3 : PySem.W.codeIn K cd3 "_law_term" = true)
    (k3 : PySem.W.keepIn K (.ref f3) = true)
    (e4 : PySem.W.nsIn K mainGlobals "_law_alone" = some (some (.ref f4)))
    (l4 : K.lookup f4 = some ⟨oc4, od4, .func (PySem.W.fnOf "_law_alone" "_law_alone" (defArgs s_law_alone) (defBody s_law_alone) (defScope s_law_alone) .none kV4 dc4 pm4 an4 cd4 ct4), sl4⟩)
    (c4 : PySem.W.codeIn K cd4 "_law_alone" = true)
    (k4 : PySem.W.keepIn K (.ref f4) = true)
    (e5 : PySem.W.nsIn K mainGlobals "_law_made" = some (some (.ref f5)))
    (l5 : K.lookup f5 = some ⟨oc5, od5, .func (PySem.W.fnOf "_law_made" "_law_made" (defArgs s_law_made) (defBody s_law_made) (defScope s_law_made) .none kV5 dc5 pm5 an5 cd5 ct5), sl5⟩)
    (c5 : PySem.W.codeIn K cd5 "_law_made" = true)
    (k5 : PySem.W.keepIn K (.ref f5) = true)
    (e6 : PySem.W.nsIn K mainGlobals "law" = some (some (.ref f6)))
    (l6 : K.lookup f6 = some ⟨oc6, od6, .func (PySem.W.fnOf "law" "law" (defArgs s_law) (defBody s_law) (defScope s_law) .none kV6 dc6 pm6 an6 cd6 ct6), sl6⟩)
    (c6 : PySem.W.codeIn K cd6 "law" = true)
    (k6 : PySem.W.keepIn K (.ref f6) = true)
    (we_Number___init__ : PySem.W.findIn K (.ref x_Number) "__init__" = some (some (.ref f7)))
    (l7 : K.lookup f7 = some ⟨oc7, od7, .func (PySem.W.fnOf "__init__" "Number.__init__" (defArgs s_Number___init__) (defBody s_Number___init__) (defScope s_Number___init__) .none kV7 dc7 pm7 an7 cd7 ct7), sl7⟩)
    (c7 : PySem.W.codeIn K cd7 "Number.__init__" = true)
    (k7 : PySem.W.keepIn K (.ref f7) = true)
    (we_Number_edges : PySem.W.findIn K (.ref x_Number) "edges" = some (some (.ref f8)))
    (l8 : K.lookup f8 = some ⟨oc8, od8, .func (PySem.W.fnOf "edges" "Term.edges" (defArgs s_Term_edges) (defBody s_Term_edges) (defScope s_Term_edges) .none kV8 dc8 pm8 an8 cd8 ct8), sl8⟩)
    (c8 : PySem.W.codeIn K cd8 "Term.edges" = true)
    (k8 : PySem.W.keepIn K (.ref f8) = true)
    (we_Number_ways : PySem.W.findIn K (.ref x_Number) "ways" = some (some (.ref f9)))
    (l9 : K.lookup f9 = some ⟨oc9, od9, .func (PySem.W.fnOf "ways" "Term.ways" (defArgs s_Term_ways) (defBody s_Term_ways) (defScope s_Term_ways) .none kV9 dc9 pm9 an9 cd9 ct9), sl9⟩)
    (c9 : PySem.W.codeIn K cd9 "Term.ways" = true)
    (k9 : PySem.W.keepIn K (.ref f9) = true)
    (we_Edge___init__ : PySem.W.findIn K (.ref x_Edge) "__init__" = some (some (.ref f10)))
    (l10 : K.lookup f10 = some ⟨oc10, od10, .func (PySem.W.fnOf "__init__" "Edge.__init__" (defArgs s_Edge___init__) (defBody s_Edge___init__) (defScope s_Edge___init__) .none kV10 dc10 pm10 an10 cd10 ct10), sl10⟩)
    (c10 : PySem.W.codeIn K cd10 "Edge.__init__" = true)
    (k10 : PySem.W.keepIn K (.ref f10) = true)
    (we_Edge_edges : PySem.W.findIn K (.ref x_Edge) "edges" = some (some (.ref f11)))
    (l11 : K.lookup f11 = some ⟨oc11, od11, .func (PySem.W.fnOf "edges" "Edge.edges" (defArgs s_Edge_edges) (defBody s_Edge_edges) (defScope s_Edge_edges) .none kV11 dc11 pm11 an11 cd11 ct11), sl11⟩)
    (c11 : PySem.W.codeIn K cd11 "Edge.edges" = true)
    (k11 : PySem.W.keepIn K (.ref f11) = true)
    (we_Times___init__ : PySem.W.findIn K (.ref x_Times) "__init__" = some (some (.ref f12)))
    (l12 : K.lookup f12 = some ⟨oc12, od12, .func (PySem.W.fnOf "__init__" "Times.__init__" (defArgs s_Times___init__) (defBody s_Times___init__) (defScope s_Times___init__) .none kV12 dc12 pm12 an12 cd12 ct12), sl12⟩)
    (c12 : PySem.W.codeIn K cd12 "Times.__init__" = true)
    (k12 : PySem.W.keepIn K (.ref f12) = true)
    (we_Times_edges : PySem.W.findIn K (.ref x_Times) "edges" = some (some (.ref f13)))
    (l13 : K.lookup f13 = some ⟨oc13, od13, .func (PySem.W.fnOf "edges" "Times.edges" (defArgs s_Times_edges) (defBody s_Times_edges) (defScope s_Times_edges) .none kV13 dc13 pm13 an13 cd13 ct13), sl13⟩)
    (c13 : PySem.W.codeIn K cd13 "Times.edges" = true)
    (k13 : PySem.W.keepIn K (.ref f13) = true)
    (we_Plus___init__ : PySem.W.findIn K (.ref x_Plus) "__init__" = some (some (.ref f14)))
    (l14 : K.lookup f14 = some ⟨oc14, od14, .func (PySem.W.fnOf "__init__" "Plus.__init__" (defArgs s_Plus___init__) (defBody s_Plus___init__) (defScope s_Plus___init__) .none kV14 dc14 pm14 an14 cd14 ct14), sl14⟩)
    (c14 : PySem.W.codeIn K cd14 "Plus.__init__" = true)
    (k14 : PySem.W.keepIn K (.ref f14) = true)
    (we_Plus_edges : PySem.W.findIn K (.ref x_Plus) "edges" = some (some (.ref f15)))
    (l15 : K.lookup f15 = some ⟨oc15, od15, .func (PySem.W.fnOf "edges" "Plus.edges" (defArgs s_Plus_edges) (defBody s_Plus_edges) (defScope s_Plus_edges) .none kV15 dc15 pm15 an15 cd15 ct15), sl15⟩)
    (c15 : PySem.W.codeIn K cd15 "Plus.edges" = true)
    (k15 : PySem.W.keepIn K (.ref f15) = true)
    (we_Minus___init__ : PySem.W.findIn K (.ref x_Minus) "__init__" = some (some (.ref f16)))
    (l16 : K.lookup f16 = some ⟨oc16, od16, .func (PySem.W.fnOf "__init__" "Minus.__init__" (defArgs s_Minus___init__) (defBody s_Minus___init__) (defScope s_Minus___init__) .none kV16 dc16 pm16 an16 cd16 ct16), sl16⟩)
    (c16 : PySem.W.codeIn K cd16 "Minus.__init__" = true)
    (k16 : PySem.W.keepIn K (.ref f16) = true)
    (we_Minus_edges : PySem.W.findIn K (.ref x_Minus) "edges" = some (some (.ref f17)))
    (l17 : K.lookup f17 = some ⟨oc17, od17, .func (PySem.W.fnOf "edges" "Minus.edges" (defArgs s_Minus_edges) (defBody s_Minus_edges) (defScope s_Minus_edges) .none kV17 dc17 pm17 an17 cd17 ct17), sl17⟩)
    (c17 : PySem.W.codeIn K cd17 "Minus.edges" = true)
    (k17 : PySem.W.keepIn K (.ref f17) = true)
    (we_Just___init__ : PySem.W.findIn K (.ref x_Just) "__init__" = some (some (.ref f18)))
    (l18 : K.lookup f18 = some ⟨oc18, od18, .func (PySem.W.fnOf "__init__" "Wish.__init__" (defArgs s_Wish___init__) (defBody s_Wish___init__) (defScope s_Wish___init__) .none kV18 dc18 pm18 an18 cd18 ct18), sl18⟩)
    (c18 : PySem.W.codeIn K cd18 "Wish.__init__" = true)
    (k18 : PySem.W.keepIn K (.ref f18) = true)
    (we_Just_way : PySem.W.findIn K (.ref x_Just) "way" = some (some (.ref f19)))
    (l19 : K.lookup f19 = some ⟨oc19, od19, .func (PySem.W.fnOf "way" "Wish.way" (defArgs s_Wish_way) (defBody s_Wish_way) (defScope s_Wish_way) .none kV19 dc19 pm19 an19 cd19 ct19), sl19⟩)
    (c19 : PySem.W.codeIn K cd19 "Wish.way" = true)
    (k19 : PySem.W.keepIn K (.ref f19) = true)
    (sn_DOWN : PySem.W.nsIn K mainGlobals "DOWN" = some (some (.ref sg_DOWN)))
    (so_DOWN : K.lookup sg_DOWN = some ⟨.type "tuple", sgd_DOWN, .seq #[Value.str "top" st_DOWN_0, Value.str "height" st_DOWN_1, Value.str "bottom" st_DOWN_2, Value.str "centre" st_DOWN_3, Value.str "drop" st_DOWN_4] sgn_DOWN, sgs_DOWN⟩)
    (xn_FrameError : PySem.W.nsIn K mainGlobals "FrameError" = some (some (.ref x_FrameError)))
    (xq_FrameError : PySem.W.excIn K x_FrameError [.type "ValueError", .type "Exception", .type "BaseException", .type "object"] "ValueError.__new__" = true)
    (xn_Mixed : PySem.W.nsIn K mainGlobals "Mixed" = some (some (.ref x_Mixed)))
    (xq_Mixed : PySem.W.excIn K x_Mixed [.type "ValueError", .type "Exception", .type "BaseException", .type "object"] "ValueError.__new__" = true)
    (xn_NoName : PySem.W.nsIn K mainGlobals "NoName" = some (some (.ref x_NoName)))
    (xq_NoName : PySem.W.excIn K x_NoName [.type "ValueError", .type "Exception", .type "BaseException", .type "object"] "ValueError.__new__" = true)
    (xn_NoPane : PySem.W.nsIn K mainGlobals "NoPane" = some (some (.ref x_NoPane)))
    (xq_NoPane : PySem.W.excIn K x_NoPane [.type "ValueError", .type "Exception", .type "BaseException", .type "object"] "ValueError.__new__" = true)
    (xn_NoRank : PySem.W.nsIn K mainGlobals "NoRank" = some (some (.ref x_NoRank)))
    (xq_NoRank : PySem.W.excIn K x_NoRank [.type "ValueError", .type "Exception", .type "BaseException", .type "object"] "ValueError.__new__" = true)
    (xn_NoWish : PySem.W.nsIn K mainGlobals "NoWish" = some (some (.ref x_NoWish)))
    (xq_NoWish : PySem.W.excIn K x_NoWish [.type "ValueError", .type "Exception", .type "BaseException", .type "object"] "ValueError.__new__" = true)
    (yfg_Mixed : PySem.W.findIn K (.ref x_Mixed) "__getattribute__" = some (some (.builtin "BaseException.__getattribute__")))
    (yfn_Mixed : PySem.W.findIn K (.ref x_Mixed) "__getattr__" = some none)
    (yfc_Mixed : PySem.W.findIn K (.ref x_Mixed) "__class__" = some (some (.builtin "object.__class__")))
    (ymo_Mixed : PySem.W.mroIn K x_Mixed (.type "object") = some true)
    (ysb_Mixed : PySem.W.subIn K (.ref x_Mixed) (.type "BaseException") = some true)
    (xk_Mixed_FrameError : PySem.W.kitOne K (.ref x_Mixed) (.ref x_FrameError) = some true)
    (xk_Mixed_ValueError : PySem.W.kitOne K (.ref x_Mixed) (.type "ValueError") = some true)
    (xkt_Mixed_NoName_NoPane_NoRank_NoWish : PySem.W.kitAny K (.ref x_Mixed) [.ref x_NoName, .ref x_NoPane, .ref x_NoRank, .ref x_NoWish] = some false)
    (xm_Mixed_Mixed : PySem.W.exmOne K (.ref x_Mixed) (.ref x_Mixed) = some true)
    (z0 : PySem.W.nsIn K mainGlobals "ValueError" = some none)
    (z1 : PySem.W.nsIn K mainGlobals "len" = some none)
    (z2 : PySem.W.nsIn K mainGlobals "set" = some none)
    (z3 : PySem.W.nsIn K mainGlobals "sorted" = some none)
    (z4 : PySem.W.nsIn K mainGlobals "range" = some none)
    (z5 : PySem.W.nsIn K mainGlobals "enumerate" = some none)
    (z6 : PySem.W.nsIn K mainGlobals "isinstance" = some none)
    (z7 : PySem.W.nsIn K mainGlobals "int" = some none)
    (z8 : PySem.W.nsIn K mainGlobals "abs" = some none)
    (ws_7 : PySem.W.isFn K (.ref f7) = true)
    (wm_Number : PySem.W.makesIn K x_Number = true)
    (wk_Number : PySem.W.keepIn K (.ref x_Number) = true)
    (ws_8 : PySem.W.isFn K (.ref f8) = true)
    (ws_9 : PySem.W.isFn K (.ref f9) = true)
    (ws_10 : PySem.W.isFn K (.ref f10) = true)
    (wm_Edge : PySem.W.makesIn K x_Edge = true)
    (wk_Edge : PySem.W.keepIn K (.ref x_Edge) = true)
    (ws_11 : PySem.W.isFn K (.ref f11) = true)
    (we_Edge_ways : PySem.W.findIn K (.ref x_Edge) "ways" = some (some (.ref f9)))
    (ws_12 : PySem.W.isFn K (.ref f12) = true)
    (wm_Times : PySem.W.makesIn K x_Times = true)
    (wk_Times : PySem.W.keepIn K (.ref x_Times) = true)
    (ws_13 : PySem.W.isFn K (.ref f13) = true)
    (we_Times_ways : PySem.W.findIn K (.ref x_Times) "ways" = some (some (.ref f9)))
    (ws_14 : PySem.W.isFn K (.ref f14) = true)
    (wm_Plus : PySem.W.makesIn K x_Plus = true)
    (wk_Plus : PySem.W.keepIn K (.ref x_Plus) = true)
    (ws_15 : PySem.W.isFn K (.ref f15) = true)
    (we_Plus_ways : PySem.W.findIn K (.ref x_Plus) "ways" = some (some (.ref f9)))
    (ws_16 : PySem.W.isFn K (.ref f16) = true)
    (wm_Minus : PySem.W.makesIn K x_Minus = true)
    (wk_Minus : PySem.W.keepIn K (.ref x_Minus) = true)
    (ws_17 : PySem.W.isFn K (.ref f17) = true)
    (we_Minus_ways : PySem.W.findIn K (.ref x_Minus) "ways" = some (some (.ref f9)))
    (ws_18 : PySem.W.isFn K (.ref f18) = true)
    (wm_Just : PySem.W.makesIn K x_Just = true)
    (wk_Just : PySem.W.keepIn K (.ref x_Just) = true)
    (ws_19 : PySem.W.isFn K (.ref f19) = true)
    (we_AtLeast___init__ : PySem.W.findIn K (.ref x_AtLeast) "__init__" = some (some (.ref f18)))
    (wm_AtLeast : PySem.W.makesIn K x_AtLeast = true)
    (wk_AtLeast : PySem.W.keepIn K (.ref x_AtLeast) = true)
    (we_AtLeast_way : PySem.W.findIn K (.ref x_AtLeast) "way" = some (some (.ref f19)))
    (we_AtMost___init__ : PySem.W.findIn K (.ref x_AtMost) "__init__" = some (some (.ref f18)))
    (wm_AtMost : PySem.W.makesIn K x_AtMost = true)
    (wk_AtMost : PySem.W.keepIn K (.ref x_AtMost) = true)
    (we_AtMost_way : PySem.W.findIn K (.ref x_AtMost) "way" = some (some (.ref f19)))
    : Tx K mg where
  c_Number := x_Number
  m_Number := PySem.W.mg_of X G wn_Number
  cl_Number := ⟨wa_Number, wb_Number, wc_Number, wd_Number⟩
  nf_Number_number := wf_Number_number
  c_Edge := x_Edge
  m_Edge := PySem.W.mg_of X G wn_Edge
  cl_Edge := ⟨wa_Edge, wb_Edge, wc_Edge, wd_Edge⟩
  nf_Edge_word := wf_Edge_word
  nf_Edge_name := wf_Edge_name
  c_Times := x_Times
  m_Times := PySem.W.mg_of X G wn_Times
  cl_Times := ⟨wa_Times, wb_Times, wc_Times, wd_Times⟩
  nf_Times_number := wf_Times_number
  nf_Times_inner := wf_Times_inner
  c_Plus := x_Plus
  m_Plus := PySem.W.mg_of X G wn_Plus
  cl_Plus := ⟨wa_Plus, wb_Plus, wc_Plus, wd_Plus⟩
  nf_Plus_one := wf_Plus_one
  nf_Plus_other := wf_Plus_other
  c_Minus := x_Minus
  m_Minus := PySem.W.mg_of X G wn_Minus
  cl_Minus := ⟨wa_Minus, wb_Minus, wc_Minus, wd_Minus⟩
  nf_Minus_one := wf_Minus_one
  nf_Minus_other := wf_Minus_other
  c_Just := x_Just
  m_Just := PySem.W.mg_of X G wn_Just
  cl_Just := ⟨wa_Just, wb_Just, wc_Just, wd_Just⟩
  nf_Just_near := wf_Just_near
  nf_Just_far := wf_Just_far
  nf_Just_rank := wf_Just_rank
  nf_Just_weight := wf_Just_weight
  c_AtLeast := x_AtLeast
  m_AtLeast := PySem.W.mg_of X G wn_AtLeast
  cl_AtLeast := ⟨wa_AtLeast, wb_AtLeast, wc_AtLeast, wd_AtLeast⟩
  nf_AtLeast_near := wf_AtLeast_near
  nf_AtLeast_far := wf_AtLeast_far
  nf_AtLeast_rank := wf_AtLeast_rank
  nf_AtLeast_weight := wf_AtLeast_weight
  c_AtMost := x_AtMost
  m_AtMost := PySem.W.mg_of X G wn_AtMost
  cl_AtMost := ⟨wa_AtMost, wb_AtMost, wc_AtMost, wd_AtMost⟩
  nf_AtMost_near := wf_AtMost_near
  nf_AtMost_far := wf_AtMost_far
  nf_AtMost_rank := wf_AtMost_rank
  nf_AtMost_weight := wf_AtMost_weight
  c_Wish := x_Wish
  m_Wish := PySem.W.mg_of X G wn_Wish
  cl_Wish := ⟨wa_Wish, wb_Wish, wc_Wish, wd_Wish⟩
  ik_Just := ⟨⟨wa_Just, wb_Just, wc_Just, wd_Just⟩, wg_Just, wi_0, wj_0, wh_Just⟩
  ik_AtLeast := ⟨⟨wa_AtLeast, wb_AtLeast, wc_AtLeast, wd_AtLeast⟩, wg_AtLeast, wi_0, wj_0, wh_AtLeast⟩
  ik_AtMost := ⟨⟨wa_AtMost, wb_AtMost, wc_AtMost, wd_AtMost⟩, wg_AtMost, wi_0, wj_0, wh_AtMost⟩
  kc_Just_Wish := wkc_Just_Wish
  kc_AtLeast_Wish := wkc_AtLeast_Wish
  kc_AtMost_Wish := wkc_AtMost_Wish
  kc_NoneType_Wish := wkc_NoneType_Wish
  mk_Number := ⟨wm_Number, we_Number___init__, ws_7, wk_Number⟩
  mt_Number_edges := ⟨we_Number_edges, ws_8, k8⟩
  mt_Number_ways := ⟨we_Number_ways, ws_9, k9⟩
  mk_Edge := ⟨wm_Edge, we_Edge___init__, ws_10, wk_Edge⟩
  mt_Edge_edges := ⟨we_Edge_edges, ws_11, k11⟩
  mt_Edge_ways := ⟨we_Edge_ways, ws_9, k9⟩
  mk_Times := ⟨wm_Times, we_Times___init__, ws_12, wk_Times⟩
  mt_Times_edges := ⟨we_Times_edges, ws_13, k13⟩
  mt_Times_ways := ⟨we_Times_ways, ws_9, k9⟩
  mk_Plus := ⟨wm_Plus, we_Plus___init__, ws_14, wk_Plus⟩
  mt_Plus_edges := ⟨we_Plus_edges, ws_15, k15⟩
  mt_Plus_ways := ⟨we_Plus_ways, ws_9, k9⟩
  mk_Minus := ⟨wm_Minus, we_Minus___init__, ws_16, wk_Minus⟩
  mt_Minus_edges := ⟨we_Minus_edges, ws_17, k17⟩
  mt_Minus_ways := ⟨we_Minus_ways, ws_9, k9⟩
  mk_Just := ⟨wm_Just, we_Just___init__, ws_18, wk_Just⟩
  mt_Just_way := ⟨we_Just_way, ws_19, k19⟩
  mk_AtLeast := ⟨wm_AtLeast, we_AtLeast___init__, ws_18, wk_AtLeast⟩
  mt_AtLeast_way := ⟨we_AtLeast_way, ws_19, k19⟩
  mk_AtMost := ⟨wm_AtMost, we_AtMost___init__, ws_18, wk_AtMost⟩
  mt_AtMost_way := ⟨we_AtMost_way, ws_19, k19⟩
  a_way_of := f0
  d_way_of := _
  F_way_of := fun_mk (st := s_way_of) l0 c0 k0
  b_way_of := (fun_mk (st := s_way_of) l0 c0 k0).binds (ps := ["word"]) fun _ _ _ _ _ _ us hl => match us, hl with | [_], _ => rfl
  m_way_of := PySem.W.mg_of X G e0
  a_law_cell_at := f1
  d_law_cell_at := _
  F_law_cell_at := fun_mk (st := s_law_cell_at) l1 c1 k1
  b_law_cell_at := (fun_mk (st := s_law_cell_at) l1 c1 k1).binds (ps := ["_law_script", "_law_k"]) fun _ _ _ _ _ _ us hl => match us, hl with | [_, _], _ => rfl
  m_law_cell_at := PySem.W.mg_of X G e1
  a_law_leaf := f2
  d_law_leaf := _
  F_law_leaf := fun_mk (st := s_law_leaf) l2 c2 k2
  b_law_leaf := (fun_mk (st := s_law_leaf) l2 c2 k2).binds (ps := ["_law_cell", "_law_way"]) fun _ _ _ _ _ _ us hl => match us, hl with | [_, _], _ => rfl
  m_law_leaf := PySem.W.mg_of X G e2
  a_law_term := f3
  d_law_term := _
  F_law_term := fun_mk (st := s_law_term) l3 c3 k3
  b_law_term := (fun_mk (st := s_law_term) l3 c3 k3).binds (ps := ["_law_cells", "_law_way", "_law_odd"]) fun _ _ _ _ _ _ us hl => match us, hl with | [_, _, _], _ => rfl
  m_law_term := PySem.W.mg_of X G e3
  a_law_alone := f4
  d_law_alone := _
  F_law_alone := fun_mk (st := s_law_alone) l4 c4 k4
  b_law_alone := (fun_mk (st := s_law_alone) l4 c4 k4).binds (ps := ["_law_e"]) fun _ _ _ _ _ _ us hl => match us, hl with | [_], _ => rfl
  m_law_alone := PySem.W.mg_of X G e4
  a_law_made := f5
  d_law_made := _
  F_law_made := fun_mk (st := s_law_made) l5 c5 k5
  b_law_made := (fun_mk (st := s_law_made) l5 c5 k5).binds (ps := ["_law_kind", "_law_near", "_law_far"]) fun _ _ _ _ _ _ us hl => match us, hl with | [_, _, _], _ => rfl
  m_law_made := PySem.W.mg_of X G e5
  a_law := f6
  d_law := _
  F_law := fun_mk (st := s_law) l6 c6 k6
  b_law := (fun_mk (st := s_law) l6 c6 k6).binds (ps := ["_law_script"]) fun _ _ _ _ _ _ us hl => match us, hl with | [_], _ => rfl
  m_law := PySem.W.mg_of X G e6
  a_Number___init__ := f7
  d_Number___init__ := _
  F_Number___init__ := fun_mk (st := s_Number___init__) l7 c7 k7
  b_Number___init__ := (fun_mk (st := s_Number___init__) l7 c7 k7).binds (ps := ["self", "number"]) fun _ _ _ _ _ _ us hl => match us, hl with | [_, _], _ => rfl
  a_Term_edges := f8
  d_Term_edges := _
  F_Term_edges := fun_mk (st := s_Term_edges) l8 c8 k8
  b_Term_edges := (fun_mk (st := s_Term_edges) l8 c8 k8).binds (ps := ["self"]) fun _ _ _ _ _ _ us hl => match us, hl with | [_], _ => rfl
  a_Term_ways := f9
  d_Term_ways := _
  F_Term_ways := fun_mk (st := s_Term_ways) l9 c9 k9
  b_Term_ways := (fun_mk (st := s_Term_ways) l9 c9 k9).binds (ps := ["self"]) fun _ _ _ _ _ _ us hl => match us, hl with | [_], _ => rfl
  a_Edge___init__ := f10
  d_Edge___init__ := _
  F_Edge___init__ := fun_mk (st := s_Edge___init__) l10 c10 k10
  b_Edge___init__ := (fun_mk (st := s_Edge___init__) l10 c10 k10).binds (ps := ["self", "word", "name"]) fun _ _ _ _ _ _ us hl => match us, hl with | [_, _, _], _ => rfl
  a_Edge_edges := f11
  d_Edge_edges := _
  F_Edge_edges := fun_mk (st := s_Edge_edges) l11 c11 k11
  b_Edge_edges := (fun_mk (st := s_Edge_edges) l11 c11 k11).binds (ps := ["self"]) fun _ _ _ _ _ _ us hl => match us, hl with | [_], _ => rfl
  a_Times___init__ := f12
  d_Times___init__ := _
  F_Times___init__ := fun_mk (st := s_Times___init__) l12 c12 k12
  b_Times___init__ := (fun_mk (st := s_Times___init__) l12 c12 k12).binds (ps := ["self", "number", "inner"]) fun _ _ _ _ _ _ us hl => match us, hl with | [_, _, _], _ => rfl
  a_Times_edges := f13
  d_Times_edges := _
  F_Times_edges := fun_mk (st := s_Times_edges) l13 c13 k13
  b_Times_edges := (fun_mk (st := s_Times_edges) l13 c13 k13).binds (ps := ["self"]) fun _ _ _ _ _ _ us hl => match us, hl with | [_], _ => rfl
  a_Plus___init__ := f14
  d_Plus___init__ := _
  F_Plus___init__ := fun_mk (st := s_Plus___init__) l14 c14 k14
  b_Plus___init__ := (fun_mk (st := s_Plus___init__) l14 c14 k14).binds (ps := ["self", "one", "other"]) fun _ _ _ _ _ _ us hl => match us, hl with | [_, _, _], _ => rfl
  a_Plus_edges := f15
  d_Plus_edges := _
  F_Plus_edges := fun_mk (st := s_Plus_edges) l15 c15 k15
  b_Plus_edges := (fun_mk (st := s_Plus_edges) l15 c15 k15).binds (ps := ["self"]) fun _ _ _ _ _ _ us hl => match us, hl with | [_], _ => rfl
  a_Minus___init__ := f16
  d_Minus___init__ := _
  F_Minus___init__ := fun_mk (st := s_Minus___init__) l16 c16 k16
  b_Minus___init__ := (fun_mk (st := s_Minus___init__) l16 c16 k16).binds (ps := ["self", "one", "other"]) fun _ _ _ _ _ _ us hl => match us, hl with | [_, _, _], _ => rfl
  a_Minus_edges := f17
  d_Minus_edges := _
  F_Minus_edges := fun_mk (st := s_Minus_edges) l17 c17 k17
  b_Minus_edges := (fun_mk (st := s_Minus_edges) l17 c17 k17).binds (ps := ["self"]) fun _ _ _ _ _ _ us hl => match us, hl with | [_], _ => rfl
  a_Wish___init__ := f18
  d_Wish___init__ := _
  F_Wish___init__ := fun_mk (st := s_Wish___init__) l18 c18 k18
  b_Wish___init__ := (fun_mk (st := s_Wish___init__) l18 c18 k18).binds (ps := ["self", "near", "far", "rank", "weight"]) fun _ _ _ _ _ _ us hl => match us, hl with | [_, _, _, _, _], _ => rfl
  a_Wish_way := f19
  d_Wish_way := _
  F_Wish_way := fun_mk (st := s_Wish_way) l19 c19 k19
  b_Wish_way := (fun_mk (st := s_Wish_way) l19 c19 k19).binds (ps := ["self"]) fun _ _ _ _ _ _ us hl => match us, hl with | [_], _ => rfl
  c_DOWN := sg_DOWN
  m_DOWN := PySem.W.mg_of X G sn_DOWN
  t_DOWN := ⟨_, _, _, so_DOWN, rfl, rfl, (by show 5 ≤ sizeLine; decide), (.cons ⟨_, rfl⟩ (.cons ⟨_, rfl⟩ (.cons ⟨_, rfl⟩ (.cons ⟨_, rfl⟩ (.cons ⟨_, rfl⟩ .nil)))))⟩
  c_FrameError := x_FrameError
  m_FrameError := PySem.W.mg_of X G xn_FrameError
  q_FrameError := xq_FrameError
  c_Mixed := x_Mixed
  m_Mixed := PySem.W.mg_of X G xn_Mixed
  q_Mixed := xq_Mixed
  c_NoName := x_NoName
  m_NoName := PySem.W.mg_of X G xn_NoName
  q_NoName := xq_NoName
  c_NoPane := x_NoPane
  m_NoPane := PySem.W.mg_of X G xn_NoPane
  q_NoPane := xq_NoPane
  c_NoRank := x_NoRank
  m_NoRank := PySem.W.mg_of X G xn_NoRank
  q_NoRank := xq_NoRank
  c_NoWish := x_NoWish
  m_NoWish := PySem.W.mg_of X G xn_NoWish
  q_NoWish := xq_NoWish
  x_Mixed := ⟨yfg_Mixed, yfn_Mixed, yfc_Mixed, ymo_Mixed, ysb_Mixed⟩
  ki_Mixed_FrameError := xk_Mixed_FrameError
  ki_Mixed_ValueError := xk_Mixed_ValueError
  kt_Mixed_NoName_NoPane_NoRank_NoWish := xkt_Mixed_NoName_NoPane_NoRank_NoWish
  em_Mixed_Mixed := xm_Mixed_Mixed
  z_ValueError := PySem.W.mg_none_of X G z0
  z_len := PySem.W.mg_none_of X G z1
  z_set := PySem.W.mg_none_of X G z2
  z_sorted := PySem.W.mg_none_of X G z3
  z_range := PySem.W.mg_none_of X G z4
  z_enumerate := PySem.W.mg_none_of X G z5
  z_isinstance := PySem.W.mg_none_of X G z6
  z_int := PySem.W.mg_none_of X G z7
  z_abs := PySem.W.mg_none_of X G z8
section
variable {P : Program} {w : World} {K : PySem.W.Frag} {mg : Str → Option Value} {base : Heap}
local macro_rules | `(tactic| walk_at "v0") => `(tactic| first
  | with_reducible refine a_asg ?_
  | with_reducible refine a_name ?_
  | with_reducible refine a_ret ?_
  | with_reducible refine a_drop ?_
  | with_reducible refine a_next ?_
  | with_reducible refine a_if ?_
  | ((with_reducible refine' a_var ?ve ?_); (case ve => rfl))
  | with_reducible refine a_c ?_
  | with_reducible refine a_op ?_
  | with_reducible refine a_un ?_
  | with_reducible refine a_I0 ?_
  | with_reducible refine a_U ?_
  | with_reducible refine a_test ?_
  | with_reducible refine a_tB ?_
  | with_reducible refine a_bl ?_
  | with_reducible refine a_eqI ?_
  | with_reducible refine a_neI ?_
  | with_reducible refine a_eqB ?_
  | with_reducible refine a_neB ?_
  | with_reducible refine a_call ?_
  | with_reducible refine a_cons ?_
  | with_reducible refine a_nil ?_
  | with_reducible refine a_cb ?_
  | with_reducible refine a_tup ?_
  | with_reducible refine a_lst ?_
  | with_reducible refine a_and ?_
  | with_reducible refine a_or ?_
  | with_reducible refine a_not ?_
  | with_reducible refine a_andV ?_
  | with_reducible refine a_orV ?_
  | with_reducible refine a_notV ?_
  | with_reducible refine a_ifE ?_
  | with_reducible refine a_sl ?_
  | with_reducible refine a_part ?_
  | with_reducible refine a_noPart ?_
  | with_reducible refine a_pint ?_
  | with_reducible refine a_par ?_
  | with_reducible refine a_par2 ?_
  | dsimp only)
local macro_rules | `(tactic| walk_at "v") => `(tactic| first | with_reducible refine a_seq ?_ | walk_at "v0")
local macro_rules | `(tactic| walk_at "vt") => `(tactic| repeat walk_at "v0")
local macro_rules | `(tactic| walk_at "vs") => `(tactic| repeat walk_at "v")
local macro_rules | `(tactic| walk_at "o") => `(tactic| first | assumption | omega | rfl | trivial | decide | (refine ⟨?_, ?_⟩ <;> walk_at "o"))
local macro_rules | `(tactic| walk_at "ol") => `(tactic| first | omega | (simp only [List.length_cons, List.length_nil, List.length_append]; omega) | (simp only [List.length_cons, List.length_nil, List.length_append, List.length_map, List.length_replicate]; omega))
local macro_rules | `(tactic| walk_at "om") => `(tactic| first | exact mulL2 (by omega) (by omega) | exact mulR2 (by omega) (by omega) | exact mulLB (by omega) | exact mulRB (by omega) | exact mulBB (by omega) (by omega))
local macro_rules | `(tactic| walk_at "od") => `(tactic| first | exact divB (by omega) (by omega))
seal PE PT PS PSs PA PG PI PW
inductive Tm where
  | num (q : Rat) | edge (w n : Str) | times (q : Rat) (t : Tm) | plus (a b : Tm) | minus (a b : Tm)
def Tm.tag : Tm → Nat
  | .num _ => 0 | .edge _ _ => 1 | .times _ _ => 2 | .plus _ _ => 3 | .minus _ _ => 4
def Tm.dep : Tm → Nat
  | .num _ => 0 | .edge _ _ => 0 | .times _ t => t.dep + 1 | .plus a b => max a.dep b.dep + 1 | .minus a b => max a.dep b.dep + 1
def edg : Tm → List (Str × Str)
  | .num _ => [] | .edge w n => [(w, n)] | .times _ t => edg t | .plus a b => edg a ++ edg b | .minus a b => edg a ++ edg b
/-- a term stands at v -/
def tmAt (T : Tx K mg) (F : Hp) : Tm → V → Prop
  | .num q, v => ∃ x dx u, v = .ref x ∧ Rd F x (.ins T.c_Number dx [("number", u)]) ∧ rFr K F u q
  | .edge a n, v => ∃ x dx, v = .ref x ∧ Rd F x (.ins T.c_Edge dx [("word", .str a), ("name", .str n)])
  | .times q t, v => ∃ x dx u y, v = .ref x ∧ Rd F x (.ins T.c_Times dx [("number", u), ("inner", y)]) ∧ rFr K F u q ∧ tmAt T F t y
  | .plus a b, v => ∃ x dx y z, v = .ref x ∧ Rd F x (.ins T.c_Plus dx [("one", y), ("other", z)]) ∧ tmAt T F a y ∧ tmAt T F b z
  | .minus a b, v => ∃ x dx y z, v = .ref x ∧ Rd F x (.ins T.c_Minus dx [("one", y), ("other", z)]) ∧ tmAt T F a y ∧ tmAt T F b z
def rT (T : Tx K mg) : Rep Tm := fun F v t => tmAt T F t v
theorem leI {F F' : Hp} {x C dx : Addr} {fs : List (Str × V)} (le : Le F F') (h : Rd F x (.ins C dx fs)) : Rd F' x (.ins C dx fs) := le _ _ (by intro _ _ z; cases z) h
theorem tmAt_mo {T : Tx K mg} {F F' : Hp} (le : Le F F') : ∀ (t : Tm) (v : V), tmAt T F t v → tmAt T F' t v
  | .num q, v, ⟨x, dx, u, e, h, r⟩ => ⟨x, dx, u, e, leI le h, Mo.mo (A := rFr K) le r⟩
  | .edge a n, v, ⟨x, dx, e, h⟩ => ⟨x, dx, e, leI le h⟩
  | .times q t, v, ⟨x, dx, u, y, e, h, r, s⟩ => ⟨x, dx, u, y, e, leI le h, Mo.mo (A := rFr K) le r, tmAt_mo le t y s⟩
  | .plus a b, v, ⟨x, dx, y, z, e, h, r, s⟩ => ⟨x, dx, y, z, e, leI le h, tmAt_mo le a y r, tmAt_mo le b z s⟩
  | .minus a b, v, ⟨x, dx, y, z, e, h, r, s⟩ => ⟨x, dx, y, z, e, leI le h, tmAt_mo le a y r, tmAt_mo le b z s⟩
instance {T : Tx K mg} : Mo (rT T) := ⟨fun {F F' v x} le h => tmAt_mo le x v h⟩
/-- the classes of terms, by number -/
def DT (T : Tx K mg) (C : Addr) (g : Nat) : Prop := (C = T.c_Number ∧ g = 0) ∨ (C = T.c_Edge ∧ g = 1) ∨ (C = T.c_Times ∧ g = 2) ∨ (C = T.c_Plus ∧ g = 3) ∨ (C = T.c_Minus ∧ g = 4)
theorem lk1 {m f : Str} {v : V} (h : (m == f) = false) : [(f, v)].lookup m = none := by simp [List.lookup, h]
theorem lk2 {m f g : Str} {v u : V} (h : (m == f) = false) (h' : (m == g) = false) : [(f, v), (g, u)].lookup m = none := by simp [List.lookup, h, h']
theorem rT_cls {T : Tx K mg} {F : Hp} {v : V} : ∀ {t : Tm}, rT T F v t → ∃ x C dx fs, v = .ref x ∧ Rd F x (.ins C dx fs) ∧ DT T C t.tag ∧ fs.lookup ("edges" : Str) = none ∧ fs.lookup ("ways" : Str) = none
  | .num q, ⟨x, dx, u, e, h, r⟩ => ⟨x, _, dx, _, e, h, .inl ⟨rfl, rfl⟩, lk1 (by decide +kernel), lk1 (by decide +kernel)⟩
  | .edge a n, ⟨x, dx, e, h⟩ => ⟨x, _, dx, _, e, h, .inr (.inl ⟨rfl, rfl⟩), lk2 (by decide +kernel) (by decide +kernel), lk2 (by decide +kernel) (by decide +kernel)⟩
  | .times q t, ⟨x, dx, u, y, e, h, r, s⟩ => ⟨x, _, dx, _, e, h, .inr (.inr (.inl ⟨rfl, rfl⟩)), lk2 (by decide +kernel) (by decide +kernel), lk2 (by decide +kernel) (by decide +kernel)⟩
  | .plus a b, ⟨x, dx, y, z, e, h, r, s⟩ => ⟨x, _, dx, _, e, h, .inr (.inr (.inr (.inl ⟨rfl, rfl⟩))), lk2 (by decide +kernel) (by decide +kernel), lk2 (by decide +kernel) (by decide +kernel)⟩
  | .minus a b, ⟨x, dx, y, z, e, h, r, s⟩ => ⟨x, _, dx, _, e, h, .inr (.inr (.inr (.inr ⟨rfl, rfl⟩))), lk2 (by decide +kernel) (by decide +kernel), lk2 (by decide +kernel) (by decide +kernel)⟩
theorem put2 {f g : Str} {v u : V} (h : ¬ f = g) : putF g u [(f, v)] = [(f, v), (g, u)] := by
  show (if f = g then _ else _) = _
  rw [if_neg h]; rfl
/-! the constructors -/
theorem ok_Number___init__ (T : Tx K mg) : FnOk P w K mg base CX0 1 T.a_Number___init__ T.d_Number___init__ ["self", "number"] (spI1 T.c_Number "number") := by
  refine T.F_Number___init__.ok sc_Number___init__ (fun vs H Q E h => ?_) (fun cdv A outer s H vs Q E hr h => ?_)
  · obtain ⟨x, dx, v, rfl, _⟩ := h
    rfl
  · obtain ⟨x, dx, v, rfl, hx, k⟩ := h
    refine ⟨_, pss_one (ps_fld (pv 0) (pv 1) rfl), ?_⟩
    exact ⟨_, rfl, _, rfl, x, _, dx, [], rfl, hx, T.cl_Number, T.nf_Number_number, (by decide), k⟩
theorem ok_Edge___init__ (T : Tx K mg) : FnOk P w K mg base CX0 1 T.a_Edge___init__ T.d_Edge___init__ ["self", "word", "name"] (spI2 T.c_Edge "word" "name") := by
  refine T.F_Edge___init__.ok sc_Edge___init__ (fun vs H Q E h => ?_) (fun cdv A outer s H vs Q E hr h => ?_)
  · obtain ⟨x, dx, v, u, rfl, _⟩ := h
    rfl
  · obtain ⟨x, dx, v, u, rfl, hx, k⟩ := h
    refine ⟨_, pss_cons (ps_fld (pv 0) (pv 1) rfl) (pss_one (ps_fld (pv 0) (pv 2) rfl)), ?_⟩
    refine ⟨_, rfl, _, rfl, x, _, dx, [], rfl, hx, T.cl_Edge, T.nf_Edge_word, (by decide), _, rfl, _, rfl, x, _, dx, [("word", v)], rfl, upd_same, T.cl_Edge, T.nf_Edge_name, (by show 1 < 1000; decide), ?_⟩
    rw [upd_upd, put2 (by decide +kernel)]
    exact k
theorem ok_Times___init__ (T : Tx K mg) : FnOk P w K mg base CX0 1 T.a_Times___init__ T.d_Times___init__ ["self", "number", "inner"] (spI2 T.c_Times "number" "inner") := by
  refine T.F_Times___init__.ok sc_Times___init__ (fun vs H Q E h => ?_) (fun cdv A outer s H vs Q E hr h => ?_)
  · obtain ⟨x, dx, v, u, rfl, _⟩ := h
    rfl
  · obtain ⟨x, dx, v, u, rfl, hx, k⟩ := h
    refine ⟨_, pss_cons (ps_fld (pv 0) (pv 1) rfl) (pss_one (ps_fld (pv 0) (pv 2) rfl)), ?_⟩
    refine ⟨_, rfl, _, rfl, x, _, dx, [], rfl, hx, T.cl_Times, T.nf_Times_number, (by decide), _, rfl, _, rfl, x, _, dx, [("number", v)], rfl, upd_same, T.cl_Times, T.nf_Times_inner, (by show 1 < 1000; decide), ?_⟩
    rw [upd_upd, put2 (by decide +kernel)]
    exact k
theorem ok_Plus___init__ (T : Tx K mg) : FnOk P w K mg base CX0 1 T.a_Plus___init__ T.d_Plus___init__ ["self", "one", "other"] (spI2 T.c_Plus "one" "other") := by
  refine T.F_Plus___init__.ok sc_Plus___init__ (fun vs H Q E h => ?_) (fun cdv A outer s H vs Q E hr h => ?_)
  · obtain ⟨x, dx, v, u, rfl, _⟩ := h
    rfl
  · obtain ⟨x, dx, v, u, rfl, hx, k⟩ := h
    refine ⟨_, pss_cons (ps_fld (pv 0) (pv 1) rfl) (pss_one (ps_fld (pv 0) (pv 2) rfl)), ?_⟩
    refine ⟨_, rfl, _, rfl, x, _, dx, [], rfl, hx, T.cl_Plus, T.nf_Plus_one, (by decide), _, rfl, _, rfl, x, _, dx, [("one", v)], rfl, upd_same, T.cl_Plus, T.nf_Plus_other, (by show 1 < 1000; decide), ?_⟩
    rw [upd_upd, put2 (by decide +kernel)]
    exact k
theorem ok_Minus___init__ (T : Tx K mg) : FnOk P w K mg base CX0 1 T.a_Minus___init__ T.d_Minus___init__ ["self", "one", "other"] (spI2 T.c_Minus "one" "other") := by
  refine T.F_Minus___init__.ok sc_Minus___init__ (fun vs H Q E h => ?_) (fun cdv A outer s H vs Q E hr h => ?_)
  · obtain ⟨x, dx, v, u, rfl, _⟩ := h
    rfl
  · obtain ⟨x, dx, v, u, rfl, hx, k⟩ := h
    refine ⟨_, pss_cons (ps_fld (pv 0) (pv 1) rfl) (pss_one (ps_fld (pv 0) (pv 2) rfl)), ?_⟩
    refine ⟨_, rfl, _, rfl, x, _, dx, [], rfl, hx, T.cl_Minus, T.nf_Minus_one, (by decide), _, rfl, _, rfl, x, _, dx, [("one", v)], rfl, upd_same, T.cl_Minus, T.nf_Minus_other, (by show 1 < 1000; decide), ?_⟩
    rw [upd_upd, put2 (by decide +kernel)]
    exact k
/-! edges: of each class, for terms of at most some depth -/
def spE (T : Tx K mg) (n g : Nat) : Sp := fun vs H Q _ => ∃ (F : Hp) (v : V) (t : Tm), vs = [v] ∧ Same F H ∧ rT T F v t ∧ (t.tag = g ∧ t.dep ≤ n ∧ (edg t).length ≤ 1000) ∧ ∀ (r : V) (F' H' : Hp), Gr F H F' H' → ownL (r2 K rS rS) F' H H' r (edg t) → Q r H'
theorem ok_Term_edges (T : Tx K mg) (n : Nat) : FnOk P w K mg base CX0 1 T.a_Term_edges T.d_Term_edges ["self"] (spE T n 0) := by
  refine T.F_Term_edges.ok sc_Term_edges (fun vs H Q E h => ?_) (fun cdv A outer s H vs Q E hr h => ?_)
  · obtain ⟨F, v, t, rfl, _⟩ := h
    rfl
  · obtain ⟨F, v, t, rfl, wd, ht, ⟨hg, hd, hl⟩, k⟩ := h
    have gb := Gr0.refl wd
    have cm := Fz.refl F
    refine ⟨_, pss_one (ps_ret (pe_lst pa_nil)), ?_⟩
    refine ⟨by decide, fun p hp => ?_⟩
    obtain ⟨gb1, sm, hb, oF, oH, ne⟩ := alo2 (o := .lst []) gb hp
    cases t with
    | num q => exact k _ _ _ (Gr.of gb1 cm) ⟨p, [], rfl, hb, oH, oF, True.intro⟩
    | edge _ _ => cases hg
    | times _ _ => cases hg
    | plus _ _ => cases hg
    | minus _ _ => cases hg
theorem lkA {f g : Str} {v u : V} : [(f, v), (g, u)].lookup f = some v := by simp [List.lookup]
theorem lkB {f g : Str} {v u : V} (h : (g == f) = false) : [(f, v), (g, u)].lookup g = some u := by simp [List.lookup, h]
theorem ok_Edge_edges (T : Tx K mg) (n : Nat) : FnOk P w K mg base CX0 1 T.a_Edge_edges T.d_Edge_edges ["self"] (spE T n 1) := by
  refine T.F_Edge_edges.ok sc_Edge_edges (fun vs H Q E h => ?_) (fun cdv A outer s H vs Q E hr h => ?_)
  · obtain ⟨F, v, t, rfl, _⟩ := h
    rfl
  · obtain ⟨F, v, t, rfl, wd, ht, ⟨hg, hd, hl⟩, k⟩ := h
    cases t with
    | num _ => cases hg
    | times _ _ => cases hg
    | plus _ _ => cases hg
    | minus _ _ => cases hg
    | edge a b =>
      obtain ⟨x, dx, rfl, hx⟩ := ht
      refine ⟨_, pss_one (ps_ret (pe_lst (pa_cons (pe_tup (pa_cons (pe_fldR (pv 0) rfl) (pa_cons (pe_fldR (pv 0) rfl) pa_nil))) pa_nil))), ?_⟩
      refine ⟨_, rfl, x, _, dx, _, _, rfl, wd.rd hx, T.cl_Edge, T.nf_Edge_word, lkA, _, rfl, x, _, dx, _, _, rfl, wd.rd hx, T.cl_Edge, T.nf_Edge_name, lkB (by decide +kernel), (by show 2 ≤ sizeLine; decide), fun p hp => ?_⟩
      obtain ⟨F1, g1, e1⟩ := al2 (o := .tup [.str a, .str b]) wd (by intro _ _ z; cases z) hp
      refine ⟨by show 1 ≤ sizeLine; decide, fun l hl => ?_⟩
      obtain ⟨gb1, sm, hb, oF, oH, ne⟩ := alo2 (o := .lst [.ref p]) ((Gr0.refl wd).tr g1) hl
      exact k _ _ _ (Gr.of gb1 (g1.fz (Fz.refl F))) ⟨l, _, rfl, hb, oH, oF, ⟨p, _, _, rfl, SqT.of e1, rfl, rfl⟩, True.intro⟩
theorem ok_Times_edges (T : Tx K mg) (m : Nat) (ih : ∀ C g, DT T C g → MOk P w K mg base CX0 (m + 1) "edges" C (spE T m g)) : FnOk P w K mg base CX0 (m + 2) T.a_Times_edges T.d_Times_edges ["self"] (spE T (m + 1) 2) := by
  refine T.F_Times_edges.ok sc_Times_edges (fun vs H Q E h => ?_) (fun cdv A outer s H vs Q E hr h => ?_)
  · obtain ⟨F, v, t, rfl, _⟩ := h
    rfl
  · obtain ⟨F, v, t, rfl, wd, ht, ⟨hg, hd, hl⟩, k⟩ := h
    cases t with
    | num _ => cases hg
    | edge _ _ => cases hg
    | plus _ _ => cases hg
    | minus _ _ => cases hg
    | times q t =>
      obtain ⟨x, dx, u, y, rfl, hx, _, hy⟩ := ht
      obtain ⟨x1, C1, dx1, fs1, rfl, r1, d1, l1, _⟩ := rT_cls hy
      refine ⟨_, pss_one (ps_ret (pe_methD (pe_fldR (pv 0) rfl) ih hr pass0)), ?_⟩
      exact ⟨_, rfl, x, _, dx, _, _, rfl, wd.rd hx, T.cl_Times, T.nf_Times_inner, lkB (by decide +kernel), x1, C1, dx1, fs1, _, rfl, wd.rd r1, d1, l1, F, _, t, rfl, wd, hy, ⟨rfl, Nat.le_of_succ_le_succ hd, hl⟩, k⟩
theorem ok_Plus_edges (T : Tx K mg) (m : Nat) (ih : ∀ C g, DT T C g → MOk P w K mg base CX0 (m + 1) "edges" C (spE T m g)) : FnOk P w K mg base CX0 (m + 2) T.a_Plus_edges T.d_Plus_edges ["self"] (spE T (m + 1) 3) := by
  refine T.F_Plus_edges.ok sc_Plus_edges (fun vs H Q E h => ?_) (fun cdv A outer s H vs Q E hr h => ?_)
  · obtain ⟨F, v, t, rfl, _⟩ := h
    rfl
  · obtain ⟨F, v, t, rfl, wd, ht, ⟨hg, hd, hl⟩, k⟩ := h
    cases t with
    | num _ => cases hg
    | edge _ _ => cases hg
    | times _ _ => cases hg
    | minus _ _ => cases hg
    | plus a b =>
      obtain ⟨x, dx, y, z, rfl, hx, hy, hz⟩ := ht
      obtain ⟨x1, C1, dx1, fs1, rfl, r1, d1, l1, _⟩ := rT_cls hy
      obtain ⟨x2, C2, dx2, fs2, rfl, r2, d2, l2, _⟩ := rT_cls hz
      have hd' : max a.dep b.dep ≤ m := Nat.le_of_succ_le_succ hd
      have hl' : (edg a).length + (edg b).length ≤ 1000 := by rw [← List.length_append]; exact hl
      refine ⟨_, pss_one (ps_ret (pe_op op_catS (pe_methD (pe_fldR (pv 0) rfl) ih hr pass0) (pe_methD (pe_fldR (pv 0) rfl) ih hr pass0))), ?_⟩
      refine ⟨_, rfl, x, _, dx, _, _, rfl, wd.rd hx, T.cl_Plus, T.nf_Plus_one, lkA, x1, C1, dx1, fs1, _, rfl, wd.rd r1, d1, l1, F, _, a, rfl, wd, hy, ⟨rfl, by omega, by omega⟩, fun v1 F1 H1 g1 o1 => ?_⟩
      refine ⟨_, rfl, x, _, dx, _, _, rfl, g1.s.rd (leI g1.le hx), T.cl_Plus, T.nf_Plus_other, lkB (by decide +kernel), x2, C2, dx2, fs2, _, rfl, g1.s.rd (leI g1.le r2), d2, l2, F1, _, b, rfl, g1.s, tmAt_mo g1.le b _ hz, ⟨rfl, by omega, by omega⟩, fun v2 F2 H2 g2 o2 => ?_⟩
      obtain ⟨p1, u1, rfl, n1, h1, f1, al1⟩ := o1
      obtain ⟨p2, u2, rfl, n2, h2, f2, al2'⟩ := o2
      have al1' := Al.mo g2.le al1
      refine ⟨p1, p2, u1, u2, rfl, rfl, SqL.of (g2.h _ _ h1), SqL.of h2, Nat.le_trans (show _ ≤ 1000 by rw [Al.length al1', Al.length al2']; exact hl') (by decide), fun p hp => ?_⟩
      obtain ⟨gb1, sm, hb, oF, oH, ne⟩ := alo2 (o := .lst (u1 ++ u2)) (g1.toGr0.trans g2.toGr0) hp
      exact k _ _ _ (Gr.of gb1 (g2.fz (g1.fz (Fz.refl F)))) ⟨p, _, rfl, hb, oH, oF, Al.app al1' al2'⟩
theorem ok_Minus_edges (T : Tx K mg) (m : Nat) (ih : ∀ C g, DT T C g → MOk P w K mg base CX0 (m + 1) "edges" C (spE T m g)) : FnOk P w K mg base CX0 (m + 2) T.a_Minus_edges T.d_Minus_edges ["self"] (spE T (m + 1) 4) := by
  refine T.F_Minus_edges.ok sc_Minus_edges (fun vs H Q E h => ?_) (fun cdv A outer s H vs Q E hr h => ?_)
  · obtain ⟨F, v, t, rfl, _⟩ := h
    rfl
  · obtain ⟨F, v, t, rfl, wd, ht, ⟨hg, hd, hl⟩, k⟩ := h
    cases t with
    | num _ => cases hg
    | edge _ _ => cases hg
    | times _ _ => cases hg
    | plus _ _ => cases hg
    | minus a b =>
      obtain ⟨x, dx, y, z, rfl, hx, hy, hz⟩ := ht
      obtain ⟨x1, C1, dx1, fs1, rfl, r1, d1, l1, _⟩ := rT_cls hy
      obtain ⟨x2, C2, dx2, fs2, rfl, r2, d2, l2, _⟩ := rT_cls hz
      have hd' : max a.dep b.dep ≤ m := Nat.le_of_succ_le_succ hd
      have hl' : (edg a).length + (edg b).length ≤ 1000 := by rw [← List.length_append]; exact hl
      refine ⟨_, pss_one (ps_ret (pe_op op_catS (pe_methD (pe_fldR (pv 0) rfl) ih hr pass0) (pe_methD (pe_fldR (pv 0) rfl) ih hr pass0))), ?_⟩
      refine ⟨_, rfl, x, _, dx, _, _, rfl, wd.rd hx, T.cl_Minus, T.nf_Minus_one, lkA, x1, C1, dx1, fs1, _, rfl, wd.rd r1, d1, l1, F, _, a, rfl, wd, hy, ⟨rfl, by omega, by omega⟩, fun v1 F1 H1 g1 o1 => ?_⟩
      refine ⟨_, rfl, x, _, dx, _, _, rfl, g1.s.rd (leI g1.le hx), T.cl_Minus, T.nf_Minus_other, lkB (by decide +kernel), x2, C2, dx2, fs2, _, rfl, g1.s.rd (leI g1.le r2), d2, l2, F1, _, b, rfl, g1.s, tmAt_mo g1.le b _ hz, ⟨rfl, by omega, by omega⟩, fun v2 F2 H2 g2 o2 => ?_⟩
      obtain ⟨p1, u1, rfl, n1, h1, f1, al1⟩ := o1
      obtain ⟨p2, u2, rfl, n2, h2, f2, al2'⟩ := o2
      have al1' := Al.mo g2.le al1
      refine ⟨p1, p2, u1, u2, rfl, rfl, SqL.of (g2.h _ _ h1), SqL.of h2, Nat.le_trans (show _ ≤ 1000 by rw [Al.length al1', Al.length al2']; exact hl') (by decide), fun p hp => ?_⟩
      obtain ⟨gb1, sm, hb, oF, oH, ne⟩ := alo2 (o := .lst (u1 ++ u2)) (g1.toGr0.trans g2.toGr0) hp
      exact k _ _ _ (Gr.of gb1 (g2.fz (g1.fz (Fz.refl F)))) ⟨p, _, rfl, hb, oH, oF, Al.app al1' al2'⟩
theorem no_edges {T : Tx K mg} {C : String} {a : Addr} {d : FuncData} {g : Nat} (hg : 2 ≤ g) {st : Stmt} (F : Fun K "edges" C st a d) {N : List Str} (S : FnScope N ["self"] (defScope st)) : FnOk P w K mg base CX0 1 a d ["self"] (spE T 0 g) := by
  have no : ∀ {vs : List V} {H : Hp} {Q : VK} {E : XK}, spE T 0 g vs H Q E → False := fun h => by
    obtain ⟨F, v, t, rfl, wd, ht, ⟨hg', hd, _⟩, _⟩ := h
    cases t with
    | num _ => have : 0 = g := hg'; omega
    | edge _ _ => have : 1 = g := hg'; omega
    | times _ _ => exact absurd hd (Nat.not_succ_le_zero _)
    | plus _ _ => exact absurd hd (Nat.not_succ_le_zero _)
    | minus _ _ => exact absurd hd (Nat.not_succ_le_zero _)
  exact F.ok S (fun vs H Q E h => (no h).elim) (fun cdv A outer s H vs Q E hr h => (no h).elim)
theorem edges_ok (T : Tx K mg) : ∀ (n : Nat) (C : Addr) (g : Nat), DT T C g → MOk P w K mg base CX0 (n + 1) "edges" C (spE T n g)
  | n, _, _, .inl ⟨rfl, rfl⟩ => ⟨T.cl_Number, _, _, T.mt_Number_edges, (ok_Term_edges T n).mono (by omega), T.b_Term_edges⟩
  | n, _, _, .inr (.inl ⟨rfl, rfl⟩) => ⟨T.cl_Edge, _, _, T.mt_Edge_edges, (ok_Edge_edges T n).mono (by omega), T.b_Edge_edges⟩
  | 0, _, _, .inr (.inr (.inl ⟨rfl, rfl⟩)) => ⟨T.cl_Times, _, _, T.mt_Times_edges, no_edges (by decide) T.F_Times_edges sc_Times_edges, T.b_Times_edges⟩
  | 0, _, _, .inr (.inr (.inr (.inl ⟨rfl, rfl⟩))) => ⟨T.cl_Plus, _, _, T.mt_Plus_edges, no_edges (by decide) T.F_Plus_edges sc_Plus_edges, T.b_Plus_edges⟩
  | 0, _, _, .inr (.inr (.inr (.inr ⟨rfl, rfl⟩))) => ⟨T.cl_Minus, _, _, T.mt_Minus_edges, no_edges (by decide) T.F_Minus_edges sc_Minus_edges, T.b_Minus_edges⟩
  | m + 1, _, _, .inr (.inr (.inl ⟨rfl, rfl⟩)) => ⟨T.cl_Times, _, _, T.mt_Times_edges, ok_Times_edges T m (edges_ok T m), T.b_Times_edges⟩
  | m + 1, _, _, .inr (.inr (.inr (.inl ⟨rfl, rfl⟩))) => ⟨T.cl_Plus, _, _, T.mt_Plus_edges, ok_Plus_edges T m (edges_ok T m), T.b_Plus_edges⟩
  | m + 1, _, _, .inr (.inr (.inr (.inr ⟨rfl, rfl⟩))) => ⟨T.cl_Minus, _, _, T.mt_Minus_edges, ok_Minus_edges T m (edges_ok T m), T.b_Minus_edges⟩
theorem cls_e {T : Tx K mg} {F : Hp} {v : V} {t : Tm} (h : rT T F v t) : ∃ x C dx fs, v = .ref x ∧ Rd F x (.ins C dx fs) ∧ DT T C t.tag ∧ fs.lookup ("edges" : Str) = none := by
  obtain ⟨x, C, dx, fs, a, b, c, d, _⟩ := rT_cls h
  exact ⟨x, C, dx, fs, a, b, c, d⟩
theorem cls_w {T : Tx K mg} {F : Hp} {v : V} {t : Tm} (h : rT T F v t) : ∃ x C dx fs, v = .ref x ∧ Rd F x (.ins C dx fs) ∧ DT T C t.tag ∧ fs.lookup ("ways" : Str) = none := by
  obtain ⟨x, C, dx, fs, a, b, c, _, d⟩ := rT_cls h
  exact ⟨x, C, dx, fs, a, b, c, d⟩
def wayS (x : Str) : Str := if x ∈ (["top", "height", "bottom", "centre", "drop"] : List Str) then "down" else "across"
noncomputable def wys (t : Tm) : List Str := srt (once ((edg t).map fun e => wayS e.1))
theorem leaf_ne {l : List Str} {x : Str} {i j : Nat} (h1 : ([["left", "width", "right", "middle", "gap"], ["top", "height", "bottom", "centre", "drop"]] : List (List Str))[i]? = some l) (h2 : l[j]? = some x) : ¬ x = "" := by
  have m1 := List.mem_of_getElem? h1
  have m2 := List.mem_of_getElem? h2
  simp only [List.mem_cons, List.not_mem_nil, or_false] at m1
  rcases m1 with rfl | rfl <;> (simp only [List.mem_cons, List.not_mem_nil, or_false] at m2; rcases m2 with rfl | rfl | rfl | rfl | rfl <;> decide +kernel)
theorem leaf_len {l : List Str} {i : Nat} (h1 : ([["left", "width", "right", "middle", "gap"], ["top", "height", "bottom", "centre", "drop"]] : List (List Str))[i]? = some l) : l.length = 5 := by
  have m1 := List.mem_of_getElem? h1
  simp only [List.mem_cons, List.not_mem_nil, or_false] at m1
  rcases m1 with rfl | rfl <;> rfl
theorem leaf_yes {t f : Tm} {ws : List Str} {y : Str} (f2 : (edg f).map (·.1) = (if y = "" then [] else [y])) (hy : ¬ y = "") (q : ∀ x, x ∈ (edg t).map (·.1) ↔ x ∈ ws) : ∀ x, (x ∈ (edg t).map (·.1) ∨ x ∈ (edg f).map (·.1)) ↔ x ∈ ws ++ [y] := fun x => by
  rw [f2, if_neg hy, q x, List.mem_append]
theorem leaf_no {t f : Tm} {ws : List Str} {y : Str} (f2 : (edg f).map (·.1) = (if y = "" then [] else [y])) (hy : y = "") (q : ∀ x, x ∈ (edg t).map (·.1) ↔ x ∈ ws) : ∀ x, (x ∈ (edg t).map (·.1) ∨ x ∈ (edg f).map (·.1)) ↔ x ∈ ws := fun x => by
  rw [f2, if_pos hy, q x]; simp
def sp_way_of (K : PySem.W.Frag) : Sp := fun vs H Q _ => Ex3 fun (F : Hp) (v_word : V) (word : Str) => Cj4 (vs = [v_word]) (Same F H) (rS F v_word word) (∀ (v : V) (F' H' : Hp), Gr F H F' H' → rS F' v (wayS word) → Q v H')
set_option linter.unusedVariables false in
theorem ok_way_of (T : Tx K mg) : FnOk P w K mg base CX0 1 T.a_way_of T.d_way_of ["word"] (sp_way_of K) := by
  refine T.F_way_of.ok sc_way_of (fun vs H Q E h => ?_) (fun cdv A outer s H vs Q E hr h => ?_)
  · obtain ⟨F, v_word, word, rfl, _⟩ := h
    rfl
  · obtain ⟨F, v_word, word, rfl, wd, r_word, k⟩ := h
    have hu := hu_of hr
    have gb := Gr0.refl wd
    have cm := Fz.refl F
    obtain rfl : v_word = V.str word := r_word
    refine ⟨_, (pss_one (ps_ret (pe_ifExp (pt_cmpR op_in_seq (pv 0) (pe_glob (v := .ref T.c_DOWN) rfl T.m_DOWN rfl) (by with_unfolding_all rfl)) pe_str pe_str))), ?_⟩
    refine a_ret ?_
    refine a_ifE ?_
    refine a_test ?_
    refine a_op ?_
    refine a_var rfl ?_
    refine a_c ?_
    refine a_inC (xs := (["top", "height", "bottom", "centre", "drop"] : List Str)) (.inr T.t_DOWN) ?_
    refine a_bl ?_
    refine iteD (fun c1 => ?_) (fun c1 => ?_)
    · refine a_c ?_
      have ln2 : ("down" : Str).length = 4 := by decide +kernel
      have hval : (("down" : Str) : Str) = (wayS word) := by unfold wayS; first | (rw [if_pos (by assumption)]; done) | (rw [if_neg (by assumption)]; done)
      have rp3 : rS F (V.str ("down" : Str)) (("down" : Str)) := rfl
      replace rp3 := Eq.mp (congrArg (rS F (V.str ("down" : Str))) hval) rp3
      exact k _ _ _ (Gr.of gb cm) rp3
    · refine a_c ?_
      have ln4 : ("across" : Str).length = 6 := by decide +kernel
      have hval : (("across" : Str) : Str) = (wayS word) := by unfold wayS; first | (rw [if_pos (by assumption)]; done) | (rw [if_neg (by assumption)]; done)
      have rp5 : rS F (V.str ("across" : Str)) (("across" : Str)) := rfl
      replace rp5 := Eq.mp (congrArg (rS F (V.str ("across" : Str))) hval) rp5
      exact k _ _ _ (Gr.of gb cm) rp5
def sp_Term_ways (T : Tx K mg) : Sp := fun vs H Q _ => Ex3 fun (F : Hp) (v_self : V) (self : Tm) => Cj5 (vs = [v_self]) (Same F H) ((rT T) F v_self self) (self.dep ≤ 11 ∧ (edg self).length ≤ 30) (∀ (v : V) (F' H' : Hp), Gr F H F' H' → ownL rS F' H H' v (wys self) → Q v H')
set_option linter.unusedVariables false in
theorem ok_Term_ways (T : Tx K mg) : FnOk P w K mg base CX0 14 T.a_Term_ways T.d_Term_ways ["self"] (sp_Term_ways T) := by
  refine T.F_Term_ways.ok sc_Term_ways (fun vs H Q E h => ?_) (fun cdv A outer s H vs Q E hr h => ?_)
  · obtain ⟨F, v_self, self, rfl, _⟩ := h
    rfl
  · obtain ⟨F, v_self, self, rfl, wd, r_self, hpre, k⟩ := h
    have hu := hu_of hr
    have gb := Gr0.refl wd
    have cm := Fz.refl F
    obtain ⟨hd, hl⟩ := hpre
    refine ⟨_, (pss_one (ps_ret (pe_callB (show CallR _ _ (rSortT P w) from call_sortedT rfl) rfl T.z_sorted rfl (pa_cons (pe_callTy (show CallR _ _ (rSetX P w K) from call_setX rfl) rfl T.z_set rfl (pa_cons (pe_comp (N := ["edge"]) (ix := [none]) rfl (pi_list (pe_methD (pv 0) (fun C g h => (edges_ok T 11 C g h).mono (by decide)) hr pass0)) (fun _ _ _ _ _ => (pg_name (i := 0) (show List.Nodup (["edge"] : List Str) from by decide) rfl (Or.inl rfl))) (fun _ _ _ _ _ => pts_nil) (fun _ _ _ _ _ => (pe_call ((ok_way_of T).mono (by decide)) hr rfl T.m_way_of T.F_way_of.kp T.b_way_of .nil pass0 (pa_cons (pe_ix (show IxR _ (rIxT K) from ix_tup) (pv 0) pe_int (fun _ _ => rfl)) pa_nil))) True.intro) pa_nil)) pa_nil)))), ?_⟩
    refine a_ret ?_
    refine a_cb ?_
    refine a_cons ?_
    refine a_cb ?_
    refine a_cons ?_
    refine a_comp ?_
    refine a_ilist ?_
    refine a_methD ?_
    refine a_var rfl ?_
    obtain ⟨_, _, _, _, ev1, rd2, dd3, hl4⟩ := cls_e r_self
    refine ⟨_, _, _, _, _, ev1, gb.s.rd rd2, dd3, hl4, ?_⟩
    refine ⟨F, _, self, rfl, gb.s, r_self, (by exact ⟨rfl, hd, Nat.le_trans hl (by decide)⟩), ?_⟩
    rintro v5 F6 H7  g9 hr10 
    obtain ⟨p12, vs13, rfl, hn14, oH15, oF16, al17⟩ := hr10
    have hb18 := gb.h.free hn14
    have gb19 := gb.tr g9
    have le20 := g9.le
    have cm21 := g9.fz cm
    have hml26 : ((edg self)).length ≤ 1000000 := by omega
    refine ⟨_, rfl, ⟨_, (SqL.of oH15)⟩, comp_list (K := K) (a := p12) (xs := vs13) (fun i acc H' => Ex4 fun (F22 : Hp) (kv23 : List V) (m24 : List (Str × Str)) (ts25 : List Str) => Cj12 (True) (Gr0 F H F22 H') (Fz (frzd F) F22) (Le F6 F22) (H' p12 = some (.lst kv23)) (F22 p12 = none) (Al (r2 K rS rS) F22 kv23 m24) ((edg self) = m24) (vs13 = kv23) (Al rS F22 acc ts25) (ts25.length ≤ i) ((ts25 = ((edg self).take i).map fun e => wayS e.1))) ?_ ?_ ?_ ?_⟩
    · exact ⟨F6, _, (edg self), [], True.intro, gb19, cm21, Le.refl _, oH15, oF16, al17, rfl, rfl, (show Al rS F6 [] [] from True.intro), (by first | (simp; done) | (rw [List.length_append]; simp only [List.length_cons, List.length_nil]; omega) | omega), by rfl⟩
    · rintro i acc H27 _ ⟨F28, kv32, m33, ts34, _, gb29, cm30, le31, oH37, oF38, dk39, rfl, rfl, al35, tl36, q0⟩
      exact (SqL.of oH37)
    · rintro i40 y43 acc44 H41 hi42 ⟨F45, kv49, m50, ts51, _, gb46, cm47, le48, oH54, oF55, dk56, rfl, rfl, al52, tl53, q0⟩
      obtain ⟨x57, hx58, hr59⟩ := Al.get dk56 hi42
      have hil := (List.getElem?_eq_some_iff.mp hx58).1
      refine a_name ?_
      obtain ⟨a60, v62, v63, rfl, sq61, h64, h65⟩ := hr59
      obtain rfl : v62 = V.str x57.1 := h64
      obtain rfl : v63 = V.str x57.2 := h65
      refine ⟨Wk.non (Wk.nil), ?_⟩
      try dsimp only
      refine a_yes ?_
      refine iteT ?_
      refine a_call ?_
      refine a_cons ?_
      refine a_op ?_
      refine a_var rfl ?_
      refine a_c ?_
      refine a_ixT (Same.tup gb46.s sq61) rfl ?_
      refine a_nil ?_
      refine ⟨F45, _, x57.1, rfl, gb46.s, rfl, ?_⟩
      rintro v66 F67 H68  g70 hr71 
      have gb73 := gb46.tr g70
      have le74 := g70.le
      have oH75 := g70.h _ _ oH54
      have oF76 := g70.own oF55 oH54
      have cm77 := g70.fz cm47
      obtain rfl : v66 = V.str (wayS x57.1) := hr71
      refine ⟨by rw [Al.length (Al.mo le74 al52)]; have := sizeLine_big; omega, ?_⟩
      exact ⟨F67, _, (edg self), (ts51 ++ [(wayS x57.1)]), True.intro, gb73, cm77, (le48.trans le74), oH75, oF76, (Al.mo le74 dk56), rfl, rfl, (Al.snoc (Al.mo le74 al52) rfl), (by first | (simp; done) | (rw [List.length_append]; simp only [List.length_cons, List.length_nil]; omega) | omega), by rw [q0]; exact (map_take_succ _ hx58).symm⟩
    · rintro acc79 H78 ⟨F80, kv84, m85, ts86, _, gb81, cm82, le83, oH89, oF90, dk91, rfl, rfl, al87, tl88, q0⟩
      have hlen := Al.length dk91
      refine ⟨(by rw [Al.length al87]; have := sizeLine_big; omega), fun p92 hp93 => ?_⟩
      obtain ⟨F94, g96, e97⟩ := al2 (o := (.lst acc79)) gb81.s (by intro _ _ z; cases z) hp93
      generalize upd H78 p92 (.lst acc79) = H95 at g96 ⊢
      have gb98 := gb81.tr g96
      have le99 := g96.le
      have oH100 := g96.h _ _ oH89
      have oF101 := g96.own oF90 oH89
      have cm102 := g96.fz cm82
      rw [hlen, List.take_length] at q0
      refine a_nil ?_
      refine a_setT (Same.seq gb98.s (SqL.of e97)) (Al.mo le99 al87) (by rw [q0, List.length_map]; omega) fun p103 hp104 => ?_
      obtain ⟨F105, g107, e108⟩ := al2 (o := (SetC P w p103 ((once ts86).map Sum.inr))) gb98.s (by intro _ _ z; unfold SetC at z; cases z) hp104
      generalize upd H95 p103 (SetC P w p103 ((once ts86).map Sum.inr)) = H106 at g107 ⊢
      have gb109 := gb98.tr g107
      have le110 := g107.le
      have oH111 := g107.h _ _ oH100
      have oF112 := g107.own oF101 oH100
      have cm113 := g107.fz cm102
      refine a_nil ?_
      refine a_sortT (gb109.s _ _ e108) (by exact Nat.lt_of_le_of_lt (once_len _) (by rw [q0, List.length_map]; omega)) (fun p114 hp115 => ?_)
      obtain ⟨gb117, sm118, hb119, oF120, oH121, ne122⟩ := alo2 (o := (.lst ((srt (once ts86)).map V.str))) gb109 hp115
      generalize upd H106 p114 (.lst ((srt (once ts86)).map V.str)) = H116 at gb117 sm118 oH121 ⊢
      have ne123 := ne122 _ _ oH111
      have oH124 := sm118 _ _ oH111
      have hval : ((srt (once ts86)) : (List Str)) = (wys self) := by rw [q0]; rfl
      have rp125 : ownL rS F105 H H116 (V.ref p114) ((srt (once ts86))) := ⟨_, _, rfl, hb119, oH121, oF120, (al_strs (F := F105) (xs := (srt (once ts86))))⟩
      rw [hval] at rp125
      exact k _ _ _ (Gr.of gb117 cm113) rp125
def spW (T : Tx K mg) (_ : Nat) : Sp := sp_Term_ways T
theorem ways_ok (T : Tx K mg) : ∀ (C : Addr) (g : Nat), DT T C g → MOk P w K mg base CX0 14 "ways" C (spW T g)
  | _, _, .inl ⟨rfl, rfl⟩ => ⟨T.cl_Number, _, _, T.mt_Number_ways, ok_Term_ways T, T.b_Term_ways⟩
  | _, _, .inr (.inl ⟨rfl, rfl⟩) => ⟨T.cl_Edge, _, _, T.mt_Edge_ways, ok_Term_ways T, T.b_Term_ways⟩
  | _, _, .inr (.inr (.inl ⟨rfl, rfl⟩)) => ⟨T.cl_Times, _, _, T.mt_Times_ways, ok_Term_ways T, T.b_Term_ways⟩
  | _, _, .inr (.inr (.inr (.inl ⟨rfl, rfl⟩))) => ⟨T.cl_Plus, _, _, T.mt_Plus_ways, ok_Term_ways T, T.b_Term_ways⟩
  | _, _, .inr (.inr (.inr (.inr ⟨rfl, rfl⟩))) => ⟨T.cl_Minus, _, _, T.mt_Minus_ways, ok_Term_ways T, T.b_Term_ways⟩
theorem srt_mem (ks : List Str) (x : Str) : x ∈ srt ks ↔ x ∈ ks := (Classical.epsilon_spec (srt_ex ks)).1.mem_iff
theorem wys_mem {t : Tm} {x : Str} : x ∈ wys t ↔ ∃ e ∈ edg t, wayS e.1 = x := by
  unfold wys
  rw [srt_mem, (once_nodup _).2, List.mem_map]
theorem wys_len (t : Tm) : (wys t).length ≤ (edg t).length := by
  unfold wys
  rw [srt_len]
  exact Nat.le_trans (once_len _) (by rw [List.length_map]; exact Nat.le_refl _)
/-- words of both ways -/
def mixd (a b : Tm) : Prop := 1 < (once (wys a ++ wys b)).length
noncomputable instance (a b : Tm) : Decidable (mixd a b) := inferInstanceAs (Decidable (1 < _))
noncomputable def wayW (t : Tm × Tm) : Str := if ("down" : Str) ∈ wys t.1 ++ wys t.2 then "down" else "across"
noncomputable def dueS (a b : Tm) : Str := if mixd a b then "mixed" else wayW (a, b)
/-- the three kinds of wishes -/
def DW (T : Tx K mg) (C : Addr) (g : Nat) : Prop := g = 0 ∧ (C = T.c_Just ∨ C = T.c_AtLeast ∨ C = T.c_AtMost)
theorem DW.cl {T : Tx K mg} {C : Addr} {g : Nat} (h : DW T C g) : Cls K C := by
  rcases h.2 with rfl | rfl | rfl
  · exact T.cl_Just
  · exact T.cl_AtLeast
  · exact T.cl_AtMost
theorem DW.near {T : Tx K mg} {C : Addr} {g : Nat} (h : DW T C g) : NoAttr K C "near" := by
  rcases h.2 with rfl | rfl | rfl
  · exact T.nf_Just_near
  · exact T.nf_AtLeast_near
  · exact T.nf_AtMost_near
theorem DW.far {T : Tx K mg} {C : Addr} {g : Nat} (h : DW T C g) : NoAttr K C "far" := by
  rcases h.2 with rfl | rfl | rfl
  · exact T.nf_Just_far
  · exact T.nf_AtLeast_far
  · exact T.nf_AtMost_far
def rW (T : Tx K mg) : Rep (Tm × Tm) := fun F v t => ∃ x C dx vn vf vr vw, v = .ref x ∧ Rd F x (.ins C dx [("near", vn), ("far", vf), ("rank", vr), ("weight", vw)]) ∧ DW T C 0 ∧ rT T F vn t.1 ∧ rT T F vf t.2
instance {T : Tx K mg} : Mo (rW T) := ⟨fun {F F' v t} le ⟨x, C, dx, vn, vf, vr, vw, e, h, d, r, s⟩ => ⟨x, C, dx, vn, vf, vr, vw, e, leI le h, d, tmAt_mo le _ _ r, tmAt_mo le _ _ s⟩⟩
theorem fld_near {T : Tx K mg} {F : Hp} {v : V} {t : Tm × Tm} (h : rW T F v t) : ∃ x C dx fs u, v = .ref x ∧ Rd F x (.ins C dx fs) ∧ Cls K C ∧ NoAttr K C "near" ∧ fs.lookup ("near" : Str) = some u ∧ rT T F u t.1 := by
  obtain ⟨x, C, dx, vn, vf, vr, vw, e, h, d, r, s⟩ := h
  exact ⟨x, C, dx, _, vn, e, h, d.cl, d.near, rfl, r⟩
theorem fld_far {T : Tx K mg} {F : Hp} {v : V} {t : Tm × Tm} (h : rW T F v t) : ∃ x C dx fs u, v = .ref x ∧ Rd F x (.ins C dx fs) ∧ Cls K C ∧ NoAttr K C "far" ∧ fs.lookup ("far" : Str) = some u ∧ rT T F u t.2 := by
  obtain ⟨x, C, dx, vn, vf, vr, vw, e, h, d, r, s⟩ := h
  exact ⟨x, C, dx, _, vf, e, h, d.cl, d.far, rfl, s⟩
theorem cls_y {T : Tx K mg} {F : Hp} {v : V} {t : Tm × Tm} (h : rW T F v t) : ∃ x C dx fs, v = .ref x ∧ Rd F x (.ins C dx fs) ∧ DW T C 0 ∧ fs.lookup ("way" : Str) = none := by
  obtain ⟨x, C, dx, vn, vf, vr, vw, e, h, d, r, s⟩ := h
  exact ⟨x, C, dx, _, e, h, d, rfl⟩
/-- __init__ of a wish: it may raise; a new instance gets its four fields -/
def spI4 (T : Tx K mg) (C : Addr) : Sp := fun vs H Q E => ∃ (F : Hp) (x dx : Addr) (vn vf vr vw : V) (a b : Tm), vs = [.ref x, vn, vf, vr, vw] ∧ H x = some (.ins C dx []) ∧ Same F H ∧ rT T F vn a ∧ rT T F vf b ∧ (a.dep ≤ 11 ∧ (edg a).length ≤ 30 ∧ b.dep ≤ 11 ∧ (edg b).length ≤ 30) ∧
  (∀ F' H', Gr F H F' H' → mixd a b → E (.ref T.c_Mixed) none H') ∧ ∀ F' H', Gr F H F' H' → ¬ mixd a b → Q .non (upd H' x (.ins C dx [("near", vn), ("far", vf), ("rank", vr), ("weight", vw)]))
theorem put3 {f g h : Str} {v u z : V} (n1 : ¬ f = h) (n2 : ¬ g = h) : putF h z [(f, v), (g, u)] = [(f, v), (g, u), (h, z)] := by
  simp only [putF, if_neg n1, if_neg n2]
theorem put4 {f g h i : Str} {v u z y : V} (n1 : ¬ f = i) (n2 : ¬ g = i) (n3 : ¬ h = i) : putF i y [(f, v), (g, u), (h, z)] = [(f, v), (g, u), (h, z), (i, y)] := by
  simp only [putF, if_neg n1, if_neg n2, if_neg n3]
theorem ok_wish (T : Tx K mg) {C : Addr} (cl : Cls K C) (c1 : NoAttr K C "near") (c2 : NoAttr K C "far") (c3 : NoAttr K C "rank") (c4 : NoAttr K C "weight") :
    FnOk P w K mg base (CX1 P w) 15 T.a_Wish___init__ T.d_Wish___init__ ["self", "near", "far", "rank", "weight"] (spI4 T C) := by
  refine T.F_Wish___init__.ok1 sc_Wish___init__ (fun vs H Q E h => ?_) (fun cdv A outer s H vs Q E hr h => ?_)
  · obtain ⟨F, x, dx, vn, vf, vr, vw, a, b, rfl, _⟩ := h
    rfl
  · obtain ⟨F, x, dx, vn, vf, vr, vw, a, b, rfl, hx, wd, ha, hb, ⟨d1, l1, d2, l2⟩, kx, k⟩ := h
    have hu := hu_of hr
    obtain ⟨x1, C1, dx1, fs1, ev1, rd1, dd1, hl1⟩ := cls_w ha
    obtain ⟨x2, C2, dx2, fs2, ev2, rd2, dd2, hl2⟩ := cls_w hb
    have ln : (wys a ++ wys b).length ≤ 60 := by rw [List.length_append]; have := wys_len a; have := wys_len b; omega
    have lo : (once (wys a ++ wys b)).length ≤ 60 := Nat.le_trans (once_len _) ln
    refine ⟨_, pss_cons (ps_if (pt_cmpR op_gt (pe_callB (show CallR _ _ (rLenS P w) from call_lenS) rfl T.z_len rfl (pa_cons (pe_callTy (show CallR _ _ (rSetX P w K) from call_setX rfl) rfl T.z_set rfl
      (pa_cons (pe_op op_catS (pe_methD (pv 1) (fun C g h => (ways_ok T C g h).mono (by decide)) hr pass0) (pe_methD (pv 2) (fun C g h => (ways_ok T C g h).mono (by decide)) hr pass0)) pa_nil)) pa_nil)) pe_int (nomark _))
      (pss_one (ps_raise rfl rfl rfl rfl rfl rfl T.m_Mixed PySem.F.excBase_ValueError T.q_Mixed pe_str)) pss_nil)
      (pss_cons (ps_fld (pv 0) (pv 1) rfl) (pss_cons (ps_fld (pv 0) (pv 2) rfl) (pss_cons (ps_fld (pv 0) (pv 3) rfl) (pss_one (ps_fld (pv 0) (pv 4) rfl))))), ?_⟩
    refine a_seq (a_if (a_test (a_op (a_cb (a_cons (a_cb (a_cons (a_op ?_))))))))
    refine ⟨_, rfl, _, C1, dx1, fs1, _, ev1, wd.rd rd1, dd1, hl1, F, vn, a, rfl, wd, ha, ⟨d1, l1⟩, fun v1 F1 H1 g1 o1 => ?_⟩
    refine ⟨_, rfl, _, C2, dx2, fs2, _, ev2, g1.s.rd (leI g1.le rd2), dd2, hl2, F1, vf, b, rfl, g1.s, tmAt_mo g1.le b _ hb, ⟨d2, l2⟩, fun v2 F2 H2 g2 o2 => ?_⟩
    obtain ⟨p1, u1, rfl, n1, h1, f1, al1⟩ := o1
    obtain ⟨p2, u2, rfl, n2, h2, f2, al2'⟩ := o2
    have al1' := Al.mo g2.le al1
    have al12 := Al.app al1' al2'
    refine ⟨p1, p2, u1, u2, rfl, rfl, SqL.of (g2.h _ _ h1), SqL.of h2, Nat.le_trans (show _ ≤ 60 by rw [← List.length_append, Al.length al12]; exact ln) (by decide), fun p hp => ?_⟩
    obtain ⟨F3, g3, e3⟩ := al2 (o := .lst (u1 ++ u2)) g2.s (by intro _ _ z; cases z) hp
    generalize upd H2 p (.lst (u1 ++ u2)) = H3 at g3 ⊢
    refine a_nil ?_
    refine a_setT (SqL.of (g3.s _ _ e3)) (Al.mo g3.le al12) (by omega) fun q hq => ?_
    obtain ⟨F4, g4, e4⟩ := al2 (o := SetC P w q ((once (wys a ++ wys b)).map Sum.inr)) g3.s (by intro _ _ z; unfold SetC at z; cases z) hq
    generalize upd H3 q (SetC P w q ((once (wys a ++ wys b)).map Sum.inr)) = H4 at g4 ⊢
    refine a_nil ?_
    refine a_lenS (g4.s _ _ e4) (by omega) ?_
    refine a_c (a_I0 (a_bl ?_))
    have gg := Gr.trans (Gr.trans g1 g2) (Gr.trans g3 g4)
    refine iteD (fun c => ?_) (fun c => ?_)
    · refine a_raise (a_c ?_)
      exact kx _ _ gg (by unfold mixd; omega)
    · refine a_next ?_
      have hx4 := gg.h _ _ hx
      refine ⟨_, rfl, _, rfl, x, _, dx, [], rfl, hx4, cl, c1, (by decide), ?_⟩
      refine ⟨_, rfl, _, rfl, x, _, dx, [("near", vn)], rfl, upd_same, cl, c2, (by show 1 < 1000; decide), ?_⟩
      rw [upd_upd, put2 (by decide +kernel)]
      refine ⟨_, rfl, _, rfl, x, _, dx, [("near", vn), ("far", vf)], rfl, upd_same, cl, c3, (by show 2 < 1000; decide), ?_⟩
      rw [upd_upd, put3 (by decide +kernel) (by decide +kernel)]
      refine ⟨_, rfl, _, rfl, x, _, dx, [("near", vn), ("far", vf), ("rank", vr)], rfl, upd_same, cl, c4, (by show 3 < 1000; decide), ?_⟩
      rw [upd_upd, put4 (by decide +kernel) (by decide +kernel) (by decide +kernel)]
      exact k _ _ gg (by unfold mixd; omega)
theorem ok_Just (T : Tx K mg) : FnOk P w K mg base (CX1 P w) 15 T.a_Wish___init__ T.d_Wish___init__ ["self", "near", "far", "rank", "weight"] (spI4 T T.c_Just) := ok_wish T T.cl_Just T.nf_Just_near T.nf_Just_far T.nf_Just_rank T.nf_Just_weight
theorem ok_AtLeast (T : Tx K mg) : FnOk P w K mg base (CX1 P w) 15 T.a_Wish___init__ T.d_Wish___init__ ["self", "near", "far", "rank", "weight"] (spI4 T T.c_AtLeast) := ok_wish T T.cl_AtLeast T.nf_AtLeast_near T.nf_AtLeast_far T.nf_AtLeast_rank T.nf_AtLeast_weight
theorem ok_AtMost (T : Tx K mg) : FnOk P w K mg base (CX1 P w) 15 T.a_Wish___init__ T.d_Wish___init__ ["self", "near", "far", "rank", "weight"] (spI4 T T.c_AtMost) := ok_wish T T.cl_AtMost T.nf_AtMost_near T.nf_AtMost_far T.nf_AtMost_rank T.nf_AtMost_weight
theorem pick_ok {t f z : Tm} {y : Str} {ws : List Str} {i j : Nat} (f1 : f.dep = 0) (f2 : (edg f).map (·.1) = (if y = "" then [] else [y])) (hp : ([Tm.plus t f, Tm.minus f t, Tm.times (Rat.divInt 2 3) (Tm.plus f t), Tm.plus f t] : List Tm)[j]? = some z)
    (q1 : t.dep ≤ 2 * i) (q2 : (edg t).length ≤ i) (g1 : ws.length ≤ i + 1) (g2 : ∀ x, (x ∈ (edg t).map (·.1) ∨ x ∈ (edg f).map (·.1)) ↔ x ∈ ws) :
    z.dep ≤ 2 * (i + 1) ∧ (edg z).length ≤ i + 1 ∧ ws.length ≤ i + 1 ∧ ∀ x, x ∈ (edg z).map (·.1) ↔ x ∈ ws := by
  have lf : (edg f).length ≤ 1 := by
    have e : (edg f).length = (if y = "" then ([] : List Str) else [y]).length := by rw [← f2, List.length_map]
    rw [e]
    split
    · exact Nat.zero_le _
    · exact Nat.le_refl _
  have m := List.mem_of_getElem? hp
  simp only [List.mem_cons, List.not_mem_nil, or_false] at m
  rcases m with rfl | rfl | rfl | rfl
  · refine ⟨by simp only [Tm.dep]; omega, by simp only [edg, List.length_append]; omega, g1, fun x => ?_⟩
    rw [← g2 x]; simp only [edg, List.map_append, List.mem_append]
  · refine ⟨by simp only [Tm.dep]; omega, by simp only [edg, List.length_append]; omega, g1, fun x => ?_⟩
    rw [← g2 x]; simp only [edg, List.map_append, List.mem_append]; exact Or.comm
  · refine ⟨by simp only [Tm.dep]; omega, by simp only [edg, List.length_append]; omega, g1, fun x => ?_⟩
    rw [← g2 x]; simp only [edg, List.map_append, List.mem_append]; exact Or.comm
  · refine ⟨by simp only [Tm.dep]; omega, by simp only [edg, List.length_append]; omega, g1, fun x => ?_⟩
    rw [← g2 x]; simp only [edg, List.map_append, List.mem_append]; exact Or.comm
def sp_Wish_way (T : Tx K mg) : Sp := fun vs H Q _ => Ex3 fun (F : Hp) (v_self : V) (self : (Tm × Tm)) => Cj5 (vs = [v_self]) (Same F H) ((rW T) F v_self self) (self.1.dep ≤ 11 ∧ (edg self.1).length ≤ 30 ∧ self.2.dep ≤ 11 ∧ (edg self.2).length ≤ 30) (∀ (v : V) (F' H' : Hp), Gr F H F' H' → rS F' v (wayW self) → Q v H')
set_option linter.unusedVariables false in
theorem ok_Wish_way (T : Tx K mg) : FnOk P w K mg base CX0 15 T.a_Wish_way T.d_Wish_way ["self"] (sp_Wish_way T) := by
  refine T.F_Wish_way.ok sc_Wish_way (fun vs H Q E h => ?_) (fun cdv A outer s H vs Q E hr h => ?_)
  · obtain ⟨F, v_self, self, rfl, _⟩ := h
    rfl
  · obtain ⟨F, v_self, self, rfl, wd, r_self, hpre, k⟩ := h
    have hu := hu_of hr
    have gb := Gr0.refl wd
    have cm := Fz.refl F
    obtain ⟨d1, l1, d2, l2⟩ := hpre
    refine ⟨_, (pss_one (ps_ret (pe_ifExp (pt_cmpR op_in_seq pe_str (pe_op op_catS (pe_methD (pe_fldR (pv 0) rfl) (fun C g h => (ways_ok T C g h).mono (by decide)) hr pass0) (pe_methD (pe_fldR (pv 0) rfl) (fun C g h => (ways_ok T C g h).mono (by decide)) hr pass0)) (by with_unfolding_all rfl)) pe_str pe_str))), ?_⟩
    refine a_ret ?_
    refine a_ifE ?_
    refine a_test ?_
    refine a_op ?_
    refine a_c ?_
    have ln1 : ("down" : Str).length = 4 := by decide +kernel
    refine a_op ?_
    refine a_methD ?_
    refine a_fldR ?_
    refine a_var rfl ?_
    obtain ⟨_, _, _, _, v2, ev3, rd4, cl5, na6, lk7, h8⟩ := fld_near r_self
    refine ⟨_, _, _, _, _, ev3, gb.s.rd rd4, cl5, na6, lk7, ?_⟩
    obtain ⟨_, _, _, _, ev9, rd10, dd11, hl12⟩ := cls_w h8
    refine ⟨_, _, _, _, _, ev9, gb.s.rd rd10, dd11, hl12, ?_⟩
    refine ⟨F, _, self.1, rfl, gb.s, h8, (by exact ⟨d1, l1⟩), ?_⟩
    rintro v13 F14 H15  g17 hr18 
    obtain ⟨p20, vs21, rfl, hn22, oH23, oF24, al25⟩ := hr18
    have hb26 := gb.h.free hn22
    have gb27 := gb.tr g17
    have le28 := g17.le
    have cm29 := g17.fz cm
    refine a_methD ?_
    refine a_fldR ?_
    refine a_var rfl ?_
    obtain ⟨_, _, _, _, v30, ev31, rd32, cl33, na34, lk35, h36⟩ := fld_far (Mo.mo le28 r_self)
    refine ⟨_, _, _, _, _, ev31, gb27.s.rd rd32, cl33, na34, lk35, ?_⟩
    obtain ⟨_, _, _, _, ev37, rd38, dd39, hl40⟩ := cls_w h36
    refine ⟨_, _, _, _, _, ev37, gb27.s.rd rd38, dd39, hl40, ?_⟩
    refine ⟨F14, _, self.2, rfl, gb27.s, h36, (by exact ⟨d2, l2⟩), ?_⟩
    rintro v41 F42 H43  g45 hr46 
    obtain ⟨p48, vs49, rfl, hn50, oH51, oF52, al53⟩ := hr46
    have hb54 := gb27.h.free hn50
    have ne55 := ne_of_none oH23 hn50
    have gb56 := gb27.tr g45
    have le57 := g45.le
    have oH58 := g45.h _ _ oH23
    have oF59 := g45.own oF24 oH23
    have cm60 := g45.fz cm29
    have al61 := (Al.mo le57 al25)
    have al62 := al53
    refine ⟨_, _, _, _, rfl, rfl, (SqL.of oH58), (SqL.of oH51), (Nat.le_trans (show _ ≤ 100000 by rw [Al.length al61, Al.length al62]; have := wys_len self.1; have := wys_len self.2; omega) (by decide)), fun p63 hp64 => ?_⟩
    obtain ⟨F65, g67, e68⟩ := al2 (o := (.lst (vs21 ++ vs49))) gb56.s (by intro _ _ z; cases z) hp64
    generalize upd H43 p63 (.lst (vs21 ++ vs49)) = H66 at g67 ⊢
    have gb69 := gb56.tr g67
    have le70 := g67.le
    have oH71 := g67.h _ _ oH58
    have oF72 := g67.own oF59 oH58
    have oH73 := g67.h _ _ oH51
    have oF74 := g67.own oF52 oH51
    have cm75 := g67.fz cm60
    have al76 := Al.mo le70 (Al.app al61 al62)
    refine a_inS (Same.seq gb69.s (SqL.of e68)) al76 ?_
    refine a_bl ?_
    refine iteD (fun c77 => ?_) (fun c77 => ?_)
    · refine a_c ?_
      have ln78 : ("down" : Str).length = 4 := by decide +kernel
      have hval : (("down" : Str) : Str) = (wayW self) := by unfold wayW; first | (rw [if_pos (by assumption)]; done) | (rw [if_neg (by assumption)]; done)
      have rp79 : rS F65 (V.str ("down" : Str)) (("down" : Str)) := rfl
      replace rp79 := Eq.mp (congrArg (rS F65 (V.str ("down" : Str))) hval) rp79
      exact k _ _ _ (Gr.of gb69 cm75) rp79
    · refine a_c ?_
      have ln80 : ("across" : Str).length = 6 := by decide +kernel
      have hval : (("across" : Str) : Str) = (wayW self) := by unfold wayW; first | (rw [if_pos (by assumption)]; done) | (rw [if_neg (by assumption)]; done)
      have rp81 : rS F65 (V.str ("across" : Str)) (("across" : Str)) := rfl
      replace rp81 := Eq.mp (congrArg (rS F65 (V.str ("across" : Str))) hval) rp81
      exact k _ _ _ (Gr.of gb69 cm75) rp81
theorem way_ok (T : Tx K mg) : ∀ (C : Addr) (g : Nat), DW T C g → MOk P w K mg base CX0 15 "way" C ((fun _ => sp_Wish_way T) g)
  | _, _, ⟨_, .inl rfl⟩ => ⟨T.cl_Just, _, _, T.mt_Just_way, ok_Wish_way T, T.b_Wish_way⟩
  | _, _, ⟨_, .inr (.inl rfl)⟩ => ⟨T.cl_AtLeast, _, _, T.mt_AtLeast_way, ok_Wish_way T, T.b_Wish_way⟩
  | _, _, ⟨_, .inr (.inr rfl)⟩ => ⟨T.cl_AtMost, _, _, T.mt_AtMost_way, ok_Wish_way T, T.b_Wish_way⟩
def sp_law_leaf (T : Tx K mg) : Sp := fun vs H Q _ => Ex5 fun (F : Hp) (v_cell : V) (v_way : V) (cell : Int) (way : Int) => Cj6 (vs = [v_cell, v_way]) (Same F H) (rI F v_cell cell) (rI F v_way way) (0 ≤ way ∧ way ≤ 2) (∀ (v : V) (F' H' : Hp) (r : (Tm × Str)), Gr F H F' H' → (r2 K (rT T) rS) F' v r → (r.1.dep = 0 ∧ (edg r.1).map (·.1) = (if r.2 = "" then [] else [r.2])) → Q v H')
set_option linter.unusedVariables false in
theorem ok_law_leaf (T : Tx K mg) : FnOk P w K mg base CX0 3 T.a_law_leaf T.d_law_leaf ["_law_cell", "_law_way"] (sp_law_leaf T) := by
  refine T.F_law_leaf.ok sc_law_leaf (fun vs H Q E h => ?_) (fun cdv A outer s H vs Q E hr h => ?_)
  · obtain ⟨F, v_cell, v_way, cell, way, rfl, _⟩ := h
    rfl
  · obtain ⟨F, v_cell, v_way, cell, way, rfl, wd, r_cell, r_way, hpre, k⟩ := h
    have hu := hu_of hr
    have gb := Gr0.refl wd
    have cm := Fz.refl F
    obtain rfl : v_cell = V.int cell := r_cell
    obtain rfl : v_way = V.int way := r_way
    obtain ⟨w1, w2⟩ := hpre
    refine ⟨_, (@pss_cons _ _ _ _ _ (ps_set (i := 2) sc_law_leaf.nd rfl (Or.inl rfl) (pe_lst (pa_cons (pe_lst (pa_cons pe_str (pa_cons pe_str (pa_cons pe_str (pa_cons pe_str (pa_cons pe_str pa_nil)))))) (pa_cons (pe_lst (pa_cons pe_str (pa_cons pe_str (pa_cons pe_str (pa_cons pe_str (pa_cons pe_str pa_nil)))))) pa_nil))))
          (@pss_cons _ _ _ _ _ (ps_if (PW.pt (pw_or (pt_cmpR op_eq (pv 1) pe_int (nomark _)) (pw_or1 (pt_cmpR op_eq (pe_op op_mod (pv 0) pe_int) pe_int (nomark _))))) (pss_one (ps_ret (pe_tup (pa_cons (pe_make T.mk_Number ((ok_Number___init__ T).mono (by decide)) hr rfl T.m_Number T.b_Number___init__ .nil pass0 (pa_cons (pe_tup (pa_cons (pe_op op_mod (pe_op op_fdiv (pv 0) pe_int) pe_int) (pa_cons pe_int pa_nil))) pa_nil)) (pa_cons pe_str pa_nil))))) pss_nil)
          (@pss_cons _ _ _ _ _ (ps_set (i := 3) sc_law_leaf.nd rfl (Or.inl rfl) (pe_ix ix_list (pe_ix ix_list (pv 2) (pv 1) (fun _ _ => rfl)) (pe_op op_mod (pe_op op_fdiv (pv 0) pe_int) pe_int) (fun _ _ => rfl)))
          (pss_one (ps_ret (pe_tup (pa_cons (pe_make T.mk_Edge ((ok_Edge___init__ T).mono (by decide)) hr rfl T.m_Edge T.b_Edge___init__ .nil pass0 (pa_cons (pv 3) (pa_cons (pe_ix ix_list (pe_lst (pa_cons pe_str (pa_cons pe_str (pa_cons pe_str pa_nil)))) (pe_op op_mod (pe_op op_fdiv (pv 0) pe_int) pe_int) (fun _ _ => rfl)) pa_nil))) (pa_cons (pv 3) pa_nil)))))))), ?_⟩
    refine a_seq ?_
    refine a_asg ?_
    refine a_lst ?_
    refine a_cons ?_
    refine a_lst ?_
    refine a_cons ?_
    refine a_c ?_
    have ln1 : ("left" : Str).length = 4 := by decide +kernel
    refine a_cons ?_
    refine a_c ?_
    have ln2 : ("width" : Str).length = 5 := by decide +kernel
    refine a_cons ?_
    refine a_c ?_
    have ln3 : ("right" : Str).length = 5 := by decide +kernel
    refine a_cons ?_
    refine a_c ?_
    have ln4 : ("middle" : Str).length = 6 := by decide +kernel
    refine a_cons ?_
    refine a_c ?_
    have ln5 : ("gap" : Str).length = 3 := by decide +kernel
    refine a_nil ?_
    refine ⟨by show 5 ≤ sizeLine; decide, fun p6 hp7 => ?_⟩
    obtain ⟨F8, g10, e11⟩ := al2 (o := (.lst [V.str ("left" : Str), V.str ("width" : Str), V.str ("right" : Str), V.str ("middle" : Str), V.str ("gap" : Str)])) gb.s (by intro _ _ z; cases z) hp7
    generalize upd H p6 (.lst [V.str ("left" : Str), V.str ("width" : Str), V.str ("right" : Str), V.str ("middle" : Str), V.str ("gap" : Str)]) = H9 at g10 ⊢
    have gb12 := gb.tr g10
    have le13 := g10.le
    have cm14 := g10.fz cm
    have al15 : Al rS F8 [.str ("left" : Str), .str ("width" : Str), .str ("right" : Str), .str ("middle" : Str), .str ("gap" : Str)] [("left" : Str), ("width" : Str), ("right" : Str), ("middle" : Str), ("gap" : Str)] := ⟨rfl, ⟨rfl, ⟨rfl, ⟨rfl, ⟨rfl, True.intro⟩⟩⟩⟩⟩
    refine a_cons ?_
    refine a_lst ?_
    refine a_cons ?_
    refine a_c ?_
    have ln16 : ("top" : Str).length = 3 := by decide +kernel
    refine a_cons ?_
    refine a_c ?_
    have ln17 : ("height" : Str).length = 6 := by decide +kernel
    refine a_cons ?_
    refine a_c ?_
    have ln18 : ("bottom" : Str).length = 6 := by decide +kernel
    refine a_cons ?_
    refine a_c ?_
    have ln19 : ("centre" : Str).length = 6 := by decide +kernel
    refine a_cons ?_
    refine a_c ?_
    have ln20 : ("drop" : Str).length = 4 := by decide +kernel
    refine a_nil ?_
    refine ⟨by show 5 ≤ sizeLine; decide, fun p21 hp22 => ?_⟩
    obtain ⟨F23, g25, e26⟩ := al2 (o := (.lst [V.str ("top" : Str), V.str ("height" : Str), V.str ("bottom" : Str), V.str ("centre" : Str), V.str ("drop" : Str)])) gb12.s (by intro _ _ z; cases z) hp22
    generalize upd H9 p21 (.lst [V.str ("top" : Str), V.str ("height" : Str), V.str ("bottom" : Str), V.str ("centre" : Str), V.str ("drop" : Str)]) = H24 at g25 ⊢
    have gb27 := gb12.tr g25
    have le28 := g25.le
    have cm29 := g25.fz cm14
    have al30 : Al rS F23 [.str ("top" : Str), .str ("height" : Str), .str ("bottom" : Str), .str ("centre" : Str), .str ("drop" : Str)] [("top" : Str), ("height" : Str), ("bottom" : Str), ("centre" : Str), ("drop" : Str)] := ⟨rfl, ⟨rfl, ⟨rfl, ⟨rfl, ⟨rfl, True.intro⟩⟩⟩⟩⟩
    refine a_nil ?_
    refine ⟨by show 2 ≤ sizeLine; decide, fun p31 hp32 => ?_⟩
    obtain ⟨F33, g35, e36⟩ := al2 (o := (.lst [V.ref p6, V.ref p21])) gb27.s (by intro _ _ z; cases z) hp32
    generalize upd H24 p31 (.lst [V.ref p6, V.ref p21]) = H34 at g35 ⊢
    have gb37 := gb27.tr g35
    have le38 := g35.le
    have cm39 := g35.fz cm29
    have al40 : Al (rL K rS) F33 [.ref p6, .ref p21] [[("left" : Str), ("width" : Str), ("right" : Str), ("middle" : Str), ("gap" : Str)], [("top" : Str), ("height" : Str), ("bottom" : Str), ("centre" : Str), ("drop" : Str)]] := ⟨⟨_, _, rfl, (Le.lst (le28.trans le38) (SqL.of e11)), (Al.mo (le28.trans le38) al15)⟩, ⟨⟨_, _, rfl, (Le.lst le38 (SqL.of e26)), (Al.mo le38 al30)⟩, True.intro⟩⟩
    refine a_name ?_
    try dsimp only
    refine a_seq ?_
    refine a_if ?_
    refine a_or ?_
    refine a_test ?_
    refine a_op ?_
    refine a_var rfl ?_
    refine a_c ?_
    refine a_eqI ?_
    refine a_bl ?_
    refine iteD (fun c41 => ?_) (fun c41 => ?_)
    · refine iteT ?_
      refine a_ret ?_
      refine a_tup ?_
      refine a_cons ?_
      refine a_make ?_
      refine a_cons ?_
      refine a_tup ?_
      refine a_cons ?_
      refine a_op ?_
      refine a_op ?_
      refine a_var rfl ?_
      refine a_c ?_
      refine a_I ⟨by decide, by decide⟩ ?_
      refine a_c ?_
      refine a_I (by decide) ?_
      have m42 : 0 ≤ ((cell / 4) % 1000) ∧ ((cell / 4) % 1000) < 1000 := ⟨Int.emod_nonneg _ (by decide), Int.emod_lt_of_pos _ (by decide)⟩
      refine a_cons ?_
      refine a_c ?_
      refine a_nil ?_
      refine ⟨by show 2 ≤ sizeLine; decide, fun p43 hp44 => ?_⟩
      obtain ⟨F45, g47, e48⟩ := al2 (o := (.tup [V.int ((cell / 4) % 1000), V.int 1])) gb37.s (by intro _ _ z; cases z) hp44
      generalize upd H34 p43 (.tup [V.int ((cell / 4) % 1000), V.int 1]) = H46 at g47 ⊢
      have gb49 := gb37.tr g47
      have le50 := g47.le
      have cm51 := g47.fz cm39
      have sq52 : SqT K F45 p43 (fr ((((cell / 4) % 1000) : Int) : Rat)) := by rw [fr_int]; exact SqT.of e48
      refine a_nil ?_
      intro x53 dx54 hx55 hd56 ne57
      refine ⟨x53, dx54, _, rfl, upd_same, rfl, ?_⟩
      obtain ⟨F58, g60, e61⟩ := mk_al (C := T.c_Number) (fs := [(("number" : Str), V.ref p43)]) gb49.s hx55 hd56 ne57
      generalize upd (upd (upd H46 dx54 (.own x53)) x53 (.ins T.c_Number dx54 [])) x53 (.ins T.c_Number dx54 [(("number" : Str), V.ref p43)]) = H59 at g60 ⊢
      have gb63 := gb49.tr g60
      have le64 := g60.le
      have cm65 := g60.fz cm51
      have hT62 : rT T F58 (V.ref x53) (Tm.num (((((cell / 4) % 1000) : Int) : Rat))) := ⟨x53, dx54, _, rfl, .inl e61, ⟨_, rfl, (Le.tup le64 sq52)⟩⟩
      refine a_cons ?_
      refine a_c ?_
      have ln66 : ("" : Str).length = 0 := by decide +kernel
      refine a_nil ?_
      refine ⟨by show 2 ≤ sizeLine; decide, fun p67 hp68 => ?_⟩
      obtain ⟨F69, g71, e72⟩ := al2 (o := (.tup [V.ref x53, V.str ("" : Str)])) gb63.s (by intro _ _ z; cases z) hp68
      generalize upd H59 p67 (.tup [V.ref x53, V.str ("" : Str)]) = H70 at g71 ⊢
      have gb73 := gb63.tr g71
      have le74 := g71.le
      have cm75 := g71.fz cm65
      exact k _ _ _ (((Tm.num (((((cell / 4) % 1000) : Int) : Rat))), ("" : Str))) (Gr.of gb73 cm75) (⟨_, _, _, rfl, (SqT.of e72), (Mo.mo le74 hT62), rfl⟩) (by exact ⟨rfl, by rw [if_pos rfl]; rfl⟩)
    · refine a_test ?_
      refine a_op ?_
      refine a_op ?_
      refine a_var rfl ?_
      refine a_c ?_
      refine a_I (by decide) ?_
      have m76 : 0 ≤ (cell % 4) ∧ (cell % 4) < 4 := ⟨Int.emod_nonneg _ (by decide), Int.emod_lt_of_pos _ (by decide)⟩
      refine a_c ?_
      refine a_eqI ?_
      refine a_bl ?_
      refine iteD (fun c77 => ?_) (fun c77 => ?_)
      · refine a_ret ?_
        refine a_tup ?_
        refine a_cons ?_
        refine a_make ?_
        refine a_cons ?_
        refine a_tup ?_
        refine a_cons ?_
        refine a_op ?_
        refine a_op ?_
        refine a_var rfl ?_
        refine a_c ?_
        refine a_I ⟨by decide, by decide⟩ ?_
        refine a_c ?_
        refine a_I (by decide) ?_
        have m78 : 0 ≤ ((cell / 4) % 1000) ∧ ((cell / 4) % 1000) < 1000 := ⟨Int.emod_nonneg _ (by decide), Int.emod_lt_of_pos _ (by decide)⟩
        refine a_cons ?_
        refine a_c ?_
        refine a_nil ?_
        refine ⟨by show 2 ≤ sizeLine; decide, fun p79 hp80 => ?_⟩
        obtain ⟨F81, g83, e84⟩ := al2 (o := (.tup [V.int ((cell / 4) % 1000), V.int 1])) gb37.s (by intro _ _ z; cases z) hp80
        generalize upd H34 p79 (.tup [V.int ((cell / 4) % 1000), V.int 1]) = H82 at g83 ⊢
        have gb85 := gb37.tr g83
        have le86 := g83.le
        have cm87 := g83.fz cm39
        have sq88 : SqT K F81 p79 (fr ((((cell / 4) % 1000) : Int) : Rat)) := by rw [fr_int]; exact SqT.of e84
        refine a_nil ?_
        intro x89 dx90 hx91 hd92 ne93
        refine ⟨x89, dx90, _, rfl, upd_same, rfl, ?_⟩
        obtain ⟨F94, g96, e97⟩ := mk_al (C := T.c_Number) (fs := [(("number" : Str), V.ref p79)]) gb85.s hx91 hd92 ne93
        generalize upd (upd (upd H82 dx90 (.own x89)) x89 (.ins T.c_Number dx90 [])) x89 (.ins T.c_Number dx90 [(("number" : Str), V.ref p79)]) = H95 at g96 ⊢
        have gb99 := gb85.tr g96
        have le100 := g96.le
        have cm101 := g96.fz cm87
        have hT98 : rT T F94 (V.ref x89) (Tm.num (((((cell / 4) % 1000) : Int) : Rat))) := ⟨x89, dx90, _, rfl, .inl e97, ⟨_, rfl, (Le.tup le100 sq88)⟩⟩
        refine a_cons ?_
        refine a_c ?_
        have ln102 : ("" : Str).length = 0 := by decide +kernel
        refine a_nil ?_
        refine ⟨by show 2 ≤ sizeLine; decide, fun p103 hp104 => ?_⟩
        obtain ⟨F105, g107, e108⟩ := al2 (o := (.tup [V.ref x89, V.str ("" : Str)])) gb99.s (by intro _ _ z; cases z) hp104
        generalize upd H95 p103 (.tup [V.ref x89, V.str ("" : Str)]) = H106 at g107 ⊢
        have gb109 := gb99.tr g107
        have le110 := g107.le
        have cm111 := g107.fz cm101
        exact k _ _ _ (((Tm.num (((((cell / 4) % 1000) : Int) : Rat))), ("" : Str))) (Gr.of gb109 cm111) (⟨_, _, _, rfl, (SqT.of e108), (Mo.mo le110 hT98), rfl⟩) (by exact ⟨rfl, by rw [if_pos rfl]; rfl⟩)
      · refine a_next ?_
        try dsimp only
        refine a_seq ?_
        refine a_asg ?_
        refine a_op ?_
        refine a_op ?_
        refine a_var rfl ?_
        refine a_var rfl ?_
        obtain ⟨x113, v112, h114, h115, h116⟩ := Al.ix al40 (i := way) (by walk_at "o") (by walk_at "ol")
        refine a_ixL (Same.seq gb37.s (SqL.of e36)) h115 ?_
        have hg1 := h114
        have hg1l := leaf_len h114
        obtain ⟨a117, vs118, rfl, sq119, al120⟩ := h116
        refine a_op ?_
        refine a_op ?_
        refine a_var rfl ?_
        refine a_c ?_
        refine a_I ⟨by decide, by decide⟩ ?_
        refine a_c ?_
        refine a_I (by decide) ?_
        have m121 : 0 ≤ ((cell / 4) % 5) ∧ ((cell / 4) % 5) < 5 := ⟨Int.emod_nonneg _ (by decide), Int.emod_lt_of_pos _ (by decide)⟩
        obtain ⟨x123, v122, h124, h125, h126⟩ := Al.ix al120 (i := ((cell / 4) % 5)) (by walk_at "o") (by walk_at "ol")
        refine a_ixL (Same.seq gb37.s sq119) h125 ?_
        have hg2 := h124
        obtain rfl : v122 = V.str x123 := h126
        refine a_name ?_
        try dsimp only
        refine a_ret ?_
        refine a_tup ?_
        refine a_cons ?_
        refine a_make ?_
        refine a_cons ?_
        refine a_var rfl ?_
        refine a_cons ?_
        refine a_op ?_
        refine a_lst ?_
        refine a_cons ?_
        refine a_c ?_
        have ln127 : ("a" : Str).length = 1 := by decide +kernel
        refine a_cons ?_
        refine a_c ?_
        have ln128 : ("bb" : Str).length = 2 := by decide +kernel
        refine a_cons ?_
        refine a_c ?_
        have ln129 : ("q" : Str).length = 1 := by decide +kernel
        refine a_nil ?_
        refine ⟨by show 3 ≤ sizeLine; decide, fun p130 hp131 => ?_⟩
        obtain ⟨F132, g134, e135⟩ := al2 (o := (.lst [V.str ("a" : Str), V.str ("bb" : Str), V.str ("q" : Str)])) gb37.s (by intro _ _ z; cases z) hp131
        generalize upd H34 p130 (.lst [V.str ("a" : Str), V.str ("bb" : Str), V.str ("q" : Str)]) = H133 at g134 ⊢
        have gb136 := gb37.tr g134
        have le137 := g134.le
        have cm138 := g134.fz cm39
        have al139 : Al rS F132 [.str ("a" : Str), .str ("bb" : Str), .str ("q" : Str)] [("a" : Str), ("bb" : Str), ("q" : Str)] := ⟨rfl, ⟨rfl, ⟨rfl, True.intro⟩⟩⟩
        refine a_op ?_
        refine a_op ?_
        refine a_var rfl ?_
        refine a_c ?_
        refine a_I ⟨by decide, by decide⟩ ?_
        refine a_c ?_
        refine a_I (by decide) ?_
        have m140 : 0 ≤ ((cell / 20) % 3) ∧ ((cell / 20) % 3) < 3 := ⟨Int.emod_nonneg _ (by decide), Int.emod_lt_of_pos _ (by decide)⟩
        obtain ⟨x142, v141, h143, h144, h145⟩ := Al.ix al139 (i := ((cell / 20) % 3)) (by walk_at "o") (by walk_at "ol")
        refine a_ixL (Same.seq gb136.s (SqL.of e135)) h144 ?_
        have h143m := List.mem_of_getElem? h143
        simp only [List.mem_cons, List.not_mem_nil, or_false] at h143m
        have h143l : x142.length ≤ 2 := by rcases h143m with z | z | z <;> (rw [z]; decide +kernel)
        obtain rfl : v141 = V.str x142 := h145
        refine a_nil ?_
        intro x146 dx147 hx148 hd149 ne150
        refine ⟨x146, dx147, _, _, rfl, upd_same, rfl, ?_⟩
        obtain ⟨F151, g153, e154⟩ := mk_al (C := T.c_Edge) (fs := [(("word" : Str), V.str x123), (("name" : Str), V.str x142)]) gb136.s hx148 hd149 ne150
        generalize upd (upd (upd H133 dx147 (.own x146)) x146 (.ins T.c_Edge dx147 [])) x146 (.ins T.c_Edge dx147 [(("word" : Str), V.str x123), (("name" : Str), V.str x142)]) = H152 at g153 ⊢
        have gb156 := gb136.tr g153
        have le157 := g153.le
        have cm158 := g153.fz cm138
        have hT155 : rT T F151 (V.ref x146) (Tm.edge x123 x142) := ⟨x146, dx147, rfl, .inl e154⟩
        refine a_cons ?_
        refine a_var rfl ?_
        refine a_nil ?_
        refine ⟨by show 2 ≤ sizeLine; decide, fun p159 hp160 => ?_⟩
        obtain ⟨F161, g163, e164⟩ := al2 (o := (.tup [V.ref x146, V.str x123])) gb156.s (by intro _ _ z; cases z) hp160
        generalize upd H152 p159 (.tup [V.ref x146, V.str x123]) = H162 at g163 ⊢
        have gb165 := gb156.tr g163
        have le166 := g163.le
        have cm167 := g163.fz cm158
        exact k _ _ _ (((Tm.edge x123 x142), x123)) (Gr.of gb165 cm167) (⟨_, _, _, rfl, (SqT.of e164), (Mo.mo le166 hT155), rfl⟩) (by exact ⟨rfl, by rw [if_neg (leaf_ne hg1 hg2)]; rfl⟩)
def sp_law_term (T : Tx K mg) : Sp := fun vs H Q _ => Ex7 fun (F : Hp) (v_cells : V) (v_way : V) (v_odd : V) (cells : (List Int)) (way : Int) (odd : Int) => Cj7 (vs = [v_cells, v_way, v_odd]) (Same F H) ((rL K rI) F v_cells cells) (rI F v_way way) (rI F v_odd odd) (cells.length ≤ 5 ∧ 0 ≤ way ∧ way ≤ 2) (∀ (v : V) (F' H' : Hp) (r : (Tm × (List Str))), Gr F H F' H' → (r2 K (rT T) (rL K rS)) F' v r → (r.1.dep ≤ 11 ∧ (edg r.1).length ≤ 5 ∧ r.2.length ≤ 5 ∧ ∀ x, x ∈ (edg r.1).map (·.1) ↔ x ∈ r.2) → Q v H')
set_option linter.unusedVariables false in
theorem ok_law_term (T : Tx K mg) : FnOk P w K mg base CX0 5 T.a_law_term T.d_law_term ["_law_cells", "_law_way", "_law_odd"] (sp_law_term T) := by
  refine T.F_law_term.ok sc_law_term (fun vs H Q E h => ?_) (fun cdv A outer s H vs Q E hr h => ?_)
  · obtain ⟨F, v_cells, v_way, v_odd, cells, way, odd, rfl, _⟩ := h
    rfl
  · obtain ⟨F, v_cells, v_way, v_odd, cells, way, odd, rfl, wd, r_cells, r_way, r_odd, hpre, k⟩ := h
    have hu := hu_of hr
    have gb := Gr0.refl wd
    have cm := Fz.refl F
    obtain ⟨a1, vs2, rfl, sq3, al4⟩ := r_cells
    obtain rfl : v_way = V.int way := r_way
    obtain rfl : v_odd = V.int odd := r_odd
    obtain ⟨w1, w2, w3⟩ := hpre
    refine ⟨_, (@pss_cons _ _ _ _ _ (ps_set (i := 3) sc_law_term.nd rfl (Or.inl rfl) (pe_make T.mk_Number ((ok_Number___init__ T).mono (by decide)) hr rfl T.m_Number T.b_Number___init__ .nil pass0 (pa_cons (pe_tup (pa_cons pe_int (pa_cons pe_int pa_nil))) pa_nil)))
          (@pss_cons _ _ _ _ _ (ps_set (i := 4) sc_law_term.nd rfl (Or.inl rfl) (pe_lst pa_nil))
          (@pss_cons _ _ _ _ _ (ps_for PassesOwn.never rfl (pi_enum rfl T.z_enumerate (pa_cons (pv 0) pa_nil)) (pg_tup rfl (pgs_cons (pg_name (i := 5) sc_law_term.nd rfl (Or.inl rfl)) (pgs_cons (pg_name (i := 6) sc_law_term.nd rfl (Or.inl rfl)) pgs_nil))) (@pss_cons _ _ _ _ _ (ps_set (i := 7) sc_law_term.nd rfl (Or.inl rfl) (pv 1))
          (@pss_cons _ _ _ _ _ (ps_if (PW.pt (pw_and (pt_cmpR op_eq (pv 5) (pv 2) (nomark _)) (pw_and1 (pt_cmpR op_lt (pv 1) pe_int (nomark _))))) (pss_one (ps_set (i := 7) sc_law_term.nd rfl (Or.inl rfl) (pe_op op_sub pe_int (pv 1)))) pss_nil)
          (@pss_cons _ _ _ _ _ (ps_asg (pe_call ((ok_law_leaf T).mono (by decide)) hr rfl T.m_law_leaf T.F_law_leaf.kp T.b_law_leaf .nil pass0 (pa_cons (pe_op op_fdiv (pv 6) pe_int) (pa_cons (pv 7) pa_nil))) (pg_tup rfl (pgs_cons (pg_name (i := 8) sc_law_term.nd rfl (Or.inl rfl)) (pgs_cons (pg_name (i := 9) sc_law_term.nd rfl (Or.inl rfl)) pgs_nil))))
          (@pss_cons _ _ _ _ _ (ps_if (pt_cmpR op_ne (pv 9) pe_str (nomark _)) (pss_one (ps_expr (pe_bm PySem.F.plainAttrs_list PySem.F.slot_list_append PySem.F.type_list_append mt_append (pv 4) (pa_cons (pv 9) pa_nil)))) pss_nil)
          (pss_one (ps_set (i := 3) sc_law_term.nd rfl (Or.inl rfl) (pe_ix ix_list (pe_lst (pa_cons (pe_make T.mk_Plus ((ok_Plus___init__ T).mono (by decide)) hr rfl T.m_Plus T.b_Plus___init__ .nil pass0 (pa_cons (pv 3) (pa_cons (pv 8) pa_nil))) (pa_cons (pe_make T.mk_Minus ((ok_Minus___init__ T).mono (by decide)) hr rfl T.m_Minus T.b_Minus___init__ .nil pass0 (pa_cons (pv 8) (pa_cons (pv 3) pa_nil))) (pa_cons (pe_make T.mk_Times ((ok_Times___init__ T).mono (by decide)) hr rfl T.m_Times T.b_Times___init__ .nil pass0 (pa_cons (pe_tup (pa_cons pe_int (pa_cons pe_int pa_nil))) (pa_cons (pe_make T.mk_Plus ((ok_Plus___init__ T).mono (by decide)) hr rfl T.m_Plus T.b_Plus___init__ .nil pass0 (pa_cons (pv 8) (pa_cons (pv 3) pa_nil))) pa_nil))) (pa_cons (pe_make T.mk_Plus ((ok_Plus___init__ T).mono (by decide)) hr rfl T.m_Plus T.b_Plus___init__ .nil pass0 (pa_cons (pv 8) (pa_cons (pv 3) pa_nil))) pa_nil))))) (pe_op op_mod (pv 6) pe_int) (fun _ _ => rfl)))))))))
          (pss_one (ps_ret (pe_tup (pa_cons (pv 3) (pa_cons (pv 4) pa_nil)))))))), ?_⟩
    refine a_seq ?_
    refine a_asg ?_
    refine a_make ?_
    refine a_cons ?_
    refine a_tup ?_
    refine a_cons ?_
    refine a_c ?_
    refine a_cons ?_
    refine a_c ?_
    refine a_nil ?_
    refine ⟨by show 2 ≤ sizeLine; decide, fun p5 hp6 => ?_⟩
    obtain ⟨F7, g9, e10⟩ := al2 (o := (.tup [V.int 3, V.int 1])) gb.s (by intro _ _ z; cases z) hp6
    generalize upd H p5 (.tup [V.int 3, V.int 1]) = H8 at g9 ⊢
    have gb11 := gb.tr g9
    have le12 := g9.le
    have cm13 := g9.fz cm
    have sq14 : SqT K F7 p5 (fr ((3 : Int) : Rat)) := by rw [fr_int]; exact SqT.of e10
    refine a_nil ?_
    intro x15 dx16 hx17 hd18 ne19
    refine ⟨x15, dx16, _, rfl, upd_same, rfl, ?_⟩
    obtain ⟨F20, g22, e23⟩ := mk_al (C := T.c_Number) (fs := [(("number" : Str), V.ref p5)]) gb11.s hx17 hd18 ne19
    generalize upd (upd (upd H8 dx16 (.own x15)) x15 (.ins T.c_Number dx16 [])) x15 (.ins T.c_Number dx16 [(("number" : Str), V.ref p5)]) = H21 at g22 ⊢
    have gb25 := gb11.tr g22
    have le26 := g22.le
    have cm27 := g22.fz cm13
    have hT24 : rT T F20 (V.ref x15) (Tm.num (((3 : Int) : Rat))) := ⟨x15, dx16, _, rfl, .inl e23, ⟨_, rfl, (Le.tup le26 sq14)⟩⟩
    refine a_name ?_
    try dsimp only
    refine a_seq ?_
    refine a_asg ?_
    refine a_lst ?_
    refine a_nil ?_
    refine ⟨by show 0 ≤ sizeLine; decide, fun p28 hp29 => ?_⟩
    obtain ⟨gb31, sm32, hb33, oF34, oH35, ne36⟩ := alo2 (o := (.lst [])) gb25 hp29
    generalize upd H21 p28 (.lst []) = H30 at gb31 sm32 oH35 ⊢
    refine a_name ?_
    try dsimp only
    refine a_seq ?_
    refine a_for ?_
    refine a_ienum ?_
    refine a_cons ?_
    refine a_var rfl ?_
    refine a_nil ?_
    refine ⟨_, rfl, ⟨_, (Same.seq gb31.s (Le.lst (le12.trans le26) sq3))⟩, for_enum (xs := vs2) (K := K) (a := a1) (fun i σ' H' => Ex10 fun (F37 : Hp) (v_term_here38 : V) (term_here38 : Tm) (kv39 : List V) (words40 : List Str) (o41 : Option V) (o42 : Option V) (o43 : Option V) (o44 : Option V) (o45 : Option V) => Cj9 (σ' = [some (V.ref a1), some (V.int way), some (V.int odd), some v_term_here38, some (V.ref p28), o44, o45, o41, o42, o43]) (Gr0 F H F37 H') (Fz (frzd F) F37) (Le F20 F37) ((rT T) F37 v_term_here38 term_here38) (H' p28 = some (.lst kv39)) (F37 p28 = none) (Al rS F37 kv39 words40) ((term_here38.dep ≤ 2 * i ∧ (edg term_here38).length ≤ i ∧ words40.length ≤ i ∧ ∀ x, x ∈ (edg term_here38).map (·.1) ↔ x ∈ words40))) ?_ ?_ ?_ ?_⟩
    · exact ⟨F20, _, (Tm.num (((3 : Int) : Rat))), _, [], _, _, _, _, _, rfl, gb31, cm27, Le.refl _, hT24, oH35, oF34, True.intro, by exact ⟨Nat.le_refl _, Nat.le_refl _, Nat.le_refl _, fun x => Iff.rfl⟩⟩
    · rintro i σ' H46 _ ⟨F47, v_term_here51, term_here51, kv52, m53, o54, o55, o56, o57, o58, rfl, gb48, cm49, le50, hr59, oH60, oF61, dk62, ⟨q1, q2, q3, q4⟩⟩
      exact (Same.seq gb48.s (Le.lst ((le12.trans le26).trans le50) sq3))
    · rintro i63 y66 σ' H64 p83 hi65 ⟨F67, v_term_here71, term_here71, kv72, m73, o74, o75, o76, o77, o78, rfl, gb68, cm69, le70, hr79, oH80, oF81, dk82, ⟨q1, q2, q3, q4⟩⟩ hp84
      obtain ⟨x85, hx86, hr87⟩ := Al.get (Al.mo ((le12.trans le26).trans le70) al4) hi65
      obtain rfl : y66 = V.int x85 := hr87
      refine it2 (K := K) gb68.s hp84 (fun F88 H89 g90 e91 => ?_)
      have gb92 := gb68.tr g90
      have le93 := g90.le
      have oH94 := g90.h _ _ oH80
      have oF95 := g90.own oF81 oH80
      have cm96 := g90.fz cm69
      try dsimp only
      have hil := (List.getElem?_eq_some_iff.mp hx86).1
      have hi5 : i63 < 5 := by omega
      refine a_seq ?_
      refine a_asg ?_
      refine a_var rfl ?_
      refine a_name ?_
      try dsimp only
      refine a_seqM (fun σ' H' => Ex4 fun (F97 : Hp) (turn98 : Int) (kv99 : List V) (words100 : List Str) => Cj9 (σ' = [some (V.ref a1), some (V.int way), some (V.int odd), some (v_term_here71), some (V.ref p28), some (V.int (i63 : Nat)), some (V.int x85), some (V.int turn98), o75, o76]) (Gr0 F H F97 H') (Fz (frzd F) F97) (Le F88 F97) (H' p28 = some (.lst kv99)) (F97 p28 = none) (Al rS F97 kv99 words100) (m73 = words100) ((0 ≤ turn98 ∧ turn98 ≤ 2))) (fun R hR => ?_) ?_
      · refine a_if ?_
        refine a_and ?_
        refine a_test ?_
        refine a_op ?_
        refine a_var rfl ?_
        refine a_var rfl ?_
        refine a_eqI ?_
        refine a_bl ?_
        refine iteD (fun c101 => ?_) (fun c101 => ?_)
        · refine a_test ?_
          refine a_op ?_
          refine a_var rfl ?_
          refine a_c ?_
          refine a_I0 ?_
          refine a_bl ?_
          refine iteD (fun c102 => ?_) (fun c102 => ?_)
          · refine a_asg ?_
            refine a_op ?_
            refine a_c ?_
            refine a_var rfl ?_
            refine a_I0 ?_
            refine a_name ?_
            try dsimp only
            exact hR _ _ ⟨F88, (1 - way), _, m73, rfl, gb92, cm96, Le.refl _, oH94, oF95, (Al.mo le93 dk82), rfl, by omega⟩
          · refine a_next ?_
            try dsimp only
            exact hR _ _ ⟨F88, way, _, m73, rfl, gb92, cm96, Le.refl _, oH94, oF95, (Al.mo le93 dk82), rfl, by omega⟩
        · refine iteF ?_
          refine a_next ?_
          try dsimp only
          exact hR _ _ ⟨F88, way, _, m73, rfl, gb92, cm96, Le.refl _, oH94, oF95, (Al.mo le93 dk82), rfl, by omega⟩
      · rintro σ' H103 ⟨F104, turn108, kv109, m110, rfl, gb105, cm106, le107, oH111, oF112, dk113, rfl, ⟨t1, t2⟩⟩
        refine a_seq ?_
        refine a_asg ?_
        refine a_call ?_
        refine a_cons ?_
        refine a_op ?_
        refine a_var rfl ?_
        refine a_c ?_
        refine a_I ⟨by decide, by decide⟩ ?_
        refine a_cons ?_
        refine a_var rfl ?_
        refine a_nil ?_
        refine ⟨F104, _, _, (x85 / 4), turn108, rfl, gb105.s, rfl, rfl, (by exact ⟨t1, t2⟩), ?_⟩
        rintro v114 F115 H116 r117 g118 hr119 hp120
        have gb121 := gb105.tr g118
        have le122 := g118.le
        have oH123 := g118.h _ _ oH111
        have oF124 := g118.own oF112 oH111
        have cm125 := g118.fz cm106
        obtain ⟨a126, v128, v129, rfl, sq127, h130, h131⟩ := hr119
        obtain rfl : v129 = V.str r117.2 := h131
        obtain ⟨f1, f2⟩ := hp120
        refine a_gtup2 (Same.tup gb121.s sq127) ?_
        try dsimp only
        refine a_seqM (fun σ' H' => Ex3 fun (F132 : Hp) (kv133 : List V) (words134 : List Str) => Cj8 (σ' = [some (V.ref a1), some (V.int way), some (V.int odd), some (v_term_here71), some (V.ref p28), some (V.int (i63 : Nat)), some (V.int x85), some (V.int turn108), some (v128), some (V.str r117.2)]) (Gr0 F H F132 H') (Fz (frzd F) F132) (Le F115 F132) (H' p28 = some (.lst kv133)) (F132 p28 = none) (Al rS F132 kv133 words134) ((words134.length ≤ i63 + 1 ∧ ∀ x, (x ∈ (edg term_here71).map (·.1) ∨ x ∈ (edg r117.1).map (·.1)) ↔ x ∈ words134))) (fun R hR => ?_) ?_
        · refine a_if ?_
          refine a_test ?_
          refine a_op ?_
          refine a_var rfl ?_
          refine a_c ?_
          have ln135 : ("" : Str).length = 0 := by decide +kernel
          refine a_neS ?_
          refine a_bl ?_
          refine iteDN (fun c136 => ?_) (fun c136 => ?_)
          · refine a_drop ?_
            refine a_bm ?_
            refine a_var rfl ?_
            refine ⟨tyV_lst oH123, ?_⟩
            refine a_cons ?_
            refine a_var rfl ?_
            refine a_nil ?_
            refine a_app oH123 (Nat.lt_of_lt_of_le (show _ < 100000 by rw [Al.length (Al.mo le122 dk113)]; omega) (by decide)) (chg (R := fun H' => _) gb121 hb33 oF124 (fun H137 gb138 oH139 ne140 => ?_))
            have al141 := Al.snoc (Al.mo le122 dk113) (show rS F115 (V.str r117.2) r117.2 from rfl)
            try dsimp only
            exact hR _ _ ⟨F115, _, (m73 ++ [r117.2]), rfl, gb138, cm125, Le.refl _, oH139, oF124, al141, by first | exact ⟨by rw [List.length_append]; exact Nat.succ_le_succ q3, leaf_yes f2 (by assumption) q4⟩ | exact ⟨by omega, leaf_no f2 (by assumption) q4⟩⟩
          · refine a_next ?_
            try dsimp only
            exact hR _ _ ⟨F115, _, m73, rfl, gb121, cm125, Le.refl _, oH123, oF124, (Al.mo le122 dk113), by first | exact ⟨by rw [List.length_append]; exact Nat.succ_le_succ q3, leaf_yes f2 (by assumption) q4⟩ | exact ⟨by omega, leaf_no f2 (by assumption) q4⟩⟩
        · rintro σ' H142 ⟨F143, kv147, m148, rfl, gb144, cm145, le146, oH149, oF150, dk151, ⟨g1, g2⟩⟩
          refine a_asg ?_
          refine a_op ?_
          refine a_lst ?_
          refine a_cons ?_
          refine a_make ?_
          refine a_cons ?_
          refine a_var rfl ?_
          refine a_cons ?_
          refine a_var rfl ?_
          refine a_nil ?_
          intro x152 dx153 hx154 hd155 ne156
          refine ⟨x152, dx153, _, _, rfl, upd_same, rfl, ?_⟩
          obtain ⟨F157, g159, e160⟩ := mk_al (C := T.c_Plus) (fs := [(("one" : Str), v_term_here71), (("other" : Str), v128)]) gb144.s hx154 hd155 ne156
          generalize upd (upd (upd H142 dx153 (.own x152)) x152 (.ins T.c_Plus dx153 [])) x152 (.ins T.c_Plus dx153 [(("one" : Str), v_term_here71), (("other" : Str), v128)]) = H158 at g159 ⊢
          have gb162 := gb144.tr g159
          have le163 := g159.le
          have oH164 := g159.h _ _ oH149
          have oF165 := g159.own oF150 oH149
          have cm166 := g159.fz cm145
          have hT161 : rT T F157 (V.ref x152) (Tm.plus term_here71 r117.1) := ⟨x152, dx153, _, _, rfl, .inl e160, (Mo.mo ((((le93.trans le107).trans le122).trans le146).trans le163) hr79), (Mo.mo (le146.trans le163) h130)⟩
          refine a_cons ?_
          refine a_make ?_
          refine a_cons ?_
          refine a_var rfl ?_
          refine a_cons ?_
          refine a_var rfl ?_
          refine a_nil ?_
          intro x167 dx168 hx169 hd170 ne171
          refine ⟨x167, dx168, _, _, rfl, upd_same, rfl, ?_⟩
          obtain ⟨F172, g174, e175⟩ := mk_al (C := T.c_Minus) (fs := [(("one" : Str), v128), (("other" : Str), v_term_here71)]) gb162.s hx169 hd170 ne171
          generalize upd (upd (upd H158 dx168 (.own x167)) x167 (.ins T.c_Minus dx168 [])) x167 (.ins T.c_Minus dx168 [(("one" : Str), v128), (("other" : Str), v_term_here71)]) = H173 at g174 ⊢
          have gb177 := gb162.tr g174
          have le178 := g174.le
          have oH179 := g174.h _ _ oH164
          have oF180 := g174.own oF165 oH164
          have cm181 := g174.fz cm166
          have hT176 : rT T F172 (V.ref x167) (Tm.minus r117.1 term_here71) := ⟨x167, dx168, _, _, rfl, .inl e175, (Mo.mo ((le146.trans le163).trans le178) h130), (Mo.mo (((((le93.trans le107).trans le122).trans le146).trans le163).trans le178) hr79)⟩
          refine a_cons ?_
          refine a_make ?_
          refine a_cons ?_
          refine a_tup ?_
          refine a_cons ?_
          refine a_c ?_
          refine a_cons ?_
          refine a_c ?_
          refine a_nil ?_
          refine ⟨by show 2 ≤ sizeLine; decide, fun p182 hp183 => ?_⟩
          obtain ⟨F184, g186, e187⟩ := al2 (o := (.tup [V.int 2, V.int 3])) gb177.s (by intro _ _ z; cases z) hp183
          generalize upd H173 p182 (.tup [V.int 2, V.int 3]) = H185 at g186 ⊢
          have gb188 := gb177.tr g186
          have le189 := g186.le
          have oH190 := g186.h _ _ oH179
          have oF191 := g186.own oF180 oH179
          have cm192 := g186.fz cm181
          have sq193 : SqT K F184 p182 (fr (Rat.divInt 2 3)) := by rw [fr_lit (t := 2) (b := 3) (by decide +kernel) (by decide +kernel)]; exact SqT.of e187
          refine a_cons ?_
          refine a_make ?_
          refine a_cons ?_
          refine a_var rfl ?_
          refine a_cons ?_
          refine a_var rfl ?_
          refine a_nil ?_
          intro x194 dx195 hx196 hd197 ne198
          refine ⟨x194, dx195, _, _, rfl, upd_same, rfl, ?_⟩
          obtain ⟨F199, g201, e202⟩ := mk_al (C := T.c_Plus) (fs := [(("one" : Str), v128), (("other" : Str), v_term_here71)]) gb188.s hx196 hd197 ne198
          generalize upd (upd (upd H185 dx195 (.own x194)) x194 (.ins T.c_Plus dx195 [])) x194 (.ins T.c_Plus dx195 [(("one" : Str), v128), (("other" : Str), v_term_here71)]) = H200 at g201 ⊢
          have gb204 := gb188.tr g201
          have le205 := g201.le
          have oH206 := g201.h _ _ oH190
          have oF207 := g201.own oF191 oH190
          have cm208 := g201.fz cm192
          have hT203 : rT T F199 (V.ref x194) (Tm.plus r117.1 term_here71) := ⟨x194, dx195, _, _, rfl, .inl e202, (Mo.mo ((((le146.trans le163).trans le178).trans le189).trans le205) h130), (Mo.mo (((((((le93.trans le107).trans le122).trans le146).trans le163).trans le178).trans le189).trans le205) hr79)⟩
          refine a_nil ?_
          intro x209 dx210 hx211 hd212 ne213
          refine ⟨x209, dx210, _, _, rfl, upd_same, rfl, ?_⟩
          obtain ⟨F214, g216, e217⟩ := mk_al (C := T.c_Times) (fs := [(("number" : Str), V.ref p182), (("inner" : Str), V.ref x194)]) gb204.s hx211 hd212 ne213
          generalize upd (upd (upd H200 dx210 (.own x209)) x209 (.ins T.c_Times dx210 [])) x209 (.ins T.c_Times dx210 [(("number" : Str), V.ref p182), (("inner" : Str), V.ref x194)]) = H215 at g216 ⊢
          have gb219 := gb204.tr g216
          have le220 := g216.le
          have oH221 := g216.h _ _ oH206
          have oF222 := g216.own oF207 oH206
          have cm223 := g216.fz cm208
          have hT218 : rT T F214 (V.ref x209) (Tm.times ((Rat.divInt 2 3)) ((Tm.plus r117.1 term_here71))) := ⟨x209, dx210, _, _, rfl, .inl e217, ⟨_, rfl, (Le.tup (le205.trans le220) sq193)⟩, (Mo.mo le220 hT203)⟩
          refine a_cons ?_
          refine a_make ?_
          refine a_cons ?_
          refine a_var rfl ?_
          refine a_cons ?_
          refine a_var rfl ?_
          refine a_nil ?_
          intro x224 dx225 hx226 hd227 ne228
          refine ⟨x224, dx225, _, _, rfl, upd_same, rfl, ?_⟩
          obtain ⟨F229, g231, e232⟩ := mk_al (C := T.c_Plus) (fs := [(("one" : Str), v128), (("other" : Str), v_term_here71)]) gb219.s hx226 hd227 ne228
          generalize upd (upd (upd H215 dx225 (.own x224)) x224 (.ins T.c_Plus dx225 [])) x224 (.ins T.c_Plus dx225 [(("one" : Str), v128), (("other" : Str), v_term_here71)]) = H230 at g231 ⊢
          have gb234 := gb219.tr g231
          have le235 := g231.le
          have oH236 := g231.h _ _ oH221
          have oF237 := g231.own oF222 oH221
          have cm238 := g231.fz cm223
          have hT233 : rT T F229 (V.ref x224) (Tm.plus r117.1 term_here71) := ⟨x224, dx225, _, _, rfl, .inl e232, (Mo.mo ((((((le146.trans le163).trans le178).trans le189).trans le205).trans le220).trans le235) h130), (Mo.mo (((((((((le93.trans le107).trans le122).trans le146).trans le163).trans le178).trans le189).trans le205).trans le220).trans le235) hr79)⟩
          refine a_nil ?_
          refine ⟨by show 4 ≤ sizeLine; decide, fun p239 hp240 => ?_⟩
          obtain ⟨F241, g243, e244⟩ := al2 (o := (.lst [V.ref x152, V.ref x167, V.ref x209, V.ref x224])) gb234.s (by intro _ _ z; cases z) hp240
          generalize upd H230 p239 (.lst [V.ref x152, V.ref x167, V.ref x209, V.ref x224]) = H242 at g243 ⊢
          have gb245 := gb234.tr g243
          have le246 := g243.le
          have oH247 := g243.h _ _ oH236
          have oF248 := g243.own oF237 oH236
          have cm249 := g243.fz cm238
          have al250 : Al (rT T) F241 [.ref x152, .ref x167, .ref x209, .ref x224] [(Tm.plus term_here71 r117.1), (Tm.minus r117.1 term_here71), (Tm.times ((Rat.divInt 2 3)) ((Tm.plus r117.1 term_here71))), (Tm.plus r117.1 term_here71)] := ⟨(Mo.mo (((((le178.trans le189).trans le205).trans le220).trans le235).trans le246) hT161), ⟨(Mo.mo ((((le189.trans le205).trans le220).trans le235).trans le246) hT176), ⟨(Mo.mo (le235.trans le246) hT218), ⟨(Mo.mo le246 hT233), True.intro⟩⟩⟩⟩
          refine a_op ?_
          refine a_var rfl ?_
          refine a_c ?_
          refine a_I (by decide) ?_
          have m251 : 0 ≤ (x85 % 4) ∧ (x85 % 4) < 4 := ⟨Int.emod_nonneg _ (by decide), Int.emod_lt_of_pos _ (by decide)⟩
          obtain ⟨x253, v252, h254, h255, h256⟩ := Al.ix al250 (i := (x85 % 4)) (by walk_at "o") (by walk_at "ol")
          refine a_ixL (Same.seq gb245.s (SqL.of e244)) h255 ?_
          have hpk := h254
          refine a_name ?_
          try dsimp only
          exact ⟨F241, _, x253, _, m148, _, _, _, _, _, rfl, gb245, cm249, (((((((((((le70.trans le93).trans le107).trans le122).trans le146).trans le163).trans le178).trans le189).trans le205).trans le220).trans le235).trans le246), h256, oH247, oF248, (Al.mo ((((((le163.trans le178).trans le189).trans le205).trans le220).trans le235).trans le246) dk151), by exact pick_ok f1 f2 hpk q1 q2 g1 g2⟩
    · rintro σ' H257 ⟨F258, v_term_here262, term_here262, kv263, m264, o265, o266, o267, o268, o269, rfl, gb259, cm260, le261, hr270, oH271, oF272, dk273, ⟨q1, q2, q3, q4⟩⟩
      have hlen := Al.length (Al.mo ((le12.trans le26).trans le261) al4)
      try dsimp only
      refine a_ret ?_
      refine a_tup ?_
      refine a_cons ?_
      refine a_var rfl ?_
      refine a_cons ?_
      refine a_var rfl ?_
      refine a_nil ?_
      obtain ⟨F274, gb275, cm276, le277s, e278, ne279⟩ := frz gb259 cm260 hb33 oF272 oH271 (by intro _ _ z; cases z)
      have le277 := Le.of le277s
      refine ⟨by show 2 ≤ sizeLine; decide, fun p280 hp281 => ?_⟩
      obtain ⟨F282, g284, e285⟩ := al2 (o := (.tup [v_term_here262, V.ref p28])) gb275.s (by intro _ _ z; cases z) hp281
      generalize upd H257 p280 (.tup [v_term_here262, V.ref p28]) = H283 at g284 ⊢
      have gb286 := gb275.tr g284
      have le287 := g284.le
      have cm288 := g284.fz cm276
      have hde := g284.f _ _ e278
      have hdb := hb33
      have hdt := e285
      exact k _ _ _ ((term_here262, m264)) (Gr.of gb286 cm288) (⟨_, _, _, rfl, (SqT.of e285), (Mo.mo (le277.trans le287) hr270), ⟨_, _, rfl, (Le.lst le287 (SqL.of e278)), (Al.mo le287 (Al.mo le277 dk273))⟩⟩) (by dsimp only; exact ⟨by omega, by omega, by omega, q4⟩)
def sp_law_alone (T : Tx K mg) : Sp := fun vs H Q _ => Ex3 fun (F : Hp) (v_e : V) (e : Addr) => Cj5 (vs = [v_e]) (Same F H) (rX F v_e e) (e = T.c_Mixed) (∀ (v : V) (F' H' : Hp), Gr F H F' H' → rB F' v (true) → Q v H')
set_option linter.unusedVariables false in
theorem ok_law_alone (T : Tx K mg) : FnOkH P w K mg base  1 T.a_law_alone T.d_law_alone ["_law_e"] (sp_law_alone T) := by
  refine T.F_law_alone.okH sc_law_alone (fun vs H Q E h => ?_) (fun cdv A outer s H vs Q E hr h => ?_)
  · obtain ⟨F, v_e, e, rfl, _⟩ := h
    rfl
  · obtain ⟨F, v_e, e, rfl, wd, r_e, hpre, k⟩ := h
    have hu := hu_ofH hr
    have gb := Gr0.refl wd
    have cm := Fz.refl F
    obtain ⟨a1, rfl, sq2⟩ := r_e
    obtain rfl := hpre
    refine ⟨_, (@pss_cons _ _ _ _ _ (ps_if (PW.pt (pw_or (pt_not (pt_val (pe_callB call_ise rfl T.z_isinstance rfl (pa_cons (pv 0) (pa_cons (pe_glob (v := .ref T.c_FrameError) rfl T.m_FrameError rfl) pa_nil))))) (pw_or1 (pt_not (pt_val (pe_callB call_ise rfl T.z_isinstance rfl (pa_cons (pv 0) (pa_cons (pe_bltn (v := .ty "ValueError") rfl T.z_ValueError rfl rfl) pa_nil)))))))) (pss_one (ps_ret pe_bl)) pss_nil)
          (pss_one (ps_ret (pe_not (pe_callB (show CallR _ _ (rIseT K) from call_iseT) rfl T.z_isinstance rfl (pa_cons (pv 0) (pa_cons (pe_tup (pa_cons (pe_glob (v := .ref T.c_NoName) rfl T.m_NoName rfl) (pa_cons (pe_glob (v := .ref T.c_NoPane) rfl T.m_NoPane rfl) (pa_cons (pe_glob (v := .ref T.c_NoRank) rfl T.m_NoRank rfl) (pa_cons (pe_glob (v := .ref T.c_NoWish) rfl T.m_NoWish rfl) pa_nil))))) pa_nil))))))), ?_⟩
    refine a_seq ?_
    refine a_if ?_
    refine a_or ?_
    refine a_not ?_
    refine a_tB ?_
    refine a_cb ?_
    refine a_cons ?_
    refine a_var rfl ?_
    refine a_cons ?_
    refine a_c ?_
    refine a_nil ?_
    refine ⟨_, _, _, true, _, rfl, (Same.rd gb.s sq2), T.x_Mixed, rfl, T.ki_Mixed_FrameError, ?_⟩
    refine a_bl ?_
    refine iteNT ?_
    refine a_not ?_
    refine a_tB ?_
    refine a_cb ?_
    refine a_cons ?_
    refine a_var rfl ?_
    refine a_cons ?_
    refine a_c ?_
    refine a_nil ?_
    refine ⟨_, _, _, true, _, rfl, (Same.rd gb.s sq2), T.x_Mixed, rfl, T.ki_Mixed_ValueError, ?_⟩
    refine a_bl ?_
    refine iteNT ?_
    refine a_next ?_
    try dsimp only
    refine a_ret ?_
    refine a_notV ?_
    refine a_cb ?_
    refine a_cons ?_
    refine a_var rfl ?_
    refine a_cons ?_
    refine a_tup ?_
    refine a_cons ?_
    refine a_c ?_
    refine a_cons ?_
    refine a_c ?_
    refine a_cons ?_
    refine a_c ?_
    refine a_cons ?_
    refine a_c ?_
    refine a_nil ?_
    refine ⟨by show 4 ≤ sizeLine; decide, fun p3 hp4 => ?_⟩
    obtain ⟨F5, g7, e8⟩ := al2 (o := (.tup [V.ref T.c_NoName, V.ref T.c_NoPane, V.ref T.c_NoRank, V.ref T.c_NoWish])) gb.s (by intro _ _ z; cases z) hp4
    generalize upd H p3 (.tup [V.ref T.c_NoName, V.ref T.c_NoPane, V.ref T.c_NoRank, V.ref T.c_NoWish]) = H6 at g7 ⊢
    have gb9 := gb.tr g7
    have le10 := g7.le
    have cm11 := g7.fz cm
    refine a_nil ?_
    refine ⟨_, _, _, [T.c_NoName, T.c_NoPane, T.c_NoRank, T.c_NoWish], false, rfl, (Same.rd gb9.s (Le.exc le10 sq2)), T.x_Mixed, (Same.tup gb9.s (SqT.of e8)), T.kt_Mixed_NoName_NoPane_NoRank_NoWish, ?_⟩
    refine a_bl ?_
    have rp12 : rB F5 (V.bl (!false)) ((!false)) := rfl
    exact k _ _ _ (Gr.of gb9 cm11) rp12
def sp_law_made (T : Tx K mg) : Sp := fun vs H Q _ => Ex7 fun (F : Hp) (v_kind : V) (v_near : V) (v_far : V) (kind : Int) (near : Tm) (far : Tm) => Cj7 (vs = [v_kind, v_near, v_far]) (Same F H) (rI F v_kind kind) ((rT T) F v_near near) ((rT T) F v_far far) (near.dep ≤ 11 ∧ (edg near).length ≤ 30 ∧ far.dep ≤ 11 ∧ (edg far).length ≤ 30) (∀ (v : V) (F' H' : Hp), Gr F H F' H' → rS F' v (dueS near far) → Q v H')
set_option linter.unusedVariables false in
theorem ok_law_made (T : Tx K mg) : FnOk P w K mg base CX0 18 T.a_law_made T.d_law_made ["_law_kind", "_law_near", "_law_far"] (sp_law_made T) := by
  refine T.F_law_made.ok sc_law_made (fun vs H Q E h => ?_) (fun cdv A outer s H vs Q E hr h => ?_)
  · obtain ⟨F, v_kind, v_near, v_far, kind, near, far, rfl, _⟩ := h
    rfl
  · obtain ⟨F, v_kind, v_near, v_far, kind, near, far, rfl, wd, r_kind, r_near, r_far, hpre, k⟩ := h
    have hu := hu_of hr
    have gb := Gr0.refl wd
    have cm := Fz.refl F
    obtain rfl : v_kind = V.int kind := r_kind
    obtain ⟨b1, b2, b3, b4⟩ := hpre
    refine ⟨_, (@pss_cons _ _ _ _ _ (ps_set (i := 3) sc_law_made.nd rfl (Or.inl rfl) pe_non)
          (@pss_cons _ _ _ _ _ (ps_set (i := 4) sc_law_made.nd rfl (Or.inl rfl) pe_str)
          (@pss_cons _ _ _ _ _ (ps_tryAs (i := 5) rfl rfl rfl T.m_Mixed sc_law_made.nd rfl rfl (fun pn xe R hx => (pss_one (ps_if (pt_cmpR op_eq (pv 0) pe_int (nomark _)) (pss_one (ps_set (i := 3) sc_law_made.nd rfl (Or.inl rfl) (pe_makeX T.mk_Just ((ok_Just T).mono (by decide)) hr rfl T.m_Just T.b_Wish___init__ .nil hx (pa_cons (pv 1) (pa_cons (pv 2) (pa_cons pe_int (pa_cons pe_int pa_nil))))))) (pss_one (ps_if (pt_cmpR op_eq (pv 0) pe_int (nomark _)) (pss_one (ps_set (i := 3) sc_law_made.nd rfl (Or.inl rfl) (pe_makeX T.mk_AtLeast ((ok_AtLeast T).mono (by decide)) hr rfl T.m_AtLeast T.b_Wish___init__ .nil hx (pa_cons (pv 1) (pa_cons (pv 2) (pa_cons pe_int (pa_cons pe_int pa_nil))))))) (pss_one (ps_set (i := 3) sc_law_made.nd rfl (Or.inl rfl) (pe_makeX T.mk_AtMost ((ok_AtMost T).mono (by decide)) hr rfl T.m_AtMost T.b_Wish___init__ .nil hx (pa_cons (pv 1) (pa_cons (pv 2) (pa_cons pe_int (pa_cons (pe_op op_pow pe_int pe_int) pa_nil)))))))))))) (fun v => (pss_one (ps_set (i := 4) sc_law_made.nd rfl (Or.inl rfl) (pe_ix (show IxR _ (rIxL K) from ix_list) (pe_lst (pa_cons pe_str (pa_cons pe_str pa_nil))) (pe_callTy call_intB rfl T.z_int rfl (pa_cons (pe_callH (ok_law_alone T) (hr.toH (by decide) _) rfl T.m_law_alone T.F_law_alone.kp T.b_law_alone (pa_cons (pv 5) pa_nil)) pa_nil)) (fun _ _ => rfl))))))
          (@pss_cons _ _ _ _ _ (ps_if (pt_val (pe_callB (show CallR _ _ (rIsR K) from call_isR) rfl T.z_isinstance rfl (pa_cons (pv 3) (pa_cons (pe_glob (v := .ref T.c_Wish) rfl T.m_Wish rfl) pa_nil)))) (pss_one (ps_set (i := 4) sc_law_made.nd rfl (Or.inl rfl) (pe_methD (pv 3) (fun C g h => (way_ok T C g h).mono (by decide)) hr pass0))) pss_nil)
          (pss_one (ps_ret (pv 4))))))), ?_⟩
    refine a_seq ?_
    refine a_asg ?_
    refine a_c ?_
    refine a_name ?_
    try dsimp only
    refine a_seq ?_
    refine a_asg ?_
    refine a_c ?_
    have ln1 : ("other" : Str).length = 5 := by decide +kernel
    refine a_name ?_
    try dsimp only
    refine a_seq ?_
    refine a_tryAs ?_
    try dsimp only
    refine a_if ?_
    refine a_test ?_
    refine a_op ?_
    refine a_var rfl ?_
    refine a_c ?_
    refine a_eqI ?_
    refine a_bl ?_
    refine iteD (fun c2 => ?_) (fun c2 => ?_)
    · refine a_asg ?_
      refine a_makeX ?_
      refine a_cons ?_
      refine a_var rfl ?_
      refine a_cons ?_
      refine a_var rfl ?_
      refine a_cons ?_
      refine a_c ?_
      refine a_cons ?_
      refine a_c ?_
      refine a_nil ?_
      intro x3 dx4 hx5 hd6 ne7
      obtain ⟨F8, g9, e10, h11⟩ := mkX (C := T.c_Just) gb.s hx5 hd6 ne7
      refine ⟨F8, x3, dx4, _, _, _, _, near, far, rfl, h11, g9.s, (Mo.mo (Gr.le g9) (r_near)), (Mo.mo (Gr.le g9) (r_far)), (by exact ⟨b1, b2, b3, b4⟩), ?_, ?_⟩
      · intro F12 H13 g14 hp15
        have g16 := Gr.trans g9 g14
        have gb17 := gb.tr g16
        have le18 := g16.le
        have cm19 := g16.fz cm
        refine a_catAs T.em_Mixed_Mixed (fun y20 hy21 => ?_)
        try dsimp only
        obtain ⟨F22, g23, ee24⟩ := al2 (o := exO y20 T.c_Mixed) gb17.s (by intro _ _ z; cases z) hy21
        have gb25 := gb17.tr g23
        have le26 := g23.le
        have cm27 := g23.fz cm19
        refine a_asg ?_
        refine a_op ?_
        refine a_lst ?_
        refine a_cons ?_
        refine a_c ?_
        have ln28 : ("wrong" : Str).length = 5 := by decide +kernel
        refine a_cons ?_
        refine a_c ?_
        have ln29 : ("mixed" : Str).length = 5 := by decide +kernel
        refine a_nil ?_
        refine ⟨by show 2 ≤ sizeLine; decide, fun p30 hp31 => ?_⟩
        obtain ⟨F32, g34, e35⟩ := al2 (o := (.lst [V.str ("wrong" : Str), V.str ("mixed" : Str)])) gb25.s (by intro _ _ z; cases z) hp31
        generalize upd (upd H13 y20 (exO y20 T.c_Mixed)) p30 (.lst [V.str ("wrong" : Str), V.str ("mixed" : Str)]) = H33 at g34 ⊢
        have gb36 := gb25.tr g34
        have le37 := g34.le
        have cm38 := g34.fz cm27
        have al39 : Al rS F32 [.str ("wrong" : Str), .str ("mixed" : Str)] [("wrong" : Str), ("mixed" : Str)] := ⟨rfl, ⟨rfl, True.intro⟩⟩
        refine a_cb ?_
        refine a_cons ?_
        refine a_call ?_
        refine a_cons ?_
        refine a_var rfl ?_
        refine a_nil ?_
        refine ⟨F32, _, T.c_Mixed, rfl, gb36.s, ⟨_, rfl, (Le.exc le37 (Rd.of ee24))⟩, (by rfl), ?_⟩
        rintro v40 F41 H42  g44 hr45 
        have gb47 := gb36.tr g44
        have le48 := g44.le
        have cm49 := g44.fz cm38
        obtain rfl : v40 = V.bl true := hr45
        refine a_nil ?_
        refine ⟨_, rfl, ?_⟩
        rw [show (if true = true then (1 : Int) else 0) = 1 from rfl]
        obtain ⟨x51, v50, h52, h53, h54⟩ := Al.ix (Al.mo le48 al39) (i := 1) (by walk_at "o") (by walk_at "ol")
        refine a_ixL (Same.seq gb47.s (Le.lst le48 (SqL.of e35))) h53 ?_
        have h52m := List.mem_of_getElem? h52
        simp only [List.mem_cons, List.not_mem_nil, or_false] at h52m
        have h52l : x51.length ≤ 5 := by rcases h52m with z | z <;> (rw [z]; decide +kernel)
        have hmx : x51 = ("mixed" : Str) := (Option.some.inj h52).symm
        obtain rfl : v50 = V.str x51 := h54
        refine a_name ?_
        try dsimp only
        dsimp only [Ends.less]
        refine a_seq ?_
        refine a_if ?_
        refine a_tB ?_
        refine a_cb ?_
        refine a_cons ?_
        refine a_var rfl ?_
        refine a_cons ?_
        refine a_c ?_
        refine a_nil ?_
        refine ⟨_, _, _, false, _, rfl, .inl .non, rfl, T.kc_NoneType_Wish, ?_⟩
        refine a_bl ?_
        refine iteF ?_
        refine a_next ?_
        try dsimp only
        refine a_ret ?_
        refine a_var rfl ?_
        have hval : (x51 : Str) = (dueS near far) := by unfold dueS; first | (rw [if_pos (by assumption)]; exact hmx) | (rw [if_neg (by assumption)]; done)
        have rp55 : rS F41 (V.str x51) (x51) := rfl
        replace rp55 := Eq.mp (congrArg (rS F41 (V.str x51)) hval) rp55
        exact k _ _ _ (Gr.of gb47 cm49) rp55
      · intro F12 H13 g14 hp15
        refine ⟨rfl, ?_⟩
        obtain ⟨F56, g58, e59⟩ := mkY (C := T.c_Just) (dx := dx4) [(("near" : Str), v_near), (("far" : Str), v_far), (("rank" : Str), V.int 2), (("weight" : Str), V.int 5)] g9 hx5 e10 h11 g14
        generalize upd H13 x3 (.ins T.c_Just dx4 [(("near" : Str), v_near), (("far" : Str), v_far), (("rank" : Str), V.int 2), (("weight" : Str), V.int 5)]) = H57 at g58 ⊢
        have gb61 := gb.tr g58
        have le62 := g58.le
        have cm63 := g58.fz cm
        have hT60 : (rW T) F56 (V.ref x3) (near, far) := ⟨x3, _, dx4, _, _, _, _, rfl, .inl e59, ⟨rfl, .inl rfl⟩, (Mo.mo le62 r_near), (Mo.mo le62 r_far)⟩
        refine a_name ?_
        try dsimp only
        refine a_seq ?_
        refine a_if ?_
        refine a_tB ?_
        refine a_cb ?_
        refine a_cons ?_
        refine a_var rfl ?_
        refine a_cons ?_
        refine a_c ?_
        refine a_nil ?_
        refine ⟨_, _, _, true, _, rfl, .inr ⟨_, _, _, _, rfl, rfl, gb61.s.rd (.inl e59), T.ik_Just⟩, rfl, T.kc_Just_Wish, ?_⟩
        refine a_bl ?_
        refine iteT ?_
        refine a_asg ?_
        refine a_methD ?_
        refine a_var rfl ?_
        obtain ⟨_, _, _, _, ev64, rd65, dd66, hl67⟩ := cls_y hT60
        refine ⟨_, _, _, _, _, ev64, gb61.s.rd rd65, dd66, hl67, ?_⟩
        refine ⟨F56, _, (near, far), rfl, gb61.s, hT60, (by exact ⟨b1, b2, b3, b4⟩), ?_⟩
        rintro v68 F69 H70  g72 hr73 
        have gb75 := gb61.tr g72
        have le76 := g72.le
        have cm77 := g72.fz cm63
        obtain rfl : v68 = V.str (wayW ((near, far))) := hr73
        refine a_name ?_
        try dsimp only
        refine a_ret ?_
        refine a_var rfl ?_
        have hval : ((wayW ((near, far))) : Str) = (dueS near far) := by unfold dueS; first | (rw [if_pos (by assumption)]; exact hmx) | (rw [if_neg (by assumption)]; done)
        have rp78 : rS F69 (V.str (wayW ((near, far)))) ((wayW ((near, far)))) := rfl
        replace rp78 := Eq.mp (congrArg (rS F69 (V.str (wayW ((near, far))))) hval) rp78
        exact k _ _ _ (Gr.of gb75 cm77) rp78
    · refine a_if ?_
      refine a_test ?_
      refine a_op ?_
      refine a_var rfl ?_
      refine a_c ?_
      refine a_eqI ?_
      refine a_bl ?_
      refine iteD (fun c79 => ?_) (fun c79 => ?_)
      · refine a_asg ?_
        refine a_makeX ?_
        refine a_cons ?_
        refine a_var rfl ?_
        refine a_cons ?_
        refine a_var rfl ?_
        refine a_cons ?_
        refine a_c ?_
        refine a_cons ?_
        refine a_c ?_
        refine a_nil ?_
        intro x80 dx81 hx82 hd83 ne84
        obtain ⟨F85, g86, e87, h88⟩ := mkX (C := T.c_AtLeast) gb.s hx82 hd83 ne84
        refine ⟨F85, x80, dx81, _, _, _, _, near, far, rfl, h88, g86.s, (Mo.mo (Gr.le g86) (r_near)), (Mo.mo (Gr.le g86) (r_far)), (by exact ⟨b1, b2, b3, b4⟩), ?_, ?_⟩
        · intro F89 H90 g91 hp92
          have g93 := Gr.trans g86 g91
          have gb94 := gb.tr g93
          have le95 := g93.le
          have cm96 := g93.fz cm
          refine a_catAs T.em_Mixed_Mixed (fun y97 hy98 => ?_)
          try dsimp only
          obtain ⟨F99, g100, ee101⟩ := al2 (o := exO y97 T.c_Mixed) gb94.s (by intro _ _ z; cases z) hy98
          have gb102 := gb94.tr g100
          have le103 := g100.le
          have cm104 := g100.fz cm96
          refine a_asg ?_
          refine a_op ?_
          refine a_lst ?_
          refine a_cons ?_
          refine a_c ?_
          have ln105 : ("wrong" : Str).length = 5 := by decide +kernel
          refine a_cons ?_
          refine a_c ?_
          have ln106 : ("mixed" : Str).length = 5 := by decide +kernel
          refine a_nil ?_
          refine ⟨by show 2 ≤ sizeLine; decide, fun p107 hp108 => ?_⟩
          obtain ⟨F109, g111, e112⟩ := al2 (o := (.lst [V.str ("wrong" : Str), V.str ("mixed" : Str)])) gb102.s (by intro _ _ z; cases z) hp108
          generalize upd (upd H90 y97 (exO y97 T.c_Mixed)) p107 (.lst [V.str ("wrong" : Str), V.str ("mixed" : Str)]) = H110 at g111 ⊢
          have gb113 := gb102.tr g111
          have le114 := g111.le
          have cm115 := g111.fz cm104
          have al116 : Al rS F109 [.str ("wrong" : Str), .str ("mixed" : Str)] [("wrong" : Str), ("mixed" : Str)] := ⟨rfl, ⟨rfl, True.intro⟩⟩
          refine a_cb ?_
          refine a_cons ?_
          refine a_call ?_
          refine a_cons ?_
          refine a_var rfl ?_
          refine a_nil ?_
          refine ⟨F109, _, T.c_Mixed, rfl, gb113.s, ⟨_, rfl, (Le.exc le114 (Rd.of ee101))⟩, (by rfl), ?_⟩
          rintro v117 F118 H119  g121 hr122 
          have gb124 := gb113.tr g121
          have le125 := g121.le
          have cm126 := g121.fz cm115
          obtain rfl : v117 = V.bl true := hr122
          refine a_nil ?_
          refine ⟨_, rfl, ?_⟩
          rw [show (if true = true then (1 : Int) else 0) = 1 from rfl]
          obtain ⟨x128, v127, h129, h130, h131⟩ := Al.ix (Al.mo le125 al116) (i := 1) (by walk_at "o") (by walk_at "ol")
          refine a_ixL (Same.seq gb124.s (Le.lst le125 (SqL.of e112))) h130 ?_
          have h129m := List.mem_of_getElem? h129
          simp only [List.mem_cons, List.not_mem_nil, or_false] at h129m
          have h129l : x128.length ≤ 5 := by rcases h129m with z | z <;> (rw [z]; decide +kernel)
          have hmx : x128 = ("mixed" : Str) := (Option.some.inj h129).symm
          obtain rfl : v127 = V.str x128 := h131
          refine a_name ?_
          try dsimp only
          dsimp only [Ends.less]
          refine a_seq ?_
          refine a_if ?_
          refine a_tB ?_
          refine a_cb ?_
          refine a_cons ?_
          refine a_var rfl ?_
          refine a_cons ?_
          refine a_c ?_
          refine a_nil ?_
          refine ⟨_, _, _, false, _, rfl, .inl .non, rfl, T.kc_NoneType_Wish, ?_⟩
          refine a_bl ?_
          refine iteF ?_
          refine a_next ?_
          try dsimp only
          refine a_ret ?_
          refine a_var rfl ?_
          have hval : (x128 : Str) = (dueS near far) := by unfold dueS; first | (rw [if_pos (by assumption)]; exact hmx) | (rw [if_neg (by assumption)]; done)
          have rp132 : rS F118 (V.str x128) (x128) := rfl
          replace rp132 := Eq.mp (congrArg (rS F118 (V.str x128)) hval) rp132
          exact k _ _ _ (Gr.of gb124 cm126) rp132
        · intro F89 H90 g91 hp92
          refine ⟨rfl, ?_⟩
          obtain ⟨F133, g135, e136⟩ := mkY (C := T.c_AtLeast) (dx := dx81) [(("near" : Str), v_near), (("far" : Str), v_far), (("rank" : Str), V.int 0), (("weight" : Str), V.int 1)] g86 hx82 e87 h88 g91
          generalize upd H90 x80 (.ins T.c_AtLeast dx81 [(("near" : Str), v_near), (("far" : Str), v_far), (("rank" : Str), V.int 0), (("weight" : Str), V.int 1)]) = H134 at g135 ⊢
          have gb138 := gb.tr g135
          have le139 := g135.le
          have cm140 := g135.fz cm
          have hT137 : (rW T) F133 (V.ref x80) (near, far) := ⟨x80, _, dx81, _, _, _, _, rfl, .inl e136, ⟨rfl, .inr (.inl rfl)⟩, (Mo.mo le139 r_near), (Mo.mo le139 r_far)⟩
          refine a_name ?_
          try dsimp only
          refine a_seq ?_
          refine a_if ?_
          refine a_tB ?_
          refine a_cb ?_
          refine a_cons ?_
          refine a_var rfl ?_
          refine a_cons ?_
          refine a_c ?_
          refine a_nil ?_
          refine ⟨_, _, _, true, _, rfl, .inr ⟨_, _, _, _, rfl, rfl, gb138.s.rd (.inl e136), T.ik_AtLeast⟩, rfl, T.kc_AtLeast_Wish, ?_⟩
          refine a_bl ?_
          refine iteT ?_
          refine a_asg ?_
          refine a_methD ?_
          refine a_var rfl ?_
          obtain ⟨_, _, _, _, ev141, rd142, dd143, hl144⟩ := cls_y hT137
          refine ⟨_, _, _, _, _, ev141, gb138.s.rd rd142, dd143, hl144, ?_⟩
          refine ⟨F133, _, (near, far), rfl, gb138.s, hT137, (by exact ⟨b1, b2, b3, b4⟩), ?_⟩
          rintro v145 F146 H147  g149 hr150 
          have gb152 := gb138.tr g149
          have le153 := g149.le
          have cm154 := g149.fz cm140
          obtain rfl : v145 = V.str (wayW ((near, far))) := hr150
          refine a_name ?_
          try dsimp only
          refine a_ret ?_
          refine a_var rfl ?_
          have hval : ((wayW ((near, far))) : Str) = (dueS near far) := by unfold dueS; first | (rw [if_pos (by assumption)]; exact hmx) | (rw [if_neg (by assumption)]; done)
          have rp155 : rS F146 (V.str (wayW ((near, far)))) ((wayW ((near, far)))) := rfl
          replace rp155 := Eq.mp (congrArg (rS F146 (V.str (wayW ((near, far))))) hval) rp155
          exact k _ _ _ (Gr.of gb152 cm154) rp155
      · refine a_asg ?_
        refine a_makeX ?_
        refine a_cons ?_
        refine a_var rfl ?_
        refine a_cons ?_
        refine a_var rfl ?_
        refine a_cons ?_
        refine a_c ?_
        refine a_cons ?_
        refine a_op ?_
        refine a_c ?_
        refine a_c ?_
        refine a_powC (z := 1000000) (by decide) ⟨by decide, by decide, by decide⟩ ?_
        refine a_nil ?_
        intro x156 dx157 hx158 hd159 ne160
        obtain ⟨F161, g162, e163, h164⟩ := mkX (C := T.c_AtMost) gb.s hx158 hd159 ne160
        refine ⟨F161, x156, dx157, _, _, _, _, near, far, rfl, h164, g162.s, (Mo.mo (Gr.le g162) (r_near)), (Mo.mo (Gr.le g162) (r_far)), (by exact ⟨b1, b2, b3, b4⟩), ?_, ?_⟩
        · intro F165 H166 g167 hp168
          have g169 := Gr.trans g162 g167
          have gb170 := gb.tr g169
          have le171 := g169.le
          have cm172 := g169.fz cm
          refine a_catAs T.em_Mixed_Mixed (fun y173 hy174 => ?_)
          try dsimp only
          obtain ⟨F175, g176, ee177⟩ := al2 (o := exO y173 T.c_Mixed) gb170.s (by intro _ _ z; cases z) hy174
          have gb178 := gb170.tr g176
          have le179 := g176.le
          have cm180 := g176.fz cm172
          refine a_asg ?_
          refine a_op ?_
          refine a_lst ?_
          refine a_cons ?_
          refine a_c ?_
          have ln181 : ("wrong" : Str).length = 5 := by decide +kernel
          refine a_cons ?_
          refine a_c ?_
          have ln182 : ("mixed" : Str).length = 5 := by decide +kernel
          refine a_nil ?_
          refine ⟨by show 2 ≤ sizeLine; decide, fun p183 hp184 => ?_⟩
          obtain ⟨F185, g187, e188⟩ := al2 (o := (.lst [V.str ("wrong" : Str), V.str ("mixed" : Str)])) gb178.s (by intro _ _ z; cases z) hp184
          generalize upd (upd H166 y173 (exO y173 T.c_Mixed)) p183 (.lst [V.str ("wrong" : Str), V.str ("mixed" : Str)]) = H186 at g187 ⊢
          have gb189 := gb178.tr g187
          have le190 := g187.le
          have cm191 := g187.fz cm180
          have al192 : Al rS F185 [.str ("wrong" : Str), .str ("mixed" : Str)] [("wrong" : Str), ("mixed" : Str)] := ⟨rfl, ⟨rfl, True.intro⟩⟩
          refine a_cb ?_
          refine a_cons ?_
          refine a_call ?_
          refine a_cons ?_
          refine a_var rfl ?_
          refine a_nil ?_
          refine ⟨F185, _, T.c_Mixed, rfl, gb189.s, ⟨_, rfl, (Le.exc le190 (Rd.of ee177))⟩, (by rfl), ?_⟩
          rintro v193 F194 H195  g197 hr198 
          have gb200 := gb189.tr g197
          have le201 := g197.le
          have cm202 := g197.fz cm191
          obtain rfl : v193 = V.bl true := hr198
          refine a_nil ?_
          refine ⟨_, rfl, ?_⟩
          rw [show (if true = true then (1 : Int) else 0) = 1 from rfl]
          obtain ⟨x204, v203, h205, h206, h207⟩ := Al.ix (Al.mo le201 al192) (i := 1) (by walk_at "o") (by walk_at "ol")
          refine a_ixL (Same.seq gb200.s (Le.lst le201 (SqL.of e188))) h206 ?_
          have h205m := List.mem_of_getElem? h205
          simp only [List.mem_cons, List.not_mem_nil, or_false] at h205m
          have h205l : x204.length ≤ 5 := by rcases h205m with z | z <;> (rw [z]; decide +kernel)
          have hmx : x204 = ("mixed" : Str) := (Option.some.inj h205).symm
          obtain rfl : v203 = V.str x204 := h207
          refine a_name ?_
          try dsimp only
          dsimp only [Ends.less]
          refine a_seq ?_
          refine a_if ?_
          refine a_tB ?_
          refine a_cb ?_
          refine a_cons ?_
          refine a_var rfl ?_
          refine a_cons ?_
          refine a_c ?_
          refine a_nil ?_
          refine ⟨_, _, _, false, _, rfl, .inl .non, rfl, T.kc_NoneType_Wish, ?_⟩
          refine a_bl ?_
          refine iteF ?_
          refine a_next ?_
          try dsimp only
          refine a_ret ?_
          refine a_var rfl ?_
          have hval : (x204 : Str) = (dueS near far) := by unfold dueS; first | (rw [if_pos (by assumption)]; exact hmx) | (rw [if_neg (by assumption)]; done)
          have rp208 : rS F194 (V.str x204) (x204) := rfl
          replace rp208 := Eq.mp (congrArg (rS F194 (V.str x204)) hval) rp208
          exact k _ _ _ (Gr.of gb200 cm202) rp208
        · intro F165 H166 g167 hp168
          refine ⟨rfl, ?_⟩
          obtain ⟨F209, g211, e212⟩ := mkY (C := T.c_AtMost) (dx := dx157) [(("near" : Str), v_near), (("far" : Str), v_far), (("rank" : Str), V.int 4), (("weight" : Str), V.int 1000000)] g162 hx158 e163 h164 g167
          generalize upd H166 x156 (.ins T.c_AtMost dx157 [(("near" : Str), v_near), (("far" : Str), v_far), (("rank" : Str), V.int 4), (("weight" : Str), V.int 1000000)]) = H210 at g211 ⊢
          have gb214 := gb.tr g211
          have le215 := g211.le
          have cm216 := g211.fz cm
          have hT213 : (rW T) F209 (V.ref x156) (near, far) := ⟨x156, _, dx157, _, _, _, _, rfl, .inl e212, ⟨rfl, .inr (.inr rfl)⟩, (Mo.mo le215 r_near), (Mo.mo le215 r_far)⟩
          refine a_name ?_
          try dsimp only
          refine a_seq ?_
          refine a_if ?_
          refine a_tB ?_
          refine a_cb ?_
          refine a_cons ?_
          refine a_var rfl ?_
          refine a_cons ?_
          refine a_c ?_
          refine a_nil ?_
          refine ⟨_, _, _, true, _, rfl, .inr ⟨_, _, _, _, rfl, rfl, gb214.s.rd (.inl e212), T.ik_AtMost⟩, rfl, T.kc_AtMost_Wish, ?_⟩
          refine a_bl ?_
          refine iteT ?_
          refine a_asg ?_
          refine a_methD ?_
          refine a_var rfl ?_
          obtain ⟨_, _, _, _, ev217, rd218, dd219, hl220⟩ := cls_y hT213
          refine ⟨_, _, _, _, _, ev217, gb214.s.rd rd218, dd219, hl220, ?_⟩
          refine ⟨F209, _, (near, far), rfl, gb214.s, hT213, (by exact ⟨b1, b2, b3, b4⟩), ?_⟩
          rintro v221 F222 H223  g225 hr226 
          have gb228 := gb214.tr g225
          have le229 := g225.le
          have cm230 := g225.fz cm216
          obtain rfl : v221 = V.str (wayW ((near, far))) := hr226
          refine a_name ?_
          try dsimp only
          refine a_ret ?_
          refine a_var rfl ?_
          have hval : ((wayW ((near, far))) : Str) = (dueS near far) := by unfold dueS; first | (rw [if_pos (by assumption)]; exact hmx) | (rw [if_neg (by assumption)]; done)
          have rp231 : rS F222 (V.str (wayW ((near, far)))) ((wayW ((near, far)))) := rfl
          replace rp231 := Eq.mp (congrArg (rS F222 (V.str (wayW ((near, far))))) hval) rp231
          exact k _ _ _ (Gr.of gb228 cm230) rp231
abbrev dwn : List Str := ["top", "height", "bottom", "centre", "drop"]
theorem wayS_two (x : Str) : (wayS x = "down" ∧ x ∈ dwn) ∨ (wayS x = "across" ∧ ¬ x ∈ dwn) := by
  unfold wayS
  by_cases h : x ∈ dwn
  · exact .inl ⟨if_pos h, h⟩
  · exact .inr ⟨if_neg h, h⟩
theorem da_ne : ¬ ("down" : Str) = "across" := by decide +kernel
theorem wys_two {t : Tm} {x : Str} (h : x ∈ wys t) : x = "down" ∨ x = "across" := by
  obtain ⟨e, _, rfl⟩ := wys_mem.mp h
  rcases wayS_two e.1 with z | z
  · exact .inl z.1
  · exact .inr z.1
theorem has_down {t : Tm} {ws : List Str} (h : ∀ x, x ∈ (edg t).map (·.1) ↔ x ∈ ws) : ("down" : Str) ∈ wys t ↔ ∃ x ∈ ws, x ∈ dwn := by
  rw [wys_mem]
  constructor
  · rintro ⟨e, m, q⟩
    refine ⟨e.1, (h _).mp (List.mem_map_of_mem m), ?_⟩
    rcases wayS_two e.1 with z | z
    · exact z.2
    · exact absurd (q.symm.trans z.1) da_ne
  · rintro ⟨x, m, q⟩
    obtain ⟨e, m', rfl⟩ := List.mem_map.mp ((h x).mpr m)
    refine ⟨e, m', ?_⟩
    rcases wayS_two e.1 with z | z
    · exact z.1
    · exact absurd q z.2
theorem has_across {t : Tm} {ws : List Str} (h : ∀ x, x ∈ (edg t).map (·.1) ↔ x ∈ ws) : ("across" : Str) ∈ wys t ↔ ∃ x ∈ ws, ¬ x ∈ dwn := by
  rw [wys_mem]
  constructor
  · rintro ⟨e, m, q⟩
    refine ⟨e.1, (h _).mp (List.mem_map_of_mem m), ?_⟩
    rcases wayS_two e.1 with z | z
    · exact absurd (z.1.symm.trans q) da_ne
    · exact z.2
  · rintro ⟨x, m, q⟩
    obtain ⟨e, m', rfl⟩ := List.mem_map.mp ((h x).mpr m)
    refine ⟨e, m', ?_⟩
    rcases wayS_two e.1 with z | z
    · exact absurd z.2 q
    · exact z.1
theorem mix_iff (a b : Tm) : mixd a b ↔ (("down" : Str) ∈ wys a ++ wys b ∧ ("across" : Str) ∈ wys a ++ wys b) := by
  have two : ∀ x ∈ wys a ++ wys b, x = "down" ∨ x = "across" := fun x h => (List.mem_append.mp h).elim wys_two wys_two
  obtain ⟨nd, mem⟩ := once_nodup (wys a ++ wys b)
  unfold mixd
  rw [← mem, ← mem]
  generalize hl : once (wys a ++ wys b) = l at nd mem
  have two' : ∀ x ∈ l, x = "down" ∨ x = "across" := fun x h => two x ((mem x).mp h)
  match l, nd, two' with
  | [], _, _ => exact ⟨fun h => absurd h (by decide), fun h => by cases h.1⟩
  | [x], _, _ =>
    refine ⟨fun h => absurd h (by show ¬ 1 < 1; decide), fun h => ?_⟩
    exact absurd ((List.mem_singleton.mp h.1).trans (List.mem_singleton.mp h.2).symm) da_ne
  | x :: y :: r, nd, two' =>
    refine ⟨fun _ => ?_, fun _ => by show 1 < r.length + 1 + 1; omega⟩
    have ne : ¬ x = y := fun z => (List.nodup_cons.mp nd).1 (by rw [z]; exact .head _)
    rcases two' x (.head _) with rfl | rfl <;> rcases two' y (.tail _ (.head _)) with rfl | rfl
    · exact absurd rfl ne
    · exact ⟨.head _, .tail _ (.head _)⟩
    · exact ⟨.tail _ (.head _), .head _⟩
    · exact absurd rfl ne
theorem both_down {a b : Tm} {u v : List Str} (h1 : ∀ x, x ∈ (edg a).map (·.1) ↔ x ∈ u) (h2 : ∀ x, x ∈ (edg b).map (·.1) ↔ x ∈ v) : ("down" : Str) ∈ wys a ++ wys b ↔ ∃ x ∈ u ++ v, x ∈ dwn := by
  rw [List.mem_append, has_down h1, has_down h2]
  constructor
  · rintro (⟨x, m, q⟩ | ⟨x, m, q⟩)
    · exact ⟨x, List.mem_append.mpr (.inl m), q⟩
    · exact ⟨x, List.mem_append.mpr (.inr m), q⟩
  · rintro ⟨x, m, q⟩
    exact (List.mem_append.mp m).imp (fun m => ⟨x, m, q⟩) fun m => ⟨x, m, q⟩
theorem both_across {a b : Tm} {u v : List Str} (h1 : ∀ x, x ∈ (edg a).map (·.1) ↔ x ∈ u) (h2 : ∀ x, x ∈ (edg b).map (·.1) ↔ x ∈ v) : ("across" : Str) ∈ wys a ++ wys b ↔ ∃ x ∈ u ++ v, ¬ x ∈ dwn := by
  rw [List.mem_append, has_across h1, has_across h2]
  constructor
  · rintro (⟨x, m, q⟩ | ⟨x, m, q⟩)
    · exact ⟨x, List.mem_append.mpr (.inl m), q⟩
    · exact ⟨x, List.mem_append.mpr (.inr m), q⟩
  · rintro ⟨x, m, q⟩
    exact (List.mem_append.mp m).imp (fun m => ⟨x, m, q⟩) fun m => ⟨x, m, q⟩
theorem fil_ne {l : List Str} : (¬ l.filter (fun x => decide (x ∈ dwn)) = []) ↔ ∃ x ∈ l, x ∈ dwn := by
  rw [List.filter_eq_nil_iff]
  constructor
  · intro h
    refine Classical.byContradiction fun g => h fun x m q => g ⟨x, m, of_decide_eq_true q⟩
  · rintro ⟨x, m, q⟩ h
    exact h x m (decide_eq_true q)
theorem fil_lt {l : List Str} : (l.filter (fun x => decide (x ∈ dwn))).length < l.length ↔ ∃ x ∈ l, ¬ x ∈ dwn := by
  have le := List.length_filter_le (fun x => decide (x ∈ dwn)) l
  constructor
  · intro h
    refine Classical.byContradiction fun g => ?_
    have := List.length_filter_eq_length_iff.mpr (fun x m => decide_eq_true (Classical.byContradiction fun q => g ⟨x, m, q⟩) : ∀ x ∈ l, decide (x ∈ dwn) = true)
    omega
  · rintro ⟨x, m, q⟩
    refine Nat.lt_of_le_of_ne le fun e => q ?_
    exact of_decide_eq_true (List.length_filter_eq_length_iff.mp e x m)
theorem due_mix {a b : Tm} {u v dn : List Str} (h1 : ∀ x, x ∈ (edg a).map (·.1) ↔ x ∈ u) (h2 : ∀ x, x ∈ (edg b).map (·.1) ↔ x ∈ v) (q : dn = (u ++ v).filter (fun x => decide (x ∈ dwn))) (c1' : ¬ dn.length = 0) (c2 : (dn.length : Int) < ((u ++ v).length : Int)) : ("mixed" : Str) = dueS a b := by
  have c1 : ¬ dn = [] := fun z => c1' (by rw [z]; rfl)
  subst q
  unfold dueS
  rw [if_pos ((mix_iff a b).mpr ⟨(both_down h1 h2).mpr (fil_ne.mp c1), (both_across h1 h2).mpr (fil_lt.mp (by omega))⟩)]
theorem due_down {a b : Tm} {u v dn : List Str} {d : Str} (h1 : ∀ x, x ∈ (edg a).map (·.1) ↔ x ∈ u) (h2 : ∀ x, x ∈ (edg b).map (·.1) ↔ x ∈ v) (q : dn = (u ++ v).filter (fun x => decide (x ∈ dwn))) (hd : d = (if dn.length = 0 then ("across" : Str) else "down")) (c1' : ¬ dn.length = 0) (c2 : ¬ (dn.length : Int) < ((u ++ v).length : Int)) : d = dueS a b := by
  have c1 : ¬ dn = [] := fun z => c1' (by rw [z]; rfl)
  rw [hd, if_neg c1']
  subst q
  unfold dueS wayW
  rw [if_neg (fun m => c2 (by have := fil_lt.mpr ((both_across h1 h2).mp ((mix_iff a b).mp m).2); omega)), if_pos ((both_down h1 h2).mpr (fil_ne.mp c1))]
theorem due_acr {a b : Tm} {u v dn : List Str} {d : Str} (h1 : ∀ x, x ∈ (edg a).map (·.1) ↔ x ∈ u) (h2 : ∀ x, x ∈ (edg b).map (·.1) ↔ x ∈ v) (q : dn = (u ++ v).filter (fun x => decide (x ∈ dwn))) (hd : d = (if dn.length = 0 then ("across" : Str) else "down")) (c1' : dn.length = 0) : d = dueS a b := by
  have c1 : dn = [] := List.length_eq_zero_iff.mp c1'
  rw [hd, if_pos c1']
  have nd : ¬ ("down" : Str) ∈ wys a ++ wys b := fun z => fil_ne.mpr ((both_down h1 h2).mp z) (q ▸ c1)
  unfold dueS wayW
  rw [if_neg (fun m => nd ((mix_iff a b).mp m).1), if_neg nd]
theorem takeS {α : Type} {xs : List α} {i : Nat} {x : α} (h : xs[i]? = some x) : xs.take (i + 1) = xs.take i ++ [x] := by rw [List.take_add_one, h]; rfl
theorem filt_yes {st : List Str} {i : Nat} {p : Str} (h : st[i]? = some p) (e : p ∈ dwn) : (st.take (i + 1)).filter (fun p => decide (p ∈ dwn)) = (st.take i).filter (fun p => decide (p ∈ dwn)) ++ [p] := by
  rw [takeS h, List.filter_append, List.filter_cons_of_pos (by simpa using e)]; rfl
theorem filt_no {st : List Str} {i : Nat} {p : Str} (h : st[i]? = some p) (e : ¬ p ∈ dwn) : (st.take (i + 1)).filter (fun p => decide (p ∈ dwn)) = (st.take i).filter (fun p => decide (p ∈ dwn)) := by
  rw [takeS h, List.filter_append, List.filter_cons_of_neg (by simpa using e)]; simp
def sp_law_cell_at (K : PySem.W.Frag) : Sp := fun vs H Q _ => Ex5 fun (F : Hp) (v_script : V) (v_k' : V) (script : (List Int)) (k' : Int) => Cj6 (vs = [v_script, v_k']) (Same F H) (∃ a, v_script = .ref a ∧ SqL K H a (script.map V.int)) (rI F v_k' k') (0 ≤ k') (∀ (v : V) (F' H' : Hp) (r : Int), Gr F H F' H' → rI F' v r → Q v H')
set_option linter.unusedVariables false in
theorem ok_law_cell_at (T : Tx K mg) : FnOk P w K mg base CX0 1 T.a_law_cell_at T.d_law_cell_at ["_law_script", "_law_k"] (sp_law_cell_at K) := by
  refine T.F_law_cell_at.ok sc_law_cell_at (fun vs H Q E h => ?_) (fun cdv A outer s H vs Q E hr h => ?_)
  · obtain ⟨F, v_script, v_k', script, k', rfl, _⟩ := h
    rfl
  · obtain ⟨F, v_script, v_k', script, k', rfl, wd, r_script, r_k', hpre, k⟩ := h
    have hu := hu_of hr
    have gb := Gr0.refl wd
    have cm := Fz.refl F
    obtain ⟨a1, rfl, sq2⟩ := r_script
    obtain rfl : v_k' = V.int k' := r_k'
    refine ⟨_, (@pss_cons _ _ _ _ _ (ps_if (pt_cmpR op_lt (pv 1) (pe_callB call_len_seq rfl T.z_len rfl (pa_cons (pv 0) pa_nil)) (nomark _)) (pss_one (ps_ret (pe_ix ix_list (pv 0) (pv 1) (fun _ _ => rfl)))) pss_nil)
          (pss_one (ps_ret pe_int))), ?_⟩
    refine a_seq ?_
    refine a_if ?_
    refine a_test ?_
    refine a_op ?_
    refine a_var rfl ?_
    refine a_cb ?_
    refine a_cons ?_
    refine a_var rfl ?_
    refine a_nil ?_
    refine ⟨_, _, rfl, .inl (Same.seq gb.h sq2), ?_⟩
    rw [Al.length (al_ints (F := F) (ns := script))]
    refine a_I0 ?_
    refine a_bl ?_
    refine iteD (fun c3 => ?_) (fun c3 => ?_)
    · refine a_ret ?_
      refine a_op ?_
      refine a_var rfl ?_
      refine a_var rfl ?_
      obtain ⟨x5, v4, h6, h7, h8⟩ := Al.ix (al_ints (F := F) (ns := script)) (i := k') (by walk_at "o") (by walk_at "ol")
      refine a_ixL (Same.seq gb.h sq2) h7 ?_
      obtain rfl : v4 = V.int x5 := h8
      exact k _ _ _ (x5) (Gr.of gb cm) (rfl)
    · refine a_next ?_
      try dsimp only
      refine a_ret ?_
      refine a_c ?_
      exact k _ _ _ (0) (Gr.of gb cm) (rfl)
def sp_law (K : PySem.W.Frag) : Sp := fun vs H Q _ => ∃ (a : Addr) (ns : List Int), vs = [.ref a] ∧ SqL K H a (ns.map V.int) ∧ ns.length ≤ 63 ∧ ∀ H', Q (.bl true) H'
theorem ok_law (T : Tx K mg) : FnOk P w K mg base CX0 30 T.a_law T.d_law ["_law_script"] (sp_law K) := by
  refine T.F_law.ok sc_law (fun vs H Q E h => ?_) (fun cdv A outer s H vs Q E hr h => ?_)
  · obtain ⟨a, script, rfl, _⟩ := h
    rfl
  · obtain ⟨a, script, rfl, hS, hl, k⟩ := h
    have hu := hu_of hr
    have gb : Gr0 (fun _ => none) H (fun _ => none) H := Gr0.refl (fun _ _ z => by cases z)
    have cm : Fz S0 (fun _ => none) := fun _ _ _ z => by cases z
    refine ⟨_, (@pss_cons _ _ _ _ _ (ps_set (i := 1) sc_law.nd rfl (Or.inl rfl) (pe_op op_mod (pe_call ((ok_law_cell_at T).mono (by decide)) hr rfl T.m_law_cell_at T.F_law_cell_at.kp T.b_law_cell_at .nil pass0 (pa_cons (pv 0) (pa_cons pe_int pa_nil))) pe_int))
          (@pss_cons _ _ _ _ _ (ps_set (i := 2) sc_law.nd rfl (Or.inl rfl) (pv 1))
          (@pss_cons _ _ _ _ _ (ps_if (pt_cmpR op_eq (pe_op op_mod (pe_call ((ok_law_cell_at T).mono (by decide)) hr rfl T.m_law_cell_at T.F_law_cell_at.kp T.b_law_cell_at .nil pass0 (pa_cons (pv 0) (pa_cons pe_int pa_nil))) pe_int) pe_int (nomark _)) (pss_one (ps_set (i := 2) sc_law.nd rfl (Or.inl rfl) (pe_op op_mod (pe_op op_fdiv (pe_call ((ok_law_cell_at T).mono (by decide)) hr rfl T.m_law_cell_at T.F_law_cell_at.kp T.b_law_cell_at .nil pass0 (pa_cons (pv 0) (pa_cons pe_int pa_nil))) pe_int) pe_int))) pss_nil)
          (@pss_cons _ _ _ _ _ (ps_set (i := 3) sc_law.nd rfl (Or.inl rfl) (pe_un un_neg pe_int))
          (@pss_cons _ _ _ _ _ (ps_if (pt_cmpR op_eq (pe_op op_mod (pe_call ((ok_law_cell_at T).mono (by decide)) hr rfl T.m_law_cell_at T.F_law_cell_at.kp T.b_law_cell_at .nil pass0 (pa_cons (pv 0) (pa_cons pe_int pa_nil))) pe_int) pe_int (nomark _)) (pss_one (ps_set (i := 3) sc_law.nd rfl (Or.inl rfl) (pe_op op_mod (pe_op op_fdiv (pe_call ((ok_law_cell_at T).mono (by decide)) hr rfl T.m_law_cell_at T.F_law_cell_at.kp T.b_law_cell_at .nil pass0 (pa_cons (pv 0) (pa_cons pe_int pa_nil))) pe_int) pe_int))) pss_nil)
          (@pss_cons _ _ _ _ _ (ps_asg (pe_call ((ok_law_term T).mono (by decide)) hr rfl T.m_law_term T.F_law_term.kp T.b_law_term .nil pass0 (pa_cons (pe_slice sl_list (pv 0) (po_some pe_int) (po_some pe_int)) (pa_cons (pv 1) (pa_cons (pv 3) pa_nil)))) (pg_tup rfl (pgs_cons (pg_name (i := 4) sc_law.nd rfl (Or.inr rfl)) (pgs_cons (pg_name (i := 5) sc_law.nd rfl (Or.inl rfl)) pgs_nil))))
          (@pss_cons _ _ _ _ _ (ps_asg (pe_call ((ok_law_term T).mono (by decide)) hr rfl T.m_law_term T.F_law_term.kp T.b_law_term .nil pass0 (pa_cons (pe_slice sl_list (pv 0) (po_some pe_int) (po_some pe_int)) (pa_cons (pv 2) (pa_cons (pe_un un_neg pe_int) pa_nil)))) (pg_tup rfl (pgs_cons (pg_name (i := 6) sc_law.nd rfl (Or.inr rfl)) (pgs_cons (pg_name (i := 7) sc_law.nd rfl (Or.inl rfl)) pgs_nil))))
          (@pss_cons _ _ _ _ _ (ps_set (i := 5) sc_law.nd rfl (Or.inl rfl) (pe_op op_catS (pv 5) (pv 7)))
          (@pss_cons _ _ _ _ _ (ps_setC (i := 8) (N := ["_law_word"]) (ix := [none]) sc_law.nd rfl (Or.inl rfl) rfl (pi_list (pv 5)) (fun _ _ _ _ _ => (pg_name (i := 0) (show List.Nodup (["_law_word"] : List Str) from by decide) rfl (Or.inl rfl))) (fun _ _ _ _ _ => (pts_one (pt_cmpR (show OpR _ _ (rIn K false) from op_in_seq) (pv 0) (pe_lst (pa_cons pe_str (pa_cons pe_str (pa_cons pe_str (pa_cons pe_str (pa_cons pe_str pa_nil)))))) (by with_unfolding_all rfl)))) (fun _ _ _ _ _ => (pv 0)) True.intro)
          (@pss_cons _ _ _ _ _ (ps_set (i := 9) sc_law.nd rfl (Or.inl rfl) pe_str)
          (@pss_cons _ _ _ _ _ (ps_if (pt_cmpR (op_neE hr.units) (pv 8) (pe_lst pa_nil) (nomark _)) (pss_one (ps_set (i := 9) sc_law.nd rfl (Or.inl rfl) pe_str)) pss_nil)
          (@pss_cons _ _ _ _ _ (ps_if (PW.pt (pw_and (pt_cmpR (op_neE hr.units) (pv 8) (pe_lst pa_nil) (nomark _)) (pw_and1 (pt_cmpR op_lt (pe_callB call_len_seq rfl T.z_len rfl (pa_cons (pv 8) pa_nil)) (pe_callB call_len_seq rfl T.z_len rfl (pa_cons (pv 5) pa_nil)) (nomark _))))) (pss_one (ps_set (i := 9) sc_law.nd rfl (Or.inl rfl) pe_str)) pss_nil)
          (pss_one (ps_ret (pe_cmpR (op_eqQ (K := K) (A := (rL K rS)) rfl hr.units) (pe_comp (N := ["_law_kind", "_law_near", "_law_far"]) (ix := [none, some 4, some 6]) rfl (pi_range1 rfl T.z_range (pa_cons pe_int pa_nil)) (fun _ _ _ _ _ => (pg_name (i := 0) (show List.Nodup (["_law_kind", "_law_near", "_law_far"] : List Str) from by decide) rfl (Or.inl rfl))) (fun _ _ _ _ _ => pts_nil) (fun _ _ _ _ _ => (pe_call ((ok_law_made T).mono (by decide)) hr rfl T.m_law_made T.F_law_made.kp T.b_law_made .nil pass0 (pa_cons (pv 0) (pa_cons (pv 1) (pa_cons (pv 2) pa_nil))))) ⟨rfl, rfl, rfl, ⟨rfl, rfl, rfl, True.intro⟩⟩) (pe_lst (pa_cons (pv 9) (pa_cons (pv 9) (pa_cons (pv 9) pa_nil)))) (nomark _)))))))))))))))), ?_⟩
    refine a_seq ?_
    refine a_asg ?_
    refine a_op ?_
    refine a_call ?_
    refine a_cons ?_
    refine a_var rfl ?_
    refine a_cons ?_
    refine a_c ?_
    refine a_nil ?_
    refine ⟨(fun _ => none), _, _, script, 0, rfl, gb.s, ⟨_, rfl, (Same.seq gb.h hS)⟩, rfl, (by walk_at "o"), ?_⟩
    rintro v1 F2 H3 rz4 g5 hr6 
    have gb8 := gb.tr g5
    have le9 := g5.le
    have cm10 := g5.fz cm
    obtain rfl : v1 = V.int rz4 := hr6
    refine a_c ?_
    refine a_I (by decide) ?_
    have m11 : 0 ≤ (rz4 % 3) ∧ (rz4 % 3) < 3 := ⟨Int.emod_nonneg _ (by decide), Int.emod_lt_of_pos _ (by decide)⟩
    refine a_name ?_
    try dsimp only
    refine a_seq ?_
    refine a_asg ?_
    refine a_var rfl ?_
    refine a_name ?_
    try dsimp only
    refine a_seqM (fun σ' H' => Ex2 fun (F12 : Hp) (other13 : Int) => Cj5 (σ' = [some (V.ref a), some (V.int (rz4 % 3)), some (V.int other13), none, none, none, none, none, none, none]) (Gr0 (fun _ => none) H F12 H') (Fz S0 F12) (Le F2 F12) ((0 ≤ other13 ∧ other13 ≤ 2))) (fun R hR => ?_) ?_
    · refine a_if ?_
      refine a_test ?_
      refine a_op ?_
      refine a_op ?_
      refine a_call ?_
      refine a_cons ?_
      refine a_var rfl ?_
      refine a_cons ?_
      refine a_c ?_
      refine a_nil ?_
      refine ⟨F2, _, _, script, 1, rfl, gb8.s, ⟨_, rfl, (Same.seq gb8.h hS)⟩, rfl, (by walk_at "o"), ?_⟩
      rintro v14 F15 H16 r17 g18 hr19 
      have gb21 := gb8.tr g18
      have le22 := g18.le
      have cm23 := g18.fz cm10
      obtain rfl : v14 = V.int r17 := hr19
      refine a_c ?_
      refine a_I (by decide) ?_
      have m24 : 0 ≤ (r17 % 4) ∧ (r17 % 4) < 4 := ⟨Int.emod_nonneg _ (by decide), Int.emod_lt_of_pos _ (by decide)⟩
      refine a_c ?_
      refine a_eqI ?_
      refine a_bl ?_
      refine iteD (fun c25 => ?_) (fun c25 => ?_)
      · refine a_asg ?_
        refine a_op ?_
        refine a_op ?_
        refine a_call ?_
        refine a_cons ?_
        refine a_var rfl ?_
        refine a_cons ?_
        refine a_c ?_
        refine a_nil ?_
        refine ⟨F15, _, _, script, 1, rfl, gb21.s, ⟨_, rfl, (Same.seq gb21.h hS)⟩, rfl, (by walk_at "o"), ?_⟩
        rintro v26 F27 H28 r29 g30 hr31 
        have gb33 := gb21.tr g30
        have le34 := g30.le
        have cm35 := g30.fz cm23
        obtain rfl : v26 = V.int r29 := hr31
        refine a_c ?_
        refine a_I ⟨by decide, by decide⟩ ?_
        refine a_c ?_
        refine a_I (by decide) ?_
        have m36 : 0 ≤ ((r29 / 4) % 3) ∧ ((r29 / 4) % 3) < 3 := ⟨Int.emod_nonneg _ (by decide), Int.emod_lt_of_pos _ (by decide)⟩
        refine a_name ?_
        try dsimp only
        exact hR _ _ ⟨F27, ((r29 / 4) % 3), rfl, gb33, cm35, (le22.trans le34), by omega⟩
      · refine a_next ?_
        try dsimp only
        exact hR _ _ ⟨F15, (rz4 % 3), rfl, gb21, cm23, le22, by omega⟩
    · rintro σ' H37 ⟨F38, other42, rfl, gb39, cm40, le41, ⟨o1, o2⟩⟩
      refine a_seq ?_
      refine a_asg ?_
      refine a_un ?_
      refine a_c ?_
      refine a_U ?_
      refine a_name ?_
      try dsimp only
      refine a_seqM (fun σ' H' => Ex2 fun (F43 : Hp) (odd44 : Int) => Cj5 (σ' = [some (V.ref a), some (V.int (rz4 % 3)), some (V.int other42), some (V.int odd44), none, none, none, none, none, none]) (Gr0 (fun _ => none) H F43 H') (Fz S0 F43) (Le F38 F43) ((True))) (fun R hR => ?_) ?_
      · refine a_if ?_
        refine a_test ?_
        refine a_op ?_
        refine a_op ?_
        refine a_call ?_
        refine a_cons ?_
        refine a_var rfl ?_
        refine a_cons ?_
        refine a_c ?_
        refine a_nil ?_
        refine ⟨F38, _, _, script, 1, rfl, gb39.s, ⟨_, rfl, (Same.seq gb39.h hS)⟩, rfl, (by walk_at "o"), ?_⟩
        rintro v45 F46 H47 r48 g49 hr50 
        have gb52 := gb39.tr g49
        have le53 := g49.le
        have cm54 := g49.fz cm40
        obtain rfl : v45 = V.int r48 := hr50
        refine a_c ?_
        refine a_I (by decide) ?_
        have m55 : 0 ≤ (r48 % 4) ∧ (r48 % 4) < 4 := ⟨Int.emod_nonneg _ (by decide), Int.emod_lt_of_pos _ (by decide)⟩
        refine a_c ?_
        refine a_eqI ?_
        refine a_bl ?_
        refine iteD (fun c56 => ?_) (fun c56 => ?_)
        · refine a_asg ?_
          refine a_op ?_
          refine a_op ?_
          refine a_call ?_
          refine a_cons ?_
          refine a_var rfl ?_
          refine a_cons ?_
          refine a_c ?_
          refine a_nil ?_
          refine ⟨F46, _, _, script, 1, rfl, gb52.s, ⟨_, rfl, (Same.seq gb52.h hS)⟩, rfl, (by walk_at "o"), ?_⟩
          rintro v57 F58 H59 r60 g61 hr62 
          have gb64 := gb52.tr g61
          have le65 := g61.le
          have cm66 := g61.fz cm54
          obtain rfl : v57 = V.int r60 := hr62
          refine a_c ?_
          refine a_I ⟨by decide, by decide⟩ ?_
          refine a_c ?_
          refine a_I (by decide) ?_
          have m67 : 0 ≤ ((r60 / 4) % 5) ∧ ((r60 / 4) % 5) < 5 := ⟨Int.emod_nonneg _ (by decide), Int.emod_lt_of_pos _ (by decide)⟩
          refine a_name ?_
          try dsimp only
          exact hR _ _ ⟨F58, ((r60 / 4) % 5), rfl, gb64, cm66, (le53.trans le65), by trivial⟩
        · refine a_next ?_
          try dsimp only
          exact hR _ _ ⟨F46, (-1), rfl, gb52, cm54, le53, by trivial⟩
      · rintro σ' H68 ⟨F69, odd73, rfl, gb70, cm71, le72, _⟩
        refine a_seq ?_
        refine a_asg ?_
        refine a_call ?_
        refine a_cons ?_
        refine a_sl ?_
        refine a_var rfl ?_
        refine a_part ?_
        refine a_c ?_
        refine a_pint ?_
        refine a_part ?_
        refine a_c ?_
        refine a_pint ?_
        refine ⟨_, _, rfl, (Same.seq gb70.h hS), fun p74 hp75 => ?_⟩
        obtain ⟨F76, g78, e79⟩ := al2 (o := (.lst (cutV (script.map V.int) (some 2) (some 7)))) gb70.s (by intro _ _ z; cases z) hp75
        generalize upd H68 p74 (.lst (cutV (script.map V.int) (some 2) (some 7))) = H77 at g78 ⊢
        have gb80 := gb70.tr g78
        have le81 := g78.le
        have cm82 := g78.fz cm71
        have al83 := Al.cut (some 2) (some 7) (al_ints (F := F76) (ns := script))
        have ln84 : (cutA script (some 2) (some 7)).length ≤ script.length := cutA_le _ _ _
        have ln85 : (cutA script (some 2) (some 7)).length ≤ 5 := cutA_most script 2 7
        refine a_cons ?_
        refine a_var rfl ?_
        refine a_cons ?_
        refine a_var rfl ?_
        refine a_nil ?_
        refine ⟨F76, _, _, _, (cutA script (some 2) (some 7)), (rz4 % 3), odd73, rfl, gb80.s, ⟨_, _, rfl, (SqL.of e79), al83⟩, rfl, rfl, (by exact ⟨by omega, by omega, by omega⟩), ?_⟩
        rintro v86 F87 H88 r89 g90 hr91 hp92
        have gb93 := gb80.tr g90
        have le94 := g90.le
        have cm95 := g90.fz cm82
        obtain ⟨a96, v98, v99, rfl, sq97, h100, h101⟩ := hr91
        obtain ⟨a102, vs103, rfl, sq104, al105⟩ := h101
        obtain ⟨a1, a2, a3, a4⟩ := hp92
        refine a_gtup2 (Same.tup gb93.s sq97) ?_
        try dsimp only
        refine a_seq ?_
        refine a_asg ?_
        refine a_call ?_
        refine a_cons ?_
        refine a_sl ?_
        refine a_var rfl ?_
        refine a_part ?_
        refine a_c ?_
        refine a_pint ?_
        refine a_part ?_
        refine a_c ?_
        refine a_pint ?_
        refine ⟨_, _, rfl, (Same.seq gb93.h hS), fun p106 hp107 => ?_⟩
        obtain ⟨F108, g110, e111⟩ := al2 (o := (.lst (cutV (script.map V.int) (some 7) (some 12)))) gb93.s (by intro _ _ z; cases z) hp107
        generalize upd H88 p106 (.lst (cutV (script.map V.int) (some 7) (some 12))) = H109 at g110 ⊢
        have gb112 := gb93.tr g110
        have le113 := g110.le
        have cm114 := g110.fz cm95
        have al115 := Al.cut (some 7) (some 12) (al_ints (F := F108) (ns := script))
        have ln116 : (cutA script (some 7) (some 12)).length ≤ script.length := cutA_le _ _ _
        have ln117 : (cutA script (some 7) (some 12)).length ≤ 5 := cutA_most script 7 12
        refine a_cons ?_
        refine a_var rfl ?_
        refine a_cons ?_
        refine a_un ?_
        refine a_c ?_
        refine a_U ?_
        refine a_nil ?_
        refine ⟨F108, _, _, _, (cutA script (some 7) (some 12)), other42, (-1), rfl, gb112.s, ⟨_, _, rfl, (SqL.of e111), al115⟩, rfl, rfl, (by exact ⟨by omega, by omega, by omega⟩), ?_⟩
        rintro v118 F119 H120 r121 g122 hr123 hp124
        have gb125 := gb112.tr g122
        have le126 := g122.le
        have cm127 := g122.fz cm114
        obtain ⟨a128, v130, v131, rfl, sq129, h132, h133⟩ := hr123
        obtain ⟨a134, vs135, rfl, sq136, al137⟩ := h133
        obtain ⟨b1, b2, b3, b4⟩ := hp124
        refine a_gtup2 (Same.tup gb125.s sq129) ?_
        try dsimp only
        refine a_seq ?_
        refine a_asg ?_
        refine a_op ?_
        refine a_var rfl ?_
        refine a_var rfl ?_
        have al138 := (Al.mo (le113.trans le126) al105)
        have al139 := al137
        refine ⟨_, _, _, _, rfl, rfl, (Same.seq gb125.s (Le.lst (le113.trans le126) sq104)), (Same.seq gb125.s sq136), (Nat.le_trans (show _ ≤ 100000 by rw [Al.length al138, Al.length al139]; walk_at "ol") (by decide)), fun p140 hp141 => ?_⟩
        obtain ⟨F142, g144, e145⟩ := al2 (o := (.lst (vs103 ++ vs135))) gb125.s (by intro _ _ z; cases z) hp141
        generalize upd H120 p140 (.lst (vs103 ++ vs135)) = H143 at g144 ⊢
        have gb146 := gb125.tr g144
        have le147 := g144.le
        have cm148 := g144.fz cm127
        have al149 := Al.mo le147 (Al.app al138 al139)
        refine a_name ?_
        try dsimp only
        refine a_seq ?_
        refine a_asg ?_
        refine a_comp ?_
        refine a_ilist ?_
        refine a_var rfl ?_
        have hml152 : ((r89.2 ++ r121.2)).length ≤ 1000000 := by rw [List.length_append]; omega
        refine ⟨_, rfl, ⟨_, (Same.seq gb146.s (SqL.of e145))⟩, comp_list (K := K) (a := p140) (xs := (vs103 ++ vs135)) (fun i acc H' => Ex2 fun (F150 : Hp) (ts151 : List Str) => Cj7 (True) (Gr0 (fun _ => none) H F150 H') (Fz S0 F150) (Le F142 F150) (Al rS F150 acc ts151) (ts151.length ≤ i) ((ts151 = ((r89.2 ++ r121.2).take i).filter (fun x => decide (x ∈ dwn))))) ?_ ?_ ?_ ?_⟩
        · exact ⟨F142, [], True.intro, gb146, cm148, Le.refl _, (show Al rS F142 [] [] from True.intro), (by first | (simp; done) | (rw [List.length_append]; simp only [List.length_cons, List.length_nil]; omega) | omega), by rfl⟩
        · rintro i acc H153 _ ⟨F154, ts158, _, gb155, cm156, le157, al159, tl160, q1⟩
          exact (Same.seq gb155.s (Le.lst le157 (SqL.of e145)))
        · rintro i161 y164 acc165 H162 hi163 ⟨F166, ts170, _, gb167, cm168, le169, al171, tl172, q1⟩
          obtain ⟨x173, hx174, hr175⟩ := Al.get (Al.mo le169 al149) hi163
          have hil := (List.getElem?_eq_some_iff.mp hx174).1
          refine a_name ?_
          obtain rfl : y164 = V.str x173 := hr175
          refine ⟨Wk.non (Wk.nil), ?_⟩
          try dsimp only
          refine a_test ?_
          refine a_op ?_
          refine a_var rfl ?_
          refine a_lst ?_
          refine a_cons ?_
          refine a_c ?_
          have ln176 : ("top" : Str).length = 3 := by decide +kernel
          refine a_cons ?_
          refine a_c ?_
          have ln177 : ("height" : Str).length = 6 := by decide +kernel
          refine a_cons ?_
          refine a_c ?_
          have ln178 : ("bottom" : Str).length = 6 := by decide +kernel
          refine a_cons ?_
          refine a_c ?_
          have ln179 : ("centre" : Str).length = 6 := by decide +kernel
          refine a_cons ?_
          refine a_c ?_
          have ln180 : ("drop" : Str).length = 4 := by decide +kernel
          refine a_nil ?_
          refine ⟨by show 5 ≤ sizeLine; decide, fun p181 hp182 => ?_⟩
          obtain ⟨F183, g185, e186⟩ := al2 (o := (.lst [V.str ("top" : Str), V.str ("height" : Str), V.str ("bottom" : Str), V.str ("centre" : Str), V.str ("drop" : Str)])) gb167.s (by intro _ _ z; cases z) hp182
          generalize upd H162 p181 (.lst [V.str ("top" : Str), V.str ("height" : Str), V.str ("bottom" : Str), V.str ("centre" : Str), V.str ("drop" : Str)]) = H184 at g185 ⊢
          have gb187 := gb167.tr g185
          have le188 := g185.le
          have cm189 := g185.fz cm168
          have al190 : Al rS F183 [.str ("top" : Str), .str ("height" : Str), .str ("bottom" : Str), .str ("centre" : Str), .str ("drop" : Str)] [("top" : Str), ("height" : Str), ("bottom" : Str), ("centre" : Str), ("drop" : Str)] := ⟨rfl, ⟨rfl, ⟨rfl, ⟨rfl, ⟨rfl, True.intro⟩⟩⟩⟩⟩
          refine a_inS (Same.seq gb187.s (SqL.of e186)) al190 ?_
          refine a_bl ?_
          refine iteD (fun c191 => ?_) (fun c191 => ?_)
          · refine a_var rfl ?_
            refine ⟨by rw [Al.length (Al.mo le188 al171)]; have := sizeLine_big; omega, ?_⟩
            exact ⟨F183, (ts170 ++ [x173]), True.intro, gb187, cm189, (le169.trans le188), (Al.snoc (Al.mo le188 al171) rfl), (by first | (simp; done) | (rw [List.length_append]; simp only [List.length_cons, List.length_nil]; omega) | omega), by rw [q1]; exact (filt_yes hx174 (by assumption)).symm⟩
          · exact ⟨F183, ts170, True.intro, gb187, cm189, (le169.trans le188), (Al.mo le188 al171), (by first | (simp; done) | (rw [List.length_append]; simp only [List.length_cons, List.length_nil]; omega) | omega), by rw [q1]; exact (filt_no hx174 (by assumption)).symm⟩
        · rintro acc193 H192 ⟨F194, ts198, _, gb195, cm196, le197, al199, tl200, q1⟩
          have hlen := Al.length (Al.mo le197 al149)
          refine ⟨(by rw [Al.length al199]; have := sizeLine_big; omega), fun p201 hp202 => ?_⟩
          obtain ⟨F203, g205, e206⟩ := al2 (o := (.lst acc193)) gb195.s (by intro _ _ z; cases z) hp202
          generalize upd H192 p201 (.lst acc193) = H204 at g205 ⊢
          have gb207 := gb195.tr g205
          have le208 := g205.le
          have cm209 := g205.fz cm196
          rw [hlen, List.take_length] at q1
          refine a_name ?_
          try dsimp only
          refine a_seq ?_
          refine a_asg ?_
          refine a_c ?_
          have ln210 : ("across" : Str).length = 6 := by decide +kernel
          refine a_name ?_
          try dsimp only
          refine a_seqM (fun σ' H' => Ex2 fun (F211 : Hp) (due212 : Str) => Cj5 (σ' = [some (V.ref a), some (V.int (rz4 % 3)), some (V.int other42), some (V.int odd73), some (v98), some (V.ref p140), some (v130), some (V.ref a134), some (V.ref p201), some (V.str due212)]) (Gr0 (fun _ => none) H F211 H') (Fz S0 F211) (Le F203 F211) ((due212 = (if ts198.length = 0 then ("across" : Str) else "down")))) (fun R hR => ?_) ?_
          · refine a_if ?_
            refine a_test ?_
            refine a_op ?_
            refine a_var rfl ?_
            refine a_lst ?_
            refine a_nil ?_
            refine ⟨by show 0 ≤ sizeLine; decide, fun p213 hp214 => ?_⟩
            obtain ⟨gb216, sm217, hb218, oF219, oH220, ne221⟩ := alo2 (o := (.lst [])) gb207 hp214
            generalize upd H204 p213 (.lst []) = H215 at gb216 sm217 oH220 ⊢
            refine ⟨_, _, _, rfl, rfl, (Same.seq gb216.s (SqL.of e206)), (SqL.of oH220), ?_⟩
            rw [Al.length (Al.mo le208 al199)]
            refine a_bl ?_
            refine iteDN (fun c222 => ?_) (fun c222 => ?_)
            · refine a_asg ?_
              refine a_c ?_
              have ln223 : ("down" : Str).length = 4 := by decide +kernel
              refine a_name ?_
              try dsimp only
              exact hR _ _ ⟨F203, ("down" : Str), rfl, gb216, cm209, Le.refl _, by first | exact (if_neg (by assumption)).symm | exact (if_pos (by assumption)).symm⟩
            · refine a_next ?_
              try dsimp only
              exact hR _ _ ⟨F203, ("across" : Str), rfl, gb216, cm209, Le.refl _, by first | exact (if_neg (by assumption)).symm | exact (if_pos (by assumption)).symm⟩
          · rintro σ' H224 ⟨F225, due229, rfl, gb226, cm227, le228, d1⟩
            refine a_seqM (fun σ' H' => Ex2 fun (F230 : Hp) (due231 : Str) => Cj5 (σ' = [some (V.ref a), some (V.int (rz4 % 3)), some (V.int other42), some (V.int odd73), some (v98), some (V.ref p140), some (v130), some (V.ref a134), some (V.ref p201), some (V.str due231)]) (Gr0 (fun _ => none) H F230 H') (Fz S0 F230) (Le F225 F230) ((due231 = dueS r89.1 r121.1))) (fun R hR => ?_) ?_
            · refine a_if ?_
              refine a_and ?_
              refine a_test ?_
              refine a_op ?_
              refine a_var rfl ?_
              refine a_lst ?_
              refine a_nil ?_
              refine ⟨by show 0 ≤ sizeLine; decide, fun p232 hp233 => ?_⟩
              obtain ⟨gb235, sm236, hb237, oF238, oH239, ne240⟩ := alo2 (o := (.lst [])) gb226 hp233
              generalize upd H224 p232 (.lst []) = H234 at gb235 sm236 oH239 ⊢
              refine ⟨_, _, _, rfl, rfl, (Same.seq gb235.s (Le.lst le228 (SqL.of e206))), (SqL.of oH239), ?_⟩
              rw [Al.length (Al.mo le228 (Al.mo le208 al199))]
              refine a_bl ?_
              refine iteDN (fun c241 => ?_) (fun c241 => ?_)
              · refine a_test ?_
                refine a_op ?_
                refine a_cb ?_
                refine a_cons ?_
                refine a_var rfl ?_
                refine a_nil ?_
                refine ⟨_, _, rfl, .inl (Same.seq gb235.s (Le.lst le228 (SqL.of e206))), ?_⟩
                rw [Al.length (Al.mo le228 (Al.mo le208 al199))]
                refine a_cb ?_
                refine a_cons ?_
                refine a_var rfl ?_
                refine a_nil ?_
                refine ⟨_, _, rfl, .inl (Same.seq gb235.s (Le.lst ((le197.trans le208).trans le228) (SqL.of e145))), ?_⟩
                rw [Al.length (Al.mo ((le197.trans le208).trans le228) al149)]
                refine a_I0 ?_
                refine a_bl ?_
                refine iteD (fun c242 => ?_) (fun c242 => ?_)
                · refine a_asg ?_
                  refine a_c ?_
                  have ln243 : ("mixed" : Str).length = 5 := by decide +kernel
                  refine a_name ?_
                  try dsimp only
                  exact hR _ _ ⟨F225, ("mixed" : Str), rfl, gb235, cm227, Le.refl _, by first | exact due_mix a4 b4 q1 (by assumption) (by assumption) | exact due_down a4 b4 q1 d1 (by assumption) (by assumption) | exact due_acr a4 b4 q1 d1 (by assumption)⟩
                · refine a_next ?_
                  try dsimp only
                  exact hR _ _ ⟨F225, due229, rfl, gb235, cm227, Le.refl _, by first | exact due_mix a4 b4 q1 (by assumption) (by assumption) | exact due_down a4 b4 q1 d1 (by assumption) (by assumption) | exact due_acr a4 b4 q1 d1 (by assumption)⟩
              · refine iteF ?_
                refine a_next ?_
                try dsimp only
                exact hR _ _ ⟨F225, due229, rfl, gb235, cm227, Le.refl _, by first | exact due_mix a4 b4 q1 (by assumption) (by assumption) | exact due_down a4 b4 q1 d1 (by assumption) (by assumption) | exact due_acr a4 b4 q1 d1 (by assumption)⟩
            · rintro σ' H244 ⟨F245, due249, rfl, gb246, cm247, le248, e1⟩
              refine a_ret ?_
              refine a_op ?_
              refine a_comp ?_
              refine a_rng1 ?_
              refine a_cons ?_
              refine a_c ?_
              refine a_nil ?_
              have hml252 : (Int.toNat 3) ≤ 1000000 := by omega
              refine ⟨_, rfl, by first | omega | walk_at "o", by first | omega | walk_at "o", comp_range (lo := 0) (n := (Int.toNat 3)) (fun i acc H' => Ex2 fun (F250 : Hp) (ts251 : List Str) => Cj7 (True) (Gr0 (fun _ => none) H F250 H') (Fz S0 F250) (Le F245 F250) (Al rS F250 acc ts251) (ts251.length ≤ i) ((ts251 = List.replicate i (dueS r89.1 r121.1)))) ?_ ?_ ?_⟩
              · exact ⟨F245, [], True.intro, gb246, cm247, Le.refl _, (show Al rS F245 [] [] from True.intro), (by first | (simp; done) | (rw [List.length_append]; simp only [List.length_cons, List.length_nil]; omega) | omega), by rfl⟩
              · rintro i253 acc256 H254 hi255 ⟨F257, ts261, _, gb258, cm259, le260, al262, tl263, q5⟩
                rw [show (0 : Int) + (i253 : Int) = (i253 : Int) from Int.zero_add _]
                refine a_name ?_
                refine ⟨Wk.non (Wk.som (Wk.som (Wk.nil))), ?_⟩
                try dsimp only
                refine a_yes ?_
                refine iteT ?_
                refine a_call ?_
                refine a_cons ?_
                refine a_var rfl ?_
                refine a_cons ?_
                refine a_var rfl ?_
                refine a_cons ?_
                refine a_var rfl ?_
                refine a_nil ?_
                refine ⟨F257, _, _, _, (i253 : Int), r89.1, r121.1, rfl, gb258.s, rfl, (Mo.mo (((((((le113.trans le126).trans le147).trans le197).trans le208).trans le228).trans le248).trans le260) h100), (Mo.mo (((((le147.trans le197).trans le208).trans le228).trans le248).trans le260) h132), (by exact ⟨by omega, by omega, by omega, by omega⟩), ?_⟩
                rintro v264 F265 H266  g268 hr269 
                have gb271 := gb258.tr g268
                have le272 := g268.le
                have cm273 := g268.fz cm259
                obtain rfl : v264 = V.str (dueS r89.1 r121.1) := hr269
                refine ⟨by rw [Al.length (Al.mo le272 al262)]; have := sizeLine_big; omega, ?_⟩
                exact ⟨F265, (ts261 ++ [(dueS r89.1 r121.1)]), True.intro, gb271, cm273, (le260.trans le272), (Al.snoc (Al.mo le272 al262) rfl), (by first | (simp; done) | (rw [List.length_append]; simp only [List.length_cons, List.length_nil]; omega) | omega), by rw [q5, List.replicate_succ']⟩
              · rintro acc275 H274 ⟨F276, ts280, _, gb277, cm278, le279, al281, tl282, q5⟩
                refine ⟨(by rw [Al.length al281]; have := sizeLine_big; omega), fun p283 hp284 => ?_⟩
                obtain ⟨F285, g287, e288⟩ := al2 (o := (.lst acc275)) gb277.s (by intro _ _ z; cases z) hp284
                generalize upd H274 p283 (.lst acc275) = H286 at g287 ⊢
                have gb289 := gb277.tr g287
                have le290 := g287.le
                have cm291 := g287.fz cm278
                skip
                refine a_lst ?_
                refine a_cons ?_
                refine a_var rfl ?_
                refine a_cons ?_
                refine a_var rfl ?_
                refine a_cons ?_
                refine a_var rfl ?_
                refine a_nil ?_
                refine ⟨by show 3 ≤ sizeLine; decide, fun p292 hp293 => ?_⟩
                obtain ⟨F294, g296, e297⟩ := al2 (o := (.lst [V.str due249, V.str due249, V.str due249])) gb289.s (by intro _ _ z; cases z) hp293
                generalize upd H286 p292 (.lst [V.str due249, V.str due249, V.str due249]) = H295 at g296 ⊢
                have gb298 := gb289.tr g296
                have le299 := g296.le
                have cm300 := g296.fz cm291
                have al301 : Al rS F294 [.str due249, .str due249, .str due249] [due249, due249, due249] := ⟨rfl, ⟨rfl, ⟨rfl, True.intro⟩⟩⟩
                refine ⟨F294, ts280, [due249, due249, due249], gb298.s, ⟨_, _, rfl, (Le.lst le299 (SqL.of e288)), (Al.mo le299 (Al.mo le290 al281))⟩, ⟨_, _, rfl, (SqL.of e297), al301⟩, ?_⟩
                rw [show (decide (ts280 = [due249, due249, due249])) = true from by rw [q5, e1]; exact decide_eq_true rfl]
                exact k _
end
theorem walk {l : PySem.W.OpenLaw} {q : Program} {loose : List Str} {XP : (Str → Option Value) → Heap → Prop} {YP : World → Heap → Prop} {d : DefRec} {K : Params → PySem.W.Frag} (hn : l.most = some 63) (hdf : d.params.defaults = []) (hnm : d.name = "law")
    (hY : ∀ (w : World) (h : Heap), YP w h → (K w.params).In h)
    (F : ∀ (w : World) (mg : Str → Option Value) (h : Heap), (K w.params).In h → h.Ns mainGlobals mg → Nonempty (Tx (K w.params) mg)) :
    PySem.W.WalkO q loose XP YP l.row.toRowW d [] (fun f vs => PySem.call f vs) := by
  refine L2.walk_of (n := 63) (k := 30) (x := "_law_script") (CX := fun _ => CX0) (sp := fun w => sp_law (K w.params)) hn (by decide) hdf ⟨rfl, by decide, by decide⟩ hY ?_ (fun _ _ a ns hl _ hS => ⟨a, ns, rfl, hS, hl, fun _ => rfl⟩) fun _ _ _ _ _ z => z
  intro w mg fa h KX G hmg
  obtain ⟨T⟩ := F w mg h KX G
  rw [hnm] at hmg
  have e := hmg.symm.trans T.m_law
  cases e
  refine ⟨T.d_law, fun s v => ?_, fun base _ _ => ok_law T⟩
  obtain ⟨oc, od, kV, doc, pm, an, cdv, ct, osl, hfd, lk, hcd⟩ := T.F_law.ex
  rw [hfd]
  exact .of_eq rfl
end Sf
/-! no twins of the start-up's heaps: their names are taken -/
def PySem.W.Fast.tw18426183395956747860 : Unit := ()
def PySem.W.Fast.tw3723049000581221331 : Unit := ()
def PySem.W.Fast.tw4370028333690023394 : Unit := ()
def PySem.W.Fast.tw1801591551529341786 : Unit := ()
def PySem.W.Fast.tw12646395131446827399 : Unit := ()
def PySem.W.Fast.tw4171466160351864370 : Unit := ()
def PySem.W.Fast.tw7993905018926759639 : Unit := ()
def PySem.W.Fast.tw10458845931030746458 : Unit := ()
def PySem.W.Fast.tw14593444711246715881 : Unit := ()
def PySem.W.Fast.tw7536988313119671756 : Unit := ()
def PySem.W.Fast.tw4281223055175662787 : Unit := ()
def PySem.W.Fast.tw4019270100980604903 : Unit := ()
def PySem.W.Fast.tw15275810789968034575 : Unit := ()
def PySem.W.Fast.tw7334225514886348899 : Unit := ()
def PySem.W.Fast.tw11215501748239302340 : Unit := ()
def PySem.W.Fast.tw554138870681496765 : Unit := ()
def PySem.W.Fast.tw15675076678805834558 : Unit := ()
def PySem.W.Fast.tw978206507555314061 : Unit := ()
def PySem.W.Fast.tw5518078660890227054 : Unit := ()
def PySem.W.Fast.tw10227849962772848142 : Unit := ()
def PySem.W.Fast.tw3078853365513528729 : Unit := ()
def PySem.W.Fast.tw7178659119270259326 : Unit := ()
def PySem.W.Fast.tw8496378059733943846 : Unit := ()
def PySem.W.Fast.tw15357518640542121269 : Unit := ()
open PySem PySem.W PyProof.Rows
set_option maxRecDepth 100000 in
set_option maxHeartbeats 0 in
theorem PySem.Challenge.cw_springframe_k13_across_and_down_holds : PySem.Challenge.rw_springframe_k13_across_and_down.Holds := by
  w_on; o_law; k_head; (case hw => w_witness2)
  k_fill
  refine Sf.walk (l := PySem.Challenge.rw_springframe_k13_across_and_down) rfl rfl rfl (fun w h Y => PySem.W.kIn_of Y) ?F
  case F =>
    intro w mg h KX G
    refine' ⟨Sf.tx_mk KX G ?wn_Number ?wa_Number ?wb_Number ?wc_Number ?wd_Number ?wf_Number_number ?wn_Edge ?wa_Edge ?wb_Edge ?wc_Edge ?wd_Edge ?wf_Edge_word ?wf_Edge_name ?wn_Times ?wa_Times ?wb_Times ?wc_Times ?wd_Times ?wf_Times_number ?wf_Times_inner ?wn_Plus ?wa_Plus ?wb_Plus ?wc_Plus ?wd_Plus ?wf_Plus_one ?wf_Plus_other ?wn_Minus ?wa_Minus ?wb_Minus ?wc_Minus ?wd_Minus ?wf_Minus_one ?wf_Minus_other ?wn_Just ?wa_Just ?wb_Just ?wc_Just ?wd_Just ?wf_Just_near ?wf_Just_far ?wf_Just_rank ?wf_Just_weight ?wn_AtLeast ?wa_AtLeast ?wb_AtLeast ?wc_AtLeast ?wd_AtLeast ?wf_AtLeast_near ?wf_AtLeast_far ?wf_AtLeast_rank ?wf_AtLeast_weight ?wn_AtMost ?wa_AtMost ?wb_AtMost ?wc_AtMost ?wd_AtMost ?wf_AtMost_near ?wf_AtMost_far ?wf_AtMost_rank ?wf_AtMost_weight ?wn_Wish ?wa_Wish ?wb_Wish ?wc_Wish ?wd_Wish ?wg_Just ?wh_Just ?wi_0 ?wj_0 ?wg_AtLeast ?wh_AtLeast ?wg_AtMost ?wh_AtMost ?wkc_Just_Wish ?wkc_AtLeast_Wish ?wkc_AtMost_Wish ?wkc_NoneType_Wish ?e0 ?l0 ?c0 ?k0 ?e1 ?l1 ?c1 ?k1 ?e2 ?l2 ?c2 ?k2 ?e3 ?l3 ?c3 ?k3 ?e4 ?l4 ?c4 ?k4 ?e5 ?l5 ?c5 ?k5 ?e6 ?l6 ?c6 ?k6 ?we_Number___init__ ?l7 ?c7 ?k7 ?we_Number_edges ?l8 ?c8 ?k8 ?we_Number_ways ?l9 ?c9 ?k9 ?we_Edge___init__ ?l10 ?c10 ?k10 ?we_Edge_edges ?l11 ?c11 ?k11 ?we_Times___init__ ?l12 ?c12 ?k12 ?we_Times_edges ?l13 ?c13 ?k13 ?we_Plus___init__ ?l14 ?c14 ?k14 ?we_Plus_edges ?l15 ?c15 ?k15 ?we_Minus___init__ ?l16 ?c16 ?k16 ?we_Minus_edges ?l17 ?c17 ?k17 ?we_Just___init__ ?l18 ?c18 ?k18 ?we_Just_way ?l19 ?c19 ?k19 ?sn_DOWN ?so_DOWN ?xn_FrameError ?xq_FrameError ?xn_Mixed ?xq_Mixed ?xn_NoName ?xq_NoName ?xn_NoPane ?xq_NoPane ?xn_NoRank ?xq_NoRank ?xn_NoWish ?xq_NoWish ?yfg_Mixed ?yfn_Mixed ?yfc_Mixed ?ymo_Mixed ?ysb_Mixed ?xk_Mixed_FrameError ?xk_Mixed_ValueError ?xkt_Mixed_NoName_NoPane_NoRank_NoWish ?xm_Mixed_Mixed ?z0 ?z1 ?z2 ?z3 ?z4 ?z5 ?z6 ?z7 ?z8 ?ws_7 ?wm_Number ?wk_Number ?ws_8 ?ws_9 ?ws_10 ?wm_Edge ?wk_Edge ?ws_11 ?we_Edge_ways ?ws_12 ?wm_Times ?wk_Times ?ws_13 ?we_Times_ways ?ws_14 ?wm_Plus ?wk_Plus ?ws_15 ?we_Plus_ways ?ws_16 ?wm_Minus ?wk_Minus ?ws_17 ?we_Minus_ways ?ws_18 ?wm_Just ?wk_Just ?ws_19 ?we_AtLeast___init__ ?wm_AtLeast ?wk_AtLeast ?we_AtLeast_way ?we_AtMost___init__ ?wm_AtMost ?wk_AtMost ?we_AtMost_way⟩
    (case wn_Number => k_is)
    (case wa_Number => k_is)
    (case wb_Number => k_is)
    (case wc_Number => k_is)
    (case wd_Number => k_is)
    (case wf_Number_number => k_is)
    (case wn_Edge => k_is)
    (case wa_Edge => k_is)
    (case wb_Edge => k_is)
    (case wc_Edge => k_is)
    (case wd_Edge => k_is)
    (case wf_Edge_word => k_is)
    (case wf_Edge_name => k_is)
    (case wn_Times => k_is)
    (case wa_Times => k_is)
    (case wb_Times => k_is)
    (case wc_Times => k_is)
    (case wd_Times => k_is)
    (case wf_Times_number => k_is)
    (case wf_Times_inner => k_is)
    (case wn_Plus => k_is)
    (case wa_Plus => k_is)
    (case wb_Plus => k_is)
    (case wc_Plus => k_is)
    (case wd_Plus => k_is)
    (case wf_Plus_one => k_is)
    (case wf_Plus_other => k_is)
    (case wn_Minus => k_is)
    (case wa_Minus => k_is)
    (case wb_Minus => k_is)
    (case wc_Minus => k_is)
    (case wd_Minus => k_is)
    (case wf_Minus_one => k_is)
    (case wf_Minus_other => k_is)
    (case wn_Just => k_is)
    (case wa_Just => k_is)
    (case wb_Just => k_is)
    (case wc_Just => k_is)
    (case wd_Just => k_is)
    (case wf_Just_near => k_is)
    (case wf_Just_far => k_is)
    (case wf_Just_rank => k_is)
    (case wf_Just_weight => k_is)
    (case wn_AtLeast => k_is)
    (case wa_AtLeast => k_is)
    (case wb_AtLeast => k_is)
    (case wc_AtLeast => k_is)
    (case wd_AtLeast => k_is)
    (case wf_AtLeast_near => k_is)
    (case wf_AtLeast_far => k_is)
    (case wf_AtLeast_rank => k_is)
    (case wf_AtLeast_weight => k_is)
    (case wn_AtMost => k_is)
    (case wa_AtMost => k_is)
    (case wb_AtMost => k_is)
    (case wc_AtMost => k_is)
    (case wd_AtMost => k_is)
    (case wf_AtMost_near => k_is)
    (case wf_AtMost_far => k_is)
    (case wf_AtMost_rank => k_is)
    (case wf_AtMost_weight => k_is)
    (case wn_Wish => k_is)
    (case wa_Wish => k_is)
    (case wb_Wish => k_is)
    (case wc_Wish => k_is)
    (case wd_Wish => k_is)
    (case wg_Just => k_is)
    (case wh_Just => k_is)
    (case wi_0 => k_is)
    (case wj_0 => k_is)
    (case wg_AtLeast => k_is)
    (case wh_AtLeast => k_is)
    (case wg_AtMost => k_is)
    (case wh_AtMost => k_is)
    (case wkc_Just_Wish => kit_is)
    (case wkc_AtLeast_Wish => kit_is)
    (case wkc_AtMost_Wish => kit_is)
    (case wkc_NoneType_Wish => kit_is)
    (case e0 => k_is)
    (case l0 => k_is)
    (case c0 => k_is)
    (case k0 => k_is)
    (case e1 => k_is)
    (case l1 => k_is)
    (case c1 => k_is)
    (case k1 => k_is)
    (case e2 => k_is)
    (case l2 => k_is)
    (case c2 => k_is)
    (case k2 => k_is)
    (case e3 => k_is)
    (case l3 => k_is)
    (case c3 => k_is)
    (case k3 => k_is)
    (case e4 => k_is)
    (case l4 => k_is)
    (case c4 => k_is)
    (case k4 => k_is)
    (case e5 => k_is)
    (case l5 => k_is)
    (case c5 => k_is)
    (case k5 => k_is)
    (case e6 => k_is)
    (case l6 => k_is)
    (case c6 => k_is)
    (case k6 => k_is)
    (case we_Number___init__ => k_is)
    (case l7 => k_is)
    (case c7 => k_is)
    (case k7 => k_is)
    (case we_Number_edges => k_is)
    (case l8 => k_is)
    (case c8 => k_is)
    (case k8 => k_is)
    (case we_Number_ways => k_is)
    (case l9 => k_is)
    (case c9 => k_is)
    (case k9 => k_is)
    (case we_Edge___init__ => k_is)
    (case l10 => k_is)
    (case c10 => k_is)
    (case k10 => k_is)
    (case we_Edge_edges => k_is)
    (case l11 => k_is)
    (case c11 => k_is)
    (case k11 => k_is)
    (case we_Times___init__ => k_is)
    (case l12 => k_is)
    (case c12 => k_is)
    (case k12 => k_is)
    (case we_Times_edges => k_is)
    (case l13 => k_is)
    (case c13 => k_is)
    (case k13 => k_is)
    (case we_Plus___init__ => k_is)
    (case l14 => k_is)
    (case c14 => k_is)
    (case k14 => k_is)
    (case we_Plus_edges => k_is)
    (case l15 => k_is)
    (case c15 => k_is)
    (case k15 => k_is)
    (case we_Minus___init__ => k_is)
    (case l16 => k_is)
    (case c16 => k_is)
    (case k16 => k_is)
    (case we_Minus_edges => k_is)
    (case l17 => k_is)
    (case c17 => k_is)
    (case k17 => k_is)
    (case we_Just___init__ => k_is)
    (case l18 => k_is)
    (case c18 => k_is)
    (case k18 => k_is)
    (case we_Just_way => k_is)
    (case l19 => k_is)
    (case c19 => k_is)
    (case k19 => k_is)
    (case sn_DOWN => k_is)
    (case so_DOWN => k_is)
    (case xn_FrameError => k_is)
    (case xq_FrameError => k_exc)
    (case xn_Mixed => k_is)
    (case xq_Mixed => k_exc)
    (case xn_NoName => k_is)
    (case xq_NoName => k_exc)
    (case xn_NoPane => k_is)
    (case xq_NoPane => k_exc)
    (case xn_NoRank => k_is)
    (case xq_NoRank => k_exc)
    (case xn_NoWish => k_is)
    (case xq_NoWish => k_exc)
    (case yfg_Mixed => k_is)
    (case yfn_Mixed => k_is)
    (case yfc_Mixed => k_is)
    (case ymo_Mixed => k_is)
    (case ysb_Mixed => k_is)
    (case xk_Mixed_FrameError => kit_is)
    (case xk_Mixed_ValueError => kit_is)
    (case xkt_Mixed_NoName_NoPane_NoRank_NoWish => kit_is)
    (case xm_Mixed_Mixed => kts_exm)
    (case z0 => k_is)
    (case z1 => k_is)
    (case z2 => k_is)
    (case z3 => k_is)
    (case z4 => k_is)
    (case z5 => k_is)
    (case z6 => k_is)
    (case z7 => k_is)
    (case z8 => k_is)
    (case ws_7 => k_is)
    (case wm_Number => k_is)
    (case wk_Number => k_is)
    (case ws_8 => k_is)
    (case ws_9 => k_is)
    (case ws_10 => k_is)
    (case wm_Edge => k_is)
    (case wk_Edge => k_is)
    (case ws_11 => k_is)
    (case we_Edge_ways => k_is)
    (case ws_12 => k_is)
    (case wm_Times => k_is)
    (case wk_Times => k_is)
    (case ws_13 => k_is)
    (case we_Times_ways => k_is)
    (case ws_14 => k_is)
    (case wm_Plus => k_is)
    (case wk_Plus => k_is)
    (case ws_15 => k_is)
    (case we_Plus_ways => k_is)
    (case ws_16 => k_is)
    (case wm_Minus => k_is)
    (case wk_Minus => k_is)
    (case ws_17 => k_is)
    (case we_Minus_ways => k_is)
    (case ws_18 => k_is)
    (case wm_Just => k_is)
    (case wk_Just => k_is)
    (case ws_19 => k_is)
    (case we_AtLeast___init__ => k_is)
    (case wm_AtLeast => k_is)
    (case wk_AtLeast => k_is)
    (case we_AtLeast_way => k_is)
    (case we_AtMost___init__ => k_is)
    (case wm_AtMost => k_is)
    (case wk_AtMost => k_is)
    (case we_AtMost_way => k_is)
#print axioms PySem.Challenge.cw_springframe_k13_across_and_down_holds

