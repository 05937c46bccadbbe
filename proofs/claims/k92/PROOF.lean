import PyProof.Rows.All
import Wide.All
import OpenK.AllK
import Wide.FinOn
import Lean
import PyProof.EqAt
import PyProof.EqKinds
import PyProof.TupleCall
import PySem.Challenge.RW_springframe_k92_whole_whatever_paper_bou
set_option Elab.async false
set_option linter.all false
set_option maxRecDepth 100000
namespace L2
open PySem PySem.Spec PyProof.Rows
abbrev Key:=Sum Int Str
def keyIs:Key→Value→Bool
  | .inl k, v => Value.isInt k v
  | .inr x, v => Value.isStrOf x v
def keyH (w:World):Key→Int
  | .inl k => hashInt k
  | .inr x => hashStr w x
theorem a'E:∀ {k:Key} {v:Value},keyIs k v=true→(∃ i t,k=Sum.inl i∧v=Value.int i t)∨(∃ x t,k=Sum.inr x∧v=Value.str x t)
  | .inl i, v, h => by
    obtain⟨t,e⟩:=Value.isInt_shape (k:=i) (v:=v) h
    exact .inl ⟨i,t,rfl,e⟩
  | .inr x, v, h => by
    obtain⟨t,e⟩:=Value.isStrOf_shape (x:=x) (v:=v) h
    exact .inr ⟨x,t,rfl,e⟩
theorem g'N (i:Int) (t:Tok):keyIs (.inl i) (.int i t)=true:=by simp [keyIs,Value.isInt]
theorem g'O (x:Str) (t:Tok):keyIs (.inr x) (.str x t)=true:=by simp [keyIs,Value.isStrOf]
theorem n'm (a b:Int):decide ((Sum.inl a:Key)=Sum.inl b)=(a == b):=by
  by_cases e:a=b
  · subst e;simp
  · have h:¬ (Sum.inl a:Key)=Sum.inl b:=fun q=>e (Sum.inl.inj q)
    rw [decide_eq_false h]
    exact (beq_eq_false_iff_ne.mpr e).symm
theorem n'n (a b:Str):decide ((Sum.inr a:Key)=Sum.inr b)=decide (a=b):=by
  by_cases e:a=b
  · subst e;simp
  · have h:¬ (Sum.inr a:Key)=Sum.inr b:=fun q=>e (Sum.inr.inj q)
    rw [decide_eq_false h,decide_eq_false e]
theorem n'o (a:Int) (b:Str):decide ((Sum.inl a:Key)=Sum.inr b)=false:=decide_eq_false (fun q=>nomatch q)
theorem n'p (a:Str) (b:Int):decide ((Sum.inr a:Key)=Sum.inl b)=false:=decide_eq_false (fun q=>nomatch q)
def mixKind (prog:Program) (w:World):PySem.KeyKind prog w Key where
  is:=keyIs
  hash:=keyH w
  inj:=fun v a b ha hb=>by
    rcases a'E ha with ⟨i,t,rfl,rfl⟩ | ⟨x,t,rfl,rfl⟩
    · rcases a'E hb with ⟨j,u,rfl,e⟩ | ⟨y,u,rfl,e⟩
      · injection e with e1 _;rw [e1]
      · exact nomatch e
    · rcases a'E hb with ⟨j,u,rfl,e⟩ | ⟨y,u,rfl,e⟩
      · exact nomatch e
      · injection e with e1 _;rw [e1]
  byValue:=fun k v h=>by
    rcases a'E h with ⟨i,t,rfl,rfl⟩ | ⟨x,t,rfl,rfl⟩<;>rfl
  pyHash:=fun hv h=>by
    rcases a'E hv with ⟨i,t,rfl,rfl⟩ | ⟨x,t,rfl,rfl⟩
    · exact wpAny_pyHash_int h
    · exact wpAny_pyHash_str h
  eqBool:=fun hu hv h=>by
    rcases a'E hu with ⟨i,t,rfl,rfl⟩ | ⟨x,t,rfl,rfl⟩
    · rcases a'E hv with ⟨j,u,rfl,rfl⟩ | ⟨y,u,rfl,rfl⟩
      · rw [n'm] at h;exact wpAny_eqBool_int h
      · rw [n'o] at h;exact SeqAt.EqAt.int_str i t y u _ _ _ _ h
    · rcases a'E hv with ⟨j,u,rfl,rfl⟩ | ⟨y,u,rfl,rfl⟩
      · rw [n'p] at h;exact SeqAt.EqAt.str_int x t j u _ _ _ _ h
      · rw [n'n] at h;exact wpAny_eqBool_str h
  «strs»:=fun k x t v h=>by
    rcases a'E h with ⟨i,u,rfl,e⟩ | ⟨y,u,rfl,e⟩
    · exact nomatch e
    · injection e with e1 _
      subst e1
      cases v<;>rfl
theorem f'y (prog:Program) (w:World) (i:Int) (t:Tok):(mixKind prog w).is (.inl i) (.int i t)=true:=g'N i t
theorem f'z (prog:Program) (w:World) (x:Str) (t:Tok):(mixKind prog w).is (.inr x) (.str x t)=true:=g'O x t
end L2
namespace L2
open PySem PySem.Spec PyProof.Rows
inductive V where
  | non | bl (b : Bool) | int (i : Int) | str (x : Str) | byt (b : Array UInt8) | flt (b : UInt64) | ref (a : Addr) | ty (n : String)
  deriving DecidableEq
def RelV:V→Value→Prop
  | .non, u => u = Value.none
  | .bl b, u => u = Value.bool b
  | .int i, u => ∃ t, u = Value.int i t
  | .str x, u => ∃ t, u = Value.str x t
  | .byt b, u => ∃ t, u = Value.bytes b t
  | .flt b, u => ∃ t, u = Value.float b t
  | .ref a, u => u = Value.ref a
  | .ty n, u => u = Value.type n
abbrev Vals:List V→List Value→Prop:=Paired RelV
theorem Vals.length {xs:List V} {us:List Value} (r:Vals xs us):xs.length=us.length:=Paired.length r
theorem Vals.get:∀ {xs:List V} {us:List Value} {i:Nat} {x:V},Vals xs us→xs[i]?=some x→∃ u,us[i]?=some u∧RelV x u
  | _, _, _, _, .nil, e => by simp at e
  | _, _, 0, _, .cons r _, e => by simp at e; subst e; exact ⟨_, rfl, r⟩
  | _, _, i + 1, x, .cons _ t, e => by
    obtain⟨u,h1,h2⟩:=Vals.get (i:=i) (x:=x) t (by simpa using e)
    exact⟨u,by simpa using h1,h2⟩
theorem Vals.set {x:V} {u:Value} (r:RelV x u):∀ {xs:List V} {us:List Value} (i:Nat),Vals xs us→Vals (xs.set i x) (us.set i u)
  | _, _, _, .nil => .nil
  | _, _, 0, .cons _ t => .cons r t
  | _, _, i + 1, .cons q t => .cons q (Vals.set r i t)
theorem Vals.append:∀ {xs ys:List V} {us ws:List Value},Vals xs us→Vals ys ws→Vals (xs++ys) (us++ws)
  | _, _, _, _, .nil, s => s
  | _, _, _, _, .cons r t, s => .cons r (Vals.append t s)
theorem Vals.take:∀ {xs:List V} {us:List Value} (n:Nat),Vals xs us→Vals (xs.take n) (us.take n)
  | _, _, 0, _ => .nil
  | _, _, _ + 1, .nil => .nil
  | _, _, n + 1, .cons r t => .cons r (Vals.take n t)
theorem Vals.drop:∀ {xs:List V} {us:List Value} (n:Nat),Vals xs us→Vals (xs.drop n) (us.drop n)
  | _, _, 0, r => r
  | _, _, _ + 1, .nil => .nil
  | _, _, n + 1, .cons _ t => Vals.drop n t
def RelO:Option V→Option Value→Prop
  | some v, some u => RelV v u
  | none, none => True
  | _, _ => False
def KV {κ:Type}:List (κ×V)→List (κ×Value)→Prop:=Paired fun (p:κ×V) (q:κ×Value)=>p.1=q.1∧RelV p.2 q.2
def kV:Key→V
  | .inl i => .int i
  | .inr x => .str x
inductive HO where
  /-- a list -/
  | lst (xs : List V)
  /-- a tuple (never changes) -/
  | tup (xs : List V)
  /-- a dict whose keys are ints and texts; one whose keys are tuples of ints and texts (the empty one is both) -/
  | dK (kvs : List (Key × V)) | dT (kvs : List (List Key × V))
  /-- a set of ints: its members, its size -/
  | set (S : Int → Bool) (n : Nat)
  /-- an instance of the class at C, its dict at dx, its attributes -/
  | ins (C dx : Addr) (fs : List (Str × V))
  /-- the dict of the instance at x -/
  | own (x : Addr)
  /-- the dict of an exception -/
  | xd (fs : List (Str × V))
  /-- a bound method, f of x -/
  | met (f x : Addr)
  /-- a range object lo, lo + 1, .. below hi -/
  | rng (lo hi : Int)
  /-- a thing that is known to the object (the script; a dict while a loop walks it): read, never written while it is so -/
  | frz (o : Obj) (u : HO)
  /-- a code object's table -/
  | tbl (ps : Array Value)
  /-- any other thing, by what is true of its one object (a def of one's own: SetO a S n := HO.ext fun h => ..) -/
  | ext (φ : Heap → Prop)
abbrev Hp:=Addr→Option HO
def upd (H:Hp) (a:Addr) (o:HO):Hp:=fun b=>if b=a then some o else H b
theorem a'o {H:Hp} {a:Addr} {o:HO}:upd H a o a=some o:=by unfold upd;rw [if_pos rfl]
theorem a'h {H:Hp} {a b:Addr} {o:HO} (h:b≠a):upd H a o b=H b:=by unfold upd;rw [if_neg h]
theorem q'h {H:Hp} {a b:Addr} {o u:HO} (h:H a=some o) (h':H b=some u) (d:o≠u):a≠b:=by
  intro e;subst e;rw [h] at h';exact d (Option.some.inj h')
theorem a'y {H:Hp} {a b:Addr} {o:HO} (h:H a=some o) (h':H b=none):a≠b:=by
  intro e;subst e;rw [h] at h';cases h'
section
variable (P:Program) (w:World)
def ObjOk (H:Hp) (h:Heap) (a:Addr):HO→Prop
  | .lst xs => xs.length ≤ sizeLine ∧ ∃ (its : List Value) (n : Nat), Vals xs its ∧ h.get? a = some { cls := .type "list", data := .seq its.toArray n }
  | .tup xs => xs.length ≤ sizeLine ∧ ∃ its : List Value, Vals xs its ∧ IsTup h a its.toArray
  | .dK kvs => kvs.length ≤ sizeLine ∧ (a == sysModules) = false ∧ ∃ vs, KV kvs vs ∧ h.DictOf (mixKind P w) a vs
  | .dT kvs => kvs.length ≤ sizeLine ∧ (a == sysModules) = false ∧ ∃ xs : List (List Key × Addr × Value),
      Paired (fun (p:List Key×V) (q:List Key×Addr×Value)=>p.1=q.1∧H q.2.1=some (.tup (p.1.map kV))∧RelV p.2 q.2.2) kvs xs∧
      ∃ o es ep,h.get? a=some o∧o.ExactDict∧o.data=.dict es ep∧es.toList=xs.map (entryOfKey (tupleKind (mixKind P w)))∧(xs.map (·.1)).Nodup
  | .set S n => h.SetOf (intKind P w) a S n
  | .ins C dx fs => H dx = some (.own a) ∧ fs.length ≤ 1000 ∧ dx ≠ a ∧ h.get? a = some (PySem.W.instObj C dx) ∧
      ∃ mA,h.Ns1 dx mA∧(∀ f,RelO (fs.lookup f) (mA f))∧PySem.Within mA (fs.map (·.1))
  | .own _ => ∃ o, h.get? a = some o
  | .xd fs => ∃ mA, h.Ns1 a mA ∧ ∀ f, RelO (fs.lookup f) (mA f)
  | .rng lo hi => ∃ t u v, h.get? a = some { cls := .type "range", data := .fields #[.int lo t, .int hi u, .int 1 v] }
  | .frz o u => h.get? a = some o ∧ ObjOk H h a u
  | .tbl ps => h.get? a = some { cls := .none, data := .fields ps }
  | .met f x => h.get? a = some (PySem.W.methodObj (.ref f) (.ref x))
  | .ext φ => φ h ∧ (∃ o, h.get? a = some o) ∧ ∀ h1 h2 : Heap, φ h1 → (∀ o, h1.get? a = some o → h2.get? a = some o) → φ h2
def HOk (H:Hp) (h:Heap):Prop:=∀ a o,H a=some o→ObjOk P w H h a o
end
section
variable {P:Program} {w:World} {H H':Hp} {h h':Heap} {a:Addr} {o:HO}
theorem ObjOk.lt (x:ObjOk P w H h a o):a<h.objs.size:=by
  cases o with
  | lst xs => obtain ⟨_, _, _, _, e⟩ := x; exact Heap.lt_size e
  | tup xs => obtain ⟨_, _, _, p⟩ := x; exact p.lt
  | dK kvs => obtain ⟨_, _, _, _, o, _, _, e, _⟩ := x; exact Heap.lt_size e
  | dT kvs => obtain ⟨_, _, _, _, o, _, _, e, _⟩ := x; exact Heap.lt_size e
  | set S n => obtain ⟨o, _, _, _, e, _⟩ := x; exact Heap.lt_size e
  | ins C dx fs => obtain ⟨_, _, _, e, _⟩ := x; exact Heap.lt_size e
  | own y => obtain ⟨_, e⟩ := x; exact Heap.lt_size e
  | xd fs => obtain ⟨_, ⟨_, _, _, e, _⟩, _⟩ := x; exact Heap.lt_size e
  | rng lo hi => obtain ⟨_, _, _, e⟩ := x; exact Heap.lt_size e
  | frz ob u => obtain ⟨e, _⟩ := x; exact Heap.lt_size e
  | tbl ps => exact Heap.lt_size (show h.get? a = some _ from x)
  | met f y => exact Heap.lt_size (show h.get? a = some _ from x)
  | ext φ => obtain ⟨_, ⟨_, e⟩, _⟩ := x; exact Heap.lt_size e
theorem Paired.mapP {α β:Type} {F G:α→β→Prop}:∀ {l₁:List α} {l₂:List β},Paired F l₁ l₂→(∀ a b,F a b→G a b)→Paired G l₁ l₂
  | _, _, .nil, _ => .nil
  | _, _, .cons r t, f => .cons (f _ _ r) (Paired.mapP t f)
theorem ObjOk.stay (x:ObjOk P w H h a o) (k:∀ b u,(b=a∨H b=some (.own a))→h.get? b=some u→h'.get? b=some u)
    (ho:∀ b,H b=some (.own a)→H' b=some (.own a)) (ht:∀ b xs,H b=some (.tup xs)→H' b=some (.tup xs)):ObjOk P w H' h' a o:=by
  induction o with
  | lst xs => obtain ⟨z, its, n, r, e⟩ := x; exact ⟨z, its, n, r, k _ _ (.inl rfl) e⟩
  | tup xs => obtain ⟨z, its, r, ob, e, c⟩ := x; exact ⟨z, its, r, ob, k _ _ (.inl rfl) e, c⟩
  | dK kvs => obtain ⟨z, y, vs, r, ob, es, ep, e, c⟩ := x; exact ⟨z, y, vs, r, ob, es, ep, k _ _ (.inl rfl) e, c⟩
  | dT kvs =>
    obtain⟨z,y,xs,r,ob,es,ep,e,c⟩:=x
    exact⟨z,y,xs,Paired.mapP r fun p q z=>⟨z.1,ht _ _ z.2.1,z.2.2⟩,ob,es,ep,k _ _ (.inl rfl) e,c⟩
  | set S n => obtain ⟨ob, es, ep, t, e, c⟩ := x; exact ⟨ob, es, ep, t, k _ _ (.inl rfl) e, c⟩
  | ins C dx fs =>
    obtain⟨d,z,ne,e,mA,⟨od,es,ep,e2,c⟩,r⟩:=x
    exact⟨ho _ d,z,ne,k _ _ (.inl rfl) e,mA,⟨od,es,ep,k _ _ (.inr d) e2,c⟩,r⟩
  | own y => obtain ⟨ob, e⟩ := x; exact ⟨ob, k _ _ (.inl rfl) e⟩
  | xd fs => obtain ⟨mA, ⟨od, es, ep, e, c⟩, r⟩ := x; exact ⟨mA, ⟨od, es, ep, k _ _ (.inl rfl) e, c⟩, r⟩
  | rng lo hi => obtain ⟨t, u, v, e⟩ := x; exact ⟨t, u, v, k _ _ (.inl rfl) e⟩
  | frz ob u ih => obtain ⟨e, q⟩ := x; exact ⟨k _ _ (.inl rfl) e, ih q⟩
  | tbl ps =>
    have e:h.get? a=some { cls:=.none,data:=.fields ps }:=x
    show h'.get? a=some { cls:=.none,data:=.fields ps }
    exact k a _ (.inl rfl) e
  | met f y =>
    have e:h.get? a=some (PySem.W.methodObj (.ref f) (.ref y)):=x
    show h'.get? a=some (PySem.W.methodObj (.ref f) (.ref y))
    exact k a _ (.inl rfl) e
  | ext φ => obtain ⟨p, ⟨o, e⟩, st⟩ := x; exact ⟨st _ _ p fun o q => k _ _ (.inl rfl) q, ⟨o, k _ _ (.inl rfl) e⟩, st⟩
theorem HOk.lt (x:HOk P w H h) (e:H a=some o):a<h.objs.size:=(x a o e).lt
theorem HOk.fresh (x:HOk P w H h) (e:h.objs.size≤a):H a=none:=by
  cases q:H a with
  | none => rfl
  | some u => exact absurd (Nat.lt_of_lt_of_le (x.lt q) e) (Nat.lt_irrefl _)
theorem HOk.kept (x:HOk P w H h) (k:∀ b u,h.get? b=some u→h'.get? b=some u):HOk P w H h':=fun a o e=>
  (x a o e).stay (fun b u _ q=>k b u q) (fun _ q=>q) fun _ _ q=>q
theorem HOk.laid (x:HOk P w H h) (k:∀ b u,h.get? b=some u→h'.get? b=some u) (hp:h.objs.size≤a) (new:ObjOk P w (upd H a o) h' a o):HOk P w (upd H a o) h':=fun b u e=>by
  have hn:=x.fresh hp
  by_cases hb:b=a
  · subst hb;rw [a'o] at e;cases e;exact new
  · rw [a'h hb] at e
    exact (x b u e).stay (fun c v _ q=>k c v q) (fun c q=>by rw [a'h (a'y q hn)];exact q) fun c xs q=>by rw [a'h (a'y q hn)];exact q
end
def Rd (H:Hp) (a:Addr) (u:HO):Prop:=H a=some u∨∃ o,H a=some (.frz o u)
theorem Rd.of {H:Hp} {a:Addr} {u:HO} (h:H a=some u):Rd H a u:=.inl h
theorem Rd.ok {P:Program} {w:World} {H:Hp} {h:Heap} {a:Addr} {u:HO} (r:Rd H a u) (x:HOk P w H h):ObjOk P w H h a u:=by
  rcases r with r | ⟨o,r⟩
  · exact x a u r
  · obtain⟨_,q⟩:=x a _ r
    exact q
def Mut:Option HO→Prop
  | some (.lst _) => True
  | some (.dK _) => True
  | some (.dT _) => True
  | some (.set _ _) => True
  | some (.ins _ _ _) => True
  | some (.ext _) => True
  | _ => False
section
variable {P:Program} {w:World} {H:Hp} {h h':Heap} {x e:Addr} {o':HO}
theorem HOk.write (ok:HOk P w H h) (mu:Mut (H x)) (he:e=x∨H e=some (.own x)) (k:∀ b u,b≠e→h.get? b=some u→h'.get? b=some u) (heo:∃ u,h'.get? e=some u)
    (new:ObjOk P w (upd H x o') h' x o'):HOk P w (upd H x o') h':=fun b u q=>by
  have nown:∀ c y,H c=some (.own y)→c≠x:=fun c y r z=>by subst z;rw [r] at mu;exact mu
  have ntup:∀ c xs,H c=some (.tup xs)→c≠x:=fun c xs r z=>by subst z;rw [r] at mu;exact mu
  by_cases hb:b=x
  · subst hb;rw [a'o] at q;cases q;exact new
  · rw [a'h hb] at q
    by_cases hbe:b=e
    · have q':H b=some (.own x):=by
        rcases he with z | z
        · exact absurd (hbe.trans z) hb
        · rw [hbe];exact z
      rw [q] at q';cases q'
      obtain⟨v,hv⟩:=heo
      exact⟨v,by rw [hbe];exact hv⟩
    · refine (ok b u q).stay (fun c v hc r=>k c v ?_ r) (fun c r=>by rw [a'h (nown c b r)];exact r) fun c xs r=>by rw [a'h (ntup c xs r)];exact r
      rcases hc with rfl | hc
      · exact hbe
      · rintro rfl
        rcases he with z | z
        · exact nown c b hc z
        · rw [hc] at z;cases z;exact hb rfl
end
structure Un (fs ex:List Addr) (H H':Hp) (h h':Heap):Prop where
  keep:∀ b o,h.get? b=some o→H b=none→b ∉ fs→b ∉ ex→h'.get? b=some o
  slot:∀ b o,h.get? b=some o→H b=none→b∈fs→b ∉ ex→∃ sl,h'.get? b=some { o with slots:=sl }
  free:∀ b o,h.get? b=some o→H b=none→b ∉ ex→H' b=none
  there:∀ b o,h.get? b=some o→b ∉ ex→∃ o',h'.get? b=some o'
  tups:∀ b xs,H b=some (.tup xs)→H' b=some (.tup xs)
  frzs:∀ b o u,H b=some (.frz o u)→H' b=some (.frz o u)
  tbls:∀ b ps,H b=some (.tbl ps)→∃ more,H' b=some (.tbl (ps++more))
section
variable {fs fs' ex ex':List Addr} {H H1 H2:Hp} {h h1 h2 h':Heap} {a x e:Addr} {o:HO}
theorem Un.any (u:Un fs ex H H1 h h1) {b:Addr} {ob:Obj} (q:h.get? b=some ob) (n:H b=none) (hx:b ∉ ex):∃ sl,h1.get? b=some { ob with slots:=sl }:=by
  by_cases hb:b∈fs
  · exact u.slot b ob q n hb hx
  · exact⟨ob.slots,u.keep b ob q n hb hx⟩
theorem Un.kept (k:∀ b u,h.get? b=some u→h'.get? b=some u):Un fs ex H H h h':=
  ⟨fun b ob q _ _ _=>k b ob q,fun b ob q _ _ _=>⟨ob.slots,k b ob q⟩,fun _ _ _ n _=>n,fun b ob q _=>⟨ob,k b ob q⟩,fun _ _ q=>q,fun _ _ _ q=>q,fun _ ps q=>⟨#[],by rw [q];simp⟩⟩
theorem Un.refl:Un fs ex H H h h:=Un.kept fun _ _ q=>q
theorem Un.laid (k:∀ b u,h.get? b=some u→h'.get? b=some u) (hp:h.objs.size≤a) (hn:H a=none):Un fs ex H (upd H a o) h h' where
  keep:=fun b u q _ _ _=>k b u q
  slot:=fun b u q _ _ _=>⟨u.slots,k b u q⟩
  free:=fun b u q n _=>by rw [a'h (Nat.ne_of_lt (Nat.lt_of_lt_of_le (Heap.lt_size q) hp))];exact n
  there:=fun b u q _=>⟨u,k b u q⟩
  tups:=fun b xs q=>by rw [a'h (a'y q hn)];exact q
  frzs:=fun b u xs q=>by rw [a'h (a'y q hn)];exact q
  tbls:=fun b ps q=>⟨#[],by rw [a'h (a'y q hn),q];simp⟩
theorem Un.write (mu:Mut (H x)) (he:e=x∨H e=some (.own x)) (k:∀ b u,b≠e→h.get? b=some u→h'.get? b=some u) (heo:∃ u,h'.get? e=some u):Un fs ex H (upd H x o) h h':=by
  have hx:∀ b,H b=none→b≠x:=fun b n z=>by subst z;rw [n] at mu;exact mu
  have hb:∀ b,H b=none→b≠e:=fun b n z=>by
    subst z
    rcases he with r | r
    · exact hx b n r
    · rw [n] at r;cases r
  have hm:∀ b u,H b=some u→¬ Mut (some u)→b≠x:=fun b u q nm z=>by subst z;rw [q] at mu;exact nm mu
  refine⟨fun b u q n _ _=>k b u (hb b n) q,fun b u q n _ _=>⟨u.slots,k b u (hb b n) q⟩,fun b u q n _=>by rw [a'h (hx b n)];exact n,fun b u q _=>?_,
    fun b xs q=>by rw [a'h (hm b _ q fun z=>z)];exact q,fun b u xs q=>by rw [a'h (hm b _ q fun z=>z)];exact q,fun b ps q=>⟨#[],by rw [a'h (hm b _ q fun z=>z),q];simp⟩⟩
  by_cases hbe:b=e
  · subst hbe;exact heo
  · exact⟨u,k b u hbe q⟩
end
def trk (h:Heap) (H:Hp):List Addr:=(List.range h.objs.size).filter fun a=>(H a).isSome
def hidT (h:Heap) (H:Hp):Heap:=PySem.W.hideAll h (trk h H)
theorem g'P (h:Heap) (H:Hp):(hidT h H).objs.size=h.objs.size:=PySem.W.hideAll_size _ _
theorem i'q {h:Heap} {H:Hp} {b:Addr} {o:Obj} (e:h.get? b=some o) (n:H b=none):(hidT h H).get? b=some o:=
  PySem.W.hideAll_get _ e fun hm=>by
    have q:(H b).isSome=true:=(List.mem_filter.mp hm).2
    rw [n] at q;simp at q
theorem k'i {h:Heap} {H:Hp} {b:Addr} {o:Obj} (e:(hidT h H).get? b=some o):h.get? b=some o∧H b=none:=by
  have e':h.get? b=some o:=PySem.W.of_hideAll (trk h H) e
  refine⟨e',?_⟩
  cases q:H b with
  | none => rfl
  | some x =>
    have hm:b∈trk h H:=List.mem_filter.mpr ⟨List.mem_range.mpr (Heap.lt_size e'),by simp [q]⟩
    have z:(hidT h H).get? b=none:=PySem.W.hideAll_none (trk h H) hm
    rw [z] at e;cases e
end L2
namespace L2
open PySem PySem.Spec PyProof.Rows
structure Mod (K:PySem.W.Frag) (mg:Str→Option Value) (base:Heap):Prop where
  kin:K.In base
  glob:base.Ns mainGlobals mg
  blt:∃ mb,base.Ns builtinsNs mb∧∀ x:Str,x≠"__name__"→mb x=bootBuiltins x
  nolimit:base.NoLimit
structure Cx where
  prog:Program
  w:World
  K:PySem.W.Frag
  mg:Str→Option Value
  base:Heap
  A:Around
  N:List Str
  s₀:Shared
  H₀:Hp
  env:Env
  outer:List Env
  stack:List Env
  ex:List Addr
  fn:Str→Bool
  calm:Bool
  pn:List (Addr×Obj)
  xe:Value→Shared→Prop
def frs (l:List Env):List Addr:=l.filterMap (·.frame)
abbrev Cx.fs (X:Cx):List Addr:=frs X.outer
def Vis (sc:Scope) (x:Str):Prop:=sc.names.lookup x=some .local∨sc.names.lookup x=some .cell∨sc.names.lookup x=some .free
def Loc (sc:Scope) (x:Str):Prop:=sc.names.lookup x=some .local∨sc.names.lookup x=some .cell
def Look (env:Env) (h:Heap) (m:Str→Option Value) (x:Str) (u:Value):Prop:=
  (env.kindOf x=some .local∧m x=some u)∨((env.kindOf x=some .cell∨env.kindOf x=some .free)∧∃ c,env.cells.lookup x=some c∧h.IsCell c (some u))
structure Cx.Ok (X:Cx):Prop where
  mod:Mod X.K X.mg X.base
  kind:X.env.scope.kind=.function
  glob:X.env.globals=mainGlobals
  blt:X.env.builtins=builtinsNs
  above:X.s₀.heap.objs.size≤X.env.locals
  inj:∀ x y c,X.env.cells.lookup x=some c→X.env.cells.lookup y=some c→x=y
  has:∀ x,(X.env.kindOf x=some .cell∨X.env.kindOf x=some .free)→∃ c,X.env.cells.lookup x=some c
  cab:∀ x c,X.fn x=true→X.env.cells.lookup x=some c→X.s₀.heap.objs.size≤c
  hd:X.calm=true→X.A.handled=none
  frames:X.A.frames=some X.stack
  stk:X.stack=X.outer∨(X.stack=X.env :: X.outer∧X.env.frame=some X.env.locals)
  exf:∀ b∈X.ex,b≠X.env.locals∧∀ x c,X.env.cells.lookup x=some c→c≠b
  bs:∀ b o,X.base.get? b=some o→X.s₀.heap.get? b=some o∧X.H₀ b=none
  bsz:X.base.objs.size≤X.s₀.heap.objs.size
  noex:∀ b o,X.base.get? b=some o→b ∉ X.ex
  exfs:∀ b∈X.ex,b ∉ X.fs
  funs:X.s₀.heap.FunFrames X.base X.outer
  frf:∀ b∈X.fs,X.H₀ b=none
structure Inv (X:Cx) (pins:List (Addr×Obj)) (σ:List (Option V)) (H:Hp) (s:Shared):Prop where
  ok:X.Ok
  os:s.os=X.s₀.os
  bare:AllBare s.gens
  base:Un X.fs X.ex X.H₀ H X.s₀.heap s.heap
  loc:∃ m,s.heap.Ns X.env.locals m∧∀ (i:Nat) (x:Str) (v:V),X.N[i]?=some x→σ[i]?=some (some v)→Vis X.env.scope x→∃ u,RelV v u∧Look X.env s.heap m x u
  cell:∀ x c,X.env.cells.lookup x=some c→∃ v,s.heap.IsCell c v
  free:H X.env.locals=none
  freeC:∀ x c,X.env.cells.lookup x=some c→H c=none
  pin:∀ p∈X.pn++pins,s.heap.get? p.1=some p.2∧H p.1=none∧p.1≠X.env.locals∧p.1 ∉ X.fs∧∀ v,p.2.data≠.cell v
  hok:HOk X.prog X.w H s.heap
  len:σ.length=X.N.length
section
variable {X:Cx} {pins:List (Addr×Obj)} {σ:List (Option V)} {H H':Hp} {s:Shared} {h':Heap}
theorem Cx.Ok.nofr (ok:X.Ok) {b:Addr} {o:Obj} (e:X.base.get? b=some o):b ∉ X.fs:=fun hb=>by
  have:=(ok.funs.mem hb).1
  rw [e] at this;cases this
theorem Inv.bs (I:Inv X pins σ H s):∀ b o,X.base.get? b=some o→s.heap.get? b=some o∧H b=none:=fun b o e=>
  ⟨I.base.keep b o (I.ok.bs b o e).1 (I.ok.bs b o e).2 (I.ok.nofr e) (I.ok.noex b o e),I.base.free b o (I.ok.bs b o e).1 (I.ok.bs b o e).2 (I.ok.noex b o e)⟩
theorem Inv.bk (I:Inv X pins σ H s):∀ b o,X.base.get? b=some o→s.heap.get? b=some o:=fun b o e=>(I.bs b o e).1
theorem Inv.mod (I:Inv X pins σ H s):Mod X.K X.mg X.base:=I.ok.mod
theorem Inv.kIn (I:Inv X pins σ H s):X.K.In s.heap:=I.ok.mod.kin.keeps I.bk
theorem Inv.lt (I:Inv X pins σ H s):X.env.locals<s.heap.objs.size:=let ⟨_,hn,_⟩:=I.loc;hn.lt
theorem Inv.sz (I:Inv X pins σ H s):X.s₀.heap.objs.size≤s.heap.objs.size:=Nat.le_trans I.ok.above (Nat.le_of_lt I.lt)
theorem Inv.nofs (I:Inv X pins σ H s) {a:Addr} (h:s.heap.objs.size≤a):a ∉ X.fs:=fun hb=>by
  obtain⟨_,o,ho,_⟩:=I.ok.funs.mem hb
  exact absurd (Nat.lt_of_lt_of_le (Heap.lt_size ho) (Nat.le_trans I.sz h)) (Nat.lt_irrefl _)
theorem Inv.cne (I:Inv X pins σ H s):∀ x c,X.env.cells.lookup x=some c→c≠X.env.locals:=fun x c e z=>by
  obtain⟨v,o,ho,hd⟩:=I.cell x c e
  obtain⟨m,⟨o',es,ep,ho',hd',_⟩,_⟩:=I.loc
  rw [z,ho'] at ho;cases ho;rw [hd'] at hd;cases hd
theorem Inv.funs (I:Inv X pins σ H s):s.heap.FunFrames X.base X.outer:=by
  have all:∀ (l:List Env),(∀ b∈frs l,b∈X.fs)→X.s₀.heap.FunFrames X.base l→s.heap.FunFrames X.base l:=by
    intro l
    induction l with
    | nil=>intro _ _;trivial
    | cons env r ih=>
      intro hs hl
      obtain⟨hk,⟨L,o,hf,hn,ho,hd⟩,hr⟩:=hl
      have hL:L∈X.fs:=hs L (by unfold frs;rw [List.filterMap_cons,hf];exact List.mem_cons_self)
      obtain⟨sl,e⟩:=I.base.slot L o ho (I.ok.frf L hL) hL fun z=>I.ok.exfs L z hL
      exact⟨hk,⟨L,_,hf,hn,e,hd⟩,ih (fun b hb=>hs b (by unfold frs;rw [List.filterMap_cons,hf];exact List.mem_cons_of_mem _ hb)) hr⟩
  exact all X.outer (fun _ hb=>hb) I.ok.funs
theorem Inv.stack (I:Inv X pins σ H s):s.heap.FunFrames X.base X.stack:=by
  rcases I.ok.stk with e | ⟨e,hf⟩
  · rw [e];exact I.funs
  · rw [e]
    obtain⟨m,hn,_⟩:=I.loc
    refine .cons (by rw [I.ok.kind];decide) hf hn ?_ I.funs
    exact Heap.get?_none_of_le (Nat.le_trans I.ok.bsz I.ok.above)
theorem Inv.stkSub (I:Inv X pins σ H s):∀ b∈frs X.stack,b∈X.env.locals :: X.fs:=fun b hb=>by
  rcases I.ok.stk with e | ⟨e,hf⟩
  · rw [e] at hb;exact List.mem_cons_of_mem _ hb
  · rw [e] at hb
    unfold frs at hb
    rw [List.filterMap_cons,hf] at hb
    exact hb
theorem Inv.stkFree (I:Inv X pins σ H s):∀ b∈frs X.stack,H b=none:=fun b hb=>by
  rcases List.mem_cons.mp (I.stkSub b hb) with e | hb
  · rw [e];exact I.free
  · obtain⟨_,o,ho,_⟩:=I.ok.funs.mem hb
    exact I.base.free b o ho (I.ok.frf b hb) fun z=>I.ok.exfs b z hb
theorem Inv.step {g':Array GenState} {t':Nat} {d':Drawn} {ch:List Addr} (I:Inv X pins σ H s)
    (hch:∀ b∈ch,(b∈X.ex∨X.s₀.heap.objs.size≤b)∧b≠X.env.locals∧(∀ x c,X.env.cells.lookup x=some c→c≠b)∧∀ p∈X.pn++pins,p.1≠b)
    (keep:∀ b o,b≠X.env.locals→b ∉ X.fs→b ∉ ch→s.heap.get? b=some o→H b=none→h'.get? b=some o)
    (slot:∀ b o,b≠X.env.locals→b∈X.fs→b ∉ ch→s.heap.get? b=some o→H b=none→∃ sl,h'.get? b=some { o with slots:=sl }) (free:∀ b o,b ∉ ch→s.heap.get? b=some o→H b=none→H' b=none)
    (there:∀ b o,b ∉ ch→s.heap.get? b=some o→∃ o',h'.get? b=some o')
    (tups:∀ b xs,H b=some (.tup xs)→H' b=some (.tup xs)) (frzs:∀ b o u,H b=some (.frz o u)→H' b=some (.frz o u)) (tbls:∀ b ps,H b=some (.tbl ps)→∃ more,H' b=some (.tbl (ps++more)))
    (ns:∀ m,s.heap.Ns X.env.locals m→h'.Ns X.env.locals m) (hok:HOk X.prog X.w H' h') (hg:AllBare g') :
    Inv X pins σ H' { s with heap:=h',gens:=g',drawn:=d',toks:=t' }:=by
  have neL:∀ b o,X.s₀.heap.get? b=some o→b≠X.env.locals:=fun b o e=>Nat.ne_of_lt (Nat.lt_of_lt_of_le (Heap.lt_size e) I.ok.above)
  have neC:∀ b o,X.s₀.heap.get? b=some o→b ∉ X.ex→b ∉ ch:=fun b o e hx hb=>by
    rcases (hch b hb).1 with z | z
    · exact hx z
    · exact absurd (Nat.lt_of_lt_of_le (Heap.lt_size e) z) (Nat.lt_irrefl _)
  have cellK:∀ x c,X.env.cells.lookup x=some c→∀ v,s.heap.IsCell c v→h'.IsCell c v:=fun x c e v ⟨o,ho,hd⟩=>by
    have nch:c ∉ ch:=fun z=>(hch c z).2.2.1 x c e rfl
    by_cases hc:c∈X.fs
    · obtain⟨sl,q⟩:=slot c o (I.cne x c e) hc nch ho (I.freeC x c e)
      exact⟨_,q,hd⟩
    · exact⟨o,keep c o (I.cne x c e) hc nch ho (I.freeC x c e),hd⟩
  refine⟨I.ok,I.os,hg,⟨fun b o e n hb hx=>?_,fun b o e n hb hx=>?_,fun b o e n hx=>?_,fun b o e hx=>?_,fun b xs e=>tups b xs (I.base.tups b xs e),fun b o xs e=>frzs b o xs (I.base.frzs b o xs e),fun b ps e=>?_⟩,?_,fun x c e=>?_,?_,fun x c e=>?_,fun p hp=>?_,hok,I.len⟩
  · exact keep b o (neL b o e) hb (neC b o e hx) (I.base.keep b o e n hb hx) (I.base.free b o e n hx)
  · obtain⟨sl,e1⟩:=I.base.slot b o e n hb hx
    obtain⟨sl',e2⟩:=slot b _ (neL b o e) hb (neC b o e hx) e1 (I.base.free b o e n hx)
    exact⟨sl',e2⟩
  · obtain⟨o',e1⟩:=I.base.there b o e hx
    exact free b o' (neC b o e hx) e1 (I.base.free b o e n hx)
  · obtain⟨o',e1⟩:=I.base.there b o e hx
    exact there b o' (neC b o e hx) e1
  · obtain⟨m1,e1⟩:=I.base.tbls b ps e
    obtain⟨m2,e2⟩:=tbls b _ e1
    exact⟨m1++m2,by rw [e2,Array.append_assoc]⟩
  · obtain⟨m,hn,hl⟩:=I.loc
    refine⟨m,ns m hn,fun i x v e1 e2 e3=>?_⟩
    obtain⟨u,r,l⟩:=hl i x v e1 e2 e3
    refine⟨u,r,?_⟩
    rcases l with l | ⟨k,c,e,z⟩
    · exact .inl l
    · exact .inr ⟨k,c,e,cellK x c e _ z⟩
  · obtain⟨v,z⟩:=I.cell x c e
    exact⟨v,cellK x c e v z⟩
  · obtain⟨m,⟨o,_,_,ho,_⟩,_⟩:=I.loc
    exact free _ o (fun z=>(hch _ z).2.1 rfl) ho I.free
  · obtain⟨v,o,ho,hd⟩:=I.cell x c e
    exact free c o (fun z=>(hch c z).2.2.1 x c e rfl) ho (I.freeC x c e)
  · obtain⟨e,n,ne,nf,d⟩:=I.pin p hp
    have nch:p.1 ∉ ch:=fun z=>(hch p.1 z).2.2.2 p hp rfl
    exact⟨keep p.1 p.2 ne nf nch e n,free p.1 p.2 nch e n,ne,nf,d⟩
theorem Inv.un {t':Nat} (I:Inv X pins σ H s) (u:Un X.fs [] H H' s.heap h') (hok:HOk X.prog X.w H' h'):Inv X pins σ H' { s with heap:=h',toks:=t' }:=by
  obtain⟨m,⟨o,es,ep,ho,r⟩,_⟩:=id I.loc
  obtain⟨sl,hL⟩:=u.any ho I.free (by simp)
  exact I.step (g':=s.gens) (d':=s.drawn) (ch:=[]) (fun _ z=>nomatch z) (fun b o _ hb _ e n=>u.keep b o e n hb (by simp)) (fun b o _ hb _ e n=>u.slot b o e n hb (by simp)) (fun b o _ e n=>u.free b o e n (by simp)) (fun b o _ e=>u.there b o e (by simp)) u.tups u.frzs u.tbls (fun m' hm=>by
    obtain⟨o',es',ep',ho',r'⟩:=hm
    rw [ho] at ho';cases ho'
    exact⟨_,es',ep',hL,r'⟩) hok I.bare
theorem Inv.call {g':Array GenState} {t':Nat} {d':Drawn} {ch:List Addr} (I:Inv X pins σ H s) (u:Un (frs X.stack) ch H H' s.heap h') (hok:HOk X.prog X.w H' h') (hg:AllBare g')
    (hch:∀ b∈ch,(b∈X.ex∨X.s₀.heap.objs.size≤b)∧b≠X.env.locals∧(∀ x c,X.env.cells.lookup x=some c→c≠b)∧∀ p∈X.pn++pins,p.1≠b) :
    Inv X pins σ H' { s with heap:=h',gens:=g',drawn:=d',toks:=t' }:=by
  obtain⟨m,⟨o,es,ep,ho,r⟩,_⟩:=id I.loc
  obtain⟨sl,hL⟩:=u.any ho I.free fun z=>(hch _ z).2.1 rfl
  exact I.step (ch:=ch) hch (fun b o hL hb hc e n=>u.keep b o e n (fun z=>(List.mem_cons.mp (I.stkSub b z)).elim hL hb) hc) (fun b o _ _ hc e n=>u.any e n hc) (fun b o hc e n=>u.free b o e n hc) (fun b o hc e=>u.there b o e hc) u.tups u.frzs u.tbls (fun m' hm=>by
    obtain⟨o',es',ep',ho',r'⟩:=hm
    rw [ho] at ho';cases ho'
    exact⟨_,es',ep',hL,r'⟩) hok hg
theorem Inv.turned {t':Nat} {it:Addr} (I:Inv X pins σ H s) (k:∀ b o,b≠it→s.heap.get? b=some o→h'.get? b=some o) (hn:H it=none) (hL:it≠X.env.locals)
    (h1:it∈X.ex∨X.s₀.heap.objs.size≤it) (h2:∀ x c,X.env.cells.lookup x=some c→c≠it) (h3:∀ p∈X.pn++pins,p.1≠it):Inv X pins σ H { s with heap:=h',toks:=t' }:=by
  have nit:∀ b u,H b=some u→b≠it:=fun b u e z=>by rw [z,hn] at e;cases e
  refine I.step (g':=s.gens) (d':=s.drawn) (ch:=[it]) (fun b hb=>?_) (fun b o _ _ hc e _=>k b o (fun z=>hc (by simp [z])) e) (fun b o _ _ hc e _=>⟨o.slots,k b o (fun z=>hc (by simp [z])) e⟩) (fun _ _ _ _ n=>n)
    (fun b o hc e=>⟨o,k b o (fun z=>hc (by simp [z])) e⟩) (fun _ _ e=>e) (fun _ _ _ e=>e) (fun b ps e=>⟨#[],by rw [e];simp⟩) (fun m hm=>?_) (fun b u e=>?_) I.bare
  · have e:b=it:=by simpa using hb
    subst e
    exact⟨h1,hL,h2,h3⟩
  · obtain⟨o,es,ep,ho,r⟩:=hm
    exact⟨o,es,ep,k _ o (Ne.symm hL) ho,r⟩
  · refine (I.hok b u e).stay (fun c v hc q=>k c v ?_ q) (fun _ q=>q) fun _ _ q=>q
    rcases hc with z | z
    · rw [z];exact nit b u e
    · exact nit c _ z
theorem Inv.tok (I:Inv X pins σ H s) (t:Nat):Inv X pins σ H { s with toks:=t }:=I.un (h':=s.heap) (t':=t) Un.refl I.hok
theorem Inv.kept {t':Nat} (I:Inv X pins σ H s) (k:∀ b u,s.heap.get? b=some u→h'.get? b=some u):Inv X pins σ H { s with heap:=h',toks:=t' }:=I.un (Un.kept k) (I.hok.kept k)
theorem Inv.laid {a:Addr} {o:HO} {t':Nat} (I:Inv X pins σ H s) (k:∀ b u,s.heap.get? b=some u→h'.get? b=some u) (hp:s.heap.objs.size≤a) (new:ObjOk X.prog X.w (upd H a o) h' a o) :
    Inv X pins σ (upd H a o) { s with heap:=h',toks:=t' }:=I.un (Un.laid k hp (I.hok.fresh hp)) (I.hok.laid k hp new)
theorem Inv.write {x e:Addr} {o:HO} {t':Nat} (I:Inv X pins σ H s) (mu:Mut (H x)) (he:e=x∨H e=some (.own x)) (k:∀ b u,b≠e→s.heap.get? b=some u→h'.get? b=some u) (heo:∃ u,h'.get? e=some u)
    (new:ObjOk X.prog X.w (upd H x o) h' x o):Inv X pins σ (upd H x o) { s with heap:=h',toks:=t' }:=I.un (Un.write mu he k heo) (I.hok.write mu he k heo new)
theorem Inv.weak {σ':List (Option V)} (I:Inv X pins σ H s) (hl:σ'.length=σ.length) (w:∀ (i:Nat) v,σ'[i]?=some (some v)→σ[i]?=some (some v)):Inv X pins σ' H s:=
  ⟨I.ok,I.os,I.bare,I.base,let ⟨m,hn,hl'⟩:=I.loc;⟨m,hn,fun i x v e1 e2 e3=>hl' i x v e1 (w i v e2) e3⟩,I.cell,I.free,I.freeC,I.pin,I.hok,hl.trans I.len⟩
theorem Inv.pins_of {pins':List (Addr×Obj)} (I:Inv X pins σ H s) (h:∀ p∈pins',s.heap.get? p.1=some p.2∧H p.1=none∧p.1≠X.env.locals∧p.1 ∉ X.fs∧∀ v,p.2.data≠.cell v):Inv X pins' σ H s:=
  ⟨I.ok,I.os,I.bare,I.base,I.loc,I.cell,I.free,I.freeC,fun p hp=>(List.mem_append.mp hp).elim (fun z=>I.pin p (List.mem_append_left _ z)) (h p),I.hok,I.len⟩
theorem c'V {N:List Str} (hN:N.Nodup) {i j:Nat} {x:Str} (a:N[i]?=some x) (b:N[j]?=some x):i=j:=by
  obtain⟨h1,e1⟩:=List.getElem?_eq_some_iff.mp a
  obtain⟨h2,e2⟩:=List.getElem?_eq_some_iff.mp b
  exact (List.getElem_inj hN).mp (e1.trans e2.symm)
theorem d'S {M:Model} {A:Around} {E:Value→Shared→Prop} {i:Nat} {x:Str} {v:V} {u:Value} {Q:Unit→Shared→Prop} (I:Inv X pins σ H s) (hN:X.N.Nodup) (hi:X.N[i]?=some x) (hx:Loc X.env.scope x) (r:RelV v u)
    (h:∀ s',Inv X pins (σ.set i (some v)) H s'→(∃ a,Heap.SameBut a s.heap s'.heap∧(a=X.env.locals∨X.env.cells.lookup x=some a))→Q () s') (hf:X.fn x=true∨X.env.scope.names.lookup x=some .local:=by first | exact .inl rfl | exact .inr rfl | assumption):wpAny M A (storeName X.env x u) Q E s:=by
  obtain⟨m,hn,hl⟩:=id I.loc
  have hcls:(X.env.scope.kind == .class || (X.env.scope.kind == .module && X.env.locals != X.env.globals))=false:=by rw [I.ok.kind];rfl
  have hiσ:i<σ.length:=by rw [I.len];exact (List.getElem?_eq_some_iff.mp hi).1
  have cne:=I.cne
  have tracked:∀ {a:Addr} {h':Heap},(∃ o,s.heap.get? a=some o∧H a=none)→Heap.SameBut a s.heap h'→HOk X.prog X.w H h':=fun {a h'} ha hs b ob e=>by
    obtain⟨_,_,hfree⟩:=ha
    refine (I.hok b ob e).stay (fun c w' hc q=>(hs.2 c ?_).trans q) (fun _ q=>q) fun _ _ q=>q
    rintro rfl
    rcases hc with rfl | hc
    · rw [hfree] at e;cases e
    · rw [hfree] at hc;cases hc
  rcases hx with hk | hk
  · refine wpAny_storeName_local hk hn (fun h' hn' hs=>?_) hcls
    obtain⟨oL,_,_,hoL,_⟩:=id hn
    refine h _ ⟨I.ok,I.os,I.bare,⟨fun b o e n hb hx=>?_,fun b o e n hb hx=>?_,I.base.free,fun b o e hx=>?_,I.base.tups,I.base.frzs,I.base.tbls⟩,⟨_,hn',fun j y v' e1 e2 e3=>?_⟩,fun y c e=>?_,I.free,I.freeC,fun p hp=>?_,tracked ⟨oL,hoL,I.free⟩ hs,by simpa using I.len⟩ ⟨_,hs,.inl rfl⟩
    · exact (hs.2 b (Nat.ne_of_lt (Nat.lt_of_lt_of_le (Heap.lt_size e) I.ok.above))).trans (I.base.keep b o e n hb hx)
    · obtain⟨sl,e1⟩:=I.base.slot b o e n hb hx
      exact⟨sl,(hs.2 b (Nat.ne_of_lt (Nat.lt_of_lt_of_le (Heap.lt_size e) I.ok.above))).trans e1⟩
    · obtain⟨o',e1⟩:=I.base.there b o e hx
      exact⟨o',(hs.2 b (Nat.ne_of_lt (Nat.lt_of_lt_of_le (Heap.lt_size e) I.ok.above))).trans e1⟩
    · by_cases hj:j=i
      · subst hj
        rw [hi] at e1;cases e1
        rw [List.getElem?_set_self hiσ] at e2
        cases e2
        exact⟨u,r,.inl ⟨hk,by simp⟩⟩
      · rw [List.getElem?_set_ne (Ne.symm hj)] at e2
        obtain⟨u',r',q⟩:=hl j y v' e1 e2 e3
        refine⟨u',r',?_⟩
        rcases q with ⟨k,e⟩ | ⟨k,c,e,z⟩
        · refine .inl ⟨k,?_⟩
          have:y≠x:=fun e=>hj (c'V hN e1 (e ▸ hi))
          simp [this,e]
        · exact .inr ⟨k,c,e,z.sameBut hs (cne y c e)⟩
    · obtain⟨w',z⟩:=I.cell y c e
      exact⟨w',z.sameBut hs (cne y c e)⟩
    · obtain⟨e,n,ne,nf,d⟩:=I.pin p hp
      exact⟨(hs.2 p.1 ne).trans e,n,ne,nf,d⟩
  · have hfn:X.fn x=true:=by
      rcases hf with z | z
      · exact z
      · rw [z] at hk;cases hk
    obtain⟨c,hc⟩:=I.ok.has x (.inl hk)
    obtain⟨w',z⟩:=I.cell x c hc
    refine wpAny_storeName_cell I.ok.kind hk hc z (fun h' hc' hs=>?_)
    obtain⟨oc,hoc,hocd⟩:=id z
    refine h { s with heap:=h' } ⟨I.ok,I.os,I.bare,⟨fun b o e n hb hx=>?_,fun b o e n hb hx=>?_,I.base.free,fun b o e hx=>?_,I.base.tups,I.base.frzs,I.base.tbls⟩,⟨m,hn.sameBut hs (Ne.symm (cne x c hc)),fun j y v' e1 e2 e3=>?_⟩,fun y c' e=>?_,I.free,I.freeC,fun p hp=>?_,tracked ⟨oc,hoc,I.freeC x c hc⟩ hs,by simpa using I.len⟩ ⟨c,hs,.inr hc⟩
    · exact (hs.2 b (Nat.ne_of_lt (Nat.lt_of_lt_of_le (Heap.lt_size e) (I.ok.cab x c hfn hc)))).trans (I.base.keep b o e n hb hx)
    · obtain⟨sl,e1⟩:=I.base.slot b o e n hb hx
      exact⟨sl,(hs.2 b (Nat.ne_of_lt (Nat.lt_of_lt_of_le (Heap.lt_size e) (I.ok.cab x c hfn hc)))).trans e1⟩
    · obtain⟨o',e1⟩:=I.base.there b o e hx
      exact⟨o',(hs.2 b (Nat.ne_of_lt (Nat.lt_of_lt_of_le (Heap.lt_size e) (I.ok.cab x c hfn hc)))).trans e1⟩
    · by_cases hj:j=i
      · subst hj
        rw [hi] at e1;cases e1
        rw [List.getElem?_set_self hiσ] at e2
        cases e2
        exact⟨u,r,.inr ⟨.inl hk,c,hc,hc'⟩⟩
      · rw [List.getElem?_set_ne (Ne.symm hj)] at e2
        obtain⟨u',r',q⟩:=hl j y v' e1 e2 e3
        refine⟨u',r',?_⟩
        rcases q with q | ⟨k,c',e,z'⟩
        · exact .inl q
        · refine .inr ⟨k,c',e,z'.sameBut hs ?_⟩
          rintro rfl
          exact hj (c'V hN e1 (I.ok.inj _ _ _ e hc ▸ hi))
    · by_cases hcc:c'=c
      · subst hcc;exact⟨_,hc'⟩
      · obtain⟨w2,z2⟩:=I.cell y c' e
        exact⟨w2,z2.sameBut hs hcc⟩
    · obtain⟨e,n,ne,nf,d⟩:=I.pin p hp
      refine⟨(hs.2 p.1 ?_).trans e,n,ne,nf,d⟩
      intro q
      rw [q,hoc] at e
      have q':oc=p.2:=Option.some.inj e
      exact d w' (by rw [← q'];exact hocd)
theorem b'L {M:Model} {A:Around} {E:Value→Shared→Prop} {i:Nat} {x:Str} {v:V} {u:Value} {Q:Unit→Shared→Prop} (I:Inv X pins σ H s) (hN:X.N.Nodup) (hi:X.N[i]?=some x) (hx:Loc X.env.scope x) (r:RelV v u)
    (h:∀ s',Inv X pins (σ.set i (some v)) H s'→Q () s') (hf:X.fn x=true∨X.env.scope.names.lookup x=some .local:=by first | exact .inl rfl | exact .inr rfl | assumption):wpAny M A (storeName X.env x u) Q E s:=
  d'S I hN hi hx r (fun s' I' _=>h s' I') hf
theorem Inv.call' {s':Shared} {ch:List Addr} (I:Inv X pins σ H s) (ho:s'.os=s.os) (u:Un (frs X.stack) ch H H' s.heap s'.heap) (hok:HOk X.prog X.w H' s'.heap) (hg:AllBare s'.gens)
    (hch:∀ b∈ch,(b∈X.ex∨X.s₀.heap.objs.size≤b)∧b≠X.env.locals∧(∀ x c,X.env.cells.lookup x=some c→c≠b)∧∀ p∈X.pn++pins,p.1≠b):Inv X pins σ H' s':=by
  obtain⟨h',g',d',t',o'⟩:=s'
  have e:o'=s.os:=ho
  subst e
  exact I.call (g':=g') (t':=t') (d':=d') u hok hg hch
end
abbrev XK:=Value→Option Addr→Hp→Prop
abbrev St:=List (Option V)
abbrev VK:=V→Hp→Prop
abbrev TE:=St→Hp→VK→Prop
abbrev TT:=St→Hp→(Bool→Hp→Prop)→Prop
abbrev TA:=St→Hp→(List V→Hp→Prop)→Prop
structure Ends where
  nx:St→Hp→Prop
  rt:VK
  bk:St→Hp→Prop:=fun _ _=>False
  ct:St→Hp→Prop:=fun _ _=>False
abbrev TS:=Ends→St→Hp→Prop
def EP (X:Cx) (pins:List (Addr×Obj)) (σ:St) (Q:VK) (u:Value) (s':Shared):Prop:=∃ v H',Inv X pins σ H' s'∧RelV v u∧Q v H'
def TP (X:Cx) (pins:List (Addr×Obj)) (σ:St) (Q:Bool→Hp→Prop) (b:Bool) (s':Shared):Prop:=∃ H',Inv X pins σ H' s'∧Q b H'
def AP (X:Cx) (pins:List (Addr×Obj)) (σ:St) (Q:List V→Hp→Prop) (us:List Value) (s':Shared):Prop:=∃ vs H',Inv X pins σ H' s'∧Vals vs us∧Q vs H'
def SP (X:Cx) (pins:List (Addr×Obj)) (D:Ends) (f:Flow) (s':Shared):Prop:=
  match f with
  | .next => ∃ σ' H', Inv X pins σ' H' s' ∧ D.nx σ' H'
  | .brk => ∃ σ' H', Inv X pins σ' H' s' ∧ D.bk σ' H'
  | .cont => ∃ σ' H', Inv X pins σ' H' s' ∧ D.ct σ' H'
  | .ret u => ∃ v σ' H', Inv X pins σ' H' s' ∧ RelV v u ∧ D.rt v H'
def PE (X:Cx) (e:Expr) (t:TE):Prop:=
  ∀ (pins:List (Addr×Obj)) (s:Shared) (σ:St) (H:Hp) (Q:VK),Inv X pins σ H s→t σ H Q→wpAny (model X.prog X.w) X.A (eval e X.env) (EP X pins σ Q) X.xe s
def PT (X:Cx) (e:Expr) (t:TT):Prop:=
  ∀ (pins:List (Addr×Obj)) (s:Shared) (σ:St) (H:Hp) (Q:Bool→Hp→Prop),Inv X pins σ H s→t σ H Q→wpAny (model X.prog X.w) X.A (isTrue e X.env (eval e X.env)) (TP X pins σ Q) X.xe s
def PW (X:Cx) (e:Expr) (t:TT):Prop:=
  ∀ (whole:Sem Value) (pins:List (Addr×Obj)) (s:Shared) (σ:St) (H:Hp) (Q:Bool→Hp→Prop),Inv X pins σ H s→t σ H Q→wpAny (model X.prog X.w) X.A (isTrue e X.env whole) (TP X pins σ Q) X.xe s
theorem PW.pt {X:Cx} {e:Expr} {t:TT} (h:PW X e t):PT X e t:=h _
def PA (X:Cx) (es:List Expr) (t:TA):Prop:=
  ∀ (pos:Pos) (pins:List (Addr×Obj)) (s:Shared) (σ:St) (H:Hp) (Q:List V→Hp→Prop),Inv X pins σ H s→t σ H Q→wpAny (model X.prog X.w) X.A (spliced (backTo pos (starEach es X.env))) (AP X pins σ Q) X.xe s
def PS (X:Cx) (st:Stmt) (t:TS):Prop:=
  ∀ (pins:List (Addr×Obj)) (s:Shared) (σ:St) (H:Hp) (D:Ends),Inv X pins σ H s→t D σ H→wpAny (model X.prog X.w) X.A (exec st X.env) (SP X pins D) X.xe s
def PSs (X:Cx) (st:List Stmt) (t:TS):Prop:=
  ∀ (pins:List (Addr×Obj)) (s:Shared) (σ:St) (H:Hp) (D:Ends),Inv X pins σ H s→t D σ H→wpAny (model X.prog X.w) X.A (execs st X.env) (SP X pins D) X.xe s
theorem thn {α:Type} {t:Sem α} {Q Q':α→Shared→Prop} {M:Model} {A:Around} {E:Value→Shared→Prop} {s:Shared} (h:wpAny M A t Q E s) (hQ:∀ a s,Q a s→Q' a s):wpAny M A t Q' E s:=wpAny_mono h hQ fun _ _ x=>x
end L2
namespace L2
open PySem PySem.Spec PyProof.Rows
section
variable {X:Cx}
def tVar (i:Nat):TE:=fun σ H Q=>∃ v,σ[i]?=some (some v)∧Q v H
def tC (v:V):TE:=fun _ H Q=>Q v H
theorem g'Q {i:Nat} {x:Str} {pos:Pos} (hN:X.N[i]?=some x) (hv:Vis X.env.scope x) (hd:(x == ("__debug__":Str))=false:=by decide) (hcd:(x == ("__classdict__":Str))=false:=by decide):PE X (.Name x pos) (tVar i):=by
  intro pins s σ H Q I h
  obtain⟨v,e,h⟩:=h
  obtain⟨m,hn,hl⟩:=I.loc
  obtain⟨u,r,l⟩:=hl i x v hN e hv
  have fin:EP X pins σ Q u s:=⟨v,H,I,r,h⟩
  rcases l with ⟨hk,hm⟩ | ⟨hk,c,hc,hcell⟩
  · exact wpAny_Name (wpAny_loadName_local I.ok.kind hk hn hm fin) hd
  · rcases hk with hk | hk
    · exact wpAny_Name (wpAny_loadName_cell I.ok.kind hk hc hcell fin) hd
    · exact wpAny_Name (wpAny_loadName_free I.ok.kind hk hc hcell fin hcd) hd
theorem n'q {i j pos}:PE X (.Constant (.int i) j pos) (tC (.int i)):=fun _ _ _ H _ I h=>wpAny_Constant_int ⟨.int i,H,I.tok _,⟨_,rfl⟩,h⟩
theorem q'i {b j pos}:PE X (.Constant (.bool b) j pos) (tC (.bl b)):=fun _ _ _ H _ I h=>Constant_bool ⟨.bl b,H,I,rfl,h⟩
theorem n'r {j pos}:PE X (.Constant .none j pos) (tC .non):=fun _ _ _ H _ I h=>Constant_none ⟨.non,H,I,rfl,h⟩
theorem n's {x j pos}:PE X (.Constant (.str x) j pos) (tC (.str x)):=fun _ _ _ H _ I h=>Calls.Constant_str ⟨.str x,H,I.tok _,⟨_,rfl⟩,h⟩
def Gl (X:Cx) (x:Str):Prop:=X.env.kindOf x=some .globalImplicit
theorem c'f {E:Value→Shared→Prop} {pins:List (Addr×Obj)} {s:Shared} {σ:St} {H:Hp} {x:Str} {u:Value} {pos:Pos} {Q:Value→Shared→Prop} (I:Inv X pins σ H s) (hg:Gl X x) (hm:X.mg x=some u) (h:Q u s)
    (hd:(x == ("__debug__":Str))=false:=by decide):wpAny (model X.prog X.w) X.A (eval (.Name x pos) X.env) Q E s:=
  Calls.Name_function_global I.ok.kind hg (Calls.loadGlobal_global (by rw [I.ok.glob];exact I.mod.glob.keeps I.bk) hm h) hd
theorem c'y {E:Value→Shared→Prop} {pins:List (Addr×Obj)} {s:Shared} {σ:St} {H:Hp} {x:Str} {u:Value} {pos:Pos} {Q:Value→Shared→Prop} (I:Inv X pins σ H s) (hg:Gl X x) (hm:X.mg x=none) (hv:bootBuiltins x=some u) (h:Q u s)
    (hn:x≠"__name__":=by decide) (hd:(x == ("__debug__":Str))=false:=by decide):wpAny (model X.prog X.w) X.A (eval (.Name x pos) X.env) Q E s:=by
  obtain⟨mb,h1,h2⟩:=I.mod.blt
  exact Calls.Name_function_global I.ok.kind hg (Calls.loadGlobal_builtin (by rw [I.ok.glob];exact I.mod.glob.keeps I.bk) hm (by rw [I.ok.blt];exact h1.keeps I.bk) ((h2 x hn).trans hv) h) hd
theorem k'j {x:Str} {v:V} {u:Value} {pos:Pos} (hg:Gl X x) (hm:X.mg x=some u) (r:RelV v u) (hd:(x == ("__debug__":Str))=false:=by decide):PE X (.Name x pos) (tC v):=
  fun _ _ _ H _ I h=>c'f I hg hm ⟨v,H,I,r,h⟩ hd
variable {a b:Expr} {ta tb:TE} {pos:Pos}
def tB (t:TE):TT:=fun σ H Q=>t σ H fun x H1=>∃ c,x=.bl c∧Q c H1
theorem n't {e:Expr} {t:TE} (h:PE X e t) (he:∀ whole,isTrue e X.env whole=(do let v ← whole;standAt e.pos;holding [v] (truthy v)):=by intro _;rfl):PT X e (tB t):=by
  intro pins s σ H Q I hw
  refine isTrue_plain (thn (h pins s σ H _ I hw) fun v s1 ⟨x,H1,I1,r1,q1⟩=>?_) (he _)
  obtain⟨d,rfl,q⟩:=q1
  cases r1
  exact wpAny_truthy_bool ⟨H1,I1,q⟩
variable {tA tB':TT} {rest:List Expr}
def tAnd (t u:TT):TT:=fun σ H Q=>t σ H fun c H1=>if c=true then u σ H1 Q else Q false H1
def tOr (t u:TT):TT:=fun σ H Q=>t σ H fun c H1=>if c=true then Q true H1 else u σ H1 Q
def tNot (t:TT):TT:=fun σ H Q=>t σ H fun c H1=>Q (!c) H1
theorem k'k (ha:PT X a tA):PW X (.BoolOp .And [a] pos) tA:=by
  intro wh pins s σ H Q I h
  refine isTrue_and (thn (ha pins s σ H Q I h) fun c s1 e=>?_)
  cases c with
  | true => exact isTrue_and_nil e
  | false => exact e
theorem n'u (ha:PT X a tA):PW X (.BoolOp .Or [a] pos) tA:=by
  intro wh pins s σ H Q I h
  refine isTrue_or (thn (ha pins s σ H Q I h) fun c s1 e=>?_)
  cases c with
  | false => exact isTrue_or_nil e
  | true => exact e
theorem n'v (ha:PT X a tA) (hb:PW X (.BoolOp .And (b :: rest) pos) tB'):PW X (.BoolOp .And (a :: b :: rest) pos) (tAnd tA tB'):=by
  intro wh pins s σ H Q I h
  refine isTrue_and (thn (ha pins s σ H _ I h) fun c s1 ⟨H1,I1,q1⟩=>?_)
  cases c with
  | true => exact hb wh pins s1 σ H1 Q I1 q1
  | false => exact ⟨H1, I1, q1⟩
theorem q'j (ha:PT X a tA) (hb:PW X (.BoolOp .Or (b :: rest) pos) tB'):PW X (.BoolOp .Or (a :: b :: rest) pos) (tOr tA tB'):=by
  intro wh pins s σ H Q I h
  refine isTrue_or (thn (ha pins s σ H _ I h) fun c s1 ⟨H1,I1,q1⟩=>?_)
  cases c with
  | true => exact ⟨H1, I1, q1⟩
  | false => exact hb wh pins s1 σ H1 Q I1 q1
theorem n'w (ha:PT X a tA):PT X (.UnaryOp .Not a pos) (tNot tA):=by
  intro pins s σ H Q I h
  exact isTrue_not (ha pins s σ H (fun c H1=>Q (!c) H1) I h)
def tAndV (ta tb:TE):TE:=fun σ H Q=>ta σ H fun x H1=>∃ c,x=.bl c∧if c=true then tb σ H1 Q else Q (.bl false) H1
def tNotV (ta:TE):TE:=fun σ H Q=>ta σ H fun x H1=>∃ c,x=.bl c∧Q (.bl (!c)) H1
theorem n'x {op} {t:TE} (h:PE X a t):PE X (.BoolOp op [a] pos) t:=fun pins s σ H Q I hw=>BoolOp_one (h pins s σ H Q I hw)
theorem n'y (ha:PE X a ta) (hb:PE X (.BoolOp .And (b :: rest) pos) tb):PE X (.BoolOp .And (a :: b :: rest) pos) (tAndV ta tb):=by
  intro pins s σ H Q I h
  refine BoolOp_and (thn (ha pins s σ H _ I h) fun v s1 ⟨x,H1,I1,r1,q1⟩=>?_)
  obtain⟨c,rfl,q1⟩:=q1
  cases r1
  refine wpAny_truthy_bool ?_
  cases c with
  | true => exact hb pins s1 σ H1 Q I1 q1
  | false => exact ⟨.bl false, H1, I1, rfl, q1⟩
theorem n'z (ha:PE X a ta):PE X (.UnaryOp .Not a pos) (tNotV ta):=by
  intro pins s σ H Q I h
  refine UnaryOp_ (thn (ha pins s σ H _ I h) fun v s1 ⟨x,H1,I1,r1,q1⟩=>?_)
  obtain⟨c,rfl,q1⟩:=q1
  cases r1
  exact not_of (wpAny_truthy_bool ⟨.bl (!c),H1,I1,rfl,q1⟩)
def tIf (t:TT) (ta tb:TE):TE:=fun σ H Q=>t σ H fun c H1=>if c=true then ta σ H1 Q else tb σ H1 Q
theorem i'r {c:Expr} (hc:PT X c tA) (ha:PE X a ta) (hb:PE X b tb):PE X (.IfExp c a b pos) (tIf tA ta tb):=by
  intro pins s σ H Q I h
  refine wpAny_IfExp (thn (hc pins s σ H _ I h) fun d s1 ⟨H1,I1,q1⟩=>?_)
  cases d with
  | true => exact ha pins s1 σ H1 Q I1 q1
  | false => exact hb pins s1 σ H1 Q I1 q1
end
end L2
namespace L2
open PySem PySem.Spec PyProof.Rows
def SqL (K:PySem.W.Frag) (H:Hp) (a:Addr) (xs:List V):Prop:=
  Rd H a (.lst xs)∨
    ∃ (o:Obj) (its:Array Value) (n:Nat),K.lookup a=some o∧o.cls=.type "list"∧o.dict=none∧o.data=.seq its n∧its.size≤sizeLine∧Vals xs its.toList
def SqT (K:PySem.W.Frag) (H:Hp) (a:Addr) (xs:List V):Prop:=
  Rd H a (.tup xs)∨
    ∃ (o:Obj) (its:Array Value) (n:Nat),K.lookup a=some o∧o.cls=.type "tuple"∧o.data=.seq its n∧its.size≤sizeLine∧Vals xs its.toList
def absV:Value→Option V
  | .none => some .non
  | .bool b => some (.bl b)
  | .int i _ => some (.int i)
  | .str x _ => some (.str x)
  | .bytes b _ => some (.byt b)
  | .float b _ => some (.flt b)
  | .ref a => some (.ref a)
  | .type n => some (.ty n)
  | _ => none
theorem RelV.abs {x:V} {u:Value} (r:RelV x u):absV u=some x:=by
  cases x with
  | non => cases r; rfl
  | bl _ => cases r; rfl
  | int _ => obtain ⟨t, rfl⟩ := r; rfl
  | str _ => obtain ⟨t, rfl⟩ := r; rfl
  | byt _ => obtain ⟨t, rfl⟩ := r; rfl
  | flt _ => obtain ⟨t, rfl⟩ := r; rfl
  | ref _ => cases r; rfl
  | ty _ => cases r; rfl
theorem RelV.inj {x y:V} {u:Value} (r:RelV x u) (q:RelV y u):x=y:=Option.some.inj (r.abs.symm.trans q.abs)
theorem Vals.inj:∀ {xs ys:List V} {us:List Value},Vals xs us→Vals ys us→xs=ys
  | _, _, _, .nil, .nil => rfl
  | _, _, _, .cons r t, .cons r' t' => by rw [r.inj r', Vals.inj t t']
section
variable {X:Cx} {pins:List (Addr×Obj)} {σ:St} {H:Hp} {s:Shared} {a:Addr} {xs ys:List V}
theorem SqL.of {K:PySem.W.Frag} (h:H a=some (.lst xs)):SqL K H a xs:=.inl (.inl h)
theorem SqT.of {K:PySem.W.Frag} (h:H a=some (.tup xs)):SqT K H a xs:=.inl (.inl h)
theorem Inv.list (I:Inv X pins σ H s) (h:SqL X.K H a xs):∃ its:List Value,Vals xs its∧PlainL s.heap a its.toArray∧xs.length≤sizeLine:=by
  rcases h with h | ⟨o,its,n,hk,hc,hd,hs,hz,r⟩
  · obtain⟨z,its,n,r,e⟩:=h.ok I.hok
    exact⟨its,r,⟨_,n,e,rfl,rfl,rfl⟩,z⟩
  · refine⟨its.toList,r,⟨o,n,I.kIn a o hk,hc,hd,by simpa using hs⟩,?_⟩
    have e:=r.length
    simp only [Array.length_toList] at e
    omega
theorem Inv.tuple (I:Inv X pins σ H s) (h:SqT X.K H a xs):∃ its:List Value,Vals xs its∧IsTup s.heap a its.toArray∧xs.length≤sizeLine:=by
  rcases h with h | ⟨o,its,n,hk,hc,hs,hz,r⟩
  · obtain⟨z,its,r,p⟩:=h.ok I.hok
    exact⟨its,r,p,z⟩
  · refine⟨its.toList,r,⟨o,I.kIn a o hk,hc,n,by simpa using hs⟩,?_⟩
    have e:=r.length
    simp only [Array.length_toList] at e
    omega
theorem Inv.list_inj (I:Inv X pins σ H s) (h:SqL X.K H a xs) (h':SqL X.K H a ys):xs=ys:=by
  obtain⟨its,r,⟨o,n,e,_,_,d⟩,_⟩:=I.list h
  obtain⟨its',r',⟨o',n',e',_,_,d'⟩,_⟩:=I.list h'
  rw [e] at e';cases e'
  rw [d] at d'
  injection d' with d1 _
  have:its=its':=by simpa using congrArg Array.toList d1
  subst this
  exact r.inj r'
end
abbrev Cx.wish (X:Cx) (E:Value→Shared→Prop):Cx:={ X with xe:=E }
abbrev Cx.nox (X:Cx):Cx:=X.wish fun _ _=>False
theorem Cx.Ok.wish {X:Cx} (ok:X.Ok) (E:Value→Shared→Prop):(X.wish E).Ok:=
  ⟨ok.mod,ok.kind,ok.glob,ok.blt,ok.above,ok.inj,ok.has,ok.cab,ok.hd,ok.frames,ok.stk,ok.exf,ok.bs,ok.bsz,ok.noex,ok.exfs,ok.funs,ok.frf⟩
theorem Cx.Ok.unwish {X:Cx} {E:Value→Shared→Prop} (ok:(X.wish E).Ok):X.Ok:=
  ⟨ok.mod,ok.kind,ok.glob,ok.blt,ok.above,ok.inj,ok.has,ok.cab,ok.hd,ok.frames,ok.stk,ok.exf,ok.bs,ok.bsz,ok.noex,ok.exfs,ok.funs,ok.frf⟩
section
variable {X:Cx} {pins:List (Addr×Obj)} {σ:St} {H:Hp} {s:Shared} {E:Value→Shared→Prop}
theorem Inv.wish (I:Inv X pins σ H s) (E:Value→Shared→Prop):Inv (X.wish E) pins σ H s:=⟨I.ok.wish E,I.os,I.bare,I.base,I.loc,I.cell,I.free,I.freeC,I.pin,I.hok,I.len⟩
theorem Inv.unwish (I:Inv (X.wish E) pins σ H s):Inv X pins σ H s:=⟨I.ok.unwish,I.os,I.bare,I.base,I.loc,I.cell,I.free,I.freeC,I.pin,I.hok,I.len⟩
theorem SP.unwish {D:Ends} {f:Flow} {s':Shared} (h:SP (X.wish E) pins D f s'):SP X pins D f s':=by
  cases f with
  | next => obtain ⟨σ', H', I, q⟩ := h; exact ⟨σ', H', I.unwish, q⟩
  | brk => obtain ⟨σ', H', I, q⟩ := h; exact ⟨σ', H', I.unwish, q⟩
  | cont => obtain ⟨σ', H', I, q⟩ := h; exact ⟨σ', H', I.unwish, q⟩
  | ret u => obtain ⟨v, σ', H', I, r, q⟩ := h; exact ⟨v, σ', H', I.unwish, r, q⟩
theorem PSs.nox {st:List Stmt} {t:TS} (h:PSs X.nox st t):PSs X st t:=fun pins s σ H D I hw=>
  wpAny_mono (h pins s σ H D (I.wish _) hw) (fun _ _ q=>q.unwish) fun _ _ z=>False.elim z
end
section
variable {X:Cx} {st:Stmt} {rest:List Stmt} {t u:TS} {e:Expr} {te:TE} {pos:Pos}
def tNext:TS:=fun D σ H=>D.nx σ H
def tSeq (t u:TS):TS:=fun D σ H=>t { D with nx:=u D } σ H
theorem k'l:PSs X [] tNext:=fun _ _ σ H _ I h=>wpAny_execs_nil ⟨σ,H,I,h⟩
theorem i's (h1:PS X st t) (h2:PSs X rest u):PSs X (st :: rest) (tSeq t u):=by
  intro pins s σ H D I h
  refine wpAny_execs_cons (thn (h1 pins s σ H { D with nx:=u D } I h) fun f s1 q=>?_)
  cases f with
  | next =>
    obtain⟨σ',H',I',q⟩:=q
    exact h2 pins s1 σ' H' D I' q
  | ret v => exact q
  | brk => exact q
  | cont => exact q
theorem f'H (h1:PS X st t):PSs X [st] t:=by
  intro pins s σ H D I h
  refine wpAny_execs_cons (thn (h1 pins s σ H D I h) fun f s1 q=>?_)
  cases f with
  | next => exact wpAny_execs_nil q
  | ret v => exact q
  | brk => exact q
  | cont => exact q
theorem Inv.quiet {pins:List (Addr×Obj)} {σ:St} {H:Hp} {s:Shared} (I:Inv X pins σ H s):interactive X.env=false:=by simp [interactive,I.ok.kind]
def tDrop (te:TE):TS:=fun D σ H=>te σ H fun _ H1=>D.nx σ H1
theorem k'm (he:PE X e te) (hs:swapsWith e none pos.line X.env=pure false:=by rfl):PS X (.Expr e pos) (tDrop te):=by
  intro pins s σ H D I h
  exact wpAny_Expr_any (thn (he pins s σ H _ I h) fun v s1 ⟨x,H1,I1,r1,q1⟩=>⟨σ,H1,I1,q1⟩) I.quiet hs
def tRet (te:TE):TS:=fun D σ H=>te σ H D.rt
theorem n'A (he:PE X e te):PS X (.Return (some e) pos) (tRet te):=by
  intro pins s σ H D I h
  exact wpAny_Return_some (thn (he pins s σ H _ I h) fun v s1 ⟨x,H1,I1,r1,q1⟩=>⟨x,σ,H1,I1,r1,q1⟩)
def tIfS (c:TT) (t u:TS):TS:=fun D σ H=>c σ H fun b H1=>if b=true then t D σ H1 else u D σ H1
theorem q'k {c:Expr} {a b:List Stmt} {tc:TT} (hc:PT X c tc) (ha:PSs X a t) (hb:PSs X b u):PS X (.If c a b pos) (tIfS tc t u):=by
  intro pins s σ H D I h
  refine wpAny_If (thn (hc pins s σ H _ I h) fun d s1 ⟨H1,I1,q1⟩=>?_)
  cases d with
  | true => exact ha pins s1 σ H1 D I1 q1
  | false => exact hb pins s1 σ H1 D I1 q1
def tNever:TS:=fun _ _ _=>False
theorem i't:PS X st tNever:=fun _ _ _ _ _ _ h=>h.elim
end
abbrev TG:=V→St→Hp→(St→Hp→Prop)→Prop
abbrev TGs:=List V→St→Hp→(St→Hp→Prop)→Prop
def PG (X:Cx) (target:Expr) (t:TG):Prop:=
  ∀ (pins:List (Addr×Obj)) (s:Shared) (σ:St) (H:Hp) (v:V) (u:Value) (Q:St→Hp→Prop),Inv X pins σ H s→RelV v u→t v σ H Q→
    wpAny (model X.prog X.w) X.A (assign target X.env u) (fun _ s'=>∃ σ' H',Inv X pins σ' H' s'∧Q σ' H') X.xe s
def PGs (X:Cx) (ts:List Expr) (t:TGs):Prop:=
  ∀ (pins:List (Addr×Obj)) (s:Shared) (σ:St) (H:Hp) (vs:List V) (us:List Value) (Q:St→Hp→Prop),Inv X pins σ H s→Vals vs us→t vs σ H Q→
    wpAny (model X.prog X.w) X.A (assignInOrder ((assignEach ts X.env).map (·.2)) us) (fun _ s'=>∃ σ' H',Inv X pins σ' H' s'∧Q σ' H') X.xe s
abbrev TSet:=V→V→V→Hp→(Hp→Prop)→Prop
def PSet (X:Cx) (t:TSet):Prop:=
  ∀ (pins:List (Addr×Obj)) (s:Shared) (σ:St) (H:Hp) (o i v:V) (ov iv u:Value) (Q:Hp→Prop),Inv X pins σ H s→RelV o ov→RelV i iv→RelV v u→t o i v H Q→
    wpAny (model X.prog X.w) X.A (setItem ov iv u) (fun _ s'=>∃ H',Inv X pins σ H' s'∧Q H') X.xe s
section
variable {X:Cx} {pos:Pos}
def gName (i:Nat):TG:=fun v σ H Q=>Q (σ.set i (some v)) H
theorem f'I {i:Nat} {x:Str} (hN:X.N.Nodup) (hi:X.N[i]?=some x) (hx:Loc X.env.scope x) (hf:X.fn x=true∨X.env.scope.names.lookup x=some .local:=by first | exact .inl rfl | exact .inr rfl | assumption):PG X (.Name x pos) (gName i):=by
  intro pins s σ H v u Q I r h
  exact wpAny_assign_Name (b'L I hN hi hx r (fun s' I'=>⟨_,H,I',h⟩) hf)
def gNil:TGs:=fun vs σ H Q=>vs=[]∧Q σ H
def gCons (t:TG) (u:TGs):TGs:=fun vs σ H Q=>∃ v r,vs=v :: r∧t v σ H fun σ' H'=>u r σ' H' Q
theorem k'n:PGs X [] gNil:=by
  intro pins s σ H vs us Q I r h
  obtain⟨e,h⟩:=h
  subst e
  cases r
  exact assignInOrder_nil ⟨σ,H,I,h⟩
theorem i'u {e:Expr} {es:List Expr} {t:TG} {u:TGs} (h1:PG X e t) (h2:PGs X es u)
    (hs:(assignEach (e :: es) X.env).map (·.2)=assign e X.env :: (assignEach es X.env).map (·.2):=by rfl):PGs X (e :: es) (gCons t u):=by
  intro pins s σ H vs us Q I r h
  obtain⟨v,vr,e1,h⟩:=h
  subst e1
  cases r with
  | cons r rr =>
    rw [hs]
    refine assignInOrder_cons (thn (h1 pins s σ H _ _ _ I r h) fun _ s1 ⟨σ1,H1,I1,q1⟩=>?_)
    exact h2 pins s1 σ1 H1 _ _ Q I1 rr q1
def gTup (K:PySem.W.Frag) (n:Nat) (t:TGs):TG:=fun v σ H Q=>∃ a xs,v=.ref a∧SqT K H a xs∧xs.length=n∧t xs σ H Q
theorem n'B {es:List Expr} {k:Nat} {t:TGs} {n:Nat} (hc:X.calm=true) (h:PGs X es t)
    (hn:(assignEach es X.env).length=n:=by rfl) (hst:(assignEach es X.env).findIdx? (·.1)=none:=by rfl):PG X (.Tuple es k pos) (gTup X.K n t):=by
  intro pins s σ H v u Q I r hw
  obtain⟨a,xs,e1,hq,hl,hw⟩:=hw
  subst e1
  cases r
  obtain⟨its,rv,ht,hz⟩:=I.tuple hq
  refine assign_Tuple_tuple (I.ok.hd hc) ht (by simp [hn,← hl,rv.length]) hst fun h' hx=>?_
  have I1:Inv X pins σ H { s with heap:=h' }:=I.kept (t':=s.toks) fun b o e=>hx b o (Nat.ne_of_lt (Heap.lt_size e)) e
  exact h pins _ σ H xs _ Q I1 (by simpa using rv) hw
def gSub (to ti:TE) (t:TSet):TG:=fun v σ H Q=>to σ H fun o H1=>ti σ H1 fun i H2=>t o i v H2 fun H3=>Q σ H3
theorem n'C {o i:Expr} {to ti:TE} {t:TSet} (ho:PE X o to) (hi:PE X i ti) (hs:PSet X t)
    (ha:∀ v,assign (.Subscript o i pos) X.env v=(do
      let ov ← holding [v] (eval o X.env)
      let iv ← holding [v,ov] (eval i X.env)
      standAt pos
      holding [v,ov,iv] (setItem ov iv v)
      release [v,ov,iv] []):=by intro _;rfl):PG X (.Subscript o i pos) (gSub to ti t):=by
  intro pins s σ H v u Q I r h
  rw [ha]
  refine wpAny_bind (wpAny_holding (thn (ho pins s σ H _ I h) fun ov s1 ⟨x,H1,I1,r1,q1⟩=>?_))
  refine wpAny_bind (wpAny_holding (thn (hi pins s1 σ H1 _ I1 q1) fun iv s2 ⟨y,H2,I2,r2,q2⟩=>?_))
  refine wpAny_bind (wpAny_standAt (wpAny_bind (wpAny_holding (thn (hs pins s2 σ H2 x y v ov iv u _ I2 r1 r2 r q2) fun _ s3 ⟨H3,I3,q3⟩=>?_))))
  exact wpAny_release ⟨σ,H3,I3,q3⟩
def tAsg (te:TE) (g:TG):TS:=fun D σ H=>te σ H fun x H1=>g x σ H1 D.nx
theorem g'R {tg e:Expr} {te:TE} {g:TG} (he:PE X e te) (hg:PG X tg g) (hs:swapsWithSole [tg] e pos.line X.env=pure false:=by rfl) (hw:swappedStores [tg] e X.env=pure none:=by rfl)
    (h1:(assignEach [tg] X.env).map (·.2)=[assign tg X.env]:=by rfl):PS X (.Assign [tg] e pos) (tAsg te g):=by
  intro pins s σ H D I h
  refine wpAny_Assign_stores (thn (he pins s σ H _ I h) fun v s1 ⟨x,H1,I1,r1,q1⟩=>?_) hs hw
  rw [h1]
  exact thn (hg pins s1 σ H1 x v _ I1 r1 q1) fun _ s2 q=>q
theorem e'x {i:Nat} {x:Str} {e:Expr} {te:TE} {pos':Pos} (hN:X.N.Nodup) (hi:X.N[i]?=some x) (hx:Loc X.env.scope x) (he:PE X e te) (hs:swapsWith e (some (.Name x pos')) pos.line X.env=pure false:=by rfl) (hf:X.fn x=true∨X.env.scope.names.lookup x=some .local:=by first | exact .inl rfl | exact .inr rfl | assumption) :
    PS X (.Assign [.Name x pos'] e pos) (tAsg te (gName i)):=by
  intro pins s σ H D I h
  refine wpAny_Assign_Name (thn (he pins s σ H _ I h) fun v s1 ⟨y,H1,I1,r1,q1⟩=>?_) hs
  exact b'L I1 hN hi hx r1 (fun s2 I2=>⟨_,H1,I2,q1⟩) hf
def tPar (i j:Nat) (ta:TA):TS:=fun D σ H=>ta σ H fun vs H1=>∃ v w,vs=[v,w]∧D.nx ((σ.set i (some v)).set j (some w)) H1
theorem n'D {i j:Nat} {x y:Str} {a b:Expr} {ta:TA} {px py pt:Pos} {kt k2 pt2} (hc:X.calm=true) (hN:X.N.Nodup) (hi:X.N[i]?=some x) (hj:X.N[j]?=some y) (hij:i≠j)
    (hx:X.env.scope.names.lookup x=some .local) (hy:X.env.scope.names.lookup y=some .local) (ha:PA X [a,b] ta)
    (hw:swappedStores [.Tuple [.Name x px,.Name y py] kt pt] (.Tuple [a,b] k2 pt2) X.env=pure (some [x,y]))
    (hs:swapsWithSole [.Tuple [.Name x px,.Name y py] kt pt] (.Tuple [a,b] k2 pt2) pos.line X.env=pure false:=by rfl) :
    PS X (.Assign [.Tuple [.Name x px,.Name y py] kt pt] (.Tuple [a,b] k2 pt2) pos) (tPar i j ta):=by
  intro pins s σ H D I h
  rw [exec_Assign_arm]
  refine wpAny_bind (wpAny_standAt ?_)
  rw [hs]
  refine wpAny_bind (wpAny_pure ?_)
  rw [if_neg (by decide)]
  refine wpAny_bind (Tuple_ (thn (ha _ pins s σ H _ I h) fun us s1 ⟨vs,H1,I1,r1,q1⟩=>?_))
  obtain⟨v,w,e1,q1⟩:=q1
  subst e1
  obtain⟨u1,u2,rfl,rv,rw'⟩:∃ u1 u2,us=[u1,u2]∧RelV v u1∧RelV w u2:=by
    cases r1 with
    | cons p q=>
      cases q with
      | cons p' q'=>
        cases q'
        exact⟨_,_,rfl,p,p'⟩
  refine wpAny_newObj_type ?_ (by show 2≤sizeLine;decide)
  have I2:Inv X pins σ H1 { s1 with heap:=s1.heap.push { cls:=.type "tuple",data:=.seq [u1,u2].toArray } }:=I1.kept (t':=s1.toks) fun b o e=>Heap.get?_push_of_some _ e
  rw [hw]
  refine wpAny_bind (wpAny_pure ?_)
  show wpAny (model X.prog X.w) X.A (do rule "assign.swapped-stores";let items ← unpackItems (.ref s1.heap.objs.size) 2 none;assignInOrder [fun v=>bindName X.env y v,fun v=>bindName X.env x v] items.reverse;pure Flow.next) _ _ _
  refine wpAny_bind (wpAny_rule (wpAny_bind (unpackItems_tuple (items:=#[u1,u2]) (I.ok.hd hc) (IsTup.new s1.heap _) fun h' hx'=>?_)))
  have I3:=I2.kept (h':=h') (t':=s1.toks) fun b o e=>hx' b o (Nat.ne_of_lt (Heap.lt_size e)) e
  show wpAny _ _ (assignInOrder [fun v=>bindName X.env y v,fun v=>bindName X.env x v] [u2,u1] >>= fun _=>pure Flow.next) _ _ _
  refine wpAny_bind (assignInOrder_cons (wpAny_bindName (b'L I3 hN hj (.inl hy) rw' (fun s2 I4=>?_) (.inr hy))))
  refine assignInOrder_cons (wpAny_bindName (b'L I4 hN hi (.inl hx) rv (fun s3 I5=>assignInOrder_nil (wpAny_pure ?_)) (.inr hx)))
  rw [List.set_comm _ _ (Ne.symm hij)] at I5
  exact⟨_,H1,I5,q1⟩
end
section
variable {X:Cx} {pos:Pos}
def tWhile (c:TT) (tb:TS):TS:=fun D σ H=>∃ W:Nat→St→Hp→Prop,(∃ m,W m σ H)∧∀ m σ H,W m σ H→
  c σ H fun b H1=>if b=true then ∃ N:St→Hp→Prop,(∀ σ' H',N σ' H'→∃ m',m'<m∧W m' σ' H')∧tb { D with nx:=N,ct:=N,bk:=D.nx } σ H1 else D.nx σ H1
theorem i'v {c:Expr} {body:List Stmt} {tc:TT} {tb:TS} (hp:PassesOwn (model X.prog X.w) X.A X.env X.xe) (hc:PT X c tc) (hb:PSs X body tb):PS X (.While c body [] pos) (tWhile tc tb):=by
  intro pins s σ H D I h
  obtain⟨W,⟨m0,w0⟩,turn⟩:=h
  refine wpAny_While (codeAny_whileLoop (fun n s'=>∃ σ' H',Inv X pins σ' H' s'∧W n σ' H') ?_ m0 ⟨σ,H,I,w0⟩)
  rintro n s1 ⟨σ1,H1,I1,w1⟩
  refine wpAny_passesOwn hp (thn (hc pins s1 σ1 H1 _ I1 (turn n σ1 H1 w1)) fun b s2 ⟨H2,I2,q2⟩=>?_)
  cases b with
  | true =>
    obtain⟨N,hN,q2⟩:=q2
    rw [if_pos rfl]
    refine wpAny_passesOwn hp (thn (hb pins s2 σ1 H2 _ I2 q2) fun f s3 q3=>?_)
    cases f with
    | next=>
      obtain⟨σ3,H3,I3,n3⟩:=q3
      obtain⟨m',hm,w3⟩:=hN σ3 H3 n3
      exact⟨m',hm,σ3,H3,I3,w3⟩
    | cont=>
      obtain⟨σ3,H3,I3,n3⟩:=q3
      obtain⟨m',hm,w3⟩:=hN σ3 H3 n3
      exact⟨m',hm,σ3,H3,I3,w3⟩
    | brk=>exact q3
    | ret v=>exact q3
  | false =>
    rw [if_neg Bool.false_ne_true]
    exact wpAny_execs_nil ⟨σ1,H2,I2,q2⟩
end
structure It where
  go:Nat→Hp→Prop
  yld:Nat→Hp→V→Hp→Prop
  stop:Nat→Hp→Prop
def FpOk (X:Cx) (pins:List (Addr×Obj)) (H:Hp) (b:Addr):Prop:=
  H b=none∧b≠X.env.locals∧b ∉ X.fs∧(b∈X.ex∨X.s₀.heap.objs.size≤b)∧(∀ x c,X.env.cells.lookup x=some c→c≠b)∧∀ p∈X.pn++pins,p.1≠b
theorem Inv.fpOk {X:Cx} {pins:List (Addr×Obj)} {σ:St} {H H':Hp} {s:Shared} {b:Addr} (I:Inv X pins σ H s) (hb:s.heap.objs.size≤b) (hn:H' b=none):FpOk X pins H' b:=by
  refine⟨hn,Nat.ne_of_gt (Nat.lt_of_lt_of_le I.lt hb),I.nofs hb,.inr (Nat.le_trans I.sz hb),fun x c e z=>?_,fun p hp z=>?_⟩
  · obtain⟨v,q⟩:=I.cell x c e
    exact absurd (Nat.lt_of_lt_of_le q.lt (by rw [z];exact hb)) (Nat.lt_irrefl _)
  · exact absurd (Nat.lt_of_lt_of_le (Heap.lt_size (I.pin p hp).1) (by rw [z];exact hb)) (Nat.lt_irrefl _)
structure Turn (P:Program) (w:World) (K:PySem.W.Frag) (tg:Expr) (J:It) (fp:List Addr) (it:Addr) (tn:Nat→Heap→Prop):Prop where
  mem:it∈fp
  obj:∀ i h,tn i h→∀ b∈fp,∃ o,h.get? b=some o∧∀ v,o.data≠.cell v
  keep:∀ i h h',tn i h→(∀ b∈fp,∀ o,h.get? b=some o→h'.get? b=some o)→tn i h'
  item:∀ (X:Cx),X.prog=P→X.w=w→X.K=K→X.calm=true→∀ (i:Nat) (pins:List (Addr×Obj)) (s:Shared) (σ:St) (H:Hp) (E:Value→Shared→Prop),Inv X pins σ H s→(∀ b∈fp,FpOk X pins H b)→tn i s.heap→J.go i H→
    wpAny (model P w) X.A (pyNext (.ref it)) (fun r s1=>∃ u,r=some u∧
      wpAny (model P w) X.A (letOwnedTupleGo tg (.ref it) u) (fun _ s2=>∃ x H',Inv X pins σ H' s2∧RelV x u∧J.yld i H x H'∧tn (i+1) s2.heap∧∀ b∈fp,H' b=none) E s1) E s
  done:∀ (X:Cx),X.prog=P→X.w=w→X.K=K→X.calm=true→∀ (i:Nat) (pins:List (Addr×Obj)) (s:Shared) (σ:St) (H:Hp) (E:Value→Shared→Prop),Inv X pins σ H s→(∀ b∈fp,FpOk X pins H b)→tn i s.heap→J.stop i H→
    wpAny (model P w) X.A (pyNext (.ref it)) (fun r s1=>r=none∧Inv X pins σ H s1) E s
  self:∀ (A:Around) (i:Nat) (s:Shared) (Q:Value→Shared→Prop) (E:Value→Shared→Prop),tn i s.heap→Q (.ref it) s→wpAny (model P w) A (pyIter (.ref it)) Q E s
abbrev TI:=St→Hp→(It→Hp→Prop)→Prop
def PIE (X:Cx) (pins:List (Addr×Obj)) (σ:St) (tg:Expr) (R:It→Hp→Prop) (itv:Value) (s2:Shared):Prop:=
  ∃ (it:Addr) (fp:List Addr) (tn:Nat→Heap→Prop) (J:It) (H':Hp),itv=.ref it∧Inv X pins σ H' s2∧Turn X.prog X.w X.K tg J fp it tn∧tn 0 s2.heap∧(∀ b∈fp,FpOk X pins H' b)∧R J H'
def PI (X:Cx) (tg iter:Expr) (wi:TI):Prop:=
  ∀ (pins:List (Addr×Obj)) (s:Shared) (σ:St) (H:Hp) (R:It→Hp→Prop),Inv X pins σ H s→wi σ H R→
    wpAny (model X.prog X.w) X.A (eval iter X.env) (fun v s1=>wpAny (model X.prog X.w) X.A (pyIter v) (PIE X pins σ tg R) X.xe s1) X.xe s
theorem j'T {M:Model} {A:Around} {E:Value→Shared→Prop} {s:Shared} {tg:Expr} {it:Addr} {u:Value} {o:Obj} {n:String} {vs:Array Value} {Q:Unit→Shared→Prop} (ho:s.heap.get? it=some o) (hc:o.cls=.type n) (hd:o.data=.fields vs)
    (hn:["enumerate","zip","dict_itemiterator","dict_reverseitemiterator","odict_iterator","itertools.zip_longest","itertools.pairwise"].contains n=false) (hQ:Q () s):wpAny M A (letOwnedTupleGo tg (.ref it) u) Q E s:=by
  unfold letOwnedTupleGo
  cases tg<;>first
    | exact wpAny_pure hQ
    | (cases u<;>first
        | exact wpAny_pure hQ
        | (refine wpAny_bind (wpAny_load ho ?_)
           rw [hc,hd]
           show wpAny M A (if (["enumerate","zip","dict_itemiterator","dict_reverseitemiterator","odict_iterator","itertools.zip_longest","itertools.pairwise"].contains n && vs[0]? == some (rawInt _))=true then _ else _) Q E s
           rw [if_neg (by intro h;rw [hn,Bool.false_and] at h;cases h)]
           exact wpAny_pure hQ))
def Itl (K:PySem.W.Frag) (a:Addr):It:=
  ⟨fun i H=>∃ xs x,SqL K H a xs∧xs[i]?=some x,fun i H x H'=>H'=H∧∀ xs,SqL K H a xs→xs[i]?=some x,fun i H=>∃ xs,SqL K H a xs∧xs.length≤i⟩
def Itr (lo:Int) (n:Nat):It:=⟨fun i _=>i<n,fun i H x H'=>H'=H∧x=.int (lo+i),fun i _=>n≤i⟩
theorem g'S {P:Program} {w:World} {K:PySem.W.Frag} {tg:Expr} (a it:Addr):Turn P w K tg (Itl K a) [it] it (fun i h=>h.IsListIter it a i) where
  mem:=by simp
  obj:=fun i h st b hb=>by
    have e:b=it:=by simpa using hb
    subst e
    obtain⟨o,e,c,d⟩:=st
    exact⟨o,e,fun v z=>by rw [d] at z;cases z⟩
  keep:=fun i h h' st k=>st.at fun o e=>k it (by simp) o e
  item:=by
    intro X hP hw hK hc i pins s σ H E I hf st hg
    subst hP hw hK
    obtain⟨xs,x,hq,hx⟩:=hg
    obtain⟨its,rv,p,hz⟩:=I.list hq
    obtain⟨u,hu,ru⟩:=rv.get hx
    obtain⟨f0,f1,f2,f3,f4,f5⟩:=hf it (by simp)
    refine wpAny_pyNext_list_item st p.isList (x:=u) (by simpa using hu) fun h' st' sb=>?_
    have I1:Inv X pins σ H { s with heap:=h' }:=I.turned (t':=s.toks) (fun b o hb e=>(sb.2 b hb).trans e) f0 f1 f3 f4 f5
    obtain⟨o,e,c,d⟩:=id st'
    exact⟨u,rfl,j'T (s:={ s with heap:=h' }) e c d (by decide) ⟨x,H,I1,ru,⟨rfl,fun ys hy=>by rw [I.list_inj hy hq];exact hx⟩,st',fun b hb=>(hf b hb).1⟩⟩
  done:=by
    intro X hP hw hK hc i pins s σ H E I hf st hg
    subst hP hw hK
    obtain⟨xs,hq,hx⟩:=hg
    obtain⟨its,rv,p,hz⟩:=I.list hq
    obtain⟨f0,f1,f2,f3,f4,f5⟩:=hf it (by simp)
    have hl:=rv.length
    exact wpAny_pyNext_list_end (I.ok.hd hc) st p.isList (by simp;omega) fun h' eb=>⟨rfl,I.turned (t':=s.toks) (fun b o hb e=>eb b o hb e) f0 f1 f3 f4 f5⟩
  self:=fun _ _ _ _ _ st h=>wpAny_pyIter_listiter st h
theorem g't {P:Program} {w:World} {K:PySem.W.Frag} {tg:Expr} (it:Addr) (lo:Int) (n:Nat):Turn P w K tg (Itr lo n) [it] it (fun i h=>IsRangeIter h it (lo+(i:Nat)*1) ((n:Int) - (i:Nat)) 1) where
  mem:=by simp
  obj:=fun i h st b hb=>by
    have e:b=it:=by simpa using hb
    subst e
    exact⟨_,st,fun v z=>by
      have z':Data.fields _=Data.cell v:=z
      cases z'⟩
  keep:=fun i h h' st k=>k it (by simp) _ st
  item:=by
    intro X hP hw hK hc i pins s σ H E I hf st hg
    subst hP hw hK
    obtain⟨f0,f1,f2,f3,f4,f5⟩:=hf it (by simp)
    have W:=Walks.range (prog:=X.prog) (w:=X.w) (I.ok.hd hc) it lo 1 n
    refine W.item i s _ _ hg st fun v h' tk hv st' kk=>?_
    obtain⟨t,rfl⟩:=hv
    have I1:Inv X pins σ H { s with heap:=h',toks:=tk }:=I.turned (fun b o hb e=>kk b o (by simpa using hb) e) f0 f1 f3 f4 f5
    refine⟨_,rfl,j'T (s:={ s with heap:=h',toks:=tk }) (n:="range_iterator") st' rfl rfl (by decide) ⟨.int (lo+i),H,I1,⟨t,?_⟩,⟨rfl,rfl⟩,st',fun b hb=>(hf b hb).1⟩⟩
    rw [Int.mul_one]
  done:=by
    intro X hP hw hK hc i pins s σ H E I hf st hg
    subst hP hw hK
    obtain⟨f0,f1,f2,f3,f4,f5⟩:=hf it (by simp)
    exact wpAny_pyNext_range_end (I.ok.hd hc) st (by have:n≤i:=hg;omega) fun h' eb=>⟨rfl,I.turned (t':=s.toks) (fun b o hb e=>eb b o hb e) f0 f1 f3 f4 f5⟩
  self:=fun _ _ _ _ _ st h=>wpAny_pyIter_rangeiter st h
end L2
namespace L2
open PySem PySem.Spec PyProof.Rows
section
variable {X:Cx} {tg:Expr}
def iList (K:PySem.W.Frag) (tl:TE):TI:=fun σ H R=>tl σ H fun x H1=>∃ a,x=.ref a∧(∃ xs,SqL K H1 a xs)∧R (Itl K a) H1
theorem k'o {l:Expr} {tl:TE} (hl:PE X l tl):PI X tg l (iList X.K tl):=by
  intro pins s σ H R I h
  refine thn (hl pins s σ H _ I h) fun v s1 ⟨x,H1,I1,r1,q1⟩=>?_
  obtain⟨a,e,⟨xs,hq⟩,q⟩:=q1
  subst e
  cases r1
  obtain⟨its,rv,p,hz⟩:=I1.list hq
  refine wpAny_pyIter_list p.isList ?_
  refine⟨s1.heap.objs.size,[s1.heap.objs.size],_,_,H1,rfl,I1.kept (t':=s1.toks) fun b o e=>Heap.get?_push_of_some _ e,g'S a _,⟨_,Heap.get?_push_size _ rfl,rfl,rfl⟩,fun b hb=>?_,q⟩
  have e:b=s1.heap.objs.size:=by simpa using hb
  subst e
  exact I1.fpOk (Nat.le_refl _) (I1.hok.fresh (Nat.le_refl _))
theorem i'w {pins:List (Addr×Obj)} {σ:St} {H:Hp} {s:Shared} {R:It→Hp→Prop} {E:Value→Shared→Prop} {lo hi:Int} {t u v:Tok} {tk:Nat} (I:Inv X pins σ H s) (h1:-(2 ^ 62)≤lo) (h2:lo<2 ^ 62) (h3:-(2 ^ 62)≤hi) (h4:hi<2 ^ 62)
    (q:R (Itr lo (hi - lo).toNat) H):wpAny (model X.prog X.w) X.A (pyIter (.ref s.heap.objs.size)) (PIE X pins σ tg R) E { s with heap:=s.heap.push { cls:=.type "range",data:=.fields #[.int lo t,.int hi u,.int 1 v] },toks:=tk }:=by
  refine wpAny_pyIter_range (IsRange.new ..) (small_one h1 h2 h3 h4) ?_
  have I1:Inv X pins σ H { s with heap:=s.heap.push { cls:=.type "range",data:=.fields #[.int lo t,.int hi u,.int 1 v] },toks:=tk }:=I.kept fun b o e=>Heap.get?_push_of_some _ e
  refine⟨(s.heap.push { cls:=.type "range",data:=.fields #[.int lo t,.int hi u,.int 1 v] }).objs.size,[(s.heap.push { cls:=.type "range",data:=.fields #[.int lo t,.int hi u,.int 1 v] }).objs.size],_,_,H,rfl,
    I1.kept (t':=tk) fun b o e=>Heap.get?_push_of_some _ e,g't _ lo (hi - lo).toNat,?_,fun b hb=>?_,q⟩
  · have e1:lo+((0:Nat):Int)*1=lo:=by simp
    have e2:(((hi - lo).toNat:Nat):Int) - ((0:Nat):Int)=Builtin.Range.rangeSize lo hi 1:=by rw [rangeSize_one];split<;>omega
    show IsRangeIter _ _ (lo+((0:Nat):Int)*1) ((((hi - lo).toNat:Nat):Int) - ((0:Nat):Int)) 1
    rw [e1,e2]
    exact Heap.get?_push_size _ rfl
  · have e:b=(s.heap.push { cls:=.type "range",data:=.fields #[.int lo t,.int hi u,.int 1 v] }).objs.size:=by simpa using hb
    subst e
    exact I1.fpOk (Nat.le_refl _) (I1.hok.fresh (Nat.le_refl _))
def iRng1 (ta:TA):TI:=fun σ H R=>ta σ H fun vs H1=>∃ j:Int,vs=[.int j]∧-(2 ^ 62)≤j∧j<2 ^ 62∧R (Itr 0 j.toNat) H1
theorem g'T {a:Expr} {ta:TA} {p pos:Pos} (hg:Gl X "range") (hm:X.mg "range"=none) (ha:PA X [a] ta) (hs:starEach [a] X.env=[(false,eval a X.env)]:=by rfl):PI X tg (.Call (.Name "range" p) [a] [] pos) (iRng1 ta):=by
  intro pins s σ H R I h
  refine Call_ (c'y I hg hm boot_range (PyProof.Rows.callWith_type1 (thn (ha pos pins s σ H _ I h) fun us s1 ⟨vs,H1,I1,r1,q1⟩=>?_) hs rfl))
  obtain⟨j,e,q1,q2,q⟩:=q1
  subst e
  cases r1 with
  | cons r rr =>
    cases rr
    obtain⟨t,rfl⟩:=r
    exact call_range_1 (i'w I1 (by omega) (by omega) q1 q2 (by simpa using q))
def tFor (wi:TI) (g:TG) (tb:TS):TS:=fun D σ H=>wi σ H fun J H1=>∃ W:Nat→Nat→St→Hp→Prop,(∃ m,W 0 m σ H1)∧∀ i m σ H,W i m σ H→
  (J.stop i H∧D.nx σ H)∨(J.go i H∧∃ N:St→Hp→Prop,(∀ σ' H',N σ' H'→∃ m',m'<m∧W (i+1) m' σ' H')∧∀ x H',J.yld i H x H'→g x σ H' fun σ2 H2=>tb { D with nx:=N,ct:=N,bk:=D.nx } σ2 H2)
def pinsAt (fp:List Addr) (h:Heap):List (Addr×Obj):=fp.filterMap fun b=>(h.get? b).map fun o=>(b,o)
theorem b'G {fp:List Addr} {h:Heap} {b:Addr} {o:Obj} (hb:b∈fp) (e:h.get? b=some o):(b,o)∈pinsAt fp h:=List.mem_filterMap.mpr ⟨b,hb,by rw [e];rfl⟩
theorem g'U {fp:List Addr} {h:Heap} {p:Addr×Obj} (hp:p∈pinsAt fp h):p.1∈fp∧h.get? p.1=some p.2:=by
  obtain⟨b,hb,e⟩:=List.mem_filterMap.mp hp
  cases q:h.get? b with
  | none => rw [q] at e; cases e
  | some o =>
    rw [q] at e
    have e':(b,o)=p:=Option.some.inj e
    subst e'
    exact⟨hb,q⟩
theorem Inv.pinned {pins:List (Addr×Obj)} {σ:St} {H:Hp} {s:Shared} {fp:List Addr} (I:Inv X pins σ H s) (hf:∀ b∈fp,FpOk X pins H b) (ho:∀ b∈fp,∃ o,s.heap.get? b=some o∧∀ v,o.data≠.cell v):Inv X (pins++pinsAt fp s.heap) σ H s:=
  I.pins_of fun p hp=>(List.mem_append.mp hp).elim (fun z=>I.pin p (List.mem_append_right _ z)) fun z=>by
    obtain⟨hb,e⟩:=g'U z
    obtain⟨f0,f1,f2,_⟩:=hf p.1 hb
    obtain⟨o,e',d⟩:=ho p.1 hb
    rw [e] at e';cases e'
    exact⟨e,f0,f1,f2,d⟩
theorem Inv.unpinned {pins pl:List (Addr×Obj)} {σ:St} {H:Hp} {s:Shared} (I:Inv X (pins++pl) σ H s):Inv X pins σ H s:=I.pins_of fun p hp=>I.pin p (List.mem_append_right _ (List.mem_append_left _ hp))
theorem g'V {iter:Expr} {body:List Stmt} {wi:TI} {g:TG} {tb:TS} {pos:Pos} (hp:PassesOwn (model X.prog X.w) X.A X.env X.xe) (hc:X.calm=true) (hi:PI X tg iter wi) (hg:PG X tg g) (hb:PSs X body tb)
    (hs:∀ x,foldedSetIterable iter X.env x=pure x:=by intro _;rfl):PS X (.For tg iter body [] pos) (tFor wi g tb):=by
  intro pins s σ H D I h
  refine wpAny_For (thn (hi pins s σ H _ I h) fun v s1 h1=>thn h1 fun itv s2 h2=>?_) hs
  obtain⟨it,fp,tn,J,H2,e,I2,T,st2,f2,W,⟨m0,w0⟩,turn⟩:=h2
  subst e
  have stat:∀ {H':Hp},(∀ b∈fp,H' b=none)→∀ b∈fp,FpOk X pins H' b:=fun hn b hb=>⟨hn b hb,(f2 b hb).2⟩
  refine codeAny_forLoop_any (fun n s'=>∃ i σ' H',Inv X pins σ' H' s'∧tn i s'.heap∧(∀ b∈fp,H' b=none)∧W i n σ' H') ?_ m0 ⟨0,σ,H2,I2,st2,fun b hb=>(f2 b hb).1,w0⟩
  rintro n s3 ⟨i,σ3,H3,I3,st3,fr3,w3⟩
  rcases turn i n σ3 H3 w3 with ⟨stop,qn⟩ | ⟨go,N,hN,step⟩
  · refine wpAny_passesOwn hp (thn (T.done X rfl rfl rfl hc i pins s3 σ3 H3 X.xe I3 (stat fr3) st3 stop) fun r s4 ⟨hr,I4⟩=>?_)
    subst hr
    exact wpAny_execs_nil ⟨σ3,H3,I4,qn⟩
  · refine wpAny_passesOwn hp (thn (T.item X rfl rfl rfl hc i pins s3 σ3 H3 X.xe I3 (stat fr3) st3 go) fun r s4 ⟨u,hr,h4⟩=>?_)
    subst hr
    refine wpAny_passesOwn hp (thn h4 fun _ s5 ⟨x,H5,I5,r5,y5,st5,fr5⟩=>?_)
    have I5':=I5.pinned (stat fr5) (T.obj _ _ st5)
    refine wpAny_passesOwn hp (thn (hg _ s5 σ3 H5 x u _ I5' r5 (step x H5 y5)) fun _ s6 ⟨σ6,H6,I6,q6⟩=>?_)
    refine wpAny_passesOwn hp (thn (hb _ s6 σ6 H6 _ I6 q6) fun f s7 q7=>?_)
    have again:∀ {σ7:St} {H7:Hp},Inv X (pins++pinsAt fp s5.heap) σ7 H7 s7→N σ7 H7→∃ m,m<n∧∃ i σ' H',Inv X pins σ' H' s7∧tn i s7.heap∧(∀ b∈fp,H' b=none)∧W i m σ' H':=fun {σ7 H7} I7 n7=>by
      obtain⟨m',hm,w7⟩:=hN σ7 H7 n7
      refine⟨m',hm,i+1,σ7,H7,I7.unpinned,T.keep _ _ _ st5 fun b hb o e=>(I7.pin (b,o) (List.mem_append_right _ (List.mem_append_right _ (b'G hb e)))).1,fun b hb=>?_,w7⟩
      obtain⟨o,e,d⟩:=T.obj _ _ st5 b hb
      exact (I7.pin (b,o) (List.mem_append_right _ (List.mem_append_right _ (b'G hb e)))).2.1
    cases f with
    | next=>obtain⟨σ7,H7,I7,n7⟩:=q7;exact again I7 n7
    | cont=>obtain⟨σ7,H7,I7,n7⟩:=q7;exact again I7 n7
    | brk=>obtain⟨σ7,H7,I7,q7⟩:=q7;exact⟨σ7,H7,I7.unpinned,q7⟩
    | ret v=>obtain⟨x7,σ7,H7,I7,r7,q7⟩:=q7;exact⟨x7,σ7,H7,I7.unpinned,r7,q7⟩
end
end L2
namespace L2
open PySem PySem.Spec PyProof.Rows
abbrev R2:=V→V→Hp→VK→Prop
def OpR (X:Cx) (f:Value→Value→Sem Value) (r:R2):Prop:=
  ∀ (pins:List (Addr×Obj)) (s:Shared) (σ:St) (H:Hp) (x y:V) (v u:Value) (Q:VK),Inv X pins σ H s→RelV x v→RelV y u→r x y H Q→
    wpAny (model X.prog X.w) X.A (f v u) (EP X pins σ Q) X.xe s
def UnR (X:Cx) (f:Value→Sem Value) (r:V→Hp→VK→Prop):Prop:=
  ∀ (pins:List (Addr×Obj)) (s:Shared) (σ:St) (H:Hp) (x:V) (v:Value) (Q:VK),Inv X pins σ H s→RelV x v→r x H Q→
    wpAny (model X.prog X.w) X.A (f v) (EP X pins σ Q) X.xe s
def CallR (X:Cx) (f:Value) (r:List V→Hp→VK→Prop):Prop:=
  ∀ (pins:List (Addr×Obj)) (s:Shared) (σ:St) (H:Hp) (xs:List V) (us:List Value) (Q:VK),Inv X pins σ H s→Vals xs us→r xs H Q→
    wpAny (model X.prog X.w) X.A (call f us) (EP X pins σ Q) X.xe s
def tOp (r:R2) (ta tb:TE):TE:=fun σ H Q=>ta σ H fun x H1=>tb σ H1 fun y H2=>r x y H2 Q
def tUn (r:V→Hp→VK→Prop) (ta:TE):TE:=fun σ H Q=>ta σ H fun x H1=>r x H1 Q
def rI (C:Int→Int→Prop) (g:Int→Int→V):R2:=fun x y H Q=>∃ i j,x=.int i∧y=.int j∧C i j∧Q (g i j) H
def rI0 (g:Int→Int→V):R2:=fun x y H Q=>∃ i j,x=.int i∧y=.int j∧Q (g i j) H
def rU (g:Int→V):V→Hp→VK→Prop:=fun x H Q=>∃ i,x=.int i∧Q (g i) H
section
variable {X:Cx} {a b c:Expr} {ta tb tc:TE} {pos:Pos}
theorem i'x (ha:PE X a ta) (hb:PE X b tb) {pins:List (Addr×Obj)} {s:Shared} {σ:St} {H:Hp} {R:V→V→Hp→Prop} (I:Inv X pins σ H s)
    (h:ta σ H fun x H1=>tb σ H1 fun y H2=>R x y H2) {Q:Value→Shared→Prop} {f:Value→Value→Sem Value}
    (hf:∀ v u s2 x y H2,Inv X pins σ H2 s2→RelV x v→RelV y u→R x y H2→wpAny (model X.prog X.w) X.A (f v u) Q X.xe s2) :
    wpAny (model X.prog X.w) X.A (eval a X.env) (fun v s₁=>wpAny (model X.prog X.w) X.A (eval b X.env) (fun u s₂=>wpAny (model X.prog X.w) X.A (f v u) Q X.xe s₂) X.xe s₁) X.xe s:=by
  refine thn (ha pins s σ H _ I h) fun v s1 ⟨x,H1,I1,r1,q1⟩=>?_
  refine thn (hb pins s1 σ H1 _ I1 q1) fun u s2 ⟨y,H2,I2,r2,q2⟩=>?_
  exact hf v u s2 x y H2 I2 r1 r2 q2
theorem q'l {op:Operator} {r:R2} (ho:OpR X (binaryOp op) r) (ha:PE X a ta) (hb:PE X b tb):PE X (.BinOp a op b pos) (tOp r ta tb):=by
  intro pins s σ H Q I h
  exact wpAny_BinOp (i'x ha hb I h fun v u s2 x y H2 I2 rx ry q=>ho pins s2 σ H2 x y v u Q I2 rx ry q)
theorem q'm {op:UnaryOp} {r:V→Hp→VK→Prop} (ho:UnR X (unaryOp op) r) (ha:PE X a ta):PE X (.UnaryOp op a pos) (tUn r ta):=by
  intro pins s σ H Q I h
  exact UnaryOp_ (thn (ha pins s σ H _ I h) fun v s1 ⟨x,H1,I1,r1,q1⟩=>ho pins s1 σ H1 x v Q I1 r1 q1)
theorem opI {f:Value→Value→Sem Value} {C:Int→Int→Prop} {g:Int→Int→Int}
    (rule:∀ (i j:Int) (t u:Tok) (s:Shared) (Q:Value→Shared→Prop) (E:Value→Shared→Prop),C i j→Q (.int (g i j) s.toks) { s with toks:=s.toks+1 }→wpAny (model X.prog X.w) X.A (f (.int i t) (.int j u)) Q E s) :
    OpR X f (rI C fun i j=>.int (g i j)):=by
  intro pins s σ H x y v u Q I rx ry h
  obtain⟨i,j,rfl,rfl,hc,q⟩:=h
  obtain⟨t,rfl⟩:=rx
  obtain⟨t',rfl⟩:=ry
  exact rule i j t t' s _ _ hc ⟨.int (g i j),H,I.tok _,⟨_,rfl⟩,q⟩
theorem n'E {f:Value→Value→Sem Value} {g:Int→Int→Int}
    (rule:∀ (i j:Int) (t u:Tok) (s:Shared) (Q:Value→Shared→Prop) (E:Value→Shared→Prop),Q (.int (g i j) s.toks) { s with toks:=s.toks+1 }→wpAny (model X.prog X.w) X.A (f (.int i t) (.int j u)) Q E s) :
    OpR X f (rI0 fun i j=>.int (g i j)):=by
  intro pins s σ H x y v u Q I rx ry h
  obtain⟨i,j,rfl,rfl,q⟩:=h
  obtain⟨t,rfl⟩:=rx
  obtain⟨t',rfl⟩:=ry
  exact rule i j t t' s _ _ ⟨.int (g i j),H,I.tok _,⟨_,rfl⟩,q⟩
theorem n'F {f:Value→Value→Sem Value} {g:Int→Int→Bool}
    (rule:∀ (i j:Int) (t u:Tok) (s:Shared) (Q:Value→Shared→Prop) (E:Value→Shared→Prop),Q (.bool (g i j)) s→wpAny (model X.prog X.w) X.A (f (.int i t) (.int j u)) Q E s) :
    OpR X f (rI0 fun i j=>.bl (g i j)):=by
  intro pins s σ H x y v u Q I rx ry h
  obtain⟨i,j,rfl,rfl,q⟩:=h
  obtain⟨t,rfl⟩:=rx
  obtain⟨t',rfl⟩:=ry
  exact rule i j t t' s _ _ ⟨.bl (g i j),H,I,rfl,q⟩
def CPow (i j:Int):Prop:=0≤j∧j≤1000000∧i.natAbs<2 ^ 64
def CMul (i j:Int):Prop:=(-(2 ^ 64)<i∧i<2 ^ 64)∨(-(2 ^ 64)<j∧j<2 ^ 64)
theorem CMul.ok {i j:Int} (h:CMul i j):IntMulOk i j:=by
  rcases h with ⟨h1,h2⟩ | ⟨h1,h2⟩
  · exact .of_left (intBits_le_64 h1 h2)
  · exact .of_right (intBits_le_64 h1 h2)
theorem op_add:OpR X (binaryOp .Add) (rI0 fun i j=>.int (i+j)):=n'E fun _ _ _ _ _ _ _ q=>add_int q
theorem n'G:OpR X (binaryOp .Sub) (rI0 fun i j=>.int (i - j)):=n'E fun _ _ _ _ _ _ _ q=>sub_int q
theorem n'H:OpR X (binaryOp .Mod) (rI (fun _ j=>0<j) fun i j=>.int (i % j)):=opI fun i j _ _ _ _ _ hc q=>by
  have h1:(0:Int)<j:=hc
  exact mod_int' (by omega) (by rw [Int.fmod_eq_emod_of_nonneg i (by omega)];exact q)
theorem n'I:OpR X (binaryOp .Pow) (rI CPow fun i j=>.int (i ^ j.toNat)):=opI fun _ _ _ _ _ _ _ hc q=>pow_int_small hc.1 hc.2.1 hc.2.2 q
theorem unI {f:Value→Sem Value} {g:Int→Int}
    (rule:∀ (i:Int) (t:Tok) (s:Shared) (Q:Value→Shared→Prop) (E:Value→Shared→Prop),Q (.int (g i) s.toks) { s with toks:=s.toks+1 }→wpAny (model X.prog X.w) X.A (f (.int i t)) Q E s) :
    UnR X f (rU fun i=>.int (g i)):=by
  intro pins s σ H x v Q I rx h
  obtain⟨i,rfl,q⟩:=h
  obtain⟨t,rfl⟩:=rx
  exact rule i t s _ _ ⟨.int (g i),H,I.tok _,⟨_,rfl⟩,q⟩
theorem n'J:UnR X (unaryOp .USub) (rU fun i=>.int (-i)):=unI fun _ _ _ _ _ q=>neg_int q
end
def scal:V→V→Bool
  | .non, .non => true | .non, .int _ => true | .int _, .non => true | .non, .bl _ => true | .bl _, .non => true | .non, .str _ => true | .str _, .non => true
  | .int _, .int _ => true | .bl _, .bl _ => true | .str _, .str _ => true | .byt _, .byt _ => true
  | .int _, .str _ => true | .str _, .int _ => true | .bl _, .str _ => true | .str _, .bl _ => true
  | _, _ => false
def rEq:R2:=fun x y H Q=>scal x y=true∧Q (.bl (decide (x=y))) H
def rNe:R2:=fun x y H Q=>scal x y=true∧Q (.bl (!decide (x=y))) H
theorem f'J {i j:Int}:decide (V.int i=V.int j)=(i == j):=by
  rw [Bool.eq_iff_iff]
  simp
theorem g'W {i j:Bool}:decide (V.bl i=V.bl j)=(i == j):=by
  rw [Bool.eq_iff_iff]
  simp
theorem f'K {i j:Str}:decide (V.str i=V.str j)=(i == j):=by
  rw [Bool.eq_iff_iff]
  simp
theorem f'L {i j:Array UInt8}:decide (V.byt i=V.byt j)=(i.toList == j.toList):=by
  rw [Bool.eq_iff_iff]
  cases i
  cases j
  simp
section
variable {X:Cx} {a b c:Expr} {ta tb tc:TE} {pos:Pos}
theorem a'n {pins:List (Addr×Obj)} {σ:St} {H:Hp} {s:Shared} {Q:VK} {k k':Bool} (I:Inv X pins σ H s) (q:Q (.bl k) H) (e:k=k'):EP X pins σ Q (.bool k') s:=by
  subst e
  exact⟨.bl k,H,I,rfl,q⟩
theorem op_eq:OpR X (compareOp .Eq) rEq:=by
  intro pins s σ H x y v u Q I rx ry h
  obtain⟨hs,q⟩:=h
  cases x with
  | non =>
    cases rx
    cases y with
    | non=>cases ry;exact PySem.EqNone.eq_none_none (a'n I q (by simp))
    | bl j=>cases ry;exact PySem.EqNone.eq_none_bool (a'n I q (by simp))
    | int j=>obtain⟨t',rfl⟩:=ry;exact PySem.EqNone.eq_none_int (a'n I q (by simp))
    | str j=>obtain⟨t',rfl⟩:=ry;exact PySem.EqNone.eq_none_str (a'n I q (by simp))
    | _=>exact absurd (show false=true from hs) Bool.false_ne_true
  | bl i =>
    cases rx
    cases y with
    | non=>cases ry;exact PySem.EqNone.eq_bool_none (a'n I q (by simp))
    | bl j=>cases ry;exact eq_bool (a'n I q g'W)
    | str j=>obtain⟨t',rfl⟩:=ry;exact PySem.EqMixed.eq_bool_str (a'n I q (by simp))
    | _=>exact absurd (show false=true from hs) Bool.false_ne_true
  | int i =>
    obtain⟨t,rfl⟩:=rx
    cases y with
    | non=>cases ry;exact PySem.EqNone.eq_int_none (a'n I q (by simp))
    | int j=>obtain⟨t',rfl⟩:=ry;exact eq_int (a'n I q f'J)
    | str j=>obtain⟨t',rfl⟩:=ry;exact PySem.EqMixed.eq_int_str (a'n I q (by simp))
    | _=>exact absurd (show false=true from hs) Bool.false_ne_true
  | str i =>
    obtain⟨t,rfl⟩:=rx
    cases y with
    | non=>cases ry;exact PySem.EqNone.eq_str_none (a'n I q (by simp))
    | bl j=>cases ry;exact PySem.EqMixed.eq_str_bool (a'n I q (by simp))
    | int j=>obtain⟨t',rfl⟩:=ry;exact PySem.EqMixed.eq_str_int (a'n I q (by simp))
    | str j=>obtain⟨t',rfl⟩:=ry;exact eq_str (a'n I q f'K)
    | _=>exact absurd (show false=true from hs) Bool.false_ne_true
  | byt i =>
    obtain⟨t,rfl⟩:=rx
    cases y with
    | byt j=>obtain⟨t',rfl⟩:=ry;exact PySem.W.eq_bytes (a'n I q f'L)
    | _=>exact absurd (show false=true from hs) Bool.false_ne_true
  | _ => cases y <;> exact absurd (show false = true from hs) Bool.false_ne_true
theorem op_ne:OpR X (compareOp .NotEq) rNe:=by
  intro pins s σ H x y v u Q I rx ry h
  obtain⟨hs,q⟩:=h
  cases x with
  | non =>
    cases rx
    cases y with
    | non=>cases ry;exact PySem.EqNone.ne_none_none (a'n I q (by simp))
    | bl j=>cases ry;exact PySem.EqNone.ne_none_bool (a'n I q (by simp))
    | int j=>obtain⟨t',rfl⟩:=ry;exact PySem.EqNone.ne_none_int (a'n I q (by simp))
    | str j=>obtain⟨t',rfl⟩:=ry;exact PySem.EqNone.ne_none_str (a'n I q (by simp))
    | _=>exact absurd (show false=true from hs) Bool.false_ne_true
  | bl i =>
    cases rx
    cases y with
    | non=>cases ry;exact PySem.EqNone.ne_bool_none (a'n I q (by simp))
    | bl j=>cases ry;exact ne_bool (a'n I q (congrArg not g'W))
    | str j=>obtain⟨t',rfl⟩:=ry;exact PySem.EqMixed.ne_bool_str (a'n I q (by simp))
    | _=>exact absurd (show false=true from hs) Bool.false_ne_true
  | int i =>
    obtain⟨t,rfl⟩:=rx
    cases y with
    | non=>cases ry;exact PySem.EqNone.ne_int_none (a'n I q (by simp))
    | int j=>obtain⟨t',rfl⟩:=ry;exact ne_int (a'n I q (congrArg not f'J))
    | str j=>obtain⟨t',rfl⟩:=ry;exact PySem.EqMixed.ne_int_str (a'n I q (by simp))
    | _=>exact absurd (show false=true from hs) Bool.false_ne_true
  | str i =>
    obtain⟨t,rfl⟩:=rx
    cases y with
    | non=>cases ry;exact PySem.EqNone.ne_str_none (a'n I q (by simp))
    | bl j=>cases ry;exact PySem.EqMixed.ne_str_bool (a'n I q (by simp))
    | int j=>obtain⟨t',rfl⟩:=ry;exact PySem.EqMixed.ne_str_int (a'n I q (by simp))
    | str j=>obtain⟨t',rfl⟩:=ry;exact ne_str (a'n I q (congrArg not f'K))
    | _=>exact absurd (show false=true from hs) Bool.false_ne_true
  | byt i =>
    obtain⟨t,rfl⟩:=rx
    cases y with
    | byt j=>obtain⟨t',rfl⟩:=ry;exact PySem.W.ne_bytes (a'n I q (congrArg not f'L))
    | _=>exact absurd (show false=true from hs) Bool.false_ne_true
  | _ => cases y <;> exact absurd (show false = true from hs) Bool.false_ne_true
theorem op_lt:OpR X (compareOp .Lt) (rI0 fun i j=>.bl (decide (i<j))):=n'F fun _ _ _ _ _ _ _ q=>lt_int q
theorem op_gt:OpR X (compareOp .Gt) (rI0 fun i j=>.bl (decide (j<i))):=n'F fun _ _ _ _ _ _ _ q=>gt_int q
theorem g'X:OpR X (compareOp .Lt) (fun x y H Q=>∃ i j,x=.str i∧y=.str j∧Q (.bl (decide (i.cps.toList<j.cps.toList))) H):=by
  intro pins s σ H x y v u Q I rx ry h
  obtain⟨i,j,rfl,rfl,q⟩:=h
  obtain⟨t,rfl⟩:=rx
  obtain⟨t',rfl⟩:=ry
  exact lt_str (a'n I q rfl)
theorem n'K:OpR X (compareOp .Is) (fun x y H Q=>y=.non∧Q (.bl (decide (x=.non))) H):=by
  intro pins s σ H x y v u Q I rx ry h
  obtain⟨rfl,q⟩:=h
  cases ry
  refine is_none_gen (a'n I q ?_)
  cases x<;>first
    | (cases rx;rfl)
    | (obtain⟨t,rfl⟩:=rx;rfl)
theorem k'p:OpR X (compareOp .IsNot) (fun x y H Q=>y=.non∧Q (.bl (!decide (x=.non))) H):=by
  intro pins s σ H x y v u Q I rx ry h
  obtain⟨rfl,q⟩:=h
  cases ry
  refine isnot_none_gen (a'n I q ?_)
  cases x<;>first
    | (cases rx;rfl)
    | (obtain⟨t,rfl⟩:=rx;rfl)
theorem OpR.or {f:Value→Value→Sem Value} {r r':R2} (h:OpR X f r) (h':OpR X f r'):OpR X f (fun x y H Q=>r x y H Q∨r' x y H Q):=by
  intro pins s σ H x y v u Q I rx ry q
  rcases q with q | q
  · exact h pins s σ H x y v u Q I rx ry q
  · exact h' pins s σ H x y v u Q I rx ry q
theorem k'q {op:CmpOp} {r:R2} (ho:OpR X (compareOp op) r) (ha:PE X a ta) (hb:PE X b tb) (hm:behindInMarks op b=false):PE X (.Compare a [op] [b] pos) (tOp r ta tb):=by
  intro pins s σ H Q I h
  exact wpAny_Compare1 (i'x ha hb I h fun v u s2 x y H2 I2 rx ry q=>ho pins s2 σ H2 x y v u Q I2 rx ry q) hm
def tTest (t:TE):TT:=fun σ H Q=>t σ H fun x H'=>∃ k,x=.bl k∧Q k H'
theorem k'r {op:CmpOp} {r:R2} (ho:OpR X (compareOp op) r) (ha:PE X a ta) (hb:PE X b tb) (hm:behindInMarks op b=false):PT X (.Compare a [op] [b] pos) (tTest (tOp r ta tb)):=by
  intro pins s σ H Q I h
  refine wpAny_isTrue_Compare1 (thn (ha pins s σ H _ I h) fun v s1 ⟨x,H1,I1,r1,q1⟩=>thn (hb pins s1 σ H1 _ I1 q1) fun u s2 ⟨y,H2,I2,r2,q2⟩=>
    thn (ho pins s2 σ H2 x y v u _ I2 r1 r2 q2) fun c s3 ⟨z,H3,I3,r3,k,e,q3⟩=>?_) hm
  subst e
  cases r3
  exact wpAny_truthy_bool ⟨H3,I3,q3⟩
theorem c'z:(sizeLine:Nat)<2 ^ 63:=by rw [sizeLine_eq];decide
theorem op_add_str:OpR X (binaryOp .Add) (fun x y H Q=>∃ i j,x=.str i∧y=.str j∧i.length+j.length≤sizeLine∧Q (.str (i++j)) H):=by
  intro pins s σ H x y v u Q I rx ry h
  obtain⟨i,j,rfl,rfl,hz,q⟩:=h
  obtain⟨t,rfl⟩:=rx
  obtain⟨t',rfl⟩:=ry
  exact add_str (fun t' tk=>⟨.str (i++j),H,I.tok _,⟨_,rfl⟩,q⟩) hz
theorem c'j {x:V} {us:List Value} (r:Vals [x] us):∃ u,us=[u]∧RelV x u:=by
  cases r with
  | cons r1 r2 => cases r2; exact ⟨_, rfl, r1⟩
theorem g'u {x y:V} {us:List Value} (r:Vals [x,y] us):∃ u w',us=[u,w']∧RelV x u∧RelV y w':=by
  cases r with
  | cons r1 r2 =>
    cases r2 with
    | cons r3 r4=>cases r4;exact⟨_,_,rfl,r1,r3⟩
theorem b'M:CallR X (.builtin "abs") (fun xs H Q=>∃ i,xs=[.int i]∧Q (.int (if i<0 then -i else i)) H):=by
  intro pins s σ H xs us Q I r h
  obtain⟨i,rfl,q⟩:=h
  obtain⟨u,rfl,t,rfl⟩:=c'j r
  exact call_abs_int fun u tk=>⟨.int (if i<0 then -i else i),H,I.tok _,⟨_,rfl⟩,q⟩
theorem d'T (hc:X.calm=true):CallR X (.builtin "max") (fun xs H Q=>∃ i j,xs=[.int i,.int j]∧Q (.int (if j > i then j else i)) H):=by
  intro pins s σ H xs us Q I r h
  obtain⟨i,j,rfl,q⟩:=h
  obtain⟨u,w',rfl,⟨t,rfl⟩,⟨t',rfl⟩⟩:=g'u r
  refine max_two_ints (I.ok.hd hc) fun h' tk k=>⟨_,H,I.kept k,?_,q⟩
  by_cases hj:j > i
  · rw [if_pos hj,if_pos hj];exact⟨_,rfl⟩
  · rw [if_neg hj,if_neg hj];exact⟨_,rfl⟩
theorem g'Y (hc:X.calm=true):CallR X (.builtin "min") (fun xs H Q=>∃ i j,xs=[.int i,.int j]∧Q (.int (if j<i then j else i)) H):=by
  intro pins s σ H xs us Q I r h
  obtain⟨i,j,rfl,q⟩:=h
  obtain⟨u,w',rfl,⟨t,rfl⟩,⟨t',rfl⟩⟩:=g'u r
  refine min_two_ints (I.ok.hd hc) fun h' tk k=>⟨_,H,I.kept k,?_,q⟩
  by_cases hj:j<i
  · rw [if_pos hj,if_pos hj];exact⟨_,rfl⟩
  · rw [if_neg hj,if_neg hj];exact⟨_,rfl⟩
def LenV (K:PySem.W.Frag) (x:V) (H:Hp) (n:Nat):Prop:=
  match x with
  | .str y => y.length ≤ sizeLine ∧ n = y.length
  | .byt y => y.size ≤ sizeLine ∧ n = y.size
  | .ref p => (∃ xs, SqL K H p xs ∧ n = xs.length) ∨ ∃ xs, SqT K H p xs ∧ n = xs.length
  | _ => False
theorem call_len:CallR X (.builtin "len") (fun xs H Q=>∃ x n,xs=[x]∧LenV X.K x H n∧Q (.int n) H):=by
  intro pins s σ H xs us Q I r h
  obtain⟨x,n,rfl,e,q⟩:=h
  obtain⟨u,rfl,rx⟩:=c'j r
  have hl:=c'z
  have hs:sizeLine=16777216:=sizeLine_eq
  cases x with
  | str y =>
    obtain⟨t,rfl⟩:=rx
    obtain⟨hy,e'⟩:y.length≤sizeLine∧n=y.length:=e
    subst e'
    exact len_str (by omega) ⟨.int _,H,I.tok _,⟨_,rfl⟩,q⟩
  | byt y =>
    obtain⟨t,rfl⟩:=rx
    obtain⟨hy,e'⟩:y.size≤sizeLine∧n=y.size:=e
    subst e'
    exact PySem.W.len_bytes (by omega) ⟨.int _,H,I.tok _,⟨_,rfl⟩,q⟩
  | ref p =>
    cases rx
    have e':(∃ xs,SqL X.K H p xs∧n=xs.length)∨∃ xs,SqT X.K H p xs∧n=xs.length:=e
    rcases e' with ⟨xs,hx,e'⟩ | ⟨xs,hx,e'⟩
    · subst e'
      obtain⟨its,r',pl,hz⟩:=I.list hx
      have hlen:=r'.length
      exact Calls.call_len_list pl.isList (by simp only [List.size_toArray];omega) ⟨.int xs.length,H,I.tok _,⟨_,by simp only [List.size_toArray];rw [hlen]⟩,q⟩
    · subst e'
      obtain⟨its,r',pl,hz⟩:=I.tuple hx
      have hlen:=r'.length
      exact len_tuple pl (by simp only [List.size_toArray];omega) ⟨.int xs.length,H,I.tok _,⟨_,by simp only [List.size_toArray];rw [hlen]⟩,q⟩
  | _ => exact (show False from e).elim
end
end L2
namespace L2
open PySem PySem.Spec PyProof.Rows
section
variable {prog:Program} {w:World} {A:Around} {E:Value→Shared→Prop} {s:Shared} {K:PySem.W.Frag} {x dx C f:Addr} {mA:Str→Option Value} {name:Str} {v:Value}
end
theorem RelO.some_of {v:V} {o:Option Value} (r:RelO (some v) o):∃ u,o=some u∧RelV v u:=by
  cases o with
  | none => exact (show False from r).elim
  | some u => exact ⟨u, rfl, r⟩
section
variable {P:Program} {w:World} {H H':Hp} {h h':Heap} {a C dx:Addr} {fs fs':List (Str×V)}
end
structure Cls (K:PySem.W.Frag) (C:Addr):Prop where
  pg:PySem.W.plainGet K C Str.empty=true
  hd:PySem.W.hasDictIn K C=true
  po:PySem.W.plainOver K C=true
  sa:PySem.W.findIn K (.ref C) "__setattr__"=some (some (.builtin "object.__setattr__"))
def NoAttr (K:PySem.W.Frag) (C:Addr) (f:Str):Prop:=PySem.W.findIn K (.ref C) f=some none
section
variable {X:Cx} {pins:List (Addr×Obj)} {σ:St} {H:Hp} {s:Shared} {a C dx:Addr} {fs:List (Str×V)} {f:Str} {v:V} {A:Around} {E:Value→Shared→Prop}
end
section
variable {X:Cx} {o e value:Expr} {f:Str} {pos pos' tpos:Pos} {ta tv:TE}
end
section
variable {X:Cx} {pins:List (Addr×Obj)} {σ:St} {H:Hp} {s:Shared} {A:Around} {E:Value→Shared→Prop} {Q:Value→Shared→Prop} {c:Value} {b:Bool}
end
end L2
namespace L2
open PySem PySem.Spec PyProof.Rows
structure Room (k:Nat) (A:Around):Prop where
  hd:A.handled=none
  dp:A.depth+3*k+5<recursionLimit
  un:A.units+16*k+200<cLine
theorem Room.mono {j k:Nat} {A:Around} (r:Room k A) (h:j≤k):Room j A:=⟨r.hd,by have:=r.dp;omega,by have:=r.un;omega⟩
theorem Room.deeper {k:Nat} {A:Around} (r:Room (k+1) A) (env:Env):Room k (A.deeper env):=
  ⟨r.hd,by have:=r.dp;show A.depth+1+3*k+5<_;omega,by have:=r.un;show A.units+3+16*k+200<_;omega⟩
theorem Room.depth {k:Nat} {A:Around} (r:Room k A):A.depth<recursionLimit:=by have:=r.dp;omega
theorem Room.units {k:Nat} {A:Around} (r:Room k A):A.units+64<cLine:=by have:=r.un;omega
def tNil:TA:=fun _ H Q=>Q [] H
def tCons (ta:TE) (tr:TA):TA:=fun σ H Q=>ta σ H fun x H1=>tr σ H1 fun xs H2=>Q (x :: xs) H2
section
variable {X:Cx} {e:Expr} {es:List Expr} {te:TE} {t:TA} {pos:Pos}
theorem g'Z:PA X [] tNil:=fun _ _ _ _ H Q I h=>Calls.spliced_nil ⟨[],H,I,.nil,h⟩
theorem f'M (ha:PE X e te) (hr:PA X es t) (hs:starEach (e :: es) X.env=(false,eval e X.env) :: starEach es X.env:=by rfl):PA X (e :: es) (tCons te t):=by
  intro pos pins s σ H Q I h
  rw [hs]
  show wpAny _ _ (spliced ((false,eval e X.env) :: backTo pos (starEach es X.env))) _ _ s
  refine Calls.spliced_cons (thn (ha pins s σ H _ I h) fun u s1 ⟨x,H1,I1,r1,q1⟩=>?_)
  exact thn (hr pos pins s1 σ H1 _ I1 q1) fun us s2 ⟨xs,H2,I2,r2,q2⟩=>⟨x :: xs,H2,I2,.cons r1 r2,q2⟩
def tTup (t:TA):TE:=fun σ H Q=>t σ H fun xs H1=>xs.length≤sizeLine∧∀ p,H1 p=none→Q (.ref p) (upd H1 p (.tup xs))
def tLst (t:TA):TE:=fun σ H Q=>t σ H fun xs H1=>xs.length≤sizeLine∧∀ p,H1 p=none→Q (.ref p) (upd H1 p (.lst xs))
theorem n'L {x1} (h:PA X es t):PE X (.Tuple es x1 pos) (tTup t):=by
  intro pins s σ H Q I hq
  refine wpAny_Tuple_spliced (thn (h pos pins s σ H _ I hq) fun us s1 ⟨xs,H1,I1,r,z,q⟩=>⟨by rw [← r.length];exact z,?_⟩)
  have hf:H1 s1.heap.objs.size=none:=I1.hok.fresh (Nat.le_refl _)
  refine⟨.ref s1.heap.objs.size,upd H1 s1.heap.objs.size (.tup xs),I1.laid (t':=s1.toks) (fun b u e=>Heap.get?_push_of_some _ e) (Nat.le_refl _) ?_,rfl,q _ hf⟩
  exact⟨z,us,r,⟨_,Heap.get?_push_size _ rfl,rfl,_,rfl⟩⟩
theorem n'M (h:PA X es t):PE X (.List es pos) (tLst t):=by
  intro pins s σ H Q I hq
  refine wpAny_List_spliced (thn (h pos pins s σ H _ I hq) fun us s1 ⟨xs,H1,I1,r,z,q⟩=>⟨by rw [← r.length];exact z,?_⟩)
  have hf:H1 s1.heap.objs.size=none:=I1.hok.fresh (Nat.le_refl _)
  refine⟨.ref s1.heap.objs.size,upd H1 s1.heap.objs.size (.lst xs),I1.laid (t':=s1.toks) (fun b u e=>Heap.get?_push_of_some _ e) (Nat.le_refl _) ?_,rfl,q _ hf⟩
  exact⟨z,us,0,r,Heap.get?_push_size _ rfl⟩
end
abbrev Sp:=List V→Hp→VK→XK→Prop
abbrev CXT:=List Env→Hp→Shared→XK→Value→Shared→Prop
structure Env0 (P:Program) (w:World) (K:PySem.W.Frag) (mg:Str→Option Value) (base:Heap) (A:Around) (outer:List Env) (s:Shared) (H:Hp):Prop where
  frames:A.frames=some outer
  mod:Mod K mg base
  bs:∀ b o,base.get? b=some o→s.heap.get? b=some o∧H b=none
  bsz:base.objs.size≤s.heap.objs.size
  funs:s.heap.FunFrames base outer
  frf:∀ b∈frs outer,H b=none
  hok:HOk P w H s.heap
  bare:AllBare s.gens
def CE (outer:List Env) (P:Program) (w:World) (H:Hp) (s:Shared) (Q:VK) (u:Value) (s':Shared):Prop:=
  ∃ v H',s'.os=s.os∧AllBare s'.gens∧Un (frs outer) [] H H' s.heap s'.heap∧HOk P w H' s'.heap∧RelV v u∧Q v H'
def CR (CX:CXT) (outer:List Env) (P:Program) (w:World) (H:Hp) (s:Shared) (Q:VK) (E:XK) (r:Result) (s':Shared):Prop:=
  match r with
  | .ok (.ret u) => CE outer P w H s Q u s'
  | .ok _ => False
  | .error e => CX outer H s E e s'
structure FnOk (P:Program) (w:World) (K:PySem.W.Frag) (mg:Str→Option Value) (base:Heap) (CX:CXT) (k:Nat) (f:Addr) (fd:FuncData) (ps:List Str) (sp:Sp):Prop where
  len:∀ vs H Q E,sp vs H Q E→vs.length=ps.length
  run:∀ (A:Around) (outer:List Env) (s:Shared) (H:Hp) (args:Args) (us:List Value) (vs:List V) (Q:VK) (E:XK),Room k A→Env0 P w K mg base A outer s H→BindsTo s fd args (ps.zip us)→Vals vs us→sp vs H Q E→
    codeAny (model P w) A (.call (.ref f) args) (CR CX outer P w H s Q E) s
theorem FnOk.mono {P:Program} {w:World} {K:PySem.W.Frag} {mg:Str→Option Value} {base:Heap} {CX:CXT} {j k:Nat} {f:Addr} {fd:FuncData} {ps:List Str} {sp:Sp} (F:FnOk P w K mg base CX j f fd ps sp) (h:j≤k) :
    FnOk P w K mg base CX k f fd ps sp:=⟨F.len,fun A outer s H args us vs Q E hr=>F.run A outer s H args us vs Q E (hr.mono h)⟩
theorem FnOk.imp {P:Program} {w:World} {K:PySem.W.Frag} {mg:Str→Option Value} {base:Heap} {CX:CXT} {k:Nat} {f:Addr} {fd:FuncData} {ps:List Str} {sp sp':Sp} (F:FnOk P w K mg base CX k f fd ps sp)
    (h:∀ vs H Q E,sp' vs H Q E→sp vs H Q E):FnOk P w K mg base CX k f fd ps sp':=
  ⟨fun vs H Q E q=>F.len vs H Q E (h _ _ _ _ q),fun A outer s H args us vs Q E hr he hb hv hs=>F.run A outer s H args us vs Q E hr he hb hv (h _ _ _ _ hs)⟩
section
variable {X:Cx} {pins:List (Addr×Obj)} {σ:St} {H:Hp} {s s':Shared}
theorem Inv.env0 (I:Inv X pins σ H s):Env0 X.prog X.w X.K X.mg X.base X.A X.stack s H:=
  ⟨I.ok.frames,I.ok.mod,I.bs,Nat.le_trans I.ok.bsz I.sz,I.stack,I.stkFree,I.hok,I.bare⟩
theorem Inv.after {Q:VK} {u:Value} (I:Inv X pins σ H s) (h:CE X.stack X.prog X.w H s Q u s'):EP X pins σ Q u s':=by
  obtain⟨v,H',os,bare,un,hok,r,q⟩:=h
  obtain⟨hh,g,d,t,os'⟩:=s'
  obtain rfl:os'=s.os:=os
  exact⟨v,H',I.call (h':=hh) (g':=g) (d':=d) (t':=t) (ch:=[]) un hok bare (fun b z=>absurd z (by simp)),r,q⟩
end
def tCall (sp:Sp) (dvs:List V) (E:XK) (t:TA):TE:=fun σ H Q=>t σ H fun vs H1=>sp (vs++dvs) H1 Q E
def Binds (K:PySem.W.Frag) (fd:FuncData) (ps:List Str) (ds:List Value):Prop:=
  ∀ (s:Shared) (us:List Value),K.In s.heap→(us++ds).length=ps.length→BindsTo s fd ⟨us,[]⟩ (ps.zip (us++ds))
theorem Binds.all {K:PySem.W.Frag} {fd:FuncData} {ps:List Str} (h:∀ us:List Value,us.length=ps.length→bindArgs fd ⟨us,[]⟩=pure (ps.zip us)):Binds K fd ps []:=fun s us _ hl=>by
  rw [List.append_nil] at hl ⊢
  exact .of_eq (h us hl)
def Passes (CX:CXT) (X:Cx) (E:XK):Prop:=∀ (pins:List (Addr×Obj)) (σ:St) (H:Hp) (s:Shared) (e:Value) (s':Shared),Inv X pins σ H s→CX X.stack H s E e s'→X.xe e s'
section
variable {X:Cx} {CX:CXT} {k:Nat} {f C:Addr} {fd:FuncData} {ps:List Str} {sp:Sp} {dvs:List V} {ds:List Value} {E:XK} {x m:Str} {p pos apos:Pos} {e o:Expr} {es:List Expr} {ta:TE} {t:TA}
theorem n'N {pins:List (Addr×Obj)} {σ:St} {H:Hp} {s:Shared} {Q:VK} {us:List Value} {vs:List V} (F:FnOk X.prog X.w X.K X.mg X.base CX k f fd ps sp) (hr:Room k X.A) (hb:Binds X.K fd ps ds) (hd:Vals dvs ds) (hx:Passes CX X E)
    (I:Inv X pins σ H s) (r:Vals vs us) (h:sp (vs++dvs) H Q E):wpAny (model X.prog X.w) X.A (call (.ref f) us) (EP X pins σ Q) X.xe s:=by
  have r2:Vals (vs++dvs) (us++ds):=r.append hd
  have hl:(us++ds).length=ps.length:=by rw [← r2.length];exact F.len _ _ _ _ h
  refine wpAny_call (codeAny_mono (F.run X.A X.stack s H ⟨us,[]⟩ (us++ds) (vs++dvs) Q E hr I.env0 (hb s us I.kIn hl) r2 h) fun r s' hq=>?_)
  cases r with
  | error e => exact hx pins σ H s e s' I hq
  | ok fl =>
    cases fl with
    | ret u=>exact I.after hq
    | next=>exact False.elim hq
    | brk=>exact False.elim hq
    | cont=>exact False.elim hq
theorem k's (F:FnOk X.prog X.w X.K X.mg X.base CX k f fd ps sp) (hr:Room k X.A) (hg:Gl X x) (hm:X.mg x=some (.ref f)) (hk:PySem.W.keepIn X.K (.ref f)=true) (hb:Binds X.K fd ps ds) (hd:Vals dvs ds) (hx:Passes CX X E)
    (ha:PA X (e :: es) t) (hdb:(x == ("__debug__":Str))=false:=by decide) (he:starEach (e :: es) X.env=(false,eval e X.env) :: starEach es X.env:=by rfl) (hpl:(backTo pos (starEach es X.env)).any (·.1)=false:=by rfl) :
    PE X (.Call (.Name x p) (e :: es) [] pos) (tCall sp dvs E t):=by
  intro pins s σ H Q I h
  refine wpAny_Call_Name_kw (c'f I hg hm ?_ hdb)
  refine PySem.W.callWith_K (h₀:=X.base) I.ok.mod.kin hk (thn (ha pos pins s σ H _ I h) fun us s1 ⟨vs,H1,I1,r,q⟩=>⟨I1.kIn,?_⟩) he hpl
  exact n'N F hr hb hd hx I1 r q
end
section
variable {X:Cx} {CX:CXT} {k:Nat} {f C:Addr} {fd:FuncData} {ps ks:List Str} {sp:Sp} {E:XK} {x m:Str} {p pos apos kpos:Pos} {e o:Expr} {es:List Expr} {kws:List Keyword} {te ta:TE} {t tk:TA} {nm:Option Str}
variable {g:List Value→List Value→List Value} {gV:List V→List V→List V}
end
structure FnScope (N P:List Str) (sc:Scope):Prop where
  kind:sc.kind=.function
  co:sc.isCoroutine=false
  gen:sc.isGenerator=false
  nd:N.Nodup
  pre:N.take P.length=P
  par:∀ x∈P,sc.names.lookup x=some .local∨sc.names.lookup x=some .cell
  nofree:∀ y∈sc.names,y.2≠.free
theorem d'U {kindOf:Str→Option NameKind} {x:Str}:∀ {binds:List (Str×Value)} {m:Str→Option Value},(∀ v,(x,v) ∉ binds)→bindL kindOf binds m x=m x
  | [], _, _ => rfl
  | (n, v) :: r, m, h => by
    unfold bindL
    rw [d'U fun w hw=>h w (List.mem_cons_of_mem _ hw)]
    split
    · have:x≠n:=by rintro rfl;exact h v List.mem_cons_self
      simp [this]
    · rfl
theorem d'V {kindOf:Str→Option NameKind} {x:Str}:∀ {binds:List (Str×Value)} {m:Str→Option Value},(∀ v,(x,v) ∉ binds)→bindC kindOf binds m x=m x
  | [], _, _ => rfl
  | (n, v) :: r, m, h => by
    unfold bindC
    rw [d'V fun w hw=>h w (List.mem_cons_of_mem _ hw)]
    split
    · rfl
    · have:x≠n:=by rintro rfl;exact h v List.mem_cons_self
      simp [this]
theorem d'W {kindOf:Str→Option NameKind} {x:Str} {v:Value}:∀ {P:List Str} {vs:List Value} {i:Nat} {m:Str→Option Value},P.Nodup→P[i]?=some x→vs[i]?=some v→kindOf x=some .local→
    bindL kindOf (P.zip vs) m x=some v
  | [], _, _, _, _, h, _, _ => by simp at h
  | _ :: _, [], _, _, _, _, h, _ => by simp at h
  | p :: P, w :: vs, 0, m, nd, h1, h2, hk => by
    simp at h1 h2;subst h1;subst h2
    show bindL kindOf ((p,w) :: P.zip vs) m p=_
    unfold bindL
    rw [d'U fun v hv=>(List.nodup_cons.mp nd).1 (List.of_mem_zip hv).1,if_pos hk]
    simp
  | p :: P, w :: vs, i + 1, m, nd, h1, h2, hk => by
    show bindL kindOf ((p,w) :: P.zip vs) m x=_
    unfold bindL
    exact d'W (i:=i) (List.nodup_cons.mp nd).2 (by simpa using h1) (by simpa using h2) hk
theorem d'X {kindOf:Str→Option NameKind} {x:Str} {v:Value}:∀ {P:List Str} {vs:List Value} {i:Nat} {m:Str→Option Value},P.Nodup→P[i]?=some x→vs[i]?=some v→kindOf x≠some .local→
    bindC kindOf (P.zip vs) m x=some v
  | [], _, _, _, _, h, _, _ => by simp at h
  | _ :: _, [], _, _, _, _, h, _ => by simp at h
  | p :: P, w :: vs, 0, m, nd, h1, h2, hk => by
    simp at h1 h2;subst h1;subst h2
    show bindC kindOf ((p,w) :: P.zip vs) m p=_
    unfold bindC
    rw [d'V fun v hv=>(List.nodup_cons.mp nd).1 (List.of_mem_zip hv).1,if_neg hk]
    simp
  | p :: P, w :: vs, i + 1, m, nd, h1, h2, hk => by
    show bindC kindOf ((p,w) :: P.zip vs) m x=_
    unfold bindC
    exact d'X (i:=i) (List.nodup_cons.mp nd).2 (by simpa using h1) (by simpa using h2) hk
def start (N:List Str) (vs:List V):St:=vs.map some++List.replicate (N.length - vs.length) none
def cxOf (CX:CXT) (P:Program) (w:World) (K:PySem.W.Frag) (mg:Str→Option Value) (base:Heap) (N:List Str) (qual:Str) (scope:Scope) (f:Addr) (cd:Value) (A:Around) (outer:List Env) (s:Shared) (H:Hp) (E:XK):Cx where
  prog:=P
  w:=w
  K:=K
  mg:=mg
  base:=base
  A:=A.deeper (envOfC qual scope s.heap.objs.size f cd)
  N:=N
  s₀:=s
  H₀:=H
  env:=envOfC qual scope s.heap.objs.size f cd
  outer:=outer
  stack:=envOfC qual scope s.heap.objs.size f cd :: outer
  ex:=[]
  calm:=true
  fn:=fun _=>true
  pn:=[]
  xe:=fun e s'=>wpAny (model P w) (A.deeper (envOfC qual scope s.heap.objs.size f cd)) (leaving (envOfC qual scope s.heap.objs.size f cd) e) (fun _ s''=>CX outer H s E e s'') (fun e' s''=>CX outer H s E e' s'') s'
theorem e'y {sc:Scope} {n:Nat} {x:Str} (h:sc.names.lookup x=some .cell):∃ c,(cellsFrom n sc.names []).lookup x=some c:=by
  have q:=PySem.W.cellsFrom_some sc.names n [] (.inl h)
  exact Option.isSome_iff_exists.mp q
theorem h'a {CX:CXT} {P:Program} {w:World} {K:PySem.W.Frag} {mg:Str→Option Value} {base:Heap} {N ps:List Str} {qual:Str} {scope:Scope} {f:Addr} {cd:Value} {A:Around} {outer:List Env} {s s1:Shared} {H:Hp} {E:XK} {us:List Value} {vs:List V}
    (S:FnScope N ps scope) (hd:A.handled=none) (e0:Env0 P w K mg base A outer s H) (hl:vs.length=ps.length) (r:Vals vs us)
    (x:InCallC s s.heap.objs.size (bindL (envOfC qual scope s.heap.objs.size f cd).kindOf (ps.zip us) fun _=>none) (cellsFrom (s.heap.objs.size+1) scope.names []) (bindC (envOfC qual scope s.heap.objs.size f cd).kindOf (ps.zip us) fun _=>none) s1) :
    Inv (cxOf CX P w K mg base N qual scope f cd A outer s H E) [] (start N vs) H s1:=by
  have hpl:ps.length≤N.length:=by have:=congrArg List.length S.pre;rw [List.length_take] at this;omega
  obtain⟨h1,tk,rfl,hk⟩:=x.done
  have noA:∀ b:Addr,b ∉ (cxOf CX P w K mg base N qual scope f cd A outer s H E).ex:=fun b z=>absurd (show b∈([]:List Addr) from z) (by simp)
  refine⟨⟨e0.mod,S.kind,rfl,rfl,Nat.le_refl _,fun y z c h1 h2=>?_,fun y hy=>?_,fun y c _ h=>?_,fun _=>hd,Around.frames_deeper e0.frames,.inr ⟨rfl,rfl⟩,fun b z=>absurd z (noA b),e0.bs,e0.bsz,fun b _ _=>noA b,fun b z=>absurd z (noA b),e0.funs,e0.frf⟩,
    rfl,e0.bare,Un.kept hk,⟨_,x.toInCall.ns,fun i y v h1 h2 h3=>?_⟩,fun y c h=>⟨_,x.cell y c h⟩,e0.hok.fresh (Nat.le_refl _),fun y c h=>?_,fun p hp=>absurd (show p∈([]:List (Addr×Obj)) from hp) (by simp),e0.hok.kept hk,?_⟩
  · exact name_of_addr x.apart (PySem.mem_of_lookup h1) (PySem.mem_of_lookup h2)
  · have hy:scope.names.lookup y=some .cell∨scope.names.lookup y=some .free:=hy
    rcases hy with hy | hy
    · exact e'y hy
    · exact absurd rfl (S.nofree _ (PySem.mem_of_lookup hy))
  · exact Nat.le_of_lt (x.above y c (PySem.mem_of_lookup h))
  · have hi:i<vs.length:=by
      unfold start at h2
      by_cases hi:i<vs.length
      · exact hi
      · rw [List.getElem?_append_right (by simpa using hi)] at h2
        rw [List.getElem?_replicate] at h2
        split at h2<;>cases h2
    have ha:vs[i]?=some v:=by
      unfold start at h2
      rw [List.getElem?_append_left (by simpa using hi),List.getElem?_map] at h2
      cases e:vs[i]? with
      | none=>rw [e] at h2;cases h2
      | some a=>rw [e] at h2;cases h2;rfl
    obtain⟨u,hu,rv⟩:=r.get ha
    have hp:ps[i]?=some y:=by
      rw [← S.pre,List.getElem?_take_of_lt (by omega)];exact h1
    have ndP:ps.Nodup:=by rw [← S.pre];exact S.nd.sublist (List.take_sublist _ _)
    refine⟨u,rv,?_⟩
    rcases S.par y (List.mem_of_getElem? hp) with k | k
    · exact .inl ⟨k,d'W ndP hp hu k⟩
    · obtain⟨c,e⟩:=e'y (n:=s.heap.objs.size+1) k
      refine .inr ⟨.inl k,c,e,?_⟩
      have q:=x.cell y c e
      rw [d'X ndP hp hu (by show scope.names.lookup y≠_;rw [k];decide)] at q
      exact q
  · exact e0.hok.fresh (Nat.le_of_lt (x.above y c (PySem.mem_of_lookup h)))
  · unfold start
    show _=N.length
    rw [List.length_append,List.length_map,List.length_replicate]
    omega
theorem j'U {CX:CXT} {P:Program} {w:World} {K:PySem.W.Frag} {mg:Str→Option Value} {base:Heap} {k:Nat} {f:Addr} {name qual:Str} {params:Arguments} {body:List Stmt} {scope:Scope} {dV kV doc pm cdv ct oc:Value} {an od:Option Addr}
    {osl:Array (Option Value)} {N ps:List Str} {sp:Sp} (lk:K.lookup f=some ⟨oc,od,.func (PySem.W.fnOf name qual params body scope dV kV doc pm an cdv ct),osl⟩) (hcd:PySem.W.codeIn K cdv qual=true) (S:FnScope N ps scope)
    (len:∀ vs H Q E,sp vs H Q E→vs.length=ps.length)
    (hbody:∀ (A:Around) (outer:List Env) (s:Shared) (H:Hp) (vs:List V) (Q:VK) (E:XK),Room k (A.deeper (envOfC qual scope s.heap.objs.size f cdv))→sp vs H Q E→
      ∃ t,PSs (cxOf CX P w K mg base N qual scope f cdv A outer s H E) body t∧t { nx:=fun _ H'=>Q .non H',rt:=Q } (start N vs) H) :
    FnOk P w K mg base CX (k+1) f (PySem.W.fnOf name qual params body scope dV kV doc pm an cdv ct) ps sp:=by
  refine⟨len,fun A outer s H args us vs Q E hr e0 hb r hsp=>?_⟩
  have hl:=len _ _ _ _ hsp
  have KX:K.In s.heap:=e0.mod.kin.keeps fun b o e=>(e0.bs b o e).1
  have lim:s.heap.NoLimit:=e0.mod.nolimit.keeps fun b o e=>(e0.bs b o e).1
  have hkind:∀ y∈ps.zip us,scope.names.lookup y.1=some .local∨(scope.names.lookup y.1=some .cell∧((cellsFrom (s.heap.objs.size+1) scope.names []).lookup y.1).isSome=true):=fun ⟨n,v⟩ hy=>by
    rcases S.par n (List.of_mem_zip hy).1 with q | q
    · exact .inl q
    · exact .inr ⟨q,PySem.W.cellsFrom_some _ _ _ (.inl q)⟩
  refine codeAny_call_function hr.depth (KX _ _ lk) rfl S.co S.gen rfl (PySem.W.codeRec_of KX hcd) (hb _ _ _ _ ?_)
  refine wpAny_newFunctionEnv_cells S.kind hkind fun env he s1 x=>?_
  subst he
  refine⟨lim.keeps x.toInCall.keep,codeAny_func ?_⟩
  obtain⟨t,ht,hq⟩:=hbody A outer s H vs Q E (hr.deeper _) hsp
  have I:Inv (cxOf CX P w K mg base N qual scope f cdv A outer s H E) [] (start N vs) H s1:=h'a S hr.hd e0 hl r x
  refine wpAny_mono (ht [] s1 (start N vs) H _ I hq) (fun fl s' hs=>?_) fun e s' hs=>hs
  have fin:∀ {σ':St} {H':Hp} {v:V} {u:Value},Inv (cxOf CX P w K mg base N qual scope f cdv A outer s H E) [] σ' H' s'→RelV v u→Q v H'→CE outer P w H s Q u s':=
    fun {σ' H' v u} J rv q=>⟨v,H',J.os,J.bare,J.base,J.hok,rv,q⟩
  cases fl with
  | ret u =>
    obtain⟨v,σ',H',J,rv,q⟩:=hs
    exact fin J rv q
  | next =>
    obtain⟨σ',H',J,q⟩:=hs
    exact fin (v:=V.non) (u:=Value.none) J rfl q
  | brk =>
    obtain⟨_,_,_,q⟩:=hs
    exact False.elim q
  | cont =>
    obtain⟨_,_,_,q⟩:=hs
    exact False.elim q
end L2
namespace L2
open PySem PySem.Spec PyProof.Rows
section
variable {X:Cx} {x:Str} {p pos:Pos} {e:Expr} {es:List Expr} {t:TA} {id T:String} {r:List V→Hp→VK→Prop}
def tCB (r:List V→Hp→VK→Prop) (t:TA):TE:=fun σ H Q=>t σ H fun vs H1=>r vs H1 Q
theorem i'y (hc:CallR X (.builtin id) r) (hg:Gl X x) (hm:X.mg x=none) (hv:bootBuiltins x=some (.builtin id)) (ha:PA X (e :: es) t) (hn:x≠"__name__":=by decide) (hdb:(x == ("__debug__":Str))=false:=by decide)
    (he:starEach (e :: es) X.env=(false,eval e X.env) :: starEach es X.env:=by rfl) (hpl:(backTo pos (starEach es X.env)).any (·.1)=false:=by rfl):PE X (.Call (.Name x p) (e :: es) [] pos) (tCB r t):=by
  intro pins s σ H Q I h
  refine wpAny_Call_Name_kw (c'y I hg hm hv ?_ hn hdb)
  exact PyProof.Rows.callWith_builtin1 (thn (ha pos pins s σ H _ I h) fun us s1 ⟨vs,H1,I1,r1,q1⟩=>hc pins s1 σ H1 vs us Q I1 r1 q1) he hpl
theorem h'b (hc:CallR X (.type T) r) (hg:Gl X x) (hm:X.mg x=none) (hv:bootBuiltins x=some (.type T)) (ha:PA X (e :: es) t) (hn:x≠"__name__":=by decide) (hdb:(x == ("__debug__":Str))=false:=by decide)
    (he:starEach (e :: es) X.env=(false,eval e X.env) :: starEach es X.env:=by rfl) (hpl:(backTo pos (starEach es X.env)).any (·.1)=false:=by rfl):PE X (.Call (.Name x p) (e :: es) [] pos) (tCB r t):=by
  intro pins s σ H Q I h
  refine wpAny_Call_Name_kw (c'y I hg hm hv ?_ hn hdb)
  exact PyProof.Rows.callWith_type1 (thn (ha pos pins s σ H _ I h) fun us s1 ⟨vs,H1,I1,r1,q1⟩=>hc pins s1 σ H1 vs us Q I1 r1 q1) he hpl
end
end L2
namespace L2
open PySem PySem.Spec PyProof.Rows
section
variable {κ:Type} [DecidableEq κ]
def valV (kvs:List (κ×V)) (k:κ):Option V:=(kvs.find? fun kv=>decide (kv.1=k)).map (·.2)
def putK (kvs:List (κ×V)) (k:κ) (v:V):List (κ×V):=
  if (kvs.any fun kv=>decide (kv.1=k))=true then kvs.map (fun kv=>if kv.1=k then (kv.1,v) else kv) else kvs++[(k,v)]
theorem c'W {p:κ×V} {r:List (κ×V)} {k:κ} (e:p.1=k):valV (p :: r) k=some p.2:=by simp [valV,List.find?_cons,e]
theorem c'X {p:κ×V} {r:List (κ×V)} {k:κ} (e:¬ p.1=k):valV (p :: r) k=valV r k:=by simp [valV,List.find?_cons,e]
theorem e'z (k:κ):∀ kvs:List (κ×V),(kvs.any fun kv=>decide (kv.1=k))=(valV kvs k).isSome
  | [] => rfl
  | p :: r => by
    rw [List.any_cons]
    by_cases e:p.1=k
    · simp only [c'W e,decide_eq_true e,Bool.true_or,Option.isSome_some]
    · rw [c'X e,decide_eq_false e,Bool.false_or];exact e'z k r
theorem c'd (kvs:List (κ×V)) (k:κ) (v:V):(putK kvs k v).length≤kvs.length+1:=by
  unfold putK
  split
  · rw [List.length_map];omega
  · rw [List.length_append,List.length_cons,List.length_nil];omega
theorem RelO.isSome_eq {o:Option V} {u:Option Value} (r:RelO o u):o.isSome=u.isSome:=by
  cases o with
  | none => cases u with
    | none=>rfl
    | some _=>exact (show False from r).elim
  | some _ => cases u with
    | none=>exact (show False from r).elim
    | some _=>rfl
theorem RelO.getD {o:Option V} {u:Option Value} {d:V} {d':Value} (r:RelO o u) (rd:RelV d d'):RelV (o.getD d) (u.getD d'):=by
  cases o with
  | none => cases u with
    | none=>exact rd
    | some _=>exact (show False from r).elim
  | some _ => cases u with
    | none=>exact (show False from r).elim
    | some _=>exact r
theorem KV.val {kvs:List (κ×V)} {vs:List (κ×Value)} (r:KV kvs vs) (k:κ):RelO (valV kvs k) (valueAt vs k):=by
  unfold KV at r
  induction r with
  | nil => exact True.intro
  | @cons p q ps qs h t ih =>
    obtain⟨h1,h2⟩:=h
    by_cases e:p.1=k
    · have e':q.1=k:=h1.symm.trans e
      have b:valueAt (q :: qs) k=some q.2:=by simp [valueAt,List.find?_cons,e']
      rw [c'W e,b];exact h2
    · have e':¬ q.1=k:=fun z=>e (h1.trans z)
      have b:valueAt (q :: qs) k=valueAt qs k:=by simp [valueAt,List.find?_cons,e']
      rw [c'X e,b];exact ih
theorem KV.any {kvs:List (κ×V)} {vs:List (κ×Value)} (r:KV kvs vs) (k:κ):(kvs.any fun kv=>decide (kv.1=k))=vs.any fun kv=>decide (kv.1=k):=by
  unfold KV at r
  induction r with
  | nil => rfl
  | cons h t ih => rw [List.any_cons, List.any_cons, ih, h.1]
theorem KV.repl {kvs:List (κ×V)} {vs:List (κ×Value)} (r:KV kvs vs) (k:κ) {y:V} {u:Value} (ry:RelV y u) :
    KV (kvs.map fun kv=>if kv.1=k then (kv.1,y) else kv) (vs.map fun kv=>if kv.1=k then (kv.1,u) else kv):=by
  unfold KV at r ⊢
  induction r with
  | nil => exact .nil
  | @cons p q ps qs h t ih =>
    rw [List.map_cons,List.map_cons]
    refine .cons ?_ ih
    obtain⟨h1,h2⟩:=h
    by_cases e:p.1=k
    · rw [if_pos e,if_pos (h1.symm.trans e)];exact⟨h1,ry⟩
    · rw [if_neg e,if_neg (fun z=>e (h1.trans z))];exact⟨h1,h2⟩
theorem KV.put {kvs:List (κ×V)} {vs:List (κ×Value)} (r:KV kvs vs) (k:κ) {y:V} {u:Value} (ry:RelV y u):KV (putK kvs k y) (stored vs k u):=by
  unfold putK stored
  rw [r.any k]
  by_cases e:(vs.any fun kv=>decide (kv.1=k))=true
  · rw [if_pos e,if_pos e];exact r.repl k ry
  · rw [if_neg e,if_neg e];exact Paired.snoc r ⟨rfl,ry⟩
theorem KV.length {kvs:List (κ×V)} {vs:List (κ×Value)} (r:KV kvs vs):kvs.length=vs.length:=Paired.length r
end
theorem c'F {P:Program} {w:World} {k:Key} {u:Value} (r:RelV (kV k) u):(mixKind P w).is k u=true:=by
  cases k with
  | inl i => obtain ⟨t, e⟩ := (show ∃ t, u = Value.int i t from r); subst e; exact f'y P w i t
  | inr x => obtain ⟨t, e⟩ := (show ∃ t, u = Value.str x t from r); subst e; exact f'z P w x t
theorem d'Y {P:Program} {w:World}:∀ {ks:List Key} {us:List Value},Vals (ks.map kV) us→ItemsAre (mixKind P w) ks us
  | [], _, r => by rw [List.map_nil] at r; cases r; exact .nil
  | k :: ks, _, r => by
    rw [List.map_cons] at r
    cases r with
    | cons h t=>exact .cons (c'F h) (d'Y t)
abbrev KT (H:Hp):List (List Key×V)→List (List Key×Addr×Value)→Prop:=Paired fun p q=>p.1=q.1∧H q.2.1=some (.tup (p.1.map kV))∧RelV p.2 q.2.2
theorem KT.val {H:Hp} {kvs:List (List Key×V)} {xs:List (List Key×Addr×Value)} (r:KT H kvs xs) (k:List Key):RelO (valV kvs k) ((atKey xs k).map (·.2)):=by
  induction r with
  | nil => exact True.intro
  | @cons p q ps qs h t ih =>
    obtain⟨h1,_,h2⟩:=h
    by_cases e:p.1=k
    · have e':q.1=k:=h1.symm.trans e
      have b:atKey (q :: qs) k=some q.2:=by simp [atKey,List.find?_cons,e']
      rw [c'W e,b];exact h2
    · have e':¬ q.1=k:=fun z=>e (h1.trans z)
      have b:atKey (q :: qs) k=atKey qs k:=by simp [atKey,List.find?_cons,e']
      rw [c'X e,b];exact ih
theorem KT.repl {H:Hp} {kvs:List (List Key×V)} {xs:List (List Key×Addr×Value)} (r:KT H kvs xs) (k:List Key) {y:V} {u:Value} (ry:RelV y u) :
    KT H (kvs.map fun kv=>if kv.1=k then (kv.1,y) else kv) (xs.map (putAt k u)):=by
  induction r with
  | nil => exact .nil
  | @cons p q ps qs h t ih =>
    rw [List.map_cons,List.map_cons]
    refine .cons ?_ ih
    obtain⟨h1,h2,h3⟩:=h
    unfold putAt
    by_cases e:p.1=k
    · rw [if_pos e,if_pos (h1.symm.trans e)];exact⟨h1,h2,ry⟩
    · rw [if_neg e,if_neg (fun z=>e (h1.trans z))];exact⟨h1,h2,h3⟩
theorem KT.put {H:Hp} {kvs:List (List Key×V)} {xs:List (List Key×Addr×Value)} (r:KT H kvs xs) (k:List Key) {b:Addr} {y:V} {u:Value} (hb:H b=some (.tup (k.map kV))) (ry:RelV y u) :
    KT H (putK kvs k y) (storedH xs k b u):=by
  have e:(kvs.any fun kv=>decide (kv.1=k))=(atKey xs k).isSome:=by
    rw [e'z,(r.val k).isSome_eq,Option.isSome_map]
  unfold putK storedH
  rw [e]
  by_cases q:(atKey xs k).isSome=true
  · rw [if_pos q,if_pos q];exact r.repl k ry
  · rw [if_neg q,if_neg q];exact Paired.snoc r ⟨rfl,hb,ry⟩
theorem KT.keeps {H H':Hp} {kvs:List (List Key×V)} {xs:List (List Key×Addr×Value)} (r:KT H kvs xs) (ht:∀ b ys,H b=some (.tup ys)→H' b=some (.tup ys)):KT H' kvs xs:=
  Paired.mapP r fun _ _ z=>⟨z.1,ht _ _ z.2.1,z.2.2⟩
section
variable {P:Program} {w:World} {H:Hp} {h:Heap} {a:Addr}
theorem j'V {u:HO} (ok:HOk P w H h) (e:Rd H a u):ObjOk P w H h a u:=e.ok ok
theorem b'C {kvs:List (Key×V)} (ok:HOk P w H h) (e:Rd H a (.dK kvs)):kvs.length≤sizeLine∧(a == sysModules)=false∧∃ vs,KV kvs vs∧h.DictOf (mixKind P w) a vs:=
  show ObjOk P w H h a (.dK kvs) from j'V ok e
theorem g'v {kvs:List (Key×V)} (ok:HOk P w H h) (e:H a=some (.dK kvs)):kvs.length≤sizeLine∧(a == sysModules)=false∧∃ vs,KV kvs vs∧h.DictOf (mixKind P w) a vs:=b'C ok (.inl e)
theorem c'A {ks:List Key} (ok:HOk P w H h) (e:H a=some (.tup (ks.map kV))):(tupleKind (mixKind P w)).is h ks a:=by
  obtain⟨_,its,r,o,h1,h2,n,h3⟩:=(show ObjOk P w H h a (.tup (ks.map kV)) from ok a _ e)
  exact⟨o,its.toArray,n,h1,h2,h3,by simpa using d'Y r⟩
theorem c'G {kvs:List (List Key×V)} (ok:HOk P w H h) (e:Rd H a (.dT kvs)):kvs.length≤sizeLine∧(a == sysModules)=false∧
    ∃ xs,KT H kvs xs∧h.DictOfH (tupleKind (mixKind P w)) a xs:=by
  obtain⟨z,y,xs,r,o,es,ep,h1,h2,h3,h4,h5⟩:=(show ObjOk P w H h a (.dT kvs) from j'V ok e)
  refine⟨z,y,xs,r,o,es,ep,h1,h2,h3,h4,fun x hx=>?_,h5⟩
  have all:∀ {l:List (List Key×V)} {m:List (List Key×Addr×Value)},KT H l m→∀ x∈m,(tupleKind (mixKind P w)).is h x.1 x.2.1:=by
    intro l m q
    induction q with
    | nil=>intro x hx;exact nomatch hx
    | @cons p q ps qs hq t ih=>
      intro x hx
      rcases List.mem_cons.mp hx with e | hx
      · subst e
        exact c'A ok (by rw [← hq.1];exact hq.2.1)
      · exact ih x hx
  exact all r x hx
theorem q'n {kvs:List (List Key×V)} (ok:HOk P w H h) (e:H a=some (.dT kvs)):kvs.length≤sizeLine∧(a == sysModules)=false∧
    ∃ xs,KT H kvs xs∧h.DictOfH (tupleKind (mixKind P w)) a xs:=c'G ok (.inl e)
end
def DGet (H:Hp) (a:Addr) (y:V) (r:Option V):Prop:=
  (∃ kvs k,Rd H a (.dK kvs)∧y=kV k∧r=valV kvs k)∨∃ kvs k b,Rd H a (.dT kvs)∧y=.ref b∧H b=some (.tup (k.map kV))∧r=valV kvs k
def DPut (H:Hp) (a:Addr) (y v:V) (H':Hp):Prop:=
  (∃ kvs k,H a=some (.dK kvs)∧y=kV k∧kvs.length<sizeLine∧H'=upd H a (.dK (putK kvs k v)))∨
  ∃ kvs k b,H a=some (.dT kvs)∧y=.ref b∧H b=some (.tup (k.map kV))∧kvs.length<sizeLine∧H'=upd H a (.dT (putK kvs k v))
theorem DPut.k {H:Hp} {a:Addr} {kvs:List (Key×V)} {k:Key} {v:V} (e:H a=some (.dK kvs)) (hl:kvs.length<sizeLine):DPut H a (kV k) v (upd H a (.dK (putK kvs k v))):=.inl ⟨kvs,k,e,rfl,hl,rfl⟩
section
variable {X:Cx} {pins:List (Addr×Obj)} {σ:St} {H:Hp} {s:Shared} {a:Addr} {y v:V} {u r:Value} {o:Option V} {A:Around} {E:Value→Shared→Prop}
theorem Inv.big (I:Inv X pins σ H s):sysModules<s.heap.objs.size:=by
  have h:mainGlobals<s.heap.objs.size:=(I.mod.glob.keeps I.bk).lt
  exact Nat.lt_trans (by decide) h
theorem h'c {Q:Value→Shared→Prop} (hu:A.units+1<cLine) (I:Inv X pins σ H s) (g:DGet H a y (some v)) (ry:RelV y u) (h:∀ w' s',Inv X pins σ H s'→RelV v w'→Q w' s') :
    wpAny (model X.prog X.w) A (getItem (.ref a) u) Q E s:=by
  rcases g with ⟨kvs,k,e,ey,l⟩ | ⟨kvs,k,b,e,ey,eb,l⟩
  · subst ey
    obtain⟨z,hd,vs,rel,dd⟩:=b'C I.hok e
    obtain⟨w',hw,rw'⟩:=RelO.some_of (v:=v) (o:=valueAt vs k) (by rw [l];exact rel.val k)
    exact wpAny_getItem_of (c'F ry) dd.mapOf hw (h w' _ (I.tok _) rw')
  · subst ey
    cases (show u=Value.ref b from ry)
    obtain⟨z,hd,xs,rel,dd⟩:=c'G I.hok e
    obtain⟨w',hw,rw'⟩:=RelO.some_of (v:=v) (o:=(atKey xs k).map (·.2)) (by rw [l];exact rel.val k)
    obtain⟨p,hp,hp2⟩:=Option.map_eq_some_iff.mp hw
    refine wpAny_getItem_heap (tupleKind_room_in1 hu) (c'A I.hok eb) dd hp ?_
    rw [hp2]
    exact h w' _ (I.tok _) rw'
theorem r'V {Q:Value→Shared→Prop} (hu:A.units+1<cLine) (I:Inv X pins σ H s) (g:DGet H a y o) (ry:RelV y u) (h:∀ s',Inv X pins σ H s'→Q (.bool o.isSome) s') :
    wpAny (model X.prog X.w) A (compareOp .In u (.ref a)) Q E s:=by
  rcases g with ⟨kvs,k,e,ey,l⟩ | ⟨kvs,k,b,e,ey,eb,l⟩
  · subst ey
    obtain⟨z,hd,vs,rel,dd⟩:=b'C I.hok e
    refine wpAny_in_of (c'F ry) hd dd.mapOf ?_
    rw [← (rel.val k).isSome_eq,← l]
    exact h _ (I.tok _)
  · subst ey
    cases (show u=Value.ref b from ry)
    obtain⟨z,hd,xs,rel,dd⟩:=c'G I.hok e
    refine wpAny_in_heap (tupleKind_room_in1 hu) (c'A I.hok eb) hd dd ?_
    have q:=(rel.val k).isSome_eq
    rw [Option.isSome_map] at q
    rw [← q,← l]
    exact h _ (I.tok _)
theorem d'F {h':Heap} {t':Nat} {ob:HO} (I:Inv X pins σ H s) (mu:Mut (H a)) (hs:Heap.SameBut a s.heap h') (he:∃ q,h'.get? a=some q) (new:ObjOk X.prog X.w (upd H a ob) h' a ob) :
    Inv X pins σ (upd H a ob) { s with heap:=h',toks:=t' }:=
  I.write (x:=a) (e:=a) mu (.inl rfl) (fun b q hb z=>(hs.2 b hb).trans z) he new
theorem h'd {P:Program} {w:World} {H':Hp} {h':Heap} {kvs:List (Key×V)} {vs:List (Key×Value)} (z:kvs.length≤sizeLine) (hd:(a == sysModules)=false) (rel:KV kvs vs) (dd:h'.DictOf (mixKind P w) a vs) :
    ObjOk P w H' h' a (.dK kvs):=⟨z,hd,vs,rel,dd⟩
theorem h'e {H':Hp} {Q:Unit→Shared→Prop} (hu:A.units+1<cLine) (I:Inv X pins σ H s) (g:DPut H a y v H') (ry:RelV y u) (rv:RelV v r) (h:∀ s',Inv X pins σ H' s'→Q () s') :
    wpAny (model X.prog X.w) A (setItem (.ref a) u r) Q E s:=by
  rcases g with ⟨kvs,k,e,ey,l,eH⟩ | ⟨kvs,k,b,e,ey,eb,l,eH⟩
  · subst ey eH
    obtain⟨z,hd,vs,rel,dd⟩:=g'v I.hok e
    have hz:vs.length≤sizeLine:=by rw [← rel.length];exact z
    have hl:(putK kvs k v).length≤sizeLine:=by have:=c'd kvs k v;omega
    refine wpAny_setItem_pairs (hsz:=hz) (c'F ry) dd fun h' dd' hs=>h _ ?_
    have he:∃ q,h'.get? a=some q:=let ⟨q,_,_,hq,_⟩:=dd';⟨q,hq⟩
    exact d'F I (by rw [e];exact True.intro) hs he (h'd hl hd (rel.put k rv) dd')
  · subst ey eH
    cases (show u=Value.ref b from ry)
    obtain⟨z,hd,xs,rel,dd⟩:=q'n I.hok e
    have hz:xs.length≤sizeLine:=by rw [← Paired.length rel];exact z
    have hl:(putK kvs k v).length≤sizeLine:=by have:=c'd kvs k v;omega
    refine wpAny_setItem_heap (hsz:=hz) (tupleKind_room_in1 hu) (c'A I.hok eb) dd fun h' dd' hs=>h _ ?_
    obtain⟨q,es,ep,hq,h2,h3,h4,_,h5⟩:=dd'
    refine d'F I (by rw [e];exact True.intro) hs ⟨q,hq⟩ ⟨hl,hd,_,(rel.put k eb rv).keeps fun c ys ec=>?_,q,es,ep,hq,h2,h3,h4,h5⟩
    rw [a'h (q'h ec e (fun z=>nomatch z))]
    exact ec
end
section
variable {X:Cx} {pins:List (Addr×Obj)} {σ:St} {H:Hp} {s:Shared} {a:Addr} {kvs:List (Key×V)} {k:Key} {u:Value} {A:Around} {E:Value→Shared→Prop}
theorem q'o {Q:Value→Shared→Prop} (I:Inv X pins σ H s) (e:Rd H a (.dK kvs)) (h:∀ t s',Inv X pins σ H s'→Q (.int kvs.length t) s'):wpAny (model X.prog X.w) A (call (.builtin "len") [.ref a]) Q E s:=by
  obtain⟨z,hd,vs,rel,dd⟩:=b'C I.hok e
  refine call_len_dict hd dd (by rw [← rel.length];rw [sizeLine_eq] at z;omega) ?_
  rw [← rel.length]
  exact h _ _ (I.tok _)
end
theorem f'A {X:Cx} {pins:List (Addr×Obj)} {σ:St} {H:Hp} {s:Shared} {a:Addr} {y:V} {o:Option V} (I:Inv X pins σ H s) (g:DGet H a y o):s.TypeIs (.ref a) "dict":=by
  rcases g with ⟨kvs,k,e,_,_⟩ | ⟨kvs,k,b,e,_,_,_⟩
  · obtain⟨_,_,vs,_,dd⟩:=b'C I.hok e
    exact dd.typeIs
  · obtain⟨_,_,xs,_,dd⟩:=c'G I.hok e
    exact dd.typeIs
def sDPut (td ty tv:TE):TS:=fun D σ H=>tv σ H fun v H1=>td σ H1 fun x H2=>ty σ H2 fun y H3=>∃ a H4,x=.ref a∧DPut H3 a y v H4∧D.nx σ H4
section
variable {X:Cx} {o i e value:Expr} {pos pos' tpos:Pos} {td ty tv:TE}
theorem k't (hu:X.A.units+1<cLine) (ho:PE X o td) (hi:PE X i ty) (hv:PE X value tv) (hs:swapsWith value (some (.Subscript o i pos')) pos.line X.env=pure false) :
    PS X (.Assign [.Subscript o i pos'] value pos) (sDPut td ty tv):=by
  intro pins s σ H D I h
  refine wpAny_Assign_Subscript (thn (hv pins s σ H _ I h) fun r s1 ⟨v,H1,I1,rv,q1⟩=>thn (ho pins s1 σ H1 _ I1 q1) fun u s2 ⟨x,H2,I2,rx,q2⟩=>thn (hi pins s2 σ H2 _ I2 q2) fun iv s3 ⟨y,H3,I3,ry,a,H4,ex,g,q3⟩=>?_) hs
  subst ex
  obtain rfl:u=Value.ref a:=rx
  exact h'e hu I3 g ry rv fun s4 I4=>⟨σ,H4,I4,q3⟩
end
theorem e'A {P:Program} {w:World} {H:Hp} (h:Heap) (hb:sysModules<h.objs.size):ObjOk P w H (h.push { cls:=.type "dict",data:=.dict #[] }) h.objs.size (.dK []):=
  ⟨Nat.zero_le _,beq_eq_false_iff_ne.mpr (Ne.symm (Nat.ne_of_lt hb)),[],.nil,Heap.DictOf.new h⟩
def tDNewK:TE:=fun _ H Q=>∀ p,H p=none→Q (.ref p) (upd H p (.dK []))
section
variable {X:Cx} {pos:Pos}
theorem i'z:PE X (.Dict [] [] pos) tDNewK:=fun pins s σ H Q I h=>
  wpAny_Dict_empty ⟨.ref s.heap.objs.size,_,I.laid (a:=s.heap.objs.size) (o:=.dK []) (t':=s.toks) (fun _ _ q=>Heap.get?_push_of_some _ q) (Nat.le_refl _) (e'A s.heap I.big),rfl,h _ (I.hok.fresh (Nat.le_refl _))⟩
end
def tPairs:List (TE×TE)→St→Hp→(List (V×V)→Hp→Prop)→Prop
  | [], _, H, Q => Q [] H
  | (tk, tv) :: r, σ, H, Q => tk σ H fun x H1 => tv σ H1 fun y H2 => tPairs r σ H2 fun ps H3 => Q ((x, y) :: ps) H3
abbrev VV:List (V×V)→List (Value×Value)→Prop:=Paired fun p q=>RelV p.1 q.1∧RelV p.2 q.2
def PPs (X:Cx) (pos:Pos) (keys:List (Option Expr)) (values:List Expr) (trs:List (TE×TE)):Prop:=
  ∀ (pins:List (Addr×Obj)) (s:Shared) (σ:St) (H:Hp) (Q:List (V×V)→Hp→Prop),Inv X pins σ H s→tPairs trs σ H Q→
    wpAny (model X.prog X.w) X.A (evalPairs (pairTrees keys values X.env pos)) (fun vs s'=>∃ ps H',Inv X pins σ H' s'∧VV ps vs∧Q ps H') X.xe s
theorem k'u {X:Cx} {pos:Pos}:PPs X pos [] [] []:=fun pins s σ H Q I h=>pairTrees_nil_walk ⟨[],H,I,.nil,h⟩
theorem i'A {X:Cx} {pos:Pos} {k v:Expr} {ks:List (Option Expr)} {vs:List Expr} {tk tv:TE} {trs:List (TE×TE)} (hk:PE X k tk) (hv:PE X v tv) (hr:PPs X pos ks vs trs) :
    PPs X pos (some k :: ks) (v :: vs) ((tk,tv) :: trs):=fun pins s σ H Q I h=>
  pairTrees_cons_walk (thn (hk pins s σ H _ I h) fun u s1 ⟨x,H1,I1,rx,q1⟩=>thn (hv pins s1 σ H1 _ I1 q1) fun w2 s2 ⟨y,H2,I2,ry,q2⟩=>
    thn (hr pins s2 σ H2 _ I2 q2) fun ws s3 ⟨ps,H3,I3,rel,q3⟩=>⟨(x,y) :: ps,H3,I3,.cons ⟨rx,ry⟩ rel,q3⟩)
def mergeK (kvs more:List (Key×V)):List (Key×V):=more.foldl (fun acc kv=>putK acc kv.1 kv.2) kvs
theorem KV.merge:∀ {more:List (Key×V)} {rs:List (Key×Value)} {kvs:List (Key×V)} {vs:List (Key×Value)},KV more rs→KV kvs vs→KV (mergeK kvs more) (merged vs rs):=by
  intro more rs kvs vs r
  unfold KV at r
  induction r generalizing kvs vs with
  | nil => intro q; exact q
  | @cons p q ps qs h t ih =>
    intro r0
    have e:KV (putK kvs p.1 p.2) (stored vs q.1 q.2):=by
      have:=r0.put p.1 h.2
      rw [← h.1];exact this
    exact ih e
theorem c'w:∀ (more kvs:List (Key×V)),(mergeK kvs more).length≤kvs.length+more.length
  | [], kvs => by show kvs.length ≤ kvs.length + 0; omega
  | p :: r, kvs => by
    have h1:=c'w r (putK kvs p.1 p.2)
    have h2:=c'd kvs p.1 p.2
    show (mergeK (putK kvs p.1 p.2) r).length≤_
    rw [List.length_cons];omega
theorem d'm {P:Program} {w:World}:∀ {kvs:List (Key×V)} {ws:List (Value×Value)},VV (kvs.map fun kv=>(kV kv.1,kv.2)) ws→∃ rs,Carries (mixKind P w) ws rs∧KV kvs rs
  | [], _, r => by rw [List.map_nil] at r; cases r; exact ⟨[], True.intro, .nil⟩
  | p :: kvs, _, r => by
    rw [List.map_cons] at r
    cases r with
    | @cons a b as bs h t=>
      obtain⟨rs,c,q⟩:=d'm (P:=P) (w:=w) t
      obtain⟨b1,b2⟩:=b
      exact⟨(p.1,b2) :: rs,⟨c'F h.1,rfl,c⟩,.cons ⟨rfl,h.2⟩ q⟩
def tDisp (trs:List (TE×TE)):TE:=fun σ H Q=>∀ p,H p=none→tPairs trs σ (upd H p (.dK [])) fun ps H2=>H2 p=some (.dK [])∧∃ kvs:List (Key×V),ps=kvs.map (fun kv=>(kV kv.1,kv.2))∧kvs.length≤15∧Q (.ref p) (upd H2 p (.dK (mergeK [] kvs)))
theorem k'v {X:Cx} {pos:Pos} {keys:List (Option Expr)} {values:List Expr} {trs:List (TE×TE)} (h:PPs X pos keys values trs) (hall:keys.all (·.isSome)=true) (hl:keys.length=values.length) (h0:keys≠[])
    (h15:keys.length≤15):PE X (.Dict keys values pos) (tDisp trs):=by
  intro pins s σ H Q I q
  have hn:=I.hok.fresh (Nat.le_refl s.heap.objs.size)
  have I1:=I.laid (a:=s.heap.objs.size) (o:=.dK []) (h':=s.heap.push { cls:=.type "dict",data:=.dict #[] }) (t':=s.toks) (fun _ _ q=>Heap.get?_push_of_some _ q) (Nat.le_refl _) (e'A s.heap I.big)
  refine wpAny_Dict_walk (knd:=mixKind X.prog X.w) hall hl h0 h15 (thn (h pins _ σ _ _ I1 (q _ hn)) fun ws s2 ⟨ps,H2,I2,rel,e,kvs,ep,lk,q2⟩=>?_)
  subst ep
  obtain⟨rs,c,rk⟩:=d'm (P:=X.prog) (w:=X.w) rel
  obtain⟨z,hd,vs0,r0,dd⟩:=g'v I2.hok e
  cases r0
  refine⟨rs,c,dd,fun h' dd' hs=>⟨.ref s.heap.objs.size,_,?_,rfl,q2⟩⟩
  have hz:(mergeK [] kvs).length≤sizeLine:=by
    have h1:=c'w kvs []
    rw [List.length_nil] at h1
    rw [sizeLine_eq];omega
  have he:∃ q,h'.get? s.heap.objs.size=some q:=let ⟨q,_,_,hq,_⟩:=dd';⟨q,hq⟩
  exact d'F I2 (by rw [e];exact True.intro) hs he (h'd hz hd (rk.merge .nil) dd')
structure M2 (X:Cx) (o:Expr) (m:Str) (apos:Pos) (e f:Expr) (cpos:Pos):Prop where
  base:attributeBase o m X.env (eval o X.env)=eval o X.env
  few:((backTo cpos (starEach [e,f] X.env)).all (fun x=>!x.1) && (backToKw cpos (keywordEach [] X.env)).all (fun x=>x.1.isSome)
    && decide (([e,f]:List Expr).length+([]:List Keyword).length+(if ([]:List Keyword).isEmpty then 0 else 1)<30))=true
  line:(apos.endLine == cpos.line)=true
  trees:backTo cpos (starEach [e,f] X.env)=[(false,eval e X.env),(false,eval f X.env)]
def IsD (H:Hp) (a:Addr):Prop:=(∃ kvs,Rd H a (.dK kvs))∨∃ kvs,Rd H a (.dT kvs)
theorem h'f {X:Cx} {pins:List (Addr×Obj)} {σ:St} {H:Hp} {s:Shared} {a:Addr} (I:Inv X pins σ H s) (d:IsD H a) :
    s.TypeIs (.ref a) "dict"∧(∀ b,Value.ref a=.ref b→∃ ob,s.heap.get? b=some ob∧ob.dict=none)∧(a == sysModules)=false:=by
  rcases d with ⟨kvs,e⟩ | ⟨kvs,e⟩
  · obtain⟨_,hd,vs,_,dd⟩:=b'C I.hok e
    refine⟨dd.typeIs,fun b q=>?_,hd⟩
    cases q
    obtain⟨ob,_,_,h1,h2,_⟩:=dd
    exact⟨ob,h1,h2.2.1⟩
  · obtain⟨_,hd,xs,_,dd⟩:=c'G I.hok e
    refine⟨dd.typeIs,fun b q=>?_,hd⟩
    cases q
    obtain⟨ob,_,_,h1,h2,_⟩:=dd
    exact⟨ob,h1,h2.2.1⟩
section
variable {X:Cx} {pins:List (Addr×Obj)} {σ:St} {H:Hp} {s:Shared} {a:Addr} {y d:V} {u r:Value} {o:Option V} {A:Around} {E:Value→Shared→Prop}
theorem n'O {Q:Value→Shared→Prop} (hu:A.units+1<cLine) (I:Inv X pins σ H s) (g:DGet H a y o) (ry:RelV y u) (rd:RelV d r) (h:∀ w' s',Inv X pins σ H s'→RelV (o.getD d) w'→Q w' s') :
    wpAny (model X.prog X.w) A (call (.builtin "dict.get") [.ref a,u,r]) Q E s:=by
  rcases g with ⟨kvs,k,e,ey,l⟩ | ⟨kvs,k,b,e,ey,eb,l⟩
  · subst ey
    obtain⟨z,hd,vs,rel,dd⟩:=b'C I.hok e
    refine call_meetsIn PySem.F.slot_dict_get dd.typeIs PySem.F.entry_dict_get (PySem.F.args_dict_get_3 _ _ _) (meets_dict_get_default (mixKind X.prog X.w) a (c'F ry) hd r) ⟨_,dd.mapOf,h _ _ (I.tok _) ?_⟩
    rw [l]
    exact (rel.val k).getD rd
  · subst ey
    cases (show u=Value.ref b from ry)
    obtain⟨z,hd,xs,rel,dd⟩:=c'G I.hok e
    refine call_meetsIn PySem.F.slot_dict_get dd.typeIs PySem.F.entry_dict_get (PySem.F.args_dict_get_3 _ _ _) (meetsH_dict_get_default (tupleKind (mixKind X.prog X.w)) a b hd r) ⟨tupleKind_room_in1 hu,k,xs,c'A I.hok eb,dd,h _ _ (I.tok _) ?_⟩
    rw [l]
    exact (rel.val k).getD rd
end
def tDGet2 (td ty tx:TE):TE:=fun σ H Q=>td σ H fun x H1=>∃ a,x=.ref a∧IsD H1 a∧ty σ H1 fun y H2=>tx σ H2 fun z H3=>∃ o,DGet H3 a y o∧Q (o.getD z) H3
section
variable {X:Cx} {o e f:Expr} {apos cpos:Pos} {td ty tx:TE}
theorem i'B (hu:X.A.units+1<cLine) (ho:PE X o td) (he:PE X e ty) (hf:PE X f tx) (m:M2 X o "get" apos e f cpos):PE X (.Call (.Attribute o "get" apos) [e,f] [] cpos) (tDGet2 td ty tx):=by
  intro pins s σ H Q I h
  refine wpAny_Call_method m.base m.few m.line PySem.F.plainAttrs_dict PySem.F.slot_dict_get PySem.F.type_dict_get (thn (ho pins s σ H _ I h) fun u s1 ⟨x,H1,I1,rx,a,ex,d,q1⟩=>?_)
  subst ex
  obtain rfl:u=Value.ref a:=rx
  obtain⟨t1,t2,_⟩:=h'f I1 d
  refine⟨t1,t2,?_⟩
  rw [m.trees]
  refine Calls.callWith_builtin rfl (Calls.evalArgs_plain (Calls.spliced_cons (thn (he pins s1 σ H1 _ I1 q1) fun iv s2 ⟨y,H2,I2,ry,q2⟩=>
    Calls.spliced_cons (thn (hf pins s2 σ H2 _ I2 q2) fun fv s3 ⟨z,H3,I3,rz,ov,g,q3⟩=>Calls.spliced_nil ?_))))
  exact n'O hu I3 g ry rz fun w' s4 I4 rw'=>⟨_,H3,I4,rw',q3⟩
end
section
variable {X:Cx} {pins:List (Addr×Obj)} {σ:St} {H:Hp} {s:Shared} {a:Addr} {kvs:List (Key×V)} {A:Around} {E:Value→Shared→Prop}
end
section
variable {X:Cx} {pins:List (Addr×Obj)} {σ:St} {H:Hp} {s:Shared} {a:Addr} {y:V} {u:Value} {A:Around} {E:Value→Shared→Prop}
end
end L2
namespace HT
open PySem PyProof.Rows
section
open PySem.SeqAt
open PySem.AutoSeq1 (wpAny_loadPart')
open PySem.MeetsSeq PySem.MeetsSeq2 PySem.MeetsSeq3
end
section
variable {prog:Program} {w:World} {A:Around} {E:Value→Shared→Prop} {s:Shared}
def sIx (n d:Nat):Option Int→Nat
  | none => d
  | some v => if v < 0 then (v + (n : Int)).toNat else min v.toNat n
end
end HT
namespace L2
open PySem PySem.Spec PyProof.Rows
abbrev TO:=St→Hp→(Option Int→Hp→Prop)→Prop
def PO (X:Cx) (e:Option Expr) (t:TO):Prop:=
  ∀ (pins:List (Addr×Obj)) (s:Shared) (σ:St) (H:Hp) (Q:Option Int→Hp→Prop),Inv X pins σ H s→t σ H Q→
    wpAny (model X.prog X.w) X.A (evalPart e X.env) (fun u s'=>∃ o H',Inv X pins σ H' s'∧IsPart u o∧Q o H') X.xe s
def tNoPart:TO:=fun _ H Q=>Q none H
def tPart (t:TE):TO:=fun σ H Q=>t σ H fun x H1=>∃ i,x=.int i∧Q (some i) H1
section
variable {X:Cx} {e:Expr} {te:TE} {lo hi:Option Expr} {tl th:TO} {pos p2:Pos}
theorem k'w:PO X none tNoPart:=by
  intro pins s σ H Q I h
  rw [evalPart_none]
  exact wpAny_pure ⟨none,H,I,.none,h⟩
theorem k'x (h:PE X e te):PO X (some e) (tPart te):=by
  intro pins s σ H Q I hw
  rw [evalPart_some]
  refine thn (h pins s σ H _ I hw) fun u s1 ⟨x,H1,I1,r1,q1⟩=>?_
  obtain⟨i,rfl,q⟩:=q1
  obtain⟨t,rfl⟩:=r1
  exact⟨some i,H1,I1,.int i t,q⟩
def SlR (X:Cx) (r:V→Option Int→Option Int→Hp→VK→Prop):Prop:=
  ∀ (pins:List (Addr×Obj)) (s:Shared) (σ:St) (H:Hp) (x:V) (v vl vu:Value) (lo hi:Option Int) (sl:Addr) (Q:VK),Inv X pins σ H s→RelV x v→s.heap.IsSliceOf sl vl vu .none→IsPart vl lo→IsPart vu hi→r x lo hi H Q→
    ∃ T id,typeLookup (.type T) "__getitem__"=pure (some (.builtin id))∧s.TypeIs v T∧wpAny (model X.prog X.w) X.A (getItem v (.ref sl)) (EP X pins σ Q) X.xe s
theorem SlR.or {r r':V→Option Int→Option Int→Hp→VK→Prop} (h:SlR X r) (h':SlR X r'):SlR X (fun x lo hi H Q=>r x lo hi H Q∨r' x lo hi H Q):=by
  intro pins s σ H x v vl vu lo hi sl Q I rx hs pl pu q
  rcases q with q | q
  · exact h pins s σ H x v vl vu lo hi sl Q I rx hs pl pu q
  · exact h' pins s σ H x v vl vu lo hi sl Q I rx hs pl pu q
def tSl (r:V→Option Int→Option Int→Hp→VK→Prop) (te:TE) (tl th:TO):TE:=fun σ H Q=>te σ H fun x H1=>tl σ H1 fun l H2=>th σ H2 fun u H3=>r x l u H3 Q
theorem i'C {r:V→Option Int→Option Int→Hp→VK→Prop} (hr:SlR X r) (he:PE X e te) (hl:PO X lo tl) (hu:PO X hi th):PE X (.Subscript e (.Slice lo hi none p2) pos) (tSl r te tl th):=by
  intro pins s σ H Q I h
  refine Subscript_ (thn (he pins s σ H _ I h) fun v s1 ⟨x,H1,I1,r1,q1⟩=>?_)
  refine wpAny_Slice (thn (hl pins s1 σ H1 _ I1 q1) fun vl s2 ⟨l,H2,I2,pl,q2⟩=>thn (hu pins s2 σ H2 _ I2 q2) fun vu s3 ⟨u,H3,I3,pu,q3⟩=>?_)
  rw [evalPart_none]
  refine wpAny_pure ?_
  have I4:Inv X pins σ H3 { s3 with heap:=s3.heap.push { cls:=.type "slice",data:=.fields #[vl,vu,.none] } }:=I3.kept (t':=s3.toks) fun b ob q=>Heap.get?_push_of_some _ q
  obtain⟨T,id,hT,ht,hg⟩:=hr pins { s3 with heap:=s3.heap.push { cls:=.type "slice",data:=.fields #[vl,vu,.none] } } σ H3 x v vl vu l u s3.heap.objs.size Q I4 r1 (Heap.IsSliceOf.new ..) pl pu q3
  show wpAny (model X.prog X.w) X.A (subscriptTail e (.Slice lo hi none p2) v (.ref s3.heap.objs.size)) (EP X pins σ Q) X.xe { s3 with heap:=s3.heap.push { cls:=.type "slice",data:=.fields #[vl,vu,.none] } }
  exact tail_any (ops:=[.ref s3.heap.objs.size,v]) ht hT hg (by with_unfolding_all rfl)
def cutV (xs:List V) (lo hi:Option Int):List V:=(xs.drop (HT.sIx xs.length 0 lo)).take (HT.sIx xs.length xs.length hi - HT.sIx xs.length 0 lo)
theorem f'B (xs:List V) (lo hi:Option Int):(cutV xs lo hi).length≤xs.length:=by
  unfold cutV
  rw [List.length_take,List.length_drop]
  omega
end
end L2
namespace L2
open PySem PySem.Spec PyProof.Rows
def ixN (n:Nat) (i:Int):Option Nat:=if 0≤i then (if i<n then some i.toNat else none) else if -(n:Int)≤i then some (i+n).toNat else none
def atI {α:Type} (xs:List α) (i:Int):Option α:=(ixN xs.length i).bind fun j=>xs[j]?
theorem f'N {n:Nat} {i:Int} {j:Nat} (h:ixN n i=some j):seqIndex? i n=some j∧j<n∧-(n:Int)≤i∧i<n:=by
  unfold ixN at h
  by_cases h0:0≤i
  · rw [if_pos h0] at h
    by_cases h1:i<n
    · rw [if_pos h1] at h
      have e:i.toNat=j:=Option.some.inj h
      exact⟨by rw [seqIndex_of h0 h1,e],by omega,by omega,h1⟩
    · rw [if_neg h1] at h;cases h
  · rw [if_neg h0] at h
    by_cases h1:-(n:Int)≤i
    · rw [if_pos h1] at h
      have e:(i+n).toNat=j:=Option.some.inj h
      exact⟨by rw [seqIndex_neg (by omega) h1,e],by omega,h1,by omega⟩
    · rw [if_neg h1] at h;cases h
theorem d'G {α:Type} {xs:List α} {i:Int} {v:α} (h:atI xs i=some v):∃ j,seqIndex? i xs.length=some j∧xs[j]?=some v∧j<xs.length∧-(xs.length:Int)≤i∧i<xs.length:=by
  unfold atI at h
  cases e:ixN xs.length i with
  | none => rw [e] at h; cases h
  | some j =>
    rw [e] at h
    obtain⟨h1,h2,h3,h4⟩:=f'N e
    exact⟨j,h1,h,h2,h3,h4⟩
def PlainIx (b:Expr):Prop:=∀ o i,subscripted b false o i=operate [o,i] (getItem o i)
def IxR (X:Cx) (r:R2):Prop:=
  ∀ (value slice:Expr) (pins:List (Addr×Obj)) (s:Shared) (σ:St) (H:Hp) (x y:V) (v u:Value) (Q:VK),Inv X pins σ H s→RelV x v→RelV y u→r x y H Q→
    subscripted slice false v u=operate [v,u] (getItem v u)→wpAny (model X.prog X.w) X.A (subscriptTail value slice v u) (EP X pins σ Q) X.xe s
def MtR (X:Cx) (id:String) (r:V→List V→Hp→VK→Prop):Prop:=
  ∀ (pins:List (Addr×Obj)) (s:Shared) (σ:St) (H:Hp) (x:V) (xs:List V) (v:Value) (us:List Value) (Q:VK),Inv X pins σ H s→RelV x v→Vals xs us→r x xs H Q→
    wpAny (model X.prog X.w) X.A (call (.builtin id) (v :: us)) (EP X pins σ Q) X.xe s
section
variable {X:Cx} {a b:Expr} {ta tb:TE} {pos:Pos}
theorem IxR.or {r r':R2} (h:IxR X r) (h':IxR X r'):IxR X (fun x y H Q=>r x y H Q∨r' x y H Q):=by
  intro value slice pins s σ H x y v u Q I rx ry q hs
  rcases q with q | q
  · exact h value slice pins s σ H x y v u Q I rx ry q hs
  · exact h' value slice pins s σ H x y v u Q I rx ry q hs
theorem q'p {r:R2} (hr:IxR X r) (ha:PE X a ta) (hb:PE X b tb) (hs:PlainIx b):PE X (.Subscript a b pos) (tOp r ta tb):=by
  intro pins s σ H Q I h
  exact Subscript_ (i'x ha hb I h fun v u s2 x y H2 I2 rx ry q=>hr a b pins s2 σ H2 x y v u Q I2 rx ry q (hs _ _))
def rIxL (K:PySem.W.Frag):R2:=fun x y H Q=>∃ p xs i v,x=.ref p∧y=.int i∧SqL K H p xs∧atI xs i=some v∧Q v H
def rIxT (K:PySem.W.Frag):R2:=fun x y H Q=>∃ p xs i v,x=.ref p∧y=.int i∧SqT K H p xs∧atI xs i=some v∧Q v H
def rIxS:R2:=fun x y H Q=>∃ z i c,x=.str z∧y=.int i∧z.length≤sizeLine∧atI z.cps.toList i=some c∧Q (.str ⟨#[c]⟩) H
theorem ix_list:IxR X (rIxL X.K):=by
  intro value slice pins s σ H x y v u Q I rx ry h hs
  obtain⟨p,xs,i,z,rfl,rfl,hq,he,q⟩:=h
  cases rx
  obtain⟨t,rfl⟩:=ry
  obtain⟨its,r,pl,hz⟩:=I.list hq
  obtain⟨j,h1,h2,h3,h4,h5⟩:=d'G he
  obtain⟨w,ew,rw'⟩:=r.get h2
  have hl:=r.length
  have hn:=c'z
  have fin:EP X pins σ Q w s:=⟨z,H,I,rw',q⟩
  by_cases h0:0≤i
  · have hj:i.toNat=j:=by
      rw [seqIndex_of h0 h5] at h1
      exact Option.some.inj h1
    exact item_listR pl.isList h0 (by omega) (by rw [hj];simpa using ew) fin hs
  · have hj:(i+(its.toArray.size:Int)).toNat=j:=by
      rw [seqIndex_neg (by omega) h4] at h1
      rw [List.size_toArray,← hl]
      exact Option.some.inj h1
    exact subscriptTail_builtinR (x:=w) pl.isList.typeIs slot_list_getitem.lookup
      (wpAny_getItem_list_neg (Q:=fun r s'=>r=w∧EP X pins σ Q r s') pl.isList (by omega) (by rw [List.size_toArray]<;>omega) (by omega) (by rw [hj];simpa using ew) ⟨rfl,fin⟩) hs
theorem ix_tup:IxR X (rIxT X.K):=by
  intro value slice pins s σ H x y v u Q I rx ry h hs
  obtain⟨p,xs,i,z,rfl,rfl,hq,he,q⟩:=h
  cases rx
  obtain⟨t,rfl⟩:=ry
  obtain⟨its,r,pl,hz⟩:=I.tuple hq
  obtain⟨j,h1,h2,h3,h4,h5⟩:=d'G he
  obtain⟨w,ew,rw'⟩:=r.get h2
  have hl:=r.length
  have hn:=c'z
  have fin:EP X pins σ Q w s:=⟨z,H,I,rw',q⟩
  exact subscriptTail_builtinR (x:=w) pl.typeIs slot_tuple_getitem.lookup
    (getItem_tuple (j:=j) (Q:=fun r s'=>r=w∧EP X pins σ Q r s') pl (by omega) (by omega) (by rw [List.size_toArray,← hl];exact h1) (by simpa using ew) ⟨rfl,fin⟩) hs
theorem n'P:IxR X rIxS:=by
  intro value slice pins s σ H x y v u Q I rx ry h hs
  obtain⟨z,i,c,rfl,rfl,hz,he,q⟩:=h
  obtain⟨t,rfl⟩:=rx
  obtain⟨t',rfl⟩:=ry
  obtain⟨j,h1,h2,h3,h4,h5⟩:=d'G he
  have hl:z.cps.toList.length=z.length:=by simp [Str.length]
  rw [hl] at h1 h4 h5
  have hn:=c'z
  exact tail_any (typeIs_str s z t) slot_str_getitem.lookup (getItem_str (c:=c) (by
    have e1:decide (i < -(2 ^ 63:Int))=false:=decide_eq_false (by omega)
    have e2:decide (i ≥ 2 ^ 63)=false:=decide_eq_false (by omega)
    rw [e1,e2,Bool.or_false]) (by rw [h1];simpa using h2) ⟨.str ⟨#[c]⟩,H,I.tok _,⟨_,rfl⟩,q⟩) hs
def rIx (K:PySem.W.Frag):R2:=fun x y H Q=>rIxL K x y H Q∨rIxT K x y H Q∨rIxS x y H Q
theorem ix_seq:IxR X (rIx X.K):=ix_list.or (ix_tup.or n'P)
theorem g'w (its:List Value) (n j:Nat) (u:Value):Obj.mapSeq (·.setIfInBounds j u) { cls:=.type "list",data:=.seq its.toArray n }={ cls:=.type "list",data:=.seq (its.set j u).toArray n }:=by
  simp [Obj.mapSeq]
theorem Inv.lst {pins:List (Addr×Obj)} {σ:St} {H:Hp} {s:Shared} {p:Addr} {xs:List V} (I:Inv X pins σ H s) (h:H p=some (.lst xs)) :
    ∃ (its:List Value) (n:Nat),Vals xs its∧s.heap.get? p=some { cls:=.type "list",data:=.seq its.toArray n }∧xs.length≤sizeLine:=by
  obtain⟨z,its,n,r,e⟩:=I.hok p _ h
  exact⟨its,n,r,e,z⟩
theorem Inv.lstUpd {pins:List (Addr×Obj)} {σ:St} {H:Hp} {s:Shared} {p:Addr} {xs ys:List V} {its its':List Value} {n n':Nat} {f:Obj→Obj} (I:Inv X pins σ H s) (h:H p=some (.lst xs))
    (ho:s.heap.get? p=some { cls:=.type "list",data:=.seq its.toArray n }) (hf:f { cls:=.type "list",data:=.seq its.toArray n }={ cls:=.type "list",data:=.seq its'.toArray n' }) (r:Vals ys its') (hz:ys.length≤sizeLine) (t:Nat) :
    Inv X pins σ (upd H p (.lst ys)) { s with heap:=s.heap.update p f,toks:=t }:=by
  have e:(s.heap.update p f).get? p=some { cls:=.type "list",data:=.seq its'.toArray n' }:=by
    rw [Heap.get?_update_self f ho (by rw [hf]<;>rfl),hf]
  refine I.write (x:=p) (e:=p) (by rw [h];trivial) (.inl rfl) (fun b u hb q=>(Heap.get?_update_other _ _ (Ne.symm hb)).trans q) ⟨_,e⟩ ?_
  exact⟨hz,its',n',r,e⟩
def rSetL:V→V→V→Hp→(Hp→Prop)→Prop:=fun o i v H Q=>∃ p xs k j,o=.ref p∧i=.int k∧H p=some (.lst xs)∧ixN xs.length k=some j∧Q (upd H p (.lst (xs.set j v)))
theorem i'D:PSet X rSetL:=by
  intro pins s σ H o i v ov iv u Q I ro ri rv h
  obtain⟨p,xs,k,j,rfl,rfl,hp,hj,q⟩:=h
  cases ro
  obtain⟨t,rfl⟩:=ri
  obtain⟨its,n,r,ho,hz⟩:=I.lst hp
  obtain⟨h1,h2,h3,h4⟩:=f'N hj
  have hl:=r.length
  have hn:=c'z
  have I':Inv X pins σ (upd H p (.lst (xs.set j v))) { s with heap:=s.heap.update p (Obj.mapSeq (·.setIfInBounds j u)) }:=
    I.lstUpd hp ho (g'w its n j u) (r.set rv j) (by rw [List.length_set];exact hz) s.toks
  by_cases h0:0≤k
  · have hk:k.toNat=j:=by
      rw [seqIndex_of h0 h4] at h1
      exact Option.some.inj h1
    exact PySem.W.ki_setAt ho h0 (by omega) (by rw [List.size_toArray,← hl];exact h4) (by rw [hk];exact⟨_,I',q⟩)
  · have hk:(k+(its.toArray.size:Int)).toNat=j:=by
      rw [seqIndex_neg (by omega) h3] at h1
      rw [List.size_toArray,← hl]
      exact Option.some.inj h1
    exact PySem.W.ki_setBack ho (by omega) (by rw [List.size_toArray,← hl];exact h3) (by omega) (by rw [hk];exact⟨_,I',q⟩)
theorem e'B (lo hi:Option Int) (n:Nat):(sliceBounds lo hi none n).1=((HT.sIx n 0 lo:Nat):Int)∧(sliceBounds lo hi none n).2.1=((HT.sIx n n hi:Nat):Int)∧(sliceBounds lo hi none n).2.2=1:=by
  refine⟨?_,?_,rfl⟩
  · cases lo with
    | none=>simp [sliceBounds,HT.sIx]
    | some i=>
      simp only [sliceBounds,HT.sIx,Option.getD_none,show (1:Int) > 0 by decide,if_true]
      by_cases h:i<0
      · simp only [h,if_true]<;>omega
      · simp only [h,if_false]<;>omega
  · cases hi with
    | none=>simp [sliceBounds,HT.sIx]
    | some i=>
      simp only [sliceBounds,HT.sIx,Option.getD_none,show (1:Int) > 0 by decide,if_true]
      by_cases h:i<0
      · simp only [h,if_true]<;>omega
      · simp only [h,if_false]<;>omega
theorem e'o (its:List Value) (lo hi:Option Int):slicePick its.toArray lo hi none=((its.drop (HT.sIx its.length 0 lo)).take (HT.sIx its.length its.length hi - HT.sIx its.length 0 lo)).toArray:=by
  obtain⟨h1,h2,h3⟩:=e'B lo hi its.toArray.size
  unfold slicePick
  rw [h1,h2,h3]
  simp only [sliceRange_one,pick_run,List.size_toArray]<;>rfl
def rSlL (K:PySem.W.Frag):V→Option Int→Option Int→Hp→VK→Prop:=fun x lo hi H Q=>∃ a xs,x=.ref a∧SqL K H a xs∧∀ p,H p=none→Q (.ref p) (upd H p (.lst (cutV xs lo hi)))
theorem sl_list:SlR X (rSlL X.K):=by
  intro pins s σ H x v vl vu lo hi sl Q I rx hs pl pu h
  obtain⟨a,xs,rfl,hx,q⟩:=h
  cases rx
  obtain⟨its,r,ht,hz⟩:=I.list hx
  have hlen:=r.length
  refine⟨"list",_,slot_list_getitem.lookup,ht.isList.typeIs,?_⟩
  refine wpAny_getItem_list_slice ht.isList hs pl pu .none (by simp) ?_ (by rw [List.size_toArray]<;>omega)
  rw [e'o,← hlen]
  refine⟨.ref s.heap.objs.size,_,I.laid (t':=s.toks) (o:=.lst (cutV xs lo hi)) (fun b ob q=>Heap.get?_push_of_some _ q) (Nat.le_refl _) ?_,rfl,q _ (I.hok.fresh (Nat.le_refl _))⟩
  exact⟨Nat.le_trans (f'B xs lo hi) hz,_,0,(r.drop (HT.sIx xs.length 0 lo)).take (HT.sIx xs.length xs.length hi - HT.sIx xs.length 0 lo),Heap.get?_push_size _ rfl⟩
def flatV:V→Bool
  | .non => true
  | .bl _ => true
  | .int _ => true
  | .str _ => true
  | _ => false
def eqV:V→V→Bool
  | .non, .non => true
  | .bl a, .bl b => a == b
  | .bl a, .int b => (if a then 1 else 0) == b
  | .int a, .bl b => a == (if b then 1 else 0)
  | .int a, .int b => a == b
  | .str a, .str b => a == b
  | _, _ => false
theorem b'r {A:Around} {s:Shared} {y x:V} {u v:Value} (ry:RelV y u) (rx:RelV x v) (fy:flatV y=true) (fx:flatV x=true):SeqAt.EqAt A s u v (eqV y x):=by
  cases y with
  | non =>
    cases ry
    cases x with
    | non=>cases rx;exact SeqAt.EqAt.same _
    | bl b=>cases rx;exact SeqAt.EqAt.none_bool b
    | int b=>obtain⟨t,rfl⟩:=rx;exact SeqAt.EqAt.none_int b t
    | str b=>obtain⟨t,rfl⟩:=rx;exact SeqAt.EqAt.none_str b t
    | _=>exact absurd (show false=true from fx) Bool.false_ne_true
  | bl a =>
    cases ry
    cases x with
    | non=>cases rx;exact SeqAt.EqAt.bool_none a
    | bl b=>cases rx;exact SeqAt.EqAt.bool_bool a b
    | int b=>obtain⟨t,rfl⟩:=rx;exact SeqAt.EqAt.bool_int a b t
    | str b=>obtain⟨t,rfl⟩:=rx;exact SeqAt.EqAt.bool_str a b t
    | _=>exact absurd (show false=true from fx) Bool.false_ne_true
  | int a =>
    obtain⟨t',rfl⟩:=ry
    cases x with
    | non=>cases rx;exact SeqAt.EqAt.int_none a t'
    | bl b=>cases rx;exact SeqAt.EqAt.int_bool a t' b
    | int b=>obtain⟨t,rfl⟩:=rx;exact SeqAt.EqAt.int_int a t' b t
    | str b=>obtain⟨t,rfl⟩:=rx;exact SeqAt.EqAt.int_str a t' b t
    | _=>exact absurd (show false=true from fx) Bool.false_ne_true
  | str a =>
    obtain⟨t',rfl⟩:=ry
    cases x with
    | non=>cases rx;exact SeqAt.EqAt.str_none a t'
    | bl b=>cases rx;exact SeqAt.EqAt.str_bool a t' b
    | int b=>obtain⟨t,rfl⟩:=rx;exact SeqAt.EqAt.str_int a t' b t
    | str b=>obtain⟨t,rfl⟩:=rx;exact SeqAt.EqAt.str_str a t' b t
    | _=>exact absurd (show false=true from fx) Bool.false_ne_true
  | _ => exact absurd (show false = true from fy) Bool.false_ne_true
def eqU (x:V) (u:Value):Bool:=match u with
  | .none => eqV .non x
  | .bool b => eqV (.bl b) x
  | .int i _ => eqV (.int i) x
  | .str z _ => eqV (.str z) x
  | _ => false
theorem h'g {x y:V} {u:Value} (r:RelV y u) (f:flatV y=true):eqU x u=eqV y x:=by
  cases y with
  | non => cases r; rfl
  | bl b => cases r; rfl
  | int i => obtain ⟨t, rfl⟩ := r; rfl
  | str z => obtain ⟨t, rfl⟩ := r; rfl
  | _ => exact absurd (show false = true from f) Bool.false_ne_true
theorem d'H {x:V}:∀ {xs:List V} {us:List Value},Vals xs us→xs.all flatV=true→us.any (eqU x)=xs.any fun y=>eqV y x
  | _, _, .nil, _ => rfl
  | y :: xs, u :: us, .cons r t, f => by
    rw [List.all_cons,Bool.and_eq_true] at f
    rw [List.any_cons,List.any_cons,h'g r f.1,d'H t f.2]
theorem c'Y {A:Around} {s:Shared} {x:V} {v:Value} (rx:RelV x v) (fx:flatV x=true):∀ {xs:List V} {us:List Value},Vals xs us→xs.all flatV=true→∀ u∈us,SeqAt.EqAt A s u v (eqU x u)
  | _, _, .nil, _ => fun u hu => by cases hu
  | y :: xs, u :: us, .cons r t, f => fun u' hu => by
    rw [List.all_cons,Bool.and_eq_true] at f
    rcases List.mem_cons.mp hu with rfl | hu
    · rw [h'g r f.1];exact b'r r rx f.1 fx
    · exact c'Y rx fx t f.2 u' hu
def inV (x:V) (xs:List V):Bool:=xs.any fun y=>eqV y x
def rIn (K:PySem.W.Frag) (neg:Bool):R2:=fun x y H Q=>∃ p xs,y=.ref p∧(SqL K H p xs∨SqT K H p xs)∧flatV x=true∧xs.all flatV=true∧Q (.bl (if neg then !inV x xs else inV x xs)) H
theorem op_in_seq:OpR X (compareOp .In) (rIn X.K false):=by
  intro pins s σ H x y v u Q I rx ry h
  obtain⟨p,xs,rfl,hq,fx,fs,q⟩:=h
  cases ry
  rcases hq with hq | hq
  · obtain⟨its,r,pl,hz⟩:=I.list hq
    refine SeqAt.in_listAt (eqU x) pl.isList (fun w hw=>c'Y rx fx r fs w (by simpa using hw)) ⟨.bl _,H,I,rfl,?_⟩
    rw [show its.toArray.any (eqU x)=its.any (eqU x) by simp,d'H r fs]
    exact q
  · obtain⟨its,r,pl,hz⟩:=I.tuple hq
    refine SeqAt.in_tupleAt (eqU x) pl (fun w hw=>c'Y rx fx r fs w (by simpa using hw)) ⟨.bl _,H,I,rfl,?_⟩
    rw [show its.toArray.any (eqU x)=its.any (eqU x) by simp,d'H r fs]
    exact q
theorem CallR.or {f:Value} {r r':List V→Hp→VK→Prop} (h:CallR X f r) (h':CallR X f r'):CallR X f (fun xs H Q=>r xs H Q∨r' xs H Q):=by
  intro pins s σ H xs us Q I rs q
  rcases q with q | q
  · exact h pins s σ H xs us Q I rs q
  · exact h' pins s σ H xs us Q I rs q
theorem call_list_of:CallR X (.type "list") (fun xs H Q=>∃ p ys,xs=[.ref p]∧(SqL X.K H p ys∨SqT X.K H p ys)∧∀ l,H l=none→Q (.ref l) (upd H l (.lst ys))):=by
  intro pins s σ H xs us Q I r h
  obtain⟨p,ys,rfl,hq,q⟩:=h
  obtain⟨u,rfl,rx⟩:=c'j r
  cases rx
  have fin:∀ (its:List Value),Vals ys its→ys.length≤sizeLine→∀ (h':Heap) (c':Nat),(∀ b o',s.heap.get? b=some o'→h'.get? b=some o')→
      h'.get? s.heap.objs.size=some { cls:=.type "list",dict:=none,data:=.seq its.toArray c',slots:=#[] }→EP X pins σ Q (.ref s.heap.objs.size) { s with heap:=h' }:=fun its r' hz h' c' kp e=>
    ⟨.ref s.heap.objs.size,_,I.laid (t':=s.toks) kp (Nat.le_refl _) (show ObjOk X.prog X.w _ h' _ (.lst ys) from ⟨hz,its,c',r',e⟩),rfl,q _ (I.hok.fresh (Nat.le_refl _))⟩
  rcases hq with hq | hq
  · obtain⟨its,r',pl,hz⟩:=I.list hq
    have hlen:=r'.length
    obtain⟨o,ho,hc,n,hd⟩:=pl.isList
    exact call_list_seq p (.inl rfl) ho hc hd (fun h' c' kp e=>fin its r' hz h' c' kp e) (by simp only [List.size_toArray]<;>omega)
  · obtain⟨its,r',pl,hz⟩:=I.tuple hq
    have hlen:=r'.length
    obtain⟨o,ho,hc,n,hd⟩:=pl
    exact call_list_seq p (.inr rfl) ho hc hd (fun h' c' kp e=>fin its r' hz h' c' kp e) (by simp only [List.size_toArray]<;>omega)
def tyV (K:PySem.W.Frag) (T:String) (x:V) (H:Hp):Prop:=match x with
  | .str _ => T = "str"
  | .int _ => T = "int"
  | .ref p => (T = "list" ∧ ∃ xs, SqL K H p xs) ∨ (T = "tuple" ∧ ∃ o, K.lookup p = some o ∧ o.cls = .type "tuple" ∧ o.dict = none) ∨
      (T="dict"∧((∃ kvs,H p=some (.dK kvs))∨∃ kvs,H p=some (.dT kvs)))∨(T="set"∧∃ S n,H p=some (.set S n))
  | _ => False
theorem n'Q {pins:List (Addr×Obj)} {σ:St} {H:Hp} {s:Shared} {T:String} {x:V} {v:Value} (I:Inv X pins σ H s) (r:RelV x v) (ty:tyV X.K T x H) :
    s.TypeIs v T∧∀ a,v=.ref a→∃ ob,s.heap.get? a=some ob∧ob.dict=none:=by
  cases x with
  | str z =>
    obtain⟨t,rfl⟩:=r
    cases (show T="str" from ty)
    exact⟨typeIs_str s z t,fun _ e=>nomatch e⟩
  | int i =>
    obtain⟨t,rfl⟩:=r
    cases (show T="int" from ty)
    exact⟨typeIs_int s i t,fun _ e=>nomatch e⟩
  | ref p =>
    cases r
    rcases ty with ⟨rfl,xs,hq⟩ | ⟨rfl,o,hk,hc,hd⟩ | ⟨rfl,hk⟩ | ⟨rfl,S,n,hk⟩
    · obtain⟨its,_,pl,_⟩:=I.list hq
      refine⟨pl.isList.typeIs,fun a e=>?_⟩
      cases e
      obtain⟨o,n,e,c,hd,_⟩:=pl
      exact⟨o,e,hd⟩
    · refine⟨⟨o,I.kIn p o hk,hc⟩,fun a e=>?_⟩
      cases e
      exact⟨o,I.kIn _ o hk,hd⟩
    · have z:∃ o,s.heap.get? p=some o∧o.ExactDict:=by
        rcases hk with ⟨kvs,hk⟩ | ⟨kvs,hk⟩
        · obtain⟨_,_,_,_,o,_,_,e,ex,_⟩:=I.hok p _ hk
          exact⟨o,e,ex⟩
        · obtain⟨_,_,_,_,o,_,_,e,ex,_⟩:=I.hok p _ hk
          exact⟨o,e,ex⟩
      obtain⟨o,e,ex⟩:=z
      refine⟨⟨o,e,ex.1⟩,fun a e2=>?_⟩
      cases e2
      exact⟨o,e,ex.2.1⟩
    · obtain⟨o,_,_,_,e,ex,_⟩:=I.hok p _ hk
      refine⟨⟨o,e,ex.1⟩,fun a e2=>?_⟩
      cases e2
      exact⟨o,e,ex.2.1⟩
  | _ => exact False.elim ty
def tBM (K:PySem.W.Frag) (T:String) (r:V→List V→Hp→VK→Prop) (to:TE) (t:TA):TE:=fun σ H Q=>to σ H fun x H1=>tyV K T x H1∧t σ H1 fun xs H2=>r x xs H2 Q
variable {o e:Expr} {es:List Expr} {to:TE} {t:TA} {name:Str} {apos cpos:Pos} {T id:String} {r:V→List V→Hp→VK→Prop}
theorem q'q (pa:PlainAttrs T) (slot:Slot T name id) (hty:typeOf (.builtin id)=pure (.type "method_descriptor")) (hm:MtR X id r) (ho:PE X o to) (ha:PA X (e :: es) t)
    (hbase:attributeBase o name X.env (eval o X.env)=eval o X.env:=by rfl)
    (hfew:((backTo cpos (starEach (e :: es) X.env)).all (fun x=>!x.1) && (backToKw cpos (keywordEach [] X.env)).all (fun x=>x.1.isSome)
      && decide ((e :: es).length+([]:List Keyword).length+(if ([]:List Keyword).isEmpty then 0 else 1)<30))=true:=by rfl)
    (hline:(apos.endLine == cpos.line)=true:=by rfl) (hs:starEach (e :: es) X.env=(false,eval e X.env) :: starEach es X.env:=by rfl) (hplain:(backTo cpos (starEach es X.env)).any (·.1)=false:=by rfl) :
    PE X (.Call (.Attribute o name apos) (e :: es) [] cpos) (tBM X.K T r to t):=by
  intro pins s σ H Q I h
  refine wpAny_Call_method_late hbase hfew hline rfl (thn (ho pins s σ H _ I h) fun v s1 ⟨x,H1,I1,r1,ty,q1⟩=>?_)
  obtain⟨h1,h2⟩:=n'Q I1 r1 ty
  refine⟨T,id,pa,slot,hty,h1,h2,?_⟩
  have hA:=ha cpos pins s1 σ H1 _ I1 q1
  rw [hs] at hA ⊢
  refine Calls.callWith_builtin (by show (false || (backTo cpos (starEach es X.env)).any (·.1))=false;rw [hplain]<;>rfl) (Calls.evalArgs_plain ?_)
  exact thn hA fun us s2 ⟨vs,H2,I2,r2,q2⟩=>hm pins s2 σ H2 x vs v us Q I2 r1 r2 q2
end
end L2
namespace L2
open PySem PySem.Spec PyProof.Rows
def MtM (X:Cx) (id:String) (r:V→List V→Hp→VK→Prop):Prop:=
  ∀ (pins:List (Addr×Obj)) (s:Shared) (σ:St) (H:Hp) (x:V) (xs:List V) (v:Value) (us:List Value) (Q:VK),Inv X pins σ H s→RelV x v→Vals xs us→r x xs H Q→
    wpAny (model X.prog X.w) X.A (call (.builtin id) (v :: us)) (EP X pins σ Q) X.xe s
theorem Vals.one:∀ {x:V} {us:List Value},Vals [x] us→∃ u,us=[u]∧RelV x u
  | _, _, .cons r .nil => ⟨_, rfl, r⟩
section
variable {X:Cx} {pins:List (Addr×Obj)} {σ:St} {H:Hp} {s:Shared} {l b:Addr} {xs ys zs:List V}
theorem Inv.lset {its its':List Value} {n:Nat} {f:Array Value→Array Value} {t':Nat} (I:Inv X pins σ H s) (hH:H l=some (.lst xs))
    (e:s.heap.get? l=some { cls:=.type "list",data:=.seq its.toArray n }) (hf:f its.toArray=its'.toArray) (hv:Vals ys its') (hz:ys.length≤sizeLine) :
    Inv X pins σ (upd H l (.lst ys)) { s with heap:=s.heap.update l (Obj.mapSeq f),toks:=t' }:=by
  have q:=PySem.IsL.update e f
  rw [hf] at q
  refine I.write (x:=l) (e:=l) (by rw [hH];exact trivial) (.inl rfl) (fun b' u hb hu=>(Heap.get?_update_other s.heap (Obj.mapSeq f) (Ne.symm hb)).trans hu) ⟨_,q⟩ ?_
  exact⟨hz,its',_,hv,q⟩
theorem Inv.lnew {its:List Value} {t':Nat} (I:Inv X pins σ H s) (hv:Vals ys its) (hz:ys.length≤sizeLine) :
    Inv X pins σ (upd H s.heap.objs.size (.lst ys)) { s with heap:=s.heap.push { cls:=.type "list",data:=.seq its.toArray },toks:=t' }:=
  I.laid (fun _ _ q=>Heap.get?_push_of_some _ q) (Nat.le_refl _) ⟨hz,its,0,hv,Heap.get?_push_size _ rfl⟩
theorem Inv.fresh (I:Inv X pins σ H s):H s.heap.objs.size=none:=I.hok.fresh (Nat.le_refl _)
theorem Inv.lstM (I:Inv X pins σ H s) (hH:H l=some (.lst xs)):xs.length≤sizeLine∧∃ (its:List Value) (n:Nat),Vals xs its∧xs.length=its.length∧s.heap.get? l=some { cls:=.type "list",data:=.seq its.toArray n }:=by
  obtain⟨z,its,n,r,e⟩:=I.hok l _ hH
  exact⟨z,its,n,r,r.length,e⟩
end
section
variable {X:Cx}
def rAppend:V→List V→Hp→VK→Prop:=fun x vs H Q=>∃ l xs y,x=.ref l∧vs=[y]∧H l=some (.lst xs)∧xs.length<sizeLine∧Q .non (upd H l (.lst (xs++[y])))
theorem h'h:MtM X "list.append" rAppend:=by
  intro pins s σ H x vs v us Q I rx rv h
  obtain⟨l,xs,y,rfl,rfl,hH,hz,q⟩:=h
  cases rx
  obtain⟨u,rfl,ru⟩:=rv.one
  obtain⟨z,its,n,r,hl,e⟩:=I.lstM hH
  refine call_meets F.slot_list_append ⟨_,e,rfl⟩ F.entry_list_append (F.args_list_append_2 _ _) (PySem.list_append l its.toArray n u (by rw [List.size_toArray];omega)) ⟨e,?_⟩
  refine⟨.non,_,I.lset (its':=its++[u]) hH e (by simp) (r.append (.cons ru .nil)) ?_,rfl,q⟩
  rw [List.length_append,List.length_singleton]
  omega
end
section
variable {prog:Program} {w:World} {A:Around} {E:Value→Shared→Prop} {s:Shared}
end
section
variable {X:Cx}
end
end L2
namespace Att
open PySem PySem.W PySem.Calls PyProof.Rows
theorem d'n {P:Params} {h:Heap}:∀ (ns:List Int) (vs:List Value),WellAll P h vs (ns.map WData.int)→IntsAre vs ns:=by
  intro ns
  induction ns with
  | nil =>
    intro vs w
    rw [List.map_nil] at w
    cases w
    exact .nil
  | cons n ns ih =>
    intro vs w
    rw [List.map_cons] at w
    cases w with
    | cons a b=>
      cases a
      exact .cons _ _ (ih _ b)
theorem h'i {l:OpenLaw} {n:Nat} (hn:l.most=some n) {P:Params} {h:Heap} {args:List WData} {vals:List Value}
    (hpre:l.row.toRowW.claim.pre args=true) (hwl:WellAll P h vals args) :
    ∃ a vs ns,vals=[Value.ref a]∧args=[WData.list (ns.map WData.int)]∧h.get? a=some { cls:=.type "list",data:=.seq vs.toArray }∧IntsAre vs ns∧ns.length≤n:=by
  have hsh:WShape.hasAll [] args [.list .int]=true:=(pre_splitW hpre).1
  have hc:l.pre.holds [] { args:=args }=true:=(pre_splitW hpre).2
  obtain⟨d,r,rfl,h1,h2⟩:=hasAllW_cons hsh
  obtain rfl:=hasAllW_nil h2
  obtain⟨xs,rfl,h3⟩:=hasW_list h1
  obtain⟨ns,rfl⟩:=items_int h3
  have hlen:ns.length≤n:=by
    unfold OpenLaw.pre at hc
    have h4:(WTm.not (.lt (.lit (.int (n:Int))) (.len (.arg 0)))).holds [] { args:=[.list (ns.map .int)] }=true:=by
      have h4:=(holds_andW hc).1
      rw [hn] at h4
      exact h4
    have h5:=condW_of h4 (w_not (w_lt w_lit (w_len_list (w_arg rfl))))
    rw [List.length_map] at h5
    refine Nat.le_of_not_lt fun q=>?_
    have q':(n:Int)<((ns.length:Nat):Int):=by omega
    first
      | (rw [decide_eq_true q'] at h5;exact absurd h5 (by decide))
      | (simp at h5;omega)
  cases hwl with
  | cons w1 w2 =>
    cases w2
    cases w1 with
    | list ho hall=>exact⟨_,_,ns,rfl,rfl,ho,d'n ns _ hall,hlen⟩
theorem h'j (l:OpenLaw) (args:List WData):l.row.toRowW.claim.post args (.bool true) args=true:=
  postW_of (r:=l.row.toRowW) (X:=(true == true))
    (show WShape.has [] (.bool true) .bool=true by first | rfl | decide | simp [WShape.has,WShape.arms,WShape.armsAll])
    (show (WTm.eq .res (.lit (.bool true))).value [] { args:=args,res:=some (.bool true),after:=args }=some (.bool (true == true)) from w_eq_bool (w_res rfl) w_lit) rfl
theorem attach_call {l:OpenLaw} {n:Nat} {q:Program} {loose:List Str} {XP:(Str→Option Value)→Heap→Prop} {YP:World→Heap→Prop} {d:DefRec}
    (hn:l.most=some n) (hdf:d.params.defaults=[])
    (call:∀ (w:World) (s₀ s₁:Shared) (mg mb:Str→Option Value) (fa:Addr) (o:Obj) (pm cd doc:Value) (a:Addr) (vs:List Value) (ns:List Int),
      Ground q loose [] XP w s₀ mg mb s₁.heap→YP w s₁.heap→
      s₁.heap.get? fa=some o→o.data=.func (docDef d.name d.params d.body d.scope pm cd doc)→s₁.heap.CodeRec cd d.name→mg d.name=some (.ref fa)→
      s₁.heap.get? a=some { cls:=.type "list",data:=.seq vs.toArray }→IntsAre vs ns→ns.length≤n→s₁.gens=#[]→
      codeAny (model l.prog w) callerA (.call (.ref fa) ⟨[.ref a],[]⟩) (fun r s'=>r=.ok (.ret (.bool true))∧OldK s₁.heap s'.heap∧s'.os=s₁.os∧AllBare s'.gens) s₁) :
    WalkO q loose XP YP l.row.toRowW d [] (fun f vs=>PySem.call f vs):=by
  intro w s₀ s₁ mg mb G Y fa o pm cd doc dV kV ho hd hcd hD hmg hg args vals as hpre hlay hrd hwl hlo
  obtain rfl:dV=.none:=Dflts.none hD hdf
  obtain rfl:kV=.none:=Dflts.noKw hD
  obtain⟨a,vs,ns,rfl,rfl,hobj,hints,hlen⟩:=h'i hn hpre hwl
  refine enter_call (codeAny_mono (call w s₀ s₁ mg mb fa o pm cd doc a vs ns G Y ho (fd_plain hd) hcd hmg hobj hints hlen hg) fun r s' hq=>?_)
  obtain⟨rfl,h2,h3,h4⟩:=hq
  exact⟨.inl ⟨.bool true,.bool true,[],rfl,fun _=>rfl,.bool true,h'j l _,fun _=>⟨List.Pairwise.nil,fun _ hm=>(nomatch hm)⟩⟩,h2,h3,h4⟩
section
variable {prog:Program} {w:World} {A:Around} {E:Value→Shared→Prop} {s:Shared} {K:Frag}
end
end Att
namespace L2
open PySem PySem.Spec PyProof.Rows
theorem d'Z:∀ {vs:List Value} {ns:List Int},IntsAre vs ns→Vals (ns.map V.int) vs
  | _, _, .nil => .nil
  | _, _, .cons n t h => .cons ⟨t, rfl⟩ (d'Z h)
def Only (H:Hp):Prop:=∀ b,H b=none∨∃ o xs,H b=some (.frz o (.lst xs))
theorem i'E {P:Program} {w:World} {K:PySem.W.Frag} {mg mb:Str→Option Value} {CX:CXT} {k:Nat} {fa a:Addr} {fd:FuncData} {x:Str} {sp:Sp} {s₁:Shared} {vs:List Value} {ns:List Int}
    (KX:K.In s₁.heap) (hns:s₁.heap.Ns mainGlobals mg) (hb:s₁.heap.Ns builtinsNs mb) (hbb:∀ x:Str,x≠"__name__"→mb x=bootBuiltins x) (hlim:s₁.heap.NoLimit) (hg:s₁.gens=#[])
    (ha:s₁.heap.get? a=some { cls:=.type "list",data:=.seq vs.toArray }) (hi:IntsAre vs ns) (hl:ns.length≤sizeLine) (hr:Room k callerA)
    (F:∀ base:Heap,K.In base→base.Ns mainGlobals mg→FnOk P w K mg base CX k fa fd [x] sp) (hbind:∀ (s:Shared) (u:Value),BindsTo s fd ⟨[u],[]⟩ [(x,u)])
    (hsp:∀ H:Hp,Only H→SqL K H a (ns.map V.int)→sp [.ref a] H (fun v _=>v=.bl true) fun _ _ _=>False)
    (hCX:∀ H e s',CX [] H s₁ (fun _ _ _=>False) e s'→False) :
    codeAny (model P w) callerA (.call (.ref fa) ⟨[.ref a],[]⟩) (fun r s'=>r=.ok (.ret (.bool true))∧OldK s₁.heap s'.heap∧s'.os=s₁.os∧AllBare s'.gens) s₁:=by
  have rv:=d'Z hi
  have lenV:=hi.length
  have core:∀ H:Hp,Only H→SqL K H a (ns.map V.int)→HOk P w H s₁.heap→(∀ b,H b≠none→b=a)→(H a≠none→K.lookup a=none)→
      codeAny (model P w) callerA (.call (.ref fa) ⟨[.ref a],[]⟩) (fun r s'=>r=.ok (.ret (.bool true))∧OldK s₁.heap s'.heap∧s'.os=s₁.os∧AllBare s'.gens) s₁:=by
    intro H hO hS hok hA hK
    have base_of:∀ {b:Addr} {o:Obj},s₁.heap.get? b=some o→H b=none→(hidT s₁.heap H).get? b=some o:=fun e n=>i'q e n
    have noA:∀ {b:Addr} {o:Obj} {es:Array DictEntry} {ep:Nat},s₁.heap.get? b=some o→o.data=.dict es ep→H b=none:=fun {b o es ep} e d=>by
      cases q:H b with
      | none=>rfl
      | some u=>
        have e':b=a:=hA b (by rw [q];simp)
        subst e'
        rw [ha] at e;cases e
        have d':Data.seq vs.toArray _=Data.dict es ep:=d
        cases d'
    have nsK:∀ {b:Addr} {m:Str→Option Value},s₁.heap.Ns b m→(hidT s₁.heap H).Ns b m:=fun {b m} ⟨o,es,ep,e,d,r⟩=>⟨o,es,ep,base_of e (noA e d),d,r⟩
    have hKb:K.In (hidT s₁.heap H):=fun b o e=>base_of (KX b o e) (by
      cases q:H b with
      | none=>rfl
      | some u=>
        have e':b=a:=hA b (by rw [q];simp)
        subst e'
        rw [hK (by rw [q];simp)] at e;cases e)
    have hM:Mod K mg (hidT s₁.heap H):=⟨hKb,nsK hns,⟨mb,nsK hb,hbb⟩,let ⟨mc,h1,h2⟩:=hlim;⟨mc,nsK h1,h2⟩⟩
    have e0:Env0 P w K mg (hidT s₁.heap H) callerA [] s₁ H:=⟨rfl,hM,fun b o e=>k'i e,Nat.le_of_eq (g'P _ _),trivial,fun b hb=>absurd (show b∈([]:List Addr) from hb) (by simp),hok,.of_eq hg⟩
    refine codeAny_mono ((F _ hKb (nsK hns)).run callerA [] s₁ H ⟨[.ref a],[]⟩ [.ref a] [.ref a] _ _ hr e0 (hbind s₁ (.ref a)) (.cons rfl .nil) (hsp H hO hS)) fun r s' h=>?_
    cases r with
    | error e=>exact (hCX H e s' h).elim
    | ok fl=>
      cases fl with
      | next=>exact False.elim h
      | brk=>exact False.elim h
      | cont=>exact False.elim h
      | ret u=>
        obtain⟨v,H',os,bare,un,hok',r',q⟩:=h
        have q':v=.bl true:=q
        subst q'
        obtain rfl:u=Value.bool true:=r'
        refine⟨rfl,OldK.of_keep fun b o e=>?_,os,bare⟩
        cases q:H b with
        | none=>exact un.keep b o e q (by intro z;exact absurd (show b∈([]:List Addr) from z) (by simp)) (by simp)
        | some u=>
          rcases hO b with z | ⟨ob,xs,z⟩
          · rw [q] at z;cases z
          · have z2:=un.frzs b ob _ z
            obtain⟨e1,_⟩:=hok b _ z
            obtain⟨e2,_⟩:=hok' b _ z2
            rw [e] at e1;cases e1
            exact e2
  cases hk:K.lookup a with
  | some o =>
    have e:=KX a o hk
    rw [ha] at e
    cases e
    refine core (fun _=>none) (fun _=>.inl rfl) (.inr ⟨_,vs.toArray,_,hk,rfl,rfl,rfl,by rw [List.size_toArray,lenV];exact hl,by simpa using rv⟩) (fun b u z=>by have z':(none:Option HO)=some u:=z;cases z') (fun b z=>absurd rfl z) fun z=>absurd rfl z
  | none =>
    refine core (fun b=>if b=a then some (.frz { cls:=.type "list",data:=.seq vs.toArray } (.lst (ns.map V.int))) else none) (fun b=>?_) (.inl (.inr ⟨{ cls:=.type "list",data:=.seq vs.toArray },if_pos rfl⟩)) (fun b u z=>?_) (fun b z=>?_) fun _=>hk
    · by_cases hb:b=a
      · exact .inr ⟨_,_,if_pos hb⟩
      · exact .inl (if_neg hb)
    · by_cases hb:b=a
      · have z':=(if_pos hb).symm.trans z
        cases z'
        subst hb
        exact⟨ha,by rw [List.length_map];exact hl,vs,_,rv,ha⟩
      · have z':=(if_neg hb).symm.trans z
        cases z'
    · by_cases hb:b=a
      · exact hb
      · exact absurd (if_neg hb) z
end L2
namespace L2
open PySem PySem.Spec PyProof.Rows
theorem walk_of {l:PySem.W.OpenLaw} {n k:Nat} {q:Program} {loose:List Str} {XP:(Str→Option Value)→Heap→Prop} {YP:World→Heap→Prop} {d:DefRec} {K:Params→PySem.W.Frag} {CX:World→CXT} {sp:World→Sp} {x:Str}
    (hn:l.most=some n) (hn2:n≤sizeLine) (hdf:d.params.defaults=[]) (hr:Room k callerA)
    (hY:∀ (w:World) (h:Heap),YP w h→(K w.params).In h)
    (F:∀ (w:World) (mg:Str→Option Value) (fa:Addr) (h:Heap),(K w.params).In h→h.Ns mainGlobals mg→mg d.name=some (.ref fa)→
      ∃ fd:FuncData,(∀ (s:Shared) (u:Value),BindsTo s fd ⟨[u],[]⟩ [(x,u)])∧
        ∀ base:Heap,(K w.params).In base→base.Ns mainGlobals mg→FnOk l.prog w (K w.params) mg base (CX w) k fa fd [x] (sp w))
    (hsp:∀ (w:World) (H:Hp) (a:Addr) (ns:List Int),ns.length≤n→Only H→SqL (K w.params) H a (ns.map V.int)→sp w [.ref a] H (fun v _=>v=.bl true) fun _ _ _=>False)
    (hCX:∀ (w:World) (H:Hp) (s:Shared) (e:Value) (s':Shared),CX w [] H s (fun _ _ _=>False) e s'→False) :
    PySem.W.WalkO q loose XP YP l.row.toRowW d [] (fun f vs=>PySem.call f vs):=by
  refine Att.attach_call hn hdf fun w s₀ s₁ mg mb fa o pm cd doc a vs ns G Y ho hd hcd hmg hobj hints hlen hg=>?_
  have KX:=hY w _ Y
  obtain⟨fd,hb,hF⟩:=F w mg fa _ KX G.T.g hmg
  exact i'E KX G.T.g G.T.b G.T.builtins G.T.nolimit hg hobj hints (Nat.le_trans hlen hn2) hr hF hb (fun H hO hS=>hsp w H a ns hlen hO hS) fun H e s'=>hCX w H s₁ e s'
end L2
namespace L2
open PySem PySem.Spec PyProof.Rows
def defArgs (s:Stmt):Arguments:=match s with
  | .FunctionDef _ a _ _ _ _ _ _ _ _ => a
  | _ => { posonlyargs := [], args := [], vararg := none, kwonlyargs := [], kw_defaults := [], kwarg := none, defaults := [] }
def defBody (s:Stmt):List Stmt:=match s with
  | .FunctionDef _ _ b _ _ _ _ _ _ _ => b
  | _ => []
def defScope (s:Stmt):Scope:=match s with
  | .FunctionDef _ _ _ _ _ _ sc _ _ _ => sc
  | _ => { kind := .function, names := [], isGenerator := false, isCoroutine := false }
abbrev CX0:CXT:=fun _ _ _ _ _ _=>False
abbrev E0:XK:=fun _ _ _=>False
theorem q'r {X:Cx}:Passes CX0 X E0:=fun _ _ _ _ _ _ _ h=>h.elim
structure Fun (K:PySem.W.Frag) (x qual:Str) (st:Stmt) (f:Addr) (fd:FuncData):Prop where
  ex:∃ (oc:Value) (od:Option Addr) (kV doc pm:Value) (an:Option Addr) (cdv ct:Value) (osl:Array (Option Value)),
    fd=PySem.W.fnOf x qual (defArgs st) (defBody st) (defScope st) .none kV doc pm an cdv ct∧K.lookup f=some ⟨oc,od,.func fd,osl⟩∧PySem.W.codeIn K cdv qual=true
  kp:PySem.W.keepIn K (.ref f)=true
section
variable {P:Program} {w:World} {K:PySem.W.Frag} {mg:Str→Option Value} {base:Heap}
theorem Fun.ok {x qual:Str} {st:Stmt} {f:Addr} {fd:FuncData} {N ps:List Str} {k:Nat} {sp:Sp} (F:Fun K x qual st f fd) (S:FnScope N ps (defScope st)) (len:∀ vs H Q E,sp vs H Q E→vs.length=ps.length)
    (hbody:∀ (cdv:Value) (A:Around) (outer:List Env) (s:Shared) (H:Hp) (vs:List V) (Q:VK) (E:XK),Room k (A.deeper (envOfC qual (defScope st) s.heap.objs.size f cdv))→sp vs H Q E→
      ∃ t,PSs (cxOf CX0 P w K mg base N qual (defScope st) f cdv A outer s H E).nox (defBody st) t∧t { nx:=fun _ H'=>Q .non H',rt:=Q } (start N vs) H):FnOk P w K mg base CX0 (k+1) f fd ps sp:=by
  obtain⟨oc,od,kV,doc,pm,an,cdv,ct,osl,rfl,lk,hcd⟩:=F.ex
  refine j'U lk hcd S len fun A outer s H vs Q E hr hsp=>?_
  obtain⟨t,h,q⟩:=hbody cdv A outer s H vs Q E hr hsp
  exact⟨t,h.nox,q⟩
theorem Fun.binds {x qual:Str} {st:Stmt} {f:Addr} {fd:FuncData} {ps:List Str} (F:Fun K x qual st f fd)
    (h:∀ (kV doc pm:Value) (an:Option Addr) (cdv ct:Value) (us:List Value),us.length=ps.length→bindArgs (PySem.W.fnOf x qual (defArgs st) (defBody st) (defScope st) .none kV doc pm an cdv ct) ⟨us,[]⟩=pure (ps.zip us)):Binds K fd ps []:=by
  obtain⟨oc,od,kV,doc,pm,an,cdv,ct,osl,rfl,lk,hcd⟩:=F.ex
  exact .all (h kV doc pm an cdv ct)
theorem a'i {x qual:Str} {st:Stmt} {f:Addr} {oc:Value} {od an:Option Addr} {osl:Array (Option Value)} {kV doc pm cdv ct:Value} (l:K.lookup f=some ⟨oc,od,.func (PySem.W.fnOf x qual (defArgs st) (defBody st) (defScope st) .none kV doc pm an cdv ct),osl⟩)
    (c:PySem.W.codeIn K cdv qual=true) (k:PySem.W.keepIn K (.ref f)=true):Fun K x qual st f (PySem.W.fnOf x qual (defArgs st) (defBody st) (defScope st) .none kV doc pm an cdv ct):=⟨⟨oc,od,kV,doc,pm,an,cdv,ct,osl,rfl,l,c⟩,k⟩
end
theorem a's {A:Around} {k:Nat} (hr:Room k A):A.units+1<cLine:=Nat.lt_of_le_of_lt (Nat.add_le_add_left (by decide:1≤64) _) hr.units
section
variable {X:Cx}
end
def Same (H H':Hp):Prop:=∀ b o,H b=some o→H' b=some o
theorem Same.refl (H:Hp):Same H H:=fun _ _ h=>h
theorem Same.trans {H H1 H2:Hp} (a:Same H H1) (b:Same H1 H2):Same H H2:=fun c o h=>b c o (a c o h)
theorem Same.free {H H':Hp} (e:Same H H') {l:Addr} (h:H' l=Option.none):H l=Option.none:=by
  cases q:H l with
  | none => rfl
  | some o =>
    rw [e l o q] at h
    cases h
theorem Same.seq {K:PySem.W.Frag} {H H':Hp} {a:Addr} {xs:List V} (e:Same H H') (h:SqL K H a xs):SqL K H' a xs:=by
  rcases h with (h | ⟨o,h⟩) | h
  · exact .inl (.inl (e _ _ h))
  · exact .inl (.inr ⟨o,e _ _ h⟩)
  · exact .inr h
end L2
namespace L2
open PySem PySem.Spec PyProof.Rows
section
variable {X:Cx}
theorem h'k:CallR X (.builtin "len") (fun xs H Q=>∃ a kvs,xs=[V.ref a]∧H a=some (.dK kvs)∧Q (.int kvs.length) H):=by
  intro pins s σ H xs us Q I r h
  obtain⟨a,kvs,rfl,ha,q⟩:=h
  obtain⟨u,rfl,ru⟩:=c'j r
  cases ru
  exact q'o I (.inl ha) fun t s' I'=>⟨.int kvs.length,H,I',⟨t,rfl⟩,q⟩
end
section
variable {κ:Type} [DecidableEq κ]
end
end L2
set_option Elab.async false
set_option linter.all false
set_option maxRecDepth 100000
set_option maxHeartbeats 4000000
namespace L2
open PySem PySem.Spec PyProof.Rows
def CMulB (i j:Int):Prop:=∃ n:Nat,n≤60000000∧i.natAbs<2 ^ n∧j.natAbs<2 ^ n
theorem f'O {x:Int} {n:Nat} (h:x.natAbs<2 ^ n):Builtin.Int.intBits x≤n:=by
  unfold Builtin.Int.intBits
  by_cases e:(x == 0)=true
  · rw [if_pos e];exact Nat.zero_le _
  · rw [if_neg e]
    have hx:x.natAbs≠0:=by
      intro z
      have:x=0:=by omega
      rw [this] at e
      exact e rfl
    exact (Nat.log2_lt hx).mpr h
theorem CMulB.ok {i j:Int} (h:CMulB i j):IntMulOk i j:=by
  obtain⟨n,hn,h1,h2⟩:=h
  have b1:=f'O h1
  have b2:=f'O h2
  intro z
  simp only [Bool.and_eq_true,Builtin.Int.intTooBig,decide_eq_true_eq] at z
  have e:(bitsLine:Nat)=134217728:=by decide
  have z2:=z.2
  rw [e] at z2
  omega
def CMulX (i j:Int):Prop:=CMul i j∨CMulB i j
def CDivB (_ j:Int):Prop:=j≠0∧j.natAbs<2 ^ 8000
theorem CDivB.ok {i j:Int} (h:CDivB i j):Builtin.divisionGoesByPylong i j=false:=by
  refine PyProof.noPylong_of_log2 ?_
  have hx:j.natAbs≠0:=by have:=h.1;omega
  have:=(Nat.log2_lt hx).mpr h.2
  omega
section
variable {X:Cx}
theorem op_mulB:OpR X (binaryOp .Mult) (rI CMulX fun i j=>.int (i*j)):=opI fun _ _ _ _ _ _ _ hc q=>mul_int q (hc.elim CMul.ok CMulB.ok)
theorem i'F:OpR X (binaryOp .FloorDiv) (rI CDivB fun i j=>.int (i.fdiv j)):=opI fun _ _ _ _ _ _ _ hc q=>floordiv_int hc.1 q (.inl hc.ok)
end
section
variable {X:Cx} {pins:List (Addr×Obj)} {σ:St} {H:Hp} {s:Shared} {a:Addr} {kvs:List (Key×V)}
theorem Inv.freeze (I:Inv X pins σ H s) (e:H a=some (.dK kvs)):∃ o,s.heap.get? a=some o∧Inv X pins σ (upd H a (.frz o (.dK kvs))) s:=by
  have ok:ObjOk X.prog X.w H s.heap a (.dK kvs):=I.hok a _ e
  obtain⟨z,y,vs,r,o,es,ep,ho,c⟩:=id ok
  refine⟨o,ho,?_⟩
  exact I.write (h':=s.heap) (t':=s.toks) (x:=a) (e:=a) (by rw [e];exact True.intro) (.inl rfl) (fun _ _ _ q=>q) ⟨o,ho⟩ ⟨ho,z,y,vs,r,o,es,ep,ho,c⟩
theorem Inv.thaw {o:Obj} (I:Inv X pins σ H s) (e:H a=some (.frz o (.dK kvs))) (hn:∀ o u,X.H₀ a≠some (.frz o u)):Inv X pins σ (upd H a (.dK kvs)) s:=by
  have ne:∀ b u,H b=some u→(∀ o u',u≠.frz o u')→b≠a:=fun b u h d z=>by
    subst z
    rw [e] at h
    exact d _ _ (Option.some.inj h).symm
  obtain⟨ho,ok⟩:=(show ObjOk X.prog X.w H s.heap a (.frz o (.dK kvs)) from I.hok a _ e)
  refine⟨I.ok,I.os,I.bare,⟨fun b ob q n hb hx=>I.base.keep b ob q n hb hx,fun b ob q n hb hx=>I.base.slot b ob q n hb hx,fun b ob q n hx=>?_,fun b ob q hx=>I.base.there b ob q hx,fun b xs q=>?_,fun b ob u q=>?_,fun b ps q=>?_⟩,I.loc,I.cell,?_,fun x c q=>?_,fun p hp=>?_,fun b u q=>?_,I.len⟩
  · have z:=I.base.free b ob q n hx
    rw [a'h (by intro y;subst y;rw [e] at z;cases z)]
    exact z
  · have z:=I.base.tups b xs q
    rw [a'h (ne b _ z (fun _ _ y=>by cases y))]
    exact z
  · have z:=I.base.frzs b ob u q
    rw [a'h (by intro y;subst y;exact hn _ _ q)]
    exact z
  · obtain⟨m,z⟩:=I.base.tbls b ps q
    exact⟨m,by rw [a'h (ne b _ z (fun _ _ y=>by cases y))];exact z⟩
  · rw [a'h (by intro y;have z:=I.free;rw [y,e] at z;cases z)]
    exact I.free
  · rw [a'h (by intro y;have z:=I.freeC x c q;rw [y,e] at z;cases z)]
    exact I.freeC x c q
  · obtain⟨p1,p2,p3,p4,p5⟩:=I.pin p hp
    refine⟨p1,?_,p3,p4,p5⟩
    rw [a'h (by intro y;rw [y,e] at p2;cases p2)]
    exact p2
  · by_cases hb:b=a
    · subst hb
      rw [a'o] at q
      cases q
      exact ok
    · rw [a'h hb] at q
      exact (I.hok b u q).stay (fun _ _ _ z=>z) (fun c z=>by rw [a'h (ne c _ z (fun _ _ y=>by cases y))];exact z) fun c xs z=>by rw [a'h (ne c _ z (fun _ _ y=>by cases y))];exact z
end
def Itd (a:Addr) (ob:Obj) (kvs:List (Key×V)):It:=
  ⟨fun i H=>i<kvs.length∧H a=some (.frz ob (.dK kvs)),fun i H x H'=>∃ p k v,kvs[i]?=some (k,v)∧H p=none∧x=.ref p∧H'=upd H p (.tup [kV k,v]),fun i H=>kvs.length≤i∧H a=some (.frz ob (.dK kvs))⟩
theorem e'C {P:Program} {w:World} {k:Key} {u:Value} (h:(mixKind P w).is k u=true):RelV (kV k) u:=by
  rcases a'E (k:=k) (v:=u) h with ⟨i,t,rfl,rfl⟩ | ⟨x,t,rfl,rfl⟩
  · exact⟨t,rfl⟩
  · exact⟨t,rfl⟩
theorem KV.at {kvs:List (Key×V)} {vs:List (Key×Value)} (r:KV kvs vs):∀ {i:Nat} {k:Key} {v:V},kvs[i]?=some (k,v)→∃ u,vs[i]?=some (k,u)∧RelV v u:=by
  unfold KV at r
  induction r with
  | nil => intro i k v h; simp at h
  | @cons p q ps qs h t ih =>
    intro i k v e
    cases i with
    | zero=>
      simp at e
      subst e
      have e1:k=q.1:=h.1
      exact⟨q.2,by rw [e1];rfl,h.2⟩
    | succ i=>simpa using ih (i:=i) (k:=k) (v:=v) (by simpa using e)
theorem g'x {P:Program} {w:World} {K:PySem.W.Frag} {elts:List Expr} {x1:Nat} {pos:Pos} (a it:Addr) (ob:Obj) (kvs:List (Key×V)) (hne:a≠it) :
    Turn P w K (.Tuple elts x1 pos) (Itd a ob kvs) [it] it (fun i h=>∃ es ep ok ov,ob.data=.dict es ep∧IsItemIter h it a i kvs.length ep ok ov) where
  mem:=by simp
  obj:=fun i h st b hb=>by
    have e:b=it:=by simpa using hb
    subst e
    obtain⟨es,ep,ok,ov,hd,e⟩:=st
    exact⟨_,e,fun v z=>by cases z⟩
  keep:=fun i h h' st k=>by
    obtain⟨es,ep,ok,ov,hd,e⟩:=st
    exact⟨es,ep,ok,ov,hd,k it (by simp) _ e⟩
  item:=by
    intro X hP hw hK hc i pins s σ H E I hf st hg
    subst hP hw hK
    obtain⟨es,ep,ok,ov,hd,hit⟩:=st
    obtain⟨hi,hH⟩:=hg
    obtain⟨ho,z,y,vs,r,o',es',ep',ho',c1,c2,c3,c4,c5⟩:=(show ObjOk X.prog X.w H s.heap a (.frz ob (.dK kvs)) from I.hok a _ hH)
    have eo:o'=ob:=by rw [ho] at ho';exact (Option.some.inj ho').symm
    subst eo
    rw [hd] at c2
    cases c2
    have hm:s.heap.DictAt (mixKind X.prog X.w) a vs ep:=⟨o',es,ho,c1,hd,c3,c4,c5⟩
    obtain⟨⟨k,v⟩,hkv⟩:∃ q,kvs[i]?=some q:=⟨kvs[i],by simp [hi]⟩
    obtain⟨u,hu,ru⟩:=r.at hkv
    have hl:kvs.length=vs.length:=KV.length r
    rw [hl] at hit
    obtain⟨f0,f1,f2,f3,f4,f5⟩:=hf it (by simp)
    refine wpAny_pyNext_items_item hit hm hu fun key h' hkey hout hT hsz hk=>?_
    refine⟨.ref s.heap.objs.size,rfl,wpAny_letOwnedTupleGo_items hout fun h2 he hs=>?_⟩
    have lit:it<s.heap.objs.size:=Heap.lt_size hit
    have I1:=I.laid (a:=s.heap.objs.size) (o:=.tup [kV k,v]) (h':=s.heap.push { cls:=.type "tuple",data:=.seq #[key,u] }) (t':=s.toks) (fun b q hq=>Heap.get?_push_of_some _ hq) (Nat.le_refl _)
      ⟨by show 2≤sizeLine;decide,[key,u],.cons (e'C hkey) (.cons ru .nil),⟨_,Heap.get?_push_size _ rfl,rfl,_,rfl⟩⟩
    have hfr:H s.heap.objs.size=none:=I.hok.fresh (Nat.le_refl _)
    have nit:it≠s.heap.objs.size:=Nat.ne_of_lt lit
    refine⟨.ref s.heap.objs.size,upd H s.heap.objs.size (.tup [kV k,v]),?_,rfl,⟨_,k,v,hkv,hfr,rfl,rfl⟩,⟨es,ep,key,u,hd,by rw [hl];exact he⟩,fun b hb=>?_⟩
    · have I2:Inv X pins σ (upd H s.heap.objs.size (.tup [kV k,v])) { s with heap:=h2,toks:=s.toks }:=Inv.turned (s:={ s with heap:=s.heap.push { cls:=.type "tuple",data:=.seq #[key,u] },toks:=s.toks }) I1 (h':=h2) (t':=s.toks) (it:=it) (fun b q hb hq=>?_) (by rw [a'h nit];exact f0) f1 f3 f4 f5
      · exact I2
      · refine hs.extBut b q hb ?_
        rcases Heap.get?_push_cases hq with ⟨hbs,eq⟩ | hq
        · subst hbs
          subst eq
          exact hT
        · exact hk b q hb hq
    · have e:b=it:=by simpa using hb
      subst e
      rw [a'h nit]
      exact f0
  done:=by
    intro X hP hw hK hc i pins s σ H E I hf st hg
    subst hP hw hK
    obtain⟨es,ep,ok,ov,hd,hit⟩:=st
    obtain⟨hi,hH⟩:=hg
    obtain⟨ho,z,y,vs,r,o',es',ep',ho',c1,c2,c3,c4,c5⟩:=(show ObjOk X.prog X.w H s.heap a (.frz ob (.dK kvs)) from I.hok a _ hH)
    have eo:o'=ob:=by rw [ho] at ho';exact (Option.some.inj ho').symm
    subst eo
    rw [hd] at c2
    cases c2
    have hm:s.heap.DictAt (mixKind X.prog X.w) a vs ep:=⟨o',es,ho,c1,hd,c3,c4,c5⟩
    have hl:kvs.length=vs.length:=KV.length r
    rw [hl] at hit
    obtain⟨f0,f1,f2,f3,f4,f5⟩:=hf it (by simp)
    exact wpAny_pyNext_items_end (I.ok.hd hc) hit hm (by simp;omega) fun h' eb=>⟨rfl,I.turned (t':=s.toks) (fun b o hb e=>eb b o hb e) f0 f1 f3 f4 f5⟩
  self:=fun A i s Q E st h=>by
    obtain⟨es,ep,ok,ov,hd,hit⟩:=st
    exact PySem.W.kcp_self hit h
section
variable {X:Cx}
def iItems (X:Cx) (td:TE):TI:=fun σ H R=>td σ H fun x H1=>∃ a kvs,x=.ref a∧H1 a=some (.dK kvs)∧∀ ob,(∀ o u,X.H₀ a≠some (.frz o u))→R (Itd a ob kvs) (upd H1 a (.frz ob (.dK kvs)))
theorem i'G {o:Expr} {td:TE} {elts:List Expr} {x1:Nat} {pos apos cpos:Pos} (ho:PE X o td) (hbase:attributeBase o "items" X.env (eval o X.env)=eval o X.env) (hline:(apos.endLine == cpos.line)=true) :
    PI X (.Tuple elts x1 pos) (.Call (.Attribute o "items" apos) [] [] cpos) (iItems X td):=by
  intro pins s σ H R I h
  refine wpAny_Call_method0_late hbase hline (thn (ho pins s σ H _ I h) fun v s1 ⟨x,H1,I1,r1,a,kvs,ex,hH,q⟩=>?_)
  subst ex
  obtain rfl:v=Value.ref a:=r1
  obtain⟨t1,t2,hd⟩:=h'f I1 (.inl ⟨kvs,.inl hH⟩)
  refine⟨"dict","dict.items",PySem.F.plainAttrs_dict,PySem.F.slot_dict_items,PySem.F.type_dict_items,t1,t2,Calls.callWith_builtin rfl (PySem.evalArgs_none ?_)⟩
  obtain⟨z,y,vs,r,dd⟩:=g'v I1.hok hH
  refine call_meetsIn PySem.F.slot_dict_items t1 PySem.F.entry_dict_items (PySem.F.args_dict_items_1 _) (meets_dict_items (mixKind X.prog X.w) a hd) ⟨⟨vs,dd⟩,?_⟩
  have I2:Inv X pins σ H1 { s1 with heap:=s1.heap.push { cls:=.type "dict_items",data:=.fields #[.ref a] } }:=I1.kept (t':=s1.toks) fun b o e=>Heap.get?_push_of_some _ e
  have hna:∀ o u,X.H₀ a≠some (.frz o u):=fun o u z=>by
    have:=I1.base.frzs a o u z
    rw [hH] at this
    cases this
  obtain⟨ep,hat⟩:=dd.dictAt
  have hat2:=hat.push { cls:=.type "dict_items",data:=.fields #[.ref a] }
  refine wpAny_pyIter_items (v:=s1.heap.objs.size) (d:=a) ⟨_,Heap.get?_push_size _ rfl,rfl,rfl⟩ hat2 ?_
  obtain⟨ob,hob,I3⟩:=(I2.kept (t':=s1.toks) (h':=(s1.heap.push { cls:=.type "dict_items",data:=.fields #[.ref a] }).push { cls:=.type "dict_itemiterator",data:=.fields #[.none,.bool false,.ref a,.int 0 0,.int vs.length 0,.int ep 0,.none,.none] }) fun b o e=>Heap.get?_push_of_some _ e).freeze hH
  have la:a<(s1.heap.push { cls:=.type "dict_items",data:=.fields #[.ref a] }).objs.size:=hat2.lt_size
  have hl:kvs.length=vs.length:=KV.length r
  refine⟨_,[_],_,_,upd H1 a (.frz ob (.dK kvs)),rfl,I3,g'x a (s1.heap.push { cls:=.type "dict_items",data:=.fields #[.ref a] }).objs.size ob kvs (Nat.ne_of_lt la),?_,fun b hb=>?_,q ob hna⟩
  · obtain⟨o2,es,ho2,c1,c2,_⟩:=hat2
    have e3:ob=o2:=by
      have e4:=Heap.get?_push_of_some { cls:=.type "dict_itemiterator",data:=.fields #[.none,.bool false,.ref a,.int 0 0,.int vs.length 0,.int ep 0,.none,.none] } ho2
      rw [e4] at hob
      exact (Option.some.inj hob).symm
    subst e3
    refine⟨es,ep,.none,.none,c2,?_⟩
    rw [hl]
    exact Heap.get?_push_size _ rfl
  · have e:b=(s1.heap.push { cls:=.type "dict_items",data:=.fields #[.ref a] }).objs.size:=by simpa using hb
    subst e
    refine I2.fpOk (Nat.le_refl _) ?_
    rw [a'h (Nat.ne_of_gt la)]
    exact I2.hok.fresh (Nat.le_refl _)
def Thaw (X:Cx) (R:Hp→Prop) (H:Hp):Prop:=∃ a ob kvs,H a=some (.frz ob (.dK kvs))∧(∀ o u,X.H₀ a≠some (.frz o u))∧R (upd H a (.dK kvs))
def ThawD (X:Cx) (D:Ends):Ends:={ nx:=fun σ=>Thaw X (D.nx σ),rt:=fun v=>Thaw X (D.rt v),bk:=fun σ=>Thaw X (D.bk σ),ct:=fun σ=>Thaw X (D.ct σ) }
def tForD (X:Cx) (td:TE) (g:TG) (tb:TS):TS:=fun D σ H=>tFor (iItems X td) g tb (ThawD X D) σ H
theorem k'y {o:Expr} {td:TE} {elts:List Expr} {x1:Nat} {pos apos cpos fpos:Pos} {body:List Stmt} {g:TG} {tb:TS} (hp:PassesOwn (model X.prog X.w) X.A X.env X.xe) (hc:X.calm=true) (ho:PE X o td)
    (hg:PG X (.Tuple elts x1 pos) g) (hb:PSs X body tb) (hbase:attributeBase o "items" X.env (eval o X.env)=eval o X.env:=by rfl) (hline:(apos.endLine == cpos.line)=true:=by rfl)
    (hs:∀ x,foldedSetIterable (.Call (.Attribute o "items" apos) [] [] cpos) X.env x=pure x:=by intro _;rfl):PS X (.For (.Tuple elts x1 pos) (.Call (.Attribute o "items" apos) [] [] cpos) body [] fpos) (tForD X td g tb):=by
  intro pins s σ H D I h
  have base:=g'V (pos:=fpos) hp hc (i'G (elts:=elts) (x1:=x1) (pos:=pos) ho hbase hline) hg hb hs pins s σ H (ThawD X D) I h
  refine thn base fun f s' q=>?_
  cases f with
  | next => obtain ⟨σ', H', I', a, ob, kvs, e, hn, r⟩ := q; exact ⟨σ', _, I'.thaw e hn, r⟩
  | brk => obtain ⟨σ', H', I', a, ob, kvs, e, hn, r⟩ := q; exact ⟨σ', _, I'.thaw e hn, r⟩
  | cont => obtain ⟨σ', H', I', a, ob, kvs, e, hn, r⟩ := q; exact ⟨σ', _, I'.thaw e hn, r⟩
  | ret u => obtain ⟨v, σ', H', I', rv, a, ob, kvs, e, hn, r⟩ := q; exact ⟨v, σ', _, I'.thaw e hn, rv, r⟩
end
theorem h'l {a:Addr} {ob:Obj} {kvs:List (Key×V)} {g:TG} {tb:TS} {D:Ends} {σ:St} {H:Hp} (Pv:Nat→St→Hp→Prop) (h0:Pv 0 σ H) (hl:∀ i σ H,i≤kvs.length→Pv i σ H→H a=some (.frz ob (.dK kvs)))
    (hs:∀ i k v σ H p,kvs[i]?=some (k,v)→Pv i σ H→H p=none→g (.ref p) σ (upd H p (.tup [kV k,v])) fun σ2 H2=>tb { D with nx:=Pv (i+1),ct:=Pv (i+1),bk:=D.nx } σ2 H2) (hd:∀ σ H,Pv kvs.length σ H→D.nx σ H) :
    ∃ W:Nat→Nat→St→Hp→Prop,(∃ m,W 0 m σ H)∧∀ i m σ H,W i m σ H→
      ((Itd a ob kvs).stop i H∧D.nx σ H)∨((Itd a ob kvs).go i H∧∃ N:St→Hp→Prop,(∀ σ' H',N σ' H'→∃ m',m'<m∧W (i+1) m' σ' H')∧∀ x H',(Itd a ob kvs).yld i H x H'→g x σ H' fun σ2 H2=>tb { D with nx:=N,ct:=N,bk:=D.nx } σ2 H2):=by
  refine⟨fun i m σ H=>m=kvs.length - i∧i≤kvs.length∧Pv i σ H,⟨kvs.length,by simp,Nat.zero_le _,h0⟩,?_⟩
  rintro i m σ H ⟨rfl,hi,p⟩
  have q:=hl i σ H hi p
  by_cases hlt:i<kvs.length
  · refine .inr ⟨⟨hlt,q⟩,Pv (i+1),fun σ' H' p'=>⟨kvs.length - (i+1),by omega,rfl,hlt,p'⟩,fun x H' y=>?_⟩
    obtain⟨pa,k,v,e1,e2,rfl,rfl⟩:=y
    exact hs i k v σ H pa e1 p e2
  · have e:i=kvs.length:=by omega
    subst e
    exact .inl ⟨⟨Nat.le_refl _,q⟩,hd σ H p⟩
section
variable {X:Cx}
theorem g'y (hc:X.calm=true):CallR X (.type "list") (fun xs H Q=>∃ a kvs,xs=[.ref a]∧Rd H a (.dK kvs)∧∀ p,H p=none→Q (.ref p) (upd H p (.lst (kvs.map fun kv=>kV kv.1)))):=by
  intro pins s σ H xs us Q I r h
  obtain⟨a,kvs,rfl,ha,q⟩:=h
  obtain⟨u,rfl,ru⟩:=c'j r
  cases ru
  obtain⟨z,y,vs,rel,dd⟩:=b'C I.hok ha
  obtain⟨ep,hat⟩:=dd.dictAt
  have hl:kvs.length=vs.length:=KV.length rel
  refine PySem.W.kdl_call (PySem.W.kdl_dict (knd:=mixKind X.prog X.w) (kvs:=vs) (ep:=ep) y) (I.ok.hd hc) hat (by rw [← hl];exact z) fun h' tk acc' c' hk hS hacc=>?_
  have hfr:H s.heap.objs.size=none:=I.hok.fresh (Nat.le_refl _)
  refine⟨.ref s.heap.objs.size,_,I.laid (a:=s.heap.objs.size) (o:=.lst (kvs.map fun kv=>kV kv.1)) (h':=h') (t':=tk) hk (Nat.le_refl _) ⟨by rw [List.length_map];exact z,acc'.toList,c',?_,by simpa using hS⟩,rfl,q _ hfr⟩
  have hn:acc'.toList.length=vs.length:=by rw [Array.length_toList];exact hacc.1
  have gen:∀ (kvs:List (Key×V)) (us:List Value),us.length=kvs.length→(∀ (j:Nat) k v u,kvs[j]?=some (k,v)→us[j]?=some u→RelV (kV k) u)→Vals (kvs.map fun kv=>kV kv.1) us:=by
    intro kvs
    induction kvs with
    | nil=>intro us e _;cases us with
      | nil=>exact .nil
      | cons _ _=>simp at e
    | cons p r ih=>
      intro us e f
      cases us with
      | nil=>simp at e
      | cons u us=>
        refine .cons (f 0 p.1 p.2 u rfl rfl) (ih us (by simpa using e) fun j k v w h1 h2=>f (j+1) k v w (by simpa using h1) (by simpa using h2))
  refine gen kvs acc'.toList (by rw [hn,hl]) fun j k v u h1 h2=>?_
  obtain⟨k',x,hx,hkey⟩:=hacc.2 j u (by rw [← Array.getElem?_toList];exact h2)
  obtain⟨u',hu',_⟩:=rel.at h1
  rw [hu'] at hx
  cases hx
  exact e'C hkey
def clsV:V→Option Value
  | .ty n => some (.type n)
  | .ref a => some (.ref a)
  | _ => none
end
def All2 (R:V→V→Prop):List V→List V→Prop
  | [], [] => True
  | x :: xs, y :: ys => R x y ∧ All2 R xs ys
  | _, _ => False
theorem All2.length {R:V→V→Prop}:∀ {xs ys:List V},All2 R xs ys→xs.length=ys.length
  | [], [], _ => rfl
  | _ :: xs, _ :: ys, h => by rw [List.length_cons, List.length_cons, All2.length h.2]
  | [], _ :: _, h => h.elim
  | _ :: _, [], h => h.elim
theorem All2.get {R:V→V→Prop}:∀ {xs ys:List V} {j:Nat} {x y:V},All2 R xs ys→xs[j]?=some x→ys[j]?=some y→R x y
  | x :: xs, y :: ys, 0, _, _, h, e1, e2 => by simp at e1 e2; subst e1 e2; exact h.1
  | _ :: xs, _ :: ys, j + 1, x, y, h, e1, e2 => All2.get (xs := xs) (ys := ys) (j := j) h.2 (by simpa using e1) (by simpa using e2)
  | [], [], _, _, _, _, e1, _ => by simp at e1
  | [], _ :: _, _, _, _, h, _, _ => h.elim
  | _ :: _, [], _, _, _, h, _, _ => h.elim
def EqT (K:PySem.W.Frag) (H:Hp):Nat→V→V→Prop
  | 0, x, y => flatV x = true ∧ x = y
  | n + 1, x, y => (flatV x = true ∧ x = y) ∨ ∃ p q xs ys, x = .ref p ∧ y = .ref q ∧ ((SqT K H p xs ∧ SqT K H q ys) ∨ (SqL K H p xs ∧ SqL K H q ys)) ∧ All2 (EqT K H n) xs ys
theorem c'k {x:V} (h:flatV x=true):eqV x x=true:=by
  cases x<;>first | rfl | (simp [eqV];done) | (simp [flatV] at h)
theorem a'P (A:Around):A.in1.units=A.units+1:=rfl
section
variable {X:Cx} {pins:List (Addr×Obj)} {σ:St} {H:Hp} {s:Shared}
theorem n'R {A:Around} {p q:Addr} {xs ys:List V} (I:Inv X pins σ H s) (hk:(SqT X.K H p xs∧SqT X.K H q ys)∨(SqL X.K H p xs∧SqL X.K H q ys)) (hu:A.units<cLine) (hl:xs.length=ys.length)
    (he:∀ (j:Nat) x y u v,xs[j]?=some x→ys[j]?=some y→RelV x u→RelV y v→SeqAt.EqAt A.in1 s u v true):SeqAt.RcAt A s (.ref p) (.ref q) true:=by
  have fin:∀ (its its2:List Value),Vals xs its→Vals ys its2→∀ j (h1:j<its.toArray.size) (h2:j<its2.toArray.size),SeqAt.EqAt A.in1 s its.toArray[j] its2.toArray[j] true:=by
    intro its its2 r1 r2 j h1 h2
    have l1:=r1.length
    have l2:=r2.length
    simp only [List.size_toArray] at h1 h2
    obtain⟨u,hu1,ru⟩:=r1.get (i:=j) (x:=xs[j]'(by omega)) (by simp)
    obtain⟨v,hv1,rv⟩:=r2.get (i:=j) (x:=ys[j]'(by omega)) (by simp)
    have e1:its.toArray[j]'(by simpa using h1)=u:=by
      have:=List.getElem?_eq_some_iff.mp hu1
      obtain⟨_,z⟩:=this
      simpa using z
    have e2:its2.toArray[j]'(by simpa using h2)=v:=by
      have:=List.getElem?_eq_some_iff.mp hv1
      obtain⟨_,z⟩:=this
      simpa using z
    rw [e1,e2]
    exact he j _ _ u v (by simp) (by simp) ru rv
  rcases hk with ⟨h1,h2⟩ | ⟨h1,h2⟩
  · obtain⟨its,r1,t1,_⟩:=I.tuple h1
    obtain⟨its2,r2,t2,_⟩:=I.tuple h2
    have l1:=r1.length
    have l2:=r2.length
    have z:=SeqAt.RcAt.tuples (A:=A) (e:=fun _=>true) t1 t2 hu (fin its its2 r1 r2)
    have e:((List.range (min its.toArray.size its2.toArray.size)).all (fun _=>true) && its.toArray.size == its2.toArray.size)=true:=by
      simp only [List.size_toArray]
      simp
      omega
    rw [e] at z
    exact z
  · obtain⟨its,r1,t1,_⟩:=I.list h1
    obtain⟨its2,r2,t2,_⟩:=I.list h2
    have l1:=r1.length
    have l2:=r2.length
    have z:=SeqAt.RcAt.lists (A:=A) (e:=fun _=>true) t1.isList t2.isList (by simp;omega) hu (fin its its2 r1 r2)
    have e:(List.range its.toArray.size).all (fun _=>true)=true:=by simp
    rw [e] at z
    exact z
theorem h'm (I:Inv X pins σ H s):∀ (n:Nat) {A:Around} {x y:V} {u v:Value},EqT X.K H n x y→RelV x u→RelV y v→A.units+n<cLine→SeqAt.EqAt A s u v true
  | 0, A, x, y, u, v, ⟨f, e⟩, ru, rv, _ => by
    subst e
    have z:=b'r (A:=A) (s:=s) ru rv f f
    rw [c'k f] at z
    exact z
  | n + 1, A, x, y, u, v, .inl ⟨f, e⟩, ru, rv, _ => by
    subst e
    have z:=b'r (A:=A) (s:=s) ru rv f f
    rw [c'k f] at z
    exact z
  | n + 1, A, x, y, u, v, .inr ⟨p, q, xs, ys, hx, hy, hk, al⟩, ru, rv, hu => by
    subst hx hy
    cases ru
    cases rv
    by_cases e:p=q
    · subst e
      exact SeqAt.EqAt.same _
    · refine SeqAt.EqAt.of_refs e (n'R I hk (by omega) al.length fun j x y u v h1 h2 r1 r2=>?_)
      exact h'm I n (A:=A.in1) (al.get h1 h2) r1 r2 (by rw [a'P];omega)
end
section
variable {X:Cx}
theorem g'z {kvs:List (Key×V)} {vs:List (Key×Value)} {k:Key} {y:V} (r:KV kvs vs) (e:valV kvs k=some y):∃ u,valueAt vs k=some u∧RelV y u:=
  RelO.some_of (v:=y) (o:=valueAt vs k) (by rw [← e];exact r.val k)
def DEqT (K:PySem.W.Frag) (H:Hp) (n:Nat) (ka kb:List (Key×V)):Prop:=ka.length=kb.length∧∀ k v,(k,v)∈ka→∃ y,valV kb k=some y∧EqT K H n v y
theorem q's {pins:List (Addr×Obj)} {σ:St} {H:Hp} {s:Shared} {A:Around} {n:Nat} {kb:List (Key×V)} {vb:List (Key×Value)} (I:Inv X pins σ H s) (hu:A.units+n<cLine) (rb:KV kb vb) :
    ∀ {ka:List (Key×V)} {va:List (Key×Value)},KV ka va→(∀ k v,(k,v)∈ka→∃ y,valV kb k=some y∧EqT X.K H n v y)→PySem.W.KeqHits A s vb va true:=by
  intro ka va ra
  unfold KV at ra
  induction ra with
  | nil => intro _; exact .nil
  | @cons p q ps qs h t ih =>
    intro f
    obtain⟨y,e1,e2⟩:=f p.1 p.2 (List.mem_cons_self ..)
    obtain⟨u,e3,ru⟩:=g'z rb e1
    have z:=PySem.W.KeqHits.hit (A:=A) (s:=s) (k:=q.1) (v:=q.2) (y:=u) (r:=qs) (by rw [← h.1];exact e3) (h'm I n (A:=A) e2 h.2 ru hu) (ih fun k v m=>f k v (List.mem_cons_of_mem _ m))
    simpa using z
end
end L2
namespace L2
open PySem PySem.Spec PyProof.Rows
section
variable {σ:St} {H:Hp} {Q:VK} {D:Ends} {K:PySem.W.Frag}
theorem Same.upd {a:Addr} {o:HO} (h:H a=none):Same H (upd H a o):=fun b u e=>by rw [a'h (a'y e h)];exact e
theorem Same.tup {H':Hp} {a:Addr} {xs:List V} (e:Same H H') (h:SqT K H a xs):SqT K H' a xs:=by
  rcases h with (h | ⟨o,h⟩) | h
  · exact .inl (.inl (e _ _ h))
  · exact .inl (.inr ⟨o,e _ _ h⟩)
  · exact .inr h
theorem Same.rd {H':Hp} {a:Addr} {u:HO} (e:Same H H') (h:Rd H a u):Rd H' a u:=by
  rcases h with h | ⟨o,h⟩
  · exact .inl (e _ _ h)
  · exact .inr ⟨o,e _ _ h⟩
end
end L2
namespace L2
open PySem PySem.Spec PyProof.Rows
section
variable {σ:St} {H:Hp} {Q:VK} {D:Ends} {K:PySem.W.Frag} {X:Cx}
theorem Same.updN {H':Hp} {a:Addr} {o:HO} (e:Same H H') (n:H a=none):Same H (L2.upd H' a o):=fun b u q=>by rw [a'h (a'y q n)];exact e b u q
end
end L2
namespace L2
open PySem PySem.Spec PyProof.Rows
def EqW (P:Program) (w:World) (A:Around) (s:Shared) (u v:Value):Prop:=∀ (E:Value→Shared→Prop) (Q:Bool→Shared→Prop),Q true s→wpAny (model P w) A (eqBool u v) Q E s
def RcW (P:Program) (w:World) (A:Around) (s:Shared) (u v:Value):Prop:=∀ (E:Value→Shared→Prop) (Q:Value→Shared→Prop),Q (.bool true) s→wpAny (model P w) A (richCompare .Eq u v) Q E s
section
variable {P:Program} {w:World} {A:Around} {s:Shared}
theorem EqW.of_at {u v:Value} (h:SeqAt.EqAt A s u v true):EqW P w A s u v:=fun E Q q=>h P w E Q q
theorem EqW.of_refs {a b:Addr} (h:RcW P w A s (.ref a) (.ref b)):EqW P w A s (.ref a) (.ref b):=fun E Q q=>by
  by_cases e:a=b
  · subst e
    exact SeqAt.EqAt.same _ P w E Q q
  · unfold eqBool
    refine wpAny_holding (wpAny_ite_split (fun z=>absurd (Value.ref.inj (eq_of_beq z)) e) fun _=>?_)
    exact wpAny_bind (h E _ (wpAny_truthy_bool q))
section
open PySem.AutoSeq1 (wpAny_loadPart')
theorem r'W (a b:Addr) (xs ys:Array Value) (n m:Nat) (da db:Option Addr) (sa sb:Array (Option Value)) (hz:xs.size=ys.size) :
    MeetsIn P w (Builtin.«tuple.__eq__» ⟨[.ref a,.ref b],[]⟩) (fun A R s=>s.heap.get? a=some ⟨.type "tuple",da,.seq xs n,sa⟩∧s.heap.get? b=some ⟨.type "tuple",db,.seq ys m,sb⟩∧
      (∀ j (h1:j<xs.size) (h2:j<ys.size),EqW P w A.in1 s xs[j] ys[j])∧R (.ok (.ret (.bool true))) s):=by
  refine .of_wp fun A R s h=>?_
  obtain⟨hp,g,d,tk,os⟩:=s
  obtain⟨ha,hb,he,hR⟩:=h
  have sub:=AutoSeq1.sub_tuple_tuple
  have len:(xs.toList.zip ys.toList).length=xs.size:=by simp;omega
  wp_walk using wpAny_loadPart' ha,wpAny_loadPart' hb,wpAny_forIn_list _ (fun r c s'=>c.1=none∧s'=⟨hp,g,d,tk,os⟩∧∃ i,r=(xs.toList.zip ys.toList).drop i) _
  case turn=>
    rintro⟨x,y⟩ r c s' ⟨hc,rfl,i,hr⟩
    by_cases lt:i<(xs.toList.zip ys.toList).length
    · rw [List.drop_eq_getElem_cons lt] at hr
      injection hr with e1 e2
      have i1:i<xs.size:=by omega
      have i2:i<ys.size:=by omega
      obtain⟨ex,ey⟩:x=xs[i]∧y=ys[i]:=by
        have z:=Prod.mk.inj (e1.trans List.getElem_zip)
        exact⟨by simpa using z.1,by simpa using z.2⟩
      subst ex ey
      refine wpAny_bind (he i i1 i2 _ _ ?_)
      wp_walk
      exact⟨rfl,rfl,i+1,e2⟩
    · rw [List.drop_of_length_le (by omega)] at hr
      cases hr
  case fin=>
    rintro⟨c1,c2⟩ s' ⟨hc,rfl,_⟩
    simp only at hc
    subst hc
    wp_walk
    refine⟨_,rfl,?_⟩
    simpa [Builtin.Tuple.tupleCompareSizes,hz] using hR
  case h=>exact⟨rfl,rfl,0,rfl⟩
end
theorem RcW.tuples {a b:Addr} {xs ys:Array Value} (ha:IsTup s.heap a xs) (hb:IsTup s.heap b ys) (hz:xs.size=ys.size) (hu:A.units<cLine) (he:∀ j (h1:j<xs.size) (h2:j<ys.size),EqW P w A.in1 s xs[j] ys[j]):RcW P w A s (.ref a) (.ref b):=fun E Q q=>by
  obtain⟨⟨ca,da,xa,sa⟩,oa,ka,n,va⟩:=id ha
  obtain⟨⟨cb,db,xb,sb⟩,ob,kb,m,vb⟩:=id hb
  simp only at ka va kb vb
  subst ka va kb vb
  refine wpAny_richCompare_same_room (op:=.Eq) (T:="tuple") ⟨_,oa,rfl⟩ ⟨_,ob,rfl⟩ PySem.F.slot_tuple_eq ?_ hu
  exact call_meetsIn PySem.F.slot_tuple_eq ⟨_,oa,rfl⟩ PySem.F.entry_tuple_eq (PySem.F.args_tuple_eq_2 _ _) (r'W a b xs ys n m da db sa sb hz) ⟨oa,ob,he,⟨(fun z=>nomatch z),q⟩⟩
section
open PySem.AutoSeq1 (wpAny_loadPart')
open PySem.MeetsSeq PySem.MeetsSeq2 PySem.MeetsSeq3 PySem.SeqRoads2 PySem.SeqAt
theorem e'D (a b:Addr) (xs ys:Array Value) (n m:Nat) (da db:Option Addr) (sa sb:Array (Option Value)) (hz:xs.size=ys.size):∀ (k i:Nat),xs.size - i=k→
    MeetsIn P w (Builtin.«list.__eq__.loop» ⟨[.ref a,.ref b,rawInt i,rawInt 2],[]⟩) (fun A R s=>s.heap.get? a=some ⟨.type "list",da,.seq xs n,sa⟩∧s.heap.get? b=some ⟨.type "list",db,.seq ys m,sb⟩∧
      (∀ j (h1:j<xs.size) (h2:j<ys.size),EqW P w A.in1 s xs[j] ys[j])∧R (.ok (.ret (.bool true))) s)
  | 0, i, hk => fun A R s h => by
    obtain⟨hp,g,d,tk,os⟩:=s
    obtain⟨ha,hb,he,hR⟩:=h
    wp_walk using wpAny_loadPart' ha,wpAny_loadPart' hb
    have z1:xs[((i:Nat):Int).toNat]?=none:=by simp;omega
    have z2:ys[((i:Nat):Int).toNat]?=none:=by simp;omega
    rw [z1,z2]
    wp_walk using wpAny_loadPart' ha,wpAny_loadPart' hb
    show R (.ok (.ret (.bool (xs.size == ys.size)))) _
    rw [hz,beq_self_eq_true]
    exact hR
  | k + 1, i, hk => fun A R s h => by
    obtain⟨hp,g,d,tk,os⟩:=s
    obtain⟨ha,hb,he,hR⟩:=h
    wp_walk using wpAny_loadPart' ha,wpAny_loadPart' hb
    have i1:i<xs.size:=by omega
    have i2:i<ys.size:=by omega
    have z1:xs[((i:Nat):Int).toNat]?=some xs[i]:=by simp [i1]
    have z2:ys[((i:Nat):Int).toNat]?=some ys[i]:=by simp [i2]
    rw [z1,z2]
    refine wpAny_bind (he i i1 i2 _ _ ?_)
    wp_walk
    have up:((i:Int)+1)=((i+1:Nat):Int):=Int.natCast_succ i
    rw [up]
    refine⟨plainId_quiet plain_eq_loop _,codeAny_builtin entry_eq_loop ?_⟩
    rw [Around.under_plainId plain_eq_loop _]
    exact e'D a b xs ys n m da db sa sb hz k (i+1) (by omega) A R _ ⟨ha,hb,he,hR⟩
theorem r'X (a b:Addr) (xs ys:Array Value) (n m:Nat) (da db:Option Addr) (sa sb:Array (Option Value)) (hz:xs.size=ys.size) :
    MeetsIn P w (Builtin.«list.__eq__» ⟨[.ref a,.ref b],[]⟩) (fun A R s=>s.heap.get? a=some ⟨.type "list",da,.seq xs n,sa⟩∧s.heap.get? b=some ⟨.type "list",db,.seq ys m,sb⟩∧
      (∀ j (h1:j<xs.size) (h2:j<ys.size),EqW P w A.in1 s xs[j] ys[j])∧R (.ok (.ret (.bool true))) s):=fun A R s h=>by
  obtain⟨hp,g,d,tk,os⟩:=s
  obtain⟨ha,hb,he,hR⟩:=h
  have sub:=AutoSeq1.sub_list_list
  have same:¬ (xs.size != ys.size)=true:=by simp [hz]
  wp_walk using wpAny_loadPart' ha,wpAny_loadPart' hb
  refine⟨plainId_quiet plain_eq_loop _,codeAny_builtin entry_eq_loop ?_⟩
  rw [Around.under_plainId plain_eq_loop _]
  exact e'D a b xs ys n m da db sa sb hz _ 0 rfl A R _ ⟨ha,hb,he,hR⟩
end
theorem RcW.lists {a b:Addr} {xs ys:Array Value} (ha:s.heap.IsList a xs) (hb:s.heap.IsList b ys) (hz:xs.size=ys.size) (hu:A.units<cLine) (he:∀ j (h1:j<xs.size) (h2:j<ys.size),EqW P w A.in1 s xs[j] ys[j]):RcW P w A s (.ref a) (.ref b):=fun E Q q=>by
  obtain⟨⟨ca,da,xa,sa⟩,oa,ka,n,va⟩:=id ha
  obtain⟨⟨cb,db,xb,sb⟩,ob,kb,m,vb⟩:=id hb
  simp only at ka va kb vb
  subst ka va kb vb
  refine wpAny_richCompare_same_room (op:=.Eq) (T:="list") ⟨_,oa,rfl⟩ ⟨_,ob,rfl⟩ PySem.F.slot_list_eq ?_ hu
  exact call_meetsIn PySem.F.slot_list_eq ⟨_,oa,rfl⟩ PySem.F.entry_list_eq (PySem.F.args_list_eq_2 _ _) (r'X a b xs ys n m da db sa sb hz) ⟨oa,ob,he,⟨(fun z=>nomatch z),q⟩⟩
end
def EqN (K:PySem.W.Frag) (H:Hp):Nat→V→V→Prop
  | 0, x, y => flatV x = true ∧ x = y
  | n + 1, x, y => (flatV x = true ∧ x = y) ∨ ∃ p q, x = .ref p ∧ y = .ref q ∧ ((∃ xs ys, ((SqT K H p xs ∧ SqT K H q ys) ∨ (SqL K H p xs ∧ SqL K H q ys)) ∧ All2 (EqN K H n) xs ys) ∨
      ∃ ka kb,Rd H p (.dK ka)∧Rd H q (.dK kb)∧DEqT K H n ka kb)
section
variable {X:Cx} {pins:List (Addr×Obj)} {σ:St} {H:Hp} {s:Shared}
theorem k'z {A:Around} {p q:Addr} {xs ys:List V} (I:Inv X pins σ H s) (hk:(SqT X.K H p xs∧SqT X.K H q ys)∨(SqL X.K H p xs∧SqL X.K H q ys)) (hu:A.units<cLine) (hl:xs.length=ys.length)
    (he:∀ (j:Nat) x y u v,xs[j]?=some x→ys[j]?=some y→RelV x u→RelV y v→EqW X.prog X.w A.in1 s u v):RcW X.prog X.w A s (.ref p) (.ref q):=by
  have fin:∀ (us vs:List Value),Vals xs us→Vals ys vs→∀ j (h1:j<us.toArray.size) (h2:j<vs.toArray.size),EqW X.prog X.w A.in1 s us.toArray[j] vs.toArray[j]:=by
    intro us vs r1 r2 j h1 h2
    have l1:=r1.length
    have l2:=r2.length
    simp only [List.size_toArray] at h1 h2
    obtain⟨u,e1,ru⟩:=r1.get (i:=j) (x:=xs[j]'(by omega)) (by simp)
    obtain⟨v,e2,rv⟩:=r2.get (i:=j) (x:=ys[j]'(by omega)) (by simp)
    obtain⟨_,f1⟩:=List.getElem?_eq_some_iff.mp e1
    obtain⟨_,f2⟩:=List.getElem?_eq_some_iff.mp e2
    have g1:us.toArray[j]'(by simpa using h1)=u:=by simpa using f1
    have g2:vs.toArray[j]'(by simpa using h2)=v:=by simpa using f2
    rw [g1,g2]
    exact he j _ _ u v (by simp) (by simp) ru rv
  rcases hk with ⟨h1,h2⟩ | ⟨h1,h2⟩
  · obtain⟨us,r1,t1,_⟩:=I.tuple h1
    obtain⟨vs,r2,t2,_⟩:=I.tuple h2
    have l1:=r1.length
    have l2:=r2.length
    exact RcW.tuples t1 t2 (by simp;omega) hu (fin us vs r1 r2)
  · obtain⟨us,r1,t1,_⟩:=I.list h1
    obtain⟨vs,r2,t2,_⟩:=I.list h2
    have l1:=r1.length
    have l2:=r2.length
    exact RcW.lists t1.isList t2.isList (by simp;omega) hu (fin us vs r1 r2)
theorem i'H {A:Around} {p q:Addr} {n:Nat} {ka kb:List (Key×V)} (I:Inv X pins σ H s) (h1:Rd H p (.dK ka)) (h2:Rd H q (.dK kb)) (hu:A.units+n+1<cLine) (h:DEqT X.K H n ka kb):RcW X.prog X.w A s (.ref p) (.ref q):=fun E Q hq=>by
  obtain⟨hl,al⟩:=h
  obtain⟨z1,y1,va,r1,d1⟩:=b'C I.hok h1
  obtain⟨z2,y2,vb,r2,d2⟩:=b'C I.hok h2
  have l1:ka.length=va.length:=KV.length r1
  have l2:kb.length=vb.length:=KV.length r2
  refine PySem.W.keq_eq (r:=true) y1 y2 d1 d2 (by omega) (fun _=>q's I (by rw [a'P];omega) r2 r1 al) ?_
  have e:(va.length == vb.length && true)=true:=by simp;omega
  rw [e]
  exact hq
theorem h'n (I:Inv X pins σ H s):∀ (n:Nat) {A:Around} {x y:V} {u v:Value},EqN X.K H n x y→RelV x u→RelV y v→A.units+n+1<cLine→EqW X.prog X.w A s u v
  | 0, A, x, y, u, v, ⟨f, e⟩, ru, rv, _ => by
    subst e
    have z:=b'r (A:=A) (s:=s) ru rv f f
    rw [c'k f] at z
    exact .of_at z
  | n + 1, A, x, y, u, v, .inl ⟨f, e⟩, ru, rv, _ => by
    subst e
    have z:=b'r (A:=A) (s:=s) ru rv f f
    rw [c'k f] at z
    exact .of_at z
  | n + 1, A, x, y, u, v, .inr ⟨p, q, hx, hy, .inl ⟨xs, ys, hk, al⟩⟩, ru, rv, hu => by
    subst hx hy
    cases ru
    cases rv
    refine .of_refs (k'z I hk (by omega) al.length fun j x y u v h1 h2 r1 r2=>?_)
    exact h'n I n (A:=A.in1) (al.get h1 h2) r1 r2 (by rw [a'P];omega)
  | n + 1, A, x, y, u, v, .inr ⟨p, q, hx, hy, .inr ⟨ka, kb, h1, h2, h⟩⟩, ru, rv, hu => by
    subst hx hy
    cases ru
    cases rv
    exact .of_refs (i'H I h1 h2 (by omega) h)
end
section
variable {X:Cx}
def rEqN (K:PySem.W.Frag):R2:=fun x y H Q=>∃ n p q xs ys,n≤40∧x=.ref p∧y=.ref q∧((SqT K H p xs∧SqT K H q ys)∨(SqL K H p xs∧SqL K H q ys))∧All2 (EqN K H n) xs ys∧Q (.bl true) H
end
end L2
namespace Sf
def gd (a b:Int):Int:=(Int.gcd a b:Nat)
theorem f'P (a:Int) (h:0≤a):gd a 0=a:=by
  unfold gd;rw [Int.gcd_zero_right];omega
theorem h'o {a b:Int} (ha:0≤a) (hb:0<b):gd b (a % b)=gd a b:=by
  unfold gd Int.gcd
  have e:(a % b).natAbs=a.natAbs % b.natAbs:=by
    obtain⟨m,rfl⟩:=Int.eq_ofNat_of_zero_le ha
    obtain⟨n,rfl⟩:=Int.eq_ofNat_of_zero_le (Int.le_of_lt hb)
    simp only [Int.natAbs_natCast]
    rw [← Int.natCast_emod,Int.natAbs_natCast]
  rw [e,Nat.gcd_comm b.natAbs,Nat.gcd_comm a.natAbs,Nat.gcd_rec b.natAbs a.natAbs]
theorem c'B {a b:Int} (h:b≠0):0<gd a b:=by
  unfold gd
  have:=Int.gcd_pos_of_ne_zero_right a h
  omega
theorem h'p (a b:Int):gd (a.natAbs:Int) (b.natAbs:Int)=gd a b:=by
  unfold gd;simp [Int.gcd]
theorem e'E (a:Int):(if a<0 then -a else a)=(a.natAbs:Int):=by split<;>omega
theorem k'A (a b:Int):gd (if a<0 then -a else a) (if b<0 then -b else b)=gd a b:=by
  rw [e'E,e'E,h'p]
def dv (t b:Int):Int:=if b<0 then -(gd t b) else gd t b
theorem j'W {t b:Int} (h:b≠0):dv t b≠0:=by
  have:=c'B (a:=t) h
  unfold dv;split<;>omega
theorem e'F (t b:Int):gd t b ∣ t:=Int.gcd_dvd_left ..
theorem c'Z (t b:Int):gd t b ∣ b:=Int.gcd_dvd_right ..
theorem i'I (t b:Int):dv t b ∣ t:=by
  unfold dv;split
  · exact Int.neg_dvd.mpr (e'F t b)
  · exact e'F t b
theorem i'J (t b:Int):dv t b ∣ b:=by
  unfold dv;split
  · exact Int.neg_dvd.mpr (c'Z t b)
  · exact c'Z t b
theorem j'X {x d:Int} (h:d ∣ x):x.fdiv d*d=x:=by
  rw [Int.fdiv_mul_cancel h]
theorem e'G {t b:Int} (h:b≠0):t.fdiv (dv t b)=(Rat.divInt t b).num:=by
  have hd:=j'W (t:=t) h
  refine Int.eq_of_mul_eq_mul_right hd ?_
  rw [j'X (i'I t b),Rat.num_divInt]
  have e:b.gcd t=t.gcd b:=Int.gcd_comm ..
  rw [e]
  have hg:((t.gcd b:Nat):Int) ∣ t:=Int.gcd_dvd_left ..
  have hp:=c'B (a:=t) h
  unfold gd at hp
  unfold dv gd
  rw [Int.mul_ediv_assoc _ hg]
  obtain⟨k,hk⟩:=hg
  generalize hG:((t.gcd b:Nat):Int)=g at *
  have hk2:t / g=k:=by rw [hk];exact Int.mul_ediv_cancel_left k (by omega)
  rw [hk2]
  split
  · rename_i hb
    rw [Int.sign_eq_neg_one_of_neg hb];grind
  · rename_i hb
    rw [Int.sign_eq_one_of_pos (by omega)];grind
theorem e'H {t b:Int} (h:b≠0):b.fdiv (dv t b)=((Rat.divInt t b).den:Int):=by
  have hd:=j'W (t:=t) h
  refine Int.eq_of_mul_eq_mul_right hd ?_
  rw [j'X (i'J t b),Rat.den_divInt,if_neg h]
  have e:b.gcd t=t.gcd b:=Int.gcd_comm ..
  rw [e]
  have hg:(t.gcd b) ∣ b.natAbs:=by rw [← Int.ofNat_dvd_left];exact Int.gcd_dvd_right ..
  have hp:=c'B (a:=t) h
  unfold gd at hp
  unfold dv gd
  obtain⟨k,hk⟩:=hg
  have hk2:b.natAbs / t.gcd b=k:=by rw [hk];exact Nat.mul_div_cancel_left k (by omega)
  rw [hk2]
  generalize t.gcd b=g at *
  have hk3:(b.natAbs:Int)=(g:Int)*(k:Int):=by rw [hk];exact Int.natCast_mul ..
  split<;>grind
theorem den_pos (q:Rat):0<(q.den:Int):=by have:=q.den_nz;omega
end Sf
namespace Sf
def Sm (n:Nat) (q:Rat):Prop:=q.num.natAbs<2 ^ n∧q.den<2 ^ n
theorem e'a {t b:Int} (h:b≠0):(Rat.divInt t b).num.natAbs≤t.natAbs∧(Rat.divInt t b).den≤b.natAbs:=by
  obtain⟨m,hm,e1,e2⟩:=Rat.divInt_num_den (n:=t) (d:=b) h (n':=(Rat.divInt t b).num) (d':=(Rat.divInt t b).den) (z':=(Rat.divInt t b).den_nz) (c:=(Rat.divInt t b).reduced) rfl
  have hm1:1≤m.natAbs:=by omega
  have a1:=congrArg Int.natAbs e1
  have a2:=congrArg Int.natAbs e2
  rw [Int.natAbs_mul] at a1 a2
  rw [Int.natAbs_natCast] at a2
  constructor
  · rw [a1];exact Nat.le_mul_of_pos_right _ hm1
  · rw [a2];exact Nat.le_mul_of_pos_right _ hm1
theorem b'V {n:Nat} {t b:Int} (h:b≠0) (h1:t.natAbs<2 ^ n) (h2:b.natAbs<2 ^ n):Sm n (Rat.divInt t b):=
  ⟨Nat.lt_of_le_of_lt (e'a h).1 h1,Nat.lt_of_le_of_lt (e'a h).2 h2⟩
theorem d'o (a b:Rat):a+b=Rat.divInt (a.num*b.den+b.num*a.den) (a.den*b.den):=by
  rw [Rat.add_def',← Rat.divInt_ofNat]
  rfl
theorem d'p (a b:Rat):a - b=Rat.divInt (a.num*b.den - b.num*a.den) (a.den*b.den):=by
  rw [Rat.sub_def',← Rat.divInt_ofNat]
  rfl
theorem b'H (a b:Rat):a*b=Rat.divInt (a.num*b.num) (a.den*b.den):=by
  rw [Rat.mul_def',← Rat.divInt_ofNat]
  rfl
theorem b'J (a b:Rat):(a.den*b.den:Int)≠0:=by
  have h1:=den_pos a
  have h2:=den_pos b
  exact Int.ne_of_gt (Int.mul_pos h1 h2)
theorem n'S {x y n m:Nat} (h1:x<2 ^ n) (h2:y<2 ^ m):x*y<2 ^ (n+m):=by
  rw [Nat.pow_add]
  exact Nat.mul_lt_mul'' h1 h2
theorem a'O {x y:Int} {n m:Nat} (h1:x.natAbs<2 ^ n) (h2:y.natAbs<2 ^ m):(x*y).natAbs<2 ^ (n+m):=by
  rw [Int.natAbs_mul];exact n'S h1 h2
theorem g'A {x y:Int} {n:Nat} (h1:x.natAbs<2 ^ n) (h2:y.natAbs<2 ^ n):(x+y).natAbs<2 ^ (n+1):=by
  rw [Nat.pow_succ];omega
theorem g'B {x y:Int} {n:Nat} (h1:x.natAbs<2 ^ n) (h2:y.natAbs<2 ^ n):(x - y).natAbs<2 ^ (n+1):=by
  rw [Nat.pow_succ];omega
theorem b'b {n:Nat} {q:Rat} (h:Sm n q):(q.den:Int).natAbs<2 ^ n:=by rw [Int.natAbs_natCast];exact h.2
theorem up2 {x:Int} {n m:Nat} (h:x.natAbs<2 ^ n) (k:n≤m):x.natAbs<2 ^ m:=Nat.lt_of_lt_of_le h (Nat.pow_le_pow_right (by decide) k)
theorem n'T {n m:Nat} {a b:Rat} (h1:Sm n a) (h2:Sm m b):Sm (n+m+1) (a+b):=by
  rw [d'o]
  refine b'V (b'J a b) ?_ ?_
  · refine g'A (a'O h1.1 (b'b h2)) ?_
    rw [Nat.add_comm n m];exact a'O h2.1 (b'b h1)
  · exact up2 (a'O (b'b h1) (b'b h2)) (by omega)
theorem n'U {n m:Nat} {a b:Rat} (h1:Sm n a) (h2:Sm m b):Sm (n+m+1) (a - b):=by
  rw [d'p]
  refine b'V (b'J a b) ?_ ?_
  · refine g'B (a'O h1.1 (b'b h2)) ?_
    rw [Nat.add_comm n m];exact a'O h2.1 (b'b h1)
  · exact up2 (a'O (b'b h1) (b'b h2)) (by omega)
theorem n'V {n m:Nat} {a b:Rat} (h1:Sm n a) (h2:Sm m b):Sm (n+m) (a*b):=by
  rw [b'H]
  exact b'V (b'J a b) (a'O h1.1 h2.1) (a'O (b'b h1) (b'b h2))
end Sf
namespace Sf
section
variable {κ:Type} [DecidableEq κ]
abbrev FL (κ:Type):=List (κ×Rat)
def gt (m:FL κ) (k:κ):Option Rat:=(m.find? fun p=>decide (p.1=k)).map (·.2)
def pt (m:FL κ) (k:κ) (q:Rat):FL κ:=if (m.any fun p=>decide (p.1=k))=true then m.map (fun p=>if p.1=k then (p.1,q) else p) else m++[(k,q)]
def val:FL κ→(κ→Rat)→Rat
  | [], _ => 0
  | p :: r, P => p.2 * P p.1 + val r P
theorem b's {p:κ×Rat} {r:FL κ} {k:κ} (e:p.1=k):gt (p :: r) k=some p.2:=by simp [gt,List.find?_cons,e]
theorem b't {p:κ×Rat} {r:FL κ} {k:κ} (e:¬ p.1=k):gt (p :: r) k=gt r k:=by simp [gt,List.find?_cons,e]
theorem e'I (k:κ):∀ m:FL κ,(m.any fun p=>decide (p.1=k))=(gt m k).isSome
  | [] => rfl
  | p :: r => by
    rw [List.any_cons]
    by_cases e:p.1=k
    · simp [b's e,e]
    · rw [b't e,e'I k r];simp [e]
theorem f'Q (P:κ→Rat):∀ a b:FL κ,val (a++b) P=val a P+val b P
  | [], b => by simp [val, Rat.zero_add]
  | p :: r, b => by simp only [List.cons_append, val, f'Q P r b]; grind
theorem f'R (k j:κ) (q:Rat):∀ m:FL κ,gt (m.map (fun p=>if p.1=k then (p.1,q) else p)) j=(gt m j).map fun x=>if j=k then q else x
  | [] => rfl
  | p :: r => by
    have ih:=f'R k j q r
    rw [List.map_cons]
    by_cases h:p.1=k
    · rw [if_pos h]
      by_cases e:p.1=j
      · rw [b's (p:=(p.1,q)) e,b's e];simp [← e,h]
      · rw [b't (p:=(p.1,q)) e,b't e,ih]
    · rw [if_neg h]
      by_cases e:p.1=j
      · rw [b's e,b's e];simp [← e,h]
      · rw [b't e,b't e,ih]
theorem f'S (k j:κ) (q:Rat):∀ m:FL κ,gt m k=none→gt (m++[(k,q)]) j=if j=k then some q else gt m j
  | [], _ => by
    by_cases e:k=j
    · rw [if_pos e.symm];exact b's (p:=(k,q)) e
    · rw [if_neg (Ne.symm e)];exact b't (p:=(k,q)) e
  | p :: r, h => by
    have hk:¬ p.1=k:=fun z=>by rw [b's z] at h;cases h
    rw [b't hk] at h
    have ih:=f'S k j q r h
    rw [List.cons_append]
    by_cases e:p.1=j
    · rw [b's e,b's e,if_neg (fun z=>hk (e.trans z))]
    · rw [b't e,b't e,ih]
theorem q't (m:FL κ) (k j:κ) (q:Rat):gt (pt m k q) j=if j=k then some q else gt m j:=by
  unfold pt
  by_cases h:(m.any fun p=>decide (p.1=k))=true
  · rw [if_pos h,f'R]
    rw [e'I] at h
    by_cases e:j=k
    · subst e
      obtain⟨x,hx⟩:=Option.isSome_iff_exists.mp h
      simp [hx]
    · simp [e]
  · rw [if_neg h]
    refine f'S k j q m ?_
    rw [e'I] at h
    cases z:gt m k with
    | none=>rfl
    | some _=>rw [z] at h;simp at h
end
end Sf
namespace Sf
section
variable {κ:Type} [DecidableEq κ]
end
end Sf
namespace Sf
section
variable {κ:Type} [DecidableEq κ]
end
end Sf
namespace Sf
section
variable {κ:Type} [DecidableEq κ]
end
end Sf
namespace Sf
section
variable {κ:Type} [DecidableEq κ]
end
end Sf
namespace Sf
section
variable {κ:Type} [DecidableEq κ]
end
end Sf
namespace Sf
open PySem L2
end Sf
namespace Vc
open PySem L2 Sf
def Le (F F':Hp):Prop:=∀ a u,(∀ o w,u≠.frz o w)→Rd F a u→Rd F' a u
theorem Le.refl (F:Hp):Le F F:=fun _ _ _ h=>h
theorem Le.trans {F G H:Hp} (a:Le F G) (b:Le G H):Le F H:=fun x u n h=>b x u n (a x u n h)
theorem Le.of {F F':Hp} (e:Same F F'):Le F F':=fun a u _ h=>e.rd h
theorem Le.tup {K:PySem.W.Frag} {F F':Hp} {a:Addr} {xs:List V} (e:Le F F') (h:SqT K F a xs):SqT K F' a xs:=by
  rcases h with h | h
  · exact .inl (e _ _ (by intro o w z;cases z) h)
  · exact .inr h
theorem Le.lst {K:PySem.W.Frag} {F F':Hp} {a:Addr} {xs:List V} (e:Le F F') (h:SqL K F a xs):SqL K F' a xs:=by
  rcases h with h | h
  · exact .inl (e _ _ (by intro o w z;cases z) h)
  · exact .inr h
theorem Le.dic {F F':Hp} {a:Addr} {kvs:List (Key×V)} (e:Le F F') (h:Rd F a (.dK kvs)):Rd F' a (.dK kvs):=e _ _ (by intro o w z;cases z) h
def Fz (S:Addr→Prop) (F:Hp):Prop:=∀ a o u,F a=some (.frz o u)→S a
abbrev S0:Addr→Prop:=fun _=>False
def frzd (F:Hp):Addr→Prop:=fun a=>∃ o u,F a=some (.frz o u)
structure Gr0 (F H F' H':Hp):Prop where
  h:Same H H'
  f:Same F F'
  s:Same F' H'
  n:∀ a u,F' a=some u→F a=none→H a=none
structure Gr (F H F' H':Hp):Prop extends Gr0 F H F' H' where
  z:Fz (frzd F) F'
theorem Gr0.refl {F H:Hp} (s:Same F H):Gr0 F H F H:=⟨Same.refl _,Same.refl _,s,(fun a u h e=>by rw [h] at e;cases e)⟩
theorem Fz.refl (F:Hp):Fz (frzd F) F:=fun _ o u h=>⟨o,u,h⟩
theorem Gr.of {F H F' H':Hp} (g:Gr0 F H F' H') (z:Fz (frzd F) F'):Gr F H F' H':=⟨g,z⟩
theorem Gr.le {F H F' H':Hp} (g:Gr F H F' H'):Le F F':=.of g.f
theorem Gr.fz {F H F' H':Hp} {S:Addr→Prop} (g:Gr F H F' H') (c:Fz S F):Fz S F':=fun a o u h=>by
  obtain⟨o',u',e⟩:=g.z a o u h
  exact c a o' u' e
theorem Gr0.trans {F H F1 H1 F2 H2:Hp} (a:Gr0 F H F1 H1) (b:Gr0 F1 H1 F2 H2):Gr0 F H F2 H2:=
  ⟨a.h.trans b.h,a.f.trans b.f,b.s,(fun x u h e=>match q:F1 x with
    | none=>a.h.free (b.n x u h q)
    | some w=>a.n x w q e)⟩
theorem Gr0.tr {F H F1 H1 F2 H2:Hp} (a:Gr0 F H F1 H1) (b:Gr F1 H1 F2 H2):Gr0 F H F2 H2:=a.trans b.toGr0
theorem Gr.own {F H F' H':Hp} (g:Gr F H F' H') {o:Addr} {u:HO} (eF:F o=none) (eH:H o=some u):F' o=none:=by
  cases q:F' o with
  | none => rfl
  | some w => have := g.n o w q eF; rw [eH] at this; cases this
theorem al {F H:Hp} {o:HO} {R:V→Hp→Prop} (wd:Same F H) (nf:∀ x u,o≠.frz x u) (h:∀ (p:Addr) (F' H':Hp),Gr F H F' H'→F' p=some o→R (.ref p) H'):∀ p,H p=none→R (.ref p) (upd H p o):=fun p hp=>by
  have fp:F p=none:=wd.free hp
  refine h p (upd F p o) (upd H p o) ⟨⟨Same.upd hp,Same.upd fp,?_,fun a u e q=>?_⟩,fun a x u e=>?_⟩ a'o
  · intro b u e
    by_cases hb:b=p
    · subst hb;rw [a'o] at e ⊢;exact e
    · rw [a'h hb] at e ⊢;exact wd b u e
  · by_cases hb:a=p
    · subst hb;exact hp
    · rw [a'h hb,q] at e;cases e
  · by_cases hb:a=p
    · subst hb;rw [a'o] at e;exact absurd (Option.some.inj e) (nf x u)
    · rw [a'h hb] at e;exact⟨_,_,e⟩
theorem al1 {F H:Hp} {o:HO} {p:Addr} {R:Hp→Prop} (wd:Same F H) (nf:∀ x u,o≠.frz x u) (hp:H p=none) (h:∀ F' H':Hp,Gr F H F' H'→F' p=some o→R H'):R (upd H p o):=by
  have:=al (R:=fun v H'=>∀ q,v=.ref q→q=p→R H') wd nf (fun q F' H' g e z hz hq=>by cases hz;subst hq;exact h F' H' g e) p hp
  exact this p rfl rfl
theorem al2 {F H:Hp} {o:HO} {p:Addr} (wd:Same F H) (nf:∀ x u,o≠.frz x u) (hp:H p=none):∃ F',Gr F H F' (upd H p o)∧F' p=some o:=
  al1 (R:=fun H'=>∃ F',Gr F H F' H'∧F' p=some o) wd nf hp fun F' _ g e=>⟨F',g,e⟩
theorem frz {Fb Hb F H:Hp} {S:Addr→Prop} {p:Addr} {o:HO} (gb:Gr0 Fb Hb F H) (cm:Fz S F) (hb:Hb p=none) (hf:F p=none) (hH:H p=some o) (nf:∀ x u,o≠.frz x u):∃ F',Gr0 Fb Hb F' H∧Fz S F'∧Same F F'∧F' p=some o∧∀ a,a≠p→F' a=F a:=by
  refine⟨upd F p o,⟨gb.h,gb.f.trans (Same.upd hf),?_,fun a u e q=>?_⟩,fun a x u e=>?_,Same.upd hf,a'o,fun _ e=>a'h e⟩
  · intro b u e
    by_cases hb:b=p
    · subst hb;rw [a'o] at e;cases e;exact hH
    · rw [a'h hb] at e;exact gb.s b u e
  · by_cases hb':a=p
    · subst hb';exact hb
    · rw [a'h hb'] at e;exact gb.n a u e q
  · by_cases hb':a=p
    · subst hb';rw [a'o] at e;exact absurd (Option.some.inj e) (nf x u)
    · rw [a'h hb'] at e;exact cm a x u e
def fz (X:Hp) (a:Addr) (o:HO):Hp:=fun b=>if b=a then (if X a=none then none else some o) else X b
theorem a'C {X:Hp} {a b:Addr} {o:HO} (h:b≠a):fz X a o b=X b:=by unfold fz;rw [if_neg h]
theorem a'W {X:Hp} {a:Addr} {o:HO}:fz X a o a=if X a=none then none else some o:=by unfold fz;rw [if_pos rfl]
theorem c'H {X:Hp} {a:Addr} {o u:HO} (h:fz X a o a=some u):X a≠none∧some o=some u:=by
  rw [a'W] at h
  split at h
  · cases h
  · rename_i q;exact⟨q,h⟩
theorem q'u {Fb Hb F H:Hp} {a:Addr} (z:HO) (gb:Gr0 Fb Hb F H):Gr0 (fz Fb a z) (fz Hb a z) (fz F a z) (upd H a z):=by
  refine⟨fun b u e=>?_,fun b u e=>?_,fun b u e=>?_,fun b u e q=>?_⟩
  · by_cases hb:b=a
    · subst hb;rw [a'o];exact (c'H e).2
    · rw [a'C hb] at e;rw [a'h hb];exact gb.h b u e
  · by_cases hb:b=a
    · subst hb
      rw [a'W] at e ⊢
      split at e
      · cases e
      · rename_i h
        obtain⟨w,hw⟩:=Option.ne_none_iff_exists'.mp h
        rw [if_neg (by rw [gb.f _ _ hw];intro z;cases z)];exact e
    · rw [a'C hb] at e ⊢;exact gb.f b u e
  · by_cases hb:b=a
    · subst hb;rw [a'o];exact (c'H e).2
    · rw [a'C hb] at e;rw [a'h hb];exact gb.s b u e
  · by_cases hb:b=a
    · subst hb
      rw [a'W] at e q ⊢
      split at e
      · cases e
      · rename_i h
        obtain⟨w,hw⟩:=Option.ne_none_iff_exists'.mp h
        split at q
        · rename_i hf
          rw [if_pos (gb.n _ _ hw hf)]
        · cases q
    · rw [a'C hb] at e q ⊢;exact gb.n b u e q
theorem e's {F:Hp} {a:Addr} {ob:Obj} {kvs:List (Key×V)} (hF:F a=none∨F a=some (.dK kvs)):Le F (fz F a (.frz ob (.dK kvs))):=fun b u n h=>by
  by_cases hb:b=a
  · subst hb
    rcases hF with hF | hF
    · rcases h with h | ⟨o,h⟩<;>(rw [hF] at h;cases h)
    · rcases h with h | ⟨o,h⟩
      · rw [hF] at h
        cases h
        refine .inr ⟨ob,?_⟩
        rw [a'W,if_neg (by rw [hF];intro z;cases z)]
      · rw [hF] at h;cases h
  · rcases h with h | ⟨o,h⟩
    · exact .inl (by rw [a'C hb];exact h)
    · exact .inr ⟨o,by rw [a'C hb];exact h⟩
theorem thw {Fb Hb F H F' H':Hp} {S:Addr→Prop} {a:Addr} {ob:Obj} {kvs:List (Key×V)} {R:Hp→Prop} (gb:Gr0 Fb Hb F H) (hH:H a=some (.dK kvs)) (hF:F a=none∨F a=some (.dK kvs))
    (gz:Gr0 (fz Fb a (.frz ob (.dK kvs))) (fz Hb a (.frz ob (.dK kvs))) F' H') (sF:F' a=fz F a (.frz ob (.dK kvs)) a) (cm:Fz (fun b=>b=a∨S b) F')
    (h:∀ F'' H'':Hp,Gr0 Fb Hb F'' H''→Fz S F''→Le F' F''→F'' a=F a→H'' a=some (.dK kvs)→(∀ b,b≠a→F'' b=F' b)→(∀ b,b≠a→H'' b=H' b)→R H''):R (upd H' a (.dK kvs)):=by
  have nn:F'  a=none∨F' a=some (.frz ob (.dK kvs)):=by
    rw [sF,a'W];split
    · exact .inl rfl
    · exact .inr rfl
  refine h (fz F' a (.dK kvs)) (upd H' a (.dK kvs)) ⟨fun b u e=>?_,fun b u e=>?_,fun b u e=>?_,fun b u e q=>?_⟩ (fun b o u e=>?_) (fun b u n e=>?_) ?_ a'o (fun b hb=>a'C hb) (fun b hb=>a'h hb)
  · by_cases hb:b=a
    · subst hb;rw [a'o];have:=gb.h _ _ e;rw [hH] at this;exact this
    · rw [a'h hb];exact gz.h b u (by rw [a'C hb];exact e)
  · by_cases hb:b=a
    · subst hb
      have e1:=gb.f _ _ e
      rcases hF with hF | hF
      · rw [hF] at e1;cases e1
      · rw [hF] at e1
        have e2:F' b=some (.frz ob (.dK kvs)):=by rw [sF,a'W,if_neg (by rw [hF];intro z;cases z)]
        rw [a'W,if_neg (by rw [e2];intro z;cases z)]
        exact e1
    · rw [a'C hb];exact gz.f b u (by rw [a'C hb];exact e)
  · by_cases hb:b=a
    · subst hb;rw [a'o];exact (c'H e).2
    · rw [a'C hb] at e;rw [a'h hb];exact gz.s b u e
  · by_cases hb:b=a
    · subst hb
      rw [a'W] at e
      split at e
      · cases e
      · rename_i hn
        rw [sF,a'W] at hn
        split at hn
        · exact absurd rfl hn
        · rename_i hf
          obtain⟨w,hw⟩:=Option.ne_none_iff_exists'.mp hf
          exact gb.n _ _ hw q
    · rw [a'C hb] at e
      have:=gz.n b u e (by rw [a'C hb];exact q)
      rw [a'C hb] at this
      exact this
  · by_cases hb:b=a
    · subst hb;cases (c'H e).2
    · rw [a'C hb] at e
      rcases cm b o u e with x | x
      · exact absurd x hb
      · exact x
  · by_cases hb:b=a
    · subst hb
      rcases nn with nn | nn
      · rcases e with e | ⟨o,e⟩<;>(rw [nn] at e;cases e)
      · rcases e with e | ⟨o,e⟩
        · rw [nn] at e;cases e;exact absurd rfl (n _ _)
        · rw [nn] at e;cases e;refine .inl ?_;rw [a'W,if_neg (by rw [nn];intro z;cases z)]
    · rcases e with e | ⟨o,e⟩
      · exact .inl (by rw [a'C hb];exact e)
      · exact .inr ⟨o,by rw [a'C hb];exact e⟩
  · rw [a'W,sF,a'W]
    rcases hF with hF | hF<;>rw [hF]
    · rfl
    · rfl
theorem f'T {F:Hp} {a:Addr} {kvs:List (Key×V)} (c:Fz S0 F) (h:Rd F a (.dK kvs)):F a=some (.dK kvs):=by
  rcases h with h | ⟨o,h⟩
  · exact h
  · exact (c _ _ _ h).elim
section
variable {α:Type}
def gtd (m:List (Str×α)) (k:Str):Option α:=(m.find? fun p=>decide (p.1=k)).map (·.2)
def ptd (m:List (Str×α)) (k:Str) (y:α):List (Str×α):=if (m.any fun p=>decide (p.1=k))=true then m.map (fun p=>if p.1=k then (p.1,y) else p) else m++[(k,y)]
end
def bl (n:Nat):Nat:=if n=0 then 0 else Nat.log2 n+1
theorem bl_lt {n k:Nat}:n<2 ^ k↔bl n≤k:=by
  unfold bl
  by_cases h:n=0
  · subst h;simp [Nat.two_pow_pos]
  · rw [if_neg h,← Nat.log2_lt h];omega
theorem f'U (n:Nat):n<2 ^ bl n:=bl_lt.mpr (Nat.le_refl _)
def bi (x:Int):Nat:=bl x.natAbs
def bs (q:Rat):Nat:=max (bl q.num.natAbs) (bl q.den)
theorem q'v {q:Rat} {n:Nat} (h:bs q≤n):Sm n q:=⟨bl_lt.mpr (by unfold bs at h;omega),bl_lt.mpr (by unfold bs at h;omega)⟩
theorem e't {q:Rat} {n:Nat} (h:Sm n q):bs q≤n:=by
  have h1:=bl_lt.mp h.1
  have h2:=bl_lt.mp h.2
  unfold bs
  omega
theorem c'I (q:Rat):Sm (bs q) q:=q'v (Nat.le_refl _)
theorem a'N (a b:Rat):bs (a+b)≤bs a+bs b+1:=e't (n'T (c'I a) (c'I b))
theorem c'C (a b:Rat):bs (a - b)≤bs a+bs b+1:=e't (n'U (c'I a) (c'I b))
theorem a'Q (a b:Rat):bs (a*b)≤bs a+bs b:=e't (n'V (c'I a) (c'I b))
theorem f'V:bs 0=1:=by decide +kernel
theorem e'u {x:Int} {k:Nat} (h:x.natAbs<2 ^ k):bi x≤k:=bl_lt.mp h
theorem b'h {x:Int} {k:Nat} (h:bi x≤k):x.natAbs<2 ^ k:=bl_lt.mpr h
theorem e'J (x y:Int):bi (x*y)≤bi x+bi y:=bl_lt.mp (a'O (f'U _) (f'U _))
theorem a'F {x:Int} (k:Nat) (h:x.natAbs<2 ^ k):bi x≤k:=bl_lt.mp h
theorem a'G (q:Rat):bi q.num≤bs q:=by unfold bi bs;omega
theorem a't (q:Rat):bi (q.den:Int)≤bs q:=by unfold bi bs;rw [Int.natAbs_natCast];omega
theorem b'd {t b:Int} (h:b≠0) {k:Nat} (h1:bi t≤k) (h2:bi b≤k):bs (Rat.divInt t b)≤k:=e't (b'V h (b'h h1) (b'h h2))
theorem c'J {x y:Int} (h1:bi x≤60000000) (h2:bi y≤60000000):CMulX x y:=.inr ⟨60000000,Nat.le_refl _,b'h h1,b'h h2⟩
theorem q'w {x y:Int} (h1:-18446744073709551616<x) (h2:x<18446744073709551616):CMulX x y:=.inl (.inl ⟨by omega,by omega⟩)
theorem g'C {x y:Int} (h1:-18446744073709551616<y) (h2:y<18446744073709551616):CMulX x y:=.inl (.inr ⟨by omega,by omega⟩)
section
variable {σ:St} {H:Hp} {Q:VK} {D:Ends} {K:PySem.W.Frag}
end
section
variable {K:PySem.W.Frag} {H:Hp}
end
section
open PySem.Spec PyProof.Rows
variable {X:Cx}
end
theorem n'W {α:Type} {m:List (Str×α)} (n:(m.map (·.1)).Nodup) (k:Str) (y:α):((ptd m k y).map (·.1)).Nodup:=by
  unfold ptd
  split
  · rw [List.map_map]
    have e:(m.map ((·.1) ∘ fun p=>if p.1=k then (p.1,y) else p))=m.map (·.1):=by
      apply List.map_congr_left
      intro p _
      simp only [Function.comp]
      split<;>rfl
    rw [e];exact n
  · rename_i h
    rw [List.map_append,List.nodup_append]
    refine⟨n,by simp,?_⟩
    intro a ha b hb e
    simp at hb
    subst hb
    subst e
    obtain⟨p,hp,hk⟩:=List.mem_map.mp ha
    apply h
    rw [List.any_eq_true]
    exact⟨p,hp,by simp [hk]⟩
end Vc
namespace Vc
open PySem L2 Sf
section
variable {X:Cx} {pins:List (Addr×Obj)} {σ:St} {F H:Hp} {s:Shared} {Au:Around}
theorem k'B:∀ {x y:V} {u:Value},RelV x u→RelV y u→x=y:=by
  intro x y u h1 h2
  cases x<;>cases y<;>simp only [RelV] at h1 h2<;>first
    | rfl
    | (subst h1;simp at h2;subst h2;rfl)
    | (subst h1;simp at h2;done)
    | (obtain⟨t,rfl⟩:=h1;obtain⟨t',e⟩:=h2;simp at e;rw [e.1])
    | (obtain⟨t,rfl⟩:=h1;simp at h2;done)
    | (obtain⟨t,rfl⟩:=h2;simp at h1;done)
theorem d'a:∀ {xs ys:List V} {us:List Value},Vals xs us→Vals ys us→xs=ys
  | [], [], _, _, _ => rfl
  | _ :: _, _ :: _, _, .cons h t, .cons h' t' => by rw [k'B h h', d'a t t']
  | [], _ :: _, _, h, h' => by cases h; cases h'
  | _ :: _, [], _, h, h' => by cases h'; cases h
theorem k'C {a:Addr} {xs ys:List V} (I:Inv X pins σ H s) (h1:SqT X.K H a xs) (h2:SqT X.K H a ys):xs=ys:=by
  obtain⟨us,r1,⟨o1,g1,c1,n1,d1⟩,_⟩:=I.tuple h1
  obtain⟨ws,r2,⟨o2,g2,c2,n2,d2⟩,_⟩:=I.tuple h2
  rw [g1] at g2
  cases g2
  rw [d1] at d2
  injection d2 with e _
  have:us=ws:=by simpa using e
  subst this
  exact d'a r1 r2
theorem k'D {a:Addr} {xs ys:List V} (I:Inv X pins σ H s) (h1:SqL X.K H a xs) (h2:SqL X.K H a ys):xs=ys:=by
  obtain⟨us,r1,p1,_⟩:=I.list h1
  obtain⟨ws,r2,p2,_⟩:=I.list h2
  obtain⟨o1,g1,c1,n1,d1⟩:=p1.isList
  obtain⟨o2,g2,c2,n2,d2⟩:=p2.isList
  rw [g1] at g2
  cases g2
  rw [d1] at d2
  injection d2 with e _
  have:us=ws:=by simpa using e
  subst this
  exact d'a r1 r2
theorem f'W {a b:Addr} {xs ys:List V} (I:Inv X pins σ H s) (h1:SqT X.K H a xs) (h2:SqT X.K H b ys) (hu:Au.units<cLine) (hl:xs.length=ys.length) (e:Nat→Bool)
    (he:∀ (j:Nat) x y u v,xs[j]?=some x→ys[j]?=some y→RelV x u→RelV y v→SeqAt.EqAt Au.in1 s u v (e j)):SeqAt.RcAt Au s (.ref a) (.ref b) ((List.range xs.length).all e):=by
  obtain⟨us,r1,t1,_⟩:=I.tuple h1
  obtain⟨ws,r2,t2,_⟩:=I.tuple h2
  have l1:=r1.length
  have l2:=r2.length
  have z:=SeqAt.RcAt.tuples (A:=Au) (e:=e) t1 t2 hu (fun j h1 h2=>?_)
  · have e0:((List.range (min us.toArray.size ws.toArray.size)).all e && us.toArray.size == ws.toArray.size)=(List.range xs.length).all e:=by
      simp only [List.size_toArray]
      have e1:min us.length ws.length=xs.length:=by omega
      have e2:(us.length == ws.length)=true:=by simp;omega
      rw [e1,e2,Bool.and_true]
    rw [e0] at z
    exact z
  · simp only [List.size_toArray] at h1 h2
    obtain⟨u,e1,ru⟩:=r1.get (i:=j) (x:=xs[j]'(by omega)) (by simp)
    obtain⟨v,e2,rv⟩:=r2.get (i:=j) (x:=ys[j]'(by omega)) (by simp)
    obtain⟨_,f1⟩:=List.getElem?_eq_some_iff.mp e1
    obtain⟨_,f2⟩:=List.getElem?_eq_some_iff.mp e2
    have g1:us.toArray[j]'(by simpa using h1)=u:=by simpa using f1
    have g2:ws.toArray[j]'(by simpa using h2)=v:=by simpa using f2
    rw [g1,g2]
    exact he j _ _ u v (by simp) (by simp) ru rv
theorem f'X {a b:Addr} {xs ys:List V} (I:Inv X pins σ H s) (h1:SqL X.K H a xs) (h2:SqL X.K H b ys) (hu:Au.units<cLine) (hl:xs.length=ys.length) (e:Nat→Bool)
    (he:∀ (j:Nat) x y u v,xs[j]?=some x→ys[j]?=some y→RelV x u→RelV y v→SeqAt.EqAt Au.in1 s u v (e j)):SeqAt.RcAt Au s (.ref a) (.ref b) ((List.range xs.length).all e):=by
  obtain⟨us,r1,t1,_⟩:=I.list h1
  obtain⟨ws,r2,t2,_⟩:=I.list h2
  have l1:=r1.length
  have l2:=r2.length
  have z:=SeqAt.RcAt.lists (A:=Au) (e:=e) t1.isList t2.isList (by simp;omega) hu (fun j h1 h2=>?_)
  · have e0:(List.range us.toArray.size).all e=(List.range xs.length).all e:=by
      simp only [List.size_toArray]
      rw [← l1]
    rw [e0] at z
    exact z
  · simp only [List.size_toArray] at h1 h2
    obtain⟨u,e1,ru⟩:=r1.get (i:=j) (x:=xs[j]'(by omega)) (by simp)
    obtain⟨v,e2,rv⟩:=r2.get (i:=j) (x:=ys[j]'(by omega)) (by simp)
    obtain⟨_,f1⟩:=List.getElem?_eq_some_iff.mp e1
    obtain⟨_,f2⟩:=List.getElem?_eq_some_iff.mp e2
    have g1:us.toArray[j]'(by simpa using h1)=u:=by simpa using f1
    have g2:ws.toArray[j]'(by simpa using h2)=v:=by simpa using f2
    rw [g1,g2]
    exact he j _ _ u v (by simp) (by simp) ru rv
end
theorem i'K {Au:Around} {s:Shared} {i j:Int} {u v:Value} (r1:RelV (.int i) u) (r2:RelV (.int j) v):SeqAt.EqAt Au s u v (decide (i=j)):=by
  have z:=b'r (A:=Au) (s:=s) r1 r2 rfl rfl
  have e:eqV (.int i) (.int j)=decide (i=j):=by show (i == j)=_;rw [Bool.beq_eq_decide_eq]
  rw [e] at z
  exact z
section
variable {X:Cx}
end
theorem e'K {K:PySem.W.Frag} {H:Hp}:∀ {n:Nat} {x y:V},EqT K H n x y→EqT K H (n+1) x y
  | 0, _, _, h => .inl h
  | n + 1, _, _, .inl h => .inl h
  | n + 1, _, _, .inr ⟨p, q, xs, ys, h1, h2, h3, h4⟩ => .inr ⟨p, q, xs, ys, h1, h2, h3, by
    have gen:∀ {xs ys:List V},All2 (EqT K H n) xs ys→All2 (EqT K H (n+1)) xs ys:=by
      intro xs
      induction xs with
      | nil=>intro ys h;cases ys with
        | nil=>exact True.intro
        | cons _ _=>exact h.elim
      | cons x xs ih=>intro ys h;cases ys with
        | nil=>exact h.elim
        | cons y ys=>exact⟨e'K h.1,ih h.2⟩
    exact gen h4⟩
theorem e'L {K:PySem.W.Frag} {H:Hp} {n m:Nat} {x y:V} (h:EqT K H n x y) (k:n≤m):EqT K H m x y:=by
  induction k with
  | refl => exact h
  | step _ ih => exact e'K ih
theorem k'E {K:PySem.W.Frag} {H:Hp} {n:Nat} {ka kb:List (Key×V)} (h:DEqT K H n ka kb):DEqT K H (n+1) ka kb:=⟨h.1,fun k v m=>by obtain⟨y,e1,e2⟩:=h.2 k v m;exact⟨y,e1,e'K e2⟩⟩
theorem h'q {K:PySem.W.Frag} {H:Hp}:∀ {n:Nat} {x y:V},EqN K H n x y→EqN K H (n+1) x y
  | 0, _, _, h => .inl h
  | n + 1, _, _, .inl h => .inl h
  | n + 1, _, _, .inr ⟨p, q, h1, h2, .inr ⟨ka, kb, g1, g2, g3⟩⟩ => .inr ⟨p, q, h1, h2, .inr ⟨ka, kb, g1, g2, k'E g3⟩⟩
  | n + 1, _, _, .inr ⟨p, q, h1, h2, .inl ⟨xs, ys, h3, h4⟩⟩ => .inr ⟨p, q, h1, h2, .inl ⟨xs, ys, h3, by
    have gen:∀ {xs ys:List V},All2 (EqN K H n) xs ys→All2 (EqN K H (n+1)) xs ys:=by
      intro xs
      induction xs with
      | nil=>intro ys h;cases ys with
        | nil=>exact True.intro
        | cons _ _=>exact h.elim
      | cons x xs ih=>intro ys h;cases ys with
        | nil=>exact h.elim
        | cons y ys=>exact⟨h'q h.1,ih h.2⟩
    exact gen h4⟩⟩
theorem i'L {K:PySem.W.Frag} {H:Hp} {n m:Nat} {x y:V} (h:EqN K H n x y) (k:n≤m):EqN K H m x y:=by
  induction k with
  | refl => exact h
  | step _ ih => exact h'q ih
section
variable {K:PySem.W.Frag} {F H:Hp} {Q:VK}
end
end Vc
namespace L2
open PySem PySem.Spec PyProof.Rows
def clStep (env:Env) (cs:List (Str×Addr)) (y:Str×NameKind):List (Str×Addr):=if (y.2 == .free)=true then (match env.cells.lookup y.1 with | some a=>(y.1,a) :: cs | none=>cs) else cs
def clOf (scope:Scope) (env:Env):List (Str×Addr):=scope.names.foldl (clStep env) []
def clAll (scope:Scope) (env:Env):Bool:=scope.names.all fun y=>!(y.2 == .free) || (env.cells.lookup y.1).isSome
theorem b'W {scope:Scope} {env:Env} (h:clAll scope env=true):closureFor scope env=pure (clOf scope env):=by
  unfold closureFor clOf
  unfold clAll at h
  have gen:∀ (l:List (Str×NameKind)) (cs:List (Str×Addr)),(l.all fun y=>!(y.2 == .free) || (env.cells.lookup y.1).isSome)=true→
      (forIn l cs fun x r=>match x with | (name,kind)=>if (kind == NameKind.free)=true then (do let a ← cellOf env name;pure (ForInStep.yield ((name,a) :: r))) else pure (ForInStep.yield r):Sem (List (Str×Addr)))=pure (l.foldl (clStep env) cs):=by
    intro l
    induction l with
    | nil=>intro cs _;rfl
    | cons y r ih=>
      intro cs ha
      rw [List.all_cons,Bool.and_eq_true] at ha
      obtain⟨n,k⟩:=y
      rw [List.forIn_cons,List.foldl_cons]
      by_cases hk:(k == NameKind.free)=true
      · have h1:=ha.1
        simp only [hk,Bool.not_true,Bool.false_or] at h1
        obtain⟨a,e⟩:=Option.isSome_iff_exists.mp h1
        have e1:clStep env cs (n,k)=(n,a) :: cs:=by unfold clStep;simp [hk,e]
        have e2:cellOf env n=pure a:=by unfold cellOf;rw [e]
        rw [e1,← ih _ ha.2]
        simp only [hk,if_true,e2,pure_bind]
      · have e1:clStep env cs (n,k)=cs:=by unfold clStep;simp [hk]
        rw [e1,← ih _ ha.2]
        simp only [hk,if_false,pure_bind,Bool.false_eq_true]
  have:=gen scope.names [] h
  simp only [this,pure_bind]
theorem b'i {scope:Scope} {env:Env} {x:Str} {c:Addr} (h:(clOf scope env).lookup x=some c):env.cells.lookup x=some c:=by
  unfold clOf at h
  have gen:∀ (l:List (Str×NameKind)) (cs:List (Str×Addr)),(cs.lookup x=some c→env.cells.lookup x=some c)→(l.foldl (clStep env) cs).lookup x=some c→env.cells.lookup x=some c:=by
    intro l
    induction l with
    | nil=>intro cs f g;exact f g
    | cons y r ih=>
      intro cs f g
      rw [List.foldl_cons] at g
      refine ih _ (fun z=>?_) g
      unfold clStep at z
      split at z
      · split at z
        · rename_i a e
          rw [List.lookup_cons] at z
          by_cases hx:(x == y.1)=true
          · rw [hx] at z
            have:=eq_of_beq hx
            subst this
            simp at z
            rw [← z];exact e
          · simp only [hx] at z
            exact f z
        · exact f z
      · exact f z
  exact gen scope.names [] (fun z=>by cases z) h
theorem e'M {scope:Scope} {env:Env} {x:Str} (ha:clAll scope env=true) (h:scope.names.lookup x=some .free):∃ c,(clOf scope env).lookup x=some c:=by
  unfold clOf
  unfold clAll at ha
  have keep:∀ (l:List (Str×NameKind)) (cs:List (Str×Addr)),(∃ c,cs.lookup x=some c)→∃ c,(l.foldl (clStep env) cs).lookup x=some c:=by
    intro l
    induction l with
    | nil=>intro cs f;exact f
    | cons y r ih=>
      intro cs f
      rw [List.foldl_cons]
      refine ih _ ?_
      unfold clStep
      split
      · split
        · rw [List.lookup_cons]
          by_cases hx:(x == y.1)=true
          · rw [hx];exact⟨_,rfl⟩
          · simp only [hx];exact f
        · exact f
      · exact f
  have gen:∀ (l:List (Str×NameKind)) (cs:List (Str×Addr)),(l.all fun y=>!(y.2 == .free) || (env.cells.lookup y.1).isSome)=true→l.lookup x=some .free→∃ c,(l.foldl (clStep env) cs).lookup x=some c:=by
    intro l
    induction l with
    | nil=>intro cs _ f;cases f
    | cons y r ih=>
      intro cs ha f
      rw [List.all_cons,Bool.and_eq_true] at ha
      obtain⟨n,k⟩:=y
      rw [List.foldl_cons]
      rw [List.lookup_cons] at f
      by_cases hx:(x == n)=true
      · rw [hx] at f
        have:=eq_of_beq hx
        subst this
        simp at f
        subst f
        refine keep r _ ?_
        have h1:(env.cells.lookup x).isSome=true:=ha.1
        obtain⟨a,e⟩:=Option.isSome_iff_exists.mp h1
        refine⟨a,?_⟩
        unfold clStep
        rw [if_pos (show ((NameKind.free) == NameKind.free)=true from rfl)]
        dsimp only
        rw [e]
        dsimp only
        rw [List.lookup_cons,hx]
      · simp only [hx] at f
        exact ih _ ha.2 f
  exact gen scope.names [] ha h
theorem f'C {scope:Scope} {env:Env} {x:Str} (hcell:∀ y∈scope.names,y.2≠.cell) (h:(relabel scope env).names.lookup x=some .cell∨(relabel scope env).names.lookup x=some .free):scope.names.lookup x=some .free:=by
  unfold relabel at h
  dsimp only at h
  have gen:∀ l:List (Str×NameKind),(∀ y∈l,y.2≠.cell)→((l.map fun (n,k)=>if (k == NameKind.free && env.scope.kind == .function && env.kindOf n == some .cell) then (n,NameKind.cell) else (n,k)).lookup x=some .cell∨(l.map fun (n,k)=>if (k == NameKind.free && env.scope.kind == .function && env.kindOf n == some .cell) then (n,NameKind.cell) else (n,k)).lookup x=some .free)→l.lookup x=some .free:=by
    intro l
    induction l with
    | nil=>intro _ f;rcases f with f | f<;>cases f
    | cons y r ih=>
      intro hc f
      obtain⟨n,k⟩:=y
      have hk:k≠.cell:=hc (n,k) (List.mem_cons_self ..)
      rw [List.map_cons] at f
      rw [List.lookup_cons]
      by_cases hx:(x == n)=true
      · rw [hx]
        dsimp only at f ⊢
        by_cases hf:(k == NameKind.free && env.scope.kind == .function && env.kindOf n == some .cell)=true
        · have:k=.free:=by
            simp only [Bool.and_eq_true] at hf
            exact eq_of_beq hf.1.1
          rw [this]
        · rw [if_neg hf,List.lookup_cons,hx] at f
          simp only [Option.some.injEq] at f
          rcases f with f | f
          · exact absurd f hk
          · rw [f]
      · simp only [hx]
        refine ih (fun y hy=>hc y (List.mem_cons_of_mem _ hy)) ?_
        dsimp only at f
        split at f<;>(rw [List.lookup_cons] at f;simp only [hx] at f;exact f)
  exact gen scope.names hcell h
inductive Wk:St→St→Prop
  | nil : Wk [] []
  | non {a b : St} {x : Option V} : Wk a b → Wk (none :: a) (x :: b)
  | som {a b : St} {v : V} : Wk a b → Wk (some v :: a) (some v :: b)
theorem Wk.length {a b:St} (h:Wk a b):b.length=a.length:=by
  induction h with
  | nil => rfl
  | non _ ih => simp [ih]
  | som _ ih => simp [ih]
theorem Wk.get {a b:St} (h:Wk a b):∀ {i:Nat} {v:V},a[i]?=some (some v)→b[i]?=some (some v):=by
  induction h with
  | nil => intro i v e; simp at e
  | non _ ih =>
    intro i v e
    cases i with
    | zero=>simp at e
    | succ i=>simpa using ih (i:=i) (v:=v) (by simpa using e)
  | som _ ih =>
    intro i v e
    cases i with
    | zero=>simpa using e
    | succ i=>simpa using ih (i:=i) (v:=v) (by simpa using e)
theorem d'I:∀ a:St,Wk a a
  | [] => .nil
  | none :: a => .non (d'I a)
  | some _ :: a => .som (d'I a)
def pickS (ix:List (Option Nat)) (σ:St):St:=ix.map fun o=>match o with | none=>none | some i=>(σ[i]?).getD none
def PickOk (X:Cx) (sc:Scope):List Str→List (Option Nat)→Prop
  | [], [] => True
  | _ :: N, none :: ix => PickOk X sc N ix
  | x :: N, some i :: ix => X.N[i]? = some x ∧ X.env.kindOf x = some .cell ∧ sc.names.lookup x = some .free ∧ PickOk X sc N ix
  | _, _ => False
theorem PickOk.length {X:Cx} {sc:Scope}:∀ {N:List Str} {ix:List (Option Nat)},PickOk X sc N ix→ix.length=N.length
  | [], [], _ => rfl
  | _ :: N, none :: ix, h => by rw [List.length_cons, List.length_cons, PickOk.length (X := X) (sc := sc) (N := N) (ix := ix) h]
  | _ :: N, some i :: ix, h => by rw [List.length_cons, List.length_cons, PickOk.length (X := X) (sc := sc) (N := N) (ix := ix) h.2.2.2]
  | [], _ :: _, h => h.elim
  | _ :: _, [], h => h.elim
theorem PickOk.get {X:Cx} {sc:Scope} {σ:St}:∀ {N:List Str} {ix:List (Option Nat)} {j:Nat} {x:Str} {v:V},PickOk X sc N ix→N[j]?=some x→(pickS ix σ)[j]?=some (some v)→∃ i:Nat,X.N[i]?=some x∧X.env.kindOf x=some .cell∧sc.names.lookup x=some .free∧σ[i]?=some (some v)
  | _ :: N, none :: ix, 0, x, v, h, e1, e2 => by simp [pickS] at e2
  | _ :: N, none :: ix, j + 1, x, v, h, e1, e2 => PickOk.get (N := N) (ix := ix) (j := j) h (by simpa using e1) (by simpa [pickS] using e2)
  | y :: N, some i :: ix, 0, x, v, h, e1, e2 => by
    simp at e1
    subst e1
    refine⟨i,h.1,h.2.1,h.2.2.1,?_⟩
    simp [pickS] at e2
    cases q:σ[i]? with
    | none=>rw [q] at e2;simp at e2
    | some o=>rw [q] at e2;simp at e2;rw [e2]
  | y :: N, some i :: ix, j + 1, x, v, h, e1, e2 => PickOk.get (N := N) (ix := ix) (j := j) h.2.2.2 (by simpa using e1) (by simpa [pickS] using e2)
  | [], [], _, _, _, _, e1, _ => by simp at e1
  | [], _ :: _, _, _, _, h, _, _ => h.elim
  | _ :: _, [], _, _, _, h, _, _ => h.elim
theorem e'N {scope:Scope} {env:Env} {x:Str} (h:scope.names.lookup x=some .free):(relabel scope env).names.lookup x=some .cell∨(relabel scope env).names.lookup x=some .free:=by
  unfold relabel
  dsimp only
  have gen:∀ l:List (Str×NameKind),l.lookup x=some .free→((l.map fun (n,k)=>if (k == NameKind.free && env.scope.kind == .function && env.kindOf n == some .cell) then (n,NameKind.cell) else (n,k)).lookup x=some .cell∨(l.map fun (n,k)=>if (k == NameKind.free && env.scope.kind == .function && env.kindOf n == some .cell) then (n,NameKind.cell) else (n,k)).lookup x=some .free):=by
    intro l
    induction l with
    | nil=>intro f;cases f
    | cons y r ih=>
      intro f
      obtain⟨n,k⟩:=y
      rw [List.lookup_cons] at f
      rw [List.map_cons]
      by_cases hx:(x == n)=true
      · rw [hx] at f
        simp at f
        subst f
        dsimp only
        split
        · left;rw [List.lookup_cons,hx]
        · right;rw [List.lookup_cons,hx]
      · simp only [hx] at f
        dsimp only
        split<;>(rw [List.lookup_cons];simp only [hx];exact ih f)
  exact gen scope.names h
def cxComp (X:Cx) (scope:Scope) (N:List Str) (C:Addr) (s:Shared) (H:Hp) (fp:List Addr) (pl:List (Addr×Obj)):Cx where
  prog:=X.prog
  w:=X.w
  K:=X.K
  mg:=X.mg
  base:=X.base
  A:=X.A
  N:=N
  s₀:=s
  H₀:=H
  env:=compEnvC scope (clOf scope X.env) C X.env
  outer:=X.stack
  stack:=X.stack
  ex:=fp
  fn:=fun _=>false
  calm:=X.calm
  pn:=X.pn++pl
  xe:=fun _ _=>False
def PTs (Y:Cx) (ifs:List Expr) (t:TT):Prop:=
  ∀ (pins:List (Addr×Obj)) (s:Shared) (σ:St) (H:Hp) (Q:Bool→Hp→Prop),Inv Y pins σ H s→t σ H Q→
    wpAny (model Y.prog Y.w) Y.A (forIn ifs true fun c r=>if r=true then do let ok ← isTrue c Y.env (eval c Y.env);pure (ForInStep.yield ok) else pure (ForInStep.yield r)) (TP Y pins σ Q) Y.xe s
def tYes:TT:=fun _ H Q=>Q true H
theorem k'F {Y:Cx}:PTs Y [] tYes:=fun _ _ _ H _ I h=>wpAny_tests_nil ⟨H,I,h⟩
theorem k'G {Y:Cx} {c:Expr} {t:TT} (h:PT Y c t):PTs Y [c] t:=fun pins s σ H Q I q=>wpAny_tests_one (h pins s σ H Q I q)
theorem e'O {prog:Program} {w:World} {A:Around} {R:Result→Shared→Prop} {s:Shared} {elt target iter:Expr} {ifs:List Expr} {scope:Scope} {pos:Pos} {it acc:Value} {env:Env} (I:Nat→Shared→Prop)
    (turn:∀ n s,I n s→wpAny (model prog w) A (pyNext it) (fun r s₁=>match r with
      | none=>R (.ok .next) s₁
      | some v=>wpAny (model prog w) A (letOwnedTupleGo target it v) (fun _ s₀=>wpAny (model prog w) A (assign target env v) (fun _ s₂=>
          wpAny (model prog w) A (forIn ifs true fun c r=>if r=true then do let ok ← isTrue c env (eval c env);pure (ForInStep.yield ok) else pure (ForInStep.yield r)) (fun ok s₃=>
            if ok=true then wpAny (model prog w) A (eval elt env) (fun x s₄=>
              wpAny (model prog w) A (call (.builtin "list.append") [acc,x]) (fun _ s₅=>∃ m,m<n∧I m s₅) (notedBy (model prog w) A env fun e s'=>R (.error e) s') s₄) (notedBy (model prog w) A env fun e s'=>R (.error e) s') s₃
            else ∃ m,m<n∧I m s₃) (notedBy (model prog w) A env fun e s'=>R (.error e) s') s₂) (notedBy (model prog w) A env fun e s'=>R (.error e) s') s₀) (notedBy (model prog w) A env fun e s'=>R (.error e) s') s₁) (notedBy (model prog w) A env fun e s'=>R (.error e) s') s)
    (n:Nat) (h:I n s):codeAny (model prog w) A (.compLoop (.ListComp elt [⟨target,iter,ifs,0⟩] scope pos) 0 it acc env) R s:=by
  refine codeAny_loop rfl I (fun n s hI=>?_) n h
  show wpAny _ A ((compTurn (.ListComp elt [⟨target,iter,ifs,0⟩] scope pos) 0 it acc env).onRaise (fun x=>do noteFrame x env;theTreesLotGoes x)) _ _ s
  refine wpAny_noted ?_
  rw [compTurn_list]
  refine wpAny_bind (wpAny_standAt (wpAny_bind (wpAny_mono (turn n s hI) (fun r s₁ h₁=>?_) fun _ _ h'=>h')))
  cases r with
  | none => exact wpAny_pure h₁
  | some v =>
    refine wpAny_bind (wpAny_mono h₁ (fun _ s₀ h₀=>?_) fun _ _ h'=>h')
    refine wpAny_bind (wpAny_mono h₀ (fun _ s₂ h₂=>wpAny_bind (wpAny_mono h₂ (fun ok s₃ h₃=>?_) fun _ _ h'=>h')) fun _ _ h'=>h')
    cases ok with
    | false=>exact wpAny_pure ⟨rfl,h₃⟩
    | true=>
      exact wpAny_bind (wpAny_bind (wpAny_mono h₃ (fun x s₄ h₄=>wpAny_bind (wpAny_mono h₄ (fun _ s₅ h₅=>wpAny_pure (wpAny_pure ⟨rfl,h₅⟩)) fun _ _ h'=>h')) fun _ _ h'=>h'))
end L2
namespace L2
open PySem PySem.Spec PyProof.Rows
section
variable {X:Cx} {pins:List (Addr×Obj)} {σ:St} {H:Hp} {s:Shared} {scope:Scope} {N:List Str} {fp:List Addr} {C:Addr}
theorem k'H (I:Inv X pins σ H s) (hC:s.heap.objs.size≤C) (hf:∀ b∈fp,FpOk X pins H b) (hfo:∀ b∈fp,∃ o,s.heap.get? b=some o) (hkind:scope.kind=.function) (hcell:∀ y∈scope.names,y.2≠.cell) (hall:clAll scope X.env=true) :
    (cxComp X scope N C s H fp pins).Ok where
  mod:=I.ok.mod
  kind:=hkind
  glob:=I.ok.glob
  blt:=I.ok.blt
  above:=hC
  inj:=fun x y c h1 h2=>I.ok.inj x y c (b'i h1) (b'i h2)
  has:=fun x h=>e'M hall (f'C hcell h)
  cab:=fun x c h=>by cases h
  hd:=I.ok.hd
  frames:=I.ok.frames
  stk:=.inl rfl
  exf:=fun b hb=>⟨fun z=>by obtain⟨o,e⟩:=hfo b hb;have:=Heap.lt_size e;subst z;exact absurd (Nat.lt_of_lt_of_le this hC) (Nat.lt_irrefl _),fun x c e=>(hf b hb).2.2.2.2.1 x c (b'i e)⟩
  bs:=I.bs
  bsz:=Nat.le_trans I.ok.bsz I.sz
  noex:=fun b o e hb=>by
    rcases (hf b hb).2.2.2.1 with z | z
    · exact I.ok.noex b o e z
    · exact absurd (Nat.lt_of_lt_of_le (Heap.lt_size e) (Nat.le_trans I.ok.bsz z)) (Nat.lt_irrefl _)
  exfs:=fun b hb hm=>by
    rcases List.mem_cons.mp (I.stkSub b hm) with z | z
    · exact (hf b hb).2.1 z
    · exact (hf b hb).2.2.1 z
  funs:=I.stack
  frf:=I.stkFree
theorem i'M {h':Heap} {m:Str→Option Value} {t':Nat} {ix:List (Option Nat)} (I:Inv X pins σ H s) (ok:(cxComp X scope N C s H fp pins).Ok) (hC:s.heap.objs.size≤C) (k:∀ b o,s.heap.get? b=some o→h'.get? b=some o) (hn:h'.Ns C m) (hpk:PickOk X scope N ix) (hall:clAll scope X.env=true) :
    Inv (cxComp X scope N C s H fp pins) [] (pickS ix σ) H { s with heap:=h',toks:=t' } where
  ok:=ok
  os:=rfl
  bare:=I.bare
  base:=Un.kept k
  loc:=⟨m,hn,fun i x v e1 e2 e3=>by
    obtain⟨i',hN,hk,hfr,hσ⟩:=hpk.get e1 e2
    obtain⟨m0,_,hl⟩:=I.loc
    obtain⟨u,r,look⟩:=hl i' x v hN hσ (.inr (.inl hk))
    rcases look with ⟨z,_⟩ | ⟨_,c,hc,o,ho,hd⟩
    · rw [hk] at z;cases z
    · obtain⟨c',hc'⟩:=e'M hall hfr
      have e:=b'i hc'
      rw [hc] at e
      cases e
      exact⟨u,r,.inr ⟨e'N hfr,c,hc',o,k _ _ ho,hd⟩⟩⟩
  cell:=fun x c e=>by
    obtain⟨v,o,ho,hd⟩:=I.cell x c (b'i e)
    exact⟨v,o,k _ _ ho,hd⟩
  free:=I.hok.fresh hC
  freeC:=fun x c e=>I.freeC x c (b'i e)
  pin:=fun p hp=>by
    have hp':p∈X.pn++pins:=by simpa [cxComp] using hp
    obtain⟨e,n,ne,nf,d⟩:=I.pin p hp'
    refine⟨k _ _ e,n,fun z=>?_,fun z=>?_,d⟩
    · have:=Heap.lt_size e
      have z':p.1=C:=z
      rw [z'] at this
      exact absurd (Nat.lt_of_lt_of_le this hC) (Nat.lt_irrefl _)
    · rcases List.mem_cons.mp (I.stkSub p.1 z) with q | q
      · exact ne q
      · exact nf q
  hok:=I.hok.kept k
  len:=by
    have:=hpk.length
    simp [pickS,cxComp,this]
theorem h'r {σ':St} {H':Hp} {s':Shared} {D:Addr} {acc:List V} {its:List Value} {pl:List (Addr×Obj)} (I:Inv X pins σ H s) (J:Inv (cxComp X scope N C s H fp pins) pl σ' H' s') (hD:D=s.heap.objs.size) (hf:∀ b∈fp,FpOk X pins H b)
    (hl:s'.heap.PlainList D its.toArray) (hv:Vals acc its) (hz:acc.length≤sizeLine) (hn:H' D=none):Inv X pins σ (upd H' D (.lst acc)) s':=by
  have hDn:∀ b o,s.heap.get? b=some o→b≠D:=fun b o e z=>by rw [z,hD] at e;exact absurd (Heap.lt_size e) (Nat.lt_irrefl _)
  have hHD:H D=none:=I.hok.fresh (by rw [hD];exact Nat.le_refl _)
  refine I.call' (ch:=fp) J.os ⟨J.base.keep,J.base.slot,fun b o e n hx=>?_,J.base.there,fun b xs e=>?_,fun b o u e=>?_,fun b ps e=>?_⟩ (fun b u e=>?_) J.bare fun b hb=>⟨(hf b hb).2.2.2.1,(hf b hb).2.1,(hf b hb).2.2.2.2.1,(hf b hb).2.2.2.2.2⟩
  · rw [a'h (hDn b o e)];exact J.base.free b o e n hx
  · rw [a'h (a'y e hHD)];exact J.base.tups b xs e
  · rw [a'h (a'y e hHD)];exact J.base.frzs b o u e
  · obtain⟨mo,e2⟩:=J.base.tbls b ps e
    exact⟨mo,by rw [a'h (a'y e hHD)];exact e2⟩
  · by_cases hb:b=D
    · subst hb
      rw [a'o] at e
      cases e
      obtain⟨n,g⟩:=hl
      exact⟨hz,its,n,hv,g⟩
    · rw [a'h hb] at e
      exact (J.hok b u e).stay (fun _ _ _ q=>q) (fun c q=>by rw [a'h (a'y q hn)];exact q) fun c xs q=>by rw [a'h (a'y q hn)];exact q
end
def tComp (wi:TI) (g:TG) (ti:TT) (te:TE) (ix:List (Option Nat)):TE:=fun σ H Q=>wi σ H fun J H1=>∃ W:Nat→Nat→List V→Hp→Prop,(∃ m,W 0 m [] H1)∧∀ i m acc H,W i m acc H→
  (J.stop i H∧acc.length≤sizeLine∧∀ p,H p=none→Q (.ref p) (upd H p (.lst acc)))∨
  (J.go i H∧∃ N:List V→Hp→Prop,(∀ acc' H',N acc' H'→∃ m',m'<m∧W (i+1) m' acc' H')∧∀ x H',J.yld i H x H'→g x (pickS ix σ) H' fun σ2 H2=>Wk (pickS ix σ) σ2∧ti σ2 H2 fun b H3=>if b=true then te σ2 H3 fun v H4=>acc.length<sizeLine∧N (acc++[v]) H4 else N acc H3)
section
variable {X:Cx} {elt target iter:Expr} {ifs:List Expr} {scope:Scope} {pos:Pos} {N:List Str} {ix:List (Option Nat)} {wi:TI} {g:TG} {ti:TT} {te:TE}
theorem e'P {pins:List (Addr×Obj)} {σ:St} {H2:Hp} {s2:Shared} {Q:VK} {RR:Value→Addr→Result→Shared→Prop} {E:Value→Shared→Prop} {it:Addr} {fp:List Addr} {tn:Nat→Heap→Prop} {J:It}
    (hc:X.calm=true) (hg:∀ C s H fp pl,PG (cxComp X scope N C s H fp pl) target g) (ht:∀ C s H fp pl,PTs (cxComp X scope N C s H fp pl) ifs ti) (he:∀ C s H fp pl,PE (cxComp X scope N C s H fp pl) elt te)
    (hkind:scope.kind=.function) (hcell:∀ y∈scope.names,y.2≠.cell) (hall:clAll scope X.env=true) (hpk:PickOk X scope N ix)
    (I2:Inv X pins σ H2 s2) (T:Turn X.prog X.w X.K target J fp it tn) (st2:tn 0 s2.heap) (f2:∀ b∈fp,FpOk X pins H2 b)
    (h:∃ W:Nat→Nat→List V→Hp→Prop,(∃ m,W 0 m [] H2)∧∀ i m acc H,W i m acc H→
      (J.stop i H∧acc.length≤sizeLine∧∀ p,H p=none→Q (.ref p) (upd H p (.lst acc)))∨
      (J.go i H∧∃ N:List V→Hp→Prop,(∀ acc' H',N acc' H'→∃ m',m'<m∧W (i+1) m' acc' H')∧∀ x H',J.yld i H x H'→g x (pickS ix σ) H' fun σ2 H2=>Wk (pickS ix σ) σ2∧ti σ2 H2 fun b H3=>if b=true then te σ2 H3 fun v H4=>acc.length<sizeLine∧N (acc++[v]) H4 else N acc H3))
    (hR:∀ (D C:Addr) (s':Shared) (H':Hp) (m:Str→Option Value),Inv X pins σ H' s'→s'.heap.Ns C m→H' C=none→s2.heap.objs.size≤C→Q (.ref D) H'→RR (.ref D) C (.ok .next) s') :
    wpAny (model X.prog X.w) X.A (newList []) (fun acc s₃=>wpAny (model X.prog X.w) X.A (newFunctionEnv scope X.env.globals (clOf scope X.env) [] X.env.qual none .none (some X.env)) (fun cenv s₄=>
      codeAny (model X.prog X.w) X.A (.compStart (.ListComp elt [⟨target,iter,ifs,0⟩] scope pos) 0 (.ref it) acc { cenv with scope:=relabel scope X.env }) (RR acc cenv.locals) s₄) E s₃) E s2:=by
  obtain⟨W,⟨m0,w0⟩,turn⟩:=h
  refine wpAny_newObj_type (wpAny_newFunctionEnv hcell (by intro y hy;simp at hy) (fun h₁ hns₁ hsb₁=>?_) hkind)
  dsimp only at hns₁ hsb₁ ⊢
  generalize hH2:s2.heap.push { cls:=.type "list",dict:=none,data:=.seq ([]:List Value).toArray }=P2 at hns₁ hsb₁ ⊢
  have hC:P2.objs.size=s2.heap.objs.size+1:=by rw [← hH2,Heap.size_push]
  have hDC:s2.heap.objs.size≠P2.objs.size:=by rw [hC];exact Nat.ne_of_lt (Nat.lt_succ_self _)
  have hCle:s2.heap.objs.size≤P2.objs.size:=by rw [hC];exact Nat.le_succ _
  have below:∀ b,b<s2.heap.objs.size→b≠P2.objs.size∧b≠s2.heap.objs.size:=fun b hb=>⟨by rw [hC];exact Nat.ne_of_lt (Nat.lt_succ_of_lt hb),Nat.ne_of_lt hb⟩
  have old:∀ b o,s2.heap.get? b=some o→h₁.get? b=some o:=fun b o e=>hsb₁.extBut b o (below b (Heap.lt_size e)).1 (Heap.get?_push_of_some _ (hH2 ▸ Heap.get?_push_of_some _ e))
  have hacc:h₁.PlainList s2.heap.objs.size #[]:=⟨_,hsb₁.extBut _ _ hDC (Heap.get?_push_of_some _ (hH2 ▸ Heap.get?_push_size _ rfl))⟩
  have hfo:∀ b∈fp,∃ o,s2.heap.get? b=some o:=fun b hb=>let ⟨o,e,_⟩:=T.obj 0 _ st2 b hb;⟨o,e⟩
  have hfD:s2.heap.objs.size ∉ fp:=fun hm=>by obtain⟨o,e⟩:=hfo _ hm;exact absurd (Heap.lt_size e) (Nat.lt_irrefl _)
  have ok:=k'H (N:=N) (C:=P2.objs.size) I2 hCle f2 hfo hkind hcell hall
  have st1:tn 0 h₁:=T.keep 0 _ _ st2 fun b _ o e=>old b o e
  have J0:=i'M (t':=s2.toks+([]:List (Str×Value)).length) (ix:=ix) I2 ok hCle old hns₁ hpk hall
  have pnD:∀ p∈X.pn++pins,p.1≠s2.heap.objs.size:=fun p hp=>(below _ (Heap.lt_size (I2.pin p hp).1)).2
  have cellD:∀ x c,(clOf scope X.env).lookup x=some c→c≠s2.heap.objs.size:=fun x c e=>by
    obtain⟨v,o,ho,_⟩:=I2.cell x c (b'i e)
    exact (below _ (Heap.lt_size ho)).2
  have stat:∀ {pl:List (Addr×Obj)} {H':Hp},(∀ b∈fp,H' b=none)→(∀ p∈pl,p.1=s2.heap.objs.size)→∀ b∈fp,FpOk (cxComp X scope N P2.objs.size s2 H2 fp pins) pl H' b:=fun {pl H'} hn hp b hb=>by
    refine⟨hn b hb,(ok.exf b hb).1,ok.exfs b hb,.inl hb,(ok.exf b hb).2,fun p hm=>?_⟩
    rcases List.mem_append.mp hm with z | z
    · exact (f2 b hb).2.2.2.2.2 p z
    · rw [hp p z];intro q;rw [q] at hfD;exact hfD hb
  have loop:∀ s₃:Shared,s₃={ s2 with heap:=h₁,toks:=s2.toks+([]:List (Str×Value)).length }→
      codeAny (model X.prog X.w) X.A (.compLoop (.ListComp elt [⟨target,iter,ifs,0⟩] scope pos) 0 (.ref it) (.ref s2.heap.objs.size) (compEnvC scope (clOf scope X.env) P2.objs.size X.env)) (RR (.ref s2.heap.objs.size) P2.objs.size) s₃:=by
    rintro s₃ rfl
    refine e'O (fun n s'=>∃ i acc its σ' H',Inv (cxComp X scope N P2.objs.size s2 H2 fp pins) [] σ' H' s'∧Wk (pickS ix σ) σ'∧tn i s'.heap∧(∀ b∈fp,H' b=none)∧s'.heap.PlainList s2.heap.objs.size (List.toArray its)∧Vals acc its∧H' s2.heap.objs.size=none∧W i n acc H') ?_ m0
      ⟨0,[],[],_,H2,J0,d'I _,st1,fun b hb=>(f2 b hb).1,hacc,.nil,I2.hok.fresh (Nat.le_refl _),w0⟩
    rintro n s3 ⟨i,acc,its,σ3,H3,I3,wk3,st3,fr3,pl3,va3,nd3,w3⟩
    obtain⟨kk,g3⟩:=id pl3
    have I3':Inv (cxComp X scope N P2.objs.size s2 H2 fp pins) [(s2.heap.objs.size,⟨.type "list",none,.seq (List.toArray its) kk,#[]⟩)] σ3 H3 s3:=I3.pins_of fun p hp=>by
      have e:=List.mem_singleton.mp hp
      subst e
      refine⟨g3,nd3,hDC,fun z=>?_,fun v q=>by cases q⟩
      obtain⟨_,o,ho,_⟩:=(I2.stack).mem z
      exact absurd (Heap.lt_size ho) (Nat.lt_irrefl _)
    have onlyD:∀ p∈[((s2.heap.objs.size,⟨.type "list",none,.seq (List.toArray its) kk,#[]⟩):Addr×Obj)],p.1=s2.heap.objs.size:=fun p hp=>by
      rw [List.mem_singleton.mp hp]
    rcases turn i n acc H3 w3 with ⟨stop,hlen,fin⟩ | ⟨go,NN,hNN,step⟩
    · refine wpAny_mono (T.done (cxComp X scope N P2.objs.size s2 H2 fp pins) rfl rfl rfl hc i _ s3 σ3 H3 _ I3' (stat fr3 onlyD) st3 stop) (fun r s4 h4=>?_) fun _ _ z=>z
      obtain⟨hr,I4⟩:=h4
      subst hr
      have g4:=(I4.pin (s2.heap.objs.size,_) (List.mem_append_right _ (List.mem_singleton.mpr rfl))).1
      obtain⟨mm,hnm,_⟩:=I4.loc
      have B:=h'r I2 I4 rfl f2 ⟨kk,g4⟩ va3 hlen nd3
      refine hR _ _ s4 _ mm B hnm ?_ hCle (fin _ nd3)
      rw [a'h (Ne.symm hDC)]
      exact I4.free
    · refine wpAny_mono (T.item (cxComp X scope N P2.objs.size s2 H2 fp pins) rfl rfl rfl hc i _ s3 σ3 H3 _ I3' (stat fr3 onlyD) st3 go) (fun r s4 h4=>?_) fun _ _ z=>z
      obtain⟨u,hr,h4⟩:=h4
      subst hr
      refine wpAny_mono h4 (fun _ s5 h5=>?_) fun _ _ z=>z
      obtain⟨x,H5,I5,r5,y5,st5,fr5⟩:=h5
      have I5w:=I5.weak wk3.length.symm (fun i v e=>wk3.get e)
      have I5':=I5w.pinned (fp:=fp) (stat fr5 onlyD) (T.obj _ _ st5)
      refine wpAny_mono (hg P2.objs.size s2 H2 fp pins _ s5 _ H5 x u _ I5' r5 (step x H5 y5)) (fun _ s6 h6=>?_) fun _ _ z=>z.elim
      obtain⟨σ6,H6,I6,wk6,q6⟩:=h6
      refine wpAny_mono (ht P2.objs.size s2 H2 fp pins _ s6 σ6 H6 _ I6 q6) (fun ok s7 h7=>?_) fun _ _ z=>z.elim
      obtain⟨H7,I7,q7⟩:=h7
      have keepT:∀ {σ8:St} {H8:Hp} {s8:Shared},Inv (cxComp X scope N P2.objs.size s2 H2 fp pins) ([((s2.heap.objs.size,⟨.type "list",none,.seq (List.toArray its) kk,#[]⟩):Addr×Obj)]++pinsAt fp s5.heap) σ8 H8 s8→
          (∀ b∈fp,∀ o,s5.heap.get? b=some o→s8.heap.get? b=some o)∧(∀ b∈fp,H8 b=none):=fun {σ8 H8 s8} I8=>by
        refine⟨fun b hb o e=>(I8.pin (b,o) (List.mem_append_right _ (List.mem_append_right _ (b'G hb e)))).1,fun b hb=>?_⟩
        obtain⟨o,e,d⟩:=T.obj _ _ st5 b hb
        exact (I8.pin (b,o) (List.mem_append_right _ (List.mem_append_right _ (b'G hb e)))).2.1
      have unpin:∀ {σ8:St} {H8:Hp} {s8:Shared} {pl:List (Addr×Obj)},Inv (cxComp X scope N P2.objs.size s2 H2 fp pins) pl σ8 H8 s8→Inv (cxComp X scope N P2.objs.size s2 H2 fp pins) [] σ8 H8 s8:=fun I8=>I8.pins_of fun p hp=>by cases hp
      cases ok with
      | false=>
        simp only [Bool.false_eq_true,if_false] at q7 ⊢
        obtain⟨m',hm,w7⟩:=hNN _ _ q7
        have p7:=I7.pin (s2.heap.objs.size,_) (List.mem_append_right _ (List.mem_append_left _ (List.mem_singleton.mpr rfl)))
        obtain⟨k1,k2⟩:=keepT I7
        exact⟨m',hm,i+1,acc,its,σ6,H7,unpin I7,wk6,T.keep _ _ _ st5 k1,k2,⟨kk,p7.1⟩,va3,p7.2.1,w7⟩
      | true=>
        simp only [if_true] at q7 ⊢
        refine wpAny_mono (he P2.objs.size s2 H2 fp pins _ s7 σ6 H7 _ I7 q7) (fun y s8 h8=>?_) fun _ _ z=>z.elim
        obtain⟨v,H8,I8,r8,hlt,q8⟩:=h8
        obtain⟨m',hm,w8⟩:=hNN _ _ q8
        have p8:=I8.pin (s2.heap.objs.size,_) (List.mem_append_right _ (List.mem_append_left _ (List.mem_singleton.mpr rfl)))
        obtain⟨k1,k2⟩:=keepT I8
        have hl:=va3.length
        refine wpAny_list_append_plain (items:=List.toArray its) (hsz:=by rw [List.size_toArray,← hl];exact Nat.le_of_lt hlt) ⟨kk,p8.1⟩ fun h₅ hl₅ hs₅=>?_
        have I9:Inv (cxComp X scope N P2.objs.size s2 H2 fp pins) [] σ6 H8 { s8 with heap:=h₅ }:=(unpin I8).turned (t':=s8.toks) (it:=s2.heap.objs.size) (fun b o hb e=>hs₅.extBut b o hb e) p8.2.1 hDC (.inr (Nat.le_refl _)) cellD (fun p hp=>by
          have hp':p∈X.pn++pins:=by simpa [cxComp] using hp
          exact pnD p hp')
        refine⟨m',hm,i+1,acc++[v],its++[y],σ6,H8,I9,wk6,T.keep _ _ _ st5 fun b hb o e=>hs₅.extBut b o (fun z=>hfD (z ▸ hb)) (k1 b hb o e),k2,?_,va3.append (.cons r8 .nil),p8.2.1,w8⟩
        have e:(its++[y]).toArray=its.toArray.push y:=by simp
        rw [e]
        exact hl₅
  exact codeAny_compStart_list (loop _ rfl) (T.self X.A 0 _ _ _ st1 (loop _ rfl))
theorem k'I (hc:X.calm=true) (hi:PI X target iter wi) (hg:∀ C s H fp pl,PG (cxComp X scope N C s H fp pl) target g) (ht:∀ C s H fp pl,PTs (cxComp X scope N C s H fp pl) ifs ti) (he:∀ C s H fp pl,PE (cxComp X scope N C s H fp pl) elt te)
    (hpk:PickOk X scope N ix) (hkind:scope.kind=.function:=by rfl) (hcell:∀ y∈scope.names,y.2≠.cell:=by decide) (hnames:∀ x∈scope.names,x.2=.local→scope.names.lookup x.1=some .local:=by decide) (hall:clAll scope X.env=true:=by rfl)
    (hs:∀ x,foldedSetIterable iter X.env x=pure x:=by intro _;rfl):PE X (.ListComp elt [⟨target,iter,ifs,0⟩] scope pos) (tComp wi g ti te ix):=by
  intro pins s σ H Q I h
  rw [eval_ListComp]
  refine wpAny_comprehension_free (use:=none) rfl hs (b'W hall) hkind hnames ?_
  refine thn (hi pins s σ H _ I h) fun v s1 h1=>thn h1 fun itv s2 h2=>?_
  obtain⟨it,fp,tn,J,H2,e,I2,T,st2,f2,h⟩:=h2
  subst e
  refine e'P (RR:=fun acc C=>compPost (model X.prog X.w) X.A X.xe none (EP X pins σ Q) acc C) hc hg ht he hkind hcell hall hpk I2 T st2 f2 h ?_
  intro D C s' H' m B hn hHC hle q
  refine⟨m,hn,fun h' hs'=>⟨.ref D,H',B.turned (t':=s'.toks) (it:=C) (fun b o hb e=>hs'.extBut b o hb e) hHC (Nat.ne_of_gt (Nat.lt_of_lt_of_le I2.lt hle)) (.inr (Nat.le_trans I2.sz hle)) (fun x c e=>?_) (fun p hp=>?_),rfl,q⟩⟩
  · obtain⟨v,o,ho,_⟩:=I2.cell x c e
    exact Nat.ne_of_lt (Nat.lt_of_lt_of_le (Heap.lt_size ho) hle)
  · exact Nat.ne_of_lt (Nat.lt_of_lt_of_le (Heap.lt_size (I2.pin p hp).1) hle)
theorem k'J {i:Nat} {y:Str} {py spos:Pos} (hN:X.N.Nodup) (hyi:X.N[i]?=some y) (hy:Loc X.env.scope y) (hc:X.calm=true) (hi:PI X target iter wi) (hg:∀ C s H fp pl,PG (cxComp X scope N C s H fp pl) target g) (ht:∀ C s H fp pl,PTs (cxComp X scope N C s H fp pl) ifs ti) (he:∀ C s H fp pl,PE (cxComp X scope N C s H fp pl) elt te)
    (hpk:PickOk X scope N ix) (hsw:swapsWith (.ListComp elt [⟨target,iter,ifs,0⟩] scope pos) (some (.Name y py)) spos.line X.env=pure true:=by with_unfolding_all rfl) (hkind:scope.kind=.function:=by rfl) (hcell:∀ y∈scope.names,y.2≠.cell:=by decide) (hnames:∀ x∈scope.names,x.2=.local→scope.names.lookup x.1=some .local:=by decide) (hall:clAll scope X.env=true:=by rfl)
    (hs:∀ x,foldedSetIterable iter X.env x=pure x:=by intro _;rfl) (hf:X.fn y=true∨X.env.scope.names.lookup y=some .local:=by first | exact .inl rfl | exact .inr rfl | assumption):PS X (.Assign [.Name y py] (.ListComp elt [⟨target,iter,ifs,0⟩] scope pos) spos) (tAsg (tComp wi g ti te ix) (gName i)):=by
  intro pins s σ H D I h
  rw [exec_Assign_Name_used _ _ _ _ hsw]
  refine wpAny_bind (wpAny_standAt (wpAny_bind ?_))
  show wpAny _ X.A (do let _ ← comprehension (.ListComp elt [⟨target,iter,ifs,0⟩] scope pos) scope X.env _ (newList []) false (eval iter X.env) (some (assign (.Name y py) X.env))) _ _ s
  refine wpAny_bind (wpAny_mono (wpAny_comprehension_free (use:=some (assign (.Name y py) X.env)) (Q:=fun _ s'=>SP X pins D .next s') rfl hs (b'W hall) hkind hnames ?_) (fun _ s' hq=>wpAny_pure (wpAny_pure hq)) fun _ _ e=>e)
  refine thn (hi pins s σ H _ I h) fun v s1 h1=>thn h1 fun itv s2 h2=>?_
  obtain⟨it,fp,tn,J,H2,e,I2,T,st2,f2,h⟩:=h2
  subst e
  refine e'P (Q:=fun x H1=>gName i x σ H1 D.nx) (RR:=fun acc C=>compPost (model X.prog X.w) X.A X.xe (some (assign (.Name y py) X.env)) (fun _ s'=>SP X pins D .next s') acc C) hc hg ht he hkind hcell hall hpk I2 T st2 f2 h ?_
  intro Dd C s' H' m B hn hHC hle q
  show wpAny _ X.A (assign (.Name y py) X.env (.ref Dd)) _ _ _
  have cC:∀ x c,X.env.cells.lookup x=some c→c≠C:=fun x c e=>by
    obtain⟨v,o,ho,_⟩:=I2.cell x c e
    exact Nat.ne_of_lt (Nat.lt_of_lt_of_le (Heap.lt_size ho) hle)
  have lC:X.env.locals≠C:=Nat.ne_of_lt (Nat.lt_of_lt_of_le I2.lt hle)
  refine wpAny_assign_Name (d'S (v:=.ref Dd) B hN hyi hy rfl (fun s4 I4 hsb=>?_) hf)
  obtain⟨a,hsa,ha⟩:=hsb
  have nC:C≠a:=by
    rcases ha with z | z
    · rw [z];exact Ne.symm lC
    · exact Ne.symm (cC _ _ z)
  refine⟨m,hn.sameBut hsa nC,fun h' hs'=>⟨_,H',I4.turned (t':=s4.toks) (it:=C) (fun b o hb e=>hs'.extBut b o hb e) hHC (Ne.symm lC) (.inr (Nat.le_trans I2.sz hle)) cC (fun p hp=>?_),q⟩⟩
  exact Nat.ne_of_lt (Nat.lt_of_lt_of_le (Heap.lt_size (I2.pin p hp).1) hle)
end
section
variable {g:TG} {ti:TT} {te:TE} {ix:List (Option Nat)} {σ:St} {Q:VK}
def CompW (J:It) (g:TG) (ti:TT) (te:TE) (ix:List (Option Nat)) (σ:St) (Q:VK) (H1:Hp):Prop:=∃ W:Nat→Nat→List V→Hp→Prop,(∃ m,W 0 m [] H1)∧∀ i m acc H,W i m acc H→
  (J.stop i H∧acc.length≤sizeLine∧∀ p,H p=none→Q (.ref p) (upd H p (.lst acc)))∨
  (J.go i H∧∃ N:List V→Hp→Prop,(∀ acc' H',N acc' H'→∃ m',m'<m∧W (i+1) m' acc' H')∧∀ x H',J.yld i H x H'→g x (pickS ix σ) H' fun σ2 H2=>Wk (pickS ix σ) σ2∧ti σ2 H2 fun b H3=>if b=true then te σ2 H3 fun v H4=>acc.length<sizeLine∧N (acc++[v]) H4 else N acc H3)
theorem q'x {J:It} {n:Nat} {H1:Hp} (Pv:Nat→List V→Hp→Prop) (h0:Pv 0 [] H1) (hgo:∀ i acc H,i<n→Pv i acc H→J.go i H) (hst:∀ acc H,Pv n acc H→J.stop n H)
    (hs:∀ i x acc H H',i<n→Pv i acc H→J.yld i H x H'→g x (pickS ix σ) H' fun σ2 H2=>Wk (pickS ix σ) σ2∧ti σ2 H2 fun b H3=>if b=true then te σ2 H3 fun v H4=>acc.length<sizeLine∧Pv (i+1) (acc++[v]) H4 else Pv (i+1) acc H3)
    (hd:∀ acc H,Pv n acc H→acc.length≤sizeLine∧∀ p,H p=none→Q (.ref p) (upd H p (.lst acc))):CompW J g ti te ix σ Q H1:=by
  refine⟨fun i m acc H=>m=n - i∧i≤n∧Pv i acc H,⟨n,by simp,Nat.zero_le _,h0⟩,?_⟩
  rintro i m acc H ⟨rfl,hi,p⟩
  by_cases hlt:i<n
  · exact .inr ⟨hgo i acc H hlt p,Pv (i+1),fun acc' H' p'=>⟨n - (i+1),by omega,rfl,hlt,p'⟩,fun x H' y=>hs i x acc H H' hlt p y⟩
  · have e:i=n:=by omega
    subst e
    exact .inl ⟨hst acc H p,hd acc H p⟩
end
end L2
namespace L2
open PySem PySem.Spec PyProof.Rows
section
variable {X:Cx}
def rSlS:V→Option Int→Option Int→Hp→VK→Prop:=fun x lo hi H Q=>∃ z,x=.str z∧z.length≤sizeLine∧Q (.str (Txt.slice z lo hi)) H
theorem n'X:SlR X rSlS:=by
  intro pins s σ H x v vl vu lo hi sl Q I rx hs pl pu h
  obtain⟨z,rfl,hz,q⟩:=h
  obtain⟨t,rfl⟩:=(show ∃ t,v=Value.str z t from rx)
  refine⟨"str",_,F.slot_str_getitem.lookup,typeIs_str _ _ _,?_⟩
  have fin:∀ (tk:Tok) (k:Nat),EP X pins σ Q (.str (Txt.slice z lo hi) tk) { s with toks:=k }:=fun tk k=>⟨.str _,H,I.tok k,⟨tk,rfl⟩,q⟩
  cases pl with
  | none =>
    cases pu with
    | none=>exact wpAny_getItem_str_slice (l:=none) (u:=none) (st:=none) hs rfl (post_val_or_str ⟨Nat.le_trans (Txt.slice_le z _ _) hz,fun t' k=>fin t' k⟩)
    | int j tj=>exact wpAny_getItem_str_slice (l:=none) (u:=some (j,tj)) (st:=none) hs rfl (post_val_or_str ⟨Nat.le_trans (Txt.slice_le z _ _) hz,fun t' k=>fin t' k⟩)
  | int i ti =>
    cases pu with
    | none=>exact wpAny_getItem_str_slice (l:=some (i,ti)) (u:=none) (st:=none) hs rfl (post_val_or_str ⟨Nat.le_trans (Txt.slice_le z _ _) hz,fun t' k=>fin t' k⟩)
    | int j tj=>exact wpAny_getItem_str_slice (l:=some (i,ti)) (u:=some (j,tj)) (st:=none) hs rfl (post_val_or_str ⟨Nat.le_trans (Txt.slice_le z _ _) hz,fun t' k=>fin t' k⟩)
end
section
variable {X:Cx} {tg:Expr}
end
section
variable {σ:St} {H:Hp} {R:It→Hp→Prop} {K:PySem.W.Frag}
end
end L2
namespace L2
open PySem PySem.Spec PyProof.Rows
def Fly (h0 h:Heap) (H:Hp) (x:Addr) (cls:Value):Prop:=
  h0.get? x=none∧H x=none∧∃ a0 oe vs T oT ts,h0.get? T=none∧H T=none∧h.get? x=some oe∧oe.cls=cls∧vs[0]?=some a0∧oe.data=.fields vs∧vs[1]?=some (.ref T)∧T≠x∧h.get? T=some oT∧oT.data=.fields ts∧ts[3]?=some .none
def CX1 (P:Program) (w:World):CXT:=fun outer H s E e s'=>∃ x cls H',e=.ref x∧s'.os=s.os∧AllBare s'.gens∧Un (frs outer) [] H H' s.heap s'.heap∧HOk P w H' s'.heap∧Fly s.heap s'.heap H' x cls∧E cls none H'
theorem ObjOk.has {P:Program} {w:World} {H:Hp} {h:Heap} {a:Addr} {o:HO} (x:ObjOk P w H h a o):∃ u,h.get? a=some u:=by
  cases o with
  | lst xs => obtain ⟨_, _, _, _, e⟩ := x; exact ⟨_, e⟩
  | tup xs => obtain ⟨_, _, _, u, e, _⟩ := x; exact ⟨_, e⟩
  | dK kvs => obtain ⟨_, _, _, _, u, _, _, e, _⟩ := x; exact ⟨_, e⟩
  | dT kvs => obtain ⟨_, _, _, _, u, _, _, e, _⟩ := x; exact ⟨_, e⟩
  | set S n => obtain ⟨u, _, _, _, e, _⟩ := x; exact ⟨_, e⟩
  | ins C dx fs => obtain ⟨_, _, _, e, _⟩ := x; exact ⟨_, e⟩
  | own y => exact x
  | xd fs => obtain ⟨_, ⟨u, _, _, e, _⟩, _⟩ := x; exact ⟨_, e⟩
  | rng lo hi => obtain ⟨_, _, _, e⟩ := x; exact ⟨_, e⟩
  | frz ob u => obtain ⟨e, _⟩ := x; exact ⟨_, e⟩
  | tbl ps => exact ⟨_, x⟩
  | met f y => exact ⟨_, x⟩
  | ext φ => exact x.2.1
theorem h's {P:Program} {w:World} {fs fr l bad:List Addr} {H H':Hp} {h h1 h2:Heap} (u:Un fs [] H H' h h1) (hok:HOk P w H' h1) (hl:∀ b∈l,b∈bad∨b∈fr) (hb:∀ b∈bad,h.get? b=none∧H' b=none)
    (hfr:∀ b∈fr,(b∈fs∨h.get? b=none)∧H' b=none∧∃ o,h1.get? b=some o∧∀ vs,o.data≠.fields vs) (hfs:∀ b∈fs,b∈fr) (k:(PySem.W.hideAll h1 l).StaysIn h2) (sm:h1.UpToSlots h2) :
    Un fs [] H H' h h2∧HOk P w H' h2∧∀ x cls a0,h2.TracedW (PySem.W.hideAll h1 l) x cls a0→h.get? x=none→H' x=none→Fly h h2 H' x cls:=by
  have gt:∀ b o,h1.get? b=some o→b ∉ bad→b ∉ fr→h2.get? b=some o:=fun b o e n1 n2=>k b o (PySem.W.hideAll_get _ e fun z=>(hl b z).elim n1 n2)
  have nb:∀ b o,h.get? b=some o→b ∉ bad:=fun b o e z=>by rw [(hb b z).1] at e;cases e
  have slots:∀ b o,b∈fr→h1.get? b=some o→∃ sl,h2.get? b=some { o with slots:=sl }:=fun b o hf e=>by
    obtain⟨_,_,o',e',d⟩:=hfr b hf
    rw [e] at e'
    cases e'
    exact sm b o e d
  have tr:∀ b u,H' b=some u→b ∉ bad∧b ∉ fr:=fun b u e=>⟨fun z=>(by rw [(hb b z).2] at e;cases e),fun z=>(by rw [(hfr b z).2.1] at e;cases e)⟩
  refine⟨⟨fun b o e n hf hx=>?_,fun b o e n hf hx=>?_,fun b o e n hx=>u.free b o e n hx,fun b o e hx=>?_,u.tups,u.frzs,u.tbls⟩,fun b v e=>?_,fun x cls a0 ht hx hHx=>?_⟩
  · refine gt b o (u.keep b o e n hf hx) (nb b o e) fun z=>?_
    rcases (hfr b z).1 with q | q
    · exact hf q
    · rw [e] at q;cases q
  · obtain⟨sl,e1⟩:=u.slot b o e n hf hx
    obtain⟨sl',e2⟩:=slots b _ (hfs b hf) e1
    exact⟨sl',e2⟩
  · obtain⟨o',e1⟩:=u.there b o e hx
    by_cases hf:b∈fr
    · obtain⟨sl,e2⟩:=slots b o' hf e1
      exact⟨_,e2⟩
    · exact⟨o',gt b o' e1 (nb b o e) hf⟩
  · refine (hok b v e).stay (fun c o hc q=>?_) (fun _ q=>q) fun _ _ q=>q
    rcases hc with rfl | hc
    · exact gt c o q (tr c v e).1 (tr c v e).2
    · exact gt c o q (tr c _ hc).1 (tr c _ hc).2
  · obtain⟨oe,vs,T,oT,ts,t1,⟨t2,t3⟩,t4,t5,t6,t7,t8,t9,t10⟩:=ht
    have hT:h.get? T=none∧H' T=none:=by
      cases q:h1.get? T with
      | none=>
        refine⟨?_,?_⟩
        · cases r:h.get? T with
          | none=>rfl
          | some o=>obtain⟨o',e'⟩:=u.there T o r (by simp);rw [q] at e';cases e'
        · cases r:H' T with
          | none=>rfl
          | some v=>obtain⟨o',e'⟩:=(hok T v r).has;rw [q] at e';cases e'
      | some o=>
        by_cases hm:T∈l
        · rcases hl T hm with z | z
          · exact hb T z
          · obtain⟨sl,e2⟩:=slots T o z q
            obtain⟨_,_,o',e',d⟩:=hfr T z
            rw [q] at e'
            cases e'
            rw [t8] at e2
            cases e2
            exact absurd t9 (d ts)
        · have:=PySem.W.hideAll_get _ q hm
          rw [t6] at this;cases this
    exact⟨hx,hHx,a0,oe,vs,T,oT,ts,hT.1,hT.2,t1,t2,t3,t4,t5,t7,t8,t9,t10⟩
theorem Fly.traced {h0 h:Heap} {H:Hp} {x:Addr} {cls:Value} (f:Fly h0 h H x cls):∃ T a0,h0.get? T=none∧H T=none∧∀ l:List Addr,T∈l→h.TracedW (PySem.W.hideAll h l) x cls a0:=by
  obtain⟨_,_,a0,oe,vs,T,oT,ts,t1,t2,t3,t4,t5,t6,t7,t8,t9,t10,t11⟩:=f
  exact⟨T,a0,t1,t2,fun l hl=>⟨oe,vs,T,oT,ts,t3,⟨t4,t5⟩,t6,t7,PySem.W.hideAll_none _ hl,t8,t9,t10,t11⟩⟩
section
variable {X:Cx} {pins:List (Addr×Obj)} {σ:St} {H:Hp} {s:Shared}
theorem f'Y {l:List Env}:∀ env∈l,∀ a,env.frame=some a→a∈frs l:=fun env he a hf=>List.mem_filterMap.mpr ⟨env,he,hf⟩
theorem Inv.frm (I:Inv X pins σ H s):∀ b∈frs X.stack,(b∈X.fs∨X.s₀.heap.get? b=none)∧H b=none∧∃ o,s.heap.get? b=some o∧∀ vs,o.data≠.fields vs:=fun b hb=>by
  refine⟨?_,I.stkFree b hb,(I.stack.mem hb).2⟩
  rcases List.mem_cons.mp (I.stkSub b hb) with e | e
  · exact .inr (by rw [e];exact Heap.get?_none_of_le I.ok.above)
  · exact .inl e
theorem n'Y {E:XK} {x:Addr} {cls:Value} (hs:X.stack=X.env :: X.outer) (hf:X.env.frame=some X.env.locals) (hex:X.ex=[]) (I:Inv X pins σ H s) {l bad:List Addr} {h1:Heap}
    (hl:∀ b∈l,b∈bad∨b∈frs X.stack) (hb:∀ b∈bad,X.s₀.heap.get? b=none∧H b=none) (k:(PySem.W.hideAll s.heap l).StaysIn h1) (sm:s.heap.UpToSlots h1) {a0:Value} (ht:h1.TracedW (PySem.W.hideAll s.heap l) x cls a0)
    (hx:X.s₀.heap.get? x=none) (hHx:H x=none) (e:E cls none H):CX1 X.prog X.w X.outer X.H₀ X.s₀ E (.ref x) { s with heap:=h1 }:=by
  have ub:=I.base
  rw [hex] at ub
  obtain⟨u,ok,fl⟩:=h's ub I.hok hl hb I.frm (fun b hb=>by rw [hs];unfold frs;rw [List.filterMap_cons,hf];exact List.mem_cons_of_mem _ hb) k sm
  exact⟨x,cls,H,rfl,I.os,I.bare,u,ok,fl x cls a0 ht hx hHx,e⟩
def Xe1 (X:Cx) (E:XK):Prop:=X.xe=fun e s'=>wpAny (model X.prog X.w) X.A (leaving X.env e) (fun _ s''=>CX1 X.prog X.w X.outer X.H₀ X.s₀ E e s'') (fun e' s''=>CX1 X.prog X.w X.outer X.H₀ X.s₀ E e' s'') s'
end
theorem k'K {K:PySem.W.Frag} {h:Heap} {C:Addr} {bmB:List Value} {newId:String} (X:K.In h) (q:PySem.W.excIn K C bmB newId=true) :
    ∃ bm N nm qn bs hd sn sub ab col dd k0 k1 k2 k3 k5 mN,h.get? C=some (excClassObj nm qn C N bs bm hd sn sub ab col dd k0 k1 k2 k3 k5 newId)∧h.Ns N mN∧mN "__init__"=none∧OwnTail h bmB bm:=by
  unfold PySem.W.excIn at q
  split at q
  case h_2=>cases q
  case h_1 ddc cdc slc hlook=>
    split at q
    case h_2=>cases q
    case h_1 Cc bmc k0 k1 k2 k3 nn k5 hmro hslots=>
      simp only [Bool.and_eq_true,beq_iff_eq,Bool.not_eq_true'] at q
      obtain⟨⟨⟨⟨⟨e1,e2⟩,e3⟩,e4⟩,e5⟩,e6⟩:=q
      obtain⟨nm,bs,mro,ns,qn,hd,sn,sub,ab,col,del⟩:=cdc
      dsimp only at hmro e3 e5 e6
      obtain⟨ll⟩:=slc
      simp only at hslots
      subst e1 e2 e3 hmro hslots
      exact⟨_,_,_,_,_,_,_,_,_,_,_,_,_,_,_,_,_,X _ _ hlook,.of_isNs (PySem.W.isNs_of_in X e5),PySem.W.nsMap_none_of_in X e5 e6,PySem.W.tail_of_in X e4⟩
def tRaise (C:Addr) (E:XK) (te:TE):TS:=fun _ σ H=>te σ H fun _ H'=>E (.ref C) none H'
section
variable {X:Cx}
theorem i'N {E:XK} {x:Str} {np cpos pos:Pos} {e₀:Expr} {te:TE} {C:Addr} {B newId initId:String} {bmB:List Value} (hs:X.stack=X.env :: X.outer) (hf:X.env.frame=some X.env.locals) (hex:X.ex=[]) (hxe:Xe1 X E)
    (hcalm:X.calm=true) (hg:Gl X x) (hm:X.mg x=some (.ref C)) (FB:ExcBaseFacts B newId initId bmB) (hq:PySem.W.excIn X.K C bmB newId=true) (he:PE X e₀ te) (hdb:(x == ("__debug__":Str))=false:=by decide)
    (hst:starEach [e₀] X.env=(false,eval e₀ X.env) :: starEach [] X.env:=by rfl) (hpl:(backTo cpos (starEach [] X.env)).any (·.1)=false:=by rfl) :
    PS X (.Raise (some (.Call (.Name x np) [e₀] [] cpos)) none pos) (tRaise C E te):=by
  intro pins s σ H D I h
  obtain⟨bm,N,nm,qn,bs,hd,sn,sub,ab,col,dd,k0,k1,k2,k3,k5,mN,hC,hN,hni,T⟩:=k'K I.ok.mod.kin hq
  refine wpAny_Raise_call_subT (C:=C) (nm:=nm) (q:=qn) (N:=N) (bs:=bs) (bm:=bm) (hdct:=hd) (sn:=sn) (sub:=sub) (ab:=ab) (col:=col) (dd:=dd) (k0:=k0) (k1:=k1) (k2:=k2) (k3:=k3) (k5:=k5)
    FB (mN:=mN) (T.hasType FB.hasBase) (I.ok.hd hcalm) (by rw [hst];show (false || (backTo cpos (starEach [] X.env)).any (·.1))=false;rw [hpl];rfl) hni (c'f I hg hm ⟨rfl,?_⟩ hdb)
  rw [hst]
  refine Calls.evalArgs_plain ?_
  refine Calls.spliced_cons ?_
  refine thn (he pins s σ H _ I h) fun u s1 ⟨v,H1,I1,_,q1⟩=>?_
  refine Calls.spliced_nil ?_
  refine⟨rfl,by show (1:Nat)≤sizeLine;decide,I1.bk _ _ hC,hN.keeps I1.bk,T.keeps I1.bk,fun h' e hmade=>?_⟩
  obtain⟨t,ht,ht0,htt⟩:=hmade.there
  have J:Inv X pins σ H1 { s1 with heap:=h' }:=I1.call' (ch:=[]) rfl (Un.kept hmade.keeps) (I1.hok.kept hmade.keeps) I1.bare (fun b z=>absurd z (by simp))
  have up:∀ b,s1.heap.get? b=none→X.s₀.heap.get? b=none:=fun b z=>by
    cases q:X.s₀.heap.get? b with
    | none=>rfl
    | some o=>obtain⟨o',e'⟩:=I1.base.there b o q (by rw [hex];simp);rw [z] at e';cases e'
  have hHe:H1 e=none:=by
    cases r:H1 e with
    | none=>rfl
    | some v=>obtain⟨o',e'⟩:=(I1.hok e v r).has;rw [hmade.new] at e';cases e'
  rw [hxe]
  have hin:∀ env∈X.env :: X.outer,∀ a,env.frame=some a→a∈e :: frs X.stack:=fun env he a hf=>.tail _ (by rw [hs];exact f'Y env he a hf)
  refine wpAny_leaving_firstW (base:=PySem.W.hideAll h' (e :: frs X.stack)) (a0:=.ref t) (by rw [J.ok.frames,hs]) (PySem.W.funFrames_hide (hs ▸ J.stack) hin) hf ht (fun b o q=>PySem.W.of_hideAll _ q)
    (PySem.W.hideAll_none _ (.head _)) rfl rfl rfl fun h2 hL=>?_
  obtain⟨l1,_,l3,l4⟩:=hL
  exact n'Y hs hf hex J (bad:=[e]) (fun b hb=>by
    rcases List.mem_cons.mp hb with z | hb
    · exact .inl (by rw [z];exact .head _)
    · exact .inr hb) (fun b hb=>by
    have z:b=e:=by simpa using hb
    rw [z];exact⟨up _ hmade.new,hHe⟩) l1 l4 l3 (up _ hmade.new) hHe q1
end
end L2
namespace L2
open PySem PySem.Spec PyProof.Rows
section
variable {P:Program} {w:World} {K:PySem.W.Frag} {mg:Str→Option Value} {base:Heap}
theorem Fun.ok1 {x qual:Str} {st:Stmt} {f:Addr} {fd:FuncData} {N ps:List Str} {k:Nat} {sp:Sp} (F:Fun K x qual st f fd) (S:FnScope N ps (defScope st)) (len:∀ vs H Q E,sp vs H Q E→vs.length=ps.length)
    (hbody:∀ (cdv:Value) (A:Around) (outer:List Env) (s:Shared) (H:Hp) (vs:List V) (Q:VK) (E:XK),Room k (A.deeper (envOfC qual (defScope st) s.heap.objs.size f cdv))→sp vs H Q E→
      ∃ t,PSs (cxOf (CX1 P w) P w K mg base N qual (defScope st) f cdv A outer s H E) (defBody st) t∧t { nx:=fun _ H'=>Q .non H',rt:=Q } (start N vs) H):FnOk P w K mg base (CX1 P w) (k+1) f fd ps sp:=by
  obtain⟨oc,od,kV,doc,pm,an,cdv,ct,osl,rfl,lk,hcd⟩:=F.ex
  exact j'U lk hcd S len fun A outer s H vs Q E hr hsp=>hbody cdv A outer s H vs Q E hr hsp
end
section
variable {X:Cx}
def PassAt (CX:CXT) (X:Cx) (σ:St) (E:XK):Prop:=∀ (pins:List (Addr×Obj)) (H:Hp) (s:Shared) (e:Value) (s':Shared),Inv X pins σ H s→CX X.stack H s E e s'→X.xe e s'
def tCallX (sp:Sp) (dvs:List V) (R:St→XK) (t:TA):TE:=fun σ H Q=>t σ H fun vs H1=>sp (vs++dvs) H1 Q (R σ)
variable {CX:CXT} {k:Nat} {f:Addr} {fd:FuncData} {ps:List Str} {sp:Sp} {dvs:List V} {ds:List Value} {x:Str} {p pos:Pos} {e:Expr} {es:List Expr} {t:TA}
theorem k'L {E:XK} {pins:List (Addr×Obj)} {σ:St} {H:Hp} {s:Shared} {Q:VK} {us:List Value} {vs:List V} (F:FnOk X.prog X.w X.K X.mg X.base CX k f fd ps sp) (hr:Room k X.A) (hb:Binds X.K fd ps ds) (hd:Vals dvs ds)
    (hx:PassAt CX X σ E) (I:Inv X pins σ H s) (r:Vals vs us) (h:sp (vs++dvs) H Q E):wpAny (model X.prog X.w) X.A (call (.ref f) us) (EP X pins σ Q) X.xe s:=by
  have r2:=r.append hd
  have hl:(us++ds).length=ps.length:=r2.length ▸ F.len _ _ _ _ h
  refine wpAny_call (codeAny_mono (F.run X.A X.stack s H ⟨us,[]⟩ (us++ds) (vs++dvs) Q E hr I.env0 (hb s us I.kIn hl) r2 h) fun r s' hq=>?_)
  match r,hq with
  | .error e, hq => exact hx pins H s e s' I hq
  | .ok (.ret u), hq => exact I.after hq
  | .ok .next, hq => exact hq.elim
  | .ok .brk, hq => exact hq.elim
  | .ok .cont, hq => exact hq.elim
theorem i'O {R:St→XK} (F:FnOk X.prog X.w X.K X.mg X.base CX k f fd ps sp) (hr:Room k X.A) (hg:Gl X x) (hm:X.mg x=some (.ref f)) (hk:PySem.W.keepIn X.K (.ref f)=true) (hb:Binds X.K fd ps ds) (hd:Vals dvs ds)
    (hx:∀ σ,PassAt CX X σ (R σ)) (ha:PA X (e :: es) t) (hdb:(x == ("__debug__":Str))=false:=by decide) (he:starEach (e :: es) X.env=(false,eval e X.env) :: starEach es X.env:=by rfl)
    (hpl:(backTo pos (starEach es X.env)).any (·.1)=false:=by rfl):PE X (.Call (.Name x p) (e :: es) [] pos) (tCallX sp dvs R t):=by
  intro pins s σ H Q I h
  refine wpAny_Call_Name_kw (c'f I hg hm ?_ hdb)
  exact PySem.W.callWith_K (h₀:=X.base) I.ok.mod.kin hk (thn (ha pos pins s σ H _ I h) fun us s1 ⟨vs,H1,I1,r,q⟩=>⟨I1.kIn,k'L F hr hb hd (hx σ) I1 r q⟩) he hpl
abbrev Cx.kept2 (X:Cx) (pn:List (Addr×Obj)) (xe:Value→Shared→Prop):Cx:={ X with pn:=pn,xe:=xe }
theorem Cx.Ok.kept2 (ok:X.Ok) (pn:List (Addr×Obj)) (xe:Value→Shared→Prop):(X.kept2 pn xe).Ok:=
  ⟨ok.mod,ok.kind,ok.glob,ok.blt,ok.above,ok.inj,ok.has,ok.cab,ok.hd,ok.frames,ok.stk,ok.exf,ok.bs,ok.bsz,ok.noex,ok.exfs,ok.funs,ok.frf⟩
theorem Inv.keep2 {pins:List (Addr×Obj)} {σ:St} {H:Hp} {s:Shared} (I:Inv X pins σ H s) (xe:Value→Shared→Prop):Inv (X.kept2 (X.pn++pins) xe) [] σ H s:=
  ⟨I.ok.kept2 _ xe,I.os,I.bare,I.base,I.loc,I.cell,I.free,I.freeC,by rw [List.append_nil];exact I.pin,I.hok,I.len⟩
theorem Inv.unkeep2 {pins more:List (Addr×Obj)} {xe:Value→Shared→Prop} {σ:St} {H:Hp} {s:Shared} (ok:X.Ok) (I:Inv (X.kept2 (X.pn++pins) xe) more σ H s):Inv X pins σ H s:=
  ⟨ok,I.os,I.bare,I.base,I.loc,I.cell,I.free,I.freeC,fun p hp=>I.pin p (List.mem_append_left _ hp),I.hok,I.len⟩
abbrev Cx.inHandler (X:Cx) (v:Value):Cx:={ X with A:=X.A.mark (some v),calm:=false,xe:=fun _ _=>False }
theorem Inv.inHandler {pins:List (Addr×Obj)} {σ:St} {H:Hp} {s:Shared} (I:Inv X pins σ H s) (v:Value):Inv (X.inHandler v) pins σ H s:=
  ⟨⟨I.ok.mod,I.ok.kind,I.ok.glob,I.ok.blt,I.ok.above,I.ok.inj,I.ok.has,I.ok.cab,fun z=>Bool.noConfusion z,I.ok.frames,I.ok.stk,I.ok.exf,I.ok.bs,I.ok.bsz,I.ok.noex,I.ok.exfs,I.ok.funs,I.ok.frf⟩,
    I.os,I.bare,I.base,I.loc,I.cell,I.free,I.freeC,I.pin,I.hok,I.len⟩
theorem Inv.outHandler {pins:List (Addr×Obj)} {σ:St} {H:Hp} {s:Shared} {v:Value} (ok:X.Ok) (I:Inv (X.inHandler v) pins σ H s):Inv X pins σ H s:=
  ⟨ok,I.os,I.bare,I.base,I.loc,I.cell,I.free,I.freeC,I.pin,I.hok,I.len⟩
theorem SP.imp {Y:Cx} {pins pins':List (Addr×Obj)} {D:Ends} {fl:Flow} {s:Shared} (q:SP Y pins' D fl s) (h:∀ σ H,Inv Y pins' σ H s→Inv X pins σ H s):SP X pins D fl s:=by
  cases fl with
  | next => obtain ⟨σ', H', I, q⟩ := q; exact ⟨σ', H', h _ _ I, q⟩
  | brk => obtain ⟨σ', H', I, q⟩ := q; exact ⟨σ', H', h _ _ I, q⟩
  | cont => obtain ⟨σ', H', I, q⟩ := q; exact ⟨σ', H', h _ _ I, q⟩
  | ret u => obtain ⟨v, σ', H', I, r, q⟩ := q; exact ⟨v, σ', H', h _ _ I, r, q⟩
end
end L2
namespace L2
open PySem PySem.Spec PyProof.Rows PySem.W Builtin Builtin.ObjectAttr Builtin.Getset_descriptor
structure ExcK (K:Frag) (C:Addr):Prop where
  fg:findIn K (.ref C) "__getattribute__"=some (some (.builtin "BaseException.__getattribute__"))
  fn:findIn K (.ref C) "__getattr__"=some none
  fc:findIn K (.ref C) "__class__"=some (some (.builtin "object.__class__"))
  mo:mroIn K C (.type "object")=some true
  sb:subIn K (.ref C) (.type "BaseException")=some true
def ExAt (x C:Addr) (h:Heap):Prop:=∃ o,h.get? x=some o∧o.cls=.ref C
theorem ExAt.ty {M:Model} {x C:Addr} {h:Heap} (p:ExAt x C h):Looks M h (typeOf (.ref x)) (.ref C):=by
  obtain⟨o,h1,h2⟩:=p
  rw [← h2]
  exact (Looks.ld h1).andThen .now
section
variable {prog:Program} {w:World} {A:Around} {E:Value→Shared→Prop} {K:Frag} {h:Heap} {g:Array GenState} {d:Drawn} {t:Nat} {os:OsState} {x C:Addr}
theorem h't {M:Model} {nameV:Value} {Q:Unit→Shared→Prop} (Z:ExcK K C) (X:K.In h) (I:ExAt x C h) (hq:Q () ⟨h,g,d,t,os⟩) :
    wpAny M A (checkBuiltinCall "BaseException.__getattribute__" ⟨[.ref x,nameV],[]⟩) Q E ⟨h,g,d,t,os⟩:=by
  have hk:builtinKind "BaseException.__getattribute__"=some .slot:=by decide +kernel
  have hsp:splitId "BaseException.__getattribute__"=some ("BaseException","__getattribute__"):=by decide +kernel
  have ha:=F.args_bexc_ga (.ref x) nameV
  have L0:=I.ty (M:=M)
  have L1:=looks_subIn (M:=M) X Z.sb
  simp only [checkBuiltinCall,hk,hsp]
  refine wpAny_bind ?_
  unfold isInstance
  refine wpAny_bind (L0.at (L1.at ?_))
  repeat (any_goals (first | assumption | wp_step))
theorem k'M {tp:Value} {R:Result→Shared→Prop} (Z:ExcK K C) (X:K.In h) (I:ExAt x C h) (hq:R (.ok (.ret (.ref C))) ⟨h,g,d,t,os⟩) :
    codeAny (model prog w) A (.call (.builtin "getset_descriptor.__get__") ⟨[.builtin "object.__class__",.ref x,tp],[]⟩) R ⟨h,g,d,t,os⟩:=by
  have hT5:(⟨h,g,d,t,os⟩:Shared).TypeIs (.builtin "object.__class__") "getset_descriptor":=F.typeOf_object_class
  have L0:=I.ty (M:=model prog w)
  have L1:=looks_mroIn (M:=model prog w) X Z.mo
  refine codeAny_call_builtin (KF.slot_gs).plain (KF.entry_gs) ((KF.slot_gs).check _ _ _ _ _ _ _ _ (KF.type_class) ((KF.args_gs) _ _ _) ?_)
  (unfold Builtin.«getset_descriptor.__get__» descrGet;rw [dga_obj];refine wpAny_bind (wpAny_pure ?_);unfold descrGetter descrCheckInstance descrNameAndClass isInstance;simp only [KF.owner_class])
  repeat (any_goals (first | assumption | with_reducible refine Looks.at L0 ?_ | with_reducible refine Looks.at L1 ?_ | wp_step))
  (refine⟨Code.quiet_builtin _ (by decide +kernel),codeAny_builtin KF.entry_class ?_⟩;unfold Builtin.«object.__class__» shownTypeOf)
  repeat (any_goals (first | assumption | with_reducible refine Looks.at L0 ?_ | wp_step))
theorem h'u {tk:Tok} {Q:Fin→Shared→Prop} (Z:ExcK K C) (X:K.In h) (I:ExAt x C h) (hq:Q (.done (.ret (.ref C))) ⟨h,g,d,t,os⟩) :
    wpAny (model prog w) A (Builtin.«object.__getattribute__» ⟨[.ref x,.str "__class__" tk],[]⟩) Q E ⟨h,g,d,t,os⟩:=by
  have hT5:(⟨h,g,d,t,os⟩:Shared).TypeIs (.builtin "object.__class__") "getset_descriptor":=F.typeOf_object_class
  have f5:=F.typeOf_object_class
  have f6:=F.slot_gs_get.lookup
  have f7:=F.slot_gs_set.lookup
  have L0:=I.ty (M:=model prog w)
  have L1:=looks_findIn (M:=model prog w) X Z.fc
  repeat (any_goals (first | assumption | with_reducible refine Looks.at L0 ?_ | with_reducible refine Looks.at L1 ?_ | wp_step))
  refine k'M Z X I ?_
  repeat (any_goals (first | assumption | wp_step))
theorem n'Z {tk:Tok} {Q:Value→Shared→Prop} (Z:ExcK K C) (X:K.In h) (I:ExAt x C h) (hq:Q (.ref C) ⟨h,g,d,t,os⟩) :
    wpAny (model prog w) A (getAttrBy (.ref x) (.str "__class__" tk) false) Q E ⟨h,g,d,t,os⟩:=by
  have f3:=F.excAttr_ValueError.ga.bind (.ref x)
  have L0:=I.ty (M:=model prog w)
  have L1:=looks_findIn (M:=model prog w) X Z.fg
  have L2:=looks_findIn (M:=model prog w) X Z.fn
  have hx2:(Value.builtin "BaseException.__getattribute__" == Value.builtin "object.__getattribute__")=false:=by decide +kernel
  have hx1:(onTheHeap (Value.ref C) && Value.builtin "BaseException.__getattribute__" == Value.builtin "object.__getattribute__")=false:=by rw [hx2];rfl
  repeat (any_goals (first | assumption | with_reducible refine Looks.at L0 ?_ | with_reducible refine Looks.at L1 ?_ | with_reducible refine Looks.at L2 ?_ | wp_step))
  refine codeAny_call_builtin F.excAttr_ValueError.ga.plain F.entry_bexc_ga (h't Z X I (h'u Z X I ?_))
  repeat (any_goals (first | assumption | wp_step))
theorem h'v {Q:Option Value→Shared→Prop} (Z:ExcK K C) (X:K.In h) (I:ExAt x C h) (hq:Q (some (.ref C)) ⟨h,g,d,t+1,os⟩):wpAny (model prog w) A (getAttr? (.ref x) "__class__") Q E ⟨h,g,d,t,os⟩:=by
  unfold getAttr? getAttrBy?
  repeat (any_goals (first | assumption | with_reducible apply n'Z Z X I | wp_step))
theorem i'P (Z:ExcK K C):KitX K (.ref x) (.ref C) (ExAt x C) where
  ty:=fun _ _ _ I=>I.ty
  it:=fun _ _ X _=>by
    have e:=Z.fn
    unfold findIn at e
    dsimp only at e
    split at e
    · rename_i ho
      intro A' Q' E' s' k q
      unfold isType loadHead
      exact wpAny_bind (wpAny_loadPart (k _ _ (X _ _ ho)) (wpAny_pure q))
    · cases e
  ne:=fun h tp dd its n sl X htp=>by
    have e:=Z.fn
    unfold findIn at e
    dsimp only at e
    split at e
    · rename_i ho
      refine Bool.eq_false_iff.mpr fun q=>?_
      have e:C=tp:=Value.ref.inj (beq_iff_eq.mp q)
      subst e
      have z:=(X _ _ ho).symm.trans htp
      cases z
    · cases e
  ca:=fun {_ _ _ _ _ s} X I k=>by
    obtain⟨hh,gg,dd,tt,oo⟩:=s
    exact h'v Z X I k
end
def exO (x C:Addr):HO:=.ext (ExAt x C)
theorem o'a {P:Program} {w:World} {H:Hp} {h:Heap} {x C:Addr} (p:ExAt x C h):ObjOk P w H h x (exO x C):=by
  refine⟨p,?_,fun h1 h2 q k=>?_⟩
  · obtain⟨o,e,_⟩:=p
    exact⟨o,e⟩
  · obtain⟨o,e,c⟩:=q
    exact⟨o,k o e,c⟩
section
variable {X:Cx}
theorem i'Q:CallR X (.builtin "isinstance") (fun xs H Q=>∃ x D c b u,xs=[.ref x,c]∧Rd H x (exO x D)∧ExcK X.K D∧clsV c=some u∧kitOne X.K (.ref D) u=some b∧Q (.bl b) H):=by
  intro pins s σ H xs us Q I r h
  obtain⟨x,D,c,b,u,rfl,hx,Z,rc,e,q⟩:=h
  obtain⟨v,w',rfl,rx,rw'⟩:=g'u r
  have ew:w'=u:=by
    cases c with
    | ref a=>cases rc;exact rw'
    | ty n=>cases rc;exact rw'
    | non=>cases rc
    | bl n=>cases rc
    | int i=>cases rc
    | str i=>cases rc
    | byt i=>cases rc
    | flt i=>cases rc
  subst ew
  cases (show v=Value.ref x from rx)
  have hx:ExAt x D s.heap:=by
    rcases hx with hx | ⟨o,hx⟩
    · exact (I.hok x _ hx).1
    · exact (I.hok x _ hx).2.1
  exact kia_one (i'P Z) I.kIn hx e (fun z=>nomatch z) fun tk=>⟨.bl b,H,I.tok tk,rfl,q⟩
end
end L2
namespace L2
open PySem PySem.Spec PyProof.Rows
section
variable {P:Program} {w:World} {K:PySem.W.Frag} {mg:Str→Option Value} {base:Heap}
end
section
variable {X:Cx} {k:Nat} {f:Addr} {fd:FuncData} {ps:List Str} {sp:Sp} {x:Str} {p pos:Pos} {e:Expr} {es:List Expr} {t:TA}
end
section
variable {X:Cx}
theorem Inv.gone {pins:List (Addr×Obj)} {σ:St} {H:Hp} {s:Shared} {i:Nat} {n:Str} {m:Str→Option Value} {v:Option Value} {h':Heap} {tk:Nat} (I:Inv X pins σ H s) (hN:X.N.Nodup) (hi:X.N[i]?=some n)
    (hm:s.heap.Ns X.env.locals m) (hl:∀ (j:Nat) (x:Str) (v:V),X.N[j]?=some x→σ[j]?=some (some v)→Vis X.env.scope x→∃ u,RelV v u∧Look X.env s.heap m x u)
    (hn:h'.Ns X.env.locals (fun x=>if x=n then v else m x)) (hs:Heap.SameBut X.env.locals s.heap h'):Inv X pins (σ.set i none) H { s with heap:=h',toks:=tk }:=by
  have apart:∀ b o,X.s₀.heap.get? b=some o→b≠X.env.locals:=fun b o e=>Nat.ne_of_lt (Nat.lt_of_lt_of_le (Heap.lt_size e) I.ok.above)
  refine⟨I.ok,I.os,I.bare,⟨fun b o e q hb hx=>(hs.2 b (apart b o e)).trans (I.base.keep b o e q hb hx),fun b o e q hb hx=>?_,I.base.free,fun b o e hx=>?_,I.base.tups,I.base.frzs,I.base.tbls⟩,
    ⟨_,hn,fun j y w' e1 e2 e3=>?_⟩,fun y c e=>?_,I.free,I.freeC,fun p hp=>?_,fun b u e=>?_,by rw [List.length_set];exact I.len⟩
  · obtain⟨sl,z⟩:=I.base.slot b o e q hb hx
    exact⟨sl,(hs.2 b (apart b o e)).trans z⟩
  · obtain⟨o',z⟩:=I.base.there b o e hx
    exact⟨o',(hs.2 b (apart b o e)).trans z⟩
  · have hj:i≠j:=fun z=>by
      subst z
      rw [List.getElem?_set] at e2
      split at e2
      · split at e2<;>cases e2
      · rename_i q;exact q rfl
    rw [List.getElem?_set_ne hj] at e2
    obtain⟨u,r,q⟩:=hl j y w' e1 e2 e3
    refine⟨u,r,q.imp (fun q=>⟨q.1,?_⟩) fun ⟨k,c,e,z⟩=>⟨k,c,e,z.sameBut hs (I.cne y c e)⟩⟩
    have ny:y≠n:=fun z=>hj (c'V hN hi (z ▸ e1))
    show (if y=n then v else m y)=_
    rw [if_neg ny]
    exact q.2
  · obtain⟨u,z⟩:=I.cell y c e
    exact⟨u,z.sameBut hs (I.cne y c e)⟩
  · obtain⟨e,q,ne,r⟩:=I.pin p hp
    exact⟨(hs.2 p.1 ne).trans e,q,ne,r⟩
  · refine (I.hok b u e).stay (fun c o hc q=>(hs.2 c ?_).trans q) (fun _ q=>q) fun _ _ q=>q
    rintro rfl
    rcases hc with z | z
    · rw [← z,I.free] at e;cases e
    · rw [I.free] at z;cases z
def Ends.less (D:Ends) (i:Nat):Ends:={ nx:=fun σ H=>D.nx (σ.set i none) H,rt:=D.rt,bk:=fun σ H=>D.bk (σ.set i none) H,ct:=fun σ H=>D.ct (σ.set i none) H }
def CatAs (K:PySem.W.Frag) (C:Addr) (i:Nat) (th:TS) (D:Ends):St→XK:=fun σ cls _ H=>PySem.W.exmOne K cls (.ref C)=some true∧∃ B,cls=.ref B∧∀ y,H y=none→th (D.less i) (σ.set i (some (.ref y))) (upd H y (exO y B))
def tTryAs (K:PySem.W.Frag) (C:Addr) (i:Nat) (tb:(St→XK)→TS) (th:TS):TS:=fun D σ H=>tb (CatAs K C i th D) D σ H
theorem i'R {body suite:List Stmt} {b₀:Stmt} {x n:Str} {np hpos pos:Pos} {C:Addr} {i:Nat} {tb:(St→XK)→TS} {th:TS} (hs:X.stack=X.env :: X.outer) (hf:X.env.frame=some X.env.locals) (hg:Gl X x) (hm:X.mg x=some (.ref C))
    (hN:X.N.Nodup) (hi:X.N[i]?=some n) (hn:X.env.scope.names.lookup n=some .local)
    (hb:∀ (pn:List (Addr×Obj)) (xe:Value→Shared→Prop) (R:St→XK),(∀ σ,PassAt (CX1 X.prog X.w) (X.kept2 pn xe) σ (R σ))→PSs (X.kept2 pn xe) body (tb R))
    (hh:∀ v:Value,PSs (X.inHandler v) (b₀ :: suite) th) (hdb:(x == ("__debug__":Str))=false:=by decide) :
    PS X (.Try body [.ExceptHandler (some (.Name x np)) (some n) (b₀ :: suite) hpos] [] [] pos) (tTryAs X.K C i tb th):=by
  intro pins s σ H D I h
  refine wpAny_Try_except ?_
  have land:∀ σ',PassAt (CX1 X.prog X.w) (X.kept2 (X.pn++pins) fun e s₁=>wpAny (model X.prog X.w) X.A (noteFrame e X.env) (fun _ s₂=>wpAny (model X.prog X.w) X.A (setFlight e none)
      (fun _ s₃=>wpAny (model X.prog X.w) X.A (handleBy e X.env [.ExceptHandler (some (.Name x np)) (some n) (b₀ :: suite) hpos]) (SP X pins D) X.xe s₃) X.xe s₂) X.xe s₁) σ' (CatAs X.K C i th D σ'):=by
    intro σ' pins' H1 s1 e s2 I1 hc
    obtain⟨y,cls,H2,rfl,os,bare,un,hok,fly,hcat,B,rfl,hth⟩:=hc
    have J1:Inv X pins σ' H1 s1:=Inv.unkeep2 I.ok I1
    have J2:Inv X pins σ' H2 s2:=J1.call' (ch:=[]) os un hok bare (fun b z=>absurd z (by simp))
    obtain⟨T,a0,hT0,hT,htr⟩:=fly.traced
    have hin:∀ env∈X.env :: X.outer,∀ a,env.frame=some a→a∈y :: T :: frs X.stack:=fun env he a hf=>.tail _ (.tail _ (by rw [hs];exact f'Y env he a hf))
    have fl0:Heap.FlyingW (PySem.W.hideAll s2.heap (y :: T :: frs X.stack)) (X.env :: X.outer) y (.ref B) a0 s2.heap:=
      ⟨fun b o q=>PySem.W.of_hideAll _ q,PySem.W.hideAll_none _ (.head _),PySem.W.funFrames_hide (hs ▸ J2.stack) hin,htr _ (.tail _ (.head _))⟩
    have on:∀ h2:Heap,(PySem.W.hideAll s2.heap (y :: T :: frs X.stack)).StaysIn h2→s2.heap.UpToSlots h2→Un (frs X.stack) [] H1 H2 s1.heap h2∧HOk X.prog X.w H2 h2:=fun h2 k sm=>by
      obtain⟨u,ok,_⟩:=h's (fs:=frs X.stack) (fr:=frs X.stack) (bad:=[y,T]) un hok (fun b hb=>by
        rcases List.mem_cons.mp hb with z | hb
        · exact .inl (by rw [z];exact .head _)
        · rcases List.mem_cons.mp hb with z | hb
          · exact .inl (by rw [z];exact .tail _ (.head _))
          · exact .inr hb) (fun b hb=>by
        rcases List.mem_cons.mp hb with z | hb
        · rw [z];exact⟨fly.1,fly.2.1⟩
        · have z:b=T:=by simpa using hb
          rw [z];exact⟨hT0,hT⟩) (fun b hb=>⟨.inl hb,(J2.frm b hb).2⟩) (fun _ hb=>hb) k sm
      exact⟨u,ok⟩
    refine wpAny_looks_onW (by rw [I.ok.frames,hs]) hf fl0 fun h4 held4 sm4=>?_
    refine wpAny_landsW held4 fun h5 fl5 sm5=>?_
    have o5:=on h5 fl5.1 (sm4.trans sm5)
    have J5:Inv X pins σ' H2 { s2 with heap:=h5 }:=J1.call' (s':={ s2 with heap:=h5 }) (ch:=[]) os o5.1 o5.2 bare (fun b z=>absurd z (by simp))
    refine wpAny_handleBy_cons (codeAny_handlers_test ?_) (by intro q;cases q)
    refine c'f (X:=X.inHandler (.ref y)) (J5.inHandler (.ref y)) hg hm ?_ hdb
    obtain⟨ob,hob,hoc⟩:=fl5.there
    refine (PySem.W.exm_one (M:=model X.prog X.w) J5.kIn (show PySem.W.Looks _ h5 (typeOf (.ref y)) (.ref B) from ExAt.ty ⟨ob,hob,hoc⟩) hcat).here ?_
    refine codeAny_handlers_suite_as (lands_againW fl5 fun h6 fl6 sm6=>?_)
    have o6:=on h6 fl6.1 ((sm4.trans sm5).trans sm6)
    obtain⟨ob6,hob6,hoc6⟩:=fl6.there
    have ne:∀ b o,H2 b=some o→b≠y:=fun b o q z=>by rw [z,fly.2.1] at q;cases q
    have un6:Un (frs X.stack) [] H1 (upd H2 y (exO y B)) s1.heap h6:=
      ⟨o6.1.keep,o6.1.slot,fun b o e q hx=>by rw [a'h (fun z=>by rw [z,fly.1] at e;cases e)];exact o6.1.free b o e q hx,o6.1.there,fun b xs q=>by rw [a'h (ne b _ (o6.1.tups b xs q))];exact o6.1.tups b xs q,
        fun b o u q=>by rw [a'h (ne b _ (o6.1.frzs b o u q))];exact o6.1.frzs b o u q,fun b ps q=>by
          obtain⟨more,z⟩:=o6.1.tbls b ps q
          exact⟨more,by rw [a'h (ne b _ z)];exact z⟩⟩
    have ok6:HOk X.prog X.w (upd H2 y (exO y B)) h6:=fun b o q=>by
      by_cases z:b=y
      · subst z
        rw [a'o] at q
        cases q
        exact o'a ⟨ob6,hob6,hoc6⟩
      · rw [a'h z] at q
        exact (o6.2 b o q).stay (fun _ _ _ e=>e) (fun c e=>by rw [a'h (ne c _ e)];exact e) fun c xs e=>by rw [a'h (ne c _ e)];exact e
    have J6:Inv X pins σ' (upd H2 y (exO y B)) { s2 with heap:=h6 }:=J1.call' (s':={ s2 with heap:=h6 }) (ch:=[]) os un6 ok6 bare (fun b z=>absurd z (by simp))
    refine b'L (X:=X.inHandler (.ref y)) (v:=.ref y) (J6.inHandler (.ref y)) hN hi (.inl hn) rfl (fun s7 J7=>?_) (.inr hn)
    refine wpAny_mono (hh (.ref y) pins s7 _ _ _ J7 (hth y fly.2.1)) (fun fl s8 q=>?_) fun _ _ z=>z.elim
    have go:∀ {σ8:St} {H8:Hp} {R:Unit→Shared→Prop},Inv (X.inHandler (.ref y)) pins σ8 H8 s8→(∀ s9,Inv X pins (σ8.set i none) H8 s9→R () s9)→wpAny (model X.prog X.w) X.A (do bindName X.env n .none;unbindBehindTheSuite X.env n hpos) R X.xe s8:=by
      intro σ8 H8 R J8 hR
      have J:=Inv.outHandler I.ok J8
      obtain⟨m,hm8,hl8⟩:=J.loc
      exact wpAny_nameGoes_keeps hn hm8 (by rw [I.ok.kind];rfl) fun h9 v hn9 hs9=>hR _ (J.gone hN hi hm8 hl8 hn9 hs9)
    match fl,q with
    | .next,⟨σ8,H8,J8,q⟩=>exact go J8 fun s9 J9=>⟨_,_,J9,q⟩
    | .brk,⟨σ8,H8,J8,q⟩=>exact go J8 fun s9 J9=>⟨_,_,J9,q⟩
    | .cont,⟨σ8,H8,J8,q⟩=>exact go J8 fun s9 J9=>⟨_,_,J9,q⟩
    | .ret u,⟨v,σ8,H8,J8,rv,q⟩=>exact go J8 fun s9 J9=>⟨v,_,_,J9,rv,q⟩
  refine wpAny_mono (hb _ _ _ land [] s σ H D (I.keep2 _) h) (fun fl s1 q=>?_) fun _ _ z=>z
  have q':SP X pins D fl s1:=q.imp fun σ H J=>Inv.unkeep2 I.ok J
  cases fl with
  | next => exact wpAny_execs_nil q'
  | brk => exact q'
  | cont => exact q'
  | ret u => exact q'
end
end L2
namespace Vc
open PySem L2 Sf
theorem Le.exc {F F':Hp} {a B:Addr} (e:Le F F') (h:Rd F a (exO a B)):Rd F' a (exO a B):=e _ _ (by intro o w z;cases z) h
end Vc
namespace L2
open PySem PySem.Spec PyProof.Rows
def Ite (K:PySem.W.Frag) (a:Addr):It:=
  ⟨fun i H=>∃ xs x,SqL K H a xs∧xs[i]?=some x,fun i H y H'=>∃ p x,y=.ref p∧H p=none∧(∀ xs,SqL K H a xs→xs[i]?=some x)∧H'=upd H p (.tup [.int i,x]),fun i H=>∃ xs,SqL K H a xs∧xs.length≤i⟩
theorem Inv.turned2 {X:Cx} {pins:List (Addr×Obj)} {σ:St} {H:Hp} {s:Shared} {h':Heap} {t':Nat} {a b:Addr} (I:Inv X pins σ H s) (k:∀ c o,c≠a→c≠b→s.heap.get? c=some o→h'.get? c=some o)
    (ha:FpOk X pins H a) (hb:FpOk X pins H b) (ea:∃ o,h'.get? a=some o) (eb:∃ o,h'.get? b=some o):Inv X pins σ H { s with heap:=h',toks:=t' }:=by
  obtain⟨a0,a1,a2,a3,a4,a5⟩:=ha
  obtain⟨b0,b1,b2,b3,b4,b5⟩:=hb
  refine I.call' (s':={ s with heap:=h',toks:=t' }) (ch:=[a,b]) rfl ⟨fun c o e _ _ hc=>?_,fun c o e _ _ hc=>⟨o.slots,?_⟩,fun _ _ _ n _=>n,fun c o e hc=>⟨o,?_⟩,fun _ _ q=>q,fun _ _ _ q=>q,fun _ ps q=>⟨#[],by rw [q];simp⟩⟩ (fun c u e=>?_) I.bare (fun c hc=>?_)
  · exact k c o (fun z=>hc (by simp [z])) (fun z=>hc (by simp [z])) e
  · exact k c o (fun z=>hc (by simp [z])) (fun z=>hc (by simp [z])) e
  · exact k c o (fun z=>hc (by simp [z])) (fun z=>hc (by simp [z])) e
  · refine (I.hok c u e).stay (fun d o hd q=>k d o ?_ ?_ q) (fun _ q=>q) fun _ _ q=>q
    · rintro rfl
      rcases hd with z | z
      · rw [← z,a0] at e;cases e
      · rw [a0] at z;cases z
    · rintro rfl
      rcases hd with z | z
      · rw [← z,b0] at e;cases e
      · rw [b0] at z;cases z
  · rcases List.mem_cons.mp hc with z | hc
    · rw [z];exact⟨a3,a1,a4,a5⟩
    · have z:c=b:=by simpa using hc
      rw [z];exact⟨b3,b1,b4,b5⟩
theorem h'w {P:Program} {w:World} {K:PySem.W.Frag} {elts:List Expr} {x1:Nat} {pos:Pos} (a it en:Addr) (hne:en≠it) :
    Turn P w K (.Tuple elts x1 pos) (Ite K a) [en,it] en (fun i h=>(∃ old,IsEnum h en it i old)∧h.IsListIter it a i) where
  mem:=by simp
  obj:=fun i h st b hb=>by
    obtain⟨⟨old,e1⟩,o,e2,c,d⟩:=st
    rcases List.mem_cons.mp hb with z | hb
    · rw [z];exact⟨_,e1,fun v z=>by cases z⟩
    · have z:b=it:=by simpa using hb
      rw [z];exact⟨o,e2,fun v z=>by rw [d] at z;cases z⟩
  keep:=fun i h h' st k=>by
    obtain⟨⟨old,e1⟩,e2⟩:=st
    exact⟨⟨old,k en (by simp) _ e1⟩,e2.at fun o e=>k it (by simp) o e⟩
  item:=by
    intro X hP hw hK hc i pins s σ H E I hf st hg
    subst hP hw hK
    obtain⟨⟨old,he⟩,hit⟩:=st
    obtain⟨xs,x,hq,hx⟩:=hg
    obtain⟨its,rv,p,hz⟩:=I.list hq
    obtain⟨u,hu,ru⟩:=rv.get hx
    have fe:=hf en (by simp)
    have fi:=hf it (by simp)
    refine wpAny_pyNext_enum_item he hit p.isList (x:=u) (by simpa using hu) hne fun h' hout hit' hT hsz hk=>?_
    refine⟨.ref s.heap.objs.size,rfl,wpAny_letOwnedTupleGo_enum hout fun h2 he2 hs=>?_⟩
    have le:en<s.heap.objs.size:=Heap.lt_size he
    have li:it<s.heap.objs.size:=let ⟨o,e,_⟩:=hit;Heap.lt_size e
    have hfr:H s.heap.objs.size=none:=I.hok.fresh (Nat.le_refl _)
    have ne1:en≠s.heap.objs.size:=Nat.ne_of_lt le
    have ne2:it≠s.heap.objs.size:=Nat.ne_of_lt li
    have I1:=I.laid (a:=s.heap.objs.size) (o:=.tup [.int i,x]) (h':=s.heap.push { cls:=.type "tuple",data:=.seq #[.int i s.toks,u] }) (t':=s.toks) (fun b q hq=>Heap.get?_push_of_some _ hq) (Nat.le_refl _)
      ⟨by show 2≤sizeLine;decide,[.int i s.toks,u],.cons ⟨_,rfl⟩ (.cons ru .nil),⟨_,Heap.get?_push_size _ rfl,rfl,_,rfl⟩⟩
    have up:∀ {b:Addr},b≠s.heap.objs.size→FpOk X pins H b→FpOk X pins (upd H s.heap.objs.size (.tup [.int i,x])) b:=fun hb f=>⟨by rw [a'h hb];exact f.1,f.2⟩
    have hk2:∀ b q,b≠en→b≠it→(s.heap.push { cls:=.type "tuple",data:=.seq #[.int i s.toks,u] }).get? b=some q→h2.get? b=some q:=fun b q h1 h3 hq=>by
      refine hs.extBut b q h1 ?_
      rcases Heap.get?_push_cases hq with ⟨hbs,eq⟩ | hq
      · subst hbs
        subst eq
        exact hT
      · exact hk b q h1 h3 hq
    obtain⟨oi,ei,ci,di⟩:=hit'
    have hit2:h2.IsListIter it a (i+1):=⟨oi,hs.extBut it oi (Ne.symm hne) ei,ci,di⟩
    refine⟨.ref s.heap.objs.size,upd H s.heap.objs.size (.tup [.int i,x]),?_,rfl,⟨_,x,rfl,hfr,fun ys hy=>by rw [I.list_inj hy hq];exact hx,rfl⟩,⟨⟨_,he2⟩,hit2⟩,fun b hb=>?_⟩
    · exact Inv.turned2 (s:={ s with heap:=s.heap.push { cls:=.type "tuple",data:=.seq #[.int i s.toks,u] },toks:=s.toks }) (t':=s.toks+1) I1 hk2 (up ne1 fe) (up ne2 fi) ⟨_,he2⟩ ⟨oi,hs.extBut it oi (Ne.symm hne) ei⟩
    · rcases List.mem_cons.mp hb with z | hb
      · rw [z,a'h ne1];exact fe.1
      · have z:b=it:=by simpa using hb
        rw [z,a'h ne2];exact fi.1
  done:=by
    intro X hP hw hK hc i pins s σ H E I hf st hg
    subst hP hw hK
    obtain⟨⟨old,he⟩,hit⟩:=st
    obtain⟨xs,hq,hx⟩:=hg
    obtain⟨its,rv,p,hz⟩:=I.list hq
    have hl:=rv.length
    obtain⟨f0,f1,f2,f3,f4,f5⟩:=hf it (by simp)
    exact wpAny_pyNext_enum_end (I.ok.hd hc) he hit p.isList (by simp;omega) fun h' eb=>⟨rfl,I.turned (t':=s.toks) (fun b o hb e=>eb b o hb e) f0 f1 f3 f4 f5⟩
  self:=fun _ _ _ _ _ st h=>let ⟨⟨_,he⟩,_⟩:=st;wpAny_pyIter_enum he h
section
variable {X:Cx}
def iEnum (K:PySem.W.Frag) (ta:TA):TI:=fun σ H R=>ta σ H fun vs H1=>∃ a,vs=[.ref a]∧(∃ xs,SqL K H1 a xs)∧R (Ite K a) H1
theorem k'N {l:Expr} {ta:TA} {elts:List Expr} {x1:Nat} {tpos p pos:Pos} (hg:Gl X "enumerate") (hm:X.mg "enumerate"=none) (ha:PA X [l] ta) (hs:starEach [l] X.env=[(false,eval l X.env)]:=by rfl) :
    PI X (.Tuple elts x1 tpos) (.Call (.Name "enumerate" p) [l] [] pos) (iEnum X.K ta):=by
  intro pins s σ H R I h
  refine Call_ (c'y I hg hm (u:=.type "enumerate") rfl (PyProof.Rows.callWith_type1 (thn (ha pos pins s σ H _ I h) fun us s1 ⟨vs,H1,I1,r1,a,e,⟨xs,hq⟩,q⟩=>?_) hs rfl))
  subst e
  cases r1 with
  | cons r rr =>
    cases rr
    cases r
    obtain⟨its,rv,p,hz⟩:=I1.list hq
    refine call_enumerate_list p.isList fun h' hE hit hsz hk=>wpAny_pyIter_enum hE ?_
    have ne:s1.heap.objs.size+1≠s1.heap.objs.size:=by omega
    refine⟨s1.heap.objs.size+1,[s1.heap.objs.size+1,s1.heap.objs.size],_,_,H1,rfl,I1.kept (t':=s1.toks) hk,h'w a _ _ ne,⟨⟨_,hE⟩,hit⟩,fun b hb=>?_,q⟩
    rcases List.mem_cons.mp hb with z | hb
    · rw [z];exact I1.fpOk (by omega) (I1.hok.fresh (by omega))
    · have z:b=s1.heap.objs.size:=by simpa using hb
      rw [z];exact I1.fpOk (Nat.le_refl _) (I1.hok.fresh (Nat.le_refl _))
end
end L2
namespace L2
open PySem PySem.Spec PyProof.Rows
theorem d'q:∀ {bs:List Bool} {us:List Value},Vals (bs.map V.bl) us→us=bs.map Value.bool
  | [], _, .nil => rfl
  | b :: r, _, .cons h t => by
    have e:=d'q (bs:=r) t
    subst e
    cases h
    rfl
theorem h'x (bs:List Bool):(List.range bs.length).any (fun i=>bs.getD i false)=bs.any id:=by
  rw [Bool.eq_iff_iff,List.any_eq_true,List.any_eq_true]
  constructor
  · rintro⟨i,hi,h⟩
    rw [List.mem_range] at hi
    refine⟨bs[i],List.getElem_mem hi,?_⟩
    rw [List.getD_eq_getElem?_getD,List.getElem?_eq_getElem hi] at h
    exact h
  · rintro⟨b,hb,h⟩
    obtain⟨i,hi,rfl⟩:=List.getElem_of_mem hb
    refine⟨i,List.mem_range.mpr hi,?_⟩
    rw [List.getD_eq_getElem?_getD,List.getElem?_eq_getElem hi]
    exact h
theorem f'D {prog:Program} {w:World} {A:Around} (bs:List Bool):TruthOf prog w A (fun i v=>(bs.map Value.bool).toArray[i]?=some v) (fun i=>bs.getD i false):=by
  intro i v s Q E hP hQ
  simp only [List.getElem?_toArray,List.getElem?_map] at hP
  cases q:bs[i]? with
  | none => rw [q] at hP; cases hP
  | some b =>
    rw [q] at hP
    cases hP
    have hQ:Q (bs.getD i false) s:=hQ
    rw [List.getD_eq_getElem?_getD,q] at hQ
    exact wpAny_pure hQ
section
variable {X:Cx}
theorem h'y (hc:X.calm=true):CallR X (.builtin "any") (fun xs H Q=>∃ (a:Addr) (bs:List Bool),xs=[.ref a]∧SqL X.K H a (bs.map V.bl)∧Q (.bl (bs.any id)) H):=by
  intro pins s σ H xs us Q I r h
  obtain⟨a,bs,rfl,hq,q⟩:=h
  obtain⟨u,rfl,ru⟩:=c'j r
  cases ru
  obtain⟨its,rv,p,hz⟩:=I.list hq
  obtain rfl:=d'q rv
  have hL:=p.isList
  have la:a<s.heap.objs.size:=(let ⟨_,e,_⟩:=hL;Heap.lt_size e)
  refine call_any_walk (wpAny_pyIter_list hL ?_)
  refine⟨s.heap.objs.size,_,_,_,_,_,_,rfl,Walks.list (by exact I.ok.hd hc) _ a (Nat.ne_of_lt la) _,⟨⟨_,Heap.get?_push_size _ rfl,rfl,rfl⟩,(let ⟨o,e,c⟩:=hL;⟨o,Heap.get?_push_of_some _ e,c⟩)⟩,f'D bs,fun h' tk hk=>?_⟩
  refine⟨.bl (bs.any id),H,I.kept fun b o e=>hk b o (fun z=>absurd (Heap.lt_size e) (by rw [show b=s.heap.objs.size from by simpa using z];exact Nat.lt_irrefl _)) (Heap.get?_push_of_some _ e),?_,q⟩
  rw [← h'x]
  show _=_
  simp
end
end L2
namespace L2
end L2
namespace Vc
open PySem L2 Sf
end Vc
namespace L2
open PySem PySem.Spec PyProof.Rows
section
variable {X:Cx}
end
section
variable {g:TG} {ti:TT} {te:TE} {ix:List (Option Nat)} {σ:St} {Q:VK}
end
end L2
namespace L2
open PySem PySem.Spec PyProof.Rows
theorem Inv.turnedL {X:Cx} {pins:List (Addr×Obj)} {σ:St} {H:Hp} {s:Shared} {h':Heap} {t':Nat} {ch:List Addr} (I:Inv X pins σ H s) (k:∀ c o,c ∉ ch→s.heap.get? c=some o→h'.get? c=some o)
    (hf:∀ b∈ch,FpOk X pins H b):Inv X pins σ H { s with heap:=h',toks:=t' }:=by
  refine I.call' (s':={ s with heap:=h',toks:=t' }) (ch:=ch) rfl ⟨fun c o e _ _ hc=>k c o hc e,fun c o e _ _ hc=>⟨o.slots,k c o hc e⟩,fun _ _ _ n _=>n,fun c o e hc=>⟨o,k c o hc e⟩,fun _ _ q=>q,fun _ _ _ q=>q,fun _ ps q=>⟨#[],by rw [q];simp⟩⟩ (fun c u e=>?_) I.bare (fun c hc=>?_)
  · refine (I.hok c u e).stay (fun d o hd q=>k d o (fun hm=>?_) q) (fun _ q=>q) fun _ _ q=>q
    have d0:=(hf d hm).1
    rcases hd with z | z
    · rw [← z,d0] at e;cases e
    · rw [d0] at z;cases z
  · obtain⟨a0,a1,a2,a3,a4,a5⟩:=hf c hc
    exact⟨a3,a1,a4,a5⟩
def Itz (K:PySem.W.Frag) (a b:Addr):It:=
  ⟨fun i H=>∃ xs ys x y,SqL K H a xs∧SqL K H b ys∧xs[i]?=some x∧ys[i]?=some y,
    fun i H v H'=>∃ p x y,v=.ref p∧H p=none∧(∀ xs,SqL K H a xs→xs[i]?=some x)∧(∀ ys,SqL K H b ys→ys[i]?=some y)∧H'=upd H p (.tup [x,y]),
    fun i H=>∃ xs ys,SqL K H a xs∧SqL K H b ys∧(xs.length≤i∨ys.length≤i)⟩
theorem i'S {P:Program} {w:World} {K:PySem.W.Frag} {elts:List Expr} {x1:Nat} {pos:Pos} {a b z TI TO i1 i2:Addr} (D:ZipApart z TI TO i1 i2 a b) :
    Turn P w K (.Tuple elts x1 pos) (Itz K a b) [z,TI,TO,i1,i2] z (fun i h=>IsZip h z TI TO .none∧IsPair h TI (.ref i1) (.ref i2)∧(∃ c d,IsPair h TO c d)∧h.IsListIter i1 a i∧h.IsListIter i2 b i) where
  mem:=by simp
  obj:=fun i h st c hc=>by
    obtain⟨e1,e2,⟨u,v,e3⟩,⟨o4,e4,c4,d4⟩,⟨o5,e5,c5,d5⟩⟩:=st
    simp only [List.mem_cons,List.not_mem_nil,or_false] at hc
    rcases hc with rfl | rfl | rfl | rfl | rfl
    · exact⟨_,e1,fun v z=>by cases z⟩
    · exact⟨_,e2,fun v z=>by cases z⟩
    · exact⟨_,e3,fun v z=>by cases z⟩
    · exact⟨o4,e4,fun v z=>by rw [d4] at z;cases z⟩
    · exact⟨o5,e5,fun v z=>by rw [d5] at z;cases z⟩
  keep:=fun i h h' st k=>by
    obtain⟨e1,e2,⟨u,v,e3⟩,e4,e5⟩:=st
    exact⟨k z (by simp) _ e1,k TI (by simp) _ e2,⟨u,v,k TO (by simp) _ e3⟩,e4.at fun o e=>k i1 (by simp) o e,e5.at fun o e=>k i2 (by simp) o e⟩
  item:=by
    intro X hP hw hK hc i pins s σ H E I hf st hg
    subst hP hw hK
    obtain⟨e1,e2,⟨c,d,e3⟩,e4,e5⟩:=st
    obtain⟨xs,ys,x,y,hq,hq',hx,hy⟩:=hg
    obtain⟨its,rv,p,hz⟩:=I.list hq
    obtain⟨its',rv',p',hz'⟩:=I.list hq'
    obtain⟨u,hu,ru⟩:=rv.get hx
    obtain⟨u',hu',ru'⟩:=rv'.get hy
    refine wpAny_pyNext_zip_item D e1 e2 e3 e4 e5 p.isList p'.isList (x:=u) (y:=u') (by simpa using hu) (by simpa using hu') fun h' g1 g2 g3 g4 hT hsz hk=>?_
    refine⟨.ref s.heap.objs.size,rfl,wpAny_letOwnedTupleGo_zip g1 fun h2 hz2 hs=>?_⟩
    have hfr:H s.heap.objs.size=none:=I.hok.fresh (Nat.le_refl _)
    have lt:∀ {c o},s.heap.get? c=some o→c≠s.heap.objs.size:=fun e=>Nat.ne_of_lt (Heap.lt_size e)
    have ne:∀ c∈[z,TI,TO,i1,i2],c≠s.heap.objs.size:=fun c hc=>by
      simp only [List.mem_cons,List.not_mem_nil,or_false] at hc
      rcases hc with rfl | rfl | rfl | rfl | rfl
      · exact lt e1
      · exact lt e2
      · exact lt e3
      · obtain⟨o,e,_⟩:=e4;exact lt e
      · obtain⟨o,e,_⟩:=e5;exact lt e
    have I1:=I.laid (a:=s.heap.objs.size) (o:=.tup [x,y]) (h':=s.heap.push { cls:=.type "tuple",data:=.seq #[u,u'] }) (t':=s.toks) (fun b q hq=>Heap.get?_push_of_some _ hq) (Nat.le_refl _)
      ⟨by show 2≤sizeLine;decide,[u,u'],.cons ru (.cons ru' .nil),⟨_,Heap.get?_push_size _ rfl,rfl,_,rfl⟩⟩
    have hk2:∀ c q,c ∉ [z,TI,TO,i1,i2]→(s.heap.push { cls:=.type "tuple",data:=.seq #[u,u'] }).get? c=some q→h2.get? c=some q:=fun c q hc hq=>by
      refine hs.extBut c q (fun z'=>hc (by simp [z'])) ?_
      rcases Heap.get?_push_cases hq with ⟨hbs,eq⟩ | hq
      · subst hbs
        subst eq
        exact hT
      · exact hk c q (fun z'=>hc (by simp [z'])) (fun z'=>hc (by simp [z'])) (fun z'=>hc (by simp [z'])) (fun z'=>hc (by simp [z'])) hq
    have t2:IsPair h2 TI (.ref i1) (.ref i2):=hs.extBut TI _ D.TIz (hk TI _ D.TIz D.TITO D.TIi1 D.TIi2 e2)
    have t3:IsPair h2 TO u u':=hs.extBut TO _ D.TOz g2
    have t4:h2.IsListIter i1 a (i+1):=g3.at fun o e=>hs.extBut i1 o D.i1z e
    have t5:h2.IsListIter i2 b (i+1):=g4.at fun o e=>hs.extBut i2 o D.i2z e
    refine⟨.ref s.heap.objs.size,upd H s.heap.objs.size (.tup [x,y]),?_,rfl,⟨_,x,y,rfl,hfr,fun ys hy=>by rw [I.list_inj hy hq];exact hx,fun ys hy'=>by rw [I.list_inj hy' hq'];exact hy,rfl⟩,⟨hz2,t2,⟨_,_,t3⟩,t4,t5⟩,fun c hc=>?_⟩
    · exact Inv.turnedL (s:={ s with heap:=s.heap.push { cls:=.type "tuple",data:=.seq #[u,u'] },toks:=s.toks }) (t':=s.toks) I1 hk2 fun c hc=>⟨by rw [a'h (ne c hc)];exact (hf c hc).1,(hf c hc).2⟩
    · rw [a'h (ne c hc)];exact (hf c hc).1
  done:=by
    intro X hP hw hK hc i pins s σ H E I hf st hg
    subst hP hw hK
    obtain⟨e1,e2,⟨c,d,e3⟩,e4,e5⟩:=st
    obtain⟨xs,ys,hq,hq',hor⟩:=hg
    obtain⟨its,rv,p,hz⟩:=I.list hq
    obtain⟨its',rv',p',hz'⟩:=I.list hq'
    have l1:=rv.length
    have l2:=rv'.length
    refine wpAny_pyNext_zip_end (I.ok.hd hc) D e1 e2 e3 e4 e5 p.isList p'.isList (hor.imp (fun h=>by simp;omega) fun h=>by simp;omega) fun h' hk=>⟨rfl,I.turnedL (t':=s.toks) (ch:=[z,TI,TO,i1,i2]) (fun c o hc e=>?_) hf⟩
    exact hk c o (fun z'=>hc (by simp [z'])) (fun z'=>hc (by simp [z'])) (fun z'=>hc (by simp [z'])) (fun z'=>hc (by simp [z'])) e
  self:=fun _ _ _ _ _ st h=>wpAny_pyIter_zip st.1 h
section
variable {X:Cx}
def iZip (K:PySem.W.Frag) (ta:TA):TI:=fun σ H R=>ta σ H fun vs H1=>∃ a b,vs=[.ref a,.ref b]∧(∃ xs,SqL K H1 a xs)∧(∃ ys,SqL K H1 b ys)∧R (Itz K a b) H1
theorem o'b {l m:Expr} {ta:TA} {elts:List Expr} {x1:Nat} {tpos p pos:Pos} (hg:Gl X "zip") (hm:X.mg "zip"=none) (ha:PA X [l,m] ta) (hs:starEach [l,m] X.env=[(false,eval l X.env),(false,eval m X.env)]:=by rfl)
    (hs2:starEach [m] X.env=[(false,eval m X.env)]:=by rfl):PI X (.Tuple elts x1 tpos) (.Call (.Name "zip" p) [l,m] [] pos) (iZip X.K ta):=by
  intro pins s σ H R I h
  refine Call_ (c'y I hg hm (u:=.type "zip") rfl (PyProof.Rows.callWith_type1 (thn (ha pos pins s σ H _ I h) fun us s1 ⟨vs,H1,I1,r1,a,b,e,⟨xs,hq⟩,⟨ys,hq'⟩,q⟩=>?_) (by rw [hs,hs2]) (by rw [hs2];rfl)))
  subst e
  cases r1 with
  | cons r rr =>
    cases rr with
    | cons r' rr=>
      cases rr
      cases r
      cases r'
      obtain⟨its,rv,p,hz⟩:=I1.list hq
      obtain⟨its',rv',p',hz'⟩:=I1.list hq'
      have la:a<s1.heap.objs.size:=let ⟨_,e,_⟩:=p.isList;Heap.lt_size e
      have lb:b<s1.heap.objs.size:=let ⟨_,e,_⟩:=p'.isList;Heap.lt_size e
      refine call_zip_2 p.isList p'.isList fun h' g1 g2 g3 g4 g5 hsz hk=>wpAny_pyIter_zip g1 ?_
      have Dz:ZipApart (s1.heap.objs.size+4) (s1.heap.objs.size+2) (s1.heap.objs.size+3) s1.heap.objs.size (s1.heap.objs.size+1) a b:=by
        have lt:∀ {x y:Nat},x<y→x≠y:=fun h=>Nat.ne_of_lt h
        have gt:∀ {x y:Nat},y<x→x≠y:=fun h=>Nat.ne_of_gt h
        constructor<;>first | exact lt (by omega) | exact gt (by omega) | exact lt (Nat.lt_of_lt_of_le la (by omega)) | exact lt (Nat.lt_of_lt_of_le lb (by omega))
      refine⟨s1.heap.objs.size+4,[s1.heap.objs.size+4,s1.heap.objs.size+2,s1.heap.objs.size+3,s1.heap.objs.size,s1.heap.objs.size+1],_,_,H1,rfl,I1.kept (t':=s1.toks) hk,i'S Dz,⟨g1,g2,⟨_,_,g3⟩,g4,g5⟩,fun c hc=>?_,q⟩
      have z:s1.heap.objs.size≤c:=by
        simp only [List.mem_cons,List.not_mem_nil,or_false] at hc
        rcases hc with rfl | rfl | rfl | rfl | rfl
        · exact Nat.le_add_right _ _
        · exact Nat.le_add_right _ _
        · exact Nat.le_add_right _ _
        · exact Nat.le_refl _
        · exact Nat.le_add_right _ _
      exact I1.fpOk z (I1.hok.fresh z)
end
end L2
namespace Vc
open PySem L2 Sf
end Vc
namespace L2
end L2
namespace L2
open PySem PySem.Spec PyProof.Rows
section
variable {X:Cx}
end
section
variable {σ:St} {H:Hp} {Q:VK}
end
section
variable {g:TG} {ti:TT} {te:TE} {ix:List (Option Nat)} {σ:St} {Q:VK}
end
end L2
namespace Vc
open PySem L2 Sf
section
variable {X:Cx} {pins:List (Addr×Obj)} {σ:St} {H:Hp} {s:Shared} {Au:Around}
theorem k'O {a b:Addr} {xs ys:List V} (I:Inv X pins σ H s) (h1:SqL X.K H a xs) (h2:SqL X.K H b ys) (hu:Au.units<cLine) (hl:xs.length=ys.length) (e:Nat→Bool)
    (he:∀ (j:Nat) x y u v,xs[j]?=some x→ys[j]?=some y→RelV x u→RelV y v→SeqAt.EqAt Au.in1 s u v (e j)):SeqAt.RcNeAt Au s (.ref a) (.ref b) (!(List.range xs.length).all e):=by
  obtain⟨us,r1,t1,_⟩:=I.list h1
  obtain⟨ws,r2,t2,_⟩:=I.list h2
  have l1:=r1.length
  have l2:=r2.length
  have z:=SeqAt.RcNeAt.lists (A:=Au) (e:=e) t1.isList t2.isList (by simp;omega) hu (fun j h1 h2=>?_)
  · have e0:(List.range us.toArray.size).all e=(List.range xs.length).all e:=by
      simp only [List.size_toArray]
      rw [← l1]
    rw [e0] at z
    exact z
  · simp only [List.size_toArray] at h1 h2
    obtain⟨u,e1,ru⟩:=r1.get (i:=j) (x:=xs[j]'(by omega)) (by simp)
    obtain⟨v,e2,rv⟩:=r2.get (i:=j) (x:=ys[j]'(by omega)) (by simp)
    obtain⟨_,f1⟩:=List.getElem?_eq_some_iff.mp e1
    obtain⟨_,f2⟩:=List.getElem?_eq_some_iff.mp e2
    have g1:us.toArray[j]'(by simpa using h1)=u:=by simpa using f1
    have g2:ws.toArray[j]'(by simpa using h2)=v:=by simpa using f2
    rw [g1,g2]
    exact he j _ _ u v (by simp) (by simp) ru rv
end
section
variable {X:Cx}
end
end Vc
namespace Vc
open PySem L2 Sf
theorem k'P {K:PySem.W.Frag} {H:Hp} {p:Addr} {xs:List V} (h:H p=some (.lst xs)):tyV K "list" (.ref p) H:=by
  exact .inl ⟨rfl,xs,SqL.of h⟩
end Vc
namespace L2
open PySem PySem.Spec PyProof.Rows
def rRepS:R2:=fun x y H Q=>∃ z n,x=.str z∧y=.int n∧z.length≤100∧0≤n∧n≤1000∧Q (.str (Txt.mul z n)) H
theorem g'D {X:Cx}:OpR X (binaryOp .Mult) rRepS:=by
  intro pins s σ H x y v u Q I rx ry h
  obtain⟨z,n,rfl,rfl,hz,h0,h1,q⟩:=h
  obtain⟨t,rfl⟩:=rx
  obtain⟨t',rfl⟩:=ry
  exact SB.mul (mulOk_of 100 1000 hz (by omega) (by omega) (by decide) (by decide)) fun t' k=>⟨.str _,H,I.tok _,⟨_,rfl⟩,q⟩
end L2
namespace Vc
open PySem L2 Sf
end Vc
namespace L2
open PySem PySem.Spec PyProof.Rows
section
variable {X:Cx}
end
section
variable {X:Cx}
end
section
variable {X:Cx}
end
end L2
namespace Vc
open PySem L2 Sf
section
variable {K:PySem.W.Frag} {F H:Hp} {Q:VK}
end
end Vc
namespace Vc
open PySem L2 Sf
end Vc
namespace L2
open PySem PySem.Spec PyProof.Rows
section
variable {P:Program} {w:World} {K:PySem.W.Frag} {mg:Str→Option Value} {base:Heap}
end
section
variable {g:TG} {ti:TT} {te:TE} {ix:List (Option Nat)} {σ:St} {Q:VK}
end
end L2
namespace Vc
open PySem L2 Sf
section
variable {K:PySem.W.Frag} {F H:Hp} {Q:VK}
end
end Vc
namespace L2
open PySem PySem.Spec PyProof.Rows
def RnW (P:Program) (w:World) (A:Around) (s:Shared) (u v:Value):Prop:=∀ (E:Value→Shared→Prop) (Q:Value→Shared→Prop),Q (.bool false) s→wpAny (model P w) A (richCompare .NotEq u v) Q E s
section
variable {P:Program} {w:World} {A:Around} {s:Shared}
section
open PySem.AutoSeq1 (wpAny_loadPart')
theorem q'y (a b:Addr) (xs ys:Array Value) (n m:Nat) (da db:Option Addr) (sa sb:Array (Option Value)) (hz:xs.size=ys.size) :
    MeetsIn P w (Builtin.«tuple.__ne__» ⟨[.ref a,.ref b],[]⟩) (fun A R s=>s.heap.get? a=some ⟨.type "tuple",da,.seq xs n,sa⟩∧s.heap.get? b=some ⟨.type "tuple",db,.seq ys m,sb⟩∧
      (∀ j (h1:j<xs.size) (h2:j<ys.size),EqW P w A.in1 s xs[j] ys[j])∧R (.ok (.ret (.bool false))) s):=by
  refine .of_wp fun A R s h=>?_
  obtain⟨hp,g,d,tk,os⟩:=s
  obtain⟨ha,hb,he,hR⟩:=h
  have sub:=AutoSeq1.sub_tuple_tuple
  have len:(xs.toList.zip ys.toList).length=xs.size:=by simp;omega
  wp_walk using wpAny_loadPart' ha,wpAny_loadPart' hb,wpAny_forIn_list _ (fun r c s'=>c.1=none∧s'=⟨hp,g,d,tk,os⟩∧∃ i,r=(xs.toList.zip ys.toList).drop i) _
  case turn=>
    rintro⟨x,y⟩ r c s' ⟨hc,rfl,i,hr⟩
    by_cases lt:i<(xs.toList.zip ys.toList).length
    · rw [List.drop_eq_getElem_cons lt] at hr
      injection hr with e1 e2
      have i1:i<xs.size:=by omega
      have i2:i<ys.size:=by omega
      obtain⟨ex,ey⟩:x=xs[i]∧y=ys[i]:=by
        have z:=Prod.mk.inj (e1.trans List.getElem_zip)
        exact⟨by simpa using z.1,by simpa using z.2⟩
      subst ex ey
      refine wpAny_bind (he i i1 i2 _ _ ?_)
      wp_walk
      exact⟨rfl,rfl,i+1,e2⟩
    · rw [List.drop_of_length_le (by omega)] at hr
      cases hr
  case fin=>
    rintro⟨c1,c2⟩ s' ⟨hc,rfl,_⟩
    simp only at hc
    subst hc
    wp_walk
    refine⟨_,rfl,?_⟩
    simpa [Builtin.Tuple.tupleCompareSizes,hz] using hR
  case h=>exact⟨rfl,rfl,0,rfl⟩
end
theorem RnW.tuples {a b:Addr} {xs ys:Array Value} (ha:IsTup s.heap a xs) (hb:IsTup s.heap b ys) (hz:xs.size=ys.size) (hu:A.units<cLine) (he:∀ j (h1:j<xs.size) (h2:j<ys.size),EqW P w A.in1 s xs[j] ys[j]):RnW P w A s (.ref a) (.ref b):=fun E Q q=>by
  obtain⟨⟨ca,da,xa,sa⟩,oa,ka,n,va⟩:=id ha
  obtain⟨⟨cb,db,xb,sb⟩,ob,kb,m,vb⟩:=id hb
  simp only at ka va kb vb
  subst ka va kb vb
  refine wpAny_richCompare_same_room (op:=.NotEq) (T:="tuple") ⟨_,oa,rfl⟩ ⟨_,ob,rfl⟩ PySem.F.slot_tuple_ne ?_ hu
  exact call_meetsIn PySem.F.slot_tuple_ne ⟨_,oa,rfl⟩ PySem.F.entry_tuple_ne (PySem.F.args_tuple_ne_2 _ _) (q'y a b xs ys n m da db sa sb hz) ⟨oa,ob,he,⟨(fun z=>nomatch z),q⟩⟩
section
open PySem.AutoSeq1 (wpAny_loadPart')
open PySem.MeetsSeq PySem.MeetsSeq2 PySem.MeetsSeq3 PySem.SeqRoads2 PySem.SeqAt
theorem e'b (a b:Addr) (xs ys:Array Value) (n m:Nat) (da db:Option Addr) (sa sb:Array (Option Value)) (hz:xs.size=ys.size):∀ (k i:Nat),xs.size - i=k→
    MeetsIn P w (Builtin.«list.__eq__.loop» ⟨[.ref a,.ref b,rawInt i,rawInt 3],[]⟩) (fun A R s=>s.heap.get? a=some ⟨.type "list",da,.seq xs n,sa⟩∧s.heap.get? b=some ⟨.type "list",db,.seq ys m,sb⟩∧
      (∀ j (h1:j<xs.size) (h2:j<ys.size),EqW P w A.in1 s xs[j] ys[j])∧R (.ok (.ret (.bool false))) s)
  | 0, i, hk => fun A R s h => by
    obtain⟨hp,g,d,tk,os⟩:=s
    obtain⟨ha,hb,he,hR⟩:=h
    wp_walk using wpAny_loadPart' ha,wpAny_loadPart' hb
    have z1:xs[((i:Nat):Int).toNat]?=none:=by simp;omega
    have z2:ys[((i:Nat):Int).toNat]?=none:=by simp;omega
    rw [z1,z2]
    wp_walk using wpAny_loadPart' ha,wpAny_loadPart' hb
    show R (.ok (.ret (.bool (xs.size != ys.size)))) _
    rw [hz,bne_self_eq_false]
    exact hR
  | k + 1, i, hk => fun A R s h => by
    obtain⟨hp,g,d,tk,os⟩:=s
    obtain⟨ha,hb,he,hR⟩:=h
    wp_walk using wpAny_loadPart' ha,wpAny_loadPart' hb
    have i1:i<xs.size:=by omega
    have i2:i<ys.size:=by omega
    have z1:xs[((i:Nat):Int).toNat]?=some xs[i]:=by simp [i1]
    have z2:ys[((i:Nat):Int).toNat]?=some ys[i]:=by simp [i2]
    rw [z1,z2]
    refine wpAny_bind (he i i1 i2 _ _ ?_)
    wp_walk
    have up:((i:Int)+1)=((i+1:Nat):Int):=Int.natCast_succ i
    rw [up]
    refine⟨plainId_quiet plain_eq_loop _,codeAny_builtin entry_eq_loop ?_⟩
    rw [Around.under_plainId plain_eq_loop _]
    exact e'b a b xs ys n m da db sa sb hz k (i+1) (by omega) A R _ ⟨ha,hb,he,hR⟩
theorem q'z (a b:Addr) (xs ys:Array Value) (n m:Nat) (da db:Option Addr) (sa sb:Array (Option Value)) (hz:xs.size=ys.size) :
    MeetsIn P w (Builtin.«list.__ne__» ⟨[.ref a,.ref b],[]⟩) (fun A R s=>s.heap.get? a=some ⟨.type "list",da,.seq xs n,sa⟩∧s.heap.get? b=some ⟨.type "list",db,.seq ys m,sb⟩∧
      (∀ j (h1:j<xs.size) (h2:j<ys.size),EqW P w A.in1 s xs[j] ys[j])∧R (.ok (.ret (.bool false))) s):=fun A R s h=>by
  obtain⟨hp,g,d,tk,os⟩:=s
  obtain⟨ha,hb,he,hR⟩:=h
  have sub:=AutoSeq1.sub_list_list
  have same:¬ (xs.size != ys.size)=true:=by simp [hz]
  wp_walk using wpAny_loadPart' ha,wpAny_loadPart' hb
  refine⟨plainId_quiet plain_eq_loop _,codeAny_builtin entry_eq_loop ?_⟩
  rw [Around.under_plainId plain_eq_loop _]
  exact e'b a b xs ys n m da db sa sb hz _ 0 rfl A R _ ⟨ha,hb,he,hR⟩
end
theorem RnW.lists {a b:Addr} {xs ys:Array Value} (ha:s.heap.IsList a xs) (hb:s.heap.IsList b ys) (hz:xs.size=ys.size) (hu:A.units<cLine) (he:∀ j (h1:j<xs.size) (h2:j<ys.size),EqW P w A.in1 s xs[j] ys[j]):RnW P w A s (.ref a) (.ref b):=fun E Q q=>by
  obtain⟨⟨ca,da,xa,sa⟩,oa,ka,n,va⟩:=id ha
  obtain⟨⟨cb,db,xb,sb⟩,ob,kb,m,vb⟩:=id hb
  simp only at ka va kb vb
  subst ka va kb vb
  refine wpAny_richCompare_same_room (op:=.NotEq) (T:="list") ⟨_,oa,rfl⟩ ⟨_,ob,rfl⟩ PySem.F.slot_list_ne ?_ hu
  exact call_meetsIn PySem.F.slot_list_ne ⟨_,oa,rfl⟩ PySem.F.entry_list_ne (PySem.F.args_list_ne_2 _ _) (q'z a b xs ys n m da db sa sb hz) ⟨oa,ob,he,⟨(fun z=>nomatch z),q⟩⟩
end
section
variable {X:Cx} {pins:List (Addr×Obj)} {σ:St} {H:Hp} {s:Shared}
theorem k'Q {A:Around} {p q:Addr} {xs ys:List V} (I:Inv X pins σ H s) (hk:(SqT X.K H p xs∧SqT X.K H q ys)∨(SqL X.K H p xs∧SqL X.K H q ys)) (hu:A.units<cLine) (hl:xs.length=ys.length)
    (he:∀ (j:Nat) x y u v,xs[j]?=some x→ys[j]?=some y→RelV x u→RelV y v→EqW X.prog X.w A.in1 s u v):RnW X.prog X.w A s (.ref p) (.ref q):=by
  have fin:∀ (us vs:List Value),Vals xs us→Vals ys vs→∀ j (h1:j<us.toArray.size) (h2:j<vs.toArray.size),EqW X.prog X.w A.in1 s us.toArray[j] vs.toArray[j]:=by
    intro us vs r1 r2 j h1 h2
    have l1:=r1.length
    have l2:=r2.length
    simp only [List.size_toArray] at h1 h2
    obtain⟨u,e1,ru⟩:=r1.get (i:=j) (x:=xs[j]'(by omega)) (by simp)
    obtain⟨v,e2,rv⟩:=r2.get (i:=j) (x:=ys[j]'(by omega)) (by simp)
    obtain⟨_,f1⟩:=List.getElem?_eq_some_iff.mp e1
    obtain⟨_,f2⟩:=List.getElem?_eq_some_iff.mp e2
    have g1:us.toArray[j]'(by simpa using h1)=u:=by simpa using f1
    have g2:vs.toArray[j]'(by simpa using h2)=v:=by simpa using f2
    rw [g1,g2]
    exact he j _ _ u v (by simp) (by simp) ru rv
  rcases hk with ⟨h1,h2⟩ | ⟨h1,h2⟩
  · obtain⟨us,r1,t1,_⟩:=I.tuple h1
    obtain⟨vs,r2,t2,_⟩:=I.tuple h2
    have l1:=r1.length
    have l2:=r2.length
    exact RnW.tuples t1 t2 (by simp;omega) hu (fin us vs r1 r2)
  · obtain⟨us,r1,t1,_⟩:=I.list h1
    obtain⟨vs,r2,t2,_⟩:=I.list h2
    have l1:=r1.length
    have l2:=r2.length
    exact RnW.lists t1.isList t2.isList (by simp;omega) hu (fin us vs r1 r2)
end
section
variable {X:Cx}
def rNeN (K:PySem.W.Frag):R2:=fun x y H Q=>rEqN K x y H fun _ _=>Q (.bl false) H
theorem o'c (hu:X.A.units+64<cLine):OpR X (compareOp .NotEq) (rNeN X.K):=by
  intro pins s σ H x y v u Q I rx ry h
  obtain⟨n,p,q,xs,ys,hn,rfl,rfl,hk,al,hq⟩:=h
  cases rx
  cases ry
  refine k'Q I hk (by omega) al.length (fun j x y u v h1 h2 r1 r2=>?_) X.xe _ ⟨.bl false,H,I,rfl,hq⟩
  exact h'n I n (A:=X.A.in1) (al.get h1 h2) r1 r2 (by rw [a'P];omega)
end
end L2
namespace Vc
open PySem L2 Sf
section
variable {K:PySem.W.Frag} {F H:Hp} {Q:VK}
end
end Vc
namespace L2
open PySem PySem.Spec PyProof.Rows
section
variable {X:Cx}
end
section
variable {X:Cx}
theorem h'z:OpR X (compareOp .Gt) (fun x y H Q=>∃ i j,x=.str i∧y=.str j∧Q (.bl (decide (j.cps.toList<i.cps.toList))) H):=by
  intro pins s σ H x y v u Q I rx ry h
  obtain⟨i,j,rfl,rfl,q⟩:=h
  obtain⟨t,rfl⟩:=rx
  obtain⟨t',rfl⟩:=ry
  exact PySem.P.gt_str (a'n I q rfl)
end
end L2
namespace Vc
open PySem L2 Sf
end Vc
namespace L2
open PySem PySem.Spec PyProof.Rows
section
variable {prog:Program} {w:World} {κ:Type} [DecidableEq κ] {kn:KeyKind prog w κ} {A:Around} {E:Value→Shared→Prop} {s:Shared}
end
section
variable {X:Cx}
end
end L2
namespace L2
open PySem PySem.Spec PyProof.Rows
section
variable {prog:Program} {w:World} {A:Around} {E:Value→Shared→Prop} {s:Shared}
end
section
variable {X:Cx}
end
section
variable {X:Cx}
end
end L2
namespace Vc
open PySem L2
section
variable {X:Cx} {pins:List (Addr×Obj)} {σ:St} {H:Hp} {s:Shared} {Au:Around}
open Sf in
end
section
variable {X:Cx}
end
theorem r'Y {Fb Hb F H F' H':Hp} {S:Addr→Prop} {a:Addr} {ob:Obj} {kvs:List (Key×V)} (gb:Gr0 Fb Hb F H) (hH:H a=some (.dK kvs)) (hF:F a=none∨F a=some (.dK kvs))
    (gz:Gr0 (fz Fb a (.frz ob (.dK kvs))) (fz Hb a (.frz ob (.dK kvs))) F' H') (sF:F' a=fz F a (.frz ob (.dK kvs)) a) (cm:Fz (fun b=>b=a∨S b) F') :
    ∃ F'':Hp,Gr0 Fb Hb F'' (upd H' a (.dK kvs))∧Fz S F''∧Le F' F''∧F'' a=F a∧(upd H' a (.dK kvs)) a=some (.dK kvs)∧(∀ b,b≠a→F'' b=F' b)∧∀ b,b≠a→(upd H' a (.dK kvs)) b=H' b:=
  thw (R:=fun U=>∃ F'':Hp,Gr0 Fb Hb F'' U∧Fz S F''∧Le F' F''∧F'' a=F a∧U a=some (.dK kvs)∧(∀ b,b≠a→F'' b=F' b)∧∀ b,b≠a→U b=H' b) gb hH hF gz sF cm fun F2 H2 h1 h2 h3 h4 h5 h6 h7=>⟨F2,h1,h2,h3,h4,h5,h6,h7⟩
end Vc
namespace L2
open PySem PySem.Spec PyProof.Rows
section
variable {X:Cx}
def rCatS (K:PySem.W.Frag):R2:=fun x y H Q=>∃ l b xs zs,x=.ref l∧y=.ref b∧SqL K H l xs∧SqL K H b zs∧xs.length+zs.length≤sizeLine∧∀ p,H p=none→Q (.ref p) (upd H p (.lst (xs++zs)))
theorem k'R:OpR X (binaryOp .Add) (rCatS X.K):=by
  intro pins s σ H x y v u Q I rx ry h
  obtain⟨l,b,xs,zs,rfl,rfl,hH,hB,hz,q⟩:=h
  cases rx
  cases ry
  obtain⟨its,r,p1,z1⟩:=I.list hH
  obtain⟨its2,r2,p2,z2⟩:=I.list hB
  have n1:=r.length
  have n2:=r2.length
  obtain⟨⟨c1,d1,t1,sl1⟩,ho,hc,n,hd⟩:=p1.isList
  obtain⟨⟨c2,d2,t2,sl2⟩,ho2,hc2,m,hd2⟩:=p2.isList
  simp only at hc hd hc2 hd2
  subst hc hd hc2 hd2
  refine concat_meets ⟨_,ho,rfl⟩ ⟨_,ho2,rfl⟩ noFill_list_add seq_list_add PySem.F.slot_list_add PySem.F.entry_list_add (PySem.F.args_list_add_2 _ _) (list_addW l b its.toArray its2.toArray n m d1 d2 sl1 sl2 (by simp;omega)) ⟨ho,ho2,?_⟩
  rw [show its.toArray++its2.toArray=(its++its2).toArray by simp]
  exact⟨.ref _,_,I.lnew (t':=s.toks) (r.append r2) (by rw [List.length_append];omega),rfl,q _ I.fresh⟩
theorem h'A:CallR X (.type "int") (fun xs H Q=>∃ b,xs=[.bl b]∧Q (.int (if b=true then 1 else 0)) H):=by
  intro pins s σ H xs us Q I r h
  obtain⟨b,rfl,q⟩:=h
  obtain⟨u,rfl,ru⟩:=c'j r
  cases ru
  exact call_int_bool ⟨.int _,H,I.tok _,⟨_,rfl⟩,q⟩
end
end L2
namespace L2
open PySem
end L2
namespace Vc
open PySem L2
section
variable {X:Cx}
end
end Vc
namespace Vc
open PySem L2
end Vc
namespace L2
end L2
namespace Vc
open PySem L2 Sf
end Vc
namespace L2
open PySem
end L2
namespace L2
open PySem
section
variable {prog:Program} {w:World} {K:Type} [DecidableEq K]
variable {knd:KeyKind prog w K}
variable {A:Around} {E:Value→Shared→Prop} {s:Shared}
end
end L2
namespace L2
open PySem
section
variable {prog:Program} {w:World} {A:Around} {E:Value→Shared→Prop} {s:Shared}
end
end L2
namespace L2
open PySem
section
variable {prog:Program} {w:World} {A:Around} {E:Value→Shared→Prop} {s:Shared}
variable {a ep:Nat} {o:Obj} {es:Array (Int×Value)} {t:SetTable}
end
end L2
namespace L2
open PySem
section
variable {prog:Program} {w:World} {K:Type} [DecidableEq K] {knd:KeyKind prog w K} {A:Around} {E:Value→Shared→Prop} {s:Shared}
section
variable {R:Result→Shared→Prop} {I:Addr} {fp wr:List Addr} {G:Array GenState→Array GenState→Prop} {n:Nat} {P:Nat→Value→Prop} {St:Nat→Shared→Prop}
end
end
end L2
namespace L2
open PySem PySem.Spec PyProof.Rows
section
variable {X:Cx}
end
end L2
namespace Vc
open PySem L2 Sf
def hdn (l:List Addr) (H:Hp):Hp:=fun x=>if x∈l then none else H x
theorem h'B {l:List Addr} {x:Addr} {H:Hp} {o:HO} (h1:x ∉ l) (h:H x=some o):hdn l H x=some o:=by unfold hdn;rw [if_neg h1];exact h
theorem o'd {l:List Addr} {x:Addr} {H:Hp} (h:x∈l):hdn l H x=none:=if_pos h
theorem i'T {l:List Addr} {x:Addr} {H:Hp} {o:HO} (h:hdn l H x=some o):x ∉ l∧H x=some o:=by
  unfold hdn at h
  by_cases z:x∈l
  · rw [if_pos z] at h;cases h
  · rw [if_neg z] at h;exact⟨z,h⟩
theorem o'e {l:List Addr} {F H:Hp} (wd:Same F H):Gr0 F (hdn l H) F H:=⟨fun _ _ e=>(i'T e).2,Same.refl _,wd,fun x u h e=>by rw [h] at e;cases e⟩
end Vc
namespace L2
open PySem PySem.Spec PyProof.Rows
section
variable {P:Program} {w:World} {K:PySem.W.Frag}
end
end L2
namespace Vc
open PySem L2 Sf
section
variable {P:Program} {w:World} {K:PySem.W.Frag} {F H:Hp} {Q:VK}
end
end Vc
namespace L2
open PySem PySem.Spec PyProof.Rows
def tFldR (K:PySem.W.Frag) (ta:TE) (f:Str):TE:=fun σ H Q=>ta σ H fun x H1=>∃ a C dx fs v,x=.ref a∧Rd H1 a (.ins C dx fs)∧Cls K C∧NoAttr K C f∧fs.lookup f=some v∧Q v H1
section
variable {X:Cx} {CX:CXT} {k:Nat} {E:XK} {m f:Str} {pos apos:Pos} {o e:Expr} {ta:TE} {D:Addr→Nat→Prop} {sp:Nat→Sp}
end
end L2
namespace Vc
open PySem L2 Sf
end Vc
namespace L2
open PySem PySem.Spec PyProof.Rows
end L2
namespace Vc
open PySem L2 Sf
section
variable {P:Program} {w:World} {K:PySem.W.Frag} {F H:Hp} {Q:VK}
end
end Vc
namespace Vc
open PySem L2 Sf PyProof.Rows
end Vc
namespace L2
open PySem PySem.Spec PyProof.Rows
section
variable {X:Cx} {CX:CXT} {k:Nat} {f C:Addr} {fd:FuncData} {ps:List Str} {sp:Sp} {dvs:List V} {ds:List Value} {x:Str} {p pos:Pos} {e:Expr} {es:List Expr} {t:TA}
end
end L2
namespace Vc
open PySem L2 Sf
end Vc
namespace L2
open PySem PySem.Spec PyProof.Rows
section
variable {X:Cx} {o i:Expr} {pos:Pos} {td ty:TE}
end
end L2
namespace Vc
open PySem L2 Sf
end Vc
namespace L2
open PySem PySem.Spec PyProof.Rows
section
variable {X:Cx} {CX:CXT} {k:Nat} {E:XK} {m:Str} {ps:List Str} {pos apos:Pos} {o e:Expr} {es:List Expr} {ta:TE} {t:TA} {D:Addr→Nat→Prop} {sp:Nat→Sp}
end
end L2
namespace Vc
open PySem L2 Sf
section
variable {H:Hp} {Q:VK} {l:Addr}
end
end Vc
namespace L2
open PySem PySem.Spec PyProof.Rows
section
variable {g:TG} {ti:TT} {te:TE} {ix:List (Option Nat)} {σ:St} {Q:VK}
end
end L2
namespace Vc
open PySem L2 Sf
end Vc
namespace Vc
open PySem L2 Sf
end Vc
namespace L2
open PySem PySem.Spec PyProof.Rows
end L2
namespace Pu
open PySem L2 Vc Sf
inductive Fl where | f | o | l (k:Bool)
  deriving DecidableEq
inductive Tr where
  | int (n : Int) | bl (b : Bool) | str (s : Str) | non | hole | ty (n : String) | cl (a : Addr) | exc (b : Addr)
  | tup (xs : List Tr) | lst (f : Fl) (xs : List Tr) | dic (f : Fl) (kvs : List (Key × Tr)) | ins (f : Fl) (c : Addr) (fs : List (Str × Tr))
abbrev Cs:=List (Addr×HO)
mutual
/-- v stands for the tree: its frozen parts in F, its lent ones in B, its own ones are the cells -/
def R (K:PySem.W.Frag) (F:Hp) (B:Bool→Hp):Tr→V→Cs→Prop
  | .int n, v, cs => v = .int n ∧ cs = []
  | .bl b, v, cs => v = .bl b ∧ cs = []
  | .str s, v, cs => v = .str s ∧ cs = []
  | .non, v, cs => v = .non ∧ cs = []
  | .hole, _, _ => False
  | .ty n, v, cs => v = .ty n ∧ cs = []
  | .cl a, v, cs => v = .ref a ∧ cs = []
  | .exc b, v, cs => cs = [] ∧ ∃ a, v = .ref a ∧ Rd F a (exO a b)
  | .tup xs, v, cs => ∃ a vs, v = .ref a ∧ SqT K F a vs ∧ Rs K F B xs vs cs
  | .lst .f xs, v, cs => cs = [] ∧ ∃ a vs, v = .ref a ∧ SqL K F a vs ∧ Rs K F B xs vs []
  | .lst (.l k) xs, v, cs => cs = [] ∧ ∃ a vs, v = .ref a ∧ SqL K (B k) a vs ∧ Rs K F B xs vs []
  | .lst .o xs, v, cs => ∃ a vs ds, v = .ref a ∧ cs = (a, .lst vs) :: ds ∧ Rs K F B xs vs ds
  | .dic .f xs, v, cs => cs = [] ∧ ∃ a vs, v = .ref a ∧ Rd F a (.dK vs) ∧ Rk K F B xs vs [] ∧ (xs.map (·.1)).Nodup
  | .dic (.l k) xs, v, cs => cs = [] ∧ ∃ a vs, v = .ref a ∧ Rd (B k) a (.dK vs) ∧ Rk K F B xs vs [] ∧ (xs.map (·.1)).Nodup
  | .dic .o xs, v, cs => ∃ a vs ds, v = .ref a ∧ cs = (a, .dK vs) :: ds ∧ Rk K F B xs vs ds ∧ (xs.map (·.1)).Nodup
  | .ins .f c xs, v, cs => cs = [] ∧ ∃ a dx vs, v = .ref a ∧ Rd F a (.ins c dx vs) ∧ Rf K F B xs vs []
  | .ins (.l k) c xs, v, cs => cs = [] ∧ ∃ a dx vs, v = .ref a ∧ Rd (B k) a (.ins c dx vs) ∧ Rf K F B xs vs []
  | .ins .o c xs, v, cs => ∃ a dx vs ds, v = .ref a ∧ cs = (a, .ins c dx vs) :: ds ∧ Rf K F B xs vs ds
def Rs (K:PySem.W.Frag) (F:Hp) (B:Bool→Hp):List Tr→List V→Cs→Prop
  | [], vs, cs => vs = [] ∧ cs = []
  | x :: xs, vs, cs => ∃ v r c d, vs = v :: r ∧ cs = c ++ d ∧ R K F B x v c ∧ Rs K F B xs r d
def Rk (K:PySem.W.Frag) (F:Hp) (B:Bool→Hp):List (Key×Tr)→List (Key×V)→Cs→Prop
  | [], vs, cs => vs = [] ∧ cs = []
  | (k, x) :: xs, vs, cs => ∃ v r c d, vs = (k, v) :: r ∧ cs = c ++ d ∧ R K F B x v c ∧ Rk K F B xs r d
def Rf (K:PySem.W.Frag) (F:Hp) (B:Bool→Hp):List (Str×Tr)→List (Str×V)→Cs→Prop
  | [], vs, cs => vs = [] ∧ cs = []
  | (k, x) :: xs, vs, cs => ∃ v r c d, vs = (k, v) :: r ∧ cs = c ++ d ∧ R K F B x v c ∧ Rf K F B xs r d
end
mutual
def lend:Tr→Tr
  | .tup xs => .tup (lends xs)
  | .lst .o xs => .lst (.l true) (lends xs)
  | .dic .o xs => .dic (.l true) (lendk xs)
  | .ins .o c xs => .ins (.l true) c (lendf xs)
  | t => t
def lends:List Tr→List Tr
  | [] => [] | x :: xs => lend x :: lends xs
def lendk:List (Key×Tr)→List (Key×Tr)
  | [] => [] | (k, x) :: xs => (k, lend x) :: lendk xs
def lendf:List (Str×Tr)→List (Str×Tr)
  | [] => [] | (k, x) :: xs => (k, lend x) :: lendf xs
end
mutual
/-- no one changes it any more -/
def frz:Tr→Tr
  | .tup xs => .tup (frzs xs)
  | .lst .o xs => .lst .f (frzs xs)
  | .dic .o xs => .dic .f (frzk xs)
  | .ins .o c xs => .ins .f c (frzf xs)
  | t => t
def frzs:List Tr→List Tr
  | [] => [] | x :: xs => frz x :: frzs xs
def frzk:List (Key×Tr)→List (Key×Tr)
  | [] => [] | (k, x) :: xs => (k, frz x) :: frzk xs
def frzf:List (Str×Tr)→List (Str×Tr)
  | [] => [] | (k, x) :: xs => (k, frz x) :: frzf xs
end
mutual
/-- nothing lent in it -/
def nol:Tr→Bool
  | .tup xs => nols xs
  | .lst (.l _) _ => false
  | .dic (.l _) _ => false
  | .ins (.l _) _ _ => false
  | .lst _ xs => nols xs
  | .dic _ xs => nolk xs
  | .ins _ _ xs => nolf xs
  | _ => true
def nols:List Tr→Bool
  | [] => true | x :: xs => nol x && nols xs
def nolk:List (Key×Tr)→Bool
  | [] => true | (_, x) :: xs => nol x && nolk xs
def nolf:List (Str×Tr)→Bool
  | [] => true | (_, x) :: xs => nol x && nolf xs
end
mutual
/-- nothing lent for now in it -/
def nlt:Tr→Bool
  | .tup xs => nlts xs
  | .lst (.l true) _ => false
  | .dic (.l true) _ => false
  | .ins (.l true) _ _ => false
  | .lst _ xs => nlts xs
  | .dic _ xs => nltk xs
  | .ins _ _ xs => nltf xs
  | _ => true
def nlts:List Tr→Bool
  | [] => true | x :: xs => nlt x && nlts xs
def nltk:List (Key×Tr)→Bool
  | [] => true | (_, x) :: xs => nlt x && nltk xs
def nltf:List (Str×Tr)→Bool
  | [] => true | (_, x) :: xs => nlt x && nltf xs
end
mutual
/-- as a callee has it: what is lent is lent to it -/
def dn:Tr→Tr
  | .tup xs => .tup (dns xs)
  | .lst (.l _) xs => .lst (.l false) (dns xs)
  | .dic (.l _) xs => .dic (.l false) (dnk xs)
  | .ins (.l _) c xs => .ins (.l false) c (dnf xs)
  | .lst .o xs => .lst .o (dns xs)
  | .dic .o xs => .dic .o (dnk xs)
  | .ins .o c xs => .ins .o c (dnf xs)
  | .lst .f xs => .lst .f (dns xs)
  | .dic .f xs => .dic .f (dnk xs)
  | .ins .f c xs => .ins .f c (dnf xs)
  | t => t
def dns:List Tr→List Tr
  | [] => [] | x :: xs => dn x :: dns xs
def dnk:List (Key×Tr)→List (Key×Tr)
  | [] => [] | (k, x) :: xs => (k, dn x) :: dnk xs
def dnf:List (Str×Tr)→List (Str×Tr)
  | [] => [] | (k, x) :: xs => (k, dn x) :: dnf xs
end
mutual
theorem R.mo {K:PySem.W.Frag} {F F':Hp} {B B':Bool→Hp} (e:Le F F') (b:∀ k,Le (B k) (B' k)):∀ (t:Tr) {v:V} {cs:Cs},R K F B t v cs→R K F' B' t v cs
  | .int _, _, _, h => h
  | .bl _, _, _, h => h
  | .str _, _, _, h => h
  | .non, _, _, h => h
  | .hole, _, _, h => h
  | .ty _, _, _, h => h
  | .cl _, _, _, h => h
  | .exc _, _, _, ⟨z, a, h1, h2⟩ => ⟨z, a, h1, Le.exc e h2⟩
  | .tup xs, _, _, ⟨a, vs, h1, h2, h3⟩ => ⟨a, vs, h1, e.tup h2, Rs.mo e b xs h3⟩
  | .lst .f xs, _, _, ⟨z, a, vs, h1, h2, h3⟩ => ⟨z, a, vs, h1, e.lst h2, Rs.mo e b xs h3⟩
  | .lst (.l k) xs, _, _, ⟨z, a, vs, h1, h2, h3⟩ => ⟨z, a, vs, h1, (b k).lst h2, Rs.mo e b xs h3⟩
  | .lst .o xs, _, _, ⟨a, vs, ds, h1, h2, h3⟩ => ⟨a, vs, ds, h1, h2, Rs.mo e b xs h3⟩
  | .dic .f xs, _, _, ⟨z, a, vs, h1, h2, h3, h4⟩ => ⟨z, a, vs, h1, e.dic h2, Rk.mo e b xs h3, h4⟩
  | .dic (.l k) xs, _, _, ⟨z, a, vs, h1, h2, h3, h4⟩ => ⟨z, a, vs, h1, (b k).dic h2, Rk.mo e b xs h3, h4⟩
  | .dic .o xs, _, _, ⟨a, vs, ds, h1, h2, h3, h4⟩ => ⟨a, vs, ds, h1, h2, Rk.mo e b xs h3, h4⟩
  | .ins .f _ xs, _, _, ⟨z, a, dx, vs, h1, h2, h3⟩ => ⟨z, a, dx, vs, h1, e _ _ (by intro _ _ z; cases z) h2, Rf.mo e b xs h3⟩
  | .ins (.l k) _ xs, _, _, ⟨z, a, dx, vs, h1, h2, h3⟩ => ⟨z, a, dx, vs, h1, b k _ _ (by intro _ _ z; cases z) h2, Rf.mo e b xs h3⟩
  | .ins .o _ xs, _, _, ⟨a, dx, vs, ds, h1, h2, h3⟩ => ⟨a, dx, vs, ds, h1, h2, Rf.mo e b xs h3⟩
theorem Rs.mo {K:PySem.W.Frag} {F F':Hp} {B B':Bool→Hp} (e:Le F F') (b:∀ k,Le (B k) (B' k)):∀ (t:List Tr) {v:List V} {cs:Cs},Rs K F B t v cs→Rs K F' B' t v cs
  | [], _, _, h => h
  | x :: xs, _, _, ⟨v, r, c, d, h1, h2, h3, h4⟩ => ⟨v, r, c, d, h1, h2, R.mo e b x h3, Rs.mo e b xs h4⟩
theorem Rk.mo {K:PySem.W.Frag} {F F':Hp} {B B':Bool→Hp} (e:Le F F') (b:∀ k,Le (B k) (B' k)):∀ (t:List (Key×Tr)) {v:List (Key×V)} {cs:Cs},Rk K F B t v cs→Rk K F' B' t v cs
  | [], _, _, h => h
  | (_, x) :: xs, _, _, ⟨v, r, c, d, h1, h2, h3, h4⟩ => ⟨v, r, c, d, h1, h2, R.mo e b x h3, Rk.mo e b xs h4⟩
theorem Rf.mo {K:PySem.W.Frag} {F F':Hp} {B B':Bool→Hp} (e:Le F F') (b:∀ k,Le (B k) (B' k)):∀ (t:List (Str×Tr)) {v:List (Str×V)} {cs:Cs},Rf K F B t v cs→Rf K F' B' t v cs
  | [], _, _, h => h
  | (_, x) :: xs, _, _, ⟨v, r, c, d, h1, h2, h3, h4⟩ => ⟨v, r, c, d, h1, h2, R.mo e b x h3, Rf.mo e b xs h4⟩
end
end Pu
namespace Pu
open PySem L2 Vc Sf
section
variable {K:PySem.W.Frag} {F F' H H':Hp} {B B':Bool→Hp}
mutual
theorem R.lend (b:∀ k,Le (B k) (B' k)):∀ (t:Tr) {v:V} {cs:Cs},R K F B t v cs→(∀ p∈cs,B' true p.1=some p.2)→R K F B' (lend t) v []
  | .int _, _, _, ⟨h, _⟩, _ => ⟨h, rfl⟩
  | .bl _, _, _, ⟨h, _⟩, _ => ⟨h, rfl⟩
  | .str _, _, _, ⟨h, _⟩, _ => ⟨h, rfl⟩
  | .non, _, _, ⟨h, _⟩, _ => ⟨h, rfl⟩
  | .hole, _, _, h, _ => h.elim
  | .ty _, _, _, ⟨h, _⟩, _ => ⟨h, rfl⟩
  | .cl _, _, _, ⟨h, _⟩, _ => ⟨h, rfl⟩
  | .exc _, _, _, ⟨_, a, h, h'⟩, _ => ⟨rfl, a, h, h'⟩
  | .tup xs, _, _, ⟨a, vs, h1, h2, h3⟩, m => ⟨a, vs, h1, h2, Rs.lend b xs h3 m⟩
  | .lst .f xs, _, _, ⟨z, a, vs, h1, h2, h3⟩, _ => ⟨rfl, a, vs, h1, h2, Rs.mo (Le.refl F) b xs h3⟩
  | .lst (.l k) xs, _, _, ⟨z, a, vs, h1, h2, h3⟩, _ => ⟨rfl, a, vs, h1, (b k).lst h2, Rs.mo (Le.refl F) b xs h3⟩
  | .lst .o xs, _, _, ⟨a, vs, ds, h1, h2, h3⟩, m => ⟨rfl, a, vs, h1, SqL.of (m (a, .lst vs) (by rw [h2]; exact .head _)), Rs.lend b xs h3 fun p q => m p (by rw [h2]; exact .tail _ q)⟩
  | .dic .f xs, _, _, ⟨z, a, vs, h1, h2, h3, h4⟩, _ => ⟨rfl, a, vs, h1, h2, Rk.mo (Le.refl F) b xs h3, h4⟩
  | .dic (.l k) xs, _, _, ⟨z, a, vs, h1, h2, h3, h4⟩, _ => ⟨rfl, a, vs, h1, (b k).dic h2, Rk.mo (Le.refl F) b xs h3, h4⟩
  | .dic .o xs, _, _, ⟨a, vs, ds, h1, h2, h3, h4⟩, m => ⟨rfl, a, vs, h1, Rd.of (m (a, .dK vs) (by rw [h2]; exact .head _)), Rk.lend b xs h3 fun p q => m p (by rw [h2]; exact .tail _ q), by rw [lendk_keys]; exact h4⟩
  | .ins .f _ xs, _, _, ⟨z, a, dx, vs, h1, h2, h3⟩, _ => ⟨rfl, a, dx, vs, h1, h2, Rf.mo (Le.refl F) b xs h3⟩
  | .ins (.l k) _ xs, _, _, ⟨z, a, dx, vs, h1, h2, h3⟩, _ => ⟨rfl, a, dx, vs, h1, b k _ _ (by intro _ _ z; cases z) h2, Rf.mo (Le.refl F) b xs h3⟩
  | .ins .o _ xs, _, _, ⟨a, dx, vs, ds, h1, h2, h3⟩, m => ⟨rfl, a, dx, vs, h1, Rd.of (m (a, .ins _ dx vs) (by rw [h2]; exact .head _)), Rf.lend b xs h3 fun p q => m p (by rw [h2]; exact .tail _ q)⟩
theorem Rs.lend (b:∀ k,Le (B k) (B' k)):∀ (t:List Tr) {v:List V} {cs:Cs},Rs K F B t v cs→(∀ p∈cs,B' true p.1=some p.2)→Rs K F B' (lends t) v []
  | [], _, _, ⟨h, _⟩, _ => ⟨h, rfl⟩
  | x :: xs, _, _, ⟨v, r, c, d, h1, h2, h3, h4⟩, m => ⟨v, r, [], [], h1, rfl, R.lend b x h3 fun p q => m p (by rw [h2]; exact List.mem_append.mpr (.inl q)), Rs.lend b xs h4 fun p q => m p (by rw [h2]; exact List.mem_append.mpr (.inr q))⟩
theorem Rk.lend (b:∀ k,Le (B k) (B' k)):∀ (t:List (Key×Tr)) {v:List (Key×V)} {cs:Cs},Rk K F B t v cs→(∀ p∈cs,B' true p.1=some p.2)→Rk K F B' (lendk t) v []
  | [], _, _, ⟨h, _⟩, _ => ⟨h, rfl⟩
  | (_, x) :: xs, _, _, ⟨v, r, c, d, h1, h2, h3, h4⟩, m => ⟨v, r, [], [], h1, rfl, R.lend b x h3 fun p q => m p (by rw [h2]; exact List.mem_append.mpr (.inl q)), Rk.lend b xs h4 fun p q => m p (by rw [h2]; exact List.mem_append.mpr (.inr q))⟩
theorem Rf.lend (b:∀ k,Le (B k) (B' k)):∀ (t:List (Str×Tr)) {v:List (Str×V)} {cs:Cs},Rf K F B t v cs→(∀ p∈cs,B' true p.1=some p.2)→Rf K F B' (lendf t) v []
  | [], _, _, ⟨h, _⟩, _ => ⟨h, rfl⟩
  | (_, x) :: xs, _, _, ⟨v, r, c, d, h1, h2, h3, h4⟩, m => ⟨v, r, [], [], h1, rfl, R.lend b x h3 fun p q => m p (by rw [h2]; exact List.mem_append.mpr (.inl q)), Rf.lend b xs h4 fun p q => m p (by rw [h2]; exact List.mem_append.mpr (.inr q))⟩
theorem lendk_keys:∀ (xs:List (Key×Tr)),(lendk xs).map (·.1)=xs.map (·.1)
  | [] => rfl
  | (_, _) :: xs => by show _ :: _ = _ :: _; rw [lendk_keys xs]
end
theorem e'c:∀ (xs:List (Key×Tr)),(frzk xs).map (·.1)=xs.map (·.1)
  | [] => rfl
  | (_, _) :: xs => by show _ :: _ = _ :: _; rw [e'c xs]
mutual
/-- without lent parts B is not asked -/
theorem R.base:∀ (t:Tr) {v:V} {cs:Cs},nol t=true→R K F B t v cs→R K F B' t v cs
  | .int _, _, _, _, h => h
  | .bl _, _, _, _, h => h
  | .str _, _, _, _, h => h
  | .non, _, _, _, h => h
  | .hole, _, _, _, h => h
  | .ty _, _, _, _, h => h
  | .cl _, _, _, _, h => h
  | .exc _, _, _, _, h => h
  | .tup xs, _, _, n, ⟨a, vs, h1, h2, h3⟩ => ⟨a, vs, h1, h2, Rs.base xs n h3⟩
  | .lst .f xs, _, _, n, ⟨z, a, vs, h1, h2, h3⟩ => ⟨z, a, vs, h1, h2, Rs.base xs n h3⟩
  | .lst (.l k) xs, _, _, n, _ => by cases n
  | .lst .o xs, _, _, n, ⟨a, vs, ds, h1, h2, h3⟩ => ⟨a, vs, ds, h1, h2, Rs.base xs n h3⟩
  | .dic .f xs, _, _, n, ⟨z, a, vs, h1, h2, h3, h4⟩ => ⟨z, a, vs, h1, h2, Rk.base xs n h3, h4⟩
  | .dic (.l k) xs, _, _, n, _ => by cases n
  | .dic .o xs, _, _, n, ⟨a, vs, ds, h1, h2, h3, h4⟩ => ⟨a, vs, ds, h1, h2, Rk.base xs n h3, h4⟩
  | .ins .f _ xs, _, _, n, ⟨z, a, dx, vs, h1, h2, h3⟩ => ⟨z, a, dx, vs, h1, h2, Rf.base xs n h3⟩
  | .ins (.l k) _ xs, _, _, n, _ => by cases n
  | .ins .o _ xs, _, _, n, ⟨a, dx, vs, ds, h1, h2, h3⟩ => ⟨a, dx, vs, ds, h1, h2, Rf.base xs n h3⟩
theorem Rs.base:∀ (t:List Tr) {v:List V} {cs:Cs},nols t=true→Rs K F B t v cs→Rs K F B' t v cs
  | [], _, _, _, h => h
  | x :: xs, _, _, n, ⟨v, r, c, d, h1, h2, h3, h4⟩ => by
    rw [nols,Bool.and_eq_true] at n
    exact⟨v,r,c,d,h1,h2,R.base x n.1 h3,Rs.base xs n.2 h4⟩
theorem Rk.base:∀ (t:List (Key×Tr)) {v:List (Key×V)} {cs:Cs},nolk t=true→Rk K F B t v cs→Rk K F B' t v cs
  | [], _, _, _, h => h
  | (_, x) :: xs, _, _, n, ⟨v, r, c, d, h1, h2, h3, h4⟩ => by
    rw [nolk,Bool.and_eq_true] at n
    exact⟨v,r,c,d,h1,h2,R.base x n.1 h3,Rk.base xs n.2 h4⟩
theorem Rf.base:∀ (t:List (Str×Tr)) {v:List (Str×V)} {cs:Cs},nolf t=true→Rf K F B t v cs→Rf K F B' t v cs
  | [], _, _, _, h => h
  | (_, x) :: xs, _, _, n, ⟨v, r, c, d, h1, h2, h3, h4⟩ => by
    rw [nolf,Bool.and_eq_true] at n
    exact⟨v,r,c,d,h1,h2,R.base x n.1 h3,Rf.base xs n.2 h4⟩
end
mutual
theorem R.frz (b:Le F F'):∀ (t:Tr) {v:V} {cs:Cs},R K F B t v cs→(∀ p∈cs,F' p.1=some p.2)→R K F' B (frz t) v []
  | .int _, _, _, ⟨h, _⟩, _ => ⟨h, rfl⟩
  | .bl _, _, _, ⟨h, _⟩, _ => ⟨h, rfl⟩
  | .str _, _, _, ⟨h, _⟩, _ => ⟨h, rfl⟩
  | .non, _, _, ⟨h, _⟩, _ => ⟨h, rfl⟩
  | .hole, _, _, h, _ => h.elim
  | .ty _, _, _, ⟨h, _⟩, _ => ⟨h, rfl⟩
  | .cl _, _, _, ⟨h, _⟩, _ => ⟨h, rfl⟩
  | .exc _, _, _, ⟨_, a, h, h'⟩, _ => ⟨rfl, a, h, Le.exc b h'⟩
  | .tup xs, _, _, ⟨a, vs, h1, h2, h3⟩, m => ⟨a, vs, h1, b.tup h2, Rs.frz b xs h3 m⟩
  | .lst .f xs, _, _, ⟨z, a, vs, h1, h2, h3⟩, _ => ⟨rfl, a, vs, h1, b.lst h2, Rs.mo b (fun k => Le.refl (B k)) xs h3⟩
  | .lst (.l k) xs, _, _, ⟨z, a, vs, h1, h2, h3⟩, _ => ⟨rfl, a, vs, h1, h2, Rs.mo b (fun k => Le.refl (B k)) xs h3⟩
  | .lst .o xs, _, _, ⟨a, vs, ds, h1, h2, h3⟩, m => ⟨rfl, a, vs, h1, SqL.of (m (a, .lst vs) (by rw [h2]; exact .head _)), Rs.frz b xs h3 fun p q => m p (by rw [h2]; exact .tail _ q)⟩
  | .dic .f xs, _, _, ⟨z, a, vs, h1, h2, h3, h4⟩, _ => ⟨rfl, a, vs, h1, b.dic h2, Rk.mo b (fun k => Le.refl (B k)) xs h3, h4⟩
  | .dic (.l k) xs, _, _, ⟨z, a, vs, h1, h2, h3, h4⟩, _ => ⟨rfl, a, vs, h1, h2, Rk.mo b (fun k => Le.refl (B k)) xs h3, h4⟩
  | .dic .o xs, _, _, ⟨a, vs, ds, h1, h2, h3, h4⟩, m => ⟨rfl, a, vs, h1, Rd.of (m (a, .dK vs) (by rw [h2]; exact .head _)), Rk.frz b xs h3 fun p q => m p (by rw [h2]; exact .tail _ q), by rw [e'c]; exact h4⟩
  | .ins .f _ xs, _, _, ⟨z, a, dx, vs, h1, h2, h3⟩, _ => ⟨rfl, a, dx, vs, h1, b _ _ (by intro _ _ z; cases z) h2, Rf.mo b (fun k => Le.refl (B k)) xs h3⟩
  | .ins (.l k) _ xs, _, _, ⟨z, a, dx, vs, h1, h2, h3⟩, _ => ⟨rfl, a, dx, vs, h1, h2, Rf.mo b (fun k => Le.refl (B k)) xs h3⟩
  | .ins .o _ xs, _, _, ⟨a, dx, vs, ds, h1, h2, h3⟩, m => ⟨rfl, a, dx, vs, h1, Rd.of (m (a, .ins _ dx vs) (by rw [h2]; exact .head _)), Rf.frz b xs h3 fun p q => m p (by rw [h2]; exact .tail _ q)⟩
theorem Rs.frz (b:Le F F'):∀ (t:List Tr) {v:List V} {cs:Cs},Rs K F B t v cs→(∀ p∈cs,F' p.1=some p.2)→Rs K F' B (frzs t) v []
  | [], _, _, ⟨h, _⟩, _ => ⟨h, rfl⟩
  | x :: xs, _, _, ⟨v, r, c, d, h1, h2, h3, h4⟩, m => ⟨v, r, [], [], h1, rfl, R.frz b x h3 fun p q => m p (by rw [h2]; exact List.mem_append.mpr (.inl q)), Rs.frz b xs h4 fun p q => m p (by rw [h2]; exact List.mem_append.mpr (.inr q))⟩
theorem Rk.frz (b:Le F F'):∀ (t:List (Key×Tr)) {v:List (Key×V)} {cs:Cs},Rk K F B t v cs→(∀ p∈cs,F' p.1=some p.2)→Rk K F' B (frzk t) v []
  | [], _, _, ⟨h, _⟩, _ => ⟨h, rfl⟩
  | (_, x) :: xs, _, _, ⟨v, r, c, d, h1, h2, h3, h4⟩, m => ⟨v, r, [], [], h1, rfl, R.frz b x h3 fun p q => m p (by rw [h2]; exact List.mem_append.mpr (.inl q)), Rk.frz b xs h4 fun p q => m p (by rw [h2]; exact List.mem_append.mpr (.inr q))⟩
theorem Rf.frz (b:Le F F'):∀ (t:List (Str×Tr)) {v:List (Str×V)} {cs:Cs},Rf K F B t v cs→(∀ p∈cs,F' p.1=some p.2)→Rf K F' B (frzf t) v []
  | [], _, _, ⟨h, _⟩, _ => ⟨h, rfl⟩
  | (_, x) :: xs, _, _, ⟨v, r, c, d, h1, h2, h3, h4⟩, m => ⟨v, r, [], [], h1, rfl, R.frz b x h3 fun p q => m p (by rw [h2]; exact List.mem_append.mpr (.inl q)), Rf.frz b xs h4 fun p q => m p (by rw [h2]; exact List.mem_append.mpr (.inr q))⟩
end
def Plain (cs:Cs):Prop:=∀ p∈cs,∀ x u,p.2≠HO.frz x u
theorem Plain.nil:Plain []:=fun _ h=>nomatch h
theorem Plain.cons {a:Addr} {o:HO} {cs:Cs} (h:∀ x u,o≠HO.frz x u) (t:Plain cs):Plain ((a,o) :: cs):=fun p m=>by
  cases m with
  | head => exact h
  | tail _ m => exact t p m
theorem Plain.app {c d:Cs} (h:Plain c) (t:Plain d):Plain (c++d):=fun p m=>(List.mem_append.mp m).elim (h p) (t p)
mutual
theorem R.plain:∀ (t:Tr) {v:V} {cs:Cs},R K F B t v cs→Plain cs
  | .int _, _, _, ⟨_, h⟩ => by rw [h]; exact .nil
  | .bl _, _, _, ⟨_, h⟩ => by rw [h]; exact .nil
  | .str _, _, _, ⟨_, h⟩ => by rw [h]; exact .nil
  | .non, _, _, ⟨_, h⟩ => by rw [h]; exact .nil
  | .hole, _, _, h => h.elim
  | .ty _, _, _, ⟨_, h⟩ => by rw [h]; exact .nil
  | .cl _, _, _, ⟨_, h⟩ => by rw [h]; exact .nil
  | .exc _, _, _, ⟨h, _⟩ => by rw [h]; exact .nil
  | .tup xs, _, _, ⟨a, vs, h1, h2, h3⟩ => Rs.plain xs h3
  | .lst .f xs, _, _, ⟨z, _⟩ => by rw [z]; exact .nil
  | .lst (.l k) xs, _, _, ⟨z, _⟩ => by rw [z]; exact .nil
  | .lst .o xs, _, _, ⟨a, vs, ds, h1, h2, h3⟩ => by rw [h2]; exact .cons (by intro _ _ z; cases z) (Rs.plain xs h3)
  | .dic .f xs, _, _, ⟨z, _⟩ => by rw [z]; exact .nil
  | .dic (.l k) xs, _, _, ⟨z, _⟩ => by rw [z]; exact .nil
  | .dic .o xs, _, _, ⟨a, vs, ds, h1, h2, h3, _⟩ => by rw [h2]; exact .cons (by intro _ _ z; cases z) (Rk.plain xs h3)
  | .ins .f _ xs, _, _, ⟨z, _⟩ => by rw [z]; exact .nil
  | .ins (.l k) _ xs, _, _, ⟨z, _⟩ => by rw [z]; exact .nil
  | .ins .o _ xs, _, _, ⟨a, dx, vs, ds, h1, h2, h3⟩ => by rw [h2]; exact .cons (by intro _ _ z; cases z) (Rf.plain xs h3)
theorem Rs.plain:∀ (t:List Tr) {v:List V} {cs:Cs},Rs K F B t v cs→Plain cs
  | [], _, _, ⟨_, h⟩ => by rw [h]; exact .nil
  | x :: xs, _, _, ⟨v, r, c, d, h1, h2, h3, h4⟩ => by rw [h2]; exact (R.plain x h3).app (Rs.plain xs h4)
theorem Rk.plain:∀ (t:List (Key×Tr)) {v:List (Key×V)} {cs:Cs},Rk K F B t v cs→Plain cs
  | [], _, _, ⟨_, h⟩ => by rw [h]; exact .nil
  | (_, x) :: xs, _, _, ⟨v, r, c, d, h1, h2, h3, h4⟩ => by rw [h2]; exact (R.plain x h3).app (Rk.plain xs h4)
theorem Rf.plain:∀ (t:List (Str×Tr)) {v:List (Str×V)} {cs:Cs},Rf K F B t v cs→Plain cs
  | [], _, _, ⟨_, h⟩ => by rw [h]; exact .nil
  | (_, x) :: xs, _, _, ⟨v, r, c, d, h1, h2, h3, h4⟩ => by rw [h2]; exact (R.plain x h3).app (Rf.plain xs h4)
end
structure Cells (F H:Hp) (cs:Cs):Prop where
  h:∀ p∈cs,H p.1=some p.2
  f:∀ p∈cs,F p.1=none
  nd:(cs.map (·.1)).Nodup
theorem Cells.nil:Cells F H []:=⟨fun _ h=>(nomatch h),fun _ h=>(nomatch h),List.nodup_nil⟩
theorem Cells.gr {cs:Cs} (c:Cells F H cs) (g:Gr F H F' H'):Cells F' H' cs:=⟨fun p m=>g.h _ _ (c.h p m),fun p m=>g.own (c.f p m) (c.h p m),c.nd⟩
def New (H:Hp) (cs:Cs):Prop:=∀ p∈cs,H p.1=none
theorem New.nil:New H []:=fun _ h=>nomatch h
theorem New.back {cs:Cs} (s:Same H H') (n:New H' cs):New H cs:=fun p m=>s.free (n p m)
theorem Cells.app {c d:Cs} (h:Cells F H c) (t:Cells F H d) (n:∀ p∈c,∀ q∈d,p.1≠q.1):Cells F H (c++d):=
  ⟨fun p m=>(List.mem_append.mp m).elim (h.h p) (t.h p),fun p m=>(List.mem_append.mp m).elim (h.f p) (t.f p),by
    rw [List.map_append,List.nodup_append]
    refine⟨h.nd,t.nd,fun a ma b mb=>?_⟩
    obtain⟨p,mp,rfl⟩:=List.mem_map.mp ma
    obtain⟨q,mq,rfl⟩:=List.mem_map.mp mb
    exact n p mp q mq⟩
theorem Cells.left {c d:Cs} (h:Cells F H (c++d)):Cells F H c:=⟨fun p m=>h.h p (List.mem_append.mpr (.inl m)),fun p m=>h.f p (List.mem_append.mpr (.inl m)),by have:=h.nd;rw [List.map_append,List.nodup_append] at this;exact this.1⟩
theorem Cells.right {c d:Cs} (h:Cells F H (c++d)):Cells F H d:=⟨fun p m=>h.h p (List.mem_append.mpr (.inr m)),fun p m=>h.f p (List.mem_append.mpr (.inr m)),by have:=h.nd;rw [List.map_append,List.nodup_append] at this;exact this.2.1⟩
structure Out (K:PySem.W.Frag) (F:Hp) (B:Bool→Hp) (H F' H':Hp) (t:Tr) (v:V) (cs:Cs):Prop where
  g:Gr F H F' H'
  r:R K F' B t v cs
  c:Cells F' H' cs
  n:New H cs
structure OutA (K:PySem.W.Frag) (F:Hp) (B:Bool→Hp) (H F' H':Hp) (t:List Tr) (v:List V) (cs:Cs):Prop where
  g:Gr F H F' H'
  r:Rs K F' B t v cs
  c:Cells F' H' cs
  n:New H cs
def EnvQ (K:PySem.W.Frag) (F:Hp) (B:Bool→Hp) (σ:St) (ρ:List Tr):Prop:=∀ (i:Nat) (t:Tr),ρ[i]?=some t→t=.hole∨∃ v,σ[i]?=some (some v)∧R K F B t v []
theorem EnvQ.mo {σ:St} {ρ:List Tr} (e:EnvQ K F B σ ρ) (l:Le F F') (b:∀ k,Le (B k) (B' k)):EnvQ K F' B' σ ρ:=fun i t h=>(e i t h).imp id fun ⟨v,h1,h2⟩=>⟨v,h1,h2.mo l b t⟩
abbrev PE':=List Tr→(Tr→Prop)→Prop
abbrev PA':=List Tr→(List Tr→Prop)→Prop
abbrev PB':=List Tr→(Bool→Prop)→Prop
structure Md where
  z:Bool
  E:St→XK
  q:Value→Prop
def Md.mute (k:Md):Md:=⟨k.z,k.E,fun _=>False⟩
def Md.walk (k:Md):Md:=⟨false,k.E,fun _=>False⟩
def Md.base (b:Bool):Md:=⟨b,fun _=>E0,fun _=>False⟩
structure Cxt (K:PySem.W.Frag) (k:Md) (F:Hp) (B:Bool→Hp) (H:Hp) (σ:St) (ρ:List Tr):Prop where
  s:Same F H
  b:∀ k,Same (B k) H
  z:k.z=true→Fz S0 F
  e:EnvQ K F B σ ρ
  x:∀ cls F' H',k.q cls→Gr F H F' H'→k.E σ cls none H'
theorem _root_.Vc.Gr.refl' (s:Same F H):Gr F H F H:=Gr.of (Gr0.refl s) (Fz.refl F)
theorem _root_.Vc.Gr.trans' {F2 H2:Hp} (a:Gr F H F' H') (b:Gr F' H' F2 H2):Gr F H F2 H2:=Gr.of (a.toGr0.tr b) (b.fz a.z)
theorem Cxt.gr {k:Md} {σ:St} {ρ:List Tr} (c:Cxt K k F B H σ ρ) (g:Gr F H F' H'):Cxt K k F' B H' σ ρ:=⟨g.s,fun k=>(c.b k).trans g.h,fun h=>g.fz (c.z h),c.e.mo g.le (fun k=>Le.refl (B k)),fun cls F' H' q g'=>c.x cls F' H' q (g.trans' g')⟩
def Sim (K:PySem.W.Frag) (k:Md) (te:TE) (pe:PE'):Prop:=∀ (F:Hp) (B:Bool→Hp) (H:Hp) (σ:St) (ρ:List Tr) (Q:VK) (Q':Tr→Prop),Cxt K k F B H σ ρ→pe ρ Q'→(∀ t v F' H' cs,Q' t→Out K F B H F' H' t v cs→Q v H')→te σ H Q
def SimA (K:PySem.W.Frag) (k:Md) (te:TA) (pe:PA'):Prop:=∀ (F:Hp) (B:Bool→Hp) (H:Hp) (σ:St) (ρ:List Tr) (Q:List V→Hp→Prop) (Q':List Tr→Prop),Cxt K k F B H σ ρ→pe ρ Q'→(∀ t v F' H' cs,Q' t→OutA K F B H F' H' t v cs→Q v H')→te σ H Q
def SimT (K:PySem.W.Frag) (k:Md) (te:TT) (pe:PB'):Prop:=∀ (F:Hp) (B:Bool→Hp) (H:Hp) (σ:St) (ρ:List Tr) (Q:Bool→Hp→Prop) (Q':Bool→Prop),Cxt K k F B H σ ρ→pe ρ Q'→(∀ b F' H',Q' b→Gr F H F' H'→Q b H')→te σ H Q
theorem Out.same {t:Tr} {v:V} (s:Same F H) (r:R K F B t v []):Out K F B H F H t v []:=⟨Gr.refl' s,r,.nil,.nil⟩
def pVar (i:Nat):PE':=fun ρ Q=>match ρ[i]? with | some .hole=>False | some t=>Q t | none=>False
theorem k'S {k:Md} (i:Nat):Sim K k (tVar i) (pVar i):=fun F B H σ ρ Q Q' c p q=>by
  unfold pVar at p
  cases h:ρ[i]? with
  | none => rw [h] at p; exact p.elim
  | some t =>
    rcases c.e i t h with rfl | ⟨v,h1,h2⟩
    · rw [h] at p;exact p.elim
    · refine⟨v,h1,q t v F H [] ?_ (Out.same c.s h2)⟩
      rw [h] at p
      cases t with
      | hole=>exact p.elim
      | _=>exact p
def pC (t:Tr):PE':=fun _ Q=>Q t
theorem d'r {k:Md} {v:V} {t:Tr} (h:∀ F B,R K F B t v []):Sim K k (tC v) (pC t):=fun F B H σ ρ Q Q' c p q=>q t v F H [] p (Out.same c.s (h F B))
theorem k'T {k:Md} {n:Int}:Sim K k (tC (.int n)) (pC (.int n)):=d'r fun _ _=>⟨rfl,rfl⟩
theorem k'U {k:Md} {n:Str}:Sim K k (tC (.str n)) (pC (.str n)):=d'r fun _ _=>⟨rfl,rfl⟩
theorem o'f {k:Md} {n:Bool}:Sim K k (tC (.bl n)) (pC (.bl n)):=d'r fun _ _=>⟨rfl,rfl⟩
theorem k'V {k:Md}:Sim K k (tC .non) (pC .non):=d'r fun _ _=>⟨rfl,rfl⟩
def p2 (pr:Tr→Tr→(Tr→Prop)→Prop) (pa pb:PE'):PE':=fun ρ Q=>pa ρ fun x=>pb ρ fun y=>pr x y Q
def Op2 (K:PySem.W.Frag) (k:Md) (r:R2) (pr:Tr→Tr→(Tr→Prop)→Prop):Prop:=∀ (F:Hp) (B:Bool→Hp) (H:Hp) (x y:V) (tx ty:Tr) (cx cy:Cs) (Q:VK) (Q':Tr→Prop),Same F H→(∀ k,Same (B k) H)→(k.z=true→Fz S0 F)→R K F B tx x cx→R K F B ty y cy→Cells F H cx→Cells F H cy→(∀ p∈cx,∀ q∈cy,p.1≠q.1)→pr tx ty Q'→
  (∀ t v F' H' cs,Q' t→Gr F H F' H'→R K F' B t v cs→Cells F' H' cs→(∀ p∈cs,H p.1=none∨p∈cx∨p∈cy)→Q v H')→r x y H Q
theorem d's {k:Md} {r:R2} {pr:Tr→Tr→(Tr→Prop)→Prop} {ta tb:TE} {pa pb:PE'} (o:Op2 K k r pr) (ha:Sim K k ta pa) (hb:Sim K k tb pb):Sim K k (tOp r ta tb) (p2 pr pa pb):=fun F B H σ ρ Q Q' c p q=>by
  refine ha F B H σ ρ _ _ c p fun x v F1 H1 c1 p1 o1=>?_
  refine hb F1 B H1 σ ρ _ _ (c.gr o1.g) p1 fun y u F2 H2 c2 p2 o2=>?_
  refine o F2 B H2 v u x y c1 c2 Q Q' o2.g.s (fun k=>((c.b k).trans o1.g.h).trans o2.g.h) (fun h=>o2.g.fz (o1.g.fz (c.z h))) (o1.r.mo o2.g.le (fun k=>Le.refl (B k)) x) o2.r (o1.c.gr o2.g) o2.c (fun p mp q mq e=>by have:=o1.c.h p mp;rw [e,o2.n q mq] at this;cases this) p2 fun t v' F3 H3 cs qt g r' c' n=>?_
  refine q t v' F3 H3 cs qt ⟨(o1.g.trans' o2.g).trans' g,r',c',fun p m=>?_⟩
  rcases n p m with z | z | z
  · exact (o1.g.h.trans o2.g.h).free z
  · exact o1.n p z
  · exact o1.g.h.free (o2.n p z)
def p1 (pr:Tr→(Tr→Prop)→Prop) (pa:PE'):PE':=fun ρ Q=>pa ρ fun x=>pr x Q
def Op1 (K:PySem.W.Frag) (k:Md) (r:V→Hp→VK→Prop) (pr:Tr→(Tr→Prop)→Prop):Prop:=∀ (F:Hp) (B:Bool→Hp) (H:Hp) (x:V) (tx:Tr) (cx:Cs) (Q:VK) (Q':Tr→Prop),Same F H→(∀ k,Same (B k) H)→(k.z=true→Fz S0 F)→R K F B tx x cx→Cells F H cx→pr tx Q'→
  (∀ t v F' H' cs,Q' t→Gr F H F' H'→R K F' B t v cs→Cells F' H' cs→(∀ p∈cs,H p.1=none∨p∈cx)→Q v H')→r x H Q
theorem o'g {k:Md} {r:V→Hp→VK→Prop} {pr:Tr→(Tr→Prop)→Prop} {ta:TE} {pa:PE'} (o:Op1 K k r pr) (ha:Sim K k ta pa):Sim K k (tUn r ta) (p1 pr pa):=fun F B H σ ρ Q Q' c p q=>by
  refine ha F B H σ ρ _ _ c p fun x v F1 H1 c1 p1 o1=>?_
  refine o F1 B H1 v x c1 Q Q' o1.g.s (fun k=>(c.b k).trans o1.g.h) (fun h=>o1.g.fz (c.z h)) o1.r o1.c p1 fun t v' F3 H3 cs qt g r' c' n=>?_
  refine q t v' F3 H3 cs qt ⟨o1.g.trans' g,r',c',fun p m=>?_⟩
  rcases n p m with z | z
  · exact o1.g.h.free z
  · exact o1.n p z
def pNil:PA':=fun _ Q=>Q []
def pCons (pe:PE') (pa:PA'):PA':=fun ρ Q=>pe ρ fun x=>pa ρ fun xs=>Q (x :: xs)
theorem k'W {k:Md}:SimA K k tNil pNil:=fun F B H σ ρ Q Q' c p q=>q [] [] F H [] p ⟨Gr.refl' c.s,⟨rfl,rfl⟩,.nil,.nil⟩
theorem i'U {k:Md} {te:TE} {ta:TA} {pe:PE'} {pa:PA'} (h:Sim K k te pe) (ha:SimA K k ta pa):SimA K k (tCons te ta) (pCons pe pa):=fun F B H σ ρ Q Q' c p q=>by
  refine h F B H σ ρ _ _ c p fun x v F1 H1 c1 p1 o1=>?_
  refine ha F1 B H1 σ ρ _ _ (c.gr o1.g) p1 fun xs vs F2 H2 c2 p2 o2=>?_
  refine q (x :: xs) (v :: vs) F2 H2 (c1++c2) p2 ⟨o1.g.trans' o2.g,⟨v,vs,c1,c2,rfl,rfl,o1.r.mo o2.g.le (fun k=>Le.refl (B k)) x,o2.r⟩,(o1.c.gr o2.g).app o2.c fun p mp q mq e=>?_,fun p m=>?_⟩
  · have:=o1.c.h p mp
    rw [e,o2.n q mq] at this
    cases this
  · rcases List.mem_append.mp m with m | m
    · exact o1.n p m
    · exact o1.g.h.free (o2.n p m)
theorem Rs.length:∀ {t:List Tr} {v:List V} {cs:Cs},Rs K F B t v cs→v.length=t.length
  | [], _, _, ⟨h, _⟩ => by rw [h]; rfl
  | x :: xs, _, _, ⟨v, r, c, d, h1, h2, h3, h4⟩ => by rw [h1, List.length_cons, List.length_cons, Rs.length h4]
theorem Rs.at:∀ {t:List Tr} {v:List V} {cs:Cs} {i:Nat} {x:Tr},Rs K F B t v cs→t[i]?=some x→∃ u c,v[i]?=some u∧R K F B x u c∧∀ p∈c,p∈cs
  | x :: xs, _, _, 0, y, ⟨v, r, c, d, h1, h2, h3, h4⟩, h => by
    cases h
    exact⟨v,c,by rw [h1];rfl,h3,fun p m=>by rw [h2];exact List.mem_append.mpr (.inl m)⟩
  | x :: xs, _, _, i + 1, y, ⟨v, r, c, d, h1, h2, h3, h4⟩, h => by
    obtain⟨u,e,a1,a2,a3⟩:=Rs.at (i:=i) h4 h
    exact⟨u,e,by rw [h1];exact a1,a2,fun p m=>by rw [h2];exact List.mem_append.mpr (.inr (a3 p m))⟩
theorem Rs.at':∀ {t:List Tr} {v:List V} {cs:Cs} {i:Nat} {x:Tr},Rs K F B t v cs→Cells F H cs→t[i]?=some x→∃ u c,v[i]?=some u∧R K F B x u c∧Cells F H c∧∀ p∈c,p∈cs
  | x :: xs, _, _, 0, y, ⟨v, r, c, d, h1, h2, h3, h4⟩, hc, h => by
    cases h
    rw [h2] at hc
    exact⟨v,c,by rw [h1];rfl,h3,hc.left,fun p m=>by rw [h2];exact List.mem_append.mpr (.inl m)⟩
  | x :: xs, _, _, i + 1, y, ⟨v, r, c, d, h1, h2, h3, h4⟩, hc, h => by
    rw [h2] at hc
    obtain⟨u,e,a1,a2,a3,a4⟩:=Rs.at' (i:=i) h4 hc.right h
    exact⟨u,e,by rw [h1];exact a1,a2,a3,fun p m=>by rw [h2];exact List.mem_append.mpr (.inr (a4 p m))⟩
theorem Rk.keys:∀ {t:List (Key×Tr)} {v:List (Key×V)} {cs:Cs},Rk K F B t v cs→v.map (·.1)=t.map (·.1)
  | [], _, _, ⟨h, _⟩ => by rw [h]; rfl
  | (k, x) :: xs, _, _, ⟨v, r, c, d, h1, h2, h3, h4⟩ => by rw [h1, List.map_cons, List.map_cons, Rk.keys h4]
theorem Rk.length {t:List (Key×Tr)} {v:List (Key×V)} {cs:Cs} (h:Rk K F B t v cs):v.length=t.length:=by have:=congrArg List.length h.keys;simpa using this
def look (m:List (Key×Tr)) (k:Key):Option Tr:=(m.find? fun p=>decide (p.1=k)).map (·.2)
theorem Rk.look:∀ {t:List (Key×Tr)} {v:List (Key×V)} {cs:Cs} (k:Key),Rk K F B t v cs→Cells F H cs→(look t k=none∧valV v k=none)∨∃ x u c,look t k=some x∧valV v k=some u∧R K F B x u c∧Cells F H c∧∀ p∈c,p∈cs
  | [], _, _, k, ⟨h, _⟩, _ => .inl ⟨rfl, by rw [h]; rfl⟩
  | (k', x) :: xs, _, _, k, ⟨v, r, c, d, h1, h2, h3, h4⟩, hc => by
    rw [h2] at hc
    by_cases e:k'=k
    · refine .inr ⟨x,v,c,?_,?_,h3,hc.left,fun p m=>by rw [h2];exact List.mem_append.mpr (.inl m)⟩
      · unfold Pu.look;rw [List.find?_cons_of_pos (by simpa using e)];rfl
      · unfold valV;rw [h1,List.find?_cons_of_pos (by simpa using e)];rfl
    · have e1:Pu.look ((k',x) :: xs) k=Pu.look xs k:=by unfold Pu.look;rw [List.find?_cons_of_neg (by simpa using e)]
      have e2:valV ((k',v) :: r) k=valV r k:=by unfold valV;rw [List.find?_cons_of_neg (by simpa using e)]
      rw [h1,e1,e2]
      rcases Rk.look (t:=xs) (v:=r) (cs:=d) k h4 hc.right with z | ⟨y,u,c',a1,a2,a3,a4,a5⟩
      · exact .inl z
      · exact .inr ⟨y,u,c',a1,a2,a3,a4,fun p m=>by rw [h2];exact List.mem_append.mpr (.inr (a5 p m))⟩
theorem R.lstH {f:Fl} {xs:List Tr} {v:V} {cs:Cs} (s:Same F H) (b:∀ k,Same (B k) H) (r:R K F B (.lst f xs) v cs) (c:Cells F H cs):∃ a vs ds,v=.ref a∧SqL K H a vs∧Rs K F B xs vs ds∧Cells F H ds∧∀ p∈ds,p∈cs:=by
  cases f with
  | f => obtain ⟨z, a, vs, h1, h2, h3⟩ := r; exact ⟨a, vs, [], h1, s.seq h2, h3, .nil, fun _ m => nomatch m⟩
  | l k => obtain ⟨z, a, vs, h1, h2, h3⟩ := r; exact ⟨a, vs, [], h1, (b k).seq h2, h3, .nil, fun _ m => nomatch m⟩
  | o =>
    obtain⟨a,vs,ds,h1,h2,h3⟩:=r
    rw [h2] at c
    exact⟨a,vs,ds,h1,SqL.of (c.h _ (.head _)),h3,Cells.right (c:=[_]) c,fun p m=>by rw [h2];exact .tail _ m⟩
theorem R.tupH {xs:List Tr} {v:V} {cs:Cs} (s:Same F H) (r:R K F B (.tup xs) v cs):∃ a vs,v=.ref a∧SqT K H a vs∧Rs K F B xs vs cs:=by
  obtain⟨a,vs,h1,h2,h3⟩:=r
  exact⟨a,vs,h1,s.tup h2,h3⟩
theorem R.dicH {f:Fl} {xs:List (Key×Tr)} {v:V} {cs:Cs} (s:Same F H) (b:∀ k,Same (B k) H) (r:R K F B (.dic f xs) v cs) (c:Cells F H cs):∃ a vs ds,v=.ref a∧Rd H a (.dK vs)∧Rk K F B xs vs ds∧Cells F H ds∧∀ p∈ds,p∈cs:=by
  cases f with
  | f => obtain ⟨z, a, vs, h1, h2, h3, _⟩ := r; exact ⟨a, vs, [], h1, s.rd h2, h3, .nil, fun _ m => nomatch m⟩
  | l k => obtain ⟨z, a, vs, h1, h2, h3, _⟩ := r; exact ⟨a, vs, [], h1, (b k).rd h2, h3, .nil, fun _ m => nomatch m⟩
  | o =>
    obtain⟨a,vs,ds,h1,h2,h3,_⟩:=r
    rw [h2] at c
    exact⟨a,vs,ds,h1,Rd.of (c.h _ (.head _)),h3,Cells.right (c:=[_]) c,fun p m=>by rw [h2];exact .tail _ m⟩
theorem c'K {xs:List Tr} {vs:List V} {cs:Cs} {p:Addr} (s:Same F H) (r:Rs K F B xs vs cs) (c:Cells F H cs) (hp:H p=none):∃ F',Gr F H F' (upd H p (.tup vs))∧R K F' B (.tup xs) (.ref p) cs∧Cells F' (upd H p (.tup vs)) cs:=by
  obtain⟨F',g,e⟩:=al2 (o:=.tup vs) s (by intro _ _ z;cases z) hp
  exact⟨F',g,⟨p,vs,rfl,SqT.of e,r.mo g.le (fun k=>Le.refl (B k)) xs⟩,c.gr g⟩
theorem Gr.own1 {o:HO} {p:Addr} (s:Same F H) (hp:H p=none):Gr F H F (upd H p o):=⟨⟨Same.upd hp,Same.refl F,s.updN (s.free hp),fun a u h e=>by rw [h] at e;cases e⟩,Fz.refl F⟩
theorem d'J {o:HO} {cs:Cs} {p:Addr} (s:Same F H) (c:Cells F H cs) (hp:H p=none):Cells F (upd H p o) ((p,o) :: cs):=
  ⟨fun q m=>by
    cases m with
    | head=>exact a'o
    | tail _ m=>show upd H p o q.1=_;rw [a'h (a'y (c.h q m) hp)];exact c.h q m,
   fun q m=>by
    cases m with
    | head=>exact s.free hp
    | tail _ m=>exact c.f q m,
   by
    rw [List.map_cons,List.nodup_cons]
    refine⟨fun m=>?_,c.nd⟩
    obtain⟨q,mq,e⟩:=List.mem_map.mp m
    have e:q.1=p:=e
    have:=c.h q mq
    rw [e,hp] at this
    cases this⟩
def pTup (pa:PA'):PE':=fun ρ Q=>pa ρ fun xs=>xs.length≤10000∧Q (.tup xs)
def pLst (pa:PA'):PE':=fun ρ Q=>pa ρ fun xs=>xs.length≤10000∧Q (.lst .o xs)
theorem b'X {n:Nat} (h:n≤1000000):n≤sizeLine:=Nat.le_trans h (by decide)
theorem k'X {k:Md} {ta:TA} {pa:PA'} (h:SimA K k ta pa):Sim K k (tTup ta) (pTup pa):=fun F B H σ ρ Q Q' c p q=>by
  refine h F B H σ ρ _ _ c p fun xs vs F1 H1 c1 p1 o1=>⟨by rw [o1.r.length];exact b'X (Nat.le_trans p1.1 (by decide)),fun a ha=>?_⟩
  obtain⟨F2,g,r,c2⟩:=c'K o1.g.s o1.r o1.c ha
  exact q (.tup xs) (.ref a) F2 _ c1 p1.2 ⟨o1.g.trans' g,r,c2,o1.n⟩
theorem k'Y {k:Md} {ta:TA} {pa:PA'} (h:SimA K k ta pa):Sim K k (tLst ta) (pLst pa):=fun F B H σ ρ Q Q' c p q=>by
  refine h F B H σ ρ _ _ c p fun xs vs F1 H1 c1 p1 o1=>⟨by rw [o1.r.length];exact b'X (Nat.le_trans p1.1 (by decide)),fun a ha=>?_⟩
  refine q (.lst .o xs) (.ref a) F1 _ ((a,.lst vs) :: c1) p1.2 ⟨o1.g.trans' (Gr.own1 o1.g.s ha),⟨a,vs,c1,rfl,rfl,o1.r⟩,d'J o1.g.s o1.c ha,fun p m=>?_⟩
  cases m with
  | head => exact o1.g.h.free ha
  | tail _ m => exact o1.n p m
end
end Pu
namespace Pu
open PySem PySem.Spec PyProof.Rows L2 Vc Sf
section
variable {X:Cx}
def rIxD:R2:=fun x y H Q=>∃ a v,x=.ref a∧DGet H a y (some v)∧Q v H
theorem k'Z (hu:X.A.units+1<cLine):IxR X rIxD:=by
  intro value slice pins s σ H x y v u Q I rx ry h hs
  obtain⟨a,z,rfl,g,q⟩:=h
  obtain rfl:v=Value.ref a:=rx
  have hT:=f'A I g
  unfold subscriptTail
  refine wpAny_bind ?_
  rw [getitemInPython_of_ne hT.not_modules]
  refine wpAny_bind (wpAny_specialOf hT PySem.F.slot_dict_getitem.lookup ?_)
  have fin:wpAny (model X.prog X.w) X.A (subscripted slice false (.ref a) u) (fun r s₃=>wpAny (model X.prog X.w) X.A (letTemporaryGo value (.ref a) r >>= fun _=>pure r) (EP X pins σ Q) X.xe s₃) X.xe s:=by
    rw [hs]
    exact wpAny_operating (h'c hu I g ry fun w' s3 I3 rw'=>wpAny_bind (wpAny_letTemporaryGo (wpAny_pure ⟨z,H,I3,rw',q⟩)))
  first
    | exact wpAny_pure (wpAny_bind fin)
    | exact wpAny_bind (wpAny_pure (wpAny_bind fin))
    | exact wpAny_bind fin
def rInD (neg:Bool):R2:=fun y x H Q=>∃ a o,x=.ref a∧DGet H a y o∧Q (.bl (if neg then !o.isSome else o.isSome)) H
theorem o'h (hu:X.A.units+1<cLine):OpR X (compareOp .In) (rInD false):=by
  intro pins s σ H y x u v Q I ry rx h
  obtain⟨a,o,rfl,g,q⟩:=h
  obtain rfl:v=Value.ref a:=rx
  exact r'V hu I g ry fun s3 I3=>⟨.bl o.isSome,H,I3,rfl,q⟩
def rAddU (K:PySem.W.Frag):R2:=fun x y H Q=>rI0 (fun i j=>.int (i+j)) x y H Q∨(fun x y H Q=>(fun x y H Q=>∃ i j,x=.str i∧y=.str j∧i.length+j.length≤sizeLine∧Q (.str (i++j)) H) x y H Q∨rCatS K x y H Q) x y H Q
theorem q'A:OpR X (binaryOp .Add) (rAddU X.K):=op_add.or (op_add_str.or k'R)
def rMulU:R2:=fun x y H Q=>rI CMulX (fun i j=>.int (i*j)) x y H Q∨rRepS x y H Q
theorem q'B:OpR X (binaryOp .Mult) rMulU:=op_mulB.or g'D
def rIxU (K:PySem.W.Frag):R2:=fun x y H Q=>rIx K x y H Q∨rIxD x y H Q
theorem r'Z (hu:X.A.units+1<cLine):IxR X (rIxU X.K):=ix_seq.or (k'Z hu)
def rLtU:R2:=fun x y H Q=>rI0 (fun i j=>.bl (decide (i<j))) x y H Q∨(fun x y H Q=>∃ i j,x=.str i∧y=.str j∧Q (.bl (decide (i.cps.toList<j.cps.toList))) H) x y H Q
theorem d'b:OpR X (compareOp .Lt) rLtU:=op_lt.or g'X
def rGtU:R2:=fun x y H Q=>rI0 (fun i j=>.bl (decide (j<i))) x y H Q∨(fun x y H Q=>∃ i j,x=.str i∧y=.str j∧Q (.bl (decide (j.cps.toList<i.cps.toList))) H) x y H Q
theorem d'K:OpR X (compareOp .Gt) rGtU:=op_gt.or h'z
end
section
variable {K:PySem.W.Frag} {F F' H H':Hp} {B B':Bool→Hp} {k:Md}
def wInt2 (C:Int→Int→Prop) (g:Int→Int→Tr) (x y:Tr) (Q:Tr→Prop):Prop:=match x,y with
  | .int i, .int j => C i j ∧ Q (g i j)
  | _, _ => False
theorem g'E {C:Int→Int→Prop} {g:Int→Int→V} {t:Int→Int→Tr} (h:∀ i j F B,R K F B (t i j) (g i j) []):Op2 K k (rI C g) (wInt2 C t):=fun F B H x y tx ty cx cy Q Q' s b z rx ry hx hy hd p q=>by
  unfold wInt2 at p
  split at p
  · obtain⟨rfl,_⟩:=rx
    obtain⟨rfl,_⟩:=ry
    exact⟨_,_,rfl,rfl,p.1,q _ _ F H [] p.2 (Gr.refl' s) (h _ _ F B) .nil fun _ m=>nomatch m⟩
  · exact p.elim
theorem o'i {g:Int→Int→V} {t:Int→Int→Tr} (h:∀ i j F B,R K F B (t i j) (g i j) []):Op2 K k (rI0 g) (wInt2 (fun _ _=>True) t):=fun F B H x y tx ty cx cy Q Q' s b z rx ry hx hy hd p q=>by
  unfold wInt2 at p
  split at p
  · obtain⟨rfl,_⟩:=rx
    obtain⟨rfl,_⟩:=ry
    exact⟨_,_,rfl,rfl,q _ _ F H [] p.2 (Gr.refl' s) (h _ _ F B) .nil fun _ m=>nomatch m⟩
  · exact p.elim
def wAdd (x y:Tr) (Q:Tr→Prop):Prop:=match x,y with
  | .int i, .int j => Q (.int (i + j))
  | .str i, .str j => i.length + j.length ≤ 1000000 ∧ Q (.str (i ++ j))
  | .lst _ xs, .lst _ ys => xs.length + ys.length ≤ 1000000 ∧ Q (.lst .o (xs ++ ys))
  | _, _ => False
theorem Rs.append:∀ {xs ys:List Tr} {vs us:List V} {c d:Cs},Rs K F B xs vs c→Rs K F B ys us d→Rs K F B (xs++ys) (vs++us) (c++d)
  | [], _, _, _, _, _, ⟨h1, h2⟩, h => by rw [h1, h2]; exact h
  | x :: xs, _, _, _, _, _, ⟨v, r, c, d, h1, h2, h3, h4⟩, h => by rw [h1, h2]; exact ⟨v, r ++ _, c, d ++ _, rfl, by rw [List.append_assoc], h3, Rs.append h4 h⟩
theorem c'L {xs:List Tr} {vs:List V} {cs:Cs} {p:Addr} (s:Same F H) (r:Rs K F B xs vs cs) (c:Cells F H cs) (hp:H p=none):Gr F H F (upd H p (.lst vs))∧R K F B (.lst .o xs) (.ref p) ((p,.lst vs) :: cs)∧Cells F (upd H p (.lst vs)) ((p,.lst vs) :: cs):=
  ⟨Gr.own1 s hp,⟨p,vs,cs,rfl,rfl,r⟩,d'J s c hp⟩
theorem l'a:Op2 K k (rAddU K) wAdd:=fun F B H x y tx ty cx cy Q Q' s b z rx ry hx hy hd p q=>by
  unfold wAdd at p
  split at p
  · obtain⟨rfl,_⟩:=rx
    obtain⟨rfl,_⟩:=ry
    exact .inl ⟨_,_,rfl,rfl,q _ _ F H [] p (Gr.refl' s) ⟨rfl,rfl⟩ .nil fun _ m=>nomatch m⟩
  · obtain⟨rfl,_⟩:=rx
    obtain⟨rfl,_⟩:=ry
    exact .inr (.inl ⟨_,_,rfl,rfl,b'X p.1,q _ _ F H [] p.2 (Gr.refl' s) ⟨rfl,rfl⟩ .nil fun _ m=>nomatch m⟩)
  · obtain⟨a,vs,ds,rfl,h1,h2,h3,h4⟩:=rx.lstH s b hx
    obtain⟨a',us,es,rfl,g1,g2,g3,g4⟩:=ry.lstH s b hy
    refine .inr (.inr ⟨_,_,_,_,rfl,rfl,h1,g1,b'X (by rw [h2.length,g2.length];exact p.1),fun l hl=>?_⟩)
    obtain⟨n1,n2,n3⟩:=c'L s (h2.append g2) (h3.app g3 fun p mp q mq=>hd p (h4 p mp) q (g4 q mq)) hl
    refine q _ _ F _ _ p.2 n1 n2 n3 fun p m=>?_
    cases m with
    | head=>exact .inl hl
    | tail _ m=>exact (List.mem_append.mp m).elim (fun m=>.inr (.inl (h4 p m))) (fun m=>.inr (.inr (g4 p m)))
  · exact p.elim
def wMul (x y:Tr) (Q:Tr→Prop):Prop:=match x,y with
  | .int i, .int j => CMulX i j ∧ Q (.int (i * j))
  | _, _ => False
theorem l'b:Op2 K k rMulU wMul:=fun F B H x y tx ty cx cy Q Q' s b z rx ry hx hy hd p q=>by
  unfold wMul at p
  split at p
  · obtain⟨rfl,_⟩:=rx
    obtain⟨rfl,_⟩:=ry
    exact .inl ⟨_,_,rfl,rfl,p.1,q _ _ F H [] p.2 (Gr.refl' s) ⟨rfl,rfl⟩ .nil fun _ m=>nomatch m⟩
  · exact p.elim
def keyT:Tr→Option Key
  | .int n => some (.inl n)
  | .str x => some (.inr x)
  | _ => none
theorem d't {t:Tr} {v:V} {cs:Cs} {y:Key} (r:R K F B t v cs) (h:keyT t=some y):v=kV y:=by
  cases t with
  | int n => cases h; exact r.1
  | str n => cases h; exact r.1
  | _ => cases h
def wIdx (x y:Tr) (Q:Tr→Prop):Prop:=match x,y with
  | .tup xs, .int i => (match atI xs i with | some t => Q t | none => False)
  | .lst _ xs, .int i => (match atI xs i with | some t => Q t | none => False)
  | .str x, .int i => x.length ≤ 1000000 ∧ (match atI x.cps.toList i with | some c => Q (.str ⟨#[c]⟩) | none => False)
  | .dic _ m, y => (match keyT y with | some y => (match look m y with | some t => Q t | none => False) | none => False)
  | _, _ => False
theorem Rs.atI {xs:List Tr} {vs:List V} {cs:Cs} {i:Int} {t:Tr} (r:Rs K F B xs vs cs) (c:Cells F H cs) (h:L2.atI xs i=some t):∃ u d,L2.atI vs i=some u∧R K F B t u d∧Cells F H d∧∀ p∈d,p∈cs:=by
  unfold L2.atI at h ⊢
  rw [r.length]
  cases e:ixN xs.length i with
  | none => rw [e] at h; cases h
  | some j => rw [e] at h; exact r.at' c h
theorem l'c:Op2 K k (rIxU K) wIdx:=fun F B H x y tx ty cx cy Q Q' s b z rx ry hx hy hd p q=>by
  unfold wIdx at p
  split at p
  · obtain⟨rfl,_⟩:=ry
    split at p
    · rename_i e
      obtain⟨a,vs,rfl,h1,h2⟩:=rx.tupH s
      obtain⟨u,d,e1,e2,e3,e4⟩:=h2.atI hx e
      exact .inl (.inr (.inl ⟨_,_,_,_,rfl,rfl,h1,e1,q _ _ F H d p (Gr.refl' s) e2 e3 fun p m=>.inr (.inl (e4 p m))⟩))
    · exact p.elim
  · obtain⟨rfl,_⟩:=ry
    split at p
    · rename_i e
      obtain⟨a,vs,ds,rfl,h1,h2,h3,h4⟩:=rx.lstH s b hx
      obtain⟨u,d,e1,e2,e3,e4⟩:=h2.atI h3 e
      exact .inl (.inl ⟨_,_,_,_,rfl,rfl,h1,e1,q _ _ F H d p (Gr.refl' s) e2 e3 fun p m=>.inr (.inl (h4 p (e4 p m)))⟩)
    · exact p.elim
  · obtain⟨rfl,_⟩:=ry
    obtain⟨rfl,_⟩:=rx
    obtain⟨hl,p⟩:=p
    split at p
    · rename_i e
      exact .inl (.inr (.inr ⟨_,_,_,rfl,rfl,b'X hl,e,q _ _ F H [] p (Gr.refl' s) ⟨rfl,rfl⟩ .nil fun _ m=>nomatch m⟩))
    · exact p.elim
  · split at p
    · rename_i e
      split at p
      · rename_i e'
        obtain⟨a,vs,ds,rfl,h1,h2,h3,h4⟩:=rx.dicH s b hx
        obtain rfl:=d't ry e
        rcases h2.look _ h3 with ⟨z,_⟩ | ⟨x,u,c,a1,a2,a3,a4,a5⟩
        · rw [z] at e';cases e'
        · rw [a1] at e'
          cases e'
          exact .inr ⟨a,u,rfl,.inl ⟨vs,_,h1,rfl,a2.symm⟩,q _ _ F H c p (Gr.refl' s) a3 a4 fun p m=>.inr (.inl (h4 p (a5 p m)))⟩
      · exact p.elim
    · exact p.elim
  · exact p.elim
def wLt (x y:Tr) (Q:Tr→Prop):Prop:=match x,y with
  | .int i, .int j => Q (.bl (decide (i < j)))
  | .str i, .str j => Q (.bl (decide (i.cps.toList < j.cps.toList)))
  | _, _ => False
theorem b'N:Op2 K k rLtU wLt:=fun F B H x y tx ty cx cy Q Q' s b z rx ry hx hy hd p q=>by
  unfold wLt at p
  split at p
  · obtain⟨rfl,_⟩:=rx
    obtain⟨rfl,_⟩:=ry
    exact .inl ⟨_,_,rfl,rfl,q _ _ F H [] p (Gr.refl' s) ⟨rfl,rfl⟩ .nil fun _ m=>nomatch m⟩
  · obtain⟨rfl,_⟩:=rx
    obtain⟨rfl,_⟩:=ry
    exact .inr ⟨_,_,rfl,rfl,q _ _ F H [] p (Gr.refl' s) ⟨rfl,rfl⟩ .nil fun _ m=>nomatch m⟩
  · exact p.elim
def wGt (x y:Tr) (Q:Tr→Prop):Prop:=match x,y with
  | .int i, .int j => Q (.bl (decide (j < i)))
  | .str i, .str j => Q (.bl (decide (j.cps.toList < i.cps.toList)))
  | _, _ => False
theorem c'g:Op2 K k rGtU wGt:=fun F B H x y tx ty cx cy Q Q' s b z rx ry hx hy hd p q=>by
  unfold wGt at p
  split at p
  · obtain⟨rfl,_⟩:=rx
    obtain⟨rfl,_⟩:=ry
    exact .inl ⟨_,_,rfl,rfl,q _ _ F H [] p (Gr.refl' s) ⟨rfl,rfl⟩ .nil fun _ m=>nomatch m⟩
  · obtain⟨rfl,_⟩:=rx
    obtain⟨rfl,_⟩:=ry
    exact .inr ⟨_,_,rfl,rfl,q _ _ F H [] p (Gr.refl' s) ⟨rfl,rfl⟩ .nil fun _ m=>nomatch m⟩
  · exact p.elim
theorem l'd:Op2 K k (rI0 fun i j=>.int (i - j)) (wInt2 (fun _ _=>True) fun i j=>.int (i - j)):=o'i fun _ _ _ _=>⟨rfl,rfl⟩
theorem i'V:Op2 K k (rI CDivB fun i j=>.int (i.fdiv j)) (wInt2 CDivB fun i j=>.int (i.fdiv j)):=g'E fun _ _ _ _=>⟨rfl,rfl⟩
theorem l'e:Op2 K k (rI (fun _ j=>0<j) fun i j=>.int (i % j)) (wInt2 (fun _ j=>0<j) fun i j=>.int (i % j)):=g'E fun _ _ _ _=>⟨rfl,rfl⟩
def wNeg (x:Tr) (Q:Tr→Prop):Prop:=match x with
  | .int i => Q (.int (-i))
  | _ => False
theorem l'f:Op1 K k (L2.rU fun i=>.int (-i)) wNeg:=fun F B H x tx cx Q Q' s b z rx hx p q=>by
  unfold wNeg at p
  split at p
  · obtain⟨rfl,_⟩:=rx
    exact⟨_,rfl,q _ _ F H [] p (Gr.refl' s) ⟨rfl,rfl⟩ .nil fun _ m=>nomatch m⟩
  · exact p.elim
def scalT:Tr→Option V
  | .int n => some (.int n) | .bl b => some (.bl b) | .str x => some (.str x) | .non => some .non | _ => none
theorem d'u {t:Tr} {v u:V} {cs:Cs} (r:R K F B t v cs) (h:scalT t=some u):v=u:=by
  cases t with
  | int n => cases h; exact r.1
  | bl n => cases h; exact r.1
  | str n => cases h; exact r.1
  | non => cases h; exact r.1
  | _ => cases h
def wEqS (neg:Bool) (x y:Tr) (Q:Tr→Prop):Prop:=match scalT x,scalT y with
  | some u, some v => scal u v = true ∧ Q (.bl (if neg then !decide (u = v) else decide (u = v)))
  | _, _ => False
theorem l'g:Op2 K k rEq (wEqS false):=fun F B H x y tx ty cx cy Q Q' s b z rx ry hx hy hd p q=>by
  unfold wEqS at p
  split at p
  · rename_i e1 e2
    obtain rfl:=d'u rx e1
    obtain rfl:=d'u ry e2
    exact⟨p.1,q _ _ F H [] p.2 (Gr.refl' s) ⟨rfl,rfl⟩ .nil fun _ m=>nomatch m⟩
  · exact p.elim
theorem l'h:Op2 K k rNe (wEqS true):=fun F B H x y tx ty cx cy Q Q' s b z rx ry hx hy hd p q=>by
  unfold wEqS at p
  split at p
  · rename_i e1 e2
    obtain rfl:=d'u rx e1
    obtain rfl:=d'u ry e2
    exact⟨p.1,q _ _ F H [] p.2 (Gr.refl' s) ⟨rfl,rfl⟩ .nil fun _ m=>nomatch m⟩
  · exact p.elim
def wBl (x:Tr) (Q:Bool→Prop):Prop:=match x with
  | .bl b => Q b
  | _ => False
def pT (pe:PE'):PB':=fun ρ Q=>pe ρ fun x=>wBl x Q
theorem h'C {te:TE} {pe:PE'} (h:Sim K k te pe):SimT K k (tB te) (pT pe):=fun F B H σ ρ Q Q' c p q=>by
  refine h F B H σ ρ _ _ c p fun t v F1 H1 c1 p1 o1=>?_
  unfold wBl at p1
  split at p1
  · obtain⟨rfl,_⟩:=o1.r
    exact⟨_,rfl,q _ F1 H1 p1 o1.g⟩
  · exact p1.elim
theorem h'D {te:TE} {pe:PE'} (h:Sim K k te pe):SimT K k (tTest te) (pT pe):=h'C h
def pAnd (pa pb:PB'):PB':=fun ρ Q=>pa ρ fun c=>if c=true then pb ρ Q else Q false
def pOr (pa pb:PB'):PB':=fun ρ Q=>pa ρ fun c=>if c=true then Q true else pb ρ Q
def pNot (pa:PB'):PB':=fun ρ Q=>pa ρ fun c=>Q (!c)
theorem l'i {ta tb:TT} {pa pb:PB'} (ha:SimT K k ta pa) (hb:SimT K k tb pb):SimT K k (tAnd ta tb) (pAnd pa pb):=fun F B H σ ρ Q Q' c p q=>by
  refine ha F B H σ ρ _ _ c p fun b F1 H1 p1 g1=>?_
  cases b with
  | true => rw [if_pos rfl]; exact hb F1 B H1 σ ρ _ _ (c.gr g1) p1 fun b F2 H2 p2 g2 => q b F2 H2 p2 (g1.trans' g2)
  | false => exact q false F1 H1 p1 g1
theorem o'j {ta tb:TT} {pa pb:PB'} (ha:SimT K k ta pa) (hb:SimT K k tb pb):SimT K k (tOr ta tb) (pOr pa pb):=fun F B H σ ρ Q Q' c p q=>by
  refine ha F B H σ ρ _ _ c p fun b F1 H1 p1 g1=>?_
  cases b with
  | false => exact hb F1 B H1 σ ρ _ _ (c.gr g1) p1 fun b F2 H2 p2 g2 => q b F2 H2 p2 (g1.trans' g2)
  | true => exact q true F1 H1 p1 g1
theorem l'j {ta:TT} {pa:PB'} (ha:SimT K k ta pa):SimT K k (tNot ta) (pNot pa):=fun F B H σ ρ Q Q' c p q=>ha F B H σ ρ _ _ c p fun b F1 H1 p1 g1=>q (!b) F1 H1 p1 g1
def pAndV (pa pb:PE'):PE':=fun ρ Q=>pa ρ fun x=>wBl x fun c=>if c=true then pb ρ Q else Q (.bl false)
def pOrV (pa pb:PE'):PE':=fun ρ Q=>pa ρ fun x=>wBl x fun c=>if c=true then Q (.bl true) else pb ρ Q
def pNotV (pa:PE'):PE':=fun ρ Q=>pa ρ fun x=>wBl x fun c=>Q (.bl (!c))
theorem Out.bl {F1 H1:Hp} {b:Bool} (g:Gr F H F1 H1):Out K F B H F1 H1 (.bl b) (.bl b) []:=⟨g,⟨rfl,rfl⟩,.nil,.nil⟩
theorem Out.tr {F1 H1 F2 H2:Hp} {t:Tr} {v:V} {cs:Cs} (g:Gr F H F1 H1) (o:Out K F1 B H1 F2 H2 t v cs):Out K F B H F2 H2 t v cs:=⟨g.trans' o.g,o.r,o.c,o.n.back g.h⟩
theorem i'W {ta tb:TE} {pa pb:PE'} (ha:Sim K k ta pa) (hb:Sim K k tb pb):Sim K k (tAndV ta tb) (pAndV pa pb):=fun F B H σ ρ Q Q' c p q=>by
  refine ha F B H σ ρ _ _ c p fun t v F1 H1 c1 p1 o1=>?_
  unfold wBl at p1
  split at p1
  · rename_i b
    obtain⟨rfl,_⟩:=o1.r
    refine⟨b,rfl,?_⟩
    cases b with
    | true=>exact hb F1 B H1 σ ρ _ _ (c.gr o1.g) p1 fun t v F2 H2 cs p2 o2=>q t v F2 H2 cs p2 (.tr o1.g o2)
    | false=>exact q _ _ F1 H1 [] p1 (.bl o1.g)
  · exact p1.elim
theorem i'X {ta:TE} {pa:PE'} (ha:Sim K k ta pa):Sim K k (tNotV ta) (pNotV pa):=fun F B H σ ρ Q Q' c p q=>by
  refine ha F B H σ ρ _ _ c p fun t v F1 H1 c1 p1 o1=>?_
  unfold wBl at p1
  split at p1
  · obtain⟨rfl,_⟩:=o1.r
    exact⟨_,rfl,q _ _ F1 H1 [] p1 (.bl o1.g)⟩
  · exact p1.elim
def pIf (pc:PB') (pa pb:PE'):PE':=fun ρ Q=>pc ρ fun c=>if c=true then pa ρ Q else pb ρ Q
theorem l'k {tc:TT} {ta tb:TE} {pc:PB'} {pa pb:PE'} (hc:SimT K k tc pc) (ha:Sim K k ta pa) (hb:Sim K k tb pb):Sim K k (tIf tc ta tb) (pIf pc pa pb):=fun F B H σ ρ Q Q' c p q=>by
  refine hc F B H σ ρ _ _ c p fun b F1 H1 p1 g1=>?_
  cases b with
  | true => rw [if_pos rfl] at p1 ⊢; exact ha F1 B H1 σ ρ _ _ (c.gr g1) p1 fun t v F2 H2 cs p2 o2 => q t v F2 H2 cs p2 (.tr g1 o2)
  | false => rw [if_neg (by decide)] at p1 ⊢; exact hb F1 B H1 σ ρ _ _ (c.gr g1) p1 fun t v F2 H2 cs p2 o2 => q t v F2 H2 cs p2 (.tr g1 o2)
end
end Pu
namespace Pu
open PySem L2 Vc Sf
section
variable {K:PySem.W.Frag} {F F' H H':Hp} {B B':Bool→Hp} {k:Md}
mutual
theorem R.low:∀ (t:Tr) {v:V} {cs:Cs},nlt t=true→B false=B' false→R K F B t v cs→R K F B' t v cs
  | .int _, _, _, _, _, h => h
  | .bl _, _, _, _, _, h => h
  | .str _, _, _, _, _, h => h
  | .non, _, _, _, _, h => h
  | .hole, _, _, _, _, h => h
  | .ty _, _, _, _, _, h => h
  | .cl _, _, _, _, _, h => h
  | .exc _, _, _, _, _, h => h
  | .tup xs, _, _, n, e, ⟨a, vs, h1, h2, h3⟩ => ⟨a, vs, h1, h2, Rs.low xs n e h3⟩
  | .lst .f xs, _, _, n, e, ⟨z, a, vs, h1, h2, h3⟩ => ⟨z, a, vs, h1, h2, Rs.low xs n e h3⟩
  | .lst (.l true) xs, _, _, n, _, _ => by cases n
  | .lst (.l false) xs, _, _, n, e, ⟨z, a, vs, h1, h2, h3⟩ => ⟨z, a, vs, h1, by rw [← e]; exact h2, Rs.low xs n e h3⟩
  | .lst .o xs, _, _, n, e, ⟨a, vs, ds, h1, h2, h3⟩ => ⟨a, vs, ds, h1, h2, Rs.low xs n e h3⟩
  | .dic .f xs, _, _, n, e, ⟨z, a, vs, h1, h2, h3, h4⟩ => ⟨z, a, vs, h1, h2, Rk.low xs n e h3, h4⟩
  | .dic (.l true) xs, _, _, n, _, _ => by cases n
  | .dic (.l false) xs, _, _, n, e, ⟨z, a, vs, h1, h2, h3, h4⟩ => ⟨z, a, vs, h1, by rw [← e]; exact h2, Rk.low xs n e h3, h4⟩
  | .dic .o xs, _, _, n, e, ⟨a, vs, ds, h1, h2, h3, h4⟩ => ⟨a, vs, ds, h1, h2, Rk.low xs n e h3, h4⟩
  | .ins .f _ xs, _, _, n, e, ⟨z, a, dx, vs, h1, h2, h3⟩ => ⟨z, a, dx, vs, h1, h2, Rf.low xs n e h3⟩
  | .ins (.l true) _ xs, _, _, n, _, _ => by cases n
  | .ins (.l false) _ xs, _, _, n, e, ⟨z, a, dx, vs, h1, h2, h3⟩ => ⟨z, a, dx, vs, h1, by rw [← e]; exact h2, Rf.low xs n e h3⟩
  | .ins .o _ xs, _, _, n, e, ⟨a, dx, vs, ds, h1, h2, h3⟩ => ⟨a, dx, vs, ds, h1, h2, Rf.low xs n e h3⟩
theorem Rs.low:∀ (t:List Tr) {v:List V} {cs:Cs},nlts t=true→B false=B' false→Rs K F B t v cs→Rs K F B' t v cs
  | [], _, _, _, _, h => h
  | x :: xs, _, _, n, e, ⟨v, r, c, d, h1, h2, h3, h4⟩ => by
    rw [nlts,Bool.and_eq_true] at n
    exact⟨v,r,c,d,h1,h2,R.low x n.1 e h3,Rs.low xs n.2 e h4⟩
theorem Rk.low:∀ (t:List (Key×Tr)) {v:List (Key×V)} {cs:Cs},nltk t=true→B false=B' false→Rk K F B t v cs→Rk K F B' t v cs
  | [], _, _, _, _, h => h
  | (_, x) :: xs, _, _, n, e, ⟨v, r, c, d, h1, h2, h3, h4⟩ => by
    rw [nltk,Bool.and_eq_true] at n
    exact⟨v,r,c,d,h1,h2,R.low x n.1 e h3,Rk.low xs n.2 e h4⟩
theorem Rf.low:∀ (t:List (Str×Tr)) {v:List (Str×V)} {cs:Cs},nltf t=true→B false=B' false→Rf K F B t v cs→Rf K F B' t v cs
  | [], _, _, _, _, h => h
  | (_, x) :: xs, _, _, n, e, ⟨v, r, c, d, h1, h2, h3, h4⟩ => by
    rw [nltf,Bool.and_eq_true] at n
    exact⟨v,r,c,d,h1,h2,R.low x n.1 e h3,Rf.low xs n.2 e h4⟩
end
mutual
/-- what is lent is lent to the callee -/
theorem R.dn {G:Hp} (b:∀ k,Le (B k) G):∀ (t:Tr) {v:V} {cs:Cs},R K F B t v cs→R K F (fun _=>G) (dn t) v cs
  | .int _, _, _, h => h
  | .bl _, _, _, h => h
  | .str _, _, _, h => h
  | .non, _, _, h => h
  | .hole, _, _, h => h
  | .ty _, _, _, h => h
  | .cl _, _, _, h => h
  | .exc _, _, _, h => h
  | .tup xs, _, _, ⟨a, vs, h1, h2, h3⟩ => ⟨a, vs, h1, h2, Rs.dn b xs h3⟩
  | .lst .f xs, _, _, ⟨z, a, vs, h1, h2, h3⟩ => ⟨z, a, vs, h1, h2, Rs.dn b xs h3⟩
  | .lst (.l k) xs, _, _, ⟨z, a, vs, h1, h2, h3⟩ => ⟨z, a, vs, h1, (b k).lst h2, Rs.dn b xs h3⟩
  | .lst .o xs, _, _, ⟨a, vs, ds, h1, h2, h3⟩ => ⟨a, vs, ds, h1, h2, Rs.dn b xs h3⟩
  | .dic .f xs, _, _, ⟨z, a, vs, h1, h2, h3, h4⟩ => ⟨z, a, vs, h1, h2, Rk.dn b xs h3, by rw [dnk_keys]; exact h4⟩
  | .dic (.l k) xs, _, _, ⟨z, a, vs, h1, h2, h3, h4⟩ => ⟨z, a, vs, h1, (b k).dic h2, Rk.dn b xs h3, by rw [dnk_keys]; exact h4⟩
  | .dic .o xs, _, _, ⟨a, vs, ds, h1, h2, h3, h4⟩ => ⟨a, vs, ds, h1, h2, Rk.dn b xs h3, by rw [dnk_keys]; exact h4⟩
  | .ins .f _ xs, _, _, ⟨z, a, dx, vs, h1, h2, h3⟩ => ⟨z, a, dx, vs, h1, h2, Rf.dn b xs h3⟩
  | .ins (.l k) _ xs, _, _, ⟨z, a, dx, vs, h1, h2, h3⟩ => ⟨z, a, dx, vs, h1, b k _ _ (by intro _ _ z; cases z) h2, Rf.dn b xs h3⟩
  | .ins .o _ xs, _, _, ⟨a, dx, vs, ds, h1, h2, h3⟩ => ⟨a, dx, vs, ds, h1, h2, Rf.dn b xs h3⟩
theorem Rs.dn {G:Hp} (b:∀ k,Le (B k) G):∀ (t:List Tr) {v:List V} {cs:Cs},Rs K F B t v cs→Rs K F (fun _=>G) (dns t) v cs
  | [], _, _, h => h
  | x :: xs, _, _, ⟨v, r, c, d, h1, h2, h3, h4⟩ => ⟨v, r, c, d, h1, h2, R.dn b x h3, Rs.dn b xs h4⟩
theorem Rk.dn {G:Hp} (b:∀ k,Le (B k) G):∀ (t:List (Key×Tr)) {v:List (Key×V)} {cs:Cs},Rk K F B t v cs→Rk K F (fun _=>G) (dnk t) v cs
  | [], _, _, h => h
  | (_, x) :: xs, _, _, ⟨v, r, c, d, h1, h2, h3, h4⟩ => ⟨v, r, c, d, h1, h2, R.dn b x h3, Rk.dn b xs h4⟩
theorem Rf.dn {G:Hp} (b:∀ k,Le (B k) G):∀ (t:List (Str×Tr)) {v:List (Str×V)} {cs:Cs},Rf K F B t v cs→Rf K F (fun _=>G) (dnf t) v cs
  | [], _, _, h => h
  | (_, x) :: xs, _, _, ⟨v, r, c, d, h1, h2, h3, h4⟩ => ⟨v, r, c, d, h1, h2, R.dn b x h3, Rf.dn b xs h4⟩
theorem dnk_keys:∀ (xs:List (Key×Tr)),(dnk xs).map (·.1)=xs.map (·.1)
  | [] => rfl
  | (_, _) :: xs => by show _ :: _ = _ :: _; rw [dnk_keys xs]
end
theorem b'I:∀ (xs:List Tr),(dns xs).length=xs.length
  | [] => rfl
  | _ :: xs => by show (dns xs).length + 1 = _; rw [b'I xs]; rfl
end
structure Wld (K:PySem.W.Frag) (k:Md) (lo:Nat) (us:List V) (Fb Hb F H:Hp) (σ:St) (ρ:List Tr) (cs:Nat→Cs):Prop where
  g:Gr Fb Hb F H
  z:k.z=true→Fz S0 F
  l:σ.length=ρ.length
  e:∀ (i:Nat) (t:Tr),ρ[i]?=some t→t=.hole∨∃ v,σ[i]?=some (some v)∧R K F (fun _=>Hb) t v (cs i)
  c:∀ i,Cells F H (cs i)
  n:∀ i,New Hb (cs i)
  d:∀ i j,i≠j→∀ p∈cs i,∀ q∈cs j,p.1≠q.1
  p:∀ i,i<lo→σ[i]?=(us[i]?).map some
  x:∀ cls σ' F' H',k.q cls→Gr Fb Hb F' H'→k.E σ' cls none H'
section
variable {K:PySem.W.Frag} {k:Md} {lo:Nat} {us:List V} {Fb Hb F H F' H':Hp} {σ:St} {ρ:List Tr} {cs:Nat→Cs}
def Bq (Hb H:Hp):Bool→Hp:=fun b=>if b then H else Hb
theorem Wld.cxt (W:Wld K k lo us Fb Hb F H σ ρ cs):Cxt K k F (Bq Hb H) H σ (ρ.map lend) where
  s:=W.g.s
  b:=fun b=>by
    cases b with
    | true=>exact Same.refl H
    | false=>exact W.g.h
  z:=W.z
  e:=fun i t h=>by
    rw [List.getElem?_map] at h
    cases q:ρ[i]? with
    | none=>rw [q] at h;cases h
    | some u=>
      rw [q] at h
      cases h
      rcases W.e i u q with rfl | ⟨v,h1,h2⟩
      · exact .inl rfl
      · refine .inr ⟨v,h1,h2.lend (fun b=>?_) u fun p m=>(W.c i).h p m⟩
        cases b with
        | true=>exact Le.of W.g.h
        | false=>exact Le.refl _
  x:=fun cls F' H' q g=>W.x cls σ F' H' q (W.g.trans' g)
theorem Wld.gr (W:Wld K k lo us Fb Hb F H σ ρ cs) (g:Gr F H F' H'):Wld K k lo us Fb Hb F' H' σ ρ cs:=
  ⟨W.g.trans' g,fun h=>g.fz (W.z h),W.l,fun i t h=>(W.e i t h).imp id fun ⟨v,h1,h2⟩=>⟨v,h1,h2.mo g.le (fun _=>Le.refl _) t⟩,fun i=>(W.c i).gr g,W.n,W.d,W.p,W.x⟩
theorem Wld.set {i:Nat} {t:Tr} {v:V} {c:Cs} (W:Wld K k lo us Fb Hb F H σ ρ cs) (hi:lo≤i) (r:R K F (fun _=>Hb) t v c) (hc:Cells F H c) (n:New Hb c) (d:∀ j,j≠i→∀ p∈cs j,∀ q∈c,p.1≠q.1) :
    Wld K k lo us Fb Hb F H (σ.set i (some v)) (ρ.set i t) (fun j=>if j=i then c else cs j) where
  g:=W.g
  z:=W.z
  l:=by rw [List.length_set,List.length_set];exact W.l
  e:=fun j u h=>by
    by_cases e:j=i
    · subst e
      have hl:j<ρ.length:=by have:=(List.getElem?_eq_some_iff.mp h).1;rw [List.length_set] at this;exact this
      rw [List.getElem?_set_self hl] at h
      cases h
      exact .inr ⟨v,List.getElem?_set_self (by rw [W.l];exact hl),by rw [if_pos rfl];exact r⟩
    · rw [List.getElem?_set_ne (fun z=>e z.symm)] at h
      rw [if_neg e]
      exact (W.e j u h).imp id fun ⟨v,h1,h2⟩=>⟨v,by rw [List.getElem?_set_ne (fun z=>e z.symm)];exact h1,h2⟩
  c:=fun j=>by
    split
    · exact hc
    · exact W.c j
  n:=fun j=>by
    split
    · exact n
    · exact W.n j
  d:=fun a b ne p mp q mq=>by
    by_cases ea:a=i
    · rw [if_pos ea] at mp
      rw [if_neg (fun z=>ne (ea.trans z.symm))] at mq
      exact (d b (fun z=>ne (ea.trans z.symm)) q mq p mp).symm
    · rw [if_neg ea] at mp
      by_cases eb:b=i
      · rw [if_pos eb] at mq
        exact d a ea p mp q mq
      · rw [if_neg eb] at mq
        exact W.d a b ne p mp q mq
  p:=fun j h=>by rw [List.getElem?_set_ne (by omega)];exact W.p j h
  x:=W.x
theorem Wld.out {i:Nat} {t:Tr} {v:V} {c:Cs} (W:Wld K k lo us Fb Hb F H σ ρ cs) (o:Out K F (Bq Hb H) H F' H' t v c) (hi:lo≤i) (n:nlt t=true) :
    Wld K k lo us Fb Hb F' H' (σ.set i (some v)) (ρ.set i t) (fun j=>if j=i then c else cs j):=
  (W.gr o.g).set hi (o.r.low t n rfl) o.c (fun p m=>W.g.h.free (o.n p m)) fun j _ p mp q mq e=>by
    have:=(W.c j).h p mp
    rw [e,o.n q mq] at this
    cases this
end
structure Pd where
  nx:List Tr→Prop
  rt:Tr→List Tr→Prop
  bk:List Tr→Prop:=fun _=>False
  ct:List Tr→Prop:=fun _=>False
abbrev PS':=Pd→List Tr→Prop
structure Lk (K:PySem.W.Frag) (k:Md) (lo:Nat) (us:List V) (Fb Hb:Hp) (D:Ends) (D':Pd):Prop where
  nx:∀ F H σ ρ cs,Wld K k lo us Fb Hb F H σ ρ cs→D'.nx ρ→D.nx σ H
  rt:∀ F H σ ρ cs v t c,Wld K k lo us Fb Hb F H σ ρ cs→R K F (fun _=>Hb) t v c→Cells F H c→New Hb c→(∀ i,∀ p∈cs i,∀ q∈c,p.1≠q.1)→nol t=true→D'.rt t ρ→D.rt v H
  bk:∀ F H σ ρ cs,Wld K k lo us Fb Hb F H σ ρ cs→D'.bk ρ→D.bk σ H
  ct:∀ F H σ ρ cs,Wld K k lo us Fb Hb F H σ ρ cs→D'.ct ρ→D.ct σ H
def SimS (K:PySem.W.Frag) (k:Md) (lo:Nat) (ts:TS) (ps:PS'):Prop:=∀ (us:List V) (Fb Hb F H:Hp) (σ:St) (ρ:List Tr) (cs:Nat→Cs) (D:Ends) (D':Pd),Wld K k lo us Fb Hb F H σ ρ cs→ps D' ρ→Lk K k lo us Fb Hb D D'→ts D σ H
section
variable {K:PySem.W.Frag} {k:Md} {lo:Nat}
def pSeq (p q:PS'):PS':=fun D ρ=>p { D with nx:=q D } ρ
def pNext:PS':=fun D ρ=>D.nx ρ
theorem l'l {t u:TS} {p q:PS'} (h:SimS K k lo t p) (h':SimS K k lo u q):SimS K k lo (tSeq t u) (pSeq p q):=fun us Fb Hb F H σ ρ cs D D' W p L=>
  h us Fb Hb F H σ ρ cs _ _ W p ⟨fun F H σ ρ cs W q=>h' us Fb Hb F H σ ρ cs D D' W q L,L.rt,L.bk,L.ct⟩
theorem i'Y:SimS K k lo tNext pNext:=fun us Fb Hb F H σ ρ cs D D' W p L=>L.nx F H σ ρ cs W p
def pBrk:PS':=fun D ρ=>D.bk ρ
def pCnt:PS':=fun D ρ=>D.ct ρ
def pAsg (i:Nat) (pe:PE'):PS':=fun D ρ=>pe (ρ.map lend) fun t=>nlt t=true∧D.nx (ρ.set i t)
theorem f'Z {i:Nat} {te:TE} {pe:PE'} (hi:lo≤i) (h:Sim K k te pe):SimS K k lo (tAsg te (gName i)) (pAsg i pe):=fun us Fb Hb F H σ ρ cs D D' W p L=>by
  refine h F (Bq Hb H) H σ _ _ _ W.cxt p fun t v F1 H1 c q o=>?_
  exact L.nx F1 H1 _ _ _ (W.out o hi q.1) q.2
def pDrop (pe:PE'):PS':=fun D ρ=>pe (ρ.map lend) fun _=>D.nx ρ
def pRet (pe:PE'):PS':=fun D ρ=>pe (ρ.map lend) fun t=>nol t=true∧D.rt t ρ
theorem l'm {te:TE} {pe:PE'} (h:Sim K k te pe):SimS K k lo (tRet te) (pRet pe):=fun us Fb Hb F H σ ρ cs D D' W p L=>by
  refine h F (Bq Hb H) H σ _ _ _ W.cxt p fun t v F1 H1 c q o=>?_
  refine L.rt F1 H1 σ ρ cs v t c (W.gr o.g) (o.r.base t q.1) o.c (fun p m=>W.g.h.free (o.n p m)) (fun i p mp q mq e=>?_) q.1 q.2
  have:=(W.c i).h p mp
  rw [e,o.n q mq] at this
  cases this
def pIfS (pc:PB') (p q:PS'):PS':=fun D ρ=>pc (ρ.map lend) fun b=>if b=true then p D ρ else q D ρ
theorem o'k {tc:TT} {t u:TS} {pc:PB'} {p q:PS'} (hc:SimT K k tc pc) (h:SimS K k lo t p) (h':SimS K k lo u q):SimS K k lo (tIfS tc t u) (pIfS pc p q):=fun us Fb Hb F H σ ρ cs D D' W p L=>by
  refine hc F (Bq Hb H) H σ _ _ _ W.cxt p fun b F1 H1 q g=>?_
  cases b with
  | true => exact h us Fb Hb F1 H1 σ ρ cs D D' (W.gr g) q L
  | false => exact h' us Fb Hb F1 H1 σ ρ cs D D' (W.gr g) q L
def pWhl (pc:PB') (pb:PS'):PS':=fun D ρ=>∃ I:Nat→List Tr→Prop,(∃ m,I m ρ)∧∀ m ρ,I m ρ→pc (ρ.map lend) fun b=>if b=true then pb { D with nx:=fun ρ'=>∃ m',m'<m∧I m' ρ',ct:=fun ρ'=>∃ m',m'<m∧I m' ρ',bk:=D.nx } ρ else D.nx ρ
theorem l'n {tc:TT} {tb:TS} {pc:PB'} {pb:PS'} (hc:SimT K k tc pc) (hb:SimS K k lo tb pb):SimS K k lo (tWhile tc tb) (pWhl pc pb):=fun us Fb Hb F H σ ρ cs D D' W p L=>by
  obtain⟨I,⟨m0,i0⟩,step⟩:=p
  refine⟨fun m σ H=>∃ F ρ cs,Wld K k lo us Fb Hb F H σ ρ cs∧I m ρ,⟨m0,F,ρ,cs,W,i0⟩,?_⟩
  rintro m σ H ⟨F,ρ,cs,W,i⟩
  refine hc F (Bq Hb H) H σ _ _ _ W.cxt (step m ρ i) fun b F1 H1 q g=>?_
  cases b with
  | false => exact L.nx F1 H1 σ ρ cs (W.gr g) q
  | true =>
    refine⟨fun σ' H'=>∃ m',m'<m∧∃ F ρ cs,Wld K k lo us Fb Hb F H' σ' ρ cs∧I m' ρ,fun σ' H' h=>h,?_⟩
    refine hb us Fb Hb F1 H1 σ ρ cs _ _ (W.gr g) q ⟨?_,L.rt,?_,?_⟩
    · exact fun F H σ ρ cs W ⟨m',l,i⟩=>⟨m',l,F,ρ,cs,W,i⟩
    · exact L.nx
    · exact fun F H σ ρ cs W ⟨m',l,i⟩=>⟨m',l,F,ρ,cs,W,i⟩
end
end Pu
namespace Pu
open PySem L2 Vc Sf
abbrev PSp:=List Tr→(Tr→List Tr→Prop)→Prop
abbrev PSpX:=List Tr→(Tr→List Tr→Prop)→(Value→Prop)→Prop
def spX (K:PySem.W.Frag) (z:Bool) (lo n:Nat) (ps:PSpX):Sp:=fun vs H Q E=>vs.length=n∧∃ (F Hb:Hp) (ts:List Tr) (cs:Nat→Cs) (Q':Tr→List Tr→Prop) (q:Value→Prop),Wld K ⟨z,fun _=>E,q⟩ lo vs F Hb F H (vs.map some) ts cs∧ps ts Q' q∧
  ∀ F' H' σ' ρ' cs' v t c,Wld K ⟨z,fun _=>E,q⟩ lo vs F Hb F' H' σ' ρ' cs'→R K F' (fun _=>Hb) t v c→Cells F' H' c→New Hb c→(∀ i,∀ p∈cs' i,∀ q∈c,p.1≠q.1)→nol t=true→Q' t ρ'→Q v H'
def spP (K:PySem.W.Frag) (z:Bool) (lo n:Nat) (ps:PSp):Sp:=spX K z lo n fun xs Q _=>ps xs Q
theorem Wld.md {K:PySem.W.Frag} {k k':Md} {lo:Nat} {us:List V} {Fb Hb F H:Hp} {σ:St} {ρ:List Tr} {cs:Nat→Cs} (W:Wld K k lo us Fb Hb F H σ ρ cs) (hz:k'.z=true→k.z=true) (x:∀ cls σ' F' H',k'.q cls→Gr Fb Hb F' H'→k'.E σ' cls none H'):Wld K k' lo us Fb Hb F H σ ρ cs:=⟨W.g,fun h=>W.z (hz h),W.l,W.e,W.c,W.n,W.d,W.p,x⟩
section
variable {K:PySem.W.Frag} {k:Md} {lo:Nat} {us:List V} {Fb Hb F H F' H':Hp} {σ:St} {ρ:List Tr} {cs:Nat→Cs}
theorem Wld.start {vs:List V} (N:List Str) (hlo:lo≤vs.length) (W:Wld K k lo us Fb Hb F H (vs.map some) ρ cs):Wld K k lo us Fb Hb F H (start N vs) (ρ++List.replicate (N.length - ρ.length) .hole) cs where
  g:=W.g
  z:=W.z
  l:=by
    have:=W.l
    rw [List.length_map] at this
    show (vs.map some++List.replicate (N.length - vs.length) none).length=_
    rw [List.length_append,List.length_append,List.length_replicate,List.length_replicate,List.length_map,this]
  e:=fun i t h=>by
    have hl:=W.l
    rcases Nat.lt_or_ge i ρ.length with z | z
    · rw [List.getElem?_append_left z] at h
      exact (W.e i t h).imp id fun ⟨v,h1,h2⟩=>⟨v,by show (vs.map some++List.replicate (N.length - vs.length) none)[i]?=_;rw [List.getElem?_append_left (by rw [hl];exact z)];exact h1,h2⟩
    · rw [List.getElem?_append_right z] at h
      have m:=List.mem_of_getElem? h
      exact .inl (List.mem_replicate.mp m).2
  c:=W.c
  n:=W.n
  d:=W.d
  p:=fun i h=>by
    have e:=W.p i h
    show (vs.map some++List.replicate (N.length - vs.length) none)[i]?=_
    rw [List.getElem?_append_left (by rw [List.length_map];omega)];exact e
  x:=W.x
end
theorem Rs.split {K:PySem.W.Frag} {F H:Hp} {B:Bool→Hp}:∀ {ts:List Tr} {vs:List V} {c:Cs},Rs K F B ts vs c→Cells F H c→∃ cs:Nat→Cs,(∀ (i:Nat) (t:Tr),ts[i]?=some t→∃ v,vs[i]?=some v∧R K F B t v (cs i))∧(∀ i,∀ p∈cs i,p∈c)∧(∀ i,Cells F H (cs i))∧∀ i j,i≠j→∀ p∈cs i,∀ q∈cs j,p.1≠q.1
  | [], _, _, _, _ => ⟨fun _ => [], fun i t h => (by cases h), fun _ _ m => (nomatch m), fun _ => .nil, fun _ _ _ _ m => nomatch m⟩
  | x :: xs, _, _, ⟨v, r, c, d, h1, h2, h3, h4⟩, hc => by
    rw [h2] at hc
    obtain⟨cs,a1,a2,a3,a4⟩:=Rs.split h4 hc.right
    have dj:∀ p∈c,∀ q∈d,p.1≠q.1:=fun p mp q mq=>by
      have:=hc.nd
      rw [List.map_append,List.nodup_append] at this
      exact this.2.2 _ (List.mem_map.mpr ⟨p,mp,rfl⟩) _ (List.mem_map.mpr ⟨q,mq,rfl⟩)
    refine⟨fun i=>match i with | 0=>c | j+1=>cs j,fun i t h=>?_,fun i p m=>?_,fun i=>?_,fun i j ne p mp q mq=>?_⟩
    · cases i with
      | zero=>cases h;exact⟨v,by rw [h1];rfl,h3⟩
      | succ j=>obtain⟨u,b1,b2⟩:=a1 j t h;exact⟨u,by rw [h1];exact b1,b2⟩
    · rw [h2]
      cases i with
      | zero=>exact List.mem_append.mpr (.inl m)
      | succ j=>exact List.mem_append.mpr (.inr (a2 j p m))
    · cases i with
      | zero=>exact hc.left
      | succ j=>exact a3 j
    · cases i with
      | zero=>
        cases j with
        | zero=>exact absurd rfl ne
        | succ j=>exact dj p mp q (a2 j q mq)
      | succ i=>
        cases j with
        | zero=>exact (dj q mq p (a2 i p mp)).symm
        | succ j=>exact a4 i j (fun z=>ne (by rw [z])) p mp q mq
section
variable {P:Program} {w:World} {K:PySem.W.Frag} {mg:Str→Option Value} {base:Heap}
theorem l'o {z:Bool} {lo:Nat} {x qual:Str} {st:Stmt} {f:Addr} {fd:FuncData} {N ps:List Str} {m n:Nat} {psp:PSp} (F:Fun K x qual st f fd) (S:FnScope N ps (defScope st)) (hn:ps.length=n) (hlo:lo≤n)
    (body:∀ (cdv:Value) (A:Around) (outer:List Env) (s:Shared) (H:Hp) (E:XK),Room m (A.deeper (PyProof.Rows.envOfC qual (defScope st) s.heap.objs.size f cdv))→
      ∃ ts pb,PSs (cxOf CX0 P w K mg base N qual (defScope st) f cdv A outer s H E).nox (defBody st) ts∧SimS K (Md.base z) lo ts pb∧∀ xs Q',xs.length=n→psp xs Q'→pb { nx:=fun ρ=>Q' .non ρ,rt:=Q' } (xs++List.replicate (N.length - n) .hole)) :
    FnOk P w K mg base CX0 (m+1) f fd ps (spP K z lo n psp):=by
  refine F.ok S (fun vs H Q E h=>h.1.trans hn.symm) (fun cdv A outer s H vs Q E hr h=>?_)
  obtain⟨hl,F0,Hb,ts,cs,Q',q,W,p,post⟩:=h
  obtain⟨tS,pb,hP,hS,hp⟩:=body cdv A outer s H E hr
  have hlt:ts.length=n:=by have:=W.l;rw [List.length_map] at this;omega
  refine⟨tS,hP,hS vs F0 Hb F0 H _ _ cs _ { nx:=fun ρ=>Q' .non ρ,rt:=Q' } ((W.start N (by omega)).md id fun _ _ _ _ h=>h.elim) (by rw [hlt];exact hp ts Q' hlt p) ⟨?_,?_,fun _ _ _ _ _ _ (h:False)=>h.elim,fun _ _ _ _ _ _ (h:False)=>h.elim⟩⟩
  · exact fun F H σ ρ cs W' q=>post F H σ ρ cs .non .non [] (W'.md id W.x) ⟨rfl,rfl⟩ .nil .nil (fun _ _ _ _ m=>nomatch m) rfl q
  · exact fun F H σ ρ cs v t c W' r hc n d nl q=>post F H σ ρ cs v t c (W'.md id W.x) r hc n d nl q
theorem i'Z {z:Bool} {lo:Nat} {x qual:Str} {st:Stmt} {f:Addr} {fd:FuncData} {N ps:List Str} {m n:Nat} {psp:PSpX} (F:Fun K x qual st f fd) (S:FnScope N ps (defScope st)) (hn:ps.length=n) (hlo:lo≤n)
    (body:∀ (cdv:Value) (A:Around) (outer:List Env) (s:Shared) (H:Hp) (E:XK) (q:Value→Prop),Room m (A.deeper (PyProof.Rows.envOfC qual (defScope st) s.heap.objs.size f cdv))→
      ∃ ts pb,PSs (cxOf (CX1 P w) P w K mg base N qual (defScope st) f cdv A outer s H E) (defBody st) ts∧SimS K ⟨z,fun _=>E,q⟩ lo ts pb∧∀ xs Q',xs.length=n→psp xs Q' q→pb { nx:=fun ρ=>Q' .non ρ,rt:=Q' } (xs++List.replicate (N.length - n) .hole)) :
    FnOk P w K mg base (CX1 P w) (m+1) f fd ps (spX K z lo n psp):=by
  refine F.ok1 S (fun vs H Q E h=>h.1.trans hn.symm) (fun cdv A outer s H vs Q E hr h=>?_)
  obtain⟨hl,F0,Hb,ts,cs,Q',q,W,p,post⟩:=h
  obtain⟨tS,pb,hP,hS,hp⟩:=body cdv A outer s H E q hr
  have hlt:ts.length=n:=by have:=W.l;rw [List.length_map] at this;omega
  refine⟨tS,hP,hS vs F0 Hb F0 H _ _ cs _ { nx:=fun ρ=>Q' .non ρ,rt:=Q' } (W.start N (by omega)) (by rw [hlt];exact hp ts Q' hlt p) ⟨?_,?_,fun _ _ _ _ _ _ (h:False)=>h.elim,fun _ _ _ _ _ _ (h:False)=>h.elim⟩⟩
  · exact fun F H σ ρ cs W' q=>post F H σ ρ cs .non .non [] W' ⟨rfl,rfl⟩ .nil .nil (fun _ _ _ _ m=>nomatch m) rfl q
  · exact fun F H σ ρ cs v t c W' r hc n d nl q=>post F H σ ρ cs v t c W' r hc n d nl q
end
section
variable {K:PySem.W.Frag} {k k':Md} {F F' H H' H1 F1:Hp}
theorem h'E {c:Cs} {p:Addr×HO} (m:p∈c):hdn (c.map (·.1)) H p.1=none:=o'd (List.mem_map.mpr ⟨p,m,rfl⟩)
theorem g'a {c:Cs} {a:Addr} {o:HO} (n:New H c) (h:H a=some o):a ∉ c.map (·.1):=fun m=>by
  obtain⟨p,mp,rfl⟩:=List.mem_map.mp m
  rw [n p mp] at h
  cases h
theorem _root_.Vc.Gr.hdn {c:Cs} (g:Gr F H F1 H1) (n:New H c) (g':Gr F1 (hdn (c.map (·.1)) H1) F' H'):Gr F H F' H':=
  Gr.of ⟨fun a u e=>g'.h a u (h'B (g'a n e) (g.h a u e)),g.f.trans g'.f,g'.s,fun a u e z=>by
    cases q:F1 a with
    | some y=>exact g.n a y q z
    | none=>
      have h:=g'.n a u e q
      by_cases m:a∈c.map (·.1)
      · obtain⟨p,mp,rfl⟩:=List.mem_map.mp m
        exact n p mp
      · unfold Vc.hdn at h
        rw [if_neg m] at h
        exact g.h.free h⟩ (g'.fz g.z)
def pCallX (q:Value→Prop) (psp:PSpX) (pa:PA'):PE':=fun ρ Q=>pa ρ fun ts=>psp (dns ts) (fun t _=>Q t) q
def pCall (psp:PSp) (pa:PA'):PE':=fun ρ Q=>pa ρ fun ts=>psp (dns ts) fun t _=>Q t
theorem e'd {n:Nat} {z:Bool} {psp:PSpX} {ta:TA} {pa:PA'} {R':St→XK} {q':Value→Prop} (hE:∀ (F:Hp) (B:Bool→Hp) (H:Hp) (σ:St) (ρ:List Tr),Cxt K k F B H σ ρ→∀ cls F' H',q' cls→Gr F H F' H'→R' σ cls none H') (hk:z=true→k.z=true) (hn:∀ xs Q q,psp xs Q q→xs.length=n) (h:SimA K k ta pa):Sim K k (tCallX (spX K z 0 n psp) [] R' ta) (pCallX q' psp pa):=fun F B H σ ρ Q Q' c p q=>by
  refine h F B H σ ρ _ _ c p fun ts vs F1 H1 c1 p1 o1=>?_
  rw [List.append_nil]
  obtain⟨cs,a1,a2,a3,a4⟩:=o1.r.split o1.c
  have hl:vs.length=n:=by rw [o1.r.length,← hn _ _ _ p1,b'I]
  have hb:∀ k,Same (B k) (hdn (c1.map (·.1)) H1):=fun k a o e=>h'B (g'a o1.n (c.b k a o e)) (o1.g.h _ _ (c.b k a o e))
  refine⟨hl,F1,hdn (c1.map (·.1)) H1,dns ts,cs,_,q',⟨⟨o'e o1.g.s,Fz.refl F1⟩,fun h=>o1.g.fz (c.z (hk h)),by rw [List.length_map,b'I,o1.r.length],?_,a3,fun i p m=>h'E (a2 i p m),a4,fun i h=>absurd h (Nat.not_lt_zero i),fun cls _ F' H' h g=>hE F B H σ ρ c cls F' H' h (o1.g.hdn o1.n g)⟩,p1,?_⟩
  · intro i t h
    have hi:i<ts.length:=by have:=(List.getElem?_eq_some_iff.mp h).1;rw [b'I] at this;exact this
    have e:∀ (ts:List Tr) (i:Nat),(dns ts)[i]?=ts[i]?.map dn:=by
      intro ts
      induction ts with
      | nil=>intro i;rfl
      | cons x xs ih=>intro i;cases i with
        | zero=>rfl
        | succ j=>exact ih j
    rw [e] at h
    cases z:ts[i]? with
    | none=>rw [z] at h;cases h
    | some u=>
      rw [z] at h
      cases h
      obtain⟨v,b1,b2⟩:=a1 i u z
      exact .inr ⟨v,by rw [List.getElem?_map,b1];rfl,b2.dn (fun k=>Le.of (hb k)) u⟩
  · intro F' H' σ' ρ' cs' v t c' W r hc nw dj nl qt
    refine q t v F' H' c' qt ⟨o1.g.hdn o1.n W.g,r.base t nl,hc,fun p m=>?_⟩
    have z:=nw p m
    by_cases mc:p.1∈c1.map (·.1)
    · obtain⟨q,mq,e⟩:=List.mem_map.mp mc
      have e:q.1=p.1:=e
      rw [← e]
      exact o1.n q mq
    · unfold hdn at z
      rw [if_neg mc] at z
      exact o1.g.h.free z
theorem j'a {n:Nat} {z:Bool} {psp:PSp} {ta:TA} {pa:PA'} {E:XK} (hk:z=true→k.z=true) (hn:∀ xs Q,psp xs Q→xs.length=n) (h:SimA K k ta pa):Sim K k (tCall (spP K z 0 n psp) [] E ta) (pCall psp pa):=
  e'd (R':=fun _=>E) (q':=fun _=>False) (psp:=fun xs Q _=>psp xs Q) (fun _ _ _ _ _ _ _ _ _ h=>h.elim) hk (fun xs Q _=>hn xs Q) h
def OpA (K:PySem.W.Frag) (k:Md) (r:List V→Hp→VK→Prop) (pr:List Tr→(Tr→Prop)→Prop):Prop:=∀ (F:Hp) (B:Bool→Hp) (H:Hp) (xs:List V) (ts:List Tr) (cx:Cs) (Q:VK) (Q':Tr→Prop),Same F H→(∀ k,Same (B k) H)→(k.z=true→Fz S0 F)→Rs K F B ts xs cx→Cells F H cx→pr ts Q'→
  (∀ t v F' H' cs,Q' t→Gr F H F' H'→R K F' B t v cs→Cells F' H' cs→(∀ p∈cs,H p.1=none∨p∈cx)→Q v H')→r xs H Q
def pB (pr:List Tr→(Tr→Prop)→Prop) (pa:PA'):PE':=fun ρ Q=>pa ρ fun ts=>pr ts Q
theorem h'F {r:List V→Hp→VK→Prop} {pr:List Tr→(Tr→Prop)→Prop} {ta:TA} {pa:PA'} (o:OpA K k r pr) (h:SimA K k ta pa):Sim K k (tCB r ta) (pB pr pa):=fun F B H σ ρ Q Q' c p q=>by
  refine h F B H σ ρ _ _ c p fun ts vs F1 H1 c1 p1 o1=>?_
  refine o F1 B H1 vs ts c1 Q Q' o1.g.s (fun k=>(c.b k).trans o1.g.h) (fun h=>o1.g.fz (c.z h)) o1.r o1.c p1 fun t v F2 H2 cs qt g r' c' n=>?_
  refine q t v F2 H2 cs qt ⟨o1.g.trans' g,r',c',fun p m=>?_⟩
  rcases n p m with z | z
  · exact o1.g.h.free z
  · exact o1.n p z
theorem Rs.one {F:Hp} {B:Bool→Hp} {t:Tr} {xs:List V} {cs:Cs} (r:Rs K F B [t] xs cs):∃ v,xs=[v]∧R K F B t v cs:=by
  obtain⟨v,r,c,d,h1,h2,h3,rfl,rfl⟩:=r
  rw [List.append_nil] at h2
  exact⟨v,h1,by rw [h2];exact h3⟩
def wAbs (ts:List Tr) (Q:Tr→Prop):Prop:=match ts with
  | [.int i] => Q (.int (if i < 0 then -i else i))
  | _ => False
theorem c'h:OpA K k (fun xs H Q=>∃ i,xs=[.int i]∧Q (.int (if i<0 then -i else i)) H) wAbs:=fun F B H xs ts cx Q Q' s b z r hc p q=>by
  unfold wAbs at p
  split at p
  · obtain⟨v,rfl,rfl,_⟩:=r.one
    exact⟨_,rfl,q _ _ F H [] p (Gr.refl' s) ⟨rfl,rfl⟩ .nil fun _ m=>nomatch m⟩
  · exact p.elim
end
end Pu
namespace Pu
open PySem L2 Vc Sf
structure QE (X:Cx) (k:Md) (e:Expr) (pe:PE'):Prop where
  h:∃ te,PE X e te∧Sim X.K k te pe
structure QT (X:Cx) (k:Md) (e:Expr) (pe:PB'):Prop where
  h:∃ te,PT X e te∧SimT X.K k te pe
structure QW (X:Cx) (k:Md) (e:Expr) (pe:PB'):Prop where
  h:∃ te,PW X e te∧SimT X.K k te pe
structure QA (X:Cx) (k:Md) (es:List Expr) (pa:PA'):Prop where
  h:∃ ta,PA X es ta∧SimA X.K k ta pa
structure QS (X:Cx) (k:Md) (lo:Nat) (st:Stmt) (ps:PS'):Prop where
  h:∃ ts,PS X st ts∧SimS X.K k lo ts ps
structure QB (X:Cx) (k:Md) (lo:Nat) (sts:List Stmt) (ps:PS'):Prop where
  h:∃ ts,PSs X sts ts∧SimS X.K k lo ts ps
section
variable {X:Cx} {k:Md} {lo:Nat} {a b c:Expr} {pa pb pc:PE'} {pos:Pos}
theorem qv (i:Nat) {x:Str} (hN:X.N[i]?=some x:=by rfl) (hv:Vis X.env.scope x:=by first | exact Or.inl rfl | exact Or.inr (Or.inl rfl) | exact Or.inr (Or.inr rfl)) (hd:(x == ("__debug__":Str))=false:=by decide) (hcd:(x == ("__classdict__":Str))=false:=by decide):QE X k (.Name x pos) (pVar i):=⟨_,g'Q hN hv hd hcd,k'S i⟩
theorem a'b {i j}:QE X k (.Constant (.int i) j pos) (pC (.int i)):=⟨_,n'q,k'T⟩
theorem a'D {i j}:QE X k (.Constant (.str i) j pos) (pC (.str i)):=⟨_,n's,k'U⟩
theorem b'j {i j}:QE X k (.Constant (.bool i) j pos) (pC (.bl i)):=⟨_,q'i,o'f⟩
theorem q'C {j}:QE X k (.Constant .none j pos) (pC .non):=⟨_,n'r,k'V⟩
theorem e'Q {x:Str} {u:Value} {t:Tr} (v:V) (hg:Gl X x) (hm:X.mg x=some u) (r:RelV v u) (ht:∀ F B,R X.K F B t v []) (hd:(x == ("__debug__":Str))=false:=by decide):QE X k (.Name x pos) (pC t):=⟨_,k'j hg hm r hd,d'r ht⟩
theorem c'M {op:Operator} {r:R2} {pr:Tr→Tr→(Tr→Prop)→Prop} (ho:OpR X (binaryOp op) r) (hs:Op2 X.K k r pr) (ha:QE X k a pa) (hb:QE X k b pb):QE X k (.BinOp a op b pos) (p2 pr pa pb):=by
  obtain⟨ta,h1,h2⟩:=ha.h
  obtain⟨tb,g1,g2⟩:=hb.h
  exact⟨_,q'l ho h1 g1,d's hs h2 g2⟩
theorem b'a (ha:QE X k a pa) (hb:QE X k b pb):QE X k (.BinOp a .Add b pos) (p2 wAdd pa pb):=c'M q'A l'a ha hb
theorem b'Y (ha:QE X k a pa) (hb:QE X k b pb):QE X k (.BinOp a .Sub b pos) (p2 (wInt2 (fun _ _=>True) fun i j=>.int (i - j)) pa pb):=c'M n'G l'd ha hb
theorem a'H (ha:QE X k a pa) (hb:QE X k b pb):QE X k (.BinOp a .Mult b pos) (p2 wMul pa pb):=c'M q'B l'b ha hb
theorem a'M (ha:QE X k a pa) (hb:QE X k b pb):QE X k (.BinOp a .FloorDiv b pos) (p2 (wInt2 CDivB fun i j=>.int (i.fdiv j)) pa pb):=c'M i'F i'V ha hb
theorem a'p (ha:QE X k a pa) (hb:QE X k b pb):QE X k (.BinOp a .Mod b pos) (p2 (wInt2 (fun _ j=>0<j) fun i j=>.int (i % j)) pa pb):=c'M n'H l'e ha hb
theorem c'l (ha:QE X k a pa):QE X k (.UnaryOp .USub a pos) (p1 wNeg pa):=by
  obtain⟨ta,h1,h2⟩:=ha.h
  exact⟨_,q'm n'J h1,o'g l'f h2⟩
theorem a'e (hu:X.A.units+1<cLine) (ha:QE X k a pa) (hb:QE X k b pb) (hs:PlainIx b):QE X k (.Subscript a b pos) (p2 wIdx pa pb):=by
  obtain⟨ta,h1,h2⟩:=ha.h
  obtain⟨tb,g1,g2⟩:=hb.h
  exact⟨_,q'p (r'Z hu) h1 g1 hs,d's l'c h2 g2⟩
theorem c'N {op:CmpOp} {r:R2} {pr:Tr→Tr→(Tr→Prop)→Prop} (ho:OpR X (compareOp op) r) (hs:Op2 X.K k r pr) (ha:QE X k a pa) (hb:QE X k b pb) (hm:behindInMarks op b=false):QE X k (.Compare a [op] [b] pos) (p2 pr pa pb):=by
  obtain⟨ta,h1,h2⟩:=ha.h
  obtain⟨tb,g1,g2⟩:=hb.h
  exact⟨_,k'q ho h1 g1 hm,d's hs h2 g2⟩
theorem a'l {op:CmpOp} {r:R2} {pr:Tr→Tr→(Tr→Prop)→Prop} (ho:OpR X (compareOp op) r) (hs:Op2 X.K k r pr) (ha:QE X k a pa) (hb:QE X k b pb) (hm:behindInMarks op b=false):QT X k (.Compare a [op] [b] pos) (pT (p2 pr pa pb)):=by
  obtain⟨ta,h1,h2⟩:=ha.h
  obtain⟨tb,g1,g2⟩:=hb.h
  exact⟨_,k'r ho h1 g1 hm,h'D (d's hs h2 g2)⟩
theorem b'u {e:Expr} {pe:PE'} (h:QE X k e pe) (he:∀ whole,isTrue e X.env whole=(do let v ← whole;standAt e.pos;holding [v] (truthy v)):=by intro _;rfl):QT X k e (pT pe):=by
  obtain⟨te,h1,h2⟩:=h.h
  exact⟨_,n't h1 he,h'C h2⟩
theorem g'F {e:Expr} {pe:PB'} (h:QT X k e pe):QT X k (.UnaryOp .Not e pos) (pNot pe):=by
  obtain⟨te,h1,h2⟩:=h.h
  exact⟨_,n'w h1,l'j h2⟩
theorem QW.t {e:Expr} {pe:PB'} (h:QW X k e pe):QT X k e pe:=by
  obtain⟨te,h1,h2⟩:=h.h
  exact⟨_,h1.pt,h2⟩
theorem b'f {e:Expr} {pe:PB'} (h:QT X k e pe):QW X k (.BoolOp .And [e] pos) pe:=by
  obtain⟨te,h1,h2⟩:=h.h
  exact⟨_,k'k h1,h2⟩
theorem c'i {e:Expr} {pe:PB'} (h:QT X k e pe):QW X k (.BoolOp .Or [e] pos) pe:=by
  obtain⟨te,h1,h2⟩:=h.h
  exact⟨_,n'u h1,h2⟩
theorem b'g {e f:Expr} {r:List Expr} {pe pf:PB'} (h:QT X k e pe) (h':QW X k (.BoolOp .And (f :: r) pos) pf):QW X k (.BoolOp .And (e :: f :: r) pos) (pAnd pe pf):=by
  obtain⟨te,h1,h2⟩:=h.h
  obtain⟨tf,g1,g2⟩:=h'.h
  exact⟨_,n'v h1 g1,l'i h2 g2⟩
theorem c'm {e f:Expr} {r:List Expr} {pe pf:PB'} (h:QT X k e pe) (h':QW X k (.BoolOp .Or (f :: r) pos) pf):QW X k (.BoolOp .Or (e :: f :: r) pos) (pOr pe pf):=by
  obtain⟨te,h1,h2⟩:=h.h
  obtain⟨tf,g1,g2⟩:=h'.h
  exact⟨_,q'j h1 g1,o'j h2 g2⟩
theorem q'D {op} {e:Expr} {pe:PE'} (h:QE X k e pe):QE X k (.BoolOp op [e] pos) pe:=by
  obtain⟨te,h1,h2⟩:=h.h
  exact⟨_,n'x h1,h2⟩
theorem j'Y {e f:Expr} {r:List Expr} {pe pf:PE'} (h:QE X k e pe) (h':QE X k (.BoolOp .And (f :: r) pos) pf):QE X k (.BoolOp .And (e :: f :: r) pos) (pAndV pe pf):=by
  obtain⟨te,h1,h2⟩:=h.h
  obtain⟨tf,g1,g2⟩:=h'.h
  exact⟨_,n'y h1 g1,i'W h2 g2⟩
theorem o'l {e:Expr} {pe:PE'} (h:QE X k e pe):QE X k (.UnaryOp .Not e pos) (pNotV pe):=by
  obtain⟨te,h1,h2⟩:=h.h
  exact⟨_,n'z h1,i'X h2⟩
theorem q'E {pt:PB'} (hc:QT X k c pt) (ha:QE X k a pa) (hb:QE X k b pb):QE X k (.IfExp c a b pos) (pIf pt pa pb):=by
  obtain⟨tc,h1,h2⟩:=hc.h
  obtain⟨ta,g1,g2⟩:=ha.h
  obtain⟨tb,f1,f2⟩:=hb.h
  exact⟨_,i'r h1 g1 f1,l'k h2 g2 f2⟩
theorem a'c:QA X k [] pNil:=⟨_,g'Z,k'W⟩
theorem a'a {es:List Expr} {ps:PA'} (h:QE X k a pa) (h':QA X k es ps) (hs:starEach (a :: es) X.env=(false,eval a X.env) :: starEach es X.env:=by rfl):QA X k (a :: es) (pCons pa ps):=by
  obtain⟨te,h1,h2⟩:=h.h
  obtain⟨tf,g1,g2⟩:=h'.h
  exact⟨_,f'M h1 g1 hs,i'U h2 g2⟩
theorem a'q {es:List Expr} {ps:PA'} {x1} (h:QA X k es ps):QE X k (.Tuple es x1 pos) (pTup ps):=by
  obtain⟨te,h1,h2⟩:=h.h
  exact⟨_,n'L h1,k'X h2⟩
theorem a'X {es:List Expr} {ps:PA'} (h:QA X k es ps):QE X k (.List es pos) (pLst ps):=by
  obtain⟨te,h1,h2⟩:=h.h
  exact⟨_,n'M h1,k'Y h2⟩
theorem a'g {z:Bool} {n m:Nat} {psp:PSp} {f:Addr} {fd:FuncData} {pn:List Str} {e:Expr} {es:List Expr} {ps:PA'} {x:Str} {p:Pos} (G:FnOk X.prog X.w X.K X.mg X.base CX0 m f fd pn (spP X.K z 0 n psp)) (hk:z=true→k.z=true) (hn:∀ xs Q,psp xs Q→xs.length=n) (hr:Room m X.A) (hg:Gl X x) (hm:X.mg x=some (.ref f)) (hkp:PySem.W.keepIn X.K (.ref f)=true) (hb:Binds X.K fd pn []) (ha:QA X k (e :: es) ps) (hdb:(x == ("__debug__":Str))=false:=by decide) (he:starEach (e :: es) X.env=(false,eval e X.env) :: starEach es X.env:=by rfl) (hpl:(backTo pos (starEach es X.env)).any (·.1)=false:=by rfl) :
    QE X k (.Call (.Name x p) (e :: es) [] pos) (pCall psp ps):=by
  obtain⟨ta,h1,h2⟩:=ha.h
  exact⟨_,k's (E:=E0) G hr hg hm hkp hb .nil q'r h1 hdb he hpl,j'a hk hn h2⟩
theorem a'K {r:List V→Hp→VK→Prop} {pr:List Tr→(Tr→Prop)→Prop} {id:String} {x:Str} {p:Pos} {e:Expr} {es:List Expr} {ps:PA'} (hc:CallR X (.builtin id) r) (ho:OpA X.K k r pr) (hg:Gl X x) (hm:X.mg x=none) (hv:bootBuiltins x=some (.builtin id)) (ha:QA X k (e :: es) ps) (hn:x≠"__name__":=by decide) (hdb:(x == ("__debug__":Str))=false:=by decide) (he:starEach (e :: es) X.env=(false,eval e X.env) :: starEach es X.env:=by rfl) (hpl:(backTo pos (starEach es X.env)).any (·.1)=false:=by rfl) :
    QE X k (.Call (.Name x p) (e :: es) [] pos) (pB pr ps):=by
  obtain⟨ta,h1,h2⟩:=ha.h
  exact⟨_,i'y hc hg hm hv h1 hn hdb he hpl,h'F ho h2⟩
theorem a'r:QB X k lo [] pNext:=⟨_,k'l,i'Y⟩
theorem a'd {st:Stmt} {r:List Stmt} {p q:PS'} (h:QS X k lo st p) (h':QB X k lo r q):QB X k lo (st :: r) (pSeq p q):=by
  obtain⟨te,h1,h2⟩:=h.h
  obtain⟨tf,g1,g2⟩:=h'.h
  exact⟨_,i's h1 g1,l'l h2 g2⟩
theorem a'f {st:Stmt} {p:PS'} (h:QS X k lo st p):QB X k lo [st] p:=by
  obtain⟨te,h1,h2⟩:=h.h
  exact⟨_,f'H h1,h2⟩
def pNever:PS':=fun _ _=>False
theorem l'p {st:Stmt}:QS X k lo st pNever:=⟨_,i't,fun _ _ _ _ _ _ _ _ _ _ _ h _=>h⟩
theorem a'k {e:Expr} {pe:PE'} (h:QE X k e pe):QS X k lo (.Return (some e) pos) (pRet pe):=by
  obtain⟨te,h1,h2⟩:=h.h
  exact⟨_,n'A h1,l'm h2⟩
theorem a'A {e:Expr} {pe:PB'} {s1 s2:List Stmt} {p q:PS'} (hc:QT X k e pe) (h:QB X k lo s1 p) (h':QB X k lo s2 q):QS X k lo (.If e s1 s2 pos) (pIfS pe p q):=by
  obtain⟨tc,h1,h2⟩:=hc.h
  obtain⟨ta,g1,g2⟩:=h.h
  obtain⟨tb,f1,f2⟩:=h'.h
  exact⟨_,q'k h1 g1 f1,o'k h2 g2 f2⟩
theorem g'G {e:Expr} {pe:PB'} {s1:List Stmt} {p:PS'} (hp:PassesOwn (model X.prog X.w) X.A X.env X.xe) (hc:QT X k e pe) (h:QB X k lo s1 p):QS X k lo (.While e s1 [] pos) (pWhl pe p):=by
  obtain⟨tc,h1,h2⟩:=hc.h
  obtain⟨ta,g1,g2⟩:=h.h
  exact⟨_,i'v hp h1 g1,l'n h2 g2⟩
theorem b'Z {i:Nat} {x:Str} {e:Expr} {pe:PE'} {pos':Pos} (hN:X.N.Nodup) (hl:lo≤i) (hi:X.N[i]?=some x) (hx:Loc X.env.scope x) (h:QE X k e pe) (hs:swapsWith e (some (.Name x pos')) pos.line X.env=pure false:=by rfl) (hf:X.fn x=true∨X.env.scope.names.lookup x=some .local:=by first | exact .inl rfl | exact .inr rfl | assumption) :
    QS X k lo (.Assign [.Name x pos'] e pos) (pAsg i pe):=by
  obtain⟨te,h1,h2⟩:=h.h
  exact⟨_,e'x hN hi hx h1 hs hf,f'Z hl h2⟩
end
section
variable {P:Program} {w:World} {K:PySem.W.Frag} {mg:Str→Option Value} {base:Heap}
theorem a'z {z:Bool} {lo:Nat} {x qual:Str} {st:Stmt} {f:Addr} {fd:FuncData} {N ps:List Str} {m n:Nat} {psp:PSp} (F:Fun K x qual st f fd) (S:FnScope N ps (defScope st)) (hn:ps.length=n) (hlo:lo≤n)
    (body:∀ (cdv:Value) (A:Around) (outer:List Env) (s:Shared) (H:Hp) (E:XK),Room m (A.deeper (PyProof.Rows.envOfC qual (defScope st) s.heap.objs.size f cdv))→
      ∃ pb,QB (cxOf CX0 P w K mg base N qual (defScope st) f cdv A outer s H E).nox (Md.base z) lo (defBody st) pb∧∀ xs Q',xs.length=n→psp xs Q'→pb { nx:=fun ρ=>Q' .non ρ,rt:=Q' } (xs++List.replicate (N.length - n) .hole)) :
    FnOk P w K mg base CX0 (m+1) f fd ps (spP K z lo n psp):=l'o F S hn hlo fun cdv A outer s H E hr=>by
  obtain⟨pb,h,q⟩:=body cdv A outer s H E hr
  obtain⟨ts,h1,h2⟩:=h.h
  exact⟨ts,pb,h1,h2,q⟩
theorem q'F {z:Bool} {lo:Nat} {x qual:Str} {st:Stmt} {f:Addr} {fd:FuncData} {N ps:List Str} {m n:Nat} {psp:PSpX} (F:Fun K x qual st f fd) (S:FnScope N ps (defScope st)) (hn:ps.length=n) (hlo:lo≤n)
    (body:∀ (cdv:Value) (A:Around) (outer:List Env) (s:Shared) (H:Hp) (E:XK) (q:Value→Prop),Room m (A.deeper (PyProof.Rows.envOfC qual (defScope st) s.heap.objs.size f cdv))→
      ∃ pb,QB (cxOf (CX1 P w) P w K mg base N qual (defScope st) f cdv A outer s H E) ⟨z,fun _=>E,q⟩ lo (defBody st) pb∧∀ xs Q',xs.length=n→psp xs Q' q→pb { nx:=fun ρ=>Q' .non ρ,rt:=Q' } (xs++List.replicate (N.length - n) .hole)) :
    FnOk P w K mg base (CX1 P w) (m+1) f fd ps (spX K z lo n psp):=i'Z F S hn hlo fun cdv A outer s H E q hr=>by
  obtain⟨pb,h,q⟩:=body cdv A outer s H E q hr
  obtain⟨ts,h1,h2⟩:=h.h
  exact⟨ts,pb,h1,h2,q⟩
end
end Pu
namespace Pu
open PySem L2 Vc Sf
section
variable {K:PySem.W.Frag} {k:Md} {lo:Nat} {us:List V} {Fb Hb F H F' H':Hp} {σ:St} {ρ:List Tr} {cs:Nat→Cs}
theorem lay:∀ (c:Cs) {F:Hp},Gr Fb Hb F H→Cells F H c→New Hb c→Plain c→∃ F',Gr Fb Hb F' H∧(∀ S,Fz S F→Fz S F')∧Same F F'∧(∀ p∈c,F' p.1=some p.2)∧∀ a,a ∉ c.map (·.1)→F' a=F a
  | [], F, g, _, _, _ => ⟨F, g, fun _ h => h, Same.refl F, fun _ m => (nomatch m), fun _ _ => rfl⟩
  | (a, o) :: c, F, g, hc, n, pl => by
    obtain⟨F1,g1,z1,s1,e1,n1⟩:=Vc.frz g.toGr0 g.z (n _ (.head _)) (hc.f _ (.head _)) (hc.h _ (.head _)) (pl _ (.head _))
    have nd:=hc.nd
    rw [List.map_cons,List.nodup_cons] at nd
    have hc1:Cells F1 H c:=⟨fun p m=>hc.h p (.tail _ m),fun p m=>by rw [n1 p.1 (fun z=>nd.1 (List.mem_map.mpr ⟨p,m,z⟩))];exact hc.f p (.tail _ m),nd.2⟩
    obtain⟨F2,g2,z2,s2,e2,n2⟩:=lay c ⟨g1,z1⟩ hc1 (fun p m=>n p (.tail _ m)) fun p m=>pl p (.tail _ m)
    refine⟨F2,g2,fun S h=>z2 S fun b x u e=>?_,s1.trans s2,fun p m=>?_,fun b hb=>?_⟩
    · by_cases hb:b=a
      · subst hb;rw [e1] at e;exact absurd (Option.some.inj e) (pl _ (.head _) x u)
      · rw [n1 b hb] at e;exact h b x u e
    · cases m with
      | head=>exact s2 _ _ e1
      | tail _ m=>exact e2 p m
    · rw [List.map_cons,List.mem_cons] at hb
      rw [n2 b fun z=>hb (.inr z),n1 b fun z=>hb (.inl z)]
theorem Wld.lay {c:Cs} (W:Wld K k lo us Fb Hb F H σ ρ cs) (hc:Cells F H c) (n:New Hb c) (pl:Plain c) (d:∀ j,∀ p∈cs j,∀ q∈c,p.1≠q.1):∃ F',Wld K k lo us Fb Hb F' H σ ρ cs∧Same F F'∧∀ p∈c,F' p.1=some p.2:=by
  obtain⟨F1,g1,z1,s1,e1,n1⟩:=Pu.lay c W.g hc n pl
  refine⟨F1,⟨g1,fun h=>z1 _ (W.z h),W.l,fun i t h=>(W.e i t h).imp id fun ⟨v,h1,h2⟩=>⟨v,h1,h2.mo (Le.of s1) (fun _=>Le.refl _) t⟩,fun i=>⟨(W.c i).h,fun p m=>?_,(W.c i).nd⟩,W.n,W.d,W.p,W.x⟩,s1,e1⟩
  rw [n1 p.1 fun z=>?_]
  · exact (W.c i).f p m
  · obtain⟨q,mq,e⟩:=List.mem_map.mp z
    exact d i p m q mq e.symm
theorem Wld.fresh {t:Tr} {v:V} {c:Cs} {B:Bool→Hp} (W:Wld K k lo us Fb Hb F H σ ρ cs) (o:Out K F B H F' H' t v c):New Hb c∧∀ j,∀ p∈cs j,∀ q∈c,p.1≠q.1:=
  ⟨fun p m=>W.g.h.free (o.n p m),fun j p mp q mq e=>by
    have:=(W.c j).h p mp
    rw [e,o.n q mq] at this
    cases this⟩
theorem Wld.outF {i:Nat} {t:Tr} {v:V} {c:Cs} (W:Wld K k lo us Fb Hb F H σ ρ cs) (o:Out K F (Bq Hb H) H F' H' t v c) (hi:lo≤i) (n:nlt t=true) :
    ∃ F'' cs',Wld K k lo us Fb Hb F'' H' (σ.set i (some v)) (ρ.set i (frz t)) cs':=by
  obtain⟨n1,d1⟩:=W.fresh o
  obtain⟨F2,W2,s2,e2⟩:=(W.gr o.g).lay o.c n1 (o.r.plain t) d1
  exact⟨F2,_,W2.set hi ((R.low (B':=fun _=>Hb) t n rfl o.r).frz (Le.of s2) t e2) .nil .nil fun _ _ _ _ _ m=>nomatch m⟩
theorem Wld.held {t:Tr} {v:V} {c:Cs} (W:Wld K k lo us Fb Hb F H σ ρ cs) (o:Out K F (Bq Hb H) H F' H' t v c) (n:nlt t=true) :
    ∃ F'',Wld K k lo us Fb Hb F'' H' σ ρ cs∧R K F'' (fun _=>Hb) (frz t) v []:=by
  obtain⟨n1,d1⟩:=W.fresh o
  obtain⟨F2,W2,s2,e2⟩:=(W.gr o.g).lay o.c n1 (o.r.plain t) d1
  exact⟨F2,W2,(R.low (B':=fun _=>Hb) t n rfl o.r).frz (Le.of s2) t e2⟩
def pAsgF (i:Nat) (pe:PE'):PS':=fun D ρ=>pe (ρ.map lend) fun t=>nlt t=true∧D.nx (ρ.set i (frz t))
theorem j'b {i:Nat} {te:TE} {pe:PE'} (hi:lo≤i) (h:Sim K k te pe):SimS K k lo (tAsg te (gName i)) (pAsgF i pe):=fun us Fb Hb F H σ ρ cs D D' W p L=>by
  refine h F (Bq Hb H) H σ _ _ _ W.cxt p fun t v F1 H1 c q o=>?_
  obtain⟨F2,cs2,W2⟩:=W.outF o hi q.1
  exact L.nx F2 H1 _ _ _ W2 q.2
abbrev PG':=Tr→List Tr→(List Tr→Prop)→Prop
def SimG (K:PySem.W.Frag) (k:Md) (lo:Nat) (tg:TG) (pg:PG'):Prop:=∀ (us:List V) (Fb Hb F H:Hp) (σ:St) (ρ:List Tr) (cs:Nat→Cs) (x:V) (t:Tr) (Q:St→Hp→Prop) (Q':List Tr→Prop),Wld K k lo us Fb Hb F H σ ρ cs→R K F (fun _=>Hb) t x []→pg t ρ Q'→(∀ σ' ρ' cs',Wld K k lo us Fb Hb F H σ' ρ' cs'→Q' ρ'→Q σ' H)→tg x σ H Q
def pgN (i:Nat):PG':=fun t ρ Q=>Q (ρ.set i t)
theorem o'm {i:Nat} (hi:lo≤i):SimG K k lo (gName i) (pgN i):=fun us Fb Hb F H σ ρ cs x t Q Q' W r p q=>q _ _ _ (W.set hi r .nil .nil fun _ _ _ _ _ m=>nomatch m) p
def SimGs (K:PySem.W.Frag) (k:Md) (lo:Nat) (tg:TGs) (pg:List Tr→List Tr→(List Tr→Prop)→Prop):Prop:=∀ (us:List V) (Fb Hb F H:Hp) (σ:St) (ρ:List Tr) (cs:Nat→Cs) (xs:List V) (ts:List Tr) (Q:St→Hp→Prop) (Q':List Tr→Prop),Wld K k lo us Fb Hb F H σ ρ cs→Rs K F (fun _=>Hb) ts xs []→pg ts ρ Q'→(∀ σ' ρ' cs',Wld K k lo us Fb Hb F H σ' ρ' cs'→Q' ρ'→Q σ' H)→tg xs σ H Q
def pgsNil:List Tr→List Tr→(List Tr→Prop)→Prop:=fun ts ρ Q=>match ts with | []=>Q ρ | _=>False
def pgsCons (pg:PG') (pr:List Tr→List Tr→(List Tr→Prop)→Prop):List Tr→List Tr→(List Tr→Prop)→Prop:=fun ts ρ Q=>match ts with | t :: r=>pg t ρ fun ρ'=>pr r ρ' Q | []=>False
theorem h'G:SimGs K k lo gNil pgsNil:=fun us Fb Hb F H σ ρ cs xs ts Q Q' W r p q=>by
  unfold pgsNil at p
  split at p
  · exact⟨r.1,q σ ρ cs W p⟩
  · exact p.elim
theorem g'H {tg:TG} {tr:TGs} {pg:PG'} {pr:List Tr→List Tr→(List Tr→Prop)→Prop} (h:SimG K k lo tg pg) (h':SimGs K k lo tr pr):SimGs K k lo (gCons tg tr) (pgsCons pg pr):=fun us Fb Hb F H σ ρ cs xs ts Q Q' W r p q=>by
  unfold pgsCons at p
  split at p
  · obtain⟨v,w,c,d,h1,h2,h3,h4⟩:=r
    have e:=List.append_eq_nil_iff.mp h2.symm
    rw [e.1] at h3
    rw [e.2] at h4
    exact⟨v,w,h1,h us Fb Hb F H σ ρ cs v _ _ _ W h3 p fun σ' ρ' cs' W' p'=>h' us Fb Hb F H σ' ρ' cs' w _ Q Q' W' h4 p' q⟩
  · exact p.elim
def pgT (n:Nat) (pr:List Tr→List Tr→(List Tr→Prop)→Prop):PG':=fun t ρ Q=>match t with | .tup ts=>ts.length=n∧pr ts ρ Q | _=>False
theorem o'n {n:Nat} {tr:TGs} {pr:List Tr→List Tr→(List Tr→Prop)→Prop} (h:SimGs K k lo tr pr):SimG K k lo (gTup K n tr) (pgT n pr):=fun us Fb Hb F H σ ρ cs x t Q Q' W r p q=>by
  unfold pgT at p
  split at p
  · obtain⟨a,vs,rfl,h1,h2⟩:=r.tupH W.g.s
    exact⟨a,vs,rfl,h1,h2.length.trans p.1,h us Fb Hb F H σ ρ cs vs _ Q Q' W h2 p.2 q⟩
  · exact p.elim
def pUnp (pe:PE') (pg:PG'):PS':=fun D ρ=>pe (ρ.map lend) fun t=>nlt t=true∧pg (frz t) ρ D.nx
theorem l'q {te:TE} {pe:PE'} {tg:TG} {pg:PG'} (h:Sim K k te pe) (hg:SimG K k lo tg pg):SimS K k lo (tAsg te tg) (pUnp pe pg):=fun us Fb Hb F H σ ρ cs D D' W p L=>by
  refine h F (Bq Hb H) H σ _ _ _ W.cxt p fun t v F1 H1 c q o=>?_
  obtain⟨F2,W2,r2⟩:=W.held o q.1
  exact hg us Fb Hb F2 H1 σ ρ cs v _ _ _ W2 r2 q.2 fun σ' ρ' cs' W' q'=>L.nx F2 H1 σ' ρ' cs' W' q'
def pPar (i j:Nat) (pa:PA'):PS':=fun D ρ=>pa (ρ.map lend) fun ts=>match ts with | [a,b]=>nlt a=true∧nlt b=true∧D.nx ((ρ.set i (frz a)).set j (frz b)) | _=>False
theorem l'r {i j:Nat} {ta:TA} {pa:PA'} (hi:lo≤i) (hj:lo≤j) (h:SimA K k ta pa):SimS K k lo (tPar i j ta) (pPar i j pa):=fun us Fb Hb F H σ ρ cs D D' W p L=>by
  refine h F (Bq Hb H) H σ _ _ _ W.cxt p fun ts vs F1 H1 c q o=>?_
  split at q
  · obtain⟨v,r,c1,d1,h1,h2,h3,v',r',c2,d2,g1,g2,g3,g4,g5⟩:=o.r
    have n1:New Hb c:=fun p m=>W.g.h.free (o.n p m)
    have dj:∀ j,∀ p∈cs j,∀ q∈c,p.1≠q.1:=fun j p mp q mq e=>by
      have:=(W.c j).h p mp
      rw [e,o.n q mq] at this
      cases this
    have pl:Plain c:=Rs.plain _ o.r
    obtain⟨F2,W2,s2,e2⟩:=(W.gr o.g).lay o.c n1 pl dj
    refine⟨v,v',by rw [h1,g1,g4],L.nx F2 H1 _ _ _ ((W2.set hi ((R.low (B':=fun _=>Hb) _ q.1 rfl h3).frz (Le.of s2) _ fun p m=>e2 p (by rw [h2];exact List.mem_append.mpr (.inl m))) .nil .nil fun _ _ _ _ _ m=>nomatch m).set hj ((R.low (B':=fun _=>Hb) _ q.2.1 rfl g3).frz (Le.of s2) _ fun p m=>e2 p (by rw [h2,g2];exact List.mem_append.mpr (.inr (List.mem_append.mpr (.inl m))))) .nil .nil fun _ _ _ _ _ m=>nomatch m) q.2.2⟩
  · exact q.elim
end
end Pu
namespace Pu
open PySem L2 Vc Sf
def Runs (J:It) (n:Nat) (Kp:Hp→Prop) (Y:Nat→Hp→V→Hp→Prop):Prop:=∀ (g:TG) (tb:TS) (D:Ends) (σ:St) (H:Hp) (Pv:Nat→St→Hp→Prop),Pv 0 σ H→(∀ i σ H,i≤n→Pv i σ H→Kp H)→
  (∀ i x σ H H',i<n→Pv i σ H→Y i H x H'→g x σ H' fun σ2 H2=>tb { D with nx:=Pv (i+1),ct:=Pv (i+1),bk:=D.nx } σ2 H2)→(∀ σ H,Pv n σ H→D.nx σ H)→
  ∃ W:Nat→Nat→St→Hp→Prop,(∃ m,W 0 m σ H)∧∀ i m σ H,W i m σ H→
    (J.stop i H∧D.nx σ H)∨(J.go i H∧∃ N:St→Hp→Prop,(∀ σ' H',N σ' H'→∃ m',m'<m∧W (i+1) m' σ' H')∧∀ x H',J.yld i H x H'→g x σ H' fun σ2 H2=>tb { D with nx:=N,ct:=N,bk:=D.nx } σ2 H2)
theorem j'Z {α:Type} {xs:List α} {i:Nat} {x:α} (h:xs[i]?=some x):i<xs.length:=(List.getElem?_eq_some_iff.mp h).1
structure ItOk (J:It) (n:Nat) (Kp:Hp→Prop) (Y:Nat→Hp→V→Hp→Prop):Prop where
  go:∀ i H,i<n→Kp H→J.go i H
  st:∀ H,Kp H→J.stop n H
  yl:∀ i H x H',i<n→Kp H→J.yld i H x H'→Y i H x H'
theorem ItOk.runs {J:It} {n:Nat} {Kp:Hp→Prop} {Y:Nat→Hp→V→Hp→Prop} (o:ItOk J n Kp Y):Runs J n Kp Y:=fun g tb D σ H Pv h0 hk hs hd=>by
  refine⟨fun i m σ H=>m=n - i∧i≤n∧Pv i σ H,⟨n,by simp,Nat.zero_le _,h0⟩,?_⟩
  rintro i m σ H ⟨rfl,hi,p⟩
  by_cases hlt:i<n
  · exact .inr ⟨o.go i H hlt (hk i σ H hi p),Pv (i+1),fun σ' H' p'=>⟨n - (i+1),by omega,rfl,hlt,p'⟩,fun x H' y=>hs i x σ H H' hlt p (o.yl i H x H' hlt (hk i σ H hi p) y)⟩
  · have e:i=n:=by omega
    subst e
    exact .inl ⟨o.st H (hk i σ H hi p),hd σ H p⟩
theorem d'v {α:Type} {xs:List α} {i:Nat} (h:i<xs.length):∃ x,xs[i]?=some x:=⟨_,List.getElem?_eq_getElem h⟩
theorem l's {K:PySem.W.Frag} {a:Addr} {xs:List V}:ItOk (Itl K a) xs.length (fun H=>SqL K H a xs) (fun i H x H'=>xs[i]?=some x∧H'=H):=
  ⟨fun i H h q=>by obtain⟨x,e⟩:=d'v h;exact⟨xs,x,q,e⟩,fun H q=>⟨xs,q,Nat.le_refl _⟩,fun i H x H' h q y=>⟨y.2 xs q,y.1⟩⟩
theorem j'c {l:Int} {n:Nat}:ItOk (Itr l n) n (fun _=>True) (fun i H x H'=>x=.int (l+i)∧H'=H):=⟨fun i H h _=>h,fun H _=>Nat.le_refl _,fun i H x H' h _ y=>⟨y.2,y.1⟩⟩
theorem l't {K:PySem.W.Frag} {a:Addr} {xs:List V}:ItOk (Ite K a) xs.length (fun H=>SqL K H a xs) (fun i H y H'=>∃ x p,xs[i]?=some x∧y=.ref p∧H p=none∧H'=upd H p (.tup [.int i,x])):=
  ⟨fun i H h q=>by obtain⟨x,e⟩:=d'v h;exact⟨xs,x,q,e⟩,fun H q=>⟨xs,q,Nat.le_refl _⟩,fun i H y H' h q z=>by obtain⟨p,x,e1,e2,e3,e4⟩:=z;exact⟨x,p,e3 xs q,e1,e2,e4⟩⟩
theorem o'o {K:PySem.W.Frag} {a b:Addr} {xs ys:List V}:ItOk (Itz K a b) (min xs.length ys.length) (fun H=>SqL K H a xs∧SqL K H b ys) (fun i H z H'=>∃ x y p,xs[i]?=some x∧ys[i]?=some y∧z=.ref p∧H p=none∧H'=upd H p (.tup [x,y])):=
  ⟨fun i H h q=>by obtain⟨x,e⟩:=d'v (xs:=xs) (i:=i) (by omega);obtain⟨y,e'⟩:=d'v (xs:=ys) (i:=i) (by omega);exact⟨xs,ys,x,y,q.1,q.2,e,e'⟩,fun H q=>⟨xs,ys,q.1,q.2,by omega⟩,fun i H z H' h q y=>by obtain⟨p,x,y,e1,e2,e3,e4,e5⟩:=y;exact⟨x,y,p,e3 xs q.1,e4 ys q.2,e1,e2,e5⟩⟩
def Src (K:PySem.W.Frag) (B:Bool→Hp) (F:Hp) (J:It) (ts:List Tr):Prop:=∃ (Kp:Hp→Prop) (Y:Nat→Hp→V→Hp→Prop),ItOk J ts.length Kp Y∧(∀ F' H',Le F F'→Same F' H'→(∀ k,Same (B k) H')→Kp H')∧
  ∀ i t F' H' x H'',ts[i]?=some t→Le F F'→Same F' H'→(∀ k,Same (B k) H')→Y i H' x H''→∃ F'',Gr F' H' F'' H''∧R K F'' B t x []
section
variable {K:PySem.W.Frag} {k:Md} {lo:Nat} {us:List V} {Fb Hb F H F' H' F1 H1:Hp} {σ:St} {ρ:List Tr} {cs:Nat→Cs}
abbrev PI':=List Tr→(List Tr→Bool→Prop)→Prop
def SimI (K:PySem.W.Frag) (k:Md) (wi:TI) (pi:PI'):Prop:=∀ (F:Hp) (B:Bool→Hp) (H:Hp) (σ:St) (ρ:List Tr) (R':It→Hp→Prop) (Q':List Tr→Bool→Prop),Cxt K k F B H σ ρ→pi ρ Q'→
  (∀ ts nl J F' H',Q' ts nl→Gr F H F' H'→Src K B F' J ts→(nl=true→∀ B':Bool→Hp,B' false=B false→Src K B' F' J ts)→R' J H')→wi σ H R'
theorem _root_.Vc.Gr.base (g:Gr Fb Hb F1 H1) (g':Gr F1 Hb F H):Gr Fb Hb F H:=
  Gr.of ⟨g'.h,g.f.trans g'.f,g'.s,fun a u e z=>by
    cases q:F1 a with
    | some w=>exact g.n a w q z
    | none=>exact g'.n a u e q⟩ (g'.fz g.z)
theorem Wld.base {σ0:St} {ρ0:List Tr} {cs0:Nat→Cs} (W0:Wld K k lo us Fb Hb F1 H1 σ0 ρ0 cs0) (W:Wld K k lo us F1 Hb F H σ ρ cs):Wld K k lo us Fb Hb F H σ ρ cs:=⟨W0.g.base W.g,W.z,W.l,W.e,W.c,W.n,W.d,W.p,W0.x⟩
theorem Wld.rebase (W:Wld K k lo us Fb Hb F H σ ρ cs):Wld K k lo us F Hb F H σ ρ cs:=⟨⟨⟨W.g.h,Same.refl F,W.g.s,fun a u e z=>by rw [e] at z;cases z⟩,Fz.refl F⟩,W.z,W.l,W.e,W.c,W.n,W.d,W.p,fun cls σ' F' H' q g=>W.x cls σ' F' H' q (W.g.base g)⟩
theorem Lk.rebase {D:Ends} {D':Pd} {σ0:St} {ρ0:List Tr} {cs0:Nat→Cs} (W0:Wld K k lo us Fb Hb F1 H1 σ0 ρ0 cs0) (L:Lk K k lo us Fb Hb D D'):Lk K k lo us F1 Hb D D':=
  ⟨fun F H σ ρ cs W=>L.nx F H σ ρ cs (W0.base W),fun F H σ ρ cs v t c W=>L.rt F H σ ρ cs v t c (W0.base W),fun F H σ ρ cs W=>L.bk F H σ ρ cs (W0.base W),fun F H σ ρ cs W=>L.ct F H σ ρ cs (W0.base W)⟩
def pFor (pi:PI') (pg:PG') (pb:PS'):PS':=fun D ρ=>pi (ρ.map lend) fun ts nl=>nl=true∧∃ I:Nat→List Tr→Prop,I 0 ρ∧(∀ i t ρ,ts[i]?=some t→I i ρ→pg t ρ fun ρ'=>pb { D with nx:=I (i+1),ct:=I (i+1),bk:=D.nx } ρ')∧∀ ρ,I ts.length ρ→D.nx ρ
theorem l'u {wi:TI} {pi:PI'} {tg:TG} {pg:PG'} {tb:TS} {pb:PS'} (hi:SimI K k wi pi) (hg:SimG K k lo tg pg) (hb:SimS K k lo tb pb):SimS K k lo (tFor wi tg tb) (pFor pi pg pb):=fun us Fb Hb F H σ ρ cs D D' W p L=>by
  refine hi F (Bq Hb H) H σ _ _ _ W.cxt p fun ts nl J F1 H1 q g1 _ src=>?_
  have W1:=W.gr g1
  obtain⟨hnl,I,i0,step,fin⟩:=q
  obtain⟨Kp,Y,ito,kp,yl⟩:=src hnl (fun _=>Hb) rfl
  have run:=ito.runs
  have L1:=L.rebase W1
  refine run tg tb D σ H1 (fun i σ H=>∃ F ρ cs,Wld K k lo us F1 Hb F H σ ρ cs∧I i ρ) ⟨F1,ρ,cs,W1.rebase,i0⟩ ?_ ?_ ?_
  · rintro i σ H hi ⟨F,ρ,cs,W,_⟩
    exact kp F H (Le.of W.g.f) W.g.s fun _=>W.g.h
  · rintro i x σ H H' hi ⟨F,ρ,cs,W,ii⟩ y
    have ht:ts[i]?=some (ts[i]'hi):=List.getElem?_eq_getElem hi
    obtain⟨F2,g2,r2⟩:=yl i _ F H x H' ht (Le.of W.g.f) W.g.s (fun _=>W.g.h) y
    refine hg us F1 Hb F2 H' σ ρ cs x _ _ _ (W.gr g2) r2 (step i _ ρ ht ii) fun σ' ρ' cs' W' p'=>?_
    exact hb us F1 Hb F2 H' σ' ρ' cs' _ _ W' p' ⟨fun F H σ ρ cs W q=>⟨F,ρ,cs,W,q⟩,L1.rt,L1.nx,fun F H σ ρ cs W q=>⟨F,ρ,cs,W,q⟩⟩
  · rintro σ H ⟨F,ρ,cs,W,q⟩
    exact L1.nx F H σ ρ cs W (fin ρ q)
theorem o'p {a:Addr} {vs:List V} {F':Hp} {H':Hp} (l:Le F F') (s:Same F' H') (h:SqL K F a vs):SqL K H' a vs:=s.seq (l.lst h)
variable {B:Bool→Hp}
theorem c'a {f:Fl} {xs:List Tr} {v:V} (r:R K F B (.lst f xs) v []):∃ a vs,v=.ref a∧Rs K F B xs vs []∧∀ F' H',Le F F'→Same F' H'→(∀ k,Same (B k) H')→SqL K H' a vs:=by
  cases f with
  | f => obtain ⟨_, a, vs, h1, h2, h3⟩ := r; exact ⟨a, vs, h1, h3, fun F' H' l s b => o'p l s h2⟩
  | l q => obtain ⟨_, a, vs, h1, h2, h3⟩ := r; exact ⟨a, vs, h1, h3, fun F' H' l s b => (b q).seq h2⟩
  | o => obtain ⟨a, vs, ds, h1, h2, h3⟩ := r; cases h2
theorem Rs.nil_at {xs:List Tr} {vs:List V} {i:Nat} {t:Tr} (r:Rs K F B xs vs []) (h:xs[i]?=some t):∃ u,vs[i]?=some u∧R K F B t u []:=by
  obtain⟨u,c,h1,h2,h3⟩:=r.at h
  have e:c=[]:=List.eq_nil_iff_forall_not_mem.mpr fun p m=>nomatch h3 p m
  rw [e] at h2
  exact⟨u,h1,h2⟩
theorem e'R {a:Addr} {f:Fl} {xs:List Tr} (r:R K F B (.lst f xs) (.ref a) []):Src K B F (Itl K a) xs:=by
  obtain⟨a',vs,h1,h2,h3⟩:=c'a r
  cases h1
  refine⟨_,_,h2.length ▸ l's (K:=K) (a:=a) (xs:=vs),h3,fun i t F' H' x H'' ht l s b y=>?_⟩
  obtain⟨y1,rfl⟩:=y
  obtain⟨u,e1,e2⟩:=h2.nil_at ht
  rw [e1] at y1
  cases y1
  exact⟨F',Gr.refl' s,e2.mo l (fun _=>Le.refl _) t⟩
theorem e'S {a:Addr} {f:Fl} {xs:List Tr} (r:R K F B (.lst f xs) (.ref a) []):Src K B F (Ite K a) (xs.mapIdx fun i x=>.tup [.int i,x]):=by
  obtain⟨a',vs,h1,h2,h3⟩:=c'a r
  cases h1
  refine⟨_,_,(by rw [List.length_mapIdx,← h2.length];exact l't (K:=K) (a:=a) (xs:=vs)),h3,fun i t F' H' x H'' ht l s b y=>?_⟩
  obtain⟨z,p,y1,rfl,y3,rfl⟩:=y
  rw [List.getElem?_mapIdx] at ht
  cases q:xs[i]? with
  | none => rw [q] at ht; cases ht
  | some u =>
    rw [q] at ht
    cases ht
    obtain⟨u',e1,e2⟩:=h2.nil_at q
    rw [e1] at y1
    cases y1
    obtain⟨F2,g,r2,_⟩:=c'K (xs:=[.int i,u]) (cs:=[]) s ⟨.int i,[z],[],[],rfl,rfl,⟨rfl,rfl⟩,z,[],[],[],rfl,rfl,e2.mo l (fun _=>Le.refl _) u,rfl,rfl⟩ .nil y3
    exact⟨F2,g,r2⟩
theorem g'b {a a':Addr} {f f':Fl} {xs ys:List Tr} (r:R K F B (.lst f xs) (.ref a) []) (r':R K F B (.lst f' ys) (.ref a') []):Src K B F (Itz K a a') (xs.zipWith (fun x y=>.tup [x,y]) ys):=by
  obtain⟨_,vs,h1,h2,h3⟩:=c'a r
  obtain⟨_,us,g1,g2,g3⟩:=c'a r'
  cases h1
  cases g1
  refine⟨(fun H=>SqL K H a vs∧SqL K H a' us),_,(by rw [List.length_zipWith,← h2.length,← g2.length];exact o'o (K:=K) (a:=a) (b:=a') (xs:=vs) (ys:=us)),fun F' H' l s b=>⟨h3 F' H' l s b,g3 F' H' l s b⟩,fun i t F' H' x H'' ht l s b y=>?_⟩
  obtain⟨z,z',p,y1,y2,rfl,y3,rfl⟩:=y
  rw [List.getElem?_zipWith] at ht
  cases q:xs[i]? with
  | none => rw [q] at ht; cases ht
  | some u =>
    cases q':ys[i]? with
    | none=>rw [q,q'] at ht;cases ht
    | some u2=>
      rw [q,q'] at ht
      cases ht
      obtain⟨u',e1,e2⟩:=h2.nil_at q
      obtain⟨u2',f1,f2⟩:=g2.nil_at q'
      rw [e1] at y1
      rw [f1] at y2
      cases y1
      cases y2
      obtain⟨F2,g,r2,_⟩:=c'K (xs:=[u,u2]) (cs:=[]) s ⟨z,[z'],[],[],rfl,rfl,e2.mo l (fun _=>Le.refl _) u,z',[],[],[],rfl,rfl,f2.mo l (fun _=>Le.refl _) u2,rfl,rfl⟩ .nil y3
      exact⟨F2,g,r2⟩
theorem h'H {l:Int} {n:Nat}:Src K B F (Itr l n) ((List.range n).map fun (i:Nat)=>.int (l+i)):=by
  refine⟨_,_,(by rw [List.length_map,List.length_range];exact j'c (l:=l) (n:=n)),fun _ _ _ _ _=>True.intro,fun i t F' H' x H'' ht l' s b y=>?_⟩
  obtain⟨rfl,rfl⟩:=y
  rw [List.getElem?_map] at ht
  cases q:(List.range n)[i]? with
  | none => rw [q] at ht; cases ht
  | some u =>
    rw [q] at ht
    cases ht
    have hi:=j'Z q
    rw [List.length_range] at hi
    rw [List.getElem?_range hi] at q
    cases q
    exact⟨F',Gr.refl' s,rfl,rfl⟩
theorem Out.held {t:Tr} {v:V} {c:Cs} (o:Out K F B H F' H' t v c):∃ F'',Gr F H F'' H'∧R K F'' B (frz t) v []:=by
  obtain⟨F2,g2,_,s2,e2,_⟩:=Pu.lay c o.g o.c o.n (o.r.plain t)
  exact⟨F2,g2,o.r.frz (Le.of s2) t e2⟩
theorem OutA.held {t:List Tr} {v:List V} {c:Cs} (o:OutA K F B H F' H' t v c):∃ F'',Gr F H F'' H'∧Rs K F'' B (frzs t) v []:=by
  obtain⟨F2,g2,_,s2,e2,_⟩:=Pu.lay c o.g o.c o.n (o.r.plain t)
  exact⟨F2,g2,o.r.frz (Le.of s2) t e2⟩
def wLst (t:Tr) (Q:List Tr→Prop):Prop:=match t with | .lst _ xs=>Q xs | _=>False
theorem c'O {t:Tr} {Q:List Tr→Prop} (h:wLst t Q):∃ f xs,t=.lst f xs∧Q xs:=by
  unfold wLst at h
  split at h
  · exact⟨_,_,rfl,h⟩
  · exact h.elim
def piL (pe:PE'):PI':=fun ρ Q=>pe ρ fun t=>wLst (frz t) fun xs=>Q xs (nlt (frz t))
theorem h'I {te:TE} {pe:PE'} (h:Sim K k te pe):SimI K k (iList K te) (piL pe):=fun F B H σ ρ R' Q' c p q=>by
  refine h F B H σ ρ _ _ c p fun t v F1 H1 c1 p1 o=>?_
  obtain⟨F2,g2,r2⟩:=o.held
  obtain⟨f,xs,e,p1⟩:=c'O p1
  rw [e] at r2 p1
  obtain⟨a,vs,rfl,_,h3⟩:=c'a r2
  exact⟨a,rfl,⟨vs,h3 F2 H1 (Le.refl _) g2.s fun k=>(c.b k).trans g2.h⟩,q _ _ _ F2 H1 p1 g2 (e'R r2) fun hn B' e'=>e'R (R.low _ hn e'.symm r2)⟩
def wTp (t:Tr) (Q:List Tr→Prop):Prop:=match t with | .tup xs=>Q xs | _=>False
def piT (pe:PE'):PI':=fun ρ Q=>pe ρ fun t=>wTp (frz t) fun xs=>Q xs (nlt (frz t))
def wOne (ts:List Tr) (Q:Tr→Prop):Prop:=match ts with | [t]=>Q t | _=>False
theorem l'v {ts:List Tr} {Q:Tr→Prop} (h:wOne ts Q):∃ t,ts=[t]∧Q t:=by
  unfold wOne at h
  split at h
  · exact⟨_,rfl,h⟩
  · exact h.elim
def piE (pa:PA'):PI':=fun ρ Q=>pa ρ fun ts=>wOne ts fun t=>wLst (frz t) fun xs=>Q (xs.mapIdx fun i x=>.tup [.int i,x]) (nlt (frz t))
theorem h'J {ta:TA} {pa:PA'} (h:SimA K k ta pa):SimI K k (iEnum K ta) (piE pa):=fun F B H σ ρ R' Q' c p q=>by
  refine h F B H σ ρ _ _ c p fun ts vs F1 H1 c1 p1 o=>?_
  obtain⟨t,rfl,p1⟩:=l'v p1
  obtain⟨v,rfl,r1⟩:=o.r.one
  obtain⟨F2,g2,r2⟩:=Out.held ⟨o.g,r1,o.c,o.n⟩
  obtain⟨f,xs,e,p1⟩:=c'O p1
  rw [e] at r2 p1
  obtain⟨a,vs,rfl,_,h3⟩:=c'a r2
  exact⟨a,rfl,⟨vs,h3 F2 H1 (Le.refl _) g2.s fun k=>(c.b k).trans g2.h⟩,q _ _ _ F2 H1 p1 g2 (e'S r2) fun hn B' e'=>e'S (R.low _ hn e'.symm r2)⟩
def piV (pa:PA'):PI':=fun ρ Q=>pa ρ fun ts=>wOne ts fun t=>wLst (frz t) fun xs=>Q xs.reverse (nlt (frz t))
def wTwo (ts:List Tr) (Q:Tr→Tr→Prop):Prop:=match ts with | [t,u]=>Q t u | _=>False
theorem l'w {ts:List Tr} {Q:Tr→Tr→Prop} (h:wTwo ts Q):∃ t u,ts=[t,u]∧Q t u:=by
  unfold wTwo at h
  split at h
  · exact⟨_,_,rfl,h⟩
  · exact h.elim
theorem Rs.two {t u:Tr} {xs:List V} {cs:Cs} (r:Rs K F B [t,u] xs cs):∃ v w c d,xs=[v,w]∧R K F B t v c∧R K F B u w d∧cs=c++d:=by
  obtain⟨v,r,c,d,h1,h2,h3,v',r',c',d',g1,g2,g3,rfl,rfl⟩:=r
  rw [List.append_nil] at g2
  exact⟨v,v',c,c',by rw [h1,g1],h3,g3,by rw [h2,g2]⟩
def piZ (pa:PA'):PI':=fun ρ Q=>pa ρ fun ts=>wTwo ts fun t u=>wLst (frz t) fun xs=>wLst (frz u) fun ys=>Q (xs.zipWith (fun x y=>.tup [x,y]) ys) (nlt (frz t) && nlt (frz u))
theorem j'd {ta:TA} {pa:PA'} (h:SimA K k ta pa):SimI K k (iZip K ta) (piZ pa):=fun F B H σ ρ R' Q' c p q=>by
  refine h F B H σ ρ _ _ c p fun ts vs F1 H1 c1 p1 o=>?_
  obtain⟨t,u,rfl,p1⟩:=l'w p1
  obtain⟨F2,g2,r2⟩:=o.held
  obtain⟨v,w,d1,d2,rfl,r3,r4,e⟩:=Rs.two r2
  have z:=List.append_eq_nil_iff.mp e.symm
  rw [z.1] at r3
  rw [z.2] at r4
  obtain⟨f,xs,e1,p1⟩:=c'O p1
  obtain⟨f',ys,e2,p1⟩:=c'O p1
  rw [e1] at r3 p1
  rw [e2] at r4 p1
  obtain⟨a,vs,rfl,_,h3⟩:=c'a r3
  obtain⟨a',us,rfl,_,g3⟩:=c'a r4
  have bb:∀ k,Same (B k) H1:=fun k=>(c.b k).trans g2.h
  refine⟨a,a',rfl,⟨vs,h3 F2 H1 (Le.refl _) g2.s bb⟩,⟨us,g3 F2 H1 (Le.refl _) g2.s bb⟩,q _ _ _ F2 H1 p1 g2 (g'b r3 r4) fun hn B' e'=>?_⟩
  rw [Bool.and_eq_true] at hn
  exact g'b (R.low _ hn.1 e'.symm r3) (R.low _ hn.2 e'.symm r4)
def wInt1 (ts:List Tr) (Q:Int→Prop):Prop:=match ts with | [.int i]=>Q i | _=>False
def piR1 (pa:PA'):PI':=fun ρ Q=>pa ρ fun ts=>wInt1 ts fun j=>-1000000≤j∧j≤1000000∧Q ((List.range j.toNat).map fun (i:Nat)=>.int i) true
theorem l'x {ta:TA} {pa:PA'} (h:SimA K k ta pa):SimI K k (iRng1 ta) (piR1 pa):=fun F B H σ ρ R' Q' c p q=>by
  refine h F B H σ ρ _ _ c p fun ts vs F1 H1 c1 p1 o=>?_
  unfold wInt1 at p1
  split at p1
  · rename_i j
    obtain⟨v,rfl,rfl,_⟩:=o.r.one
    have sr:∀ B,Src K B F1 (Itr 0 j.toNat) ((List.range j.toNat).map fun (i:Nat)=>.int i):=fun B=>by
      have:=h'H (K:=K) (B:=B) (F:=F1) (l:=0) (n:=Int.toNat j)
      simp only [Int.zero_add] at this
      exact this
    exact⟨_,rfl,by omega,by omega,q _ _ _ F1 H1 p1.2.2 o.g (sr B) fun _ B' _=>sr B'⟩
  · exact p1.elim
def wInt2s (ts:List Tr) (Q:Int→Int→Prop):Prop:=match ts with | [.int i,.int j]=>Q i j | _=>False
def piR2 (pa:PA'):PI':=fun ρ Q=>pa ρ fun ts=>wInt2s ts fun i j=>(-1000000≤i∧i≤1000000∧-1000000≤j∧j≤1000000)∧Q ((List.range (j - i).toNat).map fun (n:Nat)=>.int (i+n)) true
end
end Pu
namespace Pu
open PySem L2 Vc Sf
section
variable {K:PySem.W.Frag} {k:Md} {lo:Nat} {us:List V} {Fb Hb F H F' H' F1 H1:Hp} {σ:St} {ρ:List Tr} {cs:Nat→Cs}
theorem Wld.mut {i:Nat} {a:Addr} {o o':HO} {ds':Cs} {t':Tr} {v:V} (W:Wld K k lo us Fb Hb F H σ ρ cs) (hv:σ[i]?=some (some v)) (e:(a,o)∈cs i) (hd:Cells F H ds') (hn:New Hb ds') (ha:∀ p∈ds',p.1≠a) (hj:∀ j,j≠i→∀ p∈ds',∀ q∈cs j,p.1≠q.1) {c':Cs} (hc:c'.Perm ((a,o') :: ds')) (r':R K F (fun _=>Hb) t' v c') :
    Wld K k lo us Fb Hb F (upd H a o') σ (ρ.set i t') (fun j=>if j=i then c' else cs j):=by
  have hb:=W.n i _ e
  have fa:=(W.c i).f _ e
  have other:∀ j,j≠i→∀ p∈cs j,p.1≠a:=fun j hj p m z=>W.d j i hj p m _ e z
  refine⟨⟨⟨W.g.h.updN hb,W.g.f,W.g.s.updN fa,W.g.n⟩,W.g.z⟩,W.z,by rw [List.length_set];exact W.l,fun j u h=>?_,fun j=>?_,fun j=>?_,fun x y ne p mp q mq=>?_,W.p,W.x⟩
  · by_cases ej:j=i
    · subst ej
      have hl:j<ρ.length:=by have:=(List.getElem?_eq_some_iff.mp h).1;rw [List.length_set] at this;exact this
      rw [List.getElem?_set_self hl] at h
      cases h
      exact .inr ⟨v,hv,by rw [if_pos rfl];exact r'⟩
    · rw [List.getElem?_set_ne (fun z=>ej z.symm)] at h
      rw [if_neg ej]
      exact W.e j u h
  · split
    · refine⟨fun p m=>?_,fun p m=>?_,?_⟩
      · rcases List.mem_cons.mp (hc.mem_iff.mp m) with rfl | m
        · exact a'o
        · rw [a'h (ha p m)];exact hd.h p m
      · rcases List.mem_cons.mp (hc.mem_iff.mp m) with rfl | m
        · exact fa
        · exact hd.f p m
      · refine ((hc.map (·.1)).nodup_iff).mpr ?_
        rw [List.map_cons,List.nodup_cons]
        refine⟨fun m=>?_,hd.nd⟩
        obtain⟨p,mp,e⟩:=List.mem_map.mp m
        exact ha p mp e
    · rename_i ej
      exact⟨fun p m=>by rw [a'h (other j ej p m)];exact (W.c j).h p m,(W.c j).f,(W.c j).nd⟩
  · split
    · intro p m
      rcases List.mem_cons.mp (hc.mem_iff.mp m) with rfl | m
      · exact hb
      · exact hn p m
    · exact W.n j
  · have key:∀ p,p∈c'→∀ y,y≠i→∀ q∈cs y,p.1≠q.1:=fun p m y hy q mq=>by
      rcases List.mem_cons.mp (hc.mem_iff.mp m) with rfl | m
      · exact (other y hy q mq).symm
      · exact hj y hy p m q mq
    by_cases ex:x=i
    · have ey:y≠i:=fun z=>ne (ex.trans z.symm)
      rw [if_pos ex] at mp
      rw [if_neg ey] at mq
      exact key p mp y ey q mq
    · rw [if_neg ex] at mp
      by_cases ey:y=i
      · rw [if_pos ey] at mq
        exact (key q mq x ex p mp).symm
      · rw [if_neg ey] at mq
        exact W.d x y ne p mp q mq
def updf (f:Str) (u:Tr):List (Str×Tr)→List (Str×Tr)
  | [] => []
  | (g, x) :: r => if g = f then (g, u) :: r else (g, x) :: updf f u r
def getR (t:Tr):List Str→Tr
  | [] => t
  | f :: r => match getR t r with | .ins .o _ fs => (fs.lookup f).getD .hole | _ => .hole
def setR (t:Tr):List Str→Tr→Tr
  | [], u => u
  | f :: r, u => setR t r (match getR t r with | .ins .o c fs => .ins .o c (updf f u fs) | y => y)
def okR (K:PySem.W.Frag) (t:Tr):List Str→Prop
  | [] => True
  | f :: r => okR K t r ∧ (match getR t r with | .ins .o c fs => (Cls K c ∧ NoAttr K c f) ∧ (fs.lookup f).isSome = true | _ => False)
def tR (K:PySem.W.Frag) (i:Nat):List Str→TE
  | [] => tVar i
  | f :: r => tFldR K (tR K i r) f
theorem Rf.at {B:Bool→Hp}:∀ {fs:List (Str×Tr)} {vs:List (Str×V)} {ds:Cs} {f:Str} {x:Tr},Rf K F B fs vs ds→fs.lookup f=some x→∃ w c pre post,vs.lookup f=some w∧R K F B x w c∧ds=pre++c++post∧∀ F',Le F F'→∀ u d,R K F' B u w d→Rf K F' B (updf f u fs) vs (pre++d++post)
  | (g, y) :: fs, _, _, f, x, ⟨v, r, c, d, h1, h2, h3, h4⟩, h => by
    by_cases e:g=f
    · subst e
      rw [List.lookup_cons_self] at h
      cases h
      refine⟨v,c,[],d,by rw [h1,List.lookup_cons_self],h3,by rw [h2];rfl,fun F' l u d' ru=>?_⟩
      unfold updf
      rw [if_pos rfl]
      exact⟨v,r,d',d,h1,rfl,ru,h4.mo l (fun _=>Le.refl _) fs⟩
    · have e':(f == g)=false:=by simpa using fun z=>e z.symm
      rw [List.lookup_cons,e'] at h
      obtain⟨w,c',pre,post,a1,a2,a3,a4⟩:=Rf.at (fs:=fs) h4 h
      refine⟨w,c',c++pre,post,by rw [h1,List.lookup_cons,e'];exact a1,a2,by rw [h2,a3];simp only [List.append_assoc],fun F' l u d' ru=>?_⟩
      unfold updf
      rw [if_neg e]
      exact⟨v,r,c,pre++d'++post,h1,by simp only [List.append_assoc],h3.mo l (fun _=>Le.refl _) y,a4 F' l u d' ru⟩
theorem k'a {B:Bool→Hp} {i:Nat} {t:Tr} {v:V} {c0:Cs} (s:Same F H) (b:∀ k,Same (B k) H) (hv:σ[i]?=some (some v)) (r0:R K F B t v c0) (hc:Cells F H c0):∀ (r:List Str),okR K t r→∃ w c rest,c0.Perm (c++rest)∧R K F B (getR t r) w c∧(∀ F',Le F F'→∀ u d,R K F' B u w d→∃ c1,R K F' B (setR t r u) v c1∧c1.Perm (d++rest))∧∀ Q:VK,Q w H→tR K i r σ H Q
  | [], _ => ⟨v, c0, [], by rw [List.append_nil], r0, fun F' l u d ru => ⟨d, ru, by rw [List.append_nil]⟩, fun Q q => ⟨v, hv, q⟩⟩
  | f :: r, ok => by
    obtain⟨w,c,rest,p1,r1,cl,rd⟩:=k'a s b hv r0 hc r ok.1
    have o2:=ok.2
    split at o2
    · rename_i C fs eg
      obtain⟨⟨ok1,ok2⟩,ok3⟩:=o2
      obtain⟨x,hx⟩:=Option.isSome_iff_exists.mp ok3
      rw [eg] at r1
      obtain⟨a,dx,vs,ds,h1,h2,h3⟩:=r1
      obtain⟨w',c',pre,post,a1,a2,a3,a4⟩:=h3.at hx
      have hm:(a,HO.ins C dx vs)∈c0:=p1.mem_iff.mpr (List.mem_append.mpr (.inl (by rw [h2];exact .head _)))
      refine⟨w',c',(a,.ins C dx vs) :: (pre++post++rest),?_,?_,fun F' l u d ru=>?_,fun Q q=>?_⟩
      · refine p1.trans ?_
        rw [h2,a3]
        show List.Perm ((a,HO.ins C dx vs) :: ((pre++c'++post)++rest)) _
        refine List.Perm.trans (List.Perm.cons _ ?_) (List.perm_middle.symm)
        rw [List.append_assoc pre c' post,← List.append_assoc,← List.append_assoc,← List.append_assoc]
        refine List.Perm.append_right _ ?_
        refine List.Perm.append_right _ ?_
        exact List.perm_append_comm
      · show R K F B (match getR t r with | .ins .o _ fs=>(fs.lookup f).getD .hole | _=>.hole) w' c'
        rw [eg]
        show R K F B ((fs.lookup f).getD .hole) w' c'
        rw [hx]
        exact a2
      · obtain⟨c1,b1,b2⟩:=cl F' l (.ins .o C (updf f u fs)) ((a,.ins C dx vs) :: (pre++d++post)) ⟨a,dx,vs,_,h1,rfl,a4 F' l u d ru⟩
        refine⟨c1,?_,b2.trans ?_⟩
        · show R K F' B (setR t r (match getR t r with | .ins .o c fs=>.ins .o c (updf f u fs) | y=>y)) v c1
          rw [eg]
          exact b1
        · show List.Perm ((a,HO.ins C dx vs) :: ((pre++d++post)++rest)) _
          refine List.Perm.trans (List.Perm.cons _ ?_) (List.perm_middle.symm)
          rw [List.append_assoc pre d post,← List.append_assoc,← List.append_assoc,← List.append_assoc]
          refine List.Perm.append_right _ ?_
          refine List.Perm.append_right _ ?_
          exact List.perm_append_comm
      · exact rd _ ⟨a,C,dx,vs,w',h1,Rd.of (hc.h _ hm),ok1,ok2,a1,q⟩
    · exact o2.elim
theorem Wld.at {i:Nat} {t:Tr} (W:Wld K k lo us Fb Hb F H σ ρ cs) (ht:ρ[i]?=some t) (hn:t≠.hole) (r:List Str) (ok:okR K t r):∃ w c,R K F (fun _=>Hb) (getR t r) w c∧(∀ p∈c,p∈cs i)∧Cells F H c∧(∀ Q:VK,Q w H→tR K i r σ H Q)∧
    ∀ F' H',Wld K k lo us Fb Hb F' H' σ ρ cs→Le F F'→∀ (a:Addr) (o o':HO) (ds ds' e:Cs) (u:Tr) (d:Cs),c=(a,o) :: ds→ds'.Sublist ds→Cells F' H' e→New Hb e→(∀ j,∀ p∈cs j,∀ q∈e,p.1≠q.1)→d.Perm ((a,o') :: (ds'++e))→R K F' (fun _=>Hb) u w d→∃ cs',Wld K k lo us Fb Hb F' (upd H' a o') σ (ρ.set i (setR t r u)) cs':=by
  rcases W.e i t ht with z | ⟨v,hv,rv⟩
  · exact absurd z hn
  · obtain⟨w,c,rest,p1,r1,cl,rd⟩:=k'a W.g.s (fun _=>W.g.h) hv rv (W.c i) r ok
    have sub:∀ {F H:Hp},Cells F H (cs i)→Cells F H (c++rest):=fun h=>⟨fun p m=>h.h p (p1.mem_iff.mpr m),fun p m=>h.f p (p1.mem_iff.mpr m),((p1.map (·.1)).nodup_iff).mp h.nd⟩
    refine⟨w,c,r1,fun p m=>p1.mem_iff.mpr (List.mem_append.mpr (.inl m)),(sub (W.c i)).left,rd,fun F' H' W' l a o o' ds ds' e u d ec sl he hne hje pd ru=>?_⟩
    obtain⟨c1,b1,b2⟩:=cl F' l u d ru
    have ci:=sub (W'.c i)
    rw [ec] at ci
    have am:(a,o)∈cs i:=p1.mem_iff.mpr (List.mem_append.mpr (.inl (by rw [ec];exact .head _)))
    have nd':(a ∉ (ds++rest).map (·.1))∧((ds++rest).map (·.1)).Nodup:=List.nodup_cons.mp ci.nd
    have s2:(ds'++rest).Sublist (ds++rest):=sl.append_right rest
    have mm:∀ p∈ds'++rest,p∈cs i:=fun p m=>p1.mem_iff.mpr (by rw [ec];exact .tail _ (s2.subset m))
    have c3:Cells F' H' (ds'++rest):=⟨fun p m=>(W'.c i).h p (mm p m),fun p m=>(W'.c i).f p (mm p m),List.Sublist.nodup (s2.map _) nd'.2⟩
    refine⟨_,W'.mut (o:=o) (o':=o') (ds':=(ds'++rest)++e) hv am (c3.app he fun p mp q mq=>hje i p (mm p mp) q mq) ?_ ?_ ?_ (b2.trans ((pd.append_right rest).trans ?_)) b1⟩
    · exact fun p m=>(List.mem_append.mp m).elim (fun m=>W'.n i p (mm p m)) (hne p)
    · intro p m z
      rcases List.mem_append.mp m with m | m
      · exact nd'.1 (List.mem_map.mpr ⟨p,s2.subset m,z⟩)
      · exact hje i _ am p m z.symm
    · intro j hj p m q mq
      rcases List.mem_append.mp m with m | m
      · exact W'.d i j (fun z=>hj z.symm) p (mm p m) q mq
      · exact (hje j q mq p m).symm
    · show List.Perm ((a,o') :: ((ds'++e)++rest)) ((a,o') :: ((ds'++rest)++e))
      refine List.Perm.cons _ ?_
      rw [List.append_assoc,List.append_assoc]
      exact List.Perm.append_left _ List.perm_append_comm
end
end Pu
namespace Pu
open PySem L2 Vc Sf
section
variable {K:PySem.W.Frag} {k:Md} {lo:Nat} {us:List V} {Fb Hb F H F' H' F1 H1:Hp} {σ:St} {ρ:List Tr} {cs:Nat→Cs} {B:Bool→Hp}
def wPl (K:PySem.W.Frag) (ρ:List Tr) (i:Nat) (r:List Str) (Q:Tr→(Tr→List Tr)→Prop):Prop:=match ρ[i]? with
  | some .hole => False
  | some t => okR K t r ∧ Q (getR t r) fun u => ρ.set i (setR t r u)
  | none => False
theorem e'T {i:Nat} {r:List Str} {Q:Tr→(Tr→List Tr)→Prop} (h:wPl K ρ i r Q):∃ t,ρ[i]?=some t∧t≠.hole∧okR K t r∧Q (getR t r) fun u=>ρ.set i (setR t r u):=by
  unfold wPl at h
  split at h
  · exact h.elim
  · rename_i t ne e
    exact⟨t,e,ne,h.1,h.2⟩
  · exact h.elim
theorem Rs.set:∀ {xs:List Tr} {vs:List V} {ds:Cs} (n:Nat) {t:Tr} {v:V},Rs K F B xs vs ds→R K F B t v []→∃ ds',Rs K F B (xs.set n t) (vs.set n v) ds'∧ds'.Sublist ds
  | [], _, ds, n, _, _, ⟨h1, h2⟩, _ => ⟨[], by rw [h1]; exact ⟨rfl, rfl⟩, by rw [h2]; exact List.Sublist.refl _⟩
  | x :: xs, _, _, 0, _, _, ⟨v, r, c, d, h1, h2, h3, h4⟩, rt => ⟨d, by rw [h1]; exact ⟨_, r, [], d, rfl, rfl, rt, h4⟩, by rw [h2]; exact List.sublist_append_right c d⟩
  | x :: xs, _, _, n + 1, _, _, ⟨v, r, c, d, h1, h2, h3, h4⟩, rt => by
    obtain⟨d',a1,a2⟩:=Rs.set (xs:=xs) n h4 rt
    exact⟨c++d',by rw [h1];exact⟨v,_,c,d',rfl,rfl,h3,a1⟩,by rw [h2];exact a2.append_left c⟩
theorem Rs.snoc {xs:List Tr} {vs:List V} {ds e:Cs} {t:Tr} {v:V} (h:Rs K F B xs vs ds) (rt:R K F B t v e):Rs K F B (xs++[t]) (vs++[v]) (ds++e):=h.append ⟨v,[],e,[],rfl,by rw [List.append_nil],rt,rfl,rfl⟩
theorem Wld.heldLe {t:Tr} {v:V} {c:Cs} (W:Wld K k lo us Fb Hb F H σ ρ cs) (o:Out K F (Bq Hb H) H F' H' t v c) (n:nlt t=true) :
    ∃ F'',Wld K k lo us Fb Hb F'' H' σ ρ cs∧R K F'' (fun _=>Hb) (frz t) v []∧Le F F'':=by
  obtain⟨n1,d1⟩:=W.fresh o
  obtain⟨F2,W2,s2,e2⟩:=(W.gr o.g).lay o.c n1 (o.r.plain t) d1
  exact⟨F2,W2,(R.low (B':=fun _=>Hb) t n rfl o.r).frz (Le.of s2) t e2,Le.trans o.g.le (Le.of s2)⟩
theorem d'L:New Hb []:=fun _ m=>nomatch m
theorem c'D {cs:Nat→Cs}:∀ (j:Nat),∀ p∈cs j,∀ q∈([]:Cs),p.1≠q.1:=fun _ _ _ _ m=>nomatch m
def wOwnL (u:Tr) (Q:List Tr→Prop):Prop:=match u with | .lst .o xs=>Q xs | _=>False
theorem e'U {u:Tr} {Q:List Tr→Prop} (h:wOwnL u Q):∃ xs,u=.lst .o xs∧Q xs:=by
  unfold wOwnL at h
  split at h
  · exact⟨_,rfl,h⟩
  · exact h.elim
def pApp (K:PySem.W.Frag) (i:Nat) (r:List Str) (pe:PE'):PS':=fun D ρ=>wPl K ρ i r fun u s=>wOwnL u fun xs=>pe (ρ.map lend) fun t=>nlt t=true∧xs.length<1000000∧D.nx (s (.lst .o (xs++[frz t])))
theorem l'y {i:Nat} {r:List Str} {te:TE} {pe:PE'} (h:Sim K k te pe):SimS K k lo (tDrop (tBM K "list" rAppend (tR K i r) (tCons te tNil))) (pApp K i r pe):=fun us Fb Hb F H σ ρ cs D D' W p L=>by
  obtain⟨t,e1,e2,e3,p⟩:=e'T p
  obtain⟨xs,eg,p⟩:=e'U p
  obtain⟨w,c,r1,sub,hc,rd,cl⟩:=W.at e1 e2 r e3
  rw [eg] at r1
  obtain⟨a,vs,ds,rfl,h2,h3⟩:=r1
  have ha:H a=some (.lst vs):=hc.h (a,.lst vs) (by rw [h2];exact .head _)
  refine rd _ ⟨k'P ha,h F (Bq Hb H) H σ _ _ _ W.cxt p fun u v F1 H1 c1 q o=>?_⟩
  obtain⟨F2,W2,r2,l2⟩:=W.heldLe o q.1
  have ha1:H1 a=some (.lst vs):=o.g.h _ _ ha
  obtain⟨cs',W3⟩:=cl F2 H1 W2 l2 a (.lst vs) (.lst (vs++[v])) ds ds [] (.lst .o (xs++[frz u])) ((a,.lst (vs++[v])) :: (ds++[])) h2 (List.Sublist.refl _) .nil d'L c'D (List.Perm.refl _) ⟨a,vs++[v],ds++[],rfl,rfl,(h3.mo l2 (fun _=>Le.refl _) xs).snoc r2⟩
  exact⟨a,vs,v,rfl,rfl,ha1,Nat.lt_of_lt_of_le (by rw [h3.length];exact q.2.1) (by decide),L.nx F2 _ σ _ cs' W3 q.2.2⟩
def wSetL (xs:List Tr) (y t:Tr) (Q:List Tr→Prop):Prop:=match y with | .int j=>(match ixN xs.length j with | some n=>Q (xs.set n t) | none=>False) | _=>False
def pSetL (K:PySem.W.Frag) (i:Nat) (r:List Str) (pj pe:PE'):PS':=fun D ρ=>pe (ρ.map lend) fun t=>nlt t=true∧wPl K ρ i r fun u s=>wOwnL u fun xs=>pj (ρ.map lend) fun y=>wSetL xs y (frz t) fun xs'=>D.nx (s (.lst .o xs'))
theorem j'e {i:Nat} {r:List Str} {te tj:TE} {pe pj:PE'} (h:Sim K k te pe) (hj:Sim K k tj pj):SimS K k lo (tAsg te (gSub (tR K i r) tj rSetL)) (pSetL K i r pj pe):=fun us Fb Hb F H σ ρ cs D D' W p L=>by
  refine h F (Bq Hb H) H σ _ _ _ W.cxt p fun u v F1 H1 c1 q o=>?_
  obtain⟨F2,W2,r2,l2⟩:=W.heldLe o q.1
  obtain⟨t,e1,e2,e3,p⟩:=e'T q.2
  obtain⟨xs,eg,p⟩:=e'U p
  obtain⟨w,c,r1,sub,hc,rd,cl⟩:=W2.at e1 e2 r e3
  rw [eg] at r1
  obtain⟨a,vs,ds,rfl,h2,h3⟩:=r1
  have ha:H1 a=some (.lst vs):=hc.h (a,.lst vs) (by rw [h2];exact .head _)
  refine rd _ (hj F2 (Bq Hb H1) H1 σ _ _ _ W2.cxt p fun y vy F3 H3 c3 q3 o3=>?_)
  unfold wSetL at q3
  split at q3
  · obtain⟨rfl,_⟩:=o3.r
    split at q3
    · rename_i n en
      obtain⟨ds',a1,a2⟩:=(h3.mo o3.g.le (fun _=>Le.refl _) xs).set n (r2.mo o3.g.le (fun _=>Le.refl _) _)
      obtain⟨cs',W4⟩:=cl F3 H3 (W2.gr o3.g) o3.g.le a (.lst vs) (.lst (vs.set n v)) ds ds' [] (.lst .o (xs.set n (frz u))) ((a,.lst (vs.set n v)) :: (ds'++[])) h2 a2 .nil d'L c'D (List.Perm.refl _) ⟨a,_,ds'++[],rfl,rfl,by rw [List.append_nil];exact a1⟩
      exact⟨a,vs,_,n,rfl,rfl,o3.g.h _ _ ha,by rw [h3.length];exact en,L.nx F3 _ σ _ cs' W4 q3⟩
    · exact q3.elim
  · exact q3.elim
def putT (m:List (Key×Tr)) (y:Key) (t:Tr):List (Key×Tr):=
  if (m.any fun kv=>decide (kv.1=y))=true then m.map (fun kv=>if kv.1=y then (kv.1,t) else kv) else m++[(y,t)]
theorem Rk.any:∀ {m:List (Key×Tr)} {vs:List (Key×V)} {ds:Cs} {y:Key},Rk K F B m vs ds→(vs.any fun kv=>decide (kv.1=y))=m.any fun kv=>decide (kv.1=y)
  | [], _, _, y, ⟨h, _⟩ => by rw [h]; rfl
  | (k, x) :: m, _, _, y, ⟨v, r, c, d, h1, h2, h3, h4⟩ => by rw [h1, List.any_cons, List.any_cons, Rk.any h4]
theorem Rk.rep:∀ {m:List (Key×Tr)} {vs:List (Key×V)} {ds:Cs} {y:Key} {t:Tr} {v:V},Rk K F B m vs ds→R K F B t v []→∃ ds',Rk K F B (m.map (fun kv=>if kv.1=y then (kv.1,t) else kv)) (vs.map (fun kv=>if kv.1=y then (kv.1,v) else kv)) ds'∧ds'.Sublist ds
  | [], _, _, y, _, _, ⟨h, h'⟩, _ => ⟨[], by rw [h]; exact ⟨rfl, rfl⟩, by rw [h']; exact List.Sublist.refl _⟩
  | (k, x) :: m, _, _, y, t, w, ⟨v, r, c, d, h1, h2, h3, h4⟩, rt => by
    obtain⟨d',a1,a2⟩:=Rk.rep (y:=y) h4 rt
    by_cases e:k=y
    · refine⟨d',?_,by rw [h2];exact a2.trans (List.sublist_append_right c d)⟩
      rw [h1,List.map_cons,List.map_cons]
      show Rk K F B ((if k=y then (k,t) else (k,x)) :: _) ((if k=y then (k,w) else (k,v)) :: _) _
      rw [if_pos e,if_pos e]
      exact⟨w,_,[],d',rfl,rfl,rt,a1⟩
    · refine⟨c++d',?_,by rw [h2];exact a2.append_left c⟩
      rw [h1,List.map_cons,List.map_cons]
      show Rk K F B ((if k=y then (k,t) else (k,x)) :: _) ((if k=y then (k,w) else (k,v)) :: _) _
      rw [if_neg e,if_neg e]
      exact⟨v,_,c,d',rfl,rfl,h3,a1⟩
theorem Rk.append:∀ {m n:List (Key×Tr)} {vs us:List (Key×V)} {c d:Cs},Rk K F B m vs c→Rk K F B n us d→Rk K F B (m++n) (vs++us) (c++d)
  | [], _, _, _, _, _, ⟨h1, h2⟩, h => by rw [h1, h2]; exact h
  | (k, x) :: m, _, _, _, _, _, ⟨v, r, c, d, h1, h2, h3, h4⟩, h => by rw [h1, h2]; exact ⟨v, r ++ _, c, d ++ _, rfl, by rw [List.append_assoc], h3, Rk.append h4 h⟩
theorem Rk.put {m:List (Key×Tr)} {vs:List (Key×V)} {ds:Cs} {y:Key} {t:Tr} {v:V} (h:Rk K F B m vs ds) (rt:R K F B t v []):∃ ds',Rk K F B (putT m y t) (putK vs y v) ds'∧ds'.Sublist ds:=by
  unfold putT putK
  rw [h.any]
  split
  · exact h.rep rt
  · exact⟨ds++[],h.append ⟨v,[],[],[],rfl,rfl,rt,rfl,rfl⟩,by rw [List.append_nil];exact List.Sublist.refl _⟩
theorem h'K {m:List (Key×Tr)} (n:(m.map (·.1)).Nodup) (y:Key) (t:Tr):((putT m y t).map (·.1)).Nodup:=by
  unfold putT
  split
  · have e:(m.map fun kv=>if kv.1=y then (kv.1,t) else kv).map (·.1)=m.map (·.1):=by
      rw [List.map_map]
      refine List.map_congr_left fun p _=>?_
      show (if p.1=y then (p.1,t) else p).1=p.1
      split<;>rfl
    rw [e];exact n
  · rename_i h
    rw [List.map_append,List.nodup_append]
    refine⟨n,List.nodup_cons.mpr ⟨fun z=>(nomatch z),List.nodup_nil⟩,fun a ma b mb e=>h ?_⟩
    obtain⟨p,mp,rfl⟩:=List.mem_map.mp ma
    rw [List.mem_singleton.mp mb] at e
    exact List.any_eq_true.mpr ⟨p,mp,decide_eq_true e⟩
def wOwnD (u:Tr) (Q:List (Key×Tr)→Prop):Prop:=match u with | .dic .o xs=>Q xs | _=>False
theorem j'f {u:Tr} {Q:List (Key×Tr)→Prop} (h:wOwnD u Q):∃ xs,u=.dic .o xs∧Q xs:=by
  unfold wOwnD at h
  split at h
  · exact⟨_,rfl,h⟩
  · exact h.elim
def wKey (y:Tr) (Q:Key→Prop):Prop:=match keyT y with | some y=>Q y | none=>False
def pPut (K:PySem.W.Frag) (i:Nat) (r:List Str) (pj pe:PE'):PS':=fun D ρ=>pe (ρ.map lend) fun t=>nlt t=true∧wPl K ρ i r fun u s=>wOwnD u fun m=>pj (ρ.map lend) fun y=>wKey y fun y=>m.length<1000000∧D.nx (s (.dic .o (putT m y (frz t))))
theorem l'z {i:Nat} {r:List Str} {te tj:TE} {pe pj:PE'} (h:Sim K k te pe) (hj:Sim K k tj pj):SimS K k lo (sDPut (tR K i r) tj te) (pPut K i r pj pe):=fun us Fb Hb F H σ ρ cs D D' W p L=>by
  refine h F (Bq Hb H) H σ _ _ _ W.cxt p fun u v F1 H1 c1 q o=>?_
  obtain⟨F2,W2,r2,l2⟩:=W.heldLe o q.1
  obtain⟨t,e1,e2,e3,p⟩:=e'T q.2
  obtain⟨m,eg,p⟩:=j'f p
  obtain⟨w,c,r1,sub,hc,rd,cl⟩:=W2.at e1 e2 r e3
  rw [eg] at r1
  obtain⟨a,vs,ds,rfl,h2,h3,h4⟩:=r1
  have ha:H1 a=some (.dK vs):=hc.h (a,.dK vs) (by rw [h2];exact .head _)
  refine rd _ (hj F2 (Bq Hb H1) H1 σ _ _ _ W2.cxt p fun y vy F3 H3 c3 q3 o3=>?_)
  unfold wKey at q3
  split at q3
  · rename_i yk ey
    obtain rfl:=d't o3.r ey
    obtain⟨ds',a1,a2⟩:=(h3.mo o3.g.le (fun _=>Le.refl _) m).put (y:=yk) (r2.mo o3.g.le (fun _=>Le.refl _) _)
    obtain⟨cs',W4⟩:=cl F3 H3 (W2.gr o3.g) o3.g.le a (.dK vs) (.dK (putK vs yk v)) ds ds' [] (.dic .o (putT m yk (frz u))) ((a,.dK (putK vs yk v)) :: (ds'++[])) h2 a2 .nil d'L c'D (List.Perm.refl _) ⟨a,_,ds'++[],rfl,rfl,by rw [List.append_nil];exact a1,h'K h4 _ _⟩
    exact⟨a,_,rfl,DPut.k (o3.g.h _ _ ha) (Nat.lt_of_lt_of_le (by rw [h3.length];exact q3.1) (by decide)),L.nx F3 _ σ _ cs' W4 q3.2⟩
  · exact q3.elim
def pDnew:PE':=fun _ Q=>Q (.dic .o [])
theorem j'g:Sim K k tDNewK pDnew:=fun F B H σ ρ Q Q' c p q a ha=>q _ _ F _ _ p ⟨Gr.own1 c.s ha,⟨a,[],[],rfl,rfl,⟨rfl,rfl⟩,List.nodup_nil⟩,d'J c.s .nil ha,fun p m=>by
  cases m with
  | head => exact ha
  | tail _ m => nomatch m⟩
def putf (f:Str) (u:Tr):List (Str×Tr)→List (Str×Tr)
  | [] => [(f, u)]
  | (g, x) :: r => if g = f then (g, u) :: r else (g, x) :: putf f u r
def wOwnI (K:PySem.W.Frag) (f:Str) (u:Tr) (Q:Addr→List (Str×Tr)→Prop):Prop:=match u with | .ins .o c fs=>(Cls K c∧NoAttr K c f)∧fs.length<900∧Q c fs | _=>False
def pFldS (K:PySem.W.Frag) (i:Nat) (r:List Str) (f:Str) (pe:PE'):PS':=fun D ρ=>pe (ρ.map lend) fun t=>nlt t=true∧wPl K ρ i r fun u s=>wOwnI K f u fun c fs=>D.nx (s (.ins .o c (putf f t fs)))
end
end Pu
namespace Pu
open PySem L2 Vc Sf
section
variable {K:PySem.W.Frag} {k:Md} {lo:Nat} {us:List V} {Fb Hb F H F' H' F1 H1:Hp} {σ:St} {ρ:List Tr} {cs:Nat→Cs}
theorem l'A {Hb:Hp} {a:Addr} {ob:Obj} {vs:List (Key×V)} (h:Hb a=none∨Hb a=some (.dK vs)):Le (fz Hb a (.frz ob (.dK vs))) Hb:=fun b u n r=>by
  by_cases e:b=a
  · subst e
    rcases h with h | h
    · rcases r with r | ⟨o,r⟩<;>(rw [a'W,if_pos h] at r;cases r)
    · have z:fz Hb b (.frz ob (.dK vs)) b=some (.frz ob (.dK vs)):=by rw [a'W,if_neg (by rw [h];intro z;cases z)]
      rcases r with r | ⟨o,r⟩
      · rw [z] at r;cases r;exact absurd rfl (n _ _)
      · rw [z] at r;cases r;exact .inl h
  · rcases r with r | ⟨o,r⟩
    · rw [a'C e] at r;exact .inl r
    · rw [a'C e] at r;exact .inr ⟨o,r⟩
theorem Wld.walk {a:Addr} {ob:Obj} {vs:List (Key×V)} (W:Wld K k lo us F Hb F H σ ρ cs) (hF:F a=some (.dK vs)):Wld K k.walk lo us (fz F a (.frz ob (.dK vs))) (fz Hb a (.frz ob (.dK vs))) (fz F a (.frz ob (.dK vs))) (upd H a (.frz ob (.dK vs))) σ ρ cs:=by
  have hH:H a=some (.dK vs):=W.g.s _ _ hF
  have hB:Hb a=none∨Hb a=some (.dK vs):=by
    cases q:Hb a with
    | none=>exact .inl rfl
    | some u=>have:=W.g.h _ _ q;rw [hH] at this;exact .inr this.symm
  have ne:∀ i,∀ p∈cs i,p.1≠a:=fun i p m e=>by have:=(W.c i).f p m;rw [e,hF] at this;cases this
  refine⟨⟨q'u _ W.g.toGr0,Fz.refl _⟩,fun h=>(by cases h),W.l,fun i t h=>(W.e i t h).imp id fun ⟨v,h1,h2⟩=>⟨v,h1,h2.mo (e's (.inr hF)) (fun _=>e's hB) t⟩,fun i=>⟨fun p m=>?_,fun p m=>?_,(W.c i).nd⟩,fun i p m=>?_,W.d,W.p,fun _ _ _ _ h=>h.elim⟩
  · rw [a'h (ne i p m)];exact (W.c i).h p m
  · rw [a'C (ne i p m)];exact (W.c i).f p m
  · rw [a'C (ne i p m)];exact W.n i p m
theorem Wld.thaw (hz:k.z=true) {a:Addr} {ob:Obj} {vs:List (Key×V)} (W0:Wld K k lo us F1 Hb F1 H1 σ ρ cs) (hF:F1 a=some (.dK vs)) {σ':St} {ρ':List Tr} {cs':Nat→Cs} (W:Wld K k.walk lo us (fz F1 a (.frz ob (.dK vs))) (fz Hb a (.frz ob (.dK vs))) F H σ' ρ' cs') :
    H a=some (.frz ob (.dK vs))∧∃ F'',Wld K k lo us F1 Hb F'' (upd H a (.dK vs)) σ' ρ' cs'∧Le F F''∧(∀ b,b≠a→F'' b=F b)∧(∀ b,F b=none→b≠a):=by
  have hH:H1 a=some (.dK vs):=W0.g.s _ _ hF
  have hB:Hb a=none∨Hb a=some (.dK vs):=by
    cases q:Hb a with
    | none=>exact .inl rfl
    | some u=>have:=W0.g.h _ _ q;rw [hH] at this;exact .inr this.symm
  have fa:fz F1 a (.frz ob (.dK vs)) a=some (.frz ob (.dK vs)):=by rw [a'W,if_neg (by rw [hF];intro z;cases z)]
  have sF:F a=some (.frz ob (.dK vs)):=W.g.f _ _ fa
  have hHa:H a=some (.frz ob (.dK vs)):=W.g.s _ _ sF
  have cm:Fz (fun b=>b=a∨S0 b) F:=fun b o u e=>by
    obtain⟨o',u',e'⟩:=W.g.z b o u e
    by_cases eb:b=a
    · exact .inl eb
    · rw [a'C eb] at e';exact .inr (W0.z hz b o' u' e')
  obtain⟨F2,g2,z2,l2,e2,n2,b2,c2⟩:=r'Y (Fb:=F1) (Hb:=Hb) (F:=F1) (H:=H1) (S:=S0) W0.g.toGr0 hH (.inr hF) W.g.toGr0 (sF.trans fa.symm) cm
  have ne:∀ i,∀ p∈cs' i,p.1≠a:=fun i p m e=>by have:=(W.c i).f p m;rw [e,sF] at this;cases this
  refine⟨hHa,F2,⟨⟨g2,fun b o u e=>(z2 b o u e).elim⟩,fun _=>z2,W.l,fun i t h=>(W.e i t h).imp id fun ⟨v,h1,h2⟩=>⟨v,h1,h2.mo l2 (fun _=>l'A hB) t⟩,fun i=>⟨fun p m=>?_,fun p m=>?_,(W.c i).nd⟩,fun i p m=>?_,W.d,W.p,W0.x⟩,l2,b2,fun b e z=>?_⟩
  · rw [a'h (ne i p m)];exact (W.c i).h p m
  · rw [b2 _ (ne i p m)];exact (W.c i).f p m
  · have:=W.n i p m;rw [a'C (ne i p m)] at this;exact this
  · rw [z,sF] at e;cases e
def keyTr:Key→Tr | .inl n=>.int n | .inr s=>.str s
inductive Wm where | it | ks | vs
def wit:Wm→Key×Tr→Tr
  | .it, p => .tup [keyTr p.1, p.2]
  | .ks, p => keyTr p.1
  | .vs, p => p.2
def wDicF (t:Tr) (Q:List (Key×Tr)→Prop):Prop:=match t with | .dic .f m=>Q m | _=>False
def pForD (w:Wm) (pe:PE') (pg:PG') (pb:PS'):PS':=fun D ρ=>pe (ρ.map lend) fun t=>nlt t=true∧wDicF (frz t) fun m=>∃ I:Nat→List Tr→Prop,I 0 ρ∧(∀ i p ρ,m[i]?=some p→I i ρ→pg (wit w p) ρ fun ρ'=>pb { D with nx:=I (i+1),ct:=I (i+1),bk:=D.nx } ρ')∧∀ ρ,I m.length ρ→D.nx ρ
theorem Rk.nil_at {B:Bool→Hp}:∀ {m:List (Key×Tr)} {vs:List (Key×V)} {i:Nat} {y:Key} {v:V},Rk K F B m vs []→vs[i]?=some (y,v)→∃ t,m[i]?=some (y,t)∧R K F B t v []
  | [], _, i, y, v, ⟨h, _⟩, e => by rw [h] at e; cases e
  | (y', x) :: m, _, 0, y, v, ⟨u, r, c, d, h1, h2, h3, h4⟩, e => by
    rw [h1] at e
    cases e
    have z:=List.append_eq_nil_iff.mp h2.symm
    rw [z.1] at h3
    exact⟨x,rfl,h3⟩
  | (y', x) :: m, _, i + 1, y, v, ⟨u, r, c, d, h1, h2, h3, h4⟩, e => by
    rw [h1] at e
    have z:=List.append_eq_nil_iff.mp h2.symm
    rw [z.2] at h4
    exact Rk.nil_at (i:=i) h4 e
theorem k'b {B:Bool→Hp} {y:Key}:R K F B (keyTr y) (kV y) []:=by
  cases y with
  | inl n => exact ⟨rfl, rfl⟩
  | inr n => exact ⟨rfl, rfl⟩
theorem l'B (hz:k.z=true) {X:Cx} {a:Addr} {ob:Obj} {vs:List (Key×V)} {D:Ends} {D':Pd} (hna:∀ o u,X.H₀ a≠some (.frz o u)) (W0:Wld K k lo us F1 Hb F1 H1 σ ρ cs) (hF:F1 a=some (.dK vs)) (L:Lk K k lo us F1 Hb D D'):Lk K k.walk lo us (fz F1 a (.frz ob (.dK vs))) (fz Hb a (.frz ob (.dK vs))) (ThawD X D) D':=by
  refine⟨fun F H σ ρ cs W q=>?_,fun F H σ ρ cs v t c W r hc n d nl q=>?_,fun F H σ ρ cs W q=>?_,fun F H σ ρ cs W q=>?_⟩
  · obtain⟨h1,F2,W2,_⟩:=W0.thaw hz hF W
    exact⟨a,ob,vs,h1,hna,L.nx F2 _ σ ρ cs W2 q⟩
  · obtain⟨h1,F2,W2,l2,b2,f2⟩:=W0.thaw hz hF W
    refine⟨a,ob,vs,h1,hna,L.rt F2 _ σ ρ cs v t c W2 ((r.mo l2 (fun _=>Le.refl _) t).base t nl) ⟨fun p m=>?_,fun p m=>?_,hc.nd⟩ (fun p m=>?_) d nl q⟩
    · rw [a'h (f2 _ (hc.f p m))];exact hc.h p m
    · rw [b2 _ (f2 _ (hc.f p m))];exact hc.f p m
    · have:=n p m;rw [a'C (f2 _ (hc.f p m))] at this;exact this
  · obtain⟨h1,F2,W2,_⟩:=W0.thaw hz hF W
    exact⟨a,ob,vs,h1,hna,L.bk F2 _ σ ρ cs W2 q⟩
  · obtain⟨h1,F2,W2,_⟩:=W0.thaw hz hF W
    exact⟨a,ob,vs,h1,hna,L.ct F2 _ σ ρ cs W2 q⟩
theorem e'e {a:Addr} {ob:Obj} {vs:List (Key×V)} {m:List (Key×Tr)} (W0:Wld K k lo us F1 Hb F1 H1 σ ρ cs) (hF:F1 a=some (.dK vs)) (r:Rk K F1 (fun _=>Hb) m vs []) {σ':St} {ρ':List Tr} {cs':Nat→Cs} (W:Wld K k.walk lo us (fz F1 a (.frz ob (.dK vs))) (fz Hb a (.frz ob (.dK vs))) F H σ' ρ' cs') :
    H a=some (.frz ob (.dK vs))∧Rk K F (fun _=>fz Hb a (.frz ob (.dK vs))) m vs []:=by
  have hB:Hb a=none∨Hb a=some (.dK vs):=by
    cases q:Hb a with
    | none=>exact .inl rfl
    | some u=>have:=W0.g.h _ _ q;rw [W0.g.s _ _ hF] at this;exact .inr this.symm
  have fa:fz F1 a (.frz ob (.dK vs)) a=some (.frz ob (.dK vs)):=by rw [a'W,if_neg (by rw [hF];intro z;cases z)]
  exact⟨W.g.s _ _ (W.g.f _ _ fa),r.mo (Le.trans (e's (.inr hF)) (Le.of W.g.f)) (fun _=>e's hB) m⟩
theorem j'h (hz:k.z=true) {X:Cx} {te:TE} {pe:PE'} {tg:TG} {pg:PG'} {tb:TS} {pb:PS'} (h:Sim K k te pe) (hg:SimG K k.walk lo tg pg) (hb:SimS K k.walk lo tb pb):SimS K k lo (tForD X te tg tb) (pForD .it pe pg pb):=fun us Fb Hb F H σ ρ cs D D' W p L=>by
  refine h F (Bq Hb H) H σ _ _ _ W.cxt p fun t v F1 H1 c p1 o=>?_
  obtain⟨F2,W2,r2⟩:=W.held o p1.1
  have p2:=p1.2
  unfold wDicF at p2
  split at p2
  · rename_i m em
    rw [em] at r2
    obtain⟨_,a,vs,rfl,h2,h3,h4⟩:=r2
    have hF:=f'T (W2.z hz) h2
    obtain⟨I,i0,step,fin⟩:=p2
    have W3:=W2.rebase
    have L1:=L.rebase W2
    refine⟨a,vs,rfl,W2.g.s _ _ hF,fun ob hna=>?_⟩
    have L2:=l'B hz (X:=X) (ob:=ob) hna W3 hF L1
    refine h'l (fun i σ H=>∃ F ρ cs,Wld K k.walk lo us (fz F2 a (.frz ob (.dK vs))) (fz Hb a (.frz ob (.dK vs))) F H σ ρ cs∧I i ρ) ⟨_,ρ,cs,W3.walk hF,i0⟩ ?_ ?_ ?_
    · rintro i σ H hi ⟨F,ρ,cs,W,_⟩
      exact (e'e W3 hF h3 W).1
    · rintro i y u σ H p e ⟨F,ρ,cs,W,ii⟩ hp
      obtain⟨_,rk⟩:=e'e W3 hF h3 W
      obtain⟨tu,e1,e2⟩:=rk.nil_at e
      obtain⟨F4,g4,r4,_⟩:=c'K (xs:=[keyTr y,tu]) (cs:=[]) W.g.s ⟨kV y,[u],[],[],rfl,rfl,k'b,u,[],[],[],rfl,rfl,e2,rfl,rfl⟩ .nil hp
      refine hg us _ _ F4 _ σ ρ cs _ _ _ _ (W.gr g4) r4 (step i (y,tu) ρ e1 ii) fun σ' ρ' cs' W' p'=>?_
      exact hb us _ _ F4 _ σ' ρ' cs' _ _ W' p' ⟨fun F H σ ρ cs W q=>⟨F,ρ,cs,W,q⟩,L2.rt,L2.nx,fun F H σ ρ cs W q=>⟨F,ρ,cs,W,q⟩⟩
    · rintro σ H ⟨F,ρ,cs,W,q⟩
      exact L2.nx F H σ ρ cs W (fin ρ (by rw [← h3.length];exact q))
  · exact p2.elim
end
end Pu
namespace Pu
open PySem L2 Vc Sf
section
variable {X:Cx}
def rLenU (K:PySem.W.Frag):List V→Hp→VK→Prop:=fun xs H Q=>(fun xs H Q=>∃ x n,xs=[x]∧LenV K x H n∧Q (.int n) H) xs H Q∨(fun xs H Q=>∃ a kvs,xs=[V.ref a]∧H a=some (.dK kvs)∧Q (.int kvs.length) H) xs H Q
theorem a'T:CallR X (.builtin "len") (rLenU X.K):=call_len.or h'k
def rListU (K:PySem.W.Frag):List V→Hp→VK→Prop:=fun xs H Q=>(fun xs H Q=>∃ p ys,xs=[.ref p]∧(SqL K H p ys∨SqT K H p ys)∧∀ l,H l=none→Q (.ref l) (upd H l (.lst ys))) xs H Q∨(fun xs H Q=>∃ a kvs,xs=[.ref a]∧Rd H a (.dK kvs)∧∀ p,H p=none→Q (.ref p) (upd H p (.lst (kvs.map fun kv=>kV kv.1)))) xs H Q
theorem b'O (hc:X.calm=true):CallR X (.type "list") (rListU X.K):=call_list_of.or (g'y hc)
def rInU (K:PySem.W.Frag):R2:=fun x y H Q=>rIn K false x y H Q∨rInD false x y H Q
theorem o'q (hu:X.A.units+1<cLine):OpR X (compareOp .In) (rInU X.K):=op_in_seq.or (o'h hu)
def rSlU (K:PySem.W.Frag):V→Option Int→Option Int→Hp→VK→Prop:=fun x l h H Q=>rSlL K x l h H Q∨rSlS x l h H Q
theorem s'a:SlR X (rSlU X.K):=sl_list.or n'X
end
section
variable {K:PySem.W.Frag} {k:Md} {lo:Nat} {us:List V} {Fb Hb F H F' H' F1 H1:Hp} {σ:St} {ρ:List Tr} {cs:Nat→Cs} {B:Bool→Hp}
def wLen (k:Bool) (ts:List Tr) (Q:Tr→Prop):Prop:=match ts with
  | [.str x] => x.length ≤ 1000000 ∧ Q (.int x.length)
  | [.lst _ xs] => Q (.int xs.length)
  | [.tup xs] => Q (.int xs.length)
  | [.dic .f m] => k = true ∧ Q (.int m.length)
  | [.dic .o m] => Q (.int m.length)
  | _ => False
theorem a'B:OpA K k (rLenU K) (wLen k.z):=fun F B H xs ts cx Q Q' s b z r hc p q=>by
  unfold wLen at p
  split at p
  · obtain⟨v,rfl,rfl,_⟩:=r.one
    exact .inl ⟨_,_,rfl,⟨b'X p.1,rfl⟩,q _ _ F H [] p.2 (Gr.refl' s) ⟨rfl,rfl⟩ .nil fun _ m=>nomatch m⟩
  · obtain⟨v,rfl,r1⟩:=r.one
    obtain⟨a,vs,ds,rfl,h1,h2,_⟩:=r1.lstH s b hc
    exact .inl ⟨_,_,rfl,.inl ⟨vs,h1,rfl⟩,q (.int vs.length) _ F H [] (by rw [← h2.length] at p;exact p) (Gr.refl' s) ⟨rfl,rfl⟩ .nil fun _ m=>nomatch m⟩
  · obtain⟨v,rfl,r1⟩:=r.one
    obtain⟨a,vs,rfl,h1,h2⟩:=r1.tupH s
    exact .inl ⟨_,_,rfl,.inr ⟨vs,h1,rfl⟩,q (.int vs.length) _ F H [] (by rw [← h2.length] at p;exact p) (Gr.refl' s) ⟨rfl,rfl⟩ .nil fun _ m=>nomatch m⟩
  · obtain⟨v,rfl,r1⟩:=r.one
    obtain⟨_,a,vs,rfl,h2,h3,h4⟩:=r1
    exact .inr ⟨a,vs,rfl,s _ _ (f'T (z p.1) h2),q (.int vs.length) _ F H [] (by rw [← h3.length] at p;exact p.2) (Gr.refl' s) ⟨rfl,rfl⟩ .nil fun _ m=>nomatch m⟩
  · obtain⟨v,rfl,r1⟩:=r.one
    obtain⟨a,vs,ds,rfl,h2,h3,h4⟩:=r1
    exact .inr ⟨a,vs,rfl,hc.h (a,.dK vs) (by rw [h2];exact .head _),q (.int vs.length) _ F H [] (by rw [← h3.length] at p;exact p) (Gr.refl' s) ⟨rfl,rfl⟩ .nil fun _ m=>nomatch m⟩
  · exact p.elim
theorem Rk.keysV:∀ {m:List (Key×Tr)} {vs:List (Key×V)} {ds:Cs},Rk K F B m vs ds→Rs K F B (m.map fun p=>keyTr p.1) (vs.map fun kv=>kV kv.1) []
  | [], _, _, ⟨h, _⟩ => by rw [h]; exact ⟨rfl, rfl⟩
  | (y, x) :: m, _, _, ⟨v, r, c, d, h1, h2, h3, h4⟩ => by rw [h1]; exact ⟨kV y, _, [], [], rfl, rfl, k'b, Rk.keysV h4⟩
theorem d'c {xs:List Tr} {vs:List V} {cs cx:Cs} {p:Addr} {Q:VK} {Q':Tr→Prop} (s:Same F H) (r:Rs K F B xs vs cs) (c:Cells F H cs) (sub:∀ p∈cs,p∈cx) (hp:H p=none) (h:Q' (.lst .o xs)) (q:∀ t v F' H' cs,Q' t→Gr F H F' H'→R K F' B t v cs→Cells F' H' cs→(∀ p∈cs,H p.1=none∨p∈cx)→Q v H'):Q (.ref p) (upd H p (.lst vs)):=by
  obtain⟨n1,n2,n3⟩:=c'L s r c hp
  refine q _ _ F _ _ h n1 n2 n3 fun p m=>?_
  cases m with
  | head => exact .inl hp
  | tail _ m => exact .inr (sub p m)
def wList (ts:List Tr) (Q:Tr→Prop):Prop:=match ts with
  | [.lst _ xs] => Q (.lst .o xs)
  | [.tup xs] => Q (.lst .o xs)
  | [.dic _ m] => Q (.lst .o (m.map fun p => keyTr p.1))
  | _ => False
theorem b'k:OpA K k (rListU K) wList:=fun F B H xs ts cx Q Q' s b z r hc p q=>by
  unfold wList at p
  split at p
  · obtain⟨v,rfl,r1⟩:=r.one
    obtain⟨a,vs,ds,rfl,h1,h2,h3,h4⟩:=r1.lstH s b hc
    exact .inl ⟨_,_,rfl,.inl h1,fun l hl=>d'c s h2 h3 h4 hl p q⟩
  · obtain⟨v,rfl,r1⟩:=r.one
    obtain⟨a,vs,rfl,h1,h2⟩:=r1.tupH s
    exact .inl ⟨_,_,rfl,.inr h1,fun l hl=>d'c s h2 hc (fun _ m=>m) hl p q⟩
  · obtain⟨v,rfl,r1⟩:=r.one
    obtain⟨a,vs,ds,rfl,h1,h2,h3,h4⟩:=r1.dicH s b hc
    exact .inr ⟨_,_,rfl,h1,fun l hl=>d'c s h2.keysV .nil (fun _ m=>nomatch m) hl p q⟩
  · exact p.elim
theorem R.dicN {f:Fl} {xs:List (Key×Tr)} {v:V} {cs:Cs} (r:R K F B (.dic f xs) v cs):(xs.map (·.1)).Nodup:=by
  cases f with
  | f => obtain ⟨_, _, _, _, _, _, h⟩ := r; exact h
  | l q => obtain ⟨_, _, _, _, _, _, h⟩ := r; exact h
  | o => obtain ⟨_, _, _, _, _, _, h⟩ := r; exact h
def wIntB (ts:List Tr) (Q:Tr→Prop):Prop:=match ts with
  | [.bl b] => Q (.int (if b = true then 1 else 0))
  | _ => False
theorem j'i:OpA K k (fun xs H Q=>∃ b,xs=[.bl b]∧Q (.int (if b=true then 1 else 0)) H) wIntB:=fun F B H xs ts cx Q Q' s b z r hc p q=>by
  unfold wIntB at p
  split at p
  · obtain⟨v,rfl,rfl,_⟩:=r.one
    exact⟨_,rfl,q _ _ F H [] p (Gr.refl' s) ⟨rfl,rfl⟩ .nil fun _ m=>nomatch m⟩
  · exact p.elim
def wMx (mx:Bool) (ts:List Tr) (Q:Tr→Prop):Prop:=match ts with
  | [.int i, .int j] => Q (.int (if mx = true then (if j > i then j else i) else (if j < i then j else i)))
  | _ => False
theorem g'c:OpA K k (fun xs H Q=>∃ i j,xs=[.int i,.int j]∧Q (.int (if j > i then j else i)) H) (wMx true):=fun F B H xs ts cx Q Q' s b z r hc p q=>by
  unfold wMx at p
  split at p
  · obtain⟨v,w,c,d,rfl,⟨rfl,_⟩,⟨rfl,_⟩,_⟩:=r.two
    exact⟨_,_,rfl,q _ _ F H [] p (Gr.refl' s) ⟨rfl,rfl⟩ .nil fun _ m=>nomatch m⟩
  · exact p.elim
theorem l'C:OpA K k (fun xs H Q=>∃ i j,xs=[.int i,.int j]∧Q (.int (if j<i then j else i)) H) (wMx false):=fun F B H xs ts cx Q Q' s b z r hc p q=>by
  unfold wMx at p
  split at p
  · obtain⟨v,w,c,d,rfl,⟨rfl,_⟩,⟨rfl,_⟩,_⟩:=r.two
    exact⟨_,_,rfl,q _ _ F H [] p (Gr.refl' s) ⟨rfl,rfl⟩ .nil fun _ m=>nomatch m⟩
  · exact p.elim
def clT:Tr→Option Value
  | .ty n => some (.type n) | .cl a => some (.ref a) | _ => none
def flatT:Tr→Bool
  | .int _ => true | .bl _ => true | .str _ => true | .non => true | _ => false
def valT:Tr→V
  | .int n => .int n | .bl b => .bl b | .str x => .str x | _ => .non
theorem e'V {t:Tr} {v:V} {cs:Cs} (r:R K F B t v cs) (h:flatT t=true):v=valT t∧flatV v=true:=by
  cases t with
  | int n => rw [r.1]; exact ⟨rfl, rfl⟩
  | bl n => rw [r.1]; exact ⟨rfl, rfl⟩
  | str n => rw [r.1]; exact ⟨rfl, rfl⟩
  | non => rw [r.1]; exact ⟨rfl, rfl⟩
  | _ => cases h
theorem d'M:∀ {ts:List Tr} {vs:List V} {cs:Cs},Rs K F B ts vs cs→ts.all flatT=true→vs=ts.map valT∧vs.all flatV=true
  | [], _, _, ⟨h, _⟩, _ => by rw [h]; exact ⟨rfl, rfl⟩
  | x :: xs, _, _, ⟨v, r, c, d, h1, h2, h3, h4⟩, h => by
    rw [List.all_cons,Bool.and_eq_true] at h
    obtain⟨a1,a2⟩:=e'V h3 h.1
    obtain⟨b1,b2⟩:=d'M h4 h.2
    rw [h1,b1,a1]
    exact⟨rfl,by rw [List.all_cons,← b1,b2,← a1,a2];rfl⟩
def inT (x:Tr) (xs:List Tr):Bool:=inV (valT x) (xs.map valT)
def wIn (neg:Bool) (x y:Tr) (Q:Tr→Prop):Prop:=match y with
  | .lst _ xs => flatT x = true ∧ xs.all flatT = true ∧ Q (.bl (if neg = true then !inT x xs else inT x xs))
  | .tup xs => flatT x = true ∧ xs.all flatT = true ∧ Q (.bl (if neg = true then !inT x xs else inT x xs))
  | .dic _ m => wKey x fun y => Q (.bl (if neg = true then !(look m y).isSome else (look m y).isSome))
  | _ => False
theorem l'D {neg:Bool}:Op2 K k (fun x y H Q=>rIn K neg x y H Q∨rInD neg x y H Q) (wIn neg):=fun F B H x y tx ty cx cy Q Q' s b z rx ry hx hy hd p q=>by
  unfold wIn at p
  split at p
  · obtain⟨h1,h2,p⟩:=p
    obtain⟨a,vs,ds,rfl,g1,g2,_⟩:=ry.lstH s b hy
    obtain⟨a1,a2⟩:=e'V rx h1
    obtain⟨b1,b2⟩:=d'M g2 h2
    refine .inl ⟨a,vs,rfl,.inl g1,a2,b2,q _ _ F H [] p (Gr.refl' s) ⟨?_,rfl⟩ .nil fun _ m=>nomatch m⟩
    rw [a1,b1];cases neg<;>rfl
  · obtain⟨h1,h2,p⟩:=p
    obtain⟨a,vs,rfl,g1,g2⟩:=ry.tupH s
    obtain⟨a1,a2⟩:=e'V rx h1
    obtain⟨b1,b2⟩:=d'M g2 h2
    refine .inl ⟨a,vs,rfl,.inr g1,a2,b2,q _ _ F H [] p (Gr.refl' s) ⟨?_,rfl⟩ .nil fun _ m=>nomatch m⟩
    rw [a1,b1];cases neg<;>rfl
  · obtain⟨a,vs,ds,rfl,g1,g2,g3,_⟩:=ry.dicH s b hy
    unfold wKey at p
    split at p
    · rename_i yk ey
      obtain rfl:=d't rx ey
      rcases g2.look yk g3 with ⟨z1,z2⟩ | ⟨x,u,c,a1,a2,_⟩
      · refine .inr ⟨a,none,rfl,.inl ⟨vs,yk,g1,rfl,z2.symm⟩,q _ _ F H [] p (Gr.refl' s) ⟨?_,rfl⟩ .nil fun _ m=>nomatch m⟩
        rw [z1];cases neg<;>rfl
      · refine .inr ⟨a,some u,rfl,.inl ⟨vs,yk,g1,rfl,a2.symm⟩,q _ _ F H [] p (Gr.refl' s) ⟨?_,rfl⟩ .nil fun _ m=>nomatch m⟩
        rw [a1];cases neg<;>rfl
    · exact p.elim
  · exact p.elim
theorem h'L:Op2 K k (rInU K) (wIn false):=l'D
def wGet2 (x y z:Tr) (Q:Tr→Prop):Prop:=match x with
  | .dic _ m => wKey y fun y => Q ((look m y).getD z)
  | _ => False
def p3 (pr:Tr→Tr→Tr→(Tr→Prop)→Prop) (pa pb pc:PE'):PE':=fun ρ Q=>pa ρ fun x=>(match x with | .dic _ _=>True | _=>False)∧pb ρ fun y=>pc ρ fun z=>pr x y z Q
theorem j'j {ta tb tc:TE} {pa pb pc:PE'} (ha:Sim K k ta pa) (hb:Sim K k tb pb) (hc:Sim K k tc pc):Sim K k (tDGet2 ta tb tc) (p3 wGet2 pa pb pc):=fun F B H σ ρ Q Q' c p q=>by
  refine ha F B H σ ρ _ _ c p fun x v F1 H1 c1 p1 o1=>?_
  obtain⟨hx,p1⟩:=p1
  cases x with
  | dic f m =>
    have bB:∀ {H'},Same H H'→∀ k,Same (B k) H':=fun s k=>(c.b k).trans s
    obtain⟨a,vs,ds,rfl,h1,h2,h3,h4⟩:=o1.r.dicH o1.g.s (bB o1.g.h) o1.c
    refine⟨a,rfl,.inl ⟨vs,h1⟩,hb F1 B H1 σ ρ _ _ (c.gr o1.g) p1 fun y u F2 H2 c2 p2 o2=>?_⟩
    refine hc F2 B H2 σ ρ _ _ ((c.gr o1.g).gr o2.g) p2 fun z w F3 H3 c3 p3 o3=>?_
    have g23:=o2.g.trans' o3.g
    unfold wGet2 wKey at p3
    dsimp only at p3
    split at p3
    · rename_i yk ey
      obtain rfl:=d't o2.r ey
      have rd3:Rd H3 a (.dK vs):=(g23.h).rd h1
      rcases (h2.mo g23.le (fun k=>Le.refl _) m).look yk (h3.gr g23) with ⟨z1,z2⟩ | ⟨x,u,d,a1,a2,a3,a4,a5⟩
      · rw [z1] at p3
        exact⟨none,.inl ⟨vs,yk,rd3,rfl,z2.symm⟩,q _ _ F3 H3 c3 p3 ⟨o1.g.trans' g23,o3.r,o3.c,o3.n.back (o1.g.h.trans o2.g.h)⟩⟩
      · rw [a1] at p3
        exact⟨some u,.inl ⟨vs,yk,rd3,rfl,a2.symm⟩,q _ _ F3 H3 d p3 ⟨o1.g.trans' g23,a3,a4,fun p m=>o1.n p (h4 p (a5 p m))⟩⟩
    · exact p3.elim
  | _ => exact hx.elim
abbrev PO':=List Tr→(Option Int→Prop)→Prop
def SimO (K:PySem.W.Frag) (k:Md) (te:TO) (pe:PO'):Prop:=∀ (F:Hp) (B:Bool→Hp) (H:Hp) (σ:St) (ρ:List Tr) (Q:Option Int→Hp→Prop) (Q':Option Int→Prop),Cxt K k F B H σ ρ→pe ρ Q'→(∀ b F' H',Q' b→Gr F H F' H'→Q b H')→te σ H Q
def poN:PO':=fun _ Q=>Q none
def poS (pe:PE'):PO':=fun ρ Q=>pe ρ fun x=>match x with | .int i=>Q (some i) | _=>False
theorem o'r:SimO K k tNoPart poN:=fun F B H σ ρ Q Q' c p q=>q none F H p (Gr.refl' c.s)
theorem o's {te:TE} {pe:PE'} (h:Sim K k te pe):SimO K k (tPart te) (poS pe):=fun F B H σ ρ Q Q' c p q=>by
  refine h F B H σ ρ _ _ c p fun x v F1 H1 c1 p1 o1=>?_
  split at p1
  · obtain⟨rfl,_⟩:=o1.r
    exact⟨_,rfl,q _ F1 H1 p1 o1.g⟩
  · exact p1.elim
def cutT {α:Type} (xs:List α) (l h:Option Int):List α:=(xs.drop (HT.sIx xs.length 0 l)).take (HT.sIx xs.length xs.length h - HT.sIx xs.length 0 l)
theorem Rs.drop:∀ (n:Nat) {xs:List Tr} {vs:List V} {ds:Cs},Rs K F B xs vs ds→Cells F H ds→∃ d,Rs K F B (xs.drop n) (vs.drop n) d∧Cells F H d∧∀ p∈d,p∈ds
  | 0, _, _, ds, h, hc => ⟨ds, h, hc, fun _ m => m⟩
  | n + 1, [], _, ds, ⟨h1, h2⟩, _ => ⟨[], by rw [h1]; exact ⟨rfl, rfl⟩, .nil, fun _ m => nomatch m⟩
  | n + 1, x :: xs, _, _, ⟨v, r, c, d, h1, h2, h3, h4⟩, hc => by
    rw [h2] at hc
    obtain⟨d',a1,a2,a3⟩:=Rs.drop n h4 hc.right
    exact⟨d',by rw [h1];exact a1,a2,fun p m=>by rw [h2];exact List.mem_append.mpr (.inr (a3 p m))⟩
theorem Rs.take:∀ (n:Nat) {xs:List Tr} {vs:List V} {ds:Cs},Rs K F B xs vs ds→Cells F H ds→∃ d,Rs K F B (xs.take n) (vs.take n) d∧Cells F H d∧∀ p∈d,p∈ds
  | 0, _, _, ds, h, hc => ⟨[], ⟨rfl, rfl⟩, .nil, fun _ m => nomatch m⟩
  | n + 1, [], _, ds, ⟨h1, h2⟩, _ => ⟨[], by rw [h1]; exact ⟨rfl, rfl⟩, .nil, fun _ m => nomatch m⟩
  | n + 1, x :: xs, _, _, ⟨v, r, c, d, h1, h2, h3, h4⟩, hc => by
    rw [h2] at hc
    obtain⟨d',a1,a2,a3⟩:=Rs.take n h4 hc.right
    refine⟨c++d',by rw [h1];exact⟨v,_,c,d',rfl,rfl,h3,a1⟩,hc.left.app a2 fun p mp q mq=>?_,fun p m=>by rw [h2];exact (List.mem_append.mp m).elim (fun m=>List.mem_append.mpr (.inl m)) fun m=>List.mem_append.mpr (.inr (a3 p m))⟩
    have:=hc.nd
    rw [List.map_append,List.nodup_append] at this
    exact this.2.2 _ (List.mem_map.mpr ⟨p,mp,rfl⟩) _ (List.mem_map.mpr ⟨q,a3 q mq,rfl⟩)
def wSl (x:Tr) (l h:Option Int) (Q:Tr→Prop):Prop:=match x with
  | .lst _ xs => Q (.lst .o (cutT xs l h))
  | .str x => x.length ≤ 1000000 ∧ Q (.str (Txt.slice x l h))
  | _ => False
def pSl (pe:PE') (pl ph:PO'):PE':=fun ρ Q=>pe ρ fun x=>pl ρ fun l=>ph ρ fun h=>wSl x l h Q
theorem o't {te:TE} {pe:PE'} {tl th:TO} {pl ph:PO'} (h:Sim K k te pe) (hl:SimO K k tl pl) (hh:SimO K k th ph):Sim K k (tSl (rSlU K) te tl th) (pSl pe pl ph):=fun F B H σ ρ Q Q' c p q=>by
  refine h F B H σ ρ _ _ c p fun x v F1 H1 c1 p1 o1=>?_
  refine hl F1 B H1 σ ρ _ _ (c.gr o1.g) p1 fun l F2 H2 p2 g2=>?_
  refine hh F2 B H2 σ ρ _ _ ((c.gr o1.g).gr g2) p2 fun h F3 H3 p3 g3=>?_
  have g23:=g2.trans' g3
  have c3:=(c.gr o1.g).gr g23
  have r3:=o1.r.mo g23.le (fun k=>Le.refl (B k)) x
  have hc3:=o1.c.gr g23
  unfold wSl at p3
  split at p3
  · obtain⟨a,vs,ds,rfl,h1,h2,h3,h4⟩:=r3.lstH c3.s c3.b hc3
    refine .inl ⟨a,vs,rfl,h1,fun l' hl'=>?_⟩
    obtain⟨d1,a1,a2,a3⟩:=h2.drop (HT.sIx vs.length 0 l) h3
    obtain⟨d2,b1,b2,b3⟩:=a1.take (HT.sIx vs.length vs.length h - HT.sIx vs.length 0 l) a2
    obtain⟨n1,n2,n3⟩:=c'L c3.s b1 b2 hl'
    refine q _ _ F3 _ _ p3 ⟨(o1.g.trans' g23).trans' n1,?_,n3,fun p m=>?_⟩
    · unfold cutT;rw [← h2.length];exact n2
    · cases m with
      | head=>exact (o1.g.h.trans g23.h).free hl'
      | tail _ m=>exact o1.n p (h4 p (a3 p (b3 p m)))
  · obtain⟨rfl,_⟩:=r3
    exact .inr ⟨_,rfl,b'X p3.1,q _ _ F3 H3 [] p3.2 ⟨o1.g.trans' g23,⟨rfl,rfl⟩,.nil,.nil⟩⟩
  · exact p3.elim
end
end Pu
namespace Pu
open PySem L2 Vc Sf
section
variable {K:PySem.W.Frag} {k:Md} {F H F' H' F1 H1:Hp} {σ:St} {ρ:List Tr} {B:Bool→Hp}
def pickT (ix:List (Option Nat)) (ρ:List Tr):List Tr:=ix.map fun o=>match o with | none=>.hole | some i=>(ρ[i]?).getD .hole
theorem EnvQ.pick {ix:List (Option Nat)} (e:EnvQ K F B σ ρ):EnvQ K F B (pickS ix σ) (pickT ix ρ):=fun j t h=>by
  unfold pickT at h
  rw [List.getElem?_map] at h
  cases q:ix[j]? with
  | none => rw [q] at h; cases h
  | some o =>
    rw [q] at h
    cases o with
    | none=>cases h;exact .inl rfl
    | some i=>
      cases z:ρ[i]? with
      | none=>
        have h:some ((ρ[i]?).getD .hole)=some t:=h
        rw [z] at h
        cases h;exact .inl rfl
      | some u=>
        have h:some ((ρ[i]?).getD .hole)=some t:=h
        rw [z] at h
        cases h
        refine (e i u z).imp id fun ⟨v,h1,h2⟩=>⟨v,?_,h2⟩
        unfold pickS
        rw [List.getElem?_map,q]
        show some ((σ[i]?).getD none)=_
        rw [h1];rfl
theorem g'I:∀ {a b:St},a.length=b.length→(∀ (i:Nat) (v:V),a[i]?=some (some v)→b[i]?=some (some v))→Wk a b
  | [], [], _, _ => .nil
  | [], _ :: _, h, _ => by cases h
  | _ :: _, [], h, _ => by cases h
  | none :: a, y :: b, h, g => .non (g'I (Nat.succ.inj h) fun i v e => g (i + 1) v e)
  | some x :: a, y :: b, h, g => by
    have e:=g 0 x rfl
    cases e
    exact .som (g'I (Nat.succ.inj h) fun i v e=>g (i+1) v e)
def SimQ (K:PySem.W.Frag) (js:List Nat) (tg:TG) (pg:PG'):Prop:=∀ (F:Hp) (B:Bool→Hp) (H:Hp) (σ:St) (ρ:List Tr) (x:V) (t:Tr) (Q:St→Hp→Prop) (Q':List Tr→Prop),Same F H→EnvQ K F B σ ρ→σ.length=ρ.length→R K F B t x []→pg t ρ Q'→(∀ σ' ρ',EnvQ K F B σ' ρ'→σ'.length=ρ'.length→σ'.length=σ.length→(∀ i,i ∉ js→σ'[i]?=σ[i]?)→Q' ρ'→Q σ' H)→tg x σ H Q
theorem EnvQ.set {i:Nat} {t:Tr} {x:V} (e:EnvQ K F B σ ρ) (hl:σ.length=ρ.length) (r:R K F B t x []):EnvQ K F B (σ.set i (some x)) (ρ.set i t):=fun j u h=>by
  by_cases ej:j=i
  · subst ej
    have hj:j<ρ.length:=by have:=j'Z h;rw [List.length_set] at this;exact this
    rw [List.getElem?_set_self hj] at h
    cases h
    exact .inr ⟨x,List.getElem?_set_self (by rw [hl];exact hj),r⟩
  · rw [List.getElem?_set_ne (fun z=>ej z.symm)] at h
    exact (e j u h).imp id fun ⟨v,h1,h2⟩=>⟨v,by rw [List.getElem?_set_ne (fun z=>ej z.symm)];exact h1,h2⟩
theorem o'u {i:Nat}:SimQ K [i] (gName i) (pgN i):=fun F B H σ ρ x t Q Q' s e hl r p q=>q _ _ (e.set hl r) (by rw [List.length_set,List.length_set];exact hl) (by rw [List.length_set]) (fun j hj=>List.getElem?_set_ne fun z=>hj (by rw [z];exact List.mem_singleton.mpr rfl)) p
def pYes:PB':=fun _ Q=>Q true
theorem l'E:SimT K k tYes pYes:=fun F B H σ ρ Q Q' c p q=>q true F H p (Gr.refl' c.s)
def pComp (pi:PI') (pg:PG') (pt:PB') (pe:PE') (ix:List (Option Nat)):PE':=fun ρ Q=>pi ρ fun ts _=>∃ I:Nat→List Tr→Prop,I 0 []∧
  (∀ i t acc,ts[i]?=some t→I i acc→pg t (pickT ix ρ) fun ρ2=>pt ρ2 fun b=>if b=true then pe ρ2 fun x=>acc.length<1000000∧I (i+1) (acc++[x]) else I (i+1) acc)∧∀ acc,I ts.length acc→acc.length≤1000000∧Q (.lst .o acc)
theorem e'W {wi:TI} {pi:PI'} {js:List Nat} {tg:TG} {pg:PG'} {ti:TT} {pt:PB'} {te:TE} {pe:PE'} {ix:List (Option Nat)} (hi:SimI K k wi pi) (hg:SimQ K js tg pg) (ht:SimT K k.mute ti pt) (he:Sim K k.mute te pe) (hj:∀ j∈js,ix[j]?=some none):Sim K k (tComp wi tg ti te ix) (pComp pi pg pt pe ix):=fun F B H σ ρ Q Q' c p q=>by
  refine hi F B H σ ρ _ _ c p fun ts nl J F1 H1 p1 g1 src _=>?_
  obtain⟨I,i0,step,fin⟩:=p1
  obtain⟨Kp,Y,ito,kp,yl⟩:=src
  have c1:=c.gr g1
  refine q'x (n:=ts.length) (fun i acc H2=>∃ F2 us cells,Gr F1 H1 F2 H2∧Rs K F2 B us acc cells∧Cells F2 H2 cells∧New H1 cells∧I i us) ⟨F1,[],[],Gr.refl' g1.s,⟨rfl,rfl⟩,.nil,.nil,i0⟩ ?_ ?_ ?_ ?_
  · rintro i acc H2 hlt ⟨F2,us,cells,g2,_⟩
    exact ito.go i H2 hlt (kp F2 H2 g2.le g2.s (c1.gr g2).b)
  · rintro acc H2 ⟨F2,us,cells,g2,_⟩
    exact ito.st H2 (kp F2 H2 g2.le g2.s (c1.gr g2).b)
  · rintro i x acc H2 H3 hlt ⟨F2,us,cells,g2,r2,hc2,n2,ii⟩ y
    have c2:=c1.gr g2
    obtain⟨t,et⟩:=d'v hlt
    obtain⟨F3,g3,r3⟩:=yl i t F2 H2 x H3 et g2.le g2.s c2.b (ito.yl i H2 x H3 hlt (kp F2 H2 g2.le g2.s c2.b) y)
    have c3:=c2.gr g3
    have hl0:(pickS ix σ).length=(pickT ix ρ).length:=by unfold pickS pickT;rw [List.length_map,List.length_map]
    refine hg F3 B H3 _ _ x t _ _ c3.s c3.e.pick hl0 r3 (step i t us et ii) fun σ2 ρ2 e2 l2 l2' n3 p2=>⟨g'I l2'.symm fun j v ej=>?_,?_⟩
    · by_cases hjs:j∈js
      · have z:=hj j hjs
        unfold pickS at ej
        rw [List.getElem?_map,z] at ej
        cases ej
      · rw [n3 j hjs];exact ej
    · have c3':Cxt K k.mute F3 B H3 σ2 ρ2:=⟨c3.s,c3.b,c3.z,e2,fun _ _ _ h=>h.elim⟩
      refine ht F3 B H3 σ2 ρ2 _ _ c3' p2 fun b F4 H4 p4 g4=>?_
      have g24:=g3.trans' g4
      cases b with
      | false=>
        rw [if_neg (by decide)] at p4 ⊢
        exact⟨F4,us,cells,g2.trans' g24,r2.mo g24.le (fun k=>Le.refl (B k)) us,hc2.gr g24,n2,p4⟩
      | true=>
        rw [if_pos rfl] at p4 ⊢
        refine he F4 B H4 σ2 ρ2 _ _ (c3'.gr g4) p4 fun u v F5 H5 c5 p5 o5=>?_
        have g25:=g24.trans' o5.g
        refine⟨Nat.lt_of_lt_of_le (by rw [r2.length];exact p5.1) (by decide),F5,us++[u],cells++c5,g2.trans' g25,(r2.mo g25.le (fun k=>Le.refl (B k)) us).snoc o5.r,(hc2.gr g25).app o5.c fun p mp q mq e=>?_,fun p m=>?_,p5.2⟩
        · have:=(hc2.gr g24).h p mp
          rw [e,o5.n q mq] at this
          cases this
        · rcases List.mem_append.mp m with m | m
          · exact n2 p m
          · exact (g2.h.trans g24.h).free (o5.n p m)
  · rintro acc H2 ⟨F2,us,cells,g2,r2,hc2,n2,ii⟩
    obtain⟨hl,hq⟩:=fin us ii
    refine⟨by rw [r2.length];exact b'X hl,fun a ha=>?_⟩
    obtain⟨m1,m2,m3⟩:=c'L g2.s r2 hc2 ha
    refine q _ _ F2 _ _ hq ⟨(g1.trans' g2).trans' m1,m2,m3,fun p m=>?_⟩
    cases m with
    | head=>exact (g1.h.trans g2.h).free ha
    | tail _ m=>exact g1.h.free (n2 p m)
end
end Pu
namespace Pu
open PySem L2 Vc Sf
mutual
def eqd:Tr→Tr→Option Bool
  | .tup xs, .tup ys => if xs.length = ys.length then eqds xs ys else none
  | .lst _ xs, .lst _ ys => if xs.length = ys.length then eqds xs ys else some false
  | .int a, .int b => some (decide (a = b))
  | .str a, .str b => some (decide (a = b))
  | .bl a, .bl b => some (decide (a = b))
  | .non, .non => some true
  | _, _ => none
def eqds:List Tr→List Tr→Option Bool
  | [], [] => some true
  | x :: xs, y :: ys => (eqd x y).bind fun a => (eqds xs ys).bind fun b => some (a && b)
  | _, _ => none
end
mutual
def dep:Tr→Nat
  | .tup xs => deps xs + 1
  | .lst _ xs => deps xs + 1
  | _ => 0
def deps:List Tr→Nat
  | [] => 0
  | x :: xs => max (dep x) (deps xs)
end
section
variable {X:Cx} {pins:List (Addr×Obj)} {σ:St} {F H:Hp} {B:Bool→Hp} {s:Shared}
mutual
theorem e'X (I:Inv X pins σ H s) (sf:Same F H) (sb:∀ k,Same (B k) H):∀ (t:Tr) (t':Tr) (v:V) (c c':Cs) (b:Bool),eqd t t'=some b→R X.K F B t v c→R X.K F B t' v c'→Cells F H c→Cells F H c'→b=true
  | .tup xs => fun t' v c c' b e r r' hc hc' => by
    cases t' with
    | tup ys=>
      unfold eqd at e
      split at e
      · obtain⟨a,vs,rfl,h1,h2⟩:=r.tupH sf
        obtain⟨a',vs',e',g1,g2⟩:=r'.tupH sf
        cases e'
        have z:=k'C I h1 g1
        subst z
        exact eqds_fn I sf sb xs ys vs c c' b e h2 g2 hc hc'
      · cases e
    | _=>cases e
  | .lst f xs => fun t' v c c' b e r r' hc hc' => by
    cases t' with
    | lst f' ys=>
      unfold eqd at e
      obtain⟨a,vs,ds,rfl,h1,h2,h3,_⟩:=r.lstH sf sb hc
      obtain⟨a',vs',ds',e',g1,g2,g3,_⟩:=r'.lstH sf sb hc'
      cases e'
      have z:=k'D I h1 g1
      subst z
      split at e
      · exact eqds_fn I sf sb xs ys vs ds ds' b e h2 g2 h3 g3
      · rename_i hl
        exact absurd (h2.length.symm.trans g2.length) hl
    | _=>cases e
  | .int a => fun t' v c c' b e r r' _ _ => by
    cases t' with
    | int a'=>cases e;have:=r.1.symm.trans r'.1;cases this;exact decide_eq_true rfl
    | _=>cases e
  | .str a => fun t' v c c' b e r r' _ _ => by
    cases t' with
    | str a'=>cases e;have:=r.1.symm.trans r'.1;cases this;exact decide_eq_true rfl
    | _=>cases e
  | .bl a => fun t' v c c' b e r r' _ _ => by
    cases t' with
    | bl a'=>cases e;have:=r.1.symm.trans r'.1;cases this;exact decide_eq_true rfl
    | _=>cases e
  | .non => fun t' v c c' b e r r' _ _ => by
    cases t' with
    | non=>cases e;rfl
    | _=>cases e
  | .hole => fun t' v c c' b e _ _ _ _ => by cases t' <;> cases e
  | .ty _ => fun t' v c c' b e _ _ _ _ => by cases t' <;> cases e
  | .cl _ => fun t' v c c' b e _ _ _ _ => by cases t' <;> cases e
  | .exc _ => fun t' v c c' b e _ _ _ _ => by cases t' <;> cases e
  | .dic _ _ => fun t' v c c' b e _ _ _ _ => by cases t' <;> cases e
  | .ins _ _ _ => fun t' v c c' b e _ _ _ _ => by cases t' <;> cases e
theorem eqds_fn (I:Inv X pins σ H s) (sf:Same F H) (sb:∀ k,Same (B k) H):∀ (ts:List Tr) (ts':List Tr) (vs:List V) (c c':Cs) (b:Bool),eqds ts ts'=some b→Rs X.K F B ts vs c→Rs X.K F B ts' vs c'→Cells F H c→Cells F H c'→b=true
  | [] => fun ts' vs c c' b e _ _ _ _ => by
    cases ts' with
    | nil=>cases e;rfl
    | cons _ _=>cases e
  | x :: xs => fun ts' vs c c' b e r r' hc hc' => by
    cases ts' with
    | nil=>cases e
    | cons y ys=>
      obtain⟨v,r,c1,d1,h1,h2,h3,h4⟩:=r
      obtain⟨v',r',c2,d2,g1,g2,g3,g4⟩:=r'
      rw [h1] at g1
      cases g1
      rw [h2] at hc
      rw [g2] at hc'
      unfold eqds at e
      cases e1:eqd x y with
      | none=>rw [e1] at e;cases e
      | some a=>
        cases e2:eqds xs ys with
        | none=>rw [e1,e2] at e;cases e
        | some a'=>
          rw [e1,e2] at e
          cases e
          rw [e'X I sf sb x y v c1 c2 a e1 h3 g3 hc.left hc'.left,eqds_fn I sf sb xs ys r d1 d2 a' e2 h4 g4 hc.right hc'.right]
          rfl
end
def eqL (ts ts':List Tr) (j:Nat):Bool:=match ts[j]?,ts'[j]? with | some x,some y=>(eqd x y).getD false | _,_=>false
theorem b'y:∀ {ts ts':List Tr} {b:Bool},eqds ts ts'=some b→(List.range ts.length).all (eqL ts ts')=b∧∀ (j:Nat) (x y:Tr),ts[j]?=some x→ts'[j]?=some y→eqd x y=some (eqL ts ts' j)
  | [], [], b, e => by cases e; exact ⟨rfl, fun j x y h => by cases h⟩
  | [], _ :: _, b, e => by cases e
  | _ :: _, [], b, e => by cases e
  | x :: xs, y :: ys, b, e => by
    unfold eqds at e
    cases e1:eqd x y with
    | none=>rw [e1] at e;cases e
    | some a=>
      cases e2:eqds xs ys with
      | none=>rw [e1,e2] at e;cases e
      | some a'=>
        rw [e1,e2] at e
        cases e
        obtain⟨h1,h2⟩:=b'y e2
        refine⟨?_,fun j u w hu hw=>?_⟩
        · rw [List.length_cons,List.range_succ_eq_map,List.all_cons,List.all_map]
          have z0:eqL (x :: xs) (y :: ys) 0=a:=by show (eqd x y).getD false=a;rw [e1];rfl
          rw [z0,← h1]
          rfl
        · cases j with
          | zero=>cases hu;cases hw;show eqd x y=some ((eqd x y).getD false);rw [e1];rfl
          | succ j=>exact h2 j u w hu hw
mutual
theorem o'v (I:Inv X pins σ H s) (sf:Same F H) (sb:∀ k,Same (B k) H):∀ (t:Tr) (t':Tr) (Au:Around) (v v':V) (c c':Cs) (b:Bool) (u u':Value),eqd t t'=some b→R X.K F B t v c→R X.K F B t' v' c'→Cells F H c→Cells F H c'→RelV v u→RelV v' u'→Au.units+dep t<cLine→SeqAt.EqAt Au s u u' b
  | .tup xs => fun t' Au v v' c c' b u u' e r r' hc hc' ru ru' hu => by
    cases t' with
    | tup ys=>
      have fn:=fun (z:v=v')=>e'X I sf sb (.tup xs) (.tup ys) v' c c' b e (z ▸ r) r' hc hc'
      unfold eqd at e
      split at e
      · rename_i hl
        obtain⟨a,vs,rfl,h1,h2⟩:=r.tupH sf
        obtain⟨a',vs',rfl,g1,g2⟩:=r'.tupH sf
        obtain rfl:u=Value.ref a:=ru
        obtain rfl:u'=Value.ref a':=ru'
        by_cases z:a=a'
        · rw [fn (by rw [z]),z];exact SeqAt.EqAt.same _
        · unfold dep at hu
          obtain⟨al,ix⟩:=b'y e
          have rc:=f'W (Au:=Au) I h1 g1 (by omega) (by rw [h2.length,g2.length];exact hl) (eqL xs ys) (fun j x y p q ex ey rx ry=>eqds_at I sf sb xs ys (eqL xs ys) Au.in1 vs vs' c c' j x y p q ix h2 g2 hc hc' ex ey rx ry (by rw [a'P];omega))
          rw [h2.length,al] at rc
          exact SeqAt.EqAt.of_refs z rc
      · cases e
    | _=>cases e
  | .lst f xs => fun t' Au v v' c c' b u u' e r r' hc hc' ru ru' hu => by
    cases t' with
    | lst f' ys=>
      have fn:=fun (z:v=v')=>e'X I sf sb (.lst f xs) (.lst f' ys) v' c c' b e (z ▸ r) r' hc hc'
      unfold eqd at e
      obtain⟨a,vs,ds,rfl,h1,h2,h3,_⟩:=r.lstH sf sb hc
      obtain⟨a',vs',ds',rfl,g1,g2,g3,_⟩:=r'.lstH sf sb hc'
      obtain rfl:u=Value.ref a:=ru
      obtain rfl:u'=Value.ref a':=ru'
      unfold dep at hu
      by_cases z:a=a'
      · rw [fn (by rw [z]),z];exact SeqAt.EqAt.same _
      · split at e
        · rename_i hl
          obtain⟨al,ix⟩:=b'y e
          have rc:=f'X (Au:=Au) I h1 g1 (by omega) (by rw [h2.length,g2.length];exact hl) (eqL xs ys) (fun j x y p q ex ey rx ry=>eqds_at I sf sb xs ys (eqL xs ys) Au.in1 vs vs' ds ds' j x y p q ix h2 g2 h3 g3 ex ey rx ry (by rw [a'P];omega))
          rw [h2.length,al] at rc
          exact SeqAt.EqAt.of_refs z rc
        · rename_i hl
          cases e
          obtain⟨us,r1,t1,_⟩:=I.list h1
          obtain⟨zs,r2,t2,_⟩:=I.list g1
          have m1:=r1.length
          have m2:=r2.length
          have l1:=h2.length
          have l2:=g2.length
          exact SeqAt.EqAt.of_refs z (SeqAt.RcAt.lists_lengths t1.isList t2.isList (by simp;omega) (by omega))
    | _=>cases e
  | .int a => fun t' Au v v' c c' b u u' e r r' _ _ ru ru' _ => by
    cases t' with
    | int a'=>cases e;rw [r.1] at ru;rw [r'.1] at ru';exact i'K ru ru'
    | _=>cases e
  | .str a => fun t' Au v v' c c' b u u' e r r' _ _ ru ru' _ => by
    cases t' with
    | str a'=>
      cases e
      rw [r.1] at ru
      rw [r'.1] at ru'
      have z:=b'r (A:=Au) (s:=s) ru ru' rfl rfl
      have e:eqV (.str a) (.str a')=decide (a=a'):=by show (a == a')=_;rw [Bool.beq_eq_decide_eq]
      rw [e] at z
      exact z
    | _=>cases e
  | .bl a => fun t' Au v v' c c' b u u' e r r' _ _ ru ru' _ => by
    cases t' with
    | bl a'=>
      cases e
      rw [r.1] at ru
      rw [r'.1] at ru'
      have z:=b'r (A:=Au) (s:=s) ru ru' rfl rfl
      have e:eqV (.bl a) (.bl a')=decide (a=a'):=by show (a == a')=_;rw [Bool.beq_eq_decide_eq]
      rw [e] at z
      exact z
    | _=>cases e
  | .non => fun t' Au v v' c c' b u u' e r r' _ _ ru ru' _ => by
    cases t' with
    | non=>cases e;rw [r.1] at ru;rw [r'.1] at ru';exact b'r (A:=Au) (s:=s) ru ru' rfl rfl
    | _=>cases e
  | .hole => fun t' Au v v' c c' b u u' e _ _ _ _ _ _ _ => by cases t' <;> cases e
  | .ty _ => fun t' Au v v' c c' b u u' e _ _ _ _ _ _ _ => by cases t' <;> cases e
  | .cl _ => fun t' Au v v' c c' b u u' e _ _ _ _ _ _ _ => by cases t' <;> cases e
  | .exc _ => fun t' Au v v' c c' b u u' e _ _ _ _ _ _ _ => by cases t' <;> cases e
  | .dic _ _ => fun t' Au v v' c c' b u u' e _ _ _ _ _ _ _ => by cases t' <;> cases e
  | .ins _ _ _ => fun t' Au v v' c c' b u u' e _ _ _ _ _ _ _ => by cases t' <;> cases e
theorem eqds_at (I:Inv X pins σ H s) (sf:Same F H) (sb:∀ k,Same (B k) H):∀ (ts:List Tr) (ts':List Tr) (e:Nat→Bool) (Au:Around) (vs vs':List V) (c c':Cs) (j:Nat) (x y:V) (u u':Value),(∀ (j:Nat) (x y:Tr),ts[j]?=some x→ts'[j]?=some y→eqd x y=some (e j))→Rs X.K F B ts vs c→Rs X.K F B ts' vs' c'→Cells F H c→Cells F H c'→vs[j]?=some x→vs'[j]?=some y→RelV x u→RelV y u'→Au.units+deps ts<cLine→SeqAt.EqAt Au s u u' (e j)
  | [] => fun ts' e Au vs vs' c c' j x y u u' _ r _ _ _ ex _ _ _ _ => by rw [r.1] at ex; cases ex
  | t :: ts => fun ts' e Au vs vs' c c' j x y u u' ix r r' hc hc' ex ey ru ru' hu => by
    cases ts' with
    | nil=>rw [r'.1] at ey;cases ey
    | cons t' ts'=>
      obtain⟨v,r,c1,d1,h1,h2,h3,h4⟩:=r
      obtain⟨v',r',c2,d2,g1,g2,g3,g4⟩:=r'
      rw [h1] at ex
      rw [g1] at ey
      rw [h2] at hc
      rw [g2] at hc'
      unfold deps at hu
      cases j with
      | zero=>
        cases ex
        cases ey
        exact o'v I sf sb t t' Au _ _ c1 c2 (e 0) u u' (ix 0 t t' rfl rfl) h3 g3 hc.left hc'.left ru ru' (by omega)
      | succ j=>exact eqds_at I sf sb ts ts' (fun i=>e (i+1)) Au r r' d1 d2 j x y u u' (fun i a b ha hb=>ix (i+1) a b ha hb) h4 g4 hc.right hc'.right ex ey ru ru' (by omega)
end
theorem l'F {Au:Around} {a b:Addr} {xs ys:List V} (I:Inv X pins σ H s) (h1:SqT X.K H a xs) (h2:SqT X.K H b ys) (hu:Au.units<cLine) (hl:xs.length=ys.length) (e:Nat→Bool)
    (he:∀ (j:Nat) x y u v,xs[j]?=some x→ys[j]?=some y→RelV x u→RelV y v→SeqAt.EqAt Au.in1 s u v (e j)):SeqAt.RcNeAt Au s (.ref a) (.ref b) (!(List.range xs.length).all e):=by
  obtain⟨us,r1,t1,_⟩:=I.tuple h1
  obtain⟨ws,r2,t2,_⟩:=I.tuple h2
  have l1:=r1.length
  have l2:=r2.length
  have z:=SeqAt.RcNeAt.tuples (A:=Au) (e:=e) t1 t2 hu (fun j h1 h2=>?_)
  · have e0:((List.range (min us.toArray.size ws.toArray.size)).all e && us.toArray.size == ws.toArray.size)=(List.range xs.length).all e:=by
      simp only [List.size_toArray]
      have e1:min us.length ws.length=xs.length:=by omega
      have e2:(us.length == ws.length)=true:=by simp;omega
      rw [e1,e2,Bool.and_true]
    rw [e0] at z
    exact z
  · simp only [List.size_toArray] at h1 h2
    obtain⟨u,e1,ru⟩:=r1.get (i:=j) (x:=xs[j]'(by omega)) (by simp)
    obtain⟨v,e2,rv⟩:=r2.get (i:=j) (x:=ys[j]'(by omega)) (by simp)
    obtain⟨_,f1⟩:=List.getElem?_eq_some_iff.mp e1
    obtain⟨_,f2⟩:=List.getElem?_eq_some_iff.mp e2
    have g1:us.toArray[j]'(by simpa using h1)=u:=by simpa using f1
    have g2:ws.toArray[j]'(by simpa using h2)=v:=by simpa using f2
    rw [g1,g2]
    exact he j _ _ u v (by simp) (by simp) ru rv
def rEqU (K:PySem.W.Frag) (neg:Bool):R2:=fun x y H Q=>∃ (F:Hp) (B:Bool→Hp) (t t':Tr) (c c':Cs) (b:Bool),Same F H∧(∀ k,Same (B k) H)∧R K F B t x c∧R K F B t' y c'∧Cells F H c∧Cells F H c'∧eqd t t'=some b∧dep t≤60∧1≤dep t∧Q (.bl (if neg=true then !b else b)) H
theorem o'w (hu:X.A.units+64<cLine):OpR X (compareOp .Eq) (rEqU X.K false):=by
  intro pins s σ H x y v u Q I rx ry h
  obtain⟨F,B,t,t',c,c',b,sf,sb,r,r',hc,hc',e,d,d1,q⟩:=h
  have fin:∀ {p p':Addr},SeqAt.RcAt X.A s (.ref p) (.ref p') b→wpAny (model X.prog X.w) X.A (compareOp .Eq (.ref p) (.ref p')) (EP X pins σ Q) X.xe s:=fun rc=>rc X.prog X.w X.xe _ ⟨.bl b,H,I,rfl,q⟩
  cases t with
  | tup xs =>
    cases t' with
    | tup ys=>
      unfold eqd at e
      unfold dep at d
      split at e
      · rename_i hl
        obtain⟨a,vs,rfl,h1,h2⟩:=r.tupH sf
        obtain⟨a',vs',rfl,g1,g2⟩:=r'.tupH sf
        obtain rfl:v=Value.ref a:=rx
        obtain rfl:u=Value.ref a':=ry
        obtain⟨al,ix⟩:=b'y e
        have rc:=f'W (Au:=X.A) I h1 g1 (by omega) (by rw [h2.length,g2.length];exact hl) (eqL xs ys) (fun j x y p q ex ey rx ry=>eqds_at I sf sb xs ys (eqL xs ys) X.A.in1 vs vs' c c' j x y p q ix h2 g2 hc hc' ex ey rx ry (by rw [a'P];omega))
        rw [h2.length,al] at rc
        exact fin rc
      · cases e
    | _=>cases e
  | lst f xs =>
    cases t' with
    | lst f' ys=>
      unfold eqd at e
      unfold dep at d
      obtain⟨a,vs,ds,rfl,h1,h2,h3,_⟩:=r.lstH sf sb hc
      obtain⟨a',vs',ds',rfl,g1,g2,g3,_⟩:=r'.lstH sf sb hc'
      obtain rfl:v=Value.ref a:=rx
      obtain rfl:u=Value.ref a':=ry
      split at e
      · rename_i hl
        obtain⟨al,ix⟩:=b'y e
        have rc:=f'X (Au:=X.A) I h1 g1 (by omega) (by rw [h2.length,g2.length];exact hl) (eqL xs ys) (fun j x y p q ex ey rx ry=>eqds_at I sf sb xs ys (eqL xs ys) X.A.in1 vs vs' ds ds' j x y p q ix h2 g2 h3 g3 ex ey rx ry (by rw [a'P];omega))
        rw [h2.length,al] at rc
        exact fin rc
      · rename_i hl
        cases e
        obtain⟨us,r1,t1,_⟩:=I.list h1
        obtain⟨zs,r2,t2,_⟩:=I.list g1
        have m1:=r1.length
        have m2:=r2.length
        have l1:=h2.length
        have l2:=g2.length
        exact fin (SeqAt.RcAt.lists_lengths t1.isList t2.isList (by simp;omega) (by omega))
    | _=>cases e
  | _ => exact absurd d1 (by unfold dep; decide)
theorem o'x (hu:X.A.units+64<cLine):OpR X (compareOp .NotEq) (rEqU X.K true):=by
  intro pins s σ H x y v u Q I rx ry h
  obtain⟨F,B,t,t',c,c',b,sf,sb,r,r',hc,hc',e,d,d1,q⟩:=h
  have fin:∀ {p p':Addr},SeqAt.RcNeAt X.A s (.ref p) (.ref p') (!b)→wpAny (model X.prog X.w) X.A (compareOp .NotEq (.ref p) (.ref p')) (EP X pins σ Q) X.xe s:=fun rc=>rc X.prog X.w X.xe _ ⟨.bl (!b),H,I,rfl,q⟩
  cases t with
  | tup xs =>
    cases t' with
    | tup ys=>
      unfold eqd at e
      unfold dep at d
      split at e
      · rename_i hl
        obtain⟨a,vs,rfl,h1,h2⟩:=r.tupH sf
        obtain⟨a',vs',rfl,g1,g2⟩:=r'.tupH sf
        obtain rfl:v=Value.ref a:=rx
        obtain rfl:u=Value.ref a':=ry
        obtain⟨al,ix⟩:=b'y e
        have rc:=l'F (Au:=X.A) I h1 g1 (by omega) (by rw [h2.length,g2.length];exact hl) (eqL xs ys) (fun j x y p q ex ey rx ry=>eqds_at I sf sb xs ys (eqL xs ys) X.A.in1 vs vs' c c' j x y p q ix h2 g2 hc hc' ex ey rx ry (by rw [a'P];omega))
        rw [h2.length,al] at rc
        exact fin rc
      · cases e
    | _=>cases e
  | lst f xs =>
    cases t' with
    | lst f' ys=>
      unfold eqd at e
      unfold dep at d
      obtain⟨a,vs,ds,rfl,h1,h2,h3,_⟩:=r.lstH sf sb hc
      obtain⟨a',vs',ds',rfl,g1,g2,g3,_⟩:=r'.lstH sf sb hc'
      obtain rfl:v=Value.ref a:=rx
      obtain rfl:u=Value.ref a':=ry
      split at e
      · rename_i hl
        obtain⟨al,ix⟩:=b'y e
        have rc:=k'O (Au:=X.A) I h1 g1 (by omega) (by rw [h2.length,g2.length];exact hl) (eqL xs ys) (fun j x y p q ex ey rx ry=>eqds_at I sf sb xs ys (eqL xs ys) X.A.in1 vs vs' ds ds' j x y p q ix h2 g2 h3 g3 ex ey rx ry (by rw [a'P];omega))
        rw [h2.length,al] at rc
        exact fin rc
      · rename_i hl
        cases e
        obtain⟨us,r1,t1,_⟩:=I.list h1
        obtain⟨zs,r2,t2,_⟩:=I.list g1
        have m1:=r1.length
        have m2:=r2.length
        have l1:=h2.length
        have l2:=g2.length
        exact fin (SeqAt.RcNeAt.lists_lengths (A:=X.A) t1.isList t2.isList (by simp;omega) (by omega))
    | _=>cases e
  | _ => exact absurd d1 (by unfold dep; decide)
def rEqA (K:PySem.W.Frag):R2:=fun x y H Q=>rEq x y H Q∨rEqU K false x y H Q
theorem a'Y (hu:X.A.units+64<cLine):OpR X (compareOp .Eq) (rEqA X.K):=op_eq.or (o'w hu)
def rNeA (K:PySem.W.Frag):R2:=fun x y H Q=>rNe x y H Q∨rEqU K true x y H Q
theorem b'P (hu:X.A.units+64<cLine):OpR X (compareOp .NotEq) (rNeA X.K):=op_ne.or (o'x hu)
def wEq (neg:Bool) (x y:Tr) (Q:Tr→Prop):Prop:=match x,y with
  | .int a, .int b => Q (.bl (if neg = true then !decide (a = b) else decide (a = b)))
  | .str a, .str b => Q (.bl (if neg = true then !decide (a = b) else decide (a = b)))
  | .bl a, .bl b => Q (.bl (if neg = true then !decide (a = b) else decide (a = b)))
  | x, y => wEqS neg x y Q ∨ ∃ b, eqd x y = some b ∧ dep x ≤ 60 ∧ 1 ≤ dep x ∧ Q (.bl (if neg = true then !b else b))
theorem a'w {K:PySem.W.Frag} {k:Md}:Op2 K k (rEqA K) (wEq false):=fun F B H x y tx ty cx cy Q Q' s b z rx ry hx hy hd p q=>by
  unfold wEq at p
  split at p
  · obtain⟨rfl,_⟩:=rx
    obtain⟨rfl,_⟩:=ry
    refine .inl ⟨rfl,q _ _ F H [] p (Gr.refl' s) ⟨?_,rfl⟩ .nil fun _ m=>nomatch m⟩
    exact congrArg V.bl (decide_eq_decide.mpr ⟨fun h=>V.int.inj h,fun h=>by rw [h]⟩)
  · obtain⟨rfl,_⟩:=rx
    obtain⟨rfl,_⟩:=ry
    refine .inl ⟨rfl,q _ _ F H [] p (Gr.refl' s) ⟨?_,rfl⟩ .nil fun _ m=>nomatch m⟩
    exact congrArg V.bl (decide_eq_decide.mpr ⟨fun h=>V.str.inj h,fun h=>by rw [h]⟩)
  · obtain⟨rfl,_⟩:=rx
    obtain⟨rfl,_⟩:=ry
    refine .inl ⟨rfl,q _ _ F H [] p (Gr.refl' s) ⟨?_,rfl⟩ .nil fun _ m=>nomatch m⟩
    exact congrArg V.bl (decide_eq_decide.mpr ⟨fun h=>V.bl.inj h,fun h=>by rw [h]⟩)
  · rcases p with p | p
    · exact .inl (l'g (k:=k) F B H x y tx ty cx cy Q Q' s b z rx ry hx hy hd p q)
    · obtain⟨bb,e,d,d1,p⟩:=p
      exact .inr ⟨F,B,tx,ty,cx,cy,bb,s,b,rx,ry,hx,hy,e,d,d1,q _ _ F H [] p (Gr.refl' s) ⟨rfl,rfl⟩ .nil fun _ m=>nomatch m⟩
theorem a'Z {K:PySem.W.Frag} {k:Md}:Op2 K k (rNeA K) (wEq true):=fun F B H x y tx ty cx cy Q Q' s b z rx ry hx hy hd p q=>by
  unfold wEq at p
  split at p
  · obtain⟨rfl,_⟩:=rx
    obtain⟨rfl,_⟩:=ry
    refine .inl ⟨rfl,q _ _ F H [] p (Gr.refl' s) ⟨?_,rfl⟩ .nil fun _ m=>nomatch m⟩
    exact congrArg (fun b=>V.bl (!b)) (decide_eq_decide.mpr ⟨fun h=>V.int.inj h,fun h=>by rw [h]⟩)
  · obtain⟨rfl,_⟩:=rx
    obtain⟨rfl,_⟩:=ry
    refine .inl ⟨rfl,q _ _ F H [] p (Gr.refl' s) ⟨?_,rfl⟩ .nil fun _ m=>nomatch m⟩
    exact congrArg (fun b=>V.bl (!b)) (decide_eq_decide.mpr ⟨fun h=>V.str.inj h,fun h=>by rw [h]⟩)
  · obtain⟨rfl,_⟩:=rx
    obtain⟨rfl,_⟩:=ry
    refine .inl ⟨rfl,q _ _ F H [] p (Gr.refl' s) ⟨?_,rfl⟩ .nil fun _ m=>nomatch m⟩
    exact congrArg (fun b=>V.bl (!b)) (decide_eq_decide.mpr ⟨fun h=>V.bl.inj h,fun h=>by rw [h]⟩)
  · rcases p with p | p
    · exact .inl (l'h (k:=k) F B H x y tx ty cx cy Q Q' s b z rx ry hx hy hd p q)
    · obtain⟨bb,e,d,d1,p⟩:=p
      exact .inr ⟨F,B,tx,ty,cx,cy,bb,s,b,rx,ry,hx,hy,e,d,d1,q _ _ F H [] p (Gr.refl' s) ⟨rfl,rfl⟩ .nil fun _ m=>nomatch m⟩
end
end Pu
namespace Pu
open PySem L2 Vc Sf
def tOf (K:PySem.W.Frag) (k:Md) (pe:PE'):TE:=fun σ H Q=>∃ (F:Hp) (B:Bool→Hp) (ρ:List Tr) (Q':Tr→Prop),Cxt K k F B H σ ρ∧pe ρ Q'∧∀ t v F' H' cs,Q' t→Out K F B H F' H' t v cs→Q v H'
def tOfT (K:PySem.W.Frag) (k:Md) (pe:PB'):TT:=fun σ H Q=>∃ (F:Hp) (B:Bool→Hp) (ρ:List Tr) (Q':Bool→Prop),Cxt K k F B H σ ρ∧pe ρ Q'∧∀ b F' H',Q' b→Gr F H F' H'→Q b H'
section
variable {X:Cx} {k:Md} {lo:Nat} {a b c:Expr} {pa pb pc:PE'} {pos:Pos}
theorem QE.of {e:Expr} {pe:PE'} (h:QE X k e pe):PE X e (tOf X.K k pe):=fun pins s σ H Q I ⟨F,B,ρ,Q',h1,h2,h3⟩=>by
  obtain⟨te,g1,g2⟩:=h.h
  exact g1 pins s σ H Q I (g2 F B H σ ρ Q Q' h1 h2 h3)
theorem h'M {K:PySem.W.Frag} {pe:PE'}:Sim K k (tOf K k pe) pe:=fun F B H σ ρ Q Q' h1 h2 h3=>⟨F,B,ρ,Q',h1,h2,h3⟩
theorem QT.of {e:Expr} {pe:PB'} (h:QT X k e pe):PT X e (tOfT X.K k pe):=fun pins s σ H Q I ⟨F,B,ρ,Q',h1,h2,h3⟩=>by
  obtain⟨te,g1,g2⟩:=h.h
  exact g1 pins s σ H Q I (g2 F B H σ ρ Q Q' h1 h2 h3)
theorem g'd {K:PySem.W.Frag} {pe:PB'}:SimT K k (tOfT K k pe) pe:=fun F B H σ ρ Q Q' h1 h2 h3=>⟨F,B,ρ,Q',h1,h2,h3⟩
theorem e'v (ha:QE X k a pa) (hb:QE X k b pb):QE X k (.BinOp a .Pow b pos) (p2 (wInt2 CPow fun i j=>.int (i ^ j.toNat)) pa pb):=c'M n'I (g'E fun _ _ _ _=>⟨rfl,rfl⟩) ha hb
theorem c'b {r:List V→Hp→VK→Prop} {pr:List Tr→(Tr→Prop)→Prop} {T:String} {x:Str} {p:Pos} {e:Expr} {es:List Expr} {ps:PA'} (hc:CallR X (.type T) r) (ho:OpA X.K k r pr) (hg:Gl X x) (hm:X.mg x=none) (hv:bootBuiltins x=some (.type T)) (ha:QA X k (e :: es) ps) (hn:x≠"__name__":=by decide) (hdb:(x == ("__debug__":Str))=false:=by decide) (he:starEach (e :: es) X.env=(false,eval e X.env) :: starEach es X.env:=by rfl) (hpl:(backTo pos (starEach es X.env)).any (·.1)=false:=by rfl) :
    QE X k (.Call (.Name x p) (e :: es) [] pos) (pB pr ps):=by
  obtain⟨ta,h1,h2⟩:=ha.h
  exact⟨_,h'b hc hg hm hv h1 hn hdb he hpl,h'F ho h2⟩
theorem h'N:QE X k (.Dict [] [] pos) pDnew:=⟨_,i'z,j'g⟩
theorem o'y {o e f:Expr} {po pe pf:PE'} {apos cpos:Pos} (hu:X.A.units+1<cLine) (ho:QE X k o po) (he:QE X k e pe) (hf:QE X k f pf) (hm:M2 X o "get" apos e f cpos):QE X k (.Call (.Attribute o "get" apos) [e,f] [] cpos) (p3 wGet2 po pe pf):=by
  obtain⟨te,h1,h2⟩:=ho.h
  obtain⟨tf,g1,g2⟩:=he.h
  obtain⟨tg,f1,f2⟩:=hf.h
  exact⟨_,i'B hu h1 g1 f1 hm,j'j h2 g2 f2⟩
structure QO (X:Cx) (k:Md) (e:Option Expr) (pe:PO'):Prop where
  h:∃ te,PO X e te∧SimO X.K k te pe
theorem e'Y:QO X k none poN:=⟨_,k'w,o'r⟩
theorem d'd {e:Expr} {pe:PE'} (h:QE X k e pe):QO X k (some e) (poS pe):=by
  obtain⟨te,h1,h2⟩:=h.h
  exact⟨_,k'x h1,o's h2⟩
theorem d'N {e:Expr} {pe:PE'} {l h:Option Expr} {pl ph:PO'} {p2:Pos} (he:QE X k e pe) (hl:QO X k l pl) (hh:QO X k h ph):QE X k (.Subscript e (.Slice l h none p2) pos) (pSl pe pl ph):=by
  obtain⟨te,h1,h2⟩:=he.h
  obtain⟨tf,g1,g2⟩:=hl.h
  obtain⟨tg,f1,f2⟩:=hh.h
  exact⟨_,i'C s'a h1 g1 f1,o't h2 g2 f2⟩
structure QG (X:Cx) (k:Md) (lo:Nat) (e:Expr) (pg:PG'):Prop where
  h:∃ tg,PG X e tg∧SimG X.K k lo tg pg
structure QGs (X:Cx) (k:Md) (lo:Nat) (es:List Expr) (pg:List Tr→List Tr→(List Tr→Prop)→Prop):Prop where
  h:∃ tg,PGs X es tg∧SimGs X.K k lo tg pg
theorem a'x {i:Nat} {x:Str} (hN:X.N.Nodup) (hl:lo≤i) (hi:X.N[i]?=some x) (hx:Loc X.env.scope x) (hf:X.fn x=true∨X.env.scope.names.lookup x=some .local:=by first | exact .inl rfl | exact .inr rfl | assumption):QG X k lo (.Name x pos) (pgN i):=⟨_,f'I hN hi hx hf,o'm hl⟩
theorem a'L:QGs X k lo [] pgsNil:=⟨_,k'n,h'G⟩
theorem a'm {e:Expr} {es:List Expr} {pg:PG'} {pr:List Tr→List Tr→(List Tr→Prop)→Prop} (h:QG X k lo e pg) (h':QGs X k lo es pr) (hs:(assignEach (e :: es) X.env).map (·.2)=assign e X.env :: (assignEach es X.env).map (·.2):=by rfl):QGs X k lo (e :: es) (pgsCons pg pr):=by
  obtain⟨te,h1,h2⟩:=h.h
  obtain⟨tf,g1,g2⟩:=h'.h
  exact⟨_,i'u h1 g1 hs,g'H h2 g2⟩
theorem b'l {es:List Expr} {n kk:Nat} {pr:List Tr→List Tr→(List Tr→Prop)→Prop} (hc:X.calm=true) (h:QGs X k lo es pr) (hn:(assignEach es X.env).length=n:=by rfl) (hf:(assignEach es X.env).findIdx? (·.1)=none:=by rfl):QG X k lo (.Tuple es kk pos) (pgT n pr):=by
  obtain⟨te,h1,h2⟩:=h.h
  exact⟨_,n'B hc h1 hn hf,o'n h2⟩
structure QI (X:Cx) (k:Md) (tg e:Expr) (pi:PI'):Prop where
  h:∃ ti,PI X tg e ti∧SimI X.K k ti pi
section
variable {tg:Expr} {p:Pos} {l m:Expr} {pl:PE'} {ps:PA'}
theorem c'e (h:QE X k l pl):QI X k tg l (piL pl):=by
  obtain⟨te,h1,h2⟩:=h.h
  exact⟨_,k'o h1,h'I h2⟩
theorem e'w (hg:Gl X "range") (hm:X.mg "range"=none) (h:QA X k [l] ps) (hs:starEach [l] X.env=[(false,eval l X.env)]:=by rfl):QI X k tg (.Call (.Name "range" p) [l] [] pos) (piR1 ps):=by
  obtain⟨te,h1,h2⟩:=h.h
  exact⟨_,g'T hg hm h1 hs,l'x h2⟩
theorem c'n {es:List Expr} {x1:Nat} {tpos:Pos} (hg:Gl X "enumerate") (hm:X.mg "enumerate"=none) (h:QA X k [l] ps) (hs:starEach [l] X.env=[(false,eval l X.env)]:=by rfl):QI X k (.Tuple es x1 tpos) (.Call (.Name "enumerate" p) [l] [] pos) (piE ps):=by
  obtain⟨te,h1,h2⟩:=h.h
  exact⟨_,k'N hg hm h1 hs,h'J h2⟩
theorem g'J {es:List Expr} {x1:Nat} {tpos:Pos} (hg:Gl X "zip") (hm:X.mg "zip"=none) (h:QA X k [l,m] ps) (hs:starEach [l,m] X.env=[(false,eval l X.env),(false,eval m X.env)]:=by rfl) (hs':starEach [m] X.env=[(false,eval m X.env)]:=by rfl):QI X k (.Tuple es x1 tpos) (.Call (.Name "zip" p) [l,m] [] pos) (piZ ps):=by
  obtain⟨te,h1,h2⟩:=h.h
  exact⟨_,o'b hg hm h1 hs hs',j'd h2⟩
end
theorem a'j {i:Nat} {x:Str} {e:Expr} {pe:PE'} {pos':Pos} (hN:X.N.Nodup) (hl:lo≤i) (hi:X.N[i]?=some x) (hx:Loc X.env.scope x) (h:QE X k e pe) (hs:swapsWith e (some (.Name x pos')) pos.line X.env=pure false:=by rfl) (hf:X.fn x=true∨X.env.scope.names.lookup x=some .local:=by first | exact .inl rfl | exact .inr rfl | assumption) :
    QS X k lo (.Assign [.Name x pos'] e pos) (pAsgF i pe):=by
  obtain⟨te,h1,h2⟩:=h.h
  exact⟨_,e'x hN hi hx h1 hs hf,j'b hl h2⟩
theorem q'G {tg e:Expr} {pe:PE'} {pg:PG'} (h:QE X k e pe) (hg:QG X k lo tg pg) (h1:swapsWithSole [tg] e pos.line X.env=pure false:=by rfl) (h2:swappedStores [tg] e X.env=pure none:=by rfl) (h3:(assignEach [tg] X.env).map (·.2)=[assign tg X.env]:=by rfl):QS X k lo (.Assign [tg] e pos) (pUnp pe pg):=by
  obtain⟨te,f1,f2⟩:=h.h
  obtain⟨tf,g1,g2⟩:=hg.h
  exact⟨_,g'R f1 g1 h1 h2 h3,l'q f2 g2⟩
theorem q'H {i j:Nat} {x y:Str} {ps:PA'} {px py pt pt2:Pos} {kt k2:Nat} (hc:X.calm=true) (hN:X.N.Nodup) (hl:lo≤i) (hl':lo≤j) (hi:X.N[i]?=some x) (hj:X.N[j]?=some y) (hij:i≠j) (hx:X.env.scope.names.lookup x=some .local) (hy:X.env.scope.names.lookup y=some .local) (h:QA X k [a,b] ps)
    (hs:swappedStores [.Tuple [.Name x px,.Name y py] kt pt] (.Tuple [a,b] k2 pt2) X.env=pure (some [x,y])) (hw:swapsWithSole [.Tuple [.Name x px,.Name y py] kt pt] (.Tuple [a,b] k2 pt2) pos.line X.env=pure false:=by rfl):QS X k lo (.Assign [.Tuple [.Name x px,.Name y py] kt pt] (.Tuple [a,b] k2 pt2) pos) (pPar i j ps):=by
  obtain⟨te,h1,h2⟩:=h.h
  exact⟨_,n'D hc hN hi hj hij hx hy h1 hs hw,l'r hl hl' h2⟩
theorem a'S {tg iter:Expr} {body:List Stmt} {pi:PI'} {pg:PG'} {pb:PS'} (hp:PassesOwn (model X.prog X.w) X.A X.env X.xe) (hc:X.calm=true) (hi:QI X k tg iter pi) (hg:QG X k lo tg pg) (hb:QB X k lo body pb) (hs:∀ x,foldedSetIterable iter X.env x=pure x:=by intro _;rfl):QS X k lo (.For tg iter body [] pos) (pFor pi pg pb):=by
  obtain⟨te,h1,h2⟩:=hi.h
  obtain⟨tf,g1,g2⟩:=hg.h
  obtain⟨tb,b1,b2⟩:=hb.h
  exact⟨_,g'V hp hc h1 g1 b1 hs,l'u h2 g2 b2⟩
theorem o'z (hz:k.z=true) {o:Expr} {po:PE'} {elts:List Expr} {x1:Nat} {tpos apos cpos:Pos} {body:List Stmt} {pg:PG'} {pb:PS'} (hp:PassesOwn (model X.prog X.w) X.A X.env X.xe) (hc:X.calm=true) (ho:QE X k o po) (hg:QG X k.walk lo (.Tuple elts x1 tpos) pg) (hb:QB X k.walk lo body pb) (h1:attributeBase o "items" X.env (eval o X.env)=eval o X.env:=by rfl) (h2:(apos.endLine == cpos.line)=true:=by rfl) (h3:∀ x,foldedSetIterable (.Call (.Attribute o "items" apos) [] [] cpos) X.env x=pure x:=by intro _;rfl) :
    QS X k lo (.For (.Tuple elts x1 tpos) (.Call (.Attribute o "items" apos) [] [] cpos) body [] pos) (pForD .it po pg pb):=by
  obtain⟨te,e1,e2⟩:=ho.h
  obtain⟨tf,g1,g2⟩:=hg.h
  obtain⟨tb,b1,b2⟩:=hb.h
  exact⟨_,k'y hp hc e1 g1 b1 h1 h2 h3,j'h hz e2 g2 b2⟩
theorem b'Q (i:Nat) {x:Str} (hN:X.N[i]?=some x:=by rfl) (hv:Vis X.env.scope x:=by first | exact Or.inl rfl | exact Or.inr (Or.inl rfl) | exact Or.inr (Or.inr rfl)) (hd:(x == ("__debug__":Str))=false:=by decide) (hcd:(x == ("__classdict__":Str))=false:=by decide):PE X (.Name x pos) (tR X.K i []):=g'Q hN hv hd hcd
theorem d'w {o e:Expr} {i:Nat} {r:List Str} {pe:PE'} {apos cpos spos:Pos} (hp:PE X o (tR X.K i r)) (h:QE X k e pe) (h1:attributeBase o "append" X.env (eval o X.env)=eval o X.env:=by rfl)
    (h2:(((backTo cpos (starEach [e] X.env)).all (!·.1) && (backToKw cpos (keywordEach [] X.env)).all (·.1.isSome)) && decide (([e].length+([]:List Keyword).length+if ([]:List Keyword).isEmpty=true then 0 else 1)<30))=true:=by rfl)
    (h3:(apos.endLine == cpos.line)=true:=by rfl) (h4:starEach [e] X.env=(false,eval e X.env) :: starEach [] X.env:=by rfl) (hs:swapsWith (.Call (.Attribute o "append" apos) [e] [] cpos) none spos.line X.env=pure false:=by rfl) :
    QS X k lo (.Expr (.Call (.Attribute o "append" apos) [e] [] cpos) spos) (pApp X.K i r pe):=by
  obtain⟨te,e1,e2⟩:=h.h
  exact⟨_,k'm (q'q PySem.F.plainAttrs_list slot_list_append type_list_append h'h hp (f'M e1 g'Z h4) h1 h2 h3 h4 rfl) hs,l'y e2⟩
theorem d'x {o j e:Expr} {i:Nat} {r:List Str} {pj pe:PE'} {pos':Pos} (hp:PE X o (tR X.K i r)) (hj:QE X k j pj) (h:QE X k e pe) (ha:∀ v,assign (.Subscript o j pos') X.env v=(do
      let ov ← holding [v] (eval o X.env)
      let iv ← holding [v,ov] (eval j X.env)
      standAt pos'
      holding [v,ov,iv] (setItem ov iv v)
      release [v,ov,iv] []):=by intro _;rfl) (h1:swapsWithSole [.Subscript o j pos'] e pos.line X.env=pure false:=by rfl) (h2:swappedStores [.Subscript o j pos'] e X.env=pure none:=by rfl) (h3:(assignEach [.Subscript o j pos'] X.env).map (·.2)=[assign (.Subscript o j pos') X.env]:=by rfl) :
    QS X k lo (.Assign [.Subscript o j pos'] e pos) (pSetL X.K i r pj pe):=by
  obtain⟨te,e1,e2⟩:=h.h
  obtain⟨tj,f1,f2⟩:=hj.h
  exact⟨_,g'R e1 (n'C hp f1 i'D ha) h1 h2 h3,j'e e2 f2⟩
theorem k'c {o j e:Expr} {i:Nat} {r:List Str} {pj pe:PE'} {pos':Pos} (hu:X.A.units+1<cLine) (hp:PE X o (tR X.K i r)) (hj:QE X k j pj) (h:QE X k e pe) (hs:swapsWith e (some (.Subscript o j pos')) pos.line X.env=pure false:=by rfl):QS X k lo (.Assign [.Subscript o j pos'] e pos) (pPut X.K i r pj pe):=by
  obtain⟨te,e1,e2⟩:=h.h
  obtain⟨tj,f1,f2⟩:=hj.h
  exact⟨_,k't hu hp f1 e1 hs,l'z e2 f2⟩
structure QGq (X:Cx) (scope:Scope) (N:List Str) (js:List Nat) (e:Expr) (pg:PG'):Prop where
  h:∃ tg,(∀ C s H fp pl,PG (cxComp X scope N C s H fp pl) e tg)∧SimQ X.K js tg pg
section
variable {scope:Scope} {N:List Str}
theorem c'o {i:Nat} {x:Str} (hN:N.Nodup) (hi:N[i]?=some x) (hx:∀ C s H fp pl,(cxComp X scope N C s H fp pl).env.scope.names.lookup x=some .local:=by intros;rfl):QGq X scope N [i] (.Name x pos) (pgN i):=⟨_,fun C s H fp pl=>f'I (X:=cxComp X scope N C s H fp pl) hN hi (.inl (hx C s H fp pl)) (.inr (hx C s H fp pl)),o'u⟩
structure QTs (Y:Cx) (k:Md) (es:List Expr) (pt:PB'):Prop where
  h:PTs Y es (tOfT Y.K k pt)
theorem b'o:QTs X k [] pYes:=⟨fun pins s σ H Q I ⟨F,B,ρ,Q',h1,h2,h3⟩=>k'F pins s σ H Q I (l'E (k:=k) F B H σ ρ Q Q' h1 h2 h3)⟩
theorem l'G {e:Expr} {pt:PB'} (h:QT X k e pt):QTs X k [e] pt:=⟨k'G h.of⟩
variable {elt target iter:Expr} {ifs:List Expr} {ix:List (Option Nat)} {pi:PI'} {pg:PG'} {pt:PB'} {pe:PE'} {js:List Nat}
theorem b'R (hc:X.calm=true) (hi:QI X k target iter pi) (hg:QGq X scope N js target pg) (ht:∀ C s H fp pl,QTs (cxComp X scope N C s H fp pl) k.mute ifs pt) (he:∀ C s H fp pl,QE (cxComp X scope N C s H fp pl) k.mute elt pe) (hpk:PickOk X scope N ix) (hj:∀ j∈js,ix[j]?=some none:=by decide)
    (hkind:scope.kind=.function:=by rfl) (hcell:∀ y∈scope.names,y.2≠.cell:=by decide) (hnames:∀ x∈scope.names,x.2=.local→scope.names.lookup x.1=some .local:=by decide) (hall:clAll scope X.env=true:=by rfl) (hs:∀ x,foldedSetIterable iter X.env x=pure x:=by intro _;rfl) :
    QE X k (.ListComp elt [⟨target,iter,ifs,0⟩] scope pos) (pComp pi pg pt pe ix):=by
  obtain⟨te,h1,h2⟩:=hi.h
  obtain⟨tf,g1,g2⟩:=hg.h
  exact⟨_,k'I hc h1 g1 (fun C s H fp pl=>(ht C s H fp pl).h) (fun C s H fp pl=>(he C s H fp pl).of) hpk hkind hcell hnames hall hs,e'W h2 g2 g'd h'M hj⟩
theorem h'O {i:Nat} {y:Str} {py spos:Pos} (hN:X.N.Nodup) (hl:lo≤i) (hyi:X.N[i]?=some y) (hy:Loc X.env.scope y) (hc:X.calm=true) (hi:QI X k target iter pi) (hg:QGq X scope N js target pg) (ht:∀ C s H fp pl,QTs (cxComp X scope N C s H fp pl) k.mute ifs pt) (he:∀ C s H fp pl,QE (cxComp X scope N C s H fp pl) k.mute elt pe) (hpk:PickOk X scope N ix) (hj:∀ j∈js,ix[j]?=some none:=by decide)
    (hsw:swapsWith (.ListComp elt [⟨target,iter,ifs,0⟩] scope pos) (some (.Name y py)) spos.line X.env=pure true:=by with_unfolding_all rfl) (hkind:scope.kind=.function:=by rfl) (hcell:∀ y∈scope.names,y.2≠.cell:=by decide) (hnames:∀ x∈scope.names,x.2=.local→scope.names.lookup x.1=some .local:=by decide) (hall:clAll scope X.env=true:=by rfl) (hs:∀ x,foldedSetIterable iter X.env x=pure x:=by intro _;rfl) (hf:X.fn y=true∨X.env.scope.names.lookup y=some .local:=by first | exact .inl rfl | exact .inr rfl | assumption) :
    QS X k lo (.Assign [.Name y py] (.ListComp elt [⟨target,iter,ifs,0⟩] scope pos) spos) (pAsg i (pComp pi pg pt pe ix)):=by
  obtain⟨te,h1,h2⟩:=hi.h
  obtain⟨tf,g1,g2⟩:=hg.h
  exact⟨_,k'J hN hyi hy hc h1 g1 (fun C s H fp pl=>(ht C s H fp pl).h) (fun C s H fp pl=>(he C s H fp pl).of) hpk hsw hkind hcell hnames hall hs hf,f'Z hl (e'W h2 g2 g'd h'M hj)⟩
end
end
end Pu
namespace Pu
open PySem L2 Vc Sf
section
variable {K:PySem.W.Frag} {k k':Md} {lo:Nat} {us:List V} {Fb Hb F H F' H':Hp} {σ:St} {ρ:List Tr} {cs:Nat→Cs}
theorem Lk.md {D:Ends} {D':Pd} (L:Lk K k lo us Fb Hb D D') (hz:k.z=true→k'.z=true) (x:∀ cls σ' F' H',k.q cls→Gr Fb Hb F' H'→k.E σ' cls none H'):Lk K k' lo us Fb Hb D D':=
  ⟨fun F H σ ρ cs W=>L.nx F H σ ρ cs (W.md hz x),fun F H σ ρ cs v t c W=>L.rt F H σ ρ cs v t c (W.md hz x),fun F H σ ρ cs W=>L.bk F H σ ρ cs (W.md hz x),fun F H σ ρ cs W=>L.ct F H σ ρ cs (W.md hz x)⟩
def pRaise (q:Value→Prop) (C:Addr) (pe:PE'):PS':=fun _ ρ=>pe (ρ.map lend) fun _=>q (.ref C)
theorem h'P {z:Bool} {E:XK} {q:Value→Prop} {C:Addr} {te:TE} {pe:PE'} (h:Sim K ⟨z,fun _=>E,q⟩ te pe):SimS K ⟨z,fun _=>E,q⟩ lo (tRaise C E te) (pRaise q C pe):=fun us Fb Hb F H σ ρ cs D D' W p L=>
  h F (Bq Hb H) H σ _ _ _ W.cxt p fun t v F1 H1 c q o=>W.x (.ref C) σ F1 H1 q (W.g.trans' o.g)
theorem Wld.unset {i:Nat} (W:Wld K k lo us Fb Hb F H σ ρ cs) (hi:lo≤i):Wld K k lo us Fb Hb F H (σ.set i none) (ρ.set i .hole) (fun j=>if j=i then [] else cs j) where
  g:=W.g
  z:=W.z
  l:=by rw [List.length_set,List.length_set];exact W.l
  e:=fun j u h=>by
    by_cases e:j=i
    · subst e
      have hl:j<ρ.length:=by have:=(List.getElem?_eq_some_iff.mp h).1;rw [List.length_set] at this;exact this
      rw [List.getElem?_set_self hl] at h
      cases h
      exact .inl rfl
    · rw [List.getElem?_set_ne (fun z=>e z.symm)] at h
      rw [if_neg e]
      exact (W.e j u h).imp id fun ⟨v,h1,h2⟩=>⟨v,by rw [List.getElem?_set_ne (fun z=>e z.symm)];exact h1,h2⟩
  c:=fun j=>by
    split
    · exact .nil
    · exact W.c j
  n:=fun j=>by
    split
    · exact .nil
    · exact W.n j
  d:=fun a b ne p mp q mq=>by
    by_cases ea:a=i
    · rw [if_pos ea] at mp
      cases mp
    · rw [if_neg ea] at mp
      by_cases eb:b=i
      · rw [if_pos eb] at mq
        cases mq
      · rw [if_neg eb] at mq
        exact W.d a b ne p mp q mq
  p:=fun j h=>by rw [List.getElem?_set_ne (by omega)];exact W.p j h
  x:=W.x
def Pd.less (D:Pd) (i:Nat):Pd:={ nx:=fun ρ=>D.nx (ρ.set i .hole),rt:=D.rt,bk:=fun ρ=>D.bk (ρ.set i .hole),ct:=fun ρ=>D.ct (ρ.set i .hole) }
theorem Lk.less {D:Ends} {D':Pd} {i:Nat} (hi:lo≤i) (L:Lk K k lo us Fb Hb D D'):Lk K k lo us Fb Hb (D.less i) (D'.less i):=
  ⟨fun F H σ ρ cs W q=>L.nx F H _ _ _ (W.unset hi) q,fun F H σ ρ cs v t c W r hc n d nl q=>L.rt F H σ ρ cs v t c W r hc n d nl q,fun F H σ ρ cs W q=>L.bk F H _ _ _ (W.unset hi) q,fun F H σ ρ cs W q=>L.ct F H _ _ _ (W.unset hi) q⟩
def tOfS (K:PySem.W.Frag) (k:Md) (lo:Nat) (ps:PS'):TS:=fun D σ H=>∃ (us:List V) (Fb Hb F:Hp) (ρ:List Tr) (cs:Nat→Cs) (D':Pd),Wld K k lo us Fb Hb F H σ ρ cs∧ps D' ρ∧Lk K k lo us Fb Hb D D'
theorem QB.of {X:Cx} {sts:List Stmt} {ps:PS'} (h:QB X k lo sts ps):PSs X sts (tOfS X.K k lo ps):=fun pins s σ H D I ⟨us,Fb,Hb,F,ρ,cs,D',h1,h2,h3⟩=>by
  obtain⟨te,g1,g2⟩:=h.h
  exact g1 pins s σ H D I (g2 us Fb Hb F H σ ρ cs D D' h1 h2 h3)
theorem l'H {ps:PS'}:SimS K k lo (tOfS K k lo ps) ps:=fun us Fb Hb F H σ ρ cs D D' h1 h2 h3=>⟨us,Fb,Hb,F,ρ,cs,D',h1,h2,h3⟩
def Snd (K:PySem.W.Frag) (k:Md) (lo:Nat) (tS:TE→TS) (pS:PE'→PS'):Prop:=∀ (us:List V) (Fb Hb F H:Hp) (σ:St) (ρ:List Tr) (cs:Nat→Cs) (D:Ends) (D':Pd) (te:TE) (pe:PE'),Wld K k lo us Fb Hb F H σ ρ cs→Lk K k lo us Fb Hb D D'→(∀ Q Q',pe (ρ.map lend) Q'→(∀ t v F' H' c,Q' t→Out K F (Bq Hb H) H F' H' t v c→Q v H')→te σ H Q)→pS pe D' ρ→tS te D σ H
theorem j'k {i:Nat} (hi:lo≤i):Snd K k lo (fun te=>tAsg te (gName i)) (pAsgF i):=fun us Fb Hb F H σ ρ cs D D' te pe W L h p=>h _ _ p fun t v F1 H1 c q o=>by
  obtain⟨F2,cs2,W2⟩:=W.outF o hi q.1
  exact L.nx F2 H1 _ _ _ W2 q.2
def tTr (K:PySem.W.Frag) (z:Bool) (pe:(Value→Prop)→PE') (R':St→XK):TE:=fun σ H Q=>∃ q,tOf K ⟨z,R',q⟩ (pe q) σ H Q
theorem q'I {X:Cx} {z:Bool} {pe:(Value→Prop)→PE'} {R':St→XK} {e:Expr} (h:∀ q,QE X ⟨z,R',q⟩ e (pe q)):PE X e (tTr X.K z pe R'):=fun pins s σ H Q I ⟨q,h'⟩=>(h q).of pins s σ H Q I h'
@[reducible] def catT (K:PySem.W.Frag) (C:Addr) (cls:Value):Prop:=PySem.W.exmOne K cls (.ref C)=some true
def pTry (K:PySem.W.Frag) (C:Addr) (pS:PE'→PS') (pe:(Value→Prop)→PE') (ph:PS'):PS':=fun D ρ=>pS (pe fun cls=>catT K C cls∧ph D ρ) D ρ
def pTryAs (K:PySem.W.Frag) (C:Addr) (i:Nat) (pS:PE'→PS') (pe:(Value→Prop)→PE') (ph:PS'):PS':=fun D ρ=>pS (pe fun cls=>catT K C cls∧∃ B,cls=.ref B∧ph (D.less i) (ρ.set i (.exc B))) D ρ
theorem h'Q {C:Addr} {i:Nat} {tS:TE→TS} {pS:PE'→PS'} {pe:(Value→Prop)→PE'} {th:TS} {ph:PS'} (hi:lo≤i) (hS:Snd K k lo tS pS) (hh:SimS K k.mute lo th ph):SimS K k lo (tTryAs K C i (fun R'=>tS (tTr K k.z pe R')) th) (pTryAs K C i pS pe ph):=fun us Fb Hb F H σ ρ cs D D' W p L=>
  hS us Fb Hb F H σ ρ cs D D' _ _ W L (fun Q Q' pq q=>⟨_,F,Bq Hb H,_,Q',⟨W.cxt.s,W.cxt.b,W.cxt.z,W.cxt.e,fun cls F' H' hq g=>⟨hq.1,by
    obtain⟨_,B,rfl,h3⟩:=hq
    refine⟨B,rfl,fun y hy=>?_⟩
    obtain⟨F2,g2,e2⟩:=al2 (o:=exO y B) g.s (by intro _ _ z;cases z) hy
    have W2:=((W.gr g).gr g2).set hi (t:=.exc B) (v:=.ref y) (c:=[]) ⟨rfl,y,rfl,.inl e2⟩ .nil .nil fun _ _ _ _ _ m=>nomatch m
    exact hh us Fb Hb F2 _ _ _ _ _ _ (W2.md id fun _ _ _ _ h=>h.elim) h3 ((L.less hi).md id W.x)⟩⟩,pq,q⟩) p
end
section
variable {X:Cx} {k:Md} {lo:Nat} {a b c:Expr} {pa pb pc:PE'} {pos:Pos}
theorem l'I {z:Bool} {n m:Nat} {psp:PSpX} {f:Addr} {fd:FuncData} {pn:List Str} {e:Expr} {es:List Expr} {ps:PA'} {x:Str} {p:Pos} (G:FnOk X.prog X.w X.K X.mg X.base (CX1 X.prog X.w) m f fd pn (spX X.K z 0 n psp)) (hx:∀ σ,PassAt (CX1 X.prog X.w) X σ (k.E σ)) (hk:z=true→k.z=true) (hn:∀ xs Q q,psp xs Q q→xs.length=n) (hr:Room m X.A) (hg:Gl X x) (hm:X.mg x=some (.ref f)) (hkp:PySem.W.keepIn X.K (.ref f)=true) (hb:Binds X.K fd pn []) (ha:QA X k (e :: es) ps) (hdb:(x == ("__debug__":Str))=false:=by decide) (he:starEach (e :: es) X.env=(false,eval e X.env) :: starEach es X.env:=by rfl) (hpl:(backTo pos (starEach es X.env)).any (·.1)=false:=by rfl) :
    QE X k (.Call (.Name x p) (e :: es) [] pos) (pCallX k.q psp ps):=by
  obtain⟨ta,h1,h2⟩:=ha.h
  exact⟨_,i'O G hr hg hm hkp hb .nil hx h1 hdb he hpl,e'd (fun F B H σ ρ c cls F' H' hq g=>c.x cls F' H' hq g) hk hn h2⟩
theorem l'J {z:Bool} {E:XK} {q:Value→Prop} {x:Str} {np cpos:Pos} {e₀:Expr} {pe:PE'} {C:Addr} {B newId initId:String} {bmB:List Value} (hs:X.stack=X.env :: X.outer) (hf:X.env.frame=some X.env.locals) (hex:X.ex=[]) (hxe:Xe1 X E)
    (hcalm:X.calm=true) (hg:Gl X x) (hm:X.mg x=some (.ref C)) (FB:ExcBaseFacts B newId initId bmB) (hq:PySem.W.excIn X.K C bmB newId=true) (he:QE X ⟨z,fun _=>E,q⟩ e₀ pe) (hdb:(x == ("__debug__":Str))=false:=by decide)
    (hst:starEach [e₀] X.env=(false,eval e₀ X.env) :: starEach [] X.env:=by rfl) (hpl:(backTo cpos (starEach [] X.env)).any (·.1)=false:=by rfl) :
    QS X ⟨z,fun _=>E,q⟩ lo (.Raise (some (.Call (.Name x np) [e₀] [] cpos)) none pos) (pRaise q C pe):=by
  obtain⟨te,h1,h2⟩:=he.h
  exact⟨_,i'N hs hf hex hxe hcalm hg hm FB hq h1 hdb hst hpl,h'P h2⟩
section
variable {st b₀:Stmt} {suite:List Stmt} {x n:Str} {np hpos:Pos} {C:Addr} {e:Expr} {tS:TE→TS} {pS:PE'→PS'} {pe:(Value→Prop)→PE'} {ph:PS'} {i:Nat}
theorem l'K (hs:X.stack=X.env :: X.outer) (hf:X.env.frame=some X.env.locals) (hg:Gl X x) (hm:X.mg x=some (.ref C)) (hN:X.N.Nodup) (hl:lo≤i) (hi:X.N[i]?=some n) (hn:X.env.scope.names.lookup n=some .local) (hS:Snd X.K k lo tS pS) (hb:∀ pn xe te,PE (X.kept2 pn xe) e te→PS (X.kept2 pn xe) st (tS te))
    (he:∀ (pn:List (Addr×Obj)) (xe:Value→Shared→Prop) (R':St→XK),(∀ σ,PassAt (CX1 X.prog X.w) (X.kept2 pn xe) σ (R' σ))→∀ q,QE (X.kept2 pn xe) ⟨k.z,R',q⟩ e (pe q)) (hh:∀ v:Value,QB (X.inHandler v) k.mute lo (b₀ :: suite) ph) (hdb:(x == ("__debug__":Str))=false:=by decide) :
    QS X k lo (.Try [st] [.ExceptHandler (some (.Name x np)) (some n) (b₀ :: suite) hpos] [] [] pos) (pTryAs X.K C i pS pe ph):=
  ⟨_,i'R hs hf hg hm hN hi hn (fun pn xe R' hx=>f'H (hb pn xe _ (q'I (he pn xe R' hx)))) (fun v=>(hh v).of) hdb,h'Q hl hS l'H⟩
end
theorem o'A:OpR X (compareOp .Is) (fun x y H Q=>((∃ d,y=.bl d)∨y=.non)∧Q (.bl (decide (x=y))) H):=by
  intro pins s σ H x y v u Q I rx ry h
  obtain⟨hy,q⟩:=h
  rcases hy with ⟨d,rfl⟩ | rfl
  · cases ry
    cases x with
    | bl c=>cases rx;exact PyProof.Rows.is_bool (a'n I q (by cases c<;>cases d<;>rfl))
    | _=>first
      | (cases rx;exact wpAny_pure (a'n I q rfl))
      | (obtain⟨t,rfl⟩:=rx;exact wpAny_pure (a'n I q rfl))
  · exact n'K pins s σ H x _ v u Q I rx ry ⟨rfl,q⟩
end
end Pu
namespace Pu
open PySem L2 Vc Sf
section
variable {X:Cx}
theorem l'L:OpR X (compareOp .IsNot) (fun x y H Q=>((∃ d,y=.bl d)∨y=.non)∧Q (.bl (!decide (x=y))) H):=by
  intro pins s σ H x y v u Q I rx ry h
  obtain⟨hy,q⟩:=h
  rcases hy with ⟨d,rfl⟩ | rfl
  · cases ry
    cases x with
    | bl c=>cases rx;exact PyProof.Rows.isnot_bool (a'n I q (by cases c<;>cases d<;>rfl))
    | _=>first
      | (cases rx;exact wpAny_pure (a'n I q rfl))
      | (obtain⟨t,rfl⟩:=rx;exact wpAny_pure (a'n I q rfl))
  · exact k'p pins s σ H x _ v u Q I rx ry ⟨rfl,q⟩
end
section
variable {K:PySem.W.Frag} {k:Md} {F H F' H':Hp} {B:Bool→Hp} {σ:St} {ρ:List Tr}
def isT:Tr→Tr→Bool
  | .bl c, .bl d => c == d
  | .non, .non => true
  | _, _ => false
def wIsV (neg:Bool) (x y:Tr) (Q:Tr→Prop):Prop:=match y with
  | .bl d => Q (.bl (neg ^^ isT x (.bl d)))
  | .non => Q (.bl (neg ^^ isT x .non))
  | _ => False
theorem R.ref {t:Tr} {v:V} {c:Cs} (r:R K F B t v c):(∃ b,t=.bl b∧v=.bl b)∨(t=.non∧v=.non)∨(∀ d,isT t (.bl d)=false∧isT t .non=false∧v≠.bl d∧v≠.non):=by
  cases t with
  | bl b => exact .inl ⟨b, rfl, r.1⟩
  | non => exact .inr (.inl ⟨rfl, r.1⟩)
  | hole => exact (show False from r).elim
  | int n => exact .inr (.inr fun d => ⟨rfl, rfl, (by rw [r.1]; intro z; cases z), (by rw [r.1]; intro z; cases z)⟩)
  | str n => exact .inr (.inr fun d => ⟨rfl, rfl, (by rw [r.1]; intro z; cases z), (by rw [r.1]; intro z; cases z)⟩)
  | ty n => exact .inr (.inr fun d => ⟨rfl, rfl, (by rw [r.1]; intro z; cases z), (by rw [r.1]; intro z; cases z)⟩)
  | cl n => exact .inr (.inr fun d => ⟨rfl, rfl, (by rw [r.1]; intro z; cases z), (by rw [r.1]; intro z; cases z)⟩)
  | exc n => obtain ⟨_, a, rfl, _⟩ := r; exact .inr (.inr fun d => ⟨rfl, rfl, (by intro z; cases z), (by intro z; cases z)⟩)
  | tup xs => obtain ⟨a, vs, rfl, _⟩ := r; exact .inr (.inr fun d => ⟨rfl, rfl, (by intro z; cases z), (by intro z; cases z)⟩)
  | lst f xs =>
    cases f with
    | o=>obtain⟨a,vs,ds,rfl,_⟩:=r;exact .inr (.inr fun d=>⟨rfl,rfl,(by intro z;cases z),(by intro z;cases z)⟩)
    | f=>obtain⟨_,a,vs,rfl,_⟩:=r;exact .inr (.inr fun d=>⟨rfl,rfl,(by intro z;cases z),(by intro z;cases z)⟩)
    | l b=>obtain⟨_,a,vs,rfl,_⟩:=r;exact .inr (.inr fun d=>⟨rfl,rfl,(by intro z;cases z),(by intro z;cases z)⟩)
  | dic f xs =>
    cases f with
    | o=>obtain⟨a,vs,ds,rfl,_⟩:=r;exact .inr (.inr fun d=>⟨rfl,rfl,(by intro z;cases z),(by intro z;cases z)⟩)
    | f=>obtain⟨_,a,vs,rfl,_⟩:=r;exact .inr (.inr fun d=>⟨rfl,rfl,(by intro z;cases z),(by intro z;cases z)⟩)
    | l b=>obtain⟨_,a,vs,rfl,_⟩:=r;exact .inr (.inr fun d=>⟨rfl,rfl,(by intro z;cases z),(by intro z;cases z)⟩)
  | ins f c xs =>
    cases f with
    | o=>obtain⟨a,dx,vs,ds,rfl,_⟩:=r;exact .inr (.inr fun d=>⟨rfl,rfl,(by intro z;cases z),(by intro z;cases z)⟩)
    | f=>obtain⟨_,a,dx,vs,rfl,_⟩:=r;exact .inr (.inr fun d=>⟨rfl,rfl,(by intro z;cases z),(by intro z;cases z)⟩)
    | l b=>obtain⟨_,a,dx,vs,rfl,_⟩:=r;exact .inr (.inr fun d=>⟨rfl,rfl,(by intro z;cases z),(by intro z;cases z)⟩)
theorem h'R {t:Tr} {v:V} {c:Cs} (r:R K F B t v c) (d:Bool):decide (v=.bl d)=isT t (.bl d):=by
  rcases r.ref with ⟨b,rfl,rfl⟩ | ⟨rfl,rfl⟩ | h
  · cases b<;>cases d<;>rfl
  · rfl
  · rw [(h d).1];exact decide_eq_false (h d).2.2.1
theorem g'e {t:Tr} {v:V} {c:Cs} (r:R K F B t v c):decide (v=.non)=isT t .non:=by
  rcases r.ref with ⟨b,rfl,rfl⟩ | ⟨rfl,rfl⟩ | h
  · rfl
  · rfl
  · rw [(h true).2.1];exact decide_eq_false (h true).2.2.2
theorem o'B:Op2 K k (fun x y H Q=>((∃ d,y=.bl d)∨y=.non)∧Q (.bl (decide (x=y))) H) (wIsV false):=fun F B H x y tx ty cx cy Q Q' s b z rx ry hx hy hd p q=>by
  unfold wIsV at p
  split at p
  · obtain⟨rfl,_⟩:=ry
    refine⟨.inl ⟨_,rfl⟩,?_⟩
    rw [h'R rx]
    rw [Bool.false_xor] at p
    exact q _ _ F H [] p (Gr.refl' s) ⟨rfl,rfl⟩ .nil fun _ m=>nomatch m
  · obtain⟨rfl,_⟩:=ry
    refine⟨.inr rfl,?_⟩
    rw [g'e rx]
    rw [Bool.false_xor] at p
    exact q _ _ F H [] p (Gr.refl' s) ⟨rfl,rfl⟩ .nil fun _ m=>nomatch m
  · exact p.elim
theorem h'S:Op2 K k (fun x y H Q=>((∃ d,y=.bl d)∨y=.non)∧Q (.bl (!decide (x=y))) H) (wIsV true):=fun F B H x y tx ty cx cy Q Q' s b z rx ry hx hy hd p q=>by
  unfold wIsV at p
  split at p
  · obtain⟨rfl,_⟩:=ry
    refine⟨.inl ⟨_,rfl⟩,?_⟩
    rw [h'R rx]
    rw [Bool.true_xor] at p
    exact q _ _ F H [] p (Gr.refl' s) ⟨rfl,rfl⟩ .nil fun _ m=>nomatch m
  · obtain⟨rfl,_⟩:=ry
    refine⟨.inr rfl,?_⟩
    rw [g'e rx]
    rw [Bool.true_xor] at p
    exact q _ _ F H [] p (Gr.refl' s) ⟨rfl,rfl⟩ .nil fun _ m=>nomatch m
  · exact p.elim
theorem Rs.bls:∀ {bs:List Bool} {vs:List V} {c:Cs},Rs K F B (bs.map .bl) vs c→vs=bs.map V.bl
  | [], _, _, ⟨h, _⟩ => h
  | b :: bs, _, _, ⟨v, r, c, d, h1, h2, h3, h4⟩ => by rw [h1, Rs.bls h4, h3.1]; rfl
def wAny (all:Bool) (ts:List Tr) (Q:Tr→Prop):Prop:=match ts with
  | [.lst _ xs] => ∃ bs : List Bool, xs = bs.map .bl ∧ Q (.bl (if all = true then bs.all id else bs.any id))
  | _ => False
theorem l'M:OpA K k (fun xs H Q=>∃ (a:Addr) (bs:List Bool),xs=[.ref a]∧SqL K H a (bs.map V.bl)∧Q (.bl (bs.any id)) H) (wAny false):=fun F B H xs ts cx Q Q' s b z r hc p q=>by
  unfold wAny at p
  split at p
  · obtain⟨v,rfl,r1⟩:=r.one
    obtain⟨a,vs,ds,rfl,h1,h2,_⟩:=r1.lstH s b hc
    obtain⟨bs,rfl,p⟩:=p
    rw [h2.bls] at h1
    exact⟨a,bs,rfl,h1,q _ _ F H [] p (Gr.refl' s) ⟨rfl,rfl⟩ .nil fun _ m=>nomatch m⟩
  · exact p.elim
def wIsX (K:PySem.W.Frag) (ts:List Tr) (Q:Tr→Prop):Prop:=match ts with
  | [.exc D, c] => (match clT c with | some u => ∃ b, ExcK K D ∧ PySem.W.kitOne K (.ref D) u = some b ∧ Q (.bl b) | none => False)
  | _ => False
theorem q'J {t:Tr} {v:V} {c:Cs} {u:Value} (r:R K F B t v c) (h:clT t=some u):clsV v=some u:=by
  unfold clT at h
  split at h
  · cases h;rw [r.1];rfl
  · cases h;rw [r.1];rfl
  · cases h
theorem l'N:OpA K k (fun xs H Q=>∃ x D c b u,xs=[.ref x,c]∧Rd H x (exO x D)∧ExcK K D∧clsV c=some u∧PySem.W.kitOne K (.ref D) u=some b∧Q (.bl b) H) (wIsX K):=fun F B H xs ts cx Q Q' s b z r hc p q=>by
  unfold wIsX at p
  split at p
  · split at p
    · rename_i D c _ u hu
      obtain⟨v,w,c1,d1,rfl,r1,r2,rfl⟩:=r.two
      obtain⟨_,a,rfl,h2⟩:=r1
      obtain⟨b',hb,hk,p⟩:=p
      exact⟨a,D,w,b',u,rfl,(Le.of s).exc h2,hb,q'J r2 hu,hk,q _ _ F H [] p (Gr.refl' s) ⟨rfl,rfl⟩ .nil fun _ m=>nomatch m⟩
    · exact p.elim
  · exact p.elim
theorem s'b {X:Cx} {x:Str} {c:Addr} {vs:List V} {pos:Pos} (ts:List Tr) (hg:Gl X x) (hm:X.mg x=some (.ref c)) (ht:∃ (o:Obj) (its:Array Value) (n:Nat),X.K.lookup c=some o∧o.cls=.type "tuple"∧o.data=.seq its n∧its.size≤sizeLine∧Vals vs its.toList) (hr:∀ F B,Rs X.K F B ts vs []) (hd:(x == ("__debug__":Str))=false:=by decide):QE X k (.Name x pos) (pC (.tup ts)):=
  e'Q (.ref c) hg hm rfl (fun F B=>⟨c,vs,rfl,.inr ht,hr F B⟩) hd
theorem g'f:∀ (is:List Int),Rs K F B (is.map .int) (is.map V.int) []
  | [] => ⟨rfl, rfl⟩
  | i :: is => ⟨.int i, is.map V.int, [], [], rfl, rfl, ⟨rfl, rfl⟩, g'f is⟩
theorem c'p {X:Cx} {x:Str} {c:Addr} {pos:Pos} (is:List Int) (hg:Gl X x) (hm:X.mg x=some (.ref c)) (ht:∃ (o:Obj) (its:Array Value) (n:Nat),X.K.lookup c=some o∧o.cls=.type "tuple"∧o.data=.seq its n∧its.size≤sizeLine∧Vals (is.map V.int) its.toList) (hd:(x == ("__debug__":Str))=false:=by decide):QE X k (.Name x pos) (pC (.tup (is.map .int))):=
  s'b _ hg hm ht (fun _ _=>g'f is) hd
theorem s'c {X:Cx} {x:Str} {i:Int} {t:Tok} {pos:Pos} (hg:Gl X x) (hm:X.mg x=some (.int i t)) (hd:(x == ("__debug__":Str))=false:=by decide):QE X k (.Name x pos) (pC (.int i)):=e'Q (.int i) hg hm ⟨_,rfl⟩ (fun _ _=>⟨rfl,rfl⟩) hd
theorem s'd {X:Cx} {x:Str} {c:Addr} {pos:Pos} (hg:Gl X x) (hm:X.mg x=some (.ref c)) (hd:(x == ("__debug__":Str))=false:=by decide):QE X k (.Name x pos) (pC (.cl c)):=e'Q (.ref c) hg hm rfl (fun _ _=>⟨rfl,rfl⟩) hd
def pPairs:List (PE'×PE')→List Tr→(List (Key×Tr)→Prop)→Prop
  | [], _, Q => Q []
  | (pk, pv) :: r, ρ, Q => pk ρ fun x => wKey x fun y => pv ρ fun t => pPairs r ρ fun m => Q ((y, t) :: m)
def SimP (K:PySem.W.Frag) (k:Md) (trs:List (TE×TE)) (ps:List (PE'×PE')):Prop:=∀ (F:Hp) (B:Bool→Hp) (H:Hp) (σ:St) (ρ:List Tr) (Q:List (V×V)→Hp→Prop) (Q':List (Key×Tr)→Prop),Cxt K k F B H σ ρ→pPairs ps ρ Q'→
  (∀ m vs F' H' cs,Q' m→m.length=ps.length→Gr F H F' H'→Rk K F' B m vs cs→Cells F' H' cs→New H cs→Q (vs.map fun kv=>(kV kv.1,kv.2)) H')→tPairs trs σ H Q
theorem j'l:SimP K k [] []:=fun F B H σ ρ Q Q' c p q=>q [] [] F H [] p rfl (Gr.refl' c.s) ⟨rfl,rfl⟩ .nil .nil
theorem q'K {t:Tr} {v:V} {c:Cs} {y:Key} (r:R K F B t v c) (h:keyT t=some y):v=kV y:=by
  unfold keyT at h
  split at h<;>cases h
  · exact r.1
  · exact r.1
theorem h'T {tk tv:TE} {trs:List (TE×TE)} {pk pv:PE'} {ps:List (PE'×PE')} (hk:Sim K k tk pk) (hv:Sim K k tv pv) (h:SimP K k trs ps):SimP K k ((tk,tv) :: trs) ((pk,pv) :: ps):=fun F B H σ ρ Q Q' c p q=>by
  refine hk F B H σ ρ _ _ c p fun x v F1 H1 c1 p1 o1=>?_
  unfold wKey at p1
  split at p1
  · rename_i y hy
    refine hv F1 B H1 σ ρ _ _ (c.gr o1.g) p1 fun t u F2 H2 c2 p2 o2=>?_
    refine h F2 B H2 σ ρ _ _ ((c.gr o1.g).gr o2.g) p2 fun m vs F3 H3 c3 p3 hl g3 r3 d3 n3=>?_
    have e:=q'K o1.r hy
    rw [e]
    have:=q ((y,t) :: m) ((y,u) :: vs) F3 H3 (c2++c3) p3 (by rw [List.length_cons,List.length_cons,hl]) ((o1.g.trans' o2.g).trans' g3) ⟨u,vs,c2,c3,rfl,rfl,o2.r.mo g3.le (fun k=>Le.refl (B k)) t,r3⟩ ((o2.c.gr g3).app d3 fun p mp q mq z=>by have:=o2.c.h p mp;rw [z,n3 q mq] at this;cases this) (fun p mp=>by
      rcases List.mem_append.mp mp with mp | mp
      · exact o1.g.h.free (o2.n p mp)
      · exact (o1.g.trans' o2.g).h.free (n3 p mp))
    exact this
  · exact p1.elim
end
end Pu
namespace Pu
open PySem L2 Vc Sf
theorem j'm {acc:List (Key×V)} {y:Key} {v:V} (h:y ∉ acc.map (·.1)):putK acc y v=acc++[(y,v)]:=by
  unfold putK
  rw [if_neg]
  rw [List.any_eq_true]
  rintro⟨p,m,e⟩
  exact h (List.mem_map.mpr ⟨p,m,of_decide_eq_true e⟩)
theorem e'f:∀ (more acc:List (Key×V)),((acc++more).map (·.1)).Nodup→mergeK acc more=acc++more
  | [], acc, _ => by rw [List.append_nil]; rfl
  | p :: r, acc, h => by
    have e:putK acc p.1 p.2=acc++[p]:=j'm fun m=>by
      rw [List.map_append,List.nodup_append] at h
      exact h.2.2 _ m _ (List.mem_map.mpr ⟨p,.head _,rfl⟩) rfl
    show mergeK (putK acc p.1 p.2) r=_
    rw [e,e'f r (acc++[p]) (by rw [List.append_assoc];exact h),List.append_assoc]
    rfl
section
variable {K:PySem.W.Frag} {k:Md} {F H F' H':Hp} {B:Bool→Hp} {σ:St} {ρ:List Tr}
theorem Rk.fst:∀ {m:List (Key×Tr)} {vs:List (Key×V)} {c:Cs},Rk K F B m vs c→vs.map (·.1)=m.map (·.1)
  | [], _, _, ⟨h, _⟩ => by rw [h]; rfl
  | (y, x) :: m, _, _, ⟨v, r, c, d, h1, h2, h3, h4⟩ => by rw [h1, List.map_cons, List.map_cons, Rk.fst h4]
def pDisp (ps:List (PE'×PE')):PE':=fun ρ Q=>pPairs ps ρ fun m=>(m.map (·.1)).Nodup∧Q (.dic .o m)
theorem j'n {trs:List (TE×TE)} {ps:List (PE'×PE')} (h:SimP K k trs ps) (h15:ps.length≤15):Sim K k (tDisp trs) (pDisp ps):=fun F B H σ ρ Q Q' c p q p0 hp=>by
  have g0:Gr F H F (upd H p0 (.dK [])):=Gr.own1 c.s hp
  refine h F B _ σ ρ _ _ (c.gr g0) p fun m vs F1 H1 cs p1 hl g1 r1 d1 n1=>?_
  have e1:H1 p0=some (.dK []):=g1.h _ _ a'o
  have em:mergeK [] vs=vs:=e'f vs [] (by rw [List.nil_append,r1.fst];exact p1.1)
  have lv:vs.length=m.length:=by have:=congrArg List.length r1.fst;rw [List.length_map,List.length_map] at this;exact this
  refine⟨e1,vs,rfl,by omega,?_⟩
  rw [em]
  have f1:F1 p0=none:=by
    cases z:F1 p0 with
    | none=>rfl
    | some u=>
      have y:=g1.n p0 u z (c.s.free hp)
      rw [a'o] at y
      cases y
  refine q (.dic .o m) (.ref p0) F1 (upd H1 p0 (.dK vs)) ((p0,.dK vs) :: cs) p1.2 ⟨Gr.of ⟨fun a o e=>?_,g1.f,fun a o e=>?_,fun a u e z=>?_⟩ g1.z,⟨p0,vs,cs,rfl,rfl,r1,p1.1⟩,⟨fun x mx=>?_,fun x mx=>?_,?_⟩,fun x mx=>?_⟩
  · have ne:a≠p0:=fun z=>by rw [z,hp] at e;cases e
    rw [a'h ne]
    exact g1.h a o (by rw [a'h ne];exact e)
  · have ne:a≠p0:=fun z=>by rw [z,f1] at e;cases e
    rw [a'h ne]
    exact g1.s a o e
  · have y:=g1.n a u e z
    have ne:a≠p0:=fun z=>by rw [z,f1] at e;cases e
    rw [a'h ne] at y
    exact y
  · cases mx with
    | head=>exact a'o
    | tail _ mx=>
      have ne:x.1≠p0:=fun z=>by have:=n1 x mx;rw [z,a'o] at this;cases this
      rw [a'h ne]
      exact d1.h x mx
  · cases mx with
    | head=>exact f1
    | tail _ mx=>exact d1.f x mx
  · rw [List.map_cons,List.nodup_cons]
    refine⟨fun mm=>?_,d1.nd⟩
    obtain⟨x,mx,e⟩:=List.mem_map.mp mm
    have:=n1 x mx
    have e:x.1=p0:=e
    rw [e,a'o] at this
    cases this
  · cases mx with
    | head=>exact hp
    | tail _ mx=>
      have ne:x.1≠p0:=fun z=>by have:=n1 x mx;rw [z,a'o] at this;cases this
      have:=n1 x mx
      rw [a'h ne] at this
      exact this
end
section
variable {X:Cx} {k:Md} {lo:Nat} {a b c:Expr} {pa pb pc:PE'} {pos:Pos}
structure QP (X:Cx) (k:Md) (pos:Pos) (keys:List (Option Expr)) (values:List Expr) (ps:List (PE'×PE')):Prop where
  h:∃ trs,PPs X pos keys values trs∧SimP X.K k trs ps
theorem h'U:QP X k pos [] [] []:=⟨_,k'u,j'l⟩
theorem c'P {ks:List (Option Expr)} {vs:List Expr} {ps:List (PE'×PE')} (ha:QE X k a pa) (hb:QE X k b pb) (h:QP X k pos ks vs ps):QP X k pos (some a :: ks) (b :: vs) ((pa,pb) :: ps):=by
  obtain⟨ta,f1,f2⟩:=ha.h
  obtain⟨tb,g1,g2⟩:=hb.h
  obtain⟨tc,h1,h2⟩:=h.h
  exact⟨_,i'A f1 g1 h1,h'T f2 g2 h2⟩
theorem h'V {keys:List (Option Expr)} {values:List Expr} {ps:List (PE'×PE')} (h:QP X k pos keys values ps) (hall:keys.all (·.isSome)=true:=by rfl) (hl:keys.length=values.length:=by rfl) (h0:keys≠[]:=by intro z;cases z) (h15:keys.length≤15:=by decide) (hp:ps.length≤15:=by decide):QE X k (.Dict keys values pos) (pDisp ps):=by
  obtain⟨ta,f1,f2⟩:=h.h
  exact⟨_,k'v f1 hall hl h0 h15,j'n f2 hp⟩
theorem q'L (K:PySem.W.Frag) (hK:X.K=K) {x:Str} {p:Pos} {e:Expr} {es:List Expr} {ps:PA'} (hg:Gl X x) (hm:X.mg x=none) (hv:bootBuiltins x=some (.builtin "isinstance")) (ha:QA X k (e :: es) ps) (hn:x≠"__name__":=by decide) (hdb:(x == ("__debug__":Str))=false:=by decide) (he:starEach (e :: es) X.env=(false,eval e X.env) :: starEach es X.env:=by rfl) (hpl:(backTo pos (starEach es X.env)).any (·.1)=false:=by rfl) :
    QE X k (.Call (.Name x p) (e :: es) [] pos) (pB (wIsX K) ps):=by
  subst hK
  exact a'K i'Q l'N hg hm hv ha hn hdb he hpl
end
end Pu
namespace Pu
open PySem L2 Vc Sf
mutual
def Cl:Tr→Bool
  | .tup xs => Cls' xs
  | .lst .f xs => Cls' xs
  | .dic .f xs => Clk xs
  | .ins .f _ xs => Clf xs
  | .lst _ _ => false
  | .dic _ _ => false
  | .ins _ _ _ => false
  | _ => true
def Cls':List Tr→Bool
  | [] => true | x :: xs => Cl x && Cls' xs
def Clk:List (Key×Tr)→Bool
  | [] => true | (_, x) :: xs => Cl x && Clk xs
def Clf:List (Str×Tr)→Bool
  | [] => true | (_, x) :: xs => Cl x && Clf xs
end
structure Clo (t:Tr):Prop where
  l:lend t=t
  f:frz t=t
  d:dn t=t
  o:nol t=true
  t:nlt t=true
structure Clos (t:List Tr):Prop where
  l:lends t=t
  f:frzs t=t
  d:dns t=t
  o:nols t=true
  t:nlts t=true
structure Clok (t:List (Key×Tr)):Prop where
  l:lendk t=t
  f:frzk t=t
  d:dnk t=t
  o:nolk t=true
  t:nltk t=true
structure Clof (t:List (Str×Tr)):Prop where
  l:lendf t=t
  f:frzf t=t
  d:dnf t=t
  o:nolf t=true
  t:nltf t=true
mutual
theorem clo:∀ (t:Tr),Cl t=true→Clo t
  | .int _, _ => ⟨rfl, rfl, rfl, rfl, rfl⟩
  | .bl _, _ => ⟨rfl, rfl, rfl, rfl, rfl⟩
  | .str _, _ => ⟨rfl, rfl, rfl, rfl, rfl⟩
  | .non, _ => ⟨rfl, rfl, rfl, rfl, rfl⟩
  | .hole, _ => ⟨rfl, rfl, rfl, rfl, rfl⟩
  | .ty _, _ => ⟨rfl, rfl, rfl, rfl, rfl⟩
  | .cl _, _ => ⟨rfl, rfl, rfl, rfl, rfl⟩
  | .exc _, _ => ⟨rfl, rfl, rfl, rfl, rfl⟩
  | .tup xs, h => have c := clos xs h; ⟨by show Tr.tup (lends xs) = _; rw [c.l], by show Tr.tup (frzs xs) = _; rw [c.f], by show Tr.tup (dns xs) = _; rw [c.d], c.o, c.t⟩
  | .lst .f xs, h => have c := clos xs h; ⟨rfl, rfl, by show Tr.lst .f (dns xs) = _; rw [c.d], c.o, c.t⟩
  | .dic .f xs, h => have c := clok xs h; ⟨rfl, rfl, by show Tr.dic .f (dnk xs) = _; rw [c.d], c.o, c.t⟩
  | .ins .f a xs, h => have c := clof xs h; ⟨rfl, rfl, by show Tr.ins .f a (dnf xs) = _; rw [c.d], c.o, c.t⟩
theorem clos:∀ (t:List Tr),Cls' t=true→Clos t
  | [], _ => ⟨rfl, rfl, rfl, rfl, rfl⟩
  | x :: xs, h => by
    have h:(Cl x && Cls' xs)=true:=h
    rw [Bool.and_eq_true] at h
    have a:=clo x h.1
    have b:=clos xs h.2
    exact⟨by show lend x :: lends xs=_;rw [a.l,b.l],by show frz x :: frzs xs=_;rw [a.f,b.f],by show dn x :: dns xs=_;rw [a.d,b.d],by show (nol x && nols xs)=_;rw [a.o,b.o];rfl,by show (nlt x && nlts xs)=_;rw [a.t,b.t];rfl⟩
theorem clok:∀ (t:List (Key×Tr)),Clk t=true→Clok t
  | [], _ => ⟨rfl, rfl, rfl, rfl, rfl⟩
  | (k, x) :: xs, h => by
    have h:(Cl x && Clk xs)=true:=h
    rw [Bool.and_eq_true] at h
    have a:=clo x h.1
    have b:=clok xs h.2
    exact⟨by show (k,lend x) :: lendk xs=_;rw [a.l,b.l],by show (k,frz x) :: frzk xs=_;rw [a.f,b.f],by show (k,dn x) :: dnk xs=_;rw [a.d,b.d],by show (nol x && nolk xs)=_;rw [a.o,b.o];rfl,by show (nlt x && nltk xs)=_;rw [a.t,b.t];rfl⟩
theorem clof:∀ (t:List (Str×Tr)),Clf t=true→Clof t
  | [], _ => ⟨rfl, rfl, rfl, rfl, rfl⟩
  | (k, x) :: xs, h => by
    have h:(Cl x && Clf xs)=true:=h
    rw [Bool.and_eq_true] at h
    have a:=clo x h.1
    have b:=clof xs h.2
    exact⟨by show (k,lend x) :: lendf xs=_;rw [a.l,b.l],by show (k,frz x) :: frzf xs=_;rw [a.f,b.f],by show (k,dn x) :: dnf xs=_;rw [a.d,b.d],by show (nol x && nolf xs)=_;rw [a.o,b.o];rfl,by show (nlt x && nltf xs)=_;rw [a.t,b.t];rfl⟩
end
class Enc (α:Type) where
  t:α→Tr
  c:∀ a,Cl (t a)=true
  h:∀ a,t a≠.hole
theorem b'S {α:Type} [Enc α]:∀ xs:List α,Cls' (xs.map Enc.t)=true
  | [] => rfl
  | x :: xs => by show (Cl (Enc.t x) && Cls' (xs.map Enc.t)) = true; rw [Enc.c x, b'S xs]; rfl
theorem b'p {α:Type} [Enc α]:∀ xs:List (Key×α),Clk (xs.map fun p=>(p.1,Enc.t p.2))=true
  | [] => rfl
  | x :: xs => by show (Cl (Enc.t x.2) && Clk (xs.map fun p => (p.1, Enc.t p.2))) = true; rw [Enc.c x.2, b'p xs]; rfl
instance:Enc Int:=⟨.int,fun _=>rfl,fun _ z=>by cases z⟩
instance:Enc Str:=⟨.str,fun _=>rfl,fun _ z=>by cases z⟩
instance:Enc Bool:=⟨.bl,fun _=>rfl,fun _ z=>by cases z⟩
instance:Enc Rat:=⟨fun q=>.tup [.int q.num,.int (q.den:Int)],fun _=>rfl,fun _ z=>by cases z⟩
instance {α:Type} [Enc α]:Enc (List α):=⟨fun xs=>.lst .f (xs.map Enc.t),fun xs=>b'S xs,fun _ z=>by cases z⟩
instance {α β:Type} [Enc α] [Enc β]:Enc (α ⊕ β):=⟨fun x=>match x with | .inl a=>Enc.t a | .inr b=>Enc.t b,fun x=>by cases x<;>exact Enc.c _,fun x=>by cases x<;>exact Enc.h _⟩
instance {α β:Type} [Enc α] [Enc β]:Enc (α×β):=⟨fun x=>.tup [Enc.t x.1,Enc.t x.2],fun x=>by show (Cl _ && (Cl _ && true))=true;rw [Enc.c,Enc.c];rfl,fun _ z=>by cases z⟩
section
variable {α β:Type} [Enc α] [Enc β] (a:α) (xs:List α)
@[simp] theorem q'M (n:Int):Enc.t n=.int n:=rfl
@[simp] theorem q'N (n:Str):Enc.t n=.str n:=rfl
@[simp] theorem s'e (n:Bool):Enc.t n=.bl n:=rfl
theorem k'd (q:Rat):Enc.t q=.tup [.int q.num,.int (q.den:Int)]:=rfl
theorem e_l:lend (Enc.t a)=Enc.t a:=(clo _ (Enc.c a)).l
theorem e_f:frz (Enc.t a)=Enc.t a:=(clo _ (Enc.c a)).f
theorem e_d:dn (Enc.t a)=Enc.t a:=(clo _ (Enc.c a)).d
theorem e_o:nol (Enc.t a)=true:=(clo _ (Enc.c a)).o
theorem e_t:nlt (Enc.t a)=true:=(clo _ (Enc.c a)).t
theorem s'f:lends (xs.map Enc.t)=xs.map Enc.t:=(clos _ (b'S xs)).l
theorem s'g:frzs (xs.map Enc.t)=xs.map Enc.t:=(clos _ (b'S xs)).f
theorem s'h:dns (xs.map Enc.t)=xs.map Enc.t:=(clos _ (b'S xs)).d
theorem s'i:nols (xs.map Enc.t)=true:=(clos _ (b'S xs)).o
theorem j'o:nlts (xs.map Enc.t)=true:=(clos _ (b'S xs)).t
end
class inductive Fp:Fl→Prop where
  | f : Fp .f
  | l : Fp (.l false)
instance:Fp .f:=.f
instance:Fp (.l false):=.l
section
variable {f:Fl} [h:Fp f]
theorem q'O {xs:List Tr}:lend (.lst f xs)=.lst f xs:=by cases h<;>rfl
theorem o'C {xs:List Tr}:frz (.lst f xs)=.lst f xs:=by cases h<;>rfl
theorem o'D {xs:List Tr}:dn (.lst f xs)=.lst f (dns xs):=by cases h<;>rfl
theorem o'E {α:Type} [Enc α] {xs:List α}:nlt (.lst f (xs.map Enc.t))=true:=by cases h<;>first | exact j'o xs | rfl
theorem k'e {xs:List (Key×Tr)}:lend (.dic f xs)=.dic f xs:=by cases h<;>rfl
theorem h'W {xs:List (Key×Tr)}:frz (.dic f xs)=.dic f xs:=by cases h<;>rfl
theorem h'X {xs:List (Key×Tr)}:dn (.dic f xs)=.dic f (dnk xs):=by cases h<;>rfl
theorem h'Y {α:Type} [Enc α] {xs:List (Key×α)}:nlt (.dic f (xs.map fun p=>(p.1,Enc.t p.2)))=true:=by cases h<;>first | exact (clok _ (b'p xs)).t | rfl
end
section
variable {α:Type} [Enc α] {xs:List (Key×α)}
theorem o'F:lendk (xs.map fun p=>(p.1,Enc.t p.2))=xs.map fun p=>(p.1,Enc.t p.2):=(clok _ (b'p xs)).l
theorem o'G:frzk (xs.map fun p=>(p.1,Enc.t p.2))=xs.map fun p=>(p.1,Enc.t p.2):=(clok _ (b'p xs)).f
theorem j'p:dnk (xs.map fun p=>(p.1,Enc.t p.2))=xs.map fun p=>(p.1,Enc.t p.2):=(clok _ (b'p xs)).d
theorem s'j:nolk (xs.map fun p=>(p.1,Enc.t p.2))=true:=(clok _ (b'p xs)).o
theorem s'k:nltk (xs.map fun p=>(p.1,Enc.t p.2))=true:=(clok _ (b'p xs)).t
end
section
variable {K:PySem.W.Frag} {k:Md}
def pCallF (psp:PSp) (pa:PA'):PE':=fun ρ Q=>pa ρ fun ts=>psp (dns (frzs ts)) fun t _=>Q t
def pCallFX (q:Value→Prop) (psp:PSpX) (pa:PA'):PE':=fun ρ Q=>pa ρ fun ts=>psp (dns (frzs ts)) (fun t _=>Q t) q
def pFrzA (pa:PA'):PA':=fun ρ Q=>pa ρ fun ts=>Q (frzs ts)
theorem j'q {ta:TA} {pa:PA'} (h:SimA K k ta pa):SimA K k ta (pFrzA pa):=fun F B H σ ρ Q Q' c p q=>by
  refine h F B H σ ρ _ _ c p fun ts vs F1 H1 c1 p1 o1=>?_
  obtain⟨F2,g2,r2⟩:=o1.held
  exact q _ vs F2 H1 [] p1 ⟨g2,r2,.nil,.nil⟩
theorem QA.frz {X:Cx} {es:List Expr} {pa:PA'} (h:QA X k es pa):QA X k es (pFrzA pa):=by
  obtain⟨ta,h1,h2⟩:=h.h
  exact⟨ta,h1,j'q h2⟩
end
end Pu
namespace Pu
open PySem L2 Vc Sf
theorem at0 {α:Type} (x:α) (xs:List α):atI (x :: xs) 0=some x:=by unfold atI ixN;simp
theorem at1 {α:Type} (x y:α) (xs:List α):atI (x :: y :: xs) 1=some y:=by unfold atI ixN;rw [if_pos (by omega),if_pos (by simp only [List.length_cons];omega)];rfl
theorem at2 {α:Type} (x y z:α) (xs:List α):atI (x :: y :: z :: xs) 2=some z:=by unfold atI ixN;rw [if_pos (by omega),if_pos (by simp only [List.length_cons];omega)];rfl
theorem at3 {α:Type} (x y z a:α) (xs:List α):atI (x :: y :: z :: a :: xs) 3=some a:=by unfold atI ixN;rw [if_pos (by omega),if_pos (by simp only [List.length_cons];omega)];rfl
theorem at4 {α:Type} (x y z a b:α) (xs:List α):atI (x :: y :: z :: a :: b :: xs) 4=some b:=by unfold atI ixN;rw [if_pos (by omega),if_pos (by simp only [List.length_cons];omega)];rfl
def spec (n:Nat) (g:List Tr→(Tr→Prop)→Prop):PSp:=fun xs Q=>xs.length=n∧g xs fun t=>∀ ρ,Q t ρ
def g_gd:PSp:=spec 2 fun xs Q=>∃ a b,xs=[.int a,.int b]∧0≤a∧0≤b∧Q (.int (gd a b))
def g_part:PSp:=spec 2 fun xs Q=>∃ a b,xs=[.int a,.int b]∧b≠0∧bi b≤7990∧Q (Enc.t (Rat.divInt a b))
theorem k'f {a b:Int} {k:Nat} (hb:b≠0) (h:bi b≤k):bi (gd a b)≤k:=by
  refine e'u ?_
  have h1:=b'h h
  have h2:(gd a b).natAbs≤b.natAbs:=Nat.le_of_dvd (by omega) (Int.natAbs_dvd_natAbs.mpr (c'Z a b))
  omega
theorem c'Q {a b x:Int} (hb:b≠0) (h:bi b≤7990):CDivB x (gd a b):=⟨by have:=c'B (a:=a) hb;omega,b'h (Nat.le_trans (k'f hb h) (show 7990≤8000 by omega))⟩
theorem e'Z {a b x:Int} (hb:b≠0) (h:bi b≤7990):CDivB x (-gd a b):=⟨by have:=c'B (a:=a) hb;omega,by rw [Int.natAbs_neg];exact b'h (Nat.le_trans (k'f hb h) (show 7990≤8000 by omega))⟩
def g_two (f:Rat→Rat→Rat):PSp:=spec 2 fun xs Q=>∃ a b:Rat,xs=[Enc.t a,Enc.t b]∧bs a+bs b≤7990∧Q (Enc.t (f a b))
theorem a'U {x y:Int} {n m:Nat} (h1:bi x≤n) (h2:bi y≤m) (h:n+m≤60000000):CMulX x y:=c'J (by omega) (by omega)
theorem c'R (a b:Rat) (h:bs a+bs b≤7990):bi ((a.den:Int)*b.den)≤7990:=Nat.le_trans (e'J _ _) (by have:=a't a;have:=a't b;omega)
theorem l'O {α β:Type} [Enc α] [Enc β] (ws:List α) (ns:List β):(ws.map Enc.t).zipWith (fun x y=>Tr.tup [x,y]) (ns.map Enc.t)=(ws.zip ns).map fun p=>Tr.tup [Enc.t p.1,Enc.t p.2]:=by
  rw [List.zipWith_map,List.zip_eq_zipWith,List.map_zipWith]
theorem l'P {α:Type} [Enc α] (ws:List α):(ws.map Enc.t).mapIdx (fun i x=>Tr.tup [.int i,x])=ws.zipIdx.map fun p=>Tr.tup [.int p.2,Enc.t p.1]:=by
  apply List.ext_getElem?
  intro i
  rw [List.getElem?_mapIdx,List.getElem?_map,List.getElem?_map,List.getElem?_zipIdx]
  cases ws[i]?<;>simp
theorem f'a (a b:Rat):(a.num*(b.den:Int)<b.num*(a.den:Int))↔a<b:=by
  rw [Rat.lt_iff]
def g_under:PSp:=spec 2 fun xs Q=>∃ a b:Rat,xs=[Enc.t a,Enc.t b]∧bs a+bs b≤60000000∧Q (.bl (decide (a<b)))
end Pu
namespace Pu
open PySem L2 Vc Sf
theorem s'l (t:Tr) (ρ':List Tr) (Q:Tr→Prop):pC t ρ' Q=(Q t):=rfl
theorem s'm (pr:Tr→Tr→(Tr→Prop)→Prop) (pa pb:PE') (ρ:List Tr) (Q:Tr→Prop):p2 pr pa pb ρ Q=(pa ρ fun x=>pb ρ fun y=>pr x y Q):=rfl
theorem s'n (pr:Tr→(Tr→Prop)→Prop) (pa:PE') (ρ:List Tr) (Q:Tr→Prop):Pu.p1 pr pa ρ Q=(pa ρ fun x=>pr x Q):=rfl
theorem o'H  (ρ':List Tr) (Q:List Tr→Prop):pNil ρ' Q=(Q []):=rfl
theorem l'Q (pe:PE') (pa:PA') (ρ:List Tr) (Q:List Tr→Prop):pCons pe pa ρ Q=(pe ρ fun x=>pa ρ fun xs=>Q (x :: xs)):=rfl
theorem o'I (pa:PA') (ρ:List Tr) (Q:Tr→Prop):pTup pa ρ Q=(pa ρ fun xs=>xs.length≤10000∧Q (.tup xs)):=rfl
theorem o'J (pa:PA') (ρ:List Tr) (Q:Tr→Prop):pLst pa ρ Q=(pa ρ fun xs=>xs.length≤10000∧Q (.lst .o xs)):=rfl
theorem s'o (pe:PE') (ρ:List Tr) (Q:Bool→Prop):pT pe ρ Q=(pe ρ fun x=>wBl x Q):=rfl
theorem o'K (pa pb:PB') (ρ:List Tr) (Q:Bool→Prop):pAnd pa pb ρ Q=(pa ρ fun c=>if c=true then pb ρ Q else Q false):=rfl
theorem q'P (pa pb:PB') (ρ:List Tr) (Q:Bool→Prop):pOr pa pb ρ Q=(pa ρ fun c=>if c=true then Q true else pb ρ Q):=rfl
theorem o'L (pa:PB') (ρ:List Tr) (Q:Bool→Prop):pNot pa ρ Q=(pa ρ fun c=>Q (!c)):=rfl
theorem l'R (pa pb:PE') (ρ:List Tr) (Q:Tr→Prop):pAndV pa pb ρ Q=(pa ρ fun x=>wBl x fun c=>if c=true then pb ρ Q else Q (.bl false)):=rfl
theorem o'M (pa pb:PE') (ρ:List Tr) (Q:Tr→Prop):pOrV pa pb ρ Q=(pa ρ fun x=>wBl x fun c=>if c=true then Q (.bl true) else pb ρ Q):=rfl
theorem l'S (pa:PE') (ρ:List Tr) (Q:Tr→Prop):pNotV pa ρ Q=(pa ρ fun x=>wBl x fun c=>Q (.bl (!c))):=rfl
theorem q'Q (pc:PB') (pa pb:PE') (ρ:List Tr) (Q:Tr→Prop):pIf pc pa pb ρ Q=(pc ρ fun c=>if c=true then pa ρ Q else pb ρ Q):=rfl
theorem o'N (p q:PS') (D:Pd) (ρ:List Tr):pSeq p q D ρ=(p { D with nx:=q D } ρ):=rfl
theorem l'T  (D:Pd) (ρ:List Tr):pNext D ρ=(D.nx ρ):=rfl
theorem o'O  (D:Pd) (ρ:List Tr):pBrk D ρ=(D.bk ρ):=rfl
theorem o'P  (D:Pd) (ρ:List Tr):pCnt D ρ=(D.ct ρ):=rfl
theorem o'Q (i:Nat) (pe:PE') (D:Pd) (ρ:List Tr):pAsg i pe D ρ=(pe (ρ.map lend) fun t=>nlt t=true∧D.nx (ρ.set i t)):=rfl
theorem l'U (pe:PE') (D:Pd) (ρ:List Tr):pDrop pe D ρ=(pe (ρ.map lend) fun _=>D.nx ρ):=rfl
theorem o'R (pe:PE') (D:Pd) (ρ:List Tr):pRet pe D ρ=(pe (ρ.map lend) fun t=>nol t=true∧D.rt t ρ):=rfl
theorem o'S (pc:PB') (p q:PS') (D:Pd) (ρ:List Tr):pIfS pc p q D ρ=(pc (ρ.map lend) fun b=>if b=true then p D ρ else q D ρ):=rfl
theorem j'r (q:Value→Prop) (psp:PSpX) (pa:PA') (ρ:List Tr) (Q:Tr→Prop):pCallX q psp pa ρ Q=(pa ρ fun ts=>psp (dns ts) (fun t _=>Q t) q):=rfl
theorem l'V (psp:PSp) (pa:PA') (ρ:List Tr) (Q:Tr→Prop):pCall psp pa ρ Q=(pa ρ fun ts=>psp (dns ts) fun t _=>Q t):=rfl
theorem s'p (pr:List Tr→(Tr→Prop)→Prop) (pa:PA') (ρ:List Tr) (Q:Tr→Prop):pB pr pa ρ Q=(pa ρ fun ts=>pr ts Q):=rfl
theorem j's  (D':Pd) (ρ':List Tr):pNever D' ρ'=(False):=rfl
theorem l'W (i:Nat) (pe:PE') (D:Pd) (ρ:List Tr):pAsgF i pe D ρ=(pe (ρ.map lend) fun t=>nlt t=true∧D.nx (ρ.set i (frz t))):=rfl
theorem q'R (i:Nat) (t:Tr) (ρ:List Tr) (Q:List Tr→Prop):pgN i t ρ Q=(Q (ρ.set i t)):=rfl
theorem j't  (ts:List Tr) (ρ:List Tr) (Q:List Tr→Prop):pgsNil ts ρ Q=(match ts with | []=>Q ρ | _=>False):=rfl
theorem h'Z (pg:PG') (pr:List Tr→List Tr→(List Tr→Prop)→Prop) (ts:List Tr) (ρ:List Tr) (Q:List Tr→Prop):pgsCons pg pr ts ρ Q=(match ts with | t :: r=>pg t ρ fun ρ'=>pr r ρ' Q | []=>False):=rfl
theorem q'S (n:Nat) (pr:List Tr→List Tr→(List Tr→Prop)→Prop) (t:Tr) (ρ:List Tr) (Q:List Tr→Prop):pgT n pr t ρ Q=(match t with | .tup ts=>ts.length=n∧pr ts ρ Q | _=>False):=rfl
theorem o'T (pe:PE') (pg:PG') (D:Pd) (ρ:List Tr):pUnp pe pg D ρ=(pe (ρ.map lend) fun t=>nlt t=true∧pg (frz t) ρ D.nx):=rfl
theorem o'U (i j:Nat) (pa:PA') (D:Pd) (ρ:List Tr):pPar i j pa D ρ=(pa (ρ.map lend) fun ts=>match ts with | [a,b]=>nlt a=true∧nlt b=true∧D.nx ((ρ.set i (frz a)).set j (frz b)) | _=>False):=rfl
theorem q'T (pe:PE') (ρ:List Tr) (Q:List Tr→Bool→Prop):piL pe ρ Q=(pe ρ fun t=>wLst (frz t) fun xs=>Q xs (nlt (frz t))):=rfl
theorem q'U (pe:PE') (ρ:List Tr) (Q:List Tr→Bool→Prop):piT pe ρ Q=(pe ρ fun t=>wTp (frz t) fun xs=>Q xs (nlt (frz t))):=rfl
theorem q'V (pa:PA') (ρ:List Tr) (Q:List Tr→Bool→Prop):piE pa ρ Q=(pa ρ fun ts=>wOne ts fun t=>wLst (frz t) fun xs=>Q (xs.mapIdx fun i x=>.tup [.int i,x]) (nlt (frz t))):=rfl
theorem q'W (pa:PA') (ρ:List Tr) (Q:List Tr→Bool→Prop):piV pa ρ Q=(pa ρ fun ts=>wOne ts fun t=>wLst (frz t) fun xs=>Q xs.reverse (nlt (frz t))):=rfl
theorem q'X (pa:PA') (ρ:List Tr) (Q:List Tr→Bool→Prop):piZ pa ρ Q=(pa ρ fun ts=>wTwo ts fun t u=>wLst (frz t) fun xs=>wLst (frz u) fun ys=>Q (xs.zipWith (fun x y=>.tup [x,y]) ys) (nlt (frz t) && nlt (frz u))):=rfl
theorem o'V (pa:PA') (ρ:List Tr) (Q:List Tr→Bool→Prop):piR1 pa ρ Q=(pa ρ fun ts=>wInt1 ts fun j=>-1000000≤j∧j≤1000000∧Q ((List.range j.toNat).map fun (i:Nat)=>.int i) true):=rfl
theorem o'W (pa:PA') (ρ:List Tr) (Q:List Tr→Bool→Prop):piR2 pa ρ Q=(pa ρ fun ts=>wInt2s ts fun i j=>(-1000000≤i∧i≤1000000∧-1000000≤j∧j≤1000000)∧Q ((List.range (j - i).toNat).map fun (n:Nat)=>.int (i+n)) true):=rfl
theorem o'X (K:PySem.W.Frag) (i:Nat) (r:List Str) (pe:PE') (D:Pd) (ρ:List Tr):pApp K i r pe D ρ=(wPl K ρ i r fun u s=>wOwnL u fun xs=>pe (ρ.map lend) fun t=>nlt t=true∧xs.length<1000000∧D.nx (s (.lst .o (xs++[frz t])))):=rfl
theorem l'X (K:PySem.W.Frag) (i:Nat) (r:List Str) (pj pe:PE') (D:Pd) (ρ:List Tr):pSetL K i r pj pe D ρ=(pe (ρ.map lend) fun t=>nlt t=true∧wPl K ρ i r fun u s=>wOwnL u fun xs=>pj (ρ.map lend) fun y=>wSetL xs y (frz t) fun xs'=>D.nx (s (.lst .o xs'))):=rfl
theorem o'Y (K:PySem.W.Frag) (i:Nat) (r:List Str) (pj pe:PE') (D:Pd) (ρ:List Tr):pPut K i r pj pe D ρ=(pe (ρ.map lend) fun t=>nlt t=true∧wPl K ρ i r fun u s=>wOwnD u fun m=>pj (ρ.map lend) fun y=>wKey y fun y=>m.length<1000000∧D.nx (s (.dic .o (putT m y (frz t))))):=rfl
theorem l'Y  (ρ':List Tr) (Q:Tr→Prop):pDnew ρ' Q=(Q (.dic .o [])):=rfl
theorem l'Z (K:PySem.W.Frag) (i:Nat) (r:List Str) (f:Str) (pe:PE') (D:Pd) (ρ:List Tr):pFldS K i r f pe D ρ=(pe (ρ.map lend) fun t=>nlt t=true∧wPl K ρ i r fun u s=>wOwnI K f u fun c fs=>D.nx (s (.ins .o c (putf f t fs)))):=rfl
theorem q'Y  (ρ':List Tr) (Q:Option Int→Prop):poN ρ' Q=(Q none):=rfl
theorem q'Z (pe:PE') (ρ:List Tr) (Q:Option Int→Prop):poS pe ρ Q=(pe ρ fun x=>match x with | .int i=>Q (some i) | _=>False):=rfl
theorem r'a (pe:PE') (pl ph:PO') (ρ:List Tr) (Q:Tr→Prop):pSl pe pl ph ρ Q=(pe ρ fun x=>pl ρ fun l=>ph ρ fun h=>wSl x l h Q):=rfl
theorem o'Z  (ρ':List Tr) (Q:Bool→Prop):pYes ρ' Q=(Q true):=rfl
theorem j'u (q:Value→Prop) (C:Addr) (pe:PE') (D':Pd) (ρ:List Tr):pRaise q C pe D' ρ=(pe (ρ.map lend) fun _=>q (.ref C)):=rfl
theorem p'a (K:PySem.W.Frag) (C:Addr) (pS:PE'→PS') (pe:(Value→Prop)→PE') (ph:PS') (D:Pd) (ρ:List Tr):pTry K C pS pe ph D ρ=(pS (pe fun cls=>catT K C cls∧ph D ρ) D ρ):=rfl
theorem j'v (K:PySem.W.Frag) (C:Addr) (i:Nat) (pS:PE'→PS') (pe:(Value→Prop)→PE') (ph:PS') (D:Pd) (ρ:List Tr):pTryAs K C i pS pe ph D ρ=(pS (pe fun cls=>catT K C cls∧∃ B,cls=.ref B∧ph (D.less i) (ρ.set i (.exc B))) D ρ):=rfl
theorem m'a (ps:List (PE'×PE')) (ρ:List Tr) (Q:Tr→Prop):pDisp ps ρ Q=(pPairs ps ρ fun m=>(m.map (·.1)).Nodup∧Q (.dic .o m)):=rfl
theorem j'w (psp:PSp) (pa:PA') (ρ:List Tr) (Q:Tr→Prop):pCallF psp pa ρ Q=(pa ρ fun ts=>psp (dns (frzs ts)) fun t _=>Q t):=rfl
theorem i'a (q:Value→Prop) (psp:PSpX) (pa:PA') (ρ:List Tr) (Q:Tr→Prop):pCallFX q psp pa ρ Q=(pa ρ fun ts=>psp (dns (frzs ts)) (fun t _=>Q t) q):=rfl
theorem m'b (pa:PA') (ρ:List Tr) (Q:List Tr→Prop):pFrzA pa ρ Q=(pa ρ fun ts=>Q (frzs ts)):=rfl
theorem m'c (n:Int):lend (.int n)=(.int n):=rfl
theorem p'b (n:Bool):lend (.bl n)=(.bl n):=rfl
theorem m'd (n:Str):lend (.str n)=(.str n):=rfl
theorem m'e :lend .non=.non:=rfl
theorem j'x :lend .hole=.hole:=rfl
theorem p'c (n:String):lend (.ty n)=(.ty n):=rfl
theorem p'd (n:Addr):lend (.cl n)=(.cl n):=rfl
theorem m'f (n:Addr):lend (.exc n)=(.exc n):=rfl
theorem m'g (n:Int):Pu.frz (.int n)=(.int n):=rfl
theorem p'e (n:Bool):Pu.frz (.bl n)=(.bl n):=rfl
theorem m'h (n:Str):Pu.frz (.str n)=(.str n):=rfl
theorem m'i :Pu.frz .non=.non:=rfl
theorem j'y :Pu.frz .hole=.hole:=rfl
theorem p'f (n:String):Pu.frz (.ty n)=(.ty n):=rfl
theorem p'g (n:Addr):Pu.frz (.cl n)=(.cl n):=rfl
theorem m'j (n:Addr):Pu.frz (.exc n)=(.exc n):=rfl
theorem m'k (n:Int):dn (.int n)=(.int n):=rfl
theorem p'h (n:Bool):dn (.bl n)=(.bl n):=rfl
theorem m'l (n:Str):dn (.str n)=(.str n):=rfl
theorem m'm :dn .non=.non:=rfl
theorem j'z :dn .hole=.hole:=rfl
theorem p'i (n:String):dn (.ty n)=(.ty n):=rfl
theorem p'j (n:Addr):dn (.cl n)=(.cl n):=rfl
theorem m'n (n:Addr):dn (.exc n)=(.exc n):=rfl
theorem m'o (n:Int):nol (.int n)=true:=rfl
theorem p'k (n:Bool):nol (.bl n)=true:=rfl
theorem m'p (n:Str):nol (.str n)=true:=rfl
theorem m'q :nol .non=true:=rfl
theorem j'A :nol .hole=true:=rfl
theorem p'l (n:String):nol (.ty n)=true:=rfl
theorem p'm (n:Addr):nol (.cl n)=true:=rfl
theorem m'r (n:Addr):nol (.exc n)=true:=rfl
theorem m's (n:Int):nlt (.int n)=true:=rfl
theorem p'n (n:Bool):nlt (.bl n)=true:=rfl
theorem m't (n:Str):nlt (.str n)=true:=rfl
theorem m'u :nlt .non=true:=rfl
theorem j'B :nlt .hole=true:=rfl
theorem p'o (n:String):nlt (.ty n)=true:=rfl
theorem p'p (n:Addr):nlt (.cl n)=true:=rfl
theorem m'v (n:Addr):nlt (.exc n)=true:=rfl
theorem m'w (xs:List Tr):lend (.tup xs)=.tup (lends xs):=rfl
theorem m'x (xs:List Tr):Pu.frz (.tup xs)=.tup (frzs xs):=rfl
theorem m'y (xs:List Tr):dn (.tup xs)=.tup (dns xs):=rfl
theorem m'z (xs:List Tr):nol (.tup xs)=nols xs:=rfl
theorem m'A (xs:List Tr):nlt (.tup xs)=nlts xs:=rfl
theorem m'B (xs:List Tr):lend (.lst .o xs)=.lst (.l true) (lends xs):=rfl
theorem m'C (xs:List Tr):Pu.frz (.lst .o xs)=.lst .f (frzs xs):=rfl
theorem m'D (xs:List Tr):dn (.lst (.l true) xs)=.lst (.l false) (dns xs):=rfl
theorem p'q (b:Bool) (xs:List Tr):Pu.frz (.lst (.l b) xs)=.lst (.l b) xs:=rfl
theorem p'r (b:Bool) (xs:List Tr):lend (.lst (.l b) xs)=.lst (.l b) xs:=rfl
theorem m'E (xs:List Tr):nol (.lst .o xs)=nols xs:=rfl
theorem m'F (xs:List Tr):nlt (.lst .o xs)=nlts xs:=rfl
theorem r'b (xs:List Tr):nol (.lst .f xs)=nols xs:=rfl
theorem m'G (xs:List (Key×Tr)):lend (.dic .o xs)=.dic (.l true) (lendk xs):=rfl
theorem m'H (xs:List (Key×Tr)):Pu.frz (.dic .o xs)=.dic .f (frzk xs):=rfl
theorem m'I (xs:List (Key×Tr)):dn (.dic (.l true) xs)=.dic (.l false) (dnk xs):=rfl
theorem m'J (xs:List (Key×Tr)):nol (.dic .o xs)=nolk xs:=rfl
theorem m'K (xs:List (Key×Tr)):nlt (.dic .o xs)=nltk xs:=rfl
def Loop (ts:List Tr) (pg:PG') (pb:PS') (D:Pd) (ρ:List Tr):Prop:=∃ I:Nat→List Tr→Prop,I 0 ρ∧(∀ i t ρ,ts[i]?=some t→I i ρ→pg t ρ fun ρ'=>pb { D with nx:=I (i+1),ct:=I (i+1),bk:=D.nx } ρ')∧∀ ρ,I ts.length ρ→D.nx ρ
theorem p's (pi:PI') (pg:PG') (pb:PS') (D:Pd) (ρ:List Tr):pFor pi pg pb D ρ=(pi (ρ.map lend) fun ts nl=>nl=true∧Loop ts pg pb D ρ):=rfl
theorem Loop.map {γ:Type} (ys:List γ) (g:γ→Tr) {D:Pd} {pg:PG'} {pb:PS'} {ρ:List Tr} (J:Nat→List Tr→Prop) (h0:J 0 ρ) (step:∀ i y ρ,ys[i]?=some y→J i ρ→pg (g y) ρ fun ρ'=>pb { D with nx:=J (i+1),ct:=J (i+1),bk:=D.nx } ρ') (fin:∀ ρ,J ys.length ρ→D.nx ρ):Loop (ys.map g) pg pb D ρ:=by
  refine⟨J,h0,fun i t ρ h j=>?_,fun ρ h=>fin ρ (by rw [List.length_map] at h;exact h)⟩
  rw [List.getElem?_map] at h
  cases e:ys[i]? with
  | none => rw [e] at h; cases h
  | some y => rw [e] at h; cases h; exact step i y ρ e j
def pV (o:Option Tr) (Q:Tr→Prop):Prop:=match o with | some .hole=>False | some t=>Q t | none=>False
theorem p't (i:Nat) (ρ:List Tr) (Q:Tr→Prop):pVar i ρ Q=pV ρ[i]? Q:=rfl
theorem r'c {α:Type} [Enc α] (a:α) (Q:Tr→Prop):pV (some (Enc.t a)) Q=Q (Enc.t a):=by
  have h:=Enc.h a
  generalize Enc.t a=t at h
  cases t with
  | hole => exact absurd rfl h
  | _ => rfl
theorem r'd (n:Int) (Q:Tr→Prop):pV (some (.int n)) Q=Q (.int n):=rfl
theorem s'q (n:Bool) (Q:Tr→Prop):pV (some (.bl n)) Q=Q (.bl n):=rfl
theorem r'e (n:Str) (Q:Tr→Prop):pV (some (.str n)) Q=Q (.str n):=rfl
theorem r'f (Q:Tr→Prop):pV (some .non) Q=Q .non:=rfl
theorem r'g (n:Addr) (Q:Tr→Prop):pV (some (.exc n)) Q=Q (.exc n):=rfl
theorem r'h (xs:List Tr) (Q:Tr→Prop):pV (some (.tup xs)) Q=Q (.tup xs):=rfl
theorem r'i (f:Fl) (xs:List Tr) (Q:Tr→Prop):pV (some (.lst f xs)) Q=Q (.lst f xs):=rfl
theorem r'j (f:Fl) (xs:List (Key×Tr)) (Q:Tr→Prop):pV (some (.dic f xs)) Q=Q (.dic f xs):=rfl
theorem r'k (f:Fl) (c:Addr) (xs:List (Str×Tr)) (Q:Tr→Prop):pV (some (.ins f c xs)) Q=Q (.ins f c xs):=rfl
theorem j'C (q:Rat) (Q:Tr→Prop):wIdx (Enc.t q) (.int 0) Q=Q (.int q.num):=rfl
theorem j'D (q:Rat) (Q:Tr→Prop):wIdx (Enc.t q) (.int 1) Q=Q (.int (q.den:Int)):=rfl
theorem p'u:Tr.tup [.int 0,.int 1]=Enc.t (0:Rat):=rfl
theorem r'l:Tr.tup [.int 1,.int 1]=Enc.t (1:Rat):=rfl
end Pu
namespace Pu
open PySem L2 Vc Sf
def CLoop (ts:List Tr) (pg:PG') (pt:PB') (pe:PE') (σ':List Tr) (Q:Tr→Prop):Prop:=∃ I:Nat→List Tr→Prop,I 0 []∧
  (∀ i t acc,ts[i]?=some t→I i acc→pg t σ' fun ρ2=>pt ρ2 fun b=>if b=true then pe ρ2 fun x=>acc.length<1000000∧I (i+1) (acc++[x]) else I (i+1) acc)∧∀ acc,I ts.length acc→acc.length≤1000000∧Q (.lst .o acc)
theorem m'L (pi:PI') (pg:PG') (pt:PB') (pe:PE') (ix:List (Option Nat)) (ρ:List Tr) (Q:Tr→Prop):pComp pi pg pt pe ix ρ Q=(pi ρ fun ts _=>CLoop ts pg pt pe (pickT ix ρ) Q):=rfl
theorem CLoop.mapT {γ:Type} (ys:List γ) (g:γ→Tr) (h:γ→Tr) {pg:PG'} {pe:PE'} {σ':List Tr} {Q:Tr→Prop} (hl:ys.length≤1000000) (step:∀ y∈ys,∀ R:Tr→Prop,R (h y)→pg (g y) σ' fun ρ2=>pe ρ2 R) (q:Q (.lst .o (ys.map h))):CLoop (ys.map g) pg pYes pe σ' Q:=by
  refine⟨fun i acc=>acc=(ys.take i).map h,rfl,fun i t acc e a=>?_,fun acc a=>?_⟩
  · rw [List.getElem?_map] at e
    cases e':ys[i]? with
    | none=>rw [e'] at e;cases e
    | some y=>
      rw [e'] at e
      cases e
      have l:=(List.getElem?_eq_some_iff.mp e').1
      refine step y (List.mem_of_getElem? e') _ ⟨?_,?_⟩
      · rw [a,List.length_map,List.length_take];omega
      · show acc++[h y]=(ys.take (i+1)).map h
        rw [a,List.take_add_one,e',List.map_append];rfl
  · rw [List.length_map,List.take_length] at a
    rw [a,List.length_map]
    exact⟨hl,q⟩
theorem CLoop.map {γ β:Type} [Enc β] (ys:List γ) (g:γ→Tr) (h:γ→β) {pg:PG'} {pe:PE'} {σ':List Tr} {Q:Tr→Prop} (hl:ys.length≤1000000) (step:∀ y∈ys,∀ R:Tr→Prop,R (Enc.t (h y))→pg (g y) σ' fun ρ2=>pe ρ2 R) (q:Q (.lst .o ((ys.map h).map Enc.t))):CLoop (ys.map g) pg pYes pe σ' Q:=
  CLoop.mapT ys g (fun y=>Enc.t (h y)) hl step (by rw [List.map_map] at q;exact q)
def dicS {α:Type} [Enc α] (f:Fl) (m:List (Str×α)):Tr:=.dic f (m.map fun p=>(Sum.inr p.1,Enc.t p.2))
theorem b'v {α:Type} [Enc α] (m:List (Str×α)):(m.map fun p=>((Sum.inr p.1:Key),Enc.t p.2))=(m.map fun p=>((Sum.inr p.1:Key),p.2)).map fun p=>(p.1,Enc.t p.2):=by rw [List.map_map];rfl
theorem g'g {α:Type} [Enc α] (m:List (Str×α)):Cl (dicS .f m)=true:=by
  show Clk (m.map fun p=>((Sum.inr p.1:Key),Enc.t p.2))=true
  rw [b'v];exact b'p _
theorem f'b {α:Type} [Enc α] (m:List (Str×α)) (x:Str):look (m.map fun p=>((Sum.inr p.1:Key),Enc.t p.2)) (Sum.inr x)=(gtd m x).map Enc.t:=by
  unfold look gtd
  induction m with
  | nil => rfl
  | cons p m ih =>
    rw [List.map_cons,List.find?_cons,List.find?_cons]
    by_cases h:p.1=x
    · rw [decide_eq_true (by rw [h]),decide_eq_true h];rfl
    · rw [decide_eq_false (fun z=>h (Sum.inr.inj z)),decide_eq_false h];exact ih
theorem r'm {α:Type} [Enc α] (f:Fl) (m:List (Str×α)) (x:Str) (d:α) (Q:Tr→Prop):wGet2 (dicS f m) (.str x) (Enc.t d) Q=Q (Enc.t ((gtd m x).getD d)):=by
  show Q ((look (m.map fun p=>((Sum.inr p.1:Key),Enc.t p.2)) (Sum.inr x)).getD (Enc.t d))=_
  rw [f'b]
  cases gtd m x<;>rfl
def isDic (x:Tr):Prop:=match x with | .dic _ _=>True | _=>False
theorem s'r (pr:Tr→Tr→Tr→(Tr→Prop)→Prop) (pa pb pc:PE') (ρ:List Tr) (Q:Tr→Prop):p3 pr pa pb pc ρ Q=(pa ρ fun x=>isDic x∧pb ρ fun y=>pc ρ fun z=>pr x y z Q):=rfl
theorem r'n {α:Type} [Enc α] (f:Fl) (m:List (Str×α)):isDic (dicS f m)=True:=rfl
def oQ (o:Option Tr) (Q:Tr→Prop):Prop:=match o with | some t=>Q t | none=>False
theorem p'v (t:Tr) (Q:Tr→Prop):oQ (some t) Q=Q t:=rfl
section
variable (i j:Int) (x y:Str) (b c:Bool) (f g:Fl) (xs ys:List Tr) (Q:Tr→Prop)
theorem p'w:wIdx (.tup xs) (.int i) Q=oQ (atI xs i) Q:=rfl
theorem p'x:wIdx (.lst f xs) (.int i) Q=oQ (atI xs i) Q:=rfl
theorem p'y (C:Int→Int→Prop) (t:Int→Int→Tr):wInt2 C t (.int i) (.int j) Q=(C i j∧Q (t i j)):=rfl
theorem p'z:wAdd (.int i) (.int j) Q=Q (.int (i+j)):=rfl
theorem p'A:wAdd (.str x) (.str y) Q=(x.length+y.length≤1000000∧Q (.str (x++y))):=rfl
theorem p'B:wAdd (.lst f xs) (.lst g ys) Q=(xs.length+ys.length≤1000000∧Q (.lst .o (xs++ys))):=rfl
theorem r'o:wMul (.int i) (.int j) Q=(CMulX i j∧Q (.int (i*j))):=rfl
theorem w_lt:wLt (.int i) (.int j) Q=Q (.bl (decide (i<j))):=rfl
theorem s's:wGt (.int i) (.int j) Q=Q (.bl (decide (j<i))):=rfl
theorem r'p:wNeg (.int i) Q=Q (.int (-i)):=rfl
theorem r'q:wAbs [.int i] Q=Q (.int (if i<0 then -i else i)):=rfl
theorem s't (R:Bool→Prop):wBl (.bl b) R=R b:=rfl
theorem r'r:wEq false (.int i) (.int j) Q=Q (.bl (decide (i=j))):=rfl
theorem r's:wEq false (.str x) (.str y) Q=Q (.bl (decide (x=y))):=rfl
theorem r't:wEq false (.bl b) (.bl c) Q=Q (.bl (decide (b=c))):=rfl
theorem r'u:wEq true (.int i) (.int j) Q=Q (.bl (!decide (i=j))):=rfl
theorem r'v:wEq true (.str x) (.str y) Q=Q (.bl (!decide (x=y))):=rfl
theorem r'w:wEq true (.bl b) (.bl c) Q=Q (.bl (!decide (b=c))):=rfl
theorem p'C (k:Bool):wLen k [.lst f xs] Q=Q (.int xs.length):=rfl
theorem p'D (k:Bool):wLen k [.tup xs] Q=Q (.int xs.length):=rfl
theorem p'E:wList [.lst f xs] Q=Q (.lst .o xs):=rfl
theorem r'x (R:List Tr→Prop):wLst (.lst f xs) R=R xs:=rfl
theorem r'y (t:Tr):wOne [t] Q=Q t:=rfl
theorem r'z (t u:Tr) (R:Tr→Tr→Prop):wTwo [t,u] R=R t u:=rfl
theorem p'F (R:Int→Prop):wInt1 [.int i] R=R i:=rfl
theorem p'G (R:Int→Int→Prop):wInt2s [.int i,.int j] R=R i j:=rfl
theorem r'A:wIsV false (.bl b) (.bl c) Q=Q (.bl (b == c)):=by show Q (.bl (false ^^ (b == c)))=_;rw [Bool.false_xor]
theorem r'B:wMx true [.int i,.int j] Q=Q (.int (if j > i then j else i)):=rfl
theorem r'C:wMx false [.int i,.int j] Q=Q (.int (if j<i then j else i)):=rfl
theorem p'H:wIntB [.bl b] Q=Q (.int (if b=true then 1 else 0)):=rfl
end
theorem r'D (x y:Int ⊕ Str) (Q:Tr→Prop):wEq false (Enc.t x) (Enc.t y) Q=Q (.bl (decide (x=y))):=by
  cases x with
  | inl a => cases y with
    | inl b=>show Q (.bl (decide (a=b)))=_;rw [decide_eq_decide.mpr (show a=b↔(Sum.inl a:Int ⊕ Str)=.inl b from ⟨fun h=>by rw [h],fun h=>Sum.inl.inj h⟩)]
    | inr b=>
      refine propext ⟨fun h=>?_,fun h=>.inl ⟨rfl,h⟩⟩
      rcases h with h | ⟨_,h,_⟩
      · exact h.2
      · cases h
  | inr a => cases y with
    | inl b=>
      refine propext ⟨fun h=>?_,fun h=>.inl ⟨rfl,h⟩⟩
      rcases h with h | ⟨_,h,_⟩
      · exact h.2
      · cases h
    | inr b=>show Q (.bl (decide (a=b)))=_;rw [decide_eq_decide.mpr (show a=b↔(Sum.inr a:Int ⊕ Str)=.inr b from ⟨fun h=>by rw [h],fun h=>Sum.inr.inj h⟩)]
abbrev RowE:=List (Str×Rat)×Str×Rat×Int×Int
instance (priority:=high) rowEnc:Enc RowE:=⟨fun r=>.tup [dicS .f r.1,.str r.2.1,Enc.t r.2.2.1,.int r.2.2.2.1,.int r.2.2.2.2],fun r=>by show (Cl (dicS .f r.1) && _)=true;rw [g'g];rfl,fun _ z=>by cases z⟩
theorem r'E (r:RowE) (Q:Tr→Prop):wIdx (Enc.t r) (.int 0) Q=Q (dicS .f r.1):=rfl
theorem r'F (r:RowE) (Q:Tr→Prop):wIdx (Enc.t r) (.int 1) Q=Q (.str r.2.1):=rfl
theorem r'G (r:RowE) (Q:Tr→Prop):wIdx (Enc.t r) (.int 2) Q=Q (Enc.t r.2.2.1):=rfl
theorem r'H (r:RowE) (Q:Tr→Prop):wIdx (Enc.t r) (.int 3) Q=Q (.int r.2.2.2.1):=rfl
theorem r'I (r:RowE) (Q:Tr→Prop):wIdx (Enc.t r) (.int 4) Q=Q (.int r.2.2.2.2):=rfl
theorem p'I {α β:Type} [Enc α] [Enc β] (r:α×β) (Q:Tr→Prop):wIdx (Enc.t r) (.int 0) Q=Q (Enc.t r.1):=rfl
theorem p'J {α β:Type} [Enc α] [Enc β] (r:α×β) (Q:Tr→Prop):wIdx (Enc.t r) (.int 1) Q=Q (Enc.t r.2):=rfl
end Pu
namespace Pu
open PySem L2 Vc Sf
section
variable {K:PySem.W.Frag}
def wP0 (o:Option Tr) (R:Tr→Prop):Prop:=match o with | some .hole=>False | some t=>R t | none=>False
theorem r'J (ρ:List Tr) (i:Nat) (Q:Tr→(Tr→List Tr)→Prop):wPl K ρ i [] Q=wP0 ρ[i]? fun t=>Q t fun u=>ρ.set i u:=by
  unfold wPl wP0
  cases ρ[i]? with
  | none => rfl
  | some t => cases t <;> first | rfl | exact propext ⟨fun h => h.2, fun h => ⟨trivial, h⟩⟩
theorem p'K (f:Fl) (xs:List Tr) (R:Tr→Prop):wP0 (some (.lst f xs)) R=R (.lst f xs):=rfl
theorem p'L (f:Fl) (xs:List (Key×Tr)) (R:Tr→Prop):wP0 (some (.dic f xs)) R=R (.dic f xs):=rfl
theorem p'M (xs:List Tr) (Q:List Tr→Prop):wOwnL (.lst .o xs) Q=Q xs:=rfl
theorem p'N (xs:List (Key×Tr)) (Q:List (Key×Tr)→Prop):wOwnD (.dic .o xs) Q=Q xs:=rfl
end
section
variable {α:Type} [Enc α]
theorem d'e (xs:List α) (a:α):xs.map Enc.t++[Enc.t a]=(xs++[a]).map Enc.t:=by rw [List.map_append];rfl
theorem j'E (xs:List Int) (a:Int):xs.map Enc.t++[Tr.int a]=(xs++[a]).map Enc.t:=d'e xs a
theorem j'F (xs:List Str) (a:Str):xs.map Enc.t++[Tr.str a]=(xs++[a]).map Enc.t:=d'e xs a
theorem m'M (xs:List α) (i:Int):atI (xs.map Enc.t) i=(atI xs i).map Enc.t:=by
  unfold atI
  rw [List.length_map]
  cases ixN xs.length i with
  | none => rfl
  | some n => exact List.getElem?_map ..
theorem a'V {β:Type} (xs:List β) {i:Int} (h0:0≤i) (h:i.toNat<xs.length):atI xs i=some (xs[i.toNat]'h):=by
  unfold atI ixN
  rw [if_pos h0,if_pos (by omega)]
  exact List.getElem?_eq_getElem h
theorem b'w {β:Type} [Enc β] (o:Option β) (Q:Tr→Prop) (x:β) (h:o=some x) (q:Q (Enc.t x)):oQ (o.map Enc.t) Q:=by rw [h];exact q
theorem m'N (xs:List α) (l h:Option Int):cutT (xs.map Enc.t) l h=(cutT xs l h).map Enc.t:=by
  unfold cutT
  rw [List.length_map,List.map_take,List.map_drop]
theorem r'K (f:Fl) (xs:List Tr) (l h:Option Int) (Q:Tr→Prop):wSl (.lst f xs) l h Q=Q (.lst .o (cutT xs l h)):=rfl
end
theorem s'u {p:PS'} {D:Pd} {ρ:List Tr} (J:List Tr→Prop) (h1:∀ N:List Tr→Prop,(∀ ρ,J ρ→N ρ)→p { D with nx:=N } ρ) (h2:∀ ρ,J ρ→D.nx ρ):p D ρ:=h1 D.nx h2
theorem g'h {α:Type} (xs:List α) (n:Nat) (h:n≤xs.length):(cutT xs none (some (n:Int))).length=n∧∀ x∈cutT xs none (some (n:Int)),x∈xs:=by
  unfold cutT
  have e0:HT.sIx xs.length 0 none=0:=rfl
  have e1:HT.sIx xs.length xs.length (some (n:Int))=n:=by unfold HT.sIx;simp only [Int.toNat_natCast];rw [if_neg (by omega)];omega
  rw [e0,e1]
  refine⟨by rw [List.length_take,List.length_drop];omega,fun x m=>List.mem_of_mem_drop (List.mem_of_mem_take m)⟩
end Pu
namespace Pu
open PySem L2 Vc Sf
section
variable {K:PySem.W.Frag} {k:Md} {lo:Nat} {us:List V} {Fb Hb F H:Hp} {σ:St} {ρ:List Tr} {cs:Nat→Cs}
theorem Wld.hole {i:Nat} (W:Wld K k lo us Fb Hb F H σ ρ cs):Wld K k lo us Fb Hb F H σ (ρ.set i .hole) (fun j=>if j=i then [] else cs j) where
  g:=W.g
  z:=W.z
  l:=by rw [List.length_set];exact W.l
  e:=fun j u h=>by
    by_cases e:j=i
    · subst e
      have hl:j<ρ.length:=by have:=(List.getElem?_eq_some_iff.mp h).1;rw [List.length_set] at this;exact this
      rw [List.getElem?_set_self hl] at h
      cases h
      exact .inl rfl
    · rw [List.getElem?_set_ne (fun z=>e z.symm)] at h
      rw [if_neg e]
      exact W.e j u h
  c:=fun j=>by
    split
    · exact .nil
    · exact W.c j
  n:=fun j=>by
    split
    · exact .nil
    · exact W.n j
  d:=fun a b ne p mp q mq=>by
    by_cases ea:a=i
    · rw [if_pos ea] at mp
      cases mp
    · rw [if_neg ea] at mp
      by_cases eb:b=i
      · rw [if_pos eb] at mq
        cases mq
      · rw [if_neg eb] at mq
        exact W.d a b ne p mp q mq
  p:=W.p
  x:=W.x
theorem Wld.fz {i:Nat} {t:Tr} (W:Wld K k lo us Fb Hb F H σ ρ cs) (ht:ρ[i]?=some t) (hn:t≠.hole):∃ F',Wld K k lo us Fb Hb F' H σ (ρ.set i (Pu.frz t)) (fun j=>if j=i then [] else cs j):=by
  rcases W.e i t ht with rfl | ⟨v,h1,r⟩
  · exact absurd rfl hn
  obtain⟨F1,W2,s,e⟩:=(W.hole (i:=i)).lay (W.c i) (W.n i) (r.plain t) (fun j p mp q mq=>by
    by_cases ej:j=i
    · rw [if_pos ej] at mp;cases mp
    · rw [if_neg ej] at mp;exact W.d j i ej p mp q mq)
  refine⟨F1,⟨W2.g,W2.z,by rw [List.length_set];exact W.l,fun j u h=>?_,W2.c,W2.n,W2.d,W2.p,W2.x⟩⟩
  by_cases ej:j=i
  · subst ej
    have hl:j<ρ.length:=by have:=(List.getElem?_eq_some_iff.mp h).1;rw [List.length_set] at this;exact this
    rw [List.getElem?_set_self hl] at h
    cases h
    exact .inr ⟨v,h1,by rw [if_pos rfl];exact r.frz (Le.of s) t e⟩
  · exact W2.e j u (by rw [List.getElem?_set_ne (fun z=>ej z.symm)] at h ⊢;exact h)
def pFz (i:Nat) (p:PS'):PS':=fun D ρ=>pV ρ[i]? fun t=>p D (ρ.set i (Pu.frz t))
theorem p'O {i:Nat} {ts:TS} {p:PS'} (h:SimS K k lo ts p):SimS K k lo ts (pFz i p):=fun us Fb Hb F H σ ρ cs D D' W q L=>by
  unfold pFz pV at q
  split at q
  · exact q.elim
  · rename_i t hn e
    obtain⟨F1,W1⟩:=W.fz e (fun z=>hn (by rw [z]))
    exact h us Fb Hb F1 H σ _ _ D D' W1 q L
  · exact q.elim
theorem f'c {X:Cx} (i:Nat) {sts:List Stmt} {p:PS'} (h:QB X k lo sts p):QB X k lo sts (pFz i p):=by
  obtain⟨ts,h1,h2⟩:=h.h
  exact⟨ts,h1,p'O h2⟩
theorem r'L (i:Nat) (p:PS') (D:Pd) (ρ:List Tr):pFz i p D ρ=(pV ρ[i]? fun t=>p D (ρ.set i (Pu.frz t))):=rfl
end
def LoopD (w:Wm) (m:List (Key×Tr)) (pg:PG') (pb:PS') (D:Pd) (ρ:List Tr):Prop:=∃ I:Nat→List Tr→Prop,I 0 ρ∧(∀ i p ρ,m[i]?=some p→I i ρ→pg (wit w p) ρ fun ρ'=>pb { D with nx:=I (i+1),ct:=I (i+1),bk:=D.nx } ρ')∧∀ ρ,I m.length ρ→D.nx ρ
theorem m'O (w:Wm) (pe:PE') (pg:PG') (pb:PS') (D:Pd) (ρ:List Tr):pForD w pe pg pb D ρ=(pe (ρ.map lend) fun t=>nlt t=true∧wDicF (Pu.frz t) fun m=>LoopD w m pg pb D ρ):=rfl
theorem LoopD.map {α:Type} [Enc α] (m:List (Str×α)) {w:Wm} {D:Pd} {pg:PG'} {pb:PS'} {ρ:List Tr} (J:Nat→List Tr→Prop) (h0:J 0 ρ) (step:∀ i x y ρ,m[i]?=some (x,y)→J i ρ→pg (wit w (Sum.inr x,Enc.t y)) ρ fun ρ'=>pb { D with nx:=J (i+1),ct:=J (i+1),bk:=D.nx } ρ') (fin:∀ ρ,J m.length ρ→D.nx ρ):LoopD w (m.map fun p=>((Sum.inr p.1:Key),Enc.t p.2)) pg pb D ρ:=by
  refine⟨J,h0,fun i t ρ h j=>?_,fun ρ h=>fin ρ (by rw [List.length_map] at h;exact h)⟩
  rw [List.getElem?_map] at h
  cases e:m[i]? with
  | none => rw [e] at h; cases h
  | some y => rw [e] at h; cases h; exact step i y.1 y.2 ρ e j
theorem s'v (x:Str) (t:Tr):wit .it (Sum.inr x,t)=.tup [.str x,t]:=rfl
theorem s'w (x:Str) (t:Tr):wit .ks (Sum.inr x,t)=.str x:=rfl
theorem s'x (x:Key) (t:Tr):wit .vs (x,t)=t:=rfl
section
variable {α:Type} [Enc α] (m:List (Str×α)) {f:Fl}
theorem p'P (Q:List (Key×Tr)→Prop):wDicF (dicS .f m) Q=Q (m.map fun p=>((Sum.inr p.1:Key),Enc.t p.2)):=rfl
theorem s_l [h:Fp f]:lend (dicS f m)=dicS f m:=k'e
theorem s_f [h:Fp f]:Pu.frz (dicS f m)=dicS f m:=h'W
theorem s_d [h:Fp f]:dn (dicS f m)=dicS f m:=by
  unfold dicS
  rw [h'X,b'v,j'p]
theorem s_t [h:Fp f]:nlt (dicS f m)=true:=by
  unfold dicS
  rw [b'v]
  exact h'Y
theorem s_o:nol (dicS .f m)=true:=(clo _ (g'g m)).o
theorem p'Q (Q:Tr→Prop):pV (some (dicS f m)) Q=Q (dicS f m):=rfl
theorem r'M (x:Str) (Q:Tr→Prop):wIdx (dicS f m) (.str x) Q=oQ ((gtd m x).map Enc.t) Q:=by
  show (match look (m.map fun p=>((Sum.inr p.1:Key),Enc.t p.2)) (Sum.inr x) with | some t=>Q t | none=>False)=_
  rw [f'b]
  cases gtd m x<;>rfl
theorem r'N:lend (dicS .o m)=dicS (.l true) m:=by
  show Tr.dic (.l true) (lendk _)=_
  rw [b'v,o'F]
  unfold dicS
  rw [← b'v]
theorem p'R:Pu.frz (dicS .o m)=dicS .f m:=by
  show Tr.dic .f (frzk _)=_
  rw [b'v,o'G]
  unfold dicS
  rw [← b'v]
theorem r'O:dn (dicS (.l true) m)=dicS (.l false) m:=by
  show Tr.dic (.l false) (dnk _)=_
  rw [b'v,j'p]
  unfold dicS
  rw [← b'v]
theorem p'S (x:Str) (Q:Tr→Prop):wIn false (.str x) (dicS f m) Q=Q (.bl (gtd m x).isSome):=by
  show Q (.bl (look (m.map fun p=>((Sum.inr p.1:Key),Enc.t p.2)) (Sum.inr x)).isSome)=_
  rw [f'b,Option.isSome_map]
end
end Pu
namespace Pu
open PySem L2 Vc Sf
theorem CLoop.filter {γ β:Type} [Enc β] (ys:List γ) (g:γ→Tr) (p:γ→Bool) (h:γ→β) {pg:PG'} {pt:PB'} {pe:PE'} {σ':List Tr} {Q:Tr→Prop} (hl:ys.length≤1000000)
    (step:∀ y∈ys,∀ (A:Prop) (R:Tr→Prop),(p y=true→R (Enc.t (h y)))→(p y=false→A)→pg (g y) σ' fun ρ2=>pt ρ2 fun b=>if b=true then pe ρ2 R else A) (q:Q (.lst .o (((ys.filter p).map h).map Enc.t))):CLoop (ys.map g) pg pt pe σ' Q:=by
  refine⟨fun i acc=>acc=(((ys.take i).filter p).map h).map Enc.t,rfl,fun i t acc e a=>?_,fun acc a=>?_⟩
  · rw [List.getElem?_map] at e
    cases e':ys[i]? with
    | none=>rw [e'] at e;cases e
    | some y=>
      rw [e'] at e
      cases e
      have l:=(List.getElem?_eq_some_iff.mp e').1
      have tk:ys.take (i+1)=ys.take i++[y]:=by rw [List.take_add_one,e'];rfl
      refine step y (List.mem_of_getElem? e') _ _ (fun hp=>⟨?_,?_⟩) (fun hp=>?_)
      · rw [a,List.length_map,List.length_map]
        have:=List.length_filter_le p (ys.take i)
        rw [List.length_take] at this
        omega
      · show acc++[Enc.t (h y)]=(((ys.take (i+1)).filter p).map h).map Enc.t
        rw [tk,List.filter_append,a,List.filter_cons_of_pos hp,List.map_append,List.map_append]
        rfl
      · show acc=(((ys.take (i+1)).filter p).map h).map Enc.t
        rw [tk,List.filter_append,a,List.filter_cons_of_neg (by rw [hp];decide),List.filter_nil,List.append_nil]
  · rw [List.length_map,List.take_length] at a
    rw [a,List.length_map,List.length_map]
    exact⟨Nat.le_trans (List.length_filter_le p ys) hl,q⟩
theorem i'b (f g:Fl) (xs:List Tr) (hd:deps xs≤59) (Q:Tr→Prop) (q:Q (.bl (!xs.isEmpty))):wEq true (.lst f xs) (.lst g []) Q:=by
  refine .inr ⟨xs.isEmpty,?_,by show deps xs+1≤60;omega,by show 1≤deps xs+1;omega,q⟩
  cases xs with
  | nil => rfl
  | cons x xs => rfl
section
variable {α:Type} [Enc α] (m:List (Str×α)) (f:Fl)
theorem r'P (x:Str):((m.map fun p=>((Sum.inr p.1:Key),Enc.t p.2)).any fun kv=>decide (kv.1=Sum.inr x))=m.any fun p=>decide (p.1=x):=by
  induction m with
  | nil => rfl
  | cons p m ih =>
    rw [List.map_cons,List.any_cons,List.any_cons,ih,decide_eq_decide.mpr (show (Sum.inr p.1:Key)=Sum.inr x↔p.1=x from ⟨fun h=>Sum.inr.inj h,fun h=>by rw [h]⟩)]
theorem k'g (x:Str) (a:α):putT (m.map fun p=>((Sum.inr p.1:Key),Enc.t p.2)) (Sum.inr x) (Enc.t a)=(ptd m x a).map fun p=>((Sum.inr p.1:Key),Enc.t p.2):=by
  unfold putT ptd
  rw [r'P]
  split
  · rw [List.map_map,List.map_map]
    refine List.map_congr_left fun p _=>?_
    show (if (Sum.inr p.1:Key)=Sum.inr x then _ else _)=_
    by_cases h:p.1=x
    · rw [if_pos (by rw [h])]
      show _=((Sum.inr (if p.1=x then (p.1,a) else p).1:Key),Enc.t (if p.1=x then (p.1,a) else p).2)
      rw [if_pos h]
    · rw [if_neg (fun z=>h (Sum.inr.inj z))]
      show _=((Sum.inr (if p.1=x then (p.1,a) else p).1:Key),Enc.t (if p.1=x then (p.1,a) else p).2)
      rw [if_neg h]
  · rw [List.map_append];rfl
theorem m'P (R:Tr→Prop):wP0 (some (dicS f m)) R=R (dicS f m):=rfl
theorem m'Q (Q:List (Key×Tr)→Prop):wOwnD (dicS .o m) Q=Q (m.map fun p=>((Sum.inr p.1:Key),Enc.t p.2)):=rfl
theorem p'T (x:Str) (Q:Key→Prop):wKey (.str x) Q=Q (Sum.inr x):=rfl
theorem p'U (x:Int) (Q:Key→Prop):wKey (.int x) Q=Q (Sum.inl x):=rfl
end
end Pu
namespace Pu
open PySem L2 Vc Sf
mutual
def smT:Tr→Tr→Bool
  | .int a, .int b => decide (a = b)
  | .str a, .str b => decide (a = b)
  | .bl a, .bl b => decide (a = b)
  | .non, .non => true
  | .tup xs, .tup ys => smTs xs ys
  | .lst _ xs, .lst _ ys => smTs xs ys
  | _, _ => false
def smTs:List Tr→List Tr→Bool
  | [], [] => true
  | x :: xs, y :: ys => smT x y && smTs xs ys
  | _, _ => false
end
def smTk:List (Key×Tr)→List (Key×Tr)→Bool
  | [], [] => true
  | x :: xs, y :: ys => decide (x.1 = y.1) && (smT x.2 y.2 && smTk xs ys)
  | _, _ => false
def depk:List (Key×Tr)→Nat
  | [] => 0
  | x :: xs => max (dep x.2) (depk xs)
mutual
def smN:Tr→Tr→Bool
  | .int a, .int b => decide (a = b)
  | .str a, .str b => decide (a = b)
  | .bl a, .bl b => decide (a = b)
  | .non, .non => true
  | .tup xs, .tup ys => smNs xs ys
  | .lst _ xs, .lst _ ys => smNs xs ys
  | .dic _ xs, .dic _ ys => smTk xs ys
  | _, _ => false
def smNs:List Tr→List Tr→Bool
  | [], [] => true
  | x :: xs, y :: ys => smN x y && smNs xs ys
  | _, _ => false
end
mutual
def depN:Tr→Nat
  | .tup xs => depNs xs + 1
  | .lst _ xs => depNs xs + 1
  | .dic _ xs => depk xs + 1
  | _ => 0
def depNs:List Tr→Nat
  | [] => 0
  | x :: xs => max (depN x) (depNs xs)
end
section
variable {K:PySem.W.Frag} {F H:Hp} {B:Bool→Hp}
mutual
theorem i'c (sf:Same F H) (sb:∀ k,Same (B k) H):∀ (t t':Tr) (v v':V) (c c':Cs),smT t t'=true→R K F B t v c→R K F B t' v' c'→Cells F H c→Cells F H c'→EqT K H (dep t) v v'
  | .tup xs => fun t' v v' c c' e r r' hc hc' => by
    cases t' with
    | tup ys=>
      unfold smT at e
      obtain⟨a,vs,rfl,h1,h2⟩:=r.tupH sf
      obtain⟨a',vs',rfl,g1,g2⟩:=r'.tupH sf
      exact .inr ⟨a,a',vs,vs',rfl,rfl,.inl ⟨h1,g1⟩,smTs_eq sf sb xs ys vs vs' c c' (deps xs) e h2 g2 hc hc' (Nat.le_refl _)⟩
    | _=>cases e
  | .lst f xs => fun t' v v' c c' e r r' hc hc' => by
    cases t' with
    | lst f' ys=>
      unfold smT at e
      obtain⟨a,vs,ds,rfl,h1,h2,h3,_⟩:=r.lstH sf sb hc
      obtain⟨a',vs',ds',rfl,g1,g2,g3,_⟩:=r'.lstH sf sb hc'
      exact .inr ⟨a,a',vs,vs',rfl,rfl,.inr ⟨h1,g1⟩,smTs_eq sf sb xs ys vs vs' ds ds' (deps xs) e h2 g2 h3 g3 (Nat.le_refl _)⟩
    | _=>cases e
  | .int a => fun t' v v' c c' e r r' _ _ => by
    cases t' with
    | int a'=>have:=of_decide_eq_true e;subst this;rw [r.1,r'.1];exact⟨rfl,rfl⟩
    | _=>cases e
  | .str a => fun t' v v' c c' e r r' _ _ => by
    cases t' with
    | str a'=>have:=of_decide_eq_true e;subst this;rw [r.1,r'.1];exact⟨rfl,rfl⟩
    | _=>cases e
  | .bl a => fun t' v v' c c' e r r' _ _ => by
    cases t' with
    | bl a'=>have:=of_decide_eq_true e;subst this;rw [r.1,r'.1];exact⟨rfl,rfl⟩
    | _=>cases e
  | .non => fun t' v v' c c' e r r' _ _ => by
    cases t' with
    | non=>rw [r.1,r'.1];exact⟨rfl,rfl⟩
    | _=>cases e
  | .hole => fun t' v v' c c' e _ _ _ _ => by cases t' <;> cases e
  | .ty _ => fun t' v v' c c' e _ _ _ _ => by cases t' <;> cases e
  | .cl _ => fun t' v v' c c' e _ _ _ _ => by cases t' <;> cases e
  | .exc _ => fun t' v v' c c' e _ _ _ _ => by cases t' <;> cases e
  | .dic _ _ => fun t' v v' c c' e _ _ _ _ => by cases t' <;> cases e
  | .ins _ _ _ => fun t' v v' c c' e _ _ _ _ => by cases t' <;> cases e
theorem smTs_eq (sf:Same F H) (sb:∀ k,Same (B k) H):∀ (ts ts':List Tr) (vs vs':List V) (c c':Cs) (n:Nat),smTs ts ts'=true→Rs K F B ts vs c→Rs K F B ts' vs' c'→Cells F H c→Cells F H c'→deps ts≤n→All2 (EqT K H n) vs vs'
  | [] => fun ts' vs vs' c c' n e r r' _ _ _ => by
    cases ts' with
    | nil=>rw [r.1,r'.1];exact True.intro
    | cons _ _=>cases e
  | x :: xs => fun ts' vs vs' c c' n e r r' hc hc' hn => by
    cases ts' with
    | nil=>cases e
    | cons y ys=>
      obtain⟨v,q,c1,d1,h1,h2,h3,h4⟩:=r
      obtain⟨v',q',c2,d2,g1,g2,g3,g4⟩:=r'
      rw [h2] at hc
      rw [g2] at hc'
      rw [h1,g1]
      unfold smTs at e
      rw [Bool.and_eq_true] at e
      unfold deps at hn
      exact⟨e'L (i'c sf sb x y v v' c1 c2 e.1 h3 g3 hc.left hc'.left) (by omega),smTs_eq sf sb xs ys q q' d1 d2 n e.2 h4 g4 hc.right hc'.right (by omega)⟩
end
theorem g'i (sf:Same F H) (sb:∀ k,Same (B k) H):∀ (ts ts':List (Key×Tr)) (vs vs':List (Key×V)) (c c':Cs) (n:Nat),smTk ts ts'=true→Rk K F B ts vs c→Rk K F B ts' vs' c'→Cells F H c→Cells F H c'→depk ts≤n→(ts.map (·.1)).Nodup→DEqT K H n vs vs'∧vs.map (·.1)=ts.map (·.1)∧vs'.map (·.1)=ts.map (·.1)
  | [] => fun ts' vs vs' c c' n e r r' _ _ _ _ => by
    cases ts' with
    | nil=>rw [r.1,r'.1];exact⟨⟨rfl,fun _ _ m=>nomatch m⟩,rfl,rfl⟩
    | cons _ _=>cases e
  | (k, x) :: xs => fun ts' vs vs' c c' n e r r' hc hc' hn hd => by
    cases ts' with
    | nil=>cases e
    | cons y ys=>
      obtain⟨l,y⟩:=y
      obtain⟨v,q,c1,d1,h1,h2,h3,h4⟩:=r
      obtain⟨v',q',c2,d2,g1,g2,g3,g4⟩:=r'
      rw [h2] at hc
      rw [g2] at hc'
      unfold smTk at e
      rw [Bool.and_eq_true,Bool.and_eq_true,decide_eq_true_eq] at e
      obtain⟨e0,e1,e2⟩:=e
      dsimp only at e0 e1
      subst e0
      unfold depk at hn
      dsimp only at hn
      obtain⟨n1,n2⟩:=List.nodup_cons.mp (show (k :: xs.map (·.1)).Nodup from hd)
      obtain⟨⟨i1,i2⟩,i3,i4⟩:=g'i sf sb xs ys q q' d1 d2 n e2 h4 g4 hc.right hc'.right (by omega) n2
      have t:=e'L (i'c sf sb x y v v' c1 c2 e1 h3 g3 hc.left hc'.left) (show dep x≤n by omega)
      subst h1
      subst g1
      refine⟨⟨by rw [List.length_cons,List.length_cons,i1],fun k' u m=>?_⟩,by rw [List.map_cons,List.map_cons,i3],by rw [List.map_cons,List.map_cons,i4]⟩
      rcases List.mem_cons.mp m with m | m
      · cases m
        refine⟨v',?_,t⟩
        simp [valV]
      · obtain⟨z,z1,z2⟩:=i2 k' u m
        refine⟨z,?_,z2⟩
        have ne:¬ k=k':=fun h=>n1 (by rw [← i3,h];exact List.mem_map.mpr ⟨_,m,rfl⟩)
        simp only [valV] at z1 ⊢
        rw [List.find?_cons_of_neg (by simpa using ne)]
        exact z1
mutual
theorem p'V (sf:Same F H) (sb:∀ k,Same (B k) H):∀ (t t':Tr) (v v':V) (c c':Cs),smN t t'=true→R K F B t v c→R K F B t' v' c'→Cells F H c→Cells F H c'→EqN K H (depN t) v v'
  | .tup xs => fun t' v v' c c' e r r' hc hc' => by
    cases t' with
    | tup ys=>
      unfold smN at e
      obtain⟨a,vs,rfl,h1,h2⟩:=r.tupH sf
      obtain⟨a',vs',rfl,g1,g2⟩:=r'.tupH sf
      exact .inr ⟨a,a',rfl,rfl,.inl ⟨vs,vs',.inl ⟨h1,g1⟩,smNs_eq sf sb xs ys vs vs' c c' (depNs xs) e h2 g2 hc hc' (Nat.le_refl _)⟩⟩
    | _=>cases e
  | .lst f xs => fun t' v v' c c' e r r' hc hc' => by
    cases t' with
    | lst f' ys=>
      unfold smN at e
      obtain⟨a,vs,ds,rfl,h1,h2,h3,_⟩:=r.lstH sf sb hc
      obtain⟨a',vs',ds',rfl,g1,g2,g3,_⟩:=r'.lstH sf sb hc'
      exact .inr ⟨a,a',rfl,rfl,.inl ⟨vs,vs',.inr ⟨h1,g1⟩,smNs_eq sf sb xs ys vs vs' ds ds' (depNs xs) e h2 g2 h3 g3 (Nat.le_refl _)⟩⟩
    | _=>cases e
  | .dic f xs => fun t' v v' c c' e r r' hc hc' => by
    cases t' with
    | dic f' ys=>
      unfold smN at e
      have nd:=r.dicN
      obtain⟨a,vs,ds,rfl,h1,h2,h3,_⟩:=r.dicH sf sb hc
      obtain⟨a',vs',ds',rfl,g1,g2,g3,_⟩:=r'.dicH sf sb hc'
      exact .inr ⟨a,a',rfl,rfl,.inr ⟨vs,vs',h1,g1,(g'i sf sb xs ys vs vs' ds ds' (depk xs) e h2 g2 h3 g3 (Nat.le_refl _) nd).1⟩⟩
    | _=>cases e
  | .int a => fun t' v v' c c' e r r' _ _ => by
    cases t' with
    | int a'=>have:=of_decide_eq_true e;subst this;rw [r.1,r'.1];exact⟨rfl,rfl⟩
    | _=>cases e
  | .str a => fun t' v v' c c' e r r' _ _ => by
    cases t' with
    | str a'=>have:=of_decide_eq_true e;subst this;rw [r.1,r'.1];exact⟨rfl,rfl⟩
    | _=>cases e
  | .bl a => fun t' v v' c c' e r r' _ _ => by
    cases t' with
    | bl a'=>have:=of_decide_eq_true e;subst this;rw [r.1,r'.1];exact⟨rfl,rfl⟩
    | _=>cases e
  | .non => fun t' v v' c c' e r r' _ _ => by
    cases t' with
    | non=>rw [r.1,r'.1];exact⟨rfl,rfl⟩
    | _=>cases e
  | .hole => fun t' v v' c c' e _ _ _ _ => by cases t' <;> cases e
  | .ty _ => fun t' v v' c c' e _ _ _ _ => by cases t' <;> cases e
  | .cl _ => fun t' v v' c c' e _ _ _ _ => by cases t' <;> cases e
  | .exc _ => fun t' v v' c c' e _ _ _ _ => by cases t' <;> cases e
  | .ins _ _ _ => fun t' v v' c c' e _ _ _ _ => by cases t' <;> cases e
theorem smNs_eq (sf:Same F H) (sb:∀ k,Same (B k) H):∀ (ts ts':List Tr) (vs vs':List V) (c c':Cs) (n:Nat),smNs ts ts'=true→Rs K F B ts vs c→Rs K F B ts' vs' c'→Cells F H c→Cells F H c'→depNs ts≤n→All2 (EqN K H n) vs vs'
  | [] => fun ts' vs vs' c c' n e r r' _ _ _ => by
    cases ts' with
    | nil=>rw [r.1,r'.1];exact True.intro
    | cons _ _=>cases e
  | x :: xs => fun ts' vs vs' c c' n e r r' hc hc' hn => by
    cases ts' with
    | nil=>cases e
    | cons y ys=>
      obtain⟨v,q,c1,d1,h1,h2,h3,h4⟩:=r
      obtain⟨v',q',c2,d2,g1,g2,g3,g4⟩:=r'
      rw [h2] at hc
      rw [g2] at hc'
      rw [h1,g1]
      unfold smNs at e
      rw [Bool.and_eq_true] at e
      unfold depNs at hn
      exact⟨i'L (p'V sf sb x y v v' c1 c2 e.1 h3 g3 hc.left hc'.left) (by omega),smNs_eq sf sb xs ys q q' d1 d2 n e.2 h4 g4 hc.right hc'.right (by omega)⟩
end
theorem m'R (sf:Same F H) (sb:∀ k,Same (B k) H) {t t':Tr} {v v':V} {c c':Cs} (e:smN t t'=true) (hd:depN t≤40) (hs:(∃ xs,t=.tup xs)∨∃ f xs,t=.lst f xs) (r:R K F B t v c) (r':R K F B t' v' c') (hc:Cells F H c) (hc':Cells F H c') {Q:VK} (q:Q (.bl true) H):rEqN K v v' H Q:=by
  rcases hs with ⟨xs,rfl⟩ | ⟨f,xs,rfl⟩
  · cases t' with
    | tup ys=>
      unfold smN at e
      unfold depN at hd
      obtain⟨a,vs,rfl,h1,h2⟩:=r.tupH sf
      obtain⟨a',vs',rfl,g1,g2⟩:=r'.tupH sf
      exact⟨depNs xs,a,a',vs,vs',by omega,rfl,rfl,.inl ⟨h1,g1⟩,smNs_eq sf sb xs ys vs vs' c c' (depNs xs) e h2 g2 hc hc' (Nat.le_refl _),q⟩
    | _=>cases e
  · cases t' with
    | lst f' ys=>
      unfold smN at e
      unfold depN at hd
      obtain⟨a,vs,ds,rfl,h1,h2,h3,_⟩:=r.lstH sf sb hc
      obtain⟨a',vs',ds',rfl,g1,g2,g3,_⟩:=r'.lstH sf sb hc'
      exact⟨depNs xs,a,a',vs,vs',by omega,rfl,rfl,.inr ⟨h1,g1⟩,smNs_eq sf sb xs ys vs vs' ds ds' (depNs xs) e h2 g2 h3 g3 (Nat.le_refl _),q⟩
    | _=>cases e
end
def rNeM (K:PySem.W.Frag):R2:=fun x y H Q=>rNeA K x y H Q∨rNeN K x y H Q
section
variable {X:Cx}
theorem r'Q (hu:X.A.units+64<cLine):OpR X (compareOp .NotEq) (rNeM X.K):=(b'P hu).or (o'c hu)
end
def wEqM (neg:Bool) (x y:Tr) (Q:Tr→Prop):Prop:=wEq neg x y Q∨(smN x y=true∧depN x≤40∧((∃ xs,x=.tup xs)∨∃ f xs,x=.lst f xs)∧Q (.bl (!neg)))
theorem m'S {K:PySem.W.Frag} {k:Md}:Op2 K k (rNeM K) (wEqM true):=fun F B H x y tx ty cx cy Q Q' s b z rx ry hx hy hd p q=>by
  rcases p with p | ⟨e,d,hs,p⟩
  · exact .inl (a'Z (k:=k) F B H x y tx ty cx cy Q Q' s b z rx ry hx hy hd p q)
  · exact .inr (m'R (Q:=fun _ _=>Q (.bl false) H) s b e d hs rx ry hx hy (q _ _ F H [] p (Gr.refl' s) ⟨rfl,rfl⟩ .nil fun _ m=>nomatch m))
class Sm (α:Type) [Enc α] (n:outParam Nat):Prop where
  sm:∀ x:α,smN (Enc.t x) (Enc.t x)=true
  dp:∀ x:α,depN (Enc.t x)≤n
theorem b'z {α:Type} [Enc α] {n:Nat} [Sm α n]:∀ xs:List α,smNs (xs.map Enc.t) (xs.map Enc.t)=true
  | [] => rfl
  | x :: xs => by show (smN _ _ && smNs (xs.map Enc.t) (xs.map Enc.t)) = true; rw [Sm.sm x, b'z xs]; rfl
theorem b'q {α:Type} [Enc α] {n:Nat} [Sm α n]:∀ xs:List α,depNs (xs.map Enc.t)≤n
  | [] => Nat.zero_le _
  | x :: xs => by show max (depN _) (depNs (xs.map Enc.t)) ≤ n; have := Sm.dp x; have := b'q xs; omega
instance:Sm Int 0:=⟨fun _=>decide_eq_true rfl,fun _=>Nat.zero_le _⟩
instance:Sm Str 0:=⟨fun _=>decide_eq_true rfl,fun _=>Nat.zero_le _⟩
instance:Sm Bool 0:=⟨fun _=>decide_eq_true rfl,fun _=>Nat.zero_le _⟩
theorem p'W (q:Rat):smT (Enc.t q) (Enc.t q)=true:=by show (decide _ && (decide _ && true))=true;rw [decide_eq_true rfl,decide_eq_true rfl];rfl
instance:Sm Rat 1:=⟨fun q=>by show (decide _ && (decide _ && true))=true;rw [decide_eq_true rfl,decide_eq_true rfl];rfl,fun q=>Nat.le_refl 1⟩
theorem f'd:∀ m:List (Str×Rat),smTk (m.map fun p=>((Sum.inr p.1:Key),Enc.t p.2)) (m.map fun p=>((Sum.inr p.1:Key),Enc.t p.2))=true
  | [] => rfl
  | p :: m => by
    show (decide _ && (smT (Enc.t p.2) (Enc.t p.2) && smTk (m.map fun p=>((Sum.inr p.1:Key),Enc.t p.2)) (m.map fun p=>((Sum.inr p.1:Key),Enc.t p.2))))=true
    rw [decide_eq_true rfl,p'W,f'd m];rfl
theorem f'e:∀ m:List (Str×Rat),depk (m.map fun p=>((Sum.inr p.1:Key),Enc.t p.2))≤1
  | [] => Nat.zero_le _
  | p :: m => by show max 1 (depk (m.map fun p => ((Sum.inr p.1 : Key), Enc.t p.2))) ≤ 1; have := f'e m; omega
theorem p'X (f g:Fl) (m:List (Str×Rat)):smN (dicS f m) (dicS g m)=true:=f'd m
theorem m'T (f:Fl) (m:List (Str×Rat)):depN (dicS f m)≤2:=by have:=f'e m;show depk (m.map fun p=>((Sum.inr p.1:Key),Enc.t p.2))+1≤2;omega
instance:Sm RowE 3:=⟨fun r=>by
  show (smN (dicS .f r.1) (dicS .f r.1) && (decide _ && (smN (Enc.t r.2.2.1) (Enc.t r.2.2.1) && (decide _ && (decide _ && true)))))=true
  rw [p'X,Sm.sm r.2.2.1,decide_eq_true rfl,decide_eq_true rfl,decide_eq_true rfl];rfl,fun r=>by
  have:=m'T .f r.1
  have:=Sm.dp r.2.2.1
  show max (depN (dicS .f r.1)) (max 0 (max (depN (Enc.t r.2.2.1)) (max 0 (max 0 0))))+1≤3
  omega⟩
instance:Sm (Int ⊕ Str) 0:=⟨fun x=>by cases x<;>exact decide_eq_true rfl,fun x=>by cases x<;>exact Nat.zero_le _⟩
instance {α β:Type} [Enc α] [Enc β] {n m:Nat} [Sm α n] [Sm β m]:Sm (α×β) (n+m+1):=⟨fun p=>by
  show (smN (Enc.t p.1) (Enc.t p.1) && (smN (Enc.t p.2) (Enc.t p.2) && true))=true
  rw [Sm.sm p.1,Sm.sm p.2];rfl,fun p=>by
  have:=Sm.dp p.1
  have:=Sm.dp p.2
  show max (depN (Enc.t p.1)) (max (depN (Enc.t p.2)) 0)+1≤n+m+1
  omega⟩
end Pu
namespace Sf
open PySem L2 Vc Pu
def top (i:Nat):Stmt:=PySem.Challenge.pw_springframe_k92_whole_whatever_paper_bou.main.body.getD i (.Pass ⟨0,0,0,0⟩)
abbrev s_part:Stmt:=top 6
abbrev s_greatest_divisor:Stmt:=top 7
abbrev s_plus:Stmt:=top 8
abbrev s_minus:Stmt:=top 9
abbrev s_times:Stmt:=top 10
abbrev s_under:Stmt:=top 11
abbrev s_bound:Stmt:=top 14
abbrev s_holds:Stmt:=top 15
abbrev s_counted:Stmt:=top 16
abbrev s_signs_good:Stmt:=top 17
abbrev s_weighed:Stmt:=top 18
abbrev s_column:Stmt:=top 19
abbrev s_law_cell_at:Stmt:=top 21
abbrev s_law_stream:Stmt:=top 22
abbrev s_law_lowest:Stmt:=top 23
abbrev s_law_more:Stmt:=top 24
abbrev s_law_by:Stmt:=top 25
abbrev s_law_above:Stmt:=top 26
abbrev s_law_placing:Stmt:=top 27
abbrev s_law_sum:Stmt:=top 28
abbrev s_law_row:Stmt:=top 29
abbrev s_law_missed:Stmt:=top 30
abbrev s_law_goal:Stmt:=top 31
abbrev s_law_let:Stmt:=top 32
abbrev s_law_room:Stmt:=top 33
abbrev s_law_sums:Stmt:=top 34
abbrev s_law_holds:Stmt:=top 35
abbrev s_law_bound:Stmt:=top 36
abbrev s_law_price:Stmt:=top 37
abbrev s_law_paper:Stmt:=top 38
abbrev s_law_forged:Stmt:=top 39
abbrev s_law_told:Stmt:=top 40
abbrev s_law:Stmt:=top 41
theorem sc_part:FnScope ["top","bottom","divisor"] ["top","bottom"] (defScope s_part):=⟨rfl,rfl,rfl,by decide +kernel,rfl,by decide +kernel,by decide +kernel⟩
theorem sc_greatest_divisor:FnScope ["one","other","remainder"] ["one","other"] (defScope s_greatest_divisor):=⟨rfl,rfl,rfl,by decide +kernel,rfl,by decide +kernel,by decide +kernel⟩
theorem m'U:FnScope ["one","other"] ["one","other"] (defScope s_plus):=⟨rfl,rfl,rfl,by decide +kernel,rfl,by decide +kernel,by decide +kernel⟩
theorem j'G:FnScope ["one","other"] ["one","other"] (defScope s_minus):=⟨rfl,rfl,rfl,by decide +kernel,rfl,by decide +kernel,by decide +kernel⟩
theorem j'H:FnScope ["one","other"] ["one","other"] (defScope s_times):=⟨rfl,rfl,rfl,by decide +kernel,rfl,by decide +kernel,by decide +kernel⟩
theorem j'I:FnScope ["one","other"] ["one","other"] (defScope s_under):=⟨rfl,rfl,rfl,by decide +kernel,rfl,by decide +kernel,by decide +kernel⟩
theorem sc_bound:FnScope ["rows","unknowns","settled","goal","paper","total"] ["rows","unknowns","settled","goal","paper"] (defScope s_bound):=⟨rfl,rfl,rfl,by decide +kernel,rfl,by decide +kernel,by decide +kernel⟩
theorem sc_holds:FnScope ["rows","unknowns","settled","goal","paper","prices","shares","one","price","room","unknown"] ["rows","unknowns","settled","goal","paper"] (defScope s_holds):=⟨rfl,rfl,rfl,by decide +kernel,rfl,by decide +kernel,by decide +kernel⟩
theorem sc_counted:FnScope ["settled","shares","goal","thing","count","pair","share"] ["settled","shares","goal","thing"] (defScope s_counted):=⟨rfl,rfl,rfl,by decide +kernel,rfl,by decide +kernel,by decide +kernel⟩
theorem sc_signs_good:FnScope ["rows","prices","one","price"] ["rows","prices"] (defScope s_signs_good):=⟨rfl,rfl,rfl,by decide +kernel,rfl,by decide +kernel,by decide +kernel⟩
theorem sc_weighed:FnScope ["weights","numbers","total","weight","number"] ["weights","numbers"] (defScope s_weighed):=⟨rfl,rfl,rfl,by decide +kernel,rfl,by decide +kernel,by decide +kernel⟩
theorem i'd:FnScope ["rows","prices","unknown"] ["rows","prices","unknown"] (defScope s_column):=⟨rfl,rfl,rfl,by decide +kernel,rfl,by decide +kernel,by decide +kernel⟩
theorem d'O:FnScope ["_law_script","_law_k"] ["_law_script","_law_k"] (defScope s_law_cell_at):=⟨rfl,rfl,rfl,by decide +kernel,rfl,by decide +kernel,by decide +kernel⟩
theorem sc_law_stream:FnScope ["_law_cell","_law_many","_law_found","_law_number","_law_k"] ["_law_cell","_law_many"] (defScope s_law_stream):=⟨rfl,rfl,rfl,by decide +kernel,rfl,by decide +kernel,by decide +kernel⟩
theorem sc_law_lowest:FnScope ["_law_top","_law_bottom","_law_one","_law_other"] ["_law_top","_law_bottom"] (defScope s_law_lowest):=⟨rfl,rfl,rfl,by decide +kernel,rfl,by decide +kernel,by decide +kernel⟩
theorem f'E:FnScope ["_law_one","_law_many","_law_other"] ["_law_one","_law_many","_law_other"] (defScope s_law_more):=⟨rfl,rfl,rfl,by decide +kernel,rfl,by decide +kernel,by decide +kernel⟩
theorem i'e:FnScope ["_law_one","_law_other"] ["_law_one","_law_other"] (defScope s_law_by):=⟨rfl,rfl,rfl,by decide +kernel,rfl,by decide +kernel,by decide +kernel⟩
theorem f'f:FnScope ["_law_one","_law_other"] ["_law_one","_law_other"] (defScope s_law_above):=⟨rfl,rfl,rfl,by decide +kernel,rfl,by decide +kernel,by decide +kernel⟩
theorem sc_law_placing:FnScope ["_law_names","_law_xs","_law_placing_here","_law_k","_law_name","_law_far"] ["_law_names","_law_xs"] (defScope s_law_placing):=⟨rfl,rfl,rfl,by decide +kernel,rfl,by decide +kernel,by decide +kernel⟩
theorem sc_law_sum:FnScope ["_law_parts","_law_placing_here","_law_comes","_law_name","_law_share"] ["_law_parts","_law_placing_here"] (defScope s_law_sum):=⟨rfl,rfl,rfl,by decide +kernel,rfl,by decide +kernel,by decide +kernel⟩
theorem sc_law_row:FnScope ["_law_names","_law_placing_here","_law_cell","_law_xs","_law_parts","_law_k","_law_name","_law_kind","_law_rank","_law_room_here","_law_number"] ["_law_names","_law_placing_here","_law_cell"] (defScope s_law_row):=⟨rfl,rfl,rfl,by decide +kernel,rfl,by decide +kernel,by decide +kernel⟩
theorem sc_law_missed:FnScope ["_law_line","_law_placing_here","_law_off"] ["_law_line","_law_placing_here"] (defScope s_law_missed):=⟨rfl,rfl,rfl,by decide +kernel,rfl,by decide +kernel,by decide +kernel⟩
theorem sc_law_goal:FnScope ["_law_rows","_law_goal_here","_law_placing_here","_law_comes","_law_line"] ["_law_rows","_law_goal_here","_law_placing_here"] (defScope s_law_goal):=⟨rfl,rfl,rfl,by decide +kernel,rfl,by decide +kernel,by decide +kernel⟩
theorem sc_law_let:FnScope ["_law_goal_here","_law_settled","_law_shares","_law_one","_law_let_here","_law_k","_law_pair"] ["_law_goal_here","_law_settled","_law_shares","_law_one"] (defScope s_law_let):=⟨rfl,rfl,rfl,by decide +kernel,rfl,by decide +kernel,by decide +kernel⟩
theorem sc_law_room:FnScope ["_law_rows","_law_k","_law_goal_here","_law_settled","_law_shares","_law_let_here"] ["_law_rows","_law_k","_law_goal_here","_law_settled","_law_shares"] (defScope s_law_room):=⟨rfl,rfl,rfl,by decide +kernel,rfl,by decide +kernel,by decide +kernel⟩
theorem sc_law_sums:FnScope ["_law_rows","_law_prices","_law_name","_law_comes","_law_k","_law_line"] ["_law_rows","_law_prices","_law_name"] (defScope s_law_sums):=⟨rfl,rfl,rfl,by decide +kernel,rfl,by decide +kernel,by decide +kernel⟩
theorem sc_law_holds:FnScope ["_law_rows","_law_names","_law_settled","_law_goal_here","_law_paper_here","_law_prices","_law_shares","_law_k","_law_line","_law_room_here","_law_name"] ["_law_rows","_law_names","_law_settled","_law_goal_here","_law_paper_here"] (defScope s_law_holds):=⟨rfl,rfl,rfl,by decide +kernel,rfl,by decide +kernel,by decide +kernel⟩
theorem sc_law_bound:FnScope ["_law_rows","_law_settled","_law_paper_here","_law_comes","_law_k","_law_line","_law_pair"] ["_law_rows","_law_settled","_law_paper_here"] (defScope s_law_bound):=⟨rfl,rfl,rfl,by decide +kernel,rfl,by decide +kernel,by decide +kernel⟩
theorem sc_law_price:FnScope ["_law_rows","_law_k","_law_goal_here","_law_settled","_law_shares","_law_number","_law_share","_law_room_here","_law_price_here"] ["_law_rows","_law_k","_law_goal_here","_law_settled","_law_shares","_law_number"] (defScope s_law_price):=⟨rfl,rfl,rfl,by decide +kernel,rfl,by decide +kernel,by decide +kernel⟩
theorem sc_law_paper:FnScope ["_law_rows","_law_names","_law_settled","_law_goal_here","_law_xs","_law_shares","_law_many","_law_prices","_law_k","_law_name","_law_excess"] ["_law_rows","_law_names","_law_settled","_law_goal_here","_law_xs"] (defScope s_law_paper):=⟨rfl,rfl,rfl,by decide +kernel,rfl,by decide +kernel,by decide +kernel⟩
theorem sc_law_forged:FnScope ["_law_paper_here","_law_xs","_law_prices","_law_shares","_law_way","_law_at"] ["_law_paper_here","_law_xs"] (defScope s_law_forged):=⟨rfl,rfl,rfl,by decide +kernel,rfl,by decide +kernel,by decide +kernel⟩
theorem sc_law_told:FnScope ["_law_rows","_law_names","_law_settled","_law_goal_here","_law_paper_here","_law_handed","_law_found","e"] ["_law_rows","_law_names","_law_settled","_law_goal_here","_law_paper_here"] (defScope s_law_told):=⟨rfl,rfl,rfl,by decide +kernel,rfl,by decide +kernel,by decide +kernel⟩
theorem sc_law:FnScope ["_law_script","_law_cell","_law_xs","_law_names","_law_placing_here","_law_rows","_law_k","_law_name","_law_goals","_law_settled","_law_goal_here","_law_paper_here","_law_found","_law_due"] ["_law_script"] (defScope s_law):=⟨rfl,rfl,rfl,by decide +kernel,rfl,by decide +kernel,by decide +kernel⟩
set_option genInjectivity false in
set_option genSizeOf false in
structure Tx (K:PySem.W.Frag) (mg:Str→Option Value) where
  a_part:Addr
  d_part:FuncData
  F_part:Fun K "part" "part" s_part a_part d_part
  b_part:Binds K d_part ["top","bottom"] []
  m_part:mg "part"=some (.ref a_part)
  a_greatest_divisor:Addr
  d_greatest_divisor:FuncData
  F_greatest_divisor:Fun K "greatest_divisor" "greatest_divisor" s_greatest_divisor a_greatest_divisor d_greatest_divisor
  b_greatest_divisor:Binds K d_greatest_divisor ["one","other"] []
  m_greatest_divisor:mg "greatest_divisor"=some (.ref a_greatest_divisor)
  a_plus:Addr
  d_plus:FuncData
  F_plus:Fun K "plus" "plus" s_plus a_plus d_plus
  b_plus:Binds K d_plus ["one","other"] []
  m_plus:mg "plus"=some (.ref a_plus)
  a_minus:Addr
  d_minus:FuncData
  F_minus:Fun K "minus" "minus" s_minus a_minus d_minus
  b_minus:Binds K d_minus ["one","other"] []
  m_minus:mg "minus"=some (.ref a_minus)
  a_times:Addr
  d_times:FuncData
  F_times:Fun K "times" "times" s_times a_times d_times
  b_times:Binds K d_times ["one","other"] []
  m_times:mg "times"=some (.ref a_times)
  a_under:Addr
  d_under:FuncData
  F_under:Fun K "under" "under" s_under a_under d_under
  b_under:Binds K d_under ["one","other"] []
  m_under:mg "under"=some (.ref a_under)
  a_bound:Addr
  d_bound:FuncData
  F_bound:Fun K "bound" "bound" s_bound a_bound d_bound
  b_bound:Binds K d_bound ["rows","unknowns","settled","goal","paper"] []
  m_bound:mg "bound"=some (.ref a_bound)
  a_holds:Addr
  d_holds:FuncData
  F_holds:Fun K "holds" "holds" s_holds a_holds d_holds
  b_holds:Binds K d_holds ["rows","unknowns","settled","goal","paper"] []
  m_holds:mg "holds"=some (.ref a_holds)
  a_counted:Addr
  d_counted:FuncData
  F_counted:Fun K "counted" "counted" s_counted a_counted d_counted
  b_counted:Binds K d_counted ["settled","shares","goal","thing"] []
  m_counted:mg "counted"=some (.ref a_counted)
  a_signs_good:Addr
  d_signs_good:FuncData
  F_signs_good:Fun K "signs_good" "signs_good" s_signs_good a_signs_good d_signs_good
  b_signs_good:Binds K d_signs_good ["rows","prices"] []
  m_signs_good:mg "signs_good"=some (.ref a_signs_good)
  a_weighed:Addr
  d_weighed:FuncData
  F_weighed:Fun K "weighed" "weighed" s_weighed a_weighed d_weighed
  b_weighed:Binds K d_weighed ["weights","numbers"] []
  m_weighed:mg "weighed"=some (.ref a_weighed)
  a_column:Addr
  d_column:FuncData
  F_column:Fun K "column" "column" s_column a_column d_column
  b_column:Binds K d_column ["rows","prices","unknown"] []
  m_column:mg "column"=some (.ref a_column)
  a_law_cell_at:Addr
  d_law_cell_at:FuncData
  F_law_cell_at:Fun K "_law_cell_at" "_law_cell_at" s_law_cell_at a_law_cell_at d_law_cell_at
  b_law_cell_at:Binds K d_law_cell_at ["_law_script","_law_k"] []
  m_law_cell_at:mg "_law_cell_at"=some (.ref a_law_cell_at)
  a_law_stream:Addr
  d_law_stream:FuncData
  F_law_stream:Fun K "_law_stream" "_law_stream" s_law_stream a_law_stream d_law_stream
  b_law_stream:Binds K d_law_stream ["_law_cell","_law_many"] []
  m_law_stream:mg "_law_stream"=some (.ref a_law_stream)
  a_law_lowest:Addr
  d_law_lowest:FuncData
  F_law_lowest:Fun K "_law_lowest" "_law_lowest" s_law_lowest a_law_lowest d_law_lowest
  b_law_lowest:Binds K d_law_lowest ["_law_top","_law_bottom"] []
  m_law_lowest:mg "_law_lowest"=some (.ref a_law_lowest)
  a_law_more:Addr
  d_law_more:FuncData
  F_law_more:Fun K "_law_more" "_law_more" s_law_more a_law_more d_law_more
  b_law_more:Binds K d_law_more ["_law_one","_law_many","_law_other"] []
  m_law_more:mg "_law_more"=some (.ref a_law_more)
  a_law_by:Addr
  d_law_by:FuncData
  F_law_by:Fun K "_law_by" "_law_by" s_law_by a_law_by d_law_by
  b_law_by:Binds K d_law_by ["_law_one","_law_other"] []
  m_law_by:mg "_law_by"=some (.ref a_law_by)
  a_law_above:Addr
  d_law_above:FuncData
  F_law_above:Fun K "_law_above" "_law_above" s_law_above a_law_above d_law_above
  b_law_above:Binds K d_law_above ["_law_one","_law_other"] []
  m_law_above:mg "_law_above"=some (.ref a_law_above)
  a_law_placing:Addr
  d_law_placing:FuncData
  F_law_placing:Fun K "_law_placing" "_law_placing" s_law_placing a_law_placing d_law_placing
  b_law_placing:Binds K d_law_placing ["_law_names","_law_xs"] []
  m_law_placing:mg "_law_placing"=some (.ref a_law_placing)
  a_law_sum:Addr
  d_law_sum:FuncData
  F_law_sum:Fun K "_law_sum" "_law_sum" s_law_sum a_law_sum d_law_sum
  b_law_sum:Binds K d_law_sum ["_law_parts","_law_placing_here"] []
  m_law_sum:mg "_law_sum"=some (.ref a_law_sum)
  a_law_row:Addr
  d_law_row:FuncData
  F_law_row:Fun K "_law_row" "_law_row" s_law_row a_law_row d_law_row
  b_law_row:Binds K d_law_row ["_law_names","_law_placing_here","_law_cell"] []
  m_law_row:mg "_law_row"=some (.ref a_law_row)
  a_law_missed:Addr
  d_law_missed:FuncData
  F_law_missed:Fun K "_law_missed" "_law_missed" s_law_missed a_law_missed d_law_missed
  b_law_missed:Binds K d_law_missed ["_law_line","_law_placing_here"] []
  m_law_missed:mg "_law_missed"=some (.ref a_law_missed)
  a_law_goal:Addr
  d_law_goal:FuncData
  F_law_goal:Fun K "_law_goal" "_law_goal" s_law_goal a_law_goal d_law_goal
  b_law_goal:Binds K d_law_goal ["_law_rows","_law_goal_here","_law_placing_here"] []
  m_law_goal:mg "_law_goal"=some (.ref a_law_goal)
  a_law_let:Addr
  d_law_let:FuncData
  F_law_let:Fun K "_law_let" "_law_let" s_law_let a_law_let d_law_let
  b_law_let:Binds K d_law_let ["_law_goal_here","_law_settled","_law_shares","_law_one"] []
  m_law_let:mg "_law_let"=some (.ref a_law_let)
  a_law_room:Addr
  d_law_room:FuncData
  F_law_room:Fun K "_law_room" "_law_room" s_law_room a_law_room d_law_room
  b_law_room:Binds K d_law_room ["_law_rows","_law_k","_law_goal_here","_law_settled","_law_shares"] []
  m_law_room:mg "_law_room"=some (.ref a_law_room)
  a_law_sums:Addr
  d_law_sums:FuncData
  F_law_sums:Fun K "_law_sums" "_law_sums" s_law_sums a_law_sums d_law_sums
  b_law_sums:Binds K d_law_sums ["_law_rows","_law_prices","_law_name"] []
  m_law_sums:mg "_law_sums"=some (.ref a_law_sums)
  a_law_holds:Addr
  d_law_holds:FuncData
  F_law_holds:Fun K "_law_holds" "_law_holds" s_law_holds a_law_holds d_law_holds
  b_law_holds:Binds K d_law_holds ["_law_rows","_law_names","_law_settled","_law_goal_here","_law_paper_here"] []
  m_law_holds:mg "_law_holds"=some (.ref a_law_holds)
  a_law_bound:Addr
  d_law_bound:FuncData
  F_law_bound:Fun K "_law_bound" "_law_bound" s_law_bound a_law_bound d_law_bound
  b_law_bound:Binds K d_law_bound ["_law_rows","_law_settled","_law_paper_here"] []
  m_law_bound:mg "_law_bound"=some (.ref a_law_bound)
  a_law_price:Addr
  d_law_price:FuncData
  F_law_price:Fun K "_law_price" "_law_price" s_law_price a_law_price d_law_price
  b_law_price:Binds K d_law_price ["_law_rows","_law_k","_law_goal_here","_law_settled","_law_shares","_law_number"] []
  m_law_price:mg "_law_price"=some (.ref a_law_price)
  a_law_paper:Addr
  d_law_paper:FuncData
  F_law_paper:Fun K "_law_paper" "_law_paper" s_law_paper a_law_paper d_law_paper
  b_law_paper:Binds K d_law_paper ["_law_rows","_law_names","_law_settled","_law_goal_here","_law_xs"] []
  m_law_paper:mg "_law_paper"=some (.ref a_law_paper)
  a_law_forged:Addr
  d_law_forged:FuncData
  F_law_forged:Fun K "_law_forged" "_law_forged" s_law_forged a_law_forged d_law_forged
  b_law_forged:Binds K d_law_forged ["_law_paper_here","_law_xs"] []
  m_law_forged:mg "_law_forged"=some (.ref a_law_forged)
  a_law_told:Addr
  d_law_told:FuncData
  F_law_told:Fun K "_law_told" "_law_told" s_law_told a_law_told d_law_told
  b_law_told:Binds K d_law_told ["_law_rows","_law_names","_law_settled","_law_goal_here","_law_paper_here"] []
  m_law_told:mg "_law_told"=some (.ref a_law_told)
  a_law:Addr
  d_law:FuncData
  F_law:Fun K "law" "law" s_law a_law d_law
  b_law:Binds K d_law ["_law_script"] []
  m_law:mg "law"=some (.ref a_law)
  c_NOUGHT:Addr
  m_NOUGHT:mg "NOUGHT"=some (.ref c_NOUGHT)
  t_NOUGHT:∃ (o:Obj) (its:Array Value) (n:Nat),K.lookup c_NOUGHT=some o∧o.cls=.type "tuple"∧o.data=.seq its n∧its.size≤sizeLine∧Vals (([0,1]:List Int).map V.int) its.toList
  k_MUST:Tok
  m_MUST:mg "MUST"=some (.int (0) k_MUST)
  c_NoPaper:Addr
  m_NoPaper:mg "NoPaper"=some (.ref c_NoPaper)
  q_NoPaper:PySem.W.excIn K c_NoPaper [.type "ValueError",.type "Exception",.type "BaseException",.type "object"] "ValueError.__new__"=true
  c_FrameError:Addr
  m_FrameError:mg "FrameError"=some (.ref c_FrameError)
  q_FrameError:PySem.W.excIn K c_FrameError [.type "ValueError",.type "Exception",.type "BaseException",.type "object"] "ValueError.__new__"=true
  x_NoPaper:ExcK K c_NoPaper
  ki_NoPaper_FrameError:PySem.W.kitOne K (.ref c_NoPaper) (.ref c_FrameError)=some true
  em_NoPaper_NoPaper:PySem.W.exmOne K (.ref c_NoPaper) (.ref c_NoPaper)=some true
  z_abs:mg "abs"=none
  z_len:mg "len"=none
  z_zip:mg "zip"=none
  z_any:mg "any"=none
  z_range:mg "range"=none
  z_max:mg "max"=none
  z_enumerate:mg "enumerate"=none
  z_int:mg "int"=none
  z_min:mg "min"=none
  z_list:mg "list"=none
  z_isinstance:mg "isinstance"=none
def tx_mk {K:PySem.W.Frag} {h:Heap} {mg:Str→Option Value} (X:K.In h) (G:h.Ns mainGlobals mg)
    {f0:Addr} {od0 an0:Option Addr} {sl0:Array (Option Value)} {oc0 kV0 dc0 pm0 cd0 ct0:Value}
    {f1:Addr} {od1 an1:Option Addr} {sl1:Array (Option Value)} {oc1 kV1 dc1 pm1 cd1 ct1:Value}
    {f2:Addr} {od2 an2:Option Addr} {sl2:Array (Option Value)} {oc2 kV2 dc2 pm2 cd2 ct2:Value}
    {f3:Addr} {od3 an3:Option Addr} {sl3:Array (Option Value)} {oc3 kV3 dc3 pm3 cd3 ct3:Value}
    {f4:Addr} {od4 an4:Option Addr} {sl4:Array (Option Value)} {oc4 kV4 dc4 pm4 cd4 ct4:Value}
    {f5:Addr} {od5 an5:Option Addr} {sl5:Array (Option Value)} {oc5 kV5 dc5 pm5 cd5 ct5:Value}
    {f6:Addr} {od6 an6:Option Addr} {sl6:Array (Option Value)} {oc6 kV6 dc6 pm6 cd6 ct6:Value}
    {f7:Addr} {od7 an7:Option Addr} {sl7:Array (Option Value)} {oc7 kV7 dc7 pm7 cd7 ct7:Value}
    {f8:Addr} {od8 an8:Option Addr} {sl8:Array (Option Value)} {oc8 kV8 dc8 pm8 cd8 ct8:Value}
    {f9:Addr} {od9 an9:Option Addr} {sl9:Array (Option Value)} {oc9 kV9 dc9 pm9 cd9 ct9:Value}
    {f10:Addr} {od10 an10:Option Addr} {sl10:Array (Option Value)} {oc10 kV10 dc10 pm10 cd10 ct10:Value}
    {f11:Addr} {od11 an11:Option Addr} {sl11:Array (Option Value)} {oc11 kV11 dc11 pm11 cd11 ct11:Value}
    {f12:Addr} {od12 an12:Option Addr} {sl12:Array (Option Value)} {oc12 kV12 dc12 pm12 cd12 ct12:Value}
    {f13:Addr} {od13 an13:Option Addr} {sl13:Array (Option Value)} {oc13 kV13 dc13 pm13 cd13 ct13:Value}
    {f14:Addr} {od14 an14:Option Addr} {sl14:Array (Option Value)} {oc14 kV14 dc14 pm14 cd14 ct14:Value}
    {f15:Addr} {od15 an15:Option Addr} {sl15:Array (Option Value)} {oc15 kV15 dc15 pm15 cd15 ct15:Value}
    {f16:Addr} {od16 an16:Option Addr} {sl16:Array (Option Value)} {oc16 kV16 dc16 pm16 cd16 ct16:Value}
    {f17:Addr} {od17 an17:Option Addr} {sl17:Array (Option Value)} {oc17 kV17 dc17 pm17 cd17 ct17:Value}
    {f18:Addr} {od18 an18:Option Addr} {sl18:Array (Option Value)} {oc18 kV18 dc18 pm18 cd18 ct18:Value}
    {f19:Addr} {od19 an19:Option Addr} {sl19:Array (Option Value)} {oc19 kV19 dc19 pm19 cd19 ct19:Value}
    {f20:Addr} {od20 an20:Option Addr} {sl20:Array (Option Value)} {oc20 kV20 dc20 pm20 cd20 ct20:Value}
    {f21:Addr} {od21 an21:Option Addr} {sl21:Array (Option Value)} {oc21 kV21 dc21 pm21 cd21 ct21:Value}
    {f22:Addr} {od22 an22:Option Addr} {sl22:Array (Option Value)} {oc22 kV22 dc22 pm22 cd22 ct22:Value}
    {f23:Addr} {od23 an23:Option Addr} {sl23:Array (Option Value)} {oc23 kV23 dc23 pm23 cd23 ct23:Value}
    {f24:Addr} {od24 an24:Option Addr} {sl24:Array (Option Value)} {oc24 kV24 dc24 pm24 cd24 ct24:Value}
    {f25:Addr} {od25 an25:Option Addr} {sl25:Array (Option Value)} {oc25 kV25 dc25 pm25 cd25 ct25:Value}
    {f26:Addr} {od26 an26:Option Addr} {sl26:Array (Option Value)} {oc26 kV26 dc26 pm26 cd26 ct26:Value}
    {f27:Addr} {od27 an27:Option Addr} {sl27:Array (Option Value)} {oc27 kV27 dc27 pm27 cd27 ct27:Value}
    {f28:Addr} {od28 an28:Option Addr} {sl28:Array (Option Value)} {oc28 kV28 dc28 pm28 cd28 ct28:Value}
    {f29:Addr} {od29 an29:Option Addr} {sl29:Array (Option Value)} {oc29 kV29 dc29 pm29 cd29 ct29:Value}
    {f30:Addr} {od30 an30:Option Addr} {sl30:Array (Option Value)} {oc30 kV30 dc30 pm30 cd30 ct30:Value}
    {f31:Addr} {od31 an31:Option Addr} {sl31:Array (Option Value)} {oc31 kV31 dc31 pm31 cd31 ct31:Value}
    {f32:Addr} {od32 an32:Option Addr} {sl32:Array (Option Value)} {oc32 kV32 dc32 pm32 cd32 ct32:Value}
    {g0:Addr} {gd0:Option Addr} {gs0:Array (Option Value)} {gn0:Nat} {t0_0 t0_1:Tok}
    {yk_MUST:Tok}
    {x_NoPaper:Addr}
    {x_FrameError:Addr}
    (e0:PySem.W.nsIn K mainGlobals "part"=some (some (.ref f0)))
    (l0:K.lookup f0=some ⟨oc0,od0,.func (PySem.W.fnOf "part" "part" (defArgs s_part) (defBody s_part) (defScope s_part) .none kV0 dc0 pm0 an0 cd0 ct0),sl0⟩)
    (c0:PySem.W.codeIn K cd0 "part"=true)
    (k0:PySem.W.keepIn K (.ref f0)=true)
    (e1:PySem.W.nsIn K mainGlobals "greatest_divisor"=some (some (.ref f1)))
    (l1:K.lookup f1=some ⟨oc1,od1,.func (PySem.W.fnOf "greatest_divisor" "greatest_divisor" (defArgs s_greatest_divisor) (defBody s_greatest_divisor) (defScope s_greatest_divisor) .none kV1 dc1 pm1 an1 cd1 ct1),sl1⟩)
    (c1:PySem.W.codeIn K cd1 "greatest_divisor"=true)
    (k1:PySem.W.keepIn K (.ref f1)=true)
    (e2:PySem.W.nsIn K mainGlobals "plus"=some (some (.ref f2)))
    (l2:K.lookup f2=some ⟨oc2,od2,.func (PySem.W.fnOf "plus" "plus" (defArgs s_plus) (defBody s_plus) (defScope s_plus) .none kV2 dc2 pm2 an2 cd2 ct2),sl2⟩)
    (c2:PySem.W.codeIn K cd2 "plus"=true)
    (k2:PySem.W.keepIn K (.ref f2)=true)
    (e3:PySem.W.nsIn K mainGlobals "minus"=some (some (.ref f3)))
    (l3:K.lookup f3=some ⟨oc3,od3,.func (PySem.W.fnOf "minus" "minus" (defArgs s_minus) (defBody s_minus) (defScope s_minus) .none kV3 dc3 pm3 an3 cd3 ct3),sl3⟩)
    (c3:PySem.W.codeIn K cd3 "minus"=true)
    (k3:PySem.W.keepIn K (.ref f3)=true)
    (e4:PySem.W.nsIn K mainGlobals "times"=some (some (.ref f4)))
    (l4:K.lookup f4=some ⟨oc4,od4,.func (PySem.W.fnOf "times" "times" (defArgs s_times) (defBody s_times) (defScope s_times) .none kV4 dc4 pm4 an4 cd4 ct4),sl4⟩)
    (c4:PySem.W.codeIn K cd4 "times"=true)
    (k4:PySem.W.keepIn K (.ref f4)=true)
    (e5:PySem.W.nsIn K mainGlobals "under"=some (some (.ref f5)))
    (l5:K.lookup f5=some ⟨oc5,od5,.func (PySem.W.fnOf "under" "under" (defArgs s_under) (defBody s_under) (defScope s_under) .none kV5 dc5 pm5 an5 cd5 ct5),sl5⟩)
    (c5:PySem.W.codeIn K cd5 "under"=true)
    (k5:PySem.W.keepIn K (.ref f5)=true)
    (e6:PySem.W.nsIn K mainGlobals "bound"=some (some (.ref f6)))
    (l6:K.lookup f6=some ⟨oc6,od6,.func (PySem.W.fnOf "bound" "bound" (defArgs s_bound) (defBody s_bound) (defScope s_bound) .none kV6 dc6 pm6 an6 cd6 ct6),sl6⟩)
    (c6:PySem.W.codeIn K cd6 "bound"=true)
    (k6:PySem.W.keepIn K (.ref f6)=true)
    (e7:PySem.W.nsIn K mainGlobals "holds"=some (some (.ref f7)))
    (l7:K.lookup f7=some ⟨oc7,od7,.func (PySem.W.fnOf "holds" "holds" (defArgs s_holds) (defBody s_holds) (defScope s_holds) .none kV7 dc7 pm7 an7 cd7 ct7),sl7⟩)
    (c7:PySem.W.codeIn K cd7 "holds"=true)
    (k7:PySem.W.keepIn K (.ref f7)=true)
    (e8:PySem.W.nsIn K mainGlobals "counted"=some (some (.ref f8)))
    (l8:K.lookup f8=some ⟨oc8,od8,.func (PySem.W.fnOf "counted" "counted" (defArgs s_counted) (defBody s_counted) (defScope s_counted) .none kV8 dc8 pm8 an8 cd8 ct8),sl8⟩)
    (c8:PySem.W.codeIn K cd8 "counted"=true)
    (k8:PySem.W.keepIn K (.ref f8)=true)
    (e9:PySem.W.nsIn K mainGlobals "signs_good"=some (some (.ref f9)))
    (l9:K.lookup f9=some ⟨oc9,od9,.func (PySem.W.fnOf "signs_good" "signs_good" (defArgs s_signs_good) (defBody s_signs_good) (defScope s_signs_good) .none kV9 dc9 pm9 an9 cd9 ct9),sl9⟩)
    (c9:PySem.W.codeIn K cd9 "signs_good"=true)
    (k9:PySem.W.keepIn K (.ref f9)=true)
    (e10:PySem.W.nsIn K mainGlobals "weighed"=some (some (.ref f10)))
    (l10:K.lookup f10=some ⟨oc10,od10,.func (PySem.W.fnOf "weighed" "weighed" (defArgs s_weighed) (defBody s_weighed) (defScope s_weighed) .none kV10 dc10 pm10 an10 cd10 ct10),sl10⟩)
    (c10:PySem.W.codeIn K cd10 "weighed"=true)
    (k10:PySem.W.keepIn K (.ref f10)=true)
    (e11:PySem.W.nsIn K mainGlobals "column"=some (some (.ref f11)))
    (l11:K.lookup f11=some ⟨oc11,od11,.func (PySem.W.fnOf "column" "column" (defArgs s_column) (defBody s_column) (defScope s_column) .none kV11 dc11 pm11 an11 cd11 ct11),sl11⟩)
    (c11:PySem.W.codeIn K cd11 "column"=true)
    (k11:PySem.W.keepIn K (.ref f11)=true)
    (e12:PySem.W.nsIn K mainGlobals "_law_cell_at"=some (some (.ref f12)))
    (l12:K.lookup f12=some ⟨oc12,od12,.func (PySem.W.fnOf "_law_cell_at" "_law_cell_at" (defArgs s_law_cell_at) (defBody s_law_cell_at) (defScope s_law_cell_at) .none kV12 dc12 pm12 an12 cd12 ct12),sl12⟩)
    (c12:PySem.W.codeIn K cd12 "_law_cell_at"=true)
    (k12:PySem.W.keepIn K (.ref f12)=true)
    (e13:PySem.W.nsIn K mainGlobals "_law_stream"=some (some (.ref f13)))
    (l13:K.lookup f13=some ⟨oc13,od13,.func (PySem.W.fnOf "_law_stream" "_law_stream" (defArgs s_law_stream) (defBody s_law_stream) (defScope s_law_stream) .none kV13 dc13 pm13 an13 cd13 ct13),sl13⟩)
    (c13:PySem.W.codeIn K cd13 "_law_stream"=true)
    (k13:PySem.W.keepIn K (.ref f13)=true)
    (e14:PySem.W.nsIn K mainGlobals "_law_lowest"=some (some (.ref f14)))
    (l14:K.lookup f14=some ⟨oc14,od14,.func (PySem.W.fnOf "_law_lowest" "_law_lowest" (defArgs s_law_lowest) (defBody s_law_lowest) (defScope s_law_lowest) .none kV14 dc14 pm14 an14 cd14 ct14),sl14⟩)
    (c14:PySem.W.codeIn K cd14 "_law_lowest"=true)
    (k14:PySem.W.keepIn K (.ref f14)=true)
    (e15:PySem.W.nsIn K mainGlobals "_law_more"=some (some (.ref f15)))
    (l15:K.lookup f15=some ⟨oc15,od15,.func (PySem.W.fnOf "_law_more" "_law_more" (defArgs s_law_more) (defBody s_law_more) (defScope s_law_more) .none kV15 dc15 pm15 an15 cd15 ct15),sl15⟩)
    (c15:PySem.W.codeIn K cd15 "_law_more"=true)
    (k15:PySem.W.keepIn K (.ref f15)=true)
    (e16:PySem.W.nsIn K mainGlobals "_law_by"=some (some (.ref f16)))
    (l16:K.lookup f16=some ⟨oc16,od16,.func (PySem.W.fnOf "_law_by" "_law_by" (defArgs s_law_by) (defBody s_law_by) (defScope s_law_by) .none kV16 dc16 pm16 an16 cd16 ct16),sl16⟩)
    (c16:PySem.W.codeIn K cd16 "_law_by"=true)
    (k16:PySem.W.keepIn K (.ref f16)=true)
    (e17:PySem.W.nsIn K mainGlobals "_law_above"=some (some (.ref f17)))
    (l17:K.lookup f17=some ⟨oc17,od17,.func (PySem.W.fnOf "_law_above" "_law_above" (defArgs s_law_above) (defBody s_law_above) (defScope s_law_above) .none kV17 dc17 pm17 an17 cd17 ct17),sl17⟩)
    (c17:PySem.W.codeIn K cd17 "_law_above"=true)
    (k17:PySem.W.keepIn K (.ref f17)=true)
    (e18:PySem.W.nsIn K mainGlobals "_law_placing"=some (some (.ref f18)))
    (l18:K.lookup f18=some ⟨oc18,od18,.func (PySem.W.fnOf "_law_placing" "_law_placing" (defArgs s_law_placing) (defBody s_law_placing) (defScope s_law_placing) .none kV18 dc18 pm18 an18 cd18 ct18),sl18⟩)
    (c18:PySem.W.codeIn K cd18 "_law_placing"=true)
    (k18:PySem.W.keepIn K (.ref f18)=true)
    (e19:PySem.W.nsIn K mainGlobals "_law_sum"=some (some (.ref f19)))
    (l19:K.lookup f19=some ⟨oc19,od19,.func (PySem.W.fnOf "_law_sum" "_law_sum" (defArgs s_law_sum) (defBody s_law_sum) (defScope s_law_sum) .none kV19 dc19 pm19 an19 cd19 ct19),sl19⟩)
    (c19:PySem.W.codeIn K cd19 "_law_sum"=true)
    (k19:PySem.W.keepIn K (.ref f19)=true)
    (e20:PySem.W.nsIn K mainGlobals "_law_row"=some (some (.ref f20)))
    (l20:K.lookup f20=some ⟨oc20,od20,.func (PySem.W.fnOf "_law_row" "_law_row" (defArgs s_law_row) (defBody s_law_row) (defScope s_law_row) .none kV20 dc20 pm20 an20 cd20 ct20),sl20⟩)
    (c20:PySem.W.codeIn K cd20 "_law_row"=true)
    (k20:PySem.W.keepIn K (.ref f20)=true)
    (e21:PySem.W.nsIn K mainGlobals "_law_missed"=some (some (.ref f21)))
    (l21:K.lookup f21=some ⟨oc21,od21,.func (PySem.W.fnOf "_law_missed" "_law_missed" (defArgs s_law_missed) (defBody s_law_missed) (defScope s_law_missed) .none kV21 dc21 pm21 an21 cd21 ct21),sl21⟩)
    (c21:PySem.W.codeIn K cd21 "_law_missed"=true)
    (k21:PySem.W.keepIn K (.ref f21)=true)
    (e22:PySem.W.nsIn K mainGlobals "_law_goal"=some (some (.ref f22)))
    (l22:K.lookup f22=some ⟨oc22,od22,.func (PySem.W.fnOf "_law_goal" "_law_goal" (defArgs s_law_goal) (defBody s_law_goal) (defScope s_law_goal) .none kV22 dc22 pm22 an22 cd22 ct22),sl22⟩)
    (c22:PySem.W.codeIn K cd22 "_law_goal"=true)
    (k22:PySem.W.keepIn K (.ref f22)=true)
    (e23:PySem.W.nsIn K mainGlobals "_law_let"=some (some (.ref f23)))
    (l23:K.lookup f23=some ⟨oc23,od23,.func (PySem.W.fnOf "_law_let" "_law_let" (defArgs s_law_let) (defBody s_law_let) (defScope s_law_let) .none kV23 dc23 pm23 an23 cd23 ct23),sl23⟩)
    (c23:PySem.W.codeIn K cd23 "_law_let"=true)
    (k23:PySem.W.keepIn K (.ref f23)=true)
    (e24:PySem.W.nsIn K mainGlobals "_law_room"=some (some (.ref f24)))
    (l24:K.lookup f24=some ⟨oc24,od24,.func (PySem.W.fnOf "_law_room" "_law_room" (defArgs s_law_room) (defBody s_law_room) (defScope s_law_room) .none kV24 dc24 pm24 an24 cd24 ct24),sl24⟩)
    (c24:PySem.W.codeIn K cd24 "_law_room"=true)
    (k24:PySem.W.keepIn K (.ref f24)=true)
    (e25:PySem.W.nsIn K mainGlobals "_law_sums"=some (some (.ref f25)))
    (l25:K.lookup f25=some ⟨oc25,od25,.func (PySem.W.fnOf "_law_sums" "_law_sums" (defArgs s_law_sums) (defBody s_law_sums) (defScope s_law_sums) .none kV25 dc25 pm25 an25 cd25 ct25),sl25⟩)
    (c25:PySem.W.codeIn K cd25 "_law_sums"=true)
    (k25:PySem.W.keepIn K (.ref f25)=true)
    (e26:PySem.W.nsIn K mainGlobals "_law_holds"=some (some (.ref f26)))
    (l26:K.lookup f26=some ⟨oc26,od26,.func (PySem.W.fnOf "_law_holds" "_law_holds" (defArgs s_law_holds) (defBody s_law_holds) (defScope s_law_holds) .none kV26 dc26 pm26 an26 cd26 ct26),sl26⟩)
    (c26:PySem.W.codeIn K cd26 "_law_holds"=true)
    (k26:PySem.W.keepIn K (.ref f26)=true)
    (e27:PySem.W.nsIn K mainGlobals "_law_bound"=some (some (.ref f27)))
    (l27:K.lookup f27=some ⟨oc27,od27,.func (PySem.W.fnOf "_law_bound" "_law_bound" (defArgs s_law_bound) (defBody s_law_bound) (defScope s_law_bound) .none kV27 dc27 pm27 an27 cd27 ct27),sl27⟩)
    (c27:PySem.W.codeIn K cd27 "_law_bound"=true)
    (k27:PySem.W.keepIn K (.ref f27)=true)
    (e28:PySem.W.nsIn K mainGlobals "_law_price"=some (some (.ref f28)))
    (l28:K.lookup f28=some ⟨oc28,od28,.func (PySem.W.fnOf "_law_price" "_law_price" (defArgs s_law_price) (defBody s_law_price) (defScope s_law_price) .none kV28 dc28 pm28 an28 cd28 ct28),sl28⟩)
    (c28:PySem.W.codeIn K cd28 "_law_price"=true)
    (k28:PySem.W.keepIn K (.ref f28)=true)
    (e29:PySem.W.nsIn K mainGlobals "_law_paper"=some (some (.ref f29)))
    (l29:K.lookup f29=some ⟨oc29,od29,.func (PySem.W.fnOf "_law_paper" "_law_paper" (defArgs s_law_paper) (defBody s_law_paper) (defScope s_law_paper) .none kV29 dc29 pm29 an29 cd29 ct29),sl29⟩)
    (c29:PySem.W.codeIn K cd29 "_law_paper"=true)
    (k29:PySem.W.keepIn K (.ref f29)=true)
    (e30:PySem.W.nsIn K mainGlobals "_law_forged"=some (some (.ref f30)))
    (l30:K.lookup f30=some ⟨oc30,od30,.func (PySem.W.fnOf "_law_forged" "_law_forged" (defArgs s_law_forged) (defBody s_law_forged) (defScope s_law_forged) .none kV30 dc30 pm30 an30 cd30 ct30),sl30⟩)
    (c30:PySem.W.codeIn K cd30 "_law_forged"=true)
    (k30:PySem.W.keepIn K (.ref f30)=true)
    (e31:PySem.W.nsIn K mainGlobals "_law_told"=some (some (.ref f31)))
    (l31:K.lookup f31=some ⟨oc31,od31,.func (PySem.W.fnOf "_law_told" "_law_told" (defArgs s_law_told) (defBody s_law_told) (defScope s_law_told) .none kV31 dc31 pm31 an31 cd31 ct31),sl31⟩)
    (c31:PySem.W.codeIn K cd31 "_law_told"=true)
    (k31:PySem.W.keepIn K (.ref f31)=true)
    (e32:PySem.W.nsIn K mainGlobals "law"=some (some (.ref f32)))
    (l32:K.lookup f32=some ⟨oc32,od32,.func (PySem.W.fnOf "law" "law" (defArgs s_law) (defBody s_law) (defScope s_law) .none kV32 dc32 pm32 an32 cd32 ct32),sl32⟩)
    (c32:PySem.W.codeIn K cd32 "law"=true)
    (k32:PySem.W.keepIn K (.ref f32)=true)
    (n0:PySem.W.nsIn K mainGlobals "NOUGHT"=some (some (.ref g0)))
    (o0:K.lookup g0=some ⟨.type "tuple",gd0,.seq #[Value.int (0) t0_0,Value.int (1) t0_1] gn0,gs0⟩)
    (yi_MUST:PySem.W.nsIn K mainGlobals "MUST"=some (some (.int (0) yk_MUST)))
    (xn_NoPaper:PySem.W.nsIn K mainGlobals "NoPaper"=some (some (.ref x_NoPaper)))
    (xq_NoPaper:PySem.W.excIn K x_NoPaper [.type "ValueError",.type "Exception",.type "BaseException",.type "object"] "ValueError.__new__"=true)
    (xn_FrameError:PySem.W.nsIn K mainGlobals "FrameError"=some (some (.ref x_FrameError)))
    (xq_FrameError:PySem.W.excIn K x_FrameError [.type "ValueError",.type "Exception",.type "BaseException",.type "object"] "ValueError.__new__"=true)
    (yfg_NoPaper:PySem.W.findIn K (.ref x_NoPaper) "__getattribute__"=some (some (.builtin "BaseException.__getattribute__")))
    (yfn_NoPaper:PySem.W.findIn K (.ref x_NoPaper) "__getattr__"=some none)
    (yfc_NoPaper:PySem.W.findIn K (.ref x_NoPaper) "__class__"=some (some (.builtin "object.__class__")))
    (ymo_NoPaper:PySem.W.mroIn K x_NoPaper (.type "object")=some true)
    (ysb_NoPaper:PySem.W.subIn K (.ref x_NoPaper) (.type "BaseException")=some true)
    (xk_NoPaper_FrameError:PySem.W.kitOne K (.ref x_NoPaper) (.ref x_FrameError)=some true)
    (xm_NoPaper_NoPaper:PySem.W.exmOne K (.ref x_NoPaper) (.ref x_NoPaper)=some true)
    (z0:PySem.W.nsIn K mainGlobals "abs"=some none)
    (z1:PySem.W.nsIn K mainGlobals "len"=some none)
    (z2:PySem.W.nsIn K mainGlobals "zip"=some none)
    (z3:PySem.W.nsIn K mainGlobals "any"=some none)
    (z4:PySem.W.nsIn K mainGlobals "range"=some none)
    (z5:PySem.W.nsIn K mainGlobals "max"=some none)
    (z6:PySem.W.nsIn K mainGlobals "enumerate"=some none)
    (z7:PySem.W.nsIn K mainGlobals "int"=some none)
    (z8:PySem.W.nsIn K mainGlobals "min"=some none)
    (z9:PySem.W.nsIn K mainGlobals "list"=some none)
    (z10:PySem.W.nsIn K mainGlobals "isinstance"=some none)
    : Tx K mg where
  a_part:=f0
  d_part:=_
  F_part:=a'i (st:=s_part) l0 c0 k0
  b_part:=(a'i (st:=s_part) l0 c0 k0).binds (ps:=["top","bottom"]) fun _ _ _ _ _ _ us hl=>match us,hl with | [_,_],_=>rfl
  m_part:=PySem.W.mg_of X G e0
  a_greatest_divisor:=f1
  d_greatest_divisor:=_
  F_greatest_divisor:=a'i (st:=s_greatest_divisor) l1 c1 k1
  b_greatest_divisor:=(a'i (st:=s_greatest_divisor) l1 c1 k1).binds (ps:=["one","other"]) fun _ _ _ _ _ _ us hl=>match us,hl with | [_,_],_=>rfl
  m_greatest_divisor:=PySem.W.mg_of X G e1
  a_plus:=f2
  d_plus:=_
  F_plus:=a'i (st:=s_plus) l2 c2 k2
  b_plus:=(a'i (st:=s_plus) l2 c2 k2).binds (ps:=["one","other"]) fun _ _ _ _ _ _ us hl=>match us,hl with | [_,_],_=>rfl
  m_plus:=PySem.W.mg_of X G e2
  a_minus:=f3
  d_minus:=_
  F_minus:=a'i (st:=s_minus) l3 c3 k3
  b_minus:=(a'i (st:=s_minus) l3 c3 k3).binds (ps:=["one","other"]) fun _ _ _ _ _ _ us hl=>match us,hl with | [_,_],_=>rfl
  m_minus:=PySem.W.mg_of X G e3
  a_times:=f4
  d_times:=_
  F_times:=a'i (st:=s_times) l4 c4 k4
  b_times:=(a'i (st:=s_times) l4 c4 k4).binds (ps:=["one","other"]) fun _ _ _ _ _ _ us hl=>match us,hl with | [_,_],_=>rfl
  m_times:=PySem.W.mg_of X G e4
  a_under:=f5
  d_under:=_
  F_under:=a'i (st:=s_under) l5 c5 k5
  b_under:=(a'i (st:=s_under) l5 c5 k5).binds (ps:=["one","other"]) fun _ _ _ _ _ _ us hl=>match us,hl with | [_,_],_=>rfl
  m_under:=PySem.W.mg_of X G e5
  a_bound:=f6
  d_bound:=_
  F_bound:=a'i (st:=s_bound) l6 c6 k6
  b_bound:=(a'i (st:=s_bound) l6 c6 k6).binds (ps:=["rows","unknowns","settled","goal","paper"]) fun _ _ _ _ _ _ us hl=>match us,hl with | [_,_,_,_,_],_=>rfl
  m_bound:=PySem.W.mg_of X G e6
  a_holds:=f7
  d_holds:=_
  F_holds:=a'i (st:=s_holds) l7 c7 k7
  b_holds:=(a'i (st:=s_holds) l7 c7 k7).binds (ps:=["rows","unknowns","settled","goal","paper"]) fun _ _ _ _ _ _ us hl=>match us,hl with | [_,_,_,_,_],_=>rfl
  m_holds:=PySem.W.mg_of X G e7
  a_counted:=f8
  d_counted:=_
  F_counted:=a'i (st:=s_counted) l8 c8 k8
  b_counted:=(a'i (st:=s_counted) l8 c8 k8).binds (ps:=["settled","shares","goal","thing"]) fun _ _ _ _ _ _ us hl=>match us,hl with | [_,_,_,_],_=>rfl
  m_counted:=PySem.W.mg_of X G e8
  a_signs_good:=f9
  d_signs_good:=_
  F_signs_good:=a'i (st:=s_signs_good) l9 c9 k9
  b_signs_good:=(a'i (st:=s_signs_good) l9 c9 k9).binds (ps:=["rows","prices"]) fun _ _ _ _ _ _ us hl=>match us,hl with | [_,_],_=>rfl
  m_signs_good:=PySem.W.mg_of X G e9
  a_weighed:=f10
  d_weighed:=_
  F_weighed:=a'i (st:=s_weighed) l10 c10 k10
  b_weighed:=(a'i (st:=s_weighed) l10 c10 k10).binds (ps:=["weights","numbers"]) fun _ _ _ _ _ _ us hl=>match us,hl with | [_,_],_=>rfl
  m_weighed:=PySem.W.mg_of X G e10
  a_column:=f11
  d_column:=_
  F_column:=a'i (st:=s_column) l11 c11 k11
  b_column:=(a'i (st:=s_column) l11 c11 k11).binds (ps:=["rows","prices","unknown"]) fun _ _ _ _ _ _ us hl=>match us,hl with | [_,_,_],_=>rfl
  m_column:=PySem.W.mg_of X G e11
  a_law_cell_at:=f12
  d_law_cell_at:=_
  F_law_cell_at:=a'i (st:=s_law_cell_at) l12 c12 k12
  b_law_cell_at:=(a'i (st:=s_law_cell_at) l12 c12 k12).binds (ps:=["_law_script","_law_k"]) fun _ _ _ _ _ _ us hl=>match us,hl with | [_,_],_=>rfl
  m_law_cell_at:=PySem.W.mg_of X G e12
  a_law_stream:=f13
  d_law_stream:=_
  F_law_stream:=a'i (st:=s_law_stream) l13 c13 k13
  b_law_stream:=(a'i (st:=s_law_stream) l13 c13 k13).binds (ps:=["_law_cell","_law_many"]) fun _ _ _ _ _ _ us hl=>match us,hl with | [_,_],_=>rfl
  m_law_stream:=PySem.W.mg_of X G e13
  a_law_lowest:=f14
  d_law_lowest:=_
  F_law_lowest:=a'i (st:=s_law_lowest) l14 c14 k14
  b_law_lowest:=(a'i (st:=s_law_lowest) l14 c14 k14).binds (ps:=["_law_top","_law_bottom"]) fun _ _ _ _ _ _ us hl=>match us,hl with | [_,_],_=>rfl
  m_law_lowest:=PySem.W.mg_of X G e14
  a_law_more:=f15
  d_law_more:=_
  F_law_more:=a'i (st:=s_law_more) l15 c15 k15
  b_law_more:=(a'i (st:=s_law_more) l15 c15 k15).binds (ps:=["_law_one","_law_many","_law_other"]) fun _ _ _ _ _ _ us hl=>match us,hl with | [_,_,_],_=>rfl
  m_law_more:=PySem.W.mg_of X G e15
  a_law_by:=f16
  d_law_by:=_
  F_law_by:=a'i (st:=s_law_by) l16 c16 k16
  b_law_by:=(a'i (st:=s_law_by) l16 c16 k16).binds (ps:=["_law_one","_law_other"]) fun _ _ _ _ _ _ us hl=>match us,hl with | [_,_],_=>rfl
  m_law_by:=PySem.W.mg_of X G e16
  a_law_above:=f17
  d_law_above:=_
  F_law_above:=a'i (st:=s_law_above) l17 c17 k17
  b_law_above:=(a'i (st:=s_law_above) l17 c17 k17).binds (ps:=["_law_one","_law_other"]) fun _ _ _ _ _ _ us hl=>match us,hl with | [_,_],_=>rfl
  m_law_above:=PySem.W.mg_of X G e17
  a_law_placing:=f18
  d_law_placing:=_
  F_law_placing:=a'i (st:=s_law_placing) l18 c18 k18
  b_law_placing:=(a'i (st:=s_law_placing) l18 c18 k18).binds (ps:=["_law_names","_law_xs"]) fun _ _ _ _ _ _ us hl=>match us,hl with | [_,_],_=>rfl
  m_law_placing:=PySem.W.mg_of X G e18
  a_law_sum:=f19
  d_law_sum:=_
  F_law_sum:=a'i (st:=s_law_sum) l19 c19 k19
  b_law_sum:=(a'i (st:=s_law_sum) l19 c19 k19).binds (ps:=["_law_parts","_law_placing_here"]) fun _ _ _ _ _ _ us hl=>match us,hl with | [_,_],_=>rfl
  m_law_sum:=PySem.W.mg_of X G e19
  a_law_row:=f20
  d_law_row:=_
  F_law_row:=a'i (st:=s_law_row) l20 c20 k20
  b_law_row:=(a'i (st:=s_law_row) l20 c20 k20).binds (ps:=["_law_names","_law_placing_here","_law_cell"]) fun _ _ _ _ _ _ us hl=>match us,hl with | [_,_,_],_=>rfl
  m_law_row:=PySem.W.mg_of X G e20
  a_law_missed:=f21
  d_law_missed:=_
  F_law_missed:=a'i (st:=s_law_missed) l21 c21 k21
  b_law_missed:=(a'i (st:=s_law_missed) l21 c21 k21).binds (ps:=["_law_line","_law_placing_here"]) fun _ _ _ _ _ _ us hl=>match us,hl with | [_,_],_=>rfl
  m_law_missed:=PySem.W.mg_of X G e21
  a_law_goal:=f22
  d_law_goal:=_
  F_law_goal:=a'i (st:=s_law_goal) l22 c22 k22
  b_law_goal:=(a'i (st:=s_law_goal) l22 c22 k22).binds (ps:=["_law_rows","_law_goal_here","_law_placing_here"]) fun _ _ _ _ _ _ us hl=>match us,hl with | [_,_,_],_=>rfl
  m_law_goal:=PySem.W.mg_of X G e22
  a_law_let:=f23
  d_law_let:=_
  F_law_let:=a'i (st:=s_law_let) l23 c23 k23
  b_law_let:=(a'i (st:=s_law_let) l23 c23 k23).binds (ps:=["_law_goal_here","_law_settled","_law_shares","_law_one"]) fun _ _ _ _ _ _ us hl=>match us,hl with | [_,_,_,_],_=>rfl
  m_law_let:=PySem.W.mg_of X G e23
  a_law_room:=f24
  d_law_room:=_
  F_law_room:=a'i (st:=s_law_room) l24 c24 k24
  b_law_room:=(a'i (st:=s_law_room) l24 c24 k24).binds (ps:=["_law_rows","_law_k","_law_goal_here","_law_settled","_law_shares"]) fun _ _ _ _ _ _ us hl=>match us,hl with | [_,_,_,_,_],_=>rfl
  m_law_room:=PySem.W.mg_of X G e24
  a_law_sums:=f25
  d_law_sums:=_
  F_law_sums:=a'i (st:=s_law_sums) l25 c25 k25
  b_law_sums:=(a'i (st:=s_law_sums) l25 c25 k25).binds (ps:=["_law_rows","_law_prices","_law_name"]) fun _ _ _ _ _ _ us hl=>match us,hl with | [_,_,_],_=>rfl
  m_law_sums:=PySem.W.mg_of X G e25
  a_law_holds:=f26
  d_law_holds:=_
  F_law_holds:=a'i (st:=s_law_holds) l26 c26 k26
  b_law_holds:=(a'i (st:=s_law_holds) l26 c26 k26).binds (ps:=["_law_rows","_law_names","_law_settled","_law_goal_here","_law_paper_here"]) fun _ _ _ _ _ _ us hl=>match us,hl with | [_,_,_,_,_],_=>rfl
  m_law_holds:=PySem.W.mg_of X G e26
  a_law_bound:=f27
  d_law_bound:=_
  F_law_bound:=a'i (st:=s_law_bound) l27 c27 k27
  b_law_bound:=(a'i (st:=s_law_bound) l27 c27 k27).binds (ps:=["_law_rows","_law_settled","_law_paper_here"]) fun _ _ _ _ _ _ us hl=>match us,hl with | [_,_,_],_=>rfl
  m_law_bound:=PySem.W.mg_of X G e27
  a_law_price:=f28
  d_law_price:=_
  F_law_price:=a'i (st:=s_law_price) l28 c28 k28
  b_law_price:=(a'i (st:=s_law_price) l28 c28 k28).binds (ps:=["_law_rows","_law_k","_law_goal_here","_law_settled","_law_shares","_law_number"]) fun _ _ _ _ _ _ us hl=>match us,hl with | [_,_,_,_,_,_],_=>rfl
  m_law_price:=PySem.W.mg_of X G e28
  a_law_paper:=f29
  d_law_paper:=_
  F_law_paper:=a'i (st:=s_law_paper) l29 c29 k29
  b_law_paper:=(a'i (st:=s_law_paper) l29 c29 k29).binds (ps:=["_law_rows","_law_names","_law_settled","_law_goal_here","_law_xs"]) fun _ _ _ _ _ _ us hl=>match us,hl with | [_,_,_,_,_],_=>rfl
  m_law_paper:=PySem.W.mg_of X G e29
  a_law_forged:=f30
  d_law_forged:=_
  F_law_forged:=a'i (st:=s_law_forged) l30 c30 k30
  b_law_forged:=(a'i (st:=s_law_forged) l30 c30 k30).binds (ps:=["_law_paper_here","_law_xs"]) fun _ _ _ _ _ _ us hl=>match us,hl with | [_,_],_=>rfl
  m_law_forged:=PySem.W.mg_of X G e30
  a_law_told:=f31
  d_law_told:=_
  F_law_told:=a'i (st:=s_law_told) l31 c31 k31
  b_law_told:=(a'i (st:=s_law_told) l31 c31 k31).binds (ps:=["_law_rows","_law_names","_law_settled","_law_goal_here","_law_paper_here"]) fun _ _ _ _ _ _ us hl=>match us,hl with | [_,_,_,_,_],_=>rfl
  m_law_told:=PySem.W.mg_of X G e31
  a_law:=f32
  d_law:=_
  F_law:=a'i (st:=s_law) l32 c32 k32
  b_law:=(a'i (st:=s_law) l32 c32 k32).binds (ps:=["_law_script"]) fun _ _ _ _ _ _ us hl=>match us,hl with | [_],_=>rfl
  m_law:=PySem.W.mg_of X G e32
  c_NOUGHT:=g0
  m_NOUGHT:=PySem.W.mg_of X G n0
  t_NOUGHT:=⟨_,_,_,o0,rfl,rfl,(by show 2≤sizeLine;decide),(.cons ⟨_,rfl⟩ (.cons ⟨_,rfl⟩ .nil))⟩
  k_MUST:=yk_MUST
  m_MUST:=PySem.W.mg_of X G yi_MUST
  c_NoPaper:=x_NoPaper
  m_NoPaper:=PySem.W.mg_of X G xn_NoPaper
  q_NoPaper:=xq_NoPaper
  c_FrameError:=x_FrameError
  m_FrameError:=PySem.W.mg_of X G xn_FrameError
  q_FrameError:=xq_FrameError
  x_NoPaper:=⟨yfg_NoPaper,yfn_NoPaper,yfc_NoPaper,ymo_NoPaper,ysb_NoPaper⟩
  ki_NoPaper_FrameError:=xk_NoPaper_FrameError
  em_NoPaper_NoPaper:=xm_NoPaper_NoPaper
  z_abs:=PySem.W.mg_none_of X G z0
  z_len:=PySem.W.mg_none_of X G z1
  z_zip:=PySem.W.mg_none_of X G z2
  z_any:=PySem.W.mg_none_of X G z3
  z_range:=PySem.W.mg_none_of X G z4
  z_max:=PySem.W.mg_none_of X G z5
  z_enumerate:=PySem.W.mg_none_of X G z6
  z_int:=PySem.W.mg_none_of X G z7
  z_min:=PySem.W.mg_none_of X G z8
  z_list:=PySem.W.mg_none_of X G z9
  z_isinstance:=PySem.W.mg_none_of X G z10
abbrev U32:=Int ⊕ Str
abbrev Row32:=List (Str×Rat)×Str×Rat×Int×Int
def cntZ (t:U32):List ((U32×Rat)×Rat)→Rat
  | [] => 0
  | p :: r => cntZ t r + (if p.1.1 = t then p.2 else 0)
theorem f'g (t:U32):∀ a b,cntZ t (a++b)=cntZ t a+cntZ t b
  | [], b => by show cntZ t b = 0 + _; rw [Rat.zero_add]
  | p :: a, b => by
    show cntZ t (a++b)+_=(cntZ t a+_)+_
    rw [f'g t a b];grind
theorem c'q {α:Type} {xs:List α} {i:Nat} {x:α} (h:xs[i]?=some x):xs.take (i+1)=xs.take i++[x]:=by rw [List.take_add_one,h];rfl
theorem e'g {t:U32} {z:List ((U32×Rat)×Rat)} {i:Nat} {p:(U32×Rat)×Rat} (h:z[i]?=some p):cntZ t (z.take (i+1))=cntZ t (z.take i)+(if p.1.1=t then p.2 else 0):=by
  rw [c'q h,f'g]
  show _+(0+_)=_
  rw [Rat.zero_add]
theorem g'j {t:U32} {z:List ((U32×Rat)×Rat)} {i:Nat} {p:(U32×Rat)×Rat} (h:z[i]?=some p) (e:p.1.1=t):cntZ t (z.take (i+1))=cntZ t (z.take i)+p.2:=by rw [e'g h,if_pos e]
theorem i'f {t:U32} {z:List ((U32×Rat)×Rat)} {i:Nat} {p:(U32×Rat)×Rat} (h:z[i]?=some p) (e:¬ p.1.1=t):cntZ t (z.take (i+1))=cntZ t (z.take i):=by rw [e'g h,if_neg e,Rat.add_zero]
def cntR (settled:List (U32×Rat)) (shares:List Rat) (goal t:U32):Rat:=(if t=goal then 1 else 0)+cntZ t (settled.zip shares)
def wgtZ:List (Rat×Rat)→Rat
  | [] => 0
  | p :: r => wgtZ r + p.1 * p.2
theorem d'f:∀ a b,wgtZ (a++b)=wgtZ a+wgtZ b
  | [], b => by show wgtZ b = 0 + _; rw [Rat.zero_add]
  | p :: a, b => by
    show wgtZ (a++b)+_=(wgtZ a+_)+_
    rw [d'f a b];grind
theorem c'c {z:List (Rat×Rat)} {i:Nat} {p:Rat×Rat} (h:z[i]?=some p):wgtZ (z.take (i+1))=wgtZ (z.take i)+p.1*p.2:=by
  rw [c'q h,d'f]
  show _+(0+_)=_
  rw [Rat.zero_add]
theorem c'E {α β:Type} {xs:List α} {ys:List β} {i:Nat} {x:α} {y:β} (h:xs[i]?=some x) (g:ys[i]?=some y):(xs.zip ys)[i]?=some (x,y):=List.getElem?_zip_eq_some.mpr ⟨h,g⟩
theorem s'A {α β:Type} (xs:List α) (ys:List β):(xs.zip ys).take (min xs.length ys.length)=xs.zip ys:=List.take_of_length_le (by rw [List.length_zip];exact Nat.le_refl _)
def colR (rows:List Row32) (prices:List Rat) (u:Str):Rat:=wgtZ (prices.zip (rows.map (fun r=>(gtd r.1 u).getD 0)))
def signB (rp:Row32×Rat):Bool:=!(decide (rp.1.2.1="least") && decide (rp.2<0)) && !(decide (rp.1.2.1="most") && decide (0<rp.2))
def roomR (settled:List (U32×Rat)) (shares:List Rat) (goal:U32) (r:Row32):Rat:=((r.2.2.2.2:Int):Rat)*cntR settled shares goal (.inl r.2.2.2.1)
def roomB (settled:List (U32×Rat)) (shares:List Rat) (goal:U32) (rp:Row32×Rat):Bool:=decide (rp.1.2.2.2.1=0) || (!decide (roomR settled shares goal rp.1<rp.2) && !decide (rp.2<0 - roomR settled shares goal rp.1))
def colB (rows:List Row32) (prices:List Rat) (settled:List (U32×Rat)) (shares:List Rat) (goal:U32) (u:Str):Bool:=!decide (cntR settled shares goal (.inr u)<colR rows prices u)
def holdsB (rows:List Row32) (unknowns:List Str) (settled:List (U32×Rat)) (goal:U32) (prices shares:List Rat):Bool:=
  (decide (prices.length=rows.length) && decide (shares.length=settled.length)) && (((shares.all fun s=>!decide (s<0)) && (rows.zip prices).all signB) && ((rows.zip prices).all (roomB settled shares goal) && unknowns.all (colB rows prices settled shares goal)))
structure Ok92 (rows:List Row32) (settled:List (U32×Rat)) (prices shares:List Rat):Prop where
  l1:rows.length≤9
  l2:prices.length≤10
  l3:settled.length≤3
  l4:shares.length≤3
  r1:∀ r∈rows,bs r.2.2.1≤110
  r2:∀ r∈rows,1≤r.2.2.2.2∧r.2.2.2.2≤1000000
  r3:∀ r∈rows,∀ x q,gtd r.1 x=some q→bs q≤10
  p:∀ p∈prices,bs p≤400
  s:∀ s∈shares,bs s≤20
  t:∀ p∈settled,bs p.2≤670
theorem d'y {α:Type} {z:List α} {f:α→Bool} {i:Nat} {p:α} (h:z[i]?=some p) (hp:f p=false):z.all f=false:=List.all_eq_false.mpr ⟨p,List.mem_of_getElem? h,by rw [hp];decide⟩
theorem b'K {α:Type} {z:List α} {f:α→Bool} {i:Nat} {p:α} (h:z[i]?=some p) (hp:f p=true) (hz:(z.take i).all f=true):(z.take (i+1)).all f=true:=by rw [c'q h,List.all_append,hz];simp [hp]
section
variable {rows:List Row32} {un:List Str} {st:List (U32×Rat)} {goal:U32} {pr sh:List Rat}
theorem d'z (h:¬ ((pr.length:Int)=rows.length)):false=holdsB rows un st goal pr sh:=by unfold holdsB;rw [decide_eq_false (fun z=>h (by rw [z])),Bool.false_and,Bool.false_and]
theorem d'A (h:¬ ((sh.length:Int)=st.length)):false=holdsB rows un st goal pr sh:=by unfold holdsB;rw [decide_eq_false (p:=sh.length=st.length) (fun z=>h (by rw [z])),Bool.and_false,Bool.false_and]
theorem g'k {xs:List Rat}:(xs.map fun s=>decide (s<0)).any id=!(xs.all fun s=>!decide (s<0)):=by
  induction xs with
  | nil => rfl
  | cons x xs ih => rw [List.map_cons, List.any_cons, List.all_cons, ih]; cases decide (x < 0) <;> simp
theorem e'h (h:(sh.map fun s=>decide (s<0)).any id=true):false=holdsB rows un st goal pr sh:=by
  rw [g'k] at h
  unfold holdsB
  rw [show (sh.all fun s=>!decide (s<0))=false by simpa using h,Bool.false_and,Bool.false_and,Bool.and_false]
theorem d'B (h:(rows.zip pr).all signB=false):false=holdsB rows un st goal pr sh:=by unfold holdsB;rw [h,Bool.and_false,Bool.false_and,Bool.and_false]
theorem d'C {i:Nat} {rp:Row32×Rat} (h:(rows.zip pr)[i]?=some rp) (hp:roomB st sh goal rp=false):false=holdsB rows un st goal pr sh:=by unfold holdsB;rw [d'y h hp,Bool.false_and,Bool.and_false,Bool.and_false]
theorem e'i {i:Nat} {u:Str} (h:un[i]?=some u) (hp:colB rows pr st sh goal u=false):false=holdsB rows un st goal pr sh:=by unfold holdsB;rw [d'y h hp,Bool.and_false,Bool.and_false,Bool.and_false]
theorem e'j (h1:(pr.length:Int)=rows.length) (h2:(sh.length:Int)=st.length) (h3:(sh.map fun s=>decide (s<0)).any id=false) (h4:(rows.zip pr).all signB=true) (h5:(rows.zip pr).all (roomB st sh goal)=true) (h6:un.all (colB rows pr st sh goal)=true):true=holdsB rows un st goal pr sh:=by
  rw [g'k] at h3
  unfold holdsB
  rw [decide_eq_true (p:=pr.length=rows.length) (by omega),decide_eq_true (p:=sh.length=st.length) (by omega),h4,h5,h6,show (sh.all fun s=>!decide (s<0))=true by simpa using h3]
  rfl
theorem j'J {rp:Row32×Rat} (h:¬ rp.1.2.2.2.1=0) (h2:roomR st sh goal rp.1<rp.2):roomB st sh goal rp=false:=by unfold roomB;rw [decide_eq_false h,decide_eq_true h2];rfl
theorem j'K {rp:Row32×Rat} (h:¬ rp.1.2.2.2.1=0) (h2:rp.2<0 - roomR st sh goal rp.1):roomB st sh goal rp=false:=by unfold roomB;rw [decide_eq_false h,decide_eq_true h2];cases decide (roomR st sh goal rp.1<rp.2)<;>rfl
theorem e'k {rp:Row32×Rat} (h:rp.1.2.2.2.1=0):roomB st sh goal rp=true:=by unfold roomB;rw [decide_eq_true h];rfl
theorem i'g {rp:Row32×Rat} (h1:¬ roomR st sh goal rp.1<rp.2) (h2:¬ rp.2<0 - roomR st sh goal rp.1):roomB st sh goal rp=true:=by unfold roomB;rw [decide_eq_false h1,decide_eq_false h2];cases decide (rp.1.2.2.2.1=0)<;>rfl
end
theorem b'e {n:Int} {k:Nat} (h:n.natAbs<2 ^ k) (hk:1≤k):bs ((n:Int):Rat)≤k:=by
  have z1:bl n.natAbs≤k:=a'F (x:=n) k h
  have z2:bl 1=1:=by decide +kernel
  unfold bs
  rw [Rat.num_intCast,Rat.den_intCast]
  omega
def bndR (rows:List Row32) (settled:List (U32×Rat)) (prices shares:List Rat):Rat:=wgtZ (prices.zip (rows.map (·.2.2.1))) - wgtZ (shares.zip (settled.map (·.2)))
def missN (r:Row32) (off:Rat):Int:=if r.2.1="least" then (if 0 > off.num then 0 else off.num) else if r.2.1="most" then (if 0 > 0 - off.num then 0 else 0 - off.num) else (if off.num<0 then -off.num else off.num)
def missR (P:Str→Rat) (r:Row32):Rat:=Rat.divInt (missN r (r.2.2.1 - val r.1 P)) (r.2.2.1 - val r.1 P).den
theorem e'l {n:Int} {d:Nat} (h:0≤n):0≤Rat.divInt n d:=Rat.divInt_nonneg h (by omega)
theorem k'h {a:Rat} {n:Int} (h:a.num≤n):a≤Rat.divInt n a.den:=by
  conv=>lhs;rw [← Rat.num_divInt_den a]
  have e:Rat.divInt n a.den=Rat.divInt a.num a.den+Rat.divInt (n - a.num) a.den:=by
    rw [Rat.divInt_add_divInt _ _ (by have:=a.den_pos;omega) (by have:=a.den_pos;omega),← Int.add_mul,Rat.divInt_mul_right (by have:=a.den_pos;omega)]
    congr 1;omega
  rw [e]
  have:=e'l (d:=a.den) (show 0≤n - a.num by omega)
  grind
theorem r'R {a:Rat} {n:Int} (h:-a.num≤n):-a≤Rat.divInt n a.den:=by
  have:=k'h (a:=-a) (n:=n) (by exact h)
  exact this
theorem j'L (P:Str→Rat) (r:Row32):0≤missR P r:=e'l (by unfold missN;repeat' split<;>omega)
theorem j'M (P:Str→Rat) (r:Row32) (h:¬ r.2.1="most"):r.2.2.1 - val r.1 P≤missR P r:=k'h (by unfold missN;rw [if_neg h];repeat' split<;>omega)
theorem j'N (P:Str→Rat) (r:Row32) (h:¬ r.2.1="least"):-(r.2.2.1 - val r.1 P)≤missR P r:=r'R (by unfold missN;rw [if_neg h];repeat' split<;>omega)
def gZ (P:Str→Rat) (k:Int):List Row32→Rat
  | [] => 0
  | r :: rs => gZ P k rs + (if r.2.2.2.1 = k then ((r.2.2.2.2 : Int) : Rat) * missR P r else 0)
theorem i'h (P:Str→Rat) (k:Int):∀ a b,gZ P k (a++b)=gZ P k a+gZ P k b
  | [], b => by show gZ P k b = 0 + _; rw [Rat.zero_add]
  | p :: a, b => by
    show gZ P k (a++b)+_=(gZ P k a+_)+_
    rw [i'h P k a b];grind
theorem m'V {P:Str→Rat} {k:Int} {z:List Row32} {i:Nat} {p:Row32} (h:z[i]?=some p):gZ P k (z.take (i+1))=gZ P k (z.take i)+(if p.2.2.2.1=k then ((p.2.2.2.2:Int):Rat)*missR P p else 0):=by
  rw [c'q h,i'h]
  show _+(0+_)=_
  rw [Rat.zero_add]
def goalV (P:Str→Rat) (rows:List Row32):U32→Rat
  | .inl k => gZ P k rows
  | .inr u => P u
def sumN (f:Str→Rat):List Str→Rat
  | [] => 0
  | u :: r => f u + sumN f r
theorem c'r (f g:Str→Rat):∀ n,sumN (fun u=>f u+g u) n=sumN f n+sumN g n
  | [] => by show (0 : Rat) = 0 + 0; rw [Rat.add_zero]
  | u :: r => by show _ + sumN _ r = (_ + sumN _ r) + (_ + sumN _ r); rw [c'r f g r]; grind
theorem d'g (c:Rat) (f:Str→Rat):∀ n,sumN (fun u=>c*f u) n=c*sumN f n
  | [] => by show (0 : Rat) = c * 0; rw [Rat.mul_zero]
  | u :: r => by show _ + sumN _ r = c * (_ + sumN _ r); rw [d'g c f r]; grind
theorem a'I {f g:Str→Rat}:∀ {n:List Str},(∀ u∈n,f u=g u)→sumN f n=sumN g n
  | [], _ => rfl
  | u :: r, h => by show _ + sumN _ r = _ + sumN _ r; rw [a'I (n := r) fun v m => h v (List.mem_cons_of_mem _ m), h u List.mem_cons_self]
theorem g'l {f g:Str→Rat}:∀ {n:List Str},(∀ u∈n,f u≤g u)→sumN f n≤sumN g n
  | [], _ => Rat.le_refl
  | u :: r, h => by
    have a:=g'l (n:=r) fun v m=>h v (List.mem_cons_of_mem _ m)
    have b:=h u List.mem_cons_self
    show _+sumN _ r≤_+sumN _ r
    grind
theorem b'D (n:List Str):sumN (fun _=>0) n=0:=by
  induction n with
  | nil => rfl
  | cons u r ih => show 0 + sumN _ r = 0; rw [ih, Rat.add_zero]
theorem d'h {x:Str} {f:Str→Rat}:∀ {n:List Str},n.Nodup→x∈n→sumN (fun u=>if u=x then f u else 0) n=f x
  | u :: r, hn, hm => by
    obtain⟨n1,n2⟩:=List.nodup_cons.mp hn
    show (if u=x then f u else 0)+sumN _ r=_
    by_cases e:u=x
    · subst e
      rw [if_pos rfl,a'I (g:=fun _=>0) (fun v m=>if_neg (fun z:v=u=>n1 (z ▸ m))),b'D,Rat.add_zero]
    · rw [if_neg e,d'h n2 ((List.mem_cons.mp hm).resolve_left fun z=>e z.symm),Rat.zero_add]
theorem f'h {p:Str×Rat} {r:List (Str×Rat)} (u:Str):gtd (p :: r) u=if p.1=u then some p.2 else gtd r u:=by
  unfold gtd
  rw [List.find?_cons]
  by_cases e:p.1=u
  · rw [decide_eq_true e,if_pos e];rfl
  · rw [decide_eq_false e,if_neg e]
theorem f'i {m:List (Str×Rat)} {u:Str} (h:u ∉ m.map (·.1)):gtd m u=none:=by
  induction m with
  | nil => rfl
  | cons p r ih =>
    rw [f'h,if_neg (fun z=>h (by rw [List.map_cons,z];exact List.mem_cons_self)),ih (fun z=>h (by rw [List.map_cons];exact List.mem_cons_of_mem _ z))]
theorem e'm {names:List Str} (hn:names.Nodup) (P:Str→Rat):∀ {m:List (Str×Rat)},(m.map (·.1)).Nodup→(∀ p∈m,p.1∈names)→val m P=sumN (fun u=>P u*(gtd m u).getD 0) names
  | [], _, _ => by
    rw [a'I (g:=fun _=>0) (fun v _=>by show P v*0=0;rw [Rat.mul_zero]),b'D];rfl
  | p :: r, h, k => by
    obtain⟨n1,n2⟩:=List.nodup_cons.mp (show (p.1 :: r.map (·.1)).Nodup from h)
    show p.2*P p.1+val r P=_
    rw [e'm hn P n2 (fun q m=>k q (List.mem_cons_of_mem _ m)),a'I (f:=fun u=>P u*(gtd (p :: r) u).getD 0) (g:=fun u=>(if u=p.1 then p.2*P u else 0)+P u*(gtd r u).getD 0) (fun u _=>?_),c'r,d'h (f:=fun u=>p.2*P u) hn (k p List.mem_cons_self)]
    rw [f'h]
    by_cases e:p.1=u
    · subst e
      rw [if_pos rfl,if_pos rfl,f'i n1,Option.getD_some,Option.getD_none]
      grind
    · rw [if_neg e,if_neg (fun z=>e z.symm),Rat.zero_add]
def valZ (P:Str→Rat):List Row32→List Rat→Rat
  | r :: rs, p :: ps => valZ P rs ps + p * val r.1 P
  | _, _ => 0
theorem f'j {names:List Str} (hn:names.Nodup) (P:Str→Rat):∀ (rows:List Row32) (pr:List Rat),(∀ r∈rows,(r.1.map (·.1)).Nodup∧∀ p∈r.1,p.1∈names)→valZ P rows pr=sumN (fun u=>P u*colR rows pr u) names
  | [], pr, _ => by
    rw [a'I (g:=fun _=>0) (fun v _=>by unfold colR;rw [List.map_nil,List.zip_nil_right];show P v*0=0;rw [Rat.mul_zero]),b'D];rfl
  | r :: rs, [], _ => by
    rw [a'I (g:=fun _=>0) (fun v _=>by unfold colR;rw [List.zip_nil_left];show P v*0=0;rw [Rat.mul_zero]),b'D];rfl
  | r :: rs, p :: ps, h => by
    have h0:=h r List.mem_cons_self
    show valZ P rs ps+p*val r.1 P=_
    rw [f'j hn P rs ps (fun q m=>h q (List.mem_cons_of_mem _ m)),e'm hn P h0.1 h0.2,← d'g,← c'r]
    refine a'I fun u _=>?_
    show P u*colR rs ps u+p*(P u*(gtd r.1 u).getD 0)=P u*(colR rs ps u+p*(gtd r.1 u).getD 0)
    generalize colR rs ps u=a
    generalize (gtd r.1 u).getD 0=b
    grind
def misZ (P:Str→Rat) (f:U32→Rat):List Row32→Rat
  | [] => 0
  | r :: rs => misZ P f rs + (if r.2.2.2.1 = 0 then 0 else ((r.2.2.2.2 : Int) : Rat) * missR P r * f (.inl r.2.2.2.1))
theorem f'k (P:Str→Rat) (f g:U32→Rat):∀ rows,misZ P (fun t=>f t+g t) rows=misZ P f rows+misZ P g rows
  | [] => by show (0 : Rat) = 0 + 0; rw [Rat.add_zero]
  | r :: rs => by
    show misZ P _ rs+_=(misZ P f rs+_)+(misZ P g rs+_)
    rw [f'k P f g rs]
    split<;>grind
theorem f'l (P:Str→Rat) (c:Rat) (f:U32→Rat):∀ rows,misZ P (fun t=>c*f t) rows=c*misZ P f rows
  | [] => by show (0 : Rat) = c * 0; rw [Rat.mul_zero]
  | r :: rs => by
    show misZ P _ rs+_=c*(misZ P f rs+_)
    rw [f'l P c f rs]
    split<;>grind
theorem i'i (P:Str→Rat) (f:U32→Rat):∀ (rows:List Row32) (pr:List Rat),pr.length=rows.length→(∀ x∈rows.zip pr,x.2*x.1.2.2.1≤x.2*val x.1.1 P+(if x.1.2.2.2.1=0 then 0 else ((x.1.2.2.2.2:Int):Rat)*missR P x.1*f (.inl x.1.2.2.2.1)))→wgtZ (pr.zip (rows.map (·.2.2.1)))≤valZ P rows pr+misZ P f rows
  | [], [], _, _ => by show (0 : Rat) ≤ 0 + 0; rw [Rat.add_zero]; exact Rat.le_refl
  | r :: rs, p :: ps, hl, h => by
    have h0:=h (r,p) List.mem_cons_self
    have ih:=i'i P f rs ps (Nat.succ.inj hl) (fun x m=>h x (List.mem_cons_of_mem _ m))
    show wgtZ (ps.zip (rs.map (·.2.2.1)))+p*r.2.2.1≤(valZ P rs ps+p*val r.1 P)+(misZ P f rs+_)
    dsimp only at h0
    generalize (if r.2.2.2.1=0 then (0:Rat) else ((r.2.2.2.2:Int):Rat)*missR P r*f (.inl r.2.2.2.1))=e at h0 ⊢
    generalize wgtZ (ps.zip (rs.map (·.2.2.1)))=a at ih ⊢
    generalize p*r.2.2.1=b at h0 ⊢
    generalize p*val r.1 P=c at h0 ⊢
    grind
  | [], _ :: _, hl, _ => by cases hl
  | _ :: _, [], hl, _ => by cases hl
/-- a linear form over goals -/
def Lf (P:Str→Rat) (rows:List Row32) (names:List Str) (f:U32→Rat):Rat:=misZ P f rows+sumN (fun u=>P u*f (.inr u)) names
theorem p'Y (P:Str→Rat) (rows:List Row32) (names:List Str) (f g:U32→Rat):Lf P rows names (fun t=>f t+g t)=Lf P rows names f+Lf P rows names g:=by
  unfold Lf
  rw [f'k,a'I (g:=fun u=>P u*f (.inr u)+P u*g (.inr u)) (fun u _=>by grind),c'r]
  grind
theorem p'Z (P:Str→Rat) (rows:List Row32) (names:List Str) (c:Rat) (f:U32→Rat):Lf P rows names (fun t=>c*f t)=c*Lf P rows names f:=by
  unfold Lf
  rw [f'l,a'I (g:=fun u=>c*(P u*f (.inr u))) (fun u _=>by grind),d'g]
  grind
def dl (g:U32):U32→Rat:=fun t=>if t=g then 1 else 0
theorem m'W (P:Str→Rat) (rows:List Row32) (names:List Str) {k:Int} (hk:k≠0):Lf P rows names (dl (.inl k))=gZ P k rows:=by
  unfold Lf
  rw [a'I (g:=fun _=>0) (fun u _=>by show P u*(if (Sum.inr u:U32)=Sum.inl k then 1 else 0)=0;rw [if_neg (by intro h;cases h),Rat.mul_zero]),b'D,Rat.add_zero]
  induction rows with
  | nil => rfl
  | cons r rs ih =>
    show misZ P _ rs+_=gZ P k rs+_
    rw [ih]
    congr 1
    show (if r.2.2.2.1=0 then (0:Rat) else _*(if (Sum.inl r.2.2.2.1:U32)=Sum.inl k then 1 else 0))=_
    by_cases e:r.2.2.2.1=k
    · rw [if_neg (by omega),if_pos e,if_pos (by rw [e]),Rat.mul_one]
    · rw [if_neg e]
      split
      · rfl
      · rw [if_neg (by intro h;cases h;exact e rfl),Rat.mul_zero]
theorem m'X (P:Str→Rat) (rows:List Row32) {names:List Str} (hn:names.Nodup) {x:Str} (hx:x∈names):Lf P rows names (dl (.inr x))=P x:=by
  unfold Lf
  rw [a'I (g:=fun u=>if u=x then P u else 0) (fun u _=>?_),d'h hn hx]
  · have:misZ P (dl (.inr x)) rows=0:=by
      induction rows with
      | nil=>rfl
      | cons r rs ih=>
        show misZ P _ rs+(if r.2.2.2.1=0 then (0:Rat) else _*(if (Sum.inl r.2.2.2.1:U32)=Sum.inr x then 1 else 0))=0
        rw [ih,if_neg (c:=(Sum.inl r.2.2.2.1:U32)=Sum.inr x) (by intro h;cases h),Rat.mul_zero,Rat.zero_add]
        split<;>rfl
    rw [this,Rat.zero_add]
  · show P u*(if (Sum.inr u:U32)=Sum.inr x then 1 else 0)=_
    by_cases e:u=x
    · rw [if_pos (by rw [e]),if_pos e,Rat.mul_one]
    · rw [if_neg (by intro h;cases h;exact e rfl),if_neg e,Rat.mul_zero]
/-- what may be a goal -/
def GoalIn (names:List Str):U32→Prop
  | .inl k => k ≠ 0
  | .inr u => u ∈ names
theorem g'm (P:Str→Rat) (rows:List Row32) {names:List Str} (hn:names.Nodup):∀ {g:U32},GoalIn names g→Lf P rows names (dl g)=goalV P rows g
  | .inl _, h => m'W P rows names h
  | .inr _, h => m'X P rows hn h
theorem i'j (P:Str→Rat) (rows:List Row32) {names:List Str} (hn:names.Nodup) (a:U32→Rat):∀ (st:List (U32×Rat)) (sh:List Rat),sh.length=st.length→(∀ s∈sh,0≤s)→(∀ p∈st,GoalIn names p.1∧goalV P rows p.1≤p.2)→Lf P rows names (fun t=>a t+cntZ t (st.zip sh))≤Lf P rows names a+wgtZ (sh.zip (st.map (·.2)))
  | [], [], _, _, _ => by
    rw [show (fun t=>a t+cntZ t (([]:List (U32×Rat)).zip ([]:List Rat)))=a from funext fun t=>Rat.add_zero _]
    show _≤_+0
    rw [Rat.add_zero];exact Rat.le_refl
  | p :: st, s :: sh, hl, hs, ht => by
    have ih:=i'j P rows hn a st sh (Nat.succ.inj hl) (fun q m=>hs q (List.mem_cons_of_mem _ m)) (fun q m=>ht q (List.mem_cons_of_mem _ m))
    have h0:=ht p List.mem_cons_self
    have s0:=hs s List.mem_cons_self
    have e:(fun t=>a t+cntZ t ((p :: st).zip (s :: sh)))=fun t=>(a t+cntZ t (st.zip sh))+s*dl p.1 t:=by
      funext t
      show a t+(cntZ t (st.zip sh)+(if p.1=t then s else 0))=_+s*(if t=p.1 then 1 else 0)
      by_cases h:p.1=t
      · rw [if_pos h,if_pos h.symm,Rat.mul_one,Rat.add_assoc]
      · rw [if_neg h,if_neg (fun z=>h z.symm),Rat.mul_zero,Rat.add_zero,Rat.add_zero]
    rw [e,p'Y,p'Z,g'm P rows hn h0.1]
    show _≤_+(wgtZ (sh.zip (st.map (·.2)))+s*p.2)
    have:=Rat.mul_le_mul_of_nonneg_left h0.2 s0
    generalize wgtZ (sh.zip (st.map (·.2)))=b at ih ⊢
    grind
  | [], _ :: _, hl, _, _ => by cases hl
  | _ :: _, [], hl, _, _ => by cases hl
/-- a must is kept -/
def Kept (P:Str→Rat) (r:Row32):Prop:=(¬ r.2.1="most"→r.2.2.1≤val r.1 P)∧(¬ r.2.1="least"→val r.1 P≤r.2.2.1)
structure Good (P:Str→Rat) (names:List Str) (rows:List Row32):Prop where
  nn:∀ u∈names,0≤P u
  nd:names.Nodup
  dom:∀ r∈rows,(r.1.map (·.1)).Nodup∧∀ p∈r.1,p.1∈names
  must:∀ r∈rows,r.2.2.2.1=0→Kept P r
theorem b'm {a b c:Rat} (h:a≤b) (hc:0≤c):c*a≤c*b:=Rat.mul_le_mul_of_nonneg_left h hc
theorem q'a {P:Str→Rat} {r:Row32} {p room:Rat} (hm:r.2.2.2.1=0→Kept P r) (hs:signB (r,p)=true) (hr:¬ r.2.2.2.1=0→¬ room<p∧¬ p<0 - room):p*r.2.2.1≤p*val r.1 P+(if r.2.2.2.1=0 then 0 else missR P r*room):=by
  unfold signB at hs
  dsimp only at hs
  have s1:r.2.1="least"→0≤p:=fun h=>by rw [decide_eq_true h] at hs;simp at hs;have:=hs.1;grind
  have s2:r.2.1="most"→p≤0:=fun h=>by
    rw [decide_eq_true h] at hs
    simp at hs
    have:=hs.2
    grind
  have m0:=j'L P r
  have m1:=j'M P r
  have m2:=j'N P r
  generalize missR P r=m at m0 m1 m2 ⊢
  by_cases h0:r.2.2.2.1=0
  · rw [if_pos h0,Rat.add_zero]
    have k:=hm h0
    unfold Kept at k
    by_cases hp:0≤p
    · by_cases hk:r.2.1="most"
      · have:=s2 hk
        have e:p=0:=by grind
        rw [e,Rat.zero_mul,Rat.zero_mul];exact Rat.le_refl
      · exact b'm (k.1 hk) hp
    · have hl:¬ r.2.1="least":=fun h=>hp (s1 h)
      have a:=b'm (k.2 hl) (show 0≤-p by grind)
      grind
  · rw [if_neg h0]
    have h1:=hr h0
    by_cases hp:0≤p
    · by_cases hk:r.2.1="most"
      · have:=s2 hk
        have e:p=0:=by grind
        have r0:0≤room:=by grind
        have:=Rat.mul_nonneg m0 r0
        rw [e,Rat.zero_mul,Rat.zero_mul,Rat.zero_add];exact this
      · have a:=b'm (m1 hk) hp
        have b:=b'm (show p≤room by grind) m0
        grind
    · have hl:¬ r.2.1="least":=fun h=>hp (s1 h)
      have a:=b'm (m2 hl) (show 0≤-p by grind)
      have b:=b'm (show -p≤room by grind) m0
      grind
theorem i'k {P:Str→Rat} {names:List Str} {rows:List Row32} {st:List (U32×Rat)} {goal:U32} {pr sh:List Rat} (G:Good P names rows) (hg:GoalIn names goal) (ht:∀ p∈st,GoalIn names p.1∧goalV P rows p.1≤p.2) (hh:holdsB rows names st goal pr sh=true):bndR rows st pr sh≤goalV P rows goal:=by
  unfold holdsB at hh
  simp only [Bool.and_eq_true,decide_eq_true_eq,List.all_eq_true] at hh
  obtain⟨⟨l1,l2⟩,⟨h3,h4⟩,h5,h6⟩:=hh
  have a1:=i'i P (fun t=>cntR st sh goal t) rows pr l1 (fun x m=>by
    have mz:=List.of_mem_zip m
    have hb:=h5 x m
    unfold roomB at hb
    have:=q'a (P:=P) (r:=x.1) (p:=x.2) (room:=roomR st sh goal x.1) (G.must _ mz.1) (h4 x m) (fun h0=>by
      rw [decide_eq_false h0] at hb
      simpa using hb)
    by_cases h0:x.1.2.2.2.1=0
    · rw [if_pos h0] at this ⊢;exact this
    · rw [if_neg h0] at this ⊢
      unfold roomR at this
      rw [show missR P x.1*(((x.1.2.2.2.2:Int):Rat)*cntR st sh goal (.inl x.1.2.2.2.1))=((x.1.2.2.2.2:Int):Rat)*missR P x.1*cntR st sh goal (.inl x.1.2.2.2.1) by grind] at this
      exact this)
  have a2:=f'j G.nd P rows pr G.dom
  have a3:sumN (fun u=>P u*colR rows pr u) names≤sumN (fun u=>P u*cntR st sh goal (.inr u)) names:=g'l fun u m=>by
    have:=h6 u m
    unfold colB at this
    have:¬ cntR st sh goal (.inr u)<colR rows pr u:=by simpa using this
    exact b'm (by grind) (G.nn u m)
  have a4:=i'j P rows G.nd (dl goal) st sh l2 (fun s m=>Rat.not_lt.mp (by simpa using h3 s m)) ht
  rw [g'm P rows G.nd hg] at a4
  have a5:Lf P rows names (fun t=>dl goal t+cntZ t (st.zip sh))=misZ P (fun t=>cntR st sh goal t) rows+sumN (fun u=>P u*cntR st sh goal (.inr u)) names:=rfl
  rw [a5] at a4
  unfold bndR
  generalize wgtZ (pr.zip (rows.map (·.2.2.1)))=b1 at a1 ⊢
  generalize wgtZ (sh.zip (st.map (·.2)))=b2 at a4 ⊢
  grind
section
variable {P:Program} {w:World} {K:PySem.W.Frag} {mg:Str→Option Value} {base:Heap}
local macro_rules | `(tactic| walk_at "p") => `(tactic| simp only [s'l, s'm, s'n, o'H, l'Q, o'I, o'J, s'o, o'K, q'P, o'L, l'R, o'M, l'S, q'Q, o'N, l'T, o'O, o'P, o'Q, l'U, o'R, o'S, j'r, l'V, s'p, j's, l'W, q'R, j't, h'Z, q'S, o'T, o'U, q'T, q'U, q'V, q'W, q'X, o'V, o'W, o'X, l'X, o'Y, l'Y, l'Z, q'Y, q'Z, r'a, o'Z, j'u, p'a, j'v, m'a, j'w, i'a, m'b, m'c, p'b, m'd, m'e, j'x, p'c, p'd, m'f, m'g, p'e, m'h, m'i, j'y, p'f, p'g, m'j, m'k, p'h, m'l, m'm, j'z, p'i, p'j, m'n, m'o, p'k, m'p, m'q, j'A, p'l, p'm, m'r, m's, p'n, m't, m'u, j'B, p'o, p'p, m'v, m'w, m'x, m'y, m'z, m'A, m'B, m'C, m'D, p'q, p'r, m'E, m'F, r'b, m'G, m'H, m'I, m'J, m'K, p's, s'r, m'L, r'm, r'n, r'E, r'F, r'G, r'H, r'I, p'I, p'J, pickT, Option.getD_some, p't, r'c, r'd, s'q, r'e, r'f, r'g, r'h, r'i, r'j, r'k, k'g, m'P, m'Q, p'T, p'U, r'L, m'O, s'v, s'w, s'x, p'P, s_l, s_f, s_d, s_t, s_o, p'Q, p'S, r'M, r'N, p'R, r'O, List.length_map, r'J, p'K, p'L, p'M, p'N, d'e, j'E, j'F, m'M, m'N, r'K, p'v, p'w, p'x, p'y, p'z, p'A, p'B, r'o, w_lt, s's, r'p, r'q, s't, r'r, r's, r't, r'u, r'v, r'w, p'C, p'D, p'E, r'x, r'y, r'z, p'F, p'G, r'A, r'B, r'C, p'H, r'D, at0, at1, at2, at3, at4, List.map_cons, List.map_nil, List.getElem?_cons_succ, List.getElem?_cons_zero, List.set_cons_zero, List.set_cons_succ, lends, frzs, dns, nols, nlts, Bool.and_self, if_true, if_false, ite_true, ite_false, true_and, and_true, List.cons_append, List.nil_append, List.replicate, Nat.reduceSub, List.length_cons, List.length_nil, Nat.reduceAdd, Nat.reduceLeDiff, V.int.injEq, decide_not, decide_true, decide_false, Bool.not_true, Bool.not_false, Bool.false_eq_true, Bool.true_eq_false, j'C, j'D, p'u, r'l, q'M, q'N, s'e, e_l, e_f, e_d, e_o, e_t, s'f, s'g, s'h, s'i, j'o, q'O, o'C, o'D, o'E, k'e, h'W, h'X, h'Y, o'F, o'G, j'p, s'j, s'k, l'O, l'P, Tr.int.injEq, reduceCtorEq])
theorem c'x (T:Tx K mg) {z:Bool}:FnOk P w K mg base CX0 1 T.a_greatest_divisor T.d_greatest_divisor ["one","other"] (spP K z 0 2 g_gd):=by
  refine a'z T.F_greatest_divisor sc_greatest_divisor rfl (by decide) fun cdv A outer s H E hr=>?_
  have hu:=a's hr
  refine⟨_,(a'd (g'G PassesOwn.never (a'l (b'P hr.units) a'Z (qv 1) a'b (by with_unfolding_all rfl)) (a'd (a'j (i:=2) sc_greatest_divisor.nd (by decide) rfl (Or.inl rfl) (a'p (qv 0) (qv 1)))
   (a'd (a'j (i:=0) sc_greatest_divisor.nd (by decide) rfl (Or.inl rfl) (qv 1))
   (a'f (a'j (i:=1) sc_greatest_divisor.nd (by decide) rfl (Or.inl rfl) (qv 2))))))
   (a'f (a'k (qv 0)))),?_⟩
  rintro xs Q' _ ⟨_,a,b,rfl,ha,hb,q⟩
  refine⟨fun m ρ=>∃ x y z,ρ=[.int x,.int y,z]∧0≤x∧0≤y∧gd x y=gd a b∧m=y.toNat,⟨_,a,b,.hole,rfl,ha,hb,rfl,rfl⟩,?_⟩
  rintro m ρ ⟨x,y,z,rfl,hx,hy,e,rfl⟩
  walk_at "p"
  by_cases h0:y=0
  · subst h0
    walk_at "p"
    rw [← e,f'P x hx] at q
    exact q _
  · rw [if_pos (by simp [h0])]
    refine⟨by omega,?_⟩
    refine⟨(x % y).toNat,?_,_,_,_,rfl,hy,Int.emod_nonneg _ h0,?_,rfl⟩
    · have:=Int.emod_lt_of_pos x (show 0<y by omega)
      have:=Int.emod_nonneg x h0
      omega
    · rw [h'o hx (by omega)];exact e
theorem d'P (T:Tx K mg) {z:Bool}:FnOk P w K mg base CX0 2 T.a_part T.d_part ["top","bottom"] (spP K z 0 2 g_part):=by
  refine a'z T.F_part sc_part rfl (by decide) fun cdv A outer s H E hr=>?_
  have hu:=a's hr
  refine⟨_,(a'd (a'A (a'l (a'Y hr.units) a'w (qv 1) a'b (by with_unfolding_all rfl)) (a'f l'p) a'r)
   (a'd (a'j (i:=2) sc_part.nd (by decide) rfl (Or.inl rfl) (a'g ((c'x T).mono (by decide)) (by first | exact id | exact fun _=>rfl) (fun _ _ h=>h.1) hr rfl T.m_greatest_divisor T.F_greatest_divisor.kp T.b_greatest_divisor (QA.frz (a'a (a'K b'M c'h rfl T.z_abs rfl (a'a (qv 0) a'c)) (a'a (a'K b'M c'h rfl T.z_abs rfl (a'a (qv 1) a'c)) a'c)))))
   (a'd (a'A (a'l d'b b'N (qv 1) a'b (by with_unfolding_all rfl)) (a'f (a'j (i:=2) sc_part.nd (by decide) rfl (Or.inl rfl) (c'l (qv 2)))) a'r)
   (a'f (a'k (a'q (a'a (a'M (qv 0) (qv 2)) (a'a (a'M (qv 1) (qv 2)) a'c)))))))),?_⟩
  rintro xs Q' _ ⟨_,a,b,rfl,hb,h2,q⟩
  walk_at "p"
  rw [if_neg (by simp [hb])]
  refine⟨rfl,_,_,rfl,by split<;>omega,by split<;>omega,fun ρ=>?_⟩
  rw [k'A]
  rw [k'd,← e'G hb,← e'H hb] at q
  unfold dv at q
  by_cases h:b<0
  · rw [if_pos h] at q
    rw [if_pos (decide_eq_true h)]
    walk_at "p"
    exact⟨e'Z hb h2,e'Z hb h2,q _⟩
  · rw [if_neg h] at q
    rw [if_neg (by simp [h])]
    walk_at "p"
    exact⟨c'Q hb h2,c'Q hb h2,q _⟩
theorem g'n (T:Tx K mg) {z:Bool}:FnOk P w K mg base CX0 3 T.a_plus T.d_plus ["one","other"] (spP K z 0 2 (g_two (·+·))):=by
  refine a'z T.F_plus m'U rfl (by decide) fun cdv A outer s H E hr=>?_
  have hu:=a's hr
  refine⟨_,(a'f (a'k (a'g ((d'P T).mono (by decide)) (by first | exact id | exact fun _=>rfl) (fun _ _ h=>h.1) hr rfl T.m_part T.F_part.kp T.b_part (QA.frz (a'a (b'a (a'H (a'e hu (qv 0) a'b (fun _ _=>rfl)) (a'e hu (qv 1) a'b (fun _ _=>rfl))) (a'H (a'e hu (qv 1) a'b (fun _ _=>rfl)) (a'e hu (qv 0) a'b (fun _ _=>rfl)))) (a'a (a'H (a'e hu (qv 0) a'b (fun _ _=>rfl)) (a'e hu (qv 1) a'b (fun _ _=>rfl))) a'c)))))),?_⟩
  rintro xs Q' _ ⟨_,a,b,rfl,h1,q⟩
  walk_at "p"
  refine⟨a'U (a'G a) (a't b) (by omega),a'U (a'G b) (a't a) (by omega),a'U (a't a) (a't b) (by omega),rfl,_,_,rfl,b'J a b,c'R a b h1,fun ρ=>?_⟩
  rw [← d'o]
  exact⟨e_o _,q _⟩
theorem f'm (T:Tx K mg) {z:Bool}:FnOk P w K mg base CX0 3 T.a_minus T.d_minus ["one","other"] (spP K z 0 2 (g_two (· - ·))):=by
  refine a'z T.F_minus j'G rfl (by decide) fun cdv A outer s H E hr=>?_
  have hu:=a's hr
  refine⟨_,(a'f (a'k (a'g ((d'P T).mono (by decide)) (by first | exact id | exact fun _=>rfl) (fun _ _ h=>h.1) hr rfl T.m_part T.F_part.kp T.b_part (QA.frz (a'a (b'Y (a'H (a'e hu (qv 0) a'b (fun _ _=>rfl)) (a'e hu (qv 1) a'b (fun _ _=>rfl))) (a'H (a'e hu (qv 1) a'b (fun _ _=>rfl)) (a'e hu (qv 0) a'b (fun _ _=>rfl)))) (a'a (a'H (a'e hu (qv 0) a'b (fun _ _=>rfl)) (a'e hu (qv 1) a'b (fun _ _=>rfl))) a'c)))))),?_⟩
  rintro xs Q' _ ⟨_,a,b,rfl,h1,q⟩
  walk_at "p"
  refine⟨a'U (a'G a) (a't b) (by omega),a'U (a'G b) (a't a) (by omega),a'U (a't a) (a't b) (by omega),rfl,_,_,rfl,b'J a b,c'R a b h1,fun ρ=>?_⟩
  rw [← d'p]
  exact⟨e_o _,q _⟩
theorem f'n (T:Tx K mg) {z:Bool}:FnOk P w K mg base CX0 3 T.a_times T.d_times ["one","other"] (spP K z 0 2 (g_two (·*·))):=by
  refine a'z T.F_times j'H rfl (by decide) fun cdv A outer s H E hr=>?_
  have hu:=a's hr
  refine⟨_,(a'f (a'k (a'g ((d'P T).mono (by decide)) (by first | exact id | exact fun _=>rfl) (fun _ _ h=>h.1) hr rfl T.m_part T.F_part.kp T.b_part (QA.frz (a'a (a'H (a'e hu (qv 0) a'b (fun _ _=>rfl)) (a'e hu (qv 1) a'b (fun _ _=>rfl))) (a'a (a'H (a'e hu (qv 0) a'b (fun _ _=>rfl)) (a'e hu (qv 1) a'b (fun _ _=>rfl))) a'c)))))),?_⟩
  rintro xs Q' _ ⟨_,a,b,rfl,h1,q⟩
  walk_at "p"
  refine⟨a'U (a'G a) (a'G b) (by omega),a'U (a't a) (a't b) (by omega),rfl,_,_,rfl,b'J a b,c'R a b h1,fun ρ=>?_⟩
  rw [← b'H]
  exact⟨e_o _,q _⟩

theorem b'A (T:Tx K mg) {z:Bool}:FnOk P w K mg base CX0 1 T.a_under T.d_under ["one","other"] (spP K z 0 2 g_under):=by
  refine a'z T.F_under j'I rfl (by decide) fun cdv A outer s H E hr=>?_
  have hu:=a's hr
  refine⟨_,(a'f (a'k (c'N d'b b'N (a'H (a'e hu (qv 0) a'b (fun _ _=>rfl)) (a'e hu (qv 1) a'b (fun _ _=>rfl))) (a'H (a'e hu (qv 1) a'b (fun _ _=>rfl)) (a'e hu (qv 0) a'b (fun _ _=>rfl))) (by with_unfolding_all rfl)))),?_⟩
  rintro xs Q' _ ⟨_,a,b,rfl,h1,q⟩
  walk_at "p"
  refine⟨a'U (a'G a) (a't b) (by omega),a'U (a'G b) (a't a) (by omega),?_⟩
  rw [decide_eq_decide.mpr (f'a a b)]
  exact q _
def g_weighed:PSp:=spec 2 fun xs Q=>∃ (f g:Fl) (ws ns:List Rat) (n:Nat),Fp f∧Fp g∧xs=[.lst f (ws.map Enc.t),.lst g (ns.map Enc.t)]∧(∀ p∈ws.zip ns,bs p.1+bs p.2≤n)∧(n+1)*(ws.zip ns).length+1≤7000∧n≤900∧(bs (wgtZ (ws.zip ns))≤(n+1)*(ws.zip ns).length+1→Q (Enc.t (wgtZ (ws.zip ns))))
theorem c's (T:Tx K mg) {z:Bool}:FnOk P w K mg base CX0 4 T.a_weighed T.d_weighed ["weights","numbers"] (spP K z 0 2 g_weighed):=by
  refine a'z T.F_weighed sc_weighed rfl (by decide) fun cdv A outer s H E hr=>?_
  have hu:=a's hr
  refine⟨_,(a'd (a'j (i:=2) sc_weighed.nd (by decide) rfl (Or.inl rfl) (c'p [0,1] rfl T.m_NOUGHT T.t_NOUGHT))
   (a'd (a'S PassesOwn.never rfl (g'J rfl T.z_zip (a'a (qv 0) (a'a (qv 1) a'c))) (b'l (n:=2) rfl (a'm (a'x (i:=3) sc_weighed.nd (by decide) rfl (Or.inl rfl)) (a'm (a'x (i:=4) sc_weighed.nd (by decide) rfl (Or.inl rfl)) a'L))) (a'f (a'j (i:=2) sc_weighed.nd (by decide) rfl (Or.inl rfl) (a'g ((g'n T).mono (by decide)) (by first | exact id | exact fun _=>rfl) (fun _ _ h=>h.1) hr rfl T.m_plus T.F_plus.kp T.b_plus (QA.frz (a'a (qv 2) (a'a (a'g ((f'n T).mono (by decide)) (by first | exact id | exact fun _=>rfl) (fun _ _ h=>h.1) hr rfl T.m_times T.F_times.kp T.b_times (QA.frz (a'a (qv 3) (a'a (qv 4) a'c)))) a'c)))))))
   (a'f (a'k (qv 2))))),?_⟩
  rintro xs Q' _ ⟨_,f,g,ws,ns,n,_,_,rfl,h1,h2,h3,q⟩
  walk_at "p"
  refine Loop.map _ _ (fun i ρ=>∃ (total:Rat) (a b:Tr),ρ=[.lst f (ws.map Enc.t),.lst g (ns.map Enc.t),Enc.t total,a,b]∧total=wgtZ ((ws.zip ns).take i)∧bs total≤(n+1)*i+1) ⟨0,.hole,.hole,rfl,rfl,by rw [Nat.mul_zero];decide +kernel⟩ ?_ ?_
  · rintro i ⟨x,y⟩ ρ hx ⟨total,a,b,rfl,e,hb⟩
    have m:=h1 _ (List.mem_of_getElem? hx)
    have l:=(List.getElem?_eq_some_iff.mp hx).1
    have u:(n+1)*(i+1)≤(n+1)*(ws.zip ns).length:=Nat.mul_le_mul_left _ l
    have u2:(n+1)*(i+1)=(n+1)*i+(n+1):=Nat.mul_succ _ _
    have b1:=a'Q x y
    have b2:=a'N total (x*y)
    dsimp only at m
    walk_at "p"
    refine⟨rfl,x,y,rfl,by omega,fun ρ=>?_⟩
    walk_at "p"
    refine⟨rfl,total,x*y,rfl,by omega,fun ρ=>?_⟩
    walk_at "p"
    exact⟨total+x*y,_,_,rfl,by rw [c'c hx,e],by omega⟩
  · rintro ρ ⟨total,a,b,rfl,e,hb⟩
    rw [List.take_length] at e
    subst e
    walk_at "p"
    exact q hb _
theorem q'b {rows:List RowE} {ps:List Rat} {u:Str} (h2:∀ q∈ps,bs q≤400) (h3:∀ r∈rows,∀ y,gtd r.1 u=some y→bs y≤10):∀ p∈ps.zip (rows.map fun r=>(gtd r.1 u).getD (0:Rat)),bs p.1+bs p.2≤410:=fun p m=>by
  have m1:=List.of_mem_zip m
  obtain⟨r,mr,e⟩:=List.mem_map.mp m1.2
  have a:=h2 _ m1.1
  have b:bs p.2≤10:=by
    rw [← e]
    cases g:gtd r.1 u with
    | none=>exact (by decide +kernel)
    | some y=>exact h3 r mr y g
  omega
def g_column:PSp:=spec 3 fun xs Q=>∃ (f g:Fl) (rows:List RowE) (ps:List Rat) (u:Str),Fp f∧Fp g∧xs=[.lst f (rows.map Enc.t),.lst g (ps.map Enc.t),.str u]∧rows.length≤11∧(∀ q∈ps,bs q≤400)∧(∀ r∈rows,∀ y,gtd r.1 u=some y→bs y≤10)∧(bs (colR rows ps u)≤4600→Q (Enc.t (colR rows ps u)))
theorem i'l (T:Tx K mg) {z:Bool}:FnOk P w K mg base CX0 5 T.a_column T.d_column ["rows","prices","unknown"] (spP K z 0 3 g_column):=by
  refine a'z T.F_column i'd rfl (by decide) fun cdv A outer s H E hr=>?_
  have hu:=a's hr
  refine⟨_,(a'f (a'k (a'g ((c's T).mono (by decide)) (by first | exact id | exact fun _=>rfl) (fun _ _ h=>h.1) hr rfl T.m_weighed T.F_weighed.kp T.b_weighed (QA.frz (a'a (qv 1) (a'a (b'R (N:=["one","unknown"]) (ix:=[none,some 2]) rfl (c'e (qv 0)) (c'o (i:=0) (by decide) rfl) (fun _ _ _ _ _=>b'o) (fun _ _ _ _ _=>(o'y hu (a'e hu (qv 0) a'b (fun _ _=>rfl)) (qv 1) (c'p [0,1] rfl T.m_NOUGHT T.t_NOUGHT) ⟨rfl,rfl,rfl,rfl⟩)) ⟨rfl,rfl,rfl,True.intro⟩) a'c)))))),?_⟩
  rintro xs Q' _ ⟨_,f,g,rows,ps,u,_,_,rfl,h1,h2,h3,q⟩
  walk_at "p"
  refine CLoop.map rows Enc.t (fun r=>(gtd r.1 u).getD (0:Rat)) (by omega) (fun r hr R hR=>?_) ?_
  · walk_at "p"
    exact hR
  · walk_at "p"
    have k:=q'b h2 h3
    refine⟨rfl,g,.f,ps,_,410,inferInstance,inferInstance,rfl,k,?_,by decide,fun hb ρ=>?_⟩
    · rw [List.length_zip,List.length_map];omega
    · exact⟨e_o _,q (Nat.le_trans hb (by rw [List.length_zip,List.length_map];omega)) _⟩
def g_counted:PSp:=spec 4 fun xs Q=>∃ (f g:Fl) (st:List (U32×Rat)) (sh:List Rat) (goal thing:U32),Fp f∧Fp g∧xs=[.lst f (st.map Enc.t),.lst g (sh.map Enc.t),Enc.t goal,Enc.t thing]∧st.length≤10∧(∀ s∈sh,bs s≤20)∧(bs (cntR st sh goal thing)≤300→Q (Enc.t (cntR st sh goal thing)))
theorem d'D (T:Tx K mg) {z:Bool}:FnOk P w K mg base CX0 4 T.a_counted T.d_counted ["settled","shares","goal","thing"] (spP K z 0 4 g_counted):=by
  refine a'z T.F_counted sc_counted rfl (by decide) fun cdv A outer s H E hr=>?_
  have hu:=a's hr
  refine⟨_,(a'd (a'j (i:=4) sc_counted.nd (by decide) rfl (Or.inl rfl) (q'E (a'l (a'Y hr.units) a'w (qv 3) (qv 2) (by with_unfolding_all rfl)) (a'q (a'a a'b (a'a a'b a'c))) (c'p [0,1] rfl T.m_NOUGHT T.t_NOUGHT)))
   (a'd (a'S PassesOwn.never rfl (g'J rfl T.z_zip (a'a (qv 0) (a'a (qv 1) a'c))) (b'l (n:=2) rfl (a'm (a'x (i:=5) sc_counted.nd (by decide) rfl (Or.inl rfl)) (a'm (a'x (i:=6) sc_counted.nd (by decide) rfl (Or.inl rfl)) a'L))) (a'f (a'A (a'l (a'Y hr.units) a'w (a'e hu (qv 5) a'b (fun _ _=>rfl)) (qv 3) (by with_unfolding_all rfl)) (a'f (a'j (i:=4) sc_counted.nd (by decide) rfl (Or.inl rfl) (a'g ((g'n T).mono (by decide)) (by first | exact id | exact fun _=>rfl) (fun _ _ h=>h.1) hr rfl T.m_plus T.F_plus.kp T.b_plus (QA.frz (a'a (qv 4) (a'a (qv 6) a'c)))))) a'r)))
   (a'f (a'k (qv 4))))),?_⟩
  rintro xs Q' _ ⟨_,f,g,st,sh,goal,thing,_,_,rfl,h1,h2,q⟩
  walk_at "p"
  have lz:(st.zip sh).length≤10:=by rw [List.length_zip];omega
  split<;>refine Loop.map _ _ (fun i ρ=>∃ (count:Rat) (a b:Tr),ρ=[.lst f (st.map Enc.t),.lst g (sh.map Enc.t),Enc.t goal,Enc.t thing,Enc.t count,a,b]∧count=(if thing=goal then 1 else 0)+cntZ thing ((st.zip sh).take i)∧bs count≤1+21*i) ⟨_,.hole,.hole,rfl,by simp_all [cntZ,Rat.add_zero,Rat.zero_add],by decide +kernel⟩ ?_ ?_
  all_goals first
    | (rintro i ⟨⟨x,v⟩,y⟩ ρ hx ⟨count,a,b,rfl,e,hb⟩
       have m:=h2 _ (List.of_mem_zip (List.mem_of_getElem? hx)).2
       have l:=(List.getElem?_eq_some_iff.mp hx).1
       have b2:=a'N count y
       walk_at "p"
       split
       · rename_i hh
         refine⟨rfl,count,y,rfl,by omega,fun ρ=>?_⟩
         walk_at "p"
         exact⟨count+y,_,_,rfl,by rw [g'j hx (of_decide_eq_true hh),e,Rat.add_assoc],by omega⟩
       · rename_i hh
         exact⟨count,_,_,rfl,by rw [i'f hx (of_decide_eq_false (by simpa using hh)),e],by omega⟩)
    | (rintro ρ ⟨count,a,b,rfl,e,hb⟩
       rw [List.take_length] at e
       have e:count=cntR st sh goal thing:=e
       subst e
       walk_at "p"
       exact q (by omega) _)
theorem b'T {a b:Rat} (h:bs a+bs b≤60000000) {Q:Tr→List Tr→Prop} (q:∀ ρ,Q (.bl (decide (a<b))) ρ):g_under [Enc.t a,Enc.t b] Q:=⟨rfl,a,b,rfl,h,q⟩
theorem s'B {a b:Rat} (h:bs a+bs b≤7990) {Q:Tr→List Tr→Prop} (q:∀ ρ,Q (Enc.t (a+b)) ρ):g_two (·+·) [Enc.t a,Enc.t b] Q:=⟨rfl,a,b,rfl,h,q⟩
theorem f'o {a b:Rat} (h:bs a+bs b≤7990) {Q:Tr→List Tr→Prop} (q:∀ ρ,Q (Enc.t (a - b)) ρ):g_two (· - ·) [Enc.t a,Enc.t b] Q:=⟨rfl,a,b,rfl,h,q⟩
theorem b'n {a b:Rat} (h:bs a+bs b≤7990) {Q:Tr→List Tr→Prop} (q:∀ ρ,Q (Enc.t (a*b)) ρ):g_two (·*·) [Enc.t a,Enc.t b] Q:=⟨rfl,a,b,rfl,h,q⟩
def g_signs:PSp:=spec 2 fun xs Q=>∃ (f g:Fl) (rows:List RowE) (ps:List Rat),Fp f∧Fp g∧xs=[.lst f (rows.map Enc.t),.lst g (ps.map Enc.t)]∧(∀ q∈ps,bs q≤400)∧Q (.bl ((rows.zip ps).all signB))
theorem e'p (T:Tx K mg) {z:Bool}:FnOk P w K mg base CX0 2 T.a_signs_good T.d_signs_good ["rows","prices"] (spP K z 0 2 g_signs):=by
  refine a'z T.F_signs_good sc_signs_good rfl (by decide) fun cdv A outer s H E hr=>?_
  have hu:=a's hr
  refine⟨_,(a'd (a'S PassesOwn.never rfl (g'J rfl T.z_zip (a'a (qv 0) (a'a (qv 1) a'c))) (b'l (n:=2) rfl (a'm (a'x (i:=2) sc_signs_good.nd (by decide) rfl (Or.inl rfl)) (a'm (a'x (i:=3) sc_signs_good.nd (by decide) rfl (Or.inl rfl)) a'L))) (a'd (a'A (QW.t (b'g (a'l (a'Y hr.units) a'w (a'e hu (qv 2) a'b (fun _ _=>rfl)) a'D (by with_unfolding_all rfl)) (b'f (b'u (a'g ((b'A T).mono (by decide)) (by first | exact id | exact fun _=>rfl) (fun _ _ h=>h.1) hr rfl T.m_under T.F_under.kp T.b_under (QA.frz (a'a (qv 3) (a'a (c'p [0,1] rfl T.m_NOUGHT T.t_NOUGHT) a'c)))))))) (a'f (a'k b'j)) a'r)
   (a'f (a'A (QW.t (b'g (a'l (a'Y hr.units) a'w (a'e hu (qv 2) a'b (fun _ _=>rfl)) a'D (by with_unfolding_all rfl)) (b'f (b'u (a'g ((b'A T).mono (by decide)) (by first | exact id | exact fun _=>rfl) (fun _ _ h=>h.1) hr rfl T.m_under T.F_under.kp T.b_under (QA.frz (a'a (c'p [0,1] rfl T.m_NOUGHT T.t_NOUGHT) (a'a (qv 3) a'c)))))))) (a'f (a'k b'j)) a'r))))
   (a'f (a'k b'j))),?_⟩
  rintro xs Q' _ ⟨_,f,g,rows,ps,_,_,rfl,h2,q⟩
  walk_at "p"
  refine Loop.map _ _ (fun i ρ=>∃ (a b:Tr),ρ=[.lst f (rows.map Enc.t),.lst g (ps.map Enc.t),a,b]∧((rows.zip ps).take i).all signB=true) ⟨.hole,.hole,rfl,rfl⟩ ?_ ?_
  · rintro i ⟨r,y⟩ ρ hx ⟨a,b,rfl,e⟩
    have m:=h2 _ (List.of_mem_zip (List.mem_of_getElem? hx)).2
    have b0:=f'V
    walk_at "p"
    have q0:signB (r,y)=false→Q' (.bl false) [.lst f (rows.map Enc.t),.lst g (ps.map Enc.t),Enc.t r,Enc.t y]:=fun h=>by
      rw [d'y hx h] at q
      exact q _
    have q1:signB (r,y)=true→((rows.zip ps).take (i+1)).all signB=true:=fun h=>b'K hx h e
    unfold signB at q0 q1
    repeat' first
      | (refine b'T (by omega) fun ρ=>?_
         walk_at "p")
      | split
    all_goals first
      | exact q0 (by simp_all)
      | exact⟨_,_,rfl,q1 (by simp_all)⟩
  · rintro ρ ⟨a,b,rfl,e⟩
    rw [List.take_length] at e
    rw [e] at q
    walk_at "p"
    exact q _
def paperT (a b:Fl) (pr sh:List Rat):Tr:=.tup [.lst a (pr.map Enc.t),.lst b (sh.map Enc.t)]
def g_holds:PSp:=spec 5 fun xs Q=>∃ (f g h a b:Fl) (rows:List RowE) (un:List Str) (st:List (U32×Rat)) (goal:U32) (pr sh:List Rat),Fp f∧Fp g∧Fp h∧Fp a∧Fp b∧xs=[.lst f (rows.map Enc.t),.lst g (un.map Enc.t),.lst h (st.map Enc.t),Enc.t goal,.tup [.lst a (pr.map Enc.t),.lst b (sh.map Enc.t)]]∧Ok92 rows st pr sh∧un.length≤5∧Q (.bl (holdsB rows un st goal pr sh))
theorem j'O (T:Tx K mg) {z:Bool}:FnOk P w K mg base CX0 6 T.a_holds T.d_holds ["rows","unknowns","settled","goal","paper"] (spP K z 0 5 g_holds):=by
  refine a'z T.F_holds sc_holds rfl (by decide) fun cdv A outer s H E hr=>?_
  have hu:=a's hr
  refine⟨_,(a'd (a'j (i:=5) sc_holds.nd (by decide) rfl (Or.inl rfl) (a'e hu (qv 4) a'b (fun _ _=>rfl)))
   (a'd (a'j (i:=6) sc_holds.nd (by decide) rfl (Or.inl rfl) (a'e hu (qv 4) a'b (fun _ _=>rfl)))
   (a'd (a'A (QW.t (c'm (a'l (b'P hr.units) a'Z (a'K a'T a'B rfl T.z_len rfl (a'a (qv 5) a'c)) (a'K a'T a'B rfl T.z_len rfl (a'a (qv 0) a'c)) (by with_unfolding_all rfl)) (c'i (a'l (b'P hr.units) a'Z (a'K a'T a'B rfl T.z_len rfl (a'a (qv 6) a'c)) (a'K a'T a'B rfl T.z_len rfl (a'a (qv 2) a'c)) (by with_unfolding_all rfl))))) (a'f (a'k b'j)) a'r)
   (a'd (a'A (QW.t (c'm (b'u (a'K (h'y rfl) l'M rfl T.z_any rfl (a'a (b'R (N:=["share"]) (ix:=[none]) rfl (c'e (qv 6)) (c'o (i:=0) (by decide) rfl) (fun _ _ _ _ _=>b'o) (fun _ _ _ _ _=>(a'g ((b'A T).mono (by decide)) (by first | exact id | exact fun _=>rfl) (fun _ _ h=>h.1) hr rfl T.m_under T.F_under.kp T.b_under (QA.frz (a'a (qv 0) (a'a (c'p [0,1] rfl T.m_NOUGHT T.t_NOUGHT) a'c))))) True.intro) a'c))) (c'i (g'F (b'u (a'g ((e'p T).mono (by decide)) (by first | exact id | exact fun _=>rfl) (fun _ _ h=>h.1) hr rfl T.m_signs_good T.F_signs_good.kp T.b_signs_good (QA.frz (a'a (qv 0) (a'a (qv 5) a'c))))))))) (a'f (a'k b'j)) a'r)
   (a'd (a'S PassesOwn.never rfl (g'J rfl T.z_zip (a'a (qv 0) (a'a (qv 5) a'c))) (b'l (n:=2) rfl (a'm (a'x (i:=7) sc_holds.nd (by decide) rfl (Or.inl rfl)) (a'm (a'x (i:=8) sc_holds.nd (by decide) rfl (Or.inl rfl)) a'L))) (a'd (a'j (i:=9) sc_holds.nd (by decide) rfl (Or.inl rfl) (a'g ((f'n T).mono (by decide)) (by first | exact id | exact fun _=>rfl) (fun _ _ h=>h.1) hr rfl T.m_times T.F_times.kp T.b_times (QA.frz (a'a (a'q (a'a (a'e hu (qv 7) a'b (fun _ _=>rfl)) (a'a a'b a'c))) (a'a (a'g ((d'D T).mono (by decide)) (by first | exact id | exact fun _=>rfl) (fun _ _ h=>h.1) hr rfl T.m_counted T.F_counted.kp T.b_counted (QA.frz (a'a (qv 2) (a'a (qv 6) (a'a (qv 3) (a'a (a'e hu (qv 7) a'b (fun _ _=>rfl)) a'c)))))) a'c)))))
   (a'f (a'A (QW.t (b'g (a'l (b'P hr.units) a'Z (a'e hu (qv 7) a'b (fun _ _=>rfl)) (s'c rfl T.m_MUST) (by with_unfolding_all rfl)) (b'f (QW.t (c'm (b'u (a'g ((b'A T).mono (by decide)) (by first | exact id | exact fun _=>rfl) (fun _ _ h=>h.1) hr rfl T.m_under T.F_under.kp T.b_under (QA.frz (a'a (qv 9) (a'a (qv 8) a'c))))) (c'i (b'u (a'g ((b'A T).mono (by decide)) (by first | exact id | exact fun _=>rfl) (fun _ _ h=>h.1) hr rfl T.m_under T.F_under.kp T.b_under (QA.frz (a'a (qv 8) (a'a (a'g ((f'm T).mono (by decide)) (by first | exact id | exact fun _=>rfl) (fun _ _ h=>h.1) hr rfl T.m_minus T.F_minus.kp T.b_minus (QA.frz (a'a (c'p [0,1] rfl T.m_NOUGHT T.t_NOUGHT) (a'a (qv 9) a'c)))) a'c))))))))))) (a'f (a'k b'j)) a'r))))
   (a'd (a'S PassesOwn.never rfl (c'e (qv 1)) (a'x (i:=10) sc_holds.nd (by decide) rfl (Or.inl rfl)) (a'f (a'A (b'u (a'g ((b'A T).mono (by decide)) (by first | exact id | exact fun _=>rfl) (fun _ _ h=>h.1) hr rfl T.m_under T.F_under.kp T.b_under (QA.frz (a'a (a'g ((d'D T).mono (by decide)) (by first | exact id | exact fun _=>rfl) (fun _ _ h=>h.1) hr rfl T.m_counted T.F_counted.kp T.b_counted (QA.frz (a'a (qv 2) (a'a (qv 6) (a'a (qv 3) (a'a (qv 10) a'c)))))) (a'a (a'g ((i'l T).mono (by decide)) (by first | exact id | exact fun _=>rfl) (fun _ _ h=>h.1) hr rfl T.m_column T.F_column.kp T.b_column (QA.frz (a'a (qv 0) (a'a (qv 5) (a'a (qv 10) a'c))))) a'c))))) (a'f (a'k b'j)) a'r)))
   (a'f (a'k b'j)))))))),?_⟩
  rintro xs Q' _ ⟨_,f,g,h,a,b,rows,un,st,goal,pr,sh,_,_,_,_,_,rfl,o,h2,q⟩
  walk_at "p"
  split
  · rename_i e1
    rw [← d'z (by simpa using e1)] at q
    exact q _
  split
  · rename_i e1
    rw [← d'A (by simpa using e1)] at q
    exact q _
  rename_i e1 e2
  have b0:=f'V
  refine CLoop.map sh Enc.t (fun s=>decide (s<0)) (by have:=o.l4;omega) (fun s hs R hR=>?_) ?_
  · have:=o.s s hs
    walk_at "p"
    exact b'T (by omega) fun _=>hR
  refine⟨_,rfl,?_⟩
  walk_at "p"
  split
  · rename_i e3
    rw [← e'h e3] at q
    exact q _
  rename_i e3
  refine⟨rfl,f,a,rows,pr,inferInstance,inferInstance,rfl,o.p,fun ρ=>?_⟩
  walk_at "p"
  split
  · rename_i e4
    rw [← d'B (by rw [Bool.not_eq_true'] at e4;exact e4)] at q
    exact q _
  rename_i e4
  refine Loop.map _ _ (fun i ρ=>∃ x y z:Tr,ρ=[.lst f (rows.map Enc.t),.lst g (un.map Enc.t),.lst h (st.map Enc.t),Enc.t goal,.tup [.lst a (pr.map Enc.t),.lst b (sh.map Enc.t)],.lst a (pr.map Enc.t),.lst b (sh.map Enc.t),x,y,z,.hole]∧((rows.zip pr).take i).all (roomB st sh goal)=true) ⟨.hole,.hole,.hole,rfl,rfl⟩ ?_ ?_
  · rintro i ⟨r,y⟩ ρ hx ⟨x1,x2,x3,rfl,e⟩
    have mz:=List.of_mem_zip (List.mem_of_getElem? hx)
    have u1:=o.p _ mz.2
    have u2:=o.r2 _ mz.1
    have u3:=b'e (n:=r.2.2.2.2) (k:=20) (by omega) (by decide)
    walk_at "p"
    refine⟨rfl,h,b,st,sh,goal,.inl r.2.2.2.1,inferInstance,inferInstance,rfl,by have:=o.l3;omega,o.s,fun hb ρ=>?_⟩
    walk_at "p"
    have u4:=a'Q ((r.2.2.2.2:Int):Rat) (cntR st sh goal (.inl r.2.2.2.1))
    refine b'n (a:=((r.2.2.2.2:Int):Rat)) (by omega) fun ρ=>?_
    have u5:=c'C 0 (((r.2.2.2.2:Int):Rat)*cntR st sh goal (.inl r.2.2.2.1))
    walk_at "p"
    have q0:roomB st sh goal (r,y)=false→∀ ρ,Q' (.bl false) ρ:=fun h=>by
      rw [← d'C hx h] at q
      exact q
    have q1:roomB st sh goal (r,y)=true→((rows.zip pr).take (i+1)).all (roomB st sh goal)=true:=fun h=>b'K hx h e
    split
    · rename_i c1
      have c1:¬ r.2.2.2.1=0:=by simpa using c1
      refine b'T (by omega) fun ρ=>?_
      walk_at "p"
      split
      · rename_i c2
        exact q0 (j'J c1 (of_decide_eq_true c2)) _
      · rename_i c2
        refine f'o (by omega) fun ρ=>?_
        walk_at "p"
        refine b'T (by omega) fun ρ=>?_
        walk_at "p"
        split
        · rename_i c3
          exact q0 (j'K c1 (of_decide_eq_true c3)) _
        · rename_i c3
          exact⟨_,_,_,rfl,q1 (i'g (fun z=>c2 (decide_eq_true z)) (fun z=>c3 (decide_eq_true z)))⟩
    · rename_i c1
      exact⟨_,_,_,rfl,q1 (e'k (by simpa using c1))⟩
  · rintro ρ ⟨x1,x2,x3,rfl,e5⟩
    rw [List.take_length] at e5
    walk_at "p"
    refine Loop.map _ _ (fun i ρ=>∃ x:Tr,ρ=[.lst f (rows.map Enc.t),.lst g (un.map Enc.t),.lst h (st.map Enc.t),Enc.t goal,.tup [.lst a (pr.map Enc.t),.lst b (sh.map Enc.t)],.lst a (pr.map Enc.t),.lst b (sh.map Enc.t),x1,x2,x3,x]∧(un.take i).all (colB rows pr st sh goal)=true) ⟨.hole,rfl,rfl⟩ ?_ ?_
    · rintro i u ρ hx ⟨x,rfl,e⟩
      walk_at "p"
      refine⟨rfl,h,b,st,sh,goal,.inr u,inferInstance,inferInstance,rfl,by have:=o.l3;omega,o.s,fun hb ρ=>?_⟩
      refine⟨rfl,f,a,rows,pr,u,inferInstance,inferInstance,rfl,by have:=o.l1;omega,o.p,fun r m y=>o.r3 r m u y,fun hc ρ=>?_⟩
      walk_at "p"
      refine b'T (by omega) fun ρ=>?_
      walk_at "p"
      split
      · rename_i hd
        rw [← e'i hx (by unfold colB;rw [hd];rfl)] at q
        exact q _
      · rename_i hd
        exact⟨_,rfl,b'K hx (by unfold colB;rw [Bool.not_eq_true] at hd;rw [hd];rfl) e⟩
    · rintro ρ ⟨x,rfl,e6⟩
      rw [List.take_length] at e6
      walk_at "p"
      rw [← e'j (by simpa using e1) (by simpa using e2) (by simpa using e3) (by simpa using e4) e5 e6] at q
      exact q _
def g_bound (C:Addr):PSpX:=fun xs Q q=>xs.length=5∧∃ (f g h a b:Fl) (rows:List RowE) (un:List Str) (st:List (U32×Rat)) (goal:U32) (pr sh:List Rat),Fp f∧Fp g∧Fp h∧Fp a∧Fp b∧xs=[.lst f (rows.map Enc.t),.lst g (un.map Enc.t),.lst h (st.map Enc.t),Enc.t goal,.tup [.lst a (pr.map Enc.t),.lst b (sh.map Enc.t)]]∧Ok92 rows st pr sh∧un.length≤5∧(holdsB rows un st goal pr sh=true→∀ ρ,Q (Enc.t (bndR rows st pr sh)) ρ)∧(holdsB rows un st goal pr sh=false→q (.ref C))
theorem j'P (T:Tx K mg) {z:Bool}:FnOk P w K mg base (CX1 P w) 7 T.a_bound T.d_bound ["rows","unknowns","settled","goal","paper"] (spX K z 0 5 (g_bound T.c_NoPaper)):=by
  refine q'F T.F_bound sc_bound rfl (by decide) fun cdv A outer s H E qx hr=>?_
  have hu:=a's hr
  refine⟨_,(a'd (a'A (g'F (b'u (a'g ((j'O T).mono (by decide)) (by first | exact id | exact fun _=>rfl) (fun _ _ h=>h.1) hr rfl T.m_holds T.F_holds.kp T.b_holds (QA.frz (a'a (qv 0) (a'a (qv 1) (a'a (qv 2) (a'a (qv 3) (a'a (qv 4) a'c))))))))) (a'f (l'J rfl rfl rfl rfl rfl rfl T.m_NoPaper PySem.F.excBase_ValueError T.q_NoPaper a'D)) a'r)
   (a'd (a'j (i:=5) sc_bound.nd (by decide) rfl (Or.inl rfl) (a'g ((c's T).mono (by decide)) (by first | exact id | exact fun _=>rfl) (fun _ _ h=>h.1) hr rfl T.m_weighed T.F_weighed.kp T.b_weighed (QA.frz (a'a (a'e hu (qv 4) a'b (fun _ _=>rfl)) (a'a (b'R (N:=["one"]) (ix:=[none]) rfl (c'e (qv 0)) (c'o (i:=0) (by decide) rfl) (fun _ _ _ _ _=>b'o) (fun _ _ _ _ _=>(a'e hu (qv 0) a'b (fun _ _=>rfl))) True.intro) a'c)))))
   (a'f (a'k (a'g ((f'm T).mono (by decide)) (by first | exact id | exact fun _=>rfl) (fun _ _ h=>h.1) hr rfl T.m_minus T.F_minus.kp T.b_minus (QA.frz (a'a (qv 5) (a'a (a'g ((c's T).mono (by decide)) (by first | exact id | exact fun _=>rfl) (fun _ _ h=>h.1) hr rfl T.m_weighed T.F_weighed.kp T.b_weighed (QA.frz (a'a (a'e hu (qv 4) a'b (fun _ _=>rfl)) (a'a (b'R (N:=["pair"]) (ix:=[none]) rfl (c'e (qv 2)) (c'o (i:=0) (by decide) rfl) (fun _ _ _ _ _=>b'o) (fun _ _ _ _ _=>(a'e hu (qv 0) a'b (fun _ _=>rfl))) True.intro) a'c)))) a'c)))))))),?_⟩
  rintro xs Q' _ ⟨_,f,g,h,a,b,rows,un,st,goal,pr,sh,_,_,_,_,_,rfl,o,h2,q,q'⟩
  walk_at "p"
  refine⟨rfl,f,g,h,a,b,rows,un,st,goal,pr,sh,inferInstance,inferInstance,inferInstance,inferInstance,inferInstance,rfl,o,h2,fun ρ=>?_⟩
  walk_at "p"
  split
  · rename_i c
    exact q' (by simpa using c)
  · rename_i c
    refine CLoop.map rows Enc.t (fun r=>r.2.2.1) (by have:=o.l1;omega) (fun r hr R hR=>?_) ?_
    · walk_at "p"
      exact hR
    · walk_at "p"
      refine⟨rfl,a,.f,pr,_,510,inferInstance,inferInstance,rfl,fun p m=>?_,?_,by decide,fun hb ρ=>?_⟩
      · have m1:=List.of_mem_zip m
        obtain⟨r,mr,e⟩:=List.mem_map.mp m1.2
        have:=o.p _ m1.1
        have:=o.r1 _ mr
        rw [← e]
        omega
      · rw [List.length_zip,List.length_map]
        have:=o.l1
        omega
      · walk_at "p"
        refine CLoop.map st Enc.t (fun r=>r.2) (by have:=o.l3;omega) (fun r hr R hR=>?_) ?_
        · walk_at "p"
          exact hR
        · walk_at "p"
          refine⟨rfl,b,.f,sh,_,690,inferInstance,inferInstance,rfl,fun p m=>?_,?_,by decide,fun hc ρ=>?_⟩
          · have m1:=List.of_mem_zip m
            obtain⟨r,mr,e⟩:=List.mem_map.mp m1.2
            have:=o.s _ m1.1
            have:=o.t _ mr
            rw [← e]
            omega
          · rw [List.length_zip,List.length_map]
            have:=o.l3
            omega
          · rw [List.length_zip,List.length_map] at hb hc
            have:=o.l1
            have:=o.l3
            walk_at "p"
            refine f'o (by omega) fun ρ=>?_
            walk_at "p"
            exact q (by simpa using c) _
def g_cell_at:PSp:=spec 2 fun xs Q=>∃ (f:Fl) (script:List Int) (k:Int),Fp f∧xs=[.lst f (script.map Enc.t),.int k]∧0≤k∧∀ c:Int,Q (.int c)
theorem b'B (T:Tx K mg) {z:Bool}:FnOk P w K mg base CX0 1 T.a_law_cell_at T.d_law_cell_at ["_law_script","_law_k"] (spP K z 0 2 g_cell_at):=by
  refine a'z T.F_law_cell_at d'O rfl (by decide) fun cdv A outer s H E hr=>?_
  have hu:=a's hr
  refine⟨_,(a'd (a'A (a'l d'b b'N (qv 1) (a'K a'T a'B rfl T.z_len rfl (a'a (qv 0) a'c)) (by with_unfolding_all rfl)) (a'f (a'k (a'e hu (qv 0) (qv 1) (fun _ _=>rfl)))) a'r)
   (a'f (a'k a'b))),?_⟩
  rintro xs Q' _ ⟨_,f,script,k,_,rfl,h0,q⟩
  walk_at "p"
  split
  · rename_i c
    exact b'w _ _ _ (a'V script h0 (by have:=of_decide_eq_true c;omega)) ⟨e_o _,q _ _⟩
  · exact q _ _
def g_lowest:PSp:=spec 2 fun xs Q=>∃ a b:Int,xs=[.int a,.int b]∧0<b∧bi b≤7990∧Q (Enc.t (Rat.divInt a b))
theorem a'J (T:Tx K mg) {z:Bool}:FnOk P w K mg base CX0 1 T.a_law_lowest T.d_law_lowest ["_law_top","_law_bottom"] (spP K z 0 2 g_lowest):=by
  refine a'z T.F_law_lowest sc_law_lowest rfl (by decide) fun cdv A outer s H E hr=>?_
  have hu:=a's hr
  refine⟨_,(a'd (a'j (i:=2) sc_law_lowest.nd (by decide) rfl (Or.inl rfl) (a'K b'M c'h rfl T.z_abs rfl (a'a (qv 0) a'c)))
   (a'd (a'j (i:=3) sc_law_lowest.nd (by decide) rfl (Or.inl rfl) (qv 1))
   (a'd (g'G PassesOwn.never (a'l (b'P hr.units) a'Z (qv 3) a'b (by with_unfolding_all rfl)) (a'f (q'H (i:=2) (j:=3) rfl sc_law_lowest.nd (by decide) (by decide) rfl rfl (by decide) rfl rfl (a'a (qv 3) (a'a (a'p (qv 2) (qv 3)) a'c)) rfl)))
   (a'f (a'k (a'q (a'a (a'M (qv 0) (qv 2)) (a'a (a'M (qv 1) (qv 2)) a'c)))))))),?_⟩
  rintro xs Q' _ ⟨_,a,b,rfl,hb,h2,q⟩
  rw [k'd,← e'G (by omega),← e'H (by omega)] at q
  unfold dv at q
  rw [if_neg (by omega)] at q
  walk_at "p"
  refine⟨fun m ρ=>∃ x y,ρ=[.int a,.int b,.int x,.int y]∧0≤x∧0≤y∧gd x y=gd a b∧m=y.toNat,⟨_,_,b,rfl,by split<;>omega,by omega,by rw [e'E];conv=>rhs;rw [← h'p,Int.natAbs_of_nonneg (a:=b) (by omega)],rfl⟩,?_⟩
  rintro m ρ ⟨x,y,rfl,hx,hy,e,rfl⟩
  walk_at "p"
  by_cases h0:y=0
  · subst h0
    rw [f'P x hx] at e
    subst e
    walk_at "p"
    exact⟨c'Q (by omega) h2,c'Q (by omega) h2,q _⟩
  · rw [if_pos (by simp [h0])]
    refine⟨by omega,(x % y).toNat,?_,_,_,rfl,hy,Int.emod_nonneg _ h0,?_,rfl⟩
    · have:=Int.emod_lt_of_pos x (show 0<y by omega)
      have:=Int.emod_nonneg x h0
      omega
    · rw [h'o hx (by omega)];exact e
theorem s'C (f a b:Rat):Rat.divInt (f.num*(a.den:Int)*(b.den:Int)+a.num*b.num*(f.den:Int)) ((f.den:Int)*(a.den:Int)*(b.den:Int))=f+a*b:=by
  have hf:(f.den:Int)≠0:=by have:=den_pos f;omega
  have ha:(a.den:Int)≠0:=by have:=den_pos a;omega
  have hb:(b.den:Int)≠0:=by have:=den_pos b;omega
  conv=>rhs;rw [← Rat.num_divInt_den f,← Rat.num_divInt_den a,← Rat.num_divInt_den b]
  rw [Rat.divInt_mul_divInt,Rat.divInt_add_divInt _ _ hf (Int.mul_ne_zero ha hb),Int.mul_assoc f.num,Int.mul_assoc (f.den:Int)]
theorem f'F (a:Rat) (n p d:Int) (hd:d≠0):a+(n:Rat)*Rat.divInt p d=Rat.divInt (a.num*d+n*p*a.den) (a.den*d):=by
  have ha:(a.den:Int)≠0:=by have:=den_pos a;omega
  conv=>lhs;rw [← Rat.num_divInt_den a,← Rat.num_divInt_den (n:Rat)]
  rw [Rat.num_intCast,Rat.den_intCast,Rat.divInt_mul_divInt,Int.natCast_one,Int.one_mul,Rat.divInt_add_divInt _ _ ha hd]
def g_more:PSp:=spec 3 fun xs Q=>∃ (a:Rat) (n p d:Int),xs=[Enc.t a,.int n,.tup [.int p,.int d]]∧0<d∧bs a+bi d≤7990∧bi p≤10000∧bi n≤60∧Q (Enc.t (a+n*Rat.divInt p d))
theorem a'u (T:Tx K mg) {z:Bool}:FnOk P w K mg base CX0 2 T.a_law_more T.d_law_more ["_law_one","_law_many","_law_other"] (spP K z 0 3 g_more):=by
  refine a'z T.F_law_more f'E rfl (by decide) fun cdv A outer s H E hr=>?_
  have hu:=a's hr
  refine⟨_,(a'f (a'k (a'g ((a'J T).mono (by decide)) (by first | exact id | exact fun _=>rfl) (fun _ _ h=>h.1) hr rfl T.m_law_lowest T.F_law_lowest.kp T.b_law_lowest (QA.frz (a'a (b'a (a'H (a'e hu (qv 0) a'b (fun _ _=>rfl)) (a'e hu (qv 2) a'b (fun _ _=>rfl))) (a'H (a'H (qv 1) (a'e hu (qv 2) a'b (fun _ _=>rfl))) (a'e hu (qv 0) a'b (fun _ _=>rfl)))) (a'a (a'H (a'e hu (qv 0) a'b (fun _ _=>rfl)) (a'e hu (qv 2) a'b (fun _ _=>rfl))) a'c)))))),?_⟩
  rintro xs Q' _ ⟨_,a,n,p,d,rfl,hd,h1,h2,h3,q⟩
  have u1:=e'J n p
  have u2:=a'G a
  have u3:=a't a
  have u4:=e'J (a.den:Int) d
  walk_at "p"
  refine⟨c'J (by omega) (by omega),c'J (by omega) (by omega),c'J (by omega) (by omega),c'J (by omega) (by omega),rfl,_,_,rfl,Int.mul_pos (den_pos a) hd,by omega,fun ρ=>?_⟩
  rw [← f'F _ _ _ _ (by omega)]
  exact⟨e_o _,q _⟩
theorem b'E (T:Tx K mg) {z:Bool}:FnOk P w K mg base CX0 2 T.a_law_by T.d_law_by ["_law_one","_law_other"] (spP K z 0 2 (g_two (·*·))):=by
  refine a'z T.F_law_by i'e rfl (by decide) fun cdv A outer s H E hr=>?_
  have hu:=a's hr
  refine⟨_,(a'f (a'k (a'g ((a'J T).mono (by decide)) (by first | exact id | exact fun _=>rfl) (fun _ _ h=>h.1) hr rfl T.m_law_lowest T.F_law_lowest.kp T.b_law_lowest (QA.frz (a'a (a'H (a'e hu (qv 0) a'b (fun _ _=>rfl)) (a'e hu (qv 1) a'b (fun _ _=>rfl))) (a'a (a'H (a'e hu (qv 0) a'b (fun _ _=>rfl)) (a'e hu (qv 1) a'b (fun _ _=>rfl))) a'c)))))),?_⟩
  rintro xs Q' _ ⟨_,a,b,rfl,h1,q⟩
  walk_at "p"
  refine⟨a'U (a'G a) (a'G b) (by omega),a'U (a't a) (a't b) (by omega),rfl,_,_,rfl,Int.mul_pos (den_pos a) (den_pos b),c'R a b h1,fun ρ=>?_⟩
  rw [← b'H]
  exact⟨e_o _,q _⟩
def g_above:PSp:=spec 2 fun xs Q=>∃ a b:Rat,xs=[Enc.t a,Enc.t b]∧bs a+bs b≤60000000∧Q (.bl (decide (b<a)))
theorem b'U (T:Tx K mg) {z:Bool}:FnOk P w K mg base CX0 1 T.a_law_above T.d_law_above ["_law_one","_law_other"] (spP K z 0 2 g_above):=by
  refine a'z T.F_law_above f'f rfl (by decide) fun cdv A outer s H E hr=>?_
  have hu:=a's hr
  refine⟨_,(a'f (a'k (c'N d'K c'g (a'H (a'e hu (qv 0) a'b (fun _ _=>rfl)) (a'e hu (qv 1) a'b (fun _ _=>rfl))) (a'H (a'e hu (qv 1) a'b (fun _ _=>rfl)) (a'e hu (qv 0) a'b (fun _ _=>rfl))) (by with_unfolding_all rfl)))),?_⟩
  rintro xs Q' _ ⟨_,a,b,rfl,h1,q⟩
  walk_at "p"
  refine⟨a'U (a'G a) (a't b) (by omega),a'U (a'G b) (a't a) (by omega),?_⟩
  rw [decide_eq_decide.mpr (f'a b a)]
  exact q _
@[reducible] def InR (ys:List Int):Prop:=∀ y∈ys,0≤y∧y<2147483647
theorem InR.snoc {ys:List Int} {y:Int} (h:InR ys) (h0:0≤y) (h1:y<2147483647):InR (ys++[y]):=fun z m=>(List.mem_append.mp m).elim (h z) fun m=>by rw [List.mem_singleton.mp m];exact⟨h0,h1⟩
theorem a'v {j:Int} (h:j.natAbs<2 ^ 100):j.natAbs<2 ^ 8000:=Nat.lt_of_lt_of_le h (Nat.pow_le_pow_right (by decide) (by omega))
def g_stream:PSp:=spec 2 fun xs Q=>∃ (cell:Int) (n:Nat),xs=[.int cell,.int n]∧n≤100∧∀ ys:List Int,ys.length=n→InR ys→Q (.lst .o (ys.map Enc.t))
theorem b'F (T:Tx K mg) {z:Bool}:FnOk P w K mg base CX0 1 T.a_law_stream T.d_law_stream ["_law_cell","_law_many"] (spP K z 0 2 g_stream):=by
  refine a'z T.F_law_stream sc_law_stream rfl (by decide) fun cdv A outer s H E hr=>?_
  have hu:=a's hr
  refine⟨_,(a'd (b'Z (i:=2) sc_law_stream.nd (by decide) rfl (Or.inl rfl) (a'X a'c))
   (a'd (a'j (i:=3) sc_law_stream.nd (by decide) rfl (Or.inl rfl) (a'M (qv 0) a'b))
   (a'd (g'G PassesOwn.never (QW.t (b'g (a'l (a'Y hr.units) a'w (a'p (qv 0) a'b) a'b (by with_unfolding_all rfl)) (b'g (a'l d'K c'g (qv 3) a'b (by with_unfolding_all rfl)) (b'f (a'l d'b b'N (a'K a'T a'B rfl T.z_len rfl (a'a (qv 2) a'c)) (qv 1) (by with_unfolding_all rfl)))))) (a'd (d'w (b'Q 2) (a'p (qv 3) (e'v a'b a'b)))
   (a'f (a'j (i:=3) sc_law_stream.nd (by decide) rfl (Or.inl rfl) (a'M (qv 3) (e'v a'b a'b))))))
   (a'd (a'j (i:=3) sc_law_stream.nd (by decide) rfl (Or.inl rfl) (a'p (a'H (b'a (a'M (qv 0) a'b) a'b) a'b) a'b))
   (a'd (a'S PassesOwn.never rfl (e'w rfl T.z_range (a'a (qv 1) a'c)) (a'x (i:=4) sc_law_stream.nd (by decide) rfl (Or.inl rfl)) (a'd (a'j (i:=3) sc_law_stream.nd (by decide) rfl (Or.inl rfl) (a'p (a'H (qv 3) (b'a (b'a (a'M (qv 3) a'b) a'b) (qv 4))) a'b))
   (a'd (d'w (b'Q 2) (qv 3))
   (a'f (a'j (i:=3) sc_law_stream.nd (by decide) rfl (Or.inl rfl) (b'a (qv 3) a'b))))))
   (a'f (a'k (d'N (qv 2) e'Y (d'd (qv 1)))))))))),?_⟩
  rintro xs Q' _ ⟨_,cell,n,rfl,hn,q⟩
  walk_at "p"
  have d2:CDivB cell 2:=⟨by decide,a'v (by decide)⟩
  refine⟨d2,?_⟩
  refine s'u (fun ρ=>∃ (ys:List Int) (m:Int),ρ=[.int cell,.int n,.lst .o (ys.map Enc.t),.int m,.hole]∧InR ys∧ys.length≤n) (fun N hN=>?_) ?_
  · refine⟨fun k ρ=>∃ (ys:List Int) (m:Int),ρ=[.int cell,.int n,.lst .o (ys.map Enc.t),.int m,.hole]∧InR ys∧ys.length≤n∧k=m.toNat,⟨_,[],_,rfl,(fun _ m=>nomatch m),Nat.zero_le _,rfl⟩,?_⟩
    rintro k ρ ⟨ys,m,rfl,hy,hl,rfl⟩
    have out:=hN _ ⟨ys,m,rfl,hy,hl⟩
    walk_at "p"
    refine⟨by decide,?_⟩
    split
    · split
      · rename_i c2
        have c2:=of_decide_eq_true c2
        split
        · rename_i c3
          have c3:=of_decide_eq_true c3
          have p9:(10:Int) ^ Int.toNat 9=1000000000:=by decide
          rw [p9]
          have cp:CPow 10 9:=⟨by decide,by decide,by decide⟩
          have a0:=Int.emod_nonneg m (show (1000000000:Int)≠0 by decide)
          have a1:=Int.emod_lt_of_pos m (show (0:Int)<1000000000 by decide)
          have a2:(m.fdiv 1000000000).toNat<m.toNat:=by rw [Int.fdiv_eq_ediv_of_nonneg _ (by decide)];omega
          exact⟨cp,by decide,by omega,cp,⟨by decide,a'v (by decide)⟩,_,a2,ys++[m % 1000000000],_,rfl,hy.snoc a0 (by omega),by rw [List.length_append,List.length_singleton];omega,rfl⟩
        · exact out
      · exact out
    · exact out
  · rintro ρ ⟨ys,m,rfl,hy,hl⟩
    walk_at "p"
    have e0:=Int.emod_nonneg ((cell.fdiv 2+7919)*48271) (show (2147483647:Int)≠0 by decide)
    have e1:=Int.emod_lt_of_pos ((cell.fdiv 2+7919)*48271) (show (0:Int)<2147483647 by decide)
    refine⟨d2,g'C (by decide) (by decide),by decide,by omega,by omega,?_⟩
    refine Loop.map _ _ (fun i ρ=>∃ (ys:List Int) (m:Int) (a:Tr),ρ=[.int cell,.int n,.lst .o (ys.map Enc.t),.int m,a]∧InR ys∧i≤ys.length∧ys.length≤n+i∧0≤m∧m≤2147483647) ⟨ys,_,.hole,rfl,hy,Nat.zero_le _,by omega,e0,by omega⟩ ?_ ?_
    · rintro i k ρ hk ⟨ys,m,a,rfl,hy,h1,h2,h3,h4⟩
      have lk:=(List.getElem?_eq_some_iff.mp hk).1
      rw [List.length_range,Int.toNat_natCast] at lk
      have f0:=Int.emod_nonneg (m*(m.fdiv 1009+69621+k)) (show (2147483647:Int)≠0 by decide)
      have f1:=Int.emod_lt_of_pos (m*(m.fdiv 1009+69621+k)) (show (0:Int)<2147483647 by decide)
      walk_at "p"
      refine⟨⟨by decide,a'v (by decide)⟩,q'w (by omega) (by omega),by decide,by omega,ys++[m*(m.fdiv 1009+69621+k) % 2147483647],_,_,rfl,hy.snoc f0 f1,?_,?_,by omega,by omega⟩
      · rw [List.length_append,List.length_singleton];omega
      · rw [List.length_append,List.length_singleton];omega
    · rintro ρ ⟨ys,m,a,rfl,hy,h1,h2,h3,h4⟩
      rw [List.length_range,Int.toNat_natCast] at h1
      have c:=g'h ys n h1
      walk_at "p"
      exact q _ c.1 (fun y m=>hy y (c.2 y m)) _
theorem b'c {a b:Rat} {n:Int} (h:bs a+bs b≤7990) (hn:bi n≤60) {Q:Tr→List Tr→Prop} (q:∀ ρ,Q (Enc.t (a+n*b)) ρ):g_more [Enc.t a,.int n,Enc.t b] Q:=⟨rfl,a,n,b.num,b.den,rfl,den_pos b,by have:=a't b;omega,by have:=a'G b;omega,hn,by rw [Rat.num_divInt_den];exact q⟩
theorem j'Q {m:List (Str×Rat)} {i:Nat} {x:Str} {q:Rat} (P:Str→Rat) (h:m[i]?=some (x,q)):val (m.take (i+1)) P=val (m.take i) P+q*P x:=by
  rw [c'q h,f'Q]
  show _+(q*P x+0)=_
  rw [Rat.add_zero]
@[reducible] def at' (pl:List (Str×Rat)) (x:Str):Rat:=(gtd pl x).getD 0
def g_sum:PSp:=spec 2 fun xs Q=>∃ (g:Fl) (m pl:List (Str×Rat)) (n:Nat),Fp g∧xs=[dicS .f m,dicS g pl]∧(∀ p∈m,(gtd pl p.1).isSome=true∧bs p.2+bs (at' pl p.1)≤n)∧n≤900∧(n+1)*m.length+1≤7000∧(bs (val m (at' pl))≤(n+1)*m.length+1→Q (Enc.t (val m (at' pl))))
theorem d'E (T:Tx K mg):FnOk P w K mg base CX0 3 T.a_law_sum T.d_law_sum ["_law_parts","_law_placing_here"] (spP K true 0 2 g_sum):=by
  refine a'z T.F_law_sum sc_law_sum rfl (by decide) fun cdv A outer s H E hr=>?_
  have hu:=a's hr
  refine⟨_,(a'd (a'j (i:=2) sc_law_sum.nd (by decide) rfl (Or.inl rfl) (a'q (a'a a'b (a'a a'b a'c))))
   (a'd (o'z rfl PassesOwn.never rfl (qv 0) (b'l (n:=2) rfl (a'm (a'x (i:=3) sc_law_sum.nd (by decide) rfl (Or.inl rfl)) (a'm (a'x (i:=4) sc_law_sum.nd (by decide) rfl (Or.inl rfl)) a'L))) (a'f (a'j (i:=2) sc_law_sum.nd (by decide) rfl (Or.inl rfl) (a'g ((a'u T).mono (by decide)) (by first | exact id | exact fun _=>rfl) (fun _ _ h=>h.1) hr rfl T.m_law_more T.F_law_more.kp T.b_law_more (QA.frz (a'a (qv 2) (a'a a'b (a'a (a'g ((b'E T).mono (by decide)) (by first | exact id | exact fun _=>rfl) (fun _ _ h=>h.1) hr rfl T.m_law_by T.F_law_by.kp T.b_law_by (QA.frz (a'a (qv 4) (a'a (a'e hu (qv 1) (qv 3) (fun _ _=>rfl)) a'c)))) a'c))))))))
   (a'f (a'k (qv 2))))),?_⟩
  rintro xs Q' _ ⟨_,g,m,pl,n,_,rfl,h1,h2,h3,q⟩
  walk_at "p"
  refine LoopD.map m (fun i ρ=>∃ (c:Rat) (a b:Tr),ρ=[dicS .f m,dicS g pl,Enc.t c,a,b]∧c=val (m.take i) (at' pl)∧bs c≤(n+1)*i+1) ⟨0,.hole,.hole,rfl,rfl,by rw [Nat.mul_zero];decide +kernel⟩ ?_ ?_
  · rintro i x y ρ hx ⟨c,a,b,rfl,e,hb⟩
    have mm:=h1 _ (List.mem_of_getElem? hx)
    have l:=(List.getElem?_eq_some_iff.mp hx).1
    have u:(n+1)*(i+1)≤(n+1)*m.length:=Nat.mul_le_mul_left _ l
    have u2:(n+1)*(i+1)=(n+1)*i+(n+1):=Nat.mul_succ _ _
    obtain⟨v,hv⟩:=Option.isSome_iff_exists.mp mm.1
    have ev:at' pl x=v:=by unfold at';rw [hv];rfl
    have m2:=mm.2
    dsimp only at m2
    rw [ev] at m2
    have b1:=a'Q y v
    have b2:=a'N c (y*v)
    walk_at "p"
    refine b'w _ _ v hv ?_
    walk_at "p"
    refine b'n (by omega) fun ρ=>?_
    walk_at "p"
    refine b'c (by omega) (by decide +kernel) fun ρ=>?_
    walk_at "p"
    refine⟨_,_,_,rfl,?_,?_⟩
    · rw [j'Q _ hx,ev,e,show ((1:Int):Rat)=1 from rfl,Rat.one_mul]
    · rw [show ((1:Int):Rat)=1 from rfl,Rat.one_mul];omega
  · rintro ρ ⟨c,a,b,rfl,e,hb⟩
    rw [List.take_length] at e
    subst e
    walk_at "p"
    exact q hb _
def g_missed:PSp:=spec 2 fun xs Q=>∃ (g:Fl) (r:RowE) (pl:List (Str×Rat)) (n:Nat),Fp g∧xs=[Enc.t r,dicS g pl]∧(∀ p∈r.1,(gtd pl p.1).isSome=true∧bs p.2+bs (at' pl p.1)≤n)∧n≤200∧r.1.length≤5∧bs r.2.2.1≤2000∧(bs (val r.1 (at' pl))≤1006→Q (.tup [.int (missN r (r.2.2.1 - val r.1 (at' pl))),.int (r.2.2.1 - val r.1 (at' pl)).den]))
theorem e'q (T:Tx K mg):FnOk P w K mg base CX0 4 T.a_law_missed T.d_law_missed ["_law_line","_law_placing_here"] (spP K true 0 2 g_missed):=by
  refine a'z T.F_law_missed sc_law_missed rfl (by decide) fun cdv A outer s H E hr=>?_
  have hu:=a's hr
  refine⟨_,(a'd (a'j (i:=2) sc_law_missed.nd (by decide) rfl (Or.inl rfl) (a'g ((a'u T).mono (by decide)) (by first | exact id | exact fun _=>rfl) (fun _ _ h=>h.1) hr rfl T.m_law_more T.F_law_more.kp T.b_law_more (QA.frz (a'a (a'e hu (qv 0) a'b (fun _ _=>rfl)) (a'a (c'l a'b) (a'a (a'g ((d'E T).mono (by decide)) (by first | exact id | exact fun _=>rfl) (fun _ _ h=>h.1) hr rfl T.m_law_sum T.F_law_sum.kp T.b_law_sum (QA.frz (a'a (a'e hu (qv 0) a'b (fun _ _=>rfl)) (a'a (qv 1) a'c)))) a'c))))))
   (a'd (a'A (a'l (a'Y hr.units) a'w (a'e hu (qv 0) a'b (fun _ _=>rfl)) a'D (by with_unfolding_all rfl)) (a'f (a'k (a'q (a'a (a'K (d'T rfl) g'c rfl T.z_max rfl (a'a (a'e hu (qv 2) a'b (fun _ _=>rfl)) (a'a a'b a'c))) (a'a (a'e hu (qv 2) a'b (fun _ _=>rfl)) a'c))))) a'r)
   (a'd (a'A (a'l (a'Y hr.units) a'w (a'e hu (qv 0) a'b (fun _ _=>rfl)) a'D (by with_unfolding_all rfl)) (a'f (a'k (a'q (a'a (a'K (d'T rfl) g'c rfl T.z_max rfl (a'a (b'Y a'b (a'e hu (qv 2) a'b (fun _ _=>rfl))) (a'a a'b a'c))) (a'a (a'e hu (qv 2) a'b (fun _ _=>rfl)) a'c))))) a'r)
   (a'f (a'k (a'q (a'a (a'K b'M c'h rfl T.z_abs rfl (a'a (a'e hu (qv 2) a'b (fun _ _=>rfl)) a'c)) (a'a (a'e hu (qv 2) a'b (fun _ _=>rfl)) a'c)))))))),?_⟩
  rintro xs Q' _ ⟨_,g,r,pl,n,_,rfl,h1,h2,h3,h4,q⟩
  have u:(n+1)*r.1.length≤(n+1)*5:=Nat.mul_le_mul_left _ h3
  walk_at "p"
  refine⟨rfl,g,r.1,pl,n,inferInstance,rfl,h1,by omega,by omega,fun hb ρ=>?_⟩
  have q:=q (by omega)
  have e:r.2.2.1 - val r.1 (at' pl)=r.2.2.1+((-1:Int):Rat)*val r.1 (at' pl):=by
    rw [show ((-1:Int):Rat)=-1 from rfl,Rat.neg_mul,Rat.one_mul,Rat.sub_eq_add_neg]
  rw [e] at q
  walk_at "p"
  refine b'c (by omega) (by decide +kernel) fun ρ=>?_
  unfold missN at q
  walk_at "p"
  split
  · rename_i c
    rw [if_pos (of_decide_eq_true c)] at q
    exact q _
  · rename_i c
    rw [if_neg (fun z=>c (decide_eq_true z))] at q
    split
    · rename_i c2
      rw [if_pos (of_decide_eq_true c2)] at q
      exact q _
    · rename_i c2
      rw [if_neg (fun z=>c2 (decide_eq_true z))] at q
      exact q _
theorem b'x {α:Type} {xs:List α} {i j:Nat} {x:α} (h:xs.zipIdx[i]?=some (x,j)):j=i∧xs[i]?=some x:=by
  rw [List.getElem?_zipIdx] at h
  cases e:xs[i]? with
  | none => rw [e] at h; cases h
  | some y => rw [e] at h; cases h; exact ⟨Nat.zero_add i, rfl⟩
theorem c't (b:Rat):((1:Int):Rat)*b=b:=by rw [show ((1:Int):Rat)=1 from rfl,Rat.one_mul]
def g_let:PSp:=spec 4 fun xs Q=>∃ (f g:Fl) (st:List (U32×Rat)) (sh:List Rat) (goal one:U32),Fp f∧Fp g∧xs=[Enc.t goal,.lst f (st.map Enc.t),.lst g (sh.map Enc.t),Enc.t one]∧st.length≤10∧sh.length=st.length∧(∀ s∈sh,bs s≤20)∧(bs (cntR st sh goal one)≤300→Q (Enc.t (cntR st sh goal one)))
theorem c'u (T:Tx K mg) {z:Bool}:FnOk P w K mg base CX0 3 T.a_law_let T.d_law_let ["_law_goal_here","_law_settled","_law_shares","_law_one"] (spP K z 0 4 g_let):=by
  refine a'z T.F_law_let sc_law_let rfl (by decide) fun cdv A outer s H E hr=>?_
  have hu:=a's hr
  refine⟨_,(a'd (a'j (i:=4) sc_law_let.nd (by decide) rfl (Or.inl rfl) (a'q (a'a (c'b h'A j'i rfl T.z_int rfl (a'a (c'N (a'Y hr.units) a'w (qv 0) (qv 3) (by with_unfolding_all rfl)) a'c)) (a'a a'b a'c))))
   (a'd (a'S PassesOwn.never rfl (c'n rfl T.z_enumerate (a'a (qv 1) a'c)) (b'l (n:=2) rfl (a'm (a'x (i:=5) sc_law_let.nd (by decide) rfl (Or.inl rfl)) (a'm (a'x (i:=6) sc_law_let.nd (by decide) rfl (Or.inl rfl)) a'L))) (a'f (a'A (a'l (a'Y hr.units) a'w (a'e hu (qv 6) a'b (fun _ _=>rfl)) (qv 3) (by with_unfolding_all rfl)) (a'f (a'j (i:=4) sc_law_let.nd (by decide) rfl (Or.inl rfl) (a'g ((a'u T).mono (by decide)) (by first | exact id | exact fun _=>rfl) (fun _ _ h=>h.1) hr rfl T.m_law_more T.F_law_more.kp T.b_law_more (QA.frz (a'a (qv 4) (a'a a'b (a'a (a'e hu (qv 2) (qv 5) (fun _ _=>rfl)) a'c))))))) a'r)))
   (a'f (a'k (qv 4))))),?_⟩
  rintro xs Q' _ ⟨_,f,g,st,sh,goal,one,_,_,rfl,h1,h0,h2,q⟩
  walk_at "p"
  have e0:Tr.tup [.int (if decide (goal=one)=true then 1 else 0),.int 1]=Enc.t (if one=goal then (1:Rat) else 0):=by
    by_cases h:goal=one
    · rw [if_pos (decide_eq_true h),if_pos h.symm];rfl
    · rw [if_neg (by simpa using h),if_neg (fun z=>h z.symm)];rfl
  have b0:bs (if one=goal then (1:Rat) else 0)≤1:=by split<;>decide +kernel
  rw [e0]
  refine Loop.map _ _ (fun i ρ=>∃ (c:Rat) (a b:Tr),ρ=[Enc.t goal,.lst f (st.map Enc.t),.lst g (sh.map Enc.t),Enc.t one,Enc.t c,a,b]∧c=(if one=goal then 1 else 0)+cntZ one ((st.zip sh).take i)∧bs c≤1+21*i) ⟨_,.hole,.hole,rfl,(Rat.add_zero _).symm,b0⟩ ?_ ?_
  · rintro i ⟨⟨x,v⟩,j⟩ ρ hx ⟨c,a,b,rfl,e,hb⟩
    obtain⟨rfl,hx⟩:=b'x hx
    have l:=(List.getElem?_eq_some_iff.mp hx).1
    have hs:sh[j]?=some (sh[j]'(by omega)):=List.getElem?_eq_getElem _
    have hz:=c'E hx hs
    have m:=h2 _ (List.mem_of_getElem? hs)
    have b2:=a'N c (sh[j]'(by omega))
    walk_at "p"
    split
    · rename_i hh
      refine b'w _ _ _ (a'V sh (Int.natCast_nonneg j) (by rw [Int.toNat_natCast];omega)) ?_
      simp only [Int.toNat_natCast]
      walk_at "p"
      refine b'c (by omega) (by decide +kernel) fun ρ=>?_
      walk_at "p"
      rw [c't]
      exact⟨_,_,_,rfl,by rw [g'j hz (of_decide_eq_true hh),e,Rat.add_assoc],by omega⟩
    · rename_i hh
      exact⟨c,_,_,rfl,by rw [i'f hz (of_decide_eq_false (by simpa using hh)),e],by omega⟩
  · rintro ρ ⟨c,a,b,rfl,e,hb⟩
    rw [List.length_zipIdx] at e hb
    rw [List.take_of_length_le (by rw [List.length_zip];omega)] at e
    have e:c=cntR st sh goal one:=e
    subst e
    walk_at "p"
    exact q (by omega) _
theorem j'R (c:Rat) (n:Int):Rat.divInt (c.num*n) (c.den:Int)=(n:Rat)*c:=by
  rw [b'H,Rat.num_intCast,Rat.den_intCast,Int.natCast_one,Int.one_mul,Int.mul_comm]
def g_room:PSp:=spec 5 fun xs Q=>∃ (f g h:Fl) (rows:List RowE) (st:List (U32×Rat)) (sh:List Rat) (goal:U32) (k:Nat) (r:RowE),Fp f∧Fp g∧Fp h∧xs=[.lst f (rows.map Enc.t),.int k,Enc.t goal,.lst g (st.map Enc.t),.lst h (sh.map Enc.t)]∧rows[k]?=some r∧0≤r.2.2.2.2∧r.2.2.2.2≤1000000∧st.length≤10∧sh.length=st.length∧(∀ s∈sh,bs s≤20)∧(bs (roomR st sh goal r)≤320→Q (Enc.t (roomR st sh goal r)))
theorem c'S (T:Tx K mg) {z:Bool}:FnOk P w K mg base CX0 4 T.a_law_room T.d_law_room ["_law_rows","_law_k","_law_goal_here","_law_settled","_law_shares"] (spP K z 0 5 g_room):=by
  refine a'z T.F_law_room sc_law_room rfl (by decide) fun cdv A outer s H E hr=>?_
  have hu:=a's hr
  refine⟨_,(a'd (a'j (i:=5) sc_law_room.nd (by decide) rfl (Or.inl rfl) (a'g ((c'u T).mono (by decide)) (by first | exact id | exact fun _=>rfl) (fun _ _ h=>h.1) hr rfl T.m_law_let T.F_law_let.kp T.b_law_let (QA.frz (a'a (qv 2) (a'a (qv 3) (a'a (qv 4) (a'a (a'e hu (a'e hu (qv 0) (qv 1) (fun _ _=>rfl)) a'b (fun _ _=>rfl)) a'c)))))))
   (a'f (a'k (a'g ((a'J T).mono (by decide)) (by first | exact id | exact fun _=>rfl) (fun _ _ h=>h.1) hr rfl T.m_law_lowest T.F_law_lowest.kp T.b_law_lowest (QA.frz (a'a (a'H (a'e hu (qv 5) a'b (fun _ _=>rfl)) (a'e hu (a'e hu (qv 0) (qv 1) (fun _ _=>rfl)) a'b (fun _ _=>rfl))) (a'a (a'e hu (qv 5) a'b (fun _ _=>rfl)) a'c))))))),?_⟩
  rintro xs Q' _ ⟨_,f,g,h,rows,st,sh,goal,k,r,_,_,_,rfl,hk,r0,r1,h1,h0,h2,q⟩
  have hl:=(List.getElem?_eq_some_iff.mp hk).1
  have hat:atI rows (k:Int)=some r:=by
    rw [a'V rows (Int.natCast_nonneg k) (by rw [Int.toNat_natCast];exact hl)]
    rw [← hk,List.getElem?_eq_getElem hl]
    simp only [Int.toNat_natCast]
  walk_at "p"
  refine b'w _ _ r hat ?_
  walk_at "p"
  refine⟨rfl,g,h,st,sh,goal,.inl r.2.2.2.1,inferInstance,inferInstance,rfl,h1,h0,h2,fun hb ρ=>?_⟩
  walk_at "p"
  refine b'w _ _ r hat ?_
  have u1:=a'G (cntR st sh goal (.inl r.2.2.2.1))
  have u2:=a't (cntR st sh goal (.inl r.2.2.2.1))
  have u3:=b'e (n:=r.2.2.2.2) (k:=20) (by omega) (by decide)
  have u4:=a'Q ((r.2.2.2.2:Int):Rat) (cntR st sh goal (.inl r.2.2.2.1))
  walk_at "p"
  refine⟨g'C (by omega) (by omega),rfl,_,_,rfl,den_pos _,by omega,fun ρ=>?_⟩
  rw [j'R]
  exact⟨e_o _,q (show bs (((r.2.2.2.2:Int):Rat)*cntR st sh goal (.inl r.2.2.2.1))≤320 by omega) _⟩
def g_sums:PSp:=spec 3 fun xs Q=>∃ (f g:Fl) (rows:List RowE) (ps:List Rat) (u:Str),Fp f∧Fp g∧xs=[.lst f (rows.map Enc.t),.lst g (ps.map Enc.t),.str u]∧rows.length≤11∧ps.length=rows.length∧(∀ q∈ps,bs q≤400)∧(∀ r∈rows,∀ y,gtd r.1 u=some y→bs y≤10)∧(bs (colR rows ps u)≤4600→Q (Enc.t (colR rows ps u)))
theorem c'T (T:Tx K mg) {z:Bool}:FnOk P w K mg base CX0 3 T.a_law_sums T.d_law_sums ["_law_rows","_law_prices","_law_name"] (spP K z 0 3 g_sums):=by
  refine a'z T.F_law_sums sc_law_sums rfl (by decide) fun cdv A outer s H E hr=>?_
  have hu:=a's hr
  refine⟨_,(a'd (a'j (i:=3) sc_law_sums.nd (by decide) rfl (Or.inl rfl) (a'q (a'a a'b (a'a a'b a'c))))
   (a'd (a'S PassesOwn.never rfl (c'n rfl T.z_enumerate (a'a (qv 0) a'c)) (b'l (n:=2) rfl (a'm (a'x (i:=4) sc_law_sums.nd (by decide) rfl (Or.inl rfl)) (a'm (a'x (i:=5) sc_law_sums.nd (by decide) rfl (Or.inl rfl)) a'L))) (a'f (a'A (a'l (o'q hu) h'L (qv 2) (a'e hu (qv 5) a'b (fun _ _=>rfl)) (by with_unfolding_all rfl)) (a'f (a'j (i:=3) sc_law_sums.nd (by decide) rfl (Or.inl rfl) (a'g ((a'u T).mono (by decide)) (by first | exact id | exact fun _=>rfl) (fun _ _ h=>h.1) hr rfl T.m_law_more T.F_law_more.kp T.b_law_more (QA.frz (a'a (qv 3) (a'a a'b (a'a (a'g ((b'E T).mono (by decide)) (by first | exact id | exact fun _=>rfl) (fun _ _ h=>h.1) hr rfl T.m_law_by T.F_law_by.kp T.b_law_by (QA.frz (a'a (a'e hu (qv 1) (qv 4) (fun _ _=>rfl)) (a'a (a'e hu (a'e hu (qv 5) a'b (fun _ _=>rfl)) (qv 2) (fun _ _=>rfl)) a'c)))) a'c))))))) a'r)))
   (a'f (a'k (qv 3))))),?_⟩
  rintro xs Q' _ ⟨_,f,g,rows,ps,u,_,_,rfl,h1,h0,h2,h3,q⟩
  walk_at "p"
  refine Loop.map _ _ (fun i ρ=>∃ (c:Rat) (a b:Tr),ρ=[.lst f (rows.map Enc.t),.lst g (ps.map Enc.t),.str u,Enc.t c,a,b]∧c=wgtZ ((ps.zip (rows.map fun r=>(gtd r.1 u).getD 0)).take i)∧bs c≤411*i+1) ⟨0,.hole,.hole,rfl,rfl,by decide +kernel⟩ ?_ ?_
  · rintro i ⟨r,j⟩ ρ hx ⟨c,a,b,rfl,e,hb⟩
    obtain⟨rfl,hx⟩:=b'x hx
    have l:=(List.getElem?_eq_some_iff.mp hx).1
    have hs:ps[j]?=some (ps[j]'(by omega)):=List.getElem?_eq_getElem _
    have hm:(rows.map fun r=>(gtd r.1 u).getD (0:Rat))[j]?=some ((gtd r.1 u).getD 0):=by rw [List.getElem?_map,hx];rfl
    have hz:=c'c (c'E hs hm)
    have m:=h2 _ (List.mem_of_getElem? hs)
    walk_at "p"
    split
    · rename_i hh
      obtain⟨v,hv⟩:=Option.isSome_iff_exists.mp hh
      have m2:=h3 _ (List.mem_of_getElem? hx) _ hv
      have b1:=a'Q (ps[j]'(by omega)) v
      have b2:=a'N c ((ps[j]'(by omega))*v)
      refine b'w _ _ _ (a'V ps (Int.natCast_nonneg j) (by rw [Int.toNat_natCast];omega)) ?_
      simp only [Int.toNat_natCast]
      walk_at "p"
      refine b'w _ _ v hv ?_
      walk_at "p"
      refine b'n (by omega) fun ρ=>?_
      walk_at "p"
      refine b'c (by omega) (by decide +kernel) fun ρ=>?_
      walk_at "p"
      rw [c't]
      refine⟨_,_,_,rfl,?_,by omega⟩
      rw [hz,e,hv]
      rfl
    · rename_i hh
      have hv:gtd r.1 u=none:=by cases g:gtd r.1 u with | none=>rfl | some y=>exact absurd (by rw [g];rfl) hh
      refine⟨c,_,_,rfl,?_,by omega⟩
      rw [hz,← e,hv]
      show c=c+_*0
      rw [Rat.mul_zero,Rat.add_zero]
  · rintro ρ ⟨c,a,b,rfl,e,hb⟩
    rw [List.length_zipIdx] at e hb
    rw [List.take_of_length_le (by rw [List.length_zip,List.length_map];omega)] at e
    have e:c=colR rows ps u:=e
    subst e
    walk_at "p"
    exact q (by omega) _
theorem g'K (a b:Rat):a+((-1:Int):Rat)*b=a - b:=by rw [show ((-1:Int):Rat)=-1 from rfl,Rat.neg_mul,Rat.one_mul,Rat.sub_eq_add_neg]
def g_lbound:PSp:=spec 3 fun xs Q=>∃ (f g a b:Fl) (rows:List RowE) (st:List (U32×Rat)) (pr sh:List Rat),Fp f∧Fp g∧Fp a∧Fp b∧xs=[.lst f (rows.map Enc.t),.lst g (st.map Enc.t),.tup [.lst a (pr.map Enc.t),.lst b (sh.map Enc.t)]]∧Ok92 rows st pr sh∧pr.length=rows.length∧sh.length=st.length∧(bs (bndR rows st pr sh)≤6680→Q (Enc.t (bndR rows st pr sh)))
theorem f'p (T:Tx K mg) {z:Bool}:FnOk P w K mg base CX0 3 T.a_law_bound T.d_law_bound ["_law_rows","_law_settled","_law_paper_here"] (spP K z 0 3 g_lbound):=by
  refine a'z T.F_law_bound sc_law_bound rfl (by decide) fun cdv A outer s H E hr=>?_
  have hu:=a's hr
  refine⟨_,(a'd (a'j (i:=3) sc_law_bound.nd (by decide) rfl (Or.inl rfl) (a'q (a'a a'b (a'a a'b a'c))))
   (a'd (a'S PassesOwn.never rfl (c'n rfl T.z_enumerate (a'a (qv 0) a'c)) (b'l (n:=2) rfl (a'm (a'x (i:=4) sc_law_bound.nd (by decide) rfl (Or.inl rfl)) (a'm (a'x (i:=5) sc_law_bound.nd (by decide) rfl (Or.inl rfl)) a'L))) (a'f (a'j (i:=3) sc_law_bound.nd (by decide) rfl (Or.inl rfl) (a'g ((a'u T).mono (by decide)) (by first | exact id | exact fun _=>rfl) (fun _ _ h=>h.1) hr rfl T.m_law_more T.F_law_more.kp T.b_law_more (QA.frz (a'a (qv 3) (a'a a'b (a'a (a'g ((b'E T).mono (by decide)) (by first | exact id | exact fun _=>rfl) (fun _ _ h=>h.1) hr rfl T.m_law_by T.F_law_by.kp T.b_law_by (QA.frz (a'a (a'e hu (a'e hu (qv 2) a'b (fun _ _=>rfl)) (qv 4) (fun _ _=>rfl)) (a'a (a'e hu (qv 5) a'b (fun _ _=>rfl)) a'c)))) a'c))))))))
   (a'd (a'S PassesOwn.never rfl (c'n rfl T.z_enumerate (a'a (qv 1) a'c)) (b'l (n:=2) rfl (a'm (a'x (i:=4) sc_law_bound.nd (by decide) rfl (Or.inl rfl)) (a'm (a'x (i:=6) sc_law_bound.nd (by decide) rfl (Or.inl rfl)) a'L))) (a'f (a'j (i:=3) sc_law_bound.nd (by decide) rfl (Or.inl rfl) (a'g ((a'u T).mono (by decide)) (by first | exact id | exact fun _=>rfl) (fun _ _ h=>h.1) hr rfl T.m_law_more T.F_law_more.kp T.b_law_more (QA.frz (a'a (qv 3) (a'a (c'l a'b) (a'a (a'g ((b'E T).mono (by decide)) (by first | exact id | exact fun _=>rfl) (fun _ _ h=>h.1) hr rfl T.m_law_by T.F_law_by.kp T.b_law_by (QA.frz (a'a (a'e hu (a'e hu (qv 2) a'b (fun _ _=>rfl)) (qv 4) (fun _ _=>rfl)) (a'a (a'e hu (qv 6) a'b (fun _ _=>rfl)) a'c)))) a'c))))))))
   (a'f (a'k (qv 3)))))),?_⟩
  rintro xs Q' _ ⟨_,f,g,a,b,rows,st,pr,sh,_,_,_,_,rfl,o,h1,h2,q⟩
  have o1:=o.l1
  have o3:=o.l3
  walk_at "p"
  refine Loop.map _ _ (fun i ρ=>∃ (c:Rat) (x y:Tr),ρ=[.lst f (rows.map Enc.t),.lst g (st.map Enc.t),.tup [.lst a (pr.map Enc.t),.lst b (sh.map Enc.t)],Enc.t c,x,y,.hole]∧c=wgtZ ((pr.zip (rows.map (·.2.2.1))).take i)∧bs c≤511*i+1) ⟨0,.hole,.hole,rfl,rfl,by decide +kernel⟩ ?_ ?_
  · rintro i ⟨r,j⟩ ρ hx ⟨c,x,y,rfl,e,hb⟩
    obtain⟨rfl,hx⟩:=b'x hx
    have l:=(List.getElem?_eq_some_iff.mp hx).1
    have hs:pr[j]?=some (pr[j]'(by omega)):=List.getElem?_eq_getElem _
    have hm:(rows.map (·.2.2.1))[j]?=some r.2.2.1:=by rw [List.getElem?_map,hx];rfl
    have hz:=c'c (c'E hs hm)
    have m:=o.p _ (List.mem_of_getElem? hs)
    have m2:=o.r1 _ (List.mem_of_getElem? hx)
    have b1:=a'Q (pr[j]'(by omega)) r.2.2.1
    have b2:=a'N c ((pr[j]'(by omega))*r.2.2.1)
    walk_at "p"
    refine b'w _ _ _ (a'V pr (Int.natCast_nonneg j) (by rw [Int.toNat_natCast];omega)) ?_
    simp only [Int.toNat_natCast]
    walk_at "p"
    refine b'n (by omega) fun ρ=>?_
    walk_at "p"
    refine b'c (by omega) (by decide +kernel) fun ρ=>?_
    walk_at "p"
    rw [c't]
    exact⟨_,_,_,rfl,by rw [hz,e],by omega⟩
  · rintro ρ ⟨c,x,y,rfl,e,hb⟩
    rw [List.length_zipIdx] at e hb
    rw [List.take_of_length_le (by rw [List.length_zip,List.length_map];omega)] at e
    walk_at "p"
    refine Loop.map _ _ (fun i ρ=>∃ (c':Rat) (x z:Tr),ρ=[.lst f (rows.map Enc.t),.lst g (st.map Enc.t),.tup [.lst a (pr.map Enc.t),.lst b (sh.map Enc.t)],Enc.t c',x,y,z]∧c'=c - wgtZ ((sh.zip (st.map (·.2))).take i)∧bs c'≤4600+691*i) ⟨c,x,.hole,rfl,?_,by omega⟩ ?_ ?_
    · show c=c - 0
      rw [Rat.sub_eq_add_neg,Rat.neg_zero,Rat.add_zero]
    · rintro i ⟨r,j⟩ ρ hx ⟨c',x,z,rfl,e',hb'⟩
      obtain⟨rfl,hx⟩:=b'x hx
      have l:=(List.getElem?_eq_some_iff.mp hx).1
      have hs:sh[j]?=some (sh[j]'(by omega)):=List.getElem?_eq_getElem _
      have hm:(st.map (·.2))[j]?=some r.2:=by rw [List.getElem?_map,hx];rfl
      have hz:=c'c (c'E hs hm)
      have m:=o.s _ (List.mem_of_getElem? hs)
      have m2:=o.t _ (List.mem_of_getElem? hx)
      have b1:=a'Q (sh[j]'(by omega)) r.2
      have b2:=c'C c' ((sh[j]'(by omega))*r.2)
      walk_at "p"
      refine b'w _ _ _ (a'V sh (Int.natCast_nonneg j) (by rw [Int.toNat_natCast];omega)) ?_
      simp only [Int.toNat_natCast]
      walk_at "p"
      refine b'n (by omega) fun ρ=>?_
      walk_at "p"
      refine b'c (by omega) (by decide +kernel) fun ρ=>?_
      walk_at "p"
      rw [g'K]
      exact⟨_,_,_,rfl,by rw [hz,e'];grind,by omega⟩
    · rintro ρ ⟨c',x,z,rfl,e',hb'⟩
      rw [List.length_zipIdx] at e' hb'
      rw [List.take_of_length_le (by rw [List.length_zip,List.length_map];omega),e] at e'
      have e':c'=bndR rows st pr sh:=e'
      subst e'
      walk_at "p"
      exact q (by omega) _
def g_placing:PSp:=spec 2 fun xs Q=>∃ (f g:Fl) (names:List Str) (ys:List Int),Fp f∧Fp g∧xs=[.lst f (names.map Enc.t),.lst g (ys.map Enc.t)]∧names.length≤ys.length∧names.length≤4∧InR ys∧∀ pl:List (Str×Rat),(∀ x∈names,(gtd pl x).isSome=true)→(∀ x q,gtd pl x=some q→0≤q∧bs q≤20)→Q (dicS .f pl)
theorem d'Q (T:Tx K mg) {z:Bool}:FnOk P w K mg base CX0 2 T.a_law_placing T.d_law_placing ["_law_names","_law_xs"] (spP K z 0 2 g_placing):=by
  refine a'z T.F_law_placing sc_law_placing rfl (by decide) fun cdv A outer s H E hr=>?_
  have hu:=a's hr
  refine⟨_,(a'd (b'Z (i:=2) sc_law_placing.nd (by decide) rfl (Or.inl rfl) h'N)
   (a'd (a'S PassesOwn.never rfl (c'n rfl T.z_enumerate (a'a (qv 0) a'c)) (b'l (n:=2) rfl (a'm (a'x (i:=3) sc_law_placing.nd (by decide) rfl (Or.inl rfl)) (a'm (a'x (i:=4) sc_law_placing.nd (by decide) rfl (Or.inl rfl)) a'L))) (a'd (a'j (i:=5) sc_law_placing.nd (by decide) rfl (Or.inl rfl) (a'e hu (a'X (a'a a'b (a'a a'b (a'a a'b (a'a (e'v a'b a'b) a'c))))) (a'p (a'e hu (qv 1) (qv 3) (fun _ _=>rfl)) a'b) (fun _ _=>rfl)))
   (a'f (k'c hu (b'Q 2) (qv 4) (a'g ((a'J T).mono (by decide)) (by first | exact id | exact fun _=>rfl) (fun _ _ h=>h.1) hr rfl T.m_law_lowest T.F_law_lowest.kp T.b_law_lowest (QA.frz (a'a (a'p (a'M (a'e hu (qv 1) (qv 3) (fun _ _=>rfl)) a'b) (qv 5)) (a'a (a'e hu (a'X (a'a a'b (a'a a'b (a'a a'b a'c)))) (a'p (a'M (a'e hu (qv 1) (qv 3) (fun _ _=>rfl)) a'b) a'b) (fun _ _=>rfl)) a'c))))))))
   (f'c 2 (a'f (a'k (qv 2)))))),?_⟩
  rintro xs Q' _ ⟨_,f,g,names,ys,_,_,rfl,h1,h2,h3,q⟩
  walk_at "p"
  refine⟨rfl,Loop.map _ _ (fun i ρ=>∃ (pl:List (Str×Rat)) (a b c:Tr),ρ=[.lst f (names.map Enc.t),.lst g (ys.map Enc.t),dicS .o pl,a,b,c]∧pl.length≤i∧(∀ x∈names.take i,(gtd pl x).isSome=true)∧∀ x q,gtd pl x=some q→0≤q∧bs q≤20) ⟨[],.hole,.hole,.hole,rfl,Nat.le_refl _,(fun x m=>nomatch m),(fun x q e=>by cases e)⟩ ?_ ?_⟩
  · rintro i ⟨x,j⟩ ρ hx ⟨pl,a,b,c,rfl,hl,e1,e2⟩
    obtain⟨rfl,hx⟩:=b'x hx
    have l:=(List.getElem?_eq_some_iff.mp hx).1
    have hs:ys[j]?=some (ys[j]'(by omega)):=List.getElem?_eq_getElem _
    have hat:atI ys (j:Int)=some (ys[j]'(by omega)):=by
      rw [a'V ys (Int.natCast_nonneg j) (by rw [Int.toNat_natCast];omega)]
      simp only [Int.toNat_natCast]
    have hy:=h3 _ (List.mem_of_getElem? hs)
    generalize ys[j]'(by omega)=y at hat hy
    walk_at "p"
    simp only [hat,Option.map_some]
    walk_at "p"
    have hf:∃ n:Int,atI [Tr.int 12,.int 12,.int 40,.int (10 ^ Int.toNat 6)] (y % 4)=some (.int n)∧0<n∧n≤1000000:=by
      have h4:y % 4=0∨y % 4=1∨y % 4=2∨y % 4=3:=by omega
      rcases h4 with h | h | h | h<;>rw [h]
      · exact⟨12,at0 _ _,by decide,by decide⟩
      · exact⟨12,at1 _ _ _,by decide,by decide⟩
      · exact⟨40,at2 _ _ _ _,by decide,by decide⟩
      · exact⟨_,at3 _ _ _ _ _,by decide,by decide⟩
    have hd:∃ n:Int,atI [Tr.int 1,.int 2,.int 3] (y.fdiv 64 % 3)=some (.int n)∧0<n∧n≤3:=by
      have h4:y.fdiv 64 % 3=0∨y.fdiv 64 % 3=1∨y.fdiv 64 % 3=2:=by omega
      rcases h4 with h | h | h<;>rw [h]
      · exact⟨1,at0 _ _,by decide,by decide⟩
      · exact⟨2,at1 _ _ _,by decide,by decide⟩
      · exact⟨3,at2 _ _ _ _,by decide,by decide⟩
    obtain⟨n,hn,n0,n1⟩:=hf
    obtain⟨d,hd,d0,d1⟩:=hd
    refine⟨⟨by decide,by decide,by decide⟩,by decide,?_⟩
    rw [hn]
    walk_at "p"
    simp only [hd]
    walk_at "p"
    have fb:0≤y.fdiv 4 % n∧y.fdiv 4 % n<n:=⟨Int.emod_nonneg _ (by omega),Int.emod_lt_of_pos _ n0⟩
    have k1:bi (y.fdiv 4 % n)≤20:=a'F 20 (by omega)
    have k2:bi d≤20:=a'F 20 (by omega)
    refine⟨⟨by decide,a'v (by decide)⟩,n0,⟨by decide,a'v (by decide)⟩,by decide,rfl,_,d,rfl,d0,by omega,fun ρ=>?_⟩
    walk_at "p"
    have gp:∀ z,gtd (ptd pl x (Rat.divInt (y.fdiv 4 % n) d)) z=if z=x then some (Rat.divInt (y.fdiv 4 % n) d) else gtd pl z:=fun z=>q't pl x z _
    refine⟨by omega,ptd pl x (Rat.divInt (y.fdiv 4 % n) d),_,_,_,rfl,?_,fun z m=>?_,fun z q e=>?_⟩
    · unfold ptd
      split
      · rw [List.length_map];omega
      · rw [List.length_append,List.length_singleton];omega
    · rw [gp]
      split
      · rfl
      · rename_i ne
        rw [c'q hx] at m
        rcases List.mem_append.mp m with m | m
        · exact e1 z m
        · exact absurd (List.mem_singleton.mp m) ne
    · rw [gp] at e
      split at e
      · cases e
        exact⟨Rat.divInt_nonneg fb.1 (by omega),b'd (by omega) k1 k2⟩
      · exact e2 z q e
  · rintro ρ ⟨pl,a,b,c,rfl,hl,e1,e2⟩
    rw [List.length_zipIdx,List.take_length] at e1
    walk_at "p"
    exact q pl e1 e2 _
theorem num_lt0 {q:Rat}:q.num<0↔q<0:=by
  rw [← Rat.not_le,← Rat.num_nonneg];omega
theorem m'Y {q:Rat}:0<q.num↔0<q:=by
  have:=num_lt0 (q:=-q)
  rw [Rat.neg_num] at this
  constructor
  · intro h;have:=this.mp (by omega);grind
  · intro h;have:=this.mpr (by grind);omega
def ab (p:Rat):Rat:=if p.num<0 then -p else p
theorem s'y (p:Rat):Tr.tup [.int (if p.num<0 then -p.num else p.num),.int p.den]=Enc.t (ab p):=by
  unfold ab
  split<;>rfl
theorem r'S (p:Rat):bs (ab p)=bs p:=by
  unfold ab
  split
  · show max (bl (-p.num).natAbs) (bl p.den)=max (bl p.num.natAbs) (bl p.den);rw [Int.natAbs_neg]
  · rfl
theorem m'Z {st:List (U32×Rat)} {sh:List Rat} {goal:U32} {r:RowE} {p:Rat} (h:¬ r.2.2.2.1=0):roomB st sh goal (r,p)=!decide (roomR st sh goal r<ab p):=by
  unfold roomB
  dsimp only
  rw [decide_eq_false h,Bool.false_or]
  generalize roomR st sh goal r=m
  have hp:=num_lt0 (q:=p)
  unfold ab
  split
  · rename_i c
    have c:=hp.mp c
    by_cases g:m < -p
    · rw [decide_eq_true g,decide_eq_true (show p<0 - m by grind)];simp
    · rw [decide_eq_false g,decide_eq_false (show ¬ p<0 - m by grind),decide_eq_false (show ¬ m<p by grind)];rfl
  · rename_i c
    have c:¬ p<0:=fun z=>c (hp.mpr z)
    by_cases g:m<p
    · rw [decide_eq_true g];simp
    · rw [decide_eq_false g,decide_eq_false (show ¬ p<0 - m by grind)];rfl
theorem n'a {L M C D A B:Prop} [Decidable L] [Decidable M] [Decidable C] [Decidable D] (h0:(!(decide L && decide C) && !(decide M && decide D))=false→A) (h1:(!(decide L && decide C) && !(decide M && decide D))=true→B):if decide L=true then (if decide C=true then A else if decide M=true then (if decide D=true then A else B) else B) else if decide M=true then (if decide D=true then A else B) else B:=by
  by_cases a:L<;>by_cases b:M<;>by_cases c:C<;>by_cases d:D<;>simp only [a,b,c,d,decide_true,decide_false,if_true,if_false,Bool.and_true,Bool.and_false,Bool.true_and,Bool.false_and,Bool.not_true,Bool.not_false,Bool.false_eq_true,forall_const,reduceCtorEq,false_implies] at h0 h1 ⊢<;>assumption
theorem i'm (r:RowE) (p:Rat):signB (r,p)=(!(decide (r.2.1=Str.ofString "least") && decide (p.num<0)) && !(decide (r.2.1=Str.ofString "most") && decide (0<p.num))):=by
  rw [decide_eq_decide.mpr (num_lt0 (q:=p)),decide_eq_decide.mpr (m'Y (q:=p))];rfl
theorem e'n (xs:List Rat):deps (xs.map Enc.t)≤1:=by
  induction xs with
  | nil => exact Nat.zero_le _
  | cons x xs ih => show max 1 (deps (xs.map Enc.t)) ≤ 1; omega
theorem n'b (sh:List Rat):(!(((sh.filter fun s=>decide (s.num<0)).map fun s=>s).map (Enc.t (α:=Rat))).isEmpty)=(sh.map fun s=>decide (s<0)).any id:=by
  induction sh with
  | nil => rfl
  | cons x xs ih =>
    rw [List.map_cons,List.any_cons,List.filter_cons,← ih]
    by_cases c:x.num<0
    · rw [if_pos (decide_eq_true c),decide_eq_true (num_lt0.mp c)];rfl
    · rw [if_neg (by simpa using c),decide_eq_false (fun z=>c (num_lt0.mpr z))];rfl
theorem d'i {a b:Rat} (h:bs a+bs b≤60000000) {Q:Tr→List Tr→Prop} (q:∀ ρ,Q (.bl (decide (b<a))) ρ):g_above [Enc.t a,Enc.t b] Q:=⟨rfl,a,b,rfl,h,q⟩
def g_lholds:PSp:=spec 5 fun xs Q=>∃ (f g h a b:Fl) (rows:List RowE) (un:List Str) (st:List (U32×Rat)) (goal:U32) (pr sh:List Rat),Fp f∧Fp g∧Fp h∧Fp a∧Fp b∧xs=[.lst f (rows.map Enc.t),.lst g (un.map Enc.t),.lst h (st.map Enc.t),Enc.t goal,.tup [.lst a (pr.map Enc.t),.lst b (sh.map Enc.t)]]∧Ok92 rows st pr sh∧(∀ r∈rows,0≤r.2.2.2.1)∧un.length≤5∧Q (.bl (holdsB rows un st goal pr sh))
theorem f'q (T:Tx K mg) {z:Bool}:FnOk P w K mg base CX0 5 T.a_law_holds T.d_law_holds ["_law_rows","_law_names","_law_settled","_law_goal_here","_law_paper_here"] (spP K z 0 5 g_lholds):=by
  refine a'z T.F_law_holds sc_law_holds rfl (by decide) fun cdv A outer s H E hr=>?_
  have hu:=a's hr
  refine⟨_,(a'd (q'G (qv 4) (b'l (n:=2) rfl (a'm (a'x (i:=5) sc_law_holds.nd (by decide) rfl (Or.inl rfl)) (a'm (a'x (i:=6) sc_law_holds.nd (by decide) rfl (Or.inl rfl)) a'L))))
   (a'd (a'A (QW.t (c'm (a'l (b'P hr.units) a'Z (a'K a'T a'B rfl T.z_len rfl (a'a (qv 5) a'c)) (a'K a'T a'B rfl T.z_len rfl (a'a (qv 0) a'c)) (by with_unfolding_all rfl)) (c'm (a'l (b'P hr.units) a'Z (a'K a'T a'B rfl T.z_len rfl (a'a (qv 6) a'c)) (a'K a'T a'B rfl T.z_len rfl (a'a (qv 2) a'c)) (by with_unfolding_all rfl)) (c'i (a'l (b'P hr.units) a'Z (b'R (N:=["_law_one"]) (ix:=[none]) rfl (c'e (qv 6)) (c'o (i:=0) (by decide) rfl) (fun _ _ _ _ _=>(l'G (a'l d'b b'N (a'e hu (qv 0) a'b (fun _ _=>rfl)) a'b (by with_unfolding_all rfl)))) (fun _ _ _ _ _=>(qv 0)) True.intro) (a'X a'c) (by with_unfolding_all rfl)))))) (a'f (a'k b'j)) a'r)
   (a'd (a'S PassesOwn.never rfl (c'n rfl T.z_enumerate (a'a (qv 0) a'c)) (b'l (n:=2) rfl (a'm (a'x (i:=7) sc_law_holds.nd (by decide) rfl (Or.inl rfl)) (a'm (a'x (i:=8) sc_law_holds.nd (by decide) rfl (Or.inl rfl)) a'L))) (a'd (a'A (QW.t (c'm (QW.t (b'g (a'l (a'Y hr.units) a'w (a'e hu (qv 8) a'b (fun _ _=>rfl)) a'D (by with_unfolding_all rfl)) (b'f (a'l d'b b'N (a'e hu (a'e hu (qv 5) (qv 7) (fun _ _=>rfl)) a'b (fun _ _=>rfl)) a'b (by with_unfolding_all rfl))))) (c'i (QW.t (b'g (a'l (a'Y hr.units) a'w (a'e hu (qv 8) a'b (fun _ _=>rfl)) a'D (by with_unfolding_all rfl)) (b'f (a'l d'K c'g (a'e hu (a'e hu (qv 5) (qv 7) (fun _ _=>rfl)) a'b (fun _ _=>rfl)) a'b (by with_unfolding_all rfl)))))))) (a'f (a'k b'j)) a'r)
   (a'd (a'j (i:=9) sc_law_holds.nd (by decide) rfl (Or.inl rfl) (a'g ((c'S T).mono (by decide)) (by first | exact id | exact fun _=>rfl) (fun _ _ h=>h.1) hr rfl T.m_law_room T.F_law_room.kp T.b_law_room (QA.frz (a'a (qv 0) (a'a (qv 7) (a'a (qv 3) (a'a (qv 2) (a'a (qv 6) a'c))))))))
   (a'f (a'A (QW.t (b'g (a'l d'K c'g (a'e hu (qv 8) a'b (fun _ _=>rfl)) a'b (by with_unfolding_all rfl)) (b'f (b'u (a'g ((b'U T).mono (by decide)) (by first | exact id | exact fun _=>rfl) (fun _ _ h=>h.1) hr rfl T.m_law_above T.F_law_above.kp T.b_law_above (QA.frz (a'a (a'q (a'a (a'K b'M c'h rfl T.z_abs rfl (a'a (a'e hu (a'e hu (qv 5) (qv 7) (fun _ _=>rfl)) a'b (fun _ _=>rfl)) a'c)) (a'a (a'e hu (a'e hu (qv 5) (qv 7) (fun _ _=>rfl)) a'b (fun _ _=>rfl)) a'c))) (a'a (qv 9) a'c)))))))) (a'f (a'k b'j)) a'r)))))
   (a'd (a'S PassesOwn.never rfl (c'e (qv 1)) (a'x (i:=10) sc_law_holds.nd (by decide) rfl (Or.inl rfl)) (a'f (a'A (b'u (a'g ((b'U T).mono (by decide)) (by first | exact id | exact fun _=>rfl) (fun _ _ h=>h.1) hr rfl T.m_law_above T.F_law_above.kp T.b_law_above (QA.frz (a'a (a'g ((c'T T).mono (by decide)) (by first | exact id | exact fun _=>rfl) (fun _ _ h=>h.1) hr rfl T.m_law_sums T.F_law_sums.kp T.b_law_sums (QA.frz (a'a (qv 0) (a'a (qv 5) (a'a (qv 10) a'c))))) (a'a (a'g ((c'u T).mono (by decide)) (by first | exact id | exact fun _=>rfl) (fun _ _ h=>h.1) hr rfl T.m_law_let T.F_law_let.kp T.b_law_let (QA.frz (a'a (qv 3) (a'a (qv 2) (a'a (qv 6) (a'a (qv 10) a'c)))))) a'c))))) (a'f (a'k b'j)) a'r)))
   (a'f (a'k b'j)))))),?_⟩
  rintro xs Q' _ ⟨_,f,g,h,a,b,rows,un,st,goal,pr,sh,_,_,_,_,_,rfl,o,h1,h2,q⟩
  walk_at "p"
  split
  · rename_i e1
    rw [← d'z (by simpa using e1)] at q
    exact q _
  split
  · rename_i e1
    rw [← d'A (by simpa using e1)] at q
    exact q _
  rename_i e1 e2
  have l1i:(pr.length:Int)=rows.length:=by simpa using e1
  have l2i:(sh.length:Int)=st.length:=by simpa using e2
  have l1:pr.length=rows.length:=by omega
  have l2:sh.length=st.length:=by omega
  refine CLoop.filter sh Enc.t (fun s=>decide (s.num<0)) (fun s=>s) (by have:=o.l4;omega) (fun s hs A R hR hA=>?_) ?_
  · walk_at "p"
    split
    · rename_i c
      exact hR c
    · rename_i c
      exact hA (by simpa using c)
  refine i'b _ _ _ ?_ _ ?_
  · exact Nat.le_trans (e'n _) (by decide)
  walk_at "p"
  rw [n'b]
  split
  · rename_i e3
    rw [← e'h e3] at q
    exact q _
  rename_i e3
  have o1:=o.l1
  have o3:=o.l3
  refine Loop.map _ _ (fun i ρ=>∃ x y z:Tr,ρ=[.lst f (rows.map Enc.t),.lst g (un.map Enc.t),.lst h (st.map Enc.t),Enc.t goal,.tup [.lst a (pr.map Enc.t),.lst b (sh.map Enc.t)],.lst a (pr.map Enc.t),.lst b (sh.map Enc.t),x,y,z,.hole]∧((rows.zip pr).take i).all signB=true∧((rows.zip pr).take i).all (roomB st sh goal)=true) ⟨.hole,.hole,.hole,rfl,rfl,rfl⟩ ?_ ?_
  · rintro i ⟨r,j⟩ ρ hx ⟨x,y,z,rfl,es,er⟩
    obtain⟨rfl,hx⟩:=b'x hx
    have l:=(List.getElem?_eq_some_iff.mp hx).1
    have hs:pr[j]?=some (pr[j]'(by omega)):=List.getElem?_eq_getElem _
    have hat:atI pr (j:Int)=some (pr[j]'(by omega)):=by
      rw [a'V pr (Int.natCast_nonneg j) (by rw [Int.toNat_natCast];omega)]
      simp only [Int.toNat_natCast]
    have hz:=c'E hx hs
    have m:=o.p _ (List.mem_of_getElem? hs)
    have mr:=List.mem_of_getElem? hx
    have r0:=h1 _ mr
    have r2:=o.r2 _ mr
    generalize pr[j]'(by omega)=p at hat hz m
    walk_at "p"
    simp only [hat,Option.map_some]
    walk_at "p"
    have q0:signB (r,p)=false→∀ ρ,Q' (.bl false) ρ:=fun h=>by
      rw [← d'B (d'y hz h)] at q
      exact q
    have q1:signB (r,p)=true→((rows.zip pr).take (j+1)).all signB=true:=fun h=>b'K hz h es
    have q2:roomB st sh goal (r,p)=false→∀ ρ,Q' (.bl false) ρ:=fun h=>by
      rw [← d'C hz h] at q
      exact q
    have q3:roomB st sh goal (r,p)=true→((rows.zip pr).take (j+1)).all (roomB st sh goal)=true:=fun h=>b'K hz h er
    refine n'a (fun h=>q0 ((i'm r p).trans h) _) fun hsb=>?_
    rw [← i'm] at hsb
    refine⟨rfl,f,h,b,rows,st,sh,goal,j,r,inferInstance,inferInstance,inferInstance,rfl,hx,by omega,r2.2,by omega,l2,o.s,fun hb ρ=>?_⟩
    walk_at "p"
    rw [s'y]
    split
    · rename_i c
      have c:=of_decide_eq_true c
      refine d'i (by rw [r'S];omega) fun ρ=>?_
      walk_at "p"
      rw [m'Z (by omega)] at q2 q3
      split
      · rename_i c2
        exact q2 (by rw [c2];rfl) _
      · rename_i c2
        exact⟨_,_,_,rfl,q1 hsb,q3 (by rw [Bool.not_eq_true] at c2;rw [c2];rfl)⟩
    · rename_i c
      have c:¬ 0<r.2.2.2.1:=fun z=>c (decide_eq_true z)
      exact⟨_,_,_,rfl,q1 hsb,q3 (e'k (by show r.2.2.2.1=0;omega))⟩
  · rintro ρ ⟨x1,x2,x3,rfl,es,er⟩
    rw [List.length_zipIdx,List.take_of_length_le (by rw [List.length_zip];omega)] at es er
    walk_at "p"
    refine Loop.map _ _ (fun i ρ=>∃ x:Tr,ρ=[.lst f (rows.map Enc.t),.lst g (un.map Enc.t),.lst h (st.map Enc.t),Enc.t goal,.tup [.lst a (pr.map Enc.t),.lst b (sh.map Enc.t)],.lst a (pr.map Enc.t),.lst b (sh.map Enc.t),x1,x2,x3,x]∧(un.take i).all (colB rows pr st sh goal)=true) ⟨.hole,rfl,rfl⟩ ?_ ?_
    · rintro i u ρ hx ⟨x,rfl,e⟩
      walk_at "p"
      refine⟨rfl,f,a,rows,pr,u,inferInstance,inferInstance,rfl,by omega,l1,o.p,fun r m y=>o.r3 r m u y,fun hc ρ=>?_⟩
      walk_at "p"
      refine⟨rfl,h,b,st,sh,goal,.inr u,inferInstance,inferInstance,rfl,by omega,l2,o.s,fun hb ρ=>?_⟩
      walk_at "p"
      refine d'i (by omega) fun ρ=>?_
      walk_at "p"
      split
      · rename_i hd
        rw [← e'i hx (by unfold colB;rw [hd];rfl)] at q
        exact q _
      · rename_i hd
        exact⟨_,rfl,b'K hx (by unfold colB;rw [Bool.not_eq_true] at hd;rw [hd];rfl) e⟩
    · rintro ρ ⟨x,rfl,e6⟩
      rw [List.take_length] at e6
      walk_at "p"
      rw [← e'j (by simpa using e1) (by simpa using e2) (by simpa using e3) es er e6] at q
      exact q _
theorem n'c {m:List (Str×Rat)} {x:Str} {q:Rat} {p:Str×Rat} (h:p∈ptd m x q):p=(x,q)∨p∈m:=by
  unfold ptd at h
  split at h
  · obtain⟨a,ha,e⟩:=List.mem_map.mp h
    split at e
    · rename_i c
      left;rw [← e,c]
    · right;rw [← e];exact ha
  · rcases List.mem_append.mp h with h | h
    · exact .inr h
    · exact .inl (List.mem_singleton.mp h)
theorem n'd (m:List (Str×Rat)) (x:Str) (q:Rat):(ptd m x q).length≤m.length+1:=by
  unfold ptd
  split
  · rw [List.length_map];omega
  · rw [List.length_append,List.length_singleton];omega
theorem a'R {ys:List Int} {n:Nat} (h:InR ys) (hl:ys.length=n) {k:Int} (h0:0≤k) (h1:k<n):∃ y,atI ys k=some y∧0≤y∧y<2147483647:=
  ⟨_,a'V ys h0 (by omega),h _ (List.getElem_mem _)⟩
theorem r'T {k:Str} {d:Int} (kd:k=Str.ofString "least"∧d=-1∨k=Str.ofString "most"∧d=1∨k=Str.ofString "just"∧d=0) {Q:Tr→Prop} (q:Q (.int d)):wIdx (.dic .o [((Sum.inr (Str.ofString "least"):Key),.int (-1)),(Sum.inr (Str.ofString "most"),.int 1),(Sum.inr (Str.ofString "just"),.int 0)]) (.str k) Q:=by
  rcases kd with ⟨rfl,rfl⟩ | ⟨rfl,rfl⟩ | ⟨rfl,rfl⟩<;>exact q
structure PlOk (pl:List (Str×Rat)) (names:List Str):Prop where
  nd:names.Nodup
  len:names.length≤4
  all:∀ x∈names,(gtd pl x).isSome=true
  sz:∀ x q,gtd pl x=some q→0≤q∧bs q≤20
structure RowOk (pl:List (Str×Rat)) (names:List Str) (r:RowE):Prop where
  nd:(r.1.map (·.1)).Nodup
  dom:∀ p∈r.1,p.1∈names
  sz:∀ p∈r.1,bs p.2≤4
  len:r.1.length≤4
  rk:0≤r.2.2.2.1
  wt:1≤r.2.2.2.2∧r.2.2.2.2≤1000000
  nm:bs r.2.2.1≤110
  wish:¬ r.2.2.2.1=0→bs r.2.2.1≤10
  must:r.2.2.2.1=0→Kept (at' pl) r
theorem PlOk.at {pl:List (Str×Rat)} {names:List Str} (o:PlOk pl names) {x:Str} (h:x∈names):(gtd pl x).isSome=true∧0≤at' pl x∧bs (at' pl x)≤20:=by
  have:=o.all x h
  obtain⟨q,e⟩:=Option.isSome_iff_exists.mp this
  have z:=o.sz x q e
  refine⟨this,?_⟩
  unfold at'
  rw [e]
  exact z
def g_row:PSp:=spec 3 fun xs Q=>∃ (f g:Fl) (names:List Str) (pl:List (Str×Rat)) (cell:Int),Fp f∧Fp g∧xs=[.lst f (names.map Enc.t),dicS g pl,.int cell]∧PlOk pl names∧∀ r:RowE,RowOk pl names r→Q (Enc.t r)
theorem g'L (T:Tx K mg):FnOk P w K mg base CX0 4 T.a_law_row T.d_law_row ["_law_names","_law_placing_here","_law_cell"] (spP K true 0 3 g_row):=by
  refine a'z T.F_law_row sc_law_row rfl (by decide) fun cdv A outer s H E hr=>?_
  have hu:=a's hr
  refine⟨_,(a'd (a'j (i:=3) sc_law_row.nd (by decide) rfl (Or.inl rfl) (a'g ((b'F T).mono (by decide)) (by first | exact id | exact fun _=>rfl) (fun _ _ h=>h.1) hr rfl T.m_law_stream T.F_law_stream.kp T.b_law_stream (QA.frz (a'a (qv 2) (a'a a'b a'c)))))
   (a'd (b'Z (i:=4) sc_law_row.nd (by decide) rfl (Or.inl rfl) h'N)
   (a'd (a'S PassesOwn.never rfl (c'n rfl T.z_enumerate (a'a (qv 0) a'c)) (b'l (n:=2) rfl (a'm (a'x (i:=5) sc_law_row.nd (by decide) rfl (Or.inl rfl)) (a'm (a'x (i:=6) sc_law_row.nd (by decide) rfl (Or.inl rfl)) a'L))) (a'f (a'A (a'l (b'P hr.units) a'Z (a'p (a'e hu (qv 3) (qv 5) (fun _ _=>rfl)) a'b) a'b (by with_unfolding_all rfl)) (a'f (k'c hu (b'Q 4) (qv 6) (a'q (a'a (b'Y (a'p (a'e hu (qv 3) (qv 5) (fun _ _=>rfl)) a'b) a'b) (a'a a'b a'c))))) a'r)))
   (f'c 4 (a'd (a'j (i:=7) sc_law_row.nd (by decide) rfl (Or.inl rfl) (a'e hu (a'X (a'a a'D (a'a a'D (a'a a'D a'c)))) (a'p (a'e hu (qv 3) a'b (fun _ _=>rfl)) a'b) (fun _ _=>rfl)))
   (a'd (a'j (i:=8) sc_law_row.nd (by decide) rfl (Or.inl rfl) (a'p (a'e hu (qv 3) a'b (fun _ _=>rfl)) a'b))
   (a'd (a'A (a'l d'K c'g (qv 8) a'b (by with_unfolding_all rfl)) (a'f (a'k (a'q (a'a (qv 4) (a'a (qv 7) (a'a (a'q (a'a (b'Y (a'p (a'e hu (qv 3) a'b (fun _ _=>rfl)) a'b) a'b) (a'a a'b a'c))) (a'a (qv 8) (a'a (b'a a'b (a'p (a'e hu (qv 3) a'b (fun _ _=>rfl)) (a'e hu (a'X (a'a a'b (a'a (e'v a'b a'b) a'c))) (a'p (a'e hu (qv 3) a'b (fun _ _=>rfl)) a'b) (fun _ _=>rfl)))) a'c)))))))) a'r)
   (a'd (a'j (i:=9) sc_law_row.nd (by decide) rfl (Or.inl rfl) (a'H (a'p (a'e hu (qv 3) a'b (fun _ _=>rfl)) a'b) (a'p (a'e hu (qv 3) a'b (fun _ _=>rfl)) a'b)))
   (a'd (a'j (i:=10) sc_law_row.nd (by decide) rfl (Or.inl rfl) (a'g ((a'u T).mono (by decide)) (by first | exact id | exact fun _=>rfl) (fun _ _ h=>h.1) hr rfl T.m_law_more T.F_law_more.kp T.b_law_more (QA.frz (a'a (a'g ((d'E T).mono (by decide)) (by first | exact id | exact fun _=>rfl) (fun _ _ h=>h.1) hr rfl T.m_law_sum T.F_law_sum.kp T.b_law_sum (QA.frz (a'a (qv 4) (a'a (qv 1) a'c)))) (a'a (a'e hu (h'V (c'P a'D (c'l a'b) (c'P a'D a'b (c'P a'D a'b h'U)))) (qv 7) (fun _ _=>rfl)) (a'a (a'q (a'a (qv 9) (a'a a'b a'c))) a'c))))))
   (a'f (a'k (a'q (a'a (qv 4) (a'a (qv 7) (a'a (qv 10) (a'a a'b (a'a a'b a'c))))))))))))))))),?_⟩
  rintro xs Q' _ ⟨_,f,g,names,pl,cell,_,_,rfl,o,q⟩
  walk_at "p"
  refine⟨rfl,cell,9,rfl,by decide,fun ys hl hR ρ=>?_⟩
  walk_at "p"
  have n4:=o.len
  refine⟨rfl,?_⟩
  refine Loop.map _ _ (fun i ρ=>∃ (m:List (Str×Rat)) (a b:Tr),ρ=[.lst f (names.map Enc.t),dicS g pl,.int cell,.lst .f (ys.map Enc.t),dicS .o m,a,b,.hole,.hole,.hole,.hole]∧(m.map (·.1)).Nodup∧(∀ p∈m,p.1∈names∧bs p.2≤4)∧m.length≤i) ⟨[],.hole,.hole,rfl,List.nodup_nil,(fun _ m=>nomatch m),Nat.le_refl _⟩ ?_ ?_
  · rintro i ⟨x,j⟩ ρ hx ⟨m,a,b,rfl,m1,m2,m3⟩
    obtain⟨rfl,hx⟩:=b'x hx
    have l:=(List.getElem?_eq_some_iff.mp hx).1
    obtain⟨y,hat,y0,y1⟩:=a'R hR hl (k:=j) (by omega) (by omega)
    walk_at "p"
    simp only [hat,Option.map_some]
    walk_at "p"
    refine⟨by decide,?_⟩
    have a0:=Int.emod_nonneg y (show (9:Int)≠0 by decide)
    have a1:=Int.emod_lt_of_pos y (show (0:Int)<9 by decide)
    split
    · refine⟨by decide,?_⟩
      have e:Tr.tup [.int (y % 9 - 4),.int 1]=Enc.t ((y % 9 - 4:Int):Rat):=rfl
      rw [e,k'g]
      have bz:=b'e (n:=y % 9 - 4) (k:=4) (by omega) (by decide)
      refine⟨by omega,ptd m x ((y % 9 - 4:Int):Rat),_,_,rfl,n'W m1 _ _,fun p hp=>?_,by have:=n'd m x ((y % 9 - 4:Int):Rat);omega⟩
      rcases n'c hp with e | hp
      · rw [e];exact⟨List.mem_of_getElem? hx,bz⟩
      · exact m2 p hp
    · exact⟨m,_,_,rfl,m1,m2,by omega⟩
  · rintro ρ ⟨m,a,b,rfl,m1,m2,m3⟩
    rw [List.length_zipIdx] at m3
    obtain⟨y4,ha4,b4,c4⟩:=a'R hR hl (k:=4) (by omega) (by omega)
    obtain⟨y5,ha5,b5,c5⟩:=a'R hR hl (k:=5) (by omega) (by omega)
    obtain⟨y6,ha6,b6,c6⟩:=a'R hR hl (k:=6) (by omega) (by omega)
    obtain⟨y7,ha7,b7,c7⟩:=a'R hR hl (k:=7) (by omega) (by omega)
    obtain⟨y8,ha8,b8,c8⟩:=a'R hR hl (k:=8) (by omega) (by omega)
    have hk:∃ (k:Str) (d:Int),atI [Tr.str (Str.ofString "least"),.str (Str.ofString "most"),.str (Str.ofString "just")] (y4 % 3)=some (.str k)∧((k="least"∧d=-1)∨(k="most"∧d=1)∨(k="just"∧d=0)):=by
      have h4:y4 % 3=0∨y4 % 3=1∨y4 % 3=2:=by omega
      rcases h4 with h | h | h<;>rw [h]
      · exact⟨_,-1,at0 _ _,.inl ⟨rfl,rfl⟩⟩
      · exact⟨_,1,at1 _ _ _,.inr (.inl ⟨rfl,rfl⟩)⟩
      · exact⟨_,0,at2 _ _ _ _,.inr (.inr ⟨rfl,rfl⟩)⟩
    have hw:∃ n:Int,atI [Tr.int 9,.int (10 ^ Int.toNat 6)] (y8 % 2)=some (.int n)∧0<n∧n≤1000000:=by
      have h4:y8 % 2=0∨y8 % 2=1:=by omega
      rcases h4 with h | h<;>rw [h]
      · exact⟨9,at0 _ _,by decide,by decide⟩
      · exact⟨_,at1 _ _ _,by decide,by decide⟩
    obtain⟨k,d,hk,kd⟩:=hk
    obtain⟨n,hw,n0,n1⟩:=hw
    walk_at "p"
    simp only [ha4,ha5,ha6,ha7,ha8,Option.map_some]
    walk_at "p"
    simp only [hk,hw]
    walk_at "p"
    have i6:=Int.emod_nonneg y6 (show (5:Int)≠0 by decide)
    have j6:=Int.emod_lt_of_pos y6 (show (0:Int)<5 by decide)
    have i7:=Int.emod_nonneg y7 (show (2:Int)≠0 by decide)
    have j7:=Int.emod_lt_of_pos y7 (show (0:Int)<2 by decide)
    refine⟨by decide,by decide,?_⟩
    split
    · rename_i c
      have c:=of_decide_eq_true c
      have w0:=Int.emod_nonneg y7 (show n≠0 by omega)
      have w1:=Int.emod_lt_of_pos y7 n0
      refine⟨by decide,⟨by decide,by decide,by decide⟩,by decide,n0,q (m,k,((y6 % 81 - 40:Int):Rat),y5 % 5,1+y7 % n) ⟨m1,(fun p hp=>(m2 p hp).1),(fun p hp=>(m2 p hp).2),by show m.length≤4;omega,by show 0≤y5 % 5;omega,by show 1≤1+y7 % n∧1+y7 % n≤1000000;omega,?_,fun _=>?_,fun z=>?_⟩ _⟩
      · exact Nat.le_trans (b'e (n:=y6 % 81 - 40) (k:=10) (by omega) (by decide)) (by decide)
      · exact b'e (n:=y6 % 81 - 40) (k:=10) (by omega) (by decide)
      · have z:y5 % 5=0:=z
        omega
    · refine⟨by decide,by decide,g'C (by omega) (by omega),?_⟩
      have hb:∀ p∈m,(gtd pl p.1).isSome=true∧bs p.2+bs (at' pl p.1)≤24:=fun p hp=>by
        have z:=o.at (m2 p hp).1
        have:=(m2 p hp).2
        exact⟨z.1,by omega⟩
      refine⟨rfl,g,m,pl,24,inferInstance,rfl,hb,by decide,by omega,fun bz ρ=>?_⟩
      simp only [pPairs]
      walk_at "p"
      refine⟨by decide,r'T kd ?_⟩
      walk_at "p"
      have e0:0≤y6 % 5*(y7 % 2)∧y6 % 5*(y7 % 2)≤4:=by
        have h4:y7 % 2=0∨y7 % 2=1:=by omega
        rcases h4 with h | h<;>rw [h]<;>omega
      generalize y6 % 5*(y7 % 2)=e at e0
      have d1:bi d≤1:=by rcases kd with ⟨_,rfl⟩ | ⟨_,rfl⟩ | ⟨_,rfl⟩<;>decide +kernel
      have d2:-1≤d∧d≤1:=by rcases kd with ⟨_,rfl⟩ | ⟨_,rfl⟩ | ⟨_,rfl⟩<;>decide
      have be:=b'e (n:=e) (k:=4) (by omega) (by decide)
      have bd:=b'e (n:=d) (k:=1) (by omega) (by decide)
      have bm:=a'Q (d:Rat) (e:Rat)
      have bn:=a'N (val m (at' pl)) ((d:Rat)*(e:Rat))
      have en:(0:Rat)≤(e:Rat):=by
        rw [show (0:Rat)=((0:Int):Rat) from rfl];exact Rat.intCast_le_intCast.mpr e0.1
      refine b'c (b:=(e:Rat)) (by omega) (by omega) fun ρ=>?_
      walk_at "p"
      refine q (m,k,val m (at' pl)+(d:Rat)*(e:Rat),0,1) ⟨m1,(fun p hp=>(m2 p hp).1),(fun p hp=>(m2 p hp).2),by show m.length≤4;omega,Int.le_refl _,⟨Int.le_refl _,show (1:Int)≤1000000 by decide⟩,by show bs (val m (at' pl)+(d:Rat)*(e:Rat))≤110;omega,fun z=>absurd rfl z,fun z=>?_⟩ _
      constructor
      · intro h
        show val m (at' pl)+(d:Rat)*(e:Rat)≤val m (at' pl)
        rcases kd with ⟨_,rfl⟩ | ⟨hk,rfl⟩ | ⟨_,rfl⟩
        · rw [g'K];grind
        · exact absurd hk h
        · rw [show ((0:Int):Rat)=0 from rfl,Rat.zero_mul,Rat.add_zero];exact Rat.le_refl
      · intro h
        show val m (at' pl)≤val m (at' pl)+(d:Rat)*(e:Rat)
        rcases kd with ⟨hk,rfl⟩ | ⟨_,rfl⟩ | ⟨_,rfl⟩
        · exact absurd hk h
        · rw [c't];grind
        · rw [show ((0:Int):Rat)=0 from rfl,Rat.zero_mul,Rat.add_zero];exact Rat.le_refl
theorem f'r (r:RowE) (off:Rat):(missN r off).natAbs≤off.num.natAbs:=by
  unfold missN
  repeat' split<;>omega
theorem j'S (P:Str→Rat) (r:RowE):bs (missR P r)≤bs (r.2.2.1 - val r.1 P):=by
  unfold missR
  generalize r.2.2.1 - val r.1 P=off
  refine b'd (by have:=den_pos off;omega) ?_ (a't off)
  exact e'u (Nat.lt_of_le_of_lt (f'r r off) (b'h (a'G off)))
theorem s'z {α:Type} [Enc α] (m:List (Str×α)) (f:Fl) (k:Int) (Q:Tr→Prop):wIn false (.int k) (dicS f m) Q=Q (.bl false):=by
  have e:look (m.map fun p=>((Sum.inr p.1:Key),Enc.t p.2)) (Sum.inl k)=none:=by
    induction m with
    | nil=>rfl
    | cons p m ih=>
      unfold look at ih ⊢
      rw [List.map_cons,List.find?_cons_of_neg (by simp)]
      exact ih
  show Q (.bl (look _ _).isSome)=_
  rw [e];rfl
theorem i'n {P:Str→Rat} {n:Nat}:∀ {m:List (Str×Rat)},(∀ p∈m,bs p.2+bs (P p.1)≤n)→bs (val m P)≤(n+1)*m.length+1
  | [], _ => by show bs 0 ≤ _; exact Nat.le_trans (by decide +kernel : bs 0 ≤ 1) (by omega)
  | p :: r, h => by
    have ih:=i'n (P:=P) (m:=r) fun q m=>h q (List.mem_cons_of_mem _ m)
    have h0:=h p List.mem_cons_self
    have a:=a'Q p.2 (P p.1)
    have b:=a'N (p.2*P p.1) (val r P)
    show bs (p.2*P p.1+val r P)≤_
    rw [List.length_cons,Nat.mul_succ]
    omega
def nW (rows:List RowE):Nat:=rows.countP fun r=>!decide (r.2.2.2.1=0)
theorem n'e {rows:List RowE} {i:Nat} {r:RowE} (h:rows[i]?=some r):nW (rows.take (i+1))=nW (rows.take i)+(if r.2.2.2.1=0 then 0 else 1):=by
  unfold nW
  rw [c'q h,List.countP_append,List.countP_singleton]
  congr 1
  by_cases c:r.2.2.2.1=0
  · rw [if_pos c,decide_eq_true c];rfl
  · rw [if_neg c,decide_eq_false c];rfl
theorem n'f (rows:List RowE) (i:Nat):nW (rows.take i)≤nW rows:=by
  conv=>rhs;rw [← List.take_append_drop i rows]
  unfold nW
  rw [List.countP_append];omega
def Rows (pl:List (Str×Rat)) (names:List Str) (rows:List RowE):Prop:=∀ r∈rows,RowOk pl names r
def g_goal:PSp:=spec 3 fun xs Q=>∃ (f g:Fl) (rows:List RowE) (goal:U32) (pl:List (Str×Rat)) (names:List Str),Fp f∧Fp g∧xs=[.lst f (rows.map Enc.t),Enc.t goal,dicS g pl]∧PlOk pl names∧Rows pl names rows∧nW rows≤5∧GoalIn names goal∧(bs (goalV (at' pl) rows goal)≤666→Q (Enc.t (goalV (at' pl) rows goal)))
theorem c'U (T:Tx K mg):FnOk P w K mg base CX0 5 T.a_law_goal T.d_law_goal ["_law_rows","_law_goal_here","_law_placing_here"] (spP K true 0 3 g_goal):=by
  refine a'z T.F_law_goal sc_law_goal rfl (by decide) fun cdv A outer s H E hr=>?_
  have hu:=a's hr
  refine⟨_,(a'd (a'A (a'l (o'q hu) h'L (qv 1) (qv 2) (by with_unfolding_all rfl)) (a'f (a'k (a'e hu (qv 2) (qv 1) (fun _ _=>rfl)))) a'r)
   (a'd (a'j (i:=3) sc_law_goal.nd (by decide) rfl (Or.inl rfl) (a'q (a'a a'b (a'a a'b a'c))))
   (a'd (a'S PassesOwn.never rfl (c'e (qv 0)) (a'x (i:=4) sc_law_goal.nd (by decide) rfl (Or.inl rfl)) (a'f (a'A (a'l (a'Y hr.units) a'w (a'e hu (qv 4) a'b (fun _ _=>rfl)) (qv 1) (by with_unfolding_all rfl)) (a'f (a'j (i:=3) sc_law_goal.nd (by decide) rfl (Or.inl rfl) (a'g ((a'u T).mono (by decide)) (by first | exact id | exact fun _=>rfl) (fun _ _ h=>h.1) hr rfl T.m_law_more T.F_law_more.kp T.b_law_more (QA.frz (a'a (qv 3) (a'a (a'e hu (qv 4) a'b (fun _ _=>rfl)) (a'a (a'g ((e'q T).mono (by decide)) (by first | exact id | exact fun _=>rfl) (fun _ _ h=>h.1) hr rfl T.m_law_missed T.F_law_missed.kp T.b_law_missed (QA.frz (a'a (qv 4) (a'a (qv 2) a'c)))) a'c))))))) a'r)))
   (a'f (a'k (qv 3)))))),?_⟩
  rintro xs Q' _ ⟨_,f,g,rows,goal,pl,names,_,_,rfl,o,ro,h9,hg,q⟩
  cases goal with
  | inr u =>
    have hz:=o.at hg
    obtain⟨v,hv⟩:=Option.isSome_iff_exists.mp hz.1
    have ev:goalV (at' pl) rows (.inr u)=v:=by show (gtd pl u).getD 0=v;rw [hv];rfl
    rw [ev] at q
    have hs:=o.sz _ _ hv
    have q:=q (by omega)
    walk_at "p"
    show wIn false (.str u) (dicS g pl) _
    rw [p'S,hv]
    walk_at "p"
    show wIdx (dicS g pl) (.str u) _
    walk_at "p"
    refine b'w _ _ v hv ?_
    exact⟨e_o _,q _⟩
  | inl k =>
    have hg:k≠0:=hg
    walk_at "p"
    show wIn false (.int k) (dicS g pl) _
    rw [s'z]
    walk_at "p"
    have q:bs (gZ (at' pl) k rows)≤666→∀ ρ,Q' (Enc.t (gZ (at' pl) k rows)) ρ:=q
    refine Loop.map _ _ (fun i ρ=>∃ (c:Rat) (a:Tr),ρ=[.lst f (rows.map Enc.t),Enc.t (Sum.inl k:U32),dicS g pl,Enc.t c,a]∧c=gZ (at' pl) k (rows.take i)∧bs c≤133*nW (rows.take i)+1) ⟨0,.hole,rfl,rfl,Nat.le_trans (by decide +kernel:bs 0≤1) (by omega)⟩ ?_ ?_
    · rintro i r ρ hx ⟨c,a,rfl,e,hb⟩
      have R:=ro r (List.mem_of_getElem? hx)
      have n1:=n'e hx
      have n2:=n'f rows (i+1)
      have gs:=m'V (P:=at' pl) (k:=k) hx
      walk_at "p"
      show wEq false (.int r.2.2.2.1) (.int k) _
      walk_at "p"
      split
      · rename_i c1
        have c1:r.2.2.2.1=k:=of_decide_eq_true c1
        have c0:¬ r.2.2.2.1=0:=by rw [c1];exact hg
        rw [if_neg c0] at n1
        rw [if_pos c1] at gs
        have w1:=R.wish c0
        have w2:=R.wt
        have hp:∀ p∈r.1,(gtd pl p.1).isSome=true∧bs p.2+bs (at' pl p.1)≤24:=fun p hp=>by
          have z:=o.at (R.dom p hp)
          have:=R.sz p hp
          exact⟨z.1,by omega⟩
        refine⟨rfl,g,r,pl,24,inferInstance,rfl,hp,by decide,by have:=R.len;omega,by omega,fun bv ρ=>?_⟩
        have b1:=i'n (P:=at' pl) (n:=24) (m:=r.1) fun p m=>(hp p m).2
        have b2:=c'C r.2.2.1 (val r.1 (at' pl))
        have b3:=j'S (at' pl) r
        have b4:=b'e (n:=r.2.2.2.2) (k:=20) (by omega) (by decide)
        have b5:=a'Q ((r.2.2.2.2:Int):Rat) (missR (at' pl) r)
        have b6:=a'N c (((r.2.2.2.2:Int):Rat)*missR (at' pl) r)
        have b7:=a't (r.2.2.1 - val r.1 (at' pl))
        have b8:bi (missN r (r.2.2.1 - val r.1 (at' pl)))≤bs (r.2.2.1 - val r.1 (at' pl)):=e'u (Nat.lt_of_le_of_lt (f'r r _) (b'h (a'G _)))
        have b9:bi r.2.2.2.2≤20:=a'F 20 (by omega)
        have l4:=R.len
        walk_at "p"
        refine⟨rfl,c,_,_,_,rfl,den_pos _,by omega,by omega,by omega,fun ρ=>?_⟩
        walk_at "p"
        exact⟨c+((r.2.2.2.2:Int):Rat)*missR (at' pl) r,_,rfl,by rw [gs,e],by omega⟩
      · rename_i c1
        rw [if_neg (fun z=>c1 (decide_eq_true z)),Rat.add_zero] at gs
        exact⟨c,_,rfl,by rw [gs,e],by omega⟩
    · rintro ρ ⟨c,a,rfl,e,hb⟩
      rw [List.take_length] at e hb
      subst e
      walk_at "p"
      exact q (by omega) _
theorem CLoop.mem {γ β:Type} [Enc β] (ys:List γ) (g:γ→Tr) (Pr:β→Prop) {pg:PG'} {pe:PE'} {σ':List Tr} {Q:Tr→Prop} (hl:ys.length≤1000000) (step:∀ y∈ys,∀ R:Tr→Prop,(∀ b:β,Pr b→R (Enc.t b))→pg (g y) σ' fun ρ2=>pe ρ2 R) (q:∀ zs:List β,zs.length=ys.length→(∀ z∈zs,Pr z)→Q (.lst .o (zs.map Enc.t))):CLoop (ys.map g) pg pYes pe σ' Q:=by
  refine⟨fun i acc=>∃ zs:List β,acc=zs.map Enc.t∧zs.length=min i ys.length∧∀ z∈zs,Pr z,⟨[],rfl,by rw [List.length_nil];omega,fun _ m=>nomatch m⟩,fun i t acc e a=>?_,fun acc a=>?_⟩
  · rw [List.getElem?_map] at e
    cases e':ys[i]? with
    | none=>rw [e'] at e;cases e
    | some y=>
      rw [e'] at e
      cases e
      have l:=(List.getElem?_eq_some_iff.mp e').1
      obtain⟨zs,rfl,z1,z2⟩:=a
      refine step y (List.mem_of_getElem? e') _ fun b hb=>⟨?_,zs++[b],?_,?_,?_⟩
      · rw [List.length_map];omega
      · rw [List.map_append];rfl
      · rw [List.length_append,List.length_singleton];omega
      · intro z m
        rcases List.mem_append.mp m with m | m
        · exact z2 z m
        · rw [List.mem_singleton.mp m];exact hb
  · obtain⟨zs,rfl,z1,z2⟩:=a
    rw [List.length_map] at z1 ⊢
    exact⟨by omega,q zs (by omega) z2⟩
theorem g'o {n:Nat} (t:U32):∀ {z:List ((U32×Rat)×Rat)},(∀ p∈z,bs p.2≤n)→bs (cntZ t z)≤(n+1)*z.length+1
  | [], _ => by show bs 0 ≤ _; exact Nat.le_trans (by decide +kernel : bs 0 ≤ 1) (by omega)
  | p :: r, h => by
    have ih:=g'o t (z:=r) fun q m=>h q (List.mem_cons_of_mem _ m)
    have h0:=h p List.mem_cons_self
    have b:=a'N (cntZ t r) p.2
    show bs (cntZ t r+(if p.1.1=t then p.2 else 0))≤_
    rw [List.length_cons,Nat.mul_succ]
    split
    · omega
    · rw [Rat.add_zero];omega
theorem g'p {n:Nat} {st:List (U32×Rat)} {sh:List Rat} (goal t:U32) (h:∀ s∈sh,bs s≤n) (hl:st.length≤3):bs (cntR st sh goal t)≤3*n+6:=by
  unfold cntR
  have a:=g'o (n:=n) t (z:=st.zip sh) fun p m=>h _ (List.of_mem_zip m).2
  have b:=a'N (if t=goal then 1 else 0) (cntZ t (st.zip sh))
  have c:bs (if t=goal then (1:Rat) else 0)≤1:=by split<;>decide +kernel
  have l:(st.zip sh).length≤3:=by rw [List.length_zip];omega
  have u:(n+1)*(st.zip sh).length≤(n+1)*3:=Nat.mul_le_mul_left _ l
  omega
def g_price:PSp:=spec 6 fun xs Q=>∃ (f g h:Fl) (rows:List RowE) (st:List (U32×Rat)) (sh:List Rat) (goal:U32) (k:Nat) (r:RowE) (n:Int),Fp f∧Fp g∧Fp h∧xs=[.lst f (rows.map Enc.t),.int k,Enc.t goal,.lst g (st.map Enc.t),.lst h (sh.map Enc.t),.int n]∧rows[k]?=some r∧0≤r.2.2.2.2∧r.2.2.2.2≤1000000∧st.length≤3∧sh.length=st.length∧(∀ s∈sh,bs s≤5)∧0≤n∧∀ p:Rat,bs p≤50→Q (Enc.t p)
theorem r'U (p:Rat):Tr.tup [.int (0 - p.num),.int p.den]=Enc.t (-p):=by
  show _=Tr.tup [.int (-p).num,.int (-p).den]
  rw [Int.zero_sub];rfl
theorem n'g (p:Rat):bs (-p)=bs p:=by
  show max (bl (-p.num).natAbs) (bl p.den)=max (bl p.num.natAbs) (bl p.den);rw [Int.natAbs_neg]
theorem f's (T:Tx K mg) {z:Bool}:FnOk P w K mg base CX0 5 T.a_law_price T.d_law_price ["_law_rows","_law_k","_law_goal_here","_law_settled","_law_shares","_law_number"] (spP K z 0 6 g_price):=by
  refine a'z T.F_law_price sc_law_price rfl (by decide) fun cdv A outer s H E hr=>?_
  have hu:=a's hr
  refine⟨_,(a'd (a'j (i:=6) sc_law_price.nd (by decide) rfl (Or.inl rfl) (a'g ((a'J T).mono (by decide)) (by first | exact id | exact fun _=>rfl) (fun _ _ h=>h.1) hr rfl T.m_law_lowest T.F_law_lowest.kp T.b_law_lowest (QA.frz (a'a (a'p (qv 5) a'b) (a'a a'b a'c)))))
   (a'd (a'j (i:=7) sc_law_price.nd (by decide) rfl (Or.inl rfl) (a'q (a'a (a'p (a'M (qv 5) a'b) a'b) (a'a a'b a'c))))
   (a'd (a'A (a'l d'K c'g (a'e hu (a'e hu (qv 0) (qv 1) (fun _ _=>rfl)) a'b (fun _ _=>rfl)) a'b (by with_unfolding_all rfl)) (a'f (a'j (i:=7) sc_law_price.nd (by decide) rfl (Or.inl rfl) (a'g ((c'S T).mono (by decide)) (by first | exact id | exact fun _=>rfl) (fun _ _ h=>h.1) hr rfl T.m_law_room T.F_law_room.kp T.b_law_room (QA.frz (a'a (qv 0) (a'a (qv 1) (a'a (qv 2) (a'a (qv 3) (a'a (qv 4) a'c))))))))) a'r)
   (a'd (a'j (i:=8) sc_law_price.nd (by decide) rfl (Or.inl rfl) (a'g ((b'E T).mono (by decide)) (by first | exact id | exact fun _=>rfl) (fun _ _ h=>h.1) hr rfl T.m_law_by T.F_law_by.kp T.b_law_by (QA.frz (a'a (qv 6) (a'a (qv 7) a'c)))))
   (a'd (a'A (QW.t (c'm (a'l (a'Y hr.units) a'w (a'e hu (a'e hu (qv 0) (qv 1) (fun _ _=>rfl)) a'b (fun _ _=>rfl)) a'D (by with_unfolding_all rfl)) (c'i (QW.t (b'g (a'l (a'Y hr.units) a'w (a'e hu (a'e hu (qv 0) (qv 1) (fun _ _=>rfl)) a'b (fun _ _=>rfl)) a'D (by with_unfolding_all rfl)) (b'f (a'l (a'Y hr.units) a'w (a'p (a'M (qv 5) a'b) a'b) a'b (by with_unfolding_all rfl)))))))) (a'f (a'k (a'q (a'a (b'Y a'b (a'e hu (qv 8) a'b (fun _ _=>rfl))) (a'a (a'e hu (qv 8) a'b (fun _ _=>rfl)) a'c))))) a'r)
   (a'f (a'k (qv 8)))))))),?_⟩
  rintro xs Q' _ ⟨_,f,g,h,rows,st,sh,goal,k,r,n,_,_,_,rfl,hk,r0,r1,h1,h0,h2,n0,q⟩
  have hl:=(List.getElem?_eq_some_iff.mp hk).1
  have hat:atI rows (k:Int)=some r:=by
    rw [a'V rows (Int.natCast_nonneg k) (by rw [Int.toNat_natCast];exact hl)]
    rw [← hk,List.getElem?_eq_getElem hl]
    simp only [Int.toNat_natCast]
  walk_at "p"
  have s0:bs (Rat.divInt (n % 7) 6)≤3:=b'd (by decide) (a'F 3 (by omega)) (by decide +kernel)
  refine⟨by decide,rfl,_,_,rfl,by decide,by decide +kernel,fun ρ=>?_⟩
  generalize Rat.divInt (n % 7) 6=sh0 at s0
  walk_at "p"
  simp only [hat,Option.map_some]
  walk_at "p"
  refine⟨⟨by decide,a'v (by decide)⟩,by decide,?_⟩
  have fin:∀ (p:Rat),bs p≤50→∀ ρ,Q' (Enc.t p) ρ∧Q' (.tup [.int (0 - p.num),.int p.den]) ρ:=fun p hp ρ=>⟨q p hp ρ,by rw [r'U];exact q (-p) (by rw [n'g];exact hp) ρ⟩
  split
  · refine⟨rfl,f,g,h,rows,st,sh,goal,k,r,inferInstance,inferInstance,inferInstance,rfl,hk,r0,r1,by omega,h0,(fun s m=>Nat.le_trans (h2 s m) (by decide)),fun hb ρ=>?_⟩
    have c1:=g'p goal (.inl r.2.2.2.1) h2 h1
    have c2:=b'e (n:=r.2.2.2.2) (k:=20) (by omega) (by decide)
    have c3:=a'Q ((r.2.2.2.2:Int):Rat) (cntR st sh goal (.inl r.2.2.2.1))
    have c4:bs (roomR st sh goal r)≤41:=by unfold roomR;omega
    have c5:=a'Q sh0 (roomR st sh goal r)
    walk_at "p"
    refine b'n (by omega) fun ρ=>?_
    walk_at "p"
    have fin:=fin (sh0*roomR st sh goal r) (by omega)
    split
    · exact (fin _).2
    · split
      · refine⟨⟨by decide,a'v (by decide)⟩,by decide,?_⟩
        split
        · exact (fin _).2
        · exact (fin _).1
      · exact (fin _).1
  · have c4:=b'e (n:=n.fdiv 7 % 9) (k:=4) (by omega) (by decide)
    have c5:=a'Q sh0 ((n.fdiv 7 % 9:Int):Rat)
    refine b'n (b:=((n.fdiv 7 % 9:Int):Rat)) (by omega) fun ρ=>?_
    walk_at "p"
    have fin:=fin (sh0*((n.fdiv 7 % 9:Int):Rat)) (by omega)
    split
    · exact (fin _).2
    · split
      · refine⟨⟨by decide,a'v (by decide)⟩,by decide,?_⟩
        split
        · exact (fin _).2
        · exact (fin _).1
      · exact (fin _).1
theorem d'j {m:List (Str×Rat)} {u:Str} {y:Rat} (h:gtd m u=some y):(u,y)∈m:=by
  unfold gtd at h
  cases e:m.find? fun p=>decide (p.1=u) with
  | none => rw [e] at h; cases h
  | some p =>
    rw [e] at h
    cases h
    have:=List.find?_some e
    have e1:p.1=u:=of_decide_eq_true this
    rw [← e1]
    exact List.mem_of_find?_eq_some e
theorem i'o {n:Nat}:∀ {z:List (Rat×Rat)},(∀ p∈z,bs p.1+bs p.2≤n)→bs (wgtZ z)≤(n+1)*z.length+1
  | [], _ => by show bs 0 ≤ _; exact Nat.le_trans (by decide +kernel : bs 0 ≤ 1) (by omega)
  | p :: r, h => by
    have ih:=i'o (z:=r) fun q m=>h q (List.mem_cons_of_mem _ m)
    have h0:=h p List.mem_cons_self
    have a:=a'Q p.1 p.2
    have b:=a'N (wgtZ r) (p.1*p.2)
    show bs (wgtZ r+p.1*p.2)≤_
    rw [List.length_cons,Nat.mul_succ]
    omega
theorem f't:∀ {z:List (Rat×Rat)},(∀ p∈z,p.1*p.2=0)→wgtZ z=0
  | [], _ => rfl
  | p :: r, h => by
    show wgtZ r+p.1*p.2=0
    rw [f't fun q m=>h q (List.mem_cons_of_mem _ m),h p List.mem_cons_self,Rat.add_zero]
theorem i'p {rows:List RowE} {names:List Str} {m j:Nat} {p1 p2:List Rat} {u:Str} (e0:rows.length=m+names.length) (l2:p1.length=m) (nd:names.Nodup) (lst:∀ (j:Nat) (u:Str),names[j]?=some u→∃ q,rows[m+j]?=some (([(u,1)],"most",q,0,1):RowE)) (hx:names[j]?=some u) (g3:p2[j]?=some 0) (b1:∀ p∈p1,bs p≤50) (sz:∀ r∈rows,∀ y,gtd r.1 u=some y→bs y≤4) (m5:m≤5):bs (colR rows (p1++p2) u)≤276:=by
  unfold colR
  conv=>lhs;rw [← List.take_append_drop m rows]
  rw [List.map_append,List.zip_append (by rw [List.length_map,List.length_take];omega),d'f]
  have z2:wgtZ (p2.zip ((rows.drop m).map fun r=>(gtd r.1 u).getD 0))=0:=f't fun p hp=>by
    obtain⟨k,hk⟩:=List.getElem?_of_mem hp
    obtain⟨h1,h2⟩:=List.getElem?_zip_eq_some.mp hk
    rw [List.getElem?_map,List.getElem?_drop] at h2
    by_cases e:k=j
    · subst e
      rw [g3] at h1
      have h1:(0:Rat)=p.1:=by simpa using h1
      rw [← h1,Rat.zero_mul]
    · cases hn:names[k]? with
      | none=>
        have:=List.getElem?_eq_none_iff.mp hn
        rw [List.getElem?_eq_none (by omega)] at h2
        cases h2
      | some v=>
        obtain⟨q,hq⟩:=lst k v hn
        rw [hq] at h2
        have ne:¬ v=u:=fun z=>by
          subst z
          have lk:=(List.getElem?_eq_some_iff.mp hn).1
          exact e ((List.getElem?_inj lk nd).mp (hn.trans hx.symm))
        have h2:(gtd [(v,(1:Rat))] u).getD 0=p.2:=by simpa using h2
        rw [f'i (by rw [List.map_singleton,List.mem_singleton];exact fun z=>ne z.symm)] at h2
        have h2:(0:Rat)=p.2:=h2
        rw [← h2,Rat.mul_zero]
  rw [z2,Rat.add_zero]
  have a:=i'o (n:=54) (z:=p1.zip ((rows.take m).map fun r=>(gtd r.1 u).getD 0)) fun p hp=>by
    have m1:=List.of_mem_zip hp
    obtain⟨r,mr,e⟩:=List.mem_map.mp m1.2
    have x1:=b1 _ m1.1
    have x2:bs p.2≤4:=by
      rw [← e]
      cases g:gtd r.1 u with
      | none=>decide +kernel
      | some y=>exact sz r (List.mem_of_mem_take mr) y g
    omega
  have l:(p1.zip ((rows.take m).map fun r=>(gtd r.1 u).getD (0:Rat))).length≤5:=by rw [List.length_zip];omega
  refine Nat.le_trans a ?_
  omega
theorem n'h {p1 p2:List Rat} {m j:Nat} {v:Rat} (l2:p1.length=m) (hj:j<p2.length) {Q:List Tr→Prop} (q:Q ((p1++p2.set j v).map Enc.t)):wSetL ((p1++p2).map Enc.t) (.int ((m:Int)+j)) (Enc.t v) Q:=by
  unfold wSetL
  have e:ixN ((p1++p2).map (Enc.t (α:=Rat))).length ((m:Int)+j)=some (m+j):=by
    unfold ixN
    rw [List.length_map,List.length_append,if_pos (by omega),if_pos (by omega)]
    congr 1
  dsimp only
  rw [e]
  dsimp only
  rw [← List.map_set,List.set_append_right (m+j) v (by omega)]
  rw [show m+j - p1.length=j by omega]
  exact q
def g_paper:PSp:=spec 5 fun xs Q=>∃ (f g h i:Fl) (rows:List RowE) (names:List Str) (st:List (U32×Rat)) (goal:U32) (ys:List Int) (pl:List (Str×Rat)) (m:Nat),Fp f∧Fp g∧Fp h∧Fp i∧xs=[.lst f (rows.map Enc.t),.lst g (names.map Enc.t),.lst h (st.map Enc.t),Enc.t goal,.lst i (ys.map Enc.t)]∧Rows pl names rows∧rows.length=m+names.length∧m≤5∧names.length≤4∧names.Nodup∧1≤names.length∧st.length≤3∧ys.length=16∧InR ys∧(∀ (j:Nat) (u:Str),names[j]?=some u→∃ q,rows[m+j]?=some (([(u,1)],"most",q,0,1):RowE))∧∀ (pr sh:List Rat),pr.length=rows.length→sh.length=st.length→(∀ s∈sh,bs s≤5)→(∀ p∈pr,bs p≤390)→Q (.tup [.lst .f (pr.map Enc.t),.lst .f (sh.map Enc.t)])
theorem f'u (T:Tx K mg) {z:Bool}:FnOk P w K mg base CX0 6 T.a_law_paper T.d_law_paper ["_law_rows","_law_names","_law_settled","_law_goal_here","_law_xs"] (spP K z 0 5 g_paper):=by
  refine a'z T.F_law_paper sc_law_paper rfl (by decide) fun cdv A outer s H E hr=>?_
  have hu:=a's hr
  refine⟨_,(a'd (a'j (i:=5) sc_law_paper.nd (by decide) rfl (Or.inr rfl) (b'R (N:=["_law_k","_law_xs"]) (ix:=[none,some 4]) rfl (e'w rfl T.z_range (a'a (a'K a'T a'B rfl T.z_len rfl (a'a (qv 2) a'c)) a'c)) (c'o (i:=0) (by decide) rfl) (fun _ _ _ _ _=>b'o) (fun _ _ _ _ _=>(a'g ((a'J T).mono (by decide)) (by first | exact id | exact fun _=>rfl) (fun _ _ h=>h.1) hr rfl T.m_law_lowest T.F_law_lowest.kp T.b_law_lowest (QA.frz (a'a (a'p (a'e hu (qv 1) (qv 0) (fun _ _=>rfl)) a'b) (a'a (a'e hu (a'X (a'a a'b (a'a a'b a'c))) (a'p (a'M (a'e hu (qv 1) (qv 0) (fun _ _=>rfl)) a'b) a'b) (fun _ _=>rfl)) a'c))))) ⟨rfl,rfl,rfl,True.intro⟩))
   (a'd (a'j (i:=6) sc_law_paper.nd (by decide) rfl (Or.inl rfl) (b'Y (a'K a'T a'B rfl T.z_len rfl (a'a (qv 0) a'c)) (a'K a'T a'B rfl T.z_len rfl (a'a (qv 1) a'c))))
   (a'd (h'O (i:=7) (N:=["_law_k","_law_rows","_law_goal_here","_law_settled","_law_shares","_law_xs"]) (ix:=[none,some 0,some 3,some 2,some 5,some 4]) sc_law_paper.nd (by decide) rfl (Or.inl rfl) rfl (e'w rfl T.z_range (a'a (qv 6) a'c)) (c'o (i:=0) (by decide) rfl) (fun _ _ _ _ _=>b'o) (fun _ _ _ _ _=>(a'g ((f's T).mono (by decide)) (by first | exact id | exact fun _=>rfl) (fun _ _ h=>h.1) hr rfl T.m_law_price T.F_law_price.kp T.b_law_price (QA.frz (a'a (qv 1) (a'a (qv 0) (a'a (qv 2) (a'a (qv 3) (a'a (qv 4) (a'a (a'e hu (qv 5) (b'a a'b (qv 0)) (fun _ _=>rfl)) a'c))))))))) ⟨rfl,rfl,rfl,⟨rfl,rfl,rfl,⟨rfl,rfl,rfl,⟨rfl,rfl,rfl,⟨rfl,rfl,rfl,True.intro⟩⟩⟩⟩⟩)
   (a'd (b'Z (i:=7) sc_law_paper.nd (by decide) rfl (Or.inl rfl) (b'a (qv 7) (b'R (N:=["_law_name"]) (ix:=[none]) rfl (c'e (qv 1)) (c'o (i:=0) (by decide) rfl) (fun _ _ _ _ _=>b'o) (fun _ _ _ _ _=>(a'q (a'a a'b (a'a a'b a'c)))) True.intro)))
   (a'd (a'S PassesOwn.never rfl (c'n rfl T.z_enumerate (a'a (qv 1) a'c)) (b'l (n:=2) rfl (a'm (a'x (i:=8) sc_law_paper.nd (by decide) rfl (Or.inl rfl)) (a'm (a'x (i:=9) sc_law_paper.nd (by decide) rfl (Or.inl rfl)) a'L))) (a'd (a'j (i:=10) sc_law_paper.nd (by decide) rfl (Or.inl rfl) (a'g ((a'u T).mono (by decide)) (by first | exact id | exact fun _=>rfl) (fun _ _ h=>h.1) hr rfl T.m_law_more T.F_law_more.kp T.b_law_more (QA.frz (a'a (a'g ((c'T T).mono (by decide)) (by first | exact id | exact fun _=>rfl) (fun _ _ h=>h.1) hr rfl T.m_law_sums T.F_law_sums.kp T.b_law_sums (QA.frz (a'a (qv 0) (a'a (qv 7) (a'a (qv 9) a'c))))) (a'a (c'l a'b) (a'a (a'g ((c'u T).mono (by decide)) (by first | exact id | exact fun _=>rfl) (fun _ _ h=>h.1) hr rfl T.m_law_let T.F_law_let.kp T.b_law_let (QA.frz (a'a (qv 3) (a'a (qv 2) (a'a (qv 5) (a'a (qv 9) a'c)))))) a'c))))))
   (a'd (a'j (i:=10) sc_law_paper.nd (by decide) rfl (Or.inl rfl) (a'g ((a'u T).mono (by decide)) (by first | exact id | exact fun _=>rfl) (fun _ _ h=>h.1) hr rfl T.m_law_more T.F_law_more.kp T.b_law_more (QA.frz (a'a (qv 10) (a'a (a'M (a'p (a'e hu (qv 4) (b'a a'b (qv 8)) (fun _ _=>rfl)) a'b) a'b) (a'a (a'q (a'a a'b (a'a a'b a'c))) a'c))))))
   (a'f (d'x (b'Q 7) (b'a (qv 6) (qv 8)) (a'g ((a'J T).mono (by decide)) (by first | exact id | exact fun _=>rfl) (fun _ _ h=>h.1) hr rfl T.m_law_lowest T.F_law_lowest.kp T.b_law_lowest (QA.frz (a'a (a'K (g'Y rfl) l'C rfl T.z_min rfl (a'a (b'Y a'b (a'e hu (qv 10) a'b (fun _ _=>rfl))) (a'a a'b a'c))) (a'a (a'e hu (qv 10) a'b (fun _ _=>rfl)) a'c)))))))))
   (f'c 7 (a'f (a'k (a'q (a'a (qv 7) (a'a (qv 5) a'c))))))))))),?_⟩
  rintro xs Q' _ ⟨_,f,g,h,i,rows,names,st,goal,ys,pl,m,_,_,_,_,rfl,ro,e0,m5,n4,nd,n1,h3,hl,hR,lst,q⟩
  walk_at "p"
  refine⟨by omega,by omega,CLoop.mem (β:=Rat) (List.range _) _ (fun s=>bs s≤5) (by rw [List.length_range];omega) (fun k hk R hR'=>?_) fun sh l1 s5=>?_⟩
  · rw [List.mem_range] at hk
    obtain⟨y,hat,y0,y1⟩:=a'R hR hl (k:=k) (by omega) (by omega)
    have hd:∃ n:Int,atI [Tr.int 1,.int 2] (y.fdiv 11 % 2)=some (.int n)∧0<n∧n≤2:=by
      have h4:y.fdiv 11 % 2=0∨y.fdiv 11 % 2=1:=by omega
      rcases h4 with h | h<;>rw [h]
      · exact⟨1,at0 _ _,by decide,by decide⟩
      · exact⟨2,at1 _ _ _,by decide,by decide⟩
    obtain⟨d,hd,d0,d1⟩:=hd
    walk_at "p"
    simp only [hat,Option.map_some]
    walk_at "p"
    simp only [hd]
    walk_at "p"
    have k2:bi d≤4:=a'F 4 (by omega)
    refine⟨by decide,⟨by decide,a'v (by decide)⟩,by decide,rfl,_,d,rfl,d0,by omega,fun ρ=>?_⟩
    exact hR' _ (b'd (by omega) (a'F 5 (by omega)) (by omega))
  rw [List.length_range] at l1
  have l1:sh.length=st.length:=by omega
  walk_at "p"
  have em:((rows.length:Int) - names.length)=m:=by omega
  rw [em]
  refine⟨by omega,by omega,CLoop.mem (β:=Rat) (List.range _) _ (fun s=>bs s≤50) (by rw [List.length_range];omega) (fun k hk R hR'=>?_) fun p1 l2 b1=>?_⟩
  · rw [List.mem_range] at hk
    obtain⟨y,hat,y0,y1⟩:=a'R hR hl (k:=3+k) (by omega) (by omega)
    have hrk:rows[k]?=some (rows[k]'(by omega)):=List.getElem?_eq_getElem _
    have R:=ro _ (List.mem_of_getElem? hrk)
    walk_at "p"
    simp only [hat,Option.map_some]
    walk_at "p"
    exact⟨rfl,f,h,.f,rows,st,sh,goal,k,_,y,inferInstance,inferInstance,inferInstance,rfl,hrk,by have:=R.wt;omega,R.wt.2,h3,l1,s5,y0,fun p hp ρ=>hR' p hp⟩
  rw [List.length_range] at l2
  walk_at "p"
  refine CLoop.map names Enc.t (fun _=>(0:Rat)) (by omega) (fun u hu R hR'=>?_) ?_
  · walk_at "p"
    exact hR'
  walk_at "p"
  rw [← List.map_append]
  have l2:p1.length=m:=by omega
  refine⟨by omega,j'o _,Loop.map _ _ (fun k ρ=>∃ (p2:List Rat) (a b c:Tr),ρ=[.lst f (rows.map Enc.t),.lst g (names.map Enc.t),.lst h (st.map Enc.t),Enc.t goal,.lst i (ys.map Enc.t),.lst .f (sh.map Enc.t),.int m,.lst .o ((p1++p2).map Enc.t),a,b,c]∧p2.length=names.length∧(∀ p∈p2,bs p≤390)∧∀ j,k≤j→j<names.length→p2[j]?=some 0) ⟨names.map fun _=>0,.hole,.hole,.hole,rfl,?_,?_,?_⟩ ?_ ?_⟩
  · rw [List.length_map]
  · intro p hp
    obtain⟨_,_,rfl⟩:=List.mem_map.mp hp
    decide +kernel
  · intro j _ hj
    rw [List.getElem?_map,List.getElem?_eq_getElem hj];rfl
  · rintro k ⟨u,j⟩ ρ hx ⟨p2,a,b,c,rfl,g1,g2,g3⟩
    obtain⟨rfl,hx⟩:=b'x hx
    have l:=(List.getElem?_eq_some_iff.mp hx).1
    have lp:(p1++p2).length=rows.length:=by rw [List.length_append];omega
    have o9:rows.length≤9:=by omega
    have bp:∀ p∈p1++p2,bs p≤400:=fun p hp=>(List.mem_append.mp hp).elim (fun z=>Nat.le_trans (b1 p z) (by decide)) (fun z=>Nat.le_trans (g2 p z) (by decide))
    walk_at "p"
    refine⟨rfl,f,_,rows,p1++p2,u,inferInstance,inferInstance,rfl,by omega,lp,bp,?_,fun hb ρ=>?_⟩
    · intro r hr y hy
      exact Nat.le_trans ((ro r hr).sz (u,y) (d'j hy)) (by decide)
    walk_at "p"
    refine⟨rfl,h,.f,st,sh,goal,.inr u,inferInstance,inferInstance,rfl,by omega,l1,(fun s m=>Nat.le_trans (s5 s m) (by decide)),fun hc ρ=>?_⟩
    walk_at "p"
    have g0:=g3 j (Nat.le_refl _) l
    have c1:=i'p e0 l2 nd lst hx g0 b1 (fun r hr y hy=>(ro r hr).sz (u,y) (d'j hy)) m5
    have c2:=g'p goal (.inr u) s5 h3
    obtain⟨y,hat,y0,y1⟩:=a'R hR hl (k:=9+j) (by omega) (by omega)
    generalize colR rows (p1++p2) u=A at c1
    generalize cntR st sh goal (.inr u)=B at c2
    have c3:=c'C A B
    have c4:=c'C A B
    refine b'c (by omega) (by decide +kernel) fun ρ=>?_
    rw [g'K]
    generalize A - B=D at c3
    walk_at "p"
    simp only [hat,Option.map_some]
    walk_at "p"
    have d0:0≤(y % 5).fdiv 3∧(y % 5).fdiv 3≤1:=by rw [Int.fdiv_eq_ediv_of_nonneg _ (by decide)];omega
    refine⟨by decide,⟨by decide,a'v (by decide)⟩,?_⟩
    generalize (y % 5).fdiv 3=d at d0
    have t3:Tr.tup [.int 1,.int 3]=Enc.t (Rat.divInt 1 3):=by rw [show Rat.divInt 1 3=⟨1,3,by decide,by decide⟩ by decide +kernel];rfl
    rw [t3]
    have b3:bs (Rat.divInt 1 3)≤2:=by decide +kernel
    have bd:=b'e (n:=d) (k:=1) (by omega) (by decide)
    have bm:=a'Q (d:Rat) (Rat.divInt 1 3)
    have bn:=a'N D ((d:Rat)*Rat.divInt 1 3)
    refine b'c (by omega) (Nat.le_trans (a'F 1 (by omega)) (by decide)) fun ρ=>?_
    generalize D+(d:Rat)*Rat.divInt 1 3=X at bn
    walk_at "p"
    have xd:=a't X
    have xn:=a'G X
    refine⟨rfl,_,_,rfl,den_pos X,by omega,fun ρ=>?_⟩
    walk_at "p"
    have bv:bs (Rat.divInt (if 0<0 - X.num then 0 else 0 - X.num) X.den)≤390:=by
      refine b'd (by have:=den_pos X;omega) (e'u (Nat.lt_of_le_of_lt ?_ (b'h (Nat.le_trans xn (show bs X≤390 by omega))))) (by omega)
      split<;>omega
    generalize Rat.divInt (if 0<0 - X.num then 0 else 0 - X.num) X.den=V at bv
    refine n'h l2 (by omega) ?_
    refine⟨p2.set j V,_,_,_,rfl,by rw [List.length_set];exact g1,fun p hp=>?_,fun k hk kl=>?_⟩
    · rcases List.mem_or_eq_of_mem_set hp with hp | hp
      · exact g2 p hp
      · rw [hp];exact bv
    · rw [List.getElem?_set_ne (by omega)]
      exact g3 k (by omega) kl
  · rintro ρ ⟨p2,a,b,c,rfl,g1,g2,g3⟩
    walk_at "p"
    exact q (p1++p2) sh (by rw [List.length_append];omega) l1 s5 (fun p hp=>(List.mem_append.mp hp).elim (fun z=>Nat.le_trans (b1 p z) (by decide)) (fun z=>g2 p z)) _
theorem n'i (s:Rat) (k:Int):(s.num - k*s.den).natAbs.Coprime s.den:=by
  have h:=s.reduced
  have e:Int.gcd (s.num - k*s.den) s.den=Int.gcd s.num s.den:=by
    rw [Int.gcd_sub_mul_right_left]
  have e2:Int.gcd (s.num - k*s.den) s.den=(s.num - k*s.den).natAbs.gcd s.den:=rfl
  have e3:Int.gcd s.num s.den=s.num.natAbs.gcd s.den:=rfl
  rw [e2,e3] at e
  exact e.trans h
theorem d'R {β:Type} [Enc β] {xs:List β} {j:Int} {v:β} (h0:0≤j) (h1:j<xs.length) {Q:List Tr→Prop} (q:Q ((xs.set j.toNat v).map Enc.t)):wSetL (xs.map Enc.t) (.int j) (Enc.t v) Q:=by
  unfold wSetL
  have e:ixN (xs.map (Enc.t (α:=β))).length j=some j.toNat:=by
    unfold ixN
    rw [List.length_map,if_pos h0,if_pos h1]
  dsimp only
  rw [e]
  dsimp only
  rw [← List.map_set]
  exact q
theorem c'v {n:Nat} {xs:List Rat} {k:Nat} {v:Rat} (h:∀ x∈xs,bs x≤n) (hv:bs v≤n):∀ x∈xs.set k v,bs x≤n:=fun x hx=>by
  rcases List.mem_or_eq_of_mem_set hx with hx | hx
  · exact h x hx
  · rw [hx];exact hv
theorem f'v {α:Type} (xs:List α) (l h:Option Int):(cutT xs l h).length≤xs.length:=by
  unfold cutT
  rw [List.length_take,List.length_drop];omega
theorem d'k {α:Type} {xs:List α} {l h:Option Int} {x:α} (m:x∈cutT xs l h):x∈xs:=List.mem_of_mem_drop (List.mem_of_mem_take m)
def shf (s:Rat) (k:Int):Rat:=⟨s.num - k*s.den,s.den,s.den_nz,n'i s k⟩
def g_forged:PSp:=spec 2 fun xs Q=>∃ (f g i:Fl) (pr sh:List Rat) (ys:List Int),Fp f∧Fp g∧Fp i∧xs=[.tup [.lst f (pr.map Enc.t),.lst g (sh.map Enc.t)],.lst i (ys.map Enc.t)]∧1≤pr.length∧pr.length≤9∧sh.length≤3∧(∀ s∈sh,bs s≤5)∧(∀ p∈pr,bs p≤390)∧ys.length=3∧InR ys∧∀ pr' sh':List Rat,pr'.length≤10→sh'.length≤3→(∀ s∈sh',bs s≤20)→(∀ p∈pr',bs p≤400)→Q (.tup [.lst .f (pr'.map Enc.t),.lst .f (sh'.map Enc.t)])
theorem e'r (T:Tx K mg) {z:Bool}:FnOk P w K mg base CX0 6 T.a_law_forged T.d_law_forged ["_law_paper_here","_law_xs"] (spP K z 0 2 g_forged):=by
  refine a'z T.F_law_forged sc_law_forged rfl (by decide) fun cdv A outer s H E hr=>?_
  have hu:=a's hr
  refine⟨_,(a'd (b'Z (i:=2) sc_law_forged.nd (by decide) rfl (Or.inl rfl) (c'b (b'O rfl) b'k rfl T.z_list rfl (a'a (a'e hu (qv 0) a'b (fun _ _=>rfl)) a'c)))
   (a'd (b'Z (i:=3) sc_law_forged.nd (by decide) rfl (Or.inl rfl) (c'b (b'O rfl) b'k rfl T.z_list rfl (a'a (a'e hu (qv 0) a'b (fun _ _=>rfl)) a'c)))
   (a'd (a'j (i:=4) sc_law_forged.nd (by decide) rfl (Or.inl rfl) (a'p (a'e hu (qv 1) a'b (fun _ _=>rfl)) a'b))
   (a'd (a'A (a'l d'b b'N (qv 4) a'b (by with_unfolding_all rfl)) (a'd (a'j (i:=5) sc_law_forged.nd (by decide) rfl (Or.inl rfl) (a'p (a'e hu (qv 1) a'b (fun _ _=>rfl)) (a'K a'T a'B rfl T.z_len rfl (a'a (qv 2) a'c))))
   (a'f (d'x (b'Q 2) (qv 5) (a'g ((a'u T).mono (by decide)) (by first | exact id | exact fun _=>rfl) (fun _ _ h=>h.1) hr rfl T.m_law_more T.F_law_more.kp T.b_law_more (QA.frz (a'a (a'e hu (qv 2) (qv 5) (fun _ _=>rfl)) (a'a a'b (a'a (a'e hu (a'X (a'a (a'q (a'a a'b (a'a a'b a'c))) (a'a (a'q (a'a (c'l a'b) (a'a a'b a'c))) (a'a (a'q (a'a a'b (a'a a'b a'c))) a'c)))) (qv 4) (fun _ _=>rfl)) a'c)))))))) (a'f (a'A (QW.t (b'g (a'l (a'Y hr.units) a'w (qv 4) a'b (by with_unfolding_all rfl)) (b'f (a'l (b'P hr.units) a'Z (qv 3) (a'X a'c) (by with_unfolding_all rfl))))) (a'd (a'j (i:=5) sc_law_forged.nd (by decide) rfl (Or.inl rfl) (a'p (a'e hu (qv 1) a'b (fun _ _=>rfl)) (a'K a'T a'B rfl T.z_len rfl (a'a (qv 3) a'c))))
   (a'd (d'x (b'Q 3) (qv 5) (a'q (a'a (b'Y (a'e hu (a'e hu (qv 3) (qv 5) (fun _ _=>rfl)) a'b (fun _ _=>rfl)) (a'H (a'p (a'e hu (qv 1) a'b (fun _ _=>rfl)) a'b) (a'e hu (a'e hu (qv 3) (qv 5) (fun _ _=>rfl)) a'b (fun _ _=>rfl)))) (a'a (a'e hu (a'e hu (qv 3) (qv 5) (fun _ _=>rfl)) a'b (fun _ _=>rfl)) a'c))))
   (a'f (d'x (b'Q 3) (qv 5) (a'g ((a'J T).mono (by decide)) (by first | exact id | exact fun _=>rfl) (fun _ _ h=>h.1) hr rfl T.m_law_lowest T.F_law_lowest.kp T.b_law_lowest (QA.frz (a'a (a'e hu (a'e hu (qv 3) (qv 5) (fun _ _=>rfl)) a'b (fun _ _=>rfl)) (a'a (a'e hu (a'e hu (qv 3) (qv 5) (fun _ _=>rfl)) a'b (fun _ _=>rfl)) a'c)))))))) (a'f (a'A (a'l (a'Y hr.units) a'w (qv 4) a'b (by with_unfolding_all rfl)) (a'f (d'w (b'Q 2) (a'q (a'a a'b (a'a a'b a'c))))) (a'f (b'Z (i:=3) sc_law_forged.nd (by decide) rfl (Or.inl rfl) (d'N (qv 3) e'Y (d'd (c'l a'b))))))))))
   (f'c 3 (f'c 2 (a'f (a'k (a'q (a'a (qv 2) (a'a (qv 3) a'c))))))))))),?_⟩
  rintro xs Q' _ ⟨_,f,g,i,pr,sh,ys,_,_,_,rfl,l1,l2,l3,s5,p3,hl,hR,q⟩
  obtain⟨y0,ha0,b0,c0⟩:=a'R hR hl (k:=0) (by omega) (by omega)
  obtain⟨y1,ha1,b1,c1⟩:=a'R hR hl (k:=1) (by omega) (by omega)
  obtain⟨y2,ha2,b2,c2⟩:=a'R hR hl (k:=2) (by omega) (by omega)
  walk_at "p"
  simp only [ha0,ha1,ha2,Option.map_some]
  walk_at "p"
  have a0:=Int.emod_nonneg y1 (show (pr.length:Int)≠0 by omega)
  have a1:=Int.emod_lt_of_pos y1 (show (0:Int)<pr.length by omega)
  have p4:∀ p∈pr,bs p≤400:=fun p m=>Nat.le_trans (p3 p m) (by decide)
  have s4:∀ s∈sh,bs s≤20:=fun s m=>Nat.le_trans (s5 s m) (by decide)
  refine⟨by decide,?_⟩
  split
  · rename_i c
    have c:=of_decide_eq_true c
    refine⟨by omega,?_⟩
    have hat:atI pr (y1 % pr.length)=some (pr[(y1 % pr.length).toNat]'(by omega)):=a'V pr a0 (by omega)
    have hm:=p3 _ (List.getElem_mem (l:=pr) (n:=(y1 % pr.length).toNat) (by omega))
    have hw:∃ v:Rat,atI [Tr.tup [.int 1,.int 6],.tup [.int (-1),.int 6],.tup [.int 3,.int 1]] (y0 % 6)=some (Enc.t v)∧bs v≤4:=by
      have h4:y0 % 6=0∨y0 % 6=1∨y0 % 6=2:=by omega
      rcases h4 with h | h | h<;>rw [h]
      · exact⟨⟨1,6,by decide,by decide⟩,at0 _ _,by decide +kernel⟩
      · exact⟨⟨-1,6,by decide,by decide⟩,at1 _ _ _,by decide +kernel⟩
      · exact⟨⟨3,1,by decide,by decide⟩,at2 _ _ _ _,by decide +kernel⟩
    obtain⟨v,hv,bv⟩:=hw
    generalize pr[(y1 % pr.length).toNat]'(by omega)=x at hat hm
    refine b'w _ _ x hat ?_
    rw [hv]
    walk_at "p"
    have bn:=a'N x v
    refine b'c (by omega) (by decide +kernel) fun ρ=>?_
    rw [c't]
    walk_at "p"
    refine d'R a0 a1 ?_
    walk_at "p"
    exact q _ _ (by rw [List.length_set];omega) l3 s4 (c'v p4 (by omega)) _
  rename_i c
  have end4:pr.length<1000000∧∀ ρ,Q' (.tup [.lst .f ((pr++[0]).map Enc.t),.lst .f (sh.map Enc.t)]) ρ:=⟨by omega,fun ρ=>q (pr++[0]) sh (by rw [List.length_append,List.length_singleton];omega) l3 s4 (fun p m=>by
    rcases List.mem_append.mp m with m | m
    · exact p4 p m
    · rw [List.mem_singleton.mp m];decide +kernel) ρ⟩
  have end5:∀ ρ,Q' (.tup [.lst .f (pr.map Enc.t),.lst .f ((cutT sh none (some (-1))).map Enc.t)]) ρ:=fun ρ=>q pr (cutT sh none (some (-1))) (by omega) (Nat.le_trans (f'v _ _ _) l3) (fun s m=>s4 s (d'k m)) p4 ρ
  split
  · refine i'b _ _ _ (Nat.le_trans (e'n _) (by decide)) _ ?_
    walk_at "p"
    split
    · rename_i e
      have ls:0<sh.length:=by
        cases sh with
        | nil=>cases e
        | cons _ _=>exact Nat.succ_pos _
      have a0:=Int.emod_nonneg y1 (show (sh.length:Int)≠0 by omega)
      have a1:=Int.emod_lt_of_pos y1 (show (0:Int)<sh.length by omega)
      have hat:atI sh (y1 % sh.length)=some (sh[(y1 % sh.length).toNat]'(by omega)):=a'V sh a0 (by omega)
      have hm:=s5 _ (List.getElem_mem (l:=sh) (n:=(y1 % sh.length).toNat) (by omega))
      generalize sh[(y1 % sh.length).toNat]'(by omega)=x at hat hm
      refine⟨by omega,?_⟩
      simp only [hat,Option.map_some]
      walk_at "p"
      have i0:=Int.emod_nonneg y2 (show (3:Int)≠0 by decide)
      have i1:=Int.emod_lt_of_pos y2 (show (0:Int)<3 by decide)
      generalize y2 % 3=k at i0 i1
      have xd:=a't x
      have xn:=a'G x
      refine⟨by decide,c'J (by have:=a'F (x:=k) 2 (by omega);omega) (by omega),?_⟩
      have et:Tr.tup [.int (x.num - k*x.den),.int x.den]=Enc.t (shf x k):=rfl
      rw [et]
      refine d'R a0 a1 ?_
      have hat2:atI (sh.set (y1 % sh.length).toNat (shf x k)) (y1 % sh.length)=some (shf x k):=by
        rw [a'V _ a0 (by rw [List.length_set];omega),List.getElem_set_self]
      walk_at "p"
      simp only [hat2,Option.map_some]
      walk_at "p"
      have dn:=den_pos (shf x k)
      refine⟨rfl,_,_,rfl,dn,by show bi (x.den:Int)≤7990;omega,fun ρ=>?_⟩
      rw [Rat.num_divInt_den]
      walk_at "p"
      refine d'R a0 (by rw [List.length_set];exact a1) ?_
      walk_at "p"
      have bz:bs (shf x k)≤20:=by
        have z1:=b'h (Nat.le_trans xn hm)
        have z2:=b'h (Nat.le_trans xd hm)
        have z3:(x.num - k*x.den).natAbs<2 ^ 20:=by
          have h4:k=0∨k=1∨k=2:=by omega
          rcases h4 with h | h | h<;>subst h<;>omega
        have:=a'F (x:=x.num - k*x.den) 20 z3
        have e:bs (shf x k)=max (bl (x.num - k*x.den).natAbs) (bl x.den):=rfl
        have:bl x.den≤5:=Nat.le_trans xd hm
        unfold bi at *
        omega
      exact q _ _ (by omega) (by rw [List.length_set,List.length_set];omega) (c'v (c'v s4 bz) bz) p4 _
    · split
      · exact⟨end4.1,end4.2 _⟩
      · exact end5 _
  · split
    · exact⟨end4.1,end4.2 _⟩
    · exact end5 _
def g_told:PSp:=spec 5 fun xs Q=>∃ (f g h a b:Fl) (rows:List RowE) (un:List Str) (st:List (U32×Rat)) (goal:U32) (pr sh:List Rat),Fp f∧Fp g∧Fp h∧Fp a∧Fp b∧xs=[.lst f (rows.map Enc.t),.lst g (un.map Enc.t),.lst h (st.map Enc.t),Enc.t goal,.tup [.lst a (pr.map Enc.t),.lst b (sh.map Enc.t)]]∧Ok92 rows st pr sh∧un.length≤5∧(holdsB rows un st goal pr sh=true→Q (Enc.t (bndR rows st pr sh)))∧(holdsB rows un st goal pr sh=false→Q (.bl true))
theorem f'G (T:Tx K mg) {z:Bool}:FnOk P w K mg base CX0 8 T.a_law_told T.d_law_told ["_law_rows","_law_names","_law_settled","_law_goal_here","_law_paper_here"] (spP K z 0 5 g_told):=by
  refine a'z T.F_law_told sc_law_told rfl (by decide) fun cdv A outer s H E hr=>?_
  have hu:=a's hr
  refine⟨_,(a'd (a'j (i:=5) sc_law_told.nd (by decide) rfl (Or.inl rfl) (a'X (a'a (c'b (b'O rfl) b'k rfl T.z_list rfl (a'a (qv 0) a'c)) (a'a (c'b (b'O rfl) b'k rfl T.z_list rfl (a'a (qv 1) a'c)) (a'a (c'b (b'O rfl) b'k rfl T.z_list rfl (a'a (qv 2) a'c)) (a'a (a'q (a'a (c'b (b'O rfl) b'k rfl T.z_list rfl (a'a (a'e hu (qv 4) a'b (fun _ _=>rfl)) a'c)) (a'a (c'b (b'O rfl) b'k rfl T.z_list rfl (a'a (a'e hu (qv 4) a'b (fun _ _=>rfl)) a'c)) a'c))) a'c))))))
   (a'd (l'K (i:=7) (pe:=fun q=>pCallX q _ _) rfl rfl rfl T.m_NoPaper sc_law_told.nd (by decide) rfl rfl (j'k (i:=6) (by decide)) (fun pn xe te h=>e'x (i:=6) sc_law_told.nd rfl (Or.inl rfl) h) (fun pn xe R hx q=>(l'I ((j'P T).mono (by decide)) hx (by first | exact id | exact fun _=>rfl) (fun _ _ _ h=>h.1) hr rfl T.m_bound T.F_bound.kp T.b_bound (QA.frz (a'a (a'e hu (qv 5) a'b (fun _ _=>rfl)) (a'a (a'e hu (qv 5) a'b (fun _ _=>rfl)) (a'a (a'e hu (qv 5) a'b (fun _ _=>rfl)) (a'a (qv 3) (a'a (a'e hu (qv 5) a'b (fun _ _=>rfl)) a'c)))))))) (fun v=>(a'f (a'k (q'L K rfl rfl T.z_isinstance rfl (a'a (qv 7) (a'a (s'd rfl T.m_FrameError) a'c)))))))
   (a'd (a'A (a'l (r'Q hr.units) m'S (qv 5) (a'X (a'a (qv 0) (a'a (qv 1) (a'a (qv 2) (a'a (qv 4) a'c))))) (by with_unfolding_all rfl)) (a'f (a'k q'C)) a'r)
   (a'f (a'k (qv 6)))))),?_⟩
  rintro xs Q' _ ⟨_,f,g,h,a,b,rows,un,st,goal,pr,sh,_,_,_,_,_,rfl,o,h2,q,q'⟩
  have o1:=o.l1
  have o2:=o.l2
  have o3:=o.l3
  have o4:=o.l4
  walk_at "p"
  refine⟨rfl,.f,.f,.f,.f,.f,rows,un,st,goal,pr,sh,inferInstance,inferInstance,inferInstance,inferInstance,inferInstance,rfl,o,h2,fun hh ρ=>?_,fun hh=>?_⟩
  · refine⟨e_t _,.inr ⟨?_,?_,.inr ⟨_,_,rfl⟩,?_⟩⟩
    · show (smNs _ _ && (smNs _ _ && (smNs _ _ && ((smNs _ _ && (smNs _ _ && true)) && true))))=true
      rw [b'z rows,b'z un,b'z st,b'z pr,b'z sh];rfl
    · have d1:=b'q rows
      have d2:=b'q un
      have d3:=b'q st
      have d4:=b'q pr
      have d5:=b'q sh
      show max (depNs (rows.map Enc.t)+1) (max (depNs (un.map Enc.t)+1) (max (depNs (st.map Enc.t)+1) (max (max (depNs (pr.map Enc.t)+1) (max (depNs (sh.map Enc.t)+1) 0)+1) 0)))+1≤40
      omega
    · walk_at "p"
      exact q hh _
  · refine⟨T.em_NoPaper_NoPaper,_,rfl,true,T.x_NoPaper,T.ki_NoPaper_FrameError,rfl,q' hh _⟩
def sp_law (K:PySem.W.Frag):Sp:=fun vs H Q _=>∃ (a:Addr) (ns:List Int),vs=[.ref a]∧SqL K H a (ns.map V.int)∧ns.length≤63∧∀ H',Q (.bl true) H'
def g_law:PSp:=spec 1 fun xs Q=>∃ ns:List Int,xs=[.lst (.l false) (ns.map Enc.t)]∧ns.length≤63∧Q (.bl true)
theorem g'q {K:PySem.W.Frag} {F:Hp} {B:Bool→Hp}:∀ ns:List Int,Rs K F B (ns.map Enc.t) (ns.map V.int) []
  | [] => ⟨rfl, rfl⟩
  | n :: ns => ⟨_, _, [], [], rfl, rfl, ⟨rfl, rfl⟩, g'q ns⟩
theorem q'c {K:PySem.W.Frag} (vs:List V) (H:Hp) (Q:VK) (E:XK) (h:sp_law K vs H Q E):spP K true 0 1 g_law vs H Q E:=by
  obtain⟨a,ns,rfl,hS,hl,k⟩:=h
  refine⟨rfl,fun _=>none,H,[.lst (.l false) (ns.map Enc.t)],fun _=>[],fun t _=>t=.bl true,fun _=>False,⟨?_,(fun _ _ _ _ z=>by cases z),rfl,?_,(fun _=>.nil),(fun _ _ m=>nomatch m),(fun _ _ _ _ m=>nomatch m),(fun i h=>absurd h (Nat.not_lt_zero i)),fun _ _ _ _ z=>z.elim⟩,⟨rfl,ns,rfl,hl,fun _=>rfl⟩,?_⟩
  · exact Gr.refl' (fun _ _ z=>by cases z)
  · intro i t e
    cases i with
    | zero=>cases e;exact .inr ⟨.ref a,rfl,rfl,a,_,rfl,hS,g'q ns⟩
    | succ i=>cases e
  · intro F' H' σ' ρ' cs' v t c _ r _ _ _ _ e
    subst e
    rw [r.1]
    exact k _
theorem n'j {α:Type} {xs:List α} {l h:Option Int} (n:xs.Nodup):(cutT xs l h).Nodup:=List.Nodup.sublist ((List.take_sublist _ _).trans (List.drop_sublist _ _)) n
theorem f'w (n d:Nat) (k:Int) (h:0≤k):HT.sIx n d (some k)=min k.toNat n:=by unfold HT.sIx;dsimp only;rw [if_neg (by omega)]
theorem f'x {α:Type} (xs:List α) (k:Int) (h:0≤k):(cutT xs (some k) none).length=xs.length - k.toNat:=by
  unfold cutT
  rw [f'w _ _ k h,List.length_take,List.length_drop]
  show min (xs.length - _) _=_
  omega
theorem q'd {α:Type} (xs:List α):(cutT xs (some 3) (some 8)).length≤5:=by
  unfold cutT
  rw [f'w _ _ 3 (by decide),f'w _ _ 8 (by decide),List.length_take,List.length_drop]
  have e3:Int.toNat 3=3:=rfl
  have e8:Int.toNat 8=8:=rfl
  omega
def goals (names:List Str):List U32:=.inl 1 :: .inl 2 :: .inl 3 :: .inl 4 :: names.map .inr
theorem n'k (names:List Str):Tr.int 1 :: Tr.int 2 :: Tr.int 3 :: Tr.int 4 :: List.map Enc.t names=(goals names).map Enc.t:=by
  unfold goals
  rw [List.map_cons,List.map_cons,List.map_cons,List.map_cons,List.map_map];rfl
theorem d'l {names:List Str} {g:U32} (h:g∈goals names):GoalIn names g:=by
  unfold goals at h
  simp only [List.mem_cons,List.mem_map] at h
  rcases h with rfl | rfl | rfl | rfl | ⟨u,hu,rfl⟩
  · exact (show (1:Int)≠0 by decide)
  · exact (show (2:Int)≠0 by decide)
  · exact (show (3:Int)≠0 by decide)
  · exact (show (4:Int)≠0 by decide)
  · exact hu
theorem g'r {α:Type} {xs:List α} {k:Int} (h0:0≤k) (h1:k<xs.length):∃ x,atI xs k=some x∧x∈xs:=⟨_,a'V xs h0 (by omega),List.getElem_mem _⟩
theorem g's {e:Int} (h:0≤e):(0:Rat)≤Rat.divInt e 2:=Rat.divInt_nonneg h (by decide)
theorem g'M {rows:List RowE} {un:List Str} {st:List (U32×Rat)} {goal:U32} {pr sh:List Rat} (h:holdsB rows un st goal pr sh=true):pr.length=rows.length∧sh.length=st.length:=by
  unfold holdsB at h
  simp only [Bool.and_eq_true,decide_eq_true_eq] at h
  exact h.1
theorem q'e (a:Rat) (b:Bool) (Q:Tr→Prop):wIsV true (Enc.t a) (.bl b) Q=Q (.bl true):=rfl
theorem q'f (a:Rat) {Q:Tr→Prop} (q:Q (.bl true)):wEq false (Enc.t a) (Enc.t a) Q:=by
  refine .inr ⟨true,?_,show (1:Nat)≤60 by decide,Nat.le_refl 1,q⟩
  show (if 2=2 then (some (decide (a.num=a.num))).bind fun x=>((some (decide ((a.den:Int)=a.den))).bind fun y=>(some true).bind fun z=>some (y && z)).bind fun y=>some (x && y) else none)=_
  rw [if_pos rfl,decide_eq_true rfl,decide_eq_true rfl];rfl
theorem n'l (T:Tx K mg):FnOk P w K mg base CX0 9 T.a_law T.d_law ["_law_script"] (spP K true 0 1 g_law):=by
  refine a'z T.F_law sc_law rfl (by decide) fun cdv A outer s H E hr=>?_
  have hu:=a's hr
  refine⟨_,(a'd (a'j (i:=1) sc_law.nd (by decide) rfl (Or.inl rfl) (a'p (a'g ((b'B T).mono (by decide)) (by first | exact id | exact fun _=>rfl) (fun _ _ h=>h.1) hr rfl T.m_law_cell_at T.F_law_cell_at.kp T.b_law_cell_at (QA.frz (a'a (qv 0) (a'a a'b a'c)))) a'b))
   (a'd (a'j (i:=2) sc_law.nd (by decide) rfl (Or.inl rfl) (a'g ((b'F T).mono (by decide)) (by first | exact id | exact fun _=>rfl) (fun _ _ h=>h.1) hr rfl T.m_law_stream T.F_law_stream.kp T.b_law_stream (QA.frz (a'a (a'g ((b'B T).mono (by decide)) (by first | exact id | exact fun _=>rfl) (fun _ _ h=>h.1) hr rfl T.m_law_cell_at T.F_law_cell_at.kp T.b_law_cell_at (QA.frz (a'a (qv 0) (a'a a'b a'c)))) (a'a a'b a'c)))))
   (a'd (a'j (i:=3) sc_law.nd (by decide) rfl (Or.inr rfl) (d'N (a'e hu (a'X (a'a (a'X (a'a a'D (a'a a'D (a'a a'D (a'a a'D a'c))))) (a'a (a'X (a'a a'D (a'a a'D (a'a a'D (a'a a'D a'c))))) a'c))) (a'p (qv 1) a'b) (fun _ _=>rfl)) e'Y (d'd (b'a a'b (a'p (a'M (qv 1) a'b) a'b)))))
   (a'd (a'j (i:=4) sc_law.nd (by decide) rfl (Or.inr rfl) (a'g ((d'Q T).mono (by decide)) (by first | exact id | exact fun _=>rfl) (fun _ _ h=>h.1) hr rfl T.m_law_placing T.F_law_placing.kp T.b_law_placing (QA.frz (a'a (qv 3) (a'a (a'g ((b'F T).mono (by decide)) (by first | exact id | exact fun _=>rfl) (fun _ _ h=>h.1) hr rfl T.m_law_stream T.F_law_stream.kp T.b_law_stream (QA.frz (a'a (a'g ((b'B T).mono (by decide)) (by first | exact id | exact fun _=>rfl) (fun _ _ h=>h.1) hr rfl T.m_law_cell_at T.F_law_cell_at.kp T.b_law_cell_at (QA.frz (a'a (qv 0) (a'a a'b a'c)))) (a'a a'b a'c)))) a'c)))))
   (a'd (h'O (i:=5) (N:=["_law_cell","_law_names","_law_placing_here"]) (ix:=[none,some 3,some 4]) sc_law.nd (by decide) rfl (Or.inl rfl) rfl (c'e (d'N (qv 0) (d'd a'b) (d'd a'b))) (c'o (i:=0) (by decide) rfl) (fun _ _ _ _ _=>b'o) (fun _ _ _ _ _=>(a'g ((g'L T).mono (by decide)) (by first | exact id | exact fun _=>rfl) (fun _ _ h=>h.1) hr rfl T.m_law_row T.F_law_row.kp T.b_law_row (QA.frz (a'a (qv 1) (a'a (qv 2) (a'a (qv 0) a'c)))))) ⟨rfl,rfl,rfl,⟨rfl,rfl,rfl,True.intro⟩⟩)
   (a'd (a'S PassesOwn.never rfl (c'n rfl T.z_enumerate (a'a (qv 3) a'c)) (b'l (n:=2) rfl (a'm (a'x (i:=6) sc_law.nd (by decide) rfl (Or.inl rfl)) (a'm (a'x (i:=7) sc_law.nd (by decide) rfl (Or.inl rfl)) a'L))) (a'f (d'w (b'Q 5) (a'q (a'a (h'V (c'P (qv 7) (a'q (a'a a'b (a'a a'b a'c))) h'U)) (a'a a'D (a'a (a'g ((a'u T).mono (by decide)) (by first | exact id | exact fun _=>rfl) (fun _ _ h=>h.1) hr rfl T.m_law_more T.F_law_more.kp T.b_law_more (QA.frz (a'a (a'e hu (qv 4) (qv 7) (fun _ _=>rfl)) (a'a a'b (a'a (a'q (a'a (a'M (a'p (a'e hu (qv 2) (qv 6) (fun _ _=>rfl)) a'b) a'b) (a'a a'b a'c))) a'c))))) (a'a a'b (a'a a'b a'c)))))))))
   (a'd (a'j (i:=8) sc_law.nd (by decide) rfl (Or.inl rfl) (b'a (a'X (a'a a'b (a'a a'b (a'a a'b (a'a a'b a'c))))) (qv 3)))
   (a'd (b'Z (i:=9) sc_law.nd (by decide) rfl (Or.inl rfl) (a'X a'c))
   (a'd (a'S PassesOwn.never rfl (e'w rfl T.z_range (a'a (a'p (a'M (qv 1) a'b) a'b) a'c)) (a'x (i:=6) sc_law.nd (by decide) rfl (Or.inl rfl)) (a'd (a'j (i:=10) sc_law.nd (by decide) rfl (Or.inl rfl) (a'e hu (qv 8) (a'p (a'e hu (qv 2) (b'a a'b (qv 6)) (fun _ _=>rfl)) (a'K a'T a'B rfl T.z_len rfl (a'a (qv 8) a'c))) (fun _ _=>rfl)))
   (a'f (d'w (b'Q 9) (a'q (a'a (qv 10) (a'a (a'g ((a'u T).mono (by decide)) (by first | exact id | exact fun _=>rfl) (fun _ _ h=>h.1) hr rfl T.m_law_more T.F_law_more.kp T.b_law_more (QA.frz (a'a (a'g ((c'U T).mono (by decide)) (by first | exact id | exact fun _=>rfl) (fun _ _ h=>h.1) hr rfl T.m_law_goal T.F_law_goal.kp T.b_law_goal (QA.frz (a'a (qv 5) (a'a (qv 10) (a'a (qv 4) a'c))))) (a'a a'b (a'a (a'q (a'a (a'M (a'p (a'e hu (qv 2) (b'a a'b (qv 6)) (fun _ _=>rfl)) a'b) a'b) (a'a a'b a'c))) a'c))))) a'c)))))))
   (a'd (a'j (i:=10) sc_law.nd (by decide) rfl (Or.inl rfl) (a'e hu (qv 8) (a'p (a'M (qv 1) a'b) (a'K a'T a'B rfl T.z_len rfl (a'a (qv 8) a'c))) (fun _ _=>rfl)))
   (a'd (a'j (i:=11) sc_law.nd (by decide) rfl (Or.inl rfl) (a'g ((f'u T).mono (by decide)) (by first | exact id | exact fun _=>rfl) (fun _ _ h=>h.1) hr rfl T.m_law_paper T.F_law_paper.kp T.b_law_paper (QA.frz (a'a (qv 5) (a'a (qv 3) (a'a (qv 9) (a'a (qv 10) (a'a (d'N (qv 2) (d'd a'b) e'Y) a'c))))))))
   (a'd (a'A (a'l (a'Y hr.units) a'w (a'p (a'M (qv 1) a'b) a'b) a'b (by with_unfolding_all rfl)) (a'f (a'j (i:=11) sc_law.nd (by decide) rfl (Or.inl rfl) (a'g ((e'r T).mono (by decide)) (by first | exact id | exact fun _=>rfl) (fun _ _ h=>h.1) hr rfl T.m_law_forged T.F_law_forged.kp T.b_law_forged (QA.frz (a'a (qv 11) (a'a (d'N (qv 2) (d'd a'b) e'Y) a'c)))))) a'r)
   (a'd (a'j (i:=12) sc_law.nd (by decide) rfl (Or.inl rfl) (a'g ((f'G T).mono (by decide)) (by first | exact id | exact fun _=>rfl) (fun _ _ h=>h.1) hr rfl T.m_law_told T.F_law_told.kp T.b_law_told (QA.frz (a'a (qv 5) (a'a (qv 3) (a'a (qv 9) (a'a (qv 10) (a'a (qv 11) a'c))))))))
   (a'd (a'A (g'F (b'u (a'g ((f'q T).mono (by decide)) (by first | exact id | exact fun _=>rfl) (fun _ _ h=>h.1) hr rfl T.m_law_holds T.F_law_holds.kp T.b_law_holds (QA.frz (a'a (qv 5) (a'a (qv 3) (a'a (qv 9) (a'a (qv 10) (a'a (qv 11) a'c))))))))) (a'f (a'k (c'N o'A o'B (qv 12) b'j (by with_unfolding_all rfl)))) a'r)
   (a'd (a'j (i:=13) sc_law.nd (by decide) rfl (Or.inl rfl) (a'g ((f'p T).mono (by decide)) (by first | exact id | exact fun _=>rfl) (fun _ _ h=>h.1) hr rfl T.m_law_bound T.F_law_bound.kp T.b_law_bound (QA.frz (a'a (qv 5) (a'a (qv 9) (a'a (qv 11) a'c))))))
   (a'f (a'k (j'Y (c'N l'L h'S (qv 12) b'j (by with_unfolding_all rfl)) (j'Y (c'N (a'Y hr.units) a'w (qv 12) (qv 13) (by with_unfolding_all rfl)) (q'D (o'l (a'g ((b'U T).mono (by decide)) (by first | exact id | exact fun _=>rfl) (fun _ _ h=>h.1) hr rfl T.m_law_above T.F_law_above.kp T.b_law_above (QA.frz (a'a (qv 13) (a'a (a'g ((c'U T).mono (by decide)) (by first | exact id | exact fun _=>rfl) (fun _ _ h=>h.1) hr rfl T.m_law_goal T.F_law_goal.kp T.b_law_goal (QA.frz (a'a (qv 5) (a'a (qv 10) (a'a (qv 4) a'c))))) a'c))))))))))))))))))))))))),?_⟩
  rintro xs Q' _ ⟨_,ns,rfl,hl,q⟩
  walk_at "p"
  refine⟨rfl,_,ns,0,inferInstance,rfl,by decide,fun c0 ρ=>?_⟩
  walk_at "p"
  refine⟨by decide,?_⟩
  generalize hcell:c0 % 2147483647=cell
  have ce0:0≤cell:=by omega
  have ce1:cell<2147483647:=by omega
  clear hcell
  refine⟨rfl,_,ns,1,inferInstance,rfl,by decide,fun c1 ρ=>?_⟩
  walk_at "p"
  refine⟨rfl,c1,20,rfl,by decide,fun ys hy hR ρ=>?_⟩
  walk_at "p"
  have hn:∃ nm:List Str,atI [Tr.lst .o [.str (Str.ofString "x"),.str (Str.ofString "y"),.str (Str.ofString "z"),.str (Str.ofString "w")],.lst .o [.str (Str.ofString "left a"),.str (Str.ofString "left ab"),.str (Str.ofString "gap a"),.str (Str.ofString "q")]] (cell % 2)=some (.lst .o (nm.map Enc.t))∧nm.length=4∧nm.Nodup:=by
    have h4:cell % 2=0∨cell % 2=1:=by omega
    rcases h4 with h | h<;>rw [h]
    · exact⟨[Str.ofString "x",Str.ofString "y",Str.ofString "z",Str.ofString "w"],at0 _ _,rfl,by decide +kernel⟩
    · exact⟨[Str.ofString "left a",Str.ofString "left ab",Str.ofString "gap a",Str.ofString "q"],at1 _ _ _,rfl,by decide +kernel⟩
  obtain⟨nm,hn,nm4,nmd⟩:=hn
  refine⟨by decide,?_⟩
  rw [hn]
  walk_at "p"
  refine⟨⟨by decide,a'v (by decide)⟩,by decide,?_⟩
  obtain⟨n,en,n1,n4⟩:∃ n:Nat,1+cell.fdiv 2 % 4=(n:Int)∧1≤n∧n≤4:=⟨(1+cell.fdiv 2 % 4).toNat,by omega,by omega,by omega⟩
  rw [en]
  have nl:=(g'h nm n (by omega)).1
  have nd:(cutT nm none (some (n:Int))).Nodup:=n'j nmd
  generalize cutT nm none (some (n:Int))=names at nl nd
  refine⟨rfl,_,ns,2,inferInstance,rfl,by decide,fun c2 ρ=>?_⟩
  walk_at "p"
  refine⟨rfl,c2,4,rfl,by decide,fun zs hz hZ ρ=>?_⟩
  walk_at "p"
  refine⟨rfl,.f,_,names,zs,inferInstance,inferInstance,rfl,by omega,by omega,hZ,fun pl p1 p2 ρ=>?_⟩
  have PO:PlOk pl names:=⟨nd,by omega,p1,p2⟩
  walk_at "p"
  refine CLoop.mem (β:=RowE) (cutT ns (some 3) (some 8)) _ (RowOk pl names) (by have:=f'v ns (some 3) (some 8);omega) (fun y hy' R hR'=>?_) fun r1 l1 ro1=>?_
  · walk_at "p"
    exact⟨rfl,.f,.f,names,pl,y,inferInstance,inferInstance,rfl,PO,fun r hr ρ=>hR' r hr⟩
  have l5:(cutT ns (some 3) (some 8)).length≤5:=q'd ns
  rw [← l1] at l5
  walk_at "p"
  refine Loop.map _ _ (fun k ρ=>∃ (r2:List RowE) (a b:Tr),ρ=[.lst (.l false) (ns.map Enc.t),.int cell,.lst .f (ys.map Enc.t),.lst .f (names.map Enc.t),dicS .f pl,.lst .o ((r1++r2).map Enc.t),a,b,.hole,.hole,.hole,.hole,.hole,.hole]∧r2.length=k∧(∀ r∈r2,RowOk pl names r∧r.2.2.2.1=0)∧∀ (j:Nat) (u:Str),j<k→names[j]?=some u→∃ q,r2[j]?=some (([(u,1)],"most",q,0,1):RowE)) ⟨[],.hole,.hole,by rw [List.append_nil],rfl,(fun _ m=>nomatch m),(fun j _ h=>absurd h (Nat.not_lt_zero j))⟩ ?_ ?_
  · rintro k ⟨u,j⟩ ρ hx ⟨r2,a,b,rfl,g1,g2,g3⟩
    obtain⟨rfl,hx⟩:=b'x hx
    have l:=(List.getElem?_eq_some_iff.mp hx).1
    have hu':=List.mem_of_getElem? hx
    obtain⟨y,hat,y0,y1⟩:=a'R hR hy (k:=j) (by omega) (by omega)
    obtain⟨v,hv⟩:=Option.isSome_iff_exists.mp (p1 u hu')
    have hs:=p2 _ _ hv
    walk_at "p"
    simp only [pPairs]
    walk_at "p"
    simp only [hat,hv,Option.map_some]
    walk_at "p"
    have e0:0≤(y % 4).fdiv 2∧(y % 4).fdiv 2≤1:=by rw [Int.fdiv_eq_ediv_of_nonneg _ (by decide)];omega
    refine⟨by simp,by decide,⟨by decide,a'v (by decide)⟩,?_⟩
    generalize (y % 4).fdiv 2=e at e0
    have be:bs (Rat.divInt e 2)≤2:=b'd (by decide) (a'F 2 (by omega)) (by decide +kernel)
    have bn:=a'N v (Rat.divInt e 2)
    have nn:=g's e0.1
    have bi2:bi 2≤2:=by decide +kernel
    have bie:=a'F (x:=e) 2 (by omega)
    refine⟨rfl,v,1,e,2,rfl,by decide,by omega,by omega,by decide +kernel,fun ρ=>?_⟩
    rw [c't]
    walk_at "p"
    have ev:at' pl u=v:=by unfold at';rw [hv];rfl
    generalize Rat.divInt e 2=h at be bn nn
    refine⟨rfl,by rw [List.length_append];omega,r2++[(([(u,1)],"most",v+h,0,1):RowE)],.int j,.str u,?_,by rw [List.length_append,List.length_singleton,g1],fun r hr'=>?_,fun j' u' hj hu''=>?_⟩
    · rw [← List.append_assoc,List.map_append (l₂:=[_])];rfl
    · rcases List.mem_append.mp hr' with hr' | hr'
      · exact g2 r hr'
      · rw [List.mem_singleton.mp hr']
        refine⟨⟨by simp,fun p hp=>?_,fun p hp=>?_,show (1:Nat)≤4 by decide,Int.le_refl _,⟨Int.le_refl _,show (1:Int)≤1000000 by decide⟩,by show bs (v+h)≤110;omega,fun z=>absurd rfl z,fun _=>⟨fun z=>absurd rfl z,fun _=>?_⟩⟩,rfl⟩
        · rw [List.mem_singleton.mp hp];exact hu'
        · rw [List.mem_singleton.mp hp];exact (show bs 1≤4 by decide +kernel)
        · show (1:Rat)*at' pl u+0≤v+h
          rw [ev];grind
    · by_cases c:j'<j
      · obtain⟨q,hq⟩:=g3 j' u' c hu''
        exact⟨q,by rw [List.getElem?_append_left (by omega)];exact hq⟩
      · have c:j'=j:=by omega
        subst c
        rw [hx] at hu''
        cases hu''
        exact⟨v+h,by rw [List.getElem?_append_right (by omega),g1,Nat.sub_self];rfl⟩
  · rintro ρ ⟨r2,a,b,rfl,g1,g2,g3⟩
    rw [List.length_zipIdx] at g1 g3
    have RO:Rows pl names (r1++r2):=fun r m=>(List.mem_append.mp m).elim (ro1 r) fun z=>(g2 r z).1
    have W5:nW (r1++r2)≤5:=by
      unfold nW
      rw [List.countP_append]
      have h1:=List.countP_le_length (p:=fun r:RowE=>!decide (r.2.2.2.1=0)) (l:=r1)
      have h2:List.countP (fun r:RowE=>!decide (r.2.2.2.1=0)) r2=0:=List.countP_eq_zero.mpr fun r m=>by rw [decide_eq_true (g2 r m).2];decide
      omega
    have R9:(r1++r2).length=r1.length+names.length:=by rw [List.length_append,g1]
    have LST:∀ (j:Nat) (u:Str),names[j]?=some u→∃ q,(r1++r2)[r1.length+j]?=some (([(u,1)],"most",q,0,1):RowE):=fun j u h=>by
      obtain⟨q,hq⟩:=g3 j u (List.getElem?_eq_some_iff.mp h).1 h
      exact⟨q,by rw [List.getElem?_append_right (by omega),Nat.add_sub_cancel_left];exact hq⟩
    generalize r1++r2=rows at RO W5 R9 LST
    clear g3 g2
    walk_at "p"
    rw [n'k]
    have lg:(goals names).length=4+names.length:=by unfold goals;rw [List.length_cons,List.length_cons,List.length_cons,List.length_cons,List.length_map];omega
    refine⟨by omega,⟨by decide,a'v (by decide)⟩,by decide,by omega,by omega,?_⟩
    refine Loop.map _ _ (fun k ρ=>∃ (st:List (U32×Rat)) (a b c:Tr),ρ=[.lst (.l false) (ns.map Enc.t),.int cell,.lst .f (ys.map Enc.t),.lst .f (names.map Enc.t),dicS .f pl,.lst .o (rows.map Enc.t),a,b,.lst .f ((goals names).map Enc.t),.lst .o (st.map Enc.t),c,.hole,.hole,.hole]∧st.length=k∧∀ p∈st,GoalIn names p.1∧goalV (at' pl) rows p.1≤p.2∧bs p.2≤670) ⟨[],_,_,.hole,rfl,rfl,(fun _ m=>nomatch m)⟩ ?_ ?_
    · rintro k k' ρ hk ⟨st,a,b,c,rfl,g1,g2⟩
      have lk:=(List.getElem?_eq_some_iff.mp hk).1
      rw [List.length_range] at lk
      have hk:k'=k:=by
        rw [List.getElem?_range (by omega)] at hk
        cases hk;rfl
      subst hk
      obtain⟨y,hat,y0,y1⟩:=a'R hR hy (k:=4+k') (by omega) (by omega)
      obtain⟨y',hat',y0',y1'⟩:=a'R hR hy (k:=7+k') (by omega) (by omega)
      obtain⟨gl,hgl,mgl⟩:=g'r (xs:=goals names) (k:=y % (goals names).length) (Int.emod_nonneg _ (by omega)) (Int.emod_lt_of_pos _ (by omega))
      walk_at "p"
      simp only [hat,hat',Option.map_some]
      walk_at "p"
      simp only [hgl,Option.map_some]
      walk_at "p"
      have e0:0≤(y' % 3).fdiv 2∧(y' % 3).fdiv 2≤1:=by rw [Int.fdiv_eq_ediv_of_nonneg _ (by decide)];omega
      refine⟨by omega,rfl,_,_,rows,gl,pl,names,inferInstance,inferInstance,rfl,PO,RO,W5,d'l mgl,fun hb ρ=>?_⟩
      walk_at "p"
      refine⟨by decide,⟨by decide,a'v (by decide)⟩,?_⟩
      generalize (y' % 3).fdiv 2=e at e0
      have be:bs (Rat.divInt e 2)≤2:=b'd (by decide) (a'F 2 (by omega)) (by decide +kernel)
      have bn:=a'N (goalV (at' pl) rows gl) (Rat.divInt e 2)
      have nn:=g's e0.1
      have bi2:bi 2≤2:=by decide +kernel
      have bie:=a'F (x:=e) 2 (by omega)
      refine⟨rfl,goalV (at' pl) rows gl,1,e,2,rfl,by decide,by omega,by omega,by decide +kernel,fun ρ=>?_⟩
      rw [c't]
      walk_at "p"
      generalize Rat.divInt e 2=h at be bn nn
      refine⟨by omega,st++[(gl,goalV (at' pl) rows gl+h)],.int k',b,Enc.t gl,?_,by rw [List.length_append,List.length_singleton,g1],fun p hp=>?_⟩
      · rw [List.map_append];rfl
      · rcases List.mem_append.mp hp with hp | hp
        · exact g2 p hp
        · rw [List.mem_singleton.mp hp]
          exact⟨d'l mgl,by show goalV (at' pl) rows gl≤goalV (at' pl) rows gl+h;grind,by show bs (goalV (at' pl) rows gl+h)≤670;omega⟩
    · rintro ρ ⟨st,a,b,c,rfl,g1,g2⟩
      rw [List.length_range] at g1
      obtain⟨goal,hgl,mgl⟩:=g'r (xs:=goals names) (k:=cell.fdiv 32 % (goals names).length) (Int.emod_nonneg _ (by omega)) (Int.emod_lt_of_pos _ (by omega))
      have hg:=d'l mgl
      have l4:=f'x ys 4 (by decide)
      have l17:=f'x ys 17 (by decide)
      have i4:Int.toNat 4=4:=rfl
      have i17:Int.toNat 17=17:=rfl
      walk_at "p"
      simp only [hgl,Option.map_some]
      walk_at "p"
      refine⟨⟨by decide,a'v (by decide)⟩,by omega,?_⟩
      refine⟨rfl,_,_,_,_,rows,names,st,goal,cutT ys (some 4) none,pl,r1.length,inferInstance,inferInstance,inferInstance,inferInstance,rfl,RO,R9,l5,by omega,nd,by omega,by omega,by omega,(fun y m=>hR y (d'k m)),LST,fun pr sh e1 e2 e3 e4 ρ=>?_⟩
      walk_at "p"
      refine⟨⟨by decide,a'v (by decide)⟩,by decide,?_⟩
      have fin:∀ (pr sh:List Rat),pr.length≤10→sh.length≤3→(∀ s∈sh,bs s≤20)→(∀ p∈pr,bs p≤400)→Ok92 rows st pr sh:=fun pr sh e1 e2 e3 e4=>⟨by omega,e1,by omega,e2,(fun r m=>(RO r m).nm),(fun r m=>(RO r m).wt),(fun r m x q hq=>Nat.le_trans ((RO r m).sz (x,q) (d'j hq)) (by decide)),e4,e3,fun p m=>(g2 p m).2.2⟩
      have G:Good (at' pl) names rows:=⟨fun u m=>(PO.at m).2.1,nd,fun r m=>⟨(RO r m).nd,(RO r m).dom⟩,fun r m=>(RO r m).must⟩
      split
      case' isTrue=>
        refine⟨rfl,.f,.f,.f,pr,sh,_,inferInstance,inferInstance,inferInstance,rfl,by omega,by omega,by omega,e3,e4,by omega,(fun y m=>hR y (d'k m)),fun pr' sh' f1 f2 f3 f4 ρ=>?_⟩
        clear e1 e2 e3 e4
        have OK:=fin pr' sh' f1 f2 f3 f4
        clear f1 f2 f3 f4
        walk_at "p"
      case' isFalse=>
        have OK:=fin pr sh (by omega) (by omega) (fun s m=>Nat.le_trans (e3 s m) (by decide)) (fun p m=>Nat.le_trans (e4 p m) (by decide))
        clear e1 e2 e3 e4
      all_goals
        refine⟨rfl,_,_,_,_,_,rows,names,st,goal,_,_,inferInstance,inferInstance,inferInstance,inferInstance,inferInstance,rfl,OK,by omega,fun hh ρ=>?_,fun hh ρ=>?_⟩
        · walk_at "p"
          refine⟨rfl,_,_,_,_,_,rows,names,st,goal,_,_,inferInstance,inferInstance,inferInstance,inferInstance,inferInstance,rfl,OK,(fun r m=>(RO r m).rk),by omega,fun ρ=>?_⟩
          rw [hh]
          walk_at "p"
          have ll:=g'M hh
          refine⟨rfl,_,_,_,_,rows,st,_,_,inferInstance,inferInstance,inferInstance,inferInstance,rfl,OK,ll.1,ll.2,fun hb ρ=>?_⟩
          walk_at "p"
          rw [q'e]
          walk_at "p"
          refine q'f _ ?_
          walk_at "p"
          refine⟨rfl,_,_,rows,goal,pl,names,inferInstance,inferInstance,rfl,PO,RO,W5,hg,fun hb2 ρ=>?_⟩
          walk_at "p"
          refine d'i (by omega) fun ρ=>?_
          walk_at "p"
          have wd:=i'k G hg (fun p m=>⟨(g2 p m).1,(g2 p m).2.1⟩) hh
          rw [decide_eq_false (Rat.not_lt.mpr wd)]
          exact q _
        · walk_at "p"
          refine⟨rfl,_,_,_,_,_,rows,names,st,goal,_,_,inferInstance,inferInstance,inferInstance,inferInstance,inferInstance,rfl,OK,(fun r m=>(RO r m).rk),by omega,fun ρ=>?_⟩
          rw [hh]
          walk_at "p"
          exact q _
theorem q'g (T:Tx K mg):FnOk P w K mg base CX0 9 T.a_law T.d_law ["_law_script"] (sp_law K):=(n'l T).imp q'c
end
theorem walk {l:PySem.W.OpenLaw} {q:Program} {loose:List Str} {XP:(Str→Option Value)→Heap→Prop} {YP:World→Heap→Prop} {d:DefRec} {K:Params→PySem.W.Frag} (hn:l.most=some 63) (hdf:d.params.defaults=[]) (hnm:d.name="law")
    (hY:∀ (w:World) (h:Heap),YP w h→(K w.params).In h)
    (F:∀ (w:World) (mg:Str→Option Value) (h:Heap),(K w.params).In h→h.Ns mainGlobals mg→Nonempty (Tx (K w.params) mg)) :
    PySem.W.WalkO q loose XP YP l.row.toRowW d [] (fun f vs=>PySem.call f vs):=by
  refine L2.walk_of (n:=63) (k:=9) (x:="_law_script") (CX:=fun _=>CX0) (sp:=fun w=>sp_law (K w.params)) hn (by decide) hdf ⟨rfl,by decide,by decide⟩ hY ?_ (fun _ _ a ns hl _ hS=>⟨a,ns,rfl,hS,hl,fun _=>rfl⟩) fun _ _ _ _ _ z=>z
  intro w mg fa h KX G hmg
  obtain⟨T⟩:=F w mg h KX G
  rw [hnm] at hmg
  have e:=hmg.symm.trans T.m_law
  cases e
  refine⟨T.d_law,fun s v=>?_,fun base _ _=>q'g T⟩
  obtain⟨oc,od,kV,doc,pm,an,cdv,ct,osl,hfd,lk,hcd⟩:=T.F_law.ex
  rw [hfd]
  exact .of_eq rfl
end Sf
/-! no twins of the start-up's heaps: their names are taken -/
def PySem.W.Fast.tw9397267086540419823:Unit:=()
def PySem.W.Fast.tw11348050491544469617:Unit:=()
def PySem.W.Fast.tw15252385020043675242:Unit:=()
def PySem.W.Fast.tw10130558830942482004:Unit:=()
def PySem.W.Fast.tw4288855190005619366:Unit:=()
def PySem.W.Fast.tw17801641542271563254:Unit:=()
def PySem.W.Fast.tw5493388269486022385:Unit:=()
def PySem.W.Fast.tw5530331740840958956:Unit:=()
def PySem.W.Fast.tw18026045998749136800:Unit:=()
def PySem.W.Fast.tw4678761657434053295:Unit:=()
def PySem.W.Fast.tw11781621421014495483:Unit:=()
def PySem.W.Fast.tw6357115193051977775:Unit:=()
def PySem.W.Fast.tw18162210376667745966:Unit:=()
def PySem.W.Fast.tw14689881148872910756:Unit:=()
def PySem.W.Fast.tw17141156653161650722:Unit:=()
def PySem.W.Fast.tw13989391872902452891:Unit:=()
def PySem.W.Fast.tw12229088946340542485:Unit:=()
def PySem.W.Fast.tw18030421904592370772:Unit:=()
def PySem.W.Fast.tw3896358177152215287:Unit:=()
def PySem.W.Fast.tw3014781631034060933:Unit:=()
def PySem.W.Fast.tw3396230601085473722:Unit:=()
def PySem.W.Fast.tw9126150212320962938:Unit:=()
def PySem.W.Fast.tw1043646450431845470:Unit:=()
def PySem.W.Fast.tw13503460505825122298:Unit:=()
def PySem.W.Fast.tw1909533512864398956:Unit:=()
def PySem.W.Fast.tw5466765720185865851:Unit:=()
def PySem.W.Fast.tw7633908086313821104:Unit:=()
def PySem.W.Fast.tw2375348117933204745:Unit:=()
def PySem.W.Fast.tw1022447591931872122:Unit:=()
def PySem.W.Fast.tw7051692345193868267:Unit:=()
def PySem.W.Fast.tw12145563450045339520:Unit:=()
def PySem.W.Fast.tw8823390641200809116:Unit:=()
def PySem.W.Fast.tw2837635615550715360:Unit:=()
def PySem.W.Fast.tw15918878865145280984:Unit:=()
open PySem PySem.W PyProof.Rows
set_option maxRecDepth 100000 in
set_option maxHeartbeats 0 in
theorem PySem.Challenge.cw_springframe_k92_whole_whatever_paper_bou_holds : PySem.Challenge.rw_springframe_k92_whole_whatever_paper_bou.Holds := by
  w_on;o_law;k_head;(case hw=>w_witness2)
  k_fill
  refine Sf.walk (l:=PySem.Challenge.rw_springframe_k92_whole_whatever_paper_bou) rfl rfl rfl (fun w h Y=>PySem.W.kIn_of Y) ?F
  case F=>
    intro w mg h KX G
    refine' ⟨Sf.tx_mk KX G ?e0 ?l0 ?c0 ?k0 ?e1 ?l1 ?c1 ?k1 ?e2 ?l2 ?c2 ?k2 ?e3 ?l3 ?c3 ?k3 ?e4 ?l4 ?c4 ?k4 ?e5 ?l5 ?c5 ?k5 ?e6 ?l6 ?c6 ?k6 ?e7 ?l7 ?c7 ?k7 ?e8 ?l8 ?c8 ?k8 ?e9 ?l9 ?c9 ?k9 ?e10 ?l10 ?c10 ?k10 ?e11 ?l11 ?c11 ?k11 ?e12 ?l12 ?c12 ?k12 ?e13 ?l13 ?c13 ?k13 ?e14 ?l14 ?c14 ?k14 ?e15 ?l15 ?c15 ?k15 ?e16 ?l16 ?c16 ?k16 ?e17 ?l17 ?c17 ?k17 ?e18 ?l18 ?c18 ?k18 ?e19 ?l19 ?c19 ?k19 ?e20 ?l20 ?c20 ?k20 ?e21 ?l21 ?c21 ?k21 ?e22 ?l22 ?c22 ?k22 ?e23 ?l23 ?c23 ?k23 ?e24 ?l24 ?c24 ?k24 ?e25 ?l25 ?c25 ?k25 ?e26 ?l26 ?c26 ?k26 ?e27 ?l27 ?c27 ?k27 ?e28 ?l28 ?c28 ?k28 ?e29 ?l29 ?c29 ?k29 ?e30 ?l30 ?c30 ?k30 ?e31 ?l31 ?c31 ?k31 ?e32 ?l32 ?c32 ?k32 ?n0 ?o0 ?yi_MUST ?xn_NoPaper ?xq_NoPaper ?xn_FrameError ?xq_FrameError ?yfg_NoPaper ?yfn_NoPaper ?yfc_NoPaper ?ymo_NoPaper ?ysb_NoPaper ?xk_NoPaper_FrameError ?xm_NoPaper_NoPaper ?z0 ?z1 ?z2 ?z3 ?z4 ?z5 ?z6 ?z7 ?z8 ?z9 ?z10⟩
    (case e0=>k_is)
    (case l0=>k_is)
    (case c0=>k_is)
    (case k0=>k_is)
    (case e1=>k_is)
    (case l1=>k_is)
    (case c1=>k_is)
    (case k1=>k_is)
    (case e2=>k_is)
    (case l2=>k_is)
    (case c2=>k_is)
    (case k2=>k_is)
    (case e3=>k_is)
    (case l3=>k_is)
    (case c3=>k_is)
    (case k3=>k_is)
    (case e4=>k_is)
    (case l4=>k_is)
    (case c4=>k_is)
    (case k4=>k_is)
    (case e5=>k_is)
    (case l5=>k_is)
    (case c5=>k_is)
    (case k5=>k_is)
    (case e6=>k_is)
    (case l6=>k_is)
    (case c6=>k_is)
    (case k6=>k_is)
    (case e7=>k_is)
    (case l7=>k_is)
    (case c7=>k_is)
    (case k7=>k_is)
    (case e8=>k_is)
    (case l8=>k_is)
    (case c8=>k_is)
    (case k8=>k_is)
    (case e9=>k_is)
    (case l9=>k_is)
    (case c9=>k_is)
    (case k9=>k_is)
    (case e10=>k_is)
    (case l10=>k_is)
    (case c10=>k_is)
    (case k10=>k_is)
    (case e11=>k_is)
    (case l11=>k_is)
    (case c11=>k_is)
    (case k11=>k_is)
    (case e12=>k_is)
    (case l12=>k_is)
    (case c12=>k_is)
    (case k12=>k_is)
    (case e13=>k_is)
    (case l13=>k_is)
    (case c13=>k_is)
    (case k13=>k_is)
    (case e14=>k_is)
    (case l14=>k_is)
    (case c14=>k_is)
    (case k14=>k_is)
    (case e15=>k_is)
    (case l15=>k_is)
    (case c15=>k_is)
    (case k15=>k_is)
    (case e16=>k_is)
    (case l16=>k_is)
    (case c16=>k_is)
    (case k16=>k_is)
    (case e17=>k_is)
    (case l17=>k_is)
    (case c17=>k_is)
    (case k17=>k_is)
    (case e18=>k_is)
    (case l18=>k_is)
    (case c18=>k_is)
    (case k18=>k_is)
    (case e19=>k_is)
    (case l19=>k_is)
    (case c19=>k_is)
    (case k19=>k_is)
    (case e20=>k_is)
    (case l20=>k_is)
    (case c20=>k_is)
    (case k20=>k_is)
    (case e21=>k_is)
    (case l21=>k_is)
    (case c21=>k_is)
    (case k21=>k_is)
    (case e22=>k_is)
    (case l22=>k_is)
    (case c22=>k_is)
    (case k22=>k_is)
    (case e23=>k_is)
    (case l23=>k_is)
    (case c23=>k_is)
    (case k23=>k_is)
    (case e24=>k_is)
    (case l24=>k_is)
    (case c24=>k_is)
    (case k24=>k_is)
    (case e25=>k_is)
    (case l25=>k_is)
    (case c25=>k_is)
    (case k25=>k_is)
    (case e26=>k_is)
    (case l26=>k_is)
    (case c26=>k_is)
    (case k26=>k_is)
    (case e27=>k_is)
    (case l27=>k_is)
    (case c27=>k_is)
    (case k27=>k_is)
    (case e28=>k_is)
    (case l28=>k_is)
    (case c28=>k_is)
    (case k28=>k_is)
    (case e29=>k_is)
    (case l29=>k_is)
    (case c29=>k_is)
    (case k29=>k_is)
    (case e30=>k_is)
    (case l30=>k_is)
    (case c30=>k_is)
    (case k30=>k_is)
    (case e31=>k_is)
    (case l31=>k_is)
    (case c31=>k_is)
    (case k31=>k_is)
    (case e32=>k_is)
    (case l32=>k_is)
    (case c32=>k_is)
    (case k32=>k_is)
    (case n0=>k_is)
    (case o0=>k_is)
    (case yi_MUST=>k_is)
    (case xn_NoPaper=>k_is)
    (case xq_NoPaper=>k_exc)
    (case xn_FrameError=>k_is)
    (case xq_FrameError=>k_exc)
    (case yfg_NoPaper=>k_is)
    (case yfn_NoPaper=>k_is)
    (case yfc_NoPaper=>k_is)
    (case ymo_NoPaper=>k_is)
    (case ysb_NoPaper=>k_is)
    (case xk_NoPaper_FrameError=>kit_is)
    (case xm_NoPaper_NoPaper=>kts_exm)
    (case z0=>k_is)
    (case z1=>k_is)
    (case z2=>k_is)
    (case z3=>k_is)
    (case z4=>k_is)
    (case z5=>k_is)
    (case z6=>k_is)
    (case z7=>k_is)
    (case z8=>k_is)
    (case z9=>k_is)
    (case z10=>k_is)
#print axioms PySem.Challenge.cw_springframe_k92_whole_whatever_paper_bou_holds

