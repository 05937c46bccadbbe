import PyProof.Rows.All
import Wide.All
import OpenK.AllK
import Wide.FinOn
import Lean
import PyProof.EqAt
import PyProof.EqKinds
import PyProof.TupleCall
import PySem.Challenge.RW_springframe_k12_rows_and_misses
set_option Elab.async false
set_option linter.all false
set_option maxRecDepth 100000
namespace L2
open PySem PySem.Spec PyProof.Rows
abbrev Key:=Sum Int Str
def keyIs:Key→Value→Bool
  | .inl k, v => Value.isInt k v
  | .inr x, v => Value.isStrOf x v
def keyH (w:World):Key→Int
  | .inl k => hashInt k
  | .inr x => hashStr w x
theorem b'c:∀ {k:Key} {v:Value},keyIs k v=true→(∃ i t,k=Sum.inl i∧v=Value.int i t)∨(∃ x t,k=Sum.inr x∧v=Value.str x t)
  | .inl i, v, h => by
    obtain⟨t,e⟩:=Value.isInt_shape (k:=i) (v:=v) h
    exact .inl ⟨i,t,rfl,e⟩
  | .inr x, v, h => by
    obtain⟨t,e⟩:=Value.isStrOf_shape (x:=x) (v:=v) h
    exact .inr ⟨x,t,rfl,e⟩
theorem j'L (i:Int) (t:Tok):keyIs (.inl i) (.int i t)=true:=by simp [keyIs,Value.isInt]
theorem j'M (x:Str) (t:Tok):keyIs (.inr x) (.str x t)=true:=by simp [keyIs,Value.isStrOf]
theorem n'l (a b:Int):decide ((Sum.inl a:Key)=Sum.inl b)=(a == b):=by
  by_cases e:a=b
  · subst e;simp
  · have h:¬ (Sum.inl a:Key)=Sum.inl b:=fun q=>e (Sum.inl.inj q)
    rw [decide_eq_false h]
    exact (beq_eq_false_iff_ne.mpr e).symm
theorem n'm (a b:Str):decide ((Sum.inr a:Key)=Sum.inr b)=decide (a=b):=by
  by_cases e:a=b
  · subst e;simp
  · have h:¬ (Sum.inr a:Key)=Sum.inr b:=fun q=>e (Sum.inr.inj q)
    rw [decide_eq_false h,decide_eq_false e]
theorem n'n (a:Int) (b:Str):decide ((Sum.inl a:Key)=Sum.inr b)=false:=decide_eq_false (fun q=>nomatch q)
theorem n'o (a:Str) (b:Int):decide ((Sum.inr a:Key)=Sum.inl b)=false:=decide_eq_false (fun q=>nomatch q)
def mixKind (prog:Program) (w:World):PySem.KeyKind prog w Key where
  is:=keyIs
  hash:=keyH w
  inj:=fun v a b ha hb=>by
    rcases b'c ha with ⟨i,t,rfl,rfl⟩ | ⟨x,t,rfl,rfl⟩
    · rcases b'c hb with ⟨j,u,rfl,e⟩ | ⟨y,u,rfl,e⟩
      · injection e with e1 _;rw [e1]
      · exact nomatch e
    · rcases b'c hb with ⟨j,u,rfl,e⟩ | ⟨y,u,rfl,e⟩
      · exact nomatch e
      · injection e with e1 _;rw [e1]
  byValue:=fun k v h=>by
    rcases b'c h with ⟨i,t,rfl,rfl⟩ | ⟨x,t,rfl,rfl⟩<;>rfl
  pyHash:=fun hv h=>by
    rcases b'c hv with ⟨i,t,rfl,rfl⟩ | ⟨x,t,rfl,rfl⟩
    · exact wpAny_pyHash_int h
    · exact wpAny_pyHash_str h
  eqBool:=fun hu hv h=>by
    rcases b'c hu with ⟨i,t,rfl,rfl⟩ | ⟨x,t,rfl,rfl⟩
    · rcases b'c hv with ⟨j,u,rfl,rfl⟩ | ⟨y,u,rfl,rfl⟩
      · rw [n'l] at h;exact wpAny_eqBool_int h
      · rw [n'n] at h;exact SeqAt.EqAt.int_str i t y u _ _ _ _ h
    · rcases b'c hv with ⟨j,u,rfl,rfl⟩ | ⟨y,u,rfl,rfl⟩
      · rw [n'o] at h;exact SeqAt.EqAt.str_int x t j u _ _ _ _ h
      · rw [n'm] at h;exact wpAny_eqBool_str h
  «strs»:=fun k x t v h=>by
    rcases b'c h with ⟨i,u,rfl,e⟩ | ⟨y,u,rfl,e⟩
    · exact nomatch e
    · injection e with e1 _
      subst e1
      cases v<;>rfl
theorem i'q (prog:Program) (w:World) (i:Int) (t:Tok):(mixKind prog w).is (.inl i) (.int i t)=true:=j'L i t
theorem d'k (prog:Program) (w:World) (x:Str) (t:Tok):(mixKind prog w).is (.inr x) (.str x t)=true:=j'M x t
end L2
namespace L2
open PySem PySem.Spec PyProof.Rows
inductive V where
  | non | bl (b : Bool) | int (i : Int) | str (x : Str) | byt (b : Array UInt8) | flt (b : UInt64) | ref (a : Addr) | ty (n : String)
  deriving DecidableEq
def RelV:V→Value→Prop
  | .non, u => u = Value.none
  | .bl b, u => u = Value.bool b
  | .int i, u => ∃ t, u = Value.int i t
  | .str x, u => ∃ t, u = Value.str x t
  | .byt b, u => ∃ t, u = Value.bytes b t
  | .flt b, u => ∃ t, u = Value.float b t
  | .ref a, u => u = Value.ref a
  | .ty n, u => u = Value.type n
abbrev Vals:List V→List Value→Prop:=Paired RelV
theorem Vals.length {xs:List V} {us:List Value} (r:Vals xs us):xs.length=us.length:=Paired.length r
theorem Vals.get:∀ {xs:List V} {us:List Value} {i:Nat} {x:V},Vals xs us→xs[i]?=some x→∃ u,us[i]?=some u∧RelV x u
  | _, _, _, _, .nil, e => by simp at e
  | _, _, 0, _, .cons r _, e => by simp at e; subst e; exact ⟨_, rfl, r⟩
  | _, _, i + 1, x, .cons _ t, e => by
    obtain⟨u,h1,h2⟩:=Vals.get (i:=i) (x:=x) t (by simpa using e)
    exact⟨u,by simpa using h1,h2⟩
theorem Vals.set {x:V} {u:Value} (r:RelV x u):∀ {xs:List V} {us:List Value} (i:Nat),Vals xs us→Vals (xs.set i x) (us.set i u)
  | _, _, _, .nil => .nil
  | _, _, 0, .cons _ t => .cons r t
  | _, _, i + 1, .cons q t => .cons q (Vals.set r i t)
theorem Vals.append:∀ {xs ys:List V} {us ws:List Value},Vals xs us→Vals ys ws→Vals (xs++ys) (us++ws)
  | _, _, _, _, .nil, s => s
  | _, _, _, _, .cons r t, s => .cons r (Vals.append t s)
theorem Vals.take:∀ {xs:List V} {us:List Value} (n:Nat),Vals xs us→Vals (xs.take n) (us.take n)
  | _, _, 0, _ => .nil
  | _, _, _ + 1, .nil => .nil
  | _, _, n + 1, .cons r t => .cons r (Vals.take n t)
theorem Vals.drop:∀ {xs:List V} {us:List Value} (n:Nat),Vals xs us→Vals (xs.drop n) (us.drop n)
  | _, _, 0, r => r
  | _, _, _ + 1, .nil => .nil
  | _, _, n + 1, .cons _ t => Vals.drop n t
def RelO:Option V→Option Value→Prop
  | some v, some u => RelV v u
  | none, none => True
  | _, _ => False
def KV {κ:Type}:List (κ×V)→List (κ×Value)→Prop:=Paired fun (p:κ×V) (q:κ×Value)=>p.1=q.1∧RelV p.2 q.2
def kV:Key→V
  | .inl i => .int i
  | .inr x => .str x
inductive HO where
  /-- a list -/
  | lst (xs : List V)
  /-- a tuple (never changes) -/
  | tup (xs : List V)
  /-- a dict whose keys are ints and texts; one whose keys are tuples of ints and texts (the empty one is both) -/
  | dK (kvs : List (Key × V)) | dT (kvs : List (List Key × V))
  /-- a set of ints: its members, its size -/
  | set (S : Int → Bool) (n : Nat)
  /-- an instance of the class at C, its dict at dx, its attributes -/
  | ins (C dx : Addr) (fs : List (Str × V))
  /-- the dict of the instance at x -/
  | own (x : Addr)
  /-- the dict of an exception -/
  | xd (fs : List (Str × V))
  /-- a bound method, f of x -/
  | met (f x : Addr)
  /-- a range object lo, lo + 1, .. below hi -/
  | rng (lo hi : Int)
  /-- a thing that is known to the object (the script; a dict while a loop walks it): read, never written while it is so -/
  | frz (o : Obj) (u : HO)
  /-- a code object's table -/
  | tbl (ps : Array Value)
  /-- any other thing, by what is true of its one object (a def of one's own: SetO a S n := HO.ext fun h => ..) -/
  | ext (φ : Heap → Prop)
abbrev Hp:=Addr→Option HO
def upd (H:Hp) (a:Addr) (o:HO):Hp:=fun b=>if b=a then some o else H b
theorem a'v {H:Hp} {a:Addr} {o:HO}:upd H a o a=some o:=by unfold upd;rw [if_pos rfl]
theorem a't {H:Hp} {a b:Addr} {o:HO} (h:b≠a):upd H a o b=H b:=by unfold upd;rw [if_neg h]
theorem c'g {H:Hp} {a:Addr} {o u:HO}:upd (upd H a o) a u=upd H a u:=by
  funext b;unfold upd;split<;>rfl
theorem h'm {H:Hp} {a b:Addr} {o u:HO} (h:H a=some o) (h':H b=some u) (d:o≠u):a≠b:=by
  intro e;subst e;rw [h] at h';exact d (Option.some.inj h')
theorem a'q {H:Hp} {a b:Addr} {o:HO} (h:H a=some o) (h':H b=none):a≠b:=by
  intro e;subst e;rw [h] at h';cases h'
section
variable (P:Program) (w:World)
def ObjOk (H:Hp) (h:Heap) (a:Addr):HO→Prop
  | .lst xs => xs.length ≤ sizeLine ∧ ∃ (its : List Value) (n : Nat), Vals xs its ∧ h.get? a = some { cls := .type "list", data := .seq its.toArray n }
  | .tup xs => xs.length ≤ sizeLine ∧ ∃ its : List Value, Vals xs its ∧ IsTup h a its.toArray
  | .dK kvs => kvs.length ≤ sizeLine ∧ (a == sysModules) = false ∧ ∃ vs, KV kvs vs ∧ h.DictOf (mixKind P w) a vs
  | .dT kvs => kvs.length ≤ sizeLine ∧ (a == sysModules) = false ∧ ∃ xs : List (List Key × Addr × Value),
      Paired (fun (p:List Key×V) (q:List Key×Addr×Value)=>p.1=q.1∧H q.2.1=some (.tup (p.1.map kV))∧RelV p.2 q.2.2) kvs xs∧
      ∃ o es ep,h.get? a=some o∧o.ExactDict∧o.data=.dict es ep∧es.toList=xs.map (entryOfKey (tupleKind (mixKind P w)))∧(xs.map (·.1)).Nodup
  | .set S n => h.SetOf (intKind P w) a S n
  | .ins C dx fs => H dx = some (.own a) ∧ fs.length ≤ 1000 ∧ dx ≠ a ∧ h.get? a = some (PySem.W.instObj C dx) ∧
      ∃ mA,h.Ns1 dx mA∧(∀ f,RelO (fs.lookup f) (mA f))∧PySem.Within mA (fs.map (·.1))
  | .own _ => ∃ o, h.get? a = some o
  | .xd fs => ∃ mA, h.Ns1 a mA ∧ ∀ f, RelO (fs.lookup f) (mA f)
  | .rng lo hi => ∃ t u v, h.get? a = some { cls := .type "range", data := .fields #[.int lo t, .int hi u, .int 1 v] }
  | .frz o u => h.get? a = some o ∧ ObjOk H h a u
  | .tbl ps => h.get? a = some { cls := .none, data := .fields ps }
  | .met f x => h.get? a = some (PySem.W.methodObj (.ref f) (.ref x))
  | .ext φ => φ h ∧ (∃ o, h.get? a = some o) ∧ ∀ h1 h2 : Heap, φ h1 → (∀ o, h1.get? a = some o → h2.get? a = some o) → φ h2
def HOk (H:Hp) (h:Heap):Prop:=∀ a o,H a=some o→ObjOk P w H h a o
end
section
variable {P:Program} {w:World} {H H':Hp} {h h':Heap} {a:Addr} {o:HO}
theorem ObjOk.lt (x:ObjOk P w H h a o):a<h.objs.size:=by
  cases o with
  | lst xs => obtain ⟨_, _, _, _, e⟩ := x; exact Heap.lt_size e
  | tup xs => obtain ⟨_, _, _, p⟩ := x; exact p.lt
  | dK kvs => obtain ⟨_, _, _, _, o, _, _, e, _⟩ := x; exact Heap.lt_size e
  | dT kvs => obtain ⟨_, _, _, _, o, _, _, e, _⟩ := x; exact Heap.lt_size e
  | set S n => obtain ⟨o, _, _, _, e, _⟩ := x; exact Heap.lt_size e
  | ins C dx fs => obtain ⟨_, _, _, e, _⟩ := x; exact Heap.lt_size e
  | own y => obtain ⟨_, e⟩ := x; exact Heap.lt_size e
  | xd fs => obtain ⟨_, ⟨_, _, _, e, _⟩, _⟩ := x; exact Heap.lt_size e
  | rng lo hi => obtain ⟨_, _, _, e⟩ := x; exact Heap.lt_size e
  | frz ob u => obtain ⟨e, _⟩ := x; exact Heap.lt_size e
  | tbl ps => exact Heap.lt_size (show h.get? a = some _ from x)
  | met f y => exact Heap.lt_size (show h.get? a = some _ from x)
  | ext φ => obtain ⟨_, ⟨_, e⟩, _⟩ := x; exact Heap.lt_size e
theorem Paired.mapP {α β:Type} {F G:α→β→Prop}:∀ {l₁:List α} {l₂:List β},Paired F l₁ l₂→(∀ a b,F a b→G a b)→Paired G l₁ l₂
  | _, _, .nil, _ => .nil
  | _, _, .cons r t, f => .cons (f _ _ r) (Paired.mapP t f)
theorem ObjOk.stay (x:ObjOk P w H h a o) (k:∀ b u,(b=a∨H b=some (.own a))→h.get? b=some u→h'.get? b=some u)
    (ho:∀ b,H b=some (.own a)→H' b=some (.own a)) (ht:∀ b xs,H b=some (.tup xs)→H' b=some (.tup xs)):ObjOk P w H' h' a o:=by
  induction o with
  | lst xs => obtain ⟨z, its, n, r, e⟩ := x; exact ⟨z, its, n, r, k _ _ (.inl rfl) e⟩
  | tup xs => obtain ⟨z, its, r, ob, e, c⟩ := x; exact ⟨z, its, r, ob, k _ _ (.inl rfl) e, c⟩
  | dK kvs => obtain ⟨z, y, vs, r, ob, es, ep, e, c⟩ := x; exact ⟨z, y, vs, r, ob, es, ep, k _ _ (.inl rfl) e, c⟩
  | dT kvs =>
    obtain⟨z,y,xs,r,ob,es,ep,e,c⟩:=x
    exact⟨z,y,xs,Paired.mapP r fun p q z=>⟨z.1,ht _ _ z.2.1,z.2.2⟩,ob,es,ep,k _ _ (.inl rfl) e,c⟩
  | set S n => obtain ⟨ob, es, ep, t, e, c⟩ := x; exact ⟨ob, es, ep, t, k _ _ (.inl rfl) e, c⟩
  | ins C dx fs =>
    obtain⟨d,z,ne,e,mA,⟨od,es,ep,e2,c⟩,r⟩:=x
    exact⟨ho _ d,z,ne,k _ _ (.inl rfl) e,mA,⟨od,es,ep,k _ _ (.inr d) e2,c⟩,r⟩
  | own y => obtain ⟨ob, e⟩ := x; exact ⟨ob, k _ _ (.inl rfl) e⟩
  | xd fs => obtain ⟨mA, ⟨od, es, ep, e, c⟩, r⟩ := x; exact ⟨mA, ⟨od, es, ep, k _ _ (.inl rfl) e, c⟩, r⟩
  | rng lo hi => obtain ⟨t, u, v, e⟩ := x; exact ⟨t, u, v, k _ _ (.inl rfl) e⟩
  | frz ob u ih => obtain ⟨e, q⟩ := x; exact ⟨k _ _ (.inl rfl) e, ih q⟩
  | tbl ps =>
    have e:h.get? a=some { cls:=.none,data:=.fields ps }:=x
    show h'.get? a=some { cls:=.none,data:=.fields ps }
    exact k a _ (.inl rfl) e
  | met f y =>
    have e:h.get? a=some (PySem.W.methodObj (.ref f) (.ref y)):=x
    show h'.get? a=some (PySem.W.methodObj (.ref f) (.ref y))
    exact k a _ (.inl rfl) e
  | ext φ => obtain ⟨p, ⟨o, e⟩, st⟩ := x; exact ⟨st _ _ p fun o q => k _ _ (.inl rfl) q, ⟨o, k _ _ (.inl rfl) e⟩, st⟩
theorem HOk.lt (x:HOk P w H h) (e:H a=some o):a<h.objs.size:=(x a o e).lt
theorem HOk.fresh (x:HOk P w H h) (e:h.objs.size≤a):H a=none:=by
  cases q:H a with
  | none => rfl
  | some u => exact absurd (Nat.lt_of_lt_of_le (x.lt q) e) (Nat.lt_irrefl _)
theorem HOk.kept (x:HOk P w H h) (k:∀ b u,h.get? b=some u→h'.get? b=some u):HOk P w H h':=fun a o e=>
  (x a o e).stay (fun b u _ q=>k b u q) (fun _ q=>q) fun _ _ q=>q
theorem HOk.laid (x:HOk P w H h) (k:∀ b u,h.get? b=some u→h'.get? b=some u) (hp:h.objs.size≤a) (new:ObjOk P w (upd H a o) h' a o):HOk P w (upd H a o) h':=fun b u e=>by
  have hn:=x.fresh hp
  by_cases hb:b=a
  · subst hb;rw [a'v] at e;cases e;exact new
  · rw [a't hb] at e
    exact (x b u e).stay (fun c v _ q=>k c v q) (fun c q=>by rw [a't (a'q q hn)];exact q) fun c xs q=>by rw [a't (a'q q hn)];exact q
end
def Rd (H:Hp) (a:Addr) (u:HO):Prop:=H a=some u∨∃ o,H a=some (.frz o u)
theorem Rd.of {H:Hp} {a:Addr} {u:HO} (h:H a=some u):Rd H a u:=.inl h
theorem Rd.ok {P:Program} {w:World} {H:Hp} {h:Heap} {a:Addr} {u:HO} (r:Rd H a u) (x:HOk P w H h):ObjOk P w H h a u:=by
  rcases r with r | ⟨o,r⟩
  · exact x a u r
  · obtain⟨_,q⟩:=x a _ r
    exact q
def Mut:Option HO→Prop
  | some (.lst _) => True
  | some (.dK _) => True
  | some (.dT _) => True
  | some (.set _ _) => True
  | some (.ins _ _ _) => True
  | some (.ext _) => True
  | _ => False
section
variable {P:Program} {w:World} {H:Hp} {h h':Heap} {x e:Addr} {o':HO}
theorem HOk.write (ok:HOk P w H h) (mu:Mut (H x)) (he:e=x∨H e=some (.own x)) (k:∀ b u,b≠e→h.get? b=some u→h'.get? b=some u) (heo:∃ u,h'.get? e=some u)
    (new:ObjOk P w (upd H x o') h' x o'):HOk P w (upd H x o') h':=fun b u q=>by
  have nown:∀ c y,H c=some (.own y)→c≠x:=fun c y r z=>by subst z;rw [r] at mu;exact mu
  have ntup:∀ c xs,H c=some (.tup xs)→c≠x:=fun c xs r z=>by subst z;rw [r] at mu;exact mu
  by_cases hb:b=x
  · subst hb;rw [a'v] at q;cases q;exact new
  · rw [a't hb] at q
    by_cases hbe:b=e
    · have q':H b=some (.own x):=by
        rcases he with z | z
        · exact absurd (hbe.trans z) hb
        · rw [hbe];exact z
      rw [q] at q';cases q'
      obtain⟨v,hv⟩:=heo
      exact⟨v,by rw [hbe];exact hv⟩
    · refine (ok b u q).stay (fun c v hc r=>k c v ?_ r) (fun c r=>by rw [a't (nown c b r)];exact r) fun c xs r=>by rw [a't (ntup c xs r)];exact r
      rcases hc with rfl | hc
      · exact hbe
      · rintro rfl
        rcases he with z | z
        · exact nown c b hc z
        · rw [hc] at z;cases z;exact hb rfl
end
structure Un (fs ex:List Addr) (H H':Hp) (h h':Heap):Prop where
  keep:∀ b o,h.get? b=some o→H b=none→b ∉ fs→b ∉ ex→h'.get? b=some o
  slot:∀ b o,h.get? b=some o→H b=none→b∈fs→b ∉ ex→∃ sl,h'.get? b=some { o with slots:=sl }
  free:∀ b o,h.get? b=some o→H b=none→b ∉ ex→H' b=none
  there:∀ b o,h.get? b=some o→b ∉ ex→∃ o',h'.get? b=some o'
  tups:∀ b xs,H b=some (.tup xs)→H' b=some (.tup xs)
  frzs:∀ b o u,H b=some (.frz o u)→H' b=some (.frz o u)
  tbls:∀ b ps,H b=some (.tbl ps)→∃ more,H' b=some (.tbl (ps++more))
section
variable {fs fs' ex ex':List Addr} {H H1 H2:Hp} {h h1 h2 h':Heap} {a x e:Addr} {o:HO}
theorem Un.any (u:Un fs ex H H1 h h1) {b:Addr} {ob:Obj} (q:h.get? b=some ob) (n:H b=none) (hx:b ∉ ex):∃ sl,h1.get? b=some { ob with slots:=sl }:=by
  by_cases hb:b∈fs
  · exact u.slot b ob q n hb hx
  · exact⟨ob.slots,u.keep b ob q n hb hx⟩
theorem Un.kept (k:∀ b u,h.get? b=some u→h'.get? b=some u):Un fs ex H H h h':=
  ⟨fun b ob q _ _ _=>k b ob q,fun b ob q _ _ _=>⟨ob.slots,k b ob q⟩,fun _ _ _ n _=>n,fun b ob q _=>⟨ob,k b ob q⟩,fun _ _ q=>q,fun _ _ _ q=>q,fun _ ps q=>⟨#[],by rw [q];simp⟩⟩
theorem Un.refl:Un fs ex H H h h:=Un.kept fun _ _ q=>q
theorem Un.laid (k:∀ b u,h.get? b=some u→h'.get? b=some u) (hp:h.objs.size≤a) (hn:H a=none):Un fs ex H (upd H a o) h h' where
  keep:=fun b u q _ _ _=>k b u q
  slot:=fun b u q _ _ _=>⟨u.slots,k b u q⟩
  free:=fun b u q n _=>by rw [a't (Nat.ne_of_lt (Nat.lt_of_lt_of_le (Heap.lt_size q) hp))];exact n
  there:=fun b u q _=>⟨u,k b u q⟩
  tups:=fun b xs q=>by rw [a't (a'q q hn)];exact q
  frzs:=fun b u xs q=>by rw [a't (a'q q hn)];exact q
  tbls:=fun b ps q=>⟨#[],by rw [a't (a'q q hn),q];simp⟩
theorem Un.write (mu:Mut (H x)) (he:e=x∨H e=some (.own x)) (k:∀ b u,b≠e→h.get? b=some u→h'.get? b=some u) (heo:∃ u,h'.get? e=some u):Un fs ex H (upd H x o) h h':=by
  have hx:∀ b,H b=none→b≠x:=fun b n z=>by subst z;rw [n] at mu;exact mu
  have hb:∀ b,H b=none→b≠e:=fun b n z=>by
    subst z
    rcases he with r | r
    · exact hx b n r
    · rw [n] at r;cases r
  have hm:∀ b u,H b=some u→¬ Mut (some u)→b≠x:=fun b u q nm z=>by subst z;rw [q] at mu;exact nm mu
  refine⟨fun b u q n _ _=>k b u (hb b n) q,fun b u q n _ _=>⟨u.slots,k b u (hb b n) q⟩,fun b u q n _=>by rw [a't (hx b n)];exact n,fun b u q _=>?_,
    fun b xs q=>by rw [a't (hm b _ q fun z=>z)];exact q,fun b u xs q=>by rw [a't (hm b _ q fun z=>z)];exact q,fun b ps q=>⟨#[],by rw [a't (hm b _ q fun z=>z),q];simp⟩⟩
  by_cases hbe:b=e
  · subst hbe;exact heo
  · exact⟨u,k b u hbe q⟩
end
def trk (h:Heap) (H:Hp):List Addr:=(List.range h.objs.size).filter fun a=>(H a).isSome
def hidT (h:Heap) (H:Hp):Heap:=PySem.W.hideAll h (trk h H)
theorem j'N (h:Heap) (H:Hp):(hidT h H).objs.size=h.objs.size:=PySem.W.hideAll_size _ _
theorem l'd {h:Heap} {H:Hp} {b:Addr} {o:Obj} (e:h.get? b=some o) (n:H b=none):(hidT h H).get? b=some o:=
  PySem.W.hideAll_get _ e fun hm=>by
    have q:(H b).isSome=true:=(List.mem_filter.mp hm).2
    rw [n] at q;simp at q
theorem m'c {h:Heap} {H:Hp} {b:Addr} {o:Obj} (e:(hidT h H).get? b=some o):h.get? b=some o∧H b=none:=by
  have e':h.get? b=some o:=PySem.W.of_hideAll (trk h H) e
  refine⟨e',?_⟩
  cases q:H b with
  | none => rfl
  | some x =>
    have hm:b∈trk h H:=List.mem_filter.mpr ⟨List.mem_range.mpr (Heap.lt_size e'),by simp [q]⟩
    have z:(hidT h H).get? b=none:=PySem.W.hideAll_none (trk h H) hm
    rw [z] at e;cases e
end L2
namespace L2
open PySem PySem.Spec PyProof.Rows
structure Mod (K:PySem.W.Frag) (mg:Str→Option Value) (base:Heap):Prop where
  kin:K.In base
  glob:base.Ns mainGlobals mg
  blt:∃ mb,base.Ns builtinsNs mb∧∀ x:Str,x≠"__name__"→mb x=bootBuiltins x
  nolimit:base.NoLimit
structure Cx where
  prog:Program
  w:World
  K:PySem.W.Frag
  mg:Str→Option Value
  base:Heap
  A:Around
  N:List Str
  s₀:Shared
  H₀:Hp
  env:Env
  outer:List Env
  stack:List Env
  ex:List Addr
  fn:Str→Bool
  calm:Bool
  pn:List (Addr×Obj)
  xe:Value→Shared→Prop
def frs (l:List Env):List Addr:=l.filterMap (·.frame)
abbrev Cx.fs (X:Cx):List Addr:=frs X.outer
def Vis (sc:Scope) (x:Str):Prop:=sc.names.lookup x=some .local∨sc.names.lookup x=some .cell∨sc.names.lookup x=some .free
def Loc (sc:Scope) (x:Str):Prop:=sc.names.lookup x=some .local∨sc.names.lookup x=some .cell
def Look (env:Env) (h:Heap) (m:Str→Option Value) (x:Str) (u:Value):Prop:=
  (env.kindOf x=some .local∧m x=some u)∨((env.kindOf x=some .cell∨env.kindOf x=some .free)∧∃ c,env.cells.lookup x=some c∧h.IsCell c (some u))
structure Cx.Ok (X:Cx):Prop where
  mod:Mod X.K X.mg X.base
  kind:X.env.scope.kind=.function
  glob:X.env.globals=mainGlobals
  blt:X.env.builtins=builtinsNs
  above:X.s₀.heap.objs.size≤X.env.locals
  inj:∀ x y c,X.env.cells.lookup x=some c→X.env.cells.lookup y=some c→x=y
  has:∀ x,(X.env.kindOf x=some .cell∨X.env.kindOf x=some .free)→∃ c,X.env.cells.lookup x=some c
  cab:∀ x c,X.fn x=true→X.env.cells.lookup x=some c→X.s₀.heap.objs.size≤c
  hd:X.calm=true→X.A.handled=none
  frames:X.A.frames=some X.stack
  stk:X.stack=X.outer∨(X.stack=X.env :: X.outer∧X.env.frame=some X.env.locals)
  exf:∀ b∈X.ex,b≠X.env.locals∧∀ x c,X.env.cells.lookup x=some c→c≠b
  bs:∀ b o,X.base.get? b=some o→X.s₀.heap.get? b=some o∧X.H₀ b=none
  bsz:X.base.objs.size≤X.s₀.heap.objs.size
  noex:∀ b o,X.base.get? b=some o→b ∉ X.ex
  exfs:∀ b∈X.ex,b ∉ X.fs
  funs:X.s₀.heap.FunFrames X.base X.outer
  frf:∀ b∈X.fs,X.H₀ b=none
structure Inv (X:Cx) (pins:List (Addr×Obj)) (σ:List (Option V)) (H:Hp) (s:Shared):Prop where
  ok:X.Ok
  os:s.os=X.s₀.os
  bare:AllBare s.gens
  base:Un X.fs X.ex X.H₀ H X.s₀.heap s.heap
  loc:∃ m,s.heap.Ns X.env.locals m∧∀ (i:Nat) (x:Str) (v:V),X.N[i]?=some x→σ[i]?=some (some v)→Vis X.env.scope x→∃ u,RelV v u∧Look X.env s.heap m x u
  cell:∀ x c,X.env.cells.lookup x=some c→∃ v,s.heap.IsCell c v
  free:H X.env.locals=none
  freeC:∀ x c,X.env.cells.lookup x=some c→H c=none
  pin:∀ p∈X.pn++pins,s.heap.get? p.1=some p.2∧H p.1=none∧p.1≠X.env.locals∧p.1 ∉ X.fs∧∀ v,p.2.data≠.cell v
  hok:HOk X.prog X.w H s.heap
  len:σ.length=X.N.length
section
variable {X:Cx} {pins:List (Addr×Obj)} {σ:List (Option V)} {H H':Hp} {s:Shared} {h':Heap}
theorem Cx.Ok.nofr (ok:X.Ok) {b:Addr} {o:Obj} (e:X.base.get? b=some o):b ∉ X.fs:=fun hb=>by
  have:=(ok.funs.mem hb).1
  rw [e] at this;cases this
theorem Inv.bs (I:Inv X pins σ H s):∀ b o,X.base.get? b=some o→s.heap.get? b=some o∧H b=none:=fun b o e=>
  ⟨I.base.keep b o (I.ok.bs b o e).1 (I.ok.bs b o e).2 (I.ok.nofr e) (I.ok.noex b o e),I.base.free b o (I.ok.bs b o e).1 (I.ok.bs b o e).2 (I.ok.noex b o e)⟩
theorem Inv.bk (I:Inv X pins σ H s):∀ b o,X.base.get? b=some o→s.heap.get? b=some o:=fun b o e=>(I.bs b o e).1
theorem Inv.mod (I:Inv X pins σ H s):Mod X.K X.mg X.base:=I.ok.mod
theorem Inv.kIn (I:Inv X pins σ H s):X.K.In s.heap:=I.ok.mod.kin.keeps I.bk
theorem Inv.lt (I:Inv X pins σ H s):X.env.locals<s.heap.objs.size:=let ⟨_,hn,_⟩:=I.loc;hn.lt
theorem Inv.sz (I:Inv X pins σ H s):X.s₀.heap.objs.size≤s.heap.objs.size:=Nat.le_trans I.ok.above (Nat.le_of_lt I.lt)
theorem Inv.nofs (I:Inv X pins σ H s) {a:Addr} (h:s.heap.objs.size≤a):a ∉ X.fs:=fun hb=>by
  obtain⟨_,o,ho,_⟩:=I.ok.funs.mem hb
  exact absurd (Nat.lt_of_lt_of_le (Heap.lt_size ho) (Nat.le_trans I.sz h)) (Nat.lt_irrefl _)
theorem Inv.cne (I:Inv X pins σ H s):∀ x c,X.env.cells.lookup x=some c→c≠X.env.locals:=fun x c e z=>by
  obtain⟨v,o,ho,hd⟩:=I.cell x c e
  obtain⟨m,⟨o',es,ep,ho',hd',_⟩,_⟩:=I.loc
  rw [z,ho'] at ho;cases ho;rw [hd'] at hd;cases hd
theorem Inv.funs (I:Inv X pins σ H s):s.heap.FunFrames X.base X.outer:=by
  have all:∀ (l:List Env),(∀ b∈frs l,b∈X.fs)→X.s₀.heap.FunFrames X.base l→s.heap.FunFrames X.base l:=by
    intro l
    induction l with
    | nil=>intro _ _;trivial
    | cons env r ih=>
      intro hs hl
      obtain⟨hk,⟨L,o,hf,hn,ho,hd⟩,hr⟩:=hl
      have hL:L∈X.fs:=hs L (by unfold frs;rw [List.filterMap_cons,hf];exact List.mem_cons_self)
      obtain⟨sl,e⟩:=I.base.slot L o ho (I.ok.frf L hL) hL fun z=>I.ok.exfs L z hL
      exact⟨hk,⟨L,_,hf,hn,e,hd⟩,ih (fun b hb=>hs b (by unfold frs;rw [List.filterMap_cons,hf];exact List.mem_cons_of_mem _ hb)) hr⟩
  exact all X.outer (fun _ hb=>hb) I.ok.funs
theorem Inv.stack (I:Inv X pins σ H s):s.heap.FunFrames X.base X.stack:=by
  rcases I.ok.stk with e | ⟨e,hf⟩
  · rw [e];exact I.funs
  · rw [e]
    obtain⟨m,hn,_⟩:=I.loc
    refine .cons (by rw [I.ok.kind];decide) hf hn ?_ I.funs
    exact Heap.get?_none_of_le (Nat.le_trans I.ok.bsz I.ok.above)
theorem Inv.stkSub (I:Inv X pins σ H s):∀ b∈frs X.stack,b∈X.env.locals :: X.fs:=fun b hb=>by
  rcases I.ok.stk with e | ⟨e,hf⟩
  · rw [e] at hb;exact List.mem_cons_of_mem _ hb
  · rw [e] at hb
    unfold frs at hb
    rw [List.filterMap_cons,hf] at hb
    exact hb
theorem Inv.stkFree (I:Inv X pins σ H s):∀ b∈frs X.stack,H b=none:=fun b hb=>by
  rcases List.mem_cons.mp (I.stkSub b hb) with e | hb
  · rw [e];exact I.free
  · obtain⟨_,o,ho,_⟩:=I.ok.funs.mem hb
    exact I.base.free b o ho (I.ok.frf b hb) fun z=>I.ok.exfs b z hb
theorem Inv.step {g':Array GenState} {t':Nat} {d':Drawn} {ch:List Addr} (I:Inv X pins σ H s)
    (hch:∀ b∈ch,(b∈X.ex∨X.s₀.heap.objs.size≤b)∧b≠X.env.locals∧(∀ x c,X.env.cells.lookup x=some c→c≠b)∧∀ p∈X.pn++pins,p.1≠b)
    (keep:∀ b o,b≠X.env.locals→b ∉ X.fs→b ∉ ch→s.heap.get? b=some o→H b=none→h'.get? b=some o)
    (slot:∀ b o,b≠X.env.locals→b∈X.fs→b ∉ ch→s.heap.get? b=some o→H b=none→∃ sl,h'.get? b=some { o with slots:=sl }) (free:∀ b o,b ∉ ch→s.heap.get? b=some o→H b=none→H' b=none)
    (there:∀ b o,b ∉ ch→s.heap.get? b=some o→∃ o',h'.get? b=some o')
    (tups:∀ b xs,H b=some (.tup xs)→H' b=some (.tup xs)) (frzs:∀ b o u,H b=some (.frz o u)→H' b=some (.frz o u)) (tbls:∀ b ps,H b=some (.tbl ps)→∃ more,H' b=some (.tbl (ps++more)))
    (ns:∀ m,s.heap.Ns X.env.locals m→h'.Ns X.env.locals m) (hok:HOk X.prog X.w H' h') (hg:AllBare g') :
    Inv X pins σ H' { s with heap:=h',gens:=g',drawn:=d',toks:=t' }:=by
  have neL:∀ b o,X.s₀.heap.get? b=some o→b≠X.env.locals:=fun b o e=>Nat.ne_of_lt (Nat.lt_of_lt_of_le (Heap.lt_size e) I.ok.above)
  have neC:∀ b o,X.s₀.heap.get? b=some o→b ∉ X.ex→b ∉ ch:=fun b o e hx hb=>by
    rcases (hch b hb).1 with z | z
    · exact hx z
    · exact absurd (Nat.lt_of_lt_of_le (Heap.lt_size e) z) (Nat.lt_irrefl _)
  have cellK:∀ x c,X.env.cells.lookup x=some c→∀ v,s.heap.IsCell c v→h'.IsCell c v:=fun x c e v ⟨o,ho,hd⟩=>by
    have nch:c ∉ ch:=fun z=>(hch c z).2.2.1 x c e rfl
    by_cases hc:c∈X.fs
    · obtain⟨sl,q⟩:=slot c o (I.cne x c e) hc nch ho (I.freeC x c e)
      exact⟨_,q,hd⟩
    · exact⟨o,keep c o (I.cne x c e) hc nch ho (I.freeC x c e),hd⟩
  refine⟨I.ok,I.os,hg,⟨fun b o e n hb hx=>?_,fun b o e n hb hx=>?_,fun b o e n hx=>?_,fun b o e hx=>?_,fun b xs e=>tups b xs (I.base.tups b xs e),fun b o xs e=>frzs b o xs (I.base.frzs b o xs e),fun b ps e=>?_⟩,?_,fun x c e=>?_,?_,fun x c e=>?_,fun p hp=>?_,hok,I.len⟩
  · exact keep b o (neL b o e) hb (neC b o e hx) (I.base.keep b o e n hb hx) (I.base.free b o e n hx)
  · obtain⟨sl,e1⟩:=I.base.slot b o e n hb hx
    obtain⟨sl',e2⟩:=slot b _ (neL b o e) hb (neC b o e hx) e1 (I.base.free b o e n hx)
    exact⟨sl',e2⟩
  · obtain⟨o',e1⟩:=I.base.there b o e hx
    exact free b o' (neC b o e hx) e1 (I.base.free b o e n hx)
  · obtain⟨o',e1⟩:=I.base.there b o e hx
    exact there b o' (neC b o e hx) e1
  · obtain⟨m1,e1⟩:=I.base.tbls b ps e
    obtain⟨m2,e2⟩:=tbls b _ e1
    exact⟨m1++m2,by rw [e2,Array.append_assoc]⟩
  · obtain⟨m,hn,hl⟩:=I.loc
    refine⟨m,ns m hn,fun i x v e1 e2 e3=>?_⟩
    obtain⟨u,r,l⟩:=hl i x v e1 e2 e3
    refine⟨u,r,?_⟩
    rcases l with l | ⟨k,c,e,z⟩
    · exact .inl l
    · exact .inr ⟨k,c,e,cellK x c e _ z⟩
  · obtain⟨v,z⟩:=I.cell x c e
    exact⟨v,cellK x c e v z⟩
  · obtain⟨m,⟨o,_,_,ho,_⟩,_⟩:=I.loc
    exact free _ o (fun z=>(hch _ z).2.1 rfl) ho I.free
  · obtain⟨v,o,ho,hd⟩:=I.cell x c e
    exact free c o (fun z=>(hch c z).2.2.1 x c e rfl) ho (I.freeC x c e)
  · obtain⟨e,n,ne,nf,d⟩:=I.pin p hp
    have nch:p.1 ∉ ch:=fun z=>(hch p.1 z).2.2.2 p hp rfl
    exact⟨keep p.1 p.2 ne nf nch e n,free p.1 p.2 nch e n,ne,nf,d⟩
theorem Inv.un {t':Nat} (I:Inv X pins σ H s) (u:Un X.fs [] H H' s.heap h') (hok:HOk X.prog X.w H' h'):Inv X pins σ H' { s with heap:=h',toks:=t' }:=by
  obtain⟨m,⟨o,es,ep,ho,r⟩,_⟩:=id I.loc
  obtain⟨sl,hL⟩:=u.any ho I.free (by simp)
  exact I.step (g':=s.gens) (d':=s.drawn) (ch:=[]) (fun _ z=>nomatch z) (fun b o _ hb _ e n=>u.keep b o e n hb (by simp)) (fun b o _ hb _ e n=>u.slot b o e n hb (by simp)) (fun b o _ e n=>u.free b o e n (by simp)) (fun b o _ e=>u.there b o e (by simp)) u.tups u.frzs u.tbls (fun m' hm=>by
    obtain⟨o',es',ep',ho',r'⟩:=hm
    rw [ho] at ho';cases ho'
    exact⟨_,es',ep',hL,r'⟩) hok I.bare
theorem Inv.call {g':Array GenState} {t':Nat} {d':Drawn} {ch:List Addr} (I:Inv X pins σ H s) (u:Un (frs X.stack) ch H H' s.heap h') (hok:HOk X.prog X.w H' h') (hg:AllBare g')
    (hch:∀ b∈ch,(b∈X.ex∨X.s₀.heap.objs.size≤b)∧b≠X.env.locals∧(∀ x c,X.env.cells.lookup x=some c→c≠b)∧∀ p∈X.pn++pins,p.1≠b) :
    Inv X pins σ H' { s with heap:=h',gens:=g',drawn:=d',toks:=t' }:=by
  obtain⟨m,⟨o,es,ep,ho,r⟩,_⟩:=id I.loc
  obtain⟨sl,hL⟩:=u.any ho I.free fun z=>(hch _ z).2.1 rfl
  exact I.step (ch:=ch) hch (fun b o hL hb hc e n=>u.keep b o e n (fun z=>(List.mem_cons.mp (I.stkSub b z)).elim hL hb) hc) (fun b o _ _ hc e n=>u.any e n hc) (fun b o hc e n=>u.free b o e n hc) (fun b o hc e=>u.there b o e hc) u.tups u.frzs u.tbls (fun m' hm=>by
    obtain⟨o',es',ep',ho',r'⟩:=hm
    rw [ho] at ho';cases ho'
    exact⟨_,es',ep',hL,r'⟩) hok hg
theorem Inv.turned {t':Nat} {it:Addr} (I:Inv X pins σ H s) (k:∀ b o,b≠it→s.heap.get? b=some o→h'.get? b=some o) (hn:H it=none) (hL:it≠X.env.locals)
    (h1:it∈X.ex∨X.s₀.heap.objs.size≤it) (h2:∀ x c,X.env.cells.lookup x=some c→c≠it) (h3:∀ p∈X.pn++pins,p.1≠it):Inv X pins σ H { s with heap:=h',toks:=t' }:=by
  have nit:∀ b u,H b=some u→b≠it:=fun b u e z=>by rw [z,hn] at e;cases e
  refine I.step (g':=s.gens) (d':=s.drawn) (ch:=[it]) (fun b hb=>?_) (fun b o _ _ hc e _=>k b o (fun z=>hc (by simp [z])) e) (fun b o _ _ hc e _=>⟨o.slots,k b o (fun z=>hc (by simp [z])) e⟩) (fun _ _ _ _ n=>n)
    (fun b o hc e=>⟨o,k b o (fun z=>hc (by simp [z])) e⟩) (fun _ _ e=>e) (fun _ _ _ e=>e) (fun b ps e=>⟨#[],by rw [e];simp⟩) (fun m hm=>?_) (fun b u e=>?_) I.bare
  · have e:b=it:=by simpa using hb
    subst e
    exact⟨h1,hL,h2,h3⟩
  · obtain⟨o,es,ep,ho,r⟩:=hm
    exact⟨o,es,ep,k _ o (Ne.symm hL) ho,r⟩
  · refine (I.hok b u e).stay (fun c v hc q=>k c v ?_ q) (fun _ q=>q) fun _ _ q=>q
    rcases hc with z | z
    · rw [z];exact nit b u e
    · exact nit c _ z
theorem Inv.tok (I:Inv X pins σ H s) (t:Nat):Inv X pins σ H { s with toks:=t }:=I.un (h':=s.heap) (t':=t) Un.refl I.hok
theorem Inv.kept {t':Nat} (I:Inv X pins σ H s) (k:∀ b u,s.heap.get? b=some u→h'.get? b=some u):Inv X pins σ H { s with heap:=h',toks:=t' }:=I.un (Un.kept k) (I.hok.kept k)
theorem Inv.laid {a:Addr} {o:HO} {t':Nat} (I:Inv X pins σ H s) (k:∀ b u,s.heap.get? b=some u→h'.get? b=some u) (hp:s.heap.objs.size≤a) (new:ObjOk X.prog X.w (upd H a o) h' a o) :
    Inv X pins σ (upd H a o) { s with heap:=h',toks:=t' }:=I.un (Un.laid k hp (I.hok.fresh hp)) (I.hok.laid k hp new)
theorem Inv.write {x e:Addr} {o:HO} {t':Nat} (I:Inv X pins σ H s) (mu:Mut (H x)) (he:e=x∨H e=some (.own x)) (k:∀ b u,b≠e→s.heap.get? b=some u→h'.get? b=some u) (heo:∃ u,h'.get? e=some u)
    (new:ObjOk X.prog X.w (upd H x o) h' x o):Inv X pins σ (upd H x o) { s with heap:=h',toks:=t' }:=I.un (Un.write mu he k heo) (I.hok.write mu he k heo new)
theorem Inv.weak {σ':List (Option V)} (I:Inv X pins σ H s) (hl:σ'.length=σ.length) (w:∀ (i:Nat) v,σ'[i]?=some (some v)→σ[i]?=some (some v)):Inv X pins σ' H s:=
  ⟨I.ok,I.os,I.bare,I.base,let ⟨m,hn,hl'⟩:=I.loc;⟨m,hn,fun i x v e1 e2 e3=>hl' i x v e1 (w i v e2) e3⟩,I.cell,I.free,I.freeC,I.pin,I.hok,hl.trans I.len⟩
theorem Inv.pins_of {pins':List (Addr×Obj)} (I:Inv X pins σ H s) (h:∀ p∈pins',s.heap.get? p.1=some p.2∧H p.1=none∧p.1≠X.env.locals∧p.1 ∉ X.fs∧∀ v,p.2.data≠.cell v):Inv X pins' σ H s:=
  ⟨I.ok,I.os,I.bare,I.base,I.loc,I.cell,I.free,I.freeC,fun p hp=>(List.mem_append.mp hp).elim (fun z=>I.pin p (List.mem_append_left _ z)) (h p),I.hok,I.len⟩
theorem h't {N:List Str} (hN:N.Nodup) {i j:Nat} {x:Str} (a:N[i]?=some x) (b:N[j]?=some x):i=j:=by
  obtain⟨h1,e1⟩:=List.getElem?_eq_some_iff.mp a
  obtain⟨h2,e2⟩:=List.getElem?_eq_some_iff.mp b
  exact (List.getElem_inj hN).mp (e1.trans e2.symm)
theorem j'O {M:Model} {A:Around} {E:Value→Shared→Prop} {i:Nat} {x:Str} {v:V} {u:Value} {Q:Unit→Shared→Prop} (I:Inv X pins σ H s) (hN:X.N.Nodup) (hi:X.N[i]?=some x) (hx:Loc X.env.scope x) (r:RelV v u)
    (h:∀ s',Inv X pins (σ.set i (some v)) H s'→(∃ a,Heap.SameBut a s.heap s'.heap∧(a=X.env.locals∨X.env.cells.lookup x=some a))→Q () s') (hf:X.fn x=true∨X.env.scope.names.lookup x=some .local:=by first | exact .inl rfl | exact .inr rfl | assumption):wpAny M A (storeName X.env x u) Q E s:=by
  obtain⟨m,hn,hl⟩:=id I.loc
  have hcls:(X.env.scope.kind == .class || (X.env.scope.kind == .module && X.env.locals != X.env.globals))=false:=by rw [I.ok.kind];rfl
  have hiσ:i<σ.length:=by rw [I.len];exact (List.getElem?_eq_some_iff.mp hi).1
  have cne:=I.cne
  have tracked:∀ {a:Addr} {h':Heap},(∃ o,s.heap.get? a=some o∧H a=none)→Heap.SameBut a s.heap h'→HOk X.prog X.w H h':=fun {a h'} ha hs b ob e=>by
    obtain⟨_,_,hfree⟩:=ha
    refine (I.hok b ob e).stay (fun c w' hc q=>(hs.2 c ?_).trans q) (fun _ q=>q) fun _ _ q=>q
    rintro rfl
    rcases hc with rfl | hc
    · rw [hfree] at e;cases e
    · rw [hfree] at hc;cases hc
  rcases hx with hk | hk
  · refine wpAny_storeName_local hk hn (fun h' hn' hs=>?_) hcls
    obtain⟨oL,_,_,hoL,_⟩:=id hn
    refine h _ ⟨I.ok,I.os,I.bare,⟨fun b o e n hb hx=>?_,fun b o e n hb hx=>?_,I.base.free,fun b o e hx=>?_,I.base.tups,I.base.frzs,I.base.tbls⟩,⟨_,hn',fun j y v' e1 e2 e3=>?_⟩,fun y c e=>?_,I.free,I.freeC,fun p hp=>?_,tracked ⟨oL,hoL,I.free⟩ hs,by simpa using I.len⟩ ⟨_,hs,.inl rfl⟩
    · exact (hs.2 b (Nat.ne_of_lt (Nat.lt_of_lt_of_le (Heap.lt_size e) I.ok.above))).trans (I.base.keep b o e n hb hx)
    · obtain⟨sl,e1⟩:=I.base.slot b o e n hb hx
      exact⟨sl,(hs.2 b (Nat.ne_of_lt (Nat.lt_of_lt_of_le (Heap.lt_size e) I.ok.above))).trans e1⟩
    · obtain⟨o',e1⟩:=I.base.there b o e hx
      exact⟨o',(hs.2 b (Nat.ne_of_lt (Nat.lt_of_lt_of_le (Heap.lt_size e) I.ok.above))).trans e1⟩
    · by_cases hj:j=i
      · subst hj
        rw [hi] at e1;cases e1
        rw [List.getElem?_set_self hiσ] at e2
        cases e2
        exact⟨u,r,.inl ⟨hk,by simp⟩⟩
      · rw [List.getElem?_set_ne (Ne.symm hj)] at e2
        obtain⟨u',r',q⟩:=hl j y v' e1 e2 e3
        refine⟨u',r',?_⟩
        rcases q with ⟨k,e⟩ | ⟨k,c,e,z⟩
        · refine .inl ⟨k,?_⟩
          have:y≠x:=fun e=>hj (h't hN e1 (e ▸ hi))
          simp [this,e]
        · exact .inr ⟨k,c,e,z.sameBut hs (cne y c e)⟩
    · obtain⟨w',z⟩:=I.cell y c e
      exact⟨w',z.sameBut hs (cne y c e)⟩
    · obtain⟨e,n,ne,nf,d⟩:=I.pin p hp
      exact⟨(hs.2 p.1 ne).trans e,n,ne,nf,d⟩
  · have hfn:X.fn x=true:=by
      rcases hf with z | z
      · exact z
      · rw [z] at hk;cases hk
    obtain⟨c,hc⟩:=I.ok.has x (.inl hk)
    obtain⟨w',z⟩:=I.cell x c hc
    refine wpAny_storeName_cell I.ok.kind hk hc z (fun h' hc' hs=>?_)
    obtain⟨oc,hoc,hocd⟩:=id z
    refine h { s with heap:=h' } ⟨I.ok,I.os,I.bare,⟨fun b o e n hb hx=>?_,fun b o e n hb hx=>?_,I.base.free,fun b o e hx=>?_,I.base.tups,I.base.frzs,I.base.tbls⟩,⟨m,hn.sameBut hs (Ne.symm (cne x c hc)),fun j y v' e1 e2 e3=>?_⟩,fun y c' e=>?_,I.free,I.freeC,fun p hp=>?_,tracked ⟨oc,hoc,I.freeC x c hc⟩ hs,by simpa using I.len⟩ ⟨c,hs,.inr hc⟩
    · exact (hs.2 b (Nat.ne_of_lt (Nat.lt_of_lt_of_le (Heap.lt_size e) (I.ok.cab x c hfn hc)))).trans (I.base.keep b o e n hb hx)
    · obtain⟨sl,e1⟩:=I.base.slot b o e n hb hx
      exact⟨sl,(hs.2 b (Nat.ne_of_lt (Nat.lt_of_lt_of_le (Heap.lt_size e) (I.ok.cab x c hfn hc)))).trans e1⟩
    · obtain⟨o',e1⟩:=I.base.there b o e hx
      exact⟨o',(hs.2 b (Nat.ne_of_lt (Nat.lt_of_lt_of_le (Heap.lt_size e) (I.ok.cab x c hfn hc)))).trans e1⟩
    · by_cases hj:j=i
      · subst hj
        rw [hi] at e1;cases e1
        rw [List.getElem?_set_self hiσ] at e2
        cases e2
        exact⟨u,r,.inr ⟨.inl hk,c,hc,hc'⟩⟩
      · rw [List.getElem?_set_ne (Ne.symm hj)] at e2
        obtain⟨u',r',q⟩:=hl j y v' e1 e2 e3
        refine⟨u',r',?_⟩
        rcases q with q | ⟨k,c',e,z'⟩
        · exact .inl q
        · refine .inr ⟨k,c',e,z'.sameBut hs ?_⟩
          rintro rfl
          exact hj (h't hN e1 (I.ok.inj _ _ _ e hc ▸ hi))
    · by_cases hcc:c'=c
      · subst hcc;exact⟨_,hc'⟩
      · obtain⟨w2,z2⟩:=I.cell y c' e
        exact⟨w2,z2.sameBut hs hcc⟩
    · obtain⟨e,n,ne,nf,d⟩:=I.pin p hp
      refine⟨(hs.2 p.1 ?_).trans e,n,ne,nf,d⟩
      intro q
      rw [q,hoc] at e
      have q':oc=p.2:=Option.some.inj e
      exact d w' (by rw [← q'];exact hocd)
theorem d'K {M:Model} {A:Around} {E:Value→Shared→Prop} {i:Nat} {x:Str} {v:V} {u:Value} {Q:Unit→Shared→Prop} (I:Inv X pins σ H s) (hN:X.N.Nodup) (hi:X.N[i]?=some x) (hx:Loc X.env.scope x) (r:RelV v u)
    (h:∀ s',Inv X pins (σ.set i (some v)) H s'→Q () s') (hf:X.fn x=true∨X.env.scope.names.lookup x=some .local:=by first | exact .inl rfl | exact .inr rfl | assumption):wpAny M A (storeName X.env x u) Q E s:=
  j'O I hN hi hx r (fun s' I' _=>h s' I') hf
theorem Inv.call' {s':Shared} {ch:List Addr} (I:Inv X pins σ H s) (ho:s'.os=s.os) (u:Un (frs X.stack) ch H H' s.heap s'.heap) (hok:HOk X.prog X.w H' s'.heap) (hg:AllBare s'.gens)
    (hch:∀ b∈ch,(b∈X.ex∨X.s₀.heap.objs.size≤b)∧b≠X.env.locals∧(∀ x c,X.env.cells.lookup x=some c→c≠b)∧∀ p∈X.pn++pins,p.1≠b):Inv X pins σ H' s':=by
  obtain⟨h',g',d',t',o'⟩:=s'
  have e:o'=s.os:=ho
  subst e
  exact I.call (g':=g') (t':=t') (d':=d') u hok hg hch
end
abbrev XK:=Value→Option Addr→Hp→Prop
abbrev St:=List (Option V)
abbrev VK:=V→Hp→Prop
abbrev TE:=St→Hp→VK→Prop
abbrev TT:=St→Hp→(Bool→Hp→Prop)→Prop
abbrev TA:=St→Hp→(List V→Hp→Prop)→Prop
structure Ends where
  nx:St→Hp→Prop
  rt:VK
  bk:St→Hp→Prop:=fun _ _=>False
  ct:St→Hp→Prop:=fun _ _=>False
abbrev TS:=Ends→St→Hp→Prop
def EP (X:Cx) (pins:List (Addr×Obj)) (σ:St) (Q:VK) (u:Value) (s':Shared):Prop:=∃ v H',Inv X pins σ H' s'∧RelV v u∧Q v H'
def TP (X:Cx) (pins:List (Addr×Obj)) (σ:St) (Q:Bool→Hp→Prop) (b:Bool) (s':Shared):Prop:=∃ H',Inv X pins σ H' s'∧Q b H'
def AP (X:Cx) (pins:List (Addr×Obj)) (σ:St) (Q:List V→Hp→Prop) (us:List Value) (s':Shared):Prop:=∃ vs H',Inv X pins σ H' s'∧Vals vs us∧Q vs H'
def SP (X:Cx) (pins:List (Addr×Obj)) (D:Ends) (f:Flow) (s':Shared):Prop:=
  match f with
  | .next => ∃ σ' H', Inv X pins σ' H' s' ∧ D.nx σ' H'
  | .brk => ∃ σ' H', Inv X pins σ' H' s' ∧ D.bk σ' H'
  | .cont => ∃ σ' H', Inv X pins σ' H' s' ∧ D.ct σ' H'
  | .ret u => ∃ v σ' H', Inv X pins σ' H' s' ∧ RelV v u ∧ D.rt v H'
def PE (X:Cx) (e:Expr) (t:TE):Prop:=
  ∀ (pins:List (Addr×Obj)) (s:Shared) (σ:St) (H:Hp) (Q:VK),Inv X pins σ H s→t σ H Q→wpAny (model X.prog X.w) X.A (eval e X.env) (EP X pins σ Q) X.xe s
def PT (X:Cx) (e:Expr) (t:TT):Prop:=
  ∀ (pins:List (Addr×Obj)) (s:Shared) (σ:St) (H:Hp) (Q:Bool→Hp→Prop),Inv X pins σ H s→t σ H Q→wpAny (model X.prog X.w) X.A (isTrue e X.env (eval e X.env)) (TP X pins σ Q) X.xe s
def PW (X:Cx) (e:Expr) (t:TT):Prop:=
  ∀ (whole:Sem Value) (pins:List (Addr×Obj)) (s:Shared) (σ:St) (H:Hp) (Q:Bool→Hp→Prop),Inv X pins σ H s→t σ H Q→wpAny (model X.prog X.w) X.A (isTrue e X.env whole) (TP X pins σ Q) X.xe s
theorem PW.pt {X:Cx} {e:Expr} {t:TT} (h:PW X e t):PT X e t:=h _
def PA (X:Cx) (es:List Expr) (t:TA):Prop:=
  ∀ (pos:Pos) (pins:List (Addr×Obj)) (s:Shared) (σ:St) (H:Hp) (Q:List V→Hp→Prop),Inv X pins σ H s→t σ H Q→wpAny (model X.prog X.w) X.A (spliced (backTo pos (starEach es X.env))) (AP X pins σ Q) X.xe s
def PS (X:Cx) (st:Stmt) (t:TS):Prop:=
  ∀ (pins:List (Addr×Obj)) (s:Shared) (σ:St) (H:Hp) (D:Ends),Inv X pins σ H s→t D σ H→wpAny (model X.prog X.w) X.A (exec st X.env) (SP X pins D) X.xe s
def PSs (X:Cx) (st:List Stmt) (t:TS):Prop:=
  ∀ (pins:List (Addr×Obj)) (s:Shared) (σ:St) (H:Hp) (D:Ends),Inv X pins σ H s→t D σ H→wpAny (model X.prog X.w) X.A (execs st X.env) (SP X pins D) X.xe s
theorem thn {α:Type} {t:Sem α} {Q Q':α→Shared→Prop} {M:Model} {A:Around} {E:Value→Shared→Prop} {s:Shared} (h:wpAny M A t Q E s) (hQ:∀ a s,Q a s→Q' a s):wpAny M A t Q' E s:=wpAny_mono h hQ fun _ _ x=>x
end L2
namespace L2
open PySem PySem.Spec PyProof.Rows
section
variable {X:Cx}
def tVar (i:Nat):TE:=fun σ H Q=>∃ v,σ[i]?=some (some v)∧Q v H
def tC (v:V):TE:=fun _ H Q=>Q v H
theorem n'p {i:Nat} {x:Str} {pos:Pos} (hN:X.N[i]?=some x) (hv:Vis X.env.scope x) (hd:(x == ("__debug__":Str))=false:=by decide) (hcd:(x == ("__classdict__":Str))=false:=by decide):PE X (.Name x pos) (tVar i):=by
  intro pins s σ H Q I h
  obtain⟨v,e,h⟩:=h
  obtain⟨m,hn,hl⟩:=I.loc
  obtain⟨u,r,l⟩:=hl i x v hN e hv
  have fin:EP X pins σ Q u s:=⟨v,H,I,r,h⟩
  rcases l with ⟨hk,hm⟩ | ⟨hk,c,hc,hcell⟩
  · exact wpAny_Name (wpAny_loadName_local I.ok.kind hk hn hm fin) hd
  · rcases hk with hk | hk
    · exact wpAny_Name (wpAny_loadName_cell I.ok.kind hk hc hcell fin) hd
    · exact wpAny_Name (wpAny_loadName_free I.ok.kind hk hc hcell fin hcd) hd
theorem a'd {i j pos}:PE X (.Constant (.int i) j pos) (tC (.int i)):=fun _ _ _ H _ I h=>wpAny_Constant_int ⟨.int i,H,I.tok _,⟨_,rfl⟩,h⟩
theorem c'i {b j pos}:PE X (.Constant (.bool b) j pos) (tC (.bl b)):=fun _ _ _ H _ I h=>Constant_bool ⟨.bl b,H,I,rfl,h⟩
theorem a'x {x j pos}:PE X (.Constant (.str x) j pos) (tC (.str x)):=fun _ _ _ H _ I h=>Calls.Constant_str ⟨.str x,H,I.tok _,⟨_,rfl⟩,h⟩
def Gl (X:Cx) (x:Str):Prop:=X.env.kindOf x=some .globalImplicit
theorem e'w {E:Value→Shared→Prop} {pins:List (Addr×Obj)} {s:Shared} {σ:St} {H:Hp} {x:Str} {u:Value} {pos:Pos} {Q:Value→Shared→Prop} (I:Inv X pins σ H s) (hg:Gl X x) (hm:X.mg x=some u) (h:Q u s)
    (hd:(x == ("__debug__":Str))=false:=by decide):wpAny (model X.prog X.w) X.A (eval (.Name x pos) X.env) Q E s:=
  Calls.Name_function_global I.ok.kind hg (Calls.loadGlobal_global (by rw [I.ok.glob];exact I.mod.glob.keeps I.bk) hm h) hd
theorem f'y {E:Value→Shared→Prop} {pins:List (Addr×Obj)} {s:Shared} {σ:St} {H:Hp} {x:Str} {u:Value} {pos:Pos} {Q:Value→Shared→Prop} (I:Inv X pins σ H s) (hg:Gl X x) (hm:X.mg x=none) (hv:bootBuiltins x=some u) (h:Q u s)
    (hn:x≠"__name__":=by decide) (hd:(x == ("__debug__":Str))=false:=by decide):wpAny (model X.prog X.w) X.A (eval (.Name x pos) X.env) Q E s:=by
  obtain⟨mb,h1,h2⟩:=I.mod.blt
  exact Calls.Name_function_global I.ok.kind hg (Calls.loadGlobal_builtin (by rw [I.ok.glob];exact I.mod.glob.keeps I.bk) hm (by rw [I.ok.blt];exact h1.keeps I.bk) ((h2 x hn).trans hv) h) hd
theorem b'a {x:Str} {v:V} {u:Value} {pos:Pos} (hg:Gl X x) (hm:X.mg x=some u) (r:RelV v u) (hd:(x == ("__debug__":Str))=false:=by decide):PE X (.Name x pos) (tC v):=
  fun _ _ _ H _ I h=>e'w I hg hm ⟨v,H,I,r,h⟩ hd
theorem c'p {x:Str} {v:V} {u:Value} {pos:Pos} (hg:Gl X x) (hm:X.mg x=none) (hv:bootBuiltins x=some u) (r:RelV v u) (hn:x≠"__name__":=by decide) (hd:(x == ("__debug__":Str))=false:=by decide):PE X (.Name x pos) (tC v):=
  fun _ _ _ H _ I h=>f'y I hg hm hv ⟨v,H,I,r,h⟩ hn hd
variable {a b:Expr} {ta tb:TE} {pos:Pos}
def tB (t:TE):TT:=fun σ H Q=>t σ H fun x H1=>∃ c,x=.bl c∧Q c H1
theorem b'J {e:Expr} {t:TE} (h:PE X e t) (he:∀ whole,isTrue e X.env whole=(do let v ← whole;standAt e.pos;holding [v] (truthy v)):=by intro _;rfl):PT X e (tB t):=by
  intro pins s σ H Q I hw
  refine isTrue_plain (thn (h pins s σ H _ I hw) fun v s1 ⟨x,H1,I1,r1,q1⟩=>?_) (he _)
  obtain⟨d,rfl,q⟩:=q1
  cases r1
  exact wpAny_truthy_bool ⟨H1,I1,q⟩
variable {tA tB':TT} {rest:List Expr}
def tAnd (t u:TT):TT:=fun σ H Q=>t σ H fun c H1=>if c=true then u σ H1 Q else Q false H1
def tOr (t u:TT):TT:=fun σ H Q=>t σ H fun c H1=>if c=true then Q true H1 else u σ H1 Q
def tNot (t:TT):TT:=fun σ H Q=>t σ H fun c H1=>Q (!c) H1
theorem c'q (ha:PT X a tA):PW X (.BoolOp .And [a] pos) tA:=by
  intro wh pins s σ H Q I h
  refine isTrue_and (thn (ha pins s σ H Q I h) fun c s1 e=>?_)
  cases c with
  | true => exact isTrue_and_nil e
  | false => exact e
theorem b'W (ha:PT X a tA):PW X (.BoolOp .Or [a] pos) tA:=by
  intro wh pins s σ H Q I h
  refine isTrue_or (thn (ha pins s σ H Q I h) fun c s1 e=>?_)
  cases c with
  | false => exact isTrue_or_nil e
  | true => exact e
theorem c'z (ha:PT X a tA) (hb:PW X (.BoolOp .And (b :: rest) pos) tB'):PW X (.BoolOp .And (a :: b :: rest) pos) (tAnd tA tB'):=by
  intro wh pins s σ H Q I h
  refine isTrue_and (thn (ha pins s σ H _ I h) fun c s1 ⟨H1,I1,q1⟩=>?_)
  cases c with
  | true => exact hb wh pins s1 σ H1 Q I1 q1
  | false => exact ⟨H1, I1, q1⟩
theorem b'B (ha:PT X a tA) (hb:PW X (.BoolOp .Or (b :: rest) pos) tB'):PW X (.BoolOp .Or (a :: b :: rest) pos) (tOr tA tB'):=by
  intro wh pins s σ H Q I h
  refine isTrue_or (thn (ha pins s σ H _ I h) fun c s1 ⟨H1,I1,q1⟩=>?_)
  cases c with
  | true => exact ⟨H1, I1, q1⟩
  | false => exact hb wh pins s1 σ H1 Q I1 q1
theorem c'T (ha:PT X a tA):PT X (.UnaryOp .Not a pos) (tNot tA):=by
  intro pins s σ H Q I h
  exact isTrue_not (ha pins s σ H (fun c H1=>Q (!c) H1) I h)
def tAndV (ta tb:TE):TE:=fun σ H Q=>ta σ H fun x H1=>∃ c,x=.bl c∧if c=true then tb σ H1 Q else Q (.bl false) H1
def tNotV (ta:TE):TE:=fun σ H Q=>ta σ H fun x H1=>∃ c,x=.bl c∧Q (.bl (!c)) H1
theorem f'z {op} {t:TE} (h:PE X a t):PE X (.BoolOp op [a] pos) t:=fun pins s σ H Q I hw=>BoolOp_one (h pins s σ H Q I hw)
theorem e'f (ha:PE X a ta) (hb:PE X (.BoolOp .And (b :: rest) pos) tb):PE X (.BoolOp .And (a :: b :: rest) pos) (tAndV ta tb):=by
  intro pins s σ H Q I h
  refine BoolOp_and (thn (ha pins s σ H _ I h) fun v s1 ⟨x,H1,I1,r1,q1⟩=>?_)
  obtain⟨c,rfl,q1⟩:=q1
  cases r1
  refine wpAny_truthy_bool ?_
  cases c with
  | true => exact hb pins s1 σ H1 Q I1 q1
  | false => exact ⟨.bl false, H1, I1, rfl, q1⟩
theorem j'P (ha:PE X a ta):PE X (.UnaryOp .Not a pos) (tNotV ta):=by
  intro pins s σ H Q I h
  refine UnaryOp_ (thn (ha pins s σ H _ I h) fun v s1 ⟨x,H1,I1,r1,q1⟩=>?_)
  obtain⟨c,rfl,q1⟩:=q1
  cases r1
  exact not_of (wpAny_truthy_bool ⟨.bl (!c),H1,I1,rfl,q1⟩)
def tIf (t:TT) (ta tb:TE):TE:=fun σ H Q=>t σ H fun c H1=>if c=true then ta σ H1 Q else tb σ H1 Q
theorem h'u {c:Expr} (hc:PT X c tA) (ha:PE X a ta) (hb:PE X b tb):PE X (.IfExp c a b pos) (tIf tA ta tb):=by
  intro pins s σ H Q I h
  refine wpAny_IfExp (thn (hc pins s σ H _ I h) fun d s1 ⟨H1,I1,q1⟩=>?_)
  cases d with
  | true => exact ha pins s1 σ H1 Q I1 q1
  | false => exact hb pins s1 σ H1 Q I1 q1
end
end L2
namespace L2
open PySem PySem.Spec PyProof.Rows
def SqL (K:PySem.W.Frag) (H:Hp) (a:Addr) (xs:List V):Prop:=
  Rd H a (.lst xs)∨
    ∃ (o:Obj) (its:Array Value) (n:Nat),K.lookup a=some o∧o.cls=.type "list"∧o.dict=none∧o.data=.seq its n∧its.size≤sizeLine∧Vals xs its.toList
def SqT (K:PySem.W.Frag) (H:Hp) (a:Addr) (xs:List V):Prop:=
  Rd H a (.tup xs)∨
    ∃ (o:Obj) (its:Array Value) (n:Nat),K.lookup a=some o∧o.cls=.type "tuple"∧o.data=.seq its n∧its.size≤sizeLine∧Vals xs its.toList
def absV:Value→Option V
  | .none => some .non
  | .bool b => some (.bl b)
  | .int i _ => some (.int i)
  | .str x _ => some (.str x)
  | .bytes b _ => some (.byt b)
  | .float b _ => some (.flt b)
  | .ref a => some (.ref a)
  | .type n => some (.ty n)
  | _ => none
theorem RelV.abs {x:V} {u:Value} (r:RelV x u):absV u=some x:=by
  cases x with
  | non => cases r; rfl
  | bl _ => cases r; rfl
  | int _ => obtain ⟨t, rfl⟩ := r; rfl
  | str _ => obtain ⟨t, rfl⟩ := r; rfl
  | byt _ => obtain ⟨t, rfl⟩ := r; rfl
  | flt _ => obtain ⟨t, rfl⟩ := r; rfl
  | ref _ => cases r; rfl
  | ty _ => cases r; rfl
theorem RelV.inj {x y:V} {u:Value} (r:RelV x u) (q:RelV y u):x=y:=Option.some.inj (r.abs.symm.trans q.abs)
theorem Vals.inj:∀ {xs ys:List V} {us:List Value},Vals xs us→Vals ys us→xs=ys
  | _, _, _, .nil, .nil => rfl
  | _, _, _, .cons r t, .cons r' t' => by rw [r.inj r', Vals.inj t t']
section
variable {X:Cx} {pins:List (Addr×Obj)} {σ:St} {H:Hp} {s:Shared} {a:Addr} {xs ys:List V}
theorem SqL.of {K:PySem.W.Frag} (h:H a=some (.lst xs)):SqL K H a xs:=.inl (.inl h)
theorem SqT.of {K:PySem.W.Frag} (h:H a=some (.tup xs)):SqT K H a xs:=.inl (.inl h)
theorem Inv.list (I:Inv X pins σ H s) (h:SqL X.K H a xs):∃ its:List Value,Vals xs its∧PlainL s.heap a its.toArray∧xs.length≤sizeLine:=by
  rcases h with h | ⟨o,its,n,hk,hc,hd,hs,hz,r⟩
  · obtain⟨z,its,n,r,e⟩:=h.ok I.hok
    exact⟨its,r,⟨_,n,e,rfl,rfl,rfl⟩,z⟩
  · refine⟨its.toList,r,⟨o,n,I.kIn a o hk,hc,hd,by simpa using hs⟩,?_⟩
    have e:=r.length
    simp only [Array.length_toList] at e
    omega
theorem Inv.tuple (I:Inv X pins σ H s) (h:SqT X.K H a xs):∃ its:List Value,Vals xs its∧IsTup s.heap a its.toArray∧xs.length≤sizeLine:=by
  rcases h with h | ⟨o,its,n,hk,hc,hs,hz,r⟩
  · obtain⟨z,its,r,p⟩:=h.ok I.hok
    exact⟨its,r,p,z⟩
  · refine⟨its.toList,r,⟨o,I.kIn a o hk,hc,n,by simpa using hs⟩,?_⟩
    have e:=r.length
    simp only [Array.length_toList] at e
    omega
theorem Inv.list_inj (I:Inv X pins σ H s) (h:SqL X.K H a xs) (h':SqL X.K H a ys):xs=ys:=by
  obtain⟨its,r,⟨o,n,e,_,_,d⟩,_⟩:=I.list h
  obtain⟨its',r',⟨o',n',e',_,_,d'⟩,_⟩:=I.list h'
  rw [e] at e';cases e'
  rw [d] at d'
  injection d' with d1 _
  have:its=its':=by simpa using congrArg Array.toList d1
  subst this
  exact r.inj r'
theorem Inv.tuple_inj (I:Inv X pins σ H s) (h:SqT X.K H a xs) (h':SqT X.K H a ys):xs=ys:=by
  obtain⟨its,r,⟨o,e,_,n,d⟩,_⟩:=I.tuple h
  obtain⟨its',r',⟨o',e',_,n',d'⟩,_⟩:=I.tuple h'
  rw [e] at e';cases e'
  rw [d] at d'
  injection d' with d1 _
  have:its=its':=by simpa using congrArg Array.toList d1
  subst this
  exact r.inj r'
end
abbrev Cx.wish (X:Cx) (E:Value→Shared→Prop):Cx:={ X with xe:=E }
abbrev Cx.nox (X:Cx):Cx:=X.wish fun _ _=>False
theorem Cx.Ok.wish {X:Cx} (ok:X.Ok) (E:Value→Shared→Prop):(X.wish E).Ok:=
  ⟨ok.mod,ok.kind,ok.glob,ok.blt,ok.above,ok.inj,ok.has,ok.cab,ok.hd,ok.frames,ok.stk,ok.exf,ok.bs,ok.bsz,ok.noex,ok.exfs,ok.funs,ok.frf⟩
theorem Cx.Ok.unwish {X:Cx} {E:Value→Shared→Prop} (ok:(X.wish E).Ok):X.Ok:=
  ⟨ok.mod,ok.kind,ok.glob,ok.blt,ok.above,ok.inj,ok.has,ok.cab,ok.hd,ok.frames,ok.stk,ok.exf,ok.bs,ok.bsz,ok.noex,ok.exfs,ok.funs,ok.frf⟩
section
variable {X:Cx} {pins:List (Addr×Obj)} {σ:St} {H:Hp} {s:Shared} {E:Value→Shared→Prop}
theorem Inv.wish (I:Inv X pins σ H s) (E:Value→Shared→Prop):Inv (X.wish E) pins σ H s:=⟨I.ok.wish E,I.os,I.bare,I.base,I.loc,I.cell,I.free,I.freeC,I.pin,I.hok,I.len⟩
theorem Inv.unwish (I:Inv (X.wish E) pins σ H s):Inv X pins σ H s:=⟨I.ok.unwish,I.os,I.bare,I.base,I.loc,I.cell,I.free,I.freeC,I.pin,I.hok,I.len⟩
theorem SP.unwish {D:Ends} {f:Flow} {s':Shared} (h:SP (X.wish E) pins D f s'):SP X pins D f s':=by
  cases f with
  | next => obtain ⟨σ', H', I, q⟩ := h; exact ⟨σ', H', I.unwish, q⟩
  | brk => obtain ⟨σ', H', I, q⟩ := h; exact ⟨σ', H', I.unwish, q⟩
  | cont => obtain ⟨σ', H', I, q⟩ := h; exact ⟨σ', H', I.unwish, q⟩
  | ret u => obtain ⟨v, σ', H', I, r, q⟩ := h; exact ⟨v, σ', H', I.unwish, r, q⟩
theorem PSs.nox {st:List Stmt} {t:TS} (h:PSs X.nox st t):PSs X st t:=fun pins s σ H D I hw=>
  wpAny_mono (h pins s σ H D (I.wish _) hw) (fun _ _ q=>q.unwish) fun _ _ z=>False.elim z
end
section
variable {X:Cx} {st:Stmt} {rest:List Stmt} {t u:TS} {e:Expr} {te:TE} {pos:Pos}
def tNext:TS:=fun D σ H=>D.nx σ H
def tSeq (t u:TS):TS:=fun D σ H=>t { D with nx:=u D } σ H
theorem a'N:PSs X [] tNext:=fun _ _ σ H _ I h=>wpAny_execs_nil ⟨σ,H,I,h⟩
theorem a'h (h1:PS X st t) (h2:PSs X rest u):PSs X (st :: rest) (tSeq t u):=by
  intro pins s σ H D I h
  refine wpAny_execs_cons (thn (h1 pins s σ H { D with nx:=u D } I h) fun f s1 q=>?_)
  cases f with
  | next =>
    obtain⟨σ',H',I',q⟩:=q
    exact h2 pins s1 σ' H' D I' q
  | ret v => exact q
  | brk => exact q
  | cont => exact q
theorem a'i (h1:PS X st t):PSs X [st] t:=by
  intro pins s σ H D I h
  refine wpAny_execs_cons (thn (h1 pins s σ H D I h) fun f s1 q=>?_)
  cases f with
  | next => exact wpAny_execs_nil q
  | ret v => exact q
  | brk => exact q
  | cont => exact q
theorem Inv.quiet {pins:List (Addr×Obj)} {σ:St} {H:Hp} {s:Shared} (I:Inv X pins σ H s):interactive X.env=false:=by simp [interactive,I.ok.kind]
def tDrop (te:TE):TS:=fun D σ H=>te σ H fun _ H1=>D.nx σ H1
theorem c'r (he:PE X e te) (hs:swapsWith e none pos.line X.env=pure false:=by rfl):PS X (.Expr e pos) (tDrop te):=by
  intro pins s σ H D I h
  exact wpAny_Expr_any (thn (he pins s σ H _ I h) fun v s1 ⟨x,H1,I1,r1,q1⟩=>⟨σ,H1,I1,q1⟩) I.quiet hs
def tRet (te:TE):TS:=fun D σ H=>te σ H D.rt
theorem a'r (he:PE X e te):PS X (.Return (some e) pos) (tRet te):=by
  intro pins s σ H D I h
  exact wpAny_Return_some (thn (he pins s σ H _ I h) fun v s1 ⟨x,H1,I1,r1,q1⟩=>⟨x,σ,H1,I1,r1,q1⟩)
def tIfS (c:TT) (t u:TS):TS:=fun D σ H=>c σ H fun b H1=>if b=true then t D σ H1 else u D σ H1
theorem a'P {c:Expr} {a b:List Stmt} {tc:TT} (hc:PT X c tc) (ha:PSs X a t) (hb:PSs X b u):PS X (.If c a b pos) (tIfS tc t u):=by
  intro pins s σ H D I h
  refine wpAny_If (thn (hc pins s σ H _ I h) fun d s1 ⟨H1,I1,q1⟩=>?_)
  cases d with
  | true => exact ha pins s1 σ H1 D I1 q1
  | false => exact hb pins s1 σ H1 D I1 q1
def tNever:TS:=fun _ _ _=>False
theorem l'e:PS X st tNever:=fun _ _ _ _ _ _ h=>h.elim
end
abbrev TG:=V→St→Hp→(St→Hp→Prop)→Prop
abbrev TGs:=List V→St→Hp→(St→Hp→Prop)→Prop
def PG (X:Cx) (target:Expr) (t:TG):Prop:=
  ∀ (pins:List (Addr×Obj)) (s:Shared) (σ:St) (H:Hp) (v:V) (u:Value) (Q:St→Hp→Prop),Inv X pins σ H s→RelV v u→t v σ H Q→
    wpAny (model X.prog X.w) X.A (assign target X.env u) (fun _ s'=>∃ σ' H',Inv X pins σ' H' s'∧Q σ' H') X.xe s
def PGs (X:Cx) (ts:List Expr) (t:TGs):Prop:=
  ∀ (pins:List (Addr×Obj)) (s:Shared) (σ:St) (H:Hp) (vs:List V) (us:List Value) (Q:St→Hp→Prop),Inv X pins σ H s→Vals vs us→t vs σ H Q→
    wpAny (model X.prog X.w) X.A (assignInOrder ((assignEach ts X.env).map (·.2)) us) (fun _ s'=>∃ σ' H',Inv X pins σ' H' s'∧Q σ' H') X.xe s
section
variable {X:Cx} {pos:Pos}
def gName (i:Nat):TG:=fun v σ H Q=>Q (σ.set i (some v)) H
theorem a'K {i:Nat} {x:Str} (hN:X.N.Nodup) (hi:X.N[i]?=some x) (hx:Loc X.env.scope x) (hf:X.fn x=true∨X.env.scope.names.lookup x=some .local:=by first | exact .inl rfl | exact .inr rfl | assumption):PG X (.Name x pos) (gName i):=by
  intro pins s σ H v u Q I r h
  exact wpAny_assign_Name (d'K I hN hi hx r (fun s' I'=>⟨_,H,I',h⟩) hf)
def gNil:TGs:=fun vs σ H Q=>vs=[]∧Q σ H
def gCons (t:TG) (u:TGs):TGs:=fun vs σ H Q=>∃ v r,vs=v :: r∧t v σ H fun σ' H'=>u r σ' H' Q
theorem b't:PGs X [] gNil:=by
  intro pins s σ H vs us Q I r h
  obtain⟨e,h⟩:=h
  subst e
  cases r
  exact assignInOrder_nil ⟨σ,H,I,h⟩
theorem a'J {e:Expr} {es:List Expr} {t:TG} {u:TGs} (h1:PG X e t) (h2:PGs X es u)
    (hs:(assignEach (e :: es) X.env).map (·.2)=assign e X.env :: (assignEach es X.env).map (·.2):=by rfl):PGs X (e :: es) (gCons t u):=by
  intro pins s σ H vs us Q I r h
  obtain⟨v,vr,e1,h⟩:=h
  subst e1
  cases r with
  | cons r rr =>
    rw [hs]
    refine assignInOrder_cons (thn (h1 pins s σ H _ _ _ I r h) fun _ s1 ⟨σ1,H1,I1,q1⟩=>?_)
    exact h2 pins s1 σ1 H1 _ _ Q I1 rr q1
def gTup (K:PySem.W.Frag) (n:Nat) (t:TGs):TG:=fun v σ H Q=>∃ a xs,v=.ref a∧SqT K H a xs∧xs.length=n∧t xs σ H Q
theorem b'K {es:List Expr} {k:Nat} {t:TGs} {n:Nat} (hc:X.calm=true) (h:PGs X es t)
    (hn:(assignEach es X.env).length=n:=by rfl) (hst:(assignEach es X.env).findIdx? (·.1)=none:=by rfl):PG X (.Tuple es k pos) (gTup X.K n t):=by
  intro pins s σ H v u Q I r hw
  obtain⟨a,xs,e1,hq,hl,hw⟩:=hw
  subst e1
  cases r
  obtain⟨its,rv,ht,hz⟩:=I.tuple hq
  refine assign_Tuple_tuple (I.ok.hd hc) ht (by simp [hn,← hl,rv.length]) hst fun h' hx=>?_
  have I1:Inv X pins σ H { s with heap:=h' }:=I.kept (t':=s.toks) fun b o e=>hx b o (Nat.ne_of_lt (Heap.lt_size e)) e
  exact h pins _ σ H xs _ Q I1 (by simpa using rv) hw
def tAsg (te:TE) (g:TG):TS:=fun D σ H=>te σ H fun x H1=>g x σ H1 D.nx
theorem j'Q {tg e:Expr} {te:TE} {g:TG} (he:PE X e te) (hg:PG X tg g) (hs:swapsWithSole [tg] e pos.line X.env=pure false:=by rfl) (hw:swappedStores [tg] e X.env=pure none:=by rfl)
    (h1:(assignEach [tg] X.env).map (·.2)=[assign tg X.env]:=by rfl):PS X (.Assign [tg] e pos) (tAsg te g):=by
  intro pins s σ H D I h
  refine wpAny_Assign_stores (thn (he pins s σ H _ I h) fun v s1 ⟨x,H1,I1,r1,q1⟩=>?_) hs hw
  rw [h1]
  exact thn (hg pins s1 σ H1 x v _ I1 r1 q1) fun _ s2 q=>q
theorem a'w {i:Nat} {x:Str} {e:Expr} {te:TE} {pos':Pos} (hN:X.N.Nodup) (hi:X.N[i]?=some x) (hx:Loc X.env.scope x) (he:PE X e te) (hs:swapsWith e (some (.Name x pos')) pos.line X.env=pure false:=by rfl) (hf:X.fn x=true∨X.env.scope.names.lookup x=some .local:=by first | exact .inl rfl | exact .inr rfl | assumption) :
    PS X (.Assign [.Name x pos'] e pos) (tAsg te (gName i)):=by
  intro pins s σ H D I h
  refine wpAny_Assign_Name (thn (he pins s σ H _ I h) fun v s1 ⟨y,H1,I1,r1,q1⟩=>?_) hs
  exact d'K I1 hN hi hx r1 (fun s2 I2=>⟨_,H1,I2,q1⟩) hf
def tPar (i j:Nat) (ta:TA):TS:=fun D σ H=>ta σ H fun vs H1=>∃ v w,vs=[v,w]∧D.nx ((σ.set i (some v)).set j (some w)) H1
theorem n'q {i j:Nat} {x y:Str} {a b:Expr} {ta:TA} {px py pt:Pos} {kt k2 pt2} (hc:X.calm=true) (hN:X.N.Nodup) (hi:X.N[i]?=some x) (hj:X.N[j]?=some y) (hij:i≠j)
    (hx:X.env.scope.names.lookup x=some .local) (hy:X.env.scope.names.lookup y=some .local) (ha:PA X [a,b] ta)
    (hw:swappedStores [.Tuple [.Name x px,.Name y py] kt pt] (.Tuple [a,b] k2 pt2) X.env=pure (some [x,y]))
    (hs:swapsWithSole [.Tuple [.Name x px,.Name y py] kt pt] (.Tuple [a,b] k2 pt2) pos.line X.env=pure false:=by rfl) :
    PS X (.Assign [.Tuple [.Name x px,.Name y py] kt pt] (.Tuple [a,b] k2 pt2) pos) (tPar i j ta):=by
  intro pins s σ H D I h
  rw [exec_Assign_arm]
  refine wpAny_bind (wpAny_standAt ?_)
  rw [hs]
  refine wpAny_bind (wpAny_pure ?_)
  rw [if_neg (by decide)]
  refine wpAny_bind (Tuple_ (thn (ha _ pins s σ H _ I h) fun us s1 ⟨vs,H1,I1,r1,q1⟩=>?_))
  obtain⟨v,w,e1,q1⟩:=q1
  subst e1
  obtain⟨u1,u2,rfl,rv,rw'⟩:∃ u1 u2,us=[u1,u2]∧RelV v u1∧RelV w u2:=by
    cases r1 with
    | cons p q=>
      cases q with
      | cons p' q'=>
        cases q'
        exact⟨_,_,rfl,p,p'⟩
  refine wpAny_newObj_type ?_ (by show 2≤sizeLine;decide)
  have I2:Inv X pins σ H1 { s1 with heap:=s1.heap.push { cls:=.type "tuple",data:=.seq [u1,u2].toArray } }:=I1.kept (t':=s1.toks) fun b o e=>Heap.get?_push_of_some _ e
  rw [hw]
  refine wpAny_bind (wpAny_pure ?_)
  show wpAny (model X.prog X.w) X.A (do rule "assign.swapped-stores";let items ← unpackItems (.ref s1.heap.objs.size) 2 none;assignInOrder [fun v=>bindName X.env y v,fun v=>bindName X.env x v] items.reverse;pure Flow.next) _ _ _
  refine wpAny_bind (wpAny_rule (wpAny_bind (unpackItems_tuple (items:=#[u1,u2]) (I.ok.hd hc) (IsTup.new s1.heap _) fun h' hx'=>?_)))
  have I3:=I2.kept (h':=h') (t':=s1.toks) fun b o e=>hx' b o (Nat.ne_of_lt (Heap.lt_size e)) e
  show wpAny _ _ (assignInOrder [fun v=>bindName X.env y v,fun v=>bindName X.env x v] [u2,u1] >>= fun _=>pure Flow.next) _ _ _
  refine wpAny_bind (assignInOrder_cons (wpAny_bindName (d'K I3 hN hj (.inl hy) rw' (fun s2 I4=>?_) (.inr hy))))
  refine assignInOrder_cons (wpAny_bindName (d'K I4 hN hi (.inl hx) rv (fun s3 I5=>assignInOrder_nil (wpAny_pure ?_)) (.inr hx)))
  rw [List.set_comm _ _ (Ne.symm hij)] at I5
  exact⟨_,H1,I5,q1⟩
end
section
variable {X:Cx} {pos:Pos}
def tWhile (c:TT) (tb:TS):TS:=fun D σ H=>∃ W:Nat→St→Hp→Prop,(∃ m,W m σ H)∧∀ m σ H,W m σ H→
  c σ H fun b H1=>if b=true then ∃ N:St→Hp→Prop,(∀ σ' H',N σ' H'→∃ m',m'<m∧W m' σ' H')∧tb { D with nx:=N,ct:=N,bk:=D.nx } σ H1 else D.nx σ H1
theorem f'e {c:Expr} {body:List Stmt} {tc:TT} {tb:TS} (hp:PassesOwn (model X.prog X.w) X.A X.env X.xe) (hc:PT X c tc) (hb:PSs X body tb):PS X (.While c body [] pos) (tWhile tc tb):=by
  intro pins s σ H D I h
  obtain⟨W,⟨m0,w0⟩,turn⟩:=h
  refine wpAny_While (codeAny_whileLoop (fun n s'=>∃ σ' H',Inv X pins σ' H' s'∧W n σ' H') ?_ m0 ⟨σ,H,I,w0⟩)
  rintro n s1 ⟨σ1,H1,I1,w1⟩
  refine wpAny_passesOwn hp (thn (hc pins s1 σ1 H1 _ I1 (turn n σ1 H1 w1)) fun b s2 ⟨H2,I2,q2⟩=>?_)
  cases b with
  | true =>
    obtain⟨N,hN,q2⟩:=q2
    rw [if_pos rfl]
    refine wpAny_passesOwn hp (thn (hb pins s2 σ1 H2 _ I2 q2) fun f s3 q3=>?_)
    cases f with
    | next=>
      obtain⟨σ3,H3,I3,n3⟩:=q3
      obtain⟨m',hm,w3⟩:=hN σ3 H3 n3
      exact⟨m',hm,σ3,H3,I3,w3⟩
    | cont=>
      obtain⟨σ3,H3,I3,n3⟩:=q3
      obtain⟨m',hm,w3⟩:=hN σ3 H3 n3
      exact⟨m',hm,σ3,H3,I3,w3⟩
    | brk=>exact q3
    | ret v=>exact q3
  | false =>
    rw [if_neg Bool.false_ne_true]
    exact wpAny_execs_nil ⟨σ1,H2,I2,q2⟩
end
structure It where
  go:Nat→Hp→Prop
  yld:Nat→Hp→V→Hp→Prop
  stop:Nat→Hp→Prop
def FpOk (X:Cx) (pins:List (Addr×Obj)) (H:Hp) (b:Addr):Prop:=
  H b=none∧b≠X.env.locals∧b ∉ X.fs∧(b∈X.ex∨X.s₀.heap.objs.size≤b)∧(∀ x c,X.env.cells.lookup x=some c→c≠b)∧∀ p∈X.pn++pins,p.1≠b
theorem Inv.fpOk {X:Cx} {pins:List (Addr×Obj)} {σ:St} {H H':Hp} {s:Shared} {b:Addr} (I:Inv X pins σ H s) (hb:s.heap.objs.size≤b) (hn:H' b=none):FpOk X pins H' b:=by
  refine⟨hn,Nat.ne_of_gt (Nat.lt_of_lt_of_le I.lt hb),I.nofs hb,.inr (Nat.le_trans I.sz hb),fun x c e z=>?_,fun p hp z=>?_⟩
  · obtain⟨v,q⟩:=I.cell x c e
    exact absurd (Nat.lt_of_lt_of_le q.lt (by rw [z];exact hb)) (Nat.lt_irrefl _)
  · exact absurd (Nat.lt_of_lt_of_le (Heap.lt_size (I.pin p hp).1) (by rw [z];exact hb)) (Nat.lt_irrefl _)
structure Turn (P:Program) (w:World) (K:PySem.W.Frag) (tg:Expr) (J:It) (fp:List Addr) (it:Addr) (tn:Nat→Heap→Prop):Prop where
  mem:it∈fp
  obj:∀ i h,tn i h→∀ b∈fp,∃ o,h.get? b=some o∧∀ v,o.data≠.cell v
  keep:∀ i h h',tn i h→(∀ b∈fp,∀ o,h.get? b=some o→h'.get? b=some o)→tn i h'
  item:∀ (X:Cx),X.prog=P→X.w=w→X.K=K→X.calm=true→∀ (i:Nat) (pins:List (Addr×Obj)) (s:Shared) (σ:St) (H:Hp) (E:Value→Shared→Prop),Inv X pins σ H s→(∀ b∈fp,FpOk X pins H b)→tn i s.heap→J.go i H→
    wpAny (model P w) X.A (pyNext (.ref it)) (fun r s1=>∃ u,r=some u∧
      wpAny (model P w) X.A (letOwnedTupleGo tg (.ref it) u) (fun _ s2=>∃ x H',Inv X pins σ H' s2∧RelV x u∧J.yld i H x H'∧tn (i+1) s2.heap∧∀ b∈fp,H' b=none) E s1) E s
  done:∀ (X:Cx),X.prog=P→X.w=w→X.K=K→X.calm=true→∀ (i:Nat) (pins:List (Addr×Obj)) (s:Shared) (σ:St) (H:Hp) (E:Value→Shared→Prop),Inv X pins σ H s→(∀ b∈fp,FpOk X pins H b)→tn i s.heap→J.stop i H→
    wpAny (model P w) X.A (pyNext (.ref it)) (fun r s1=>r=none∧Inv X pins σ H s1) E s
  self:∀ (A:Around) (i:Nat) (s:Shared) (Q:Value→Shared→Prop) (E:Value→Shared→Prop),tn i s.heap→Q (.ref it) s→wpAny (model P w) A (pyIter (.ref it)) Q E s
abbrev TI:=St→Hp→(It→Hp→Prop)→Prop
def PIE (X:Cx) (pins:List (Addr×Obj)) (σ:St) (tg:Expr) (R:It→Hp→Prop) (itv:Value) (s2:Shared):Prop:=
  ∃ (it:Addr) (fp:List Addr) (tn:Nat→Heap→Prop) (J:It) (H':Hp),itv=.ref it∧Inv X pins σ H' s2∧Turn X.prog X.w X.K tg J fp it tn∧tn 0 s2.heap∧(∀ b∈fp,FpOk X pins H' b)∧R J H'
def PI (X:Cx) (tg iter:Expr) (wi:TI):Prop:=
  ∀ (pins:List (Addr×Obj)) (s:Shared) (σ:St) (H:Hp) (R:It→Hp→Prop),Inv X pins σ H s→wi σ H R→
    wpAny (model X.prog X.w) X.A (eval iter X.env) (fun v s1=>wpAny (model X.prog X.w) X.A (pyIter v) (PIE X pins σ tg R) X.xe s1) X.xe s
theorem l'R {M:Model} {A:Around} {E:Value→Shared→Prop} {s:Shared} {tg:Expr} {it:Addr} {u:Value} {o:Obj} {n:String} {vs:Array Value} {Q:Unit→Shared→Prop} (ho:s.heap.get? it=some o) (hc:o.cls=.type n) (hd:o.data=.fields vs)
    (hn:["enumerate","zip","dict_itemiterator","dict_reverseitemiterator","odict_iterator","itertools.zip_longest","itertools.pairwise"].contains n=false) (hQ:Q () s):wpAny M A (letOwnedTupleGo tg (.ref it) u) Q E s:=by
  unfold letOwnedTupleGo
  cases tg<;>first
    | exact wpAny_pure hQ
    | (cases u<;>first
        | exact wpAny_pure hQ
        | (refine wpAny_bind (wpAny_load ho ?_)
           rw [hc,hd]
           show wpAny M A (if (["enumerate","zip","dict_itemiterator","dict_reverseitemiterator","odict_iterator","itertools.zip_longest","itertools.pairwise"].contains n && vs[0]? == some (rawInt _))=true then _ else _) Q E s
           rw [if_neg (by intro h;rw [hn,Bool.false_and] at h;cases h)]
           exact wpAny_pure hQ))
def Itl (K:PySem.W.Frag) (a:Addr):It:=
  ⟨fun i H=>∃ xs x,SqL K H a xs∧xs[i]?=some x,fun i H x H'=>H'=H∧∀ xs,SqL K H a xs→xs[i]?=some x,fun i H=>∃ xs,SqL K H a xs∧xs.length≤i⟩
def Itt (K:PySem.W.Frag) (a:Addr):It:=
  ⟨fun i H=>∃ xs x,SqT K H a xs∧xs[i]?=some x,fun i H x H'=>H'=H∧∀ xs,SqT K H a xs→xs[i]?=some x,fun i H=>∃ xs,SqT K H a xs∧xs.length≤i⟩
theorem j'R {P:Program} {w:World} {K:PySem.W.Frag} {tg:Expr} (a it:Addr):Turn P w K tg (Itl K a) [it] it (fun i h=>h.IsListIter it a i) where
  mem:=by simp
  obj:=fun i h st b hb=>by
    have e:b=it:=by simpa using hb
    subst e
    obtain⟨o,e,c,d⟩:=st
    exact⟨o,e,fun v z=>by rw [d] at z;cases z⟩
  keep:=fun i h h' st k=>st.at fun o e=>k it (by simp) o e
  item:=by
    intro X hP hw hK hc i pins s σ H E I hf st hg
    subst hP hw hK
    obtain⟨xs,x,hq,hx⟩:=hg
    obtain⟨its,rv,p,hz⟩:=I.list hq
    obtain⟨u,hu,ru⟩:=rv.get hx
    obtain⟨f0,f1,f2,f3,f4,f5⟩:=hf it (by simp)
    refine wpAny_pyNext_list_item st p.isList (x:=u) (by simpa using hu) fun h' st' sb=>?_
    have I1:Inv X pins σ H { s with heap:=h' }:=I.turned (t':=s.toks) (fun b o hb e=>(sb.2 b hb).trans e) f0 f1 f3 f4 f5
    obtain⟨o,e,c,d⟩:=id st'
    exact⟨u,rfl,l'R (s:={ s with heap:=h' }) e c d (by decide) ⟨x,H,I1,ru,⟨rfl,fun ys hy=>by rw [I.list_inj hy hq];exact hx⟩,st',fun b hb=>(hf b hb).1⟩⟩
  done:=by
    intro X hP hw hK hc i pins s σ H E I hf st hg
    subst hP hw hK
    obtain⟨xs,hq,hx⟩:=hg
    obtain⟨its,rv,p,hz⟩:=I.list hq
    obtain⟨f0,f1,f2,f3,f4,f5⟩:=hf it (by simp)
    have hl:=rv.length
    exact wpAny_pyNext_list_end (I.ok.hd hc) st p.isList (by simp;omega) fun h' eb=>⟨rfl,I.turned (t':=s.toks) (fun b o hb e=>eb b o hb e) f0 f1 f3 f4 f5⟩
  self:=fun _ _ _ _ _ st h=>wpAny_pyIter_listiter st h
theorem j'i {P:Program} {w:World} {K:PySem.W.Frag} {tg:Expr} (a it:Addr):Turn P w K tg (Itt K a) [it] it (fun i h=>h.IsTupleIter it a i) where
  mem:=by simp
  obj:=fun i h st b hb=>by
    have e:b=it:=by simpa using hb
    subst e
    obtain⟨o,e,c,d⟩:=st
    exact⟨o,e,fun v z=>by rw [d] at z;cases z⟩
  keep:=fun i h h' st k=>st.at fun o e=>k it (by simp) o e
  item:=by
    intro X hP hw hK hc i pins s σ H E I hf st hg
    subst hP hw hK
    obtain⟨xs,x,hq,hx⟩:=hg
    obtain⟨its,rv,p,hz⟩:=I.tuple hq
    obtain⟨u,hu,ru⟩:=rv.get hx
    obtain⟨f0,f1,f2,f3,f4,f5⟩:=hf it (by simp)
    refine wpAny_pyNext_tuple_item st (show s.heap.IsTuple a its.toArray from p) (x:=u) (by simpa using hu) fun h' st' sb=>?_
    have I1:Inv X pins σ H { s with heap:=h' }:=I.turned (t':=s.toks) (fun b o hb e=>(sb.2 b hb).trans e) f0 f1 f3 f4 f5
    obtain⟨o,e,c,d⟩:=id st'
    exact⟨u,rfl,l'R (s:={ s with heap:=h' }) e c d (by decide) ⟨x,H,I1,ru,⟨rfl,fun ys hy=>by rw [I.tuple_inj hy hq];exact hx⟩,st',fun b hb=>(hf b hb).1⟩⟩
  done:=by
    intro X hP hw hK hc i pins s σ H E I hf st hg
    subst hP hw hK
    obtain⟨xs,hq,hx⟩:=hg
    obtain⟨its,rv,p,hz⟩:=I.tuple hq
    obtain⟨f0,f1,f2,f3,f4,f5⟩:=hf it (by simp)
    have hl:=rv.length
    exact wpAny_pyNext_tuple_end (I.ok.hd hc) st (show s.heap.IsTuple a its.toArray from p) (by simp;omega) fun h' eb=>⟨rfl,I.turned (t':=s.toks) (fun b o hb e=>eb b o hb e) f0 f1 f3 f4 f5⟩
  self:=fun _ _ _ _ _ st h=>wpAny_pyIter_tupleiter st h
end L2
namespace L2
open PySem PySem.Spec PyProof.Rows
section
variable {X:Cx} {tg:Expr}
def iList (K:PySem.W.Frag) (tl:TE):TI:=fun σ H R=>tl σ H fun x H1=>∃ a,x=.ref a∧(∃ xs,SqL K H1 a xs)∧R (Itl K a) H1
def iTup (K:PySem.W.Frag) (tl:TE):TI:=fun σ H R=>tl σ H fun x H1=>∃ a,x=.ref a∧(∃ xs,SqT K H1 a xs)∧R (Itt K a) H1
theorem g'e {l:Expr} {tl:TE} (hl:PE X l tl):PI X tg l (iList X.K tl):=by
  intro pins s σ H R I h
  refine thn (hl pins s σ H _ I h) fun v s1 ⟨x,H1,I1,r1,q1⟩=>?_
  obtain⟨a,e,⟨xs,hq⟩,q⟩:=q1
  subst e
  cases r1
  obtain⟨its,rv,p,hz⟩:=I1.list hq
  refine wpAny_pyIter_list p.isList ?_
  refine⟨s1.heap.objs.size,[s1.heap.objs.size],_,_,H1,rfl,I1.kept (t':=s1.toks) fun b o e=>Heap.get?_push_of_some _ e,j'R a _,⟨_,Heap.get?_push_size _ rfl,rfl,rfl⟩,fun b hb=>?_,q⟩
  have e:b=s1.heap.objs.size:=by simpa using hb
  subst e
  exact I1.fpOk (Nat.le_refl _) (I1.hok.fresh (Nat.le_refl _))
theorem n'r {l:Expr} {tl:TE} (hl:PE X l tl):PI X tg l (iTup X.K tl):=by
  intro pins s σ H R I h
  refine thn (hl pins s σ H _ I h) fun v s1 ⟨x,H1,I1,r1,q1⟩=>?_
  obtain⟨a,e,⟨xs,hq⟩,q⟩:=q1
  subst e
  cases r1
  obtain⟨its,rv,p,hz⟩:=I1.tuple hq
  refine wpAny_pyIter_tuple (show s1.heap.IsTuple a its.toArray from p) ?_
  refine⟨s1.heap.objs.size,[s1.heap.objs.size],_,_,H1,rfl,I1.kept (t':=s1.toks) fun b o e=>Heap.get?_push_of_some _ e,j'i a _,⟨_,Heap.get?_push_size _ rfl,rfl,rfl⟩,fun b hb=>?_,q⟩
  have e:b=s1.heap.objs.size:=by simpa using hb
  subst e
  exact I1.fpOk (Nat.le_refl _) (I1.hok.fresh (Nat.le_refl _))
def tFor (wi:TI) (g:TG) (tb:TS):TS:=fun D σ H=>wi σ H fun J H1=>∃ W:Nat→Nat→St→Hp→Prop,(∃ m,W 0 m σ H1)∧∀ i m σ H,W i m σ H→
  (J.stop i H∧D.nx σ H)∨(J.go i H∧∃ N:St→Hp→Prop,(∀ σ' H',N σ' H'→∃ m',m'<m∧W (i+1) m' σ' H')∧∀ x H',J.yld i H x H'→g x σ H' fun σ2 H2=>tb { D with nx:=N,ct:=N,bk:=D.nx } σ2 H2)
def pinsAt (fp:List Addr) (h:Heap):List (Addr×Obj):=fp.filterMap fun b=>(h.get? b).map fun o=>(b,o)
theorem c'J {fp:List Addr} {h:Heap} {b:Addr} {o:Obj} (hb:b∈fp) (e:h.get? b=some o):(b,o)∈pinsAt fp h:=List.mem_filterMap.mpr ⟨b,hb,by rw [e];rfl⟩
theorem j'S {fp:List Addr} {h:Heap} {p:Addr×Obj} (hp:p∈pinsAt fp h):p.1∈fp∧h.get? p.1=some p.2:=by
  obtain⟨b,hb,e⟩:=List.mem_filterMap.mp hp
  cases q:h.get? b with
  | none => rw [q] at e; cases e
  | some o =>
    rw [q] at e
    have e':(b,o)=p:=Option.some.inj e
    subst e'
    exact⟨hb,q⟩
theorem Inv.pinned {pins:List (Addr×Obj)} {σ:St} {H:Hp} {s:Shared} {fp:List Addr} (I:Inv X pins σ H s) (hf:∀ b∈fp,FpOk X pins H b) (ho:∀ b∈fp,∃ o,s.heap.get? b=some o∧∀ v,o.data≠.cell v):Inv X (pins++pinsAt fp s.heap) σ H s:=
  I.pins_of fun p hp=>(List.mem_append.mp hp).elim (fun z=>I.pin p (List.mem_append_right _ z)) fun z=>by
    obtain⟨hb,e⟩:=j'S z
    obtain⟨f0,f1,f2,_⟩:=hf p.1 hb
    obtain⟨o,e',d⟩:=ho p.1 hb
    rw [e] at e';cases e'
    exact⟨e,f0,f1,f2,d⟩
theorem Inv.unpinned {pins pl:List (Addr×Obj)} {σ:St} {H:Hp} {s:Shared} (I:Inv X (pins++pl) σ H s):Inv X pins σ H s:=I.pins_of fun p hp=>I.pin p (List.mem_append_right _ (List.mem_append_left _ hp))
theorem d'q {iter:Expr} {body:List Stmt} {wi:TI} {g:TG} {tb:TS} {pos:Pos} (hp:PassesOwn (model X.prog X.w) X.A X.env X.xe) (hc:X.calm=true) (hi:PI X tg iter wi) (hg:PG X tg g) (hb:PSs X body tb)
    (hs:∀ x,foldedSetIterable iter X.env x=pure x:=by intro _;rfl):PS X (.For tg iter body [] pos) (tFor wi g tb):=by
  intro pins s σ H D I h
  refine wpAny_For (thn (hi pins s σ H _ I h) fun v s1 h1=>thn h1 fun itv s2 h2=>?_) hs
  obtain⟨it,fp,tn,J,H2,e,I2,T,st2,f2,W,⟨m0,w0⟩,turn⟩:=h2
  subst e
  have stat:∀ {H':Hp},(∀ b∈fp,H' b=none)→∀ b∈fp,FpOk X pins H' b:=fun hn b hb=>⟨hn b hb,(f2 b hb).2⟩
  refine codeAny_forLoop_any (fun n s'=>∃ i σ' H',Inv X pins σ' H' s'∧tn i s'.heap∧(∀ b∈fp,H' b=none)∧W i n σ' H') ?_ m0 ⟨0,σ,H2,I2,st2,fun b hb=>(f2 b hb).1,w0⟩
  rintro n s3 ⟨i,σ3,H3,I3,st3,fr3,w3⟩
  rcases turn i n σ3 H3 w3 with ⟨stop,qn⟩ | ⟨go,N,hN,step⟩
  · refine wpAny_passesOwn hp (thn (T.done X rfl rfl rfl hc i pins s3 σ3 H3 X.xe I3 (stat fr3) st3 stop) fun r s4 ⟨hr,I4⟩=>?_)
    subst hr
    exact wpAny_execs_nil ⟨σ3,H3,I4,qn⟩
  · refine wpAny_passesOwn hp (thn (T.item X rfl rfl rfl hc i pins s3 σ3 H3 X.xe I3 (stat fr3) st3 go) fun r s4 ⟨u,hr,h4⟩=>?_)
    subst hr
    refine wpAny_passesOwn hp (thn h4 fun _ s5 ⟨x,H5,I5,r5,y5,st5,fr5⟩=>?_)
    have I5':=I5.pinned (stat fr5) (T.obj _ _ st5)
    refine wpAny_passesOwn hp (thn (hg _ s5 σ3 H5 x u _ I5' r5 (step x H5 y5)) fun _ s6 ⟨σ6,H6,I6,q6⟩=>?_)
    refine wpAny_passesOwn hp (thn (hb _ s6 σ6 H6 _ I6 q6) fun f s7 q7=>?_)
    have again:∀ {σ7:St} {H7:Hp},Inv X (pins++pinsAt fp s5.heap) σ7 H7 s7→N σ7 H7→∃ m,m<n∧∃ i σ' H',Inv X pins σ' H' s7∧tn i s7.heap∧(∀ b∈fp,H' b=none)∧W i m σ' H':=fun {σ7 H7} I7 n7=>by
      obtain⟨m',hm,w7⟩:=hN σ7 H7 n7
      refine⟨m',hm,i+1,σ7,H7,I7.unpinned,T.keep _ _ _ st5 fun b hb o e=>(I7.pin (b,o) (List.mem_append_right _ (List.mem_append_right _ (c'J hb e)))).1,fun b hb=>?_,w7⟩
      obtain⟨o,e,d⟩:=T.obj _ _ st5 b hb
      exact (I7.pin (b,o) (List.mem_append_right _ (List.mem_append_right _ (c'J hb e)))).2.1
    cases f with
    | next=>obtain⟨σ7,H7,I7,n7⟩:=q7;exact again I7 n7
    | cont=>obtain⟨σ7,H7,I7,n7⟩:=q7;exact again I7 n7
    | brk=>obtain⟨σ7,H7,I7,q7⟩:=q7;exact⟨σ7,H7,I7.unpinned,q7⟩
    | ret v=>obtain⟨x7,σ7,H7,I7,r7,q7⟩:=q7;exact⟨x7,σ7,H7,I7.unpinned,r7,q7⟩
end
theorem h'v {K:PySem.W.Frag} {a:Addr} {xs:List V} {g:TG} {tb:TS} {D:Ends} {σ:St} {H:Hp} (Pv:Nat→St→Hp→Prop) (h0:Pv 0 σ H) (hl:∀ i σ H,i≤xs.length→Pv i σ H→SqL K H a xs)
    (hs:∀ i x σ H,xs[i]?=some x→Pv i σ H→g x σ H fun σ2 H2=>tb { D with nx:=Pv (i+1),ct:=Pv (i+1),bk:=D.nx } σ2 H2) (hd:∀ σ H,Pv xs.length σ H→D.nx σ H) :
    ∃ W:Nat→Nat→St→Hp→Prop,(∃ m,W 0 m σ H)∧∀ i m σ H,W i m σ H→
      ((Itl K a).stop i H∧D.nx σ H)∨((Itl K a).go i H∧∃ N:St→Hp→Prop,(∀ σ' H',N σ' H'→∃ m',m'<m∧W (i+1) m' σ' H')∧∀ x H',(Itl K a).yld i H x H'→g x σ H' fun σ2 H2=>tb { D with nx:=N,ct:=N,bk:=D.nx } σ2 H2):=by
  refine⟨fun i m σ H=>m=xs.length - i∧i≤xs.length∧Pv i σ H,⟨xs.length,by simp,Nat.zero_le _,h0⟩,?_⟩
  rintro i m σ H ⟨rfl,hi,p⟩
  have q:=hl i σ H hi p
  by_cases hlt:i<xs.length
  · refine .inr ⟨⟨xs,xs[i],q,by simp [hlt]⟩,Pv (i+1),fun σ' H' p'=>⟨xs.length - (i+1),by omega,rfl,hlt,p'⟩,fun x H' y=>?_⟩
    obtain⟨e,y⟩:=y
    subst e
    exact hs i x σ _ (y xs q) p
  · have e:i=xs.length:=by omega
    subst e
    exact .inl ⟨⟨xs,q,Nat.le_refl _⟩,hd σ H p⟩
theorem m'd {K:PySem.W.Frag} {a:Addr} {xs:List V} {g:TG} {tb:TS} {D:Ends} {σ:St} {H:Hp} (Pv:Nat→St→Hp→Prop) (h0:Pv 0 σ H) (hl:∀ i σ H,i≤xs.length→Pv i σ H→SqT K H a xs)
    (hs:∀ i x σ H,xs[i]?=some x→Pv i σ H→g x σ H fun σ2 H2=>tb { D with nx:=Pv (i+1),ct:=Pv (i+1),bk:=D.nx } σ2 H2) (hd:∀ σ H,Pv xs.length σ H→D.nx σ H) :
    ∃ W:Nat→Nat→St→Hp→Prop,(∃ m,W 0 m σ H)∧∀ i m σ H,W i m σ H→
      ((Itt K a).stop i H∧D.nx σ H)∨((Itt K a).go i H∧∃ N:St→Hp→Prop,(∀ σ' H',N σ' H'→∃ m',m'<m∧W (i+1) m' σ' H')∧∀ x H',(Itt K a).yld i H x H'→g x σ H' fun σ2 H2=>tb { D with nx:=N,ct:=N,bk:=D.nx } σ2 H2):=by
  refine⟨fun i m σ H=>m=xs.length - i∧i≤xs.length∧Pv i σ H,⟨xs.length,by simp,Nat.zero_le _,h0⟩,?_⟩
  rintro i m σ H ⟨rfl,hi,p⟩
  have q:=hl i σ H hi p
  by_cases hlt:i<xs.length
  · refine .inr ⟨⟨xs,xs[i],q,by simp [hlt]⟩,Pv (i+1),fun σ' H' p'=>⟨xs.length - (i+1),by omega,rfl,hlt,p'⟩,fun x H' y=>?_⟩
    obtain⟨e,y⟩:=y
    subst e
    exact hs i x σ _ (y xs q) p
  · have e:i=xs.length:=by omega
    subst e
    exact .inl ⟨⟨xs,q,Nat.le_refl _⟩,hd σ H p⟩
end L2
namespace L2
open PySem PySem.Spec PyProof.Rows
abbrev R2:=V→V→Hp→VK→Prop
def OpR (X:Cx) (f:Value→Value→Sem Value) (r:R2):Prop:=
  ∀ (pins:List (Addr×Obj)) (s:Shared) (σ:St) (H:Hp) (x y:V) (v u:Value) (Q:VK),Inv X pins σ H s→RelV x v→RelV y u→r x y H Q→
    wpAny (model X.prog X.w) X.A (f v u) (EP X pins σ Q) X.xe s
def UnR (X:Cx) (f:Value→Sem Value) (r:V→Hp→VK→Prop):Prop:=
  ∀ (pins:List (Addr×Obj)) (s:Shared) (σ:St) (H:Hp) (x:V) (v:Value) (Q:VK),Inv X pins σ H s→RelV x v→r x H Q→
    wpAny (model X.prog X.w) X.A (f v) (EP X pins σ Q) X.xe s
def CallR (X:Cx) (f:Value) (r:List V→Hp→VK→Prop):Prop:=
  ∀ (pins:List (Addr×Obj)) (s:Shared) (σ:St) (H:Hp) (xs:List V) (us:List Value) (Q:VK),Inv X pins σ H s→Vals xs us→r xs H Q→
    wpAny (model X.prog X.w) X.A (call f us) (EP X pins σ Q) X.xe s
def tOp (r:R2) (ta tb:TE):TE:=fun σ H Q=>ta σ H fun x H1=>tb σ H1 fun y H2=>r x y H2 Q
def tUn (r:V→Hp→VK→Prop) (ta:TE):TE:=fun σ H Q=>ta σ H fun x H1=>r x H1 Q
def rI (C:Int→Int→Prop) (g:Int→Int→V):R2:=fun x y H Q=>∃ i j,x=.int i∧y=.int j∧C i j∧Q (g i j) H
def rI0 (g:Int→Int→V):R2:=fun x y H Q=>∃ i j,x=.int i∧y=.int j∧Q (g i j) H
def rU (g:Int→V):V→Hp→VK→Prop:=fun x H Q=>∃ i,x=.int i∧Q (g i) H
section
variable {X:Cx} {a b c:Expr} {ta tb tc:TE} {pos:Pos}
theorem l'f (ha:PE X a ta) (hb:PE X b tb) {pins:List (Addr×Obj)} {s:Shared} {σ:St} {H:Hp} {R:V→V→Hp→Prop} (I:Inv X pins σ H s)
    (h:ta σ H fun x H1=>tb σ H1 fun y H2=>R x y H2) {Q:Value→Shared→Prop} {f:Value→Value→Sem Value}
    (hf:∀ v u s2 x y H2,Inv X pins σ H2 s2→RelV x v→RelV y u→R x y H2→wpAny (model X.prog X.w) X.A (f v u) Q X.xe s2) :
    wpAny (model X.prog X.w) X.A (eval a X.env) (fun v s₁=>wpAny (model X.prog X.w) X.A (eval b X.env) (fun u s₂=>wpAny (model X.prog X.w) X.A (f v u) Q X.xe s₂) X.xe s₁) X.xe s:=by
  refine thn (ha pins s σ H _ I h) fun v s1 ⟨x,H1,I1,r1,q1⟩=>?_
  refine thn (hb pins s1 σ H1 _ I1 q1) fun u s2 ⟨y,H2,I2,r2,q2⟩=>?_
  exact hf v u s2 x y H2 I2 r1 r2 q2
theorem a'n {op:Operator} {r:R2} (ho:OpR X (binaryOp op) r) (ha:PE X a ta) (hb:PE X b tb):PE X (.BinOp a op b pos) (tOp r ta tb):=by
  intro pins s σ H Q I h
  exact wpAny_BinOp (l'f ha hb I h fun v u s2 x y H2 I2 rx ry q=>ho pins s2 σ H2 x y v u Q I2 rx ry q)
theorem h'n {op:UnaryOp} {r:V→Hp→VK→Prop} (ho:UnR X (unaryOp op) r) (ha:PE X a ta):PE X (.UnaryOp op a pos) (tUn r ta):=by
  intro pins s σ H Q I h
  exact UnaryOp_ (thn (ha pins s σ H _ I h) fun v s1 ⟨x,H1,I1,r1,q1⟩=>ho pins s1 σ H1 x v Q I1 r1 q1)
theorem opI {f:Value→Value→Sem Value} {C:Int→Int→Prop} {g:Int→Int→Int}
    (rule:∀ (i j:Int) (t u:Tok) (s:Shared) (Q:Value→Shared→Prop) (E:Value→Shared→Prop),C i j→Q (.int (g i j) s.toks) { s with toks:=s.toks+1 }→wpAny (model X.prog X.w) X.A (f (.int i t) (.int j u)) Q E s) :
    OpR X f (rI C fun i j=>.int (g i j)):=by
  intro pins s σ H x y v u Q I rx ry h
  obtain⟨i,j,rfl,rfl,hc,q⟩:=h
  obtain⟨t,rfl⟩:=rx
  obtain⟨t',rfl⟩:=ry
  exact rule i j t t' s _ _ hc ⟨.int (g i j),H,I.tok _,⟨_,rfl⟩,q⟩
theorem n's {f:Value→Value→Sem Value} {g:Int→Int→Int}
    (rule:∀ (i j:Int) (t u:Tok) (s:Shared) (Q:Value→Shared→Prop) (E:Value→Shared→Prop),Q (.int (g i j) s.toks) { s with toks:=s.toks+1 }→wpAny (model X.prog X.w) X.A (f (.int i t) (.int j u)) Q E s) :
    OpR X f (rI0 fun i j=>.int (g i j)):=by
  intro pins s σ H x y v u Q I rx ry h
  obtain⟨i,j,rfl,rfl,q⟩:=h
  obtain⟨t,rfl⟩:=rx
  obtain⟨t',rfl⟩:=ry
  exact rule i j t t' s _ _ ⟨.int (g i j),H,I.tok _,⟨_,rfl⟩,q⟩
theorem n't {f:Value→Value→Sem Value} {g:Int→Int→Bool}
    (rule:∀ (i j:Int) (t u:Tok) (s:Shared) (Q:Value→Shared→Prop) (E:Value→Shared→Prop),Q (.bool (g i j)) s→wpAny (model X.prog X.w) X.A (f (.int i t) (.int j u)) Q E s) :
    OpR X f (rI0 fun i j=>.bl (g i j)):=by
  intro pins s σ H x y v u Q I rx ry h
  obtain⟨i,j,rfl,rfl,q⟩:=h
  obtain⟨t,rfl⟩:=rx
  obtain⟨t',rfl⟩:=ry
  exact rule i j t t' s _ _ ⟨.bl (g i j),H,I,rfl,q⟩
def CDiv (i j:Int):Prop:=0<j∧j<1073741824
def CPow (i j:Int):Prop:=0≤j∧j≤1000000∧i.natAbs<2 ^ 64
def CMul (i j:Int):Prop:=(-(2 ^ 64)<i∧i<2 ^ 64)∨(-(2 ^ 64)<j∧j<2 ^ 64)
theorem CMul.ok {i j:Int} (h:CMul i j):IntMulOk i j:=by
  rcases h with ⟨h1,h2⟩ | ⟨h1,h2⟩
  · exact .of_left (intBits_le_64 h1 h2)
  · exact .of_right (intBits_le_64 h1 h2)
theorem b'X:OpR X (binaryOp .Add) (rI0 fun i j=>.int (i+j)):=n's fun _ _ _ _ _ _ _ q=>add_int q
theorem d'r:OpR X (binaryOp .Sub) (rI0 fun i j=>.int (i - j)):=n's fun _ _ _ _ _ _ _ q=>sub_int q
theorem b'R:OpR X (binaryOp .FloorDiv) (rI CDiv fun i j=>.int (i / j)):=opI fun i j _ _ _ _ _ hc q=>by
  have h1:(0:Int)<j:=hc.1
  have h2:j<1073741824:=hc.2
  exact floordiv_int (by omega) (by rw [Int.fdiv_eq_ediv_of_nonneg i (by omega)];exact q) (.inl (PyProof.noPylong_small (by omega)))
theorem a'S:OpR X (binaryOp .Mod) (rI (fun _ j=>0<j) fun i j=>.int (i % j)):=opI fun i j _ _ _ _ _ hc q=>by
  have h1:(0:Int)<j:=hc
  exact mod_int' (by omega) (by rw [Int.fmod_eq_emod_of_nonneg i (by omega)];exact q)
theorem e'g:OpR X (binaryOp .Pow) (rI CPow fun i j=>.int (i ^ j.toNat)):=opI fun _ _ _ _ _ _ _ hc q=>pow_int_small hc.1 hc.2.1 hc.2.2 q
theorem unI {f:Value→Sem Value} {g:Int→Int}
    (rule:∀ (i:Int) (t:Tok) (s:Shared) (Q:Value→Shared→Prop) (E:Value→Shared→Prop),Q (.int (g i) s.toks) { s with toks:=s.toks+1 }→wpAny (model X.prog X.w) X.A (f (.int i t)) Q E s) :
    UnR X f (rU fun i=>.int (g i)):=by
  intro pins s σ H x v Q I rx h
  obtain⟨i,rfl,q⟩:=h
  obtain⟨t,rfl⟩:=rx
  exact rule i t s _ _ ⟨.int (g i),H,I.tok _,⟨_,rfl⟩,q⟩
theorem f'A:UnR X (unaryOp .USub) (rU fun i=>.int (-i)):=unI fun _ _ _ _ _ q=>neg_int q
end
def scal:V→V→Bool
  | .non, .non => true | .non, .int _ => true | .int _, .non => true | .non, .bl _ => true | .bl _, .non => true | .non, .str _ => true | .str _, .non => true
  | .int _, .int _ => true | .bl _, .bl _ => true | .str _, .str _ => true | .byt _, .byt _ => true
  | .int _, .str _ => true | .str _, .int _ => true | .bl _, .str _ => true | .str _, .bl _ => true
  | _, _ => false
def rEq:R2:=fun x y H Q=>scal x y=true∧Q (.bl (decide (x=y))) H
def rNe:R2:=fun x y H Q=>scal x y=true∧Q (.bl (!decide (x=y))) H
theorem e'x {i j:Int}:decide (V.int i=V.int j)=(i == j):=by
  rw [Bool.eq_iff_iff]
  simp
theorem h'w {i j:Bool}:decide (V.bl i=V.bl j)=(i == j):=by
  rw [Bool.eq_iff_iff]
  simp
theorem i'B {i j:Str}:decide (V.str i=V.str j)=(i == j):=by
  rw [Bool.eq_iff_iff]
  simp
theorem i'C {i j:Array UInt8}:decide (V.byt i=V.byt j)=(i.toList == j.toList):=by
  rw [Bool.eq_iff_iff]
  cases i
  cases j
  simp
section
variable {X:Cx} {a b c:Expr} {ta tb tc:TE} {pos:Pos}
theorem a'I {pins:List (Addr×Obj)} {σ:St} {H:Hp} {s:Shared} {Q:VK} {k k':Bool} (I:Inv X pins σ H s) (q:Q (.bl k) H) (e:k=k'):EP X pins σ Q (.bool k') s:=by
  subst e
  exact⟨.bl k,H,I,rfl,q⟩
theorem b'n:OpR X (compareOp .Eq) rEq:=by
  intro pins s σ H x y v u Q I rx ry h
  obtain⟨hs,q⟩:=h
  cases x with
  | non =>
    cases rx
    cases y with
    | non=>cases ry;exact PySem.EqNone.eq_none_none (a'I I q (by simp))
    | bl j=>cases ry;exact PySem.EqNone.eq_none_bool (a'I I q (by simp))
    | int j=>obtain⟨t',rfl⟩:=ry;exact PySem.EqNone.eq_none_int (a'I I q (by simp))
    | str j=>obtain⟨t',rfl⟩:=ry;exact PySem.EqNone.eq_none_str (a'I I q (by simp))
    | _=>exact absurd (show false=true from hs) Bool.false_ne_true
  | bl i =>
    cases rx
    cases y with
    | non=>cases ry;exact PySem.EqNone.eq_bool_none (a'I I q (by simp))
    | bl j=>cases ry;exact eq_bool (a'I I q h'w)
    | str j=>obtain⟨t',rfl⟩:=ry;exact PySem.EqMixed.eq_bool_str (a'I I q (by simp))
    | _=>exact absurd (show false=true from hs) Bool.false_ne_true
  | int i =>
    obtain⟨t,rfl⟩:=rx
    cases y with
    | non=>cases ry;exact PySem.EqNone.eq_int_none (a'I I q (by simp))
    | int j=>obtain⟨t',rfl⟩:=ry;exact eq_int (a'I I q e'x)
    | str j=>obtain⟨t',rfl⟩:=ry;exact PySem.EqMixed.eq_int_str (a'I I q (by simp))
    | _=>exact absurd (show false=true from hs) Bool.false_ne_true
  | str i =>
    obtain⟨t,rfl⟩:=rx
    cases y with
    | non=>cases ry;exact PySem.EqNone.eq_str_none (a'I I q (by simp))
    | bl j=>cases ry;exact PySem.EqMixed.eq_str_bool (a'I I q (by simp))
    | int j=>obtain⟨t',rfl⟩:=ry;exact PySem.EqMixed.eq_str_int (a'I I q (by simp))
    | str j=>obtain⟨t',rfl⟩:=ry;exact eq_str (a'I I q i'B)
    | _=>exact absurd (show false=true from hs) Bool.false_ne_true
  | byt i =>
    obtain⟨t,rfl⟩:=rx
    cases y with
    | byt j=>obtain⟨t',rfl⟩:=ry;exact PySem.W.eq_bytes (a'I I q i'C)
    | _=>exact absurd (show false=true from hs) Bool.false_ne_true
  | _ => cases y <;> exact absurd (show false = true from hs) Bool.false_ne_true
theorem b'H:OpR X (compareOp .NotEq) rNe:=by
  intro pins s σ H x y v u Q I rx ry h
  obtain⟨hs,q⟩:=h
  cases x with
  | non =>
    cases rx
    cases y with
    | non=>cases ry;exact PySem.EqNone.ne_none_none (a'I I q (by simp))
    | bl j=>cases ry;exact PySem.EqNone.ne_none_bool (a'I I q (by simp))
    | int j=>obtain⟨t',rfl⟩:=ry;exact PySem.EqNone.ne_none_int (a'I I q (by simp))
    | str j=>obtain⟨t',rfl⟩:=ry;exact PySem.EqNone.ne_none_str (a'I I q (by simp))
    | _=>exact absurd (show false=true from hs) Bool.false_ne_true
  | bl i =>
    cases rx
    cases y with
    | non=>cases ry;exact PySem.EqNone.ne_bool_none (a'I I q (by simp))
    | bl j=>cases ry;exact ne_bool (a'I I q (congrArg not h'w))
    | str j=>obtain⟨t',rfl⟩:=ry;exact PySem.EqMixed.ne_bool_str (a'I I q (by simp))
    | _=>exact absurd (show false=true from hs) Bool.false_ne_true
  | int i =>
    obtain⟨t,rfl⟩:=rx
    cases y with
    | non=>cases ry;exact PySem.EqNone.ne_int_none (a'I I q (by simp))
    | int j=>obtain⟨t',rfl⟩:=ry;exact ne_int (a'I I q (congrArg not e'x))
    | str j=>obtain⟨t',rfl⟩:=ry;exact PySem.EqMixed.ne_int_str (a'I I q (by simp))
    | _=>exact absurd (show false=true from hs) Bool.false_ne_true
  | str i =>
    obtain⟨t,rfl⟩:=rx
    cases y with
    | non=>cases ry;exact PySem.EqNone.ne_str_none (a'I I q (by simp))
    | bl j=>cases ry;exact PySem.EqMixed.ne_str_bool (a'I I q (by simp))
    | int j=>obtain⟨t',rfl⟩:=ry;exact PySem.EqMixed.ne_str_int (a'I I q (by simp))
    | str j=>obtain⟨t',rfl⟩:=ry;exact ne_str (a'I I q (congrArg not i'B))
    | _=>exact absurd (show false=true from hs) Bool.false_ne_true
  | byt i =>
    obtain⟨t,rfl⟩:=rx
    cases y with
    | byt j=>obtain⟨t',rfl⟩:=ry;exact PySem.W.ne_bytes (a'I I q (congrArg not i'C))
    | _=>exact absurd (show false=true from hs) Bool.false_ne_true
  | _ => cases y <;> exact absurd (show false = true from hs) Bool.false_ne_true
theorem d'e:OpR X (compareOp .Lt) (rI0 fun i j=>.bl (decide (i<j))):=n't fun _ _ _ _ _ _ _ q=>lt_int q
theorem h'o:OpR X (compareOp .Gt) (rI0 fun i j=>.bl (decide (j<i))):=n't fun _ _ _ _ _ _ _ q=>gt_int q
theorem a'y (b:Expr) {op:CmpOp} (h:op≠.In:=by decide) (h2:op≠.NotIn:=by decide):behindInMarks op b=false:=by
  have e1:(op == CmpOp.In)=false:=by cases op<;>first | rfl | exact absurd rfl h
  have e2:(op == CmpOp.NotIn)=false:=by cases op<;>first | rfl | exact absurd rfl h2
  cases b<;>simp [behindInMarks,e1,e2]
theorem b'F {op:CmpOp} {r:R2} (ho:OpR X (compareOp op) r) (ha:PE X a ta) (hb:PE X b tb) (hm:behindInMarks op b=false):PE X (.Compare a [op] [b] pos) (tOp r ta tb):=by
  intro pins s σ H Q I h
  exact wpAny_Compare1 (l'f ha hb I h fun v u s2 x y H2 I2 rx ry q=>ho pins s2 σ H2 x y v u Q I2 rx ry q) hm
def tTest (t:TE):TT:=fun σ H Q=>t σ H fun x H'=>∃ k,x=.bl k∧Q k H'
theorem a'u {op:CmpOp} {r:R2} (ho:OpR X (compareOp op) r) (ha:PE X a ta) (hb:PE X b tb) (hm:behindInMarks op b=false):PT X (.Compare a [op] [b] pos) (tTest (tOp r ta tb)):=by
  intro pins s σ H Q I h
  refine wpAny_isTrue_Compare1 (thn (ha pins s σ H _ I h) fun v s1 ⟨x,H1,I1,r1,q1⟩=>thn (hb pins s1 σ H1 _ I1 q1) fun u s2 ⟨y,H2,I2,r2,q2⟩=>
    thn (ho pins s2 σ H2 x y v u _ I2 r1 r2 q2) fun c s3 ⟨z,H3,I3,r3,k,e,q3⟩=>?_) hm
  subst e
  cases r3
  exact wpAny_truthy_bool ⟨H3,I3,q3⟩
theorem h'x:(sizeLine:Nat)<2 ^ 63:=by rw [sizeLine_eq];decide
theorem j'j:OpR X (binaryOp .Add) (fun x y H Q=>∃ i j,x=.str i∧y=.str j∧i.length+j.length≤sizeLine∧Q (.str (i++j)) H):=by
  intro pins s σ H x y v u Q I rx ry h
  obtain⟨i,j,rfl,rfl,hz,q⟩:=h
  obtain⟨t,rfl⟩:=rx
  obtain⟨t',rfl⟩:=ry
  exact add_str (fun t' tk=>⟨.str (i++j),H,I.tok _,⟨_,rfl⟩,q⟩) hz
theorem e'y {x:V} {us:List Value} (r:Vals [x] us):∃ u,us=[u]∧RelV x u:=by
  cases r with
  | cons r1 r2 => cases r2; exact ⟨_, rfl, r1⟩
theorem j'k {x y:V} {us:List Value} (r:Vals [x,y] us):∃ u w',us=[u,w']∧RelV x u∧RelV y w':=by
  cases r with
  | cons r1 r2 =>
    cases r2 with
    | cons r3 r4=>cases r4;exact⟨_,_,rfl,r1,r3⟩
theorem c's:CallR X (.builtin "abs") (fun xs H Q=>∃ i,xs=[.int i]∧Q (.int (if i<0 then -i else i)) H):=by
  intro pins s σ H xs us Q I r h
  obtain⟨i,rfl,q⟩:=h
  obtain⟨u,rfl,t,rfl⟩:=e'y r
  exact call_abs_int fun u tk=>⟨.int (if i<0 then -i else i),H,I.tok _,⟨_,rfl⟩,q⟩
end
end L2
namespace L2
open PySem PySem.Spec PyProof.Rows
structure ObjM (h:Heap) (x dx C:Addr) (mA:Str→Option Value):Prop where
  obj:h.get? x=some (PySem.W.instObj C dx)
  ns:h.Ns1 dx mA
  ne:dx≠x
theorem j'T {h:Heap} {dx:Addr} {mA:Str→Option Value} (n:h.Ns1 dx mA):∃ od,h.get? dx=some od∧∀ name,PySem.W.lookIn name od=some (mA name):=by
  obtain⟨o,es,ep,ho,hd,hk,_,hm⟩:=n
  refine⟨o,ho,fun name=>?_⟩
  have e:=hm name
  unfold nsFind findBy at e
  rw [← Array.find?_toList] at e
  unfold PySem.W.lookIn
  rw [hd]
  dsimp only
  split
  · rename_i y q
    rw [q] at e
    exact congrArg some e
  · rename_i q
    rw [q] at e
    have a:es.toList.any (·.refKey)=false:=by
      rw [List.any_eq_false]
      intro y hy
      obtain⟨z,t,hkey⟩:=hk y (Array.mem_toList_iff.mp hy)
      simp [DictEntry.refKey,hkey]
    have a':¬ es.toList.any (·.refKey)=true:=by rw [a];exact Bool.false_ne_true
    rw [if_neg a']
    exact congrArg some e
theorem ObjM.look {h:Heap} {x dx C:Addr} {mA:Str→Option Value} (I:ObjM h x dx C mA):∃ od,PySem.W.InstAt h x (PySem.W.instObj C dx) C (some od)∧∀ name,PySem.W.lookIn name od=some (mA name):=
  let ⟨od,ho,hl⟩:=j'T I.ns
  ⟨od,⟨I.obj,rfl,rfl,ho⟩,hl⟩
section
variable {prog:Program} {w:World} {A:Around} {E:Value→Shared→Prop} {s:Shared} {K:PySem.W.Frag} {x dx C f:Addr} {mA:Str→Option Value} {name:Str} {v:Value}
theorem m'e {expr:Bool} {Q:Value→Shared→Prop} (X:K.In s.heap) (I:ObjM s.heap x dx C mA) (hg:PySem.W.plainGet K C name=true) (hh:PySem.W.hasDictIn K C=true)
    (ha:PySem.W.findIn K (.ref C) name=some none) (hv:mA name=some v) (hv':PySem.W.handedIn v=true) (h:Q v { s with toks:=s.toks+1 }) :
    wpAny (model prog w) A (getAttr (.ref x) name expr) Q E s:=by
  obtain⟨od,J,hl⟩:=I.look
  exact PySem.W.get_value X J (PySem.W.plainGet_of hg).1 (PySem.W.findObj_own hh ha rfl (by rw [hl,hv])) hv' h
theorem h'y {pl:Sem Bool} {Q:Value×List Value→Shared→Prop} (X:K.In s.heap) (I:ObjM s.heap x dx C mA) (hg:PySem.W.plainGet K C name=true)
    (hf:PySem.W.findIn K (.ref C) name=some (some (.ref f))) (ht:PySem.W.isFn K (.ref f)=true) (hv:mA name=none) (h:Q (.ref f,[.ref x]) s) :
    wpAny (model prog w) A (getMethod (.ref x) name pl) Q E s:=by
  obtain⟨od,J,hl⟩:=I.look
  exact PySem.W.method_fn X J (PySem.W.plainGet_of hg).1 (PySem.W.plainGet_of hg).2 hf (beq_iff_eq.mp ht) (by show (PySem.W.lookIn name od).map (·.isSome)=some false;rw [hl,hv];rfl) h
theorem m'f {ns:List Str} {Q:Unit→Shared→Prop} (X:K.In s.heap) (I:ObjM s.heap x dx C mA)
    (hs:PySem.W.findIn K (.ref C) "__setattr__"=some (some (.builtin "object.__setattr__"))) (hp:PySem.W.plainOver K C=true) (ht:PySem.W.takerIn K C name=some none) (hh:PySem.W.hasDictIn K C=true)
    (hw:PySem.Within mA ns) (hsz:ns.length≤sizeLine)
    (h:∀ h',ObjM h' x dx C (fun y=>if y=name then some v else mA y)→Heap.SameBut dx s.heap h'→Q () { s with heap:=h',toks:=s.toks+2 }) :
    wpAny (model prog w) A (setAttr (.ref x) name v) Q E s:=by
  obtain⟨od,J,hl⟩:=I.look
  refine PySem.W.set_plain X J hs (PySem.W.osa_open (s:={ s with toks:=s.toks+1 }) (r:=none) X J hp ht fun b=>?_)
  obtain⟨cd,hc,hd'⟩:=PySem.W.any_some hh
  have hx:s.heap.get? x=some ⟨.ref C,some dx,.plain,#[]⟩:=I.obj
  refine wpAny_bind (wpAny_pure (wpAny_bind (wpAny_bind (wpAny_loadPart hx (wpAny_bind (PySem.W.Looks.here (s:={ s with toks:=s.toks+1 }) (PySem.W.looks_clsIn X hc) ?_))))))
  rw [hd']
  refine wpAny_pure (a:=some dx) (wpAny_bind (wpAny_pure (wpAny_bind ?_)))
  refine wpAny_nsSet1 (s:={ s with toks:=s.toks+1 }) I.ns fun h' hn2 hs2=>?_
  obtain⟨oD,esD,epD,hoD,hdD,hcD⟩:=hn2.count (PySem.Within.cons name v hw)
  refine wpAny_bind (wpAny_lookBehind hoD (by rw [hdD];exact pastItsLine_dict (Nat.le_trans hcD (by rw [List.length_cons];omega))) ?_)
  exact wpAny_pure (h _ ⟨(hs2.2 _ (Ne.symm I.ne)).trans I.obj,hn2,I.ne⟩ hs2)
theorem l'g {R:Result→Shared→Prop} {vs:List Value} {kw:List (Str×Value)} (X:K.In s.heap) (hm:PySem.W.makesIn K C=true)
    (hi:PySem.W.findIn K (.ref C) "__init__"=some (some (.ref f))) (hf:PySem.W.typeIn K (.ref f)=some (.type "function"))
    (h:codeAny (model prog w) (A.under (.builtin "type.__call__" ⟨.ref C :: vs,kw⟩)) (.call (.ref f) ⟨.ref (s.heap.objs.size+1) :: vs,kw⟩) (PySem.W.InitBack (s.heap.objs.size+1) R)
      { s with heap:=(s.heap.push PySem.W.emptyDict).push (PySem.W.instObj C s.heap.objs.size) }) :
    codeAny (model prog w) A (.call (.ref C) ⟨vs,kw⟩) R s:=by
  obtain⟨hh,g,d,t,os⟩:=s
  exact PySem.W.make_core (PySem.W.makes_of X hm) (PySem.W.looks_findIn X hi) (fun self=>PySem.W.bind_fn X self hf) (.inl rfl) h
end
def putF (f:Str) (v:V):List (Str×V)→List (Str×V)
  | [] => [(f, v)]
  | (g, x) :: r => if g = f then (g, v) :: r else (g, x) :: putF f v r
theorem e'X (f g:Str) (v:V):∀ fs:List (Str×V),(putF f v fs).lookup g=if g=f then some v else fs.lookup g
  | [] => by
    show List.lookup g [(f,v)]=_
    by_cases h:g=f
    · have hb:(g == f)=true:=beq_iff_eq.mpr h
      simp only [List.lookup,hb,if_pos h]
    · have hb:(g == f)=false:=beq_eq_false_iff_ne.mpr h
      simp only [List.lookup,hb,if_neg h]
  | (k, x) :: r => by
    have ih:=e'X f g v r
    rw [show putF f v ((k,x) :: r)=(if k=f then (k,v) :: r else (k,x) :: putF f v r) from rfl]
    by_cases hk:k=f
    · rw [if_pos hk]
      by_cases h:g=k
      · have hb:(g == k)=true:=beq_iff_eq.mpr h
        simp only [List.lookup,hb,if_pos (h.trans hk)]
      · have hb:(g == k)=false:=beq_eq_false_iff_ne.mpr h
        simp only [List.lookup,hb,if_neg (fun e:g=f=>h (e.trans hk.symm))]
    · rw [if_neg hk]
      by_cases h:g=k
      · have hb:(g == k)=true:=beq_iff_eq.mpr h
        simp only [List.lookup,hb,if_neg (fun e:g=f=>hk (h.symm.trans e))]
      · have hb:(g == k)=false:=beq_eq_false_iff_ne.mpr h
        simp only [List.lookup,hb]
        exact ih
theorem e'h (f:Str) (v:V):∀ fs:List (Str×V),f∈(putF f v fs).map (·.1)∧∀ g,g∈fs.map (·.1)→g∈(putF f v fs).map (·.1)
  | [] => ⟨by simp [putF], fun g h => by simp at h⟩
  | (k, x) :: r => by
    obtain⟨i1,i2⟩:=e'h f v r
    rw [show putF f v ((k,x) :: r)=(if k=f then (k,v) :: r else (k,x) :: putF f v r) from rfl]
    by_cases hk:k=f
    · rw [if_pos hk]
      subst hk
      exact⟨by simp,fun g h=>by simpa using h⟩
    · rw [if_neg hk]
      refine⟨?_,fun g h=>?_⟩
      · rw [List.map_cons]
        exact List.mem_cons_of_mem _ i1
      · rw [List.map_cons] at h ⊢
        rcases List.mem_cons.mp h with e | e
        · exact List.mem_cons.mpr (.inl e)
        · exact List.mem_cons_of_mem _ (i2 g e)
theorem e'Y (f:Str) (v:V):∀ fs:List (Str×V),(putF f v fs).length≤fs.length+1
  | [] => by simp [putF]
  | (k, x) :: r => by
    have ih:=e'Y f v r
    rw [show putF f v ((k,x) :: r)=(if k=f then (k,v) :: r else (k,x) :: putF f v r) from rfl]
    by_cases hk:k=f
    · rw [if_pos hk,List.length_cons,List.length_cons];omega
    · rw [if_neg hk,List.length_cons,List.length_cons];omega
theorem RelO.some_of {v:V} {o:Option Value} (r:RelO (some v) o):∃ u,o=some u∧RelV v u:=by
  cases o with
  | none => exact (show False from r).elim
  | some u => exact ⟨u, rfl, r⟩
theorem RelO.none_of {o:Option Value} (r:RelO none o):o=none:=by
  cases o with
  | none => rfl
  | some u => exact (show False from r).elim
theorem j'U {v:V} {u:Value} (r:RelV v u):PySem.W.handedIn u=true:=by
  cases v with
  | non => cases (show u = Value.none from r); rfl
  | bl b => cases (show u = Value.bool b from r); rfl
  | int i => obtain ⟨t, e⟩ := (show ∃ t, u = Value.int i t from r); cases e; rfl
  | str x => obtain ⟨t, e⟩ := (show ∃ t, u = Value.str x t from r); cases e; rfl
  | byt b => obtain ⟨t, e⟩ := (show ∃ t, u = Value.bytes b t from r); cases e; rfl
  | flt b => obtain ⟨t, e⟩ := (show ∃ t, u = Value.float b t from r); cases e; rfl
  | ref a => cases (show u = Value.ref a from r); rfl
  | ty n => cases (show u = Value.type n from r); rfl
section
variable {P:Program} {w:World} {H H':Hp} {h h':Heap} {a C dx:Addr} {fs fs':List (Str×V)}
theorem i'D (hok:HOk P w H h) (e:H a=some (.ins C dx fs)):∃ mA,ObjM h a dx C mA∧(∀ f,RelO (fs.lookup f) (mA f))∧PySem.Within mA (fs.map (·.1))∧fs.length≤1000∧H dx=some (.own a):=by
  obtain⟨d,z,ne,ob,mA,n,r,q⟩:=(show ObjOk P w H h a (.ins C dx fs) from hok a _ e)
  exact⟨mA,⟨ob,n,ne⟩,r,q,z,d⟩
end
structure Cls (K:PySem.W.Frag) (C:Addr):Prop where
  pg:PySem.W.plainGet K C Str.empty=true
  hd:PySem.W.hasDictIn K C=true
  po:PySem.W.plainOver K C=true
  sa:PySem.W.findIn K (.ref C) "__setattr__"=some (some (.builtin "object.__setattr__"))
theorem Cls.get {K:PySem.W.Frag} {C:Addr} (c:Cls K C) (f:Str):PySem.W.plainGet K C f=true:=c.pg
def NoAttr (K:PySem.W.Frag) (C:Addr) (f:Str):Prop:=PySem.W.findIn K (.ref C) f=some none
theorem NoAttr.taker {K:PySem.W.Frag} {C:Addr} {f:Str} (n:NoAttr K C f):PySem.W.takerIn K C f=some none:=by
  unfold PySem.W.takerIn
  rw [show PySem.W.findIn K (.ref C) f=some none from n]
  rfl
structure Con (K:PySem.W.Frag) (C:Addr) (f:Str) (v:V) (u:Value):Prop where
  at_:PySem.W.findIn K (.ref C) f=some (some u)
  rel:RelV v u
  get:PySem.W.specialIn K u "__get__"=some none
  cp:PySem.W.copiedNames.contains f=false
structure Meth (K:PySem.W.Frag) (C:Addr) (m:Str) (f:Addr):Prop where
  at_:PySem.W.findIn K (.ref C) m=some (some (.ref f))
  fn:PySem.W.isFn K (.ref f)=true
  kp:PySem.W.keepIn K (.ref f)=true
section
variable {X:Cx} {pins:List (Addr×Obj)} {σ:St} {H:Hp} {s:Shared} {a C dx:Addr} {fs:List (Str×V)} {f:Str} {v:V} {A:Around} {E:Value→Shared→Prop}
theorem j'l {y:V} {u:Value} {Q:Unit→Shared→Prop} (I:Inv X pins σ H s) (e:H a=some (.ins C dx fs)) (c:Cls X.K C) (n:NoAttr X.K C f) (hl:fs.length<1000) (ry:RelV y u)
    (h:∀ s',Inv X pins σ (upd H a (.ins C dx (putF f y fs))) s'→Q () s'):wpAny (model X.prog X.w) A (setAttr (.ref a) f u) Q E s:=by
  obtain⟨mA,O,r,wi,_,ho⟩:=i'D I.hok e
  have hz:(fs.map (·.1)).length≤sizeLine:=by rw [List.length_map,sizeLine_eq];omega
  refine m'f I.kIn O c.sa c.po n.taker c.hd wi hz fun h' O' sb=>h _ ?_
  have hd:∃ o,h'.get? dx=some o:=let ⟨o,_,_,e',_⟩:=O'.ns;⟨o,e'⟩
  refine I.write (x:=a) (e:=dx) (by rw [e];exact True.intro) (.inr ho) (fun b q hb z=>(sb.2 b hb).trans z) hd ?_
  refine⟨by rw [a't O.ne];exact ho,?_,O.ne,O'.obj,_,O'.ns,fun g=>?_,fun g hg=>?_⟩
  · have:=e'Y f y fs;omega
  · show RelO ((putF f y fs).lookup g) (if g=f then some u else mA g)
    rw [e'X]
    by_cases q:g=f
    · rw [if_pos q,if_pos q];exact ry
    · rw [if_neg q,if_neg q];exact r g
  · by_cases q:g=f
    · rw [q];exact (e'h f y fs).1
    · refine (e'h f y fs).2 g (wi g fun z=>hg ?_)
      show (if g=f then some u else mA g)=none
      rw [if_neg q];exact z
theorem Inv.made (I:Inv X pins σ H s):Inv X pins σ (upd (upd H s.heap.objs.size (.own (s.heap.objs.size+1))) (s.heap.objs.size+1) (.ins C s.heap.objs.size []))
    { s with heap:=(s.heap.push PySem.W.emptyDict).push (PySem.W.instObj C s.heap.objs.size) }:=by
  have e1:(s.heap.push PySem.W.emptyDict).get? s.heap.objs.size=some PySem.W.emptyDict:=Heap.get?_push_size s.heap rfl
  have e2:((s.heap.push PySem.W.emptyDict).push (PySem.W.instObj C s.heap.objs.size)).get? (s.heap.objs.size+1)=some (PySem.W.instObj C s.heap.objs.size):=by
    have:=Heap.get?_push_size (s.heap.push PySem.W.emptyDict) (o:=PySem.W.instObj C s.heap.objs.size) rfl
    rwa [Heap.size_push] at this
  have e3:(s.heap.push PySem.W.emptyDict).Ns s.heap.objs.size (fun _=>none):=⟨PySem.W.emptyDict,#[],_,e1,rfl,(fun e he=>absurd he (by simp)),fun _=>rfl⟩
  have I1:=I.laid (a:=s.heap.objs.size) (o:=.own (s.heap.objs.size+1)) (h':=s.heap.push PySem.W.emptyDict) (t':=s.toks) (fun b u q=>Heap.get?_push_of_some _ q) (Nat.le_refl _) ⟨_,e1⟩
  refine I1.laid (a:=s.heap.objs.size+1) (o:=.ins C s.heap.objs.size []) (t':=s.toks) (fun b u q=>Heap.get?_push_of_some _ q) (Nat.le_of_eq (Heap.size_push _ _)) ?_
  have ne:s.heap.objs.size≠s.heap.objs.size+1:=Nat.ne_of_lt (Nat.lt_succ_self _)
  refine⟨by rw [a't ne,a'v],Nat.zero_le _,ne,e2,fun _=>none,(Heap.Ns1.of_empty e3).at fun o q=>Heap.get?_push_of_some _ q,fun _=>True.intro,fun y hy=>absurd rfl hy⟩
theorem m'g {prog:Program} {w:World} {env:Env} {e:Expr} {f:Str} {pos:Pos} {s:Shared} {Q:Value→Shared→Prop} (hb:attributeBase e f env (eval e env)=eval e env)
    (h:wpAny (model prog w) A (eval e env) (fun o s₁=>wpAny (model prog w) A (getAttr o f true) Q E s₁) E s):wpAny (model prog w) A (eval (.Attribute e f pos) env) Q E s:=
  Attribute_any_ h (by rw [arm_eval_Attribute,hb])
end
def sFld (K:PySem.W.Frag) (ta tv:TE) (f:Str):TS:=fun D σ H=>tv σ H fun y H1=>ta σ H1 fun x H2=>∃ a C dx fs,x=.ref a∧H2 a=some (.ins C dx fs)∧Cls K C∧NoAttr K C f∧fs.length<1000∧
  D.nx σ (upd H2 a (.ins C dx (putF f y fs)))
section
variable {X:Cx} {o e value:Expr} {f:Str} {pos pos' tpos:Pos} {ta tv:TE}
theorem b'u (ha:PE X o ta) (hv:PE X value tv) (hs:swapsWith value (some (.Attribute o f pos')) pos.line X.env=pure false):PS X (.Assign [.Attribute o f pos'] value pos) (sFld X.K ta tv f):=by
  intro pins s σ H D I h
  refine plainObj_wpAny_Assign_Attribute (thn (hv pins s σ H _ I h) fun u s1 ⟨y,H1,I1,ry,q⟩=>thn (ha pins s1 σ H1 _ I1 q) fun ov s2 ⟨x,H2,I2,rx,a,C,dx,fs,ex,ea,c,n,l,q2⟩=>?_) hs
  subst ex
  obtain rfl:ov=Value.ref a:=rx
  exact j'l I2 ea c n l ry fun s3 I3=>⟨σ,_,I3,q2⟩
end
section
variable {X:Cx} {pins:List (Addr×Obj)} {σ:St} {H:Hp} {s:Shared} {A:Around} {E:Value→Shared→Prop} {Q:Value→Shared→Prop} {c:Value} {b:Bool}
inductive TyOf (K:PySem.W.Frag) (H:Hp):V→Value→Prop where
  | non : TyOf K H .non (.type "NoneType")
  | bl (x : Bool) : TyOf K H (.bl x) (.type "bool")
  | int (i : Int) : TyOf K H (.int i) (.type "int")
  | str (x : Str) : TyOf K H (.str x) (.type "str")
  | flt (x : UInt64) : TyOf K H (.flt x) (.type "float")
  | lst {a : Addr} {xs : List V} (e : H a = some (.lst xs)) : TyOf K H (.ref a) (.type "list")
  | frz {a : Addr} {o : Obj} {xs : List V} (e : H a = some (.frz o (.lst xs))) : TyOf K H (.ref a) (.type "list")
  | tup {a : Addr} {xs : List V} (e : H a = some (.tup xs)) : TyOf K H (.ref a) (.type "tuple")
  | dK {a : Addr} {kvs : List (Key × V)} (e : H a = some (.dK kvs)) : TyOf K H (.ref a) (.type "dict")
  | dT {a : Addr} {kvs : List (List Key × V)} (e : H a = some (.dT kvs)) : TyOf K H (.ref a) (.type "dict")
  | ins {a C dx : Addr} {fs : List (Str × V)} (e : H a = some (.ins C dx fs)) (cl : Cls K C) (ha : PySem.W.findIn K (.ref C) "__class__" = some (some (.builtin "object.__class__")))
      (hn:PySem.W.specialIn K (.builtin "object.__class__") "__get__"=some (some (.builtin "getset_descriptor.__get__"))) (htk:PySem.W.takesIn K (.builtin "object.__class__")=some true)
      (hm:PySem.W.mroIn K C (.type "object")=some true):TyOf K H (.ref a) (.ref C)
theorem j'V {x:V} {u t:Value} (I:Inv X pins σ H s) (rx:RelV x u) (ty:TyOf X.K H x t) (e:PySem.W.kitOne X.K t c=some b) (h:∀ tk,Q (.bool b) { s with toks:=tk }) :
    wpAny (model X.prog X.w) A (call (.builtin "isinstance") [u,c]) Q E s:=by
  cases ty with
  | non => cases (show u = Value.none from rx); exact PySem.W.kia_one PySem.W.kitx_none I.kIn True.intro e (fun z => nomatch z) h
  | bl y => cases (show u = Value.bool y from rx); exact PySem.W.kia_one PySem.W.kitx_bool I.kIn True.intro e (fun z => nomatch z) h
  | int i => obtain ⟨t, q⟩ := (show ∃ t, u = Value.int i t from rx); cases q; exact PySem.W.kia_one PySem.W.kitx_int I.kIn True.intro e (fun z => nomatch z) h
  | str y => obtain ⟨t, q⟩ := (show ∃ t, u = Value.str y t from rx); cases q; exact PySem.W.kia_one PySem.W.kitx_str I.kIn True.intro e (fun z => nomatch z) h
  | flt y => obtain ⟨t, q⟩ := (show ∃ t, u = Value.float y t from rx); cases q; exact PySem.W.kia_one PySem.W.kitx_float I.kIn True.intro e (fun z => nomatch z) h
  | @lst a xs ea =>
    cases (show u=Value.ref a from rx)
    obtain⟨_,_,n,_,h1⟩:=(show ObjOk X.prog X.w H s.heap a (.lst xs) from I.hok a _ ea)
    exact PySem.W.kia_one PySem.W.kitx_list I.kIn ⟨_,h1,rfl⟩ e (fun z=>nomatch z) h
  | @frz a ob xs ea =>
    cases (show u=Value.ref a from rx)
    obtain⟨_,_,_,n,_,h1⟩:=(show ObjOk X.prog X.w H s.heap a (.frz ob (.lst xs)) from I.hok a _ ea)
    exact PySem.W.kia_one PySem.W.kitx_list I.kIn ⟨_,h1,rfl⟩ e (fun z=>nomatch z) h
  | @tup a xs ea =>
    cases (show u=Value.ref a from rx)
    obtain⟨_,_,_,p⟩:=(show ObjOk X.prog X.w H s.heap a (.tup xs) from I.hok a _ ea)
    obtain⟨o,h1,h2,_⟩:=p
    exact PySem.W.kia_one PySem.W.kitx_tuple I.kIn ⟨o,h1,h2⟩ e (fun z=>nomatch z) h
  | @dK a kvs ea =>
    cases (show u=Value.ref a from rx)
    obtain⟨_,_,vs,_,p⟩:=(show ObjOk X.prog X.w H s.heap a (.dK kvs) from I.hok a _ ea)
    obtain⟨o,es,ep,h1,h2,_⟩:=p
    exact PySem.W.kia_one PySem.W.kitx_dict I.kIn ⟨o,h1,h2.1⟩ e (fun z=>nomatch z) h
  | @dT a kvs ea =>
    cases (show u=Value.ref a from rx)
    obtain⟨_,_,xs,_,o,es,ep,h1,h2,_⟩:=(show ObjOk X.prog X.w H s.heap a (.dT kvs) from I.hok a _ ea)
    exact PySem.W.kia_one PySem.W.kitx_dict I.kIn ⟨o,h1,h2.1⟩ e (fun z=>nomatch z) h
  | @ins a C dx fs ea cl ha hn htk hm =>
    cases (show u=Value.ref a from rx)
    obtain⟨mA,O,_⟩:=i'D I.hok ea
    obtain⟨od,J,_⟩:=O.look
    exact PySem.W.kia_one (PySem.W.kitx_own (cl.get _) cl.hd ha hn htk hm) I.kIn J e (fun z=>nomatch z) h
end
end L2
namespace L2
open PySem PySem.Spec PyProof.Rows
structure Room (k:Nat) (A:Around):Prop where
  hd:A.handled=none
  dp:A.depth+3*k+5<recursionLimit
  un:A.units+16*k+200<cLine
theorem Room.mono {j k:Nat} {A:Around} (r:Room k A) (h:j≤k):Room j A:=⟨r.hd,by have:=r.dp;omega,by have:=r.un;omega⟩
theorem Room.deeper {k:Nat} {A:Around} (r:Room (k+1) A) (env:Env):Room k (A.deeper env):=
  ⟨r.hd,by have:=r.dp;show A.depth+1+3*k+5<_;omega,by have:=r.un;show A.units+3+16*k+200<_;omega⟩
theorem j'm {A:Around} {C:Addr} {us:List Value} {kw:List (Str×Value)}:(A.under (.builtin "type.__call__" ⟨.ref C :: us,kw⟩)).depth=A.depth+1:=by
  first | rfl | simp [Around.under,Code.weight,Code.isCreation,Code.isGuard,Code.isCaller,Code.frames,Code.isFrame,guardIds]
theorem j'n {A:Around} {C:Addr} {us:List Value} {kw:List (Str×Value)}:(A.under (.builtin "type.__call__" ⟨.ref C :: us,kw⟩)).units=A.units+1:=by
  first | rfl | simp [Around.under,Code.cUnits,Code.frames,Code.isFrame]
theorem Room.make {k:Nat} {A:Around} (r:Room (k+1) A) (C:Addr) (us:List Value) (kw:List (Str×Value)):Room k (A.under (.builtin "type.__call__" ⟨.ref C :: us,kw⟩)):=
  ⟨r.hd,by have:=r.dp;rw [j'm];omega,by have:=r.un;rw [j'n];omega⟩
theorem Room.depth {k:Nat} {A:Around} (r:Room k A):A.depth<recursionLimit:=by have:=r.dp;omega
theorem Room.units {k:Nat} {A:Around} (r:Room k A):A.units+64<cLine:=by have:=r.un;omega
def tNil:TA:=fun _ H Q=>Q [] H
def tCons (ta:TE) (tr:TA):TA:=fun σ H Q=>ta σ H fun x H1=>tr σ H1 fun xs H2=>Q (x :: xs) H2
section
variable {X:Cx} {e:Expr} {es:List Expr} {te:TE} {t:TA} {pos:Pos}
theorem a'e:PA X [] tNil:=fun _ _ _ _ H Q I h=>Calls.spliced_nil ⟨[],H,I,.nil,h⟩
theorem a'a (ha:PE X e te) (hr:PA X es t) (hs:starEach (e :: es) X.env=(false,eval e X.env) :: starEach es X.env:=by rfl):PA X (e :: es) (tCons te t):=by
  intro pos pins s σ H Q I h
  rw [hs]
  show wpAny _ _ (spliced ((false,eval e X.env) :: backTo pos (starEach es X.env))) _ _ s
  refine Calls.spliced_cons (thn (ha pins s σ H _ I h) fun u s1 ⟨x,H1,I1,r1,q1⟩=>?_)
  exact thn (hr pos pins s1 σ H1 _ I1 q1) fun us s2 ⟨xs,H2,I2,r2,q2⟩=>⟨x :: xs,H2,I2,.cons r1 r2,q2⟩
def tTup (t:TA):TE:=fun σ H Q=>t σ H fun xs H1=>xs.length≤sizeLine∧∀ p,H1 p=none→Q (.ref p) (upd H1 p (.tup xs))
def tLst (t:TA):TE:=fun σ H Q=>t σ H fun xs H1=>xs.length≤sizeLine∧∀ p,H1 p=none→Q (.ref p) (upd H1 p (.lst xs))
theorem b'L {x1} (h:PA X es t):PE X (.Tuple es x1 pos) (tTup t):=by
  intro pins s σ H Q I hq
  refine wpAny_Tuple_spliced (thn (h pos pins s σ H _ I hq) fun us s1 ⟨xs,H1,I1,r,z,q⟩=>⟨by rw [← r.length];exact z,?_⟩)
  have hf:H1 s1.heap.objs.size=none:=I1.hok.fresh (Nat.le_refl _)
  refine⟨.ref s1.heap.objs.size,upd H1 s1.heap.objs.size (.tup xs),I1.laid (t':=s1.toks) (fun b u e=>Heap.get?_push_of_some _ e) (Nat.le_refl _) ?_,rfl,q _ hf⟩
  exact⟨z,us,r,⟨_,Heap.get?_push_size _ rfl,rfl,_,rfl⟩⟩
theorem a'T (h:PA X es t):PE X (.List es pos) (tLst t):=by
  intro pins s σ H Q I hq
  refine wpAny_List_spliced (thn (h pos pins s σ H _ I hq) fun us s1 ⟨xs,H1,I1,r,z,q⟩=>⟨by rw [← r.length];exact z,?_⟩)
  have hf:H1 s1.heap.objs.size=none:=I1.hok.fresh (Nat.le_refl _)
  refine⟨.ref s1.heap.objs.size,upd H1 s1.heap.objs.size (.lst xs),I1.laid (t':=s1.toks) (fun b u e=>Heap.get?_push_of_some _ e) (Nat.le_refl _) ?_,rfl,q _ hf⟩
  exact⟨z,us,0,r,Heap.get?_push_size _ rfl⟩
end
abbrev Sp:=List V→Hp→VK→XK→Prop
abbrev CXT:=List Env→Hp→Shared→XK→Value→Shared→Prop
structure Env0 (P:Program) (w:World) (K:PySem.W.Frag) (mg:Str→Option Value) (base:Heap) (A:Around) (outer:List Env) (s:Shared) (H:Hp):Prop where
  frames:A.frames=some outer
  mod:Mod K mg base
  bs:∀ b o,base.get? b=some o→s.heap.get? b=some o∧H b=none
  bsz:base.objs.size≤s.heap.objs.size
  funs:s.heap.FunFrames base outer
  frf:∀ b∈frs outer,H b=none
  hok:HOk P w H s.heap
  bare:AllBare s.gens
def CE (outer:List Env) (P:Program) (w:World) (H:Hp) (s:Shared) (Q:VK) (u:Value) (s':Shared):Prop:=
  ∃ v H',s'.os=s.os∧AllBare s'.gens∧Un (frs outer) [] H H' s.heap s'.heap∧HOk P w H' s'.heap∧RelV v u∧Q v H'
def CR (CX:CXT) (outer:List Env) (P:Program) (w:World) (H:Hp) (s:Shared) (Q:VK) (E:XK) (r:Result) (s':Shared):Prop:=
  match r with
  | .ok (.ret u) => CE outer P w H s Q u s'
  | .ok _ => False
  | .error e => CX outer H s E e s'
structure FnOk (P:Program) (w:World) (K:PySem.W.Frag) (mg:Str→Option Value) (base:Heap) (CX:CXT) (k:Nat) (f:Addr) (fd:FuncData) (ps:List Str) (sp:Sp):Prop where
  len:∀ vs H Q E,sp vs H Q E→vs.length=ps.length
  run:∀ (A:Around) (outer:List Env) (s:Shared) (H:Hp) (args:Args) (us:List Value) (vs:List V) (Q:VK) (E:XK),Room k A→Env0 P w K mg base A outer s H→BindsTo s fd args (ps.zip us)→Vals vs us→sp vs H Q E→
    codeAny (model P w) A (.call (.ref f) args) (CR CX outer P w H s Q E) s
theorem FnOk.mono {P:Program} {w:World} {K:PySem.W.Frag} {mg:Str→Option Value} {base:Heap} {CX:CXT} {j k:Nat} {f:Addr} {fd:FuncData} {ps:List Str} {sp:Sp} (F:FnOk P w K mg base CX j f fd ps sp) (h:j≤k) :
    FnOk P w K mg base CX k f fd ps sp:=⟨F.len,fun A outer s H args us vs Q E hr=>F.run A outer s H args us vs Q E (hr.mono h)⟩
theorem Env0.make {P:Program} {w:World} {K:PySem.W.Frag} {mg:Str→Option Value} {base:Heap} {A:Around} {outer:List Env} {s:Shared} {H:Hp} (e:Env0 P w K mg base A outer s H) (C:Addr) (us:List Value) (kw:List (Str×Value)) :
    Env0 P w K mg base (A.under (.builtin "type.__call__" ⟨.ref C :: us,kw⟩)) outer s H:=⟨by first | exact e.frames | (simpa [Around.under,Code.envs,Code.isFrame,pushEnvs] using e.frames),e.mod,e.bs,e.bsz,e.funs,e.frf,e.hok,e.bare⟩
section
variable {X:Cx} {pins:List (Addr×Obj)} {σ:St} {H:Hp} {s s':Shared}
theorem Inv.env0 (I:Inv X pins σ H s):Env0 X.prog X.w X.K X.mg X.base X.A X.stack s H:=
  ⟨I.ok.frames,I.ok.mod,I.bs,Nat.le_trans I.ok.bsz I.sz,I.stack,I.stkFree,I.hok,I.bare⟩
theorem Inv.after {Q:VK} {u:Value} (I:Inv X pins σ H s) (h:CE X.stack X.prog X.w H s Q u s'):EP X pins σ Q u s':=by
  obtain⟨v,H',os,bare,un,hok,r,q⟩:=h
  obtain⟨hh,g,d,t,os'⟩:=s'
  obtain rfl:os'=s.os:=os
  exact⟨v,H',I.call (h':=hh) (g':=g) (d':=d) (t':=t) (ch:=[]) un hok bare (fun b z=>absurd z (by simp)),r,q⟩
end
def tCall (sp:Sp) (dvs:List V) (E:XK) (t:TA):TE:=fun σ H Q=>t σ H fun vs H1=>sp (vs++dvs) H1 Q E
def tMake (C:Addr) (sp:Sp) (dvs:List V) (E:XK) (t:TA):TE:=fun σ H Q=>t σ H fun vs H1=>∀ x dx,H1 x=none→H1 dx=none→dx≠x→
  sp (.ref x :: (vs++dvs)) (upd (upd H1 dx (.own x)) x (.ins C dx [])) (fun v H2=>v=.non∧Q (.ref x) H2) E
def Binds (K:PySem.W.Frag) (fd:FuncData) (ps:List Str) (ds:List Value):Prop:=
  ∀ (s:Shared) (us:List Value),K.In s.heap→(us++ds).length=ps.length→BindsTo s fd ⟨us,[]⟩ (ps.zip (us++ds))
theorem Binds.all {K:PySem.W.Frag} {fd:FuncData} {ps:List Str} (h:∀ us:List Value,us.length=ps.length→bindArgs fd ⟨us,[]⟩=pure (ps.zip us)):Binds K fd ps []:=fun s us _ hl=>by
  rw [List.append_nil] at hl ⊢
  exact .of_eq (h us hl)
def Passes (CX:CXT) (X:Cx) (E:XK):Prop:=∀ (pins:List (Addr×Obj)) (σ:St) (H:Hp) (s:Shared) (e:Value) (s':Shared),Inv X pins σ H s→CX X.stack H s E e s'→X.xe e s'
section
variable {X:Cx} {CX:CXT} {k:Nat} {f C:Addr} {fd:FuncData} {ps:List Str} {sp:Sp} {dvs:List V} {ds:List Value} {E:XK} {x m:Str} {p pos apos:Pos} {e o:Expr} {es:List Expr} {ta:TE} {t:TA}
theorem h'z {pins:List (Addr×Obj)} {σ:St} {H:Hp} {s:Shared} {Q:VK} {us:List Value} {vs:List V} (F:FnOk X.prog X.w X.K X.mg X.base CX k f fd ps sp) (hr:Room k X.A) (hb:Binds X.K fd ps ds) (hd:Vals dvs ds) (hx:Passes CX X E)
    (I:Inv X pins σ H s) (r:Vals vs us) (h:sp (vs++dvs) H Q E):wpAny (model X.prog X.w) X.A (call (.ref f) us) (EP X pins σ Q) X.xe s:=by
  have r2:Vals (vs++dvs) (us++ds):=r.append hd
  have hl:(us++ds).length=ps.length:=by rw [← r2.length];exact F.len _ _ _ _ h
  refine wpAny_call (codeAny_mono (F.run X.A X.stack s H ⟨us,[]⟩ (us++ds) (vs++dvs) Q E hr I.env0 (hb s us I.kIn hl) r2 h) fun r s' hq=>?_)
  cases r with
  | error e => exact hx pins σ H s e s' I hq
  | ok fl =>
    cases fl with
    | ret u=>exact I.after hq
    | next=>exact False.elim hq
    | brk=>exact False.elim hq
    | cont=>exact False.elim hq
theorem a'l (F:FnOk X.prog X.w X.K X.mg X.base CX k f fd ps sp) (hr:Room k X.A) (hg:Gl X x) (hm:X.mg x=some (.ref f)) (hk:PySem.W.keepIn X.K (.ref f)=true) (hb:Binds X.K fd ps ds) (hd:Vals dvs ds) (hx:Passes CX X E)
    (ha:PA X (e :: es) t) (hdb:(x == ("__debug__":Str))=false:=by decide) (he:starEach (e :: es) X.env=(false,eval e X.env) :: starEach es X.env:=by rfl) (hpl:(backTo pos (starEach es X.env)).any (·.1)=false:=by rfl) :
    PE X (.Call (.Name x p) (e :: es) [] pos) (tCall sp dvs E t):=by
  intro pins s σ H Q I h
  refine wpAny_Call_Name_kw (e'w I hg hm ?_ hdb)
  refine PySem.W.callWith_K (h₀:=X.base) I.ok.mod.kin hk (thn (ha pos pins s σ H _ I h) fun us s1 ⟨vs,H1,I1,r,q⟩=>⟨I1.kIn,?_⟩) he hpl
  exact h'z F hr hb hd hx I1 r q
structure Mk (K:PySem.W.Frag) (C f:Addr):Prop where
  makes:PySem.W.makesIn K C=true
  init:PySem.W.findIn K (.ref C) "__init__"=some (some (.ref f))
  fn:PySem.W.isFn K (.ref f)=true
  kp:PySem.W.keepIn K (.ref C)=true
theorem l'h {pins:List (Addr×Obj)} {σ:St} {H:Hp} {s:Shared} {Q:VK} {us:List Value} {vs:List V} (M:Mk X.K C f) (F:FnOk X.prog X.w X.K X.mg X.base CX k f fd ps sp) (hr:Room (k+1) X.A) (hb:Binds X.K fd ps ds) (hd:Vals dvs ds)
    (hx:Passes CX X E) (I:Inv X pins σ H s) (r:Vals vs us)
    (h:∀ x dx,H x=none→H dx=none→dx≠x→sp (.ref x :: (vs++dvs)) (upd (upd H dx (.own x)) x (.ins C dx [])) (fun v H2=>v=.non∧Q (.ref x) H2) E) :
    wpAny (model X.prog X.w) X.A (call (.ref C) us) (EP X pins σ Q) X.xe s:=by
  have hq:=h (s.heap.objs.size+1) s.heap.objs.size (I.hok.fresh (Nat.le_succ _)) (I.hok.fresh (Nat.le_refl _)) (Nat.ne_of_lt (Nat.lt_succ_self _))
  have I2:=Inv.made (C:=C) I
  have r2:Vals (V.ref (s.heap.objs.size+1) :: (vs++dvs)) (Value.ref (s.heap.objs.size+1) :: (us++ds)):=.cons rfl (r.append hd)
  have hl:(Value.ref (s.heap.objs.size+1) :: us++ds).length=ps.length:=by
    have e:=r2.length
    rw [F.len _ _ _ _ hq] at e
    exact e.symm
  refine wpAny_call (l'g (f:=f) I.kIn M.makes M.init (beq_iff_eq.mp M.fn) (codeAny_mono (F.run _ X.stack _ _ ⟨Value.ref (s.heap.objs.size+1) :: us,[]⟩ (Value.ref (s.heap.objs.size+1) :: (us++ds)) _ _ E (hr.make C us [])
    (I2.env0.make C us []) (hb _ (Value.ref (s.heap.objs.size+1) :: us) I2.kIn hl) r2 hq) fun r s' hq'=>?_))
  cases r with
  | error e => exact hx pins σ _ _ e s' I2 hq'
  | ok fl =>
    cases fl with
    | ret u=>
      obtain⟨v,H',I3,rv,ev,q3⟩:=I2.after hq'
      subst ev
      exact⟨rv,⟨V.ref (s.heap.objs.size+1),H',I3,rfl,q3⟩⟩
    | next=>exact False.elim hq'
    | brk=>exact False.elim hq'
    | cont=>exact False.elim hq'
theorem b'v (M:Mk X.K C f) (F:FnOk X.prog X.w X.K X.mg X.base CX k f fd ps sp) (hr:Room (k+1) X.A) (hg:Gl X x) (hm:X.mg x=some (.ref C)) (hb:Binds X.K fd ps ds) (hd:Vals dvs ds) (hx:Passes CX X E)
    (ha:PA X (e :: es) t) (hdb:(x == ("__debug__":Str))=false:=by decide) (he:starEach (e :: es) X.env=(false,eval e X.env) :: starEach es X.env:=by rfl) (hpl:(backTo pos (starEach es X.env)).any (·.1)=false:=by rfl) :
    PE X (.Call (.Name x p) (e :: es) [] pos) (tMake C sp dvs E t):=by
  intro pins s σ H Q I h
  refine wpAny_Call_Name_kw (e'w I hg hm ?_ hdb)
  refine PySem.W.callWith_K (h₀:=X.base) I.ok.mod.kin M.kp (thn (ha pos pins s σ H _ I h) fun us s1 ⟨vs,H1,I1,r,q⟩=>⟨I1.kIn,?_⟩) he hpl
  exact l'h M F hr hb hd hx I1 r q
end
section
variable {X:Cx} {CX:CXT} {k:Nat} {f C:Addr} {fd:FuncData} {ps ks:List Str} {sp:Sp} {E:XK} {x m:Str} {p pos apos kpos:Pos} {e o:Expr} {es:List Expr} {kws:List Keyword} {te ta:TE} {t tk:TA} {nm:Option Str}
structure KBinds (K:PySem.W.Frag) (fd:FuncData) (ps ks:List Str) (g:List Value→List Value→List Value) (gV:List V→List V→List V):Prop where
  to:∀ (s:Shared) (us ws:List Value),K.In s.heap→(g us ws).length=ps.length→BindsTo s fd ⟨us,ks.zip ws⟩ (ps.zip (g us ws))
  rel:∀ {vs:List V} {us:List Value} {zs:List V} {ws:List Value},Vals vs us→Vals zs ws→Vals (gV vs zs) (g us ws)
variable {g:List Value→List Value→List Value} {gV:List V→List V→List V}
end
structure FnScope (N P:List Str) (sc:Scope):Prop where
  kind:sc.kind=.function
  co:sc.isCoroutine=false
  gen:sc.isGenerator=false
  nd:N.Nodup
  pre:N.take P.length=P
  par:∀ x∈P,sc.names.lookup x=some .local∨sc.names.lookup x=some .cell
  nofree:∀ y∈sc.names,y.2≠.free
theorem g'G {kindOf:Str→Option NameKind} {x:Str}:∀ {binds:List (Str×Value)} {m:Str→Option Value},(∀ v,(x,v) ∉ binds)→bindL kindOf binds m x=m x
  | [], _, _ => rfl
  | (n, v) :: r, m, h => by
    unfold bindL
    rw [g'G fun w hw=>h w (List.mem_cons_of_mem _ hw)]
    split
    · have:x≠n:=by rintro rfl;exact h v List.mem_cons_self
      simp [this]
    · rfl
theorem g'H {kindOf:Str→Option NameKind} {x:Str}:∀ {binds:List (Str×Value)} {m:Str→Option Value},(∀ v,(x,v) ∉ binds)→bindC kindOf binds m x=m x
  | [], _, _ => rfl
  | (n, v) :: r, m, h => by
    unfold bindC
    rw [g'H fun w hw=>h w (List.mem_cons_of_mem _ hw)]
    split
    · rfl
    · have:x≠n:=by rintro rfl;exact h v List.mem_cons_self
      simp [this]
theorem g'I {kindOf:Str→Option NameKind} {x:Str} {v:Value}:∀ {P:List Str} {vs:List Value} {i:Nat} {m:Str→Option Value},P.Nodup→P[i]?=some x→vs[i]?=some v→kindOf x=some .local→
    bindL kindOf (P.zip vs) m x=some v
  | [], _, _, _, _, h, _, _ => by simp at h
  | _ :: _, [], _, _, _, _, h, _ => by simp at h
  | p :: P, w :: vs, 0, m, nd, h1, h2, hk => by
    simp at h1 h2;subst h1;subst h2
    show bindL kindOf ((p,w) :: P.zip vs) m p=_
    unfold bindL
    rw [g'G fun v hv=>(List.nodup_cons.mp nd).1 (List.of_mem_zip hv).1,if_pos hk]
    simp
  | p :: P, w :: vs, i + 1, m, nd, h1, h2, hk => by
    show bindL kindOf ((p,w) :: P.zip vs) m x=_
    unfold bindL
    exact g'I (i:=i) (List.nodup_cons.mp nd).2 (by simpa using h1) (by simpa using h2) hk
theorem g'J {kindOf:Str→Option NameKind} {x:Str} {v:Value}:∀ {P:List Str} {vs:List Value} {i:Nat} {m:Str→Option Value},P.Nodup→P[i]?=some x→vs[i]?=some v→kindOf x≠some .local→
    bindC kindOf (P.zip vs) m x=some v
  | [], _, _, _, _, h, _, _ => by simp at h
  | _ :: _, [], _, _, _, _, h, _ => by simp at h
  | p :: P, w :: vs, 0, m, nd, h1, h2, hk => by
    simp at h1 h2;subst h1;subst h2
    show bindC kindOf ((p,w) :: P.zip vs) m p=_
    unfold bindC
    rw [g'H fun v hv=>(List.nodup_cons.mp nd).1 (List.of_mem_zip hv).1,if_neg hk]
    simp
  | p :: P, w :: vs, i + 1, m, nd, h1, h2, hk => by
    show bindC kindOf ((p,w) :: P.zip vs) m x=_
    unfold bindC
    exact g'J (i:=i) (List.nodup_cons.mp nd).2 (by simpa using h1) (by simpa using h2) hk
def start (N:List Str) (vs:List V):St:=vs.map some++List.replicate (N.length - vs.length) none
def cxOf (CX:CXT) (P:Program) (w:World) (K:PySem.W.Frag) (mg:Str→Option Value) (base:Heap) (N:List Str) (qual:Str) (scope:Scope) (f:Addr) (cd:Value) (A:Around) (outer:List Env) (s:Shared) (H:Hp) (E:XK):Cx where
  prog:=P
  w:=w
  K:=K
  mg:=mg
  base:=base
  A:=A.deeper (envOfC qual scope s.heap.objs.size f cd)
  N:=N
  s₀:=s
  H₀:=H
  env:=envOfC qual scope s.heap.objs.size f cd
  outer:=outer
  stack:=envOfC qual scope s.heap.objs.size f cd :: outer
  ex:=[]
  calm:=true
  fn:=fun _=>true
  pn:=[]
  xe:=fun e s'=>wpAny (model P w) (A.deeper (envOfC qual scope s.heap.objs.size f cd)) (leaving (envOfC qual scope s.heap.objs.size f cd) e) (fun _ s''=>CX outer H s E e s'') (fun e' s''=>CX outer H s E e' s'') s'
theorem h'A {sc:Scope} {n:Nat} {x:Str} (h:sc.names.lookup x=some .cell):∃ c,(cellsFrom n sc.names []).lookup x=some c:=by
  have q:=PySem.W.cellsFrom_some sc.names n [] (.inl h)
  exact Option.isSome_iff_exists.mp q
theorem j'W {CX:CXT} {P:Program} {w:World} {K:PySem.W.Frag} {mg:Str→Option Value} {base:Heap} {N ps:List Str} {qual:Str} {scope:Scope} {f:Addr} {cd:Value} {A:Around} {outer:List Env} {s s1:Shared} {H:Hp} {E:XK} {us:List Value} {vs:List V}
    (S:FnScope N ps scope) (hd:A.handled=none) (e0:Env0 P w K mg base A outer s H) (hl:vs.length=ps.length) (r:Vals vs us)
    (x:InCallC s s.heap.objs.size (bindL (envOfC qual scope s.heap.objs.size f cd).kindOf (ps.zip us) fun _=>none) (cellsFrom (s.heap.objs.size+1) scope.names []) (bindC (envOfC qual scope s.heap.objs.size f cd).kindOf (ps.zip us) fun _=>none) s1) :
    Inv (cxOf CX P w K mg base N qual scope f cd A outer s H E) [] (start N vs) H s1:=by
  have hpl:ps.length≤N.length:=by have:=congrArg List.length S.pre;rw [List.length_take] at this;omega
  obtain⟨h1,tk,rfl,hk⟩:=x.done
  have noA:∀ b:Addr,b ∉ (cxOf CX P w K mg base N qual scope f cd A outer s H E).ex:=fun b z=>absurd (show b∈([]:List Addr) from z) (by simp)
  refine⟨⟨e0.mod,S.kind,rfl,rfl,Nat.le_refl _,fun y z c h1 h2=>?_,fun y hy=>?_,fun y c _ h=>?_,fun _=>hd,Around.frames_deeper e0.frames,.inr ⟨rfl,rfl⟩,fun b z=>absurd z (noA b),e0.bs,e0.bsz,fun b _ _=>noA b,fun b z=>absurd z (noA b),e0.funs,e0.frf⟩,
    rfl,e0.bare,Un.kept hk,⟨_,x.toInCall.ns,fun i y v h1 h2 h3=>?_⟩,fun y c h=>⟨_,x.cell y c h⟩,e0.hok.fresh (Nat.le_refl _),fun y c h=>?_,fun p hp=>absurd (show p∈([]:List (Addr×Obj)) from hp) (by simp),e0.hok.kept hk,?_⟩
  · exact name_of_addr x.apart (PySem.mem_of_lookup h1) (PySem.mem_of_lookup h2)
  · have hy:scope.names.lookup y=some .cell∨scope.names.lookup y=some .free:=hy
    rcases hy with hy | hy
    · exact h'A hy
    · exact absurd rfl (S.nofree _ (PySem.mem_of_lookup hy))
  · exact Nat.le_of_lt (x.above y c (PySem.mem_of_lookup h))
  · have hi:i<vs.length:=by
      unfold start at h2
      by_cases hi:i<vs.length
      · exact hi
      · rw [List.getElem?_append_right (by simpa using hi)] at h2
        rw [List.getElem?_replicate] at h2
        split at h2<;>cases h2
    have ha:vs[i]?=some v:=by
      unfold start at h2
      rw [List.getElem?_append_left (by simpa using hi),List.getElem?_map] at h2
      cases e:vs[i]? with
      | none=>rw [e] at h2;cases h2
      | some a=>rw [e] at h2;cases h2;rfl
    obtain⟨u,hu,rv⟩:=r.get ha
    have hp:ps[i]?=some y:=by
      rw [← S.pre,List.getElem?_take_of_lt (by omega)];exact h1
    have ndP:ps.Nodup:=by rw [← S.pre];exact S.nd.sublist (List.take_sublist _ _)
    refine⟨u,rv,?_⟩
    rcases S.par y (List.mem_of_getElem? hp) with k | k
    · exact .inl ⟨k,g'I ndP hp hu k⟩
    · obtain⟨c,e⟩:=h'A (n:=s.heap.objs.size+1) k
      refine .inr ⟨.inl k,c,e,?_⟩
      have q:=x.cell y c e
      rw [g'J ndP hp hu (by show scope.names.lookup y≠_;rw [k];decide)] at q
      exact q
  · exact e0.hok.fresh (Nat.le_of_lt (x.above y c (PySem.mem_of_lookup h)))
  · unfold start
    show _=N.length
    rw [List.length_append,List.length_map,List.length_replicate]
    omega
theorem l'S {CX:CXT} {P:Program} {w:World} {K:PySem.W.Frag} {mg:Str→Option Value} {base:Heap} {k:Nat} {f:Addr} {name qual:Str} {params:Arguments} {body:List Stmt} {scope:Scope} {dV kV doc pm cdv ct oc:Value} {an od:Option Addr}
    {osl:Array (Option Value)} {N ps:List Str} {sp:Sp} (lk:K.lookup f=some ⟨oc,od,.func (PySem.W.fnOf name qual params body scope dV kV doc pm an cdv ct),osl⟩) (hcd:PySem.W.codeIn K cdv qual=true) (S:FnScope N ps scope)
    (len:∀ vs H Q E,sp vs H Q E→vs.length=ps.length)
    (hbody:∀ (A:Around) (outer:List Env) (s:Shared) (H:Hp) (vs:List V) (Q:VK) (E:XK),Room k (A.deeper (envOfC qual scope s.heap.objs.size f cdv))→sp vs H Q E→
      ∃ t,PSs (cxOf CX P w K mg base N qual scope f cdv A outer s H E) body t∧t { nx:=fun _ H'=>Q .non H',rt:=Q } (start N vs) H) :
    FnOk P w K mg base CX (k+1) f (PySem.W.fnOf name qual params body scope dV kV doc pm an cdv ct) ps sp:=by
  refine⟨len,fun A outer s H args us vs Q E hr e0 hb r hsp=>?_⟩
  have hl:=len _ _ _ _ hsp
  have KX:K.In s.heap:=e0.mod.kin.keeps fun b o e=>(e0.bs b o e).1
  have lim:s.heap.NoLimit:=e0.mod.nolimit.keeps fun b o e=>(e0.bs b o e).1
  have hkind:∀ y∈ps.zip us,scope.names.lookup y.1=some .local∨(scope.names.lookup y.1=some .cell∧((cellsFrom (s.heap.objs.size+1) scope.names []).lookup y.1).isSome=true):=fun ⟨n,v⟩ hy=>by
    rcases S.par n (List.of_mem_zip hy).1 with q | q
    · exact .inl q
    · exact .inr ⟨q,PySem.W.cellsFrom_some _ _ _ (.inl q)⟩
  refine codeAny_call_function hr.depth (KX _ _ lk) rfl S.co S.gen rfl (PySem.W.codeRec_of KX hcd) (hb _ _ _ _ ?_)
  refine wpAny_newFunctionEnv_cells S.kind hkind fun env he s1 x=>?_
  subst he
  refine⟨lim.keeps x.toInCall.keep,codeAny_func ?_⟩
  obtain⟨t,ht,hq⟩:=hbody A outer s H vs Q E (hr.deeper _) hsp
  have I:Inv (cxOf CX P w K mg base N qual scope f cdv A outer s H E) [] (start N vs) H s1:=j'W S hr.hd e0 hl r x
  refine wpAny_mono (ht [] s1 (start N vs) H _ I hq) (fun fl s' hs=>?_) fun e s' hs=>hs
  have fin:∀ {σ':St} {H':Hp} {v:V} {u:Value},Inv (cxOf CX P w K mg base N qual scope f cdv A outer s H E) [] σ' H' s'→RelV v u→Q v H'→CE outer P w H s Q u s':=
    fun {σ' H' v u} J rv q=>⟨v,H',J.os,J.bare,J.base,J.hok,rv,q⟩
  cases fl with
  | ret u =>
    obtain⟨v,σ',H',J,rv,q⟩:=hs
    exact fin J rv q
  | next =>
    obtain⟨σ',H',J,q⟩:=hs
    exact fin (v:=V.non) (u:=Value.none) J rfl q
  | brk =>
    obtain⟨_,_,_,q⟩:=hs
    exact False.elim q
  | cont =>
    obtain⟨_,_,_,q⟩:=hs
    exact False.elim q
end L2
namespace L2
open PySem PySem.Spec PyProof.Rows
section
variable {X:Cx} {x:Str} {p pos:Pos} {e:Expr} {es:List Expr} {t:TA} {id T:String} {r:List V→Hp→VK→Prop}
def tCB (r:List V→Hp→VK→Prop) (t:TA):TE:=fun σ H Q=>t σ H fun vs H1=>r vs H1 Q
theorem a'F (hc:CallR X (.builtin id) r) (hg:Gl X x) (hm:X.mg x=none) (hv:bootBuiltins x=some (.builtin id)) (ha:PA X (e :: es) t) (hn:x≠"__name__":=by decide) (hdb:(x == ("__debug__":Str))=false:=by decide)
    (he:starEach (e :: es) X.env=(false,eval e X.env) :: starEach es X.env:=by rfl) (hpl:(backTo pos (starEach es X.env)).any (·.1)=false:=by rfl):PE X (.Call (.Name x p) (e :: es) [] pos) (tCB r t):=by
  intro pins s σ H Q I h
  refine wpAny_Call_Name_kw (f'y I hg hm hv ?_ hn hdb)
  exact PyProof.Rows.callWith_builtin1 (thn (ha pos pins s σ H _ I h) fun us s1 ⟨vs,H1,I1,r1,q1⟩=>hc pins s1 σ H1 vs us Q I1 r1 q1) he hpl
theorem c'A (hc:CallR X (.type T) r) (hg:Gl X x) (hm:X.mg x=none) (hv:bootBuiltins x=some (.type T)) (ha:PA X (e :: es) t) (hn:x≠"__name__":=by decide) (hdb:(x == ("__debug__":Str))=false:=by decide)
    (he:starEach (e :: es) X.env=(false,eval e X.env) :: starEach es X.env:=by rfl) (hpl:(backTo pos (starEach es X.env)).any (·.1)=false:=by rfl):PE X (.Call (.Name x p) (e :: es) [] pos) (tCB r t):=by
  intro pins s σ H Q I h
  refine wpAny_Call_Name_kw (f'y I hg hm hv ?_ hn hdb)
  exact PyProof.Rows.callWith_type1 (thn (ha pos pins s σ H _ I h) fun us s1 ⟨vs,H1,I1,r1,q1⟩=>hc pins s1 σ H1 vs us Q I1 r1 q1) he hpl
end
end L2
namespace L2
open PySem PySem.Spec PyProof.Rows
section
variable {κ:Type} [DecidableEq κ]
def valV (kvs:List (κ×V)) (k:κ):Option V:=(kvs.find? fun kv=>decide (kv.1=k)).map (·.2)
def putK (kvs:List (κ×V)) (k:κ) (v:V):List (κ×V):=
  if (kvs.any fun kv=>decide (kv.1=k))=true then kvs.map (fun kv=>if kv.1=k then (kv.1,v) else kv) else kvs++[(k,v)]
theorem d'L {p:κ×V} {r:List (κ×V)} {k:κ} (e:p.1=k):valV (p :: r) k=some p.2:=by simp [valV,List.find?_cons,e]
theorem d'M {p:κ×V} {r:List (κ×V)} {k:κ} (e:¬ p.1=k):valV (p :: r) k=valV r k:=by simp [valV,List.find?_cons,e]
theorem f'f (k:κ):∀ kvs:List (κ×V),(kvs.any fun kv=>decide (kv.1=k))=(valV kvs k).isSome
  | [] => rfl
  | p :: r => by
    rw [List.any_cons]
    by_cases e:p.1=k
    · simp only [d'L e,decide_eq_true e,Bool.true_or,Option.isSome_some]
    · rw [d'M e,decide_eq_false e,Bool.false_or];exact f'f k r
theorem e'Z (kvs:List (κ×V)) (k:κ) (v:V):(putK kvs k v).length≤kvs.length+1:=by
  unfold putK
  split
  · rw [List.length_map];omega
  · rw [List.length_append,List.length_cons,List.length_nil];omega
theorem RelO.isSome_eq {o:Option V} {u:Option Value} (r:RelO o u):o.isSome=u.isSome:=by
  cases o with
  | none => cases u with
    | none=>rfl
    | some _=>exact (show False from r).elim
  | some _ => cases u with
    | none=>exact (show False from r).elim
    | some _=>rfl
theorem RelO.getD {o:Option V} {u:Option Value} {d:V} {d':Value} (r:RelO o u) (rd:RelV d d'):RelV (o.getD d) (u.getD d'):=by
  cases o with
  | none => cases u with
    | none=>exact rd
    | some _=>exact (show False from r).elim
  | some _ => cases u with
    | none=>exact (show False from r).elim
    | some _=>exact r
theorem KV.val {kvs:List (κ×V)} {vs:List (κ×Value)} (r:KV kvs vs) (k:κ):RelO (valV kvs k) (valueAt vs k):=by
  unfold KV at r
  induction r with
  | nil => exact True.intro
  | @cons p q ps qs h t ih =>
    obtain⟨h1,h2⟩:=h
    by_cases e:p.1=k
    · have e':q.1=k:=h1.symm.trans e
      have b:valueAt (q :: qs) k=some q.2:=by simp [valueAt,List.find?_cons,e']
      rw [d'L e,b];exact h2
    · have e':¬ q.1=k:=fun z=>e (h1.trans z)
      have b:valueAt (q :: qs) k=valueAt qs k:=by simp [valueAt,List.find?_cons,e']
      rw [d'M e,b];exact ih
theorem KV.any {kvs:List (κ×V)} {vs:List (κ×Value)} (r:KV kvs vs) (k:κ):(kvs.any fun kv=>decide (kv.1=k))=vs.any fun kv=>decide (kv.1=k):=by
  unfold KV at r
  induction r with
  | nil => rfl
  | cons h t ih => rw [List.any_cons, List.any_cons, ih, h.1]
theorem KV.repl {kvs:List (κ×V)} {vs:List (κ×Value)} (r:KV kvs vs) (k:κ) {y:V} {u:Value} (ry:RelV y u) :
    KV (kvs.map fun kv=>if kv.1=k then (kv.1,y) else kv) (vs.map fun kv=>if kv.1=k then (kv.1,u) else kv):=by
  unfold KV at r ⊢
  induction r with
  | nil => exact .nil
  | @cons p q ps qs h t ih =>
    rw [List.map_cons,List.map_cons]
    refine .cons ?_ ih
    obtain⟨h1,h2⟩:=h
    by_cases e:p.1=k
    · rw [if_pos e,if_pos (h1.symm.trans e)];exact⟨h1,ry⟩
    · rw [if_neg e,if_neg (fun z=>e (h1.trans z))];exact⟨h1,h2⟩
theorem KV.put {kvs:List (κ×V)} {vs:List (κ×Value)} (r:KV kvs vs) (k:κ) {y:V} {u:Value} (ry:RelV y u):KV (putK kvs k y) (stored vs k u):=by
  unfold putK stored
  rw [r.any k]
  by_cases e:(vs.any fun kv=>decide (kv.1=k))=true
  · rw [if_pos e,if_pos e];exact r.repl k ry
  · rw [if_neg e,if_neg e];exact Paired.snoc r ⟨rfl,ry⟩
theorem KV.length {kvs:List (κ×V)} {vs:List (κ×Value)} (r:KV kvs vs):kvs.length=vs.length:=Paired.length r
end
theorem e'z {P:Program} {w:World} {k:Key} {u:Value} (r:RelV (kV k) u):(mixKind P w).is k u=true:=by
  cases k with
  | inl i => obtain ⟨t, e⟩ := (show ∃ t, u = Value.int i t from r); subst e; exact i'q P w i t
  | inr x => obtain ⟨t, e⟩ := (show ∃ t, u = Value.str x t from r); subst e; exact d'k P w x t
theorem g'K {P:Program} {w:World}:∀ {ks:List Key} {us:List Value},Vals (ks.map kV) us→ItemsAre (mixKind P w) ks us
  | [], _, r => by rw [List.map_nil] at r; cases r; exact .nil
  | k :: ks, _, r => by
    rw [List.map_cons] at r
    cases r with
    | cons h t=>exact .cons (e'z h) (g'K t)
abbrev KT (H:Hp):List (List Key×V)→List (List Key×Addr×Value)→Prop:=Paired fun p q=>p.1=q.1∧H q.2.1=some (.tup (p.1.map kV))∧RelV p.2 q.2.2
theorem KT.val {H:Hp} {kvs:List (List Key×V)} {xs:List (List Key×Addr×Value)} (r:KT H kvs xs) (k:List Key):RelO (valV kvs k) ((atKey xs k).map (·.2)):=by
  induction r with
  | nil => exact True.intro
  | @cons p q ps qs h t ih =>
    obtain⟨h1,_,h2⟩:=h
    by_cases e:p.1=k
    · have e':q.1=k:=h1.symm.trans e
      have b:atKey (q :: qs) k=some q.2:=by simp [atKey,List.find?_cons,e']
      rw [d'L e,b];exact h2
    · have e':¬ q.1=k:=fun z=>e (h1.trans z)
      have b:atKey (q :: qs) k=atKey qs k:=by simp [atKey,List.find?_cons,e']
      rw [d'M e,b];exact ih
theorem KT.repl {H:Hp} {kvs:List (List Key×V)} {xs:List (List Key×Addr×Value)} (r:KT H kvs xs) (k:List Key) {y:V} {u:Value} (ry:RelV y u) :
    KT H (kvs.map fun kv=>if kv.1=k then (kv.1,y) else kv) (xs.map (putAt k u)):=by
  induction r with
  | nil => exact .nil
  | @cons p q ps qs h t ih =>
    rw [List.map_cons,List.map_cons]
    refine .cons ?_ ih
    obtain⟨h1,h2,h3⟩:=h
    unfold putAt
    by_cases e:p.1=k
    · rw [if_pos e,if_pos (h1.symm.trans e)];exact⟨h1,h2,ry⟩
    · rw [if_neg e,if_neg (fun z=>e (h1.trans z))];exact⟨h1,h2,h3⟩
theorem KT.put {H:Hp} {kvs:List (List Key×V)} {xs:List (List Key×Addr×Value)} (r:KT H kvs xs) (k:List Key) {b:Addr} {y:V} {u:Value} (hb:H b=some (.tup (k.map kV))) (ry:RelV y u) :
    KT H (putK kvs k y) (storedH xs k b u):=by
  have e:(kvs.any fun kv=>decide (kv.1=k))=(atKey xs k).isSome:=by
    rw [f'f,(r.val k).isSome_eq,Option.isSome_map]
  unfold putK storedH
  rw [e]
  by_cases q:(atKey xs k).isSome=true
  · rw [if_pos q,if_pos q];exact r.repl k ry
  · rw [if_neg q,if_neg q];exact Paired.snoc r ⟨rfl,hb,ry⟩
theorem KT.keeps {H H':Hp} {kvs:List (List Key×V)} {xs:List (List Key×Addr×Value)} (r:KT H kvs xs) (ht:∀ b ys,H b=some (.tup ys)→H' b=some (.tup ys)):KT H' kvs xs:=
  Paired.mapP r fun _ _ z=>⟨z.1,ht _ _ z.2.1,z.2.2⟩
section
variable {P:Program} {w:World} {H:Hp} {h:Heap} {a:Addr}
theorem l'T {u:HO} (ok:HOk P w H h) (e:Rd H a u):ObjOk P w H h a u:=e.ok ok
theorem b'S {kvs:List (Key×V)} (ok:HOk P w H h) (e:Rd H a (.dK kvs)):kvs.length≤sizeLine∧(a == sysModules)=false∧∃ vs,KV kvs vs∧h.DictOf (mixKind P w) a vs:=
  show ObjOk P w H h a (.dK kvs) from l'T ok e
theorem j'o {kvs:List (Key×V)} (ok:HOk P w H h) (e:H a=some (.dK kvs)):kvs.length≤sizeLine∧(a == sysModules)=false∧∃ vs,KV kvs vs∧h.DictOf (mixKind P w) a vs:=b'S ok (.inl e)
theorem f'B {ks:List Key} (ok:HOk P w H h) (e:H a=some (.tup (ks.map kV))):(tupleKind (mixKind P w)).is h ks a:=by
  obtain⟨_,its,r,o,h1,h2,n,h3⟩:=(show ObjOk P w H h a (.tup (ks.map kV)) from ok a _ e)
  exact⟨o,its.toArray,n,h1,h2,h3,by simpa using g'K r⟩
theorem f'C {kvs:List (List Key×V)} (ok:HOk P w H h) (e:Rd H a (.dT kvs)):kvs.length≤sizeLine∧(a == sysModules)=false∧
    ∃ xs,KT H kvs xs∧h.DictOfH (tupleKind (mixKind P w)) a xs:=by
  obtain⟨z,y,xs,r,o,es,ep,h1,h2,h3,h4,h5⟩:=(show ObjOk P w H h a (.dT kvs) from l'T ok e)
  refine⟨z,y,xs,r,o,es,ep,h1,h2,h3,h4,fun x hx=>?_,h5⟩
  have all:∀ {l:List (List Key×V)} {m:List (List Key×Addr×Value)},KT H l m→∀ x∈m,(tupleKind (mixKind P w)).is h x.1 x.2.1:=by
    intro l m q
    induction q with
    | nil=>intro x hx;exact nomatch hx
    | @cons p q ps qs hq t ih=>
      intro x hx
      rcases List.mem_cons.mp hx with e | hx
      · subst e
        exact f'B ok (by rw [← hq.1];exact hq.2.1)
      · exact ih x hx
  exact all r x hx
theorem o'm {kvs:List (List Key×V)} (ok:HOk P w H h) (e:H a=some (.dT kvs)):kvs.length≤sizeLine∧(a == sysModules)=false∧
    ∃ xs,KT H kvs xs∧h.DictOfH (tupleKind (mixKind P w)) a xs:=f'C ok (.inl e)
end
def DGet (H:Hp) (a:Addr) (y:V) (r:Option V):Prop:=
  (∃ kvs k,Rd H a (.dK kvs)∧y=kV k∧r=valV kvs k)∨∃ kvs k b,Rd H a (.dT kvs)∧y=.ref b∧H b=some (.tup (k.map kV))∧r=valV kvs k
def DPut (H:Hp) (a:Addr) (y v:V) (H':Hp):Prop:=
  (∃ kvs k,H a=some (.dK kvs)∧y=kV k∧kvs.length<sizeLine∧H'=upd H a (.dK (putK kvs k v)))∨
  ∃ kvs k b,H a=some (.dT kvs)∧y=.ref b∧H b=some (.tup (k.map kV))∧kvs.length<sizeLine∧H'=upd H a (.dT (putK kvs k v))
theorem DPut.k {H:Hp} {a:Addr} {kvs:List (Key×V)} {k:Key} {v:V} (e:H a=some (.dK kvs)) (hl:kvs.length<sizeLine):DPut H a (kV k) v (upd H a (.dK (putK kvs k v))):=.inl ⟨kvs,k,e,rfl,hl,rfl⟩
section
variable {X:Cx} {pins:List (Addr×Obj)} {σ:St} {H:Hp} {s:Shared} {a:Addr} {y v:V} {u r:Value} {o:Option V} {A:Around} {E:Value→Shared→Prop}
theorem Inv.big (I:Inv X pins σ H s):sysModules<s.heap.objs.size:=by
  have h:mainGlobals<s.heap.objs.size:=(I.mod.glob.keeps I.bk).lt
  exact Nat.lt_trans (by decide) h
theorem j'X {Q:Value→Shared→Prop} (hu:A.units+1<cLine) (I:Inv X pins σ H s) (g:DGet H a y (some v)) (ry:RelV y u) (h:∀ w' s',Inv X pins σ H s'→RelV v w'→Q w' s') :
    wpAny (model X.prog X.w) A (getItem (.ref a) u) Q E s:=by
  rcases g with ⟨kvs,k,e,ey,l⟩ | ⟨kvs,k,b,e,ey,eb,l⟩
  · subst ey
    obtain⟨z,hd,vs,rel,dd⟩:=b'S I.hok e
    obtain⟨w',hw,rw'⟩:=RelO.some_of (v:=v) (o:=valueAt vs k) (by rw [l];exact rel.val k)
    exact wpAny_getItem_of (e'z ry) dd.mapOf hw (h w' _ (I.tok _) rw')
  · subst ey
    cases (show u=Value.ref b from ry)
    obtain⟨z,hd,xs,rel,dd⟩:=f'C I.hok e
    obtain⟨w',hw,rw'⟩:=RelO.some_of (v:=v) (o:=(atKey xs k).map (·.2)) (by rw [l];exact rel.val k)
    obtain⟨p,hp,hp2⟩:=Option.map_eq_some_iff.mp hw
    refine wpAny_getItem_heap (tupleKind_room_in1 hu) (f'B I.hok eb) dd hp ?_
    rw [hp2]
    exact h w' _ (I.tok _) rw'
theorem g'f {h':Heap} {t':Nat} {ob:HO} (I:Inv X pins σ H s) (mu:Mut (H a)) (hs:Heap.SameBut a s.heap h') (he:∃ q,h'.get? a=some q) (new:ObjOk X.prog X.w (upd H a ob) h' a ob) :
    Inv X pins σ (upd H a ob) { s with heap:=h',toks:=t' }:=
  I.write (x:=a) (e:=a) mu (.inl rfl) (fun b q hb z=>(hs.2 b hb).trans z) he new
theorem h'B {P:Program} {w:World} {H':Hp} {h':Heap} {kvs:List (Key×V)} {vs:List (Key×Value)} (z:kvs.length≤sizeLine) (hd:(a == sysModules)=false) (rel:KV kvs vs) (dd:h'.DictOf (mixKind P w) a vs) :
    ObjOk P w H' h' a (.dK kvs):=⟨z,hd,vs,rel,dd⟩
theorem j'Y {H':Hp} {Q:Unit→Shared→Prop} (hu:A.units+1<cLine) (I:Inv X pins σ H s) (g:DPut H a y v H') (ry:RelV y u) (rv:RelV v r) (h:∀ s',Inv X pins σ H' s'→Q () s') :
    wpAny (model X.prog X.w) A (setItem (.ref a) u r) Q E s:=by
  rcases g with ⟨kvs,k,e,ey,l,eH⟩ | ⟨kvs,k,b,e,ey,eb,l,eH⟩
  · subst ey eH
    obtain⟨z,hd,vs,rel,dd⟩:=j'o I.hok e
    have hz:vs.length≤sizeLine:=by rw [← rel.length];exact z
    have hl:(putK kvs k v).length≤sizeLine:=by have:=e'Z kvs k v;omega
    refine wpAny_setItem_pairs (hsz:=hz) (e'z ry) dd fun h' dd' hs=>h _ ?_
    have he:∃ q,h'.get? a=some q:=let ⟨q,_,_,hq,_⟩:=dd';⟨q,hq⟩
    exact g'f I (by rw [e];exact True.intro) hs he (h'B hl hd (rel.put k rv) dd')
  · subst ey eH
    cases (show u=Value.ref b from ry)
    obtain⟨z,hd,xs,rel,dd⟩:=o'm I.hok e
    have hz:xs.length≤sizeLine:=by rw [← Paired.length rel];exact z
    have hl:(putK kvs k v).length≤sizeLine:=by have:=e'Z kvs k v;omega
    refine wpAny_setItem_heap (hsz:=hz) (tupleKind_room_in1 hu) (f'B I.hok eb) dd fun h' dd' hs=>h _ ?_
    obtain⟨q,es,ep,hq,h2,h3,h4,_,h5⟩:=dd'
    refine g'f I (by rw [e];exact True.intro) hs ⟨q,hq⟩ ⟨hl,hd,_,(rel.put k eb rv).keeps fun c ys ec=>?_,q,es,ep,hq,h2,h3,h4,h5⟩
    rw [a't (h'm ec e (fun z=>nomatch z))]
    exact ec
end
section
variable {X:Cx} {pins:List (Addr×Obj)} {σ:St} {H:Hp} {s:Shared} {a:Addr} {kvs:List (Key×V)} {k:Key} {u:Value} {A:Around} {E:Value→Shared→Prop}
theorem m'h {Q:Value→Shared→Prop} (I:Inv X pins σ H s) (e:H a=some (.dK kvs)) (h:∀ s',Inv X pins σ (upd H a (.dK [])) s'→Q .none s'):wpAny (model X.prog X.w) A (call (.builtin "dict.clear") [.ref a]) Q E s:=by
  obtain⟨z,hd,vs,rel,dd⟩:=j'o I.hok e
  refine call_meetsIn PySem.F.slot_dict_clear dd.typeIs PySem.F.entry_dict_clear (PySem.F.args_dict_clear_1 _) (meets_dict_clear (mixKind X.prog X.w) a) ⟨vs,dd,by rw [← rel.length];exact z,fun h' dd' hs=>h _ ?_⟩
  have he:∃ q,h'.get? a=some q:=let ⟨q,_,_,hq,_⟩:=dd';⟨q,hq⟩
  exact g'f (t':=s.toks) I (by rw [e];exact True.intro) hs he (h'B (Nat.zero_le _) hd .nil dd')
end
def NoSl (i:Expr):Prop:=∀ ov iv,subscripted i false ov iv=operate [ov,iv] (getItem ov iv)
theorem i'E {prog:Program} {w:World} {A:Around} {E:Value→Shared→Prop} {s:Shared} {env:Env} {value slice:Expr} {pos:Pos} {T id:String} {Q:Value→Shared→Prop}
    (hl:typeLookup (.type T) "__getitem__"=pure (some (.builtin id))) (hs:NoSl slice)
    (h:wpAny (model prog w) A (eval value env) (fun o s₁=>wpAny (model prog w) A (eval slice env) (fun i s₂=>s₂.TypeIs o T∧wpAny (model prog w) A (getItem o i) Q E s₂) E s₁) E s) :
    wpAny (model prog w) A (eval (.Subscript value slice pos) env) Q E s:=by
  refine Subscript_ (wpAny_mono h (fun o s₁ h₁=>wpAny_mono h₁ (fun i s₂ h₂=>?_) fun _ _ x=>x) fun _ _ x=>x)
  obtain⟨hT,h₂⟩:=h₂
  unfold subscriptTail
  refine wpAny_bind ?_
  rw [getitemInPython_of_ne hT.not_modules]
  refine wpAny_bind (wpAny_specialOf hT hl ?_)
  have fin:wpAny (model prog w) A (subscripted slice false o i) (fun r s₃=>wpAny (model prog w) A (letTemporaryGo value o r >>= fun _=>pure r) Q E s₃) E s₂:=by
    rw [hs o i]
    exact wpAny_operating (wpAny_mono h₂ (fun r s₃ h₃=>wpAny_bind (wpAny_letTemporaryGo (wpAny_pure h₃))) fun _ _ x=>x)
  first
    | exact wpAny_pure (wpAny_bind fin)
    | exact wpAny_bind (wpAny_pure (wpAny_bind fin))
    | exact wpAny_bind fin
theorem i'r {X:Cx} {pins:List (Addr×Obj)} {σ:St} {H:Hp} {s:Shared} {a:Addr} {y:V} {o:Option V} (I:Inv X pins σ H s) (g:DGet H a y o):s.TypeIs (.ref a) "dict":=by
  rcases g with ⟨kvs,k,e,_,_⟩ | ⟨kvs,k,b,e,_,_,_⟩
  · obtain⟨_,_,vs,_,dd⟩:=b'S I.hok e
    exact dd.typeIs
  · obtain⟨_,_,xs,_,dd⟩:=f'C I.hok e
    exact dd.typeIs
def tDGet (td ty:TE):TE:=fun σ H Q=>td σ H fun x H1=>ty σ H1 fun y H2=>∃ a v,x=.ref a∧DGet H2 a y (some v)∧Q v H2
def sDPut (td ty tv:TE):TS:=fun D σ H=>tv σ H fun v H1=>td σ H1 fun x H2=>ty σ H2 fun y H3=>∃ a H4,x=.ref a∧DPut H3 a y v H4∧D.nx σ H4
section
variable {X:Cx} {o i e value:Expr} {pos pos' tpos:Pos} {td ty tv:TE}
theorem i'F (hu:X.A.units+1<cLine) (ho:PE X o td) (hi:PE X i ty) (hs:NoSl i):PE X (.Subscript o i pos) (tDGet td ty):=by
  intro pins s σ H Q I h
  refine i'E PySem.F.slot_dict_getitem.lookup hs (thn (ho pins s σ H _ I h) fun u s1 ⟨x,H1,I1,rx,q1⟩=>thn (hi pins s1 σ H1 _ I1 q1) fun iv s2 ⟨y,H2,I2,ry,a,v,ex,g,q2⟩=>?_)
  subst ex
  obtain rfl:u=Value.ref a:=rx
  exact⟨i'r I2 g,j'X hu I2 g ry fun w' s3 I3 rw'=>⟨v,H2,I3,rw',q2⟩⟩
theorem d's (hu:X.A.units+1<cLine) (ho:PE X o td) (hi:PE X i ty) (hv:PE X value tv) (hs:swapsWith value (some (.Subscript o i pos')) pos.line X.env=pure false) :
    PS X (.Assign [.Subscript o i pos'] value pos) (sDPut td ty tv):=by
  intro pins s σ H D I h
  refine wpAny_Assign_Subscript (thn (hv pins s σ H _ I h) fun r s1 ⟨v,H1,I1,rv,q1⟩=>thn (ho pins s1 σ H1 _ I1 q1) fun u s2 ⟨x,H2,I2,rx,q2⟩=>thn (hi pins s2 σ H2 _ I2 q2) fun iv s3 ⟨y,H3,I3,ry,a,H4,ex,g,q3⟩=>?_) hs
  subst ex
  obtain rfl:u=Value.ref a:=rx
  exact j'Y hu I3 g ry rv fun s4 I4=>⟨σ,H4,I4,q3⟩
end
theorem l'i {P:Program} {w:World} {H:Hp} (h:Heap) (hb:sysModules<h.objs.size):ObjOk P w H (h.push { cls:=.type "dict",data:=.dict #[] }) h.objs.size (.dK []):=
  ⟨Nat.zero_le _,beq_eq_false_iff_ne.mpr (Ne.symm (Nat.ne_of_lt hb)),[],.nil,Heap.DictOf.new h⟩
def tDNewK:TE:=fun _ H Q=>∀ p,H p=none→Q (.ref p) (upd H p (.dK []))
section
variable {X:Cx} {pos:Pos}
theorem c'U:PE X (.Dict [] [] pos) tDNewK:=fun pins s σ H Q I h=>
  wpAny_Dict_empty ⟨.ref s.heap.objs.size,_,I.laid (a:=s.heap.objs.size) (o:=.dK []) (t':=s.toks) (fun _ _ q=>Heap.get?_push_of_some _ q) (Nat.le_refl _) (l'i s.heap I.big),rfl,h _ (I.hok.fresh (Nat.le_refl _))⟩
end
structure M1 (X:Cx) (o:Expr) (m:Str) (apos:Pos) (e:Expr) (cpos:Pos):Prop where
  base:attributeBase o m X.env (eval o X.env)=eval o X.env
  few:((backTo cpos (starEach [e] X.env)).all (fun x=>!x.1) && (backToKw cpos (keywordEach [] X.env)).all (fun x=>x.1.isSome)
    && decide (([e]:List Expr).length+([]:List Keyword).length+(if ([]:List Keyword).isEmpty then 0 else 1)<30))=true
  line:(apos.endLine == cpos.line)=true
  trees:backTo cpos (starEach [e] X.env)=[(false,eval e X.env)]
structure M2 (X:Cx) (o:Expr) (m:Str) (apos:Pos) (e f:Expr) (cpos:Pos):Prop where
  base:attributeBase o m X.env (eval o X.env)=eval o X.env
  few:((backTo cpos (starEach [e,f] X.env)).all (fun x=>!x.1) && (backToKw cpos (keywordEach [] X.env)).all (fun x=>x.1.isSome)
    && decide (([e,f]:List Expr).length+([]:List Keyword).length+(if ([]:List Keyword).isEmpty then 0 else 1)<30))=true
  line:(apos.endLine == cpos.line)=true
  trees:backTo cpos (starEach [e,f] X.env)=[(false,eval e X.env),(false,eval f X.env)]
def IsD (H:Hp) (a:Addr):Prop:=(∃ kvs,Rd H a (.dK kvs))∨∃ kvs,Rd H a (.dT kvs)
theorem j'Z {X:Cx} {pins:List (Addr×Obj)} {σ:St} {H:Hp} {s:Shared} {a:Addr} (I:Inv X pins σ H s) (d:IsD H a) :
    s.TypeIs (.ref a) "dict"∧(∀ b,Value.ref a=.ref b→∃ ob,s.heap.get? b=some ob∧ob.dict=none)∧(a == sysModules)=false:=by
  rcases d with ⟨kvs,e⟩ | ⟨kvs,e⟩
  · obtain⟨_,hd,vs,_,dd⟩:=b'S I.hok e
    refine⟨dd.typeIs,fun b q=>?_,hd⟩
    cases q
    obtain⟨ob,_,_,h1,h2,_⟩:=dd
    exact⟨ob,h1,h2.2.1⟩
  · obtain⟨_,hd,xs,_,dd⟩:=f'C I.hok e
    refine⟨dd.typeIs,fun b q=>?_,hd⟩
    cases q
    obtain⟨ob,_,_,h1,h2,_⟩:=dd
    exact⟨ob,h1,h2.2.1⟩
section
variable {X:Cx} {pins:List (Addr×Obj)} {σ:St} {H:Hp} {s:Shared} {a:Addr} {y d:V} {u r:Value} {o:Option V} {A:Around} {E:Value→Shared→Prop}
theorem n'u {Q:Value→Shared→Prop} (hu:A.units+1<cLine) (I:Inv X pins σ H s) (g:DGet H a y o) (ry:RelV y u) (rd:RelV d r) (h:∀ w' s',Inv X pins σ H s'→RelV (o.getD d) w'→Q w' s') :
    wpAny (model X.prog X.w) A (call (.builtin "dict.get") [.ref a,u,r]) Q E s:=by
  rcases g with ⟨kvs,k,e,ey,l⟩ | ⟨kvs,k,b,e,ey,eb,l⟩
  · subst ey
    obtain⟨z,hd,vs,rel,dd⟩:=b'S I.hok e
    refine call_meetsIn PySem.F.slot_dict_get dd.typeIs PySem.F.entry_dict_get (PySem.F.args_dict_get_3 _ _ _) (meets_dict_get_default (mixKind X.prog X.w) a (e'z ry) hd r) ⟨_,dd.mapOf,h _ _ (I.tok _) ?_⟩
    rw [l]
    exact (rel.val k).getD rd
  · subst ey
    cases (show u=Value.ref b from ry)
    obtain⟨z,hd,xs,rel,dd⟩:=f'C I.hok e
    refine call_meetsIn PySem.F.slot_dict_get dd.typeIs PySem.F.entry_dict_get (PySem.F.args_dict_get_3 _ _ _) (meetsH_dict_get_default (tupleKind (mixKind X.prog X.w)) a b hd r) ⟨tupleKind_room_in1 hu,k,xs,f'B I.hok eb,dd,h _ _ (I.tok _) ?_⟩
    rw [l]
    exact (rel.val k).getD rd
end
def tDGet2 (td ty tx:TE):TE:=fun σ H Q=>td σ H fun x H1=>∃ a,x=.ref a∧IsD H1 a∧ty σ H1 fun y H2=>tx σ H2 fun z H3=>∃ o,DGet H3 a y o∧Q (o.getD z) H3
section
variable {X:Cx} {o e f:Expr} {apos cpos:Pos} {td ty tx:TE}
theorem l'j (hu:X.A.units+1<cLine) (ho:PE X o td) (he:PE X e ty) (hf:PE X f tx) (m:M2 X o "get" apos e f cpos):PE X (.Call (.Attribute o "get" apos) [e,f] [] cpos) (tDGet2 td ty tx):=by
  intro pins s σ H Q I h
  refine wpAny_Call_method m.base m.few m.line PySem.F.plainAttrs_dict PySem.F.slot_dict_get PySem.F.type_dict_get (thn (ho pins s σ H _ I h) fun u s1 ⟨x,H1,I1,rx,a,ex,d,q1⟩=>?_)
  subst ex
  obtain rfl:u=Value.ref a:=rx
  obtain⟨t1,t2,_⟩:=j'Z I1 d
  refine⟨t1,t2,?_⟩
  rw [m.trees]
  refine Calls.callWith_builtin rfl (Calls.evalArgs_plain (Calls.spliced_cons (thn (he pins s1 σ H1 _ I1 q1) fun iv s2 ⟨y,H2,I2,ry,q2⟩=>
    Calls.spliced_cons (thn (hf pins s2 σ H2 _ I2 q2) fun fv s3 ⟨z,H3,I3,rz,ov,g,q3⟩=>Calls.spliced_nil ?_))))
  exact n'u hu I3 g ry rz fun w' s4 I4 rw'=>⟨_,H3,I4,rw',q3⟩
end
section
variable {X:Cx} {pins:List (Addr×Obj)} {σ:St} {H:Hp} {s:Shared} {a:Addr} {kvs:List (Key×V)} {A:Around} {E:Value→Shared→Prop}
theorem l'k {Q:Value→Shared→Prop} (I:Inv X pins σ H s) (e:Rd H a (.dK kvs)) (h:∀ p s',H p=none→Inv X pins σ (upd H p (.dK kvs)) s'→Q (.ref p) s'):wpAny (model X.prog X.w) A (call (.type "dict") [.ref a]) Q E s:=by
  obtain⟨z,hd,vs,rel,dd⟩:=b'S I.hok e
  refine kt_call_dict hd dd (by rw [← rel.length];exact z) fun h' dd' hs=>?_
  refine h _ _ (I.hok.fresh (Nat.le_refl _)) (I.laid (a:=s.heap.objs.size) (o:=.dK kvs) (t':=s.toks) (fun b q hq=>?_) (Nat.le_refl _) (h'B z (beq_eq_false_iff_ne.mpr (Ne.symm (Nat.ne_of_lt I.big))) rel dd'))
  exact (hs.2 b (Nat.ne_of_lt (Heap.lt_size hq))).trans (Heap.get?_push_of_some _ hq)
end
section
variable {X:Cx} {pins:List (Addr×Obj)} {σ:St} {H:Hp} {s:Shared} {a:Addr} {y:V} {u:Value} {A:Around} {E:Value→Shared→Prop}
end
end L2
namespace HT
open PySem PyProof.Rows
section
open PySem.SeqAt
open PySem.AutoSeq1 (wpAny_loadPart')
open PySem.MeetsSeq PySem.MeetsSeq2 PySem.MeetsSeq3
end
section
variable {prog:Program} {w:World} {A:Around} {E:Value→Shared→Prop} {s:Shared}
def sIx (n d:Nat):Option Int→Nat
  | none => d
  | some v => if v < 0 then (v + (n : Int)).toNat else min v.toNat n
theorem sIx_nat (n d k:Nat):sIx n d (some (k:Int))=min k n:=by
  show (if (k:Int)<0 then ((k:Int)+(n:Int)).toNat else min (k:Int).toNat n)=min k n
  rw [if_neg (by omega),Int.toNat_natCast]
end
end HT
namespace L2
open PySem PySem.Spec PyProof.Rows
abbrev TO:=St→Hp→(Option Int→Hp→Prop)→Prop
def PO (X:Cx) (e:Option Expr) (t:TO):Prop:=
  ∀ (pins:List (Addr×Obj)) (s:Shared) (σ:St) (H:Hp) (Q:Option Int→Hp→Prop),Inv X pins σ H s→t σ H Q→
    wpAny (model X.prog X.w) X.A (evalPart e X.env) (fun u s'=>∃ o H',Inv X pins σ H' s'∧IsPart u o∧Q o H') X.xe s
def tPart (t:TE):TO:=fun σ H Q=>t σ H fun x H1=>∃ i,x=.int i∧Q (some i) H1
section
variable {X:Cx} {e:Expr} {te:TE} {lo hi:Option Expr} {tl th:TO} {pos p2:Pos}
theorem e'A (h:PE X e te):PO X (some e) (tPart te):=by
  intro pins s σ H Q I hw
  rw [evalPart_some]
  refine thn (h pins s σ H _ I hw) fun u s1 ⟨x,H1,I1,r1,q1⟩=>?_
  obtain⟨i,rfl,q⟩:=q1
  obtain⟨t,rfl⟩:=r1
  exact⟨some i,H1,I1,.int i t,q⟩
def SlR (X:Cx) (r:V→Option Int→Option Int→Hp→VK→Prop):Prop:=
  ∀ (pins:List (Addr×Obj)) (s:Shared) (σ:St) (H:Hp) (x:V) (v vl vu:Value) (lo hi:Option Int) (sl:Addr) (Q:VK),Inv X pins σ H s→RelV x v→s.heap.IsSliceOf sl vl vu .none→IsPart vl lo→IsPart vu hi→r x lo hi H Q→
    ∃ T id,typeLookup (.type T) "__getitem__"=pure (some (.builtin id))∧s.TypeIs v T∧wpAny (model X.prog X.w) X.A (getItem v (.ref sl)) (EP X pins σ Q) X.xe s
def tSl (r:V→Option Int→Option Int→Hp→VK→Prop) (te:TE) (tl th:TO):TE:=fun σ H Q=>te σ H fun x H1=>tl σ H1 fun l H2=>th σ H2 fun u H3=>r x l u H3 Q
theorem h'C {r:V→Option Int→Option Int→Hp→VK→Prop} (hr:SlR X r) (he:PE X e te) (hl:PO X lo tl) (hu:PO X hi th):PE X (.Subscript e (.Slice lo hi none p2) pos) (tSl r te tl th):=by
  intro pins s σ H Q I h
  refine Subscript_ (thn (he pins s σ H _ I h) fun v s1 ⟨x,H1,I1,r1,q1⟩=>?_)
  refine wpAny_Slice (thn (hl pins s1 σ H1 _ I1 q1) fun vl s2 ⟨l,H2,I2,pl,q2⟩=>thn (hu pins s2 σ H2 _ I2 q2) fun vu s3 ⟨u,H3,I3,pu,q3⟩=>?_)
  rw [evalPart_none]
  refine wpAny_pure ?_
  have I4:Inv X pins σ H3 { s3 with heap:=s3.heap.push { cls:=.type "slice",data:=.fields #[vl,vu,.none] } }:=I3.kept (t':=s3.toks) fun b ob q=>Heap.get?_push_of_some _ q
  obtain⟨T,id,hT,ht,hg⟩:=hr pins { s3 with heap:=s3.heap.push { cls:=.type "slice",data:=.fields #[vl,vu,.none] } } σ H3 x v vl vu l u s3.heap.objs.size Q I4 r1 (Heap.IsSliceOf.new ..) pl pu q3
  show wpAny (model X.prog X.w) X.A (subscriptTail e (.Slice lo hi none p2) v (.ref s3.heap.objs.size)) (EP X pins σ Q) X.xe { s3 with heap:=s3.heap.push { cls:=.type "slice",data:=.fields #[vl,vu,.none] } }
  exact tail_any (ops:=[.ref s3.heap.objs.size,v]) ht hT hg (by with_unfolding_all rfl)
def cutV (xs:List V) (lo hi:Option Int):List V:=(xs.drop (HT.sIx xs.length 0 lo)).take (HT.sIx xs.length xs.length hi - HT.sIx xs.length 0 lo)
theorem i's (xs:List V) (lo hi:Option Int):(cutV xs lo hi).length≤xs.length:=by
  unfold cutV
  rw [List.length_take,List.length_drop]
  omega
end
end L2
namespace L2
open PySem PySem.Spec PyProof.Rows
def ixN (n:Nat) (i:Int):Option Nat:=if 0≤i then (if i<n then some i.toNat else none) else if -(n:Int)≤i then some (i+n).toNat else none
def atI {α:Type} (xs:List α) (i:Int):Option α:=(ixN xs.length i).bind fun j=>xs[j]?
theorem m'i {n:Nat} {i:Int} {j:Nat} (h:ixN n i=some j):seqIndex? i n=some j∧j<n∧-(n:Int)≤i∧i<n:=by
  unfold ixN at h
  by_cases h0:0≤i
  · rw [if_pos h0] at h
    by_cases h1:i<n
    · rw [if_pos h1] at h
      have e:i.toNat=j:=Option.some.inj h
      exact⟨by rw [seqIndex_of h0 h1,e],by omega,by omega,h1⟩
    · rw [if_neg h1] at h;cases h
  · rw [if_neg h0] at h
    by_cases h1:-(n:Int)≤i
    · rw [if_pos h1] at h
      have e:(i+n).toNat=j:=Option.some.inj h
      exact⟨by rw [seqIndex_neg (by omega) h1,e],by omega,h1,by omega⟩
    · rw [if_neg h1] at h;cases h
theorem i'G {α:Type} {xs:List α} {i:Int} {v:α} (h:atI xs i=some v):∃ j,seqIndex? i xs.length=some j∧xs[j]?=some v∧j<xs.length∧-(xs.length:Int)≤i∧i<xs.length:=by
  unfold atI at h
  cases e:ixN xs.length i with
  | none => rw [e] at h; cases h
  | some j =>
    rw [e] at h
    obtain⟨h1,h2,h3,h4⟩:=m'i e
    exact⟨j,h1,h,h2,h3,h4⟩
theorem m'j {α:Type} {xs:List α} {j:Nat} {v:α} (h:xs[j]?=some v):atI xs (j:Int)=some v:=by
  have hj:j<xs.length:=(List.getElem?_eq_some_iff.mp h).1
  have e:ixN xs.length (j:Int)=some j:=by
    unfold ixN
    rw [if_pos (by omega),if_pos (by omega)];simp
  unfold atI;rw [e];exact h
def PlainIx (b:Expr):Prop:=∀ o i,subscripted b false o i=operate [o,i] (getItem o i)
def IxR (X:Cx) (r:R2):Prop:=
  ∀ (value slice:Expr) (pins:List (Addr×Obj)) (s:Shared) (σ:St) (H:Hp) (x y:V) (v u:Value) (Q:VK),Inv X pins σ H s→RelV x v→RelV y u→r x y H Q→
    subscripted slice false v u=operate [v,u] (getItem v u)→wpAny (model X.prog X.w) X.A (subscriptTail value slice v u) (EP X pins σ Q) X.xe s
def MtR (X:Cx) (id:String) (r:V→List V→Hp→VK→Prop):Prop:=
  ∀ (pins:List (Addr×Obj)) (s:Shared) (σ:St) (H:Hp) (x:V) (xs:List V) (v:Value) (us:List Value) (Q:VK),Inv X pins σ H s→RelV x v→Vals xs us→r x xs H Q→
    wpAny (model X.prog X.w) X.A (call (.builtin id) (v :: us)) (EP X pins σ Q) X.xe s
section
variable {X:Cx} {a b:Expr} {ta tb:TE} {pos:Pos}
theorem a'm {r:R2} (hr:IxR X r) (ha:PE X a ta) (hb:PE X b tb) (hs:PlainIx b):PE X (.Subscript a b pos) (tOp r ta tb):=by
  intro pins s σ H Q I h
  exact Subscript_ (l'f ha hb I h fun v u s2 x y H2 I2 rx ry q=>hr a b pins s2 σ H2 x y v u Q I2 rx ry q (hs _ _))
def rIxL (K:PySem.W.Frag):R2:=fun x y H Q=>∃ p xs i v,x=.ref p∧y=.int i∧SqL K H p xs∧atI xs i=some v∧Q v H
def rIxT (K:PySem.W.Frag):R2:=fun x y H Q=>∃ p xs i v,x=.ref p∧y=.int i∧SqT K H p xs∧atI xs i=some v∧Q v H
theorem b'l:IxR X (rIxL X.K):=by
  intro value slice pins s σ H x y v u Q I rx ry h hs
  obtain⟨p,xs,i,z,rfl,rfl,hq,he,q⟩:=h
  cases rx
  obtain⟨t,rfl⟩:=ry
  obtain⟨its,r,pl,hz⟩:=I.list hq
  obtain⟨j,h1,h2,h3,h4,h5⟩:=i'G he
  obtain⟨w,ew,rw'⟩:=r.get h2
  have hl:=r.length
  have hn:=h'x
  have fin:EP X pins σ Q w s:=⟨z,H,I,rw',q⟩
  by_cases h0:0≤i
  · have hj:i.toNat=j:=by
      rw [seqIndex_of h0 h5] at h1
      exact Option.some.inj h1
    exact item_listR pl.isList h0 (by omega) (by rw [hj];simpa using ew) fin hs
  · have hj:(i+(its.toArray.size:Int)).toNat=j:=by
      rw [seqIndex_neg (by omega) h4] at h1
      rw [List.size_toArray,← hl]
      exact Option.some.inj h1
    exact subscriptTail_builtinR (x:=w) pl.isList.typeIs slot_list_getitem.lookup
      (wpAny_getItem_list_neg (Q:=fun r s'=>r=w∧EP X pins σ Q r s') pl.isList (by omega) (by rw [List.size_toArray]<;>omega) (by omega) (by rw [hj];simpa using ew) ⟨rfl,fin⟩) hs
theorem a'k:IxR X (rIxT X.K):=by
  intro value slice pins s σ H x y v u Q I rx ry h hs
  obtain⟨p,xs,i,z,rfl,rfl,hq,he,q⟩:=h
  cases rx
  obtain⟨t,rfl⟩:=ry
  obtain⟨its,r,pl,hz⟩:=I.tuple hq
  obtain⟨j,h1,h2,h3,h4,h5⟩:=i'G he
  obtain⟨w,ew,rw'⟩:=r.get h2
  have hl:=r.length
  have hn:=h'x
  have fin:EP X pins σ Q w s:=⟨z,H,I,rw',q⟩
  exact subscriptTail_builtinR (x:=w) pl.typeIs slot_tuple_getitem.lookup
    (getItem_tuple (j:=j) (Q:=fun r s'=>r=w∧EP X pins σ Q r s') pl (by omega) (by omega) (by rw [List.size_toArray,← hl];exact h1) (by simpa using ew) ⟨rfl,fin⟩) hs
theorem h'D (lo hi:Option Int) (n:Nat):(sliceBounds lo hi none n).1=((HT.sIx n 0 lo:Nat):Int)∧(sliceBounds lo hi none n).2.1=((HT.sIx n n hi:Nat):Int)∧(sliceBounds lo hi none n).2.2=1:=by
  refine⟨?_,?_,rfl⟩
  · cases lo with
    | none=>simp [sliceBounds,HT.sIx]
    | some i=>
      simp only [sliceBounds,HT.sIx,Option.getD_none,show (1:Int) > 0 by decide,if_true]
      by_cases h:i<0
      · simp only [h,if_true]<;>omega
      · simp only [h,if_false]<;>omega
  · cases hi with
    | none=>simp [sliceBounds,HT.sIx]
    | some i=>
      simp only [sliceBounds,HT.sIx,Option.getD_none,show (1:Int) > 0 by decide,if_true]
      by_cases h:i<0
      · simp only [h,if_true]<;>omega
      · simp only [h,if_false]<;>omega
theorem g'Y (its:List Value) (lo hi:Option Int):slicePick its.toArray lo hi none=((its.drop (HT.sIx its.length 0 lo)).take (HT.sIx its.length its.length hi - HT.sIx its.length 0 lo)).toArray:=by
  obtain⟨h1,h2,h3⟩:=h'D lo hi its.toArray.size
  unfold slicePick
  rw [h1,h2,h3]
  simp only [sliceRange_one,pick_run,List.size_toArray]<;>rfl
def rSlL (K:PySem.W.Frag):V→Option Int→Option Int→Hp→VK→Prop:=fun x lo hi H Q=>∃ a xs,x=.ref a∧SqL K H a xs∧∀ p,H p=none→Q (.ref p) (upd H p (.lst (cutV xs lo hi)))
theorem i'H:SlR X (rSlL X.K):=by
  intro pins s σ H x v vl vu lo hi sl Q I rx hs pl pu h
  obtain⟨a,xs,rfl,hx,q⟩:=h
  cases rx
  obtain⟨its,r,ht,hz⟩:=I.list hx
  have hlen:=r.length
  refine⟨"list",_,slot_list_getitem.lookup,ht.isList.typeIs,?_⟩
  refine wpAny_getItem_list_slice ht.isList hs pl pu .none (by simp) ?_ (by rw [List.size_toArray]<;>omega)
  rw [g'Y,← hlen]
  refine⟨.ref s.heap.objs.size,_,I.laid (t':=s.toks) (o:=.lst (cutV xs lo hi)) (fun b ob q=>Heap.get?_push_of_some _ q) (Nat.le_refl _) ?_,rfl,q _ (I.hok.fresh (Nat.le_refl _))⟩
  exact⟨Nat.le_trans (i's xs lo hi) hz,_,0,(r.drop (HT.sIx xs.length 0 lo)).take (HT.sIx xs.length xs.length hi - HT.sIx xs.length 0 lo),Heap.get?_push_size _ rfl⟩
def flatV:V→Bool
  | .non => true
  | .bl _ => true
  | .int _ => true
  | .str _ => true
  | _ => false
def eqV:V→V→Bool
  | .non, .non => true
  | .bl a, .bl b => a == b
  | .bl a, .int b => (if a then 1 else 0) == b
  | .int a, .bl b => a == (if b then 1 else 0)
  | .int a, .int b => a == b
  | .str a, .str b => a == b
  | _, _ => false
theorem c'V {A:Around} {s:Shared} {y x:V} {u v:Value} (ry:RelV y u) (rx:RelV x v) (fy:flatV y=true) (fx:flatV x=true):SeqAt.EqAt A s u v (eqV y x):=by
  cases y with
  | non =>
    cases ry
    cases x with
    | non=>cases rx;exact SeqAt.EqAt.same _
    | bl b=>cases rx;exact SeqAt.EqAt.none_bool b
    | int b=>obtain⟨t,rfl⟩:=rx;exact SeqAt.EqAt.none_int b t
    | str b=>obtain⟨t,rfl⟩:=rx;exact SeqAt.EqAt.none_str b t
    | _=>exact absurd (show false=true from fx) Bool.false_ne_true
  | bl a =>
    cases ry
    cases x with
    | non=>cases rx;exact SeqAt.EqAt.bool_none a
    | bl b=>cases rx;exact SeqAt.EqAt.bool_bool a b
    | int b=>obtain⟨t,rfl⟩:=rx;exact SeqAt.EqAt.bool_int a b t
    | str b=>obtain⟨t,rfl⟩:=rx;exact SeqAt.EqAt.bool_str a b t
    | _=>exact absurd (show false=true from fx) Bool.false_ne_true
  | int a =>
    obtain⟨t',rfl⟩:=ry
    cases x with
    | non=>cases rx;exact SeqAt.EqAt.int_none a t'
    | bl b=>cases rx;exact SeqAt.EqAt.int_bool a t' b
    | int b=>obtain⟨t,rfl⟩:=rx;exact SeqAt.EqAt.int_int a t' b t
    | str b=>obtain⟨t,rfl⟩:=rx;exact SeqAt.EqAt.int_str a t' b t
    | _=>exact absurd (show false=true from fx) Bool.false_ne_true
  | str a =>
    obtain⟨t',rfl⟩:=ry
    cases x with
    | non=>cases rx;exact SeqAt.EqAt.str_none a t'
    | bl b=>cases rx;exact SeqAt.EqAt.str_bool a t' b
    | int b=>obtain⟨t,rfl⟩:=rx;exact SeqAt.EqAt.str_int a t' b t
    | str b=>obtain⟨t,rfl⟩:=rx;exact SeqAt.EqAt.str_str a t' b t
    | _=>exact absurd (show false=true from fx) Bool.false_ne_true
  | _ => exact absurd (show false = true from fy) Bool.false_ne_true
def eqU (x:V) (u:Value):Bool:=match u with
  | .none => eqV .non x
  | .bool b => eqV (.bl b) x
  | .int i _ => eqV (.int i) x
  | .str z _ => eqV (.str z) x
  | _ => false
theorem k'a {x y:V} {u:Value} (r:RelV y u) (f:flatV y=true):eqU x u=eqV y x:=by
  cases y with
  | non => cases r; rfl
  | bl b => cases r; rfl
  | int i => obtain ⟨t, rfl⟩ := r; rfl
  | str z => obtain ⟨t, rfl⟩ := r; rfl
  | _ => exact absurd (show false = true from f) Bool.false_ne_true
theorem d't {x:V}:∀ {xs:List V} {us:List Value},Vals xs us→xs.all flatV=true→us.any (eqU x)=xs.any fun y=>eqV y x
  | _, _, .nil, _ => rfl
  | y :: xs, u :: us, .cons r t, f => by
    rw [List.all_cons,Bool.and_eq_true] at f
    rw [List.any_cons,List.any_cons,k'a r f.1,d't t f.2]
theorem c'W {A:Around} {s:Shared} {x:V} {v:Value} (rx:RelV x v) (fx:flatV x=true):∀ {xs:List V} {us:List Value},Vals xs us→xs.all flatV=true→∀ u∈us,SeqAt.EqAt A s u v (eqU x u)
  | _, _, .nil, _ => fun u hu => by cases hu
  | y :: xs, u :: us, .cons r t, f => fun u' hu => by
    rw [List.all_cons,Bool.and_eq_true] at f
    rcases List.mem_cons.mp hu with rfl | hu
    · rw [k'a r f.1];exact c'V r rx f.1 fx
    · exact c'W rx fx t f.2 u' hu
def inV (x:V) (xs:List V):Bool:=xs.any fun y=>eqV y x
def rIn (K:PySem.W.Frag) (neg:Bool):R2:=fun x y H Q=>∃ p xs,y=.ref p∧(SqL K H p xs∨SqT K H p xs)∧flatV x=true∧xs.all flatV=true∧Q (.bl (if neg then !inV x xs else inV x xs)) H
theorem g'L:OpR X (compareOp .In) (rIn X.K false):=by
  intro pins s σ H x y v u Q I rx ry h
  obtain⟨p,xs,rfl,hq,fx,fs,q⟩:=h
  cases ry
  rcases hq with hq | hq
  · obtain⟨its,r,pl,hz⟩:=I.list hq
    refine SeqAt.in_listAt (eqU x) pl.isList (fun w hw=>c'W rx fx r fs w (by simpa using hw)) ⟨.bl _,H,I,rfl,?_⟩
    rw [show its.toArray.any (eqU x)=its.any (eqU x) by simp,d't r fs]
    exact q
  · obtain⟨its,r,pl,hz⟩:=I.tuple hq
    refine SeqAt.in_tupleAt (eqU x) pl (fun w hw=>c'W rx fx r fs w (by simpa using hw)) ⟨.bl _,H,I,rfl,?_⟩
    rw [show its.toArray.any (eqU x)=its.any (eqU x) by simp,d't r fs]
    exact q
theorem e'i:OpR X (compareOp .NotIn) (rIn X.K true):=by
  intro pins s σ H x y v u Q I rx ry h
  obtain⟨p,xs,rfl,hq,fx,fs,q⟩:=h
  cases ry
  rcases hq with hq | hq
  · obtain⟨its,r,pl,hz⟩:=I.list hq
    refine SeqAt.notIn_listAt (eqU x) pl.isList (fun w hw=>c'W rx fx r fs w (by simpa using hw)) ⟨.bl _,H,I,rfl,?_⟩
    rw [show its.toArray.any (eqU x)=its.any (eqU x) by simp,d't r fs]
    exact q
  · obtain⟨its,r,pl,hz⟩:=I.tuple hq
    refine SeqAt.notIn_tupleAt (eqU x) pl (fun w hw=>c'W rx fx r fs w (by simpa using hw)) ⟨.bl _,H,I,rfl,?_⟩
    rw [show its.toArray.any (eqU x)=its.any (eqU x) by simp,d't r fs]
    exact q
theorem b'w:CallR X (.builtin "len") (fun xs H Q=>∃ p ys,xs=[.ref p]∧(SqL X.K H p ys∨SqT X.K H p ys)∧Q (.int ys.length) H):=by
  intro pins s σ H xs us Q I r h
  obtain⟨p,ys,rfl,hq,q⟩:=h
  obtain⟨u,rfl,rx⟩:=e'y r
  cases rx
  have hn:=h'x
  rcases hq with hq | hq
  · obtain⟨its,r',pl,hz⟩:=I.list hq
    have hlen:=r'.length
    exact Calls.call_len_list pl.isList (by simp only [List.size_toArray]<;>omega) ⟨.int ys.length,H,I.tok _,⟨s.toks+1,by rw [List.size_toArray,hlen]⟩,q⟩
  · obtain⟨its,r',pl,hz⟩:=I.tuple hq
    have hlen:=r'.length
    exact len_tuple pl (by simp only [List.size_toArray]<;>omega) ⟨.int ys.length,H,I.tok _,⟨s.toks+1,by rw [List.size_toArray,hlen]⟩,q⟩
def tyV (K:PySem.W.Frag) (T:String) (x:V) (H:Hp):Prop:=match x with
  | .str _ => T = "str"
  | .int _ => T = "int"
  | .ref p => (T = "list" ∧ ∃ xs, SqL K H p xs) ∨ (T = "tuple" ∧ ∃ o, K.lookup p = some o ∧ o.cls = .type "tuple" ∧ o.dict = none) ∨
      (T="dict"∧((∃ kvs,H p=some (.dK kvs))∨∃ kvs,H p=some (.dT kvs)))∨(T="set"∧∃ S n,H p=some (.set S n))
  | _ => False
theorem k'b {pins:List (Addr×Obj)} {σ:St} {H:Hp} {s:Shared} {T:String} {x:V} {v:Value} (I:Inv X pins σ H s) (r:RelV x v) (ty:tyV X.K T x H) :
    s.TypeIs v T∧∀ a,v=.ref a→∃ ob,s.heap.get? a=some ob∧ob.dict=none:=by
  cases x with
  | str z =>
    obtain⟨t,rfl⟩:=r
    cases (show T="str" from ty)
    exact⟨typeIs_str s z t,fun _ e=>nomatch e⟩
  | int i =>
    obtain⟨t,rfl⟩:=r
    cases (show T="int" from ty)
    exact⟨typeIs_int s i t,fun _ e=>nomatch e⟩
  | ref p =>
    cases r
    rcases ty with ⟨rfl,xs,hq⟩ | ⟨rfl,o,hk,hc,hd⟩ | ⟨rfl,hk⟩ | ⟨rfl,S,n,hk⟩
    · obtain⟨its,_,pl,_⟩:=I.list hq
      refine⟨pl.isList.typeIs,fun a e=>?_⟩
      cases e
      obtain⟨o,n,e,c,hd,_⟩:=pl
      exact⟨o,e,hd⟩
    · refine⟨⟨o,I.kIn p o hk,hc⟩,fun a e=>?_⟩
      cases e
      exact⟨o,I.kIn _ o hk,hd⟩
    · have z:∃ o,s.heap.get? p=some o∧o.ExactDict:=by
        rcases hk with ⟨kvs,hk⟩ | ⟨kvs,hk⟩
        · obtain⟨_,_,_,_,o,_,_,e,ex,_⟩:=I.hok p _ hk
          exact⟨o,e,ex⟩
        · obtain⟨_,_,_,_,o,_,_,e,ex,_⟩:=I.hok p _ hk
          exact⟨o,e,ex⟩
      obtain⟨o,e,ex⟩:=z
      refine⟨⟨o,e,ex.1⟩,fun a e2=>?_⟩
      cases e2
      exact⟨o,e,ex.2.1⟩
    · obtain⟨o,_,_,_,e,ex,_⟩:=I.hok p _ hk
      refine⟨⟨o,e,ex.1⟩,fun a e2=>?_⟩
      cases e2
      exact⟨o,e,ex.2.1⟩
  | _ => exact False.elim ty
def tBM0 (K:PySem.W.Frag) (T:String) (r:V→List V→Hp→VK→Prop) (to:TE):TE:=fun σ H Q=>to σ H fun x H1=>tyV K T x H1∧r x [] H1 Q
def tBM (K:PySem.W.Frag) (T:String) (r:V→List V→Hp→VK→Prop) (to:TE) (t:TA):TE:=fun σ H Q=>to σ H fun x H1=>tyV K T x H1∧t σ H1 fun xs H2=>r x xs H2 Q
variable {o e:Expr} {es:List Expr} {to:TE} {t:TA} {name:Str} {apos cpos:Pos} {T id:String} {r:V→List V→Hp→VK→Prop}
theorem e'j (pa:PlainAttrs T) (slot:Slot T name id) (hty:typeOf (.builtin id)=pure (.type "method_descriptor")) (hm:MtR X id r) (ho:PE X o to)
    (hbase:attributeBase o name X.env (eval o X.env)=eval o X.env:=by rfl) (hline:(apos.endLine == cpos.line)=true:=by rfl):PE X (.Call (.Attribute o name apos) [] [] cpos) (tBM0 X.K T r to):=by
  intro pins s σ H Q I h
  refine wpAny_Call_method0_late hbase hline (thn (ho pins s σ H _ I h) fun v s1 ⟨x,H1,I1,r1,ty,q1⟩=>?_)
  obtain⟨h1,h2⟩:=k'b I1 r1 ty
  exact⟨T,id,pa,slot,hty,h1,h2,Calls.callWith_builtin rfl (PySem.evalArgs_none (hm pins s1 σ H1 x [] v [] Q I1 r1 .nil q1))⟩
theorem e'B (pa:PlainAttrs T) (slot:Slot T name id) (hty:typeOf (.builtin id)=pure (.type "method_descriptor")) (hm:MtR X id r) (ho:PE X o to) (ha:PA X (e :: es) t)
    (hbase:attributeBase o name X.env (eval o X.env)=eval o X.env:=by rfl)
    (hfew:((backTo cpos (starEach (e :: es) X.env)).all (fun x=>!x.1) && (backToKw cpos (keywordEach [] X.env)).all (fun x=>x.1.isSome)
      && decide ((e :: es).length+([]:List Keyword).length+(if ([]:List Keyword).isEmpty then 0 else 1)<30))=true:=by rfl)
    (hline:(apos.endLine == cpos.line)=true:=by rfl) (hs:starEach (e :: es) X.env=(false,eval e X.env) :: starEach es X.env:=by rfl) (hplain:(backTo cpos (starEach es X.env)).any (·.1)=false:=by rfl) :
    PE X (.Call (.Attribute o name apos) (e :: es) [] cpos) (tBM X.K T r to t):=by
  intro pins s σ H Q I h
  refine wpAny_Call_method_late hbase hfew hline rfl (thn (ho pins s σ H _ I h) fun v s1 ⟨x,H1,I1,r1,ty,q1⟩=>?_)
  obtain⟨h1,h2⟩:=k'b I1 r1 ty
  refine⟨T,id,pa,slot,hty,h1,h2,?_⟩
  have hA:=ha cpos pins s1 σ H1 _ I1 q1
  rw [hs] at hA ⊢
  refine Calls.callWith_builtin (by show (false || (backTo cpos (starEach es X.env)).any (·.1))=false;rw [hplain]<;>rfl) (Calls.evalArgs_plain ?_)
  exact thn hA fun us s2 ⟨vs,H2,I2,r2,q2⟩=>hm pins s2 σ H2 x vs v us Q I2 r1 r2 q2
end
end L2
namespace L2
open PySem PySem.Spec PyProof.Rows
def MtM (X:Cx) (id:String) (r:V→List V→Hp→VK→Prop):Prop:=
  ∀ (pins:List (Addr×Obj)) (s:Shared) (σ:St) (H:Hp) (x:V) (xs:List V) (v:Value) (us:List Value) (Q:VK),Inv X pins σ H s→RelV x v→Vals xs us→r x xs H Q→
    wpAny (model X.prog X.w) X.A (call (.builtin id) (v :: us)) (EP X pins σ Q) X.xe s
theorem Vals.one:∀ {x:V} {us:List Value},Vals [x] us→∃ u,us=[u]∧RelV x u
  | _, _, .cons r .nil => ⟨_, rfl, r⟩
theorem Vals.zero:∀ {us:List Value},Vals [] us→us=[]
  | _, .nil => rfl
theorem Vals.dropLast {xs:List V} {us:List Value} (h:Vals xs us):Vals xs.dropLast us.dropLast:=by
  induction h with
  | nil => exact .nil
  | cons r t ih =>
    cases t with
    | nil=>exact .nil
    | cons q t'=>exact .cons r ih
theorem Vals.eraseIdx:∀ {xs:List V} {us:List Value} (i:Nat),Vals xs us→Vals (xs.eraseIdx i) (us.eraseIdx i)
  | _, _, _, .nil => .nil
  | _, _, 0, .cons _ t => t
  | _, _, i + 1, .cons r t => .cons r (Vals.eraseIdx i t)
theorem j'p {α:Type} (l:List α):l.eraseIdx (l.length - 1)=l.dropLast:=by
  induction l with
  | nil => rfl
  | cons a r ih =>
    cases r with
    | nil=>rfl
    | cons b r=>
      have e:(a :: b :: r).length - 1=((b :: r).length - 1)+1:=by
        have h1:(a :: b :: r).length=r.length+2:=rfl
        have h2:(b :: r).length=r.length+1:=rfl
        omega
      rw [e,List.eraseIdx_cons_succ,ih]
      all_goals rfl
theorem g'M {α:Type}:∀ (l:List α) (i:Nat),(l.eraseIdx i).length≤l.length
  | [], _ => Nat.le_refl _
  | _ :: _, 0 => Nat.le_succ _
  | _ :: r, i + 1 => Nat.succ_le_succ (g'M r i)
section
variable {X:Cx} {pins:List (Addr×Obj)} {σ:St} {H:Hp} {s:Shared} {l b:Addr} {xs ys zs:List V}
theorem Inv.lset {its its':List Value} {n:Nat} {f:Array Value→Array Value} {t':Nat} (I:Inv X pins σ H s) (hH:H l=some (.lst xs))
    (e:s.heap.get? l=some { cls:=.type "list",data:=.seq its.toArray n }) (hf:f its.toArray=its'.toArray) (hv:Vals ys its') (hz:ys.length≤sizeLine) :
    Inv X pins σ (upd H l (.lst ys)) { s with heap:=s.heap.update l (Obj.mapSeq f),toks:=t' }:=by
  have q:=PySem.IsL.update e f
  rw [hf] at q
  refine I.write (x:=l) (e:=l) (by rw [hH];exact trivial) (.inl rfl) (fun b' u hb hu=>(Heap.get?_update_other s.heap (Obj.mapSeq f) (Ne.symm hb)).trans hu) ⟨_,q⟩ ?_
  exact⟨hz,its',_,hv,q⟩
theorem Inv.lnew {its:List Value} {t':Nat} (I:Inv X pins σ H s) (hv:Vals ys its) (hz:ys.length≤sizeLine) :
    Inv X pins σ (upd H s.heap.objs.size (.lst ys)) { s with heap:=s.heap.push { cls:=.type "list",data:=.seq its.toArray },toks:=t' }:=
  I.laid (fun _ _ q=>Heap.get?_push_of_some _ q) (Nat.le_refl _) ⟨hz,its,0,hv,Heap.get?_push_size _ rfl⟩
theorem Inv.fresh (I:Inv X pins σ H s):H s.heap.objs.size=none:=I.hok.fresh (Nat.le_refl _)
theorem Inv.lstM (I:Inv X pins σ H s) (hH:H l=some (.lst xs)):xs.length≤sizeLine∧∃ (its:List Value) (n:Nat),Vals xs its∧xs.length=its.length∧s.heap.get? l=some { cls:=.type "list",data:=.seq its.toArray n }:=by
  obtain⟨z,its,n,r,e⟩:=I.hok l _ hH
  exact⟨z,its,n,r,r.length,e⟩
end
section
variable {X:Cx}
def rAppend:V→List V→Hp→VK→Prop:=fun x vs H Q=>∃ l xs y,x=.ref l∧vs=[y]∧H l=some (.lst xs)∧xs.length<sizeLine∧Q .non (upd H l (.lst (xs++[y])))
theorem c'B:MtM X "list.append" rAppend:=by
  intro pins s σ H x vs v us Q I rx rv h
  obtain⟨l,xs,y,rfl,rfl,hH,hz,q⟩:=h
  cases rx
  obtain⟨u,rfl,ru⟩:=rv.one
  obtain⟨z,its,n,r,hl,e⟩:=I.lstM hH
  refine call_meets F.slot_list_append ⟨_,e,rfl⟩ F.entry_list_append (F.args_list_append_2 _ _) (PySem.list_append l its.toArray n u (by rw [List.size_toArray];omega)) ⟨e,?_⟩
  refine⟨.non,_,I.lset (its':=its++[u]) hH e (by simp) (r.append (.cons ru .nil)) ?_,rfl,q⟩
  rw [List.length_append,List.length_singleton]
  omega
def rPop:V→List V→Hp→VK→Prop:=fun x vs H Q=>∃ l xs y,x=.ref l∧vs=[]∧H l=some (.lst xs)∧xs[xs.length - 1]?=some y∧Q y (upd H l (.lst xs.dropLast))
theorem f'D:MtM X "list.pop" rPop:=by
  intro pins s σ H x vs v us Q I rx rv h
  obtain⟨l,xs,y,rfl,rfl,hH,hy,q⟩:=h
  cases rx
  have hus:=rv.zero
  subst hus
  obtain⟨z,its,n,r,hl,e⟩:=I.lstM hH
  obtain⟨u,hu,ru⟩:=r.get hy
  have hy':its.toArray[its.toArray.size - 1]?=some u:=by
    show its.toArray[its.length - 1]?=some u
    rw [← Array.getElem?_toList,← hl]
    exact hu
  refine call_meets F.slot_list_pop ⟨_,e,rfl⟩ F.entry_list_pop (F.args_list_pop_1 _) (MeetsSeq.list_pop_last l its.toArray n u hy' (by rw [List.size_toArray];omega)) ⟨e,?_⟩
  refine⟨y,_,I.lset (its':=its.dropLast) hH e ?_ r.dropLast ?_,ru,q⟩
  · show its.toArray.eraseIdxIfInBounds (its.toArray.size - 1)=its.dropLast.toArray
    rw [List.size_toArray,List.eraseIdxIfInBounds_toArray,j'p]
  · rw [List.length_dropLast]
    omega
def rPopAt:V→List V→Hp→VK→Prop:=fun x vs H Q=>∃ l xs i k y,x=.ref l∧vs=[.int i]∧H l=some (.lst xs)∧-(2 ^ 63)≤i∧i<2 ^ 63∧seqIndex? i xs.length=some k∧xs[k]?=some y∧Q y (upd H l (.lst (xs.eraseIdx k)))
theorem l'l:MtM X "list.pop" rPopAt:=by
  intro pins s σ H x vs v us Q I rx rv h
  obtain⟨l,xs,i,k,y,rfl,rfl,hH,h1,h2,hk,hy,q⟩:=h
  cases rx
  obtain⟨u,rfl,ru⟩:=rv.one
  obtain⟨t,rfl⟩:=ru
  obtain⟨z,its,n,r,hl,e⟩:=I.lstM hH
  obtain⟨w,hw,rw'⟩:=r.get hy
  refine call_meets F.slot_list_pop ⟨_,e,rfl⟩ F.entry_list_pop (F.args_list_pop_2 _ _)
    (MeetsSeq.list_pop_at l its.toArray n i t k w (fitsIndex_both h1 h2) (by rw [List.size_toArray,← hl];exact hk) (by rw [← Array.getElem?_toList];exact hw) (by rw [List.size_toArray];omega)) ⟨e,?_⟩
  refine⟨y,_,I.lset (its':=its.eraseIdx k) hH e ?_ (r.eraseIdx k) ?_,rw',q⟩
  · show its.toArray.eraseIdxIfInBounds k=(its.eraseIdx k).toArray
    rw [List.eraseIdxIfInBounds_toArray]
  · have:=g'M xs k
    omega
end
section
variable {prog:Program} {w:World} {A:Around} {E:Value→Shared→Prop} {s:Shared}
end
section
variable {X:Cx}
end
end L2
namespace Att
open PySem PySem.W PySem.Calls PyProof.Rows
theorem f'E {P:Params} {h:Heap}:∀ (ns:List Int) (vs:List Value),WellAll P h vs (ns.map WData.int)→IntsAre vs ns:=by
  intro ns
  induction ns with
  | nil =>
    intro vs w
    rw [List.map_nil] at w
    cases w
    exact .nil
  | cons n ns ih =>
    intro vs w
    rw [List.map_cons] at w
    cases w with
    | cons a b=>
      cases a
      exact .cons _ _ (ih _ b)
theorem k'c {l:OpenLaw} {n:Nat} (hn:l.most=some n) {P:Params} {h:Heap} {args:List WData} {vals:List Value}
    (hpre:l.row.toRowW.claim.pre args=true) (hwl:WellAll P h vals args) :
    ∃ a vs ns,vals=[Value.ref a]∧args=[WData.list (ns.map WData.int)]∧h.get? a=some { cls:=.type "list",data:=.seq vs.toArray }∧IntsAre vs ns∧ns.length≤n:=by
  have hsh:WShape.hasAll [] args [.list .int]=true:=(pre_splitW hpre).1
  have hc:l.pre.holds [] { args:=args }=true:=(pre_splitW hpre).2
  obtain⟨d,r,rfl,h1,h2⟩:=hasAllW_cons hsh
  obtain rfl:=hasAllW_nil h2
  obtain⟨xs,rfl,h3⟩:=hasW_list h1
  obtain⟨ns,rfl⟩:=items_int h3
  have hlen:ns.length≤n:=by
    unfold OpenLaw.pre at hc
    have h4:(WTm.not (.lt (.lit (.int (n:Int))) (.len (.arg 0)))).holds [] { args:=[.list (ns.map .int)] }=true:=by
      have h4:=(holds_andW hc).1
      rw [hn] at h4
      exact h4
    have h5:=condW_of h4 (w_not (w_lt w_lit (w_len_list (w_arg rfl))))
    rw [List.length_map] at h5
    refine Nat.le_of_not_lt fun q=>?_
    have q':(n:Int)<((ns.length:Nat):Int):=by omega
    first
      | (rw [decide_eq_true q'] at h5;exact absurd h5 (by decide))
      | (simp at h5;omega)
  cases hwl with
  | cons w1 w2 =>
    cases w2
    cases w1 with
    | list ho hall=>exact⟨_,_,ns,rfl,rfl,ho,f'E ns _ hall,hlen⟩
theorem k'd (l:OpenLaw) (args:List WData):l.row.toRowW.claim.post args (.bool true) args=true:=
  postW_of (r:=l.row.toRowW) (X:=(true == true))
    (show WShape.has [] (.bool true) .bool=true by first | rfl | decide | simp [WShape.has,WShape.arms,WShape.armsAll])
    (show (WTm.eq .res (.lit (.bool true))).value [] { args:=args,res:=some (.bool true),after:=args }=some (.bool (true == true)) from w_eq_bool (w_res rfl) w_lit) rfl
theorem attach_call {l:OpenLaw} {n:Nat} {q:Program} {loose:List Str} {XP:(Str→Option Value)→Heap→Prop} {YP:World→Heap→Prop} {d:DefRec}
    (hn:l.most=some n) (hdf:d.params.defaults=[])
    (call:∀ (w:World) (s₀ s₁:Shared) (mg mb:Str→Option Value) (fa:Addr) (o:Obj) (pm cd doc:Value) (a:Addr) (vs:List Value) (ns:List Int),
      Ground q loose [] XP w s₀ mg mb s₁.heap→YP w s₁.heap→
      s₁.heap.get? fa=some o→o.data=.func (docDef d.name d.params d.body d.scope pm cd doc)→s₁.heap.CodeRec cd d.name→mg d.name=some (.ref fa)→
      s₁.heap.get? a=some { cls:=.type "list",data:=.seq vs.toArray }→IntsAre vs ns→ns.length≤n→s₁.gens=#[]→
      codeAny (model l.prog w) callerA (.call (.ref fa) ⟨[.ref a],[]⟩) (fun r s'=>r=.ok (.ret (.bool true))∧OldK s₁.heap s'.heap∧s'.os=s₁.os∧AllBare s'.gens) s₁) :
    WalkO q loose XP YP l.row.toRowW d [] (fun f vs=>PySem.call f vs):=by
  intro w s₀ s₁ mg mb G Y fa o pm cd doc dV kV ho hd hcd hD hmg hg args vals as hpre hlay hrd hwl hlo
  obtain rfl:dV=.none:=Dflts.none hD hdf
  obtain rfl:kV=.none:=Dflts.noKw hD
  obtain⟨a,vs,ns,rfl,rfl,hobj,hints,hlen⟩:=k'c hn hpre hwl
  refine enter_call (codeAny_mono (call w s₀ s₁ mg mb fa o pm cd doc a vs ns G Y ho (fd_plain hd) hcd hmg hobj hints hlen hg) fun r s' hq=>?_)
  obtain⟨rfl,h2,h3,h4⟩:=hq
  exact⟨.inl ⟨.bool true,.bool true,[],rfl,fun _=>rfl,.bool true,k'd l _,fun _=>⟨List.Pairwise.nil,fun _ hm=>(nomatch hm)⟩⟩,h2,h3,h4⟩
section
variable {prog:Program} {w:World} {A:Around} {E:Value→Shared→Prop} {s:Shared} {K:Frag}
end
end Att
namespace L2
open PySem PySem.Spec PyProof.Rows
theorem g'N:∀ {vs:List Value} {ns:List Int},IntsAre vs ns→Vals (ns.map V.int) vs
  | _, _, .nil => .nil
  | _, _, .cons n t h => .cons ⟨t, rfl⟩ (g'N h)
def Only (H:Hp):Prop:=∀ b,H b=none∨∃ o xs,H b=some (.frz o (.lst xs))
theorem l'm {P:Program} {w:World} {K:PySem.W.Frag} {mg mb:Str→Option Value} {CX:CXT} {k:Nat} {fa a:Addr} {fd:FuncData} {x:Str} {sp:Sp} {s₁:Shared} {vs:List Value} {ns:List Int}
    (KX:K.In s₁.heap) (hns:s₁.heap.Ns mainGlobals mg) (hb:s₁.heap.Ns builtinsNs mb) (hbb:∀ x:Str,x≠"__name__"→mb x=bootBuiltins x) (hlim:s₁.heap.NoLimit) (hg:s₁.gens=#[])
    (ha:s₁.heap.get? a=some { cls:=.type "list",data:=.seq vs.toArray }) (hi:IntsAre vs ns) (hl:ns.length≤sizeLine) (hr:Room k callerA)
    (F:∀ base:Heap,K.In base→base.Ns mainGlobals mg→FnOk P w K mg base CX k fa fd [x] sp) (hbind:∀ (s:Shared) (u:Value),BindsTo s fd ⟨[u],[]⟩ [(x,u)])
    (hsp:∀ H:Hp,Only H→SqL K H a (ns.map V.int)→sp [.ref a] H (fun v _=>v=.bl true) fun _ _ _=>False)
    (hCX:∀ H e s',CX [] H s₁ (fun _ _ _=>False) e s'→False) :
    codeAny (model P w) callerA (.call (.ref fa) ⟨[.ref a],[]⟩) (fun r s'=>r=.ok (.ret (.bool true))∧OldK s₁.heap s'.heap∧s'.os=s₁.os∧AllBare s'.gens) s₁:=by
  have rv:=g'N hi
  have lenV:=hi.length
  have core:∀ H:Hp,Only H→SqL K H a (ns.map V.int)→HOk P w H s₁.heap→(∀ b,H b≠none→b=a)→(H a≠none→K.lookup a=none)→
      codeAny (model P w) callerA (.call (.ref fa) ⟨[.ref a],[]⟩) (fun r s'=>r=.ok (.ret (.bool true))∧OldK s₁.heap s'.heap∧s'.os=s₁.os∧AllBare s'.gens) s₁:=by
    intro H hO hS hok hA hK
    have base_of:∀ {b:Addr} {o:Obj},s₁.heap.get? b=some o→H b=none→(hidT s₁.heap H).get? b=some o:=fun e n=>l'd e n
    have noA:∀ {b:Addr} {o:Obj} {es:Array DictEntry} {ep:Nat},s₁.heap.get? b=some o→o.data=.dict es ep→H b=none:=fun {b o es ep} e d=>by
      cases q:H b with
      | none=>rfl
      | some u=>
        have e':b=a:=hA b (by rw [q];simp)
        subst e'
        rw [ha] at e;cases e
        have d':Data.seq vs.toArray _=Data.dict es ep:=d
        cases d'
    have nsK:∀ {b:Addr} {m:Str→Option Value},s₁.heap.Ns b m→(hidT s₁.heap H).Ns b m:=fun {b m} ⟨o,es,ep,e,d,r⟩=>⟨o,es,ep,base_of e (noA e d),d,r⟩
    have hKb:K.In (hidT s₁.heap H):=fun b o e=>base_of (KX b o e) (by
      cases q:H b with
      | none=>rfl
      | some u=>
        have e':b=a:=hA b (by rw [q];simp)
        subst e'
        rw [hK (by rw [q];simp)] at e;cases e)
    have hM:Mod K mg (hidT s₁.heap H):=⟨hKb,nsK hns,⟨mb,nsK hb,hbb⟩,let ⟨mc,h1,h2⟩:=hlim;⟨mc,nsK h1,h2⟩⟩
    have e0:Env0 P w K mg (hidT s₁.heap H) callerA [] s₁ H:=⟨rfl,hM,fun b o e=>m'c e,Nat.le_of_eq (j'N _ _),trivial,fun b hb=>absurd (show b∈([]:List Addr) from hb) (by simp),hok,.of_eq hg⟩
    refine codeAny_mono ((F _ hKb (nsK hns)).run callerA [] s₁ H ⟨[.ref a],[]⟩ [.ref a] [.ref a] _ _ hr e0 (hbind s₁ (.ref a)) (.cons rfl .nil) (hsp H hO hS)) fun r s' h=>?_
    cases r with
    | error e=>exact (hCX H e s' h).elim
    | ok fl=>
      cases fl with
      | next=>exact False.elim h
      | brk=>exact False.elim h
      | cont=>exact False.elim h
      | ret u=>
        obtain⟨v,H',os,bare,un,hok',r',q⟩:=h
        have q':v=.bl true:=q
        subst q'
        obtain rfl:u=Value.bool true:=r'
        refine⟨rfl,OldK.of_keep fun b o e=>?_,os,bare⟩
        cases q:H b with
        | none=>exact un.keep b o e q (by intro z;exact absurd (show b∈([]:List Addr) from z) (by simp)) (by simp)
        | some u=>
          rcases hO b with z | ⟨ob,xs,z⟩
          · rw [q] at z;cases z
          · have z2:=un.frzs b ob _ z
            obtain⟨e1,_⟩:=hok b _ z
            obtain⟨e2,_⟩:=hok' b _ z2
            rw [e] at e1;cases e1
            exact e2
  cases hk:K.lookup a with
  | some o =>
    have e:=KX a o hk
    rw [ha] at e
    cases e
    refine core (fun _=>none) (fun _=>.inl rfl) (.inr ⟨_,vs.toArray,_,hk,rfl,rfl,rfl,by rw [List.size_toArray,lenV];exact hl,by simpa using rv⟩) (fun b u z=>by have z':(none:Option HO)=some u:=z;cases z') (fun b z=>absurd rfl z) fun z=>absurd rfl z
  | none =>
    refine core (fun b=>if b=a then some (.frz { cls:=.type "list",data:=.seq vs.toArray } (.lst (ns.map V.int))) else none) (fun b=>?_) (.inl (.inr ⟨{ cls:=.type "list",data:=.seq vs.toArray },if_pos rfl⟩)) (fun b u z=>?_) (fun b z=>?_) fun _=>hk
    · by_cases hb:b=a
      · exact .inr ⟨_,_,if_pos hb⟩
      · exact .inl (if_neg hb)
    · by_cases hb:b=a
      · have z':=(if_pos hb).symm.trans z
        cases z'
        subst hb
        exact⟨ha,by rw [List.length_map];exact hl,vs,_,rv,ha⟩
      · have z':=(if_neg hb).symm.trans z
        cases z'
    · by_cases hb:b=a
      · exact hb
      · exact absurd (if_neg hb) z
end L2
namespace L2
open PySem PySem.Spec PyProof.Rows
theorem walk_of {l:PySem.W.OpenLaw} {n k:Nat} {q:Program} {loose:List Str} {XP:(Str→Option Value)→Heap→Prop} {YP:World→Heap→Prop} {d:DefRec} {K:Params→PySem.W.Frag} {CX:World→CXT} {sp:World→Sp} {x:Str}
    (hn:l.most=some n) (hn2:n≤sizeLine) (hdf:d.params.defaults=[]) (hr:Room k callerA)
    (hY:∀ (w:World) (h:Heap),YP w h→(K w.params).In h)
    (F:∀ (w:World) (mg:Str→Option Value) (fa:Addr) (h:Heap),(K w.params).In h→h.Ns mainGlobals mg→mg d.name=some (.ref fa)→
      ∃ fd:FuncData,(∀ (s:Shared) (u:Value),BindsTo s fd ⟨[u],[]⟩ [(x,u)])∧
        ∀ base:Heap,(K w.params).In base→base.Ns mainGlobals mg→FnOk l.prog w (K w.params) mg base (CX w) k fa fd [x] (sp w))
    (hsp:∀ (w:World) (H:Hp) (a:Addr) (ns:List Int),ns.length≤n→Only H→SqL (K w.params) H a (ns.map V.int)→sp w [.ref a] H (fun v _=>v=.bl true) fun _ _ _=>False)
    (hCX:∀ (w:World) (H:Hp) (s:Shared) (e:Value) (s':Shared),CX w [] H s (fun _ _ _=>False) e s'→False) :
    PySem.W.WalkO q loose XP YP l.row.toRowW d [] (fun f vs=>PySem.call f vs):=by
  refine Att.attach_call hn hdf fun w s₀ s₁ mg mb fa o pm cd doc a vs ns G Y ho hd hcd hmg hobj hints hlen hg=>?_
  have KX:=hY w _ Y
  obtain⟨fd,hb,hF⟩:=F w mg fa _ KX G.T.g hmg
  exact l'm KX G.T.g G.T.b G.T.builtins G.T.nolimit hg hobj hints (Nat.le_trans hlen hn2) hr hF hb (fun H hO hS=>hsp w H a ns hlen hO hS) fun H e s'=>hCX w H s₁ e s'
end L2
namespace L2
open PySem PySem.Spec PyProof.Rows
def defArgs (s:Stmt):Arguments:=match s with
  | .FunctionDef _ a _ _ _ _ _ _ _ _ => a
  | _ => { posonlyargs := [], args := [], vararg := none, kwonlyargs := [], kw_defaults := [], kwarg := none, defaults := [] }
def defBody (s:Stmt):List Stmt:=match s with
  | .FunctionDef _ _ b _ _ _ _ _ _ _ => b
  | _ => []
def defScope (s:Stmt):Scope:=match s with
  | .FunctionDef _ _ _ _ _ _ sc _ _ _ => sc
  | _ => { kind := .function, names := [], isGenerator := false, isCoroutine := false }
abbrev CX0:CXT:=fun _ _ _ _ _ _=>False
abbrev E0:XK:=fun _ _ _=>False
theorem a'j {X:Cx}:Passes CX0 X E0:=fun _ _ _ _ _ _ _ h=>h.elim
structure Fun (K:PySem.W.Frag) (x qual:Str) (st:Stmt) (f:Addr) (fd:FuncData):Prop where
  ex:∃ (oc:Value) (od:Option Addr) (kV doc pm:Value) (an:Option Addr) (cdv ct:Value) (osl:Array (Option Value)),
    fd=PySem.W.fnOf x qual (defArgs st) (defBody st) (defScope st) .none kV doc pm an cdv ct∧K.lookup f=some ⟨oc,od,.func fd,osl⟩∧PySem.W.codeIn K cdv qual=true
  kp:PySem.W.keepIn K (.ref f)=true
section
variable {P:Program} {w:World} {K:PySem.W.Frag} {mg:Str→Option Value} {base:Heap}
theorem Fun.ok {x qual:Str} {st:Stmt} {f:Addr} {fd:FuncData} {N ps:List Str} {k:Nat} {sp:Sp} (F:Fun K x qual st f fd) (S:FnScope N ps (defScope st)) (len:∀ vs H Q E,sp vs H Q E→vs.length=ps.length)
    (hbody:∀ (cdv:Value) (A:Around) (outer:List Env) (s:Shared) (H:Hp) (vs:List V) (Q:VK) (E:XK),Room k (A.deeper (envOfC qual (defScope st) s.heap.objs.size f cdv))→sp vs H Q E→
      ∃ t,PSs (cxOf CX0 P w K mg base N qual (defScope st) f cdv A outer s H E).nox (defBody st) t∧t { nx:=fun _ H'=>Q .non H',rt:=Q } (start N vs) H):FnOk P w K mg base CX0 (k+1) f fd ps sp:=by
  obtain⟨oc,od,kV,doc,pm,an,cdv,ct,osl,rfl,lk,hcd⟩:=F.ex
  refine l'S lk hcd S len fun A outer s H vs Q E hr hsp=>?_
  obtain⟨t,h,q⟩:=hbody cdv A outer s H vs Q E hr hsp
  exact⟨t,h.nox,q⟩
theorem Fun.binds {x qual:Str} {st:Stmt} {f:Addr} {fd:FuncData} {ps:List Str} (F:Fun K x qual st f fd)
    (h:∀ (kV doc pm:Value) (an:Option Addr) (cdv ct:Value) (us:List Value),us.length=ps.length→bindArgs (PySem.W.fnOf x qual (defArgs st) (defBody st) (defScope st) .none kV doc pm an cdv ct) ⟨us,[]⟩=pure (ps.zip us)):Binds K fd ps []:=by
  obtain⟨oc,od,kV,doc,pm,an,cdv,ct,osl,rfl,lk,hcd⟩:=F.ex
  exact .all (h kV doc pm an cdv ct)
theorem n'v {x qual:Str} {st:Stmt} {f:Addr} {oc:Value} {od an:Option Addr} {osl:Array (Option Value)} {kV doc pm cdv ct:Value} (l:K.lookup f=some ⟨oc,od,.func (PySem.W.fnOf x qual (defArgs st) (defBody st) (defScope st) .none kV doc pm an cdv ct),osl⟩)
    (c:PySem.W.codeIn K cdv qual=true) (k:PySem.W.keepIn K (.ref f)=true):Fun K x qual st f (PySem.W.fnOf x qual (defArgs st) (defBody st) (defScope st) .none kV doc pm an cdv ct):=⟨⟨oc,od,kV,doc,pm,an,cdv,ct,osl,rfl,l,c⟩,k⟩
end
theorem a'M {A:Around} {k:Nat} (hr:Room k A):A.units+1<cLine:=Nat.lt_of_le_of_lt (Nat.add_le_add_left (by decide:1≤64) _) hr.units
section
variable {X:Cx}
theorem pv (i:Nat) {x:Str} {pos:Pos} (hN:X.N[i]?=some x:=by rfl) (hv:Vis X.env.scope x:=by first | exact Or.inl rfl | exact Or.inr (Or.inl rfl) | exact Or.inr (Or.inr rfl)) (hd:(x == ("__debug__":Str))=false:=by decide)
    (hcd:(x == ("__classdict__":Str))=false:=by decide):PE X (.Name x pos) (tVar i):=n'p hN hv hd hcd
end
theorem b'x {A B:Prop} (h:B):if false=true then A else B:=by
  rw [if_neg Bool.false_ne_true]
  exact h
theorem c'b {A B:Prop} (h:A):if true=true then A else B:=by
  rw [if_pos rfl]
  exact h
def Same (H H':Hp):Prop:=∀ b o,H b=some o→H' b=some o
theorem Same.refl (H:Hp):Same H H:=fun _ _ h=>h
theorem Same.trans {H H1 H2:Hp} (a:Same H H1) (b:Same H1 H2):Same H H2:=fun c o h=>b c o (a c o h)
theorem Same.free {H H':Hp} (e:Same H H') {l:Addr} (h:H' l=Option.none):H l=Option.none:=by
  cases q:H l with
  | none => rfl
  | some o =>
    rw [e l o q] at h
    cases h
theorem Same.seq {K:PySem.W.Frag} {H H':Hp} {a:Addr} {xs:List V} (e:Same H H') (h:SqL K H a xs):SqL K H' a xs:=by
  rcases h with (h | ⟨o,h⟩) | h
  · exact .inl (.inl (e _ _ h))
  · exact .inl (.inr ⟨o,e _ _ h⟩)
  · exact .inr h
end L2
namespace L2
open PySem PySem.Spec PyProof.Rows
section
variable {X:Cx}
end
section
variable {κ:Type} [DecidableEq κ]
end
end L2
set_option Elab.async false
set_option linter.all false
set_option maxRecDepth 100000
set_option maxHeartbeats 4000000
namespace L2
open PySem PySem.Spec PyProof.Rows
def CMulB (i j:Int):Prop:=∃ n:Nat,n≤60000000∧i.natAbs<2 ^ n∧j.natAbs<2 ^ n
theorem i'I {x:Int} {n:Nat} (h:x.natAbs<2 ^ n):Builtin.Int.intBits x≤n:=by
  unfold Builtin.Int.intBits
  by_cases e:(x == 0)=true
  · rw [if_pos e];exact Nat.zero_le _
  · rw [if_neg e]
    have hx:x.natAbs≠0:=by
      intro z
      have:x=0:=by omega
      rw [this] at e
      exact e rfl
    exact (Nat.log2_lt hx).mpr h
theorem CMulB.ok {i j:Int} (h:CMulB i j):IntMulOk i j:=by
  obtain⟨n,hn,h1,h2⟩:=h
  have b1:=i'I h1
  have b2:=i'I h2
  intro z
  simp only [Bool.and_eq_true,Builtin.Int.intTooBig,decide_eq_true_eq] at z
  have e:(bitsLine:Nat)=134217728:=by decide
  have z2:=z.2
  rw [e] at z2
  omega
def CMulX (i j:Int):Prop:=CMul i j∨CMulB i j
def CDivB (_ j:Int):Prop:=j≠0∧j.natAbs<2 ^ 8000
theorem CDivB.ok {i j:Int} (h:CDivB i j):Builtin.divisionGoesByPylong i j=false:=by
  refine PyProof.noPylong_of_log2 ?_
  have hx:j.natAbs≠0:=by have:=h.1;omega
  have:=(Nat.log2_lt hx).mpr h.2
  omega
section
variable {X:Cx}
theorem a'L:OpR X (binaryOp .Mult) (rI CMulX fun i j=>.int (i*j)):=opI fun _ _ _ _ _ _ _ hc q=>mul_int q (hc.elim CMul.ok CMulB.ok)
theorem d'N:OpR X (binaryOp .FloorDiv) (rI CDivB fun i j=>.int (i.fdiv j)):=opI fun _ _ _ _ _ _ _ hc q=>floordiv_int hc.1 q (.inl hc.ok)
end
section
variable {X:Cx} {pins:List (Addr×Obj)} {σ:St} {H:Hp} {s:Shared} {a:Addr} {kvs:List (Key×V)}
theorem Inv.freeze (I:Inv X pins σ H s) (e:H a=some (.dK kvs)):∃ o,s.heap.get? a=some o∧Inv X pins σ (upd H a (.frz o (.dK kvs))) s:=by
  have ok:ObjOk X.prog X.w H s.heap a (.dK kvs):=I.hok a _ e
  obtain⟨z,y,vs,r,o,es,ep,ho,c⟩:=id ok
  refine⟨o,ho,?_⟩
  exact I.write (h':=s.heap) (t':=s.toks) (x:=a) (e:=a) (by rw [e];exact True.intro) (.inl rfl) (fun _ _ _ q=>q) ⟨o,ho⟩ ⟨ho,z,y,vs,r,o,es,ep,ho,c⟩
theorem Inv.thaw {o:Obj} (I:Inv X pins σ H s) (e:H a=some (.frz o (.dK kvs))) (hn:∀ o u,X.H₀ a≠some (.frz o u)):Inv X pins σ (upd H a (.dK kvs)) s:=by
  have ne:∀ b u,H b=some u→(∀ o u',u≠.frz o u')→b≠a:=fun b u h d z=>by
    subst z
    rw [e] at h
    exact d _ _ (Option.some.inj h).symm
  obtain⟨ho,ok⟩:=(show ObjOk X.prog X.w H s.heap a (.frz o (.dK kvs)) from I.hok a _ e)
  refine⟨I.ok,I.os,I.bare,⟨fun b ob q n hb hx=>I.base.keep b ob q n hb hx,fun b ob q n hb hx=>I.base.slot b ob q n hb hx,fun b ob q n hx=>?_,fun b ob q hx=>I.base.there b ob q hx,fun b xs q=>?_,fun b ob u q=>?_,fun b ps q=>?_⟩,I.loc,I.cell,?_,fun x c q=>?_,fun p hp=>?_,fun b u q=>?_,I.len⟩
  · have z:=I.base.free b ob q n hx
    rw [a't (by intro y;subst y;rw [e] at z;cases z)]
    exact z
  · have z:=I.base.tups b xs q
    rw [a't (ne b _ z (fun _ _ y=>by cases y))]
    exact z
  · have z:=I.base.frzs b ob u q
    rw [a't (by intro y;subst y;exact hn _ _ q)]
    exact z
  · obtain⟨m,z⟩:=I.base.tbls b ps q
    exact⟨m,by rw [a't (ne b _ z (fun _ _ y=>by cases y))];exact z⟩
  · rw [a't (by intro y;have z:=I.free;rw [y,e] at z;cases z)]
    exact I.free
  · rw [a't (by intro y;have z:=I.freeC x c q;rw [y,e] at z;cases z)]
    exact I.freeC x c q
  · obtain⟨p1,p2,p3,p4,p5⟩:=I.pin p hp
    refine⟨p1,?_,p3,p4,p5⟩
    rw [a't (by intro y;rw [y,e] at p2;cases p2)]
    exact p2
  · by_cases hb:b=a
    · subst hb
      rw [a'v] at q
      cases q
      exact ok
    · rw [a't hb] at q
      exact (I.hok b u q).stay (fun _ _ _ z=>z) (fun c z=>by rw [a't (ne c _ z (fun _ _ y=>by cases y))];exact z) fun c xs z=>by rw [a't (ne c _ z (fun _ _ y=>by cases y))];exact z
end
def Itd (a:Addr) (ob:Obj) (kvs:List (Key×V)):It:=
  ⟨fun i H=>i<kvs.length∧H a=some (.frz ob (.dK kvs)),fun i H x H'=>∃ p k v,kvs[i]?=some (k,v)∧H p=none∧x=.ref p∧H'=upd H p (.tup [kV k,v]),fun i H=>kvs.length≤i∧H a=some (.frz ob (.dK kvs))⟩
theorem h'E {P:Program} {w:World} {k:Key} {u:Value} (h:(mixKind P w).is k u=true):RelV (kV k) u:=by
  rcases b'c (k:=k) (v:=u) h with ⟨i,t,rfl,rfl⟩ | ⟨x,t,rfl,rfl⟩
  · exact⟨t,rfl⟩
  · exact⟨t,rfl⟩
theorem KV.at {kvs:List (Key×V)} {vs:List (Key×Value)} (r:KV kvs vs):∀ {i:Nat} {k:Key} {v:V},kvs[i]?=some (k,v)→∃ u,vs[i]?=some (k,u)∧RelV v u:=by
  unfold KV at r
  induction r with
  | nil => intro i k v h; simp at h
  | @cons p q ps qs h t ih =>
    intro i k v e
    cases i with
    | zero=>
      simp at e
      subst e
      have e1:k=q.1:=h.1
      exact⟨q.2,by rw [e1];rfl,h.2⟩
    | succ i=>simpa using ih (i:=i) (k:=k) (v:=v) (by simpa using e)
theorem j'q {P:Program} {w:World} {K:PySem.W.Frag} {elts:List Expr} {x1:Nat} {pos:Pos} (a it:Addr) (ob:Obj) (kvs:List (Key×V)) (hne:a≠it) :
    Turn P w K (.Tuple elts x1 pos) (Itd a ob kvs) [it] it (fun i h=>∃ es ep ok ov,ob.data=.dict es ep∧IsItemIter h it a i kvs.length ep ok ov) where
  mem:=by simp
  obj:=fun i h st b hb=>by
    have e:b=it:=by simpa using hb
    subst e
    obtain⟨es,ep,ok,ov,hd,e⟩:=st
    exact⟨_,e,fun v z=>by cases z⟩
  keep:=fun i h h' st k=>by
    obtain⟨es,ep,ok,ov,hd,e⟩:=st
    exact⟨es,ep,ok,ov,hd,k it (by simp) _ e⟩
  item:=by
    intro X hP hw hK hc i pins s σ H E I hf st hg
    subst hP hw hK
    obtain⟨es,ep,ok,ov,hd,hit⟩:=st
    obtain⟨hi,hH⟩:=hg
    obtain⟨ho,z,y,vs,r,o',es',ep',ho',c1,c2,c3,c4,c5⟩:=(show ObjOk X.prog X.w H s.heap a (.frz ob (.dK kvs)) from I.hok a _ hH)
    have eo:o'=ob:=by rw [ho] at ho';exact (Option.some.inj ho').symm
    subst eo
    rw [hd] at c2
    cases c2
    have hm:s.heap.DictAt (mixKind X.prog X.w) a vs ep:=⟨o',es,ho,c1,hd,c3,c4,c5⟩
    obtain⟨⟨k,v⟩,hkv⟩:∃ q,kvs[i]?=some q:=⟨kvs[i],by simp [hi]⟩
    obtain⟨u,hu,ru⟩:=r.at hkv
    have hl:kvs.length=vs.length:=KV.length r
    rw [hl] at hit
    obtain⟨f0,f1,f2,f3,f4,f5⟩:=hf it (by simp)
    refine wpAny_pyNext_items_item hit hm hu fun key h' hkey hout hT hsz hk=>?_
    refine⟨.ref s.heap.objs.size,rfl,wpAny_letOwnedTupleGo_items hout fun h2 he hs=>?_⟩
    have lit:it<s.heap.objs.size:=Heap.lt_size hit
    have I1:=I.laid (a:=s.heap.objs.size) (o:=.tup [kV k,v]) (h':=s.heap.push { cls:=.type "tuple",data:=.seq #[key,u] }) (t':=s.toks) (fun b q hq=>Heap.get?_push_of_some _ hq) (Nat.le_refl _)
      ⟨by show 2≤sizeLine;decide,[key,u],.cons (h'E hkey) (.cons ru .nil),⟨_,Heap.get?_push_size _ rfl,rfl,_,rfl⟩⟩
    have hfr:H s.heap.objs.size=none:=I.hok.fresh (Nat.le_refl _)
    have nit:it≠s.heap.objs.size:=Nat.ne_of_lt lit
    refine⟨.ref s.heap.objs.size,upd H s.heap.objs.size (.tup [kV k,v]),?_,rfl,⟨_,k,v,hkv,hfr,rfl,rfl⟩,⟨es,ep,key,u,hd,by rw [hl];exact he⟩,fun b hb=>?_⟩
    · have I2:Inv X pins σ (upd H s.heap.objs.size (.tup [kV k,v])) { s with heap:=h2,toks:=s.toks }:=Inv.turned (s:={ s with heap:=s.heap.push { cls:=.type "tuple",data:=.seq #[key,u] },toks:=s.toks }) I1 (h':=h2) (t':=s.toks) (it:=it) (fun b q hb hq=>?_) (by rw [a't nit];exact f0) f1 f3 f4 f5
      · exact I2
      · refine hs.extBut b q hb ?_
        rcases Heap.get?_push_cases hq with ⟨hbs,eq⟩ | hq
        · subst hbs
          subst eq
          exact hT
        · exact hk b q hb hq
    · have e:b=it:=by simpa using hb
      subst e
      rw [a't nit]
      exact f0
  done:=by
    intro X hP hw hK hc i pins s σ H E I hf st hg
    subst hP hw hK
    obtain⟨es,ep,ok,ov,hd,hit⟩:=st
    obtain⟨hi,hH⟩:=hg
    obtain⟨ho,z,y,vs,r,o',es',ep',ho',c1,c2,c3,c4,c5⟩:=(show ObjOk X.prog X.w H s.heap a (.frz ob (.dK kvs)) from I.hok a _ hH)
    have eo:o'=ob:=by rw [ho] at ho';exact (Option.some.inj ho').symm
    subst eo
    rw [hd] at c2
    cases c2
    have hm:s.heap.DictAt (mixKind X.prog X.w) a vs ep:=⟨o',es,ho,c1,hd,c3,c4,c5⟩
    have hl:kvs.length=vs.length:=KV.length r
    rw [hl] at hit
    obtain⟨f0,f1,f2,f3,f4,f5⟩:=hf it (by simp)
    exact wpAny_pyNext_items_end (I.ok.hd hc) hit hm (by simp;omega) fun h' eb=>⟨rfl,I.turned (t':=s.toks) (fun b o hb e=>eb b o hb e) f0 f1 f3 f4 f5⟩
  self:=fun A i s Q E st h=>by
    obtain⟨es,ep,ok,ov,hd,hit⟩:=st
    exact PySem.W.kcp_self hit h
section
variable {X:Cx}
def iItems (X:Cx) (td:TE):TI:=fun σ H R=>td σ H fun x H1=>∃ a kvs,x=.ref a∧H1 a=some (.dK kvs)∧∀ ob,(∀ o u,X.H₀ a≠some (.frz o u))→R (Itd a ob kvs) (upd H1 a (.frz ob (.dK kvs)))
theorem h'F {o:Expr} {td:TE} {elts:List Expr} {x1:Nat} {pos apos cpos:Pos} (ho:PE X o td) (hbase:attributeBase o "items" X.env (eval o X.env)=eval o X.env) (hline:(apos.endLine == cpos.line)=true) :
    PI X (.Tuple elts x1 pos) (.Call (.Attribute o "items" apos) [] [] cpos) (iItems X td):=by
  intro pins s σ H R I h
  refine wpAny_Call_method0_late hbase hline (thn (ho pins s σ H _ I h) fun v s1 ⟨x,H1,I1,r1,a,kvs,ex,hH,q⟩=>?_)
  subst ex
  obtain rfl:v=Value.ref a:=r1
  obtain⟨t1,t2,hd⟩:=j'Z I1 (.inl ⟨kvs,.inl hH⟩)
  refine⟨"dict","dict.items",PySem.F.plainAttrs_dict,PySem.F.slot_dict_items,PySem.F.type_dict_items,t1,t2,Calls.callWith_builtin rfl (PySem.evalArgs_none ?_)⟩
  obtain⟨z,y,vs,r,dd⟩:=j'o I1.hok hH
  refine call_meetsIn PySem.F.slot_dict_items t1 PySem.F.entry_dict_items (PySem.F.args_dict_items_1 _) (meets_dict_items (mixKind X.prog X.w) a hd) ⟨⟨vs,dd⟩,?_⟩
  have I2:Inv X pins σ H1 { s1 with heap:=s1.heap.push { cls:=.type "dict_items",data:=.fields #[.ref a] } }:=I1.kept (t':=s1.toks) fun b o e=>Heap.get?_push_of_some _ e
  have hna:∀ o u,X.H₀ a≠some (.frz o u):=fun o u z=>by
    have:=I1.base.frzs a o u z
    rw [hH] at this
    cases this
  obtain⟨ep,hat⟩:=dd.dictAt
  have hat2:=hat.push { cls:=.type "dict_items",data:=.fields #[.ref a] }
  refine wpAny_pyIter_items (v:=s1.heap.objs.size) (d:=a) ⟨_,Heap.get?_push_size _ rfl,rfl,rfl⟩ hat2 ?_
  obtain⟨ob,hob,I3⟩:=(I2.kept (t':=s1.toks) (h':=(s1.heap.push { cls:=.type "dict_items",data:=.fields #[.ref a] }).push { cls:=.type "dict_itemiterator",data:=.fields #[.none,.bool false,.ref a,.int 0 0,.int vs.length 0,.int ep 0,.none,.none] }) fun b o e=>Heap.get?_push_of_some _ e).freeze hH
  have la:a<(s1.heap.push { cls:=.type "dict_items",data:=.fields #[.ref a] }).objs.size:=hat2.lt_size
  have hl:kvs.length=vs.length:=KV.length r
  refine⟨_,[_],_,_,upd H1 a (.frz ob (.dK kvs)),rfl,I3,j'q a (s1.heap.push { cls:=.type "dict_items",data:=.fields #[.ref a] }).objs.size ob kvs (Nat.ne_of_lt la),?_,fun b hb=>?_,q ob hna⟩
  · obtain⟨o2,es,ho2,c1,c2,_⟩:=hat2
    have e3:ob=o2:=by
      have e4:=Heap.get?_push_of_some { cls:=.type "dict_itemiterator",data:=.fields #[.none,.bool false,.ref a,.int 0 0,.int vs.length 0,.int ep 0,.none,.none] } ho2
      rw [e4] at hob
      exact (Option.some.inj hob).symm
    subst e3
    refine⟨es,ep,.none,.none,c2,?_⟩
    rw [hl]
    exact Heap.get?_push_size _ rfl
  · have e:b=(s1.heap.push { cls:=.type "dict_items",data:=.fields #[.ref a] }).objs.size:=by simpa using hb
    subst e
    refine I2.fpOk (Nat.le_refl _) ?_
    rw [a't (Nat.ne_of_gt la)]
    exact I2.hok.fresh (Nat.le_refl _)
def Thaw (X:Cx) (R:Hp→Prop) (H:Hp):Prop:=∃ a ob kvs,H a=some (.frz ob (.dK kvs))∧(∀ o u,X.H₀ a≠some (.frz o u))∧R (upd H a (.dK kvs))
def ThawD (X:Cx) (D:Ends):Ends:={ nx:=fun σ=>Thaw X (D.nx σ),rt:=fun v=>Thaw X (D.rt v),bk:=fun σ=>Thaw X (D.bk σ),ct:=fun σ=>Thaw X (D.ct σ) }
def tForD (X:Cx) (td:TE) (g:TG) (tb:TS):TS:=fun D σ H=>tFor (iItems X td) g tb (ThawD X D) σ H
theorem d'u {o:Expr} {td:TE} {elts:List Expr} {x1:Nat} {pos apos cpos fpos:Pos} {body:List Stmt} {g:TG} {tb:TS} (hp:PassesOwn (model X.prog X.w) X.A X.env X.xe) (hc:X.calm=true) (ho:PE X o td)
    (hg:PG X (.Tuple elts x1 pos) g) (hb:PSs X body tb) (hbase:attributeBase o "items" X.env (eval o X.env)=eval o X.env:=by rfl) (hline:(apos.endLine == cpos.line)=true:=by rfl)
    (hs:∀ x,foldedSetIterable (.Call (.Attribute o "items" apos) [] [] cpos) X.env x=pure x:=by intro _;rfl):PS X (.For (.Tuple elts x1 pos) (.Call (.Attribute o "items" apos) [] [] cpos) body [] fpos) (tForD X td g tb):=by
  intro pins s σ H D I h
  have base:=d'q (pos:=fpos) hp hc (h'F (elts:=elts) (x1:=x1) (pos:=pos) ho hbase hline) hg hb hs pins s σ H (ThawD X D) I h
  refine thn base fun f s' q=>?_
  cases f with
  | next => obtain ⟨σ', H', I', a, ob, kvs, e, hn, r⟩ := q; exact ⟨σ', _, I'.thaw e hn, r⟩
  | brk => obtain ⟨σ', H', I', a, ob, kvs, e, hn, r⟩ := q; exact ⟨σ', _, I'.thaw e hn, r⟩
  | cont => obtain ⟨σ', H', I', a, ob, kvs, e, hn, r⟩ := q; exact ⟨σ', _, I'.thaw e hn, r⟩
  | ret u => obtain ⟨v, σ', H', I', rv, a, ob, kvs, e, hn, r⟩ := q; exact ⟨v, σ', _, I'.thaw e hn, rv, r⟩
end
theorem c'C {a:Addr} {ob:Obj} {kvs:List (Key×V)} {g:TG} {tb:TS} {D:Ends} {σ:St} {H:Hp} (Pv:Nat→St→Hp→Prop) (h0:Pv 0 σ H) (hl:∀ i σ H,i≤kvs.length→Pv i σ H→H a=some (.frz ob (.dK kvs)))
    (hs:∀ i k v σ H p,kvs[i]?=some (k,v)→Pv i σ H→H p=none→g (.ref p) σ (upd H p (.tup [kV k,v])) fun σ2 H2=>tb { D with nx:=Pv (i+1),ct:=Pv (i+1),bk:=D.nx } σ2 H2) (hd:∀ σ H,Pv kvs.length σ H→D.nx σ H) :
    ∃ W:Nat→Nat→St→Hp→Prop,(∃ m,W 0 m σ H)∧∀ i m σ H,W i m σ H→
      ((Itd a ob kvs).stop i H∧D.nx σ H)∨((Itd a ob kvs).go i H∧∃ N:St→Hp→Prop,(∀ σ' H',N σ' H'→∃ m',m'<m∧W (i+1) m' σ' H')∧∀ x H',(Itd a ob kvs).yld i H x H'→g x σ H' fun σ2 H2=>tb { D with nx:=N,ct:=N,bk:=D.nx } σ2 H2):=by
  refine⟨fun i m σ H=>m=kvs.length - i∧i≤kvs.length∧Pv i σ H,⟨kvs.length,by simp,Nat.zero_le _,h0⟩,?_⟩
  rintro i m σ H ⟨rfl,hi,p⟩
  have q:=hl i σ H hi p
  by_cases hlt:i<kvs.length
  · refine .inr ⟨⟨hlt,q⟩,Pv (i+1),fun σ' H' p'=>⟨kvs.length - (i+1),by omega,rfl,hlt,p'⟩,fun x H' y=>?_⟩
    obtain⟨pa,k,v,e1,e2,rfl,rfl⟩:=y
    exact hs i k v σ H pa e1 p e2
  · have e:i=kvs.length:=by omega
    subst e
    exact .inl ⟨⟨Nat.le_refl _,q⟩,hd σ H p⟩
section
variable {X:Cx}
theorem d'O:CallR X (.type "dict") (fun xs H Q=>∃ a kvs,xs=[.ref a]∧Rd H a (.dK kvs)∧∀ p,H p=none→Q (.ref p) (upd H p (.dK kvs))):=by
  intro pins s σ H xs us Q I r h
  obtain⟨a,kvs,rfl,ha,q⟩:=h
  obtain⟨u,rfl,ru⟩:=e'y r
  cases ru
  exact l'k I ha fun p s' hp I'=>⟨.ref p,_,I',rfl,q p hp⟩
theorem k'e:MtR X "dict.clear" (fun x xs H Q=>∃ a kvs,x=.ref a∧xs=[]∧H a=some (.dK kvs)∧Q .non (upd H a (.dK []))):=by
  intro pins s σ H x xs v us Q I rx rv h
  obtain⟨a,kvs,rfl,rfl,ha,q⟩:=h
  cases rx
  cases rv
  exact m'h I ha fun s' I'=>⟨.non,_,I',rfl,q⟩
def clsV:V→Option Value
  | .ty n => some (.type n)
  | .ref a => some (.ref a)
  | _ => none
theorem h'G:CallR X (.builtin "isinstance") (fun xs H Q=>∃ x c t b u,xs=[x,c]∧TyOf X.K H x t∧clsV c=some u∧PySem.W.kitOne X.K t u=some b∧Q (.bl b) H):=by
  intro pins s σ H xs us Q I r h
  obtain⟨x,c,t,b,u,rfl,ty,rc,e,q⟩:=h
  obtain⟨v,w',rfl,rx,rw'⟩:=j'k r
  have ew:w'=u:=by
    cases c with
    | ref a=>cases rc;exact rw'
    | ty n=>cases rc;exact rw'
    | non=>cases rc
    | bl n=>cases rc
    | int i=>cases rc
    | str i=>cases rc
    | byt i=>cases rc
    | flt i=>cases rc
  subst ew
  exact j'V I rx ty e fun tk=>⟨.bl b,H,I.tok tk,rfl,q⟩
end
def All2 (R:V→V→Prop):List V→List V→Prop
  | [], [] => True
  | x :: xs, y :: ys => R x y ∧ All2 R xs ys
  | _, _ => False
theorem All2.length {R:V→V→Prop}:∀ {xs ys:List V},All2 R xs ys→xs.length=ys.length
  | [], [], _ => rfl
  | _ :: xs, _ :: ys, h => by rw [List.length_cons, List.length_cons, All2.length h.2]
  | [], _ :: _, h => h.elim
  | _ :: _, [], h => h.elim
theorem All2.get {R:V→V→Prop}:∀ {xs ys:List V} {j:Nat} {x y:V},All2 R xs ys→xs[j]?=some x→ys[j]?=some y→R x y
  | x :: xs, y :: ys, 0, _, _, h, e1, e2 => by simp at e1 e2; subst e1 e2; exact h.1
  | _ :: xs, _ :: ys, j + 1, x, y, h, e1, e2 => All2.get (xs := xs) (ys := ys) (j := j) h.2 (by simpa using e1) (by simpa using e2)
  | [], [], _, _, _, _, e1, _ => by simp at e1
  | [], _ :: _, _, _, _, h, _, _ => h.elim
  | _ :: _, [], _, _, _, h, _, _ => h.elim
def EqT (K:PySem.W.Frag) (H:Hp):Nat→V→V→Prop
  | 0, x, y => flatV x = true ∧ x = y
  | n + 1, x, y => (flatV x = true ∧ x = y) ∨ ∃ p q xs ys, x = .ref p ∧ y = .ref q ∧ ((SqT K H p xs ∧ SqT K H q ys) ∨ (SqL K H p xs ∧ SqL K H q ys)) ∧ All2 (EqT K H n) xs ys
theorem c'X {x:V} (h:flatV x=true):eqV x x=true:=by
  cases x<;>first | rfl | (simp [eqV];done) | (simp [flatV] at h)
theorem b'o (A:Around):A.in1.units=A.units+1:=rfl
section
variable {X:Cx} {pins:List (Addr×Obj)} {σ:St} {H:Hp} {s:Shared}
theorem n'w {A:Around} {p q:Addr} {xs ys:List V} (I:Inv X pins σ H s) (hk:(SqT X.K H p xs∧SqT X.K H q ys)∨(SqL X.K H p xs∧SqL X.K H q ys)) (hu:A.units<cLine) (hl:xs.length=ys.length)
    (he:∀ (j:Nat) x y u v,xs[j]?=some x→ys[j]?=some y→RelV x u→RelV y v→SeqAt.EqAt A.in1 s u v true):SeqAt.RcAt A s (.ref p) (.ref q) true:=by
  have fin:∀ (its its2:List Value),Vals xs its→Vals ys its2→∀ j (h1:j<its.toArray.size) (h2:j<its2.toArray.size),SeqAt.EqAt A.in1 s its.toArray[j] its2.toArray[j] true:=by
    intro its its2 r1 r2 j h1 h2
    have l1:=r1.length
    have l2:=r2.length
    simp only [List.size_toArray] at h1 h2
    obtain⟨u,hu1,ru⟩:=r1.get (i:=j) (x:=xs[j]'(by omega)) (by simp)
    obtain⟨v,hv1,rv⟩:=r2.get (i:=j) (x:=ys[j]'(by omega)) (by simp)
    have e1:its.toArray[j]'(by simpa using h1)=u:=by
      have:=List.getElem?_eq_some_iff.mp hu1
      obtain⟨_,z⟩:=this
      simpa using z
    have e2:its2.toArray[j]'(by simpa using h2)=v:=by
      have:=List.getElem?_eq_some_iff.mp hv1
      obtain⟨_,z⟩:=this
      simpa using z
    rw [e1,e2]
    exact he j _ _ u v (by simp) (by simp) ru rv
  rcases hk with ⟨h1,h2⟩ | ⟨h1,h2⟩
  · obtain⟨its,r1,t1,_⟩:=I.tuple h1
    obtain⟨its2,r2,t2,_⟩:=I.tuple h2
    have l1:=r1.length
    have l2:=r2.length
    have z:=SeqAt.RcAt.tuples (A:=A) (e:=fun _=>true) t1 t2 hu (fin its its2 r1 r2)
    have e:((List.range (min its.toArray.size its2.toArray.size)).all (fun _=>true) && its.toArray.size == its2.toArray.size)=true:=by
      simp only [List.size_toArray]
      simp
      omega
    rw [e] at z
    exact z
  · obtain⟨its,r1,t1,_⟩:=I.list h1
    obtain⟨its2,r2,t2,_⟩:=I.list h2
    have l1:=r1.length
    have l2:=r2.length
    have z:=SeqAt.RcAt.lists (A:=A) (e:=fun _=>true) t1.isList t2.isList (by simp;omega) hu (fin its its2 r1 r2)
    have e:(List.range its.toArray.size).all (fun _=>true)=true:=by simp
    rw [e] at z
    exact z
theorem k'f (I:Inv X pins σ H s):∀ (n:Nat) {A:Around} {x y:V} {u v:Value},EqT X.K H n x y→RelV x u→RelV y v→A.units+n<cLine→SeqAt.EqAt A s u v true
  | 0, A, x, y, u, v, ⟨f, e⟩, ru, rv, _ => by
    subst e
    have z:=c'V (A:=A) (s:=s) ru rv f f
    rw [c'X f] at z
    exact z
  | n + 1, A, x, y, u, v, .inl ⟨f, e⟩, ru, rv, _ => by
    subst e
    have z:=c'V (A:=A) (s:=s) ru rv f f
    rw [c'X f] at z
    exact z
  | n + 1, A, x, y, u, v, .inr ⟨p, q, xs, ys, hx, hy, hk, al⟩, ru, rv, hu => by
    subst hx hy
    cases ru
    cases rv
    by_cases e:p=q
    · subst e
      exact SeqAt.EqAt.same _
    · refine SeqAt.EqAt.of_refs e (n'w I hk (by omega) al.length fun j x y u v h1 h2 r1 r2=>?_)
      exact k'f I n (A:=A.in1) (al.get h1 h2) r1 r2 (by rw [b'o];omega)
end
section
variable {X:Cx}
theorem j'r {kvs:List (Key×V)} {vs:List (Key×Value)} {k:Key} {y:V} (r:KV kvs vs) (e:valV kvs k=some y):∃ u,valueAt vs k=some u∧RelV y u:=
  RelO.some_of (v:=y) (o:=valueAt vs k) (by rw [← e];exact r.val k)
def DEqT (K:PySem.W.Frag) (H:Hp) (n:Nat) (ka kb:List (Key×V)):Prop:=ka.length=kb.length∧∀ k v,(k,v)∈ka→∃ y,valV kb k=some y∧EqT K H n v y
theorem j's {pins:List (Addr×Obj)} {σ:St} {H:Hp} {s:Shared} {A:Around} {n:Nat} {kb:List (Key×V)} {vb:List (Key×Value)} (I:Inv X pins σ H s) (hu:A.units+n<cLine) (rb:KV kb vb) :
    ∀ {ka:List (Key×V)} {va:List (Key×Value)},KV ka va→(∀ k v,(k,v)∈ka→∃ y,valV kb k=some y∧EqT X.K H n v y)→PySem.W.KeqHits A s vb va true:=by
  intro ka va ra
  unfold KV at ra
  induction ra with
  | nil => intro _; exact .nil
  | @cons p q ps qs h t ih =>
    intro f
    obtain⟨y,e1,e2⟩:=f p.1 p.2 (List.mem_cons_self ..)
    obtain⟨u,e3,ru⟩:=j'r rb e1
    have z:=PySem.W.KeqHits.hit (A:=A) (s:=s) (k:=q.1) (v:=q.2) (y:=u) (r:=qs) (by rw [← h.1];exact e3) (k'f I n (A:=A) e2 h.2 ru hu) (ih fun k v m=>f k v (List.mem_cons_of_mem _ m))
    simpa using z
def rEqD (K:PySem.W.Frag) (b:Bool):R2:=fun x y H Q=>∃ n p q ka kb,n≤40∧x=.ref p∧y=.ref q∧Rd H p (.dK ka)∧Rd H q (.dK kb)∧DEqT K H n ka kb∧Q (.bl b) H
theorem n'x (hu:X.A.units+64<cLine):OpR X (compareOp .NotEq) (rEqD X.K false):=by
  intro pins s σ H x y v u Q I rx ry h
  obtain⟨n,p,q,ka,kb,hn,rfl,rfl,h1,h2,⟨hl,al⟩,hq⟩:=h
  cases rx
  cases ry
  obtain⟨z1,y1,va,r1,d1⟩:=b'S I.hok h1
  obtain⟨z2,y2,vb,r2,d2⟩:=b'S I.hok h2
  have l1:ka.length=va.length:=KV.length r1
  have l2:kb.length=vb.length:=KV.length r2
  refine PySem.W.keq_ne (r:=true) y1 y2 d1 d2 (by omega) (fun _=>j's I (by rw [b'o];omega) r2 r1 al) ?_
  have e:(va.length == vb.length && true)=true:=by simp;omega
  rw [e]
  exact⟨.bl false,H,I,rfl,hq⟩
theorem n'y (hu:X.A.units+64<cLine):OpR X (compareOp .Eq) (rEqD X.K true):=by
  intro pins s σ H x y v u Q I rx ry h
  obtain⟨n,p,q,ka,kb,hn,rfl,rfl,h1,h2,⟨hl,al⟩,hq⟩:=h
  cases rx
  cases ry
  obtain⟨z1,y1,va,r1,d1⟩:=b'S I.hok h1
  obtain⟨z2,y2,vb,r2,d2⟩:=b'S I.hok h2
  have l1:ka.length=va.length:=KV.length r1
  have l2:kb.length=vb.length:=KV.length r2
  refine PySem.W.keq_eq (r:=true) y1 y2 d1 d2 (by omega) (fun _=>j's I (by rw [b'o];omega) r2 r1 al) ?_
  have e:(va.length == vb.length && true)=true:=by simp;omega
  rw [e]
  exact⟨.bl true,H,I,rfl,hq⟩
end
end L2
namespace L2
open PySem PySem.Spec PyProof.Rows
section
variable {σ:St} {H:Hp} {Q:VK} {D:Ends} {K:PySem.W.Frag}
theorem a's {t u:TS} (h:t { D with nx:=u D } σ H):tSeq t u D σ H:=h
theorem k'g {t u:TS} (M:St→Hp→Prop) (h1:∀ R:St→Hp→Prop,(∀ σ H,M σ H→R σ H)→t { D with nx:=R } σ H) (h2:∀ σ H,M σ H→u D σ H):tSeq t u D σ H:=h1 (u D) h2
theorem a'E {te:TE} {g:TG} (h:te σ H fun x H1=>g x σ H1 D.nx):tAsg te g D σ H:=h
theorem a'z {i:Nat} {v:V} {R:St→Hp→Prop} (h:R (σ.set i (some v)) H):gName i v σ H R:=h
theorem a'A {te:TE} (h:te σ H D.rt):tRet te D σ H:=h
theorem c'j {te:TE} (h:te σ H fun _ H1=>D.nx σ H1):tDrop te D σ H:=h
theorem a'G (h:D.nx σ H):tNext D σ H:=h
theorem b'd {c:TT} {t u:TS} (h:c σ H fun b H1=>if b=true then t D σ H1 else u D σ H1):tIfS c t u D σ H:=h
theorem a'c {i:Nat} {v:V} (e:σ[i]?=some (some v)) (h:Q v H):tVar i σ H Q:=⟨v,e,h⟩
theorem a_c {v:V} (h:Q v H):tC v σ H Q:=h
theorem a'f {r:R2} {ta tb:TE} (h:ta σ H fun x H1=>tb σ H1 fun y H2=>r x y H2 Q):tOp r ta tb σ H Q:=h
theorem j't {r:V→Hp→VK→Prop} {ta:TE} (h:ta σ H fun x H1=>r x H1 Q):tUn r ta σ H Q:=h
theorem b'g {g:Int→Int→V} {i j:Int} (h:Q (g i j) H):rI0 g (.int i) (.int j) H Q:=⟨i,j,rfl,rfl,h⟩
theorem a_I {C:Int→Int→Prop} {g:Int→Int→V} {i j:Int} (c:C i j) (h:Q (g i j) H):rI C g (.int i) (.int j) H Q:=⟨i,j,rfl,rfl,c,h⟩
theorem a_U {g:Int→V} {i:Int} (h:Q (g i) H):rU g (.int i) H Q:=⟨i,rfl,h⟩
theorem a'B {t:TE} {R:Bool→Hp→Prop} (h:t σ H fun x H'=>∃ k,x=.bl k∧R k H'):tTest t σ H R:=h
theorem c't {t:TE} {R:Bool→Hp→Prop} (h:t σ H fun x H'=>∃ k,x=.bl k∧R k H'):tB t σ H R:=h
theorem a'C {k:Bool} {R:Bool→Prop} (h:R k):∃ k',V.bl k=.bl k'∧R k':=⟨k,rfl,h⟩
theorem c'K {i j:Int} (h:Q (.bl (decide (i=j))) H):rEq (.int i) (.int j) H Q:=⟨rfl,by rw [e'x,Bool.beq_eq_decide_eq];exact h⟩
theorem c'L {i j:Int} (h:Q (.bl (!decide (i=j))) H):rNe (.int i) (.int j) H Q:=⟨rfl,by rw [e'x,Bool.beq_eq_decide_eq];exact h⟩
theorem j'u {i j:Bool} (h:Q (.bl (!(i == j))) H):rNe (.bl i) (.bl j) H Q:=⟨rfl,by rw [h'w];exact h⟩
theorem a'p {sp:Sp} {dvs:List V} {E:XK} {t:TA} (h:t σ H fun vs H1=>sp (vs++dvs) H1 Q E):tCall sp dvs E t σ H Q:=h
theorem a'b {ta:TE} {tr:TA} {R:List V→Hp→Prop} (h:ta σ H fun x H1=>tr σ H1 fun xs H2=>R (x :: xs) H2):tCons ta tr σ H R:=h
theorem a'g {R:List V→Hp→Prop} (h:R [] H):tNil σ H R:=h
theorem a'U {r:List V→Hp→VK→Prop} {t:TA} (h:t σ H fun vs H1=>r vs H1 Q):tCB r t σ H Q:=h
theorem b'C {t:TA} (h:t σ H fun xs H1=>xs.length≤sizeLine∧∀ p,H1 p=none→Q (.ref p) (upd H1 p (.tup xs))):tTup t σ H Q:=h
theorem b'j {t:TA} (h:t σ H fun xs H1=>xs.length≤sizeLine∧∀ p,H1 p=none→Q (.ref p) (upd H1 p (.lst xs))):tLst t σ H Q:=h
theorem a'o {p:Addr} {xs:List V} {i:Int} {v:V} (h:SqT K H p xs) (e:atI xs i=some v) (q:Q v H):rIxT K (.ref p) (.int i) H Q:=⟨p,xs,i,v,rfl,rfl,h,e,q⟩
theorem b'T {p:Addr} {xs:List V} {i:Int} {v:V} (h:SqL K H p xs) (e:atI xs i=some v) (q:Q v H):rIxL K (.ref p) (.int i) H Q:=⟨p,xs,i,v,rfl,rfl,h,e,q⟩
theorem c'k {t u:TT} {R:Bool→Hp→Prop} (h:t σ H fun c H1=>if c=true then u σ H1 R else R false H1):tAnd t u σ H R:=h
theorem b'V {t u:TT} {R:Bool→Hp→Prop} (h:t σ H fun c H1=>if c=true then R true H1 else u σ H1 R):tOr t u σ H R:=h
theorem d'f {t:TT} {R:Bool→Hp→Prop} (h:t σ H fun c H1=>R (!c) H1):tNot t σ H R:=h
theorem d'v {ta tb:TE} (h:ta σ H fun x H1=>∃ c,x=.bl c∧if c=true then tb σ H1 Q else Q (.bl false) H1):tAndV ta tb σ H Q:=h
theorem h'H {ta:TE} (h:ta σ H fun x H1=>∃ c,x=.bl c∧Q (.bl (!c)) H1):tNotV ta σ H Q:=h
theorem j'v {t:TT} {ta tb:TE} (h:t σ H fun c H1=>if c=true then ta σ H1 Q else tb σ H1 Q):tIf t ta tb σ H Q:=h
theorem l'U {i j:Nat} {ta:TA} (h:ta σ H fun vs H1=>∃ v w,vs=[v,w]∧D.nx ((σ.set i (some v)).set j (some w)) H1):tPar i j ta D σ H:=h
theorem k'h {i j:Nat} {v w:V} {R:St→Hp→Prop} (h:R ((σ.set i (some v)).set j (some w)) H):∃ v' w',[v,w]=[v',w']∧R ((σ.set i (some v')).set j (some w')) H:=⟨v,w,rfl,h⟩
theorem a'V {c:Prop} [Decidable c] {A B:Prop} (h1:c→A) (h2:¬ c→B):if decide c=true then A else B:=by
  by_cases h:c
  · rw [decide_eq_true h];exact c'b (h1 h)
  · rw [decide_eq_false h];exact b'x (h2 h)
theorem b'r {c:Prop} [Decidable c] {A B:Prop} (h1:¬ c→A) (h2:c→B):if (!decide c)=true then A else B:=by
  by_cases h:c
  · rw [decide_eq_true h];exact b'x (h2 h)
  · rw [decide_eq_false h];exact c'b (h1 h)
theorem o'n {c:Prop} [Decidable c] {A B:Prop} (hc:¬ c) (h:B):if decide c=true then A else B:=by rw [decide_eq_false hc];exact b'x h
theorem d'P {A B:Prop} (h:B):if (!true)=true then A else B:=b'x h
theorem l'V {A B:Prop} (h:A):if (!false)=true then A else B:=c'b h
theorem Same.upd {a:Addr} {o:HO} (h:H a=none):Same H (upd H a o):=fun b u e=>by rw [a't (a'q e h)];exact e
theorem Same.tup {H':Hp} {a:Addr} {xs:List V} (e:Same H H') (h:SqT K H a xs):SqT K H' a xs:=by
  rcases h with (h | ⟨o,h⟩) | h
  · exact .inl (.inl (e _ _ h))
  · exact .inl (.inr ⟨o,e _ _ h⟩)
  · exact .inr h
theorem Same.rd {H':Hp} {a:Addr} {u:HO} (e:Same H H') (h:Rd H a u):Rd H' a u:=by
  rcases h with h | ⟨o,h⟩
  · exact .inl (e _ _ h)
  · exact .inr ⟨o,e _ _ h⟩
end
end L2
namespace L2
open PySem PySem.Spec PyProof.Rows
section
variable {σ:St} {H:Hp} {Q:VK} {D:Ends} {K:PySem.W.Frag} {X:Cx}
theorem e'k {td:TE} {g:TG} {tb:TS} (h:td σ H fun x H1=>∃ a kvs,x=.ref a∧H1 a=some (.dK kvs)∧∀ ob,(∀ o u,X.H₀ a≠some (.frz o u))→∃ W:Nat→Nat→St→Hp→Prop,(∃ m,W 0 m σ (upd H1 a (.frz ob (.dK kvs))))∧∀ i m σ H,W i m σ H→
      ((Itd a ob kvs).stop i H∧(ThawD X D).nx σ H)∨((Itd a ob kvs).go i H∧∃ N:St→Hp→Prop,(∀ σ' H',N σ' H'→∃ m',m'<m∧W (i+1) m' σ' H')∧∀ x H',(Itd a ob kvs).yld i H x H'→g x σ H' fun σ2 H2=>tb { ThawD X D with nx:=N,ct:=N,bk:=(ThawD X D).nx } σ2 H2)) :
    tForD X td g tb D σ H:=h
theorem e'C {i j:Nat} {p:Addr} {x y:V} {R:St→Hp→Prop} (h:SqT K H p [x,y]) (q:R ((σ.set i (some x)).set j (some y)) H):gTup K 2 (gCons (gName i) (gCons (gName j) gNil)) (.ref p) σ H R:=
  ⟨p,[x,y],rfl,h,rfl,x,[y],rfl,y,[],rfl,rfl,q⟩
theorem d'w {td ty tv:TE} (h:tv σ H fun v H1=>td σ H1 fun x H2=>ty σ H2 fun y H3=>∃ a H4,x=.ref a∧DPut H3 a y v H4∧D.nx σ H4):sDPut td ty tv D σ H:=h
theorem c'O {a:Addr} {x:Str} {v:V} {kvs:List (Key×V)} {R:Hp→Prop} (h:H a=some (.dK kvs)) (hl:kvs.length<100000) (q:R (upd H a (.dK (putK kvs (Sum.inr x) v)))):∃ a' H4,V.ref a=.ref a'∧DPut H a' (.str x) v H4∧R H4:=
  ⟨a,_,rfl,DPut.k (k:=Sum.inr x) h (Nat.lt_trans hl (by decide)),q⟩
theorem k'i {td ty:TE} (h:td σ H fun x H1=>ty σ H1 fun y H2=>∃ a v,x=.ref a∧DGet H2 a y (some v)∧Q v H2):tDGet td ty σ H Q:=h
theorem i'J {a:Addr} {x:Str} {v:V} {kvs:List (Key×V)} {R:V→Prop} (h:Rd H a (.dK kvs)) (e:valV kvs (Sum.inr x:Key)=some v) (q:R v):∃ a' v',V.ref a=.ref a'∧DGet H a' (kV (Sum.inr x)) (some v')∧R v':=
  ⟨a,v,rfl,.inl ⟨kvs,Sum.inr x,h,rfl,e.symm⟩,q⟩
theorem m'k {td ty tx:TE} (h:td σ H fun x H1=>∃ a,x=.ref a∧IsD H1 a∧ty σ H1 fun y H2=>tx σ H2 fun z H3=>∃ o,DGet H3 a y o∧Q (o.getD z) H3):tDGet2 td ty tx σ H Q:=h
theorem Same.updN {H':Hp} {a:Addr} {o:HO} (e:Same H H') (n:H a=none):Same H (L2.upd H' a o):=fun b u q=>by rw [a't (a'q q n)];exact e b u q
theorem l'n {r:V→Option Int→Option Int→Hp→VK→Prop} {te:TE} {tl th:TO} (h:te σ H fun x H1=>tl σ H1 fun l H2=>th σ H2 fun u H3=>r x l u H3 Q):tSl r te tl th σ H Q:=h
theorem a_part {t:TE} {R:Option Int→Hp→Prop} (h:t σ H fun x H1=>∃ i,x=.int i∧R (some i) H1):tPart t σ H R:=h
theorem e'l {i:Int} {R:Int→Prop} (h:R i):∃ i',V.int i=.int i'∧R i':=⟨i,rfl,h⟩
end
end L2
namespace L2
open PySem PySem.Spec PyProof.Rows
def EqW (P:Program) (w:World) (A:Around) (s:Shared) (u v:Value):Prop:=∀ (E:Value→Shared→Prop) (Q:Bool→Shared→Prop),Q true s→wpAny (model P w) A (eqBool u v) Q E s
def RcW (P:Program) (w:World) (A:Around) (s:Shared) (u v:Value):Prop:=∀ (E:Value→Shared→Prop) (Q:Value→Shared→Prop),Q (.bool true) s→wpAny (model P w) A (richCompare .Eq u v) Q E s
section
variable {P:Program} {w:World} {A:Around} {s:Shared}
theorem EqW.of_at {u v:Value} (h:SeqAt.EqAt A s u v true):EqW P w A s u v:=fun E Q q=>h P w E Q q
theorem EqW.of_refs {a b:Addr} (h:RcW P w A s (.ref a) (.ref b)):EqW P w A s (.ref a) (.ref b):=fun E Q q=>by
  by_cases e:a=b
  · subst e
    exact SeqAt.EqAt.same _ P w E Q q
  · unfold eqBool
    refine wpAny_holding (wpAny_ite_split (fun z=>absurd (Value.ref.inj (eq_of_beq z)) e) fun _=>?_)
    exact wpAny_bind (h E _ (wpAny_truthy_bool q))
section
open PySem.AutoSeq1 (wpAny_loadPart')
theorem o'D (a b:Addr) (xs ys:Array Value) (n m:Nat) (da db:Option Addr) (sa sb:Array (Option Value)) (hz:xs.size=ys.size) :
    MeetsIn P w (Builtin.«tuple.__eq__» ⟨[.ref a,.ref b],[]⟩) (fun A R s=>s.heap.get? a=some ⟨.type "tuple",da,.seq xs n,sa⟩∧s.heap.get? b=some ⟨.type "tuple",db,.seq ys m,sb⟩∧
      (∀ j (h1:j<xs.size) (h2:j<ys.size),EqW P w A.in1 s xs[j] ys[j])∧R (.ok (.ret (.bool true))) s):=by
  refine .of_wp fun A R s h=>?_
  obtain⟨hp,g,d,tk,os⟩:=s
  obtain⟨ha,hb,he,hR⟩:=h
  have sub:=AutoSeq1.sub_tuple_tuple
  have len:(xs.toList.zip ys.toList).length=xs.size:=by simp;omega
  wp_walk using wpAny_loadPart' ha,wpAny_loadPart' hb,wpAny_forIn_list _ (fun r c s'=>c.1=none∧s'=⟨hp,g,d,tk,os⟩∧∃ i,r=(xs.toList.zip ys.toList).drop i) _
  case turn=>
    rintro⟨x,y⟩ r c s' ⟨hc,rfl,i,hr⟩
    by_cases lt:i<(xs.toList.zip ys.toList).length
    · rw [List.drop_eq_getElem_cons lt] at hr
      injection hr with e1 e2
      have i1:i<xs.size:=by omega
      have i2:i<ys.size:=by omega
      obtain⟨ex,ey⟩:x=xs[i]∧y=ys[i]:=by
        have z:=Prod.mk.inj (e1.trans List.getElem_zip)
        exact⟨by simpa using z.1,by simpa using z.2⟩
      subst ex ey
      refine wpAny_bind (he i i1 i2 _ _ ?_)
      wp_walk
      exact⟨rfl,rfl,i+1,e2⟩
    · rw [List.drop_of_length_le (by omega)] at hr
      cases hr
  case fin=>
    rintro⟨c1,c2⟩ s' ⟨hc,rfl,_⟩
    simp only at hc
    subst hc
    wp_walk
    refine⟨_,rfl,?_⟩
    simpa [Builtin.Tuple.tupleCompareSizes,hz] using hR
  case h=>exact⟨rfl,rfl,0,rfl⟩
end
theorem RcW.tuples {a b:Addr} {xs ys:Array Value} (ha:IsTup s.heap a xs) (hb:IsTup s.heap b ys) (hz:xs.size=ys.size) (hu:A.units<cLine) (he:∀ j (h1:j<xs.size) (h2:j<ys.size),EqW P w A.in1 s xs[j] ys[j]):RcW P w A s (.ref a) (.ref b):=fun E Q q=>by
  obtain⟨⟨ca,da,xa,sa⟩,oa,ka,n,va⟩:=id ha
  obtain⟨⟨cb,db,xb,sb⟩,ob,kb,m,vb⟩:=id hb
  simp only at ka va kb vb
  subst ka va kb vb
  refine wpAny_richCompare_same_room (op:=.Eq) (T:="tuple") ⟨_,oa,rfl⟩ ⟨_,ob,rfl⟩ PySem.F.slot_tuple_eq ?_ hu
  exact call_meetsIn PySem.F.slot_tuple_eq ⟨_,oa,rfl⟩ PySem.F.entry_tuple_eq (PySem.F.args_tuple_eq_2 _ _) (o'D a b xs ys n m da db sa sb hz) ⟨oa,ob,he,⟨(fun z=>nomatch z),q⟩⟩
section
open PySem.AutoSeq1 (wpAny_loadPart')
open PySem.MeetsSeq PySem.MeetsSeq2 PySem.MeetsSeq3 PySem.SeqRoads2 PySem.SeqAt
theorem h'I (a b:Addr) (xs ys:Array Value) (n m:Nat) (da db:Option Addr) (sa sb:Array (Option Value)) (hz:xs.size=ys.size):∀ (k i:Nat),xs.size - i=k→
    MeetsIn P w (Builtin.«list.__eq__.loop» ⟨[.ref a,.ref b,rawInt i,rawInt 2],[]⟩) (fun A R s=>s.heap.get? a=some ⟨.type "list",da,.seq xs n,sa⟩∧s.heap.get? b=some ⟨.type "list",db,.seq ys m,sb⟩∧
      (∀ j (h1:j<xs.size) (h2:j<ys.size),EqW P w A.in1 s xs[j] ys[j])∧R (.ok (.ret (.bool true))) s)
  | 0, i, hk => fun A R s h => by
    obtain⟨hp,g,d,tk,os⟩:=s
    obtain⟨ha,hb,he,hR⟩:=h
    wp_walk using wpAny_loadPart' ha,wpAny_loadPart' hb
    have z1:xs[((i:Nat):Int).toNat]?=none:=by simp;omega
    have z2:ys[((i:Nat):Int).toNat]?=none:=by simp;omega
    rw [z1,z2]
    wp_walk using wpAny_loadPart' ha,wpAny_loadPart' hb
    show R (.ok (.ret (.bool (xs.size == ys.size)))) _
    rw [hz,beq_self_eq_true]
    exact hR
  | k + 1, i, hk => fun A R s h => by
    obtain⟨hp,g,d,tk,os⟩:=s
    obtain⟨ha,hb,he,hR⟩:=h
    wp_walk using wpAny_loadPart' ha,wpAny_loadPart' hb
    have i1:i<xs.size:=by omega
    have i2:i<ys.size:=by omega
    have z1:xs[((i:Nat):Int).toNat]?=some xs[i]:=by simp [i1]
    have z2:ys[((i:Nat):Int).toNat]?=some ys[i]:=by simp [i2]
    rw [z1,z2]
    refine wpAny_bind (he i i1 i2 _ _ ?_)
    wp_walk
    have up:((i:Int)+1)=((i+1:Nat):Int):=Int.natCast_succ i
    rw [up]
    refine⟨plainId_quiet plain_eq_loop _,codeAny_builtin entry_eq_loop ?_⟩
    rw [Around.under_plainId plain_eq_loop _]
    exact h'I a b xs ys n m da db sa sb hz k (i+1) (by omega) A R _ ⟨ha,hb,he,hR⟩
theorem o'E (a b:Addr) (xs ys:Array Value) (n m:Nat) (da db:Option Addr) (sa sb:Array (Option Value)) (hz:xs.size=ys.size) :
    MeetsIn P w (Builtin.«list.__eq__» ⟨[.ref a,.ref b],[]⟩) (fun A R s=>s.heap.get? a=some ⟨.type "list",da,.seq xs n,sa⟩∧s.heap.get? b=some ⟨.type "list",db,.seq ys m,sb⟩∧
      (∀ j (h1:j<xs.size) (h2:j<ys.size),EqW P w A.in1 s xs[j] ys[j])∧R (.ok (.ret (.bool true))) s):=fun A R s h=>by
  obtain⟨hp,g,d,tk,os⟩:=s
  obtain⟨ha,hb,he,hR⟩:=h
  have sub:=AutoSeq1.sub_list_list
  have same:¬ (xs.size != ys.size)=true:=by simp [hz]
  wp_walk using wpAny_loadPart' ha,wpAny_loadPart' hb
  refine⟨plainId_quiet plain_eq_loop _,codeAny_builtin entry_eq_loop ?_⟩
  rw [Around.under_plainId plain_eq_loop _]
  exact h'I a b xs ys n m da db sa sb hz _ 0 rfl A R _ ⟨ha,hb,he,hR⟩
end
theorem RcW.lists {a b:Addr} {xs ys:Array Value} (ha:s.heap.IsList a xs) (hb:s.heap.IsList b ys) (hz:xs.size=ys.size) (hu:A.units<cLine) (he:∀ j (h1:j<xs.size) (h2:j<ys.size),EqW P w A.in1 s xs[j] ys[j]):RcW P w A s (.ref a) (.ref b):=fun E Q q=>by
  obtain⟨⟨ca,da,xa,sa⟩,oa,ka,n,va⟩:=id ha
  obtain⟨⟨cb,db,xb,sb⟩,ob,kb,m,vb⟩:=id hb
  simp only at ka va kb vb
  subst ka va kb vb
  refine wpAny_richCompare_same_room (op:=.Eq) (T:="list") ⟨_,oa,rfl⟩ ⟨_,ob,rfl⟩ PySem.F.slot_list_eq ?_ hu
  exact call_meetsIn PySem.F.slot_list_eq ⟨_,oa,rfl⟩ PySem.F.entry_list_eq (PySem.F.args_list_eq_2 _ _) (o'E a b xs ys n m da db sa sb hz) ⟨oa,ob,he,⟨(fun z=>nomatch z),q⟩⟩
end
def EqN (K:PySem.W.Frag) (H:Hp):Nat→V→V→Prop
  | 0, x, y => flatV x = true ∧ x = y
  | n + 1, x, y => (flatV x = true ∧ x = y) ∨ ∃ p q, x = .ref p ∧ y = .ref q ∧ ((∃ xs ys, ((SqT K H p xs ∧ SqT K H q ys) ∨ (SqL K H p xs ∧ SqL K H q ys)) ∧ All2 (EqN K H n) xs ys) ∨
      ∃ ka kb,Rd H p (.dK ka)∧Rd H q (.dK kb)∧DEqT K H n ka kb)
section
variable {X:Cx} {pins:List (Addr×Obj)} {σ:St} {H:Hp} {s:Shared}
theorem m'l {A:Around} {p q:Addr} {xs ys:List V} (I:Inv X pins σ H s) (hk:(SqT X.K H p xs∧SqT X.K H q ys)∨(SqL X.K H p xs∧SqL X.K H q ys)) (hu:A.units<cLine) (hl:xs.length=ys.length)
    (he:∀ (j:Nat) x y u v,xs[j]?=some x→ys[j]?=some y→RelV x u→RelV y v→EqW X.prog X.w A.in1 s u v):RcW X.prog X.w A s (.ref p) (.ref q):=by
  have fin:∀ (us vs:List Value),Vals xs us→Vals ys vs→∀ j (h1:j<us.toArray.size) (h2:j<vs.toArray.size),EqW X.prog X.w A.in1 s us.toArray[j] vs.toArray[j]:=by
    intro us vs r1 r2 j h1 h2
    have l1:=r1.length
    have l2:=r2.length
    simp only [List.size_toArray] at h1 h2
    obtain⟨u,e1,ru⟩:=r1.get (i:=j) (x:=xs[j]'(by omega)) (by simp)
    obtain⟨v,e2,rv⟩:=r2.get (i:=j) (x:=ys[j]'(by omega)) (by simp)
    obtain⟨_,f1⟩:=List.getElem?_eq_some_iff.mp e1
    obtain⟨_,f2⟩:=List.getElem?_eq_some_iff.mp e2
    have g1:us.toArray[j]'(by simpa using h1)=u:=by simpa using f1
    have g2:vs.toArray[j]'(by simpa using h2)=v:=by simpa using f2
    rw [g1,g2]
    exact he j _ _ u v (by simp) (by simp) ru rv
  rcases hk with ⟨h1,h2⟩ | ⟨h1,h2⟩
  · obtain⟨us,r1,t1,_⟩:=I.tuple h1
    obtain⟨vs,r2,t2,_⟩:=I.tuple h2
    have l1:=r1.length
    have l2:=r2.length
    exact RcW.tuples t1 t2 (by simp;omega) hu (fin us vs r1 r2)
  · obtain⟨us,r1,t1,_⟩:=I.list h1
    obtain⟨vs,r2,t2,_⟩:=I.list h2
    have l1:=r1.length
    have l2:=r2.length
    exact RcW.lists t1.isList t2.isList (by simp;omega) hu (fin us vs r1 r2)
theorem l'o {A:Around} {p q:Addr} {n:Nat} {ka kb:List (Key×V)} (I:Inv X pins σ H s) (h1:Rd H p (.dK ka)) (h2:Rd H q (.dK kb)) (hu:A.units+n+1<cLine) (h:DEqT X.K H n ka kb):RcW X.prog X.w A s (.ref p) (.ref q):=fun E Q hq=>by
  obtain⟨hl,al⟩:=h
  obtain⟨z1,y1,va,r1,d1⟩:=b'S I.hok h1
  obtain⟨z2,y2,vb,r2,d2⟩:=b'S I.hok h2
  have l1:ka.length=va.length:=KV.length r1
  have l2:kb.length=vb.length:=KV.length r2
  refine PySem.W.keq_eq (r:=true) y1 y2 d1 d2 (by omega) (fun _=>j's I (by rw [b'o];omega) r2 r1 al) ?_
  have e:(va.length == vb.length && true)=true:=by simp;omega
  rw [e]
  exact hq
theorem k'j (I:Inv X pins σ H s):∀ (n:Nat) {A:Around} {x y:V} {u v:Value},EqN X.K H n x y→RelV x u→RelV y v→A.units+n+1<cLine→EqW X.prog X.w A s u v
  | 0, A, x, y, u, v, ⟨f, e⟩, ru, rv, _ => by
    subst e
    have z:=c'V (A:=A) (s:=s) ru rv f f
    rw [c'X f] at z
    exact .of_at z
  | n + 1, A, x, y, u, v, .inl ⟨f, e⟩, ru, rv, _ => by
    subst e
    have z:=c'V (A:=A) (s:=s) ru rv f f
    rw [c'X f] at z
    exact .of_at z
  | n + 1, A, x, y, u, v, .inr ⟨p, q, hx, hy, .inl ⟨xs, ys, hk, al⟩⟩, ru, rv, hu => by
    subst hx hy
    cases ru
    cases rv
    refine .of_refs (m'l I hk (by omega) al.length fun j x y u v h1 h2 r1 r2=>?_)
    exact k'j I n (A:=A.in1) (al.get h1 h2) r1 r2 (by rw [b'o];omega)
  | n + 1, A, x, y, u, v, .inr ⟨p, q, hx, hy, .inr ⟨ka, kb, h1, h2, h⟩⟩, ru, rv, hu => by
    subst hx hy
    cases ru
    cases rv
    exact .of_refs (l'o I h1 h2 (by omega) h)
end
section
variable {X:Cx}
def rEqN (K:PySem.W.Frag):R2:=fun x y H Q=>∃ n p q xs ys,n≤40∧x=.ref p∧y=.ref q∧((SqT K H p xs∧SqT K H q ys)∨(SqL K H p xs∧SqL K H q ys))∧All2 (EqN K H n) xs ys∧Q (.bl true) H
end
end L2
namespace Sf
def gd (a b:Int):Int:=(Int.gcd a b:Nat)
theorem i'K (a:Int) (h:0≤a):gd a 0=a:=by
  unfold gd;rw [Int.gcd_zero_right];omega
theorem n'z {a b:Int} (ha:0≤a) (hb:0<b):gd b (a % b)=gd a b:=by
  unfold gd Int.gcd
  have e:(a % b).natAbs=a.natAbs % b.natAbs:=by
    obtain⟨m,rfl⟩:=Int.eq_ofNat_of_zero_le ha
    obtain⟨n,rfl⟩:=Int.eq_ofNat_of_zero_le (Int.le_of_lt hb)
    simp only [Int.natAbs_natCast]
    rw [← Int.natCast_emod,Int.natAbs_natCast]
  rw [e,Nat.gcd_comm b.natAbs,Nat.gcd_comm a.natAbs,Nat.gcd_rec b.natAbs a.natAbs]
theorem h'J {a b:Int} (h:b≠0):0<gd a b:=by
  unfold gd
  have:=Int.gcd_pos_of_ne_zero_right a h
  omega
theorem k'k (a b:Int):gd (a.natAbs:Int) (b.natAbs:Int)=gd a b:=by
  unfold gd;simp [Int.gcd]
theorem f'F (a:Int):(if a<0 then -a else a)=(a.natAbs:Int):=by split<;>omega
theorem m'm (a b:Int):gd (if a<0 then -a else a) (if b<0 then -b else b)=gd a b:=by
  rw [f'F,f'F,k'k]
def dv (t b:Int):Int:=if b<0 then -(gd t b) else gd t b
theorem h'p {t b:Int} (h:b≠0):dv t b≠0:=by
  have:=h'J (a:=t) h
  unfold dv;split<;>omega
theorem h'K (t b:Int):gd t b ∣ t:=Int.gcd_dvd_left ..
theorem f'g (t b:Int):gd t b ∣ b:=Int.gcd_dvd_right ..
theorem l'p (t b:Int):dv t b ∣ t:=by
  unfold dv;split
  · exact Int.neg_dvd.mpr (h'K t b)
  · exact h'K t b
theorem l'q (t b:Int):dv t b ∣ b:=by
  unfold dv;split
  · exact Int.neg_dvd.mpr (f'g t b)
  · exact f'g t b
theorem l'W {x d:Int} (h:d ∣ x):x.fdiv d*d=x:=by
  rw [Int.fdiv_mul_cancel h]
theorem f'h {t b:Int} (h:b≠0):t.fdiv (dv t b)=(Rat.divInt t b).num:=by
  have hd:=h'p (t:=t) h
  refine Int.eq_of_mul_eq_mul_right hd ?_
  rw [l'W (l'p t b),Rat.num_divInt]
  have e:b.gcd t=t.gcd b:=Int.gcd_comm ..
  rw [e]
  have hg:((t.gcd b:Nat):Int) ∣ t:=Int.gcd_dvd_left ..
  have hp:=h'J (a:=t) h
  unfold gd at hp
  unfold dv gd
  rw [Int.mul_ediv_assoc _ hg]
  obtain⟨k,hk⟩:=hg
  generalize hG:((t.gcd b:Nat):Int)=g at *
  have hk2:t / g=k:=by rw [hk];exact Int.mul_ediv_cancel_left k (by omega)
  rw [hk2]
  split
  · rename_i hb
    rw [Int.sign_eq_neg_one_of_neg hb];grind
  · rename_i hb
    rw [Int.sign_eq_one_of_pos (by omega)];grind
theorem f'i {t b:Int} (h:b≠0):b.fdiv (dv t b)=((Rat.divInt t b).den:Int):=by
  have hd:=h'p (t:=t) h
  refine Int.eq_of_mul_eq_mul_right hd ?_
  rw [l'W (l'q t b),Rat.den_divInt,if_neg h]
  have e:b.gcd t=t.gcd b:=Int.gcd_comm ..
  rw [e]
  have hg:(t.gcd b) ∣ b.natAbs:=by rw [← Int.ofNat_dvd_left];exact Int.gcd_dvd_right ..
  have hp:=h'J (a:=t) h
  unfold gd at hp
  unfold dv gd
  obtain⟨k,hk⟩:=hg
  have hk2:b.natAbs / t.gcd b=k:=by rw [hk];exact Nat.mul_div_cancel_left k (by omega)
  rw [hk2]
  generalize t.gcd b=g at *
  have hk3:(b.natAbs:Int)=(g:Int)*(k:Int):=by rw [hk];exact Int.natCast_mul ..
  split<;>grind
theorem b'e (q:Rat):0<(q.den:Int):=by have:=q.den_nz;omega
end Sf
namespace Sf
def Sm (n:Nat) (q:Rat):Prop:=q.num.natAbs<2 ^ n∧q.den<2 ^ n
theorem e'm {t b:Int} (h:b≠0):(Rat.divInt t b).num.natAbs≤t.natAbs∧(Rat.divInt t b).den≤b.natAbs:=by
  obtain⟨m,hm,e1,e2⟩:=Rat.divInt_num_den (n:=t) (d:=b) h (n':=(Rat.divInt t b).num) (d':=(Rat.divInt t b).den) (z':=(Rat.divInt t b).den_nz) (c:=(Rat.divInt t b).reduced) rfl
  have hm1:1≤m.natAbs:=by omega
  have a1:=congrArg Int.natAbs e1
  have a2:=congrArg Int.natAbs e2
  rw [Int.natAbs_mul] at a1 a2
  rw [Int.natAbs_natCast] at a2
  constructor
  · rw [a1];exact Nat.le_mul_of_pos_right _ hm1
  · rw [a2];exact Nat.le_mul_of_pos_right _ hm1
theorem d'g {n:Nat} {t b:Int} (h:b≠0) (h1:t.natAbs<2 ^ n) (h2:b.natAbs<2 ^ n):Sm n (Rat.divInt t b):=
  ⟨Nat.lt_of_le_of_lt (e'm h).1 h1,Nat.lt_of_le_of_lt (e'm h).2 h2⟩
theorem f'G (a b:Rat):a+b=Rat.divInt (a.num*b.den+b.num*a.den) (a.den*b.den):=by
  rw [Rat.add_def',← Rat.divInt_ofNat]
  rfl
theorem c'M (a b:Rat):a - b=Rat.divInt (a.num*b.den - b.num*a.den) (a.den*b.den):=by
  rw [Rat.sub_def',← Rat.divInt_ofNat]
  rfl
theorem d'Q (a b:Rat):a*b=Rat.divInt (a.num*b.num) (a.den*b.den):=by
  rw [Rat.mul_def',← Rat.divInt_ofNat]
  rfl
theorem c'u (a b:Rat):(a.den*b.den:Int)≠0:=by
  have h1:=b'e a
  have h2:=b'e b
  exact Int.ne_of_gt (Int.mul_pos h1 h2)
theorem n'A {x y n m:Nat} (h1:x<2 ^ n) (h2:y<2 ^ m):x*y<2 ^ (n+m):=by
  rw [Nat.pow_add]
  exact Nat.mul_lt_mul'' h1 h2
theorem a'Y {x y:Int} {n m:Nat} (h1:x.natAbs<2 ^ n) (h2:y.natAbs<2 ^ m):(x*y).natAbs<2 ^ (n+m):=by
  rw [Int.natAbs_mul];exact n'A h1 h2
theorem f'H {x y:Int} {n:Nat} (h1:x.natAbs<2 ^ n) (h2:y.natAbs<2 ^ n):(x+y).natAbs<2 ^ (n+1):=by
  rw [Nat.pow_succ];omega
theorem f'I {x y:Int} {n:Nat} (h1:x.natAbs<2 ^ n) (h2:y.natAbs<2 ^ n):(x - y).natAbs<2 ^ (n+1):=by
  rw [Nat.pow_succ];omega
theorem a'R {n:Nat} {q:Rat} (h:Sm n q):(q.den:Int).natAbs<2 ^ n:=by rw [Int.natAbs_natCast];exact h.2
theorem up2 {x:Int} {n m:Nat} (h:x.natAbs<2 ^ n) (k:n≤m):x.natAbs<2 ^ m:=Nat.lt_of_lt_of_le h (Nat.pow_le_pow_right (by decide) k)
theorem n'B {n m:Nat} {a b:Rat} (h1:Sm n a) (h2:Sm m b):Sm (n+m+1) (a+b):=by
  rw [f'G]
  refine d'g (c'u a b) ?_ ?_
  · refine f'H (a'Y h1.1 (a'R h2)) ?_
    rw [Nat.add_comm n m];exact a'Y h2.1 (a'R h1)
  · exact up2 (a'Y (a'R h1) (a'R h2)) (by omega)
theorem n'C {n m:Nat} {a b:Rat} (h1:Sm n a) (h2:Sm m b):Sm (n+m+1) (a - b):=by
  rw [c'M]
  refine d'g (c'u a b) ?_ ?_
  · refine f'I (a'Y h1.1 (a'R h2)) ?_
    rw [Nat.add_comm n m];exact a'Y h2.1 (a'R h1)
  · exact up2 (a'Y (a'R h1) (a'R h2)) (by omega)
theorem n'D {n m:Nat} {a b:Rat} (h1:Sm n a) (h2:Sm m b):Sm (n+m) (a*b):=by
  rw [d'Q]
  exact d'g (c'u a b) (a'Y h1.1 h2.1) (a'Y (a'R h1) (a'R h2))
end Sf
namespace Sf
section
variable {κ:Type} [DecidableEq κ]
abbrev FL (κ:Type):=List (κ×Rat)
def gt (m:FL κ) (k:κ):Option Rat:=(m.find? fun p=>decide (p.1=k)).map (·.2)
def pt (m:FL κ) (k:κ) (q:Rat):FL κ:=if (m.any fun p=>decide (p.1=k))=true then m.map (fun p=>if p.1=k then (p.1,q) else p) else m++[(k,q)]
def nz (m:FL κ):FL κ:=m.filter fun p=>decide (p.2≠0)
def sc (m:FL κ) (n:Rat):FL κ:=m.map fun p=>(p.1,p.2*n)
def val:FL κ→(κ→Rat)→Rat
  | [], _ => 0
  | p :: r, P => p.2 * P p.1 + val r P
def Nd (m:FL κ):Prop:=(m.map (·.1)).Nodup
theorem k'l (k:κ):gt ([]:FL κ) k=none:=rfl
theorem b'h {p:κ×Rat} {r:FL κ} {k:κ} (e:p.1=k):gt (p :: r) k=some p.2:=by simp [gt,List.find?_cons,e]
theorem b'i {p:κ×Rat} {r:FL κ} {k:κ} (e:¬ p.1=k):gt (p :: r) k=gt r k:=by simp [gt,List.find?_cons,e]
theorem c'Y (k:κ):∀ m:FL κ,(m.any fun p=>decide (p.1=k))=(gt m k).isSome
  | [] => rfl
  | p :: r => by
    rw [List.any_cons]
    by_cases e:p.1=k
    · simp [b'h e,e]
    · rw [b'i e,c'Y k r];simp [e]
theorem b'k (k:κ):∀ m:FL κ,gt m k=none↔k ∉ m.map (·.1)
  | [] => by simp [k'l]
  | p :: r => by
    by_cases e:p.1=k
    · simp [b'h e,e]
    · rw [b'i e,b'k k r];simp [Ne.symm e]
theorem c'h {k:κ} {q:Rat}:∀ {m:FL κ},Nd m→(k,q)∈m→gt m k=some q
  | p :: r, n, h => by
    obtain⟨n1,n2⟩:=List.nodup_cons.mp (show (p.1 :: r.map (·.1)).Nodup from n)
    rcases List.mem_cons.mp h with e | h
    · subst e;exact b'h rfl
    · have ne:¬ p.1=k:=fun z=>n1 (by rw [z];exact List.mem_map.mpr ⟨_,h,rfl⟩)
      rw [b'i ne];exact c'h n2 h
theorem i'L (P:κ→Rat):∀ a b:FL κ,val (a++b) P=val a P+val b P
  | [], b => by simp [val, Rat.zero_add]
  | p :: r, b => by simp only [List.cons_append, val, i'L P r b]; grind
theorem h'L (k:κ) (q:Rat) (P:κ→Rat):∀ m:FL κ,Nd m→val (m.map (fun p=>if p.1=k then (p.1,q) else p)) P=val m P+(if (gt m k).isSome then (q - (gt m k).getD 0)*P k else 0)
  | [], _ => by simp [val, k'l, Rat.add_zero]
  | p :: r, n => by
    obtain⟨n1,n2⟩:=List.nodup_cons.mp (show (p.1 :: r.map (·.1)).Nodup from n)
    have ih:=h'L k q P r n2
    by_cases e:p.1=k
    · have hn:gt r k=none:=(b'k k r).mpr (e ▸ n1)
      rw [List.map_cons,b'h e]
      simp only [hn] at ih
      simp only [if_pos e,val,ih]
      rw [e];simp;grind
    · rw [List.map_cons,b'i e]
      simp only [if_neg e,val,ih];grind
theorem n'E {m:FL κ} (n:Nd m) (k:κ) (q:Rat) (P:κ→Rat):val (pt m k q) P=val m P+(q - (gt m k).getD 0)*P k:=by
  unfold pt
  by_cases h:(m.any fun p=>decide (p.1=k))=true
  · rw [if_pos h,h'L k q P m n]
    rw [c'Y] at h
    rw [if_pos h]
  · rw [if_neg h,i'L]
    have hn:gt m k=none:=by
      rw [c'Y] at h
      cases z:gt m k with
      | none=>rfl
      | some _=>rw [z] at h;simp at h
    rw [hn];simp [val];grind
theorem h'M (P:κ→Rat):∀ m:FL κ,val (nz m) P=val m P
  | [] => rfl
  | p :: r => by
    have ih:=h'M P r
    unfold nz at ih ⊢
    by_cases h:p.2=0
    · rw [List.filter_cons_of_neg (by simp [h])];simp only [val,ih,h];grind
    · rw [List.filter_cons_of_pos (by simp [h])];simp only [val,ih]
theorem k'm (n:Rat) (P:κ→Rat):∀ m:FL κ,val (sc m n) P=n*val m P
  | [] => by simp [sc, val]
  | p :: r => by
    have ih:=k'm n P r
    unfold sc at ih ⊢
    simp only [List.map_cons,val,ih];grind
theorem n'F {m:FL κ} {k:κ} (q:Rat) (h:gt m k=none):pt m k q=m++[(k,q)]:=by
  unfold pt;rw [c'Y,h];rfl
theorem k'n (f:κ×Rat→Bool) {m:FL κ} (n:Nd m):Nd (m.filter f):=by
  unfold Nd at *
  exact List.Pairwise.sublist (List.Sublist.map _ List.filter_sublist) n
theorem k'o (k:κ) (q:Rat) (m:FL κ):(m.map (fun p=>if p.1=k then (p.1,q) else p)).map (·.1)=m.map (·.1):=by
  rw [List.map_map]
  refine List.map_congr_left fun p _=>?_
  show (if p.1=k then (p.1,q) else p).1=p.1
  split<;>rfl
theorem j'w {m:FL κ} (n:Nd m) (k:κ) (q:Rat):Nd (pt m k q):=by
  unfold pt
  by_cases h:(m.any fun p=>decide (p.1=k))=true
  · rw [if_pos h];unfold Nd;rw [k'o];exact n
  · rw [if_neg h]
    have hn:gt m k=none:=by
      rw [c'Y] at h
      cases z:gt m k with
      | none=>rfl
      | some _=>rw [z] at h;simp at h
    unfold Nd at *
    rw [List.map_append]
    refine List.nodup_append.mpr ⟨n,by simp,?_⟩
    intro a ha b hb
    have:b=k:=by simpa using hb
    subst this
    exact fun z=>(b'k b m).mp hn (z ▸ ha)
theorem f'J {m:FL κ} (n:Nd m) (x:Rat):Nd (sc m x):=by
  unfold Nd sc at *;rw [List.map_map];exact n
theorem i'M (k j:κ) (q:Rat):∀ m:FL κ,gt (m.map (fun p=>if p.1=k then (p.1,q) else p)) j=(gt m j).map fun x=>if j=k then q else x
  | [] => rfl
  | p :: r => by
    have ih:=i'M k j q r
    rw [List.map_cons]
    by_cases h:p.1=k
    · rw [if_pos h]
      by_cases e:p.1=j
      · rw [b'h (p:=(p.1,q)) e,b'h e];simp [← e,h]
      · rw [b'i (p:=(p.1,q)) e,b'i e,ih]
    · rw [if_neg h]
      by_cases e:p.1=j
      · rw [b'h e,b'h e];simp [← e,h]
      · rw [b'i e,b'i e,ih]
theorem i'N (k j:κ) (q:Rat):∀ m:FL κ,gt m k=none→gt (m++[(k,q)]) j=if j=k then some q else gt m j
  | [], _ => by
    by_cases e:k=j
    · rw [if_pos e.symm];exact b'h (p:=(k,q)) e
    · rw [if_neg (Ne.symm e)];exact b'i (p:=(k,q)) e
  | p :: r, h => by
    have hk:¬ p.1=k:=fun z=>by rw [b'h z] at h;cases h
    rw [b'i hk] at h
    have ih:=i'N k j q r h
    rw [List.cons_append]
    by_cases e:p.1=j
    · rw [b'h e,b'h e,if_neg (fun z=>hk (e.trans z))]
    · rw [b'i e,b'i e,ih]
theorem e'D (m:FL κ) (k j:κ) (q:Rat):gt (pt m k q) j=if j=k then some q else gt m j:=by
  unfold pt
  by_cases h:(m.any fun p=>decide (p.1=k))=true
  · rw [if_pos h,i'M]
    rw [c'Y] at h
    by_cases e:j=k
    · subst e
      obtain⟨x,hx⟩:=Option.isSome_iff_exists.mp h
      simp [hx]
    · simp [e]
  · rw [if_neg h]
    refine i'N k j q m ?_
    rw [c'Y] at h
    cases z:gt m k with
    | none=>rfl
    | some _=>rw [z] at h;simp at h
def run (P:κ→Rat) (r:Rat) (m:FL κ):Rat:=m.foldl (fun t p=>t+p.2*P p.1) r
theorem e'n (P:κ→Rat):∀ (m:FL κ) (r:Rat),run P r m=r+val m P
  | [], r => by simp [run, val, Rat.add_zero]
  | p :: m, r => by
    have ih:=e'n P m (r+p.2*P p.1)
    unfold run at ih ⊢
    rw [List.foldl_cons,ih];simp only [val];grind
end
end Sf
namespace Sf
section
variable {κ:Type} [DecidableEq κ]
theorem c'D {α:Type} {m:List α} {i:Nat} {p:α} (e:m[i]?=some p):m.take (i+1)=m.take i++[p]:=by
  rw [List.take_add_one,e];rfl
theorem h'N {m:FL κ} (n:Nd m) {i:Nat} {x:κ} {q:Rat} (e:m[i]?=some (x,q)):gt (m.take i) x=none:=by
  rw [b'k]
  intro h
  have hi:i<m.length:=(List.getElem?_eq_some_iff.mp e).1
  have hm:(m.map (·.1))[i]?=some x:=by rw [List.getElem?_map,e];rfl
  rw [List.map_take] at h
  obtain⟨j,hj,ej⟩:=List.mem_take_iff_getElem.mp h
  have hj':j<i:=by simp at hj;omega
  have n':(m.map (·.1)).Nodup:=n
  have:=List.getElem?_eq_some_iff.mp hm
  obtain⟨hi2,ei⟩:=this
  have:=(List.pairwise_iff_getElem.mp n') j i (by omega) hi2 hj'
  exact this (by rw [ei];exact ej)
theorem j'x {m:FL κ} {x:κ} (n:Rat) (h:gt m x=none):gt (sc m n) x=none:=by
  rw [b'k] at h ⊢
  unfold sc
  rw [List.map_map]
  exact h
theorem m'n {m:FL κ} {i:Nat} {x:κ} {q:Rat} (n:Rat) (e:m[i]?=some (x,q)):sc (m.take (i+1)) n=sc (m.take i) n++[(x,q*n)]:=by
  rw [c'D e];unfold sc;rw [List.map_append];rfl
def addM (a b:FL κ):FL κ:=b.foldl (fun m p=>pt m p.1 ((gt m p.1).getD 0+p.2)) a
theorem k'p {a b:FL κ} {i:Nat} {x:κ} {q:Rat} (e:b[i]?=some (x,q)):addM a (b.take (i+1))=pt (addM a (b.take i)) x ((gt (addM a (b.take i)) x).getD 0+q):=by
  rw [c'D e];unfold addM;rw [List.foldl_append];rfl
theorem d'x:∀ (b a:FL κ),Nd a→Nd (addM a b)
  | [], a, h => h
  | p :: r, a, h => d'x r _ (j'w h _ _)
theorem h'O (P:κ→Rat):∀ (b a:FL κ),Nd a→val (addM a b) P=val a P+val b P
  | [], a, _ => by simp [addM, val, Rat.add_zero]
  | p :: r, a, h => by
    have ih:=h'O P r (pt a p.1 ((gt a p.1).getD 0+p.2)) (j'w h _ _)
    show val (addM (pt a p.1 ((gt a p.1).getD 0+p.2)) r) P=_
    rw [ih,n'E h]
    simp only [val];grind
theorem d'Y {x:κ}:∀ (b a:FL κ),x ∉ b.map (·.1)→gt (addM a b) x=gt a x
  | [], a, _ => rfl
  | p :: r, a, h => by
    have h1:¬ x=p.1:=fun z=>h (by rw [z];simp)
    have ih:=d'Y (x:=x) r (pt a p.1 ((gt a p.1).getD 0+p.2)) (fun z=>h (by simp [z]))
    show gt (addM (pt a p.1 ((gt a p.1).getD 0+p.2)) r) x=_
    rw [ih,e'D,if_neg h1]
theorem g'Z {a b:FL κ} (n:Nd b) {i:Nat} {x:κ} {q:Rat} (e:b[i]?=some (x,q)):gt (addM a (b.take i)) x=gt a x:=
  d'Y _ _ ((b'k x _).mp (h'N n e))
theorem n'G (m:FL κ) (k:κ) (q:Rat):(pt m k q).length≤m.length+1:=by
  unfold pt;split
  · rw [List.length_map];omega
  · simp
theorem d'R:∀ (b a:FL κ),(addM a b).length≤a.length+b.length
  | [], a => by simp [addM]
  | p :: r, a => by
    have ih:=d'R r (pt a p.1 ((gt a p.1).getD 0+p.2))
    have:=n'G a p.1 ((gt a p.1).getD 0+p.2)
    show (addM (pt a p.1 ((gt a p.1).getD 0+p.2)) r).length≤_
    rw [List.length_cons];omega
theorem c'E (m:FL κ):(nz m).length≤m.length:=List.length_filter_le _ _
theorem f'K (m:FL κ) (n:Rat):(sc m n).length=m.length:=List.length_map ..
theorem e'E {m:FL κ} (n:Nd m):Nd (nz m):=k'n _ n
theorem f'j {P:κ→Rat} {r:Rat} {m:FL κ} {i:Nat} {x:κ} {q:Rat} (e:m[i]?=some (x,q)):run P r (m.take (i+1))=run P r (m.take i)+q*P x:=by
  rw [c'D e];unfold run;rw [List.foldl_append];rfl
end
end Sf
namespace Sf
section
variable {κ:Type} [DecidableEq κ]
theorem g'g {x:κ}:∀ (b a:FL κ),Nd b→gt (addM a b) x=match gt b x with | none=>gt a x | some q=>some ((gt a x).getD 0+q)
  | [], a, _ => rfl
  | p :: r, a, n => by
    obtain⟨n1,n2⟩:=List.nodup_cons.mp (show (p.1 :: r.map (·.1)).Nodup from n)
    have ih:=g'g (x:=x) r (pt a p.1 ((gt a p.1).getD 0+p.2)) n2
    show gt (addM (pt a p.1 ((gt a p.1).getD 0+p.2)) r) x=_
    rw [ih,e'D]
    by_cases e:p.1=x
    · have hn:gt r x=none:=(b'k x r).mpr (e ▸ n1)
      rw [hn,b'h e,if_pos e.symm]
      simp [e]
    · rw [b'i e,if_neg (fun z=>e z.symm)]
theorem j'y {x:κ}:∀ {m:FL κ},Nd m→gt (nz m) x=match gt m x with | none=>none | some q=>if q=0 then none else some q
  | [], _ => rfl
  | p :: r, n => by
    obtain⟨n1,n2⟩:=List.nodup_cons.mp (show (p.1 :: r.map (·.1)).Nodup from n)
    have ih:=j'y (x:=x) n2
    unfold nz at ih ⊢
    by_cases e:p.1=x
    · have hn:gt r x=none:=(b'k x r).mpr (e ▸ n1)
      rw [hn] at ih
      rw [b'h e]
      by_cases h:p.2=0
      · rw [List.filter_cons_of_neg (by simp [h]),ih];simp [h]
      · rw [List.filter_cons_of_pos (by simp [h]),b'h e];simp [h]
    · rw [b'i e]
      by_cases h:p.2=0
      · rw [List.filter_cons_of_neg (by simp [h]),ih]
      · rw [List.filter_cons_of_pos (by simp [h]),b'i e,ih]
theorem j'z {x:κ} (n:Rat):∀ m:FL κ,gt (sc m n) x=(gt m x).map (·*n)
  | [] => rfl
  | p :: r => by
    have ih:=j'z (x:=x) n r
    unfold sc at ih ⊢
    rw [List.map_cons]
    by_cases e:p.1=x
    · rw [b'h (p:=(p.1,p.2*n)) e,b'h e];rfl
    · rw [b'i (p:=(p.1,p.2*n)) e,b'i e,ih]
end
end Sf
namespace Sf
section
variable {κ:Type} [DecidableEq κ]
end
end Sf
namespace Sf
section
variable {κ:Type} [DecidableEq κ]
end
end Sf
namespace Sf
section
variable {κ:Type} [DecidableEq κ]
end
theorem h'a (a b n:Rat):a+b*n=Rat.divInt (a.num*b.den*n.den+b.num*n.num*a.den) (a.den*b.den*n.den):=by
  have h1:(a.den:Int)≠0:=Int.ne_of_gt (b'e a)
  have h2:((b.den:Int)*n.den)≠0:=c'u b n
  have e1:a=Rat.divInt a.num a.den:=(Rat.num_divInt_den a).symm
  have e2:b*n=Rat.divInt (b.num*n.num) (b.den*n.den):=d'Q b n
  have e3:=Rat.divInt_add_divInt a.num (b.num*n.num) h1 h2
  rw [← e1,← e2] at e3
  rw [e3]
  congr 1<;>grind
end Sf
namespace Sf
open PySem L2
def fr (q:Rat):List V:=[.int q.num,.int (q.den:Int)]
theorem fr0 (q:Rat):atI (fr q) 0=some (.int q.num):=rfl
theorem fr1 (q:Rat):atI (fr q) 1=some (.int (q.den:Int)):=rfl
end Sf
namespace Vc
open PySem L2 Sf
def Le (F F':Hp):Prop:=∀ a u,(∀ o w,u≠.frz o w)→Rd F a u→Rd F' a u
theorem Le.refl (F:Hp):Le F F:=fun _ _ _ h=>h
theorem Le.trans {F G H:Hp} (a:Le F G) (b:Le G H):Le F H:=fun x u n h=>b x u n (a x u n h)
theorem Le.of {F F':Hp} (e:Same F F'):Le F F':=fun a u _ h=>e.rd h
theorem Le.tup {K:PySem.W.Frag} {F F':Hp} {a:Addr} {xs:List V} (e:Le F F') (h:SqT K F a xs):SqT K F' a xs:=by
  rcases h with h | h
  · exact .inl (e _ _ (by intro o w z;cases z) h)
  · exact .inr h
theorem Le.lst {K:PySem.W.Frag} {F F':Hp} {a:Addr} {xs:List V} (e:Le F F') (h:SqL K F a xs):SqL K F' a xs:=by
  rcases h with h | h
  · exact .inl (e _ _ (by intro o w z;cases z) h)
  · exact .inr h
theorem Le.dic {F F':Hp} {a:Addr} {kvs:List (Key×V)} (e:Le F F') (h:Rd F a (.dK kvs)):Rd F' a (.dK kvs):=e _ _ (by intro o w z;cases z) h
def Fz (S:Addr→Prop) (F:Hp):Prop:=∀ a o u,F a=some (.frz o u)→S a
abbrev S0:Addr→Prop:=fun _=>False
def frzd (F:Hp):Addr→Prop:=fun a=>∃ o u,F a=some (.frz o u)
structure Gr0 (F H F' H':Hp):Prop where
  h:Same H H'
  f:Same F F'
  s:Same F' H'
  n:∀ a u,F' a=some u→F a=none→H a=none
structure Gr (F H F' H':Hp):Prop extends Gr0 F H F' H' where
  z:Fz (frzd F) F'
theorem Gr0.refl {F H:Hp} (s:Same F H):Gr0 F H F H:=⟨Same.refl _,Same.refl _,s,(fun a u h e=>by rw [h] at e;cases e)⟩
theorem Fz.refl (F:Hp):Fz (frzd F) F:=fun _ o u h=>⟨o,u,h⟩
theorem Gr.of {F H F' H':Hp} (g:Gr0 F H F' H') (z:Fz (frzd F) F'):Gr F H F' H':=⟨g,z⟩
theorem Gr.of0 {F H F' H':Hp} (g:Gr0 F H F' H') (z:Fz S0 F'):Gr F H F' H':=⟨g,fun a o u h=>(z a o u h).elim⟩
theorem Gr.le {F H F' H':Hp} (g:Gr F H F' H'):Le F F':=.of g.f
theorem Gr.fz {F H F' H':Hp} {S:Addr→Prop} (g:Gr F H F' H') (c:Fz S F):Fz S F':=fun a o u h=>by
  obtain⟨o',u',e⟩:=g.z a o u h
  exact c a o' u' e
theorem Gr0.trans {F H F1 H1 F2 H2:Hp} (a:Gr0 F H F1 H1) (b:Gr0 F1 H1 F2 H2):Gr0 F H F2 H2:=
  ⟨a.h.trans b.h,a.f.trans b.f,b.s,(fun x u h e=>match q:F1 x with
    | none=>a.h.free (b.n x u h q)
    | some w=>a.n x w q e)⟩
theorem Gr0.tr {F H F1 H1 F2 H2:Hp} (a:Gr0 F H F1 H1) (b:Gr F1 H1 F2 H2):Gr0 F H F2 H2:=a.trans b.toGr0
theorem Gr.own {F H F' H':Hp} (g:Gr F H F' H') {o:Addr} {u:HO} (eF:F o=none) (eH:H o=some u):F' o=none:=by
  cases q:F' o with
  | none => rfl
  | some w => have := g.n o w q eF; rw [eH] at this; cases this
theorem al {F H:Hp} {o:HO} {R:V→Hp→Prop} (wd:Same F H) (nf:∀ x u,o≠.frz x u) (h:∀ (p:Addr) (F' H':Hp),Gr F H F' H'→F' p=some o→R (.ref p) H'):∀ p,H p=none→R (.ref p) (upd H p o):=fun p hp=>by
  have fp:F p=none:=wd.free hp
  refine h p (upd F p o) (upd H p o) ⟨⟨Same.upd hp,Same.upd fp,?_,fun a u e q=>?_⟩,fun a x u e=>?_⟩ a'v
  · intro b u e
    by_cases hb:b=p
    · subst hb;rw [a'v] at e ⊢;exact e
    · rw [a't hb] at e ⊢;exact wd b u e
  · by_cases hb:a=p
    · subst hb;exact hp
    · rw [a't hb,q] at e;cases e
  · by_cases hb:a=p
    · subst hb;rw [a'v] at e;exact absurd (Option.some.inj e) (nf x u)
    · rw [a't hb] at e;exact⟨_,_,e⟩
theorem al1 {F H:Hp} {o:HO} {p:Addr} {R:Hp→Prop} (wd:Same F H) (nf:∀ x u,o≠.frz x u) (hp:H p=none) (h:∀ F' H':Hp,Gr F H F' H'→F' p=some o→R H'):R (upd H p o):=by
  have:=al (R:=fun v H'=>∀ q,v=.ref q→q=p→R H') wd nf (fun q F' H' g e z hz hq=>by cases hz;subst hq;exact h F' H' g e) p hp
  exact this p rfl rfl
theorem Gr.at {F H F' H':Hp} (g:Gr F H F' H') {o:Addr} {u:HO} {w:Option HO} (eH:H o=some u) (e:F o=w):F' o=w:=by
  cases q:F o with
  | none => rw [← e, q]; exact g.own q eH
  | some x => rw [← e, q]; exact g.f _ _ q
theorem al2 {F H:Hp} {o:HO} {p:Addr} (wd:Same F H) (nf:∀ x u,o≠.frz x u) (hp:H p=none):∃ F',Gr F H F' (upd H p o)∧F' p=some o:=
  al1 (R:=fun H'=>∃ F',Gr F H F' H'∧F' p=some o) wd nf hp fun F' _ g e=>⟨F',g,e⟩
theorem b'M {Fb Hb F H:Hp} {o:HO} {p:Addr} (gb:Gr0 Fb Hb F H) (hp:H p=none):Gr0 Fb Hb F (upd H p o)∧Same H (upd H p o)∧Hb p=none∧F p=none∧(upd H p o) p=some o∧(∀ a u,H a=some u→a≠p):=
  ⟨⟨gb.h.updN (gb.h.free hp),gb.f,gb.s.updN (gb.s.free hp),gb.n⟩,Same.upd hp,gb.h.free hp,gb.s.free hp,a'v,fun _ _ e=>a'q e hp⟩
theorem chg {Fb Hb F H:Hp} {p:Addr} {o:HO} {R:Hp→Prop} (gb:Gr0 Fb Hb F H) (hb:Hb p=none) (hf:F p=none) (h:∀ H':Hp,Gr0 Fb Hb F H'→H' p=some o→(∀ a,a≠p→H' a=H a)→R H'):R (upd H p o):=
  h (upd H p o) ⟨gb.h.updN hb,gb.f,gb.s.updN hf,gb.n⟩ a'v fun _ e=>a't e
theorem frz {Fb Hb F H:Hp} {S:Addr→Prop} {p:Addr} {o:HO} (gb:Gr0 Fb Hb F H) (cm:Fz S F) (hb:Hb p=none) (hf:F p=none) (hH:H p=some o) (nf:∀ x u,o≠.frz x u):∃ F',Gr0 Fb Hb F' H∧Fz S F'∧Same F F'∧F' p=some o∧∀ a,a≠p→F' a=F a:=by
  refine⟨upd F p o,⟨gb.h,gb.f.trans (Same.upd hf),?_,fun a u e q=>?_⟩,fun a x u e=>?_,Same.upd hf,a'v,fun _ e=>a't e⟩
  · intro b u e
    by_cases hb:b=p
    · subst hb;rw [a'v] at e;cases e;exact hH
    · rw [a't hb] at e;exact gb.s b u e
  · by_cases hb':a=p
    · subst hb';exact hb
    · rw [a't hb'] at e;exact gb.n a u e q
  · by_cases hb':a=p
    · subst hb';rw [a'v] at e;exact absurd (Option.some.inj e) (nf x u)
    · rw [a't hb'] at e;exact cm a x u e
theorem it2 {K:PySem.W.Frag} {F H:Hp} {i j:Nat} {p:Addr} {x y:V} {σ:St} {R:St→Hp→Prop} (wd:Same F H) (hp:H p=none) (h:∀ F' H':Hp,Gr F H F' H'→F' p=some (.tup [x,y])→R ((σ.set i (some x)).set j (some y)) H') :
    gTup K 2 (gCons (gName i) (gCons (gName j) gNil)) (.ref p) σ (upd H p (.tup [x,y])) R:=
  al1 (R:=fun H'=>gTup K 2 (gCons (gName i) (gCons (gName j) gNil)) (.ref p) σ H' R) wd (by intro _ _ z;cases z) hp fun F' H' g e=>e'C (SqT.of (g.s _ _ e)) (h F' H' g e)
def fz (X:Hp) (a:Addr) (o:HO):Hp:=fun b=>if b=a then (if X a=none then none else some o) else X b
theorem b'b {X:Hp} {a b:Addr} {o:HO} (h:b≠a):fz X a o b=X b:=by unfold fz;rw [if_neg h]
theorem b'Y {X:Hp} {a:Addr} {o:HO}:fz X a o a=if X a=none then none else some o:=by unfold fz;rw [if_pos rfl]
theorem e'F {X:Hp} {a:Addr} {o u:HO} (h:fz X a o a=some u):X a≠none∧some o=some u:=by
  rw [b'Y] at h
  split at h
  · cases h
  · rename_i q;exact⟨q,h⟩
theorem e'G {Fb Hb F H:Hp} {a:Addr} (z:HO) (gb:Gr0 Fb Hb F H):Gr0 (fz Fb a z) (fz Hb a z) (fz F a z) (upd H a z):=by
  refine⟨fun b u e=>?_,fun b u e=>?_,fun b u e=>?_,fun b u e q=>?_⟩
  · by_cases hb:b=a
    · subst hb;rw [a'v];exact (e'F e).2
    · rw [b'b hb] at e;rw [a't hb];exact gb.h b u e
  · by_cases hb:b=a
    · subst hb
      rw [b'Y] at e ⊢
      split at e
      · cases e
      · rename_i h
        obtain⟨w,hw⟩:=Option.ne_none_iff_exists'.mp h
        rw [if_neg (by rw [gb.f _ _ hw];intro z;cases z)];exact e
    · rw [b'b hb] at e ⊢;exact gb.f b u e
  · by_cases hb:b=a
    · subst hb;rw [a'v];exact (e'F e).2
    · rw [b'b hb] at e;rw [a't hb];exact gb.s b u e
  · by_cases hb:b=a
    · subst hb
      rw [b'Y] at e q ⊢
      split at e
      · cases e
      · rename_i h
        obtain⟨w,hw⟩:=Option.ne_none_iff_exists'.mp h
        split at q
        · rename_i hf
          rw [if_pos (gb.n _ _ hw hf)]
        · cases q
    · rw [b'b hb] at e q ⊢;exact gb.n b u e q
theorem e'H {F:Hp} {a:Addr} {ob:Obj} {kvs:List (Key×V)} (hF:F a=none∨F a=some (.dK kvs)):Le F (fz F a (.frz ob (.dK kvs))):=fun b u n h=>by
  by_cases hb:b=a
  · subst hb
    rcases hF with hF | hF
    · rcases h with h | ⟨o,h⟩<;>(rw [hF] at h;cases h)
    · rcases h with h | ⟨o,h⟩
      · rw [hF] at h
        cases h
        refine .inr ⟨ob,?_⟩
        rw [b'Y,if_neg (by rw [hF];intro z;cases z)]
      · rw [hF] at h;cases h
  · rcases h with h | ⟨o,h⟩
    · exact .inl (by rw [b'b hb];exact h)
    · exact .inr ⟨o,by rw [b'b hb];exact h⟩
theorem e'I {F:Hp} {a:Addr} {z:HO} {S:Addr→Prop} (c:Fz S F):Fz (fun b=>b=a∨S b) (fz F a z):=fun b o u h=>by
  by_cases hb:b=a
  · exact .inl hb
  · rw [b'b hb] at h;exact .inr (c b o u h)
theorem thw {Fb Hb F H F' H':Hp} {S:Addr→Prop} {a:Addr} {ob:Obj} {kvs:List (Key×V)} {R:Hp→Prop} (gb:Gr0 Fb Hb F H) (hH:H a=some (.dK kvs)) (hF:F a=none∨F a=some (.dK kvs))
    (gz:Gr0 (fz Fb a (.frz ob (.dK kvs))) (fz Hb a (.frz ob (.dK kvs))) F' H') (sF:F' a=fz F a (.frz ob (.dK kvs)) a) (cm:Fz (fun b=>b=a∨S b) F')
    (h:∀ F'' H'':Hp,Gr0 Fb Hb F'' H''→Fz S F''→Le F' F''→F'' a=F a→H'' a=some (.dK kvs)→(∀ b,b≠a→F'' b=F' b)→(∀ b,b≠a→H'' b=H' b)→R H''):R (upd H' a (.dK kvs)):=by
  have nn:F'  a=none∨F' a=some (.frz ob (.dK kvs)):=by
    rw [sF,b'Y];split
    · exact .inl rfl
    · exact .inr rfl
  refine h (fz F' a (.dK kvs)) (upd H' a (.dK kvs)) ⟨fun b u e=>?_,fun b u e=>?_,fun b u e=>?_,fun b u e q=>?_⟩ (fun b o u e=>?_) (fun b u n e=>?_) ?_ a'v (fun b hb=>b'b hb) (fun b hb=>a't hb)
  · by_cases hb:b=a
    · subst hb;rw [a'v];have:=gb.h _ _ e;rw [hH] at this;exact this
    · rw [a't hb];exact gz.h b u (by rw [b'b hb];exact e)
  · by_cases hb:b=a
    · subst hb
      have e1:=gb.f _ _ e
      rcases hF with hF | hF
      · rw [hF] at e1;cases e1
      · rw [hF] at e1
        have e2:F' b=some (.frz ob (.dK kvs)):=by rw [sF,b'Y,if_neg (by rw [hF];intro z;cases z)]
        rw [b'Y,if_neg (by rw [e2];intro z;cases z)]
        exact e1
    · rw [b'b hb];exact gz.f b u (by rw [b'b hb];exact e)
  · by_cases hb:b=a
    · subst hb;rw [a'v];exact (e'F e).2
    · rw [b'b hb] at e;rw [a't hb];exact gz.s b u e
  · by_cases hb:b=a
    · subst hb
      rw [b'Y] at e
      split at e
      · cases e
      · rename_i hn
        rw [sF,b'Y] at hn
        split at hn
        · exact absurd rfl hn
        · rename_i hf
          obtain⟨w,hw⟩:=Option.ne_none_iff_exists'.mp hf
          exact gb.n _ _ hw q
    · rw [b'b hb] at e
      have:=gz.n b u e (by rw [b'b hb];exact q)
      rw [b'b hb] at this
      exact this
  · by_cases hb:b=a
    · subst hb;cases (e'F e).2
    · rw [b'b hb] at e
      rcases cm b o u e with x | x
      · exact absurd x hb
      · exact x
  · by_cases hb:b=a
    · subst hb
      rcases nn with nn | nn
      · rcases e with e | ⟨o,e⟩<;>(rw [nn] at e;cases e)
      · rcases e with e | ⟨o,e⟩
        · rw [nn] at e;cases e;exact absurd rfl (n _ _)
        · rw [nn] at e;cases e;refine .inl ?_;rw [b'Y,if_neg (by rw [nn];intro z;cases z)]
    · rcases e with e | ⟨o,e⟩
      · exact .inl (by rw [b'b hb];exact e)
      · exact .inr ⟨o,by rw [b'b hb];exact e⟩
  · rw [b'Y,sF,b'Y]
    rcases hF with hF | hF<;>rw [hF]
    · rfl
    · rfl
theorem d'y {F:Hp} {a:Addr} {kvs:List (Key×V)} (c:Fz S0 F) (h:Rd F a (.dK kvs)):F a=some (.dK kvs):=by
  rcases h with h | ⟨o,h⟩
  · exact h
  · exact (c _ _ _ h).elim
abbrev Rep (α:Type):=Hp→V→α→Prop
class Mo {α:Type} (A:Rep α):Prop where
  mo:∀ {F F':Hp} {v:V} {x:α},Le F F'→A F v x→A F' v x
def rI:Rep Int:=fun _ v n=>v=.int n
def rB:Rep Bool:=fun _ v b=>v=.bl b
def rS:Rep Str:=fun _ v s=>v=.str s
def rFr (K:PySem.W.Frag):Rep Rat:=fun F v q=>∃ a,v=.ref a∧SqT K F a (fr q)
def r2 (K:PySem.W.Frag) {α β:Type} (A:Rep α) (B:Rep β):Rep (α×β):=fun F v x=>∃ a v1 v2,v=.ref a∧SqT K F a [v1,v2]∧A F v1 x.1∧B F v2 x.2
def r5 (K:PySem.W.Frag) {α β γ δ ε:Type} (A:Rep α) (B:Rep β) (C:Rep γ) (D:Rep δ) (E:Rep ε):Rep (α×β×γ×δ×ε):=fun F v x=>∃ a v1 v2 v3 v4 v5,v=.ref a∧SqT K F a [v1,v2,v3,v4,v5]∧A F v1 x.1∧B F v2 x.2.1∧C F v3 x.2.2.1∧D F v4 x.2.2.2.1∧E F v5 x.2.2.2.2
def Al {α:Type} (A:Rep α) (F:Hp):List V→List α→Prop
  | [], [] => True
  | v :: vs, x :: xs => A F v x ∧ Al A F vs xs
  | _, _ => False
def rL (K:PySem.W.Frag) {α:Type} (A:Rep α):Rep (List α):=fun F v xs=>∃ a vs,v=.ref a∧SqL K F a vs∧Al A F vs xs
def Dk {α:Type} (A:Rep α) (F:Hp):List (Key×V)→List (Str×α)→Prop
  | [], [] => True
  | p :: r, x :: s => p.1 = Sum.inr x.1 ∧ A F p.2 x.2 ∧ Dk A F r s
  | _, _ => False
def rD {α:Type} (A:Rep α):Rep (List (Str×α)):=fun F v m=>∃ a kvs,v=.ref a∧Rd F a (.dK kvs)∧Dk A F kvs m∧(m.map (·.1)).Nodup
instance:Mo rI:=⟨fun _ h=>h⟩
instance:Mo rB:=⟨fun _ h=>h⟩
instance:Mo rS:=⟨fun _ h=>h⟩
instance {K:PySem.W.Frag}:Mo (rFr K):=⟨fun e ⟨a,h1,h2⟩=>⟨a,h1,e.tup h2⟩⟩
instance {K:PySem.W.Frag} {α β:Type} {A:Rep α} {B:Rep β} [Mo A] [Mo B]:Mo (r2 K A B):=⟨fun e ⟨a,v1,v2,h1,h2,h3,h4⟩=>⟨a,v1,v2,h1,e.tup h2,Mo.mo e h3,Mo.mo e h4⟩⟩
instance {K:PySem.W.Frag} {α β γ δ ε:Type} {A:Rep α} {B:Rep β} {C:Rep γ} {D:Rep δ} {E:Rep ε} [Mo A] [Mo B] [Mo C] [Mo D] [Mo E]:Mo (r5 K A B C D E):=
  ⟨fun e ⟨a,v1,v2,v3,v4,v5,h1,h2,h3,h4,h5,h6,h7⟩=>⟨a,v1,v2,v3,v4,v5,h1,e.tup h2,Mo.mo e h3,Mo.mo e h4,Mo.mo e h5,Mo.mo e h6,Mo.mo e h7⟩⟩
theorem Al.mo {α:Type} {A:Rep α} [Mo A] {F F':Hp} (e:Le F F'):∀ {vs:List V} {xs:List α},Al A F vs xs→Al A F' vs xs
  | [], [], _ => True.intro
  | _ :: _, _ :: _, h => ⟨Mo.mo e h.1, Al.mo e h.2⟩
  | [], _ :: _, h => h.elim
  | _ :: _, [], h => h.elim
theorem Al.length {α:Type} {A:Rep α} {F:Hp}:∀ {vs:List V} {xs:List α},Al A F vs xs→vs.length=xs.length
  | [], [], _ => rfl
  | _ :: vs, _ :: xs, h => by rw [List.length_cons, List.length_cons, Al.length h.2]
  | [], _ :: _, h => h.elim
  | _ :: _, [], h => h.elim
theorem Al.get {α:Type} {A:Rep α} {F:Hp}:∀ {vs:List V} {xs:List α} {i:Nat} {v:V},Al A F vs xs→vs[i]?=some v→∃ x,xs[i]?=some x∧A F v x
  | v :: vs, x :: xs, 0, w, h, e => by simp at e; subst e; exact ⟨x, rfl, h.1⟩
  | v :: vs, x :: xs, i + 1, w, h, e => by
    obtain⟨y,h1,h2⟩:=Al.get (i:=i) h.2 (by simpa using e)
    exact⟨y,by simpa using h1,h2⟩
  | [], [], _, _, _, e => by simp at e
  | [], _ :: _, _, _, h, _ => h.elim
  | _ :: _, [], _, _, h, _ => h.elim
theorem Al.at {α:Type} {A:Rep α} {F:Hp} {vs:List V} {xs:List α} {i:Nat} {x:α} (h:Al A F vs xs) (e:xs[i]?=some x):∃ v,vs[i]?=some v∧A F v x:=by
  have hl:=h.length
  have hi:i<vs.length:=by rw [hl];exact (List.getElem?_eq_some_iff.mp e).1
  obtain⟨y,h1,h2⟩:=h.get (i:=i) (v:=vs[i]) (by simp)
  rw [e] at h1
  cases h1
  exact⟨_,by simp,h2⟩
theorem Al.app {α:Type} {A:Rep α} {F:Hp}:∀ {vs ws:List V} {xs ys:List α},Al A F vs xs→Al A F ws ys→Al A F (vs++ws) (xs++ys)
  | [], _, [], _, _, h => h
  | _ :: _, _, _ :: _, _, h, g => ⟨h.1, Al.app h.2 g⟩
  | [], _, _ :: _, _, h, _ => h.elim
  | _ :: _, _, [], _, h, _ => h.elim
theorem Al.snoc {α:Type} {A:Rep α} {F:Hp} {vs:List V} {xs:List α} {v:V} {x:α} (h:Al A F vs xs) (g:A F v x):Al A F (vs++[v]) (xs++[x]):=h.app ⟨g,True.intro⟩
theorem d'z {F:Hp}:∀ {ns:List Int},Al rI F (ns.map V.int) ns
  | [] => True.intro
  | _ :: ns => ⟨rfl, d'z⟩
theorem Dk.mo {α:Type} {A:Rep α} [Mo A] {F F':Hp} (e:Le F F'):∀ {vs:List (Key×V)} {xs:List (Str×α)},Dk A F vs xs→Dk A F' vs xs
  | [], [], _ => True.intro
  | _ :: _, _ :: _, h => ⟨h.1, Mo.mo e h.2.1, Dk.mo e h.2.2⟩
  | [], _ :: _, h => h.elim
  | _ :: _, [], h => h.elim
theorem Dk.length {α:Type} {A:Rep α} {F:Hp}:∀ {vs:List (Key×V)} {xs:List (Str×α)},Dk A F vs xs→vs.length=xs.length
  | [], [], _ => rfl
  | _ :: vs, _ :: xs, h => by rw [List.length_cons, List.length_cons, Dk.length h.2.2]
  | [], _ :: _, h => h.elim
  | _ :: _, [], h => h.elim
instance {K:PySem.W.Frag} {α:Type} {A:Rep α} [Mo A]:Mo (rL K A):=⟨fun e ⟨a,vs,h1,h2,h3⟩=>⟨a,vs,h1,e.lst h2,h3.mo e⟩⟩
instance {α:Type} {A:Rep α} [Mo A]:Mo (rD A):=⟨fun e ⟨a,kvs,h1,h2,h3,h4⟩=>⟨a,kvs,h1,e.dic h2,h3.mo e,h4⟩⟩
theorem Dk.get {α:Type} {A:Rep α} {F:Hp}:∀ {kvs:List (Key×V)} {m:List (Str×α)} {i:Nat} {k:Key} {v:V},Dk A F kvs m→kvs[i]?=some (k,v)→∃ x y,m[i]?=some (x,y)∧k=Sum.inr x∧A F v y
  | p :: r, x :: s, 0, k, v, h, e => by
    simp at e
    subst e
    exact⟨x.1,x.2,rfl,h.1,h.2.1⟩
  | p :: r, x :: s, i + 1, k, v, h, e => by
    obtain⟨x',y,e1,e2⟩:=Dk.get (i:=i) h.2.2 (by simpa using e)
    exact⟨x',y,by simpa using e1,e2⟩
  | [], [], i, _, _, _, e => by simp at e
  | [], _ :: _, _, _, _, h, _ => h.elim
  | _ :: _, [], _, _, _, h, _ => h.elim
section
variable {α:Type}
def gtd (m:List (Str×α)) (k:Str):Option α:=(m.find? fun p=>decide (p.1=k)).map (·.2)
def ptd (m:List (Str×α)) (k:Str) (y:α):List (Str×α):=if (m.any fun p=>decide (p.1=k))=true then m.map (fun p=>if p.1=k then (p.1,y) else p) else m++[(k,y)]
theorem n'H (m:FL Str) (k:Str):gtd m k=gt m k:=rfl
theorem g'h {p:Str×α} {r:List (Str×α)} {k:Str} (e:p.1=k):gtd (p :: r) k=some p.2:=by simp [gtd,List.find?_cons,e]
theorem g'i {p:Str×α} {r:List (Str×α)} {k:Str} (e:¬ p.1=k):gtd (p :: r) k=gtd r k:=by simp [gtd,List.find?_cons,e]
theorem i'O (k:Str):∀ m:List (Str×α),(m.any fun p=>decide (p.1=k))=(gtd m k).isSome
  | [] => rfl
  | p :: r => by
    rw [List.any_cons,i'O k r]
    by_cases e:p.1=k
    · rw [g'h e,decide_eq_true e];rfl
    · rw [g'i e,decide_eq_false e];rfl
theorem Dk.val {A:Rep α} {F:Hp} (x:Str):∀ {kvs:List (Key×V)} {m:List (Str×α)},Dk A F kvs m→(valV kvs (Sum.inr x:Key)=none∧gtd m x=none)∨∃ v y,valV kvs (Sum.inr x:Key)=some v∧gtd m x=some y∧A F v y
  | [], [], _ => .inl ⟨rfl, rfl⟩
  | p :: r, y :: s, h => by
    by_cases e:y.1=x
    · have e2:p.1=(Sum.inr x:Key):=by rw [h.1,e]
      exact .inr ⟨p.2,y.2,by rw [d'L e2],g'h e,h.2.1⟩
    · have e2:¬ p.1=(Sum.inr x:Key):=by rw [h.1];exact fun z=>e (Sum.inr.inj z)
      rw [d'M e2,g'i e]
      exact Dk.val x h.2.2
  | [], _ :: _, h => h.elim
  | _ :: _, [], h => h.elim
theorem Dk.some {A:Rep α} {F:Hp} {x:Str} {y:α} {kvs:List (Key×V)} {m:List (Str×α)} (h:Dk A F kvs m) (e:gtd m x=some y):∃ v,valV kvs (Sum.inr x:Key)=some v∧A F v y:=by
  rcases h.val x with ⟨_,h2⟩ | ⟨v,y',h1,h2,h3⟩
  · rw [e] at h2;cases h2
  · rw [e] at h2;cases h2;exact⟨v,h1,h3⟩
theorem Dk.any {A:Rep α} {F:Hp} (x:Str) {kvs:List (Key×V)} {m:List (Str×α)} (h:Dk A F kvs m):(kvs.any fun kv=>decide (kv.1=(Sum.inr x:Key)))=(m.any fun p=>decide (p.1=x)):=by
  rw [f'f,i'O]
  rcases h.val x with ⟨h1,h2⟩ | ⟨a,q,h1,h2,_⟩
  · rw [h1,h2];rfl
  · rw [h1,h2];rfl
theorem Dk.snoc {A:Rep α} {F:Hp} {x:Str} {y:α} {v:V} (hv:A F v y):∀ {kvs:List (Key×V)} {m:List (Str×α)},Dk A F kvs m→Dk A F (kvs++[(Sum.inr x,v)]) (m++[(x,y)])
  | [], [], _ => ⟨rfl, hv, True.intro⟩
  | _ :: _, _ :: _, h => ⟨h.1, h.2.1, Dk.snoc hv h.2.2⟩
  | [], _ :: _, h => h.elim
  | _ :: _, [], h => h.elim
theorem Dk.repl {A:Rep α} {F:Hp} {x:Str} {y:α} {v:V} (hv:A F v y):∀ {kvs:List (Key×V)} {m:List (Str×α)},Dk A F kvs m→
    Dk A F (kvs.map fun kv=>if kv.1=(Sum.inr x:Key) then (kv.1,v) else kv) (m.map fun p=>if p.1=x then (p.1,y) else p)
  | [], [], _ => True.intro
  | p :: r, z :: s, h => by
    have ih:=Dk.repl (x:=x) hv h.2.2
    rw [List.map_cons,List.map_cons]
    by_cases e:z.1=x
    · have e2:p.1=(Sum.inr x:Key):=by rw [h.1,e]
      rw [if_pos e2,if_pos e]
      exact⟨h.1,hv,ih⟩
    · have e2:¬ p.1=(Sum.inr x:Key):=by rw [h.1];exact fun z=>e (Sum.inr.inj z)
      rw [if_neg e2,if_neg e]
      exact⟨h.1,h.2.1,ih⟩
  | [], _ :: _, h => h.elim
  | _ :: _, [], h => h.elim
theorem Dk.put {A:Rep α} {F:Hp} {x:Str} {y:α} {v:V} (hv:A F v y) {kvs:List (Key×V)} {m:List (Str×α)} (h:Dk A F kvs m):Dk A F (putK kvs (Sum.inr x:Key) v) (ptd m x y):=by
  unfold putK ptd
  rw [h.any x]
  split
  · exact h.repl hv
  · exact h.snoc hv
end
def bl (n:Nat):Nat:=if n=0 then 0 else Nat.log2 n+1
theorem bl_lt {n k:Nat}:n<2 ^ k↔bl n≤k:=by
  unfold bl
  by_cases h:n=0
  · subst h;simp [Nat.two_pow_pos]
  · rw [if_neg h,← Nat.log2_lt h];omega
theorem c'P (n:Nat):n<2 ^ bl n:=bl_lt.mpr (Nat.le_refl _)
def bi (x:Int):Nat:=bl x.natAbs
def bs (q:Rat):Nat:=max (bl q.num.natAbs) (bl q.den)
theorem a'Z {q:Rat} {n:Nat} (h:bs q≤n):Sm n q:=⟨bl_lt.mpr (by unfold bs at h;omega),bl_lt.mpr (by unfold bs at h;omega)⟩
theorem f'L {q:Rat} {n:Nat} (h:Sm n q):bs q≤n:=by
  have h1:=bl_lt.mp h.1
  have h2:=bl_lt.mp h.2
  unfold bs
  omega
theorem c'N (q:Rat):Sm (bs q) q:=a'Z (Nat.le_refl _)
theorem c'Z (a b:Rat):bs (a+b)≤bs a+bs b+1:=f'L (n'B (c'N a) (c'N b))
theorem e'o (a b:Rat):bs (a - b)≤bs a+bs b+1:=f'L (n'C (c'N a) (c'N b))
theorem c'F (a b:Rat):bs (a*b)≤bs a+bs b:=f'L (n'D (c'N a) (c'N b))
theorem c'Q:bs 0=1:=by decide +kernel
theorem o'o {x:Int} {k:Nat} (h:x.natAbs<2 ^ k):bi x≤k:=bl_lt.mp h
theorem e'J {x:Int} {k:Nat} (h:bi x≤k):x.natAbs<2 ^ k:=bl_lt.mpr h
theorem b'N (x y:Int):bi (x*y)≤bi x+bi y:=bl_lt.mp (a'Y (c'P _) (c'P _))
theorem h'P (x y:Int):bi (x+y)≤max (bi x) (bi y)+1:=by
  have h1:x.natAbs<2 ^ (max (bi x) (bi y)):=Nat.lt_of_lt_of_le (c'P _) (Nat.pow_le_pow_right (by decide) (Nat.le_max_left _ _))
  have h2:y.natAbs<2 ^ (max (bi x) (bi y)):=Nat.lt_of_lt_of_le (c'P _) (Nat.pow_le_pow_right (by decide) (Nat.le_max_right _ _))
  exact bl_lt.mp (f'H h1 h2)
theorem h'Q (x y:Int):bi (x - y)≤max (bi x) (bi y)+1:=by
  have h1:x.natAbs<2 ^ (max (bi x) (bi y)):=Nat.lt_of_lt_of_le (c'P _) (Nat.pow_le_pow_right (by decide) (Nat.le_max_left _ _))
  have h2:y.natAbs<2 ^ (max (bi x) (bi y)):=Nat.lt_of_lt_of_le (c'P _) (Nat.pow_le_pow_right (by decide) (Nat.le_max_right _ _))
  exact bl_lt.mp (f'I h1 h2)
theorem a'Q {x:Int} (k:Nat) (h:x.natAbs<2 ^ k):bi x≤k:=bl_lt.mp h
theorem c'l (q:Rat):bi q.num≤bs q:=by unfold bi bs;omega
theorem b'p (q:Rat):bi (q.den:Int)≤bs q:=by unfold bi bs;rw [Int.natAbs_natCast];omega
theorem b'O {t b:Int} (h:b≠0) {k:Nat} (h1:bi t≤k) (h2:bi b≤k):bs (Rat.divInt t b)≤k:=f'L (d'g h (e'J h1) (e'J h2))
theorem o'p {x y:Int} (h1:bi x≤60000000) (h2:bi y≤60000000):CMulX x y:=.inr ⟨60000000,Nat.le_refl _,e'J h1,e'J h2⟩
theorem j'A {x y:Int} (h1:-18446744073709551616<x) (h2:x<18446744073709551616):CMulX x y:=.inl (.inl ⟨by omega,by omega⟩)
theorem l'X {x y:Int} (h1:-18446744073709551616<y) (h2:y<18446744073709551616):CMulX x y:=.inl (.inr ⟨by omega,by omega⟩)
theorem o'F {x y:Int} (h0:y≠0) (h1:bi y≤8000):CDivB x y:=⟨h0,e'J h1⟩
section
variable {σ:St} {H:Hp} {Q:VK} {D:Ends} {K:PySem.W.Frag}
theorem e'p {i j z:Int} (e:i ^ j.toNat=z) (c:CPow i j) (h:Q (.int z) H):L2.rI CPow (fun i j=>.int (i ^ j.toNat)) (.int i) (.int j) H Q:=⟨i,j,rfl,rfl,c,by dsimp only;rw [e];exact h⟩
theorem c'y {x y:Str} (h:Q (.bl (decide (x=y))) H):rEq (.str x) (.str y) H Q:=⟨rfl,by
  have e:decide (V.str x=V.str y)=decide (x=y):=by
    by_cases q:x=y
    · subst q;simp
    · rw [decide_eq_false q,decide_eq_false (fun z=>q (V.str.inj z))]
  rw [e];exact h⟩
theorem h'q {x y:Str} (h:Q (.bl (!decide (x=y))) H):rNe (.str x) (.str y) H Q:=⟨rfl,by
  have e:decide (V.str x=V.str y)=decide (x=y):=by
    by_cases q:x=y
    · subst q;simp
    · rw [decide_eq_false q,decide_eq_false (fun z=>q (V.str.inj z))]
  rw [e];exact h⟩
theorem l'Y {b:Bool} {A B:Prop} (h1:b=false→A) (h2:b=true→B):if (!b)=true then A else B:=by
  cases b
  · exact c'b (h1 rfl)
  · exact b'x (h2 rfl)
theorem f'M (n:Int):fr ((n:Int):Rat)=[.int n,.int 1]:=by
  unfold fr
  rw [Rat.num_intCast,Rat.den_intCast]
  rfl
theorem k'q {q:Rat} {t b:Int} (h1:q.num=t) (h2:(q.den:Int)=b):fr q=[.int t,.int b]:=by unfold fr;rw [h1,h2]
end
def TyX (K:PySem.W.Frag) (H:Hp) (x:V) (t:Value):Prop:=TyOf K H x t∨(t=.type "tuple"∧∃ a xs,x=.ref a∧SqT K H a xs)∨(t=.type "list"∧∃ a xs,x=.ref a∧SqL K H a xs)∨(t=.type "dict"∧∃ a kvs,x=.ref a∧Rd H a (.dK kvs))
section
variable {K:PySem.W.Frag} {H:Hp}
theorem k'r {a:Addr} {xs:List V} (h:SqT K H a xs):TyX K H (.ref a) (.type "tuple"):=.inr (.inl ⟨rfl,a,xs,rfl,h⟩)
theorem n'I {a:Addr} {kvs:List (Key×V)} (h:Rd H a (.dK kvs)):TyX K H (.ref a) (.type "dict"):=.inr (.inr (.inr ⟨rfl,a,kvs,rfl,h⟩))
theorem f'N {i:Int}:TyX K H (.int i) (.type "int"):=.inl (.int i)
end
section
open PySem.Spec PyProof.Rows
variable {X:Cx}
theorem c'c:CallR X (.builtin "isinstance") (fun xs H Q=>∃ x c t b u,xs=[x,c]∧TyX X.K H x t∧clsV c=some u∧PySem.W.kitOne X.K t u=some b∧Q (.bl b) H):=by
  intro pins s σ H xs us Q I r h
  obtain⟨x,c,t,b,u,rfl,ty,rc,e,q⟩:=h
  rcases ty with ty | ⟨rfl,a,ys,rfl,hs⟩ | ⟨rfl,a,ys,rfl,hs⟩ | ⟨rfl,a,kvs,rfl,hs⟩
  · exact h'G pins s σ H [x,c] us Q I r ⟨x,c,t,b,u,rfl,ty,rc,e,q⟩
  all_goals
    obtain⟨v,w',rfl,rx,rw'⟩:=j'k r
    have ew:w'=u:=by
      cases c with
      | ref a=>cases rc;exact rw'
      | ty n=>cases rc;exact rw'
      | non=>cases rc
      | bl n=>cases rc
      | int i=>cases rc
      | str i=>cases rc
      | byt i=>cases rc
      | flt i=>cases rc
    subst ew
    cases (show v=Value.ref a from rx)
  · obtain⟨its,_,p,_⟩:=I.tuple hs
    obtain⟨o,h1,h2,_⟩:=p
    exact PySem.W.kia_one PySem.W.kitx_tuple I.kIn ⟨o,h1,h2⟩ e (fun z=>nomatch z) fun tk=>⟨.bl b,H,I.tok tk,rfl,q⟩
  · obtain⟨its,_,p,_⟩:=I.list hs
    obtain⟨o,h1,h2,_⟩:=p.isList
    exact PySem.W.kia_one PySem.W.kitx_list I.kIn ⟨o,h1,h2⟩ e (fun z=>nomatch z) fun tk=>⟨.bl b,H,I.tok tk,rfl,q⟩
  · obtain⟨_,_,vs,_,p⟩:=b'S I.hok hs
    obtain⟨o,es,ep,h1,h2,_⟩:=p
    exact PySem.W.kia_one PySem.W.kitx_dict I.kIn ⟨o,h1,h2.1⟩ e (fun z=>nomatch z) fun tk=>⟨.bl b,H,I.tok tk,rfl,q⟩
end
theorem Al.ix {α:Type} {A:Rep α} {F:Hp} {vs:List V} {xs:List α} (h:Al A F vs xs) {i:Int} (h0:0≤i) (h1:i<xs.length):∃ x v,xs[i.toNat]?=some x∧atI vs i=some v∧A F v x:=by
  have hi:i.toNat<xs.length:=by omega
  obtain⟨v,e1,e2⟩:=h.at (i:=i.toNat) (x:=xs[i.toNat]) (by simp [hi])
  refine⟨xs[i.toNat],v,by simp [hi],?_,e2⟩
  have:=m'j e1
  rw [Int.toNat_of_nonneg h0] at this
  exact this
theorem d'A {α:Type} {m:List (Str×α)} (n:(m.map (·.1)).Nodup) (k:Str) (y:α):((ptd m k y).map (·.1)).Nodup:=by
  unfold ptd
  split
  · rw [List.map_map]
    have e:(m.map ((·.1) ∘ fun p=>if p.1=k then (p.1,y) else p))=m.map (·.1):=by
      apply List.map_congr_left
      intro p _
      simp only [Function.comp]
      split<;>rfl
    rw [e];exact n
  · rename_i h
    rw [List.map_append,List.nodup_append]
    refine⟨n,by simp,?_⟩
    intro a ha b hb e
    simp at hb
    subst hb
    subst e
    obtain⟨p,hp,hk⟩:=List.mem_map.mp ha
    apply h
    rw [List.any_eq_true]
    exact⟨p,hp,by simp [hk]⟩
theorem d'l (x y:Str):(x++y).length=x.length+y.length:=Array.size_append
def cutA {α:Type} (xs:List α) (lo hi:Option Int):List α:=(xs.drop (HT.sIx xs.length 0 lo)).take (HT.sIx xs.length xs.length hi - HT.sIx xs.length 0 lo)
theorem i'P {α:Type} (xs:List α) (lo hi:Option Int):(cutA xs lo hi).length≤xs.length:=by
  unfold cutA
  rw [List.length_take,List.length_drop]
  omega
theorem Al.drop {α:Type} {A:Rep α} {F:Hp}:∀ (n:Nat) {vs:List V} {xs:List α},Al A F vs xs→Al A F (vs.drop n) (xs.drop n)
  | 0, _, _, h => h
  | _ + 1, [], [], _ => True.intro
  | n + 1, _ :: _, _ :: _, h => Al.drop n h.2
  | _ + 1, [], _ :: _, h => h.elim
  | _ + 1, _ :: _, [], h => h.elim
theorem Al.take {α:Type} {A:Rep α} {F:Hp}:∀ (n:Nat) {vs:List V} {xs:List α},Al A F vs xs→Al A F (vs.take n) (xs.take n)
  | 0, _, _, _ => True.intro
  | _ + 1, [], [], _ => True.intro
  | n + 1, _ :: _, _ :: _, h => ⟨h.1, Al.take n h.2⟩
  | _ + 1, [], _ :: _, h => h.elim
  | _ + 1, _ :: _, [], h => h.elim
theorem Al.cut {α:Type} {A:Rep α} {F:Hp} {vs:List V} {xs:List α} (lo hi:Option Int) (h:Al A F vs xs):Al A F (cutV vs lo hi) (cutA xs lo hi):=by
  unfold cutV cutA
  rw [h.length]
  exact (h.drop _).take _
end Vc
namespace Vc
open PySem L2 Sf
section
variable {X:Cx} {pins:List (Addr×Obj)} {σ:St} {F H:Hp} {s:Shared} {Au:Around}
theorem m'o:∀ {x y:V} {u:Value},RelV x u→RelV y u→x=y:=by
  intro x y u h1 h2
  cases x<;>cases y<;>simp only [RelV] at h1 h2<;>first
    | rfl
    | (subst h1;simp at h2;subst h2;rfl)
    | (subst h1;simp at h2;done)
    | (obtain⟨t,rfl⟩:=h1;obtain⟨t',e⟩:=h2;simp at e;rw [e.1])
    | (obtain⟨t,rfl⟩:=h1;simp at h2;done)
    | (obtain⟨t,rfl⟩:=h2;simp at h1;done)
theorem f'k:∀ {xs ys:List V} {us:List Value},Vals xs us→Vals ys us→xs=ys
  | [], [], _, _, _ => rfl
  | _ :: _, _ :: _, _, .cons h t, .cons h' t' => by rw [m'o h h', f'k t t']
  | [], _ :: _, _, h, h' => by cases h; cases h'
  | _ :: _, [], _, h, h' => by cases h'; cases h
theorem i'Q {a:Addr} {xs ys:List V} (I:Inv X pins σ H s) (h1:SqT X.K H a xs) (h2:SqT X.K H a ys):xs=ys:=by
  obtain⟨us,r1,⟨o1,g1,c1,n1,d1⟩,_⟩:=I.tuple h1
  obtain⟨ws,r2,⟨o2,g2,c2,n2,d2⟩,_⟩:=I.tuple h2
  rw [g1] at g2
  cases g2
  rw [d1] at d2
  injection d2 with e _
  have:us=ws:=by simpa using e
  subst this
  exact f'k r1 r2
theorem m'p {a:Addr} {xs ys:List V} (I:Inv X pins σ H s) (h1:SqL X.K H a xs) (h2:SqL X.K H a ys):xs=ys:=by
  obtain⟨us,r1,p1,_⟩:=I.list h1
  obtain⟨ws,r2,p2,_⟩:=I.list h2
  obtain⟨o1,g1,c1,n1,d1⟩:=p1.isList
  obtain⟨o2,g2,c2,n2,d2⟩:=p2.isList
  rw [g1] at g2
  cases g2
  rw [d1] at d2
  injection d2 with e _
  have:us=ws:=by simpa using e
  subst this
  exact f'k r1 r2
theorem i'R {a b:Addr} {xs ys:List V} (I:Inv X pins σ H s) (h1:SqT X.K H a xs) (h2:SqT X.K H b ys) (hu:Au.units<cLine) (hl:xs.length=ys.length) (e:Nat→Bool)
    (he:∀ (j:Nat) x y u v,xs[j]?=some x→ys[j]?=some y→RelV x u→RelV y v→SeqAt.EqAt Au.in1 s u v (e j)):SeqAt.RcAt Au s (.ref a) (.ref b) ((List.range xs.length).all e):=by
  obtain⟨us,r1,t1,_⟩:=I.tuple h1
  obtain⟨ws,r2,t2,_⟩:=I.tuple h2
  have l1:=r1.length
  have l2:=r2.length
  have z:=SeqAt.RcAt.tuples (A:=Au) (e:=e) t1 t2 hu (fun j h1 h2=>?_)
  · have e0:((List.range (min us.toArray.size ws.toArray.size)).all e && us.toArray.size == ws.toArray.size)=(List.range xs.length).all e:=by
      simp only [List.size_toArray]
      have e1:min us.length ws.length=xs.length:=by omega
      have e2:(us.length == ws.length)=true:=by simp;omega
      rw [e1,e2,Bool.and_true]
    rw [e0] at z
    exact z
  · simp only [List.size_toArray] at h1 h2
    obtain⟨u,e1,ru⟩:=r1.get (i:=j) (x:=xs[j]'(by omega)) (by simp)
    obtain⟨v,e2,rv⟩:=r2.get (i:=j) (x:=ys[j]'(by omega)) (by simp)
    obtain⟨_,f1⟩:=List.getElem?_eq_some_iff.mp e1
    obtain⟨_,f2⟩:=List.getElem?_eq_some_iff.mp e2
    have g1:us.toArray[j]'(by simpa using h1)=u:=by simpa using f1
    have g2:ws.toArray[j]'(by simpa using h2)=v:=by simpa using f2
    rw [g1,g2]
    exact he j _ _ u v (by simp) (by simp) ru rv
theorem m'q {a b:Addr} {xs ys:List V} (I:Inv X pins σ H s) (h1:SqL X.K H a xs) (h2:SqL X.K H b ys) (hu:Au.units<cLine) (hl:xs.length=ys.length) (e:Nat→Bool)
    (he:∀ (j:Nat) x y u v,xs[j]?=some x→ys[j]?=some y→RelV x u→RelV y v→SeqAt.EqAt Au.in1 s u v (e j)):SeqAt.RcAt Au s (.ref a) (.ref b) ((List.range xs.length).all e):=by
  obtain⟨us,r1,t1,_⟩:=I.list h1
  obtain⟨ws,r2,t2,_⟩:=I.list h2
  have l1:=r1.length
  have l2:=r2.length
  have z:=SeqAt.RcAt.lists (A:=Au) (e:=e) t1.isList t2.isList (by simp;omega) hu (fun j h1 h2=>?_)
  · have e0:(List.range us.toArray.size).all e=(List.range xs.length).all e:=by
      simp only [List.size_toArray]
      rw [← l1]
    rw [e0] at z
    exact z
  · simp only [List.size_toArray] at h1 h2
    obtain⟨u,e1,ru⟩:=r1.get (i:=j) (x:=xs[j]'(by omega)) (by simp)
    obtain⟨v,e2,rv⟩:=r2.get (i:=j) (x:=ys[j]'(by omega)) (by simp)
    obtain⟨_,f1⟩:=List.getElem?_eq_some_iff.mp e1
    obtain⟨_,f2⟩:=List.getElem?_eq_some_iff.mp e2
    have g1:us.toArray[j]'(by simpa using h1)=u:=by simpa using f1
    have g2:ws.toArray[j]'(by simpa using h2)=v:=by simpa using f2
    rw [g1,g2]
    exact he j _ _ u v (by simp) (by simp) ru rv
end
class Qf {α:Type} [DecidableEq α] (K:PySem.W.Frag) (A:Rep α) (dep:outParam Nat):Prop where
  fn:∀ {X:Cx} {pins:List (Addr×Obj)} {σ:St} {F H:Hp} {s:Shared} {v:V} {x y:α},X.K=K→Inv X pins σ H s→Same F H→A F v x→A F v y→x=y
  qf:∀ {X:Cx} {pins:List (Addr×Obj)} {σ:St} {F H:Hp} {s:Shared} {Au:Around} {v w:V} {x y:α} {u u':Value},X.K=K→Inv X pins σ H s→Same F H→A F v x→A F w y→RelV v u→RelV w u'→Au.units+dep<cLine→SeqAt.EqAt Au s u u' (decide (x=y))
class Qr {α:Type} [DecidableEq α] (K:PySem.W.Frag) (A:Rep α) (dep:outParam Nat):Prop where
  fn:∀ {X:Cx} {pins:List (Addr×Obj)} {σ:St} {F H:Hp} {s:Shared} {v:V} {x y:α},X.K=K→Inv X pins σ H s→Same F H→A F v x→A F v y→x=y
  rf:∀ {F:Hp} {v:V} {x:α},A F v x→∃ a,v=.ref a
  rc:∀ {X:Cx} {pins:List (Addr×Obj)} {σ:St} {F H:Hp} {s:Shared} {Au:Around} {a b:Addr} {x y:α},X.K=K→Inv X pins σ H s→Same F H→A F (.ref a) x→A F (.ref b) y→Au.units+dep<cLine→SeqAt.RcAt Au s (.ref a) (.ref b) (decide (x=y))
instance (priority:=low) {α:Type} [DecidableEq α] {K:PySem.W.Frag} {A:Rep α} {d:Nat} [q:Qr K A d]:Qf K A d where
  fn:=q.fn
  qf:=fun {X pins σ F H s Au v w x y u u'} hK I wd h1 h2 r1 r2 hu=>by
    obtain⟨a,rfl⟩:=q.rf h1
    obtain⟨b,rfl⟩:=q.rf h2
    cases r1
    cases r2
    by_cases e:a=b
    · subst e
      rw [decide_eq_true (q.fn hK I wd h1 h2)]
      exact SeqAt.EqAt.same _
    · exact SeqAt.EqAt.of_refs e (q.rc hK I wd h1 h2 hu)
theorem g'j {α:Type} [DecidableEq α] {K:PySem.W.Frag} {A:Rep α} (f:α→V) (hf:∀ F v x,A F v x↔v=f x) (fl:∀ x,flatV (f x)=true) (he:∀ x y,eqV (f x) (f y)=decide (x=y)) (hi:∀ x y,f x=f y→x=y):Qf K A 0 where
  fn:=fun {X pins σ F H s v x y} _ _ _ h1 h2=>hi x y (((hf F v x).mp h1).symm.trans ((hf F v y).mp h2))
  qf:=fun {X pins σ F H s Au v w x y u u'} _ _ _ h1 h2 r1 r2 _=>by
    have e1:=(hf F v x).mp h1
    have e2:=(hf F w y).mp h2
    subst e1 e2
    rw [← he x y]
    exact c'V r1 r2 (fl x) (fl y)
instance {K:PySem.W.Frag}:Qf K rI 0:=g'j V.int (fun _ _ _=>Iff.rfl) (fun _=>rfl) (fun x y=>by show (x == y)=_;rw [Bool.beq_eq_decide_eq]) (fun _ _ h=>V.int.inj h)
instance {K:PySem.W.Frag}:Qf K rS 0:=g'j V.str (fun _ _ _=>Iff.rfl) (fun _=>rfl) (fun x y=>by show (x == y)=_;rw [Bool.beq_eq_decide_eq]) (fun _ _ h=>V.str.inj h)
instance {K:PySem.W.Frag}:Qf K rB 0:=g'j V.bl (fun _ _ _=>Iff.rfl) (fun _=>rfl) (fun x y=>by show (x == y)=_;rw [Bool.beq_eq_decide_eq]) (fun _ _ h=>V.bl.inj h)
theorem m'r (p q:Rat):decide (p=q)=(decide (p.num=q.num) && decide ((p.den:Int)=(q.den:Int))):=by
  by_cases h:p=q
  · subst h;simp
  · rw [decide_eq_false h]
    by_cases h1:p.num=q.num
    · have h2:¬ ((p.den:Int)=(q.den:Int)):=fun z=>h (Rat.ext h1 (by omega))
      rw [decide_eq_false h2,Bool.and_false]
    · rw [decide_eq_false h1,Bool.false_and]
theorem h'R {Au:Around} {s:Shared} {i j:Int} {u v:Value} (r1:RelV (.int i) u) (r2:RelV (.int j) v):SeqAt.EqAt Au s u v (decide (i=j)):=by
  have z:=c'V (A:=Au) (s:=s) r1 r2 rfl rfl
  have e:eqV (.int i) (.int j)=decide (i=j):=by show (i == j)=_;rw [Bool.beq_eq_decide_eq]
  rw [e] at z
  exact z
instance {K:PySem.W.Frag}:Qr K (rFr K) 1 where
  fn:=fun {X pins σ F H s v x y} hK I wd h1 h2=>by
    subst hK
    obtain⟨a,rfl,g1⟩:=h1
    obtain⟨b,e,g2⟩:=h2
    cases e
    have z:=i'Q I (wd.tup g1) (wd.tup g2)
    unfold fr at z
    injection z with z1 z2
    injection z2 with z2 _
    have n1:=V.int.inj z1
    have n2:=V.int.inj z2
    exact Rat.ext n1 (by omega)
  rf:=fun ⟨a,h,_⟩=>⟨a,h⟩
  rc:=fun {X pins σ F H s Au a b x y} hK I wd h1 h2 hu=>by
    subst hK
    obtain⟨a',e1,g1⟩:=h1
    obtain⟨b',e2,g2⟩:=h2
    cases e1
    cases e2
    have z:=i'R (Au:=Au) I (wd.tup g1) (wd.tup g2) (by omega) rfl (fun j=>if j=0 then decide (x.num=y.num) else decide ((x.den:Int)=(y.den:Int))) (fun j p q u v h1 h2 r1 r2=>by
      match j,h1,h2 with
      | 0,h1,h2=>cases h1;cases h2;exact h'R r1 r2
      | 1,h1,h2=>cases h1;cases h2;exact h'R r1 r2
      | j+2,h1,h2=>cases h1)
    rw [m'r]
    have e:(List.range (fr x).length).all (fun j=>if j=0 then decide (x.num=y.num) else decide ((x.den:Int)=(y.den:Int)))=(decide (x.num=y.num) && decide ((x.den:Int)=(y.den:Int))):=by
      show (List.range 2).all _=_
      simp [List.range_succ]
    rw [e] at z
    exact z
instance {K:PySem.W.Frag} {α β:Type} [DecidableEq α] [DecidableEq β] {A:Rep α} {B:Rep β} {d e:Nat} [qa:Qf K A d] [qb:Qf K B e]:Qr K (r2 K A B) (d+e+1) where
  fn:=fun {X pins σ F H s v x y} hK I wd h1 h2=>by
    subst hK
    obtain⟨a,v1,v2,rfl,g,k1,k2⟩:=h1
    obtain⟨b,w1,w2,e,g',l1,l2⟩:=h2
    cases e
    have z:=i'Q I (wd.tup g) (wd.tup g')
    injection z with z1 z2
    injection z2 with z2 _
    subst z1 z2
    exact Prod.ext (qa.fn rfl I wd k1 l1) (qb.fn rfl I wd k2 l2)
  rf:=fun ⟨a,_,_,h,_⟩=>⟨a,h⟩
  rc:=fun {X pins σ F H s Au a b x y} hK I wd h1 h2 hu=>by
    subst hK
    obtain⟨a',v1,v2,e1,g1,k1,k2⟩:=h1
    obtain⟨b',w1,w2,e2,g2,l1,l2⟩:=h2
    cases e1
    cases e2
    have z:=i'R (Au:=Au) I (wd.tup g1) (wd.tup g2) (by omega) rfl (fun j=>if j=0 then decide (x.1=y.1) else decide (x.2=y.2)) (fun j p q u v h1 h2 r1 r2=>by
      match j,h1,h2 with
      | 0,h1,h2=>cases h1;cases h2;exact qa.qf rfl I wd k1 l1 r1 r2 (by rw [b'o];omega)
      | 1,h1,h2=>cases h1;cases h2;exact qb.qf rfl I wd k2 l2 r1 r2 (by rw [b'o];omega)
      | j+2,h1,h2=>cases h1)
    have e0:decide (x=y)=(decide (x.1=y.1) && decide (x.2=y.2)):=by
      rw [← Bool.decide_and]
      congr 1
      exact propext Prod.ext_iff
    have e:(List.range [v1,v2].length).all (fun j=>if j=0 then decide (x.1=y.1) else decide (x.2=y.2))=(decide (x.1=y.1) && decide (x.2=y.2)):=by
      show (List.range 2).all _=_
      simp [List.range_succ]
    rw [e] at z
    rw [e0]
    exact z
theorem k's {K:PySem.W.Frag} {α:Type} [DecidableEq α] {A:Rep α} {d:Nat} [qa:Qf K A d] {X:Cx} {pins:List (Addr×Obj)} {σ:St} {F H:Hp} {s:Shared} (hK:X.K=K) (I:Inv X pins σ H s) (wd:Same F H) :
    ∀ {vs:List V} {xs ys:List α},Al A F vs xs→Al A F vs ys→xs=ys
  | [], [], [], _, _ => rfl
  | _ :: _, _ :: _, _ :: _, h, g => by rw [qa.fn hK I wd h.1 g.1, k's hK I wd h.2 g.2]
  | [], _ :: _, _, h, _ => h.elim
  | [], [], _ :: _, _, h => h.elim
  | _ :: _, [], _, h, _ => h.elim
  | _ :: _, _ :: _, [], _, h => h.elim
theorem m's {α:Type} [DecidableEq α]:∀ (xs ys:List α),xs.length=ys.length→(List.range xs.length).all (fun j=>decide (xs[j]?=ys[j]?))=decide (xs=ys):=by
  intro xs ys h
  by_cases e:xs=ys
  · subst e;simp
  · rw [decide_eq_false e,Bool.eq_false_iff]
    intro z
    apply e
    rw [List.all_eq_true] at z
    apply List.ext_getElem? 
    intro j
    by_cases hj:j<xs.length
    · exact of_decide_eq_true (z j (List.mem_range.mpr hj))
    · rw [List.getElem?_eq_none (by omega),List.getElem?_eq_none (by omega)]
instance {K:PySem.W.Frag} {α:Type} [DecidableEq α] {A:Rep α} {d:Nat} [qa:Qf K A d]:Qr K (rL K A) (d+1) where
  fn:=fun {X pins σ F H s v x y} hK I wd h1 h2=>by
    obtain⟨a,vs,rfl,g,k1⟩:=h1
    obtain⟨b,ws,e,g',l1⟩:=h2
    cases e
    subst hK
    have z:=m'p I (wd.seq g) (wd.seq g')
    subst z
    exact k's rfl I wd k1 l1
  rf:=fun ⟨a,_,h,_⟩=>⟨a,h⟩
  rc:=fun {X pins σ F H s Au a b x y} hK I wd h1 h2 hu=>by
    subst hK
    obtain⟨a',vs,e1,g1,k1⟩:=h1
    obtain⟨b',ws,e2,g2,l1⟩:=h2
    cases e1
    cases e2
    have n1:=k1.length
    have n2:=l1.length
    by_cases hl:x.length=y.length
    · have z:=m'q (Au:=Au) I (wd.seq g1) (wd.seq g2) (by omega) (by omega) (fun j=>decide (x[j]?=y[j]?)) (fun j p q u v h1 h2 r1 r2=>by
        obtain⟨m1,e1,f1⟩:=k1.get h1
        obtain⟨m2,e2,f2⟩:=l1.get h2
        have e0:decide (x[j]?=y[j]?)=decide (m1=m2):=by
          rw [e1,e2]
          congr 1
          exact propext ⟨fun h=>Option.some.inj h,fun h=>by rw [h]⟩
        rw [e0]
        exact qa.qf rfl I wd f1 f2 r1 r2 (by rw [b'o];omega))
      rw [n1,m's x y hl] at z
      exact z
    · rw [decide_eq_false (fun z=>hl (by rw [z]))]
      obtain⟨us,r1,t1,_⟩:=I.list (wd.seq g1)
      obtain⟨zs,r2,t2,_⟩:=I.list (wd.seq g2)
      have m1:=r1.length
      have m2:=r2.length
      exact SeqAt.RcAt.lists_lengths t1.isList t2.isList (by simp;omega) (by omega)
section
variable {X:Cx}
def rQ {α:Type} [DecidableEq α] (A:Rep α):R2:=fun v w H Q=>∃ F x y,Same F H∧A F v x∧A F w y∧Q (.bl (decide (x=y))) H
theorem k't {α:Type} [DecidableEq α] {K:PySem.W.Frag} {A:Rep α} {d:Nat} [q:Qr K A d] (hK:X.K=K) (hu:X.A.units+64<cLine) (hd:d≤60:=by decide):OpR X (compareOp .Eq) (rQ A):=by
  intro pins s σ H x y v u Q I rx ry h
  obtain⟨F,p,r,wd,h1,h2,hq⟩:=h
  obtain⟨a,rfl⟩:=q.rf h1
  obtain⟨b,rfl⟩:=q.rf h2
  cases rx
  cases ry
  exact q.rc hK I wd h1 h2 (by omega) X.prog X.w X.xe _ ⟨.bl _,H,I,rfl,hq⟩
end
theorem k'u {K:PySem.W.Frag} {H:Hp}:∀ {n:Nat} {x y:V},EqT K H n x y→EqT K H (n+1) x y
  | 0, _, _, h => .inl h
  | n + 1, _, _, .inl h => .inl h
  | n + 1, _, _, .inr ⟨p, q, xs, ys, h1, h2, h3, h4⟩ => .inr ⟨p, q, xs, ys, h1, h2, h3, by
    have gen:∀ {xs ys:List V},All2 (EqT K H n) xs ys→All2 (EqT K H (n+1)) xs ys:=by
      intro xs
      induction xs with
      | nil=>intro ys h;cases ys with
        | nil=>exact True.intro
        | cons _ _=>exact h.elim
      | cons x xs ih=>intro ys h;cases ys with
        | nil=>exact h.elim
        | cons y ys=>exact⟨k'u h.1,ih h.2⟩
    exact gen h4⟩
theorem m't {K:PySem.W.Frag} {H:Hp} {n:Nat} {ka kb:List (Key×V)} (h:DEqT K H n ka kb):DEqT K H (n+1) ka kb:=⟨h.1,fun k v m=>by obtain⟨y,e1,e2⟩:=h.2 k v m;exact⟨y,e1,k'u e2⟩⟩
theorem k'v {K:PySem.W.Frag} {H:Hp}:∀ {n:Nat} {x y:V},EqN K H n x y→EqN K H (n+1) x y
  | 0, _, _, h => .inl h
  | n + 1, _, _, .inl h => .inl h
  | n + 1, _, _, .inr ⟨p, q, h1, h2, .inr ⟨ka, kb, g1, g2, g3⟩⟩ => .inr ⟨p, q, h1, h2, .inr ⟨ka, kb, g1, g2, m't g3⟩⟩
  | n + 1, _, _, .inr ⟨p, q, h1, h2, .inl ⟨xs, ys, h3, h4⟩⟩ => .inr ⟨p, q, h1, h2, .inl ⟨xs, ys, h3, by
    have gen:∀ {xs ys:List V},All2 (EqN K H n) xs ys→All2 (EqN K H (n+1)) xs ys:=by
      intro xs
      induction xs with
      | nil=>intro ys h;cases ys with
        | nil=>exact True.intro
        | cons _ _=>exact h.elim
      | cons x xs ih=>intro ys h;cases ys with
        | nil=>exact h.elim
        | cons y ys=>exact⟨k'v h.1,ih h.2⟩
    exact gen h4⟩⟩
theorem b'D {K:PySem.W.Frag} {H:Hp} {n m:Nat} {x y:V} (h:EqN K H n x y) (k:n≤m):EqN K H m x y:=by
  induction k with
  | refl => exact h
  | step _ ih => exact k'v ih
theorem i'S {K:PySem.W.Frag} {H:Hp}:∀ {n:Nat} {x y:V},EqT K H n x y→EqN K H n x y
  | 0, _, _, h => h
  | n + 1, _, _, .inl h => .inl h
  | n + 1, _, _, .inr ⟨p, q, xs, ys, h1, h2, h3, h4⟩ => .inr ⟨p, q, h1, h2, .inl ⟨xs, ys, h3, by
    have gen:∀ {xs ys:List V},All2 (EqT K H n) xs ys→All2 (EqN K H n) xs ys:=by
      intro xs
      induction xs with
      | nil=>intro ys h;cases ys with
        | nil=>exact True.intro
        | cons _ _=>exact h.elim
      | cons x xs ih=>intro ys h;cases ys with
        | nil=>exact h.elim
        | cons y ys=>exact⟨i'S h.1,ih h.2⟩
    exact gen h4⟩⟩
class Et {α:Type} (K:PySem.W.Frag) (A:Rep α) (n:outParam Nat):Prop where
  et:∀ {F H:Hp} {v w:V} {x:α},Same F H→A F v x→A F w x→EqT K H n v w
instance {K:PySem.W.Frag}:Et K rI 0:=⟨fun _ h g=>by cases h;cases g;exact⟨rfl,rfl⟩⟩
instance {K:PySem.W.Frag}:Et K rS 0:=⟨fun _ h g=>by cases h;cases g;exact⟨rfl,rfl⟩⟩
instance {K:PySem.W.Frag}:Et K rB 0:=⟨fun _ h g=>by cases h;cases g;exact⟨rfl,rfl⟩⟩
instance {K:PySem.W.Frag}:Et K (rFr K) 1:=⟨fun wd ⟨a,h1,h2⟩ ⟨b,g1,g2⟩=>.inr ⟨a,b,_,_,h1,g1,.inl ⟨wd.tup h2,wd.tup g2⟩,⟨rfl,rfl⟩,⟨rfl,rfl⟩,True.intro⟩⟩
class En {α:Type} (K:PySem.W.Frag) (A:Rep α) (n:outParam Nat):Prop where
  en:∀ {F H:Hp} {v w:V} {x:α},Same F H→A F v x→A F w x→EqN K H n v w
instance (priority:=low) {K:PySem.W.Frag} {α:Type} {A:Rep α} {n:Nat} [Et K A n]:En K A n:=⟨fun wd h g=>i'S (Et.et wd h g)⟩
theorem k'w {K:PySem.W.Frag} {α:Type} {A:Rep α} {n:Nat} [Et K A n] {F H:Hp} {ka kb:List (Key×V)} {m m':List (Str×α)} (wd:Same F H) (h:Dk A F ka m) (g:Dk A F kb m') (hn:(m.map (·.1)).Nodup) (hl:m.length=m'.length) (hg:∀ k y,gtd m k=some y→gtd m' k=some y):DEqT K H n ka kb:=by
  refine⟨by rw [h.length,g.length,hl],fun k v hm=>?_⟩
  obtain⟨i,hi⟩:=List.getElem?_of_mem hm
  obtain⟨x,q,e1,rfl,ha⟩:=h.get hi
  have hgt:gtd m x=some q:=by
    have mem:=List.mem_of_getElem? e1
    clear h hi hm hl hg e1
    induction m with
    | nil=>cases mem
    | cons p r ih=>
      rw [List.map_cons,List.nodup_cons] at hn
      rcases List.mem_cons.mp mem with e | e
      · subst e;exact g'h rfl
      · have ne:¬ p.1=x:=fun z=>hn.1 (by rw [z];exact List.mem_map.mpr ⟨_,e,rfl⟩)
        rw [g'i ne];exact ih hn.2 e
  obtain⟨w,v1,v3⟩:=g.some (hg x q hgt)
  exact⟨w,v1,Et.et wd ha v3⟩
instance {K:PySem.W.Frag} {α:Type} {A:Rep α} {n:Nat} [Et K A n]:En K (rD A) (n+1):=
  ⟨fun wd ⟨a,ka,h1,h2,h3,h4⟩ ⟨b,kb,g1,g2,g3,g4⟩=>.inr ⟨a,b,h1,g1,.inr ⟨ka,kb,wd.rd h2,wd.rd g2,k'w wd h3 g3 h4 rfl fun _ _ e=>e⟩⟩⟩
instance (priority:=low) {K:PySem.W.Frag} {α β:Type} {A:Rep α} {B:Rep β} {n m:Nat} [En K A n] [En K B m]:En K (r2 K A B) (n+m+1):=
  ⟨fun wd ⟨a,v1,v2,h1,h2,h3,h4⟩ ⟨b,w1,w2,g1,g2,g3,g4⟩=>.inr ⟨a,b,h1,g1,.inl ⟨_,_,.inl ⟨wd.tup h2,wd.tup g2⟩,b'D (En.en wd h3 g3) (by omega),b'D (En.en wd h4 g4) (by omega),True.intro⟩⟩⟩
instance {K:PySem.W.Frag} {α β γ δ ε:Type} {A:Rep α} {B:Rep β} {C:Rep γ} {D:Rep δ} {E:Rep ε} {n m k l j:Nat} [En K A n] [En K B m] [En K C k] [En K D l] [En K E j]:En K (r5 K A B C D E) (n+m+k+l+j+1):=
  ⟨fun wd ⟨a,v1,v2,v3,v4,v5,h1,h2,h3,h4,h5,h6,h7⟩ ⟨b,w1,w2,w3,w4,w5,g1,g2,g3,g4,g5,g6,g7⟩=>
    .inr ⟨a,b,h1,g1,.inl ⟨_,_,.inl ⟨wd.tup h2,wd.tup g2⟩,b'D (En.en wd h3 g3) (by omega),b'D (En.en wd h4 g4) (by omega),b'D (En.en wd h5 g5) (by omega),b'D (En.en wd h6 g6) (by omega),b'D (En.en wd h7 g7) (by omega),True.intro⟩⟩⟩
section
variable {K:PySem.W.Frag} {F H:Hp} {Q:VK}
theorem k'x {α β:Type} {A:Rep α} {B:Rep β} {n m:Nat} [En K A n] [En K B m] {v w:V} {x:α×β} (wd:Same F H) (h:r2 K A B F v x) (g:r2 K A B F w x) (hn:n+m≤40) (q:Q (.bl true) H):rEqN K v w H Q:=by
  obtain⟨a,v1,v2,h1,h2,h3,h4⟩:=h
  obtain⟨b,w1,w2,g1,g2,g3,g4⟩:=g
  exact⟨n+m,a,b,_,_,hn,h1,g1,.inl ⟨wd.tup h2,wd.tup g2⟩,⟨b'D (En.en wd h3 g3) (by omega),b'D (En.en wd h4 g4) (by omega),True.intro⟩,q⟩
theorem k'y {α:Type} {A:Rep α} {n:Nat} [Et K A n] {p q:Addr} {ka kb:List (Key×V)} {m m':List (Str×α)} (wd:Same F H) (h1:Rd H p (.dK ka)) (h:Dk A F ka m) (g1:Rd H q (.dK kb)) (g:Dk A F kb m') (hm:(m.map (·.1)).Nodup) (hl:m.length=m'.length) (hg:∀ k y,gtd m k=some y→gtd m' k=some y) (hn:n≤40) {b:Bool} (k:Q (.bl b) H):rEqD K b (.ref p) (.ref q) H Q:=
  ⟨n,p,q,ka,kb,hn,rfl,rfl,h1,g1,k'w wd h g hm hl hg,k⟩
end
end Vc
namespace L2
open PySem PySem.Spec PyProof.Rows
def clStep (env:Env) (cs:List (Str×Addr)) (y:Str×NameKind):List (Str×Addr):=if (y.2 == .free)=true then (match env.cells.lookup y.1 with | some a=>(y.1,a) :: cs | none=>cs) else cs
def clOf (scope:Scope) (env:Env):List (Str×Addr):=scope.names.foldl (clStep env) []
def clAll (scope:Scope) (env:Env):Bool:=scope.names.all fun y=>!(y.2 == .free) || (env.cells.lookup y.1).isSome
theorem f'O {scope:Scope} {env:Env} (h:clAll scope env=true):closureFor scope env=pure (clOf scope env):=by
  unfold closureFor clOf
  unfold clAll at h
  have gen:∀ (l:List (Str×NameKind)) (cs:List (Str×Addr)),(l.all fun y=>!(y.2 == .free) || (env.cells.lookup y.1).isSome)=true→
      (forIn l cs fun x r=>match x with | (name,kind)=>if (kind == NameKind.free)=true then (do let a ← cellOf env name;pure (ForInStep.yield ((name,a) :: r))) else pure (ForInStep.yield r):Sem (List (Str×Addr)))=pure (l.foldl (clStep env) cs):=by
    intro l
    induction l with
    | nil=>intro cs _;rfl
    | cons y r ih=>
      intro cs ha
      rw [List.all_cons,Bool.and_eq_true] at ha
      obtain⟨n,k⟩:=y
      rw [List.forIn_cons,List.foldl_cons]
      by_cases hk:(k == NameKind.free)=true
      · have h1:=ha.1
        simp only [hk,Bool.not_true,Bool.false_or] at h1
        obtain⟨a,e⟩:=Option.isSome_iff_exists.mp h1
        have e1:clStep env cs (n,k)=(n,a) :: cs:=by unfold clStep;simp [hk,e]
        have e2:cellOf env n=pure a:=by unfold cellOf;rw [e]
        rw [e1,← ih _ ha.2]
        simp only [hk,if_true,e2,pure_bind]
      · have e1:clStep env cs (n,k)=cs:=by unfold clStep;simp [hk]
        rw [e1,← ih _ ha.2]
        simp only [hk,if_false,pure_bind,Bool.false_eq_true]
  have:=gen scope.names [] h
  simp only [this,pure_bind]
theorem c'd {scope:Scope} {env:Env} {x:Str} {c:Addr} (h:(clOf scope env).lookup x=some c):env.cells.lookup x=some c:=by
  unfold clOf at h
  have gen:∀ (l:List (Str×NameKind)) (cs:List (Str×Addr)),(cs.lookup x=some c→env.cells.lookup x=some c)→(l.foldl (clStep env) cs).lookup x=some c→env.cells.lookup x=some c:=by
    intro l
    induction l with
    | nil=>intro cs f g;exact f g
    | cons y r ih=>
      intro cs f g
      rw [List.foldl_cons] at g
      refine ih _ (fun z=>?_) g
      unfold clStep at z
      split at z
      · split at z
        · rename_i a e
          rw [List.lookup_cons] at z
          by_cases hx:(x == y.1)=true
          · rw [hx] at z
            have:=eq_of_beq hx
            subst this
            simp at z
            rw [← z];exact e
          · simp only [hx] at z
            exact f z
        · exact f z
      · exact f z
  exact gen scope.names [] (fun z=>by cases z) h
theorem h'S {scope:Scope} {env:Env} {x:Str} (ha:clAll scope env=true) (h:scope.names.lookup x=some .free):∃ c,(clOf scope env).lookup x=some c:=by
  unfold clOf
  unfold clAll at ha
  have keep:∀ (l:List (Str×NameKind)) (cs:List (Str×Addr)),(∃ c,cs.lookup x=some c)→∃ c,(l.foldl (clStep env) cs).lookup x=some c:=by
    intro l
    induction l with
    | nil=>intro cs f;exact f
    | cons y r ih=>
      intro cs f
      rw [List.foldl_cons]
      refine ih _ ?_
      unfold clStep
      split
      · split
        · rw [List.lookup_cons]
          by_cases hx:(x == y.1)=true
          · rw [hx];exact⟨_,rfl⟩
          · simp only [hx];exact f
        · exact f
      · exact f
  have gen:∀ (l:List (Str×NameKind)) (cs:List (Str×Addr)),(l.all fun y=>!(y.2 == .free) || (env.cells.lookup y.1).isSome)=true→l.lookup x=some .free→∃ c,(l.foldl (clStep env) cs).lookup x=some c:=by
    intro l
    induction l with
    | nil=>intro cs _ f;cases f
    | cons y r ih=>
      intro cs ha f
      rw [List.all_cons,Bool.and_eq_true] at ha
      obtain⟨n,k⟩:=y
      rw [List.foldl_cons]
      rw [List.lookup_cons] at f
      by_cases hx:(x == n)=true
      · rw [hx] at f
        have:=eq_of_beq hx
        subst this
        simp at f
        subst f
        refine keep r _ ?_
        have h1:(env.cells.lookup x).isSome=true:=ha.1
        obtain⟨a,e⟩:=Option.isSome_iff_exists.mp h1
        refine⟨a,?_⟩
        unfold clStep
        rw [if_pos (show ((NameKind.free) == NameKind.free)=true from rfl)]
        dsimp only
        rw [e]
        dsimp only
        rw [List.lookup_cons,hx]
      · simp only [hx] at f
        exact ih _ ha.2 f
  exact gen scope.names [] ha h
theorem i't {scope:Scope} {env:Env} {x:Str} (hcell:∀ y∈scope.names,y.2≠.cell) (h:(relabel scope env).names.lookup x=some .cell∨(relabel scope env).names.lookup x=some .free):scope.names.lookup x=some .free:=by
  unfold relabel at h
  dsimp only at h
  have gen:∀ l:List (Str×NameKind),(∀ y∈l,y.2≠.cell)→((l.map fun (n,k)=>if (k == NameKind.free && env.scope.kind == .function && env.kindOf n == some .cell) then (n,NameKind.cell) else (n,k)).lookup x=some .cell∨(l.map fun (n,k)=>if (k == NameKind.free && env.scope.kind == .function && env.kindOf n == some .cell) then (n,NameKind.cell) else (n,k)).lookup x=some .free)→l.lookup x=some .free:=by
    intro l
    induction l with
    | nil=>intro _ f;rcases f with f | f<;>cases f
    | cons y r ih=>
      intro hc f
      obtain⟨n,k⟩:=y
      have hk:k≠.cell:=hc (n,k) (List.mem_cons_self ..)
      rw [List.map_cons] at f
      rw [List.lookup_cons]
      by_cases hx:(x == n)=true
      · rw [hx]
        dsimp only at f ⊢
        by_cases hf:(k == NameKind.free && env.scope.kind == .function && env.kindOf n == some .cell)=true
        · have:k=.free:=by
            simp only [Bool.and_eq_true] at hf
            exact eq_of_beq hf.1.1
          rw [this]
        · rw [if_neg hf,List.lookup_cons,hx] at f
          simp only [Option.some.injEq] at f
          rcases f with f | f
          · exact absurd f hk
          · rw [f]
      · simp only [hx]
        refine ih (fun y hy=>hc y (List.mem_cons_of_mem _ hy)) ?_
        dsimp only at f
        split at f<;>(rw [List.lookup_cons] at f;simp only [hx] at f;exact f)
  exact gen scope.names hcell h
inductive Wk:St→St→Prop
  | nil : Wk [] []
  | non {a b : St} {x : Option V} : Wk a b → Wk (none :: a) (x :: b)
  | som {a b : St} {v : V} : Wk a b → Wk (some v :: a) (some v :: b)
theorem Wk.length {a b:St} (h:Wk a b):b.length=a.length:=by
  induction h with
  | nil => rfl
  | non _ ih => simp [ih]
  | som _ ih => simp [ih]
theorem Wk.get {a b:St} (h:Wk a b):∀ {i:Nat} {v:V},a[i]?=some (some v)→b[i]?=some (some v):=by
  induction h with
  | nil => intro i v e; simp at e
  | non _ ih =>
    intro i v e
    cases i with
    | zero=>simp at e
    | succ i=>simpa using ih (i:=i) (v:=v) (by simpa using e)
  | som _ ih =>
    intro i v e
    cases i with
    | zero=>simpa using e
    | succ i=>simpa using ih (i:=i) (v:=v) (by simpa using e)
theorem g'k:∀ a:St,Wk a a
  | [] => .nil
  | none :: a => .non (g'k a)
  | some _ :: a => .som (g'k a)
def pickS (ix:List (Option Nat)) (σ:St):St:=ix.map fun o=>match o with | none=>none | some i=>(σ[i]?).getD none
def PickOk (X:Cx) (sc:Scope):List Str→List (Option Nat)→Prop
  | [], [] => True
  | _ :: N, none :: ix => PickOk X sc N ix
  | x :: N, some i :: ix => X.N[i]? = some x ∧ X.env.kindOf x = some .cell ∧ sc.names.lookup x = some .free ∧ PickOk X sc N ix
  | _, _ => False
theorem PickOk.length {X:Cx} {sc:Scope}:∀ {N:List Str} {ix:List (Option Nat)},PickOk X sc N ix→ix.length=N.length
  | [], [], _ => rfl
  | _ :: N, none :: ix, h => by rw [List.length_cons, List.length_cons, PickOk.length (X := X) (sc := sc) (N := N) (ix := ix) h]
  | _ :: N, some i :: ix, h => by rw [List.length_cons, List.length_cons, PickOk.length (X := X) (sc := sc) (N := N) (ix := ix) h.2.2.2]
  | [], _ :: _, h => h.elim
  | _ :: _, [], h => h.elim
theorem PickOk.get {X:Cx} {sc:Scope} {σ:St}:∀ {N:List Str} {ix:List (Option Nat)} {j:Nat} {x:Str} {v:V},PickOk X sc N ix→N[j]?=some x→(pickS ix σ)[j]?=some (some v)→∃ i:Nat,X.N[i]?=some x∧X.env.kindOf x=some .cell∧sc.names.lookup x=some .free∧σ[i]?=some (some v)
  | _ :: N, none :: ix, 0, x, v, h, e1, e2 => by simp [pickS] at e2
  | _ :: N, none :: ix, j + 1, x, v, h, e1, e2 => PickOk.get (N := N) (ix := ix) (j := j) h (by simpa using e1) (by simpa [pickS] using e2)
  | y :: N, some i :: ix, 0, x, v, h, e1, e2 => by
    simp at e1
    subst e1
    refine⟨i,h.1,h.2.1,h.2.2.1,?_⟩
    simp [pickS] at e2
    cases q:σ[i]? with
    | none=>rw [q] at e2;simp at e2
    | some o=>rw [q] at e2;simp at e2;rw [e2]
  | y :: N, some i :: ix, j + 1, x, v, h, e1, e2 => PickOk.get (N := N) (ix := ix) (j := j) h.2.2.2 (by simpa using e1) (by simpa [pickS] using e2)
  | [], [], _, _, _, _, e1, _ => by simp at e1
  | [], _ :: _, _, _, _, h, _, _ => h.elim
  | _ :: _, [], _, _, _, h, _, _ => h.elim
theorem h'T {scope:Scope} {env:Env} {x:Str} (h:scope.names.lookup x=some .free):(relabel scope env).names.lookup x=some .cell∨(relabel scope env).names.lookup x=some .free:=by
  unfold relabel
  dsimp only
  have gen:∀ l:List (Str×NameKind),l.lookup x=some .free→((l.map fun (n,k)=>if (k == NameKind.free && env.scope.kind == .function && env.kindOf n == some .cell) then (n,NameKind.cell) else (n,k)).lookup x=some .cell∨(l.map fun (n,k)=>if (k == NameKind.free && env.scope.kind == .function && env.kindOf n == some .cell) then (n,NameKind.cell) else (n,k)).lookup x=some .free):=by
    intro l
    induction l with
    | nil=>intro f;cases f
    | cons y r ih=>
      intro f
      obtain⟨n,k⟩:=y
      rw [List.lookup_cons] at f
      rw [List.map_cons]
      by_cases hx:(x == n)=true
      · rw [hx] at f
        simp at f
        subst f
        dsimp only
        split
        · left;rw [List.lookup_cons,hx]
        · right;rw [List.lookup_cons,hx]
      · simp only [hx] at f
        dsimp only
        split<;>(rw [List.lookup_cons];simp only [hx];exact ih f)
  exact gen scope.names h
def cxComp (X:Cx) (scope:Scope) (N:List Str) (C:Addr) (s:Shared) (H:Hp) (fp:List Addr) (pl:List (Addr×Obj)):Cx where
  prog:=X.prog
  w:=X.w
  K:=X.K
  mg:=X.mg
  base:=X.base
  A:=X.A
  N:=N
  s₀:=s
  H₀:=H
  env:=compEnvC scope (clOf scope X.env) C X.env
  outer:=X.stack
  stack:=X.stack
  ex:=fp
  fn:=fun _=>false
  calm:=X.calm
  pn:=X.pn++pl
  xe:=fun _ _=>False
def PTs (Y:Cx) (ifs:List Expr) (t:TT):Prop:=
  ∀ (pins:List (Addr×Obj)) (s:Shared) (σ:St) (H:Hp) (Q:Bool→Hp→Prop),Inv Y pins σ H s→t σ H Q→
    wpAny (model Y.prog Y.w) Y.A (forIn ifs true fun c r=>if r=true then do let ok ← isTrue c Y.env (eval c Y.env);pure (ForInStep.yield ok) else pure (ForInStep.yield r)) (TP Y pins σ Q) Y.xe s
def tYes:TT:=fun _ H Q=>Q true H
theorem m'u {Y:Cx}:PTs Y [] tYes:=fun _ _ _ H _ I h=>wpAny_tests_nil ⟨H,I,h⟩
theorem m'v {Y:Cx} {c:Expr} {t:TT} (h:PT Y c t):PTs Y [c] t:=fun pins s σ H Q I q=>wpAny_tests_one (h pins s σ H Q I q)
theorem h'U {prog:Program} {w:World} {A:Around} {R:Result→Shared→Prop} {s:Shared} {elt target iter:Expr} {ifs:List Expr} {scope:Scope} {pos:Pos} {it acc:Value} {env:Env} (I:Nat→Shared→Prop)
    (turn:∀ n s,I n s→wpAny (model prog w) A (pyNext it) (fun r s₁=>match r with
      | none=>R (.ok .next) s₁
      | some v=>wpAny (model prog w) A (letOwnedTupleGo target it v) (fun _ s₀=>wpAny (model prog w) A (assign target env v) (fun _ s₂=>
          wpAny (model prog w) A (forIn ifs true fun c r=>if r=true then do let ok ← isTrue c env (eval c env);pure (ForInStep.yield ok) else pure (ForInStep.yield r)) (fun ok s₃=>
            if ok=true then wpAny (model prog w) A (eval elt env) (fun x s₄=>
              wpAny (model prog w) A (call (.builtin "list.append") [acc,x]) (fun _ s₅=>∃ m,m<n∧I m s₅) (notedBy (model prog w) A env fun e s'=>R (.error e) s') s₄) (notedBy (model prog w) A env fun e s'=>R (.error e) s') s₃
            else ∃ m,m<n∧I m s₃) (notedBy (model prog w) A env fun e s'=>R (.error e) s') s₂) (notedBy (model prog w) A env fun e s'=>R (.error e) s') s₀) (notedBy (model prog w) A env fun e s'=>R (.error e) s') s₁) (notedBy (model prog w) A env fun e s'=>R (.error e) s') s)
    (n:Nat) (h:I n s):codeAny (model prog w) A (.compLoop (.ListComp elt [⟨target,iter,ifs,0⟩] scope pos) 0 it acc env) R s:=by
  refine codeAny_loop rfl I (fun n s hI=>?_) n h
  show wpAny _ A ((compTurn (.ListComp elt [⟨target,iter,ifs,0⟩] scope pos) 0 it acc env).onRaise (fun x=>do noteFrame x env;theTreesLotGoes x)) _ _ s
  refine wpAny_noted ?_
  rw [compTurn_list]
  refine wpAny_bind (wpAny_standAt (wpAny_bind (wpAny_mono (turn n s hI) (fun r s₁ h₁=>?_) fun _ _ h'=>h')))
  cases r with
  | none => exact wpAny_pure h₁
  | some v =>
    refine wpAny_bind (wpAny_mono h₁ (fun _ s₀ h₀=>?_) fun _ _ h'=>h')
    refine wpAny_bind (wpAny_mono h₀ (fun _ s₂ h₂=>wpAny_bind (wpAny_mono h₂ (fun ok s₃ h₃=>?_) fun _ _ h'=>h')) fun _ _ h'=>h')
    cases ok with
    | false=>exact wpAny_pure ⟨rfl,h₃⟩
    | true=>
      exact wpAny_bind (wpAny_bind (wpAny_mono h₃ (fun x s₄ h₄=>wpAny_bind (wpAny_mono h₄ (fun _ s₅ h₅=>wpAny_pure (wpAny_pure ⟨rfl,h₅⟩)) fun _ _ h'=>h')) fun _ _ h'=>h'))
end L2
namespace L2
open PySem PySem.Spec PyProof.Rows
section
variable {X:Cx} {pins:List (Addr×Obj)} {σ:St} {H:Hp} {s:Shared} {scope:Scope} {N:List Str} {fp:List Addr} {C:Addr}
theorem m'w (I:Inv X pins σ H s) (hC:s.heap.objs.size≤C) (hf:∀ b∈fp,FpOk X pins H b) (hfo:∀ b∈fp,∃ o,s.heap.get? b=some o) (hkind:scope.kind=.function) (hcell:∀ y∈scope.names,y.2≠.cell) (hall:clAll scope X.env=true) :
    (cxComp X scope N C s H fp pins).Ok where
  mod:=I.ok.mod
  kind:=hkind
  glob:=I.ok.glob
  blt:=I.ok.blt
  above:=hC
  inj:=fun x y c h1 h2=>I.ok.inj x y c (c'd h1) (c'd h2)
  has:=fun x h=>h'S hall (i't hcell h)
  cab:=fun x c h=>by cases h
  hd:=I.ok.hd
  frames:=I.ok.frames
  stk:=.inl rfl
  exf:=fun b hb=>⟨fun z=>by obtain⟨o,e⟩:=hfo b hb;have:=Heap.lt_size e;subst z;exact absurd (Nat.lt_of_lt_of_le this hC) (Nat.lt_irrefl _),fun x c e=>(hf b hb).2.2.2.2.1 x c (c'd e)⟩
  bs:=I.bs
  bsz:=Nat.le_trans I.ok.bsz I.sz
  noex:=fun b o e hb=>by
    rcases (hf b hb).2.2.2.1 with z | z
    · exact I.ok.noex b o e z
    · exact absurd (Nat.lt_of_lt_of_le (Heap.lt_size e) (Nat.le_trans I.ok.bsz z)) (Nat.lt_irrefl _)
  exfs:=fun b hb hm=>by
    rcases List.mem_cons.mp (I.stkSub b hm) with z | z
    · exact (hf b hb).2.1 z
    · exact (hf b hb).2.2.1 z
  funs:=I.stack
  frf:=I.stkFree
theorem l'r {h':Heap} {m:Str→Option Value} {t':Nat} {ix:List (Option Nat)} (I:Inv X pins σ H s) (ok:(cxComp X scope N C s H fp pins).Ok) (hC:s.heap.objs.size≤C) (k:∀ b o,s.heap.get? b=some o→h'.get? b=some o) (hn:h'.Ns C m) (hpk:PickOk X scope N ix) (hall:clAll scope X.env=true) :
    Inv (cxComp X scope N C s H fp pins) [] (pickS ix σ) H { s with heap:=h',toks:=t' } where
  ok:=ok
  os:=rfl
  bare:=I.bare
  base:=Un.kept k
  loc:=⟨m,hn,fun i x v e1 e2 e3=>by
    obtain⟨i',hN,hk,hfr,hσ⟩:=hpk.get e1 e2
    obtain⟨m0,_,hl⟩:=I.loc
    obtain⟨u,r,look⟩:=hl i' x v hN hσ (.inr (.inl hk))
    rcases look with ⟨z,_⟩ | ⟨_,c,hc,o,ho,hd⟩
    · rw [hk] at z;cases z
    · obtain⟨c',hc'⟩:=h'S hall hfr
      have e:=c'd hc'
      rw [hc] at e
      cases e
      exact⟨u,r,.inr ⟨h'T hfr,c,hc',o,k _ _ ho,hd⟩⟩⟩
  cell:=fun x c e=>by
    obtain⟨v,o,ho,hd⟩:=I.cell x c (c'd e)
    exact⟨v,o,k _ _ ho,hd⟩
  free:=I.hok.fresh hC
  freeC:=fun x c e=>I.freeC x c (c'd e)
  pin:=fun p hp=>by
    have hp':p∈X.pn++pins:=by simpa [cxComp] using hp
    obtain⟨e,n,ne,nf,d⟩:=I.pin p hp'
    refine⟨k _ _ e,n,fun z=>?_,fun z=>?_,d⟩
    · have:=Heap.lt_size e
      have z':p.1=C:=z
      rw [z'] at this
      exact absurd (Nat.lt_of_lt_of_le this hC) (Nat.lt_irrefl _)
    · rcases List.mem_cons.mp (I.stkSub p.1 z) with q | q
      · exact ne q
      · exact nf q
  hok:=I.hok.kept k
  len:=by
    have:=hpk.length
    simp [pickS,cxComp,this]
theorem k'z {σ':St} {H':Hp} {s':Shared} {D:Addr} {acc:List V} {its:List Value} {pl:List (Addr×Obj)} (I:Inv X pins σ H s) (J:Inv (cxComp X scope N C s H fp pins) pl σ' H' s') (hD:D=s.heap.objs.size) (hf:∀ b∈fp,FpOk X pins H b)
    (hl:s'.heap.PlainList D its.toArray) (hv:Vals acc its) (hz:acc.length≤sizeLine) (hn:H' D=none):Inv X pins σ (upd H' D (.lst acc)) s':=by
  have hDn:∀ b o,s.heap.get? b=some o→b≠D:=fun b o e z=>by rw [z,hD] at e;exact absurd (Heap.lt_size e) (Nat.lt_irrefl _)
  have hHD:H D=none:=I.hok.fresh (by rw [hD];exact Nat.le_refl _)
  refine I.call' (ch:=fp) J.os ⟨J.base.keep,J.base.slot,fun b o e n hx=>?_,J.base.there,fun b xs e=>?_,fun b o u e=>?_,fun b ps e=>?_⟩ (fun b u e=>?_) J.bare fun b hb=>⟨(hf b hb).2.2.2.1,(hf b hb).2.1,(hf b hb).2.2.2.2.1,(hf b hb).2.2.2.2.2⟩
  · rw [a't (hDn b o e)];exact J.base.free b o e n hx
  · rw [a't (a'q e hHD)];exact J.base.tups b xs e
  · rw [a't (a'q e hHD)];exact J.base.frzs b o u e
  · obtain⟨mo,e2⟩:=J.base.tbls b ps e
    exact⟨mo,by rw [a't (a'q e hHD)];exact e2⟩
  · by_cases hb:b=D
    · subst hb
      rw [a'v] at e
      cases e
      obtain⟨n,g⟩:=hl
      exact⟨hz,its,n,hv,g⟩
    · rw [a't hb] at e
      exact (J.hok b u e).stay (fun _ _ _ q=>q) (fun c q=>by rw [a't (a'q q hn)];exact q) fun c xs q=>by rw [a't (a'q q hn)];exact q
end
def tComp (wi:TI) (g:TG) (ti:TT) (te:TE) (ix:List (Option Nat)):TE:=fun σ H Q=>wi σ H fun J H1=>∃ W:Nat→Nat→List V→Hp→Prop,(∃ m,W 0 m [] H1)∧∀ i m acc H,W i m acc H→
  (J.stop i H∧acc.length≤sizeLine∧∀ p,H p=none→Q (.ref p) (upd H p (.lst acc)))∨
  (J.go i H∧∃ N:List V→Hp→Prop,(∀ acc' H',N acc' H'→∃ m',m'<m∧W (i+1) m' acc' H')∧∀ x H',J.yld i H x H'→g x (pickS ix σ) H' fun σ2 H2=>Wk (pickS ix σ) σ2∧ti σ2 H2 fun b H3=>if b=true then te σ2 H3 fun v H4=>acc.length<sizeLine∧N (acc++[v]) H4 else N acc H3)
section
variable {X:Cx} {elt target iter:Expr} {ifs:List Expr} {scope:Scope} {pos:Pos} {N:List Str} {ix:List (Option Nat)} {wi:TI} {g:TG} {ti:TT} {te:TE}
theorem l's {pins:List (Addr×Obj)} {σ:St} {H2:Hp} {s2:Shared} {Q:VK} {RR:Value→Addr→Result→Shared→Prop} {E:Value→Shared→Prop} {it:Addr} {fp:List Addr} {tn:Nat→Heap→Prop} {J:It}
    (hc:X.calm=true) (hg:∀ C s H fp pl,PG (cxComp X scope N C s H fp pl) target g) (ht:∀ C s H fp pl,PTs (cxComp X scope N C s H fp pl) ifs ti) (he:∀ C s H fp pl,PE (cxComp X scope N C s H fp pl) elt te)
    (hkind:scope.kind=.function) (hcell:∀ y∈scope.names,y.2≠.cell) (hall:clAll scope X.env=true) (hpk:PickOk X scope N ix)
    (I2:Inv X pins σ H2 s2) (T:Turn X.prog X.w X.K target J fp it tn) (st2:tn 0 s2.heap) (f2:∀ b∈fp,FpOk X pins H2 b)
    (h:∃ W:Nat→Nat→List V→Hp→Prop,(∃ m,W 0 m [] H2)∧∀ i m acc H,W i m acc H→
      (J.stop i H∧acc.length≤sizeLine∧∀ p,H p=none→Q (.ref p) (upd H p (.lst acc)))∨
      (J.go i H∧∃ N:List V→Hp→Prop,(∀ acc' H',N acc' H'→∃ m',m'<m∧W (i+1) m' acc' H')∧∀ x H',J.yld i H x H'→g x (pickS ix σ) H' fun σ2 H2=>Wk (pickS ix σ) σ2∧ti σ2 H2 fun b H3=>if b=true then te σ2 H3 fun v H4=>acc.length<sizeLine∧N (acc++[v]) H4 else N acc H3))
    (hR:∀ (D C:Addr) (s':Shared) (H':Hp) (m:Str→Option Value),Inv X pins σ H' s'→s'.heap.Ns C m→H' C=none→s2.heap.objs.size≤C→Q (.ref D) H'→RR (.ref D) C (.ok .next) s') :
    wpAny (model X.prog X.w) X.A (newList []) (fun acc s₃=>wpAny (model X.prog X.w) X.A (newFunctionEnv scope X.env.globals (clOf scope X.env) [] X.env.qual none .none (some X.env)) (fun cenv s₄=>
      codeAny (model X.prog X.w) X.A (.compStart (.ListComp elt [⟨target,iter,ifs,0⟩] scope pos) 0 (.ref it) acc { cenv with scope:=relabel scope X.env }) (RR acc cenv.locals) s₄) E s₃) E s2:=by
  obtain⟨W,⟨m0,w0⟩,turn⟩:=h
  refine wpAny_newObj_type (wpAny_newFunctionEnv hcell (by intro y hy;simp at hy) (fun h₁ hns₁ hsb₁=>?_) hkind)
  dsimp only at hns₁ hsb₁ ⊢
  generalize hH2:s2.heap.push { cls:=.type "list",dict:=none,data:=.seq ([]:List Value).toArray }=P2 at hns₁ hsb₁ ⊢
  have hC:P2.objs.size=s2.heap.objs.size+1:=by rw [← hH2,Heap.size_push]
  have hDC:s2.heap.objs.size≠P2.objs.size:=by rw [hC];exact Nat.ne_of_lt (Nat.lt_succ_self _)
  have hCle:s2.heap.objs.size≤P2.objs.size:=by rw [hC];exact Nat.le_succ _
  have below:∀ b,b<s2.heap.objs.size→b≠P2.objs.size∧b≠s2.heap.objs.size:=fun b hb=>⟨by rw [hC];exact Nat.ne_of_lt (Nat.lt_succ_of_lt hb),Nat.ne_of_lt hb⟩
  have old:∀ b o,s2.heap.get? b=some o→h₁.get? b=some o:=fun b o e=>hsb₁.extBut b o (below b (Heap.lt_size e)).1 (Heap.get?_push_of_some _ (hH2 ▸ Heap.get?_push_of_some _ e))
  have hacc:h₁.PlainList s2.heap.objs.size #[]:=⟨_,hsb₁.extBut _ _ hDC (Heap.get?_push_of_some _ (hH2 ▸ Heap.get?_push_size _ rfl))⟩
  have hfo:∀ b∈fp,∃ o,s2.heap.get? b=some o:=fun b hb=>let ⟨o,e,_⟩:=T.obj 0 _ st2 b hb;⟨o,e⟩
  have hfD:s2.heap.objs.size ∉ fp:=fun hm=>by obtain⟨o,e⟩:=hfo _ hm;exact absurd (Heap.lt_size e) (Nat.lt_irrefl _)
  have ok:=m'w (N:=N) (C:=P2.objs.size) I2 hCle f2 hfo hkind hcell hall
  have st1:tn 0 h₁:=T.keep 0 _ _ st2 fun b _ o e=>old b o e
  have J0:=l'r (t':=s2.toks+([]:List (Str×Value)).length) (ix:=ix) I2 ok hCle old hns₁ hpk hall
  have pnD:∀ p∈X.pn++pins,p.1≠s2.heap.objs.size:=fun p hp=>(below _ (Heap.lt_size (I2.pin p hp).1)).2
  have cellD:∀ x c,(clOf scope X.env).lookup x=some c→c≠s2.heap.objs.size:=fun x c e=>by
    obtain⟨v,o,ho,_⟩:=I2.cell x c (c'd e)
    exact (below _ (Heap.lt_size ho)).2
  have stat:∀ {pl:List (Addr×Obj)} {H':Hp},(∀ b∈fp,H' b=none)→(∀ p∈pl,p.1=s2.heap.objs.size)→∀ b∈fp,FpOk (cxComp X scope N P2.objs.size s2 H2 fp pins) pl H' b:=fun {pl H'} hn hp b hb=>by
    refine⟨hn b hb,(ok.exf b hb).1,ok.exfs b hb,.inl hb,(ok.exf b hb).2,fun p hm=>?_⟩
    rcases List.mem_append.mp hm with z | z
    · exact (f2 b hb).2.2.2.2.2 p z
    · rw [hp p z];intro q;rw [q] at hfD;exact hfD hb
  have loop:∀ s₃:Shared,s₃={ s2 with heap:=h₁,toks:=s2.toks+([]:List (Str×Value)).length }→
      codeAny (model X.prog X.w) X.A (.compLoop (.ListComp elt [⟨target,iter,ifs,0⟩] scope pos) 0 (.ref it) (.ref s2.heap.objs.size) (compEnvC scope (clOf scope X.env) P2.objs.size X.env)) (RR (.ref s2.heap.objs.size) P2.objs.size) s₃:=by
    rintro s₃ rfl
    refine h'U (fun n s'=>∃ i acc its σ' H',Inv (cxComp X scope N P2.objs.size s2 H2 fp pins) [] σ' H' s'∧Wk (pickS ix σ) σ'∧tn i s'.heap∧(∀ b∈fp,H' b=none)∧s'.heap.PlainList s2.heap.objs.size (List.toArray its)∧Vals acc its∧H' s2.heap.objs.size=none∧W i n acc H') ?_ m0
      ⟨0,[],[],_,H2,J0,g'k _,st1,fun b hb=>(f2 b hb).1,hacc,.nil,I2.hok.fresh (Nat.le_refl _),w0⟩
    rintro n s3 ⟨i,acc,its,σ3,H3,I3,wk3,st3,fr3,pl3,va3,nd3,w3⟩
    obtain⟨kk,g3⟩:=id pl3
    have I3':Inv (cxComp X scope N P2.objs.size s2 H2 fp pins) [(s2.heap.objs.size,⟨.type "list",none,.seq (List.toArray its) kk,#[]⟩)] σ3 H3 s3:=I3.pins_of fun p hp=>by
      have e:=List.mem_singleton.mp hp
      subst e
      refine⟨g3,nd3,hDC,fun z=>?_,fun v q=>by cases q⟩
      obtain⟨_,o,ho,_⟩:=(I2.stack).mem z
      exact absurd (Heap.lt_size ho) (Nat.lt_irrefl _)
    have onlyD:∀ p∈[((s2.heap.objs.size,⟨.type "list",none,.seq (List.toArray its) kk,#[]⟩):Addr×Obj)],p.1=s2.heap.objs.size:=fun p hp=>by
      rw [List.mem_singleton.mp hp]
    rcases turn i n acc H3 w3 with ⟨stop,hlen,fin⟩ | ⟨go,NN,hNN,step⟩
    · refine wpAny_mono (T.done (cxComp X scope N P2.objs.size s2 H2 fp pins) rfl rfl rfl hc i _ s3 σ3 H3 _ I3' (stat fr3 onlyD) st3 stop) (fun r s4 h4=>?_) fun _ _ z=>z
      obtain⟨hr,I4⟩:=h4
      subst hr
      have g4:=(I4.pin (s2.heap.objs.size,_) (List.mem_append_right _ (List.mem_singleton.mpr rfl))).1
      obtain⟨mm,hnm,_⟩:=I4.loc
      have B:=k'z I2 I4 rfl f2 ⟨kk,g4⟩ va3 hlen nd3
      refine hR _ _ s4 _ mm B hnm ?_ hCle (fin _ nd3)
      rw [a't (Ne.symm hDC)]
      exact I4.free
    · refine wpAny_mono (T.item (cxComp X scope N P2.objs.size s2 H2 fp pins) rfl rfl rfl hc i _ s3 σ3 H3 _ I3' (stat fr3 onlyD) st3 go) (fun r s4 h4=>?_) fun _ _ z=>z
      obtain⟨u,hr,h4⟩:=h4
      subst hr
      refine wpAny_mono h4 (fun _ s5 h5=>?_) fun _ _ z=>z
      obtain⟨x,H5,I5,r5,y5,st5,fr5⟩:=h5
      have I5w:=I5.weak wk3.length.symm (fun i v e=>wk3.get e)
      have I5':=I5w.pinned (fp:=fp) (stat fr5 onlyD) (T.obj _ _ st5)
      refine wpAny_mono (hg P2.objs.size s2 H2 fp pins _ s5 _ H5 x u _ I5' r5 (step x H5 y5)) (fun _ s6 h6=>?_) fun _ _ z=>z.elim
      obtain⟨σ6,H6,I6,wk6,q6⟩:=h6
      refine wpAny_mono (ht P2.objs.size s2 H2 fp pins _ s6 σ6 H6 _ I6 q6) (fun ok s7 h7=>?_) fun _ _ z=>z.elim
      obtain⟨H7,I7,q7⟩:=h7
      have keepT:∀ {σ8:St} {H8:Hp} {s8:Shared},Inv (cxComp X scope N P2.objs.size s2 H2 fp pins) ([((s2.heap.objs.size,⟨.type "list",none,.seq (List.toArray its) kk,#[]⟩):Addr×Obj)]++pinsAt fp s5.heap) σ8 H8 s8→
          (∀ b∈fp,∀ o,s5.heap.get? b=some o→s8.heap.get? b=some o)∧(∀ b∈fp,H8 b=none):=fun {σ8 H8 s8} I8=>by
        refine⟨fun b hb o e=>(I8.pin (b,o) (List.mem_append_right _ (List.mem_append_right _ (c'J hb e)))).1,fun b hb=>?_⟩
        obtain⟨o,e,d⟩:=T.obj _ _ st5 b hb
        exact (I8.pin (b,o) (List.mem_append_right _ (List.mem_append_right _ (c'J hb e)))).2.1
      have unpin:∀ {σ8:St} {H8:Hp} {s8:Shared} {pl:List (Addr×Obj)},Inv (cxComp X scope N P2.objs.size s2 H2 fp pins) pl σ8 H8 s8→Inv (cxComp X scope N P2.objs.size s2 H2 fp pins) [] σ8 H8 s8:=fun I8=>I8.pins_of fun p hp=>by cases hp
      cases ok with
      | false=>
        simp only [Bool.false_eq_true,if_false] at q7 ⊢
        obtain⟨m',hm,w7⟩:=hNN _ _ q7
        have p7:=I7.pin (s2.heap.objs.size,_) (List.mem_append_right _ (List.mem_append_left _ (List.mem_singleton.mpr rfl)))
        obtain⟨k1,k2⟩:=keepT I7
        exact⟨m',hm,i+1,acc,its,σ6,H7,unpin I7,wk6,T.keep _ _ _ st5 k1,k2,⟨kk,p7.1⟩,va3,p7.2.1,w7⟩
      | true=>
        simp only [if_true] at q7 ⊢
        refine wpAny_mono (he P2.objs.size s2 H2 fp pins _ s7 σ6 H7 _ I7 q7) (fun y s8 h8=>?_) fun _ _ z=>z.elim
        obtain⟨v,H8,I8,r8,hlt,q8⟩:=h8
        obtain⟨m',hm,w8⟩:=hNN _ _ q8
        have p8:=I8.pin (s2.heap.objs.size,_) (List.mem_append_right _ (List.mem_append_left _ (List.mem_singleton.mpr rfl)))
        obtain⟨k1,k2⟩:=keepT I8
        have hl:=va3.length
        refine wpAny_list_append_plain (items:=List.toArray its) (hsz:=by rw [List.size_toArray,← hl];exact Nat.le_of_lt hlt) ⟨kk,p8.1⟩ fun h₅ hl₅ hs₅=>?_
        have I9:Inv (cxComp X scope N P2.objs.size s2 H2 fp pins) [] σ6 H8 { s8 with heap:=h₅ }:=(unpin I8).turned (t':=s8.toks) (it:=s2.heap.objs.size) (fun b o hb e=>hs₅.extBut b o hb e) p8.2.1 hDC (.inr (Nat.le_refl _)) cellD (fun p hp=>by
          have hp':p∈X.pn++pins:=by simpa [cxComp] using hp
          exact pnD p hp')
        refine⟨m',hm,i+1,acc++[v],its++[y],σ6,H8,I9,wk6,T.keep _ _ _ st5 fun b hb o e=>hs₅.extBut b o (fun z=>hfD (z ▸ hb)) (k1 b hb o e),k2,?_,va3.append (.cons r8 .nil),p8.2.1,w8⟩
        have e:(its++[y]).toArray=its.toArray.push y:=by simp
        rw [e]
        exact hl₅
  exact codeAny_compStart_list (loop _ rfl) (T.self X.A 0 _ _ _ st1 (loop _ rfl))
theorem i'T (hc:X.calm=true) (hi:PI X target iter wi) (hg:∀ C s H fp pl,PG (cxComp X scope N C s H fp pl) target g) (ht:∀ C s H fp pl,PTs (cxComp X scope N C s H fp pl) ifs ti) (he:∀ C s H fp pl,PE (cxComp X scope N C s H fp pl) elt te)
    (hpk:PickOk X scope N ix) (hkind:scope.kind=.function:=by rfl) (hcell:∀ y∈scope.names,y.2≠.cell:=by decide) (hnames:∀ x∈scope.names,x.2=.local→scope.names.lookup x.1=some .local:=by decide) (hall:clAll scope X.env=true:=by rfl)
    (hs:∀ x,foldedSetIterable iter X.env x=pure x:=by intro _;rfl):PE X (.ListComp elt [⟨target,iter,ifs,0⟩] scope pos) (tComp wi g ti te ix):=by
  intro pins s σ H Q I h
  rw [eval_ListComp]
  refine wpAny_comprehension_free (use:=none) rfl hs (f'O hall) hkind hnames ?_
  refine thn (hi pins s σ H _ I h) fun v s1 h1=>thn h1 fun itv s2 h2=>?_
  obtain⟨it,fp,tn,J,H2,e,I2,T,st2,f2,h⟩:=h2
  subst e
  refine l's (RR:=fun acc C=>compPost (model X.prog X.w) X.A X.xe none (EP X pins σ Q) acc C) hc hg ht he hkind hcell hall hpk I2 T st2 f2 h ?_
  intro D C s' H' m B hn hHC hle q
  refine⟨m,hn,fun h' hs'=>⟨.ref D,H',B.turned (t':=s'.toks) (it:=C) (fun b o hb e=>hs'.extBut b o hb e) hHC (Nat.ne_of_gt (Nat.lt_of_lt_of_le I2.lt hle)) (.inr (Nat.le_trans I2.sz hle)) (fun x c e=>?_) (fun p hp=>?_),rfl,q⟩⟩
  · obtain⟨v,o,ho,_⟩:=I2.cell x c e
    exact Nat.ne_of_lt (Nat.lt_of_lt_of_le (Heap.lt_size ho) hle)
  · exact Nat.ne_of_lt (Nat.lt_of_lt_of_le (Heap.lt_size (I2.pin p hp).1) hle)
end
section
variable {g:TG} {ti:TT} {te:TE} {ix:List (Option Nat)} {σ:St} {Q:VK}
def CompW (J:It) (g:TG) (ti:TT) (te:TE) (ix:List (Option Nat)) (σ:St) (Q:VK) (H1:Hp):Prop:=∃ W:Nat→Nat→List V→Hp→Prop,(∃ m,W 0 m [] H1)∧∀ i m acc H,W i m acc H→
  (J.stop i H∧acc.length≤sizeLine∧∀ p,H p=none→Q (.ref p) (upd H p (.lst acc)))∨
  (J.go i H∧∃ N:List V→Hp→Prop,(∀ acc' H',N acc' H'→∃ m',m'<m∧W (i+1) m' acc' H')∧∀ x H',J.yld i H x H'→g x (pickS ix σ) H' fun σ2 H2=>Wk (pickS ix σ) σ2∧ti σ2 H2 fun b H3=>if b=true then te σ2 H3 fun v H4=>acc.length<sizeLine∧N (acc++[v]) H4 else N acc H3)
theorem k'A {wi:TI} {H:Hp} (h:wi σ H fun J H1=>CompW J g ti te ix σ Q H1):tComp wi g ti te ix σ H Q:=h
theorem l'Z {J:It} {n:Nat} {H1:Hp} (Pv:Nat→List V→Hp→Prop) (h0:Pv 0 [] H1) (hgo:∀ i acc H,i<n→Pv i acc H→J.go i H) (hst:∀ acc H,Pv n acc H→J.stop n H)
    (hs:∀ i x acc H H',i<n→Pv i acc H→J.yld i H x H'→g x (pickS ix σ) H' fun σ2 H2=>Wk (pickS ix σ) σ2∧ti σ2 H2 fun b H3=>if b=true then te σ2 H3 fun v H4=>acc.length<sizeLine∧Pv (i+1) (acc++[v]) H4 else Pv (i+1) acc H3)
    (hd:∀ acc H,Pv n acc H→acc.length≤sizeLine∧∀ p,H p=none→Q (.ref p) (upd H p (.lst acc))):CompW J g ti te ix σ Q H1:=by
  refine⟨fun i m acc H=>m=n - i∧i≤n∧Pv i acc H,⟨n,by simp,Nat.zero_le _,h0⟩,?_⟩
  rintro i m acc H ⟨rfl,hi,p⟩
  by_cases hlt:i<n
  · exact .inr ⟨hgo i acc H hlt p,Pv (i+1),fun acc' H' p'=>⟨n - (i+1),by omega,rfl,hlt,p'⟩,fun x H' y=>hs i x acc H H' hlt p y⟩
  · have e:i=n:=by omega
    subst e
    exact .inl ⟨hst acc H p,hd acc H p⟩
theorem k'B {K:PySem.W.Frag} {a:Addr} {xs:List V} {H1:Hp} (Pv:Nat→List V→Hp→Prop) (h0:Pv 0 [] H1) (hl:∀ i acc H,i≤xs.length→Pv i acc H→SqL K H a xs)
    (hs:∀ i x acc H,xs[i]?=some x→Pv i acc H→g x (pickS ix σ) H fun σ2 H2=>Wk (pickS ix σ) σ2∧ti σ2 H2 fun b H3=>if b=true then te σ2 H3 fun v H4=>acc.length<sizeLine∧Pv (i+1) (acc++[v]) H4 else Pv (i+1) acc H3)
    (hd:∀ acc H,Pv xs.length acc H→acc.length≤sizeLine∧∀ p,H p=none→Q (.ref p) (upd H p (.lst acc))):CompW (Itl K a) g ti te ix σ Q H1:=by
  refine l'Z (n:=xs.length) Pv h0 (fun i acc H hi p=>⟨xs,xs[i],hl i acc H (Nat.le_of_lt hi) p,by simp [hi]⟩) (fun acc H p=>⟨xs,hl _ acc H (Nat.le_refl _) p,Nat.le_refl _⟩) (fun i x acc H H' hi p y=>?_) hd
  obtain⟨e,y⟩:=y
  subst e
  exact hs i x acc _ (y xs (hl i acc _ (Nat.le_of_lt hi) p)) p
end
end L2
namespace L2
open PySem PySem.Spec PyProof.Rows
section
variable {X:Cx}
end
section
variable {X:Cx} {tg:Expr}
end
section
variable {σ:St} {H:Hp} {R:It→Hp→Prop} {K:PySem.W.Frag}
theorem f'P {wi:TI} {g:TG} {tb:TS} {D:Ends} (h:wi σ H fun J H1=>∃ W:Nat→Nat→St→Hp→Prop,(∃ m,W 0 m σ H1)∧∀ i m σ H,W i m σ H→
  (J.stop i H∧D.nx σ H)∨(J.go i H∧∃ N:St→Hp→Prop,(∀ σ' H',N σ' H'→∃ m',m'<m∧W (i+1) m' σ' H')∧∀ x H',J.yld i H x H'→g x σ H' fun σ2 H2=>tb { D with nx:=N,ct:=N,bk:=D.nx } σ2 H2)):tFor wi g tb D σ H:=h
theorem g'l {tl:TE} (h:tl σ H fun x H1=>∃ a,x=.ref a∧(∃ xs,SqL K H1 a xs)∧R (Itl K a) H1):iList K tl σ H R:=h
theorem n'J {tl:TE} (h:tl σ H fun x H1=>∃ a,x=.ref a∧(∃ xs,SqT K H1 a xs)∧R (Itt K a) H1):iTup K tl σ H R:=h
end
end L2
namespace L2
open PySem PySem.Spec PyProof.Rows
def Fly (h0 h:Heap) (H:Hp) (x:Addr) (cls:Value):Prop:=
  h0.get? x=none∧H x=none∧∃ a0 oe vs T oT ts,h0.get? T=none∧H T=none∧h.get? x=some oe∧oe.cls=cls∧vs[0]?=some a0∧oe.data=.fields vs∧vs[1]?=some (.ref T)∧T≠x∧h.get? T=some oT∧oT.data=.fields ts∧ts[3]?=some .none
def CX1 (P:Program) (w:World):CXT:=fun outer H s E e s'=>∃ x cls H',e=.ref x∧s'.os=s.os∧AllBare s'.gens∧Un (frs outer) [] H H' s.heap s'.heap∧HOk P w H' s'.heap∧Fly s.heap s'.heap H' x cls∧E cls none H'
theorem ObjOk.has {P:Program} {w:World} {H:Hp} {h:Heap} {a:Addr} {o:HO} (x:ObjOk P w H h a o):∃ u,h.get? a=some u:=by
  cases o with
  | lst xs => obtain ⟨_, _, _, _, e⟩ := x; exact ⟨_, e⟩
  | tup xs => obtain ⟨_, _, _, u, e, _⟩ := x; exact ⟨_, e⟩
  | dK kvs => obtain ⟨_, _, _, _, u, _, _, e, _⟩ := x; exact ⟨_, e⟩
  | dT kvs => obtain ⟨_, _, _, _, u, _, _, e, _⟩ := x; exact ⟨_, e⟩
  | set S n => obtain ⟨u, _, _, _, e, _⟩ := x; exact ⟨_, e⟩
  | ins C dx fs => obtain ⟨_, _, _, e, _⟩ := x; exact ⟨_, e⟩
  | own y => exact x
  | xd fs => obtain ⟨_, ⟨u, _, _, e, _⟩, _⟩ := x; exact ⟨_, e⟩
  | rng lo hi => obtain ⟨_, _, _, e⟩ := x; exact ⟨_, e⟩
  | frz ob u => obtain ⟨e, _⟩ := x; exact ⟨_, e⟩
  | tbl ps => exact ⟨_, x⟩
  | met f y => exact ⟨_, x⟩
  | ext φ => exact x.2.1
theorem n'K {P:Program} {w:World} {fs fr l bad:List Addr} {H H':Hp} {h h1 h2:Heap} (u:Un fs [] H H' h h1) (hok:HOk P w H' h1) (hl:∀ b∈l,b∈bad∨b∈fr) (hb:∀ b∈bad,h.get? b=none∧H' b=none)
    (hfr:∀ b∈fr,(b∈fs∨h.get? b=none)∧H' b=none∧∃ o,h1.get? b=some o∧∀ vs,o.data≠.fields vs) (hfs:∀ b∈fs,b∈fr) (k:(PySem.W.hideAll h1 l).StaysIn h2) (sm:h1.UpToSlots h2) :
    Un fs [] H H' h h2∧HOk P w H' h2∧∀ x cls a0,h2.TracedW (PySem.W.hideAll h1 l) x cls a0→h.get? x=none→H' x=none→Fly h h2 H' x cls:=by
  have gt:∀ b o,h1.get? b=some o→b ∉ bad→b ∉ fr→h2.get? b=some o:=fun b o e n1 n2=>k b o (PySem.W.hideAll_get _ e fun z=>(hl b z).elim n1 n2)
  have nb:∀ b o,h.get? b=some o→b ∉ bad:=fun b o e z=>by rw [(hb b z).1] at e;cases e
  have slots:∀ b o,b∈fr→h1.get? b=some o→∃ sl,h2.get? b=some { o with slots:=sl }:=fun b o hf e=>by
    obtain⟨_,_,o',e',d⟩:=hfr b hf
    rw [e] at e'
    cases e'
    exact sm b o e d
  have tr:∀ b u,H' b=some u→b ∉ bad∧b ∉ fr:=fun b u e=>⟨fun z=>(by rw [(hb b z).2] at e;cases e),fun z=>(by rw [(hfr b z).2.1] at e;cases e)⟩
  refine⟨⟨fun b o e n hf hx=>?_,fun b o e n hf hx=>?_,fun b o e n hx=>u.free b o e n hx,fun b o e hx=>?_,u.tups,u.frzs,u.tbls⟩,fun b v e=>?_,fun x cls a0 ht hx hHx=>?_⟩
  · refine gt b o (u.keep b o e n hf hx) (nb b o e) fun z=>?_
    rcases (hfr b z).1 with q | q
    · exact hf q
    · rw [e] at q;cases q
  · obtain⟨sl,e1⟩:=u.slot b o e n hf hx
    obtain⟨sl',e2⟩:=slots b _ (hfs b hf) e1
    exact⟨sl',e2⟩
  · obtain⟨o',e1⟩:=u.there b o e hx
    by_cases hf:b∈fr
    · obtain⟨sl,e2⟩:=slots b o' hf e1
      exact⟨_,e2⟩
    · exact⟨o',gt b o' e1 (nb b o e) hf⟩
  · refine (hok b v e).stay (fun c o hc q=>?_) (fun _ q=>q) fun _ _ q=>q
    rcases hc with rfl | hc
    · exact gt c o q (tr c v e).1 (tr c v e).2
    · exact gt c o q (tr c _ hc).1 (tr c _ hc).2
  · obtain⟨oe,vs,T,oT,ts,t1,⟨t2,t3⟩,t4,t5,t6,t7,t8,t9,t10⟩:=ht
    have hT:h.get? T=none∧H' T=none:=by
      cases q:h1.get? T with
      | none=>
        refine⟨?_,?_⟩
        · cases r:h.get? T with
          | none=>rfl
          | some o=>obtain⟨o',e'⟩:=u.there T o r (by simp);rw [q] at e';cases e'
        · cases r:H' T with
          | none=>rfl
          | some v=>obtain⟨o',e'⟩:=(hok T v r).has;rw [q] at e';cases e'
      | some o=>
        by_cases hm:T∈l
        · rcases hl T hm with z | z
          · exact hb T z
          · obtain⟨sl,e2⟩:=slots T o z q
            obtain⟨_,_,o',e',d⟩:=hfr T z
            rw [q] at e'
            cases e'
            rw [t8] at e2
            cases e2
            exact absurd t9 (d ts)
        · have:=PySem.W.hideAll_get _ q hm
          rw [t6] at this;cases this
    exact⟨hx,hHx,a0,oe,vs,T,oT,ts,hT.1,hT.2,t1,t2,t3,t4,t5,t7,t8,t9,t10⟩
section
variable {X:Cx} {pins:List (Addr×Obj)} {σ:St} {H:Hp} {s:Shared}
theorem m'x {l:List Env}:∀ env∈l,∀ a,env.frame=some a→a∈frs l:=fun env he a hf=>List.mem_filterMap.mpr ⟨env,he,hf⟩
theorem Inv.frm (I:Inv X pins σ H s):∀ b∈frs X.stack,(b∈X.fs∨X.s₀.heap.get? b=none)∧H b=none∧∃ o,s.heap.get? b=some o∧∀ vs,o.data≠.fields vs:=fun b hb=>by
  refine⟨?_,I.stkFree b hb,(I.stack.mem hb).2⟩
  rcases List.mem_cons.mp (I.stkSub b hb) with e | e
  · exact .inr (by rw [e];exact Heap.get?_none_of_le I.ok.above)
  · exact .inl e
theorem n'L {E:XK} {x:Addr} {cls:Value} (hs:X.stack=X.env :: X.outer) (hf:X.env.frame=some X.env.locals) (hex:X.ex=[]) (I:Inv X pins σ H s) {l bad:List Addr} {h1:Heap}
    (hl:∀ b∈l,b∈bad∨b∈frs X.stack) (hb:∀ b∈bad,X.s₀.heap.get? b=none∧H b=none) (k:(PySem.W.hideAll s.heap l).StaysIn h1) (sm:s.heap.UpToSlots h1) {a0:Value} (ht:h1.TracedW (PySem.W.hideAll s.heap l) x cls a0)
    (hx:X.s₀.heap.get? x=none) (hHx:H x=none) (e:E cls none H):CX1 X.prog X.w X.outer X.H₀ X.s₀ E (.ref x) { s with heap:=h1 }:=by
  have ub:=I.base
  rw [hex] at ub
  obtain⟨u,ok,fl⟩:=n'K ub I.hok hl hb I.frm (fun b hb=>by rw [hs];unfold frs;rw [List.filterMap_cons,hf];exact List.mem_cons_of_mem _ hb) k sm
  exact⟨x,cls,H,rfl,I.os,I.bare,u,ok,fl x cls a0 ht hx hHx,e⟩
def Xe1 (X:Cx) (E:XK):Prop:=X.xe=fun e s'=>wpAny (model X.prog X.w) X.A (leaving X.env e) (fun _ s''=>CX1 X.prog X.w X.outer X.H₀ X.s₀ E e s'') (fun e' s''=>CX1 X.prog X.w X.outer X.H₀ X.s₀ E e' s'') s'
end
theorem m'y {K:PySem.W.Frag} {h:Heap} {C:Addr} {bmB:List Value} {newId:String} (X:K.In h) (q:PySem.W.excIn K C bmB newId=true) :
    ∃ bm N nm qn bs hd sn sub ab col dd k0 k1 k2 k3 k5 mN,h.get? C=some (excClassObj nm qn C N bs bm hd sn sub ab col dd k0 k1 k2 k3 k5 newId)∧h.Ns N mN∧mN "__init__"=none∧OwnTail h bmB bm:=by
  unfold PySem.W.excIn at q
  split at q
  case h_2=>cases q
  case h_1 ddc cdc slc hlook=>
    split at q
    case h_2=>cases q
    case h_1 Cc bmc k0 k1 k2 k3 nn k5 hmro hslots=>
      simp only [Bool.and_eq_true,beq_iff_eq,Bool.not_eq_true'] at q
      obtain⟨⟨⟨⟨⟨e1,e2⟩,e3⟩,e4⟩,e5⟩,e6⟩:=q
      obtain⟨nm,bs,mro,ns,qn,hd,sn,sub,ab,col,del⟩:=cdc
      dsimp only at hmro e3 e5 e6
      obtain⟨ll⟩:=slc
      simp only at hslots
      subst e1 e2 e3 hmro hslots
      exact⟨_,_,_,_,_,_,_,_,_,_,_,_,_,_,_,_,_,X _ _ hlook,.of_isNs (PySem.W.isNs_of_in X e5),PySem.W.nsMap_none_of_in X e5 e6,PySem.W.tail_of_in X e4⟩
def tRaise (C:Addr) (E:XK) (te:TE):TS:=fun _ σ H=>te σ H fun _ H'=>E (.ref C) none H'
section
variable {X:Cx}
theorem l't {E:XK} {x:Str} {np cpos pos:Pos} {e₀:Expr} {te:TE} {C:Addr} {B newId initId:String} {bmB:List Value} (hs:X.stack=X.env :: X.outer) (hf:X.env.frame=some X.env.locals) (hex:X.ex=[]) (hxe:Xe1 X E)
    (hcalm:X.calm=true) (hg:Gl X x) (hm:X.mg x=some (.ref C)) (FB:ExcBaseFacts B newId initId bmB) (hq:PySem.W.excIn X.K C bmB newId=true) (he:PE X e₀ te) (hdb:(x == ("__debug__":Str))=false:=by decide)
    (hst:starEach [e₀] X.env=(false,eval e₀ X.env) :: starEach [] X.env:=by rfl) (hpl:(backTo cpos (starEach [] X.env)).any (·.1)=false:=by rfl) :
    PS X (.Raise (some (.Call (.Name x np) [e₀] [] cpos)) none pos) (tRaise C E te):=by
  intro pins s σ H D I h
  obtain⟨bm,N,nm,qn,bs,hd,sn,sub,ab,col,dd,k0,k1,k2,k3,k5,mN,hC,hN,hni,T⟩:=m'y I.ok.mod.kin hq
  refine wpAny_Raise_call_subT (C:=C) (nm:=nm) (q:=qn) (N:=N) (bs:=bs) (bm:=bm) (hdct:=hd) (sn:=sn) (sub:=sub) (ab:=ab) (col:=col) (dd:=dd) (k0:=k0) (k1:=k1) (k2:=k2) (k3:=k3) (k5:=k5)
    FB (mN:=mN) (T.hasType FB.hasBase) (I.ok.hd hcalm) (by rw [hst];show (false || (backTo cpos (starEach [] X.env)).any (·.1))=false;rw [hpl];rfl) hni (e'w I hg hm ⟨rfl,?_⟩ hdb)
  rw [hst]
  refine Calls.evalArgs_plain ?_
  refine Calls.spliced_cons ?_
  refine thn (he pins s σ H _ I h) fun u s1 ⟨v,H1,I1,_,q1⟩=>?_
  refine Calls.spliced_nil ?_
  refine⟨rfl,by show (1:Nat)≤sizeLine;decide,I1.bk _ _ hC,hN.keeps I1.bk,T.keeps I1.bk,fun h' e hmade=>?_⟩
  obtain⟨t,ht,ht0,htt⟩:=hmade.there
  have J:Inv X pins σ H1 { s1 with heap:=h' }:=I1.call' (ch:=[]) rfl (Un.kept hmade.keeps) (I1.hok.kept hmade.keeps) I1.bare (fun b z=>absurd z (by simp))
  have up:∀ b,s1.heap.get? b=none→X.s₀.heap.get? b=none:=fun b z=>by
    cases q:X.s₀.heap.get? b with
    | none=>rfl
    | some o=>obtain⟨o',e'⟩:=I1.base.there b o q (by rw [hex];simp);rw [z] at e';cases e'
  have hHe:H1 e=none:=by
    cases r:H1 e with
    | none=>rfl
    | some v=>obtain⟨o',e'⟩:=(I1.hok e v r).has;rw [hmade.new] at e';cases e'
  rw [hxe]
  have hin:∀ env∈X.env :: X.outer,∀ a,env.frame=some a→a∈e :: frs X.stack:=fun env he a hf=>.tail _ (by rw [hs];exact m'x env he a hf)
  refine wpAny_leaving_firstW (base:=PySem.W.hideAll h' (e :: frs X.stack)) (a0:=.ref t) (by rw [J.ok.frames,hs]) (PySem.W.funFrames_hide (hs ▸ J.stack) hin) hf ht (fun b o q=>PySem.W.of_hideAll _ q)
    (PySem.W.hideAll_none _ (.head _)) rfl rfl rfl fun h2 hL=>?_
  obtain⟨l1,_,l3,l4⟩:=hL
  exact n'L hs hf hex J (bad:=[e]) (fun b hb=>by
    rcases List.mem_cons.mp hb with z | hb
    · exact .inl (by rw [z];exact .head _)
    · exact .inr hb) (fun b hb=>by
    have z:b=e:=by simpa using hb
    rw [z];exact⟨up _ hmade.new,hHe⟩) l1 l4 l3 (up _ hmade.new) hHe q1
end
end L2
namespace L2
open PySem PySem.Spec PyProof.Rows
section
variable {P:Program} {w:World} {K:PySem.W.Frag} {mg:Str→Option Value} {base:Heap}
theorem Fun.ok1 {x qual:Str} {st:Stmt} {f:Addr} {fd:FuncData} {N ps:List Str} {k:Nat} {sp:Sp} (F:Fun K x qual st f fd) (S:FnScope N ps (defScope st)) (len:∀ vs H Q E,sp vs H Q E→vs.length=ps.length)
    (hbody:∀ (cdv:Value) (A:Around) (outer:List Env) (s:Shared) (H:Hp) (vs:List V) (Q:VK) (E:XK),Room k (A.deeper (envOfC qual (defScope st) s.heap.objs.size f cdv))→sp vs H Q E→
      ∃ t,PSs (cxOf (CX1 P w) P w K mg base N qual (defScope st) f cdv A outer s H E) (defBody st) t∧t { nx:=fun _ H'=>Q .non H',rt:=Q } (start N vs) H):FnOk P w K mg base (CX1 P w) (k+1) f fd ps sp:=by
  obtain⟨oc,od,kV,doc,pm,an,cdv,ct,osl,rfl,lk,hcd⟩:=F.ex
  exact l'S lk hcd S len fun A outer s H vs Q E hr hsp=>hbody cdv A outer s H vs Q E hr hsp
end
section
variable {X:Cx}
variable {CX:CXT} {k:Nat} {f:Addr} {fd:FuncData} {ps:List Str} {sp:Sp} {dvs:List V} {ds:List Value} {x:Str} {p pos:Pos} {e:Expr} {es:List Expr} {t:TA}
theorem m'z {C:Addr} {E:XK} {te:TE} {D:Ends} {σ:St} {H:Hp} (h:te σ H fun _ H'=>E (.ref C) none H'):tRaise C E te D σ H:=h
end
end L2
namespace L2
open PySem PySem.Spec PyProof.Rows PySem.W Builtin Builtin.ObjectAttr Builtin.Getset_descriptor
structure ExcK (K:Frag) (C:Addr):Prop where
  fg:findIn K (.ref C) "__getattribute__"=some (some (.builtin "BaseException.__getattribute__"))
  fn:findIn K (.ref C) "__getattr__"=some none
  fc:findIn K (.ref C) "__class__"=some (some (.builtin "object.__class__"))
  mo:mroIn K C (.type "object")=some true
  sb:subIn K (.ref C) (.type "BaseException")=some true
section
variable {prog:Program} {w:World} {A:Around} {E:Value→Shared→Prop} {K:Frag} {h:Heap} {g:Array GenState} {d:Drawn} {t:Nat} {os:OsState} {x C:Addr}
end
section
variable {X:Cx}
end
end L2
namespace L2
open PySem PySem.Spec PyProof.Rows
theorem h'V {P:Program} {w:World} {X:Cx}:Passes (CX1 P w) X E0:=fun _ _ _ _ _ _ _ ⟨_,_,_,_,_,_,_,_,_,h⟩=>h.elim
structure RoomH (k:Nat) (A:Around):Prop where
  dp:A.depth+3*k+5<recursionLimit
  un:A.units+16*k+200<cLine
structure FnOkH (P:Program) (w:World) (K:PySem.W.Frag) (mg:Str→Option Value) (base:Heap) (k:Nat) (f:Addr) (fd:FuncData) (ps:List Str) (sp:Sp):Prop where
  len:∀ vs H Q E,sp vs H Q E→vs.length=ps.length
  run:∀ (A:Around) (outer:List Env) (s:Shared) (H:Hp) (args:Args) (us:List Value) (vs:List V) (Q:VK) (E:XK),RoomH k A→Env0 P w K mg base A outer s H→BindsTo s fd args (ps.zip us)→Vals vs us→sp vs H Q E→
    codeAny (model P w) A (.call (.ref f) args) (CR CX0 outer P w H s Q E) s
section
variable {P:Program} {w:World} {K:PySem.W.Frag} {mg:Str→Option Value} {base:Heap}
end
section
variable {X:Cx} {k:Nat} {f:Addr} {fd:FuncData} {ps:List Str} {sp:Sp} {x:Str} {p pos:Pos} {e:Expr} {es:List Expr} {t:TA}
end
section
variable {X:Cx}
end
end L2
namespace Vc
open PySem L2 Sf
end Vc
namespace L2
open PySem PySem.Spec PyProof.Rows
def Ite (K:PySem.W.Frag) (a:Addr):It:=
  ⟨fun i H=>∃ xs x,SqL K H a xs∧xs[i]?=some x,fun i H y H'=>∃ p x,y=.ref p∧H p=none∧(∀ xs,SqL K H a xs→xs[i]?=some x)∧H'=upd H p (.tup [.int i,x]),fun i H=>∃ xs,SqL K H a xs∧xs.length≤i⟩
theorem Inv.turned2 {X:Cx} {pins:List (Addr×Obj)} {σ:St} {H:Hp} {s:Shared} {h':Heap} {t':Nat} {a b:Addr} (I:Inv X pins σ H s) (k:∀ c o,c≠a→c≠b→s.heap.get? c=some o→h'.get? c=some o)
    (ha:FpOk X pins H a) (hb:FpOk X pins H b) (ea:∃ o,h'.get? a=some o) (eb:∃ o,h'.get? b=some o):Inv X pins σ H { s with heap:=h',toks:=t' }:=by
  obtain⟨a0,a1,a2,a3,a4,a5⟩:=ha
  obtain⟨b0,b1,b2,b3,b4,b5⟩:=hb
  refine I.call' (s':={ s with heap:=h',toks:=t' }) (ch:=[a,b]) rfl ⟨fun c o e _ _ hc=>?_,fun c o e _ _ hc=>⟨o.slots,?_⟩,fun _ _ _ n _=>n,fun c o e hc=>⟨o,?_⟩,fun _ _ q=>q,fun _ _ _ q=>q,fun _ ps q=>⟨#[],by rw [q];simp⟩⟩ (fun c u e=>?_) I.bare (fun c hc=>?_)
  · exact k c o (fun z=>hc (by simp [z])) (fun z=>hc (by simp [z])) e
  · exact k c o (fun z=>hc (by simp [z])) (fun z=>hc (by simp [z])) e
  · exact k c o (fun z=>hc (by simp [z])) (fun z=>hc (by simp [z])) e
  · refine (I.hok c u e).stay (fun d o hd q=>k d o ?_ ?_ q) (fun _ q=>q) fun _ _ q=>q
    · rintro rfl
      rcases hd with z | z
      · rw [← z,a0] at e;cases e
      · rw [a0] at z;cases z
    · rintro rfl
      rcases hd with z | z
      · rw [← z,b0] at e;cases e
      · rw [b0] at z;cases z
  · rcases List.mem_cons.mp hc with z | hc
    · rw [z];exact⟨a3,a1,a4,a5⟩
    · have z:c=b:=by simpa using hc
      rw [z];exact⟨b3,b1,b4,b5⟩
theorem k'C {P:Program} {w:World} {K:PySem.W.Frag} {elts:List Expr} {x1:Nat} {pos:Pos} (a it en:Addr) (hne:en≠it) :
    Turn P w K (.Tuple elts x1 pos) (Ite K a) [en,it] en (fun i h=>(∃ old,IsEnum h en it i old)∧h.IsListIter it a i) where
  mem:=by simp
  obj:=fun i h st b hb=>by
    obtain⟨⟨old,e1⟩,o,e2,c,d⟩:=st
    rcases List.mem_cons.mp hb with z | hb
    · rw [z];exact⟨_,e1,fun v z=>by cases z⟩
    · have z:b=it:=by simpa using hb
      rw [z];exact⟨o,e2,fun v z=>by rw [d] at z;cases z⟩
  keep:=fun i h h' st k=>by
    obtain⟨⟨old,e1⟩,e2⟩:=st
    exact⟨⟨old,k en (by simp) _ e1⟩,e2.at fun o e=>k it (by simp) o e⟩
  item:=by
    intro X hP hw hK hc i pins s σ H E I hf st hg
    subst hP hw hK
    obtain⟨⟨old,he⟩,hit⟩:=st
    obtain⟨xs,x,hq,hx⟩:=hg
    obtain⟨its,rv,p,hz⟩:=I.list hq
    obtain⟨u,hu,ru⟩:=rv.get hx
    have fe:=hf en (by simp)
    have fi:=hf it (by simp)
    refine wpAny_pyNext_enum_item he hit p.isList (x:=u) (by simpa using hu) hne fun h' hout hit' hT hsz hk=>?_
    refine⟨.ref s.heap.objs.size,rfl,wpAny_letOwnedTupleGo_enum hout fun h2 he2 hs=>?_⟩
    have le:en<s.heap.objs.size:=Heap.lt_size he
    have li:it<s.heap.objs.size:=let ⟨o,e,_⟩:=hit;Heap.lt_size e
    have hfr:H s.heap.objs.size=none:=I.hok.fresh (Nat.le_refl _)
    have ne1:en≠s.heap.objs.size:=Nat.ne_of_lt le
    have ne2:it≠s.heap.objs.size:=Nat.ne_of_lt li
    have I1:=I.laid (a:=s.heap.objs.size) (o:=.tup [.int i,x]) (h':=s.heap.push { cls:=.type "tuple",data:=.seq #[.int i s.toks,u] }) (t':=s.toks) (fun b q hq=>Heap.get?_push_of_some _ hq) (Nat.le_refl _)
      ⟨by show 2≤sizeLine;decide,[.int i s.toks,u],.cons ⟨_,rfl⟩ (.cons ru .nil),⟨_,Heap.get?_push_size _ rfl,rfl,_,rfl⟩⟩
    have up:∀ {b:Addr},b≠s.heap.objs.size→FpOk X pins H b→FpOk X pins (upd H s.heap.objs.size (.tup [.int i,x])) b:=fun hb f=>⟨by rw [a't hb];exact f.1,f.2⟩
    have hk2:∀ b q,b≠en→b≠it→(s.heap.push { cls:=.type "tuple",data:=.seq #[.int i s.toks,u] }).get? b=some q→h2.get? b=some q:=fun b q h1 h3 hq=>by
      refine hs.extBut b q h1 ?_
      rcases Heap.get?_push_cases hq with ⟨hbs,eq⟩ | hq
      · subst hbs
        subst eq
        exact hT
      · exact hk b q h1 h3 hq
    obtain⟨oi,ei,ci,di⟩:=hit'
    have hit2:h2.IsListIter it a (i+1):=⟨oi,hs.extBut it oi (Ne.symm hne) ei,ci,di⟩
    refine⟨.ref s.heap.objs.size,upd H s.heap.objs.size (.tup [.int i,x]),?_,rfl,⟨_,x,rfl,hfr,fun ys hy=>by rw [I.list_inj hy hq];exact hx,rfl⟩,⟨⟨_,he2⟩,hit2⟩,fun b hb=>?_⟩
    · exact Inv.turned2 (s:={ s with heap:=s.heap.push { cls:=.type "tuple",data:=.seq #[.int i s.toks,u] },toks:=s.toks }) (t':=s.toks+1) I1 hk2 (up ne1 fe) (up ne2 fi) ⟨_,he2⟩ ⟨oi,hs.extBut it oi (Ne.symm hne) ei⟩
    · rcases List.mem_cons.mp hb with z | hb
      · rw [z,a't ne1];exact fe.1
      · have z:b=it:=by simpa using hb
        rw [z,a't ne2];exact fi.1
  done:=by
    intro X hP hw hK hc i pins s σ H E I hf st hg
    subst hP hw hK
    obtain⟨⟨old,he⟩,hit⟩:=st
    obtain⟨xs,hq,hx⟩:=hg
    obtain⟨its,rv,p,hz⟩:=I.list hq
    have hl:=rv.length
    obtain⟨f0,f1,f2,f3,f4,f5⟩:=hf it (by simp)
    exact wpAny_pyNext_enum_end (I.ok.hd hc) he hit p.isList (by simp;omega) fun h' eb=>⟨rfl,I.turned (t':=s.toks) (fun b o hb e=>eb b o hb e) f0 f1 f3 f4 f5⟩
  self:=fun _ _ _ _ _ st h=>let ⟨⟨_,he⟩,_⟩:=st;wpAny_pyIter_enum he h
section
variable {X:Cx}
def iEnum (K:PySem.W.Frag) (ta:TA):TI:=fun σ H R=>ta σ H fun vs H1=>∃ a,vs=[.ref a]∧(∃ xs,SqL K H1 a xs)∧R (Ite K a) H1
theorem i'U {l:Expr} {ta:TA} {elts:List Expr} {x1:Nat} {tpos p pos:Pos} (hg:Gl X "enumerate") (hm:X.mg "enumerate"=none) (ha:PA X [l] ta) (hs:starEach [l] X.env=[(false,eval l X.env)]:=by rfl) :
    PI X (.Tuple elts x1 tpos) (.Call (.Name "enumerate" p) [l] [] pos) (iEnum X.K ta):=by
  intro pins s σ H R I h
  refine Call_ (f'y I hg hm (u:=.type "enumerate") rfl (PyProof.Rows.callWith_type1 (thn (ha pos pins s σ H _ I h) fun us s1 ⟨vs,H1,I1,r1,a,e,⟨xs,hq⟩,q⟩=>?_) hs rfl))
  subst e
  cases r1 with
  | cons r rr =>
    cases rr
    cases r
    obtain⟨its,rv,p,hz⟩:=I1.list hq
    refine call_enumerate_list p.isList fun h' hE hit hsz hk=>wpAny_pyIter_enum hE ?_
    have ne:s1.heap.objs.size+1≠s1.heap.objs.size:=by omega
    refine⟨s1.heap.objs.size+1,[s1.heap.objs.size+1,s1.heap.objs.size],_,_,H1,rfl,I1.kept (t':=s1.toks) hk,k'C a _ _ ne,⟨⟨_,hE⟩,hit⟩,fun b hb=>?_,q⟩
    rcases List.mem_cons.mp hb with z | hb
    · rw [z];exact I1.fpOk (by omega) (I1.hok.fresh (by omega))
    · have z:b=s1.heap.objs.size:=by simpa using hb
      rw [z];exact I1.fpOk (Nat.le_refl _) (I1.hok.fresh (Nat.le_refl _))
end
theorem i'V {K:PySem.W.Frag} {ta:TA} {σ:St} {H:Hp} {R:It→Hp→Prop} (h:ta σ H fun vs H1=>∃ a,vs=[.ref a]∧(∃ xs,SqL K H1 a xs)∧R (Ite K a) H1):iEnum K ta σ H R:=h
theorem h'W {K:PySem.W.Frag} {a:Addr} {xs:List V} {g:TG} {tb:TS} {D:Ends} {σ:St} {H:Hp} (Pv:Nat→St→Hp→Prop) (h0:Pv 0 σ H)
    (hl:∀ i σ H,i≤xs.length→Pv i σ H→SqL K H a xs)
    (hs:∀ i x σ H p,xs[i]?=some x→Pv i σ H→H p=none→g (.ref p) σ (upd H p (.tup [.int i,x])) fun σ2 H2=>tb { D with nx:=Pv (i+1),ct:=Pv (i+1),bk:=D.nx } σ2 H2) (hd:∀ σ H,Pv xs.length σ H→D.nx σ H) :
    ∃ W:Nat→Nat→St→Hp→Prop,(∃ m,W 0 m σ H)∧∀ i m σ H,W i m σ H→
      ((Ite K a).stop i H∧D.nx σ H)∨((Ite K a).go i H∧∃ N:St→Hp→Prop,(∀ σ' H',N σ' H'→∃ m',m'<m∧W (i+1) m' σ' H')∧∀ x H',(Ite K a).yld i H x H'→g x σ H' fun σ2 H2=>tb { D with nx:=N,ct:=N,bk:=D.nx } σ2 H2):=by
  refine⟨fun i m σ H=>m=xs.length - i∧i≤xs.length∧Pv i σ H,⟨xs.length,by simp,Nat.zero_le _,h0⟩,?_⟩
  rintro i m σ H ⟨rfl,hi,p⟩
  have q:=hl i σ H hi p
  rcases Nat.lt_or_ge i xs.length with hlt | hge
  · refine .inr ⟨⟨xs,xs[i],q,by simp [hlt]⟩,Pv (i+1),fun σ' H' p'=>⟨xs.length - (i+1),by omega,rfl,hlt,p'⟩,fun y H' z=>?_⟩
    obtain⟨pa,x,rfl,e2,e3,rfl⟩:=z
    exact hs i x σ H pa (e3 xs q) p e2
  · obtain rfl:i=xs.length:=by omega
    exact .inl ⟨⟨xs,q,hge⟩,hd σ H p⟩
end L2
namespace L2
open PySem PySem.Spec PyProof.Rows
section
variable {X:Cx}
end
end L2
namespace L2
theorem o'q {σ:St} {H:Hp} {R:Bool→Hp→Prop} (h:R true H):tYes σ H R:=h
theorem c'm:1000000≤PySem.sizeLine:=by decide
end L2
namespace Vc
open PySem L2 Sf
end Vc
namespace L2
open PySem PySem.Spec PyProof.Rows
section
variable {X:Cx}
def tThawE (X:Cx) (t:TE):TE:=fun σ H Q=>t σ H fun v=>Thaw X (Q v)
theorem m'A {e:Expr} {t:TE} (h:PE X e t):PE X e (tThawE X t):=by
  intro pins s σ H Q I q
  refine thn (h pins s σ H _ I q) fun u s' ⟨v,H',I',rv,a,ob,kvs,e,hn,r⟩=>?_
  exact⟨v,_,I'.thaw e hn,rv,r⟩
end
theorem m'B {X:Cx} {t:TE} {σ:St} {H:Hp} {Q:VK} (h:t σ H fun v=>Thaw X (Q v)):tThawE X t σ H Q:=h
section
variable {g:TG} {ti:TT} {te:TE} {ix:List (Option Nat)} {σ:St} {Q:VK}
end
end L2
namespace L2
open PySem PySem.Spec PyProof.Rows
section
variable {X:Cx}
end
end L2
namespace Vc
open PySem L2 Sf
theorem o'r {α:Type} {A:Rep α} {F H:Hp} {a:Addr} {kvs:List (Key×V)} {m:List (Str×α)} {z:V} {d:α} (x:Str) (rd:Rd H a (.dK kvs)) (dk:Dk A F kvs m) (hz:A F z d):∃ o,DGet H a (V.str x) o∧A F (o.getD z) ((gtd m x).getD d):=by
  refine⟨valV kvs (Sum.inr x:Key),.inl ⟨kvs,Sum.inr x,rd,rfl,rfl⟩,?_⟩
  rcases dk.val x with ⟨e1,e2⟩ | ⟨v,y,e1,e2,e3⟩
  · rw [e1,e2];exact hz
  · rw [e1,e2];exact e3
end Vc
namespace L2
end L2
namespace L2
open PySem PySem.Spec PyProof.Rows
section
variable {X:Cx}
def PJ (X:Cx) (es:List Expr) (t:Str→TE):Prop:=
  ∀ (out:Str) (pins:List (Addr×Obj)) (s:Shared) (σ:St) (H:Hp) (Q:VK),Inv X pins σ H s→t out σ H Q→wpAny (model X.prog X.w) X.A (joinParts out (evalEach es X.env)) (EP X pins σ Q) X.xe s
def jNil:Str→TE:=fun out _ H Q=>out.length≤sizeLine∧Q (.str out) H
def jTxt (x:Str) (t:Str→TE):Str→TE:=fun out σ H Q=>(out++x).length≤sizeLine∧t (out++x) σ H Q
def jVal (te:TE) (t:Str→TE):Str→TE:=fun out σ H Q=>te σ H fun v H1=>∃ y,v=.str y∧y.length≤sizeLine∧(out++y).length≤sizeLine∧t (out++y) σ H1 Q
theorem n'M:PJ X [] jNil:=fun out pins s σ H Q I h=>joinParts_nil ⟨.str out,H,I.tok _,⟨_,rfl⟩,h.2⟩ h.1
theorem n'N {x:Str} {j:Nat} {pos:Pos} {es:List Expr} {t:Str→TE} (hr:PJ X es t):PJ X (.Constant (.str x) j pos :: es) (jTxt x t):=fun out pins s σ H Q I h=>
  joinParts_cons (rest:=evalEach es X.env) (Calls.Constant_str ⟨h.1,hr (out++x) pins _ σ H Q (I.tok _) h.2⟩)
theorem k'D {e:Expr} {pos:Pos} {es:List Expr} {te:TE} {t:Str→TE} (he:PE X e te) (hr:PJ X es t):PJ X (.FormattedValue e (-1) none pos :: es) (jVal te t):=fun out pins s σ H Q I h=>
  joinParts_cons (rest:=evalEach es X.env) (FormattedValue_plain (thn (he pins s σ H _ I h) fun v s1 ⟨x,H1,I1,r1,y,e1,hz,hq,q1⟩=>by
    subst e1
    obtain⟨t',rfl⟩:=r1
    exact formatField_str (fun t' tk=>⟨hq,hr (out++y) pins _ σ H1 Q (I1.tok _) q1⟩) hz))
def tJ (t:Str→TE):TE:=t Str.empty
theorem m'C {a b:Expr} {es:List Expr} {pos:Pos} {t:Str→TE} (h:PJ X (a :: b :: es) t):PE X (.JoinedStr (a :: b :: es) pos) (tJ t):=fun pins s σ H Q I q=>
  JoinedStr_many (h Str.empty pins s σ H Q I q)
end
section
variable {σ:St} {H:Hp} {Q:VK}
theorem d'Z (x:Str):Str.empty++x=x:=by
  cases x with
  | mk c =>
    show (⟨Str.empty.cps++c⟩:Str)=⟨c⟩
    congr 1
    show #[]++c=c
    simp
theorem o'G {t:Str→TE} (h:t Str.empty σ H Q):tJ t σ H Q:=h
theorem n'O {te:TE} {t:Str→TE} {out:Str} (h:te σ H fun v H1=>∃ y,v=.str y∧y.length≤sizeLine∧(out++y).length≤sizeLine∧t (out++y) σ H1 Q):jVal te t out σ H Q:=h
theorem o'H {x:Str} {t:Str→TE} {out:Str} (hz:(out++x).length≤sizeLine) (h:t (out++x) σ H Q):jTxt x t out σ H Q:=⟨hz,h⟩
theorem o'I {out:Str} (hz:out.length≤sizeLine) (h:Q (.str out) H):jNil out σ H Q:=⟨hz,h⟩
theorem f'l {K:PySem.W.Frag} {T:String} {r:V→List V→Hp→VK→Prop} {to:TE} {t:TA} (h:to σ H fun x H1=>tyV K T x H1∧t σ H1 fun xs H2=>r x xs H2 Q):tBM K T r to t σ H Q:=h
theorem f'Q {K:PySem.W.Frag} {T:String} {r:V→List V→Hp→VK→Prop} {to:TE} (h:to σ H fun x H1=>tyV K T x H1∧r x [] H1 Q):tBM0 K T r to σ H Q:=h
theorem e'K {l:Addr} {xs:List V} {y:V} (h:H l=some (.lst xs)) (hz:xs.length<sizeLine) (q:Q .non (upd H l (.lst (xs++[y])))):rAppend (.ref l) [y] H Q:=⟨l,xs,y,rfl,rfl,h,hz,q⟩
end
section
variable {g:TG} {ti:TT} {te:TE} {ix:List (Option Nat)} {σ:St} {Q:VK}
end
end L2
namespace Vc
open PySem L2 Sf
section
variable {X:Cx} {pins:List (Addr×Obj)} {σ:St} {H:Hp} {s:Shared} {Au:Around}
theorem m'D {a b:Addr} {xs ys:List V} (I:Inv X pins σ H s) (h1:SqL X.K H a xs) (h2:SqL X.K H b ys) (hu:Au.units<cLine) (hl:xs.length=ys.length) (e:Nat→Bool)
    (he:∀ (j:Nat) x y u v,xs[j]?=some x→ys[j]?=some y→RelV x u→RelV y v→SeqAt.EqAt Au.in1 s u v (e j)):SeqAt.RcNeAt Au s (.ref a) (.ref b) (!(List.range xs.length).all e):=by
  obtain⟨us,r1,t1,_⟩:=I.list h1
  obtain⟨ws,r2,t2,_⟩:=I.list h2
  have l1:=r1.length
  have l2:=r2.length
  have z:=SeqAt.RcNeAt.lists (A:=Au) (e:=e) t1.isList t2.isList (by simp;omega) hu (fun j h1 h2=>?_)
  · have e0:(List.range us.toArray.size).all e=(List.range xs.length).all e:=by
      simp only [List.size_toArray]
      rw [← l1]
    rw [e0] at z
    exact z
  · simp only [List.size_toArray] at h1 h2
    obtain⟨u,e1,ru⟩:=r1.get (i:=j) (x:=xs[j]'(by omega)) (by simp)
    obtain⟨v,e2,rv⟩:=r2.get (i:=j) (x:=ys[j]'(by omega)) (by simp)
    obtain⟨_,f1⟩:=List.getElem?_eq_some_iff.mp e1
    obtain⟨_,f2⟩:=List.getElem?_eq_some_iff.mp e2
    have g1:us.toArray[j]'(by simpa using h1)=u:=by simpa using f1
    have g2:ws.toArray[j]'(by simpa using h2)=v:=by simpa using f2
    rw [g1,g2]
    exact he j _ _ u v (by simp) (by simp) ru rv
end
section
variable {X:Cx}
end
theorem Al.strs {F:Hp}:∀ {vs:List V} {xs:List Str},Al rS F vs xs→vs=xs.map V.str
  | [], [], _ => rfl
  | v :: vs, x :: xs, h => by rw [List.map_cons, ← Al.strs h.2]; exact congrArg (· :: vs) h.1
  | [], _ :: _, h => h.elim
  | _ :: _, [], h => h.elim
theorem d'a (x:Str):∀ xs:List Str,inV (.str x) (xs.map V.str)=decide (x∈xs)
  | [] => by rw [decide_eq_false (by simp)]; rfl
  | y :: r => by
    have ih:=d'a x r
    unfold inV at ih ⊢
    rw [List.map_cons,List.any_cons,ih]
    by_cases e:y=x
    · subst e
      rw [show eqV (.str y) (.str y)=true from c'X rfl,Bool.true_or,decide_eq_true (by simp)]
    · have h1:eqV (.str y) (.str x)=false:=by
        show (y == x)=false
        simpa using e
      rw [h1,Bool.false_or]
      by_cases m:x∈r
      · rw [decide_eq_true m,decide_eq_true (List.mem_cons_of_mem _ m)]
      · rw [decide_eq_false m,decide_eq_false]
        intro z
        rcases List.mem_cons.mp z with z | z
        · exact e z.symm
        · exact m z
theorem c'G:∀ xs:List Str,(xs.map V.str).all flatV=true
  | [] => rfl
  | y :: r => by rw [List.map_cons, List.all_cons, c'G r]; rfl
theorem o's {K:PySem.W.Frag} {F H:Hp} {Q:VK} {p:Addr} {vs:List V} {xs:List Str} {x:Str} (h:SqL K H p vs) (al:Al rS F vs xs) (q:Q (.bl (decide (x∈xs))) H):rIn K false (.str x) (.ref p) H Q:=by
  refine⟨p,vs,rfl,.inl h,rfl,?_,?_⟩
  · rw [al.strs];exact c'G xs
  · rw [al.strs,if_neg (by simp),d'a];exact q
end Vc
namespace Vc
open PySem L2 Sf
def ownL {α:Type} (A:Rep α) (F H H':Hp) (v:V) (r:List α):Prop:=∃ p vs,v=.ref p∧H p=none∧H' p=some (.lst vs)∧F p=none∧Al A F vs r
theorem b'y {K:PySem.W.Frag} {H:Hp} {p:Addr} {xs:List V} (h:H p=some (.lst xs)):tyV K "list" (.ref p) H:=by
  exact .inl ⟨rfl,xs,SqL.of h⟩
theorem m'E {K:PySem.W.Frag} {H:Hp} {p:Addr} {kvs:List (Key×V)} (h:H p=some (.dK kvs)):tyV K "dict" (.ref p) H:=.inr (.inr (.inl ⟨rfl,.inl ⟨kvs,h⟩⟩))
theorem g'O {α:Type} (xs:List α) (a b:Nat):(cutA xs (some (a:Int)) (some (b:Int))).length≤b - a:=by
  unfold cutA
  rw [HT.sIx_nat,HT.sIx_nat,List.length_take,List.length_drop]
  omega
theorem h'b {α β:Type} {xs:List α} {i:Nat} {x:α} (f:α→β) (hx:xs[i]?=some x):(xs.take (i+1)).map f=(xs.take i).map f++[f x]:=by
  rw [List.take_add_one,hx,List.map_append]
  rfl
end Vc
namespace L2
open PySem PySem.Spec PyProof.Rows
end L2
namespace Vc
open PySem L2 Sf
end Vc
namespace L2
open PySem PySem.Spec PyProof.Rows
section
variable {X:Cx}
theorem g'P {us:List Value} {ks:List Str} (h:StrsAre us ks):Vals (ks.map V.str) us:=by
  induction h with
  | nil => exact .nil
  | cons _ _ _ ih => exact .cons ⟨_, rfl⟩ ih
end
section
variable {X:Cx}
end
section
variable {X:Cx}
end
end L2
namespace Vc
open PySem L2 Sf
theorem i'u {a b:List Nat} (h1:¬ a<b) (h2:¬ b<a):a=b:=by
  rw [List.not_lt] at h1 h2
  exact List.le_antisymm h2 h1
theorem f'R:∀ (l:List Str),PyProof.Rows.sortedS l=true→l.Pairwise (fun a b=>¬ b.cps.toList<a.cps.toList)
  | [], _ => .nil
  | x :: r, h => by
    have tr:∀ a b c:List Nat,¬ b<a→¬ c<b→¬ c<a:=fun a b c h1 h2=>by
      rw [List.not_lt] at h1 h2 ⊢
      exact List.le_trans h1 h2
    have gen:∀ (r:List Str) (p:Str),PyProof.Rows.risingS p r=true→(p :: r).Pairwise (fun a b=>¬ b.cps.toList<a.cps.toList):=by
      intro r
      induction r with
      | nil=>intro p _;exact List.pairwise_singleton _ _
      | cons y t ih=>
        intro p h
        have h':(!PySem.Spec.ltCps y.cps.toList p.cps.toList && PyProof.Rows.risingS y t)=true:=h
        rw [Bool.and_eq_true,PyProof.Rows.ltCps_eq] at h'
        have h1:¬ y.cps.toList<p.cps.toList:=by simpa using h'.1
        have w:=ih y h'.2
        refine List.pairwise_cons.mpr ⟨fun b hb=>?_,w⟩
        rcases List.mem_cons.mp hb with e | hb
        · rw [e];exact h1
        · exact tr _ _ _ h1 ((List.pairwise_cons.mp w).1 b hb)
    exact gen r x h
theorem j'B {a b:List Str} (h1:PyProof.Rows.sortedS a=true) (h2:PyProof.Rows.sortedS b=true) (p:a.Perm b):a=b:=by
  refine List.Perm.eq_of_pairwise (le:=fun a b=>¬ b.cps.toList<a.cps.toList) (fun x y _ _ e1 e2=>?_) (f'R a h1) (f'R b h2) p
  have:=i'u e2 e1
  cases x;cases y
  simpa using this
theorem i'W {F:Hp}:∀ {xs:List Str},Al rS F (xs.map V.str) xs
  | [] => True.intro
  | _ :: _ => ⟨rfl, i'W⟩
noncomputable def srt (ks:List Str):List Str:=Classical.epsilon fun l=>l.Perm ks∧PyProof.Rows.sortedS l=true
theorem n'P {ks l:List Str} (h:l.Perm ks) (g:PyProof.Rows.sortedS l=true):l=srt ks:=by
  have:=Classical.epsilon_spec (p:=fun l:List Str=>l.Perm ks∧PyProof.Rows.sortedS l=true) ⟨l,h,g⟩
  exact j'B g this.2 (h.trans this.1.symm)
section
variable {K:PySem.W.Frag} {F H:Hp} {Q:VK}
end
end Vc
namespace Vc
open PySem L2 Sf
def lentD {α:Type} (A:Rep α) (F H:Hp) (v:V) (m:List (Str×α)):Prop:=∃ p kvs,v=.ref p∧H p=some (.dK kvs)∧F p=none∧Dk A F kvs m∧(m.map (·.1)).Nodup
theorem m'F {α:Type} {m:List (Str×α)} {x:Str} {y:α} (h:∀ p∈m,p.1≠x):ptd m x y=m++[(x,y)]:=by
  unfold ptd
  rw [if_neg]
  intro z
  rw [List.any_eq_true] at z
  obtain⟨p,hp,e⟩:=z
  exact h p hp (by simpa using e)
theorem m'G {α:Type} {m:List (Str×α)} (n:(m.map (·.1)).Nodup) {i:Nat} {x:Str} {y:α} (h:m[i]?=some (x,y)):∀ p∈m.take i,p.1≠x:=by
  intro p hp e
  obtain⟨j,hj⟩:=List.getElem?_of_mem hp
  have hlt:j<i:=by
    have:=(List.getElem?_eq_some_iff.mp hj).1
    rw [List.length_take] at this
    omega
  rw [List.getElem?_take_of_lt hlt] at hj
  have e1:(m.map (·.1))[j]?=some x:=by rw [List.getElem?_map,hj,Option.map_some,e]
  have e2:(m.map (·.1))[i]?=some x:=by rw [List.getElem?_map,h];rfl
  have:=(List.getElem?_inj (List.getElem?_eq_some_iff.mp e1).1 n).mp (e1.trans e2.symm)
  omega
def keepS (m:List (Str×Rat)):List (Str×Rat):=m.filter fun p=>!decide (p.2.num=0)
theorem d'S {m:List (Str×Rat)} (n:(m.map (·.1)).Nodup) {i:Nat} {x:Str} {q:Rat} (h:m[i]?=some (x,q)) (hq:¬ q.num=0):ptd (keepS (m.take i)) x q=keepS (m.take (i+1)):=by
  have hk:∀ p∈keepS (m.take i),p.1≠x:=fun p hp=>m'G n h p (List.mem_filter.mp hp).1
  rw [m'F hk,List.take_add_one,h]
  unfold keepS
  rw [List.filter_append]
  congr 1
  have hq':¬ q=0:=fun z=>hq (by rw [z];rfl)
  simp [hq']
theorem g'Q {m:List (Str×Rat)} {i:Nat} {x:Str} {q:Rat} (h:m[i]?=some (x,q)) (hq:q.num=0):keepS (m.take i)=keepS (m.take (i+1)):=by
  rw [List.take_add_one,h]
  unfold keepS
  rw [List.filter_append,Option.toList_some,List.filter_cons,List.filter_nil,hq]
  simp
theorem h'X (m:List (Str×Rat)):(keepS m).length≤m.length:=List.length_filter_le _ _
theorem k'E (ks:List Str):∃ l:List Str,l.Perm ks∧PyProof.Rows.sortedS l=true:=by
  have e:∃ l:List Str,l.Perm ks∧PyProof.Rows.sortedS l=true:=by
    refine⟨ks.mergeSort (fun a b=>!decide (b.cps.toList<a.cps.toList)),List.mergeSort_perm _ _,PyProof.Rows.sortedS_of_pairwise _ ?_⟩
    have:=List.pairwise_mergeSort (le:=fun a b:Str=>!decide (b.cps.toList<a.cps.toList)) (fun a b c h1 h2=>by
      have h1':¬ b.cps.toList<a.cps.toList:=by simpa using h1
      have h2':¬ c.cps.toList<b.cps.toList:=by simpa using h2
      rw [List.not_lt] at h1' h2'
      have:=List.not_lt.mpr (List.le_trans h1' h2')
      simpa using this) (fun a b=>by
      rcases List.le_total a.cps.toList b.cps.toList with h | h
      · have:=List.not_lt.mpr h
        simp [this]
      · have:=List.not_lt.mpr h
        simp [this]) ks
    refine this.imp fun h=>?_
    rw [PyProof.Rows.ltCps_eq]
    simpa using h
  exact e
theorem m'H (ks:List Str):(srt ks).length=ks.length:=(Classical.epsilon_spec (k'E ks)).1.length_eq
end Vc
namespace L2
open PySem PySem.Spec PyProof.Rows
structure FunD (K:PySem.W.Frag) (x qual:Str) (st:Stmt) (f:Addr) (fd:FuncData) (ds:List Value):Prop where
  ex:∃ (oc:Value) (od:Option Addr) (kV doc pm:Value) (an:Option Addr) (cdv ct:Value) (osl:Array (Option Value)) (T:Addr) (o:Obj) (n:Nat),
    fd=PySem.W.fnOf x qual (defArgs st) (defBody st) (defScope st) (.ref T) kV doc pm an cdv ct∧K.lookup f=some ⟨oc,od,.func fd,osl⟩∧PySem.W.codeIn K cdv qual=true∧K.lookup T=some o∧o.data=.seq ds.toArray n
  kp:PySem.W.keepIn K (.ref f)=true
section
variable {P:Program} {w:World} {K:PySem.W.Frag} {mg:Str→Option Value} {base:Heap}
end
section
variable {g:TG} {ti:TT} {te:TE} {ix:List (Option Nat)} {σ:St} {Q:VK}
end
end L2
namespace Vc
open PySem L2 Sf
section
variable {K:PySem.W.Frag} {F H:Hp} {Q:VK}
theorem n'Q {p:Addr} {xs:List Str} {x:Str} (h:SqT K H p (xs.map V.str)) (q:Q (.bl (!decide (x∈xs))) H):rIn K true (.str x) (.ref p) H Q:=by
  refine⟨p,xs.map V.str,rfl,.inr h,rfl,c'G xs,?_⟩
  rw [if_pos rfl,d'a];exact q
theorem o't {p:Addr} {xs:List Str} {x:Str} (h:SqT K H p (xs.map V.str)) (q:Q (.bl (decide (x∈xs))) H):rIn K false (.str x) (.ref p) H Q:=by
  refine⟨p,xs.map V.str,rfl,.inr h,rfl,c'G xs,?_⟩
  rw [if_neg (by simp),d'a];exact q
end
end Vc
namespace L2
open PySem PySem.Spec PyProof.Rows
def RnW (P:Program) (w:World) (A:Around) (s:Shared) (u v:Value):Prop:=∀ (E:Value→Shared→Prop) (Q:Value→Shared→Prop),Q (.bool false) s→wpAny (model P w) A (richCompare .NotEq u v) Q E s
section
variable {P:Program} {w:World} {A:Around} {s:Shared}
section
open PySem.AutoSeq1 (wpAny_loadPart')
theorem o'u (a b:Addr) (xs ys:Array Value) (n m:Nat) (da db:Option Addr) (sa sb:Array (Option Value)) (hz:xs.size=ys.size) :
    MeetsIn P w (Builtin.«tuple.__ne__» ⟨[.ref a,.ref b],[]⟩) (fun A R s=>s.heap.get? a=some ⟨.type "tuple",da,.seq xs n,sa⟩∧s.heap.get? b=some ⟨.type "tuple",db,.seq ys m,sb⟩∧
      (∀ j (h1:j<xs.size) (h2:j<ys.size),EqW P w A.in1 s xs[j] ys[j])∧R (.ok (.ret (.bool false))) s):=by
  refine .of_wp fun A R s h=>?_
  obtain⟨hp,g,d,tk,os⟩:=s
  obtain⟨ha,hb,he,hR⟩:=h
  have sub:=AutoSeq1.sub_tuple_tuple
  have len:(xs.toList.zip ys.toList).length=xs.size:=by simp;omega
  wp_walk using wpAny_loadPart' ha,wpAny_loadPart' hb,wpAny_forIn_list _ (fun r c s'=>c.1=none∧s'=⟨hp,g,d,tk,os⟩∧∃ i,r=(xs.toList.zip ys.toList).drop i) _
  case turn=>
    rintro⟨x,y⟩ r c s' ⟨hc,rfl,i,hr⟩
    by_cases lt:i<(xs.toList.zip ys.toList).length
    · rw [List.drop_eq_getElem_cons lt] at hr
      injection hr with e1 e2
      have i1:i<xs.size:=by omega
      have i2:i<ys.size:=by omega
      obtain⟨ex,ey⟩:x=xs[i]∧y=ys[i]:=by
        have z:=Prod.mk.inj (e1.trans List.getElem_zip)
        exact⟨by simpa using z.1,by simpa using z.2⟩
      subst ex ey
      refine wpAny_bind (he i i1 i2 _ _ ?_)
      wp_walk
      exact⟨rfl,rfl,i+1,e2⟩
    · rw [List.drop_of_length_le (by omega)] at hr
      cases hr
  case fin=>
    rintro⟨c1,c2⟩ s' ⟨hc,rfl,_⟩
    simp only at hc
    subst hc
    wp_walk
    refine⟨_,rfl,?_⟩
    simpa [Builtin.Tuple.tupleCompareSizes,hz] using hR
  case h=>exact⟨rfl,rfl,0,rfl⟩
end
theorem RnW.tuples {a b:Addr} {xs ys:Array Value} (ha:IsTup s.heap a xs) (hb:IsTup s.heap b ys) (hz:xs.size=ys.size) (hu:A.units<cLine) (he:∀ j (h1:j<xs.size) (h2:j<ys.size),EqW P w A.in1 s xs[j] ys[j]):RnW P w A s (.ref a) (.ref b):=fun E Q q=>by
  obtain⟨⟨ca,da,xa,sa⟩,oa,ka,n,va⟩:=id ha
  obtain⟨⟨cb,db,xb,sb⟩,ob,kb,m,vb⟩:=id hb
  simp only at ka va kb vb
  subst ka va kb vb
  refine wpAny_richCompare_same_room (op:=.NotEq) (T:="tuple") ⟨_,oa,rfl⟩ ⟨_,ob,rfl⟩ PySem.F.slot_tuple_ne ?_ hu
  exact call_meetsIn PySem.F.slot_tuple_ne ⟨_,oa,rfl⟩ PySem.F.entry_tuple_ne (PySem.F.args_tuple_ne_2 _ _) (o'u a b xs ys n m da db sa sb hz) ⟨oa,ob,he,⟨(fun z=>nomatch z),q⟩⟩
section
open PySem.AutoSeq1 (wpAny_loadPart')
open PySem.MeetsSeq PySem.MeetsSeq2 PySem.MeetsSeq3 PySem.SeqRoads2 PySem.SeqAt
theorem g'R (a b:Addr) (xs ys:Array Value) (n m:Nat) (da db:Option Addr) (sa sb:Array (Option Value)) (hz:xs.size=ys.size):∀ (k i:Nat),xs.size - i=k→
    MeetsIn P w (Builtin.«list.__eq__.loop» ⟨[.ref a,.ref b,rawInt i,rawInt 3],[]⟩) (fun A R s=>s.heap.get? a=some ⟨.type "list",da,.seq xs n,sa⟩∧s.heap.get? b=some ⟨.type "list",db,.seq ys m,sb⟩∧
      (∀ j (h1:j<xs.size) (h2:j<ys.size),EqW P w A.in1 s xs[j] ys[j])∧R (.ok (.ret (.bool false))) s)
  | 0, i, hk => fun A R s h => by
    obtain⟨hp,g,d,tk,os⟩:=s
    obtain⟨ha,hb,he,hR⟩:=h
    wp_walk using wpAny_loadPart' ha,wpAny_loadPart' hb
    have z1:xs[((i:Nat):Int).toNat]?=none:=by simp;omega
    have z2:ys[((i:Nat):Int).toNat]?=none:=by simp;omega
    rw [z1,z2]
    wp_walk using wpAny_loadPart' ha,wpAny_loadPart' hb
    show R (.ok (.ret (.bool (xs.size != ys.size)))) _
    rw [hz,bne_self_eq_false]
    exact hR
  | k + 1, i, hk => fun A R s h => by
    obtain⟨hp,g,d,tk,os⟩:=s
    obtain⟨ha,hb,he,hR⟩:=h
    wp_walk using wpAny_loadPart' ha,wpAny_loadPart' hb
    have i1:i<xs.size:=by omega
    have i2:i<ys.size:=by omega
    have z1:xs[((i:Nat):Int).toNat]?=some xs[i]:=by simp [i1]
    have z2:ys[((i:Nat):Int).toNat]?=some ys[i]:=by simp [i2]
    rw [z1,z2]
    refine wpAny_bind (he i i1 i2 _ _ ?_)
    wp_walk
    have up:((i:Int)+1)=((i+1:Nat):Int):=Int.natCast_succ i
    rw [up]
    refine⟨plainId_quiet plain_eq_loop _,codeAny_builtin entry_eq_loop ?_⟩
    rw [Around.under_plainId plain_eq_loop _]
    exact g'R a b xs ys n m da db sa sb hz k (i+1) (by omega) A R _ ⟨ha,hb,he,hR⟩
theorem o'v (a b:Addr) (xs ys:Array Value) (n m:Nat) (da db:Option Addr) (sa sb:Array (Option Value)) (hz:xs.size=ys.size) :
    MeetsIn P w (Builtin.«list.__ne__» ⟨[.ref a,.ref b],[]⟩) (fun A R s=>s.heap.get? a=some ⟨.type "list",da,.seq xs n,sa⟩∧s.heap.get? b=some ⟨.type "list",db,.seq ys m,sb⟩∧
      (∀ j (h1:j<xs.size) (h2:j<ys.size),EqW P w A.in1 s xs[j] ys[j])∧R (.ok (.ret (.bool false))) s):=fun A R s h=>by
  obtain⟨hp,g,d,tk,os⟩:=s
  obtain⟨ha,hb,he,hR⟩:=h
  have sub:=AutoSeq1.sub_list_list
  have same:¬ (xs.size != ys.size)=true:=by simp [hz]
  wp_walk using wpAny_loadPart' ha,wpAny_loadPart' hb
  refine⟨plainId_quiet plain_eq_loop _,codeAny_builtin entry_eq_loop ?_⟩
  rw [Around.under_plainId plain_eq_loop _]
  exact g'R a b xs ys n m da db sa sb hz _ 0 rfl A R _ ⟨ha,hb,he,hR⟩
end
theorem RnW.lists {a b:Addr} {xs ys:Array Value} (ha:s.heap.IsList a xs) (hb:s.heap.IsList b ys) (hz:xs.size=ys.size) (hu:A.units<cLine) (he:∀ j (h1:j<xs.size) (h2:j<ys.size),EqW P w A.in1 s xs[j] ys[j]):RnW P w A s (.ref a) (.ref b):=fun E Q q=>by
  obtain⟨⟨ca,da,xa,sa⟩,oa,ka,n,va⟩:=id ha
  obtain⟨⟨cb,db,xb,sb⟩,ob,kb,m,vb⟩:=id hb
  simp only at ka va kb vb
  subst ka va kb vb
  refine wpAny_richCompare_same_room (op:=.NotEq) (T:="list") ⟨_,oa,rfl⟩ ⟨_,ob,rfl⟩ PySem.F.slot_list_ne ?_ hu
  exact call_meetsIn PySem.F.slot_list_ne ⟨_,oa,rfl⟩ PySem.F.entry_list_ne (PySem.F.args_list_ne_2 _ _) (o'v a b xs ys n m da db sa sb hz) ⟨oa,ob,he,⟨(fun z=>nomatch z),q⟩⟩
end
section
variable {X:Cx} {pins:List (Addr×Obj)} {σ:St} {H:Hp} {s:Shared}
theorem m'I {A:Around} {p q:Addr} {xs ys:List V} (I:Inv X pins σ H s) (hk:(SqT X.K H p xs∧SqT X.K H q ys)∨(SqL X.K H p xs∧SqL X.K H q ys)) (hu:A.units<cLine) (hl:xs.length=ys.length)
    (he:∀ (j:Nat) x y u v,xs[j]?=some x→ys[j]?=some y→RelV x u→RelV y v→EqW X.prog X.w A.in1 s u v):RnW X.prog X.w A s (.ref p) (.ref q):=by
  have fin:∀ (us vs:List Value),Vals xs us→Vals ys vs→∀ j (h1:j<us.toArray.size) (h2:j<vs.toArray.size),EqW X.prog X.w A.in1 s us.toArray[j] vs.toArray[j]:=by
    intro us vs r1 r2 j h1 h2
    have l1:=r1.length
    have l2:=r2.length
    simp only [List.size_toArray] at h1 h2
    obtain⟨u,e1,ru⟩:=r1.get (i:=j) (x:=xs[j]'(by omega)) (by simp)
    obtain⟨v,e2,rv⟩:=r2.get (i:=j) (x:=ys[j]'(by omega)) (by simp)
    obtain⟨_,f1⟩:=List.getElem?_eq_some_iff.mp e1
    obtain⟨_,f2⟩:=List.getElem?_eq_some_iff.mp e2
    have g1:us.toArray[j]'(by simpa using h1)=u:=by simpa using f1
    have g2:vs.toArray[j]'(by simpa using h2)=v:=by simpa using f2
    rw [g1,g2]
    exact he j _ _ u v (by simp) (by simp) ru rv
  rcases hk with ⟨h1,h2⟩ | ⟨h1,h2⟩
  · obtain⟨us,r1,t1,_⟩:=I.tuple h1
    obtain⟨vs,r2,t2,_⟩:=I.tuple h2
    have l1:=r1.length
    have l2:=r2.length
    exact RnW.tuples t1 t2 (by simp;omega) hu (fin us vs r1 r2)
  · obtain⟨us,r1,t1,_⟩:=I.list h1
    obtain⟨vs,r2,t2,_⟩:=I.list h2
    have l1:=r1.length
    have l2:=r2.length
    exact RnW.lists t1.isList t2.isList (by simp;omega) hu (fin us vs r1 r2)
end
section
variable {X:Cx}
def rNeN (K:PySem.W.Frag):R2:=fun x y H Q=>rEqN K x y H fun _ _=>Q (.bl false) H
theorem k'F (hu:X.A.units+64<cLine):OpR X (compareOp .NotEq) (rNeN X.K):=by
  intro pins s σ H x y v u Q I rx ry h
  obtain⟨n,p,q,xs,ys,hn,rfl,rfl,hk,al,hq⟩:=h
  cases rx
  cases ry
  refine m'I I hk (by omega) al.length (fun j x y u v h1 h2 r1 r2=>?_) X.xe _ ⟨.bl false,H,I,rfl,hq⟩
  exact k'j I n (A:=X.A.in1) (al.get h1 h2) r1 r2 (by rw [b'o];omega)
end
end L2
namespace Vc
open PySem L2 Sf
section
variable {K:PySem.W.Frag} {F H:Hp} {Q:VK}
theorem m'a {v w:V} (h:∀ Q':VK,Q' (.bl true) H→rEqN K v w H Q') (q:Q (.bl false) H):rNeN K v w H Q:=h (fun _ _=>Q (.bl false) H) q
end
end Vc
namespace L2
open PySem PySem.Spec PyProof.Rows
section
variable {X:Cx}
end
section
variable {X:Cx}
end
end L2
namespace Vc
open PySem L2 Sf
structure ZSs (X:Cx) (st:List Stmt) (t:TS):Prop where
  h:PSs X st t
structure ZS (X:Cx) (st:Stmt) (t:TS):Prop where
  h:PS X st t
structure ZE (X:Cx) (e:Expr) (t:TE):Prop where
  h:PE X e t
structure ZA (X:Cx) (e:List Expr) (t:TA):Prop where
  h:PA X e t
end Vc
namespace L2
open PySem PySem.Spec PyProof.Rows
section
variable {prog:Program} {w:World} {κ:Type} [DecidableEq κ] {kn:KeyKind prog w κ} {A:Around} {E:Value→Shared→Prop} {s:Shared}
end
section
variable {X:Cx}
end
end L2
namespace L2
open PySem PySem.Spec PyProof.Rows
section
variable {prog:Program} {w:World} {A:Around} {E:Value→Shared→Prop} {s:Shared}
end
section
variable {X:Cx}
end
section
variable {X:Cx}
end
end L2
namespace Vc
open PySem L2
section
variable {X:Cx} {pins:List (Addr×Obj)} {σ:St} {H:Hp} {s:Shared} {Au:Around}
open Sf in
end
section
variable {X:Cx}
end
theorem o'J {Fb Hb F H F' H':Hp} {S:Addr→Prop} {a:Addr} {ob:Obj} {kvs:List (Key×V)} (gb:Gr0 Fb Hb F H) (hH:H a=some (.dK kvs)) (hF:F a=none∨F a=some (.dK kvs))
    (gz:Gr0 (fz Fb a (.frz ob (.dK kvs))) (fz Hb a (.frz ob (.dK kvs))) F' H') (sF:F' a=fz F a (.frz ob (.dK kvs)) a) (cm:Fz (fun b=>b=a∨S b) F') :
    ∃ F'':Hp,Gr0 Fb Hb F'' (upd H' a (.dK kvs))∧Fz S F''∧Le F' F''∧F'' a=F a∧(upd H' a (.dK kvs)) a=some (.dK kvs)∧(∀ b,b≠a→F'' b=F' b)∧∀ b,b≠a→(upd H' a (.dK kvs)) b=H' b:=
  thw (R:=fun U=>∃ F'':Hp,Gr0 Fb Hb F'' U∧Fz S F''∧Le F' F''∧F'' a=F a∧U a=some (.dK kvs)∧(∀ b,b≠a→F'' b=F' b)∧∀ b,b≠a→U b=H' b) gb hH hF gz sF cm fun F2 H2 h1 h2 h3 h4 h5 h6 h7=>⟨F2,h1,h2,h3,h4,h5,h6,h7⟩
end Vc
namespace L2
open PySem PySem.Spec PyProof.Rows
section
variable {X:Cx}
def rCatS (K:PySem.W.Frag):R2:=fun x y H Q=>∃ l b xs zs,x=.ref l∧y=.ref b∧SqL K H l xs∧SqL K H b zs∧xs.length+zs.length≤sizeLine∧∀ p,H p=none→Q (.ref p) (upd H p (.lst (xs++zs)))
theorem d'B:OpR X (binaryOp .Add) (rCatS X.K):=by
  intro pins s σ H x y v u Q I rx ry h
  obtain⟨l,b,xs,zs,rfl,rfl,hH,hB,hz,q⟩:=h
  cases rx
  cases ry
  obtain⟨its,r,p1,z1⟩:=I.list hH
  obtain⟨its2,r2,p2,z2⟩:=I.list hB
  have n1:=r.length
  have n2:=r2.length
  obtain⟨⟨c1,d1,t1,sl1⟩,ho,hc,n,hd⟩:=p1.isList
  obtain⟨⟨c2,d2,t2,sl2⟩,ho2,hc2,m,hd2⟩:=p2.isList
  simp only at hc hd hc2 hd2
  subst hc hd hc2 hd2
  refine concat_meets ⟨_,ho,rfl⟩ ⟨_,ho2,rfl⟩ noFill_list_add seq_list_add PySem.F.slot_list_add PySem.F.entry_list_add (PySem.F.args_list_add_2 _ _) (list_addW l b its.toArray its2.toArray n m d1 d2 sl1 sl2 (by simp;omega)) ⟨ho,ho2,?_⟩
  rw [show its.toArray++its2.toArray=(its++its2).toArray by simp]
  exact⟨.ref _,_,I.lnew (t':=s.toks) (r.append r2) (by rw [List.length_append];omega),rfl,q _ I.fresh⟩
end
end L2
namespace L2
open PySem
abbrev V.u:Int ⊕ Str→V
  | .inl n => .int n
  | .inr x => .str x
end L2
namespace Vc
open PySem L2
abbrev rU:Rep (Int ⊕ Str):=fun _ v u=>v=V.u u
instance:Mo rU:=⟨fun _ h=>h⟩
theorem o'w {Fb Hb F0 F' H':Hp} {S:Addr→Prop} {p:Addr} (gb:Gr0 Fb Hb F' H') (cm:Fz S F') (le:Le F0 F') (h0:F0 p=none) (hb:Fb p=none) :
    ∃ F'':Hp,Gr0 Fb Hb F'' H'∧Fz S F''∧Le F0 F''∧F'' p=none∧∀ a,F' a=none→F'' a=none:=by
  have ne:∀ {a u},(if a=p then none else F' a)=some u→a≠p∧F' a=some u:=fun {a u} e=>by
    by_cases h:a=p
    · rw [if_pos h] at e;cases e
    · rw [if_neg h] at e;exact⟨h,e⟩
  refine⟨fun a=>if a=p then none else F' a,⟨gb.h,fun a u e=>?_,fun a u e=>gb.s a u (ne e).2,fun a u e z=>gb.n a u (ne e).2 z⟩,fun a o u e=>cm a o u (ne e).2,?_,if_pos rfl,fun a e=>?_⟩
  · show (if a=p then none else F' a)=some u
    rw [if_neg (fun z=>by rw [z,hb] at e;cases e)];exact gb.f a u e
  · intro a u n e
    have na:a≠p:=fun z=>by
      rw [z] at e
      rcases e with e | ⟨o,e⟩
      · rw [h0] at e;cases e
      · rw [h0] at e;cases e
    rcases le a u n e with e | ⟨o,e⟩
    · exact .inl ((if_neg na).trans e)
    · exact .inr ⟨o,(if_neg na).trans e⟩
  · by_cases h:a=p
    · exact if_pos h
    · exact (if_neg h).trans e
section
variable {X:Cx}
def rNeE (K:PySem.W.Frag):R2:=fun x y H Q=>∃ p q xs,x=.ref p∧y=.ref q∧SqL K H p xs∧SqL K H q []∧Q (.bl (!decide (xs.length=0))) H
theorem k'G (hu:X.A.units+64<cLine):OpR X (compareOp .NotEq) (rNeE X.K):=by
  intro pins s σ H x y v u Q I rx ry h
  obtain⟨p,q,xs,rfl,rfl,h1,h2,hq⟩:=h
  cases rx
  cases ry
  by_cases hl:xs.length=0
  · have z:=m'D (Au:=X.A) I h1 h2 (by omega) hl (fun _=>true) (fun j x y u v e _ _ _=>by rw [List.getElem?_eq_none (by omega)] at e;cases e)
    rw [hl] at z
    rw [decide_eq_true hl] at hq
    exact z X.prog X.w X.xe _ ⟨.bl _,H,I,rfl,hq⟩
  · rw [decide_eq_false hl] at hq
    obtain⟨us,r1,t1,_⟩:=I.list h1
    obtain⟨zs,r2,t2,_⟩:=I.list h2
    have m1:=r1.length
    have m2:0=zs.length:=r2.length
    exact SeqAt.RcNeAt.lists_lengths (A:=X.A) t1.isList t2.isList (by simp;omega) (by omega) X.prog X.w X.xe _ ⟨.bl true,H,I,rfl,hq⟩
end
theorem g'm {Fb Hb F H:Hp} {p:Addr} {o:HO} (gb:Gr0 Fb Hb F H) (hb:Hb p=none) (hf:F p=none):Gr0 Fb Hb F (upd H p o)∧(upd H p o) p=some o∧∀ a,a≠p→(upd H p o) a=H a:=
  chg (R:=fun U=>Gr0 Fb Hb F U∧U p=some o∧∀ a,a≠p→U a=H a) gb hb hf fun _ a b c=>⟨a,b,c⟩
end Vc
namespace Vc
open PySem L2
end Vc
namespace L2
end L2
namespace Vc
open PySem L2 Sf
instance {K:PySem.W.Frag}:Et K rU 0:=⟨fun {F H v w x} _ h g=>by
  have h:v=V.u x:=h
  have g:w=V.u x:=g
  subst h;subst g
  cases x<;>exact⟨rfl,rfl⟩⟩
end Vc
namespace L2
open PySem
def Ris (xs:Array Nat):Prop:=∀ i j (hj:j<xs.size) (hi:i<j),xs[i]'(Nat.lt_trans hi hj)<xs[j]
theorem l'u (xs:Array Nat) (j:Nat) (hR:Ris xs):∀ (fuel lo hi:Nat),hi - lo≤fuel→lo≤hi→hi≤xs.size→(∀ i (h:i<xs.size),i<lo→xs[i]<j)→(∀ i (h:i<xs.size),hi≤i→j≤xs[i])→
    SetTable.below.go xs j fuel lo hi≤xs.size∧(∀ i (h:i<xs.size),i<SetTable.below.go xs j fuel lo hi→xs[i]<j)∧(∀ i (h:i<xs.size),SetTable.below.go xs j fuel lo hi≤i→j≤xs[i]):=by
  intro fuel
  induction fuel with
  | zero => intro lo hi h1 h2 h3 h4 h5; unfold SetTable.below.go; exact ⟨by omega, h4, fun i h e => h5 i h (by omega)⟩
  | succ f ih =>
    intro lo hi h1 h2 h3 h4 h5
    unfold SetTable.below.go
    by_cases hl:lo<hi
    · rw [if_pos hl]
      dsimp only
      have hm:(lo+hi) / 2<xs.size:=by omega
      have eg:xs.getD ((lo+hi) / 2) j=xs[(lo+hi) / 2]:=by rw [Array.getD_eq_getD_getElem?,Array.getElem?_eq_getElem hm];rfl
      rw [eg]
      by_cases hx:xs[(lo+hi) / 2]<j
      · rw [if_pos hx]
        refine ih _ _ (by omega) (by omega) h3 (fun i h e=>?_) h5
        by_cases z:i=(lo+hi) / 2
        · subst z;exact hx
        · exact Nat.lt_trans (hR i _ hm (by omega)) hx
      · rw [if_neg hx]
        refine ih _ _ (by omega) (by omega) (by omega) h4 fun i h e=>?_
        by_cases z:i=(lo+hi) / 2
        · subst z;omega
        · have:=hR ((lo+hi) / 2) i h (by omega);omega
    · rw [if_neg hl];exact⟨by omega,h4,fun i h e=>h5 i h (by omega)⟩
theorem d'T {xs:Array Nat} (hR:Ris xs) (j:Nat):SetTable.below xs j≤xs.size∧(∀ i (h:i<xs.size),i<SetTable.below xs j→xs[i]<j)∧(∀ i (h:i<xs.size),SetTable.below xs j≤i→j≤xs[i]):=
  l'u xs j hR _ _ _ (by omega) (by omega) (Nat.le_refl _) (fun i h e=>by omega) (fun i h e=>by omega)
theorem l'v {xs:Array Nat} (hR:Ris xs) {i:Nat} (h:i<xs.size):SetTable.below xs (xs[i]+1)=i+1:=by
  obtain⟨a,b,c⟩:=d'T hR (xs[i]+1)
  have h1:¬ SetTable.below xs (xs[i]+1)≤i:=fun z=>by have:=c i h z;omega
  by_cases z:i+1<SetTable.below xs (xs[i]+1)
  · have h2:i+1<xs.size:=by omega
    have:=b (i+1) h2 z
    have:=hR i (i+1) h2 (by omega)
    omega
  · omega
theorem j'C {xs:Array Nat} (hR:Ris xs):SetTable.below xs 0=0:=by
  obtain⟨a,b,c⟩:=d'T hR 0
  by_cases z:0<SetTable.below xs 0
  · have:=b 0 (by omega) z;omega
  · omega
theorem j'D {xs:Array Nat} (hR:Ris xs) {j:Nat} (hn:xs[SetTable.below xs j]?≠some j):Ris (SetTable.insertAt xs (SetTable.below xs j) j):=by
  obtain⟨a,b,c⟩:=d'T hR j
  generalize SetTable.below xs j=p at *
  have hs:(SetTable.insertAt xs p j).size=xs.size+1:=by unfold SetTable.insertAt;simp;omega
  have at':∀ i,(SetTable.insertAt xs p j)[i]?=if i<p then xs[i]? else if i=p then some j else xs[i - 1]?:=by
    intro i
    unfold SetTable.insertAt
    have hx:((xs.extract 0 p).push j).size=p+1:=by simp;omega
    rw [Array.getElem?_append]
    rw [hx]
    by_cases h1:i<p
    · rw [if_pos (by omega),if_pos h1,Array.getElem?_push_lt (by simp;omega)]
      simp [Array.getElem_extract]
    · rw [if_neg h1]
      by_cases h2:i=p
      · rw [if_pos (by omega),if_pos h2]
        have:(xs.extract 0 p).size=i:=by simp;omega
        rw [← this,Array.getElem?_push_size]
      · rw [if_neg (by omega),if_neg h2]
        rw [Array.getElem?_extract]
        have e:p+(i - (p+1))=i - 1:=by omega
        rw [e]
        by_cases h3:i - (p+1)<min xs.size xs.size - p
        · rw [if_pos h3]
        · rw [if_neg h3,Array.getElem?_eq_none (by omega)]
  have strict:∀ i (h:i<xs.size),p≤i→j<xs[i]:=by
    intro i h hp
    have h0:p<xs.size:=by omega
    have h1:=c p h0 (Nat.le_refl _)
    have h2:xs[p]≠j:=fun z=>hn (by rw [Array.getElem?_eq_getElem h0,z])
    by_cases z:i=p
    · subst z;omega
    · have:=hR p i h (by omega);omega
  intro i k hk hi
  have gi:=at' i
  have gk:=at' k
  rw [Array.getElem?_eq_getElem (by omega)] at gi
  rw [Array.getElem?_eq_getElem hk] at gk
  rw [hs] at hk
  by_cases k1:k<p
  · rw [if_pos k1,Array.getElem?_eq_getElem (by omega)] at gk
    rw [if_pos (by omega),Array.getElem?_eq_getElem (by omega)] at gi
    rw [Option.some.inj gi,Option.some.inj gk];exact hR i k (by omega) hi
  · rw [if_neg k1] at gk
    by_cases k2:k=p
    · rw [if_pos k2] at gk
      rw [if_pos (by omega),Array.getElem?_eq_getElem (by omega)] at gi
      rw [Option.some.inj gi,Option.some.inj gk];exact b i (by omega) (by omega)
    · rw [if_neg k2,Array.getElem?_eq_getElem (by omega)] at gk
      rw [Option.some.inj gk]
      by_cases i1:i<p
      · rw [if_pos i1,Array.getElem?_eq_getElem (by omega)] at gi
        rw [Option.some.inj gi];exact hR i (k - 1) (by omega) (by omega)
      · rw [if_neg i1] at gi
        by_cases i2:i=p
        · rw [if_pos i2] at gi
          rw [Option.some.inj gi];exact strict (k - 1) (by omega) (by omega)
        · rw [if_neg i2,Array.getElem?_eq_getElem (by omega)] at gi
          rw [Option.some.inj gi];exact hR (i - 1) (k - 1) (by omega) (by omega)
theorem l'w {l:List Nat} (h:l.Pairwise (·<·)):Ris l.toArray:=by
  intro i j hj hi
  have:=List.pairwise_iff_getElem.mp h i j (by simpa using Nat.lt_trans hi hj) (by simpa using hj) hi
  simpa using this
theorem d'h (n:Nat):Ris (Array.range n):=by
  intro i j hj hi
  simp only [Array.getElem_range];exact hi
theorem k'H:Ris #[]:=fun i j hj hi=>absurd hj (by simp)
theorem j'E {t:SetTable} {hf:Nat→Int} {h:Int}:∀ (fuel:Nat) (p:SetTable.Probe),(∀ d,p.dummy=some d→t.place[SetTable.below t.place d]?≠some d)→
    ∀ j d,SetTable.probe.go t hf h fuel p=some (.empty j d)→t.place[SetTable.below t.place (d.getD j)]?≠some (d.getD j):=by
  intro fuel
  induction fuel with
  | zero => intro p _ j d e; unfold SetTable.probe.go at e; cases e
  | succ f ih =>
    intro p hp j d e
    unfold SetTable.probe.go at e
    have nl:(t.slot p.j=.empty∨t.slot p.j=.dummy)→t.place[SetTable.below t.place p.j]?≠some p.j:=by
      intro z q
      unfold SetTable.slot at z
      dsimp only at z
      rw [if_pos (by rw [q];exact beq_self_eq_true _)] at z
      rcases z with z | z<;>cases z
    have adv:∀ q:SetTable.Probe,(t.advance q).dummy=q.dummy:=fun q=>by unfold SetTable.advance;split<;>rfl
    split at e
    · rename_i hs
      cases e
      cases q:p.dummy with
      | none=>exact nl (.inl hs)
      | some d=>exact hp d q
    · rename_i hs
      refine ih _ (fun d q=>?_) j d e
      rw [adv] at q
      cases q
      exact nl (.inr hs)
    · rename_i i hs
      split at e
      · cases e
      · refine ih _ (fun d q=>hp d (by rw [adv] at q;exact q)) j d e
theorem k'I {t:SetTable} {h:Int} {s:Nat} {b:Bool} (e:t.freeSlot h=some (s,b)):t.place[SetTable.below t.place s]?≠some s:=by
  unfold SetTable.freeSlot at e
  split at e
  · rename_i j d q
    cases e
    exact j'E _ _ (fun d z=>by cases z) j d q
  · cases e
theorem h'c {t:SetTable} (hR:Ris t.place) (n:Nat):Ris (t.orStandIn n).place∧(t.orStandIn n).led=t.led:=by
  unfold SetTable.orStandIn
  split
  · exact⟨hR,rfl⟩
  · exact⟨d'h _,rfl⟩
theorem j'F {t:SetTable} (hR:Ris t.place) (es:Array (Int×Value)) (h:Int) (x:Value):Ris (layNew t es h x).2.1.place∧(layNew t es h x).2.1.led=t.led:=by
  unfold layNew
  split
  · rename_i s b e
    exact h'c (t:=(t.put s).1) (j'D hR (k'I e)) _
  · exact⟨d'h _,rfl⟩
theorem h'Y {t:SetTable} (hR:Ris t.place) (es:Array (Int×Value)) (n:Nat):Ris (relayAll t es n).2.1.place∧(relayAll t es n).2.1.led=t.led:=by
  unfold relayAll
  split
  · rename_i t' o e
    dsimp only
    split
    · unfold SetTable.relaid SetTable.laid at e
      cases q:SetTable.layClean (SetTable.sizeAbove n - 1) (es.map (·.1)) with
      | none=>rw [q] at e;cases e
      | some ow=>
        rw [q] at e
        cases e
        refine⟨l'w ?_,rfl⟩
        rw [List.pairwise_map]
        refine List.Pairwise.filterMap (R:=(·<·)) _ (fun a a' hlt b hb b' hb'=>?_) List.pairwise_lt_range
        cases z1:ow.getD a none with
        | none=>rw [z1] at hb;cases hb
        | some y1=>
          rw [z1] at hb;cases hb
          cases z2:ow.getD a' none with
          | none=>rw [z2] at hb';cases hb'
          | some y2=>rw [z2] at hb';cases hb';exact hlt
    · exact⟨d'h _,rfl⟩
  · exact⟨d'h _,rfl⟩
theorem d'U {α:Type}:∀ (l:List α) (i:Nat) (h:i<l.length),(l[i] :: l.eraseIdx i).Perm l
  | [], _, h => absurd h (by simp)
  | _ :: _, 0, _ => .refl _
  | x :: r, i + 1, h => (List.Perm.swap x _ _).trans (List.Perm.cons x (d'U r i (by simpa using h)))
theorem m'J {α:Type} (nx:Nat→Nat):∀ (fuel k:Nat) (left:List α) (out:Array α),left.length≤fuel→(pickOrder.go nx fuel k left out).toList.Perm (out.toList++left):=by
  intro fuel
  induction fuel with
  | zero => intro k left out h; unfold pickOrder.go; cases left with
    | nil=>simp
    | cons _ _=>simp at h
  | succ f ih =>
    intro k left out h
    unfold pickOrder.go
    cases left with
    | nil=>simp
    | cons y r=>
      have hm:nx k % (y :: r).length<(y :: r).length:=Nat.mod_lt _ (by simp)
      rw [List.getElem?_eq_getElem hm]
      dsimp only
      refine (ih _ _ _ (by rw [List.length_eraseIdx_of_lt hm];simp at h ⊢;omega)).trans ?_
      rw [Array.toList_push,List.append_assoc]
      refine List.Perm.append_left _ ?_
      exact d'U _ _ hm
theorem k'J {α:Type} (nx:Nat→Nat) (xs:Array α):(pickOrder nx xs).toList.Perm xs.toList:=by
  unfold pickOrder
  simpa using m'J nx xs.size 0 xs.toList #[] (by simp)
end L2
namespace L2
open PySem
section
variable {prog:Program} {w:World} {K:Type} [DecidableEq K]
noncomputable def kfo (knd:KeyKind prog w K) (v:Value):Option K:=by
  classical exact if h:∃ k,knd.is k v=true then some h.choose else none
variable {knd:KeyKind prog w K}
theorem d'C {k:K} {v:Value} (h:knd.is k v=true):kfo knd v=some k:=by
  unfold kfo
  have ex:∃ k,knd.is k v=true:=⟨k,h⟩
  rw [dif_pos ex]
  exact congrArg some (knd.inj v _ _ ex.choose_spec h)
def led0 (w:World):Bool:=!(w.params.followText "set-order")
def GS (knd:KeyKind prog w K) (o:Obj) (ks:List K):Prop:=
  o.ExactSet∧∃ es ep t,o.data=.set es ep t∧ElemsOf knd es.toList∧t.fits es.size=true∧Ris t.place∧t.led=led0 w∧(es.toList.filterMap fun e=>kfo knd e.2).Perm ks
theorem g'S:∀ {es:List (Int×Value)},ElemsOf knd es→(es.filterMap fun e=>kfo knd e.2).length=es.length
  | [], _ => rfl
  | e :: r, h => by
    obtain⟨⟨k,hk,_⟩,_⟩:=h.head
    rw [List.filterMap_cons,d'C hk]
    simp [g'S h.tail]
theorem g'n {o:Obj} {es:Array (Int×Value)} {ks:List K} (h:ElemsOf knd es.toList) (p:(es.toList.filterMap fun e=>kfo knd e.2).Perm ks):es.size=ks.length:=by
  rw [← p.length_eq,g'S h,Array.length_toList]
theorem l'x {es:List (Int×Value)} (h:ElemsOf knd es) (k:K):(k∈es.filterMap fun e=>kfo knd e.2)↔∃ e∈es,knd.is k e.2=true:=by
  rw [List.mem_filterMap]
  constructor
  · rintro⟨e,he,q⟩
    obtain⟨⟨k',hk,_⟩,_⟩:=h e he
    rw [d'C hk] at q
    cases q
    exact⟨e,he,hk⟩
  · rintro⟨e,he,q⟩
    exact⟨e,he,d'C q⟩
variable {A:Around} {E:Value→Shared→Prop} {s:Shared}
theorem k'K {h:Heap} {a:Addr} {o:Obj} {es es':Array (Int×Value)} {ep:Nat} {t t':SetTable} (ho:h.get? a=some o) (hd:o.data=.set es ep t) :
    (h.update a (Obj.putSet es' t')).get? a=some { o with data:=.set es' (ep+1) t' }:=by
  have:=Heap.get?_update_self (Obj.putSet es' t') ho (by rw [putSet_of es' t' hd];rfl)
  rw [putSet_of es' t' hd] at this;exact this
theorem i'X {g:Bool→Sem Unit} (hg:∀ (b:Bool) (s₁:Shared) (Q':Unit→Shared→Prop),Q' () s₁→wpAny (model prog w) A (g b) Q' E s₁)
    {a:Addr} {o:Obj} {es:Array (Int×Value)} {ep:Nat} {t:SetTable} (ho:s.heap.get? a=some o) (hex:o.ExactSet) (hd:o.data=.set es ep t)
    {es1:Array (Int×Value)} {t2:SetTable} {ks:List K} (hel:ElemsOf knd es1.toList) (hp:(es1.toList.filterMap fun e=>kfo knd e.2).Perm ks)
    (hb:es1.size<scanBound) (hf:t2.fits es1.size=true) (hR:Ris t2.place) (hL:t2.led=led0 w) {wd:Bool} {R:Option Bool→Shared→Prop}
    (h:∀ h' o',Heap.SameBut a s.heap h'→h'.get? a=some o'→GS knd o' ks→R (some true) { s with heap:=h' }) :
    wpAny (model prog w) A (do
        storeSet a es1 t2
        if (!wd && t2.tooFull)=true then do
            g (relayAll t2 es1 (SetTable.grown es1.size)).2.2
            storeSet a (relayAll t2 es1 (SetTable.grown es1.size)).1 (relayAll t2 es1 (SetTable.grown es1.size)).2.1
            pure (some true)
          else pure (some true)) R E s:=by
  refine wpAny_bind (wpAny_storeSet_of ho hd ?_ (fits_of_scanBound hb))
  have ho1:=k'K (es':=es1) (t':=t2) ho hd
  have hs1:=Heap.SameBut.update s.heap a (Obj.putSet es1 t2)
  split
  · have q1:=relayAll_perm t2 es1 (SetTable.grown es1.size)
    have q2:=relayAll_fits t2 es1 (SetTable.grown es1.size)
    have q3:=h'Y hR es1 (SetTable.grown es1.size)
    generalize relayAll t2 es1 (SetTable.grown es1.size)=Rl at q1 q2 q3 ⊢
    have hsz:Rl.1.size=es1.size:=by rw [← Array.length_toList,q1.length_eq,Array.length_toList]
    refine wpAny_bind (hg _ _ _ ?_)
    refine wpAny_bind (wpAny_storeSet_of ho1 rfl ?_ (fits_of_scanBound (by rw [hsz];exact hb)))
    have ho2:=k'K (es':=Rl.1) (t':=Rl.2.1) ho1 rfl
    exact wpAny_pure (h _ _ (hs1.trans (Heap.SameBut.update _ a _)) ho2 ⟨hex,_,_,_,rfl,hel.perm q1,q2,q3.1,q3.2.trans hL,(q1.filterMap _).trans hp⟩)
  · exact wpAny_pure (h _ _ hs1 ho1 ⟨hex,_,_,_,rfl,hel,hf,hR,hL,hp⟩)
def addk (ks:List K) (k:K):List K:=if k∈ks then ks else ks++[k]
theorem n'R {a:Addr} {o:Obj} {ks:List K} {k:K} {x:Value} {Q:Bool→Shared→Prop} (hkey:knd.is k x=true) (hsc:x.scannable=true) (ho:s.heap.get? a=some o) (hG:GS knd o ks)
    (hroom:ks.length+1<scanBound) (h:∀ (b:Bool) h' o',Heap.SameBut a s.heap h'→h'.get? a=some o'→GS knd o' (addk ks k)→Q b { s with heap:=h' }) :
    wpAny (model prog w) A (setAddHashed a x (knd.hash k)) Q E s:=by
  obtain⟨hex,es,ep,t,hd,hel,hf,hR,hL,hp⟩:=hG
  have hn:=g'n (o:=o) hel hp
  have hmem:=l'x hel k
  unfold setAddHashed setAddHashedIn
  refine wpAny_holding (wpAny_bind (wpAny_setState_of ho hd hf ?_))
  dsimp only
  rw [byScan_of hsc (by rw [hn];omega) hel]
  simp only [↓reduceIte]
  unfold setAddByScan
  refine wpAny_bind (wpAny_bind (wpAny_rule (wpAny_bind (wpAny_setScan_of hkey ho hd hf hel ?_))))
  cases hr:List.findIdx? (fun e=>knd.is k e.2) es.toList with
  | some j =>
    dsimp only
    obtain⟨hj,hpj,_⟩:=List.findIdx?_eq_some_iff_getElem.mp hr
    have hk:k∈ks:=hp.mem_iff.mp (hmem.mpr ⟨es.toList[j],List.getElem_mem hj,hpj⟩)
    refine wpAny_pure (wpAny_pure ?_)
    have:=h false s.heap o (Heap.SameBut.refl a s.heap) ho ⟨hex,es,ep,t,hd,hel,hf,hR,hL,by unfold addk;rw [if_pos hk];exact hp⟩
    have e:s={ s with heap:=s.heap }:=by cases s;rfl
    rw [e];exact this
  | none =>
    dsimp only
    have hk:¬ k∈ks:=fun z=>by
      obtain⟨e,he,q⟩:=hmem.mp (hp.mem_iff.mpr z)
      have:=List.findIdx?_eq_none_iff.mp hr e he
      rw [q] at this;cases this
    have hgw:∀ (b:Bool) {s₁:Shared} {Q':Unit→Shared→Prop},Q' () s₁→wpAny (model prog w) A (match b with | true=>rule "set.scan.the-table-gave-way" | false=>pure ()) Q' E s₁:=
      fun b s₁ Q' hq=>by cases b<;>first | exact wpAny_pure hq | exact wpAny_rule hq
    have q1:=layNew_perm t es (knd.hash k) x
    have q2:=layNew_fits t es (knd.hash k) x
    have q3:=j'F hR es (knd.hash k) x
    generalize layNew t es (knd.hash k) x=L at q1 q2 q3 ⊢
    obtain⟨es1,t1,wd,gave⟩:=L
    dsimp only at q1 q2 q3 ⊢
    rw [Array.toList_push] at q1
    have hel1:ElemsOf knd es1.toList:=(hel.push hkey hsc).perm q1
    have hp1:(es1.toList.filterMap fun e=>kfo knd e.2).Perm (addk ks k):=by
      refine (q1.filterMap _).trans ?_
      rw [List.filterMap_append]
      unfold addk
      rw [if_neg hk]
      refine List.Perm.append hp ?_
      rw [List.filterMap_cons,d'C (show knd.is k ((knd.hash k,x):Int×Value).2=true from hkey)]
      exact .refl _
    have hb1:es1.size<scanBound:=by rw [← Array.length_toList,q1.length_eq,List.length_append,Array.length_toList,hn];exact hroom
    refine wpAny_bind (hgw _ ?_)
    split
    · refine wpAny_bind ?_
      rw [hashByValue_scannable 8 hsc]
      refine wpAny_pure ?_
      refine i'X ?_ ho hex hd hel1 hp1 hb1 ?_ ?_ ?_ ?_
      · intro b s₁ Q' hq;cases b<;>first | exact wpAny_pure hq | exact wpAny_rule hq
      · split
        · exact q2
        · exact SetTable.fits_plain_off q2
      · split<;>exact q3.1
      · split<;>exact q3.2.trans hL
      · intro h' o' hsb ho' hG';dsimp only;exact wpAny_pure (h true h' o' hsb ho' hG')
    · refine wpAny_bind (wpAny_pure ?_)
      simp only [↓reduceIte]
      refine i'X ?_ ho hex hd hel1 hp1 hb1 q2 q3.1 (q3.2.trans hL) ?_
      · intro b s₁ Q' hq;cases b<;>first | exact wpAny_pure hq | exact wpAny_rule hq
      · intro h' o' hsb ho' hG';dsimp only;exact wpAny_pure (h true h' o' hsb ho' hG')
def once (ks:List K):List K:=ks.foldl addk []
theorem k'L (ks:List K) (k:K):once (ks++[k])=addk (once ks) k:=by unfold once;rw [List.foldl_append];rfl
theorem l'y (ks:List K) (k:K):(addk ks k).length≤ks.length+1:=by unfold addk;split<;>simp
theorem h'Z:∀ ks:List K,(ks.reverse.foldr (fun x a=>addk a x) []).length≤ks.length:=by
  intro ks
  rw [List.foldr_reverse]
  generalize hq:([]:List K)=a0
  have:∀ (l a:List K),(l.foldl addk a).length≤a.length+l.length:=by
    intro l
    induction l with
    | nil=>intro a;exact Nat.le_refl _
    | cons x r ih=>intro a;have:=ih (addk a x);have:=l'y a x;simp only [List.foldl_cons,List.length_cons];omega
  have:=this ks a0
  rw [← hq] at this ⊢
  simpa using this
theorem d'V (ks:List K):(once ks).length≤ks.length:=by
  have:=h'Z ks
  rw [List.foldr_reverse] at this
  exact this
end
end L2
namespace L2
open PySem
theorem slot_setiter_next:Slot "set_iterator" "__next__" "set_iterator.__next__":=
  .of (owner:="set_iterator") (n:="__next__") (by rw [typeLookup_type,builtinLookup_eq_fast];kernel_rfl) (by decide +kernel) (by decide +kernel) (by decide +kernel)
    (by first | exact .inl (by decide +kernel) | exact .inr (by decide +kernel)) (by rw [isSubtype_type];kernel_rfl)
theorem b'q:entryFor table "set_iterator.__next__"=some Builtin.«set_iterator.__next__»:=entryFor_of_fast (by kernel_rfl)
theorem b's (a:Value):argsOk "set_iterator.__next__" ⟨[a],[]⟩:=by unfold argsOk;kernel_rfl
theorem c'I:Slot "set_iterator" "__iter__" "set_iterator.__iter__":=
  .of (owner:="set_iterator") (n:="__iter__") (by rw [typeLookup_type,builtinLookup_eq_fast];kernel_rfl) (by decide +kernel) (by decide +kernel) (by decide +kernel)
    (by first | exact .inl (by decide +kernel) | exact .inr (by decide +kernel)) (by rw [isSubtype_type];kernel_rfl)
theorem e'q:entryFor table "set_iterator.__iter__"=some Builtin.«dict_keyiterator.__iter__»:=
  entryFor_alias (id':="dict_keyiterator.__iter__") (by kernel_rfl) rfl (by decide +kernel) (by kernel_rfl)
theorem e'S (a:Value):argsOk "set_iterator.__iter__" ⟨[a],[]⟩:=by unfold argsOk;kernel_rfl
theorem g'o:entryFor table "set.__iter__"=some Builtin.«frozenset.__iter__»:=
  entryFor_alias (id':="frozenset.__iter__") (by kernel_rfl) rfl (by decide +kernel) (by kernel_rfl)
def sit (first:Value) (i a n ep:Nat):Obj:={ cls:=.type "set_iterator",data:=.fields #[first,.int i 0,.ref a,.int n 0,.int ep 0] }
section
variable {prog:Program} {w:World} {A:Around} {E:Value→Shared→Prop} {s:Shared}
theorem i'a {first:Value} {I i a n ep:Nat} {Q:Value→Shared→Prop} (hI:s.heap.get? I=some (sit first i a n ep)) (h:Q (.ref I) s):wpAny (model prog w) A (pyIter (.ref I)) Q E s:=by
  have hT:s.TypeIs (.ref I) "set_iterator":=⟨_,hI,rfl⟩
  refine wpAny_pyIter_slot hT c'I (wpAny_call_entry c'I hT e'q ?_ (e'S _))
  show wpAny _ _ (ret (.ref I)) _ _ s
  exact wpAny_pure ⟨_,rfl,"set_iterator",_,hT,slot_setiter_next.lookup,h⟩
theorem l'z {I a o es ep t n} {sl sl' i:Nat} {x:Value} {Q:Option Value→Shared→Prop} (hI:s.heap.get? I=some (sit (.int sl 0) i a n ep)) (ho:s.heap.get? a=some o) (hd:o.data=.set es ep t) (hf:t.fits es.size=true) (hn:es.size=n)
    (hx:∀ (A':Around) (E':Value→Shared→Prop) (Q':Option (Value×Nat)→Shared→Prop),Q' (some (x,sl')) s→wpAny (model prog w) A' (setNext a sl i ep) Q' E' s)
    (hQ:∀ h',h'.get? I=some (sit (.int sl' 0) (i+1) a n ep)→Heap.SameBut I s.heap h'→Q (some x) { s with heap:=h' }):wpAny (model prog w) A (pyNext (.ref I)) Q E s:=by
  have hT:s.TypeIs (.ref I) "set_iterator":=⟨_,hI,rfl⟩
  unfold pyNext
  refine wpAny_bind (wpAny_attempt (wpAny_callSpecial?_slot (name:=Str.ofString "__next__") hT slot_setiter_next (wpAny_call_entry slot_setiter_next hT b'q ?_ (b's _))))
  show wpAny _ _ (fieldsOf (.ref I) >>= _) _ _ s
  refine wpAny_bind (wpAny_fieldsOf hI rfl ?_)
  show wpAny _ _ (setEntries a >>= _) _ _ s
  refine wpAny_bind (wpAny_setEntries_of ho hd hf ?_)
  rw [if_neg (by rw [hn];simp)]
  show wpAny _ _ (setNext a (Int.toNat sl) (Int.toNat i) (Int.toNat ep) >>= _) _ _ s
  simp only [Int.toNat_natCast]
  refine wpAny_bind (hx _ _ _ ?_)
  dsimp only
  refine wpAny_bind (wpAny_setField hI rfl (by simp) ?_)
  have h1:=Heap.get?_update_self (Obj.mapFields (·.setIfInBounds 0 (rawInt sl'))) hI rfl
  refine wpAny_bind (wpAny_setField h1 rfl (by simp [sit,Obj.mapFields]) (wpAny_pure ⟨x,rfl,wpAny_pure (hQ _ ?_ ((Heap.SameBut.update ..).trans (Heap.SameBut.update ..)))⟩))
  have h2:=Heap.get?_update_self (Obj.mapFields (·.setIfInBounds 1 (rawInt ((i:Int)+1)))) h1 rfl
  exact h2
theorem m'K {I a o es ep t n} {sl i:Nat} {Q:Option Value→Shared→Prop} (hh:A.handled=none) (hI:s.heap.get? I=some (sit (.int sl 0) i a n ep)) (ho:s.heap.get? a=some o) (hd:o.data=.set es ep t) (hf:t.fits es.size=true) (hn:es.size=n)
    (hx:∀ (A':Around) (E':Value→Shared→Prop) (Q':Option (Value×Nat)→Shared→Prop),Q' none s→wpAny (model prog w) A' (setNext a sl i ep) Q' E' s)
    (hQ:∀ h',Heap.ExtBut I s.heap h'→Q none { s with heap:=h' }):wpAny (model prog w) A (pyNext (.ref I)) Q E s:=by
  have hT:s.TypeIs (.ref I) "set_iterator":=⟨_,hI,rfl⟩
  unfold pyNext
  refine wpAny_bind (wpAny_attempt (wpAny_callSpecial?_slot (name:=Str.ofString "__next__") hT slot_setiter_next (wpAny_call_entry slot_setiter_next hT b'q ?_ (b's _))))
  show wpAny _ _ (fieldsOf (.ref I) >>= _) _ _ s
  refine wpAny_bind (wpAny_fieldsOf hI rfl ?_)
  show wpAny _ _ (setEntries a >>= _) _ _ s
  refine wpAny_bind (wpAny_setEntries_of ho hd hf ?_)
  rw [if_neg (by rw [hn];simp)]
  show wpAny _ _ (setNext a (Int.toNat sl) (Int.toNat i) (Int.toNat ep) >>= _) _ _ s
  simp only [Int.toNat_natCast]
  refine wpAny_bind (hx _ _ _ ?_)
  dsimp only
  refine wpAny_bind (wpAny_setField hI rfl (by simp) ?_)
  show wpAny _ _ (newExc (.type "StopIteration") [] >>= _) _ _ _
  refine wpAny_bind ?_
  simp only [newExc,newTuple]
  refine wpAny_bind (wpAny_newObj_type ?_ (by size_fits))
  refine wpAny_bind (m:=firstArgMember _ _) (wpAny_of_eq (a:=Value.none) (by first | rfl | (simp only [firstArgMember];rfl)) ?_)
  refine wpAny_newObj_type ?_ (by size_fits)
  simp only [raiseNew]
  refine wpAny_bind (wpAny_handled ?_)
  rw [show A.in1.handled=none from hh]
  refine wpAny_bind (wpAny_pure (wpAny_throw ?_))
  refine wpAny_bind (wpAny_isInstance (T:="StopIteration") (b:=true) ⟨_,Heap.get?_push_size _ rfl,rfl⟩ isSubtype_stop ?_)
  exact wpAny_pure (hQ _ (((Heap.SameBut.update ..).extBut.push _).push _))
theorem k'M {I a o es ep t n tp pl pn} {i j:Nat} {x:Value} {Q:Option Value→Shared→Prop} {po:Obj} (hI:s.heap.get? I=some (sit (.ref tp) i a n ep)) (ho:s.heap.get? a=some o) (hd:o.data=.set es ep t) (hf:t.fits es.size=true) (hn:es.size=n)
    (hp:s.heap.get? tp=some po) (hpd:po.data=.seq pl pn) (hj:pl[i]?=some (.int j 0)) (hx:∃ h,es[j]?=some (h,x))
    (hQ:∀ h',h'.get? I=some (sit (.ref tp) (i+1) a n ep)→Heap.SameBut I s.heap h'→Q (some x) { s with heap:=h' }):wpAny (model prog w) A (pyNext (.ref I)) Q E s:=by
  have hT:s.TypeIs (.ref I) "set_iterator":=⟨_,hI,rfl⟩
  obtain⟨hv,hx⟩:=hx
  unfold pyNext
  refine wpAny_bind (wpAny_attempt (wpAny_callSpecial?_slot (name:=Str.ofString "__next__") hT slot_setiter_next (wpAny_call_entry slot_setiter_next hT b'q ?_ (b's _))))
  show wpAny _ _ (fieldsOf (.ref I) >>= _) _ _ s
  refine wpAny_bind (wpAny_fieldsOf hI rfl ?_)
  show wpAny _ _ (setEntries a >>= _) _ _ s
  refine wpAny_bind (wpAny_setEntries_of ho hd hf ?_)
  rw [if_neg (by rw [hn];simp)]
  show wpAny _ _ (seqItems? (.ref tp) >>= _) _ _ s
  refine wpAny_bind (wpAny_seqItems hp hpd ?_)
  dsimp only
  simp only [Int.toNat_natCast,hj]
  refine wpAny_bind ?_
  unfold setNextDrawn
  refine wpAny_bind (wpAny_setState_of ho hd hf ?_)
  simp only [Int.toNat_natCast,bne_self_eq_false,Bool.false_eq_true,if_false,hx]
  refine wpAny_pure ?_
  refine wpAny_bind (wpAny_setField hI rfl (by simp) (wpAny_pure ⟨x,rfl,wpAny_pure (hQ _ ?_ (Heap.SameBut.update ..))⟩))
  exact Heap.get?_update_self (Obj.mapFields (·.setIfInBounds 1 (rawInt ((i:Int)+1)))) hI rfl
theorem l'A {I a o es ep t n tp pl pn} {i:Nat} {Q:Option Value→Shared→Prop} {po:Obj} (hh:A.handled=none) (hI:s.heap.get? I=some (sit (.ref tp) i a n ep)) (ho:s.heap.get? a=some o) (hd:o.data=.set es ep t) (hf:t.fits es.size=true) (hn:es.size=n)
    (hp:s.heap.get? tp=some po) (hpd:po.data=.seq pl pn) (hj:pl[i]?=none)
    (hQ:∀ h',Heap.ExtBut I s.heap h'→Q none { s with heap:=h' }):wpAny (model prog w) A (pyNext (.ref I)) Q E s:=by
  have hT:s.TypeIs (.ref I) "set_iterator":=⟨_,hI,rfl⟩
  unfold pyNext
  refine wpAny_bind (wpAny_attempt (wpAny_callSpecial?_slot (name:=Str.ofString "__next__") hT slot_setiter_next (wpAny_call_entry slot_setiter_next hT b'q ?_ (b's _))))
  show wpAny _ _ (fieldsOf (.ref I) >>= _) _ _ s
  refine wpAny_bind (wpAny_fieldsOf hI rfl ?_)
  show wpAny _ _ (setEntries a >>= _) _ _ s
  refine wpAny_bind (wpAny_setEntries_of ho hd hf ?_)
  rw [if_neg (by rw [hn];simp)]
  show wpAny _ _ (seqItems? (.ref tp) >>= _) _ _ s
  refine wpAny_bind (wpAny_seqItems hp hpd ?_)
  dsimp only
  simp only [Int.toNat_natCast,hj]
  refine wpAny_bind (wpAny_setField hI rfl (by simp) ?_)
  have h1:=Heap.get?_update_self (Obj.mapFields (·.setIfInBounds 0 (rawInt 0))) hI rfl
  refine wpAny_bind (wpAny_setField h1 rfl (by simp [sit,Obj.mapFields]) ?_)
  show wpAny _ _ (newExc (.type "StopIteration") [] >>= _) _ _ _
  refine wpAny_bind ?_
  simp only [newExc,newTuple]
  refine wpAny_bind (wpAny_newObj_type ?_ (by size_fits))
  refine wpAny_bind (m:=firstArgMember _ _) (wpAny_of_eq (a:=Value.none) (by first | rfl | (simp only [firstArgMember];rfl)) ?_)
  refine wpAny_newObj_type ?_ (by size_fits)
  simp only [raiseNew]
  refine wpAny_bind (wpAny_handled ?_)
  rw [show A.in1.handled=none from hh]
  refine wpAny_bind (wpAny_pure (wpAny_throw ?_))
  refine wpAny_bind (wpAny_isInstance (T:="StopIteration") (b:=true) ⟨_,Heap.get?_push_size _ rfl,rfl⟩ isSubtype_stop ?_)
  exact wpAny_pure (hQ _ ((((Heap.SameBut.update ..).trans (Heap.SameBut.update ..)).extBut.push _).push _))
end
end L2
namespace L2
open PySem
section
variable {prog:Program} {w:World} {A:Around} {E:Value→Shared→Prop} {s:Shared}
variable {a ep:Nat} {o:Obj} {es:Array (Int×Value)} {t:SetTable}
theorem d'i {Q:Bool→Shared→Prop} (h:Q (w.params.followText "set-order") s):wpAny (model prog w) A setsByText Q E s:=by
  unfold setsByText
  exact wpAny_bind (wpAny_askSetting (wpAny_pure h))
theorem g'T {sl i:Nat} {Q:Option (Value×Nat)→Shared→Prop} (ho:s.heap.get? a=some o) (hd:o.data=.set es ep t) (hf:t.fits es.size=true) (hB:w.params.followText "set-order"=true)
    (h:Q (((pickOrder (w.params.setOrder a ep) es)[i]?).map fun e=>(e.2,sl)) s):wpAny (model prog w) A (setNext a sl i ep) Q E s:=by
  unfold setNext
  refine wpAny_bind (wpAny_setState_of ho hd hf ?_)
  refine wpAny_bind (d'i ?_)
  rw [hB]
  simp only [bne_self_eq_false,Bool.false_eq_true,if_false,if_true]
  refine wpAny_bind ?_
  unfold setWalk
  refine wpAny_bind (wpAny_setState_of ho hd hf ?_)
  refine wpAny_bind (d'i ?_)
  rw [hB]
  simp only [if_true]
  refine wpAny_bind (wpAny_askSetting (wpAny_pure ?_))
  exact wpAny_pure h
theorem i'b {sl i:Nat} {Q:Option (Value×Nat)→Shared→Prop} (ho:s.heap.get? a=some o) (hd:o.data=.set es ep t) (hf:t.fits es.size=true) (hB:w.params.followText "set-order"=false) (hL:t.led=true) (hD:(!t.plain && decide (es.size > 1))=false)
    (h:Q (match es[SetTable.below t.place sl]?,t.place[SetTable.below t.place sl]? with | some (_,x),some j=>some (x,j+1) | _,_=>none) s):wpAny (model prog w) A (setNext a sl i ep) Q E s:=by
  unfold setNext
  refine wpAny_bind (wpAny_setState_of ho hd hf ?_)
  refine wpAny_bind (d'i ?_)
  rw [hB]
  simp only [Bool.false_eq_true,if_false]
  show wpAny _ _ (if (!t.plain && decide (es.size > 1))=true then _ else _) _ _ _
  rw [hD]
  simp only [Bool.false_eq_true,if_false]
  refine wpAny_bind ?_
  show wpAny _ _ (if (!t.led && !es.isEmpty)=true then _ else _) _ _ _
  rw [hL]
  simp only [Bool.not_true,Bool.false_and,Bool.false_eq_true,if_false]
  exact wpAny_pure (wpAny_pure h)
theorem f'S (hh:A.handled=none) (I:Addr) (hne:a≠I) (hd:o.data=.set es ep t) (hf:t.fits es.size=true) (vals:Array Value) (hvs:vals.size=es.size) (sl:Nat→Nat)
    (hi:∀ (s:Shared) (A':Around) (E':Value→Shared→Prop) (Q':Option (Value×Nat)→Shared→Prop) (i:Nat) (x:Value),vals[i]?=some x→s.heap.get? a=some o→Q' (some (x,sl (i+1))) s→wpAny (model prog w) A' (setNext a (sl i) i ep) Q' E' s)
    (he:∀ (s:Shared) (A':Around) (E':Value→Shared→Prop) (Q':Option (Value×Nat)→Shared→Prop),s.heap.get? a=some o→Q' none s→wpAny (model prog w) A' (setNext a (sl es.size) es.size ep) Q' E' s) :
    Walks prog w A I [I,a] [I] es.size (fun i v=>vals[i]?=some v) (fun i h=>h.get? I=some (sit (.int (sl i) 0) i a es.size ep)∧h.get? a=some o) where
  sub:=fun b hb=>by simp at hb;simp [hb]
  frame:=fun _ _ _ st hk=>⟨hk I (by simp) _ st.1,hk a (by simp) _ st.2⟩
  item:=fun i s Q E hlt st hQ=>by
    have hx:vals[i]?=some vals[i]:=Array.getElem?_eq_getElem (by omega)
    refine l'z (n:=es.size) st.1 st.2 hd hf rfl (fun A' E' Q' q=>hi s A' E' Q' i _ hx st.2 q) fun h' hI' hs'=>?_
    exact hQ _ h' s.toks hx ⟨hI',hs'.extBut a _ hne st.2⟩ fun b o hb e=>hs'.extBut b o (fun h=>hb (by simp [h])) e
  done:=fun s Q E st hQ=>m'K hh st.1 st.2 hd hf rfl (fun A' E' Q' q=>he s A' E' Q' st.2 q) fun h' he'=>hQ h' s.toks fun b o hb e=>he' b o (fun h=>hb (by simp [h])) e
  self:=fun _ _ _ _ st hQ=>i'a st.1 hQ
theorem j'G (hh:A.handled=none) (I tp:Addr) (hne:a≠I) (hnt:tp≠I) (hd:o.data=.set es ep t) (hf:t.fits es.size=true) (vals:Array Value) (hvs:vals.size=es.size) (js:List Nat) (hj:js.length=es.size) (hv:∀ (i j:Nat),js[i]?=some j→∃ h x,vals[i]?=some x∧es[j]?=some (h,x)) {po:Obj} {pn:Nat} (hpd:po.data=.seq (js.map fun j:Nat=>rawInt j).toArray pn) :
    Walks prog w A I [I,a,tp] [I] es.size (fun i v=>vals[i]?=some v) (fun i h=>h.get? I=some (sit (.ref tp) i a es.size ep)∧h.get? a=some o∧h.get? tp=some po) where
  sub:=fun b hb=>by simp at hb;simp [hb]
  frame:=fun _ _ _ st hk=>⟨hk I (by simp) _ st.1,hk a (by simp) _ st.2.1,hk tp (by simp) _ st.2.2⟩
  item:=fun i s Q E hlt st hQ=>by
    have e1:js[i]?=some js[i]:=List.getElem?_eq_getElem (by omega)
    obtain⟨h,x,hx,hex⟩:=hv i _ e1
    refine k'M (n:=es.size) (j:=js[i]) st.1 st.2.1 hd hf rfl st.2.2 hpd (by rw [List.getElem?_toArray,List.getElem?_map,e1];rfl) ⟨h,hex⟩ fun h' hI' hs'=>?_
    exact hQ _ h' s.toks hx ⟨hI',hs'.extBut a _ hne st.2.1,hs'.extBut tp _ hnt st.2.2⟩ fun b o hb e=>hs'.extBut b o (fun h=>hb (by simp [h])) e
  done:=fun s Q E st hQ=>l'A hh st.1 st.2.1 hd hf rfl st.2.2 hpd (by rw [List.getElem?_toArray,List.getElem?_map,List.getElem?_eq_none (by omega)];rfl) fun h' he'=>hQ h' s.toks fun b o hb e=>he' b o (fun h=>hb (by simp [h])) e
  self:=fun _ _ _ _ st hQ=>i'a st.1 hQ
theorem k'N {α:Type}:∀ (n:Nat) (xs:List α) (s:Shared) (Q:List α→Shared→Prop),xs.length=n→(∀ d' ys,ys.Perm xs→Q ys { s with drawn:=d' })→wpAny (model prog w) A (drawOrder n xs) Q E s:=by
  intro n
  induction n with
  | zero => intro xs s Q hl h; unfold drawOrder; cases xs with
    | nil=>exact wpAny_pure (h s.drawn [] (.refl _))
    | cons _ _=>simp at hl
  | succ n ih =>
    intro xs s Q hl h
    cases xs with
    | nil=>simp at hl
    | cons x r=>
      unfold drawOrder
      refine wpAny_bind ?_
      refine fun Γ p hΓ=>⟨by simp,?_⟩
      have hm:(model prog w).w.draws .order (s.drawn.get .order) % (x :: r).length<(x :: r).length:=Nat.mod_lt _ (by simp)
      show wpAny (model prog w) A _ Q E { s with drawn:=s.drawn.bump .order }
      rw [List.getElem?_eq_getElem hm]
      dsimp only
      refine wpAny_bind (ih _ _ _ (by rw [List.length_eraseIdx_of_lt hm];simp at hl ⊢;omega) fun d' ys hp=>?_)
      exact wpAny_pure (h d' _ ((hp.cons _).trans (d'U _ _ hm)))
theorem m'L {K:Type} [DecidableEq K] {knd:KeyKind prog w K} {ks:List K} (hh:A.handled=none) (ho:s.heap.get? a=some o) (hG:GS knd o ks) (hsz:ks.length≤sizeLine) {Q:Value→Shared→Prop}
    (h:∀ (h1:Heap) (d1:Drawn) (I:Addr) (vals:Array Value) (fp:List Addr) (St:Nat→Heap→Prop),(∀ b o,s.heap.get? b=some o→h1.get? b=some o)→(∀ b∈fp,b=a∨s.heap.objs.size≤b∧b<h1.objs.size)→s.heap.objs.size≤I→
      (∀ v∈vals.toList,∃ k,knd.is k v=true)→(vals.toList.filterMap (kfo knd)).Perm ks→Walks prog w A I fp [I] vals.size (fun i v=>vals[i]?=some v) St→St 0 h1→Q (.ref I) { s with heap:=h1,drawn:=d1 }) :
    wpAny (model prog w) A (pyIter (.ref a)) Q E s:=by
  obtain⟨hex,es,ep,t,hd,hel,hf,hR,hL,hp⟩:=hG
  have hT:s.TypeIs (.ref a) "set":=⟨o,ho,hex.1⟩
  have ha:a<s.heap.objs.size:=Heap.lt_size ho
  have keyz:∀ vals:Array Value,vals.toList.Perm (es.toList.map (·.2))→(∀ v∈vals.toList,∃ k,knd.is k v=true)∧(vals.toList.filterMap (kfo knd)).Perm ks:=by
    intro vals q
    refine⟨fun v hv=>?_,(q.filterMap _).trans ?_⟩
    · obtain⟨e,he,rfl⟩:=List.mem_map.mp (q.mem_iff.mp hv)
      obtain⟨⟨k,hk,_⟩,_⟩:=hel e he
      exact⟨k,hk⟩
    · rw [List.filterMap_map];exact hp
  have hfz:t.place.size=es.size:=by unfold SetTable.fits at hf;simp only [Bool.and_eq_true,beq_iff_eq] at hf;exact hf.1
  refine wpAny_pyIter_slot hT F.slot_set_iter (wpAny_call_entry F.slot_set_iter hT g'o ?_ (F.args_set_iter_1 _))
  show wpAny _ _ (Builtin.Frozenset.sizeOf a >>= _) _ _ s
  refine wpAny_bind ?_
  unfold Builtin.Frozenset.sizeOf
  refine wpAny_bind (wpAny_setEntries_of ho hd hf (wpAny_pure ?_))
  refine wpAny_bind ?_
  unfold setDrawn
  refine wpAny_bind (wpAny_setState_of ho hd hf ?_)
  refine wpAny_bind (d'i ?_)
  show wpAny _ _ (pure (!(w.params.followText "set-order") && (!t.plain && decide (es.size > 1)))) _ _ _
  refine wpAny_pure ?_
  cases hB:w.params.followText "set-order" with
  | true =>
    simp only [Bool.not_true,Bool.false_and,Bool.false_eq_true,if_false]
    refine wpAny_bind (wpAny_pure ?_)
    refine wpAny_bind (wpAny_setEpoch_of ho hd hf ?_)
    refine wpAny_bind (wpAny_newObj_type (wpAny_pure ⟨_,rfl,"set_iterator",_,⟨_,Heap.get?_push_size _ rfl,rfl⟩,slot_setiter_next.lookup,?_⟩))
    have hq:((pickOrder (w.params.setOrder a ep) es).map (·.2)).toList.Perm (es.toList.map (·.2)):=by rw [Array.toList_map];exact (k'J _ es).map _
    have hz:((pickOrder (w.params.setOrder a ep) es).map (·.2)).size=es.size:=by rw [← Array.length_toList,hq.length_eq,List.length_map,Array.length_toList]
    obtain⟨k1,k2⟩:=keyz _ hq
    have W:=f'S (prog:=prog) (w:=w) (A:=A) (a:=a) (o:=o) (ep:=ep) (t:=t) hh s.heap.objs.size (Nat.ne_of_lt ha) hd hf _ hz (fun _=>0) (fun s A' E' Q' i x hx ho' q=>g'T ho' hd hf hB (by rw [Array.getElem?_map] at hx;cases z:(pickOrder (w.params.setOrder a ep) es)[i]? with | none=>rw [z] at hx;cases hx | some y=>rw [z] at hx;cases hx;exact q)) (fun s A' E' Q' ho' q=>g'T ho' hd hf hB (by rw [Array.getElem?_eq_none (by rw [Array.size_map] at hz;omega)];exact q))
    rw [← hz] at W
    refine h _ s.drawn _ _ _ _ (fun b o e=>Heap.get?_push_of_some _ e) (fun b hb=>?_) (Nat.le_refl _) k1 k2 W ⟨by rw [hz];exact Heap.get?_push_size _ rfl,Heap.get?_push_of_some _ ho⟩
    rcases List.mem_cons.mp hb with rfl | hb
    · exact .inr ⟨Nat.le_refl _,by rw [Heap.size_push];exact Nat.lt_succ_self _⟩
    · exact .inl (by simpa using hb)
  | false =>
    simp only [Bool.not_false,Bool.true_and]
    cases hD:(!t.plain && decide (es.size > 1)) with
    | false=>
      simp only [Bool.false_eq_true,if_false]
      refine wpAny_bind (wpAny_pure ?_)
      refine wpAny_bind (wpAny_setEpoch_of ho hd hf ?_)
      refine wpAny_bind (wpAny_newObj_type (wpAny_pure ⟨_,rfl,"set_iterator",_,⟨_,Heap.get?_push_size _ rfl,rfl⟩,slot_setiter_next.lookup,?_⟩))
      have hq:(es.map (·.2)).toList.Perm (es.toList.map (·.2)):=by rw [Array.toList_map]
      have hz:(es.map (·.2)).size=es.size:=by rw [Array.size_map]
      obtain⟨k1,k2⟩:=keyz _ hq
      have hL':t.led=true:=by rw [hL];unfold led0;rw [hB];rfl
      have hb0:∀ i,i≤es.size→SetTable.below t.place (if i=0 then 0 else t.place.getD (i - 1) 0+1)=i:=by
        intro i hi
        by_cases z:i=0
        · rw [if_pos z,z];exact j'C hR
        · rw [if_neg z]
          have hlt:i - 1<t.place.size:=by omega
          have:=l'v hR hlt
          rw [Array.getD_eq_getD_getElem?,Array.getElem?_eq_getElem hlt]
          show SetTable.below t.place (t.place[i - 1]+1)=i
          rw [this];omega
      have W:=f'S (prog:=prog) (w:=w) (A:=A) (a:=a) (o:=o) (ep:=ep) (t:=t) hh s.heap.objs.size (Nat.ne_of_lt ha) hd hf _ hz (fun i=>if i=0 then 0 else t.place.getD (i - 1) 0+1) (fun s A' E' Q' i x hx ho' q=>i'b ho' hd hf hB hL' hD (by
            have hi:i<es.size:=by have:=(Array.getElem?_eq_some_iff.mp hx).1;rw [hz] at this;exact this
            rw [hb0 i (Nat.le_of_lt hi)]
            rw [Array.getElem?_map] at hx
            rw [Array.getElem?_eq_getElem hi] at hx ⊢
            rw [Array.getElem?_eq_getElem (by omega:i<t.place.size)]
            cases hx
            have e2:(if i+1=0 then 0 else t.place.getD (i+1 - 1) 0+1)=t.place[i]'(by omega)+1:=by
              rw [if_neg (by omega),Nat.add_sub_cancel,Array.getD_eq_getD_getElem?,Array.getElem?_eq_getElem (by omega)];rfl
            rw [e2] at q
            exact q)) (fun s A' E' Q' ho' q=>i'b ho' hd hf hB hL' hD (by
            rw [hb0 es.size (Nat.le_refl _),Array.getElem?_eq_none (Nat.le_refl _)];exact q))
      rw [← hz] at W
      refine h _ s.drawn _ _ _ _ (fun b o e=>Heap.get?_push_of_some _ e) (fun b hb=>?_) (Nat.le_refl _) k1 k2 W ⟨by rw [hz];exact Heap.get?_push_size _ rfl,Heap.get?_push_of_some _ ho⟩
      rcases List.mem_cons.mp hb with rfl | hb
      · exact .inr ⟨Nat.le_refl _,by rw [Heap.size_push];exact Nat.lt_succ_self _⟩
      · exact .inl (by simpa using hb)
    | true=>
      simp only [if_true]
      refine wpAny_bind (k'N es.size _ s _ List.length_range fun d1 js hjs=>?_)
      have hjl:js.length=es.size:=by rw [hjs.length_eq,List.length_range]
      have hjb:∀ j∈js,j<es.size:=fun j hj=>List.mem_range.mp (hjs.mem_iff.mp hj)
      simp only [newTuple]
      refine wpAny_bind (wpAny_newObj_type ?_ (by show (List.map _ js).toArray.size≤sizeLine;rw [List.size_toArray,List.length_map,hjl,g'n (o:=o) hel hp];exact hsz))
      have ho1:(s.heap.push { cls:=.type "tuple",data:=.seq (js.map fun j:Nat=>rawInt j).toArray }).get? a=some o:=Heap.get?_push_of_some _ ho
      refine wpAny_bind (wpAny_setEpoch_of (s:={ s with heap:=s.heap.push { cls:=.type "tuple",data:=.seq (js.map fun j:Nat=>rawInt j).toArray },drawn:=d1 }) ho1 hd hf ?_)
      refine wpAny_bind (wpAny_newObj_type (wpAny_pure ⟨_,rfl,"set_iterator",_,⟨_,Heap.get?_push_size _ rfl,rfl⟩,slot_setiter_next.lookup,?_⟩))
      have emap:∀ (l:List Nat),(∀ j∈l,j<es.size)→(l.filterMap fun j=>es[j]?.map (·.2)).length=l.length:=by
        intro l
        induction l with
        | nil=>intro _;rfl
        | cons j r ih=>
          intro hl
          rw [List.filterMap_cons,Array.getElem?_eq_getElem (hl j List.mem_cons_self)]
          simp [ih fun i hi=>hl i (List.mem_cons_of_mem _ hi)]
      have eat:∀ (l:List Nat),(∀ j∈l,j<es.size)→∀ (i j:Nat),l[i]?=some j→(l.filterMap fun j=>es[j]?.map (·.2))[i]?=es[j]?.map (·.2):=by
        intro l
        induction l with
        | nil=>intro _ i j e;simp at e
        | cons j r ih=>
          intro hl i k e
          have hj:=hl j List.mem_cons_self
          rw [List.filterMap_cons,Array.getElem?_eq_getElem hj]
          cases i with
          | zero=>simp at e;subst e;rw [Array.getElem?_eq_getElem hj];rfl
          | succ i=>simpa using ih (fun i hi=>hl i (List.mem_cons_of_mem _ hi)) i k (by simpa using e)
      have hq:(js.filterMap fun j=>es[j]?.map (·.2)).toArray.toList.Perm (es.toList.map (·.2)):=by
        refine (hjs.filterMap _).trans ?_
        have:((List.range es.size).filterMap fun j=>es[j]?.map (·.2))=es.toList.map (·.2):=by
          refine List.ext_getElem? fun i=>?_
          by_cases hi:i<es.size
          · rw [eat (List.range es.size) (fun j hj=>List.mem_range.mp hj) i i (by rw [List.getElem?_range hi]),List.getElem?_map,Array.getElem?_toList]
          · rw [List.getElem?_eq_none (by rw [emap _ fun j hj=>List.mem_range.mp hj,List.length_range];omega),List.getElem?_eq_none (by rw [List.length_map,Array.length_toList];omega)]
        rw [this]
      have hz:(js.filterMap fun j=>es[j]?.map (·.2)).toArray.size=es.size:=by rw [List.size_toArray,emap js hjb,hjl]
      obtain⟨k1,k2⟩:=keyz _ hq
      have hsp:(s.heap.push { cls:=.type "tuple",data:=.seq (js.map fun j:Nat=>rawInt j).toArray }).objs.size=s.heap.objs.size+1:=Heap.size_push _ _
      have W:=j'G (prog:=prog) (w:=w) (A:=A) (a:=a) (o:=o) (ep:=ep) (t:=t) hh (s.heap.objs.size+1) s.heap.objs.size (Nat.ne_of_lt (Nat.lt_succ_of_lt ha)) (Nat.ne_of_lt (Nat.lt_succ_self _)) hd hf _ hz js hjl (fun i j e=>by
          have hj:=hjb j (List.mem_of_getElem? e)
          refine⟨es[j].1,es[j].2,?_,Array.getElem?_eq_getElem hj⟩
          rw [List.getElem?_toArray,eat js hjb i j e,Array.getElem?_eq_getElem hj];rfl) (po:={ cls:=.type "tuple",data:=.seq (js.map fun j:Nat=>rawInt j).toArray }) (pn:=0) rfl
      rw [← hz] at W
      rw [hsp]
      refine h _ d1 (s.heap.objs.size+1) _ _ _ (fun b o e=>Heap.get?_push_of_some _ (Heap.get?_push_of_some _ e)) (fun b hb=>?_) (Nat.le_succ _) k1 k2 W ⟨?_,Heap.get?_push_of_some _ ho1,Heap.get?_push_of_some _ (Heap.get?_push_size _ rfl)⟩
      · rw [Heap.size_push,hsp]
        simp only [List.mem_cons,List.not_mem_nil,or_false] at hb
        rcases hb with rfl | rfl | rfl
        · exact .inr ⟨Nat.le_succ _,Nat.lt_succ_self _⟩
        · exact .inl rfl
        · exact .inr ⟨Nat.le_refl _,Nat.lt_succ_of_lt (Nat.lt_succ_self _)⟩
      · rw [← hsp,hz];exact Heap.get?_push_size _ rfl
theorem m'M (ho:s.heap.get? a=some o) (hex:o.ExactSet) {Q:Bool→Shared→Prop} (h:Q false s):wpAny (model prog w) A (Builtin.List.listLengthHint (.ref a)) Q E s:=by
  have hT:s.TypeIs (.ref a) "set":=⟨o,ho,hex.1⟩
  unfold Builtin.List.listLengthHint
  refine wpAny_bind (wpAny_specialOf hT F.slot_set_len.lookup ?_)
  (generalize hid:("set.__len__":String)=id0;(fail_if_success (clear hid id0));wp_delta;rw [show splitId id0=some ("set","__len__") from by subst hid;decide +kernel];subst hid)
  refine wpAny_bind (wpAny_isInstance (b:=true) hT (by rw [isSubtype_type];kernel_rfl) ?_)
  refine wpAny_ite_split (fun z=>absurd z (by decide)) (fun _=>?_)
  refine wpAny_ite_split (fun _=>?_) (fun z=>absurd (by decide +kernel) z)
  exact wpAny_bind (wpAny_typeOf hT (wpAny_pure h))
theorem j'H {K:Type} [DecidableEq K] {knd:KeyKind prog w K} {ks:List K} (hh:A.handled=none) (ho:s.heap.get? a=some o) (hG:GS knd o ks) (hsz:ks.length≤sizeLine) {Q:List Value→Shared→Prop}
    (h:∀ (h1:Heap) (tk:Nat) (d1:Drawn) (vs:List Value),(∀ b o,s.heap.get? b=some o→h1.get? b=some o)→(∀ v∈vs,∃ k,knd.is k v=true)→(vs.filterMap (kfo knd)).Perm ks→Q vs { s with heap:=h1,toks:=tk,drawn:=d1 }) :
    wpAny (model prog w) A (collect (.ref a)) Q E s:=by
  have ha:a<s.heap.objs.size:=Heap.lt_size ho
  have hex:=hG.1
  unfold collect
  refine wpAny_bind (wpAny_runValue (codeAny_builtin F.entry_proto_collect ?_))
  rw [Around.under_plainId F.plain_proto_collect _]
  show wpAny _ A.in1 (newList [] >>= fun l=>again (.builtin "list.__iadd__" ⟨[l,.ref a],[]⟩)) _ _ s
  refine wpAny_bind (wpAny_newObj_type ?_)
  refine wpAny_pure ⟨plainId_quiet F.plain_list_iadd _,codeAny_builtin F.entry_list_iadd ?_⟩
  rw [Around.under_plainId F.plain_list_iadd _]
  show wpAny _ A.in1 (Builtin.List.listExtendWith (.ref s.heap.objs.size) (.ref a) (.ref s.heap.objs.size)) _ _ _
  have hS₁:(s.heap.push { cls:=.type "list",data:=.seq ([]:List Value).toArray }).get? s.heap.objs.size=some { cls:=.type "list",data:=.seq ([]:List Value).toArray }:=Heap.get?_push_size _ rfl
  have ho1:(s.heap.push { cls:=.type "list",data:=.seq ([]:List Value).toArray }).get? a=some o:=Heap.get?_push_of_some _ ho
  have h1:Builtin.List.listSameRef (.ref s.heap.objs.size) (.ref a)=false:=by simp [Builtin.List.listSameRef,Nat.ne_of_gt ha]
  unfold Builtin.List.listExtendWith
  refine wpAny_bind (wpAny_typeOf (T:="set") ⟨o,ho1,hex.1⟩ ?_)
  rw [if_neg (by rw [h1];decide)]
  refine wpAny_bind (m'L (A:=A.in1) (s:={ s with heap:=s.heap.push { cls:=.type "list",data:=.seq ([]:List Value).toArray } }) hh ho1 hG hsz fun g d1 I vals fp St hk hfp hI v1 v2 W st=>?_)
  have hn:vals.size≤sizeLine:=by
    have:(vals.toList.filterMap (kfo knd)).length=vals.toList.length:=by
      generalize vals.toList=l at v1
      induction l with
      | nil=>rfl
      | cons v r ih=>
        obtain⟨k,hk⟩:=v1 v List.mem_cons_self
        rw [List.filterMap_cons,d'C hk]
        simp [ih fun u hu=>v1 u (List.mem_cons_of_mem _ hu)]
    have e2:=Array.length_toList (xs:=vals)
    rw [← e2,← this,v2.length_eq];exact hsz
  have hSf:s.heap.objs.size ∉ fp:=fun hm=>by
    rcases hfp _ hm with e | ⟨e,_⟩
    · exact absurd e (Nat.ne_of_gt ha)
    · have e:(s.heap.push { cls:=.type "list",data:=.seq ([]:List Value).toArray }).objs.size≤s.heap.objs.size:=e
      rw [Heap.size_push] at e;omega
  have hSI:s.heap.objs.size≠I:=fun e=>by
    have z:(s.heap.push { cls:=.type "list",data:=.seq ([]:List Value).toArray }).objs.size≤I:=hI
    rw [Heap.size_push,← e] at z;exact absurd z (Nat.not_succ_le_self _)
  refine wpAny_bind (wpAny_holding (m'M (hk _ _ ho1) hex ?_))
  refine wpAny_ite_split (fun _=>?_) (fun z=>absurd z (by decide))
  refine wpAny_bind (wpAny_rule ?_)
  refine wpAny_bind ?_
  have hS₂:=hk _ _ hS₁
  show wpAny _ A.in1 (updateSeq s.heap.objs.size (·.push .none) >>= fun _=>updateSeq s.heap.objs.size (·.pop)) _ _ _
  refine wpAny_bind (wpAny_updateSeq hS₂ rfl ?_)
  have hS₃:=Heap.get?_update_self (Obj.mapSeq (·.push Value.none)) hS₂ rfl
  refine wpAny_updateSeq (hz:=by seq_fits) hS₃ rfl ?_
  have hS₄:=Heap.get?_update_self (Obj.mapSeq (·.pop)) hS₃ rfl
  have stay:∀ b o,b≠s.heap.objs.size→g.get? b=some o→((g.update s.heap.objs.size (Obj.mapSeq (·.push Value.none))).update s.heap.objs.size (Obj.mapSeq (·.pop))).get? b=some o:=fun b o hb e=>
    (Heap.get?_update_other _ _ (Ne.symm hb)).trans ((Heap.get?_update_other _ _ (Ne.symm hb)).trans e)
  refine wpAny_pure ⟨plainId_quiet F.plain_extend_loop _,codeAny_extend_loopS W.toS hn s.heap.objs.size hSf _ vals.size 0 _ #[] _ rfl (Nat.zero_le _) (W.frame 0 _ _ st fun b hb o e=>stay b o (fun z=>hSf (z ▸ hb)) e) hS₄ (ItemsOf.nil _) fun s' acc' c' hm hS' hacc=>?_⟩
  show wpAny _ A (load s.heap.objs.size >>= _) _ _ s'
  refine wpAny_bind (wpAny_load hS' ?_)
  have ev:acc'=vals:=by
    refine Array.ext_getElem? fun i=>?_
    by_cases hi:i<acc'.size
    · rw [hacc.2 i acc'[i] (Array.getElem?_eq_getElem hi)];exact Array.getElem?_eq_getElem hi
    · rw [Array.getElem?_eq_none (by omega),Array.getElem?_eq_none (by have:=hacc.1;omega)]
  subst ev
  obtain⟨h',g',d',tk',os'⟩:=s'
  have eg:g'=s.gens:=hm.gens
  have ed:d'=d1:=hm.drawn
  have eo:os'=s.os:=hm.os
  subst eg;subst ed;subst eo
  refine wpAny_pure (h h' tk' d' _ (fun b o e=>?_) v1 v2)
  have hb0:b<s.heap.objs.size:=Heap.lt_size e
  refine hm.heap b o (fun hmem=>?_) (stay b o (Nat.ne_of_lt hb0) (hk b o (Heap.get?_push_of_some _ e)))
  rcases List.mem_cons.mp hmem with e' | hmem
  · exact absurd e' (Nat.ne_of_lt hb0)
  · have z:(s.heap.push { cls:=.type "list",data:=.seq ([]:List Value).toArray }).objs.size≤I:=hI
    rw [Heap.size_push] at z
    rw [← List.mem_singleton.mp hmem] at z
    exact absurd (Nat.lt_of_lt_of_le hb0 (Nat.le_trans (Nat.le_succ _) z)) (Nat.lt_irrefl _)
end
end L2
namespace L2
open PySem
section
variable {prog:Program} {w:World} {K:Type} [DecidableEq K] {knd:KeyKind prog w K} {A:Around} {E:Value→Shared→Prop} {s:Shared}
section
variable {R:Result→Shared→Prop} {I:Addr} {fp wr:List Addr} {G:Array GenState→Array GenState→Prop} {n:Nat} {P:Nat→Value→Prop} {St:Nat→Shared→Prop}
theorem m'N (W:WalksS prog w A.in1 I fp wr G n P St) (S:Addr) (hSf:S ∉ fp) (ks:List K) (hl:ks.length=n) (hval:∀ i v,P i v→v.scannable=true∧∀ k,ks[i]?=some k→knd.is k v=true) (hb:n+1<scanBound) :
    ∀ (k i:Nat) (s:Shared) (o:Obj),n - i=k→i≤n→St i s→s.heap.get? S=some o→GS knd o (once (ks.take i))→
      (∀ s' o',Moved (S :: wr) G s s'→s'.heap.get? S=some o'→GS knd o' (once ks)→R (.ok (.ret .none)) s')→
      codeAny (model prog w) A (.builtin "set.update.loop" ⟨[.ref S,.ref I],[]⟩) R s:=by
  have hSw:S ∉ wr:=fun h=>hSf (W.sub _ h)
  have hsub:∀ b∈wr,b∈S :: wr:=fun b hb=>List.mem_cons_of_mem _ hb
  intro k
  induction k with
  | zero =>
    intro i s o hk hi hst hS hG hR
    have hin:i=n:=by omega
    subst hin
    refine codeAny_builtin PyProof.Rows.F.entry_set_update_loop ?_
    rw [Around.under_plainId PyProof.Rows.F.plain_set_update_loop _]
    show wpAny _ A.in1 (pyNext (.ref I) >>= _) _ _ s
    refine wpAny_bind (W.done s _ _ hst fun s' hm=>?_)
    show wpAny _ A.in1 (ret Value.none) _ _ s'
    rw [← hl,List.take_length] at hG
    exact wpAny_pure (hR s' o (hm.mono hsub) (hm.heap S _ hSw hS) hG)
  | succ k ih =>
    intro i s o hk hi hst hS hG hR
    have hlt:i<n:=by omega
    refine codeAny_builtin PyProof.Rows.F.entry_set_update_loop ?_
    rw [Around.under_plainId PyProof.Rows.F.plain_set_update_loop _]
    show wpAny _ A.in1 (pyNext (.ref I) >>= _) _ _ s
    refine wpAny_bind (W.item i s _ _ hlt hst fun v s' hP hst' hm=>?_)
    have hli:i<ks.length:=by omega
    obtain⟨hsc,hky⟩:=hval i v hP
    have hk1:=hky ks[i] (List.getElem?_eq_getElem hli)
    have hS':=hm.heap S _ hSw hS
    show wpAny _ A.in1 (holding [v] (setAdd S v) >>= _) _ _ s'
    refine wpAny_bind (wpAny_holding ?_)
    unfold setAdd
    refine wpAny_holding ?_
    refine wpAny_bind (knd.pyHash hk1 ?_)
    have hroom:(once (ks.take i)).length+1<scanBound:=by have:=d'V (ks.take i);rw [List.length_take] at this;omega
    refine n'R (s:={ s' with toks:=s'.toks+1 }) hk1 hsc hS' hG hroom fun b h' o' hsb ho' hG'=>?_
    have et:ks.take (i+1)=ks.take i++[ks[i]]:=by rw [List.take_succ,List.getElem?_eq_getElem hli];rfl
    refine wpAny_pure ⟨plainId_quiet PyProof.Rows.F.plain_set_update_loop _,ih (i+1) _ o' (by omega) hlt (W.frame _ s' _ _ hst' (Nat.le_succ _) fun b hb o e=>?_) ho' (by rw [et,k'L];exact hG') fun s'' o'' hm'' hS'' hG''=>?_⟩
    · rw [hsb.2 b (fun h:b=S=>hSf (by rw [← h];exact hb))];exact e
    · refine hR s'' o'' (Moved.trans W.gtrans ((hm.mono hsub).then_heap (Nat.le_succ _) fun b o hb e=>?_) hm'') hS'' hG''
      rw [hsb.2 b (fun h:b=S=>hb (by rw [h];exact List.mem_cons_self))];exact e
end
theorem l'B:GS knd { cls:=.type "set",dict:=none,data:=.set #[] 0 (.fresh 0 0 (led0 w)) } ([]:List K):=
  ⟨⟨rfl,rfl,rfl⟩,#[],0,_,rfl,fun e he=>by simp at he,rfl,k'H,rfl,.refl _⟩
theorem n'S (a:Value) {Q₁:Value→Shared→Prop}
    (h:Q₁ (.ref s.heap.objs.size) { s with heap:=s.heap.push { cls:=.type "set",dict:=none,data:=.set #[] 0 (.fresh 0 0 (led0 w)) } }) :
    codeAny (model prog w) A (.call (.builtin "set.__new__") ⟨[.type "set",a],[]⟩) (wants Q₁ E) s:=by
  refine codeAny_of_tree ?_
  show wpAny _ A.in1 (do checkBuiltinCall "set.__new__" ⟨[.type "set",a],[]⟩;again (.builtin "set.__new__" ⟨[.type "set",a],[]⟩)) _ _ s
  refine wpAny_bind (wpAny_of_eq (F.newCall_set_1 a) (wpAny_pure ⟨plainId_quiet F.plain_set_new _,codeAny_builtin F.entry_set_new ?_⟩))
  rw [Around.under_plainId F.plain_set_new _]
  unfold Builtin.«set.__new__» Builtin.Frozenset.newClass
  have hsub:=sub_set_self
  obtain⟨hp,g,d,tk,os⟩:=s
  dsimp only
  wp_walk
  refine wpAny_askSetting (wpAny_pure ?_)
  dsimp only
  simp only [newObj]
  refine wpAny_bind (wpAny_alloc (wpAny_pure ?_))
  exact wpAny_pure h
theorem m'O {l:Addr} {items:Array Value} {ks:List K} {Q:Value→Shared→Prop}
    (hh:A.handled=none) (hl:s.heap.IsList l items) (hks:ks.length=items.size) (hi:∀ (i:Nat) v,items[i]?=some v→v.scannable=true∧∀ k,ks[i]?=some k→knd.is k v=true) (hb:items.size+1<scanBound)
    (h:∀ (h':Heap) (tk:Nat) (o:Obj),h'.get? s.heap.objs.size=some o→GS knd o (once ks)→(∀ b o,s.heap.get? b=some o→h'.get? b=some o)→Q (.ref s.heap.objs.size) { s with heap:=h',toks:=tk }) :
    wpAny (model prog w) A (call (.type "set") [.ref l]) Q E s:=by
  obtain⟨c,tl,hmro⟩:=F.called_set.mro
  have hmade:=F.called_set.made
  have hsub:=F.called_set.sub
  refine wpAny_call (codeAny_of_tree ?_)
  show wpAny _ _ (callAny (.type "set") _) _ _ _
  refine wpAny_pure ⟨Code.quiet_builtin _ (by decide +kernel),codeAny_builtin F.entry_type_call ?_⟩
  rw [Around.under_plain (weight_type_call_type "set" [.ref l] []) rfl]
  have h1:=F.called_set.notType
  have h2:=F.called_set.canCreate
  have hct:=F.typeCall_set_1 (.ref l)
  repeat (any_goals (first | assumption | wp_step))
  refine codeAny_mono (n'S (.ref l) (E:=E) (Q₁:=fun obj s₁=>obj=.ref s.heap.objs.size∧s₁={ s with heap:=s.heap.push { cls:=.type "set",dict:=none,data:=.set #[] 0 (.fresh 0 0 (led0 w)) } }) ⟨rfl,rfl⟩) fun r s₁ hr=>?_
  have hG0:GS knd { cls:=.type "set",dict:=none,data:=.set #[] 0 (.fresh 0 0 (led0 w)) } ([]:List K):=l'B
  cases r with
  | error e => exact hr
  | ok fl =>
    cases fl with
    | ret obj=>
      obtain⟨rfl,rfl⟩:=hr
      have hS:(s.heap.push { cls:=.type "set",dict:=none,data:=.set #[] 0 (.fresh 0 0 (led0 w)) }).get? s.heap.objs.size=some { cls:=.type "set",dict:=none,data:=.set #[] 0 (.fresh 0 0 (led0 w)) }:=Heap.get?_push_size _ rfl
      have hT:Shared.TypeIs { s with heap:=s.heap.push { cls:=.type "set",dict:=none,data:=.set #[] 0 (.fresh 0 0 (led0 w)) } } (.ref s.heap.objs.size) "set":=⟨_,hS,hG0.1.1⟩
      have hli:=F.called_set.init.lookup
      have hbi:=F.called_set.init.bind (.ref s.heap.objs.size)
      repeat (any_goals (first | assumption | wp_step))
      refine codeAny_mono (codeAny_call_builtin (R:=wants (fun r s₂=>r=.none∧∃ h' tk o,s₂={ s with heap:=h',toks:=tk }∧h'.get? s.heap.objs.size=some o∧GS knd o (once ks)∧
          (∀ b o,s.heap.get? b=some o→h'.get? b=some o)) E) F.called_set.init.plain F.entry_set_init (check_set_init_1 hT ?_)) fun r₂ s₂ hr₂=>?_
      · obtain⟨ol,hol,hcl,nl,hdl⟩:=hl
        obtain⟨ocls,odict,odata,oslots⟩:=ol
        simp only at hcl hdl
        subst hcl;subst hdl
        have hol':(s.heap.push { cls:=.type "set",dict:=none,data:=.set #[] 0 (.fresh 0 0 (led0 w)) }).get? l=some { cls:=.type "list",dict:=odict,data:=.seq items nl,slots:=oslots }:=Heap.get?_push_of_some _ hol
        have hsls:=F.sub_list_set
        have hslf:=F.sub_list_frozenset
        have hne:(Value.type "list" == Value.type "dict")=false:=by decide
        have hl1:(s.heap.push { cls:=.type "set",dict:=none,data:=.set #[] 0 (.fresh 0 0 (led0 w)) }).IsList l items:=⟨_,hol',rfl,nl,rfl⟩
        unfold Builtin.«set.__init__» noKeywords Builtin.Frozenset.updateFrom
        generalize hPI:pyIter=PI
        wp_walk
        subst hPI
        refine wpAny_pyIter_list hl1 ?_
        refine wpAny_bind (wpAny_runValue ?_)
        have hlS:l<s.heap.objs.size:=Heap.lt_size hol
        have hh3:A.in1.in1.in1.handled=none:=by simp [hh]
        have hneI:l≠(s.heap.push { cls:=.type "set",dict:=none,data:=.set #[] 0 (.fresh 0 0 (led0 w)) }).objs.size:=by rw [Heap.size_push];exact Nat.ne_of_lt (Nat.lt_succ_of_lt hlS)
        have hSf:s.heap.objs.size ∉ [(s.heap.push { cls:=.type "set",dict:=none,data:=.set #[] 0 (.fresh 0 0 (led0 w)) }).objs.size,l]:=by
          rw [Heap.size_push];simp only [List.mem_cons,List.not_mem_nil,or_false,not_or]
          exact⟨Nat.ne_of_lt (Nat.lt_succ_self _),Nat.ne_of_gt hlS⟩
        refine m'N (knd:=knd) ((Walks.list hh3 _ l hneI items).toS) s.heap.objs.size hSf ks hks hi hb (items.size - 0) 0 _ { cls:=.type "set",dict:=none,data:=.set #[] 0 (.fresh 0 0 (led0 w)) } (by omega) (Nat.zero_le _)
          ⟨⟨_,Heap.get?_push_size _ rfl,rfl,rfl⟩,(hl1.push _)⟩ (Heap.get?_push_of_some _ hS) hG0 fun s' o' hm ho' hG'=>?_
        obtain⟨h',g',d',tk',os'⟩:=s'
        have eg:g'=s.gens:=hm.gens
        have ed:d'=s.drawn:=hm.drawn
        have eo:os'=s.os:=hm.os
        subst eg;subst ed;subst eo
        show wpAny _ _ _ _ _ _
        refine wpAny_pure ?_
        show wpAny _ _ (ret Value.none) _ _ _
        refine wpAny_pure ⟨rfl,h',tk',o',rfl,ho',hG',fun b o e=>?_⟩
        have hb0:b<s.heap.objs.size:=Heap.lt_size e
        have hb1:b≠s.heap.objs.size:=Nat.ne_of_lt hb0
        have hb2:b≠(s.heap.push { cls:=.type "set",dict:=none,data:=.set #[] 0 (.fresh 0 0 (led0 w)) }).objs.size:=by rw [Heap.size_push];exact Nat.ne_of_lt (Nat.lt_succ_of_lt hb0)
        exact hm.heap b o (by simp only [List.mem_cons,List.not_mem_nil,or_false,not_or];exact⟨hb1,hb2⟩) (Heap.get?_push_of_some _ (Heap.get?_push_of_some _ e))
      · cases r₂ with
        | error e=>exact hr₂
        | ok fl₂=>
          cases fl₂ with
          | ret r=>
            obtain⟨rfl,h',tk,o',rfl,ho',hG',hk'⟩:=hr₂
            repeat (any_goals (first | assumption | wp_step))
            exact h _ _ _ ho' hG' hk'
          | _=>exact hr₂.elim
    | _=>exact hr.elim
end
end L2
namespace L2
open PySem PySem.Spec PyProof.Rows
section
def SetC (P:Program) (w:World) (a:Addr) (ks:List Key):HO:=.ext fun h=>∃ o,h.get? a=some o∧GS (mixKind P w) o ks
theorem m'P {P:Program} {w:World} {H:Hp} {h:Heap} {a:Addr} {ks:List Key} {o:Obj} (e:h.get? a=some o) (g:GS (mixKind P w) o ks):ObjOk P w H h a (SetC P w a ks):=
  ⟨⟨o,e,g⟩,⟨o,e⟩,fun _ _ ⟨o,e,g⟩ k=>⟨o,k o e,g⟩⟩
theorem m'Q {k:Key} {v:Value} (r:RelV (kV k) v):v.scannable=true:=by
  cases k<;>(obtain⟨t,rfl⟩:=r;rfl)
variable {X:Cx}
theorem k'O (hc:X.calm=true):CallR X (.type "set") (fun xs H Q=>∃ (a:Addr) (ks:List Key),xs=[.ref a]∧SqL X.K H a (ks.map kV)∧ks.length+1<4096∧∀ p,H p=none→Q (.ref p) (upd H p (SetC X.prog X.w p (once ks)))):=by
  intro pins s σ H xs us Q I r h
  obtain⟨a,ks,rfl,hq,hz,q⟩:=h
  obtain⟨u,rfl,ru⟩:=e'y r
  cases ru
  obtain⟨its,rv,pl,hl⟩:=I.list hq
  have hlen:ks.length=its.toArray.size:=by have:=rv.length;rw [List.length_map] at this;rw [List.size_toArray,this]
  refine m'O (knd:=mixKind X.prog X.w) (ks:=ks) (I.ok.hd hc) pl.isList hlen (fun i v e=>?_) (by rw [← hlen];exact hz) fun h' tk o ho hG hk=>?_
  · have hi:i<ks.length:=by rw [hlen];exact (Array.getElem?_eq_some_iff.mp e).1
    obtain⟨u,hu,ru⟩:=rv.get (x:=kV ks[i]) (show (ks.map kV)[i]?=some (kV ks[i]) by rw [List.getElem?_map,List.getElem?_eq_getElem hi];rfl)
    rw [List.getElem?_toArray,hu] at e
    cases e
    refine⟨m'Q ru,fun k hk=>?_⟩
    rw [List.getElem?_eq_getElem hi] at hk
    cases hk
    exact e'z ru
  · exact⟨.ref s.heap.objs.size,_,I.laid (t':=tk) hk (Nat.le_refl _) (m'P ho hG),rfl,q _ (I.hok.fresh (Nat.le_refl _))⟩
theorem Inv.drawn' {pins:List (Addr×Obj)} {σ:List (Option V)} {H:Hp} {s:Shared} (I:Inv X pins σ H s) (d:Drawn):Inv X pins σ H { s with drawn:=d }:=
  ⟨I.ok,I.os,I.bare,I.base,I.loc,I.cell,I.free,I.freeC,I.pin,I.hok,I.len⟩
theorem i'Y {P:Program} {w:World}:∀ (vs:List Value),(∀ v∈vs,∃ k,(mixKind P w).is k v=true)→(∀ k∈vs.filterMap (kfo (mixKind P w)),∃ n:Str,k=Sum.inr n)→
    ∃ ns:List Str,StrsAre vs ns∧vs.filterMap (kfo (mixKind P w))=ns.map Sum.inr
  | [], _, _ => ⟨[], .nil, rfl⟩
  | v :: r, h1, h2 => by
    obtain⟨k,hk⟩:=h1 v List.mem_cons_self
    have e:=d'C hk
    obtain⟨ns,a,b⟩:=i'Y r (fun u hu=>h1 u (List.mem_cons_of_mem _ hu)) fun k' hk'=>h2 k' (by rw [List.filterMap_cons,e];exact List.mem_cons_of_mem _ hk')
    obtain⟨n,rfl⟩:=h2 k (by rw [List.filterMap_cons,e];exact List.mem_cons_self)
    obtain⟨t,rfl⟩:=h'E hk
    exact⟨n :: ns,.cons _ _ a,by rw [List.filterMap_cons,e,b];rfl⟩
theorem l'C {a b:List Str} (h:(a.map (Sum.inr:Str→Key)).Perm (b.map Sum.inr)):a.Perm b:=by
  have:=h.filterMap (fun k:Key=>match k with | .inl _=>none | .inr x=>some x)
  have e:∀ l:List Str,(l.map (Sum.inr:Str→Key)).filterMap (fun k:Key=>match k with | .inl _=>none | .inr x=>some x)=l:=fun l=>by
    rw [List.filterMap_map];show l.filterMap (fun n=>some n)=l;simp
  rw [e,e] at this
  exact this
def rSortT (P:Program) (w:World):List V→Hp→VK→Prop:=fun xs H Q=>∃ (a:Addr) (ks:List Str),xs=[.ref a]∧H a=some (SetC P w a (ks.map Sum.inr))∧ks.length<64∧
    ∀ ks':List Str,ks'.Perm ks→sortedS ks'=true→∀ p,H p=none→Q (.ref p) (upd H p (.lst (ks'.map V.str)))
theorem i'c (hc:X.calm=true):CallR X (.builtin "sorted") (rSortT X.prog X.w):=by
  intro pins s σ H xs us Q I r h
  obtain⟨a,ks,rfl,ha,h64,q⟩:=h
  obtain⟨u,rfl,ru⟩:=e'y r
  cases ru
  obtain⟨⟨o,ho,hG⟩,_⟩:=I.hok a _ ha
  refine Calls.call_function_entry kind_sorted plain_sorted entry_sorted (args_sorted1 _) ?_
  unfold Builtin.«sorted»
  refine wpAny_bind (m:=checkCount "sorted" 1 1 _) (wpAny_pure ?_)
  refine wpAny_bind (j'H (A:=X.A.in1) (I.ok.hd hc) ho hG (by rw [List.length_map,sizeLine_eq];omega) fun h' tk d1 vs hkp v1 v2=>?_)
  obtain⟨n1,hS,e1⟩:=i'Y vs v1 (fun k hk=>by obtain⟨n,_,rfl⟩:=List.mem_map.mp (v2.mem_iff.mp hk);exact⟨n,rfl⟩)
  rw [e1] at v2
  have hp:=l'C v2
  have hlv:vs.length=n1.length:=by have:=(g'P hS).length;rw [List.length_map] at this;exact this.symm
  have I1:Inv X pins σ H { s with heap:=h',toks:=tk,drawn:=d1 }:=(I.kept (t':=tk) hkp).drawn' d1
  refine wpAny_bind (wpAny_newList ?_ (by rw [hlv,hp.length_eq,sizeLine_eq];omega))
  have hoL:(h'.push (seqObj "list" vs.toArray 0)).get? h'.objs.size=some (seqObj "list" vs.toArray 0):=Heap.get?_push_size _ rfl
  show wpAny _ _ _ _ _ { s with heap:=h'.push (seqObj "list" vs.toArray 0),toks:=tk,drawn:=d1 }
  refine wpAny_bind (wpAny_holding (wpAny_call_entry slot_list_sort ⟨_,hoL,rfl⟩ entry_list_sort (list_sort_treeK strKind_oneLt hoL hS.keysOf (fun v1 v2 rest e=>keyKind_strs (by rw [← e];exact hS)) (by rw [hlv,hp.length_eq];exact h64) fun st' a1 a2=>⟨_,rfl,?_⟩) (args_list_sort _)))
  obtain⟨ss',b1,b2,b3⟩:=sorted_out_str hS a1 a2
  refine wpAny_pure ⟨_,rfl,?_⟩
  obtain⟨e,he⟩:=sortedHeap_at (out:=(arrOf st').map (·.2)) hoL
  have hfr:H h'.objs.size=none:=I1.hok.fresh (Nat.le_refl _)
  refine⟨.ref h'.objs.size,_,I1.laid (a:=h'.objs.size) (o:=.lst (ss'.map V.str)) (t':=tk) (fun b o eb=>?_) (Nat.le_refl _) ⟨?_,((arrOf st').map (·.2)).toList,e,g'P b1,by rw [Array.toArray_toList];exact he⟩,rfl,q ss' (b2.trans hp) b3 _ hfr⟩
  · have lb:b<h'.objs.size:=Heap.lt_size eb
    rw [sortedHeap_old (Nat.ne_of_lt lb) (by rw [size_push'];exact Nat.lt_succ_of_lt lb)]
    exact Heap.get?_push_of_some _ eb
  · rw [List.length_map,b2.length_eq,hp.length_eq,sizeLine_eq];omega
end
end L2
namespace Vc
open PySem L2 Sf
end Vc
namespace L2
open PySem PySem.Spec PyProof.Rows
section
variable {P:Program} {w:World} {K:PySem.W.Frag}
def rSetX (P:Program) (w:World) (K:PySem.W.Frag):List V→Hp→VK→Prop:=fun xs H Q=>∃ (a:Addr) (ks:List Key),xs=[.ref a]∧SqL K H a (ks.map kV)∧ks.length+1<4096∧∀ p,H p=none→Q (.ref p) (upd H p (SetC P w p (once ks)))
theorem g'U {X:Cx} (hc:X.calm=true):CallR X (.type "set") (rSetX X.prog X.w X.K):=k'O hc
end
theorem l'D {α β:Type} [DecidableEq α] [DecidableEq β] {f:α→β} (hf:∀ x y,f x=f y→x=y) (l:List α):once (l.map f)=(once l).map f:=by
  have key:∀ (l a:List α),(l.map f).foldl addk (a.map f)=(l.foldl addk a).map f:=by
    intro l
    induction l with
    | nil=>intro a;rfl
    | cons x r ih=>
      intro a
      have e:addk (a.map f) (f x)=(addk a x).map f:=by
        unfold addk
        by_cases h:x∈a
        · rw [if_pos h,if_pos (List.mem_map.mpr ⟨x,h,rfl⟩)]
        · rw [if_neg h,if_neg (fun z=>by obtain⟨y,hy,e⟩:=List.mem_map.mp z;exact h (hf _ _ e ▸ hy)),List.map_append];rfl
      show ((r.map f).foldl addk (addk (a.map f) (f x)))=_
      rw [e];exact ih _
  exact key l []
theorem f'T {α:Type} [DecidableEq α] (l:List α):(once l).Nodup∧∀ x,x∈once l↔x∈l:=by
  have key:∀ (l a:List α),a.Nodup→(l.foldl addk a).Nodup∧∀ x,x∈l.foldl addk a↔x∈a∨x∈l:=by
    intro l
    induction l with
    | nil=>intro a h;exact⟨h,fun x=>by simp⟩
    | cons y r ih=>
      intro a h
      have h1:(addk a y).Nodup:=by
        unfold addk
        by_cases hy:y∈a
        · rw [if_pos hy];exact h
        · rw [if_neg hy,List.nodup_append];exact⟨h,by simp,fun u hu v hv e=>by rw [List.mem_singleton] at hv;exact hy (hv ▸ e ▸ hu)⟩
      have h2:∀ x,x∈addk a y↔x∈a∨x=y:=by
        intro x
        unfold addk
        by_cases hy:y∈a
        · rw [if_pos hy];exact⟨.inl,fun z=>z.elim id fun e=>e ▸ hy⟩
        · rw [if_neg hy,List.mem_append,List.mem_singleton]
      obtain⟨a1,a2⟩:=ih (addk a y) h1
      refine⟨a1,fun x=>(a2 x).trans ?_⟩
      rw [h2,List.mem_cons,or_assoc]
  obtain⟨a,b⟩:=key l [] List.nodup_nil
  exact⟨a,fun x=>by rw [show once l=l.foldl addk [] from rfl,b x];simp⟩
end L2
namespace Vc
open PySem L2 Sf
section
variable {P:Program} {w:World} {K:PySem.W.Frag} {F H:Hp} {Q:VK}
end
end Vc
namespace L2
open PySem PySem.Spec PyProof.Rows
theorem f'U {P:Program} {w:World} {H:Hp} {h:Heap} {a C dx:Addr} {fs:List (Str×V)} (hok:HOk P w H h) (e:Rd H a (.ins C dx fs)):∃ mA,ObjM h a dx C mA∧∀ f,RelO (fs.lookup f) (mA f):=by
  have x:ObjOk P w H h a (.ins C dx fs):=by
    rcases e with e | ⟨o,e⟩
    · exact hok a _ e
    · exact (hok a _ e).2
  obtain⟨d,z,ne,ob,mA,n,r,q⟩:=x
  exact⟨mA,⟨ob,n,ne⟩,r⟩
def tFldR (K:PySem.W.Frag) (ta:TE) (f:Str):TE:=fun σ H Q=>ta σ H fun x H1=>∃ a C dx fs v,x=.ref a∧Rd H1 a (.ins C dx fs)∧Cls K C∧NoAttr K C f∧fs.lookup f=some v∧Q v H1
def tMethD (D:Addr→Nat→Prop) (m:Str) (sp:Nat→Sp) (E:XK) (ta:TE):TE:=fun σ H Q=>ta σ H fun x H1=>∃ a C dx fs g,x=.ref a∧Rd H1 a (.ins C dx fs)∧D C g∧fs.lookup m=none∧sp g [x] H1 Q E
def MOk (P:Program) (w:World) (K:PySem.W.Frag) (mg:Str→Option Value) (base:Heap) (CX:CXT) (k:Nat) (m:Str) (C:Addr) (sp:Sp):Prop:=
  Cls K C∧∃ f fd,Meth K C m f∧FnOk P w K mg base CX k f fd ["self"] sp∧Binds K fd ["self"] []
section
variable {X:Cx} {CX:CXT} {k:Nat} {E:XK} {m f:Str} {pos apos:Pos} {o e:Expr} {ta:TE} {D:Addr→Nat→Prop} {sp:Nat→Sp}
theorem a'H (he:PE X e ta) (hb:attributeBase e f X.env (eval e X.env)=eval e X.env):PE X (.Attribute e f pos) (tFldR X.K ta f):=by
  intro pins s σ H Q I h
  refine m'g hb (thn (he pins s σ H _ I h) fun u s1 ⟨x,H1,I1,rx,a,C,dx,fs,v,ex,ea,c,n,l,q⟩=>?_)
  subst ex
  obtain rfl:u=Value.ref a:=rx
  obtain⟨mA,O,r⟩:=f'U I1.hok ea
  obtain⟨u,hu,ru⟩:=RelO.some_of (v:=v) (o:=mA f) (by rw [← l];exact r f)
  exact m'e I1.kIn O (c.get f) c.hd n hu (j'U ru) ⟨v,H1,I1.tok _,ru,q⟩
theorem a'D {pl:Sem Bool} (he:PE X o ta) (hD:∀ C g,D C g→MOk X.prog X.w X.K X.mg X.base CX k m C (sp g)) (hr:Room k X.A) (hx:Passes CX X E)
    (ht:eval (.Call (.Attribute o m apos) [] [] pos) X.env=(do
      let ov ← eval o X.env
      standAt apos.atName
      let (f,first) ← holding [ov] (getMethod ov m pl)
      callWith pos f first (backTo pos (starEach [] X.env)) (backToKw pos (keywordEach [] X.env))):=by rfl) :
    PE X (.Call (.Attribute o m apos) [] [] pos) (tMethD D m sp E ta):=by
  intro pins s σ H Q I h
  refine PySem.W.methodCall_KW (pl:=pl) (thn (he pins s σ H _ I h) fun u s1 ⟨x,H1,I1,rx,a,C,dx,fs,g,ex,ea,d,l,q⟩=>?_) ht
  subst ex
  obtain rfl:u=Value.ref a:=rx
  obtain⟨c,f,fd,hm,F,hb⟩:=hD C g d
  obtain⟨mA,O,r⟩:=f'U I1.hok ea
  have hn:mA m=none:=RelO.none_of (by rw [← l];exact r m)
  refine h'y I1.kIn O (c.get m) hm.at_ hm.fn hn ?_
  exact PySem.W.callWith_K0 (first:=[.ref a]) I1.kIn hm.kp (h'z (us:=[.ref a]) (vs:=[.ref a]) F hr hb .nil hx I1 (.cons rfl .nil) q)
theorem a'W {K:PySem.W.Frag} {σ:St} {H:Hp} {Q:VK} (h:ta σ H fun x H1=>∃ a C dx fs v,x=.ref a∧Rd H1 a (.ins C dx fs)∧Cls K C∧NoAttr K C f∧fs.lookup f=some v∧Q v H1):tFldR K ta f σ H Q:=h
theorem b'P {σ:St} {H:Hp} {Q:VK} {C:Addr} {sp:Sp} {dvs:List V} {t:TA} (h:t σ H fun vs H1=>∀ x dx,H1 x=none→H1 dx=none→dx≠x→sp (.ref x :: (vs++dvs)) (upd (upd H1 dx (.own x)) x (.ins C dx [])) (fun v H2=>v=.non∧Q (.ref x) H2) E):tMake C sp dvs E t σ H Q:=h
theorem a'O {σ:St} {H:Hp} {Q:VK} (h:ta σ H fun x H1=>∃ a C dx fs g,x=.ref a∧Rd H1 a (.ins C dx fs)∧D C g∧fs.lookup m=none∧sp g [x] H1 Q E):tMethD D m sp E ta σ H Q:=h
end
end L2
namespace Vc
open PySem L2 Sf
def spI1 (C:Addr) (f:Str):Sp:=fun vs H Q _=>∃ (x dx:Addr) (v:V),vs=[.ref x,v]∧H x=some (.ins C dx [])∧Q .non (upd H x (.ins C dx [(f,v)]))
def spI2 (C:Addr) (f g:Str):Sp:=fun vs H Q _=>∃ (x dx:Addr) (v u:V),vs=[.ref x,v,u]∧H x=some (.ins C dx [])∧Q .non (upd H x (.ins C dx [(f,v),(g,u)]))
theorem d'j {F H:Hp} {C x dx:Addr} {fs:List (Str×V)} (wd:Same F H) (hx:H x=none) (hd:H dx=none) (ne:dx≠x) :
    ∃ F',Gr F H F' (upd (upd (upd H dx (.own x)) x (.ins C dx [])) x (.ins C dx fs))∧F' x=some (.ins C dx fs):=by
  rw [c'g]
  obtain⟨F1,g1,e1⟩:=al2 (o:=.own x) wd (by intro _ _ z;cases z) hd
  obtain⟨F2,g2,e2⟩:=al2 (o:=.ins C dx fs) g1.s (by intro _ _ z;cases z) (show upd H dx (.own x) x=none by rw [a't (Ne.symm ne)];exact hx)
  exact⟨F2,Gr.of (g1.toGr0.trans g2.toGr0) (fun a o u h=>g1.z a _ _ (g2.z a o u h).choose_spec.choose_spec),e2⟩
end Vc
namespace L2
open PySem PySem.Spec PyProof.Rows
def rLenS (P:Program) (w:World):List V→Hp→VK→Prop:=fun xs H Q=>∃ (a:Addr) (ks:List Key),xs=[.ref a]∧H a=some (SetC P w a ks)∧ks.length<4096∧Q (.int ks.length) H
theorem k'P {X:Cx}:CallR X (.builtin "len") (rLenS X.prog X.w):=by
  intro pins s σ H xs us Q I r h
  obtain⟨a,ks,rfl,ha,hl,q⟩:=h
  obtain⟨u,rfl,ru⟩:=e'y r
  cases ru
  obtain⟨⟨o,ho,hex,es,ep,t,hd,hel,hf,_,_,hp⟩,_⟩:=I.hok a _ ha
  have hz:=g'n (o:=o) hel hp
  exact call_len_set ho hex hd hf (by rw [hz];omega) ⟨.int ks.length,H,I.tok _,⟨_,by rw [hz]⟩,q⟩
theorem MOk.mono {P:Program} {w:World} {K:PySem.W.Frag} {mg:Str→Option Value} {base:Heap} {CX:CXT} {k k':Nat} {m:Str} {C:Addr} {sp:Sp} (h:MOk P w K mg base CX k m C sp) (le:k≤k'):MOk P w K mg base CX k' m C sp:=by
  obtain⟨c,f,fd,hm,F,hb⟩:=h
  exact⟨c,f,fd,hm,F.mono le,hb⟩
end L2
namespace Vc
open PySem L2 Sf
section
variable {P:Program} {w:World} {K:PySem.W.Frag} {F H:Hp} {Q:VK}
theorem g'V {F:Hp}:∀ {vs:List V} {ns:List Str},Al rS F vs ns→vs=ns.map V.str
  | [], [], _ => rfl
  | _ :: _, _ :: _, h => by
    obtain⟨h1,h2⟩:=h
    rw [List.map_cons,← g'V h2]
    exact congrArg (· :: _) h1
  | [], _ :: _, h => h.elim
  | _ :: _, [], h => h.elim
theorem k'Q {a:Addr} {vs:List V} {ns:List Str} (hq:SqL K H a vs) (al:Al rS F vs ns) (hl:ns.length+1<4096) (q:∀ p,H p=none→Q (.ref p) (upd H p (SetC P w p ((once ns).map Sum.inr)))):rSetX P w K [V.ref a] H Q:=by
  refine⟨a,ns.map Sum.inr,rfl,?_,by rw [List.length_map];exact hl,fun p hp=>?_⟩
  · rw [List.map_map]
    have:=g'V al
    rw [this] at hq
    exact hq
  · rw [l'D (fun x y e=>Sum.inr.inj e)];exact q p hp
theorem m'R {a:Addr} {ns:List Str} (h:H a=some (SetC P w a (ns.map Sum.inr))) (hl:ns.length<64) (q:∀ p,H p=none→Q (.ref p) (upd H p (.lst ((srt ns).map V.str)))):rSortT P w [V.ref a] H Q:=
  ⟨a,ns,rfl,h,hl,fun ns' e1 e2 p hp=>by rw [n'P e1 e2];exact q p hp⟩
theorem n'T {α:Type} {f:α→Key} {a:Addr} {ns:List α} (h:H a=some (SetC P w a (ns.map f))) (hl:ns.length<4096) (q:Q (.int (ns.length:Int)) H):rLenS P w [V.ref a] H Q:=
  ⟨a,ns.map f,rfl,h,by rw [List.length_map];exact hl,by rw [List.length_map];exact q⟩
end
end Vc
namespace Vc
open PySem L2 Sf PyProof.Rows
end Vc
namespace L2
open PySem PySem.Spec PyProof.Rows
section
variable {X:Cx} {CX:CXT} {k:Nat} {f C:Addr} {fd:FuncData} {ps:List Str} {sp:Sp} {dvs:List V} {ds:List Value} {x:Str} {p pos:Pos} {e:Expr} {es:List Expr} {t:TA}
structure InsK (K:PySem.W.Frag) (C:Addr):Prop where
  cl:Cls K C
  ha:PySem.W.findIn K (.ref C) "__class__"=some (some (.builtin "object.__class__"))
  hn:PySem.W.specialIn K (.builtin "object.__class__") "__get__"=some (some (.builtin "getset_descriptor.__get__"))
  htk:PySem.W.takesIn K (.builtin "object.__class__")=some true
  hm:PySem.W.mroIn K C (.type "object")=some true
def TyR (K:PySem.W.Frag) (H:Hp) (x:V) (t:Value):Prop:=TyOf K H x t∨∃ a C dx fs,x=.ref a∧t=.ref C∧Rd H a (.ins C dx fs)∧InsK K C
def rIsR (K:PySem.W.Frag):List V→Hp→VK→Prop:=fun xs H Q=>∃ x c t b u,xs=[x,c]∧TyR K H x t∧clsV c=some u∧PySem.W.kitOne K t u=some b∧Q (.bl b) H
theorem d'W:CallR X (.builtin "isinstance") (rIsR X.K):=by
  intro pins s σ H xs us Q I r h
  obtain⟨x,c,t,b,u,rfl,ty,rc,e,q⟩:=h
  rcases ty with ty | ⟨a,C,dx,fs,rfl,rfl,ea,z⟩
  · exact h'G pins s σ H _ us Q I r ⟨x,c,t,b,u,rfl,ty,rc,e,q⟩
  · obtain⟨v,w',rfl,rx,rw'⟩:=j'k r
    have ew:w'=u:=by
      cases c with
      | ref a=>cases rc;exact rw'
      | ty n=>cases rc;exact rw'
      | non=>cases rc
      | bl n=>cases rc
      | int i=>cases rc
      | str i=>cases rc
      | byt i=>cases rc
      | flt i=>cases rc
    subst ew
    cases (show v=Value.ref a from rx)
    obtain⟨mA,O,_⟩:=f'U I.hok ea
    obtain⟨od,J,_⟩:=O.look
    exact PySem.W.kia_one (PySem.W.kitx_own (z.cl.get _) z.cl.hd z.ha z.hn z.htk z.hm) I.kIn J e (fun z=>nomatch z) fun tk=>⟨.bl b,H,I.tok tk,rfl,q⟩
end
end L2
namespace Vc
open PySem L2 Sf
theorem mkX {F H:Hp} {C x dx:Addr} (wd:Same F H) (hx:H x=none) (hd:H dx=none) (ne:dx≠x) :
    ∃ F',Gr F H F' (upd (upd H dx (.own x)) x (.ins C dx []))∧F' x=none∧(upd (upd H dx (.own x)) x (.ins C dx [])) x=some (.ins C dx []):=by
  obtain⟨F1,g1,e1⟩:=al2 (o:=.own x) wd (by intro _ _ z;cases z) hd
  have h1:upd H dx (.own x) x=none:=by rw [a't (Ne.symm ne)];exact hx
  obtain⟨gb,sm,hb,oF,oH,_⟩:=b'M (o:=.ins C dx []) g1.toGr0 h1
  exact⟨F1,Gr.of gb g1.z,oF,oH⟩
theorem mkY {F H F1 H1 F2 H2:Hp} {C x dx:Addr} {o:HO} (fs:List (Str×V)) (g:Gr F H F1 H1) (hx:H x=none) (e1:F1 x=none) (h1:H1 x=some o) (g2:Gr F1 H1 F2 H2) :
    ∃ F',Gr F H F' (upd H2 x (.ins C dx fs))∧F' x=some (.ins C dx fs):=by
  have gb:=g.toGr0.tr g2
  obtain⟨gb',eH,_⟩:=g'm (o:=.ins C dx fs) gb hx (g2.own e1 h1)
  obtain⟨F',g',c',_,e,_⟩:=frz gb' (g2.fz g.z) hx (g2.own e1 h1) eH (by intro _ _ z;cases z)
  exact⟨F',Gr.of g' c',e⟩
theorem Gr.trans {F H F1 H1 F2 H2:Hp} (a:Gr F H F1 H1) (b:Gr F1 H1 F2 H2):Gr F H F2 H2:=Gr.of (a.toGr0.tr b) (b.fz a.z)
end Vc
namespace L2
open PySem PySem.Spec PyProof.Rows
inductive KEs (w:World):List DictEntry→List (Str×Value)→Prop
  | nil : KEs w [] []
  | cons {x : Str} {t : Tok} {v : Value} {es : List DictEntry} {kvs : List (Str × Value)} : KEs w es kvs → KEs w (⟨PyData.keyHash w.params x, .str x t, v⟩ :: es) ((x, v) :: kvs)
def KD (w:World) (K:PySem.W.Frag) (c:Addr) (kvs:List (Str×Value)):Prop:=
  ∃ (es:Array DictEntry) (ep:Nat),K.lookup c=some { cls:=.type "dict",data:=.dict es ep }∧KEs w es.toList kvs∧(kvs.map (·.1)).Nodup
theorem KEs.pairs {P:Program} {w:World} {es:List DictEntry} {kvs:List (Str×Value)} (h:KEs w es kvs):Pairs (mixKind P w) es (kvs.map fun p=>((Sum.inr p.1:Key),p.2)):=by
  induction h with
  | nil => exact .nil
  | cons _ ih => exact .cons (d'k P w _ _) rfl ih
theorem KEs.keys {P:Program} {w:World} {es:List DictEntry} {kvs:List (Str×Value)} (h:KEs w es kvs):∀ e∈es,∃ k,(mixKind P w).is k e.key=true∧e.hash=(mixKind P w).hash k:=by
  induction h with
  | nil => intro e z; cases z
  | cons _ ih =>
    intro e z
    rcases List.mem_cons.mp z with rfl | z
    · exact⟨.inr _,d'k P w _ _,rfl⟩
    · exact ih e z
theorem KD.dict {P:Program} {w:World} {K:PySem.W.Frag} {c:Addr} {kvs:List (Str×Value)} {h:Heap} (d:KD w K c kvs) (X:K.In h):h.DictOf (mixKind P w) c (kvs.map fun p=>((Sum.inr p.1:Key),p.2)):=by
  obtain⟨es,ep,lk,ke,nd⟩:=d
  refine⟨_,es,ep,X _ _ lk,⟨rfl,rfl,rfl⟩,rfl,fun e he=>ke.keys e (Array.mem_toList_iff.mpr he),ke.pairs,?_⟩
  rw [List.map_map]
  have:((fun p:Str×Value=>((Sum.inr p.1:Key),p.2)):Str×Value→Key×Value)=fun p=>(Sum.inr p.1,p.2):=rfl
  rw [show ((fun x:Key×Value=>x.1) ∘ fun p:Str×Value=>((Sum.inr p.1:Key),p.2))=(fun x=>(Sum.inr x:Key)) ∘ fun p:Str×Value=>p.1 from rfl,← List.map_map]
  exact List.Pairwise.map _ (fun x y (ne:x≠y) e=>ne (Sum.inr.inj e)) nd
theorem KD.at_ {kvs:List (Str×Value)} {x:Str} {u:Value} (h:kvs.lookup x=some u):valueAt (kvs.map fun p=>((Sum.inr p.1:Key),p.2)) (Sum.inr x)=some u:=by
  induction kvs with
  | nil => cases h
  | cons p r ih =>
    unfold valueAt
    rw [List.map_cons,List.find?_cons]
    by_cases e:p.1=x
    · subst e
      rw [List.lookup_cons,beq_self_eq_true] at h
      simp at h ⊢
      exact h
    · rw [List.lookup_cons,beq_false_of_ne (Ne.symm e)] at h
      have ne:¬ ((Sum.inr p.1:Key)=Sum.inr x):=fun z=>e (Sum.inr.inj z)
      simp only [ne,decide_false]
      exact ih h
def tDGetC (w:World) (K:PySem.W.Frag) (td ty:TE):TE:=fun σ H Q=>td σ H fun d H1=>ty σ H1 fun y H2=>∃ c kvs x a,d=.ref c∧KD w K c kvs∧y=.str x∧kvs.lookup x=some (.ref a)∧Q (.ref a) H2
section
variable {X:Cx} {o i:Expr} {pos:Pos} {td ty:TE}
theorem l'E (ho:PE X o td) (hi:PE X i ty) (hs:NoSl i):PE X (.Subscript o i pos) (tDGetC X.w X.K td ty):=by
  intro pins s σ H Q I h
  refine i'E PySem.F.slot_dict_getitem.lookup hs (thn (ho pins s σ H _ I h) fun u s1 ⟨d,H1,I1,rx,q1⟩=>thn (hi pins s1 σ H1 _ I1 q1) fun iv s2 ⟨y,H2,I2,ry,c,kvs,x,a,ed,kd,ey,l,q2⟩=>?_)
  subst ed
  subst ey
  obtain rfl:u=Value.ref c:=rx
  have dd:=kd.dict (P:=X.prog) I2.kIn
  exact⟨dd.typeIs,wpAny_getItem_of (e'z (k:=.inr x) ry) dd.mapOf (KD.at_ l) ⟨.ref a,H2,I2.tok _,rfl,q2⟩⟩
theorem m'S {w:World} {K:PySem.W.Frag} {σ:St} {H:Hp} {Q:VK} (h:td σ H fun d H1=>ty σ H1 fun y H2=>∃ c kvs x a,d=.ref c∧KD w K c kvs∧y=.str x∧kvs.lookup x=some (.ref a)∧Q (.ref a) H2):tDGetC w K td ty σ H Q:=h
end
end L2
namespace Vc
open PySem L2 Sf
def ownS (K:PySem.W.Frag) (F' H H':Hp) (v:V) (r:List (Str×Rat)×Rat):Prop:=
  ∃ p d kvs u,v=.ref p∧SqT K F' p [.ref d,u]∧rFr K F' u r.2∧H d=none∧H' d=some (.dK kvs)∧F' d=none∧Dk (rFr K) F' kvs r.1∧(r.1.map (·.1)).Nodup
def ownR (K:PySem.W.Frag) (F' H H':Hp) (v:V) (r:List (Str×Rat)×Str×Rat×Int×Int):Prop:=
  ∃ p d kvs u,v=.ref p∧SqT K F' p [.ref d,.str r.2.1,u,.int r.2.2.2.1,.int r.2.2.2.2]∧rFr K F' u r.2.2.1∧H d=none∧H' d=some (.dK kvs)∧F' d=none∧Dk (rFr K) F' kvs r.1∧(r.1.map (·.1)).Nodup
end Vc
namespace L2
open PySem PySem.Spec PyProof.Rows
def tMethA (D:Addr→Nat→Prop) (m:Str) (sp:Nat→Sp) (E:XK) (ta:TE) (t:TA):TE:=fun σ H Q=>ta σ H fun x H1=>∃ a C dx fs g,x=.ref a∧Rd H1 a (.ins C dx fs)∧D C g∧fs.lookup m=none∧t σ H1 fun vs H2=>sp g (x :: vs) H2 Q E
def MOkA (P:Program) (w:World) (K:PySem.W.Frag) (mg:Str→Option Value) (base:Heap) (CX:CXT) (k:Nat) (m:Str) (C:Addr) (ps:List Str) (sp:Sp):Prop:=
  Cls K C∧∃ f fd,Meth K C m f∧FnOk P w K mg base CX k f fd ps sp∧Binds K fd ps []
theorem MOkA.mono {P:Program} {w:World} {K:PySem.W.Frag} {mg:Str→Option Value} {base:Heap} {CX:CXT} {k k':Nat} {m:Str} {C:Addr} {ps:List Str} {sp:Sp} (h:MOkA P w K mg base CX k m C ps sp) (le:k≤k'):MOkA P w K mg base CX k' m C ps sp:=by
  obtain⟨c,f,fd,hm,F,hb⟩:=h
  exact⟨c,f,fd,hm,F.mono le,hb⟩
section
variable {X:Cx} {CX:CXT} {k:Nat} {E:XK} {m:Str} {ps:List Str} {pos apos:Pos} {o e:Expr} {es:List Expr} {ta:TE} {t:TA} {D:Addr→Nat→Prop} {sp:Nat→Sp}
theorem i'd {pl:Sem Bool} (he:PE X o ta) (hD:∀ C g,D C g→MOkA X.prog X.w X.K X.mg X.base CX k m C ps (sp g)) (hr:Room k X.A) (hx:Passes CX X E) (ha:PA X (e :: es) t)
    (hst:starEach (e :: es) X.env=(false,eval e X.env) :: starEach es X.env:=by rfl) (hpl:(backTo pos (starEach es X.env)).any (·.1)=false:=by rfl)
    (ht:eval (.Call (.Attribute o m apos) (e :: es) [] pos) X.env=(do
      let ov ← eval o X.env
      standAt apos.atName
      let (f,first) ← holding [ov] (getMethod ov m pl)
      callWith pos f first (backTo pos (starEach (e :: es) X.env)) (backToKw pos (keywordEach [] X.env))):=by rfl) :
    PE X (.Call (.Attribute o m apos) (e :: es) [] pos) (tMethA D m sp E ta t):=by
  intro pins s σ H Q I h
  refine PySem.W.methodCall_KW (pl:=pl) (thn (he pins s σ H _ I h) fun u s1 ⟨x,H1,I1,rx,a,C,dx,fs,g,ex,ea,d,l,q⟩=>?_) ht
  subst ex
  obtain rfl:u=Value.ref a:=rx
  obtain⟨c,f,fd,hm,F,hb⟩:=hD C g d
  obtain⟨mA,O,r⟩:=f'U I1.hok ea
  have hn:mA m=none:=RelO.none_of (by rw [← l];exact r m)
  refine h'y I1.kIn O (c.get m) hm.at_ hm.fn hn ?_
  refine PySem.W.callWith_K (first:=[.ref a]) (h₀:=X.base) I.ok.mod.kin hm.kp (thn (ha pos pins s1 σ H1 _ I1 q) fun us s2 ⟨vs,H2,I2,rv,q2⟩=>⟨I2.kIn,?_⟩) hst hpl
  exact h'z (us:=.ref a :: us) (vs:=.ref a :: vs) F hr hb .nil hx I2 (.cons rfl rv) (by rw [List.append_nil];exact q2)
theorem i'Z {σ:St} {H:Hp} {Q:VK} (h:ta σ H fun x H1=>∃ a C dx fs g,x=.ref a∧Rd H1 a (.ins C dx fs)∧D C g∧fs.lookup m=none∧t σ H1 fun vs H2=>sp g (x :: vs) H2 Q E):tMethA D m sp E ta t σ H Q:=h
end
end L2
namespace Vc
open PySem L2 Sf
theorem m'T {α:Type} {xs:List α} (h:0<xs.length):∃ ys x,xs=ys++[x]:=by
  have ne:xs≠[]:=fun z=>by rw [z] at h;exact Nat.lt_irrefl _ h
  exact⟨xs.dropLast,xs.getLast ne,(List.dropLast_concat_getLast ne).symm⟩
theorem Al.unsnoc {α:Type} {A:Rep α} {F:Hp}:∀ {vs:List V} {xs:List α} {x:α},Al A F vs (xs++[x])→∃ ws v,vs=ws++[v]∧Al A F ws xs∧A F v x
  | [v], [], x, h => ⟨[], v, rfl, True.intro, h.1⟩
  | v :: vs, y :: xs, x, h => by
    obtain⟨ws,u,e,al,r⟩:=Al.unsnoc (vs:=vs) (xs:=xs) (x:=x) h.2
    exact⟨v :: ws,u,by rw [e];rfl,⟨h.1,al⟩,r⟩
  | [], [], _, h => h.elim
  | [], _ :: _, _, h => h.elim
  | _ :: _ :: _, [], _, h => h.2.elim
theorem Al.pop {α:Type} {A:Rep α} {F:Hp} {vs:List V} {xs:List α} (h:Al A F vs xs) (hl:0<xs.length):∃ ws v ys x,vs=ws++[v]∧xs=ys++[x]∧Al A F ws ys∧A F v x:=by
  obtain⟨ys,x,e⟩:=m'T hl
  rw [e] at h
  obtain⟨ws,v,ev,al,r⟩:=Al.unsnoc h
  exact⟨ws,v,ys,x,ev,e,al,r⟩
section
variable {H:Hp} {Q:VK} {l:Addr}
theorem h'r {vs ws:List V} {v:V} (h:H l=some (.lst vs)) (e:vs=ws++[v]) (q:Q v (upd H l (.lst ws))):rPop (.ref l) [] H Q:=by
  refine⟨l,vs,v,rfl,rfl,h,?_,?_⟩
  · rw [e,List.length_append];simp
  · rw [e,List.dropLast_concat];exact q
theorem n'U {vs ws:List V} {v u:V} (h:H l=some (.lst vs)) (e:vs=(ws++[v])++[u]) (q:Q v (upd H l (.lst (ws++[u])))):rPopAt (.ref l) [.int (-2)] H Q:=by
  refine⟨l,vs,-2,ws.length,v,rfl,rfl,h,by decide,by decide,?_,?_,?_⟩
  · rw [e]
    unfold seqIndex?
    simp only [List.length_append,List.length_cons,List.length_nil]
    rw [if_pos (by decide:(-2:Int)<0)]
    have h1:(-2:Int)+((ws.length+(0+1)+(0+1):Nat):Int)=(ws.length:Int):=by omega
    rw [h1,if_pos (by simp;omega)]
    simp
  · rw [e,List.append_assoc,List.getElem?_append_right (Nat.le_refl _),Nat.sub_self];rfl
  · rw [e,List.append_assoc,List.eraseIdx_append_of_length_le (Nat.le_refl _),Nat.sub_self];exact q
theorem j'a {ws:List V} {v:V}:atI (ws++[v]) (-1)=some v:=by
  unfold atI ixN
  rw [if_neg (by decide:¬ (0:Int)≤-1),List.length_append,if_pos (by simp only [List.length_cons,List.length_nil];omega)]
  have e:((-1:Int)+((ws.length+[v].length:Nat):Int)).toNat=ws.length:=by simp only [List.length_cons,List.length_nil];omega
  rw [e]
  show (ws++[v])[ws.length]?=some v
  rw [List.getElem?_append_right (Nat.le_refl _),Nat.sub_self]
  rfl
end
end Vc
namespace L2
open PySem PySem.Spec PyProof.Rows
theorem l'F {X:Cx} {td:TE} {σ:St} {H:Hp} {R:It→Hp→Prop} (h:td σ H fun x H1=>∃ a kvs,x=.ref a∧H1 a=some (.dK kvs)∧∀ ob,(∀ o u,X.H₀ a≠some (.frz o u))→R (Itd a ob kvs) (upd H1 a (.frz ob (.dK kvs)))):iItems X td σ H R:=h
section
variable {g:TG} {ti:TT} {te:TE} {ix:List (Option Nat)} {σ:St} {Q:VK}
theorem m'U {a:Addr} {ob:Obj} {kvs:List (Key×V)} {H1:Hp} (Pv:Nat→List V→Hp→Prop) (h0:Pv 0 [] H1) (hl:∀ i acc H,i≤kvs.length→Pv i acc H→H a=some (.frz ob (.dK kvs)))
    (hs:∀ i k v acc H p,kvs[i]?=some (k,v)→Pv i acc H→H p=none→g (.ref p) (pickS ix σ) (upd H p (.tup [kV k,v])) fun σ2 H2=>Wk (pickS ix σ) σ2∧ti σ2 H2 fun b H3=>if b=true then te σ2 H3 fun v H4=>acc.length<sizeLine∧Pv (i+1) (acc++[v]) H4 else Pv (i+1) acc H3)
    (hd:∀ acc H,Pv kvs.length acc H→acc.length≤sizeLine∧∀ p,H p=none→Q (.ref p) (upd H p (.lst acc))):CompW (Itd a ob kvs) g ti te ix σ Q H1:=by
  refine l'Z (n:=kvs.length) Pv h0 (fun i acc H hi p=>⟨hi,hl i acc H (Nat.le_of_lt hi) p⟩) (fun acc H p=>⟨Nat.le_refl _,hl _ acc H (Nat.le_refl _) p⟩) (fun i x acc H H' hi p y=>?_) hd
  obtain⟨pa,k,v,e1,e2,rfl,rfl⟩:=y
  exact hs i k v acc H pa e1 p e2
end
end L2
namespace Vc
open PySem L2 Sf
theorem n'V {K:PySem.W.Frag} {F H:Hp} {Q:VK} {p:Addr} {vs:List V} {xs:List Str} {x:Str} (h:SqL K H p vs) (al:Al rS F vs xs) (q:Q (.bl (!decide (x∈xs))) H):rIn K true (.str x) (.ref p) H Q:=by
  refine⟨p,vs,rfl,.inl h,rfl,?_,?_⟩
  · rw [al.strs];exact c'G xs
  · rw [al.strs,if_pos rfl,d'a];exact q
end Vc
namespace Vc
open PySem L2 Sf
theorem gr3 {Fb Hb F H F' H':Hp} {S:Addr→Prop} (gb:Gr0 Fb Hb F H) (cm:Fz S F) (g:Gr F H F' H'):Gr0 Fb Hb F' H'∧Le F F'∧Fz S F':=⟨gb.tr g,g.le,g.fz cm⟩
end Vc
namespace L2
open PySem PySem.Spec PyProof.Rows
def FnIn (K:PySem.W.Frag) (x qual:Str) (st:Stmt) (f:Addr):Prop:=∃ fd,Fun K x qual st f fd
theorem fnin {K:PySem.W.Frag} {x qual:Str} {st:Stmt} {f:Addr} {oc:Value} {od an:Option Addr} {osl:Array (Option Value)} {kV doc pm cdv ct:Value} (l:K.lookup f=some ⟨oc,od,.func (PySem.W.fnOf x qual (defArgs st) (defBody st) (defScope st) .none kV doc pm an cdv ct),osl⟩)
    (c:PySem.W.codeIn K cdv qual=true) (k:PySem.W.keepIn K (.ref f)=true):FnIn K x qual st f:=⟨_,n'v l c k⟩
theorem FnIn.kp {K:PySem.W.Frag} {x qual:Str} {st:Stmt} {f:Addr} (h:FnIn K x qual st f):PySem.W.keepIn K (.ref f)=true:=h.choose_spec.kp
end L2
namespace Sf
open PySem L2 Vc
def inClass (s:Stmt) (j:Nat):Stmt:=match s with
  | .ClassDef _ _ _ body _ _ _ _ _ _ _ => body.getD j (.Pass ⟨0, 0, 0, 0⟩)
  | _ => .Pass ⟨0, 0, 0, 0⟩
def top (i:Nat):Stmt:=PySem.Challenge.pw_springframe_k12_rows_and_misses.main.body.getD i (.Pass ⟨0,0,0,0⟩)
abbrev s_part:Stmt:=top 6
abbrev s_greatest_divisor:Stmt:=top 7
abbrev s_plus:Stmt:=top 8
abbrev s_minus:Stmt:=top 9
abbrev s_times:Stmt:=top 10
abbrev s_under:Stmt:=top 11
abbrev s_made:Stmt:=top 14
abbrev s_added:Stmt:=top 15
abbrev s_reduced:Stmt:=top 16
abbrev s_scaled:Stmt:=top 17
abbrev s_value_at:Stmt:=top 18
abbrev s_sum_at:Stmt:=top 20
abbrev s_missed:Stmt:=top 21
abbrev s_unknown_of:Stmt:=top 36
abbrev s_way_of:Stmt:=top 37
abbrev s_law_cell_at:Stmt:=top 46
abbrev s_law_mixed:Stmt:=top 47
abbrev s_law_shared:Stmt:=top 48
abbrev s_law_lowest:Stmt:=top 49
abbrev s_law_number:Stmt:=top 50
abbrev s_law_edge:Stmt:=top 51
abbrev s_law_term:Stmt:=top 52
abbrev s_law_placing:Stmt:=top 53
abbrev s_law_at:Stmt:=top 54
abbrev s_law_same:Stmt:=top 55
abbrev s_law_one_class:Stmt:=top 56
abbrev s_law_wish:Stmt:=top 57
abbrev s_law_miss:Stmt:=top 58
abbrev s_law_less:Stmt:=top 59
abbrev s_law_right:Stmt:=top 60
abbrev s_law:Stmt:=top 61
abbrev s_Number___init__:Stmt:=inClass (top 40) 0
abbrev s_Term_edges:Stmt:=inClass (top 39) 0
abbrev s_Term_ways:Stmt:=inClass (top 39) 1
abbrev s_Number_worth:Stmt:=inClass (top 40) 1
abbrev s_Edge___init__:Stmt:=inClass (top 41) 0
abbrev s_Edge_edges:Stmt:=inClass (top 41) 1
abbrev s_Edge_worth:Stmt:=inClass (top 41) 2
abbrev s_Times___init__:Stmt:=inClass (top 42) 0
abbrev s_Times_edges:Stmt:=inClass (top 42) 1
abbrev s_Times_worth:Stmt:=inClass (top 42) 2
abbrev s_Plus___init__:Stmt:=inClass (top 43) 0
abbrev s_Plus_edges:Stmt:=inClass (top 43) 1
abbrev s_Plus_worth:Stmt:=inClass (top 43) 2
abbrev s_Minus___init__:Stmt:=inClass (top 44) 0
abbrev s_Minus_edges:Stmt:=inClass (top 44) 1
abbrev s_Minus_worth:Stmt:=inClass (top 44) 2
abbrev s_Wish___init__:Stmt:=inClass (top 25) 0
abbrev s_Wish_way:Stmt:=inClass (top 25) 2
abbrev s_Wish_row:Stmt:=inClass (top 25) 3
abbrev s_Wish_missed:Stmt:=inClass (top 25) 4
abbrev s_Just_kind:Stmt:=inClass (top 26) 0
abbrev s_AtLeast_kind:Stmt:=inClass (top 27) 0
abbrev s_AtMost_kind:Stmt:=inClass (top 28) 0
theorem sc_part:FnScope ["top","bottom","divisor"] ["top","bottom"] (defScope s_part):=⟨rfl,rfl,rfl,by decide +kernel,rfl,by decide +kernel,by decide +kernel⟩
theorem sc_greatest_divisor:FnScope ["one","other","remainder"] ["one","other"] (defScope s_greatest_divisor):=⟨rfl,rfl,rfl,by decide +kernel,rfl,by decide +kernel,by decide +kernel⟩
theorem m'V:FnScope ["one","other"] ["one","other"] (defScope s_plus):=⟨rfl,rfl,rfl,by decide +kernel,rfl,by decide +kernel,by decide +kernel⟩
theorem l'G:FnScope ["one","other"] ["one","other"] (defScope s_minus):=⟨rfl,rfl,rfl,by decide +kernel,rfl,by decide +kernel,by decide +kernel⟩
theorem l'H:FnScope ["one","other"] ["one","other"] (defScope s_times):=⟨rfl,rfl,rfl,by decide +kernel,rfl,by decide +kernel,by decide +kernel⟩
theorem l'I:FnScope ["one","other"] ["one","other"] (defScope s_under):=⟨rfl,rfl,rfl,by decide +kernel,rfl,by decide +kernel,by decide +kernel⟩
theorem sc_made:FnScope ["parts","rest","kept","unknown","number"] ["parts","rest"] (defScope s_made):=⟨rfl,rfl,rfl,by decide +kernel,rfl,by decide +kernel,by decide +kernel⟩
theorem sc_added:FnScope ["one","other","together","unknown","number"] ["one","other"] (defScope s_added):=⟨rfl,rfl,rfl,by decide +kernel,rfl,by decide +kernel,by decide +kernel⟩
theorem j'I:FnScope ["one","other"] ["one","other"] (defScope s_reduced):=⟨rfl,rfl,rfl,by decide +kernel,rfl,by decide +kernel,by decide +kernel⟩
theorem sc_scaled:FnScope ["one","number","grown","unknown","fraction"] ["one","number"] (defScope s_scaled):=⟨rfl,rfl,rfl,by decide +kernel,rfl,by decide +kernel,by decide +kernel⟩
theorem sc_value_at:FnScope ["one","placing","total","unknown","number"] ["one","placing"] (defScope s_value_at):=⟨rfl,rfl,rfl,by decide +kernel,rfl,by decide +kernel,by decide +kernel⟩
theorem k'R:FnScope ["one","placing"] ["one","placing"] (defScope s_sum_at):=⟨rfl,rfl,rfl,by decide +kernel,rfl,by decide +kernel,by decide +kernel⟩
theorem sc_missed:FnScope ["one","placing","lead"] ["one","placing"] (defScope s_missed):=⟨rfl,rfl,rfl,by decide +kernel,rfl,by decide +kernel,by decide +kernel⟩
theorem h'd:FnScope ["word","name"] ["word","name"] (defScope s_unknown_of):=⟨rfl,rfl,rfl,by decide +kernel,rfl,by decide +kernel,by decide +kernel⟩
theorem k'S:FnScope ["word"] ["word"] (defScope s_way_of):=⟨rfl,rfl,rfl,by decide +kernel,rfl,by decide +kernel,by decide +kernel⟩
theorem g'p:FnScope ["_law_script","_law_k"] ["_law_script","_law_k"] (defScope s_law_cell_at):=⟨rfl,rfl,rfl,by decide +kernel,rfl,by decide +kernel,by decide +kernel⟩
theorem sc_law_mixed:FnScope ["_law_cell","_law_k","_law_number_here"] ["_law_cell","_law_k"] (defScope s_law_mixed):=⟨rfl,rfl,rfl,by decide +kernel,rfl,by decide +kernel,by decide +kernel⟩
theorem sc_law_shared:FnScope ["_law_one","_law_other"] ["_law_one","_law_other"] (defScope s_law_shared):=⟨rfl,rfl,rfl,by decide +kernel,rfl,by decide +kernel,by decide +kernel⟩
theorem sc_law_lowest:FnScope ["_law_top","_law_bottom","_law_shared_here"] ["_law_top","_law_bottom"] (defScope s_law_lowest):=⟨rfl,rfl,rfl,by decide +kernel,rfl,by decide +kernel,by decide +kernel⟩
theorem sc_law_number:FnScope ["_law_cell","_law_top"] ["_law_cell"] (defScope s_law_number):=⟨rfl,rfl,rfl,by decide +kernel,rfl,by decide +kernel,by decide +kernel⟩
theorem sc_law_edge:FnScope ["_law_cell","_law_down","_law_words","_law_name"] ["_law_cell","_law_down"] (defScope s_law_edge):=⟨rfl,rfl,rfl,by decide +kernel,rfl,by decide +kernel,by decide +kernel⟩
theorem sc_law_term:FnScope ["_law_cells","_law_down","_law_held","_law_cell","_law_way","_law_other"] ["_law_cells","_law_down"] (defScope s_law_term):=⟨rfl,rfl,rfl,by decide +kernel,rfl,by decide +kernel,by decide +kernel⟩
theorem sc_law_placing:FnScope ["_law_cell","_law_placing_here","_law_k","_law_word","_law_j","_law_name","_law_top"] ["_law_cell"] (defScope s_law_placing):=⟨rfl,rfl,rfl,by decide +kernel,rfl,by decide +kernel,by decide +kernel⟩
theorem sc_law_at:FnScope ["_law_parts","_law_rest","_law_placing_here","_law_top","_law_bottom","_law_unknown","_law_number_here","_law_one","_law_up","_law_down"] ["_law_parts","_law_rest","_law_placing_here"] (defScope s_law_at):=⟨rfl,rfl,rfl,by decide +kernel,rfl,by decide +kernel,by decide +kernel⟩
theorem i'v:FnScope ["_law_found","_law_due"] ["_law_found","_law_due"] (defScope s_law_same):=⟨rfl,rfl,rfl,by decide +kernel,rfl,by decide +kernel,by decide +kernel⟩
theorem sc_law_one_class:FnScope ["_law_wish_here","_law_kind","_law_found"] ["_law_wish_here","_law_kind"] (defScope s_law_one_class):=⟨rfl,rfl,rfl,by decide +kernel,rfl,by decide +kernel,by decide +kernel⟩
theorem i'w:FnScope ["_law_kind","_law_near","_law_far","_law_rank","_law_weight"] ["_law_kind","_law_near","_law_far","_law_rank","_law_weight"] (defScope s_law_wish):=⟨rfl,rfl,rfl,by decide +kernel,rfl,by decide +kernel,by decide +kernel⟩
theorem i'x:FnScope ["_law_kind","_law_gap"] ["_law_kind","_law_gap"] (defScope s_law_miss):=⟨rfl,rfl,rfl,by decide +kernel,rfl,by decide +kernel,by decide +kernel⟩
theorem sc_law_less:FnScope ["_law_near","_law_far","_law_placing_here","_law_one","_law_other","_law_a","_law_b"] ["_law_near","_law_far","_law_placing_here"] (defScope s_law_less):=⟨rfl,rfl,rfl,by decide +kernel,rfl,by decide +kernel,by decide +kernel⟩
theorem sc_law_right:FnScope ["_law_wish_here","_law_kind","_law_gap","_law_rank","_law_weight","_law_placing_here","_law_told","_law_come","_law_due","_law_kept","_law_handed"] ["_law_wish_here","_law_kind","_law_gap","_law_rank","_law_weight","_law_placing_here"] (defScope s_law_right):=⟨rfl,rfl,rfl,by decide +kernel,rfl,by decide +kernel,by decide +kernel⟩
theorem sc_law:FnScope ["_law_script","_law_first","_law_down","_law_near","_law_far","_law_rank","_law_weight","_law_placing_here","_law_gap","_law_top","_law_kind","_law_wish_here"] ["_law_script"] (defScope s_law):=⟨rfl,rfl,rfl,by decide +kernel,rfl,by decide +kernel,by decide +kernel⟩
theorem e'r:FnScope ["self","number"] ["self","number"] (defScope s_Number___init__):=⟨rfl,rfl,rfl,by decide +kernel,rfl,by decide +kernel,by decide +kernel⟩
theorem h'e:FnScope ["self"] ["self"] (defScope s_Term_edges):=⟨rfl,rfl,rfl,by decide +kernel,rfl,by decide +kernel,by decide +kernel⟩
theorem i'e:FnScope ["self"] ["self"] (defScope s_Term_ways):=⟨rfl,rfl,rfl,by decide +kernel,rfl,by decide +kernel,by decide +kernel⟩
theorem f'V:FnScope ["self"] ["self"] (defScope s_Number_worth):=⟨rfl,rfl,rfl,by decide +kernel,rfl,by decide +kernel,by decide +kernel⟩
theorem f'm:FnScope ["self","word","name"] ["self","word","name"] (defScope s_Edge___init__):=⟨rfl,rfl,rfl,by decide +kernel,rfl,by decide +kernel,by decide +kernel⟩
theorem h'f:FnScope ["self"] ["self"] (defScope s_Edge_edges):=⟨rfl,rfl,rfl,by decide +kernel,rfl,by decide +kernel,by decide +kernel⟩
theorem sc_Edge_worth:FnScope ["self","parts","word","share"] ["self"] (defScope s_Edge_worth):=⟨rfl,rfl,rfl,by decide +kernel,rfl,by decide +kernel,by decide +kernel⟩
theorem e'T:FnScope ["self","number","inner"] ["self","number","inner"] (defScope s_Times___init__):=⟨rfl,rfl,rfl,by decide +kernel,rfl,by decide +kernel,by decide +kernel⟩
theorem d'D:FnScope ["self"] ["self"] (defScope s_Times_edges):=⟨rfl,rfl,rfl,by decide +kernel,rfl,by decide +kernel,by decide +kernel⟩
theorem d'E:FnScope ["self"] ["self"] (defScope s_Times_worth):=⟨rfl,rfl,rfl,by decide +kernel,rfl,by decide +kernel,by decide +kernel⟩
theorem f'n:FnScope ["self","one","other"] ["self","one","other"] (defScope s_Plus___init__):=⟨rfl,rfl,rfl,by decide +kernel,rfl,by decide +kernel,by decide +kernel⟩
theorem e'a:FnScope ["self"] ["self"] (defScope s_Plus_edges):=⟨rfl,rfl,rfl,by decide +kernel,rfl,by decide +kernel,by decide +kernel⟩
theorem e'b:FnScope ["self"] ["self"] (defScope s_Plus_worth):=⟨rfl,rfl,rfl,by decide +kernel,rfl,by decide +kernel,by decide +kernel⟩
theorem e'U:FnScope ["self","one","other"] ["self","one","other"] (defScope s_Minus___init__):=⟨rfl,rfl,rfl,by decide +kernel,rfl,by decide +kernel,by decide +kernel⟩
theorem d'F:FnScope ["self"] ["self"] (defScope s_Minus_edges):=⟨rfl,rfl,rfl,by decide +kernel,rfl,by decide +kernel,by decide +kernel⟩
theorem d'G:FnScope ["self"] ["self"] (defScope s_Minus_worth):=⟨rfl,rfl,rfl,by decide +kernel,rfl,by decide +kernel,by decide +kernel⟩
theorem f'o:FnScope ["self","near","far","rank","weight"] ["self","near","far","rank","weight"] (defScope s_Wish___init__):=⟨rfl,rfl,rfl,by decide +kernel,rfl,by decide +kernel,by decide +kernel⟩
theorem i'y:FnScope ["self"] ["self"] (defScope s_Wish_way):=⟨rfl,rfl,rfl,by decide +kernel,rfl,by decide +kernel,by decide +kernel⟩
theorem sc_Wish_row:FnScope ["self","lead"] ["self"] (defScope s_Wish_row):=⟨rfl,rfl,rfl,by decide +kernel,rfl,by decide +kernel,by decide +kernel⟩
theorem g'q:FnScope ["self","placing"] ["self","placing"] (defScope s_Wish_missed):=⟨rfl,rfl,rfl,by decide +kernel,rfl,by decide +kernel,by decide +kernel⟩
theorem i'f:FnScope ["self"] ["self"] (defScope s_Just_kind):=⟨rfl,rfl,rfl,by decide +kernel,rfl,by decide +kernel,by decide +kernel⟩
theorem f'W:FnScope ["self"] ["self"] (defScope s_AtLeast_kind):=⟨rfl,rfl,rfl,by decide +kernel,rfl,by decide +kernel,by decide +kernel⟩
theorem g'r:FnScope ["self"] ["self"] (defScope s_AtMost_kind):=⟨rfl,rfl,rfl,by decide +kernel,rfl,by decide +kernel,by decide +kernel⟩
inductive Ex2 {A1 A2:Type} (p:A1→A2→Prop):Prop where | mk (a1:A1) (a2:A2) (h:p a1 a2):Ex2 p
inductive Ex3 {A1 A2 A3:Type} (p:A1→A2→A3→Prop):Prop where | mk (a1:A1) (a2:A2) (a3:A3) (h:p a1 a2 a3):Ex3 p
inductive Ex4 {A1 A2 A3 A4:Type} (p:A1→A2→A3→A4→Prop):Prop where | mk (a1:A1) (a2:A2) (a3:A3) (a4:A4) (h:p a1 a2 a3 a4):Ex4 p
inductive Ex5 {A1 A2 A3 A4 A5:Type} (p:A1→A2→A3→A4→A5→Prop):Prop where | mk (a1:A1) (a2:A2) (a3:A3) (a4:A4) (a5:A5) (h:p a1 a2 a3 a4 a5):Ex5 p
inductive Ex6 {A1 A2 A3 A4 A5 A6:Type} (p:A1→A2→A3→A4→A5→A6→Prop):Prop where | mk (a1:A1) (a2:A2) (a3:A3) (a4:A4) (a5:A5) (a6:A6) (h:p a1 a2 a3 a4 a5 a6):Ex6 p
inductive Ex7 {A1 A2 A3 A4 A5 A6 A7:Type} (p:A1→A2→A3→A4→A5→A6→A7→Prop):Prop where | mk (a1:A1) (a2:A2) (a3:A3) (a4:A4) (a5:A5) (a6:A6) (a7:A7) (h:p a1 a2 a3 a4 a5 a6 a7):Ex7 p
inductive Ex8 {A1 A2 A3 A4 A5 A6 A7 A8:Type} (p:A1→A2→A3→A4→A5→A6→A7→A8→Prop):Prop where | mk (a1:A1) (a2:A2) (a3:A3) (a4:A4) (a5:A5) (a6:A6) (a7:A7) (a8:A8) (h:p a1 a2 a3 a4 a5 a6 a7 a8):Ex8 p
inductive Ex11 {A1 A2 A3 A4 A5 A6 A7 A8 A9 A10 A11:Type} (p:A1→A2→A3→A4→A5→A6→A7→A8→A9→A10→A11→Prop):Prop where | mk (a1:A1) (a2:A2) (a3:A3) (a4:A4) (a5:A5) (a6:A6) (a7:A7) (a8:A8) (a9:A9) (a10:A10) (a11:A11) (h:p a1 a2 a3 a4 a5 a6 a7 a8 a9 a10 a11):Ex11 p
inductive Ex13 {A1 A2 A3 A4 A5 A6 A7 A8 A9 A10 A11 A12 A13:Type} (p:A1→A2→A3→A4→A5→A6→A7→A8→A9→A10→A11→A12→A13→Prop):Prop where | mk (a1:A1) (a2:A2) (a3:A3) (a4:A4) (a5:A5) (a6:A6) (a7:A7) (a8:A8) (a9:A9) (a10:A10) (a11:A11) (a12:A12) (a13:A13) (h:p a1 a2 a3 a4 a5 a6 a7 a8 a9 a10 a11 a12 a13):Ex13 p
inductive Cj4 (p1 p2 p3 p4:Prop):Prop where | mk (h1:p1) (h2:p2) (h3:p3) (h4:p4):Cj4 p1 p2 p3 p4
inductive Cj5 (p1 p2 p3 p4 p5:Prop):Prop where | mk (h1:p1) (h2:p2) (h3:p3) (h4:p4) (h5:p5):Cj5 p1 p2 p3 p4 p5
inductive Cj6 (p1 p2 p3 p4 p5 p6:Prop):Prop where | mk (h1:p1) (h2:p2) (h3:p3) (h4:p4) (h5:p5) (h6:p6):Cj6 p1 p2 p3 p4 p5 p6
inductive Cj7 (p1 p2 p3 p4 p5 p6 p7:Prop):Prop where | mk (h1:p1) (h2:p2) (h3:p3) (h4:p4) (h5:p5) (h6:p6) (h7:p7):Cj7 p1 p2 p3 p4 p5 p6 p7
inductive Cj8 (p1 p2 p3 p4 p5 p6 p7 p8:Prop):Prop where | mk (h1:p1) (h2:p2) (h3:p3) (h4:p4) (h5:p5) (h6:p6) (h7:p7) (h8:p8):Cj8 p1 p2 p3 p4 p5 p6 p7 p8
inductive Cj9 (p1 p2 p3 p4 p5 p6 p7 p8 p9:Prop):Prop where | mk (h1:p1) (h2:p2) (h3:p3) (h4:p4) (h5:p5) (h6:p6) (h7:p7) (h8:p8) (h9:p9):Cj9 p1 p2 p3 p4 p5 p6 p7 p8 p9
inductive Cj11 (p1 p2 p3 p4 p5 p6 p7 p8 p9 p10 p11:Prop):Prop where | mk (h1:p1) (h2:p2) (h3:p3) (h4:p4) (h5:p5) (h6:p6) (h7:p7) (h8:p8) (h9:p9) (h10:p10) (h11:p11):Cj11 p1 p2 p3 p4 p5 p6 p7 p8 p9 p10 p11
inductive Cj12 (p1 p2 p3 p4 p5 p6 p7 p8 p9 p10 p11 p12:Prop):Prop where | mk (h1:p1) (h2:p2) (h3:p3) (h4:p4) (h5:p5) (h6:p6) (h7:p7) (h8:p8) (h9:p9) (h10:p10) (h11:p11) (h12:p12):Cj12 p1 p2 p3 p4 p5 p6 p7 p8 p9 p10 p11 p12
def shrT:List (Str×List (Str×Rat)):=[("left",[("left",Rat.divInt 1 1)]),("width",[("width",Rat.divInt 1 1)]),("right",[("left",Rat.divInt 1 1),("width",Rat.divInt 1 1)]),("middle",[("left",Rat.divInt 1 1),("width",Rat.divInt 1 2)]),("gap",[("gap",Rat.divInt 1 1)]),("top",[("top",Rat.divInt 1 1)]),("height",[("height",Rat.divInt 1 1)]),("bottom",[("top",Rat.divInt 1 1),("height",Rat.divInt 1 1)]),("centre",[("top",Rat.divInt 1 1),("height",Rat.divInt 1 2)]),("drop",[("drop",Rat.divInt 1 1)])]
def KD_WORTHS (w:World) (K:PySem.W.Frag) (c:Addr):Prop:=∃ kvs,KD w K c kvs∧∀ x xs,(x,xs)∈shrT→∃ a vs,kvs.lookup x=some (.ref a)∧SqT K (fun _=>none) a vs∧Al (r2 K rS (rFr K)) (fun _=>none) vs xs
theorem b'I {K:PySem.W.Frag} {a f:Addr} {y:Str} {t b:Int} {o p:Obj} {n m:Nat} {x u v:Tok} (h1:K.lookup a=some o) (c1:o.cls=.type "tuple") (d1:o.data=.seq #[Value.str y x,Value.ref f] n) (h2:K.lookup f=some p) (c2:p.cls=.type "tuple") (d2:p.data=.seq #[Value.int t u,Value.int b v] m) (e:fr (Rat.divInt t b)=[.int t,.int b]):r2 K rS (rFr K) (fun _=>none) (.ref a) (y,Rat.divInt t b):=
  ⟨a,.str y,.ref f,rfl,.inr ⟨_,_,_,h1,c1,d1,(by show 2≤sizeLine;decide),.cons ⟨_,rfl⟩ (.cons rfl .nil)⟩,rfl,⟨f,rfl,.inr ⟨_,_,_,h2,c2,d2,(by show 2≤sizeLine;decide),by rw [e];exact .cons ⟨_,rfl⟩ (.cons ⟨_,rfl⟩ .nil)⟩⟩⟩
theorem kd_WORTHS_mk {w:World} {K:PySem.W.Frag} {kc_WORTHS:Addr} {kp:Nat} {ka0:Addr} {kt0:Tok} {kd0:Option Addr} {ks0:Array (Option Value)} {kz0:Nat} {ka1:Addr} {kt1:Tok} {kd1:Option Addr} {ks1:Array (Option Value)} {kz1:Nat} {ka2:Addr} {kt2:Tok} {kd2:Option Addr} {ks2:Array (Option Value)} {kz2:Nat} {ka3:Addr} {kt3:Tok} {kd3:Option Addr} {ks3:Array (Option Value)} {kz3:Nat} {ka4:Addr} {kt4:Tok} {kd4:Option Addr} {ks4:Array (Option Value)} {kz4:Nat} {ka5:Addr} {kt5:Tok} {kd5:Option Addr} {ks5:Array (Option Value)} {kz5:Nat} {ka6:Addr} {kt6:Tok} {kd6:Option Addr} {ks6:Array (Option Value)} {kz6:Nat} {ka7:Addr} {kt7:Tok} {kd7:Option Addr} {ks7:Array (Option Value)} {kz7:Nat} {ka8:Addr} {kt8:Tok} {kd8:Option Addr} {ks8:Array (Option Value)} {kz8:Nat} {ka9:Addr} {kt9:Tok} {kd9:Option Addr} {ks9:Array (Option Value)} {kz9:Nat} {kb0_0 kf0_0:Addr} {kx0_0 ky0_0 kw0_0:Tok} {kg0_0 kh0_0:Option Addr} {kr0_0 kv0_0:Array (Option Value)} {ku0_0 ko0_0:Nat} {kb1_0 kf1_0:Addr} {kx1_0 ky1_0 kw1_0:Tok} {kg1_0 kh1_0:Option Addr} {kr1_0 kv1_0:Array (Option Value)} {ku1_0 ko1_0:Nat} {kb2_0 kf2_0:Addr} {kx2_0 ky2_0 kw2_0:Tok} {kg2_0 kh2_0:Option Addr} {kr2_0 kv2_0:Array (Option Value)} {ku2_0 ko2_0:Nat} {kb2_1 kf2_1:Addr} {kx2_1 ky2_1 kw2_1:Tok} {kg2_1 kh2_1:Option Addr} {kr2_1 kv2_1:Array (Option Value)} {ku2_1 ko2_1:Nat} {kb3_0 kf3_0:Addr} {kx3_0 ky3_0 kw3_0:Tok} {kg3_0 kh3_0:Option Addr} {kr3_0 kv3_0:Array (Option Value)} {ku3_0 ko3_0:Nat} {kb3_1 kf3_1:Addr} {kx3_1 ky3_1 kw3_1:Tok} {kg3_1 kh3_1:Option Addr} {kr3_1 kv3_1:Array (Option Value)} {ku3_1 ko3_1:Nat} {kb4_0 kf4_0:Addr} {kx4_0 ky4_0 kw4_0:Tok} {kg4_0 kh4_0:Option Addr} {kr4_0 kv4_0:Array (Option Value)} {ku4_0 ko4_0:Nat} {kb5_0 kf5_0:Addr} {kx5_0 ky5_0 kw5_0:Tok} {kg5_0 kh5_0:Option Addr} {kr5_0 kv5_0:Array (Option Value)} {ku5_0 ko5_0:Nat} {kb6_0 kf6_0:Addr} {kx6_0 ky6_0 kw6_0:Tok} {kg6_0 kh6_0:Option Addr} {kr6_0 kv6_0:Array (Option Value)} {ku6_0 ko6_0:Nat} {kb7_0 kf7_0:Addr} {kx7_0 ky7_0 kw7_0:Tok} {kg7_0 kh7_0:Option Addr} {kr7_0 kv7_0:Array (Option Value)} {ku7_0 ko7_0:Nat} {kb7_1 kf7_1:Addr} {kx7_1 ky7_1 kw7_1:Tok} {kg7_1 kh7_1:Option Addr} {kr7_1 kv7_1:Array (Option Value)} {ku7_1 ko7_1:Nat} {kb8_0 kf8_0:Addr} {kx8_0 ky8_0 kw8_0:Tok} {kg8_0 kh8_0:Option Addr} {kr8_0 kv8_0:Array (Option Value)} {ku8_0 ko8_0:Nat} {kb8_1 kf8_1:Addr} {kx8_1 ky8_1 kw8_1:Tok} {kg8_1 kh8_1:Option Addr} {kr8_1 kv8_1:Array (Option Value)} {ku8_1 ko8_1:Nat} {kb9_0 kf9_0:Addr} {kx9_0 ky9_0 kw9_0:Tok} {kg9_0 kh9_0:Option Addr} {kr9_0 kv9_0:Array (Option Value)} {ku9_0 ko9_0:Nat}
 (kl:K.lookup kc_WORTHS=some { cls:=.type "dict",data:=.dict #[⟨PyData.keyHash w.params "left",.str "left" kt0,.ref ka0⟩,⟨PyData.keyHash w.params "width",.str "width" kt1,.ref ka1⟩,⟨PyData.keyHash w.params "right",.str "right" kt2,.ref ka2⟩,⟨PyData.keyHash w.params "middle",.str "middle" kt3,.ref ka3⟩,⟨PyData.keyHash w.params "gap",.str "gap" kt4,.ref ka4⟩,⟨PyData.keyHash w.params "top",.str "top" kt5,.ref ka5⟩,⟨PyData.keyHash w.params "height",.str "height" kt6,.ref ka6⟩,⟨PyData.keyHash w.params "bottom",.str "bottom" kt7,.ref ka7⟩,⟨PyData.keyHash w.params "centre",.str "centre" kt8,.ref ka8⟩,⟨PyData.keyHash w.params "drop",.str "drop" kt9,.ref ka9⟩] kp })
 (kl0:K.lookup ka0=some ⟨.type "tuple",kd0,.seq #[Value.ref kb0_0] kz0,ks0⟩)
 (km0_0:K.lookup kb0_0=some ⟨.type "tuple",kg0_0,.seq #[Value.str "left" kx0_0,Value.ref kf0_0] ku0_0,kr0_0⟩)
 (kq0_0:K.lookup kf0_0=some ⟨.type "tuple",kh0_0,.seq #[Value.int 1 ky0_0,Value.int 1 kw0_0] ko0_0,kv0_0⟩)
 (kl1:K.lookup ka1=some ⟨.type "tuple",kd1,.seq #[Value.ref kb1_0] kz1,ks1⟩)
 (km1_0:K.lookup kb1_0=some ⟨.type "tuple",kg1_0,.seq #[Value.str "width" kx1_0,Value.ref kf1_0] ku1_0,kr1_0⟩)
 (kq1_0:K.lookup kf1_0=some ⟨.type "tuple",kh1_0,.seq #[Value.int 1 ky1_0,Value.int 1 kw1_0] ko1_0,kv1_0⟩)
 (kl2:K.lookup ka2=some ⟨.type "tuple",kd2,.seq #[Value.ref kb2_0,Value.ref kb2_1] kz2,ks2⟩)
 (km2_0:K.lookup kb2_0=some ⟨.type "tuple",kg2_0,.seq #[Value.str "left" kx2_0,Value.ref kf2_0] ku2_0,kr2_0⟩)
 (kq2_0:K.lookup kf2_0=some ⟨.type "tuple",kh2_0,.seq #[Value.int 1 ky2_0,Value.int 1 kw2_0] ko2_0,kv2_0⟩)
 (km2_1:K.lookup kb2_1=some ⟨.type "tuple",kg2_1,.seq #[Value.str "width" kx2_1,Value.ref kf2_1] ku2_1,kr2_1⟩)
 (kq2_1:K.lookup kf2_1=some ⟨.type "tuple",kh2_1,.seq #[Value.int 1 ky2_1,Value.int 1 kw2_1] ko2_1,kv2_1⟩)
 (kl3:K.lookup ka3=some ⟨.type "tuple",kd3,.seq #[Value.ref kb3_0,Value.ref kb3_1] kz3,ks3⟩)
 (km3_0:K.lookup kb3_0=some ⟨.type "tuple",kg3_0,.seq #[Value.str "left" kx3_0,Value.ref kf3_0] ku3_0,kr3_0⟩)
 (kq3_0:K.lookup kf3_0=some ⟨.type "tuple",kh3_0,.seq #[Value.int 1 ky3_0,Value.int 1 kw3_0] ko3_0,kv3_0⟩)
 (km3_1:K.lookup kb3_1=some ⟨.type "tuple",kg3_1,.seq #[Value.str "width" kx3_1,Value.ref kf3_1] ku3_1,kr3_1⟩)
 (kq3_1:K.lookup kf3_1=some ⟨.type "tuple",kh3_1,.seq #[Value.int 1 ky3_1,Value.int 2 kw3_1] ko3_1,kv3_1⟩)
 (kl4:K.lookup ka4=some ⟨.type "tuple",kd4,.seq #[Value.ref kb4_0] kz4,ks4⟩)
 (km4_0:K.lookup kb4_0=some ⟨.type "tuple",kg4_0,.seq #[Value.str "gap" kx4_0,Value.ref kf4_0] ku4_0,kr4_0⟩)
 (kq4_0:K.lookup kf4_0=some ⟨.type "tuple",kh4_0,.seq #[Value.int 1 ky4_0,Value.int 1 kw4_0] ko4_0,kv4_0⟩)
 (kl5:K.lookup ka5=some ⟨.type "tuple",kd5,.seq #[Value.ref kb5_0] kz5,ks5⟩)
 (km5_0:K.lookup kb5_0=some ⟨.type "tuple",kg5_0,.seq #[Value.str "top" kx5_0,Value.ref kf5_0] ku5_0,kr5_0⟩)
 (kq5_0:K.lookup kf5_0=some ⟨.type "tuple",kh5_0,.seq #[Value.int 1 ky5_0,Value.int 1 kw5_0] ko5_0,kv5_0⟩)
 (kl6:K.lookup ka6=some ⟨.type "tuple",kd6,.seq #[Value.ref kb6_0] kz6,ks6⟩)
 (km6_0:K.lookup kb6_0=some ⟨.type "tuple",kg6_0,.seq #[Value.str "height" kx6_0,Value.ref kf6_0] ku6_0,kr6_0⟩)
 (kq6_0:K.lookup kf6_0=some ⟨.type "tuple",kh6_0,.seq #[Value.int 1 ky6_0,Value.int 1 kw6_0] ko6_0,kv6_0⟩)
 (kl7:K.lookup ka7=some ⟨.type "tuple",kd7,.seq #[Value.ref kb7_0,Value.ref kb7_1] kz7,ks7⟩)
 (km7_0:K.lookup kb7_0=some ⟨.type "tuple",kg7_0,.seq #[Value.str "top" kx7_0,Value.ref kf7_0] ku7_0,kr7_0⟩)
 (kq7_0:K.lookup kf7_0=some ⟨.type "tuple",kh7_0,.seq #[Value.int 1 ky7_0,Value.int 1 kw7_0] ko7_0,kv7_0⟩)
 (km7_1:K.lookup kb7_1=some ⟨.type "tuple",kg7_1,.seq #[Value.str "height" kx7_1,Value.ref kf7_1] ku7_1,kr7_1⟩)
 (kq7_1:K.lookup kf7_1=some ⟨.type "tuple",kh7_1,.seq #[Value.int 1 ky7_1,Value.int 1 kw7_1] ko7_1,kv7_1⟩)
 (kl8:K.lookup ka8=some ⟨.type "tuple",kd8,.seq #[Value.ref kb8_0,Value.ref kb8_1] kz8,ks8⟩)
 (km8_0:K.lookup kb8_0=some ⟨.type "tuple",kg8_0,.seq #[Value.str "top" kx8_0,Value.ref kf8_0] ku8_0,kr8_0⟩)
 (kq8_0:K.lookup kf8_0=some ⟨.type "tuple",kh8_0,.seq #[Value.int 1 ky8_0,Value.int 1 kw8_0] ko8_0,kv8_0⟩)
 (km8_1:K.lookup kb8_1=some ⟨.type "tuple",kg8_1,.seq #[Value.str "height" kx8_1,Value.ref kf8_1] ku8_1,kr8_1⟩)
 (kq8_1:K.lookup kf8_1=some ⟨.type "tuple",kh8_1,.seq #[Value.int 1 ky8_1,Value.int 2 kw8_1] ko8_1,kv8_1⟩)
 (kl9:K.lookup ka9=some ⟨.type "tuple",kd9,.seq #[Value.ref kb9_0] kz9,ks9⟩)
 (km9_0:K.lookup kb9_0=some ⟨.type "tuple",kg9_0,.seq #[Value.str "drop" kx9_0,Value.ref kf9_0] ku9_0,kr9_0⟩)
 (kq9_0:K.lookup kf9_0=some ⟨.type "tuple",kh9_0,.seq #[Value.int 1 ky9_0,Value.int 1 kw9_0] ko9_0,kv9_0⟩)
 : KD_WORTHS w K kc_WORTHS:=by
  have f1_1:fr (Rat.divInt 1 1)=[.int 1,.int 1]:=by rw [k'q (t:=1) (b:=1) (by decide +kernel) (by decide +kernel)]
  have f1_2:fr (Rat.divInt 1 2)=[.int 1,.int 2]:=by rw [k'q (t:=1) (b:=2) (by decide +kernel) (by decide +kernel)]
  refine⟨_,⟨_,_,kl,(.cons (.cons (.cons (.cons (.cons (.cons (.cons (.cons (.cons (.cons .nil)))))))))),by show (["left","width","right","middle","gap","top","height","bottom","centre","drop"]:List Str).Nodup;decide +kernel⟩,fun x xs h=>?_⟩
  simp only [shrT,List.mem_cons,List.not_mem_nil,or_false,Prod.mk.injEq] at h
  rcases h with ⟨rfl,rfl⟩ | ⟨rfl,rfl⟩ | ⟨rfl,rfl⟩ | ⟨rfl,rfl⟩ | ⟨rfl,rfl⟩ | ⟨rfl,rfl⟩ | ⟨rfl,rfl⟩ | ⟨rfl,rfl⟩ | ⟨rfl,rfl⟩ | ⟨rfl,rfl⟩
  · exact⟨ka0,[V.ref kb0_0],rfl,.inr ⟨_,_,_,kl0,rfl,rfl,(by show 1≤sizeLine;decide),(.cons rfl .nil)⟩,⟨b'I km0_0 rfl rfl kq0_0 rfl rfl f1_1,True.intro⟩⟩
  · exact⟨ka1,[V.ref kb1_0],rfl,.inr ⟨_,_,_,kl1,rfl,rfl,(by show 1≤sizeLine;decide),(.cons rfl .nil)⟩,⟨b'I km1_0 rfl rfl kq1_0 rfl rfl f1_1,True.intro⟩⟩
  · exact⟨ka2,[V.ref kb2_0,V.ref kb2_1],rfl,.inr ⟨_,_,_,kl2,rfl,rfl,(by show 2≤sizeLine;decide),(.cons rfl (.cons rfl .nil))⟩,⟨b'I km2_0 rfl rfl kq2_0 rfl rfl f1_1,⟨b'I km2_1 rfl rfl kq2_1 rfl rfl f1_1,True.intro⟩⟩⟩
  · exact⟨ka3,[V.ref kb3_0,V.ref kb3_1],rfl,.inr ⟨_,_,_,kl3,rfl,rfl,(by show 2≤sizeLine;decide),(.cons rfl (.cons rfl .nil))⟩,⟨b'I km3_0 rfl rfl kq3_0 rfl rfl f1_1,⟨b'I km3_1 rfl rfl kq3_1 rfl rfl f1_2,True.intro⟩⟩⟩
  · exact⟨ka4,[V.ref kb4_0],rfl,.inr ⟨_,_,_,kl4,rfl,rfl,(by show 1≤sizeLine;decide),(.cons rfl .nil)⟩,⟨b'I km4_0 rfl rfl kq4_0 rfl rfl f1_1,True.intro⟩⟩
  · exact⟨ka5,[V.ref kb5_0],rfl,.inr ⟨_,_,_,kl5,rfl,rfl,(by show 1≤sizeLine;decide),(.cons rfl .nil)⟩,⟨b'I km5_0 rfl rfl kq5_0 rfl rfl f1_1,True.intro⟩⟩
  · exact⟨ka6,[V.ref kb6_0],rfl,.inr ⟨_,_,_,kl6,rfl,rfl,(by show 1≤sizeLine;decide),(.cons rfl .nil)⟩,⟨b'I km6_0 rfl rfl kq6_0 rfl rfl f1_1,True.intro⟩⟩
  · exact⟨ka7,[V.ref kb7_0,V.ref kb7_1],rfl,.inr ⟨_,_,_,kl7,rfl,rfl,(by show 2≤sizeLine;decide),(.cons rfl (.cons rfl .nil))⟩,⟨b'I km7_0 rfl rfl kq7_0 rfl rfl f1_1,⟨b'I km7_1 rfl rfl kq7_1 rfl rfl f1_1,True.intro⟩⟩⟩
  · exact⟨ka8,[V.ref kb8_0,V.ref kb8_1],rfl,.inr ⟨_,_,_,kl8,rfl,rfl,(by show 2≤sizeLine;decide),(.cons rfl (.cons rfl .nil))⟩,⟨b'I km8_0 rfl rfl kq8_0 rfl rfl f1_1,⟨b'I km8_1 rfl rfl kq8_1 rfl rfl f1_2,True.intro⟩⟩⟩
  · exact⟨ka9,[V.ref kb9_0],rfl,.inr ⟨_,_,_,kl9,rfl,rfl,(by show 1≤sizeLine;decide),(.cons rfl .nil)⟩,⟨b'I km9_0 rfl rfl kq9_0 rfl rfl f1_1,True.intro⟩⟩
set_option genInjectivity false in
set_option genSizeOf false in
structure Tx (w:World) (K:PySem.W.Frag) (mg:Str→Option Value) where
  a_part:Addr
  d_part:FuncData
  F_part:Fun K "part" "part" s_part a_part d_part
  b_part:Binds K d_part ["top","bottom"] []
  m_part:mg "part"=some (.ref a_part)
  a_greatest_divisor:Addr
  d_greatest_divisor:FuncData
  F_greatest_divisor:Fun K "greatest_divisor" "greatest_divisor" s_greatest_divisor a_greatest_divisor d_greatest_divisor
  b_greatest_divisor:Binds K d_greatest_divisor ["one","other"] []
  m_greatest_divisor:mg "greatest_divisor"=some (.ref a_greatest_divisor)
  a_plus:Addr
  d_plus:FuncData
  F_plus:Fun K "plus" "plus" s_plus a_plus d_plus
  b_plus:Binds K d_plus ["one","other"] []
  m_plus:mg "plus"=some (.ref a_plus)
  a_minus:Addr
  d_minus:FuncData
  F_minus:Fun K "minus" "minus" s_minus a_minus d_minus
  b_minus:Binds K d_minus ["one","other"] []
  m_minus:mg "minus"=some (.ref a_minus)
  a_times:Addr
  d_times:FuncData
  F_times:Fun K "times" "times" s_times a_times d_times
  b_times:Binds K d_times ["one","other"] []
  m_times:mg "times"=some (.ref a_times)
  a_under:Addr
  d_under:FuncData
  F_under:Fun K "under" "under" s_under a_under d_under
  b_under:Binds K d_under ["one","other"] []
  m_under:mg "under"=some (.ref a_under)
  a_made:Addr
  d_made:FuncData
  F_made:Fun K "made" "made" s_made a_made d_made
  b_made:Binds K d_made ["parts","rest"] []
  m_made:mg "made"=some (.ref a_made)
  a_added:Addr
  d_added:FuncData
  F_added:Fun K "added" "added" s_added a_added d_added
  b_added:Binds K d_added ["one","other"] []
  m_added:mg "added"=some (.ref a_added)
  a_reduced:Addr
  d_reduced:FuncData
  F_reduced:Fun K "reduced" "reduced" s_reduced a_reduced d_reduced
  b_reduced:Binds K d_reduced ["one","other"] []
  m_reduced:mg "reduced"=some (.ref a_reduced)
  a_scaled:Addr
  d_scaled:FuncData
  F_scaled:Fun K "scaled" "scaled" s_scaled a_scaled d_scaled
  b_scaled:Binds K d_scaled ["one","number"] []
  m_scaled:mg "scaled"=some (.ref a_scaled)
  a_value_at:Addr
  d_value_at:FuncData
  F_value_at:Fun K "value_at" "value_at" s_value_at a_value_at d_value_at
  b_value_at:Binds K d_value_at ["one","placing"] []
  m_value_at:mg "value_at"=some (.ref a_value_at)
  a_sum_at:Addr
  d_sum_at:FuncData
  F_sum_at:Fun K "sum_at" "sum_at" s_sum_at a_sum_at d_sum_at
  b_sum_at:Binds K d_sum_at ["one","placing"] []
  m_sum_at:mg "sum_at"=some (.ref a_sum_at)
  a_missed:Addr
  d_missed:FuncData
  F_missed:Fun K "missed" "missed" s_missed a_missed d_missed
  b_missed:Binds K d_missed ["one","placing"] []
  m_missed:mg "missed"=some (.ref a_missed)
  a_unknown_of:Addr
  d_unknown_of:FuncData
  F_unknown_of:Fun K "unknown_of" "unknown_of" s_unknown_of a_unknown_of d_unknown_of
  b_unknown_of:Binds K d_unknown_of ["word","name"] []
  m_unknown_of:mg "unknown_of"=some (.ref a_unknown_of)
  a_way_of:Addr
  d_way_of:FuncData
  F_way_of:Fun K "way_of" "way_of" s_way_of a_way_of d_way_of
  b_way_of:Binds K d_way_of ["word"] []
  m_way_of:mg "way_of"=some (.ref a_way_of)
  a_law_cell_at:Addr
  d_law_cell_at:FuncData
  F_law_cell_at:Fun K "_law_cell_at" "_law_cell_at" s_law_cell_at a_law_cell_at d_law_cell_at
  b_law_cell_at:Binds K d_law_cell_at ["_law_script","_law_k"] []
  m_law_cell_at:mg "_law_cell_at"=some (.ref a_law_cell_at)
  a_law_mixed:Addr
  d_law_mixed:FuncData
  F_law_mixed:Fun K "_law_mixed" "_law_mixed" s_law_mixed a_law_mixed d_law_mixed
  b_law_mixed:Binds K d_law_mixed ["_law_cell","_law_k"] []
  m_law_mixed:mg "_law_mixed"=some (.ref a_law_mixed)
  a_law_shared:Addr
  d_law_shared:FuncData
  F_law_shared:Fun K "_law_shared" "_law_shared" s_law_shared a_law_shared d_law_shared
  b_law_shared:Binds K d_law_shared ["_law_one","_law_other"] []
  m_law_shared:mg "_law_shared"=some (.ref a_law_shared)
  a_law_lowest:Addr
  d_law_lowest:FuncData
  F_law_lowest:Fun K "_law_lowest" "_law_lowest" s_law_lowest a_law_lowest d_law_lowest
  b_law_lowest:Binds K d_law_lowest ["_law_top","_law_bottom"] []
  m_law_lowest:mg "_law_lowest"=some (.ref a_law_lowest)
  a_law_number:Addr
  d_law_number:FuncData
  F_law_number:Fun K "_law_number" "_law_number" s_law_number a_law_number d_law_number
  b_law_number:Binds K d_law_number ["_law_cell"] []
  m_law_number:mg "_law_number"=some (.ref a_law_number)
  a_law_edge:Addr
  d_law_edge:FuncData
  F_law_edge:Fun K "_law_edge" "_law_edge" s_law_edge a_law_edge d_law_edge
  b_law_edge:Binds K d_law_edge ["_law_cell","_law_down"] []
  m_law_edge:mg "_law_edge"=some (.ref a_law_edge)
  a_law_term:Addr
  d_law_term:FuncData
  F_law_term:Fun K "_law_term" "_law_term" s_law_term a_law_term d_law_term
  b_law_term:Binds K d_law_term ["_law_cells","_law_down"] []
  m_law_term:mg "_law_term"=some (.ref a_law_term)
  a_law_placing:Addr
  d_law_placing:FuncData
  F_law_placing:Fun K "_law_placing" "_law_placing" s_law_placing a_law_placing d_law_placing
  b_law_placing:Binds K d_law_placing ["_law_cell"] []
  m_law_placing:mg "_law_placing"=some (.ref a_law_placing)
  a_law_at:Addr
  d_law_at:FuncData
  F_law_at:Fun K "_law_at" "_law_at" s_law_at a_law_at d_law_at
  b_law_at:Binds K d_law_at ["_law_parts","_law_rest","_law_placing_here"] []
  m_law_at:mg "_law_at"=some (.ref a_law_at)
  a_law_same:Addr
  d_law_same:FuncData
  F_law_same:Fun K "_law_same" "_law_same" s_law_same a_law_same d_law_same
  b_law_same:Binds K d_law_same ["_law_found","_law_due"] []
  m_law_same:mg "_law_same"=some (.ref a_law_same)
  a_law_one_class:Addr
  d_law_one_class:FuncData
  F_law_one_class:Fun K "_law_one_class" "_law_one_class" s_law_one_class a_law_one_class d_law_one_class
  b_law_one_class:Binds K d_law_one_class ["_law_wish_here","_law_kind"] []
  m_law_one_class:mg "_law_one_class"=some (.ref a_law_one_class)
  a_law_wish:Addr
  d_law_wish:FuncData
  F_law_wish:Fun K "_law_wish" "_law_wish" s_law_wish a_law_wish d_law_wish
  b_law_wish:Binds K d_law_wish ["_law_kind","_law_near","_law_far","_law_rank","_law_weight"] []
  m_law_wish:mg "_law_wish"=some (.ref a_law_wish)
  a_law_miss:Addr
  d_law_miss:FuncData
  F_law_miss:Fun K "_law_miss" "_law_miss" s_law_miss a_law_miss d_law_miss
  b_law_miss:Binds K d_law_miss ["_law_kind","_law_gap"] []
  m_law_miss:mg "_law_miss"=some (.ref a_law_miss)
  a_law_less:Addr
  d_law_less:FuncData
  F_law_less:Fun K "_law_less" "_law_less" s_law_less a_law_less d_law_less
  b_law_less:Binds K d_law_less ["_law_near","_law_far","_law_placing_here"] []
  m_law_less:mg "_law_less"=some (.ref a_law_less)
  a_law_right:Addr
  d_law_right:FuncData
  F_law_right:Fun K "_law_right" "_law_right" s_law_right a_law_right d_law_right
  b_law_right:Binds K d_law_right ["_law_wish_here","_law_kind","_law_gap","_law_rank","_law_weight","_law_placing_here"] []
  m_law_right:mg "_law_right"=some (.ref a_law_right)
  a_law:Addr
  d_law:FuncData
  F_law:Fun K "law" "law" s_law a_law d_law
  b_law:Binds K d_law ["_law_script"] []
  m_law:mg "law"=some (.ref a_law)
  a_Number___init__:Addr
  d_Number___init__:FuncData
  F_Number___init__:Fun K "__init__" "Number.__init__" s_Number___init__ a_Number___init__ d_Number___init__
  b_Number___init__:Binds K d_Number___init__ ["self","number"] []
  a_Term_edges:Addr
  d_Term_edges:FuncData
  F_Term_edges:Fun K "edges" "Term.edges" s_Term_edges a_Term_edges d_Term_edges
  b_Term_edges:Binds K d_Term_edges ["self"] []
  a_Term_ways:Addr
  d_Term_ways:FuncData
  F_Term_ways:Fun K "ways" "Term.ways" s_Term_ways a_Term_ways d_Term_ways
  b_Term_ways:Binds K d_Term_ways ["self"] []
  a_Number_worth:Addr
  d_Number_worth:FuncData
  F_Number_worth:Fun K "worth" "Number.worth" s_Number_worth a_Number_worth d_Number_worth
  b_Number_worth:Binds K d_Number_worth ["self"] []
  a_Edge___init__:Addr
  d_Edge___init__:FuncData
  F_Edge___init__:Fun K "__init__" "Edge.__init__" s_Edge___init__ a_Edge___init__ d_Edge___init__
  b_Edge___init__:Binds K d_Edge___init__ ["self","word","name"] []
  a_Edge_edges:Addr
  d_Edge_edges:FuncData
  F_Edge_edges:Fun K "edges" "Edge.edges" s_Edge_edges a_Edge_edges d_Edge_edges
  b_Edge_edges:Binds K d_Edge_edges ["self"] []
  a_Edge_worth:Addr
  d_Edge_worth:FuncData
  F_Edge_worth:Fun K "worth" "Edge.worth" s_Edge_worth a_Edge_worth d_Edge_worth
  b_Edge_worth:Binds K d_Edge_worth ["self"] []
  a_Times___init__:Addr
  d_Times___init__:FuncData
  F_Times___init__:Fun K "__init__" "Times.__init__" s_Times___init__ a_Times___init__ d_Times___init__
  b_Times___init__:Binds K d_Times___init__ ["self","number","inner"] []
  a_Times_edges:Addr
  d_Times_edges:FuncData
  F_Times_edges:Fun K "edges" "Times.edges" s_Times_edges a_Times_edges d_Times_edges
  b_Times_edges:Binds K d_Times_edges ["self"] []
  a_Times_worth:Addr
  d_Times_worth:FuncData
  F_Times_worth:Fun K "worth" "Times.worth" s_Times_worth a_Times_worth d_Times_worth
  b_Times_worth:Binds K d_Times_worth ["self"] []
  a_Plus___init__:Addr
  d_Plus___init__:FuncData
  F_Plus___init__:Fun K "__init__" "Plus.__init__" s_Plus___init__ a_Plus___init__ d_Plus___init__
  b_Plus___init__:Binds K d_Plus___init__ ["self","one","other"] []
  a_Plus_edges:Addr
  d_Plus_edges:FuncData
  F_Plus_edges:Fun K "edges" "Plus.edges" s_Plus_edges a_Plus_edges d_Plus_edges
  b_Plus_edges:Binds K d_Plus_edges ["self"] []
  a_Plus_worth:Addr
  d_Plus_worth:FuncData
  F_Plus_worth:Fun K "worth" "Plus.worth" s_Plus_worth a_Plus_worth d_Plus_worth
  b_Plus_worth:Binds K d_Plus_worth ["self"] []
  a_Minus___init__:Addr
  d_Minus___init__:FuncData
  F_Minus___init__:Fun K "__init__" "Minus.__init__" s_Minus___init__ a_Minus___init__ d_Minus___init__
  b_Minus___init__:Binds K d_Minus___init__ ["self","one","other"] []
  a_Minus_edges:Addr
  d_Minus_edges:FuncData
  F_Minus_edges:Fun K "edges" "Minus.edges" s_Minus_edges a_Minus_edges d_Minus_edges
  b_Minus_edges:Binds K d_Minus_edges ["self"] []
  a_Minus_worth:Addr
  d_Minus_worth:FuncData
  F_Minus_worth:Fun K "worth" "Minus.worth" s_Minus_worth a_Minus_worth d_Minus_worth
  b_Minus_worth:Binds K d_Minus_worth ["self"] []
  a_Wish___init__:Addr
  d_Wish___init__:FuncData
  F_Wish___init__:Fun K "__init__" "Wish.__init__" s_Wish___init__ a_Wish___init__ d_Wish___init__
  b_Wish___init__:Binds K d_Wish___init__ ["self","near","far","rank","weight"] []
  a_Wish_way:Addr
  d_Wish_way:FuncData
  F_Wish_way:Fun K "way" "Wish.way" s_Wish_way a_Wish_way d_Wish_way
  b_Wish_way:Binds K d_Wish_way ["self"] []
  a_Wish_row:Addr
  d_Wish_row:FuncData
  F_Wish_row:Fun K "row" "Wish.row" s_Wish_row a_Wish_row d_Wish_row
  b_Wish_row:Binds K d_Wish_row ["self"] []
  a_Wish_missed:Addr
  d_Wish_missed:FuncData
  F_Wish_missed:Fun K "missed" "Wish.missed" s_Wish_missed a_Wish_missed d_Wish_missed
  b_Wish_missed:Binds K d_Wish_missed ["self","placing"] []
  a_Just_kind:Addr
  d_Just_kind:FuncData
  F_Just_kind:Fun K "kind" "Just.kind" s_Just_kind a_Just_kind d_Just_kind
  b_Just_kind:Binds K d_Just_kind ["self"] []
  a_AtLeast_kind:Addr
  d_AtLeast_kind:FuncData
  F_AtLeast_kind:Fun K "kind" "AtLeast.kind" s_AtLeast_kind a_AtLeast_kind d_AtLeast_kind
  b_AtLeast_kind:Binds K d_AtLeast_kind ["self"] []
  a_AtMost_kind:Addr
  d_AtMost_kind:FuncData
  F_AtMost_kind:Fun K "kind" "AtMost.kind" s_AtMost_kind a_AtMost_kind d_AtMost_kind
  b_AtMost_kind:Binds K d_AtMost_kind ["self"] []
  c_NOUGHT:Addr
  m_NOUGHT:mg "NOUGHT"=some (.ref c_NOUGHT)
  t_NOUGHT:∃ (o:Obj) (its:Array Value) (n:Nat),K.lookup c_NOUGHT=some o∧o.cls=.type "tuple"∧o.data=.seq its n∧its.size≤sizeLine∧Vals (fr 0) its.toList
  c_MINUS_ONE:Addr
  m_MINUS_ONE:mg "MINUS_ONE"=some (.ref c_MINUS_ONE)
  t_MINUS_ONE:∃ (o:Obj) (its:Array Value) (n:Nat),K.lookup c_MINUS_ONE=some o∧o.cls=.type "tuple"∧o.data=.seq its n∧its.size≤sizeLine∧Vals (fr (-1)) its.toList
  c_DOWN:Addr
  m_DOWN:mg "DOWN"=some (.ref c_DOWN)
  t_DOWN:∃ (o:Obj) (its:Array Value) (n:Nat),K.lookup c_DOWN=some o∧o.cls=.type "tuple"∧o.data=.seq its n∧its.size≤sizeLine∧Vals ((["top","height","bottom","centre","drop"]:List Str).map V.str) its.toList
  c_STARTS:Addr
  m_STARTS:mg "STARTS"=some (.ref c_STARTS)
  t_STARTS:∃ (o:Obj) (its:Array Value) (n:Nat),K.lookup c_STARTS=some o∧o.cls=.type "tuple"∧o.data=.seq its n∧its.size≤sizeLine∧Vals ((["left","top"]:List Str).map V.str) its.toList
  k_FRAME:Tok
  m_FRAME:mg "FRAME"=some (.str "frame" k_FRAME)
  c_Mixed:Addr
  m_Mixed:mg "Mixed"=some (.ref c_Mixed)
  q_Mixed:PySem.W.excIn K c_Mixed [.type "ValueError",.type "Exception",.type "BaseException",.type "object"] "ValueError.__new__"=true
  c_Number:Addr
  m_Number:mg "Number"=some (.ref c_Number)
  cl_Number:Cls K c_Number
  nf_Number_number:NoAttr K c_Number "number"
  mk_Number:Mk K c_Number a_Number___init__
  mt_Number_edges:Meth K c_Number "edges" a_Term_edges
  mt_Number_ways:Meth K c_Number "ways" a_Term_ways
  mt_Number_worth:Meth K c_Number "worth" a_Number_worth
  c_Edge:Addr
  m_Edge:mg "Edge"=some (.ref c_Edge)
  cl_Edge:Cls K c_Edge
  nf_Edge_word:NoAttr K c_Edge "word"
  nf_Edge_name:NoAttr K c_Edge "name"
  mk_Edge:Mk K c_Edge a_Edge___init__
  mt_Edge_edges:Meth K c_Edge "edges" a_Edge_edges
  mt_Edge_ways:Meth K c_Edge "ways" a_Term_ways
  mt_Edge_worth:Meth K c_Edge "worth" a_Edge_worth
  c_Times:Addr
  m_Times:mg "Times"=some (.ref c_Times)
  cl_Times:Cls K c_Times
  nf_Times_number:NoAttr K c_Times "number"
  nf_Times_inner:NoAttr K c_Times "inner"
  mk_Times:Mk K c_Times a_Times___init__
  mt_Times_edges:Meth K c_Times "edges" a_Times_edges
  mt_Times_ways:Meth K c_Times "ways" a_Term_ways
  mt_Times_worth:Meth K c_Times "worth" a_Times_worth
  c_Plus:Addr
  m_Plus:mg "Plus"=some (.ref c_Plus)
  cl_Plus:Cls K c_Plus
  nf_Plus_one:NoAttr K c_Plus "one"
  nf_Plus_other:NoAttr K c_Plus "other"
  mk_Plus:Mk K c_Plus a_Plus___init__
  mt_Plus_edges:Meth K c_Plus "edges" a_Plus_edges
  mt_Plus_ways:Meth K c_Plus "ways" a_Term_ways
  mt_Plus_worth:Meth K c_Plus "worth" a_Plus_worth
  c_Minus:Addr
  m_Minus:mg "Minus"=some (.ref c_Minus)
  cl_Minus:Cls K c_Minus
  nf_Minus_one:NoAttr K c_Minus "one"
  nf_Minus_other:NoAttr K c_Minus "other"
  mk_Minus:Mk K c_Minus a_Minus___init__
  mt_Minus_edges:Meth K c_Minus "edges" a_Minus_edges
  mt_Minus_ways:Meth K c_Minus "ways" a_Term_ways
  mt_Minus_worth:Meth K c_Minus "worth" a_Minus_worth
  c_Wish:Addr
  m_Wish:mg "Wish"=some (.ref c_Wish)
  cl_Wish:Cls K c_Wish
  c_Just:Addr
  m_Just:mg "Just"=some (.ref c_Just)
  cl_Just:Cls K c_Just
  nf_Just_near:NoAttr K c_Just "near"
  nf_Just_far:NoAttr K c_Just "far"
  nf_Just_rank:NoAttr K c_Just "rank"
  nf_Just_weight:NoAttr K c_Just "weight"
  mk_Just:Mk K c_Just a_Wish___init__
  mt_Just_way:Meth K c_Just "way" a_Wish_way
  mt_Just_row:Meth K c_Just "row" a_Wish_row
  mt_Just_missed:Meth K c_Just "missed" a_Wish_missed
  mt_Just_kind:Meth K c_Just "kind" a_Just_kind
  c_AtLeast:Addr
  m_AtLeast:mg "AtLeast"=some (.ref c_AtLeast)
  cl_AtLeast:Cls K c_AtLeast
  nf_AtLeast_near:NoAttr K c_AtLeast "near"
  nf_AtLeast_far:NoAttr K c_AtLeast "far"
  nf_AtLeast_rank:NoAttr K c_AtLeast "rank"
  nf_AtLeast_weight:NoAttr K c_AtLeast "weight"
  mk_AtLeast:Mk K c_AtLeast a_Wish___init__
  mt_AtLeast_way:Meth K c_AtLeast "way" a_Wish_way
  mt_AtLeast_row:Meth K c_AtLeast "row" a_Wish_row
  mt_AtLeast_missed:Meth K c_AtLeast "missed" a_Wish_missed
  mt_AtLeast_kind:Meth K c_AtLeast "kind" a_AtLeast_kind
  c_AtMost:Addr
  m_AtMost:mg "AtMost"=some (.ref c_AtMost)
  cl_AtMost:Cls K c_AtMost
  nf_AtMost_near:NoAttr K c_AtMost "near"
  nf_AtMost_far:NoAttr K c_AtMost "far"
  nf_AtMost_rank:NoAttr K c_AtMost "rank"
  nf_AtMost_weight:NoAttr K c_AtMost "weight"
  mk_AtMost:Mk K c_AtMost a_Wish___init__
  mt_AtMost_way:Meth K c_AtMost "way" a_Wish_way
  mt_AtMost_row:Meth K c_AtMost "row" a_Wish_row
  mt_AtMost_missed:Meth K c_AtMost "missed" a_Wish_missed
  mt_AtMost_kind:Meth K c_AtMost "kind" a_AtMost_kind
  m_missed_rows:mg "missed_rows"=some (.ref a_missed)
  c_WORTHS:Addr
  m_WORTHS:mg "WORTHS"=some (.ref c_WORTHS)
  w_WORTHS:KD_WORTHS w K c_WORTHS
  ik_Just:InsK K c_Just
  ik_AtLeast:InsK K c_AtLeast
  ik_AtMost:InsK K c_AtMost
  kc_Just_Just:PySem.W.kitOne K (.ref c_Just) (.ref c_Just)=some true
  kc_Just_AtLeast:PySem.W.kitOne K (.ref c_Just) (.ref c_AtLeast)=some false
  kc_Just_AtMost:PySem.W.kitOne K (.ref c_Just) (.ref c_AtMost)=some false
  kc_Just_Wish:PySem.W.kitOne K (.ref c_Just) (.ref c_Wish)=some true
  kc_AtLeast_Just:PySem.W.kitOne K (.ref c_AtLeast) (.ref c_Just)=some false
  kc_AtLeast_AtLeast:PySem.W.kitOne K (.ref c_AtLeast) (.ref c_AtLeast)=some true
  kc_AtLeast_AtMost:PySem.W.kitOne K (.ref c_AtLeast) (.ref c_AtMost)=some false
  kc_AtLeast_Wish:PySem.W.kitOne K (.ref c_AtLeast) (.ref c_Wish)=some true
  kc_AtMost_Just:PySem.W.kitOne K (.ref c_AtMost) (.ref c_Just)=some false
  kc_AtMost_AtLeast:PySem.W.kitOne K (.ref c_AtMost) (.ref c_AtLeast)=some false
  kc_AtMost_AtMost:PySem.W.kitOne K (.ref c_AtMost) (.ref c_AtMost)=some true
  kc_AtMost_Wish:PySem.W.kitOne K (.ref c_AtMost) (.ref c_Wish)=some true
  z_abs:mg "abs"=none
  z_len:mg "len"=none
  z_range:mg "range"=none
  z_isinstance:mg "isinstance"=none
  z_tuple:mg "tuple"=none
  z_bool:mg "bool"=none
  z_str:mg "str"=none
  z_dict:mg "dict"=none
  z_list:mg "list"=none
  z_any:mg "any"=none
  z_all:mg "all"=none
  z_enumerate:mg "enumerate"=none
  z_set:mg "set"=none
  z_sorted:mg "sorted"=none
theorem tx_mk {w:World} {K:PySem.W.Frag} {h:Heap} {mg:Str→Option Value} (X:K.In h) (G:h.Ns mainGlobals mg)
    {x_Number:Addr}
    {x_Edge:Addr}
    {x_Times:Addr}
    {x_Plus:Addr}
    {x_Minus:Addr}
    {x_Wish:Addr}
    {x_Just:Addr}
    {x_AtLeast:Addr}
    {x_AtMost:Addr}
    {kc_WORTHS:Addr}
    {f0:Addr}
    {f1:Addr}
    {f2:Addr}
    {f3:Addr}
    {f4:Addr}
    {f5:Addr}
    {f6:Addr}
    {f7:Addr}
    {f8:Addr}
    {f9:Addr}
    {f10:Addr}
    {f11:Addr}
    {f12:Addr}
    {f13:Addr}
    {f14:Addr}
    {f15:Addr}
    {f16:Addr}
    {f17:Addr}
    {f18:Addr}
    {f19:Addr}
    {f20:Addr}
    {f21:Addr}
    {f22:Addr}
    {f23:Addr}
    {f24:Addr}
    {f25:Addr}
    {f26:Addr}
    {f27:Addr}
    {f28:Addr}
    {f29:Addr}
    {f30:Addr}
    {f31:Addr}
    {f32:Addr}
    {f33:Addr}
    {f34:Addr}
    {f35:Addr}
    {f36:Addr}
    {f37:Addr}
    {f38:Addr}
    {f39:Addr}
    {f40:Addr}
    {f41:Addr}
    {f42:Addr}
    {f43:Addr}
    {f44:Addr}
    {f45:Addr}
    {f46:Addr}
    {f47:Addr}
    {f48:Addr}
    {f49:Addr}
    {f50:Addr}
    {f51:Addr}
    {f52:Addr}
    {f53:Addr}
    {sg_DOWN:Addr} {sgd_DOWN:Option Addr} {sgs_DOWN:Array (Option Value)} {sgn_DOWN:Nat} {st_DOWN_0 st_DOWN_1 st_DOWN_2 st_DOWN_3 st_DOWN_4:Tok}
    {sg_STARTS:Addr} {sgd_STARTS:Option Addr} {sgs_STARTS:Array (Option Value)} {sgn_STARTS:Nat} {st_STARTS_0 st_STARTS_1:Tok}
    {g0:Addr} {gd0:Option Addr} {gs0:Array (Option Value)} {gn0:Nat} {t0_0 t0_1:Tok}
    {g1:Addr} {gd1:Option Addr} {gs1:Array (Option Value)} {gn1:Nat} {t1_0 t1_1:Tok}
    {yk_FRAME:Tok}
    {x_Mixed:Addr}
    (wn_Number:PySem.W.nsIn K mainGlobals "Number"=some (some (.ref x_Number)))
    (wa_Number:PySem.W.plainGet K x_Number Str.empty=true)
    (wb_Number:PySem.W.hasDictIn K x_Number=true)
    (wc_Number:PySem.W.plainOver K x_Number=true)
    (wd_Number:PySem.W.findIn K (.ref x_Number) "__setattr__"=some (some (.builtin "object.__setattr__")))
    (wf_Number_number:PySem.W.findIn K (.ref x_Number) "number"=some none)
    (wn_Edge:PySem.W.nsIn K mainGlobals "Edge"=some (some (.ref x_Edge)))
    (wa_Edge:PySem.W.plainGet K x_Edge Str.empty=true)
    (wb_Edge:PySem.W.hasDictIn K x_Edge=true)
    (wc_Edge:PySem.W.plainOver K x_Edge=true)
    (wd_Edge:PySem.W.findIn K (.ref x_Edge) "__setattr__"=some (some (.builtin "object.__setattr__")))
    (wf_Edge_word:PySem.W.findIn K (.ref x_Edge) "word"=some none)
    (wf_Edge_name:PySem.W.findIn K (.ref x_Edge) "name"=some none)
    (wn_Times:PySem.W.nsIn K mainGlobals "Times"=some (some (.ref x_Times)))
    (wa_Times:PySem.W.plainGet K x_Times Str.empty=true)
    (wb_Times:PySem.W.hasDictIn K x_Times=true)
    (wc_Times:PySem.W.plainOver K x_Times=true)
    (wd_Times:PySem.W.findIn K (.ref x_Times) "__setattr__"=some (some (.builtin "object.__setattr__")))
    (wf_Times_number:PySem.W.findIn K (.ref x_Times) "number"=some none)
    (wf_Times_inner:PySem.W.findIn K (.ref x_Times) "inner"=some none)
    (wn_Plus:PySem.W.nsIn K mainGlobals "Plus"=some (some (.ref x_Plus)))
    (wa_Plus:PySem.W.plainGet K x_Plus Str.empty=true)
    (wb_Plus:PySem.W.hasDictIn K x_Plus=true)
    (wc_Plus:PySem.W.plainOver K x_Plus=true)
    (wd_Plus:PySem.W.findIn K (.ref x_Plus) "__setattr__"=some (some (.builtin "object.__setattr__")))
    (wf_Plus_one:PySem.W.findIn K (.ref x_Plus) "one"=some none)
    (wf_Plus_other:PySem.W.findIn K (.ref x_Plus) "other"=some none)
    (wn_Minus:PySem.W.nsIn K mainGlobals "Minus"=some (some (.ref x_Minus)))
    (wa_Minus:PySem.W.plainGet K x_Minus Str.empty=true)
    (wb_Minus:PySem.W.hasDictIn K x_Minus=true)
    (wc_Minus:PySem.W.plainOver K x_Minus=true)
    (wd_Minus:PySem.W.findIn K (.ref x_Minus) "__setattr__"=some (some (.builtin "object.__setattr__")))
    (wf_Minus_one:PySem.W.findIn K (.ref x_Minus) "one"=some none)
    (wf_Minus_other:PySem.W.findIn K (.ref x_Minus) "other"=some none)
    (wn_Wish:PySem.W.nsIn K mainGlobals "Wish"=some (some (.ref x_Wish)))
    (wa_Wish:PySem.W.plainGet K x_Wish Str.empty=true)
    (wb_Wish:PySem.W.hasDictIn K x_Wish=true)
    (wc_Wish:PySem.W.plainOver K x_Wish=true)
    (wd_Wish:PySem.W.findIn K (.ref x_Wish) "__setattr__"=some (some (.builtin "object.__setattr__")))
    (wn_Just:PySem.W.nsIn K mainGlobals "Just"=some (some (.ref x_Just)))
    (wa_Just:PySem.W.plainGet K x_Just Str.empty=true)
    (wb_Just:PySem.W.hasDictIn K x_Just=true)
    (wc_Just:PySem.W.plainOver K x_Just=true)
    (wd_Just:PySem.W.findIn K (.ref x_Just) "__setattr__"=some (some (.builtin "object.__setattr__")))
    (wf_Just_near:PySem.W.findIn K (.ref x_Just) "near"=some none)
    (wf_Just_far:PySem.W.findIn K (.ref x_Just) "far"=some none)
    (wf_Just_rank:PySem.W.findIn K (.ref x_Just) "rank"=some none)
    (wf_Just_weight:PySem.W.findIn K (.ref x_Just) "weight"=some none)
    (wn_AtLeast:PySem.W.nsIn K mainGlobals "AtLeast"=some (some (.ref x_AtLeast)))
    (wa_AtLeast:PySem.W.plainGet K x_AtLeast Str.empty=true)
    (wb_AtLeast:PySem.W.hasDictIn K x_AtLeast=true)
    (wc_AtLeast:PySem.W.plainOver K x_AtLeast=true)
    (wd_AtLeast:PySem.W.findIn K (.ref x_AtLeast) "__setattr__"=some (some (.builtin "object.__setattr__")))
    (wf_AtLeast_near:PySem.W.findIn K (.ref x_AtLeast) "near"=some none)
    (wf_AtLeast_far:PySem.W.findIn K (.ref x_AtLeast) "far"=some none)
    (wf_AtLeast_rank:PySem.W.findIn K (.ref x_AtLeast) "rank"=some none)
    (wf_AtLeast_weight:PySem.W.findIn K (.ref x_AtLeast) "weight"=some none)
    (wn_AtMost:PySem.W.nsIn K mainGlobals "AtMost"=some (some (.ref x_AtMost)))
    (wa_AtMost:PySem.W.plainGet K x_AtMost Str.empty=true)
    (wb_AtMost:PySem.W.hasDictIn K x_AtMost=true)
    (wc_AtMost:PySem.W.plainOver K x_AtMost=true)
    (wd_AtMost:PySem.W.findIn K (.ref x_AtMost) "__setattr__"=some (some (.builtin "object.__setattr__")))
    (wf_AtMost_near:PySem.W.findIn K (.ref x_AtMost) "near"=some none)
    (wf_AtMost_far:PySem.W.findIn K (.ref x_AtMost) "far"=some none)
    (wf_AtMost_rank:PySem.W.findIn K (.ref x_AtMost) "rank"=some none)
    (wf_AtMost_weight:PySem.W.findIn K (.ref x_AtMost) "weight"=some none)
    (wg_Just:PySem.W.findIn K (.ref x_Just) "__class__"=some (some (.builtin "object.__class__")))
    (wh_Just:PySem.W.mroIn K x_Just (.type "object")=some true)
    (wi_0:PySem.W.specialIn K (.builtin "object.__class__") "__get__"=some (some (.builtin "getset_descriptor.__get__")))
    (wj_0:PySem.W.takesIn K (.builtin "object.__class__")=some true)
    (wg_AtLeast:PySem.W.findIn K (.ref x_AtLeast) "__class__"=some (some (.builtin "object.__class__")))
    (wh_AtLeast:PySem.W.mroIn K x_AtLeast (.type "object")=some true)
    (wg_AtMost:PySem.W.findIn K (.ref x_AtMost) "__class__"=some (some (.builtin "object.__class__")))
    (wh_AtMost:PySem.W.mroIn K x_AtMost (.type "object")=some true)
    (wkc_Just_Just:PySem.W.kitOne K (.ref x_Just) (.ref x_Just)=some true)
    (wkc_Just_AtLeast:PySem.W.kitOne K (.ref x_Just) (.ref x_AtLeast)=some false)
    (wkc_Just_AtMost:PySem.W.kitOne K (.ref x_Just) (.ref x_AtMost)=some false)
    (wkc_Just_Wish:PySem.W.kitOne K (.ref x_Just) (.ref x_Wish)=some true)
    (wkc_AtLeast_Just:PySem.W.kitOne K (.ref x_AtLeast) (.ref x_Just)=some false)
    (wkc_AtLeast_AtLeast:PySem.W.kitOne K (.ref x_AtLeast) (.ref x_AtLeast)=some true)
    (wkc_AtLeast_AtMost:PySem.W.kitOne K (.ref x_AtLeast) (.ref x_AtMost)=some false)
    (wkc_AtLeast_Wish:PySem.W.kitOne K (.ref x_AtLeast) (.ref x_Wish)=some true)
    (wkc_AtMost_Just:PySem.W.kitOne K (.ref x_AtMost) (.ref x_Just)=some false)
    (wkc_AtMost_AtLeast:PySem.W.kitOne K (.ref x_AtMost) (.ref x_AtLeast)=some false)
    (wkc_AtMost_AtMost:PySem.W.kitOne K (.ref x_AtMost) (.ref x_AtMost)=some true)
    (wkc_AtMost_Wish:PySem.W.kitOne K (.ref x_AtMost) (.ref x_Wish)=some true)
    (kn_WORTHS:PySem.W.nsIn K mainGlobals "WORTHS"=some (some (.ref kc_WORTHS)))
    (kdh_WORTHS:KD_WORTHS w K kc_WORTHS)
    (e0:PySem.W.nsIn K mainGlobals "part"=some (some (.ref f0)))
    (F0:FnIn K "part" "part" s_part f0)
    (e1:PySem.W.nsIn K mainGlobals "greatest_divisor"=some (some (.ref f1)))
    (F1:FnIn K "greatest_divisor" "greatest_divisor" s_greatest_divisor f1)
    (e2:PySem.W.nsIn K mainGlobals "plus"=some (some (.ref f2)))
    (F2:FnIn K "plus" "plus" s_plus f2)
    (e3:PySem.W.nsIn K mainGlobals "minus"=some (some (.ref f3)))
    (F3:FnIn K "minus" "minus" s_minus f3)
    (e4:PySem.W.nsIn K mainGlobals "times"=some (some (.ref f4)))
    (F4:FnIn K "times" "times" s_times f4)
    (e5:PySem.W.nsIn K mainGlobals "under"=some (some (.ref f5)))
    (F5:FnIn K "under" "under" s_under f5)
    (e6:PySem.W.nsIn K mainGlobals "made"=some (some (.ref f6)))
    (F6:FnIn K "made" "made" s_made f6)
    (e7:PySem.W.nsIn K mainGlobals "added"=some (some (.ref f7)))
    (F7:FnIn K "added" "added" s_added f7)
    (e8:PySem.W.nsIn K mainGlobals "reduced"=some (some (.ref f8)))
    (F8:FnIn K "reduced" "reduced" s_reduced f8)
    (e9:PySem.W.nsIn K mainGlobals "scaled"=some (some (.ref f9)))
    (F9:FnIn K "scaled" "scaled" s_scaled f9)
    (e10:PySem.W.nsIn K mainGlobals "value_at"=some (some (.ref f10)))
    (F10:FnIn K "value_at" "value_at" s_value_at f10)
    (e11:PySem.W.nsIn K mainGlobals "sum_at"=some (some (.ref f11)))
    (F11:FnIn K "sum_at" "sum_at" s_sum_at f11)
    (e12:PySem.W.nsIn K mainGlobals "missed"=some (some (.ref f12)))
    (F12:FnIn K "missed" "missed" s_missed f12)
    (e13:PySem.W.nsIn K mainGlobals "unknown_of"=some (some (.ref f13)))
    (F13:FnIn K "unknown_of" "unknown_of" s_unknown_of f13)
    (e14:PySem.W.nsIn K mainGlobals "way_of"=some (some (.ref f14)))
    (F14:FnIn K "way_of" "way_of" s_way_of f14)
    (e15:PySem.W.nsIn K mainGlobals "_law_cell_at"=some (some (.ref f15)))
    (F15:FnIn K "_law_cell_at" "_law_cell_at" s_law_cell_at f15)
    (e16:PySem.W.nsIn K mainGlobals "_law_mixed"=some (some (.ref f16)))
    (F16:FnIn K "_law_mixed" "_law_mixed" s_law_mixed f16)
    (e17:PySem.W.nsIn K mainGlobals "_law_shared"=some (some (.ref f17)))
    (F17:FnIn K "_law_shared" "_law_shared" s_law_shared f17)
    (e18:PySem.W.nsIn K mainGlobals "_law_lowest"=some (some (.ref f18)))
    (F18:FnIn K "_law_lowest" "_law_lowest" s_law_lowest f18)
    (e19:PySem.W.nsIn K mainGlobals "_law_number"=some (some (.ref f19)))
    (F19:FnIn K "_law_number" "_law_number" s_law_number f19)
    (e20:PySem.W.nsIn K mainGlobals "_law_edge"=some (some (.ref f20)))
    (F20:FnIn K "_law_edge" "_law_edge" s_law_edge f20)
    (e21:PySem.W.nsIn K mainGlobals "_law_term"=some (some (.ref f21)))
    (F21:FnIn K "_law_term" "_law_term" s_law_term f21)
    (e22:PySem.W.nsIn K mainGlobals "_law_placing"=some (some (.ref f22)))
    (F22:FnIn K "_law_placing" "_law_placing" s_law_placing f22)
    (e23:PySem.W.nsIn K mainGlobals "_law_at"=some (some (.ref f23)))
    (F23:FnIn K "_law_at" "_law_at" s_law_at f23)
    (e24:PySem.W.nsIn K mainGlobals "_law_same"=some (some (.ref f24)))
    (F24:FnIn K "_law_same" "_law_same" s_law_same f24)
    (e25:PySem.W.nsIn K mainGlobals "_law_one_class"=some (some (.ref f25)))
    (F25:FnIn K "_law_one_class" "_law_one_class" s_law_one_class f25)
    (e26:PySem.W.nsIn K mainGlobals "_law_wish"=some (some (.ref f26)))
    (F26:FnIn K "_law_wish" "_law_wish" s_law_wish f26)
    (e27:PySem.W.nsIn K mainGlobals "_law_miss"=some (some (.ref f27)))
    (F27:FnIn K "_law_miss" "_law_miss" s_law_miss f27)
    (e28:PySem.W.nsIn K mainGlobals "_law_less"=some (some (.ref f28)))
    (F28:FnIn K "_law_less" "_law_less" s_law_less f28)
    (e29:PySem.W.nsIn K mainGlobals "_law_right"=some (some (.ref f29)))
    (F29:FnIn K "_law_right" "_law_right" s_law_right f29)
    (e30:PySem.W.nsIn K mainGlobals "law"=some (some (.ref f30)))
    (F30:FnIn K "law" "law" s_law f30)
    (we_Number___init__:PySem.W.findIn K (.ref x_Number) "__init__"=some (some (.ref f31)))
    (F31:FnIn K "__init__" "Number.__init__" s_Number___init__ f31)
    (we_Number_edges:PySem.W.findIn K (.ref x_Number) "edges"=some (some (.ref f32)))
    (F32:FnIn K "edges" "Term.edges" s_Term_edges f32)
    (we_Number_ways:PySem.W.findIn K (.ref x_Number) "ways"=some (some (.ref f33)))
    (F33:FnIn K "ways" "Term.ways" s_Term_ways f33)
    (we_Number_worth:PySem.W.findIn K (.ref x_Number) "worth"=some (some (.ref f34)))
    (F34:FnIn K "worth" "Number.worth" s_Number_worth f34)
    (we_Edge___init__:PySem.W.findIn K (.ref x_Edge) "__init__"=some (some (.ref f35)))
    (F35:FnIn K "__init__" "Edge.__init__" s_Edge___init__ f35)
    (we_Edge_edges:PySem.W.findIn K (.ref x_Edge) "edges"=some (some (.ref f36)))
    (F36:FnIn K "edges" "Edge.edges" s_Edge_edges f36)
    (we_Edge_worth:PySem.W.findIn K (.ref x_Edge) "worth"=some (some (.ref f37)))
    (F37:FnIn K "worth" "Edge.worth" s_Edge_worth f37)
    (we_Times___init__:PySem.W.findIn K (.ref x_Times) "__init__"=some (some (.ref f38)))
    (F38:FnIn K "__init__" "Times.__init__" s_Times___init__ f38)
    (we_Times_edges:PySem.W.findIn K (.ref x_Times) "edges"=some (some (.ref f39)))
    (F39:FnIn K "edges" "Times.edges" s_Times_edges f39)
    (we_Times_worth:PySem.W.findIn K (.ref x_Times) "worth"=some (some (.ref f40)))
    (F40:FnIn K "worth" "Times.worth" s_Times_worth f40)
    (we_Plus___init__:PySem.W.findIn K (.ref x_Plus) "__init__"=some (some (.ref f41)))
    (F41:FnIn K "__init__" "Plus.__init__" s_Plus___init__ f41)
    (we_Plus_edges:PySem.W.findIn K (.ref x_Plus) "edges"=some (some (.ref f42)))
    (F42:FnIn K "edges" "Plus.edges" s_Plus_edges f42)
    (we_Plus_worth:PySem.W.findIn K (.ref x_Plus) "worth"=some (some (.ref f43)))
    (F43:FnIn K "worth" "Plus.worth" s_Plus_worth f43)
    (we_Minus___init__:PySem.W.findIn K (.ref x_Minus) "__init__"=some (some (.ref f44)))
    (F44:FnIn K "__init__" "Minus.__init__" s_Minus___init__ f44)
    (we_Minus_edges:PySem.W.findIn K (.ref x_Minus) "edges"=some (some (.ref f45)))
    (F45:FnIn K "edges" "Minus.edges" s_Minus_edges f45)
    (we_Minus_worth:PySem.W.findIn K (.ref x_Minus) "worth"=some (some (.ref f46)))
    (F46:FnIn K "worth" "Minus.worth" s_Minus_worth f46)
    (we_Just___init__:PySem.W.findIn K (.ref x_Just) "__init__"=some (some (.ref f47)))
    (F47:FnIn K "__init__" "Wish.__init__" s_Wish___init__ f47)
    (we_Just_way:PySem.W.findIn K (.ref x_Just) "way"=some (some (.ref f48)))
    (F48:FnIn K "way" "Wish.way" s_Wish_way f48)
    (we_Just_row:PySem.W.findIn K (.ref x_Just) "row"=some (some (.ref f49)))
    (F49:FnIn K "row" "Wish.row" s_Wish_row f49)
    (we_Just_missed:PySem.W.findIn K (.ref x_Just) "missed"=some (some (.ref f50)))
    (F50:FnIn K "missed" "Wish.missed" s_Wish_missed f50)
    (we_Just_kind:PySem.W.findIn K (.ref x_Just) "kind"=some (some (.ref f51)))
    (F51:FnIn K "kind" "Just.kind" s_Just_kind f51)
    (we_AtLeast_kind:PySem.W.findIn K (.ref x_AtLeast) "kind"=some (some (.ref f52)))
    (F52:FnIn K "kind" "AtLeast.kind" s_AtLeast_kind f52)
    (we_AtMost_kind:PySem.W.findIn K (.ref x_AtMost) "kind"=some (some (.ref f53)))
    (F53:FnIn K "kind" "AtMost.kind" s_AtMost_kind f53)
    (sn_DOWN:PySem.W.nsIn K mainGlobals "DOWN"=some (some (.ref sg_DOWN)))
    (so_DOWN:K.lookup sg_DOWN=some ⟨.type "tuple",sgd_DOWN,.seq #[Value.str "top" st_DOWN_0,Value.str "height" st_DOWN_1,Value.str "bottom" st_DOWN_2,Value.str "centre" st_DOWN_3,Value.str "drop" st_DOWN_4] sgn_DOWN,sgs_DOWN⟩)
    (sn_STARTS:PySem.W.nsIn K mainGlobals "STARTS"=some (some (.ref sg_STARTS)))
    (so_STARTS:K.lookup sg_STARTS=some ⟨.type "tuple",sgd_STARTS,.seq #[Value.str "left" st_STARTS_0,Value.str "top" st_STARTS_1] sgn_STARTS,sgs_STARTS⟩)
    (n0:PySem.W.nsIn K mainGlobals "NOUGHT"=some (some (.ref g0)))
    (o0:K.lookup g0=some ⟨.type "tuple",gd0,.seq #[Value.int (0) t0_0,Value.int (1) t0_1] gn0,gs0⟩)
    (n1:PySem.W.nsIn K mainGlobals "MINUS_ONE"=some (some (.ref g1)))
    (o1:K.lookup g1=some ⟨.type "tuple",gd1,.seq #[Value.int (-1) t1_0,Value.int (1) t1_1] gn1,gs1⟩)
    (yi_FRAME:PySem.W.nsIn K mainGlobals "FRAME"=some (some (.str "frame" yk_FRAME)))
    (xn_Mixed:PySem.W.nsIn K mainGlobals "Mixed"=some (some (.ref x_Mixed)))
    (xq_Mixed:PySem.W.excIn K x_Mixed [.type "ValueError",.type "Exception",.type "BaseException",.type "object"] "ValueError.__new__"=true)
    (z0:PySem.W.nsIn K mainGlobals "abs"=some none)
    (z1:PySem.W.nsIn K mainGlobals "len"=some none)
    (z2:PySem.W.nsIn K mainGlobals "range"=some none)
    (z3:PySem.W.nsIn K mainGlobals "isinstance"=some none)
    (z4:PySem.W.nsIn K mainGlobals "tuple"=some none)
    (z5:PySem.W.nsIn K mainGlobals "bool"=some none)
    (z6:PySem.W.nsIn K mainGlobals "str"=some none)
    (z7:PySem.W.nsIn K mainGlobals "dict"=some none)
    (z8:PySem.W.nsIn K mainGlobals "list"=some none)
    (z9:PySem.W.nsIn K mainGlobals "any"=some none)
    (z10:PySem.W.nsIn K mainGlobals "all"=some none)
    (z11:PySem.W.nsIn K mainGlobals "enumerate"=some none)
    (z12:PySem.W.nsIn K mainGlobals "set"=some none)
    (z13:PySem.W.nsIn K mainGlobals "sorted"=some none)
    (se_missed_rows:PySem.W.nsIn K mainGlobals "missed_rows"=some (some (.ref f12)))
    (ws_31:PySem.W.isFn K (.ref f31)=true)
    (wm_Number:PySem.W.makesIn K x_Number=true)
    (wk_Number:PySem.W.keepIn K (.ref x_Number)=true)
    (ws_32:PySem.W.isFn K (.ref f32)=true)
    (ws_33:PySem.W.isFn K (.ref f33)=true)
    (ws_34:PySem.W.isFn K (.ref f34)=true)
    (ws_35:PySem.W.isFn K (.ref f35)=true)
    (wm_Edge:PySem.W.makesIn K x_Edge=true)
    (wk_Edge:PySem.W.keepIn K (.ref x_Edge)=true)
    (ws_36:PySem.W.isFn K (.ref f36)=true)
    (we_Edge_ways:PySem.W.findIn K (.ref x_Edge) "ways"=some (some (.ref f33)))
    (ws_37:PySem.W.isFn K (.ref f37)=true)
    (ws_38:PySem.W.isFn K (.ref f38)=true)
    (wm_Times:PySem.W.makesIn K x_Times=true)
    (wk_Times:PySem.W.keepIn K (.ref x_Times)=true)
    (ws_39:PySem.W.isFn K (.ref f39)=true)
    (we_Times_ways:PySem.W.findIn K (.ref x_Times) "ways"=some (some (.ref f33)))
    (ws_40:PySem.W.isFn K (.ref f40)=true)
    (ws_41:PySem.W.isFn K (.ref f41)=true)
    (wm_Plus:PySem.W.makesIn K x_Plus=true)
    (wk_Plus:PySem.W.keepIn K (.ref x_Plus)=true)
    (ws_42:PySem.W.isFn K (.ref f42)=true)
    (we_Plus_ways:PySem.W.findIn K (.ref x_Plus) "ways"=some (some (.ref f33)))
    (ws_43:PySem.W.isFn K (.ref f43)=true)
    (ws_44:PySem.W.isFn K (.ref f44)=true)
    (wm_Minus:PySem.W.makesIn K x_Minus=true)
    (wk_Minus:PySem.W.keepIn K (.ref x_Minus)=true)
    (ws_45:PySem.W.isFn K (.ref f45)=true)
    (we_Minus_ways:PySem.W.findIn K (.ref x_Minus) "ways"=some (some (.ref f33)))
    (ws_46:PySem.W.isFn K (.ref f46)=true)
    (ws_47:PySem.W.isFn K (.ref f47)=true)
    (wm_Just:PySem.W.makesIn K x_Just=true)
    (wk_Just:PySem.W.keepIn K (.ref x_Just)=true)
    (ws_48:PySem.W.isFn K (.ref f48)=true)
    (ws_49:PySem.W.isFn K (.ref f49)=true)
    (ws_50:PySem.W.isFn K (.ref f50)=true)
    (ws_51:PySem.W.isFn K (.ref f51)=true)
    (we_AtLeast___init__:PySem.W.findIn K (.ref x_AtLeast) "__init__"=some (some (.ref f47)))
    (wm_AtLeast:PySem.W.makesIn K x_AtLeast=true)
    (wk_AtLeast:PySem.W.keepIn K (.ref x_AtLeast)=true)
    (we_AtLeast_way:PySem.W.findIn K (.ref x_AtLeast) "way"=some (some (.ref f48)))
    (we_AtLeast_row:PySem.W.findIn K (.ref x_AtLeast) "row"=some (some (.ref f49)))
    (we_AtLeast_missed:PySem.W.findIn K (.ref x_AtLeast) "missed"=some (some (.ref f50)))
    (ws_52:PySem.W.isFn K (.ref f52)=true)
    (we_AtMost___init__:PySem.W.findIn K (.ref x_AtMost) "__init__"=some (some (.ref f47)))
    (wm_AtMost:PySem.W.makesIn K x_AtMost=true)
    (wk_AtMost:PySem.W.keepIn K (.ref x_AtMost)=true)
    (we_AtMost_way:PySem.W.findIn K (.ref x_AtMost) "way"=some (some (.ref f48)))
    (we_AtMost_row:PySem.W.findIn K (.ref x_AtMost) "row"=some (some (.ref f49)))
    (we_AtMost_missed:PySem.W.findIn K (.ref x_AtMost) "missed"=some (some (.ref f50)))
    (ws_53:PySem.W.isFn K (.ref f53)=true)
    : Nonempty (Tx w K mg):=by
  obtain⟨d0,F0⟩:=F0
  obtain⟨d1,F1⟩:=F1
  obtain⟨d2,F2⟩:=F2
  obtain⟨d3,F3⟩:=F3
  obtain⟨d4,F4⟩:=F4
  obtain⟨d5,F5⟩:=F5
  obtain⟨d6,F6⟩:=F6
  obtain⟨d7,F7⟩:=F7
  obtain⟨d8,F8⟩:=F8
  obtain⟨d9,F9⟩:=F9
  obtain⟨d10,F10⟩:=F10
  obtain⟨d11,F11⟩:=F11
  obtain⟨d12,F12⟩:=F12
  obtain⟨d13,F13⟩:=F13
  obtain⟨d14,F14⟩:=F14
  obtain⟨d15,F15⟩:=F15
  obtain⟨d16,F16⟩:=F16
  obtain⟨d17,F17⟩:=F17
  obtain⟨d18,F18⟩:=F18
  obtain⟨d19,F19⟩:=F19
  obtain⟨d20,F20⟩:=F20
  obtain⟨d21,F21⟩:=F21
  obtain⟨d22,F22⟩:=F22
  obtain⟨d23,F23⟩:=F23
  obtain⟨d24,F24⟩:=F24
  obtain⟨d25,F25⟩:=F25
  obtain⟨d26,F26⟩:=F26
  obtain⟨d27,F27⟩:=F27
  obtain⟨d28,F28⟩:=F28
  obtain⟨d29,F29⟩:=F29
  obtain⟨d30,F30⟩:=F30
  obtain⟨d31,F31⟩:=F31
  obtain⟨d32,F32⟩:=F32
  obtain⟨d33,F33⟩:=F33
  obtain⟨d34,F34⟩:=F34
  obtain⟨d35,F35⟩:=F35
  obtain⟨d36,F36⟩:=F36
  obtain⟨d37,F37⟩:=F37
  obtain⟨d38,F38⟩:=F38
  obtain⟨d39,F39⟩:=F39
  obtain⟨d40,F40⟩:=F40
  obtain⟨d41,F41⟩:=F41
  obtain⟨d42,F42⟩:=F42
  obtain⟨d43,F43⟩:=F43
  obtain⟨d44,F44⟩:=F44
  obtain⟨d45,F45⟩:=F45
  obtain⟨d46,F46⟩:=F46
  obtain⟨d47,F47⟩:=F47
  obtain⟨d48,F48⟩:=F48
  obtain⟨d49,F49⟩:=F49
  obtain⟨d50,F50⟩:=F50
  obtain⟨d51,F51⟩:=F51
  obtain⟨d52,F52⟩:=F52
  obtain⟨d53,F53⟩:=F53
  exact⟨{
  c_Number:=x_Number
  m_Number:=PySem.W.mg_of X G wn_Number
  cl_Number:=⟨wa_Number,wb_Number,wc_Number,wd_Number⟩
  nf_Number_number:=wf_Number_number
  c_Edge:=x_Edge
  m_Edge:=PySem.W.mg_of X G wn_Edge
  cl_Edge:=⟨wa_Edge,wb_Edge,wc_Edge,wd_Edge⟩
  nf_Edge_word:=wf_Edge_word
  nf_Edge_name:=wf_Edge_name
  c_Times:=x_Times
  m_Times:=PySem.W.mg_of X G wn_Times
  cl_Times:=⟨wa_Times,wb_Times,wc_Times,wd_Times⟩
  nf_Times_number:=wf_Times_number
  nf_Times_inner:=wf_Times_inner
  c_Plus:=x_Plus
  m_Plus:=PySem.W.mg_of X G wn_Plus
  cl_Plus:=⟨wa_Plus,wb_Plus,wc_Plus,wd_Plus⟩
  nf_Plus_one:=wf_Plus_one
  nf_Plus_other:=wf_Plus_other
  c_Minus:=x_Minus
  m_Minus:=PySem.W.mg_of X G wn_Minus
  cl_Minus:=⟨wa_Minus,wb_Minus,wc_Minus,wd_Minus⟩
  nf_Minus_one:=wf_Minus_one
  nf_Minus_other:=wf_Minus_other
  c_Wish:=x_Wish
  m_Wish:=PySem.W.mg_of X G wn_Wish
  cl_Wish:=⟨wa_Wish,wb_Wish,wc_Wish,wd_Wish⟩
  c_Just:=x_Just
  m_Just:=PySem.W.mg_of X G wn_Just
  cl_Just:=⟨wa_Just,wb_Just,wc_Just,wd_Just⟩
  nf_Just_near:=wf_Just_near
  nf_Just_far:=wf_Just_far
  nf_Just_rank:=wf_Just_rank
  nf_Just_weight:=wf_Just_weight
  c_AtLeast:=x_AtLeast
  m_AtLeast:=PySem.W.mg_of X G wn_AtLeast
  cl_AtLeast:=⟨wa_AtLeast,wb_AtLeast,wc_AtLeast,wd_AtLeast⟩
  nf_AtLeast_near:=wf_AtLeast_near
  nf_AtLeast_far:=wf_AtLeast_far
  nf_AtLeast_rank:=wf_AtLeast_rank
  nf_AtLeast_weight:=wf_AtLeast_weight
  c_AtMost:=x_AtMost
  m_AtMost:=PySem.W.mg_of X G wn_AtMost
  cl_AtMost:=⟨wa_AtMost,wb_AtMost,wc_AtMost,wd_AtMost⟩
  nf_AtMost_near:=wf_AtMost_near
  nf_AtMost_far:=wf_AtMost_far
  nf_AtMost_rank:=wf_AtMost_rank
  nf_AtMost_weight:=wf_AtMost_weight
  ik_Just:=⟨⟨wa_Just,wb_Just,wc_Just,wd_Just⟩,wg_Just,wi_0,wj_0,wh_Just⟩
  ik_AtLeast:=⟨⟨wa_AtLeast,wb_AtLeast,wc_AtLeast,wd_AtLeast⟩,wg_AtLeast,wi_0,wj_0,wh_AtLeast⟩
  ik_AtMost:=⟨⟨wa_AtMost,wb_AtMost,wc_AtMost,wd_AtMost⟩,wg_AtMost,wi_0,wj_0,wh_AtMost⟩
  kc_Just_Just:=wkc_Just_Just
  kc_Just_AtLeast:=wkc_Just_AtLeast
  kc_Just_AtMost:=wkc_Just_AtMost
  kc_Just_Wish:=wkc_Just_Wish
  kc_AtLeast_Just:=wkc_AtLeast_Just
  kc_AtLeast_AtLeast:=wkc_AtLeast_AtLeast
  kc_AtLeast_AtMost:=wkc_AtLeast_AtMost
  kc_AtLeast_Wish:=wkc_AtLeast_Wish
  kc_AtMost_Just:=wkc_AtMost_Just
  kc_AtMost_AtLeast:=wkc_AtMost_AtLeast
  kc_AtMost_AtMost:=wkc_AtMost_AtMost
  kc_AtMost_Wish:=wkc_AtMost_Wish
  c_WORTHS:=kc_WORTHS
  m_WORTHS:=PySem.W.mg_of X G kn_WORTHS
  w_WORTHS:=kdh_WORTHS
  mk_Number:=⟨wm_Number,we_Number___init__,ws_31,wk_Number⟩
  mt_Number_edges:=⟨we_Number_edges,ws_32,F32.kp⟩
  mt_Number_ways:=⟨we_Number_ways,ws_33,F33.kp⟩
  mt_Number_worth:=⟨we_Number_worth,ws_34,F34.kp⟩
  mk_Edge:=⟨wm_Edge,we_Edge___init__,ws_35,wk_Edge⟩
  mt_Edge_edges:=⟨we_Edge_edges,ws_36,F36.kp⟩
  mt_Edge_ways:=⟨we_Edge_ways,ws_33,F33.kp⟩
  mt_Edge_worth:=⟨we_Edge_worth,ws_37,F37.kp⟩
  mk_Times:=⟨wm_Times,we_Times___init__,ws_38,wk_Times⟩
  mt_Times_edges:=⟨we_Times_edges,ws_39,F39.kp⟩
  mt_Times_ways:=⟨we_Times_ways,ws_33,F33.kp⟩
  mt_Times_worth:=⟨we_Times_worth,ws_40,F40.kp⟩
  mk_Plus:=⟨wm_Plus,we_Plus___init__,ws_41,wk_Plus⟩
  mt_Plus_edges:=⟨we_Plus_edges,ws_42,F42.kp⟩
  mt_Plus_ways:=⟨we_Plus_ways,ws_33,F33.kp⟩
  mt_Plus_worth:=⟨we_Plus_worth,ws_43,F43.kp⟩
  mk_Minus:=⟨wm_Minus,we_Minus___init__,ws_44,wk_Minus⟩
  mt_Minus_edges:=⟨we_Minus_edges,ws_45,F45.kp⟩
  mt_Minus_ways:=⟨we_Minus_ways,ws_33,F33.kp⟩
  mt_Minus_worth:=⟨we_Minus_worth,ws_46,F46.kp⟩
  mk_Just:=⟨wm_Just,we_Just___init__,ws_47,wk_Just⟩
  mt_Just_way:=⟨we_Just_way,ws_48,F48.kp⟩
  mt_Just_row:=⟨we_Just_row,ws_49,F49.kp⟩
  mt_Just_missed:=⟨we_Just_missed,ws_50,F50.kp⟩
  mt_Just_kind:=⟨we_Just_kind,ws_51,F51.kp⟩
  mk_AtLeast:=⟨wm_AtLeast,we_AtLeast___init__,ws_47,wk_AtLeast⟩
  mt_AtLeast_way:=⟨we_AtLeast_way,ws_48,F48.kp⟩
  mt_AtLeast_row:=⟨we_AtLeast_row,ws_49,F49.kp⟩
  mt_AtLeast_missed:=⟨we_AtLeast_missed,ws_50,F50.kp⟩
  mt_AtLeast_kind:=⟨we_AtLeast_kind,ws_52,F52.kp⟩
  mk_AtMost:=⟨wm_AtMost,we_AtMost___init__,ws_47,wk_AtMost⟩
  mt_AtMost_way:=⟨we_AtMost_way,ws_48,F48.kp⟩
  mt_AtMost_row:=⟨we_AtMost_row,ws_49,F49.kp⟩
  mt_AtMost_missed:=⟨we_AtMost_missed,ws_50,F50.kp⟩
  mt_AtMost_kind:=⟨we_AtMost_kind,ws_53,F53.kp⟩
  a_part:=f0
  d_part:=d0
  F_part:=F0
  b_part:=F0.binds (ps:=["top","bottom"]) fun _ _ _ _ _ _ us hl=>match us,hl with | [_,_],_=>rfl
  m_part:=PySem.W.mg_of X G e0
  a_greatest_divisor:=f1
  d_greatest_divisor:=d1
  F_greatest_divisor:=F1
  b_greatest_divisor:=F1.binds (ps:=["one","other"]) fun _ _ _ _ _ _ us hl=>match us,hl with | [_,_],_=>rfl
  m_greatest_divisor:=PySem.W.mg_of X G e1
  a_plus:=f2
  d_plus:=d2
  F_plus:=F2
  b_plus:=F2.binds (ps:=["one","other"]) fun _ _ _ _ _ _ us hl=>match us,hl with | [_,_],_=>rfl
  m_plus:=PySem.W.mg_of X G e2
  a_minus:=f3
  d_minus:=d3
  F_minus:=F3
  b_minus:=F3.binds (ps:=["one","other"]) fun _ _ _ _ _ _ us hl=>match us,hl with | [_,_],_=>rfl
  m_minus:=PySem.W.mg_of X G e3
  a_times:=f4
  d_times:=d4
  F_times:=F4
  b_times:=F4.binds (ps:=["one","other"]) fun _ _ _ _ _ _ us hl=>match us,hl with | [_,_],_=>rfl
  m_times:=PySem.W.mg_of X G e4
  a_under:=f5
  d_under:=d5
  F_under:=F5
  b_under:=F5.binds (ps:=["one","other"]) fun _ _ _ _ _ _ us hl=>match us,hl with | [_,_],_=>rfl
  m_under:=PySem.W.mg_of X G e5
  a_made:=f6
  d_made:=d6
  F_made:=F6
  b_made:=F6.binds (ps:=["parts","rest"]) fun _ _ _ _ _ _ us hl=>match us,hl with | [_,_],_=>rfl
  m_made:=PySem.W.mg_of X G e6
  a_added:=f7
  d_added:=d7
  F_added:=F7
  b_added:=F7.binds (ps:=["one","other"]) fun _ _ _ _ _ _ us hl=>match us,hl with | [_,_],_=>rfl
  m_added:=PySem.W.mg_of X G e7
  a_reduced:=f8
  d_reduced:=d8
  F_reduced:=F8
  b_reduced:=F8.binds (ps:=["one","other"]) fun _ _ _ _ _ _ us hl=>match us,hl with | [_,_],_=>rfl
  m_reduced:=PySem.W.mg_of X G e8
  a_scaled:=f9
  d_scaled:=d9
  F_scaled:=F9
  b_scaled:=F9.binds (ps:=["one","number"]) fun _ _ _ _ _ _ us hl=>match us,hl with | [_,_],_=>rfl
  m_scaled:=PySem.W.mg_of X G e9
  a_value_at:=f10
  d_value_at:=d10
  F_value_at:=F10
  b_value_at:=F10.binds (ps:=["one","placing"]) fun _ _ _ _ _ _ us hl=>match us,hl with | [_,_],_=>rfl
  m_value_at:=PySem.W.mg_of X G e10
  a_sum_at:=f11
  d_sum_at:=d11
  F_sum_at:=F11
  b_sum_at:=F11.binds (ps:=["one","placing"]) fun _ _ _ _ _ _ us hl=>match us,hl with | [_,_],_=>rfl
  m_sum_at:=PySem.W.mg_of X G e11
  a_missed:=f12
  d_missed:=d12
  F_missed:=F12
  b_missed:=F12.binds (ps:=["one","placing"]) fun _ _ _ _ _ _ us hl=>match us,hl with | [_,_],_=>rfl
  m_missed:=PySem.W.mg_of X G e12
  a_unknown_of:=f13
  d_unknown_of:=d13
  F_unknown_of:=F13
  b_unknown_of:=F13.binds (ps:=["word","name"]) fun _ _ _ _ _ _ us hl=>match us,hl with | [_,_],_=>rfl
  m_unknown_of:=PySem.W.mg_of X G e13
  a_way_of:=f14
  d_way_of:=d14
  F_way_of:=F14
  b_way_of:=F14.binds (ps:=["word"]) fun _ _ _ _ _ _ us hl=>match us,hl with | [_],_=>rfl
  m_way_of:=PySem.W.mg_of X G e14
  a_law_cell_at:=f15
  d_law_cell_at:=d15
  F_law_cell_at:=F15
  b_law_cell_at:=F15.binds (ps:=["_law_script","_law_k"]) fun _ _ _ _ _ _ us hl=>match us,hl with | [_,_],_=>rfl
  m_law_cell_at:=PySem.W.mg_of X G e15
  a_law_mixed:=f16
  d_law_mixed:=d16
  F_law_mixed:=F16
  b_law_mixed:=F16.binds (ps:=["_law_cell","_law_k"]) fun _ _ _ _ _ _ us hl=>match us,hl with | [_,_],_=>rfl
  m_law_mixed:=PySem.W.mg_of X G e16
  a_law_shared:=f17
  d_law_shared:=d17
  F_law_shared:=F17
  b_law_shared:=F17.binds (ps:=["_law_one","_law_other"]) fun _ _ _ _ _ _ us hl=>match us,hl with | [_,_],_=>rfl
  m_law_shared:=PySem.W.mg_of X G e17
  a_law_lowest:=f18
  d_law_lowest:=d18
  F_law_lowest:=F18
  b_law_lowest:=F18.binds (ps:=["_law_top","_law_bottom"]) fun _ _ _ _ _ _ us hl=>match us,hl with | [_,_],_=>rfl
  m_law_lowest:=PySem.W.mg_of X G e18
  a_law_number:=f19
  d_law_number:=d19
  F_law_number:=F19
  b_law_number:=F19.binds (ps:=["_law_cell"]) fun _ _ _ _ _ _ us hl=>match us,hl with | [_],_=>rfl
  m_law_number:=PySem.W.mg_of X G e19
  a_law_edge:=f20
  d_law_edge:=d20
  F_law_edge:=F20
  b_law_edge:=F20.binds (ps:=["_law_cell","_law_down"]) fun _ _ _ _ _ _ us hl=>match us,hl with | [_,_],_=>rfl
  m_law_edge:=PySem.W.mg_of X G e20
  a_law_term:=f21
  d_law_term:=d21
  F_law_term:=F21
  b_law_term:=F21.binds (ps:=["_law_cells","_law_down"]) fun _ _ _ _ _ _ us hl=>match us,hl with | [_,_],_=>rfl
  m_law_term:=PySem.W.mg_of X G e21
  a_law_placing:=f22
  d_law_placing:=d22
  F_law_placing:=F22
  b_law_placing:=F22.binds (ps:=["_law_cell"]) fun _ _ _ _ _ _ us hl=>match us,hl with | [_],_=>rfl
  m_law_placing:=PySem.W.mg_of X G e22
  a_law_at:=f23
  d_law_at:=d23
  F_law_at:=F23
  b_law_at:=F23.binds (ps:=["_law_parts","_law_rest","_law_placing_here"]) fun _ _ _ _ _ _ us hl=>match us,hl with | [_,_,_],_=>rfl
  m_law_at:=PySem.W.mg_of X G e23
  a_law_same:=f24
  d_law_same:=d24
  F_law_same:=F24
  b_law_same:=F24.binds (ps:=["_law_found","_law_due"]) fun _ _ _ _ _ _ us hl=>match us,hl with | [_,_],_=>rfl
  m_law_same:=PySem.W.mg_of X G e24
  a_law_one_class:=f25
  d_law_one_class:=d25
  F_law_one_class:=F25
  b_law_one_class:=F25.binds (ps:=["_law_wish_here","_law_kind"]) fun _ _ _ _ _ _ us hl=>match us,hl with | [_,_],_=>rfl
  m_law_one_class:=PySem.W.mg_of X G e25
  a_law_wish:=f26
  d_law_wish:=d26
  F_law_wish:=F26
  b_law_wish:=F26.binds (ps:=["_law_kind","_law_near","_law_far","_law_rank","_law_weight"]) fun _ _ _ _ _ _ us hl=>match us,hl with | [_,_,_,_,_],_=>rfl
  m_law_wish:=PySem.W.mg_of X G e26
  a_law_miss:=f27
  d_law_miss:=d27
  F_law_miss:=F27
  b_law_miss:=F27.binds (ps:=["_law_kind","_law_gap"]) fun _ _ _ _ _ _ us hl=>match us,hl with | [_,_],_=>rfl
  m_law_miss:=PySem.W.mg_of X G e27
  a_law_less:=f28
  d_law_less:=d28
  F_law_less:=F28
  b_law_less:=F28.binds (ps:=["_law_near","_law_far","_law_placing_here"]) fun _ _ _ _ _ _ us hl=>match us,hl with | [_,_,_],_=>rfl
  m_law_less:=PySem.W.mg_of X G e28
  a_law_right:=f29
  d_law_right:=d29
  F_law_right:=F29
  b_law_right:=F29.binds (ps:=["_law_wish_here","_law_kind","_law_gap","_law_rank","_law_weight","_law_placing_here"]) fun _ _ _ _ _ _ us hl=>match us,hl with | [_,_,_,_,_,_],_=>rfl
  m_law_right:=PySem.W.mg_of X G e29
  a_law:=f30
  d_law:=d30
  F_law:=F30
  b_law:=F30.binds (ps:=["_law_script"]) fun _ _ _ _ _ _ us hl=>match us,hl with | [_],_=>rfl
  m_law:=PySem.W.mg_of X G e30
  a_Number___init__:=f31
  d_Number___init__:=d31
  F_Number___init__:=F31
  b_Number___init__:=F31.binds (ps:=["self","number"]) fun _ _ _ _ _ _ us hl=>match us,hl with | [_,_],_=>rfl
  a_Term_edges:=f32
  d_Term_edges:=d32
  F_Term_edges:=F32
  b_Term_edges:=F32.binds (ps:=["self"]) fun _ _ _ _ _ _ us hl=>match us,hl with | [_],_=>rfl
  a_Term_ways:=f33
  d_Term_ways:=d33
  F_Term_ways:=F33
  b_Term_ways:=F33.binds (ps:=["self"]) fun _ _ _ _ _ _ us hl=>match us,hl with | [_],_=>rfl
  a_Number_worth:=f34
  d_Number_worth:=d34
  F_Number_worth:=F34
  b_Number_worth:=F34.binds (ps:=["self"]) fun _ _ _ _ _ _ us hl=>match us,hl with | [_],_=>rfl
  a_Edge___init__:=f35
  d_Edge___init__:=d35
  F_Edge___init__:=F35
  b_Edge___init__:=F35.binds (ps:=["self","word","name"]) fun _ _ _ _ _ _ us hl=>match us,hl with | [_,_,_],_=>rfl
  a_Edge_edges:=f36
  d_Edge_edges:=d36
  F_Edge_edges:=F36
  b_Edge_edges:=F36.binds (ps:=["self"]) fun _ _ _ _ _ _ us hl=>match us,hl with | [_],_=>rfl
  a_Edge_worth:=f37
  d_Edge_worth:=d37
  F_Edge_worth:=F37
  b_Edge_worth:=F37.binds (ps:=["self"]) fun _ _ _ _ _ _ us hl=>match us,hl with | [_],_=>rfl
  a_Times___init__:=f38
  d_Times___init__:=d38
  F_Times___init__:=F38
  b_Times___init__:=F38.binds (ps:=["self","number","inner"]) fun _ _ _ _ _ _ us hl=>match us,hl with | [_,_,_],_=>rfl
  a_Times_edges:=f39
  d_Times_edges:=d39
  F_Times_edges:=F39
  b_Times_edges:=F39.binds (ps:=["self"]) fun _ _ _ _ _ _ us hl=>match us,hl with | [_],_=>rfl
  a_Times_worth:=f40
  d_Times_worth:=d40
  F_Times_worth:=F40
  b_Times_worth:=F40.binds (ps:=["self"]) fun _ _ _ _ _ _ us hl=>match us,hl with | [_],_=>rfl
  a_Plus___init__:=f41
  d_Plus___init__:=d41
  F_Plus___init__:=F41
  b_Plus___init__:=F41.binds (ps:=["self","one","other"]) fun _ _ _ _ _ _ us hl=>match us,hl with | [_,_,_],_=>rfl
  a_Plus_edges:=f42
  d_Plus_edges:=d42
  F_Plus_edges:=F42
  b_Plus_edges:=F42.binds (ps:=["self"]) fun _ _ _ _ _ _ us hl=>match us,hl with | [_],_=>rfl
  a_Plus_worth:=f43
  d_Plus_worth:=d43
  F_Plus_worth:=F43
  b_Plus_worth:=F43.binds (ps:=["self"]) fun _ _ _ _ _ _ us hl=>match us,hl with | [_],_=>rfl
  a_Minus___init__:=f44
  d_Minus___init__:=d44
  F_Minus___init__:=F44
  b_Minus___init__:=F44.binds (ps:=["self","one","other"]) fun _ _ _ _ _ _ us hl=>match us,hl with | [_,_,_],_=>rfl
  a_Minus_edges:=f45
  d_Minus_edges:=d45
  F_Minus_edges:=F45
  b_Minus_edges:=F45.binds (ps:=["self"]) fun _ _ _ _ _ _ us hl=>match us,hl with | [_],_=>rfl
  a_Minus_worth:=f46
  d_Minus_worth:=d46
  F_Minus_worth:=F46
  b_Minus_worth:=F46.binds (ps:=["self"]) fun _ _ _ _ _ _ us hl=>match us,hl with | [_],_=>rfl
  a_Wish___init__:=f47
  d_Wish___init__:=d47
  F_Wish___init__:=F47
  b_Wish___init__:=F47.binds (ps:=["self","near","far","rank","weight"]) fun _ _ _ _ _ _ us hl=>match us,hl with | [_,_,_,_,_],_=>rfl
  a_Wish_way:=f48
  d_Wish_way:=d48
  F_Wish_way:=F48
  b_Wish_way:=F48.binds (ps:=["self"]) fun _ _ _ _ _ _ us hl=>match us,hl with | [_],_=>rfl
  a_Wish_row:=f49
  d_Wish_row:=d49
  F_Wish_row:=F49
  b_Wish_row:=F49.binds (ps:=["self"]) fun _ _ _ _ _ _ us hl=>match us,hl with | [_],_=>rfl
  a_Wish_missed:=f50
  d_Wish_missed:=d50
  F_Wish_missed:=F50
  b_Wish_missed:=F50.binds (ps:=["self","placing"]) fun _ _ _ _ _ _ us hl=>match us,hl with | [_,_],_=>rfl
  a_Just_kind:=f51
  d_Just_kind:=d51
  F_Just_kind:=F51
  b_Just_kind:=F51.binds (ps:=["self"]) fun _ _ _ _ _ _ us hl=>match us,hl with | [_],_=>rfl
  a_AtLeast_kind:=f52
  d_AtLeast_kind:=d52
  F_AtLeast_kind:=F52
  b_AtLeast_kind:=F52.binds (ps:=["self"]) fun _ _ _ _ _ _ us hl=>match us,hl with | [_],_=>rfl
  a_AtMost_kind:=f53
  d_AtMost_kind:=d53
  F_AtMost_kind:=F53
  b_AtMost_kind:=F53.binds (ps:=["self"]) fun _ _ _ _ _ _ us hl=>match us,hl with | [_],_=>rfl
  c_DOWN:=sg_DOWN
  m_DOWN:=PySem.W.mg_of X G sn_DOWN
  t_DOWN:=⟨_,_,_,so_DOWN,rfl,rfl,(by show 5≤sizeLine;decide),(.cons ⟨_,rfl⟩ (.cons ⟨_,rfl⟩ (.cons ⟨_,rfl⟩ (.cons ⟨_,rfl⟩ (.cons ⟨_,rfl⟩ .nil)))))⟩
  c_STARTS:=sg_STARTS
  m_STARTS:=PySem.W.mg_of X G sn_STARTS
  t_STARTS:=⟨_,_,_,so_STARTS,rfl,rfl,(by show 2≤sizeLine;decide),(.cons ⟨_,rfl⟩ (.cons ⟨_,rfl⟩ .nil))⟩
  c_NOUGHT:=g0
  m_NOUGHT:=PySem.W.mg_of X G n0
  t_NOUGHT:=⟨_,_,_,o0,rfl,rfl,(by show 2≤sizeLine;decide),(.cons ⟨_,rfl⟩ (.cons ⟨_,rfl⟩ .nil))⟩
  c_MINUS_ONE:=g1
  m_MINUS_ONE:=PySem.W.mg_of X G n1
  t_MINUS_ONE:=⟨_,_,_,o1,rfl,rfl,(by show 2≤sizeLine;decide),(.cons ⟨_,rfl⟩ (.cons ⟨_,rfl⟩ .nil))⟩
  k_FRAME:=yk_FRAME
  m_FRAME:=PySem.W.mg_of X G yi_FRAME
  c_Mixed:=x_Mixed
  m_Mixed:=PySem.W.mg_of X G xn_Mixed
  q_Mixed:=xq_Mixed
  z_abs:=PySem.W.mg_none_of X G z0
  z_len:=PySem.W.mg_none_of X G z1
  z_range:=PySem.W.mg_none_of X G z2
  z_isinstance:=PySem.W.mg_none_of X G z3
  z_tuple:=PySem.W.mg_none_of X G z4
  z_bool:=PySem.W.mg_none_of X G z5
  z_str:=PySem.W.mg_none_of X G z6
  z_dict:=PySem.W.mg_none_of X G z7
  z_list:=PySem.W.mg_none_of X G z8
  z_any:=PySem.W.mg_none_of X G z9
  z_all:=PySem.W.mg_none_of X G z10
  z_enumerate:=PySem.W.mg_none_of X G z11
  z_set:=PySem.W.mg_none_of X G z12
  z_sorted:=PySem.W.mg_none_of X G z13
  m_missed_rows:=PySem.W.mg_of X G se_missed_rows
  }⟩
section
variable {P:Program} {w:World} {K:PySem.W.Frag} {mg:Str→Option Value} {base:Heap}
local macro_rules | `(tactic| walk_at "v0") => `(tactic| first
  | with_reducible refine a'E ?_
  | with_reducible refine a'z ?_
  | with_reducible refine a'A ?_
  | with_reducible refine c'j ?_
  | with_reducible refine a'G ?_
  | with_reducible refine b'd ?_
  | ((with_reducible refine' a'c ?ve ?_); (case ve => rfl))
  | with_reducible refine a_c ?_
  | with_reducible refine a'f ?_
  | with_reducible refine j't ?_
  | with_reducible refine b'g ?_
  | with_reducible refine a_U ?_
  | with_reducible refine a'B ?_
  | with_reducible refine c't ?_
  | with_reducible refine a'C ?_
  | with_reducible refine c'K ?_
  | with_reducible refine c'L ?_
  | with_reducible refine a_eqB ?_
  | with_reducible refine j'u ?_
  | with_reducible refine a'p ?_
  | with_reducible refine a'b ?_
  | with_reducible refine a'g ?_
  | with_reducible refine a'U ?_
  | with_reducible refine b'C ?_
  | with_reducible refine b'j ?_
  | with_reducible refine c'k ?_
  | with_reducible refine b'V ?_
  | with_reducible refine d'f ?_
  | with_reducible refine d'v ?_
  | with_reducible refine a_orV ?_
  | with_reducible refine h'H ?_
  | with_reducible refine j'v ?_
  | with_reducible refine l'n ?_
  | with_reducible refine a_part ?_
  | with_reducible refine a_noPart ?_
  | with_reducible refine e'l ?_
  | with_reducible refine l'U ?_
  | with_reducible refine k'h ?_
  | dsimp only)
local macro_rules | `(tactic| walk_at "v") => `(tactic| first | with_reducible refine a's ?_ | walk_at "v0")
local macro_rules | `(tactic| walk_at "vt") => `(tactic| repeat walk_at "v0")
local macro_rules | `(tactic| walk_at "vs") => `(tactic| repeat walk_at "v")
local macro_rules | `(tactic| walk_at "o") => `(tactic| first | assumption | omega | rfl | trivial | decide | (refine ⟨?_, ?_⟩ <;> walk_at "o"))
local macro_rules | `(tactic| walk_at "ol") => `(tactic| first | omega | (simp only [List.length_cons, List.length_nil, List.length_append]; omega) | (simp only [List.length_cons, List.length_nil, List.length_append, List.length_map, List.length_replicate]; omega))
local macro_rules | `(tactic| walk_at "om") => `(tactic| first | exact j'A (by omega) (by omega) | exact l'X (by omega) (by omega) | exact mulLB (by omega) | exact mulRB (by omega) | exact o'p (by omega) (by omega))
local macro_rules | `(tactic| walk_at "od") => `(tactic| first | exact o'F (by omega) (by omega))
seal PE PT PS PSs PA PG PI PW
/-! ### numbers -/
def sp_gd:Sp:=fun vs H Q _=>∃ a b:Int,vs=[.int a,.int b]∧0≤a∧0≤b∧Q (.int (gd a b)) H
theorem e'e (T:Tx w K mg):FnOk P w K mg base CX0 1 T.a_greatest_divisor T.d_greatest_divisor ["one","other"] sp_gd:=by
  refine T.F_greatest_divisor.ok sc_greatest_divisor (fun vs H Q E h=>?_) (fun cdv A outer s H vs Q E hr h=>?_)
  · obtain⟨a,b,rfl,_⟩:=h
    rfl
  · obtain⟨a,b,rfl,ha,hb,k⟩:=h
    refine⟨_,(@a'h _ _ _ _ _ (f'e PassesOwn.never (a'u b'H (pv 1) a'd (a'y _)) (@a'h _ _ _ _ _ (a'w (i:=2) sc_greatest_divisor.nd rfl (Or.inl rfl) (a'n a'S (pv 0) (pv 1)))
      (@a'h _ _ _ _ _ (a'w (i:=0) sc_greatest_divisor.nd rfl (Or.inl rfl) (pv 1))
      (a'i (a'w (i:=1) sc_greatest_divisor.nd rfl (Or.inl rfl) (pv 2))))))
      (a'i (a'r (pv 0)))),?_⟩
    refine a's ?_
    refine⟨fun m σ H'=>∃ (x y:Int) (z:Option V),σ=[some (.int x),some (.int y),z]∧H'=H∧0≤x∧0≤y∧gd x y=gd a b∧m=y.toNat,⟨b.toNat,a,b,none,rfl,rfl,ha,hb,rfl,rfl⟩,?_⟩
    rintro m σ H' ⟨x,y,z,rfl,rfl,hx,hy,e,rfl⟩
    walk_at "vs"
    refine b'r (fun hne=>?_) (fun hz=>?_)
    · refine⟨fun σ' H'=>∃ (x' y':Int) (z:Option V),σ'=[some (.int x'),some (.int y'),z]∧H'=_∧0≤x'∧0≤y'∧gd x' y'=gd a b∧y'.toNat<y.toNat,fun σ' H' ⟨x',y',z',e1,e2,e3,e4,e5,e6⟩=>⟨y'.toNat,e6,x',y',z',e1,e2,e3,e4,e5,rfl⟩,?_⟩
      walk_at "vs"
      refine a_I (by omega) ?_
      walk_at "vs"
      refine⟨y,x % y,_,rfl,rfl,hy,Int.emod_nonneg _ hne,?_,?_⟩
      · rw [n'z hx (by omega)];exact e
      · have:=Int.emod_lt_of_pos x (show 0<y by omega)
        have:=Int.emod_nonneg x hne
        omega
    · walk_at "vs"
      rw [hz,i'K x hx] at e
      rw [e]
      exact k
def sp_part:Sp:=fun vs H Q _=>∃ t b:Int,vs=[.int t,.int b]∧b≠0∧b.natAbs<2 ^ 8000∧∀ p,H p=none→Q (.ref p) (upd H p (.tup (fr (Rat.divInt t b))))
theorem o'x {t b:Int} (h:b≠0):(gd t b).natAbs≤b.natAbs:=by
  have h1:=f'g t b
  have h2:=Int.natAbs_dvd_natAbs.mpr h1
  exact Nat.le_of_dvd (by omega) h2
theorem m'b {t b:Int} (h:b≠0):(dv t b).natAbs≤b.natAbs:=by
  have:=o'x (t:=t) h
  unfold dv
  split
  · rw [Int.natAbs_neg];exact this
  · exact this
theorem g's (T:Tx w K mg):FnOk P w K mg base CX0 2 T.a_part T.d_part ["top","bottom"] sp_part:=by
  refine T.F_part.ok sc_part (fun vs H Q E h=>?_) (fun cdv A outer s H vs Q E hr h=>?_)
  · obtain⟨a,b,rfl,_⟩:=h
    rfl
  · obtain⟨t,b,rfl,hb,hz,k⟩:=h
    refine⟨_,(@a'h _ _ _ _ _ (a'P (a'u b'n (pv 1) a'd (a'y _)) (a'i l'e) a'N)
      (@a'h _ _ _ _ _ (a'w (i:=2) sc_part.nd rfl (Or.inl rfl) (a'l ((e'e T).mono (by decide)) hr rfl T.m_greatest_divisor T.F_greatest_divisor.kp T.b_greatest_divisor .nil a'j (a'a (a'F c's rfl T.z_abs rfl (a'a (pv 0) a'e)) (a'a (a'F c's rfl T.z_abs rfl (a'a (pv 1) a'e)) a'e))))
      (@a'h _ _ _ _ _ (a'P (a'u d'e (pv 1) a'd (a'y _)) (a'i (a'w (i:=2) sc_part.nd rfl (Or.inl rfl) (h'n f'A (pv 2)))) a'N)
      (a'i (a'r (b'L (a'a (a'n d'N (pv 0) (pv 2)) (a'a (a'n d'N (pv 1) (pv 2)) a'e)))))))),?_⟩
    walk_at "vs"
    refine o'n hb ?_
    walk_at "vs"
    refine⟨t,rfl,?_⟩
    walk_at "vs"
    refine⟨b,rfl,?_⟩
    walk_at "vs"
    have e:gd (if t<0 then -t else t) (if b<0 then -b else b)=gd t b:=m'm t b
    refine⟨_,_,rfl,(by split<;>omega),(by split<;>omega),?_⟩
    rw [e]
    have hd:=h'p (t:=t) hb
    have hl:(dv t b).natAbs<2 ^ 8000:=Nat.lt_of_le_of_lt (m'b hb) hz
    have fin:∀ p,H p=none→Q (.ref p) (upd H p (.tup [.int (t.fdiv (dv t b)),.int (b.fdiv (dv t b))])):=fun p hp=>by
      rw [f'h hb,f'i hb]
      exact k p hp
    walk_at "vs"
    refine a'V (fun hn=>?_) (fun hn=>?_)
    · have ed:-(gd t b)=dv t b:=by unfold dv;rw [if_pos hn]
      walk_at "vs"
      rw [ed]
      refine a_I ⟨hd,hl⟩ ?_
      walk_at "vs"
      refine a_I ⟨hd,hl⟩ ?_
      walk_at "vs"
      exact⟨by show 2≤sizeLine;decide,fin⟩
    · have ed:gd t b=dv t b:=by unfold dv;rw [if_neg hn]
      walk_at "vs"
      rw [ed]
      refine a_I ⟨hd,hl⟩ ?_
      walk_at "vs"
      refine a_I ⟨hd,hl⟩ ?_
      walk_at "vs"
      exact⟨by show 2≤sizeLine;decide,fin⟩
def sp_two (f:Rat→Rat→Rat) (K:PySem.W.Frag):Sp:=fun vs H Q _=>∃ (a b:Addr) (p q:Rat),vs=[.ref a,.ref b]∧SqT K H a (fr p)∧SqT K H b (fr q)∧Sm 3900 p∧Sm 3900 q∧∀ c,H c=none→Q (.ref c) (upd H c (.tup (fr (f p q))))
theorem d'm {x y:Int} (h1:x.natAbs<2 ^ 3900) (h2:y.natAbs<2 ^ 3900):CMulX x y:=.inr ⟨3900,by decide,h1,h2⟩
theorem g't (T:Tx w K mg):FnOk P w K mg base CX0 3 T.a_plus T.d_plus ["one","other"] (sp_two (·+·) K):=by
  refine T.F_plus.ok m'V (fun vs H Q E h=>?_) (fun cdv A outer s H vs Q E hr h=>?_)
  · obtain⟨a,b,p,q,rfl,_⟩:=h
    rfl
  · obtain⟨a,b,p,q,rfl,ta,tb,sp,sq,k⟩:=h
    refine⟨_,(a'i (a'r (a'l ((g's T).mono (by decide)) hr rfl T.m_part T.F_part.kp T.b_part .nil a'j (a'a (a'n b'X (a'n a'L (a'm a'k (pv 0) a'd (fun _ _=>rfl)) (a'm a'k (pv 1) a'd (fun _ _=>rfl))) (a'n a'L (a'm a'k (pv 1) a'd (fun _ _=>rfl)) (a'm a'k (pv 0) a'd (fun _ _=>rfl)))) (a'a (a'n a'L (a'm a'k (pv 0) a'd (fun _ _=>rfl)) (a'm a'k (pv 1) a'd (fun _ _=>rfl))) a'e))))),?_⟩
    have d1:=a'R sp
    have d2:=a'R sq
    walk_at "vs"
    refine a'o ta (fr0 p) ?_
    walk_at "vs"
    refine a'o tb (fr1 q) ?_
    refine a_I (d'm sp.1 d2) ?_
    walk_at "vs"
    refine a'o tb (fr0 q) ?_
    walk_at "vs"
    refine a'o ta (fr1 p) ?_
    refine a_I (d'm sq.1 d1) ?_
    walk_at "vs"
    refine a'o ta (fr1 p) ?_
    walk_at "vs"
    refine a'o tb (fr1 q) ?_
    refine a_I (d'm d1 d2) ?_
    walk_at "vs"
    refine⟨_,_,rfl,c'u p q,up2 (a'Y d1 d2) (by decide),fun c hc=>?_⟩
    have e:=f'G p q
    rw [← e]
    exact k c hc
theorem f'p (T:Tx w K mg):FnOk P w K mg base CX0 3 T.a_times T.d_times ["one","other"] (sp_two (·*·) K):=by
  refine T.F_times.ok l'H (fun vs H Q E h=>?_) (fun cdv A outer s H vs Q E hr h=>?_)
  · obtain⟨a,b,p,q,rfl,_⟩:=h
    rfl
  · obtain⟨a,b,p,q,rfl,ta,tb,sp,sq,k⟩:=h
    refine⟨_,(a'i (a'r (a'l ((g's T).mono (by decide)) hr rfl T.m_part T.F_part.kp T.b_part .nil a'j (a'a (a'n a'L (a'm a'k (pv 0) a'd (fun _ _=>rfl)) (a'm a'k (pv 1) a'd (fun _ _=>rfl))) (a'a (a'n a'L (a'm a'k (pv 0) a'd (fun _ _=>rfl)) (a'm a'k (pv 1) a'd (fun _ _=>rfl))) a'e))))),?_⟩
    have d1:=a'R sp
    have d2:=a'R sq
    walk_at "vs"
    refine a'o ta (fr0 p) ?_
    walk_at "vs"
    refine a'o tb (fr0 q) ?_
    refine a_I (d'm sp.1 sq.1) ?_
    walk_at "vs"
    refine a'o ta (fr1 p) ?_
    walk_at "vs"
    refine a'o tb (fr1 q) ?_
    refine a_I (d'm d1 d2) ?_
    walk_at "vs"
    refine⟨_,_,rfl,c'u p q,up2 (a'Y d1 d2) (by decide),fun c hc=>?_⟩
    have e:=d'Q p q
    rw [← e]
    exact k c hc
theorem f'q (T:Tx w K mg):FnOk P w K mg base CX0 3 T.a_minus T.d_minus ["one","other"] (sp_two (· - ·) K):=by
  refine T.F_minus.ok l'G (fun vs H Q E h=>?_) (fun cdv A outer s H vs Q E hr h=>?_)
  · obtain⟨a,b,p,q,rfl,_⟩:=h
    rfl
  · obtain⟨a,b,p,q,rfl,ta,tb,sp,sq,k⟩:=h
    refine⟨_,(a'i (a'r (a'l ((g's T).mono (by decide)) hr rfl T.m_part T.F_part.kp T.b_part .nil a'j (a'a (a'n d'r (a'n a'L (a'm a'k (pv 0) a'd (fun _ _=>rfl)) (a'm a'k (pv 1) a'd (fun _ _=>rfl))) (a'n a'L (a'm a'k (pv 1) a'd (fun _ _=>rfl)) (a'm a'k (pv 0) a'd (fun _ _=>rfl)))) (a'a (a'n a'L (a'm a'k (pv 0) a'd (fun _ _=>rfl)) (a'm a'k (pv 1) a'd (fun _ _=>rfl))) a'e))))),?_⟩
    have d1:=a'R sp
    have d2:=a'R sq
    walk_at "vs"
    refine a'o ta (fr0 p) ?_
    walk_at "vs"
    refine a'o tb (fr1 q) ?_
    refine a_I (d'm sp.1 d2) ?_
    walk_at "vs"
    refine a'o tb (fr0 q) ?_
    walk_at "vs"
    refine a'o ta (fr1 p) ?_
    refine a_I (d'm sq.1 d1) ?_
    walk_at "vs"
    refine a'o ta (fr1 p) ?_
    walk_at "vs"
    refine a'o tb (fr1 q) ?_
    refine a_I (d'm d1 d2) ?_
    walk_at "vs"
    refine⟨_,_,rfl,c'u p q,up2 (a'Y d1 d2) (by decide),fun c hc=>?_⟩
    have e:=c'M p q
    rw [← e]
    exact k c hc
def sp_under (K:PySem.W.Frag):Sp:=fun vs H Q _=>∃ (a b:Addr) (p q:Rat),vs=[.ref a,.ref b]∧SqT K H a (fr p)∧SqT K H b (fr q)∧Sm 3900 p∧Sm 3900 q∧Q (.bl (decide (p<q))) H
theorem l'J (p q:Rat):decide (p.num*(q.den:Int)<q.num*(p.den:Int))=decide (p<q):=by
  have h:p.num*(q.den:Int)<q.num*(p.den:Int)↔p<q:=(Rat.lt_iff p q).symm
  by_cases c:p<q
  · rw [decide_eq_true c,decide_eq_true (h.mpr c)]
  · rw [decide_eq_false c,decide_eq_false (fun z=>c (h.mp z))]
theorem i'g (T:Tx w K mg):FnOk P w K mg base CX0 1 T.a_under T.d_under ["one","other"] (sp_under K):=by
  refine T.F_under.ok l'I (fun vs H Q E h=>?_) (fun cdv A outer s H vs Q E hr h=>?_)
  · obtain⟨a,b,p,q,rfl,_⟩:=h
    rfl
  · obtain⟨a,b,p,q,rfl,ta,tb,sp,sq,k⟩:=h
    refine⟨_,(a'i (a'r (b'F d'e (a'n a'L (a'm a'k (pv 0) a'd (fun _ _=>rfl)) (a'm a'k (pv 1) a'd (fun _ _=>rfl))) (a'n a'L (a'm a'k (pv 1) a'd (fun _ _=>rfl)) (a'm a'k (pv 0) a'd (fun _ _=>rfl))) (a'y _)))),?_⟩
    have d1:=a'R sp
    have d2:=a'R sq
    walk_at "vs"
    refine a'o ta (fr0 p) ?_
    walk_at "vs"
    refine a'o tb (fr1 q) ?_
    refine a_I (d'm sp.1 d2) ?_
    walk_at "vs"
    refine a'o tb (fr0 q) ?_
    walk_at "vs"
    refine a'o ta (fr1 p) ?_
    refine a_I (d'm sq.1 d1) ?_
    walk_at "vs"
    rw [l'J]
    exact k
theorem m'W (m:List (Str×Rat)):keepS m=nz m:=by
  unfold keepS nz
  refine List.filter_congr fun p _=>?_
  by_cases h:p.2=0
  · simp [h]
  · simp [h]
theorem n'W {m:List (Str×Rat)} {i:Nat} {x:Str} {q b:Rat} (n:(m.map (·.1)).Nodup) (h:m[i]?=some (x,q)):ptd (sc (m.take i) b) x (q*b)=sc (m.take (i+1)) b:=by
  rw [m'n b h]
  exact n'F _ (j'x b (h'N n h))
theorem j'b {m:List (Str×Rat)} {n:Nat} {x:Str} (h:∀ x q,gt m x=some q→bs q≤n) (hn:1≤n):bs ((gt m x).getD 0)≤n:=by
  cases e:gt m x with
  | none => exact Nat.le_trans (Nat.le_of_eq c'Q) hn
  | some q => exact h x q e
theorem b'G {α:Type} (m:List (Str×α)) (x:Str) (y:α):(ptd m x y).length≤m.length+1:=by
  unfold ptd
  split
  · rw [List.length_map];exact Nat.le_succ _
  · rw [List.length_append];exact Nat.le_refl _
theorem e'L:bs (-1)=1:=by decide +kernel
theorem bsc {m:List (Str×Rat)} {n:Nat} {q:Rat} (nd:Nd m) (h:∀ x q,gt m x=some q→bs q≤n):∀ x y,gt (nz (sc m q)) x=some y→bs y≤n+bs q:=fun x y e=>by
  rw [j'y (f'J nd q),j'z] at e
  cases g:gt m x with
  | none => rw [g] at e; cases e
  | some z =>
    rw [g] at e
    simp only [Option.map_some] at e
    split at e
    · cases e
    · cases e
      exact Nat.le_trans (c'F _ _) (by have:=h x z g;omega)
def sp_made (K:PySem.W.Frag):Sp:=fun vs H Q _=>Ex5 fun (F:Hp) (v_parts:V) (v_rest:V) (parts:(List (Str×Rat))) (rest:Rat)=>Cj6 (vs=[v_parts,v_rest]) (Same F H) (lentD (rFr K) F H v_parts parts) ((rFr K) F v_rest rest) (parts.length≤200) (∀ (v:V) (F' H':Hp),Gr F H F' H'→ownS K F' H H' v ((nz parts,rest))→Q v H')
theorem e'M (T:Tx w K mg):FnOk P w K mg base CX0 1 T.a_made T.d_made ["parts","rest"] (sp_made K):=by
 refine T.F_made.ok sc_made (fun vs H Q E h=>?_) (fun cdv A outer s H vs Q E hr h=>?_)
 ·obtain⟨F,v_parts,v_rest,parts,rest,rfl,_⟩:=h
  rfl
 ·obtain⟨F,v_parts,v_rest,parts,rest,rfl,wd,r_parts,r_rest,hpre,k⟩:=h
  have hu:=a'M hr
  have gb:=Gr0.refl wd
  have cm:=Fz.refl F
  obtain⟨p1,kv2,rfl,oH3,oF4,al5,nd6⟩:=r_parts
  obtain⟨a7,rfl,sq8⟩:=r_rest
  refine⟨_,(@a'h _ _ _ _ _ (a'w (i:=2) sc_made.nd rfl (Or.inl rfl) c'U)
     (@a'h _ _ _ _ _ (d'u PassesOwn.never rfl (pv 0) (b'K rfl (a'J (a'K (i:=3) sc_made.nd rfl (Or.inl rfl)) (a'J (a'K (i:=4) sc_made.nd rfl (Or.inl rfl)) b't))) (a'i (a'P (a'u b'H (a'm a'k (pv 4) a'd (fun _ _=>rfl)) a'd (a'y _)) (a'i (d's hu (pv 2) (pv 3) (pv 4) rfl)) a'N)))
     (a'i (a'r (b'L (a'a (pv 2) (a'a (pv 1) a'e))))))),?_⟩
  refine a's (a'E ?_)
  refine fun p9 e0=>?_
  obtain⟨a9,b8,b9,oF15,oH16,e1⟩:=b'M (o:=(.dK [])) gb e0
  generalize upd H p9 (.dK [])=e2 at a9 b8 oH16 ⊢
  have e3:=e1 _ _ oH3
  have oH19:=b8 _ _ oH3
  refine a'z ?_
  try dsimp only
  refine a's (e'k (a'c rfl ?_))
  have c0:e2 p1=some (.dK kv2):=oH19
  have c1:F p1=none∨F p1=some (.dK kv2):=.inl oF4
  have c2:=al5
  have hnd:=nd6
  have hdl:=Dk.length c2
  refine⟨_,kv2,rfl,c0,fun a0 e4=>?_⟩
  have e5:=e'G (a:=p1) (.frz a0 (.dK kv2)) a9
  have e6:=e'I (a:=p1) (z:=(.frz a0 (.dK kv2))) cm
  have c3:=e'H (ob:=a0) c1
  have a5:=(Ne.symm e3)
  have oH29:=(a't (o:=(.frz a0 (.dK kv2))) a5).trans oH16
  have oF30:=(b'b (o:=(.frz a0 (.dK kv2))) a5).trans oF15
  have e7:=(b'b (o:=(.frz a0 (.dK kv2))) a5).trans b9
  refine c'C (a:=p1) (ob:=a0) (kvs:=kv2) (fun i σ' H'=>Ex5 fun (a2:Hp) (c4:List (Key×V)) (a8:List (Str×Rat)) (e8:Option V) (e9:Option V)=>Cj11 (σ'=[some (V.ref p1),some (V.ref a7),some (V.ref p9),e8,e9]) (Gr0 (fz F p1 (.frz a0 (.dK kv2))) (fz H p1 (.frz a0 (.dK kv2))) a2 H') (Fz (fun b=>b=p1∨(frzd F) b) a2) (Le F a2) (H' p9=some (.dK c4)) (a2 p9=none) (Dk (rFr K) a2 c4 a8) ((a8.map (·.1)).Nodup) (a2 p1=fz F p1 (.frz a0 (.dK kv2)) p1) (H' p1=some (.frz a0 (.dK kv2))) ((a8=keepS (parts.take i)∧a8.length≤200))) ?_ ?_ ?_ ?_
  ·exact⟨(fz F p1 (.frz a0 (.dK kv2))),_,[],_,_,rfl,e5,e6,c3,oH29,oF30,(Dk.mo c3 True.intro),List.nodup_nil,rfl,a'v,by exact⟨rfl,by decide⟩⟩
  ·rintro i σ' h4 _ ⟨h5,h6,h7,h8,h9,rfl,i0,i1,i2,oH46,oF47,i3,i4,i5,f0,⟨q1,q2⟩⟩
   exact f0
  ·rintro i6 i7 i8 σ' i9 j0 f1 ⟨j1,j2,c5,j3,j4,rfl,c6,f2,b0,oH66,oF67,b1,c7,f3,c8,⟨q1,q2⟩⟩ f4
   obtain⟨b2,b3,a3,rfl,f5⟩:=Dk.get (Dk.mo b0 c2) f1
   obtain⟨j5,rfl,c9⟩:=f5
   refine it2 (K:=K) c6.s f4 (fun d0 j6 a6 j7=>?_)
   obtain⟨b4,a1,d1⟩:=gr3 c6 f2 a6
   have oH86:=a6.h _ _ oH66
   have oF87:=a6.own oF67 oH66
   have b5:=a6.h _ _ c8
   have d2:=a6.at c8 f3
   try dsimp only
   refine b'd (a'B (a'f (a'f (a'c rfl (a_c ?_)))))
   refine a'o (Same.tup b4.s (Le.tup a1 c9)) (fr0 b3) ?_
   refine a_c (c'L (a'C ?_))
   refine b'r (fun f6=>?_) (fun f6=>?_)
   ·refine d'w (a'c rfl (a'c rfl (a'c rfl ?_)))
    refine c'O oH86 (by rw [Dk.length (Dk.mo a1 b1)];omega) (chg b4 e7 oF87 (fun j8 f7 oH93 f8=>?_))
    have f9:=(f8 _ (h'm b5 oH86 (by intro z;cases z))).trans b5
    try dsimp only
    exact⟨d0,_,(ptd c5 b2 b3),_,_,rfl,f7,d1,(b0.trans a1),oH93,oF87,(Dk.put (x:=b2) ⟨_,rfl,(Le.tup a1 c9)⟩ (Dk.mo a1 b1)),(d'A c7 b2 b3),d2,f9,by first | exact⟨by rw [q1];exact d'S hnd a3 (by assumption),by rw [q1,d'S hnd a3 (by assumption)];exact Nat.le_trans (h'X _) (by rw [List.length_take];omega)⟩ | exact⟨by rw [q1];exact g'Q a3 (by assumption),q2⟩⟩
   ·refine a'G ?_
    try dsimp only
    exact⟨d0,_,c5,_,_,rfl,b4,d1,(b0.trans a1),oH86,oF87,(Dk.mo a1 b1),c7,d2,b5,by first | exact⟨by rw [q1];exact d'S hnd a3 (by assumption),by rw [q1,d'S hnd a3 (by assumption)];exact Nat.le_trans (h'X _) (by rw [List.length_take];omega)⟩ | exact⟨by rw [q1];exact g'Q a3 (by assumption),q2⟩⟩
  ·rintro σ' j9 ⟨k0,k1,d3,k2,k3,rfl,g0,g1,g2,oH105,oF106,g3,g4,g5,g6,⟨q1,q2⟩⟩
   refine⟨p1,a0,kv2,g6,e4,?_⟩
   refine thw a9 c0 c1 g0 g5 g1 (fun k4 g7 d4 g8 d5 g9 d6 nF118 nH119=>?_)
   have oH120:=(nH119 _ (a5)).trans oH105
   have oF121:=(nF118 _ (a5)).trans oF106
   have oF122:=g9.trans oF4
   try dsimp only
   rw [hdl,List.take_length] at q1
   refine a'A (b'C (a'b (a'c rfl (a'b (a'c rfl (a'g ?_))))))
   refine⟨by show 2≤sizeLine;decide,fun b6 h0=>?_⟩
   obtain⟨d7,a4,h1⟩:=al2 (o:=(.tup [V.ref p9,V.ref a7])) d4.s (by intro _ _ z;cases z) h0
   generalize upd g7 b6 (.tup [V.ref p9,V.ref a7])=d8 at a4 ⊢
   obtain⟨h2,d9,h3⟩:=gr3 d4 g8 a4
   have oH132:=a4.h _ _ oH120
   have oF133:=a4.own oF121 oH120
   have oH134:=a4.h _ _ d6
   have oF135:=a4.own oF122 d6
   have hval:((d3,rest):((List (Str×Rat))×Rat))=((nz parts,rest)):=by rw [q1,m'W]
   have b7:ownS K d7 H d8 (V.ref b6) ((d3,rest)):=⟨_,_,_,_,rfl,(SqT.of h1),⟨_,rfl,(Le.tup ((g2.trans d5).trans d9) sq8)⟩,b9,oH132,oF133,(Dk.mo (d5.trans d9) g3),g4⟩
   replace b7:=Eq.mp (congrArg (ownS K d7 H d8 (V.ref b6)) hval) b7
   exact k _ _ _ (Gr.of h2 h3) b7
def sp_scaled (K:PySem.W.Frag):Sp:=fun vs H Q _=>Ex6 fun (F:Hp) (v_one:V) (v_number:V) (one:((List (Str×Rat))×Rat)) (number:Rat) (n:Nat)=>Cj7 (vs=[v_one,v_number]) (Same F H) (Fz S0 F) ((r2 K (rD (rFr K)) (rFr K)) F v_one one) ((rFr K) F v_number number) (one.1.length≤100∧(∀ x q,gt one.1 x=some q→bs q≤n)∧bs one.2≤n∧bs number≤n∧n≤1900) (∀ (v:V) (F' H':Hp),Gr F H F' H'→ownS K F' H H' v ((nz (sc one.1 number),one.2*number))→Q v H')
theorem g'W (T:Tx w K mg):FnOk P w K mg base CX0 5 T.a_scaled T.d_scaled ["one","number"] (sp_scaled K):=by
 refine T.F_scaled.ok sc_scaled (fun vs H Q E h=>?_) (fun cdv A outer s H vs Q E hr h=>?_)
 ·obtain⟨F,v_one,v_number,one,number,n,rfl,_⟩:=h
  rfl
 ·obtain⟨F,v_one,v_number,one,number,n,rfl,wd,cm,r_one,r_number,hpre,k⟩:=h
  have hu:=a'M hr
  have gb:=Gr0.refl wd
  obtain⟨a1,v3,v4,rfl,sq2,h5,h6⟩:=r_one
  obtain⟨a7,kvs8,rfl,rd9,e1,e2⟩:=h5
  obtain⟨k2,rfl,e3⟩:=h6
  obtain⟨e4,rfl,c6⟩:=r_number
  obtain⟨w1,w2,w3,w4,w5⟩:=hpre
  refine⟨_,(@a'h _ _ _ _ _ (a'w (i:=2) sc_scaled.nd rfl (Or.inl rfl) c'U)
     (@a'h _ _ _ _ _ (d'u PassesOwn.never rfl (a'm a'k (pv 0) a'd (fun _ _=>rfl)) (b'K rfl (a'J (a'K (i:=3) sc_scaled.nd rfl (Or.inl rfl)) (a'J (a'K (i:=4) sc_scaled.nd rfl (Or.inl rfl)) b't))) (a'i (d's hu (pv 2) (pv 3) (a'l ((f'p T).mono (by decide)) hr rfl T.m_times T.F_times.kp T.b_times .nil a'j (a'a (pv 4) (a'a (pv 1) a'e))) rfl)))
     (a'i (a'r (a'l ((e'M T).mono (by decide)) hr rfl T.m_made T.F_made.kp T.b_made .nil a'j (a'a (pv 2) (a'a (a'l ((f'p T).mono (by decide)) hr rfl T.m_times T.F_times.kp T.b_times .nil a'j (a'a (a'm a'k (pv 0) a'd (fun _ _=>rfl)) (a'a (pv 1) a'e))) a'e))))))),?_⟩
  refine a's (a'E ?_)
  refine fun a5 e5=>?_
  obtain⟨a6,e6,e7,oF22,oH23,k3⟩:=b'M (o:=(.dK [])) gb e5
  generalize upd H a5 (.dK [])=e8 at a6 e6 oH23 ⊢
  refine a'z ?_
  try dsimp only
  refine a's (e'k (a'f (a'c rfl (a_c ?_))))
  refine a'o (Same.tup a6.s sq2) rfl ?_
  have b6:=d'y cm rd9
  have c7:e8 a7=some (.dK kvs8):=a6.s _ _ b6
  have c8:F a7=none∨F a7=some (.dK kvs8):=.inr b6
  have c9:=e1
  have hnd:=e2
  have hdl:=Dk.length c9
  refine⟨_,kvs8,rfl,c7,fun a0 e9=>?_⟩
  have f0:=e'G (a:=a7) (.frz a0 (.dK kvs8)) a6
  have f1:=e'I (a:=a7) (z:=(.frz a0 (.dK kvs8))) cm
  have d0:=e'H (ob:=a0) c8
  have a8:a5≠a7:=fun z=>by have:=oF22;rw [z,b6] at this;cases this
  have oH35:=(a't (o:=(.frz a0 (.dK kvs8))) a8).trans oH23
  have oF36:=(b'b (o:=(.frz a0 (.dK kvs8))) a8).trans oF22
  have f2:=(b'b (o:=(.frz a0 (.dK kvs8))) a8).trans e7
  refine c'C (a:=a7) (ob:=a0) (kvs:=kvs8) (fun i σ' H'=>Ex5 fun (a2:Hp) (d1:List (Key×V)) (b2:List (Str×Rat)) (f3:Option V) (f4:Option V)=>Cj11 (σ'=[some (V.ref a1),some (V.ref e4),some (V.ref a5),f3,f4]) (Gr0 (fz F a7 (.frz a0 (.dK kvs8))) (fz H a7 (.frz a0 (.dK kvs8))) a2 H') (Fz (fun b=>b=a7∨S0 b) a2) (Le F a2) (H' a5=some (.dK d1)) (a2 a5=none) (Dk (rFr K) a2 d1 b2) ((b2.map (·.1)).Nodup) (a2 a7=fz F a7 (.frz a0 (.dK kvs8)) a7) (H' a7=some (.frz a0 (.dK kvs8))) ((b2=sc (one.1.take i) number∧b2.length≤i∧i≤one.1.length))) ?_ ?_ ?_ ?_
  ·exact⟨(fz F a7 (.frz a0 (.dK kvs8))),_,[],_,_,rfl,f0,f1,d0,oH35,oF36,(Dk.mo d0 True.intro),List.nodup_nil,rfl,a'v,by exact⟨rfl,Nat.le_refl _,Nat.zero_le _⟩⟩
  ·rintro i σ' k4 _ ⟨k5,k6,k7,k8,k9,rfl,l0,l1,l2,oH52,oF53,l3,l4,l5,f5,⟨q1,q2,q3⟩⟩
   exact f5
  ·rintro l6 l7 l8 σ' l9 m0 f6 ⟨m1,m2,f7,m3,m4,rfl,d2,f8,b7,oH72,oF73,d3,f9,g0,d4,⟨q1,q2,q3⟩⟩ g1
   obtain⟨b8,a3,b9,rfl,g2⟩:=Dk.get (Dk.mo b7 c9) f6
   obtain⟨m5,rfl,g3⟩:=g2
   refine it2 (K:=K) d2.s g1 (fun m6 g4 a9 m7=>?_)
   obtain⟨b3,b0,g5⟩:=gr3 d2 f8 a9
   have oH92:=a9.h _ _ oH72
   have oF93:=a9.own oF73 oH72
   have d5:=a9.h _ _ d4
   have g6:=a9.at d4 g0
   try dsimp only
   have hil:=(List.getElem?_eq_some_iff.mp b9).1
   have hb1:=w2 _ _ (c'h hnd (List.mem_of_getElem? b9))
   refine d'w (a'p (a'b (a'c rfl (a'b (a'c rfl (a'g ?_))))))
   refine⟨_,_,a3,number,rfl,(Same.tup b3.s (Le.tup b0 g3)),(Same.tup b3.s (Le.tup (b7.trans b0) c6)),a'Z (by walk_at "o"),a'Z (by walk_at "o"),fun g7 g8=>?_⟩
   obtain⟨g9,a4,h0⟩:=al2 (o:=(.tup (fr (a3*number)))) b3.s (by intro _ _ z;cases z) g8
   generalize upd g4 g7 (.tup (fr (a3*number)))=m8 at a4 ⊢
   obtain⟨h1,c0,h2⟩:=gr3 b3 g5 a4
   have oH105:=a4.h _ _ oH92
   have oF106:=a4.own oF93 oH92
   have d6:=a4.h _ _ d5
   have h3:=a4.at d5 g6
   have m9:=c'F a3 number
   refine a'c rfl (a'c rfl ?_)
   refine c'O oH105 (by rw [Dk.length (Dk.mo (b0.trans c0) d3)];omega) (chg h1 f2 oF106 (fun n0 h4 oH112 h7=>?_))
   have h8:=(h7 _ (h'm d6 oH105 (by intro z;cases z))).trans d6
   try dsimp only
   exact⟨g9,_,(ptd f7 b8 (a3*number)),_,_,rfl,h4,h2,((b7.trans b0).trans c0),oH112,oF106,(Dk.put (x:=b8) ⟨_,rfl,(SqT.of h0)⟩ (Dk.mo (b0.trans c0) d3)),(d'A f9 b8 (a3*number)),h3,h8,by exact⟨by rw [q1];exact n'W hnd b9,Nat.le_trans (b'G _ _ _) (by omega),by omega⟩⟩
  ·rintro σ' n1 ⟨n2,n3,c1,n4,n5,rfl,h9,i0,c2,oH124,oF125,i1,i2,i3,i4,⟨q1,q2,q3⟩⟩
   refine⟨a7,a0,kvs8,i4,e9,?_⟩
   refine thw a6 c7 c8 h9 i3 i0 (fun n6 i5 b1 i6 b4 n7 n8 nF137 nH138=>?_)
   have oH139:=(nH138 _ (a8)).trans oH124
   have oF140:=(nF137 _ (a8)).trans oF125
   try dsimp only
   rw [hdl,List.take_length] at q1
   refine a'A (a'p (a'b (a'c rfl (a'b (a'p (a'b (a'f ?_)))))))
   refine a'c rfl (a_c ?_)
   refine a'o (Same.tup b1.s (Le.tup (c2.trans b4) sq2)) rfl ?_
   refine a'b (a'c rfl (a'g ?_))
   refine⟨_,_,one.2,number,rfl,(Same.tup b1.s (Le.tup (c2.trans b4) e3)),(Same.tup b1.s (Le.tup (c2.trans b4) c6)),a'Z (by walk_at "o"),a'Z (by walk_at "o"),fun i7 i8=>?_⟩
   obtain⟨i9,b5,j0⟩:=al2 (o:=(.tup (fr (one.2*number)))) b1.s (by intro _ _ z;cases z) i8
   generalize upd i5 i7 (.tup (fr (one.2*number)))=n9 at b5 ⊢
   obtain⟨c3,j1,j2⟩:=gr3 b1 i6 b5
   have oH150:=b5.h _ _ oH139
   have oF151:=b5.own oF140 oH139
   have o0:=c'F one.2 number
   refine a'g ?_
   refine⟨i9,_,_,c1,(one.2*number),rfl,c3.s,⟨_,_,rfl,oH150,oF151,(Dk.mo (b4.trans j1) i1),i2⟩,⟨_,rfl,(SqT.of j0)⟩,(by omega),?_⟩
   rintro o1 d7 d8  c4 j3 
   obtain⟨d9,o2,o3,o4,rfl,j4,j5,e0,oH167,oF168,j6,j7⟩:=j3
   have j8:=c3.h.free e0
   have o5:=a'q oH150 e0
   obtain⟨j9,o6,k0⟩:=gr3 c3 j2 c4
   have oH176:=c4.h _ _ oH150
   have oF177:=c4.own oF151 oH150
   obtain⟨o7,rfl,k1⟩:=j5
   have hval:(((nz c1,((one.2*number)))):((List (Str×Rat))×Rat))=((nz (sc one.1 number),one.2*number)):=by rw [q1]
   have c5:ownS K d7 H d8 (V.ref d9) (((nz c1,((one.2*number))))):=⟨_,_,_,_,rfl,j4,⟨_,rfl,k1⟩,j8,oH167,oF168,j6,j7⟩
   replace c5:=Eq.mp (congrArg (ownS K d7 H d8 (V.ref d9)) hval) c5
   exact k _ _ _ (Gr.of0 j9 k0) c5
def sp_added (K:PySem.W.Frag):Sp:=fun vs H Q _=>Ex6 fun (F:Hp) (v_one:V) (v_other:V) (one:((List (Str×Rat))×Rat)) (other:((List (Str×Rat))×Rat)) (n:Nat)=>Cj7 (vs=[v_one,v_other]) (Same F H) (Fz S0 F) ((r2 K (rD (rFr K)) (rFr K)) F v_one one) ((r2 K (rD (rFr K)) (rFr K)) F v_other other) (one.1.length+other.1.length≤100∧1≤n∧(∀ x q,gt one.1 x=some q→bs q≤n)∧(∀ x q,gt other.1 x=some q→bs q≤n)∧bs one.2≤n∧bs other.2≤n∧n≤1900) (∀ (v:V) (F' H':Hp),Gr F H F' H'→ownS K F' H H' v ((nz (addM one.1 other.1),one.2+other.2))→Q v H')
theorem i'h (T:Tx w K mg):FnOk P w K mg base CX0 5 T.a_added T.d_added ["one","other"] (sp_added K):=by
 refine T.F_added.ok sc_added (fun vs H Q E h=>?_) (fun cdv A outer s H vs Q E hr h=>?_)
 ·obtain⟨F,v_one,v_other,one,other,n,rfl,_⟩:=h
  rfl
 ·obtain⟨F,v_one,v_other,one,other,n,rfl,wd,cm,r_one,r_other,hpre,k⟩:=h
  have hu:=a'M hr
  have gb:=Gr0.refl wd
  obtain⟨a1,v3,v4,rfl,sq2,h5,h6⟩:=r_one
  obtain⟨a7,kvs8,rfl,rd9,e6,e7⟩:=h5
  obtain⟨l5,rfl,e8⟩:=h6
  obtain⟨e9,l6,l7,rfl,d0,f0,f1⟩:=r_other
  obtain⟨a0,a2,rfl,f2,f3,f4⟩:=f0
  obtain⟨l8,rfl,f5⟩:=f1
  obtain⟨w1,w0,w2,w3,w4,w5,w6⟩:=hpre
  refine⟨_,(@a'h _ _ _ _ _ (a'w (i:=2) sc_added.nd rfl (Or.inl rfl) (c'A d'O rfl T.z_dict rfl (a'a (a'm a'k (pv 0) a'd (fun _ _=>rfl)) a'e)))
     (@a'h _ _ _ _ _ (d'u PassesOwn.never rfl (a'm a'k (pv 1) a'd (fun _ _=>rfl)) (b'K rfl (a'J (a'K (i:=3) sc_added.nd rfl (Or.inl rfl)) (a'J (a'K (i:=4) sc_added.nd rfl (Or.inl rfl)) b't))) (a'i (d's hu (pv 2) (pv 3) (a'l ((g't T).mono (by decide)) hr rfl T.m_plus T.F_plus.kp T.b_plus .nil a'j (a'a (l'j hu (pv 2) (pv 3) (b'a (v:=.ref T.c_NOUGHT) rfl T.m_NOUGHT rfl) ⟨rfl,rfl,rfl,rfl⟩) (a'a (pv 4) a'e))) rfl)))
     (a'i (a'r (a'l ((e'M T).mono (by decide)) hr rfl T.m_made T.F_made.kp T.b_made .nil a'j (a'a (pv 2) (a'a (a'l ((g't T).mono (by decide)) hr rfl T.m_plus T.F_plus.kp T.b_plus .nil a'j (a'a (a'm a'k (pv 0) a'd (fun _ _=>rfl)) (a'a (a'm a'k (pv 1) a'd (fun _ _=>rfl)) a'e))) a'e))))))),?_⟩
  refine a's (a'E (a'U (a'b (a'f (a'c rfl (a_c ?_))))))
  refine a'o (Same.tup gb.s sq2) rfl ?_
  refine a'g ?_
  refine⟨_,_,rfl,(Same.rd gb.s rd9),fun b2 f6=>?_⟩
  obtain⟨b3,f7,f8,oF33,oH34,l9⟩:=b'M (o:=(.dK kvs8)) gb f6
  generalize upd H b2 (.dK kvs8)=f9 at b3 f7 oH34 ⊢
  refine a'z ?_
  try dsimp only
  refine a's (e'k (a'f (a'c rfl (a_c ?_))))
  refine a'o (Same.tup b3.s d0) rfl ?_
  have c2:=d'y cm f2
  have d1:f9 a0=some (.dK a2):=b3.s _ _ c2
  have d2:F a0=none∨F a0=some (.dK a2):=.inr c2
  have d3:=f3
  have hnd:=f4
  have hdl:=Dk.length d3
  refine⟨_,a2,rfl,d1,fun a3 g0=>?_⟩
  have g1:=e'G (a:=a0) (.frz a3 (.dK a2)) b3
  have g2:=e'I (a:=a0) (z:=(.frz a3 (.dK a2))) cm
  have d4:=e'H (ob:=a3) d2
  have b4:b2≠a0:=fun z=>by have:=oF33;rw [z,c2] at this;cases this
  have oH46:=(a't (o:=(.frz a3 (.dK a2))) b4).trans oH34
  have oF47:=(b'b (o:=(.frz a3 (.dK a2))) b4).trans oF33
  have g3:=(b'b (o:=(.frz a3 (.dK a2))) b4).trans f8
  refine c'C (a:=a0) (ob:=a3) (kvs:=a2) (fun i σ' H'=>Ex5 fun (a6:Hp) (d5:List (Key×V)) (b7:List (Str×Rat)) (g4:Option V) (g5:Option V)=>Cj11 (σ'=[some (V.ref a1),some (V.ref e9),some (V.ref b2),g4,g5]) (Gr0 (fz F a0 (.frz a3 (.dK a2))) (fz H a0 (.frz a3 (.dK a2))) a6 H') (Fz (fun b=>b=a0∨S0 b) a6) (Le F a6) (H' b2=some (.dK d5)) (a6 b2=none) (Dk (rFr K) a6 d5 b7) ((b7.map (·.1)).Nodup) (a6 a0=fz F a0 (.frz a3 (.dK a2)) a0) (H' a0=some (.frz a3 (.dK a2))) ((b7=addM one.1 (other.1.take i)∧b7.length≤one.1.length+i∧i≤other.1.length))) ?_ ?_ ?_ ?_
  ·exact⟨(fz F a0 (.frz a3 (.dK a2))),_,one.1,_,_,rfl,g1,g2,d4,oH46,oF47,(Dk.mo d4 e6),e7,rfl,a'v,by exact⟨rfl,Nat.le_refl _,Nat.zero_le _⟩⟩
  ·rintro i σ' m0 _ ⟨m1,m2,m3,m4,m5,rfl,m6,m7,m8,oH63,oF64,m9,n0,n1,g6,⟨q1,q2,q3⟩⟩
   exact g6
  ·rintro n2 n3 n4 σ' n5 n6 g7 ⟨n7,n8,a5,n9,o0,rfl,d6,g8,c3,oH83,oF84,c4,g9,h0,d7,⟨q1,q2,q3⟩⟩ h1
   obtain⟨a4,a8,b8,rfl,h2⟩:=Dk.get (Dk.mo c3 d3) g7
   obtain⟨o1,rfl,h3⟩:=h2
   refine it2 (K:=K) d6.s h1 (fun h4 h7 b5 o2=>?_)
   obtain⟨b9,a9,h8⟩:=gr3 d6 g8 b5
   have oH103:=b5.h _ _ oH83
   have oF104:=b5.own oF84 oH83
   have d8:=b5.h _ _ d7
   have h9:=b5.at d7 h0
   try dsimp only
   have hil:=(List.getElem?_eq_some_iff.mp b8).1
   have hb1:=w3 _ _ (c'h hnd (List.mem_of_getElem? b8))
   have hb2:bs ((gtd a5 a4).getD 0)≤n:=by rw [q1,n'H,g'Z hnd b8];exact j'b w2 w0
   refine d'w (a'p (a'b (m'k (a'c rfl ?_))))
   refine⟨_,rfl,.inl ⟨_,(Rd.of oH103)⟩,?_⟩
   refine a'c rfl (a_c ?_)
   obtain⟨d9,i0,e0⟩:=o'r (A:=(rFr K)) (F:=h4) (d:=0) a4 (Rd.of oH103) (Dk.mo a9 c4) ⟨_,rfl,(Le.tup (c3.trans a9) (.inr T.t_NOUGHT))⟩
   refine⟨d9,i0,?_⟩
   generalize d9.getD (V.ref T.c_NOUGHT)=o3 at e0 ⊢
   obtain⟨o4,rfl,i1⟩:=e0
   refine a'b (a'c rfl (a'g ?_))
   refine⟨_,_,((gtd a5 a4).getD 0),a8,rfl,(Same.tup b9.s i1),(Same.tup b9.s (Le.tup a9 h3)),a'Z (by walk_at "o"),a'Z (by walk_at "o"),fun i2 i3=>?_⟩
   obtain⟨i4,b0,i5⟩:=al2 (o:=(.tup (fr (((gtd a5 a4).getD 0)+a8)))) b9.s (by intro _ _ z;cases z) i3
   generalize upd h7 i2 (.tup (fr (((gtd a5 a4).getD 0)+a8)))=o5 at b0 ⊢
   obtain⟨i6,c5,i7⟩:=gr3 b9 h8 b0
   have oH122:=b0.h _ _ oH103
   have oF123:=b0.own oF104 oH103
   have e1:=b0.h _ _ d8
   have i8:=b0.at d8 h9
   have o6:=c'Z ((gtd a5 a4).getD 0) a8
   refine a'c rfl (a'c rfl ?_)
   refine c'O oH122 (by rw [Dk.length (Dk.mo (a9.trans c5) c4)];omega) (chg i6 g3 oF123 (fun o7 i9 oH129 j0=>?_))
   have j1:=(j0 _ (h'm e1 oH122 (by intro z;cases z))).trans e1
   try dsimp only
   exact⟨i4,_,(ptd a5 a4 (((gtd a5 a4).getD 0)+a8)),_,_,rfl,i9,i7,((c3.trans a9).trans c5),oH129,oF123,(Dk.put (x:=a4) ⟨_,rfl,(SqT.of i5)⟩ (Dk.mo (a9.trans c5) c4)),(d'A g9 a4 (((gtd a5 a4).getD 0)+a8)),i8,j1,by exact⟨by rw [q1,k'p b8];rfl,Nat.le_trans (b'G _ _ _) (by omega),by omega⟩⟩
  ·rintro σ' o8 ⟨o9,p0,c6,p1,p3,rfl,j2,j3,c0,oH141,oF142,j4,j5,j6,j7,⟨q1,q2,q3⟩⟩
   refine⟨a0,a3,a2,j7,g0,?_⟩
   refine thw b3 d1 d2 j2 j6 j3 (fun p4 j8 b1 j9 b6 p5 p6 nF154 nH155=>?_)
   have oH156:=(nH155 _ (b4)).trans oH141
   have oF157:=(nF154 _ (b4)).trans oF142
   try dsimp only
   rw [hdl,List.take_length] at q1
   refine a'A (a'p (a'b (a'c rfl (a'b (a'p (a'b (a'f ?_)))))))
   refine a'c rfl (a_c ?_)
   refine a'o (Same.tup b1.s (Le.tup (c0.trans b6) sq2)) rfl ?_
   refine a'b (a'f (a'c rfl (a_c ?_)))
   refine a'o (Same.tup b1.s (Le.tup (c0.trans b6) d0)) rfl ?_
   refine a'g ?_
   refine⟨_,_,one.2,other.2,rfl,(Same.tup b1.s (Le.tup (c0.trans b6) e8)),(Same.tup b1.s (Le.tup (c0.trans b6) f5)),a'Z (by walk_at "o"),a'Z (by walk_at "o"),fun k0 k1=>?_⟩
   obtain⟨k2,c1,k3⟩:=al2 (o:=(.tup (fr (one.2+other.2)))) b1.s (by intro _ _ z;cases z) k1
   generalize upd j8 k0 (.tup (fr (one.2+other.2)))=p7 at c1 ⊢
   obtain⟨c7,k4,k5⟩:=gr3 b1 j9 c1
   have oH167:=c1.h _ _ oH156
   have oF168:=c1.own oF157 oH156
   have p8:=c'Z one.2 other.2
   refine a'g ?_
   refine⟨k2,_,_,c6,(one.2+other.2),rfl,c7.s,⟨_,_,rfl,oH167,oF168,(Dk.mo (b6.trans k4) j4),j5⟩,⟨_,rfl,(SqT.of k3)⟩,(by omega),?_⟩
   rintro p9 e2 e3  c8 k6 
   obtain⟨e4,q0,q4,q5,rfl,k7,k8,e5,oH184,oF185,k9,l0⟩:=k6
   have l1:=c7.h.free e5
   have q6:=a'q oH167 e5
   obtain⟨l2,q7,l3⟩:=gr3 c7 k5 c8
   have oH193:=c8.h _ _ oH167
   have oF194:=c8.own oF168 oH167
   obtain⟨q8,rfl,l4⟩:=k8
   have hval:(((nz c6,((one.2+other.2)))):((List (Str×Rat))×Rat))=((nz (addM one.1 other.1),one.2+other.2)):=by rw [q1]
   have c9:ownS K e2 H e3 (V.ref e4) (((nz c6,((one.2+other.2))))):=⟨_,_,_,_,rfl,k7,⟨_,rfl,l4⟩,l1,oH184,oF185,k9,l0⟩
   replace c9:=Eq.mp (congrArg (ownS K e2 H e3 (V.ref e4)) hval) c9
   exact k _ _ _ (Gr.of0 l2 l3) c9
def sp_reduced (K:PySem.W.Frag):Sp:=fun vs H Q _=>Ex6 fun (F:Hp) (v_one:V) (v_other:V) (one:((List (Str×Rat))×Rat)) (other:((List (Str×Rat))×Rat)) (n:Nat)=>Cj7 (vs=[v_one,v_other]) (Same F H) (Fz S0 F) ((r2 K (rD (rFr K)) (rFr K)) F v_one one) ((r2 K (rD (rFr K)) (rFr K)) F v_other other) (one.1.length+other.1.length≤100∧1≤n∧(∀ x q,gt one.1 x=some q→bs q≤n)∧(∀ x q,gt other.1 x=some q→bs q≤n)∧bs one.2≤n∧bs other.2≤n∧n≤900) (∀ (v:V) (F' H':Hp),Gr F H F' H'→ownS K F' H H' v ((nz (addM one.1 (nz (sc other.1 (-1)))),one.2+other.2*(-1)))→Q v H')
theorem f'X (T:Tx w K mg):FnOk P w K mg base CX0 6 T.a_reduced T.d_reduced ["one","other"] (sp_reduced K):=by
 refine T.F_reduced.ok j'I (fun vs H Q E h=>?_) (fun cdv A outer s H vs Q E hr h=>?_)
 ·obtain⟨F,v_one,v_other,one,other,n,rfl,_⟩:=h
  rfl
 ·obtain⟨F,v_one,v_other,one,other,n,rfl,wd,cm,r_one,r_other,hpre,k⟩:=h
  have hu:=a'M hr
  have gb:=Gr0.refl wd
  obtain⟨a1,v3,v4,rfl,sq2,h5,h6⟩:=r_one
  obtain⟨a7,kvs8,rfl,rd9,a6,a8⟩:=h5
  obtain⟨e6,rfl,a9⟩:=h6
  obtain⟨e7,e8,e9,rfl,b0,b1,b2⟩:=r_other
  obtain⟨f0,f1,rfl,b3,b4,a4⟩:=b1
  obtain⟨f2,rfl,b5⟩:=b2
  obtain⟨w1,w0,w2,w3,w4,w5,w6⟩:=hpre
  refine⟨_,(a'i (a'r (a'l ((i'h T).mono (by decide)) hr rfl T.m_added T.F_added.kp T.b_added .nil a'j (a'a (pv 0) (a'a (a'l ((g'W T).mono (by decide)) hr rfl T.m_scaled T.F_scaled.kp T.b_scaled .nil a'j (a'a (pv 1) (a'a (b'a (v:=.ref T.c_MINUS_ONE) rfl T.m_MINUS_ONE rfl) a'e))) a'e))))),?_⟩
  refine a'A (a'p (a'b (a'c rfl (a'b (a'p (a'b (a'c rfl ?_)))))))
  refine a'b (a_c (a'g ?_))
  refine⟨F,_,_,other,(-1),n,rfl,gb.s,cm,⟨_,_,_,rfl,b0,⟨_,_,rfl,b3,b4,a4⟩,⟨_,rfl,b5⟩⟩,⟨_,rfl,(.inr T.t_MINUS_ONE)⟩,(by exact⟨by omega,w3,w5,by rw [e'L];exact w0,by omega⟩),?_⟩
  rintro f3 f4 f5  b6 b7 
  obtain⟨f6,f7,f8,f9,rfl,b8,b9,c0,oH41,oF42,c1,c2⟩:=b7
  have c3:=gb.h.free c0
  obtain⟨c4,a2,c5⟩:=gr3 gb cm b6
  obtain⟨g0,rfl,c6⟩:=b9
  refine a'g ?_
  obtain⟨c7,a3,a5,c8,c9,g1⟩:=frz c4 c5 c3 oF42 oH41 (by intro _ _ z;cases z)
  have a0:=Le.of c8
  refine⟨c7,_,_,one,((nz (sc other.1 ((-1))),other.2*((-1)))),(n+1),rfl,a3.s,a5,⟨_,_,_,rfl,(Le.tup (a2.trans a0) sq2),⟨_,_,rfl,(Le.dic (a2.trans a0) rd9),(Dk.mo (a2.trans a0) a6),a8⟩,⟨_,rfl,(Le.tup (a2.trans a0) a9)⟩⟩,⟨_,_,_,rfl,(Le.tup a0 b8),⟨_,_,rfl,(Rd.of c9),(Dk.mo a0 c1),c2⟩,⟨_,rfl,(Le.tup a0 c6)⟩⟩,(by exact⟨by show one.1.length+(nz (sc other.1 (-1))).length≤100;have e1:=c'E (sc other.1 (-1));rw [f'K] at e1;omega,by omega,fun x q e=>Nat.le_trans (w2 x q e) (by omega),fun x q e=>by have:=bsc a4 w3 x q e;rw [e'L] at this;exact this,by omega,Nat.le_trans (c'F _ _) (by rw [e'L];omega),by omega⟩),?_⟩
  rintro g2 d0 d1  d2 d3 
  obtain⟨d4,g3,g4,g5,rfl,d5,d6,d7,oH71,oF72,d8,d9⟩:=d3
  have e0:=a3.h.free d7
  obtain⟨e2,g6,e3⟩:=gr3 a3 a5 d2
  obtain⟨g7,rfl,e4⟩:=d6
  have e5:ownS K d0 H d1 (V.ref d4) (((nz (addM one.1 (((nz (sc other.1 ((-1))),other.2*((-1))))).1),one.2+(((nz (sc other.1 ((-1))),other.2*((-1))))).2))):=⟨_,_,_,_,rfl,d5,⟨_,rfl,e4⟩,e0,oH71,oF72,d8,d9⟩
  exact k _ _ _ (Gr.of0 e2 e3) e5
inductive Tm where
  | num (q : Rat) | edge (w n : Str) | times (q : Rat) (t : Tm) | plus (a b : Tm) | minus (a b : Tm)
def Tm.tag:Tm→Nat
  | .num _ => 0 | .edge _ _ => 1 | .times _ _ => 2 | .plus _ _ => 3 | .minus _ _ => 4
def Tm.dep:Tm→Nat
  | .num _ => 0 | .edge _ _ => 0 | .times _ t => t.dep + 1 | .plus a b => max a.dep b.dep + 1 | .minus a b => max a.dep b.dep + 1
def edg:Tm→List (Str×Str)
  | .num _ => [] | .edge w n => [(w, n)] | .times _ t => edg t | .plus a b => edg a ++ edg b | .minus a b => edg a ++ edg b
/-- a term stands at v -/
def tmAt (T:Tx w K mg) (F:Hp):Tm→V→Prop
  | .num q, v => ∃ x dx u, v = .ref x ∧ Rd F x (.ins T.c_Number dx [("number", u)]) ∧ rFr K F u q
  | .edge a n, v => ∃ x dx, v = .ref x ∧ Rd F x (.ins T.c_Edge dx [("word", .str a), ("name", .str n)])
  | .times q t, v => ∃ x dx u y, v = .ref x ∧ Rd F x (.ins T.c_Times dx [("number", u), ("inner", y)]) ∧ rFr K F u q ∧ tmAt T F t y
  | .plus a b, v => ∃ x dx y z, v = .ref x ∧ Rd F x (.ins T.c_Plus dx [("one", y), ("other", z)]) ∧ tmAt T F a y ∧ tmAt T F b z
  | .minus a b, v => ∃ x dx y z, v = .ref x ∧ Rd F x (.ins T.c_Minus dx [("one", y), ("other", z)]) ∧ tmAt T F a y ∧ tmAt T F b z
def rT (T:Tx w K mg):Rep Tm:=fun F v t=>tmAt T F t v
theorem leI {F F':Hp} {x C dx:Addr} {fs:List (Str×V)} (le:Le F F') (h:Rd F x (.ins C dx fs)):Rd F' x (.ins C dx fs):=le _ _ (by intro _ _ z;cases z) h
theorem b'z {T:Tx w K mg} {F F':Hp} (le:Le F F'):∀ (t:Tm) (v:V),tmAt T F t v→tmAt T F' t v
  | .num q, v, ⟨x, dx, u, e, h, r⟩ => ⟨x, dx, u, e, leI le h, Mo.mo (A := rFr K) le r⟩
  | .edge a n, v, ⟨x, dx, e, h⟩ => ⟨x, dx, e, leI le h⟩
  | .times q t, v, ⟨x, dx, u, y, e, h, r, s⟩ => ⟨x, dx, u, y, e, leI le h, Mo.mo (A := rFr K) le r, b'z le t y s⟩
  | .plus a b, v, ⟨x, dx, y, z, e, h, r, s⟩ => ⟨x, dx, y, z, e, leI le h, b'z le a y r, b'z le b z s⟩
  | .minus a b, v, ⟨x, dx, y, z, e, h, r, s⟩ => ⟨x, dx, y, z, e, leI le h, b'z le a y r, b'z le b z s⟩
instance {T:Tx w K mg}:Mo (rT T):=⟨fun {F F' v x} le h=>b'z le x v h⟩
/-- the classes of terms, by number -/
def DT (T:Tx w K mg) (C:Addr) (g:Nat):Prop:=(C=T.c_Number∧g=0)∨(C=T.c_Edge∧g=1)∨(C=T.c_Times∧g=2)∨(C=T.c_Plus∧g=3)∨(C=T.c_Minus∧g=4)
theorem lk1 {m f:Str} {v:V} (h:(m == f)=false):[(f,v)].lookup m=none:=by simp [List.lookup,h]
theorem lk2 {m f g:Str} {v u:V} (h:(m == f)=false) (h':(m == g)=false):[(f,v),(g,u)].lookup m=none:=by simp [List.lookup,h,h']
theorem d'b {T:Tx w K mg} {F:Hp} {v:V}:∀ {t:Tm},rT T F v t→∃ x C dx fs,v=.ref x∧Rd F x (.ins C dx fs)∧DT T C t.tag∧fs.lookup ("edges":Str)=none∧fs.lookup ("ways":Str)=none
  | .num q, ⟨x, dx, u, e, h, r⟩ => ⟨x, _, dx, _, e, h, .inl ⟨rfl, rfl⟩, lk1 (by decide +kernel), lk1 (by decide +kernel)⟩
  | .edge a n, ⟨x, dx, e, h⟩ => ⟨x, _, dx, _, e, h, .inr (.inl ⟨rfl, rfl⟩), lk2 (by decide +kernel) (by decide +kernel), lk2 (by decide +kernel) (by decide +kernel)⟩
  | .times q t, ⟨x, dx, u, y, e, h, r, s⟩ => ⟨x, _, dx, _, e, h, .inr (.inr (.inl ⟨rfl, rfl⟩)), lk2 (by decide +kernel) (by decide +kernel), lk2 (by decide +kernel) (by decide +kernel)⟩
  | .plus a b, ⟨x, dx, y, z, e, h, r, s⟩ => ⟨x, _, dx, _, e, h, .inr (.inr (.inr (.inl ⟨rfl, rfl⟩))), lk2 (by decide +kernel) (by decide +kernel), lk2 (by decide +kernel) (by decide +kernel)⟩
  | .minus a b, ⟨x, dx, y, z, e, h, r, s⟩ => ⟨x, _, dx, _, e, h, .inr (.inr (.inr (.inr ⟨rfl, rfl⟩))), lk2 (by decide +kernel) (by decide +kernel), lk2 (by decide +kernel) (by decide +kernel)⟩
theorem i'i {f g:Str} {v u:V} (h:¬ f=g):putF g u [(f,v)]=[(f,v),(g,u)]:=by
  show (if f=g then _ else _)=_
  rw [if_neg h];rfl
/-! the constructors -/
theorem c'H (T:Tx w K mg):FnOk P w K mg base CX0 1 T.a_Number___init__ T.d_Number___init__ ["self","number"] (spI1 T.c_Number "number"):=by
  refine T.F_Number___init__.ok e'r (fun vs H Q E h=>?_) (fun cdv A outer s H vs Q E hr h=>?_)
  · obtain⟨x,dx,v,rfl,_⟩:=h
    rfl
  · obtain⟨x,dx,v,rfl,hx,k⟩:=h
    refine⟨_,a'i (b'u (pv 0) (pv 1) rfl),?_⟩
    exact⟨_,rfl,_,rfl,x,_,dx,[],rfl,hx,T.cl_Number,T.nf_Number_number,(by decide),k⟩
theorem f'r (T:Tx w K mg):FnOk P w K mg base CX0 1 T.a_Edge___init__ T.d_Edge___init__ ["self","word","name"] (spI2 T.c_Edge "word" "name"):=by
  refine T.F_Edge___init__.ok f'm (fun vs H Q E h=>?_) (fun cdv A outer s H vs Q E hr h=>?_)
  · obtain⟨x,dx,v,u,rfl,_⟩:=h
    rfl
  · obtain⟨x,dx,v,u,rfl,hx,k⟩:=h
    refine⟨_,a'h (b'u (pv 0) (pv 1) rfl) (a'i (b'u (pv 0) (pv 2) rfl)),?_⟩
    refine⟨_,rfl,_,rfl,x,_,dx,[],rfl,hx,T.cl_Edge,T.nf_Edge_word,(by decide),_,rfl,_,rfl,x,_,dx,[("word",v)],rfl,a'v,T.cl_Edge,T.nf_Edge_name,(by show 1<1000;decide),?_⟩
    rw [c'g,i'i (by decide +kernel)]
    exact k
theorem e'V (T:Tx w K mg):FnOk P w K mg base CX0 1 T.a_Times___init__ T.d_Times___init__ ["self","number","inner"] (spI2 T.c_Times "number" "inner"):=by
  refine T.F_Times___init__.ok e'T (fun vs H Q E h=>?_) (fun cdv A outer s H vs Q E hr h=>?_)
  · obtain⟨x,dx,v,u,rfl,_⟩:=h
    rfl
  · obtain⟨x,dx,v,u,rfl,hx,k⟩:=h
    refine⟨_,a'h (b'u (pv 0) (pv 1) rfl) (a'i (b'u (pv 0) (pv 2) rfl)),?_⟩
    refine⟨_,rfl,_,rfl,x,_,dx,[],rfl,hx,T.cl_Times,T.nf_Times_number,(by decide),_,rfl,_,rfl,x,_,dx,[("number",v)],rfl,a'v,T.cl_Times,T.nf_Times_inner,(by show 1<1000;decide),?_⟩
    rw [c'g,i'i (by decide +kernel)]
    exact k
theorem c'e (T:Tx w K mg):FnOk P w K mg base CX0 1 T.a_Plus___init__ T.d_Plus___init__ ["self","one","other"] (spI2 T.c_Plus "one" "other"):=by
  refine T.F_Plus___init__.ok f'n (fun vs H Q E h=>?_) (fun cdv A outer s H vs Q E hr h=>?_)
  · obtain⟨x,dx,v,u,rfl,_⟩:=h
    rfl
  · obtain⟨x,dx,v,u,rfl,hx,k⟩:=h
    refine⟨_,a'h (b'u (pv 0) (pv 1) rfl) (a'i (b'u (pv 0) (pv 2) rfl)),?_⟩
    refine⟨_,rfl,_,rfl,x,_,dx,[],rfl,hx,T.cl_Plus,T.nf_Plus_one,(by decide),_,rfl,_,rfl,x,_,dx,[("one",v)],rfl,a'v,T.cl_Plus,T.nf_Plus_other,(by show 1<1000;decide),?_⟩
    rw [c'g,i'i (by decide +kernel)]
    exact k
theorem e'W (T:Tx w K mg):FnOk P w K mg base CX0 1 T.a_Minus___init__ T.d_Minus___init__ ["self","one","other"] (spI2 T.c_Minus "one" "other"):=by
  refine T.F_Minus___init__.ok e'U (fun vs H Q E h=>?_) (fun cdv A outer s H vs Q E hr h=>?_)
  · obtain⟨x,dx,v,u,rfl,_⟩:=h
    rfl
  · obtain⟨x,dx,v,u,rfl,hx,k⟩:=h
    refine⟨_,a'h (b'u (pv 0) (pv 1) rfl) (a'i (b'u (pv 0) (pv 2) rfl)),?_⟩
    refine⟨_,rfl,_,rfl,x,_,dx,[],rfl,hx,T.cl_Minus,T.nf_Minus_one,(by decide),_,rfl,_,rfl,x,_,dx,[("one",v)],rfl,a'v,T.cl_Minus,T.nf_Minus_other,(by show 1<1000;decide),?_⟩
    rw [c'g,i'i (by decide +kernel)]
    exact k
/-! edges: of each class, for terms of at most some depth -/
def spE (T:Tx w K mg) (n g:Nat):Sp:=fun vs H Q _=>∃ (F:Hp) (v:V) (t:Tm),vs=[v]∧Same F H∧rT T F v t∧(t.tag=g∧t.dep≤n∧(edg t).length≤1000)∧∀ (r:V) (F' H':Hp),Gr F H F' H'→ownL (r2 K rS rS) F' H H' r (edg t)→Q r H'
theorem h'g (T:Tx w K mg) (n:Nat):FnOk P w K mg base CX0 1 T.a_Term_edges T.d_Term_edges ["self"] (spE T n 0):=by
  refine T.F_Term_edges.ok h'e (fun vs H Q E h=>?_) (fun cdv A outer s H vs Q E hr h=>?_)
  · obtain⟨F,v,t,rfl,_⟩:=h
    rfl
  · obtain⟨F,v,t,rfl,wd,ht,⟨hg,hd,hl⟩,k⟩:=h
    have gb:=Gr0.refl wd
    have cm:=Fz.refl F
    refine⟨_,a'i (a'r (a'T a'e)),?_⟩
    refine⟨by decide,fun p hp=>?_⟩
    obtain⟨gb1,sm,hb,oF,oH,ne⟩:=b'M (o:=.lst []) gb hp
    cases t with
    | num q=>exact k _ _ _ (Gr.of gb1 cm) ⟨p,[],rfl,hb,oH,oF,True.intro⟩
    | edge _ _=>cases hg
    | times _ _=>cases hg
    | plus _ _=>cases hg
    | minus _ _=>cases hg
theorem lkA {f g:Str} {v u:V}:[(f,v),(g,u)].lookup f=some v:=by simp [List.lookup]
theorem lkB {f g:Str} {v u:V} (h:(g == f)=false):[(f,v),(g,u)].lookup g=some u:=by simp [List.lookup,h]
theorem h'h (T:Tx w K mg) (n:Nat):FnOk P w K mg base CX0 1 T.a_Edge_edges T.d_Edge_edges ["self"] (spE T n 1):=by
  refine T.F_Edge_edges.ok h'f (fun vs H Q E h=>?_) (fun cdv A outer s H vs Q E hr h=>?_)
  · obtain⟨F,v,t,rfl,_⟩:=h
    rfl
  · obtain⟨F,v,t,rfl,wd,ht,⟨hg,hd,hl⟩,k⟩:=h
    cases t with
    | num _=>cases hg
    | times _ _=>cases hg
    | plus _ _=>cases hg
    | minus _ _=>cases hg
    | edge a b=>
      obtain⟨x,dx,rfl,hx⟩:=ht
      refine⟨_,a'i (a'r (a'T (a'a (b'L (a'a (a'H (pv 0) rfl) (a'a (a'H (pv 0) rfl) a'e))) a'e))),?_⟩
      refine⟨_,rfl,x,_,dx,_,_,rfl,wd.rd hx,T.cl_Edge,T.nf_Edge_word,lkA,_,rfl,x,_,dx,_,_,rfl,wd.rd hx,T.cl_Edge,T.nf_Edge_name,lkB (by decide +kernel),(by show 2≤sizeLine;decide),fun p hp=>?_⟩
      obtain⟨F1,g1,e1⟩:=al2 (o:=.tup [.str a,.str b]) wd (by intro _ _ z;cases z) hp
      refine⟨by show 1≤sizeLine;decide,fun l hl=>?_⟩
      obtain⟨gb1,sm,hb,oF,oH,ne⟩:=b'M (o:=.lst [.ref p]) ((Gr0.refl wd).tr g1) hl
      exact k _ _ _ (Gr.of gb1 (g1.fz (Fz.refl F))) ⟨l,_,rfl,hb,oH,oF,⟨p,_,_,rfl,SqT.of e1,rfl,rfl⟩,True.intro⟩
theorem g'u (T:Tx w K mg) (m:Nat) (ih:∀ C g,DT T C g→MOk P w K mg base CX0 (m+1) "edges" C (spE T m g)):FnOk P w K mg base CX0 (m+2) T.a_Times_edges T.d_Times_edges ["self"] (spE T (m+1) 2):=by
  refine T.F_Times_edges.ok d'D (fun vs H Q E h=>?_) (fun cdv A outer s H vs Q E hr h=>?_)
  · obtain⟨F,v,t,rfl,_⟩:=h
    rfl
  · obtain⟨F,v,t,rfl,wd,ht,⟨hg,hd,hl⟩,k⟩:=h
    cases t with
    | num _=>cases hg
    | edge _ _=>cases hg
    | plus _ _=>cases hg
    | minus _ _=>cases hg
    | times q t=>
      obtain⟨x,dx,u,y,rfl,hx,_,hy⟩:=ht
      obtain⟨x1,C1,dx1,fs1,rfl,r1,d1,l1,_⟩:=d'b hy
      refine⟨_,a'i (a'r (a'D (a'H (pv 0) rfl) ih hr a'j)),?_⟩
      exact⟨_,rfl,x,_,dx,_,_,rfl,wd.rd hx,T.cl_Times,T.nf_Times_inner,lkB (by decide +kernel),x1,C1,dx1,fs1,_,rfl,wd.rd r1,d1,l1,F,_,t,rfl,wd,hy,⟨rfl,Nat.le_of_succ_le_succ hd,hl⟩,k⟩
theorem h'i (T:Tx w K mg) (m:Nat) (ih:∀ C g,DT T C g→MOk P w K mg base CX0 (m+1) "edges" C (spE T m g)):FnOk P w K mg base CX0 (m+2) T.a_Plus_edges T.d_Plus_edges ["self"] (spE T (m+1) 3):=by
  refine T.F_Plus_edges.ok e'a (fun vs H Q E h=>?_) (fun cdv A outer s H vs Q E hr h=>?_)
  · obtain⟨F,v,t,rfl,_⟩:=h
    rfl
  · obtain⟨F,v,t,rfl,wd,ht,⟨hg,hd,hl⟩,k⟩:=h
    cases t with
    | num _=>cases hg
    | edge _ _=>cases hg
    | times _ _=>cases hg
    | minus _ _=>cases hg
    | plus a b=>
      obtain⟨x,dx,y,z,rfl,hx,hy,hz⟩:=ht
      obtain⟨x1,C1,dx1,fs1,rfl,r1,d1,l1,_⟩:=d'b hy
      obtain⟨x2,C2,dx2,fs2,rfl,r2,d2,l2,_⟩:=d'b hz
      have hd':max a.dep b.dep≤m:=Nat.le_of_succ_le_succ hd
      have hl':(edg a).length+(edg b).length≤1000:=by rw [← List.length_append];exact hl
      refine⟨_,a'i (a'r (a'n d'B (a'D (a'H (pv 0) rfl) ih hr a'j) (a'D (a'H (pv 0) rfl) ih hr a'j))),?_⟩
      refine⟨_,rfl,x,_,dx,_,_,rfl,wd.rd hx,T.cl_Plus,T.nf_Plus_one,lkA,x1,C1,dx1,fs1,_,rfl,wd.rd r1,d1,l1,F,_,a,rfl,wd,hy,⟨rfl,by omega,by omega⟩,fun v1 F1 H1 g1 o1=>?_⟩
      refine⟨_,rfl,x,_,dx,_,_,rfl,g1.s.rd (leI g1.le hx),T.cl_Plus,T.nf_Plus_other,lkB (by decide +kernel),x2,C2,dx2,fs2,_,rfl,g1.s.rd (leI g1.le r2),d2,l2,F1,_,b,rfl,g1.s,b'z g1.le b _ hz,⟨rfl,by omega,by omega⟩,fun v2 F2 H2 g2 o2=>?_⟩
      obtain⟨p1,u1,rfl,n1,h1,f1,al1⟩:=o1
      obtain⟨p2,u2,rfl,n2,h2,f2,al2'⟩:=o2
      have al1':=Al.mo g2.le al1
      refine⟨p1,p2,u1,u2,rfl,rfl,SqL.of (g2.h _ _ h1),SqL.of h2,Nat.le_trans (show _≤1000 by rw [Al.length al1',Al.length al2'];exact hl') (by decide),fun p hp=>?_⟩
      obtain⟨gb1,sm,hb,oF,oH,ne⟩:=b'M (o:=.lst (u1++u2)) (g1.toGr0.trans g2.toGr0) hp
      exact k _ _ _ (Gr.of gb1 (g2.fz (g1.fz (Fz.refl F)))) ⟨p,_,rfl,hb,oH,oF,Al.app al1' al2'⟩
theorem g'v (T:Tx w K mg) (m:Nat) (ih:∀ C g,DT T C g→MOk P w K mg base CX0 (m+1) "edges" C (spE T m g)):FnOk P w K mg base CX0 (m+2) T.a_Minus_edges T.d_Minus_edges ["self"] (spE T (m+1) 4):=by
  refine T.F_Minus_edges.ok d'F (fun vs H Q E h=>?_) (fun cdv A outer s H vs Q E hr h=>?_)
  · obtain⟨F,v,t,rfl,_⟩:=h
    rfl
  · obtain⟨F,v,t,rfl,wd,ht,⟨hg,hd,hl⟩,k⟩:=h
    cases t with
    | num _=>cases hg
    | edge _ _=>cases hg
    | times _ _=>cases hg
    | plus _ _=>cases hg
    | minus a b=>
      obtain⟨x,dx,y,z,rfl,hx,hy,hz⟩:=ht
      obtain⟨x1,C1,dx1,fs1,rfl,r1,d1,l1,_⟩:=d'b hy
      obtain⟨x2,C2,dx2,fs2,rfl,r2,d2,l2,_⟩:=d'b hz
      have hd':max a.dep b.dep≤m:=Nat.le_of_succ_le_succ hd
      have hl':(edg a).length+(edg b).length≤1000:=by rw [← List.length_append];exact hl
      refine⟨_,a'i (a'r (a'n d'B (a'D (a'H (pv 0) rfl) ih hr a'j) (a'D (a'H (pv 0) rfl) ih hr a'j))),?_⟩
      refine⟨_,rfl,x,_,dx,_,_,rfl,wd.rd hx,T.cl_Minus,T.nf_Minus_one,lkA,x1,C1,dx1,fs1,_,rfl,wd.rd r1,d1,l1,F,_,a,rfl,wd,hy,⟨rfl,by omega,by omega⟩,fun v1 F1 H1 g1 o1=>?_⟩
      refine⟨_,rfl,x,_,dx,_,_,rfl,g1.s.rd (leI g1.le hx),T.cl_Minus,T.nf_Minus_other,lkB (by decide +kernel),x2,C2,dx2,fs2,_,rfl,g1.s.rd (leI g1.le r2),d2,l2,F1,_,b,rfl,g1.s,b'z g1.le b _ hz,⟨rfl,by omega,by omega⟩,fun v2 F2 H2 g2 o2=>?_⟩
      obtain⟨p1,u1,rfl,n1,h1,f1,al1⟩:=o1
      obtain⟨p2,u2,rfl,n2,h2,f2,al2'⟩:=o2
      have al1':=Al.mo g2.le al1
      refine⟨p1,p2,u1,u2,rfl,rfl,SqL.of (g2.h _ _ h1),SqL.of h2,Nat.le_trans (show _≤1000 by rw [Al.length al1',Al.length al2'];exact hl') (by decide),fun p hp=>?_⟩
      obtain⟨gb1,sm,hb,oF,oH,ne⟩:=b'M (o:=.lst (u1++u2)) (g1.toGr0.trans g2.toGr0) hp
      exact k _ _ _ (Gr.of gb1 (g2.fz (g1.fz (Fz.refl F)))) ⟨p,_,rfl,hb,oH,oF,Al.app al1' al2'⟩
theorem f's {T:Tx w K mg} {C:String} {a:Addr} {d:FuncData} {g:Nat} (hg:2≤g) {st:Stmt} (F:Fun K "edges" C st a d) {N:List Str} (S:FnScope N ["self"] (defScope st)):FnOk P w K mg base CX0 1 a d ["self"] (spE T 0 g):=by
  have no:∀ {vs:List V} {H:Hp} {Q:VK} {E:XK},spE T 0 g vs H Q E→False:=fun h=>by
    obtain⟨F,v,t,rfl,wd,ht,⟨hg',hd,_⟩,_⟩:=h
    cases t with
    | num _=>have:0=g:=hg';omega
    | edge _ _=>have:1=g:=hg';omega
    | times _ _=>exact absurd hd (Nat.not_succ_le_zero _)
    | plus _ _=>exact absurd hd (Nat.not_succ_le_zero _)
    | minus _ _=>exact absurd hd (Nat.not_succ_le_zero _)
  exact F.ok S (fun vs H Q E h=>(no h).elim) (fun cdv A outer s H vs Q E hr h=>(no h).elim)
theorem d'X (T:Tx w K mg):∀ (n:Nat) (C:Addr) (g:Nat),DT T C g→MOk P w K mg base CX0 (n+1) "edges" C (spE T n g)
  | n, _, _, .inl ⟨rfl, rfl⟩ => ⟨T.cl_Number, _, _, T.mt_Number_edges, (h'g T n).mono (by omega), T.b_Term_edges⟩
  | n, _, _, .inr (.inl ⟨rfl, rfl⟩) => ⟨T.cl_Edge, _, _, T.mt_Edge_edges, (h'h T n).mono (by omega), T.b_Edge_edges⟩
  | 0, _, _, .inr (.inr (.inl ⟨rfl, rfl⟩)) => ⟨T.cl_Times, _, _, T.mt_Times_edges, f's (by decide) T.F_Times_edges d'D, T.b_Times_edges⟩
  | 0, _, _, .inr (.inr (.inr (.inl ⟨rfl, rfl⟩))) => ⟨T.cl_Plus, _, _, T.mt_Plus_edges, f's (by decide) T.F_Plus_edges e'a, T.b_Plus_edges⟩
  | 0, _, _, .inr (.inr (.inr (.inr ⟨rfl, rfl⟩))) => ⟨T.cl_Minus, _, _, T.mt_Minus_edges, f's (by decide) T.F_Minus_edges d'F, T.b_Minus_edges⟩
  | m + 1, _, _, .inr (.inr (.inl ⟨rfl, rfl⟩)) => ⟨T.cl_Times, _, _, T.mt_Times_edges, g'u T m (d'X T m), T.b_Times_edges⟩
  | m + 1, _, _, .inr (.inr (.inr (.inl ⟨rfl, rfl⟩))) => ⟨T.cl_Plus, _, _, T.mt_Plus_edges, h'i T m (d'X T m), T.b_Plus_edges⟩
  | m + 1, _, _, .inr (.inr (.inr (.inr ⟨rfl, rfl⟩))) => ⟨T.cl_Minus, _, _, T.mt_Minus_edges, g'v T m (d'X T m), T.b_Minus_edges⟩
theorem o'y {T:Tx w K mg} {F:Hp} {v:V} {t:Tm} (h:rT T F v t):∃ x C dx fs,v=.ref x∧Rd F x (.ins C dx fs)∧DT T C t.tag∧fs.lookup ("edges":Str)=none:=by
  obtain⟨x,C,dx,fs,a,b,c,d,_⟩:=d'b h
  exact⟨x,C,dx,fs,a,b,c,d⟩
theorem e'N {T:Tx w K mg} {F:Hp} {v:V} {t:Tm} (h:rT T F v t):∃ x C dx fs,v=.ref x∧Rd F x (.ins C dx fs)∧DT T C t.tag∧fs.lookup ("ways":Str)=none:=by
  obtain⟨x,C,dx,fs,a,b,c,_,d⟩:=d'b h
  exact⟨x,C,dx,fs,a,b,c,d⟩
def wayS (x:Str):Str:=if x∈(["top","height","bottom","centre","drop"]:List Str) then "down" else "across"
noncomputable def wys (t:Tm):List Str:=srt (once ((edg t).map fun e=>wayS e.1))
theorem o'N {l:List Str} {x:Str} {i j:Nat} (h1:([["left","width","right","middle","gap"],["top","height","bottom","centre","drop"]]:List (List Str))[i]?=some l) (h2:l[j]?=some x):¬ x="":=by
  have m1:=List.mem_of_getElem? h1
  have m2:=List.mem_of_getElem? h2
  simp only [List.mem_cons,List.not_mem_nil,or_false] at m1
  rcases m1 with rfl | rfl<;>(simp only [List.mem_cons,List.not_mem_nil,or_false] at m2;rcases m2 with rfl | rfl | rfl | rfl | rfl<;>decide +kernel)
theorem l'K {l:List Str} {i:Nat} (h1:([["left","width","right","middle","gap"],["top","height","bottom","centre","drop"]]:List (List Str))[i]?=some l):l.length=5:=by
  have m1:=List.mem_of_getElem? h1
  simp only [List.mem_cons,List.not_mem_nil,or_false] at m1
  rcases m1 with rfl | rfl<;>rfl
/-! worth of each class -/
def Tm.q:Tm→Rat
  | .num q => q | .times q _ => q | _ => 0
def Tm.inner:Tm→Tm
  | .times _ t => t | t => t
def Tm.one:Tm→Tm
  | .plus a _ => a | .minus a _ => a | t => t
def Tm.other:Tm→Tm
  | .plus _ b => b | .minus _ b => b | t => t
def Tm.word:Tm→Str
  | .edge x _ => x | _ => ""
def Tm.nam:Tm→Str
  | .edge _ n => n | _ => ""
theorem b'U {T:Tx w K mg} {F:Hp} {v:V}:∀ {t:Tm},rT T F v t→∃ x C dx fs,v=.ref x∧Rd F x (.ins C dx fs)∧DT T C t.tag∧fs.lookup ("worth":Str)=none
  | .num q, ⟨x, dx, u, e, h, r⟩ => ⟨x, _, dx, _, e, h, .inl ⟨rfl, rfl⟩, lk1 (by decide +kernel)⟩
  | .edge a n, ⟨x, dx, e, h⟩ => ⟨x, _, dx, _, e, h, .inr (.inl ⟨rfl, rfl⟩), lk2 (by decide +kernel) (by decide +kernel)⟩
  | .times q t, ⟨x, dx, u, y, e, h, r, s⟩ => ⟨x, _, dx, _, e, h, .inr (.inr (.inl ⟨rfl, rfl⟩)), lk2 (by decide +kernel) (by decide +kernel)⟩
  | .plus a b, ⟨x, dx, y, z, e, h, r, s⟩ => ⟨x, _, dx, _, e, h, .inr (.inr (.inr (.inl ⟨rfl, rfl⟩))), lk2 (by decide +kernel) (by decide +kernel)⟩
  | .minus a b, ⟨x, dx, y, z, e, h, r, s⟩ => ⟨x, _, dx, _, e, h, .inr (.inr (.inr (.inr ⟨rfl, rfl⟩))), lk2 (by decide +kernel) (by decide +kernel)⟩
theorem o'z {T:Tx w K mg} {F:Hp} {v:V}:∀ {t:Tm},t.tag=0→rT T F v t→∃ x C dx fs u,v=.ref x∧Rd F x (.ins C dx fs)∧Cls K C∧NoAttr K C "number"∧fs.lookup ("number":Str)=some u∧rFr K F u t.q
  | .num q, _, ⟨x, dx, u, e, h, r⟩ => ⟨x, _, dx, _, u, e, h, T.cl_Number, T.nf_Number_number, rfl, r⟩
theorem n'X {T:Tx w K mg} {F:Hp} {v:V}:∀ {t:Tm},t.tag=2→rT T F v t→∃ x C dx fs u,v=.ref x∧Rd F x (.ins C dx fs)∧Cls K C∧NoAttr K C "number"∧fs.lookup ("number":Str)=some u∧rFr K F u t.q
  | .times q t, _, ⟨x, dx, u, y, e, h, r, s⟩ => ⟨x, _, dx, _, u, e, h, T.cl_Times, T.nf_Times_number, rfl, r⟩
theorem m'X {T:Tx w K mg} {F:Hp} {v:V}:∀ {t:Tm},t.tag=2→rT T F v t→∃ x C dx fs u,v=.ref x∧Rd F x (.ins C dx fs)∧Cls K C∧NoAttr K C "inner"∧fs.lookup ("inner":Str)=some u∧rT T F u t.inner
  | .times q t, _, ⟨x, dx, u, y, e, h, r, s⟩ => ⟨x, _, dx, _, y, e, h, T.cl_Times, T.nf_Times_inner, rfl, s⟩
theorem n'Y {T:Tx w K mg} {F:Hp} {v:V}:∀ {t:Tm},t.tag=1→rT T F v t→∃ x C dx fs u,v=.ref x∧Rd F x (.ins C dx fs)∧Cls K C∧NoAttr K C "word"∧fs.lookup ("word":Str)=some u∧rS F u t.word
  | .edge a n, _, ⟨x, dx, e, h⟩ => ⟨x, _, dx, _, _, e, h, T.cl_Edge, T.nf_Edge_word, rfl, rfl⟩
theorem i'j {T:Tx w K mg} {F:Hp} {v:V}:∀ {t:Tm},t.tag=1→rT T F v t→∃ x C dx fs u,v=.ref x∧Rd F x (.ins C dx fs)∧Cls K C∧NoAttr K C "name"∧fs.lookup ("name":Str)=some u∧rS F u t.nam
  | .edge a n, _, ⟨x, dx, e, h⟩ => ⟨x, _, dx, _, _, e, h, T.cl_Edge, T.nf_Edge_name, rfl, rfl⟩
theorem n'Z {T:Tx w K mg} {F:Hp} {v:V}:∀ {t:Tm},t.tag=3→rT T F v t→∃ x C dx fs u,v=.ref x∧Rd F x (.ins C dx fs)∧Cls K C∧NoAttr K C "one"∧fs.lookup ("one":Str)=some u∧rT T F u t.one
  | .plus a b, _, ⟨x, dx, y, z, e, h, r, s⟩ => ⟨x, _, dx, _, y, e, h, T.cl_Plus, T.nf_Plus_one, rfl, r⟩
theorem o'a {T:Tx w K mg} {F:Hp} {v:V}:∀ {t:Tm},t.tag=3→rT T F v t→∃ x C dx fs u,v=.ref x∧Rd F x (.ins C dx fs)∧Cls K C∧NoAttr K C "other"∧fs.lookup ("other":Str)=some u∧rT T F u t.other
  | .plus a b, _, ⟨x, dx, y, z, e, h, r, s⟩ => ⟨x, _, dx, _, z, e, h, T.cl_Plus, T.nf_Plus_other, rfl, s⟩
theorem o'b {T:Tx w K mg} {F:Hp} {v:V}:∀ {t:Tm},t.tag=4→rT T F v t→∃ x C dx fs u,v=.ref x∧Rd F x (.ins C dx fs)∧Cls K C∧NoAttr K C "one"∧fs.lookup ("one":Str)=some u∧rT T F u t.one
  | .minus a b, _, ⟨x, dx, y, z, e, h, r, s⟩ => ⟨x, _, dx, _, y, e, h, T.cl_Minus, T.nf_Minus_one, rfl, r⟩
theorem o'c {T:Tx w K mg} {F:Hp} {v:V}:∀ {t:Tm},t.tag=4→rT T F v t→∃ x C dx fs u,v=.ref x∧Rd F x (.ins C dx fs)∧Cls K C∧NoAttr K C "other"∧fs.lookup ("other":Str)=some u∧rT T F u t.other
  | .minus a b, _, ⟨x, dx, y, z, e, h, r, s⟩ => ⟨x, _, dx, _, z, e, h, T.cl_Minus, T.nf_Minus_other, rfl, s⟩
/-- the words' unknowns -/
def WD:List Str:=shrT.map (·.1)
def shrA (x:Str):List (Str×Rat):=(shrT.lookup x).getD []
theorem m'Y {x:Str} (h:x∈WD):(x,shrA x)∈shrT:=by
  simp only [WD,shrT,List.map_cons,List.map_nil,List.mem_cons,List.not_mem_nil,or_false] at h
  rcases h with rfl | rfl | rfl | rfl | rfl | rfl | rfl | rfl | rfl | rfl<;>decide +kernel
theorem g'w {x:Str} (h:x∈WD):(shrA x).length≤2∧∀ p∈shrA x,p.1.length≤6∧bs p.2≤2:=by
  simp only [WD,shrT,List.map_cons,List.map_nil,List.mem_cons,List.not_mem_nil,or_false] at h
  rcases h with rfl | rfl | rfl | rfl | rfl | rfl | rfl | rfl | rfl | rfl<;>decide +kernel
theorem l'L {F:Hp} {x:Str} (T:Tx w K mg) (h:x∈WD):∃ kvs a vs,KD w K T.c_WORTHS kvs∧kvs.lookup x=some (.ref a)∧SqT K F a vs∧Al (r2 K rS (rFr K)) F vs (shrA x):=by
  obtain⟨kvs,kd,q⟩:=T.w_WORTHS
  obtain⟨a,vs,l,sq,al⟩:=q x _ (m'Y h)
  have le:Le (fun _=>none) F:=.of fun _ _ z=>by cases z
  exact⟨kvs,a,vs,kd,l,le.tup sq,Al.mo le al⟩
noncomputable def edgF (n:Str) (l:List (Str×Rat)):List (Str×Rat):=l.foldl (fun m p=>if n="frame"∧p.1∈(["left","top"]:List Str) then m else ptd m (p.1++" "++n) p.2) []
theorem c'v {n x:Str} {l:List (Str×Rat)} {i:Nat} {p:Str×Rat} (h:l[i]?=some p) (c:¬ (n="frame"∧p.1∈(["left","top"]:List Str))):ptd (edgF n (l.take i)) (p.1++" "++n) p.2=edgF n (l.take (i+1)):=by
  unfold edgF
  rw [c'D h,List.foldl_append]
  show _=(if _ then _ else _)
  rw [if_neg c]
theorem e's {n:Str} {l:List (Str×Rat)} {i:Nat} {p:Str×Rat} (h:l[i]?=some p) (c:n="frame"∧p.1∈(["left","top"]:List Str)):edgF n (l.take i)=edgF n (l.take (i+1)):=by
  unfold edgF
  rw [c'D h,List.foldl_append]
  show _=(if _ then _ else _)
  rw [if_pos c]
theorem e'O {n:Str} {b:Nat}:∀ (l m:List (Str×Rat)),(∀ p∈l,bs p.2≤b)→Nd m→(∀ x q,gt m x=some q→bs q≤b)→
    Nd (l.foldl (fun m p=>if n="frame"∧p.1∈(["left","top"]:List Str) then m else ptd m (p.1++" "++n) p.2) m)∧(l.foldl (fun m p=>if n="frame"∧p.1∈(["left","top"]:List Str) then m else ptd m (p.1++" "++n) p.2) m).length≤m.length+l.length∧
    ∀ x q,gt (l.foldl (fun m p=>if n="frame"∧p.1∈(["left","top"]:List Str) then m else ptd m (p.1++" "++n) p.2) m) x=some q→bs q≤b
  | [], m, _, h, g => ⟨h, Nat.le_refl _, g⟩
  | p :: l, m, hl, h, g => by
    rw [List.foldl_cons]
    by_cases c:n="frame"∧p.1∈(["left","top"]:List Str)
    · rw [if_pos c]
      obtain⟨a1,a2,a3⟩:=e'O l m (fun q z=>hl q (.tail _ z)) h g
      exact⟨a1,Nat.le_trans a2 (by rw [List.length_cons];omega),a3⟩
    · rw [if_neg c]
      obtain⟨a1,a2,a3⟩:=e'O l (ptd m (p.1++" "++n) p.2) (fun q z=>hl q (.tail _ z)) (j'w h _ _) (fun x q z=>by
        have z:gt (pt m (p.1++" "++n) p.2) x=some q:=z
        rw [e'D] at z
        split at z
        · cases z;exact hl p (.head _)
        · exact g x q z)
      exact⟨a1,Nat.le_trans a2 (by have:=b'G m (p.1++" "++n) p.2;rw [List.length_cons];omega),a3⟩
noncomputable def wor:Tm→List (Str×Rat)×Rat
  | .num q => ([], q)
  | .edge x n => (nz (edgF n (shrA x)), 0)
  | .times q t => (nz (sc (wor t).1 q), (wor t).2 * q)
  | .plus a b => (nz (addM (wor a).1 (wor b).1), (wor a).2 + (wor b).2)
  | .minus a b => (nz (addM (wor a).1 (nz (sc (wor b).1 (-1)))), (wor a).2 + (wor b).2 * (-1))
def bt:Tm→Nat
  | .num q => bs q + 1 | .edge _ _ => 2 | .times q t => bs q + bt t + 1 | .plus a b => bt a + bt b + 2 | .minus a b => bt a + bt b + 3
def nl:Tm→Nat
  | .num _ => 0 | .edge _ _ => 2 | .times _ t => nl t | .plus a b => nl a + nl b | .minus a b => nl a + nl b
def okT:Tm→Prop
  | .num _ => True | .edge x n => x ∈ WD ∧ n.length ≤ 20 | .times _ t => okT t | .plus a b => okT a ∧ okT b | .minus a b => okT a ∧ okT b
/-- what is known of a term's sum -/
structure WOk (t:Tm):Prop where
  nd:Nd (wor t).1
  ln:(wor t).1.length≤nl t
  pt:∀ x q,gt (wor t).1 x=some q→bs q≤bt t
  rs:bs (wor t).2≤bt t
  b1:1≤bt t
theorem c'f {m:FL Str} (n:Nd m) {x:Str} {q:Rat} (h:gt (nz m) x=some q):gt m x=some q:=by
  rw [j'y n] at h
  cases e:gt m x with
  | none => rw [e] at h; cases h
  | some z =>
    rw [e] at h
    simp only at h
    split at h
    · cases h
    · exact h
theorem bsa {a b:FL Str} {n k:Nat} (nb:Nd b) (h1:∀ x q,gt a x=some q→bs q≤n) (h2:∀ x q,gt b x=some q→bs q≤k) (hn:1≤n):∀ x q,gt (addM a b) x=some q→bs q≤n+k+1:=fun x q e=>by
  rw [g'g b a nb] at e
  cases g:gt b x with
  | none => rw [g] at e; have := h1 x q e; omega
  | some z =>
    rw [g] at e
    cases e
    exact Nat.le_trans (c'Z _ _) (by have:=j'b (x:=x) h1 hn;have:=h2 x z g;omega)
theorem a'X:∀ t:Tm,okT t→WOk t
  | .num q, _ => ⟨List.nodup_nil, Nat.le_refl _, fun _ _ z => (by cases z), Nat.le_succ _, Nat.succ_le_succ (Nat.zero_le _)⟩
  | .edge x n, ⟨h, _⟩ => by
    obtain⟨s1,s2⟩:=g'w h
    obtain⟨a1,a2,a3⟩:=e'O (n:=n) (b:=2) (shrA x) [] (fun p z=>(s2 p z).2) List.nodup_nil (fun _ _ z=>by cases z)
    exact⟨e'E a1,Nat.le_trans (c'E _) (Nat.le_trans a2 (by show 0+_≤2;omega)),fun x q z=>a3 x q (c'f a1 z),by show bs 0≤2;rw [c'Q];decide,by show 1≤2;decide⟩
  | .times q t, h => by
    have w:=a'X t h
    exact⟨e'E (f'J w.nd q),Nat.le_trans (c'E _) (by rw [f'K];exact w.ln),fun x y z=>Nat.le_trans (bsc w.nd w.pt x y z) (by show bt t+bs q≤bs q+bt t+1;omega),Nat.le_trans (c'F _ _) (by show _≤bs q+bt t+1;have:=w.rs;omega),by show 1≤bs q+bt t+1;omega⟩
  | .plus a b, ⟨h1, h2⟩ => by
    have u:=a'X a h1
    have v:=a'X b h2
    have n:=d'x (wor b).1 (wor a).1 u.nd
    exact⟨e'E n,Nat.le_trans (c'E _) (Nat.le_trans (d'R _ _) (Nat.add_le_add u.ln v.ln)),fun x q z=>Nat.le_trans (bsa v.nd u.pt v.pt u.b1 x q (c'f n z)) (by show _≤bt a+bt b+2;omega),Nat.le_trans (c'Z _ _) (by show _≤bt a+bt b+2;have:=u.rs;have:=v.rs;omega),by show 1≤bt a+bt b+2;omega⟩
  | .minus a b, ⟨h1, h2⟩ => by
    have u:=a'X a h1
    have v:=a'X b h2
    have ns:=e'E (f'J v.nd (-1))
    have n:=d'x (nz (sc (wor b).1 (-1))) (wor a).1 u.nd
    have q:=bsc (q:=-1) v.nd v.pt
    rw [e'L] at q
    refine⟨e'E n,Nat.le_trans (c'E _) (Nat.le_trans (d'R _ _) (Nat.add_le_add u.ln (Nat.le_trans (c'E _) (by rw [f'K];exact v.ln)))),fun x y z=>Nat.le_trans (bsa ns u.pt q u.b1 x y (c'f n z)) (by show _≤bt a+bt b+3;omega),Nat.le_trans (c'Z _ _) ?_,by show 1≤bt a+bt b+3;omega⟩
    have e:=c'F (wor b).2 (-1)
    rw [e'L] at e
    have:=u.rs;have:=v.rs
    show _≤bt a+bt b+3
    omega
def spV (T:Tx w K mg) (n g:Nat):Sp:=fun vs H Q _=>∃ (F:Hp) (v_self:V) (self:Tm),vs=[v_self]∧Same F H∧Fz S0 F∧rT T F v_self self∧(self.tag=g∧self.dep≤n∧okT self∧bt self≤800∧nl self≤100)∧
  ∀ (v:V) (F' H':Hp),Gr F H F' H'→ownS K F' H H' v (wor self)→Q v H'
/-- parts of a term keep what is asked of it -/
def Pre (m:Nat) (t:Tm):Prop:=t.tag=t.tag∧t.dep≤m∧okT t∧bt t≤800∧nl t≤100
theorem k'T {m:Nat}:∀ {t:Tm},t.tag=2→t.dep≤m+1→okT t→bt t≤800→nl t≤100→Pre m t.inner∧bs t.q≤800∧wor t=(nz (sc (wor t.inner).1 t.q),(wor t.inner).2*t.q)
  | .times q t, _, hd, ho, hb, hn => ⟨⟨rfl, Nat.le_of_succ_le_succ hd, ho, by have : bs q + bt t + 1 ≤ 800 := hb; show bt t ≤ 800; omega, hn⟩, by have : bs q + bt t + 1 ≤ 800 := hb; show bs q ≤ 800; omega, rfl⟩
theorem l'M {m:Nat}:∀ {t:Tm},t.tag=3→t.dep≤m+1→okT t→bt t≤800→nl t≤100→Pre m t.one∧Pre m t.other∧nl t.one+nl t.other≤100∧wor t=(nz (addM (wor t.one).1 (wor t.other).1),(wor t.one).2+(wor t.other).2)
  | .plus a b, _, hd, ⟨h1, h2⟩, hb, hn => by
    have d:max a.dep b.dep≤m:=Nat.le_of_succ_le_succ hd
    have b':bt a+bt b+2≤800:=hb
    have n':nl a+nl b≤100:=hn
    exact⟨⟨rfl,by show a.dep≤m;omega,h1,by show bt a≤800;omega,by show nl a≤100;omega⟩,⟨rfl,by show b.dep≤m;omega,h2,by show bt b≤800;omega,by show nl b≤100;omega⟩,n',rfl⟩
theorem l'N {m:Nat}:∀ {t:Tm},t.tag=4→t.dep≤m+1→okT t→bt t≤800→nl t≤100→Pre m t.one∧Pre m t.other∧nl t.one+nl t.other≤100∧wor t=(nz (addM (wor t.one).1 (nz (sc (wor t.other).1 (-1)))),(wor t.one).2+(wor t.other).2*(-1))
  | .minus a b, _, hd, ⟨h1, h2⟩, hb, hn => by
    have d:max a.dep b.dep≤m:=Nat.le_of_succ_le_succ hd
    have b':bt a+bt b+3≤800:=hb
    have n':nl a+nl b≤100:=hn
    exact⟨⟨rfl,by show a.dep≤m;omega,h1,by show bt a≤800;omega,by show nl a≤100;omega⟩,⟨rfl,by show b.dep≤m;omega,h2,by show bt b≤800;omega,by show nl b≤100;omega⟩,n',rfl⟩
theorem m'Z:∀ {t:Tm},t.tag=0→wor t=([],t.q)
  | .num q, _ => rfl
theorem l'O:∀ {t:Tm},t.tag=1→okT t→wor t=(nz (edgF t.nam (shrA t.word)),0)∧t.word∈WD∧t.nam.length≤20
  | .edge x n, _, h => ⟨rfl, h⟩
def sp_unknown_of (K:PySem.W.Frag):Sp:=fun vs H Q _=>Ex5 fun (F:Hp) (v_word:V) (v_name:V) (word:Str) (name:Str)=>Cj6 (vs=[v_word,v_name]) (Same F H) (rS F v_word word) (rS F v_name name) (word.length≤20∧name.length≤20) (∀ (v:V) (F' H':Hp),Gr F H F' H'→rS F' v (word++(" ":Str)++name)→Q v H')
theorem h'j (T:Tx w K mg):FnOk P w K mg base CX0 1 T.a_unknown_of T.d_unknown_of ["word","name"] (sp_unknown_of K):=by
 refine T.F_unknown_of.ok h'd (fun vs H Q E h=>?_) (fun cdv A outer s H vs Q E hr h=>?_)
 ·obtain⟨F,v_word,v_name,word,name,rfl,_⟩:=h
  rfl
 ·obtain⟨F,v_word,v_name,word,name,rfl,wd,r_word,r_name,hpre,k⟩:=h
  have hu:=a'M hr
  have gb:=Gr0.refl wd
  have cm:=Fz.refl F
  obtain rfl:v_word=V.str word:=r_word
  obtain rfl:v_name=V.str name:=r_name
  obtain⟨w1,w2⟩:=hpre
  refine⟨_,(a'i (a'r (m'C (k'D (pv 0) (n'N (k'D (pv 1) n'M)))))),?_⟩
  refine a'A (o'G (n'O (a'c rfl ?_)))
  refine⟨_,rfl,Nat.le_trans (show word.length≤100000 by omega) (by decide),(by rw [d'Z];exact Nat.le_trans (show word.length≤100000 by omega) (by decide)),?_⟩
  rw [d'Z]
  have ln1:(" ":Str).length=1:=by decide +kernel
  have ln2:(word++(" ":Str)).length=word.length+(" ":Str).length:=d'l _ _
  refine o'H (x:=(" ":Str)) (Nat.le_trans (show (word++(" ":Str)).length≤100000 by omega) (by decide)) ?_
  refine n'O (a'c rfl ?_)
  have ln3:((word++(" ":Str))++name).length=(word++(" ":Str)).length+name.length:=d'l _ _
  refine⟨_,rfl,Nat.le_trans (show name.length≤100000 by omega) (by decide),Nat.le_trans (show ((word++(" ":Str))++name).length≤100000 by omega) (by decide),?_⟩
  refine o'I (Nat.le_trans (show ((word++(" ":Str))++name).length≤100000 by omega) (by decide)) ?_
  have rp4:rS F (V.str ((word++(" ":Str))++name)) (((word++(" ":Str))++name)):=rfl
  exact k _ _ _ (Gr.of gb cm) rp4
theorem f'Y (T:Tx w K mg) (n:Nat):FnOk P w K mg base CX0 2 T.a_Number_worth T.d_Number_worth ["self"] (spV T n 0):=by
 refine T.F_Number_worth.ok f'V (fun vs H Q E h=>?_) (fun cdv A outer s H vs Q E hr h=>?_)
 ·obtain⟨F,v_self,self,rfl,_⟩:=h
  rfl
 ·obtain⟨F,v_self,self,rfl,wd,cm,r_self,hpre,k⟩:=h
  have hu:=a'M hr
  have gb:=Gr0.refl wd
  obtain⟨hg,hd,ho,hb,hn⟩:=hpre
  refine⟨_,(a'i (a'r (a'l ((e'M T).mono (by decide)) hr rfl T.m_made T.F_made.kp T.b_made .nil a'j (a'a c'U (a'a (a'H (pv 0) rfl) a'e))))),?_⟩
  refine a'A (a'p (a'b ?_))
  refine fun p1 hp2=>?_
  obtain⟨gb4,sm5,hb6,oF7,oH8,ne9⟩:=b'M (o:=(.dK [])) gb hp2
  generalize upd H p1 (.dK [])=H3 at gb4 sm5 oH8 ⊢
  refine a'b (a'W (a'c rfl ?_))
  obtain⟨_,_,_,_,c2,a6,a7,a8,a9,b0,b1⟩:=o'z hg r_self
  refine⟨_,_,_,_,_,a6,gb4.s.rd a7,a8,a9,b0,?_⟩
  obtain⟨c3,rfl,b2⟩:=b1
  refine a'g ?_
  refine⟨F,_,_,[],self.q,rfl,gb4.s,⟨_,_,rfl,oH8,oF7,True.intro,List.nodup_nil⟩,⟨_,rfl,b2⟩,(by decide),?_⟩
  rintro c4 a2 a3  a0 b3 
  obtain⟨a4,c5,c6,c7,rfl,b4,b5,a5,oH33,oF34,b6,b7⟩:=b3
  have b8:=gb4.h.free a5
  have c8:=a'q oH8 a5
  obtain⟨b9,c9,c0⟩:=gr3 gb4 cm a0
  have oH42:=a0.h _ _ oH8
  have oF43:=a0.own oF7 oH8
  obtain⟨d0,rfl,c1⟩:=b5
  have hval:(((nz ([]),self.q)):((List (Str×Rat))×Rat))=(wor self):=by exact (m'Z hg).symm
  have a1:ownS K a2 H a3 (V.ref a4) (((nz ([]),self.q))):=⟨_,_,_,_,rfl,b4,⟨_,rfl,c1⟩,b8,oH33,oF34,b6,b7⟩
  replace a1:=Eq.mp (congrArg (ownS K a2 H a3 (V.ref a4)) hval) a1
  exact k _ _ _ (Gr.of0 b9 c0) a1
theorem h'k (T:Tx w K mg) (n:Nat):FnOk P w K mg base CX0 3 T.a_Edge_worth T.d_Edge_worth ["self"] (spV T n 1):=by
 refine T.F_Edge_worth.ok sc_Edge_worth (fun vs H Q E h=>?_) (fun cdv A outer s H vs Q E hr h=>?_)
 ·obtain⟨F,v_self,self,rfl,_⟩:=h
  rfl
 ·obtain⟨F,v_self,self,rfl,wd,cm,r_self,hpre,k⟩:=h
  have hu:=a'M hr
  have gb:=Gr0.refl wd
  obtain⟨hg,hd,ho,hb,hn⟩:=hpre
  refine⟨_,(@a'h _ _ _ _ _ (a'w (i:=1) sc_Edge_worth.nd rfl (Or.inl rfl) c'U)
     (@a'h _ _ _ _ _ (d'q PassesOwn.never rfl (n'r (l'E (b'a (v:=.ref T.c_WORTHS) rfl T.m_WORTHS rfl) (a'H (pv 0) rfl) (fun _ _=>rfl))) (b'K rfl (a'J (a'K (i:=2) sc_Edge_worth.nd rfl (Or.inl rfl)) (a'J (a'K (i:=3) sc_Edge_worth.nd rfl (Or.inl rfl)) b't))) (a'i (a'P (PW.pt (b'B (a'u b'H (a'H (pv 0) rfl) (b'a (v:=.str "frame") rfl T.m_FRAME ⟨_,rfl⟩) (a'y _)) (b'W (a'u e'i (pv 2) (b'a (v:=.ref T.c_STARTS) rfl T.m_STARTS rfl) (by with_unfolding_all rfl))))) (a'i (d's hu (pv 1) (a'l ((h'j T).mono (by decide)) hr rfl T.m_unknown_of T.F_unknown_of.kp T.b_unknown_of .nil a'j (a'a (pv 2) (a'a (a'H (pv 0) rfl) a'e))) (pv 3) rfl)) a'N)))
     (a'i (a'r (a'l ((e'M T).mono (by decide)) hr rfl T.m_made T.F_made.kp T.b_made .nil a'j (a'a (pv 1) (a'a (b'a (v:=.ref T.c_NOUGHT) rfl T.m_NOUGHT rfl) a'e))))))),?_⟩
  obtain⟨hw,hx,hy⟩:=l'O hg ho
  obtain⟨s1,s2⟩:=g'w hx
  refine a's (a'E ?_)
  refine fun p1 hp2=>?_
  obtain⟨gb4,sm5,hb6,oF7,oH8,ne9⟩:=b'M (o:=(.dK [])) gb hp2
  generalize upd H p1 (.dK [])=H3 at gb4 sm5 oH8 ⊢
  refine a'z ?_
  try dsimp only
  refine a's (f'P (n'J (m'S (a_c (a'W (a'c rfl ?_))))))
  obtain⟨_,_,_,_,c9,d0,d1,d2,d3,d4,d5⟩:=n'Y hg r_self
  refine⟨_,_,_,_,_,d0,gb4.s.rd d1,d2,d3,d4,?_⟩
  obtain rfl:c9=V.str self.word:=d5
  obtain⟨d6,b9,d7,d8,d9,c0,c1⟩:=l'L (F:=F) (x:=self.word) T (by exact hx)
  refine⟨_,d6,_,b9,rfl,d8,rfl,d9,?_⟩
  refine⟨_,rfl,⟨_,(Same.tup gb4.s c0)⟩,m'd (xs:=d7) (K:=K) (a:=b9) (fun i σ' H'=>Ex5 fun (a4:Hp) (c2:List (Key×V)) (a6:List (Str×Rat)) (e0:Option V) (e1:Option V)=>Cj9 (σ'=[some (v_self),some (V.ref p1),e0,e1]) (Gr0 F H a4 H') (Fz S0 a4) (Le F a4) (H' p1=some (.dK c2)) (a4 p1=none) (Dk (rFr K) a4 c2 a6) ((a6.map (·.1)).Nodup) ((a6=edgF self.nam ((shrA self.word).take i)∧a6.length≤i∧i≤2))) ?_ ?_ ?_ ?_⟩
  ·exact⟨F,_,[],_,_,rfl,gb4,cm,Le.refl _,oH8,oF7,True.intro,List.nodup_nil,by exact⟨rfl,Nat.le_refl _,Nat.zero_le _⟩⟩
  ·rintro i σ' j8 _ ⟨j9,k0,k1,k2,k3,rfl,e2,k4,e3,oH38,oF39,k5,k6,⟨q1,q2,q3⟩⟩
   exact (Same.tup e2.s (Le.tup e3 c0))
  ·rintro k7 k8 σ' k9 e4 ⟨a9,l0,b0,l1,l2,rfl,a2,b1,a3,oH54,oF55,a5,b2,⟨q1,q2,q3⟩⟩
   obtain⟨a0,a1,e5⟩:=Al.get (Al.mo a3 c1) e4
   obtain⟨l3,e6,l4,rfl,e7,e8,e9⟩:=e5
   obtain rfl:e6=V.str a0.1:=e8
   obtain⟨l5,rfl,c3⟩:=e9
   refine e'C (Same.tup a2.s e7) ?_
   try dsimp only
   have hil:=(List.getElem?_eq_some_iff.mp a1).1
   have hs1:=(s2 _ (List.mem_of_getElem? a1)).1
   refine b'd (b'V (a'B (a'f (a'W (a'c rfl ?_)))))
   obtain⟨_,_,_,_,f0,f1,f2,f3,f4,f5,f6⟩:=i'j hg (Mo.mo a3 r_self)
   refine⟨_,_,_,_,_,f1,a2.s.rd f2,f3,f4,f5,?_⟩
   obtain rfl:f0=V.str self.nam:=f6
   refine a_c (h'q (a'C ?_))
   refine b'r (fun f7=>?_) (fun f7=>?_)
   ·refine c'b ?_
    refine d'w (a'c rfl (a'c rfl (a'p (a'b (a'c rfl (a'b (a'W ?_)))))))
    refine a'c rfl ?_
    obtain⟨_,_,_,_,f8,f9,g0,g1,g2,g3,g4⟩:=i'j hg (Mo.mo a3 r_self)
    refine⟨_,_,_,_,_,f9,a2.s.rd g0,g1,g2,g3,?_⟩
    obtain rfl:f8=V.str self.nam:=g4
    refine a'g ?_
    refine⟨a9,_,_,a0.1,self.nam,rfl,a2.s,rfl,rfl,(by exact⟨by omega,hy⟩),?_⟩
    rintro g5 g6 l6  b3 g7 
    obtain⟨g8,a7,g9⟩:=gr3 a2 b1 b3
    have oH94:=b3.h _ _ oH54
    have oF95:=b3.own oF55 oH54
    obtain rfl:g5=V.str (a0.1++(" ":Str)++self.nam):=g7
    refine c'O oH94 (by rw [Dk.length (Dk.mo a7 a5)];omega) (chg g8 hb6 oF95 (fun l7 h0 oH98 l8=>?_))
    try dsimp only
    exact⟨g6,_,(ptd b0 (a0.1++(" ":Str)++self.nam) a0.2),_,_,rfl,h0,g9,(a3.trans a7),oH98,oF95,(Dk.put (x:=(a0.1++(" ":Str)++self.nam)) ⟨_,rfl,(Le.tup a7 c3)⟩ (Dk.mo a7 a5)),(d'A b2 (a0.1++(" ":Str)++self.nam) a0.2),by first | exact⟨by rw [q1];exact c'v (x:=self.word) a1 (fun z=>absurd z.1 (by assumption)),Nat.le_trans (b'G _ _ _) (by omega),by omega⟩ | exact⟨by rw [q1];exact c'v (x:=self.word) a1 (fun z=>absurd z.2 (by assumption)),Nat.le_trans (b'G _ _ _) (by omega),by omega⟩ | exact⟨by rw [q1];exact e's a1 ⟨by assumption,by assumption⟩,by omega,by omega⟩⟩
   ·refine a'B (a'f (a'c rfl (a_c ?_)))
    refine n'Q (xs:=(["left","top"]:List Str)) (.inr T.t_STARTS) ?_
    refine a'C ?_
    refine b'r (fun h1=>?_) (fun h1=>?_)
    ·refine d'w (a'c rfl (a'c rfl (a'p (a'b (a'c rfl (a'b (a'W ?_)))))))
     refine a'c rfl ?_
     obtain⟨_,_,_,_,h2,h3,h4,h5,h6,h7,h8⟩:=i'j hg (Mo.mo a3 r_self)
     refine⟨_,_,_,_,_,h3,a2.s.rd h4,h5,h6,h7,?_⟩
     obtain rfl:h2=V.str self.nam:=h8
     refine a'g ?_
     refine⟨a9,_,_,a0.1,self.nam,rfl,a2.s,rfl,rfl,(by exact⟨by omega,hy⟩),?_⟩
     rintro h9 i0 l9  b4 i1 
     obtain⟨i2,a8,i3⟩:=gr3 a2 b1 b4
     have oH118:=b4.h _ _ oH54
     have oF119:=b4.own oF55 oH54
     obtain rfl:h9=V.str (a0.1++(" ":Str)++self.nam):=i1
     refine c'O oH118 (by rw [Dk.length (Dk.mo a8 a5)];omega) (chg i2 hb6 oF119 (fun m0 i4 oH122 m1=>?_))
     try dsimp only
     exact⟨i0,_,(ptd b0 (a0.1++(" ":Str)++self.nam) a0.2),_,_,rfl,i4,i3,(a3.trans a8),oH122,oF119,(Dk.put (x:=(a0.1++(" ":Str)++self.nam)) ⟨_,rfl,(Le.tup a8 c3)⟩ (Dk.mo a8 a5)),(d'A b2 (a0.1++(" ":Str)++self.nam) a0.2),by first | exact⟨by rw [q1];exact c'v (x:=self.word) a1 (fun z=>absurd z.1 (by assumption)),Nat.le_trans (b'G _ _ _) (by omega),by omega⟩ | exact⟨by rw [q1];exact c'v (x:=self.word) a1 (fun z=>absurd z.2 (by assumption)),Nat.le_trans (b'G _ _ _) (by omega),by omega⟩ | exact⟨by rw [q1];exact e's a1 ⟨by assumption,by assumption⟩,by omega,by omega⟩⟩
    ·refine a'G ?_
     try dsimp only
     exact⟨a9,_,b0,_,_,rfl,a2,b1,a3,oH54,oF55,a5,b2,by first | exact⟨by rw [q1];exact c'v (x:=self.word) a1 (fun z=>absurd z.1 (by assumption)),Nat.le_trans (b'G _ _ _) (by omega),by omega⟩ | exact⟨by rw [q1];exact c'v (x:=self.word) a1 (fun z=>absurd z.2 (by assumption)),Nat.le_trans (b'G _ _ _) (by omega),by omega⟩ | exact⟨by rw [q1];exact e's a1 ⟨by assumption,by assumption⟩,by omega,by omega⟩⟩
  ·rintro σ' m2 ⟨i5,m3,b5,m4,m5,rfl,b6,i6,c4,oH133,oF134,i7,i8,⟨q1,q2,q3⟩⟩
   have hlen:=Al.length (Al.mo c4 c1)
   try dsimp only
   rw [hlen,List.take_length] at q1
   refine a'A (a'p (a'b (a'c rfl (a'b (a_c (a'g ?_))))))
   refine⟨i5,_,_,b5,0,rfl,b6.s,⟨_,_,rfl,oH133,oF134,i7,i8⟩,⟨_,rfl,(Le.tup c4 (.inr T.t_NOUGHT))⟩,(by omega),?_⟩
   rintro m6 c5 c6  b7 i9 
   obtain⟨c7,m7,m8,m9,rfl,j0,j1,c8,oH151,oF152,j2,j3⟩:=i9
   have j4:=b6.h.free c8
   have n0:=a'q oH133 c8
   obtain⟨j5,n1,j6⟩:=gr3 b6 i6 b7
   have oH160:=b7.h _ _ oH133
   have oF161:=b7.own oF134 oH133
   obtain⟨n2,rfl,j7⟩:=j1
   have hval:(((nz b5,0)):((List (Str×Rat))×Rat))=(wor self):=by rw [hw,q1]
   have b8:ownS K c5 H c6 (V.ref c7) (((nz b5,0))):=⟨_,_,_,_,rfl,j0,⟨_,rfl,j7⟩,j4,oH151,oF152,j2,j3⟩
   replace b8:=Eq.mp (congrArg (ownS K c5 H c6 (V.ref c7)) hval) b8
   exact k _ _ _ (Gr.of0 j5 j6) b8
theorem g'x (T:Tx w K mg) (m:Nat) (ih:∀ C g,DT T C g→MOk P w K mg base CX0 (m+9) "worth" C (spV T m g)):FnOk P w K mg base CX0 (m+10) T.a_Times_worth T.d_Times_worth ["self"] (spV T (m+1) 2):=by
 refine T.F_Times_worth.ok d'E (fun vs H Q E h=>?_) (fun cdv A outer s H vs Q E hr h=>?_)
 ·obtain⟨F,v_self,self,rfl,_⟩:=h
  rfl
 ·obtain⟨F,v_self,self,rfl,wd,cm,r_self,hpre,k⟩:=h
  have hu:=a'M hr
  have gb:=Gr0.refl wd
  obtain⟨hg,hd,ho,hb,hn⟩:=hpre
  refine⟨_,(a'i (a'r (a'l ((g'W T).mono (by omega)) hr rfl T.m_scaled T.F_scaled.kp T.b_scaled .nil a'j (a'a (a'D (a'H (pv 0) rfl) (fun C g h=>(ih C g h).mono (by omega)) hr a'j) (a'a (a'H (pv 0) rfl) a'e))))),?_⟩
  obtain⟨p1,p2,hw⟩:=k'T hg hd ho hb hn
  have W:=a'X _ p1.2.2.1
  refine a'A (a'p (a'b (a'O (a'W (a'c rfl ?_)))))
  obtain⟨_,_,_,_,v1,ev2,rd3,cl4,na5,lk6,h7⟩:=m'X hg r_self
  refine⟨_,_,_,_,_,ev2,gb.s.rd rd3,cl4,na5,lk6,?_⟩
  obtain⟨_,_,_,_,ev8,rd9,a8,a9⟩:=b'U h7
  refine⟨_,_,_,_,_,ev8,gb.s.rd rd9,a8,a9,?_⟩
  refine⟨F,_,self.inner,rfl,gb.s,cm,h7,(by exact p1),?_⟩
  rintro e2 e3 e4  b0 b1 
  obtain⟨e5,e6,e7,e8,rfl,b2,b3,b4,oH26,oF27,b5,b6⟩:=b1
  have b7:=gb.h.free b4
  obtain⟨a3,b8,b9⟩:=gr3 gb cm b0
  obtain⟨e9,rfl,c0⟩:=b3
  refine a'b (a'W (a'c rfl ?_))
  obtain⟨_,_,_,_,f0,c1,c2,c3,c4,c5,c6⟩:=n'X hg (Mo.mo b8 r_self)
  refine⟨_,_,_,_,_,c1,a3.s.rd c2,c3,c4,c5,?_⟩
  obtain⟨f1,rfl,c7⟩:=c6
  refine a'g ?_
  obtain⟨c8,a1,a4,c9,d0,f2⟩:=frz a3 b9 b7 oF27 oH26 (by intro _ _ z;cases z)
  have a0:=Le.of c9
  refine⟨c8,_,_,(wor self.inner),self.q,800,rfl,a1.s,a4,⟨_,_,_,rfl,(Le.tup a0 b2),⟨_,_,rfl,(Rd.of d0),(Dk.mo a0 b5),b6⟩,⟨_,rfl,(Le.tup a0 c0)⟩⟩,⟨_,rfl,(Le.tup a0 c7)⟩,(by exact⟨Nat.le_trans W.ln p1.2.2.2.2,fun x q e=>Nat.le_trans (W.pt x q e) p1.2.2.2.1,Nat.le_trans W.rs p1.2.2.2.1,p2,by decide⟩),?_⟩
  rintro f3 a5 a6  d1 d2 
  obtain⟨a7,f4,f5,f6,rfl,d3,d4,d5,oH65,oF66,d6,d7⟩:=d2
  have d8:=a1.h.free d5
  obtain⟨d9,f7,e0⟩:=gr3 a1 a4 d1
  obtain⟨f8,rfl,e1⟩:=d4
  have hval:(((nz (sc ((wor self.inner)).1 self.q),((wor self.inner)).2*self.q)):((List (Str×Rat))×Rat))=(wor self):=by exact hw.symm
  have a2:ownS K a5 H a6 (V.ref a7) (((nz (sc ((wor self.inner)).1 self.q),((wor self.inner)).2*self.q))):=⟨_,_,_,_,rfl,d3,⟨_,rfl,e1⟩,d8,oH65,oF66,d6,d7⟩
  replace a2:=Eq.mp (congrArg (ownS K a5 H a6 (V.ref a7)) hval) a2
  exact k _ _ _ (Gr.of0 d9 e0) a2
theorem h'l (T:Tx w K mg) (m:Nat) (ih:∀ C g,DT T C g→MOk P w K mg base CX0 (m+9) "worth" C (spV T m g)):FnOk P w K mg base CX0 (m+10) T.a_Plus_worth T.d_Plus_worth ["self"] (spV T (m+1) 3):=by
 refine T.F_Plus_worth.ok e'b (fun vs H Q E h=>?_) (fun cdv A outer s H vs Q E hr h=>?_)
 ·obtain⟨F,v_self,self,rfl,_⟩:=h
  rfl
 ·obtain⟨F,v_self,self,rfl,wd,cm,r_self,hpre,k⟩:=h
  have hu:=a'M hr
  have gb:=Gr0.refl wd
  obtain⟨hg,hd,ho,hb,hn⟩:=hpre
  refine⟨_,(a'i (a'r (a'l ((i'h T).mono (by omega)) hr rfl T.m_added T.F_added.kp T.b_added .nil a'j (a'a (a'D (a'H (pv 0) rfl) (fun C g h=>(ih C g h).mono (by omega)) hr a'j) (a'a (a'D (a'H (pv 0) rfl) (fun C g h=>(ih C g h).mono (by omega)) hr a'j) a'e))))),?_⟩
  obtain⟨p1,p2,p3,hw⟩:=l'M hg hd ho hb hn
  have W:=a'X _ p1.2.2.1
  have U:=a'X _ p2.2.2.1
  refine a'A (a'p (a'b (a'O (a'W (a'c rfl ?_)))))
  obtain⟨_,_,_,_,v1,ev2,rd3,cl4,na5,lk6,h7⟩:=n'Z hg r_self
  refine⟨_,_,_,_,_,ev2,gb.s.rd rd3,cl4,na5,lk6,?_⟩
  obtain⟨_,_,_,_,ev8,rd9,b4,b5⟩:=b'U h7
  refine⟨_,_,_,_,_,ev8,gb.s.rd rd9,b4,b5,?_⟩
  refine⟨F,_,self.one,rfl,gb.s,cm,h7,(by exact p1),?_⟩
  rintro g5 b6 g6  b7 b8 
  obtain⟨g7,g8,g9,h0,rfl,b9,c0,c1,oH26,oF27,c2,c3⟩:=b8
  have c4:=gb.h.free c1
  obtain⟨a2,c5,a7⟩:=gr3 gb cm b7
  obtain⟨h1,rfl,c6⟩:=c0
  refine a'b (a'O (a'W (a'c rfl ?_)))
  obtain⟨_,_,_,_,h2,c7,c8,c9,d0,d1,a8⟩:=o'a hg (Mo.mo c5 r_self)
  refine⟨_,_,_,_,_,c7,a2.s.rd c8,c9,d0,d1,?_⟩
  obtain⟨_,_,_,_,d2,d3,d4,d5⟩:=b'U a8
  refine⟨_,_,_,_,_,d2,a2.s.rd d3,d4,d5,?_⟩
  refine⟨b6,_,self.other,rfl,a2.s,a7,a8,(by exact p2),?_⟩
  rintro h3 h4 h5  a3 d6 
  obtain⟨h6,h8,h9,i0,rfl,d7,d8,a9,oH61,oF62,d9,e0⟩:=d6
  have e1:=a2.h.free a9
  have e2:=a'q oH26 a9
  obtain⟨e3,a4,e4⟩:=gr3 a2 a7 a3
  have oH70:=a3.h _ _ oH26
  have oF71:=a3.own oF27 oH26
  obtain⟨i1,rfl,e5⟩:=d8
  refine a'g ?_
  obtain⟨i2,e6,e7,e8,e9,f0⟩:=frz e3 e4 c4 oF71 oH70 (by intro _ _ z;cases z)
  have a1:=Le.of e8
  have oF80:=(f0 _ (Ne.symm e2)).trans oF62
  obtain⟨f1,a5,b0,f2,f3,i3⟩:=frz e6 e7 e1 oF80 oH61 (by intro _ _ z;cases z)
  have a0:=Le.of f2
  refine⟨f1,_,_,(wor self.one),(wor self.other),800,rfl,a5.s,b0,⟨_,_,_,rfl,(Le.tup ((a4.trans a1).trans a0) b9),⟨_,_,rfl,(Le.dic a0 (Rd.of e9)),(Dk.mo a0 (Dk.mo (a4.trans a1) c2)),c3⟩,⟨_,rfl,(Le.tup ((a4.trans a1).trans a0) c6)⟩⟩,⟨_,_,_,rfl,(Le.tup (a1.trans a0) d7),⟨_,_,rfl,(Rd.of f3),(Dk.mo (a1.trans a0) d9),e0⟩,⟨_,rfl,(Le.tup (a1.trans a0) e5)⟩⟩,(by exact⟨Nat.le_trans (Nat.add_le_add W.ln U.ln) p3,by decide,fun x q e=>Nat.le_trans (W.pt x q e) p1.2.2.2.1,fun x q e=>Nat.le_trans (U.pt x q e) p2.2.2.2.1,Nat.le_trans W.rs p1.2.2.2.1,Nat.le_trans U.rs p2.2.2.2.1,by decide⟩),?_⟩
  rintro i4 b1 b2  f4 f5 
  obtain⟨b3,i5,i6,i7,rfl,f6,f7,f8,oH101,oF102,f9,g0⟩:=f5
  have g1:=a5.h.free f8
  obtain⟨g2,i8,g3⟩:=gr3 a5 b0 f4
  obtain⟨i9,rfl,g4⟩:=f7
  have hval:(((nz (addM ((wor self.one)).1 ((wor self.other)).1),((wor self.one)).2+((wor self.other)).2)):((List (Str×Rat))×Rat))=(wor self):=by exact hw.symm
  have a6:ownS K b1 H b2 (V.ref b3) (((nz (addM ((wor self.one)).1 ((wor self.other)).1),((wor self.one)).2+((wor self.other)).2))):=⟨_,_,_,_,rfl,f6,⟨_,rfl,g4⟩,g1,oH101,oF102,f9,g0⟩
  replace a6:=Eq.mp (congrArg (ownS K b1 H b2 (V.ref b3)) hval) a6
  exact k _ _ _ (Gr.of0 g2 g3) a6
theorem g'y (T:Tx w K mg) (m:Nat) (ih:∀ C g,DT T C g→MOk P w K mg base CX0 (m+9) "worth" C (spV T m g)):FnOk P w K mg base CX0 (m+10) T.a_Minus_worth T.d_Minus_worth ["self"] (spV T (m+1) 4):=by
 refine T.F_Minus_worth.ok d'G (fun vs H Q E h=>?_) (fun cdv A outer s H vs Q E hr h=>?_)
 ·obtain⟨F,v_self,self,rfl,_⟩:=h
  rfl
 ·obtain⟨F,v_self,self,rfl,wd,cm,r_self,hpre,k⟩:=h
  have hu:=a'M hr
  have gb:=Gr0.refl wd
  obtain⟨hg,hd,ho,hb,hn⟩:=hpre
  refine⟨_,(a'i (a'r (a'l ((f'X T).mono (by omega)) hr rfl T.m_reduced T.F_reduced.kp T.b_reduced .nil a'j (a'a (a'D (a'H (pv 0) rfl) (fun C g h=>(ih C g h).mono (by omega)) hr a'j) (a'a (a'D (a'H (pv 0) rfl) (fun C g h=>(ih C g h).mono (by omega)) hr a'j) a'e))))),?_⟩
  obtain⟨p1,p2,p3,hw⟩:=l'N hg hd ho hb hn
  have W:=a'X _ p1.2.2.1
  have U:=a'X _ p2.2.2.1
  refine a'A (a'p (a'b (a'O (a'W (a'c rfl ?_)))))
  obtain⟨_,_,_,_,v1,ev2,rd3,cl4,na5,lk6,h7⟩:=o'b hg r_self
  refine⟨_,_,_,_,_,ev2,gb.s.rd rd3,cl4,na5,lk6,?_⟩
  obtain⟨_,_,_,_,ev8,rd9,b4,b5⟩:=b'U h7
  refine⟨_,_,_,_,_,ev8,gb.s.rd rd9,b4,b5,?_⟩
  refine⟨F,_,self.one,rfl,gb.s,cm,h7,(by exact p1),?_⟩
  rintro g5 b6 g6  b7 b8 
  obtain⟨g7,g8,g9,h0,rfl,b9,c0,c1,oH26,oF27,c2,c3⟩:=b8
  have c4:=gb.h.free c1
  obtain⟨a2,c5,a7⟩:=gr3 gb cm b7
  obtain⟨h1,rfl,c6⟩:=c0
  refine a'b (a'O (a'W (a'c rfl ?_)))
  obtain⟨_,_,_,_,h2,c7,c8,c9,d0,d1,a8⟩:=o'c hg (Mo.mo c5 r_self)
  refine⟨_,_,_,_,_,c7,a2.s.rd c8,c9,d0,d1,?_⟩
  obtain⟨_,_,_,_,d2,d3,d4,d5⟩:=b'U a8
  refine⟨_,_,_,_,_,d2,a2.s.rd d3,d4,d5,?_⟩
  refine⟨b6,_,self.other,rfl,a2.s,a7,a8,(by exact p2),?_⟩
  rintro h3 h4 h5  a3 d6 
  obtain⟨h6,h8,h9,i0,rfl,d7,d8,a9,oH61,oF62,d9,e0⟩:=d6
  have e1:=a2.h.free a9
  have e2:=a'q oH26 a9
  obtain⟨e3,a4,e4⟩:=gr3 a2 a7 a3
  have oH70:=a3.h _ _ oH26
  have oF71:=a3.own oF27 oH26
  obtain⟨i1,rfl,e5⟩:=d8
  refine a'g ?_
  obtain⟨i2,e6,e7,e8,e9,f0⟩:=frz e3 e4 c4 oF71 oH70 (by intro _ _ z;cases z)
  have a1:=Le.of e8
  have oF80:=(f0 _ (Ne.symm e2)).trans oF62
  obtain⟨f1,a5,b0,f2,f3,i3⟩:=frz e6 e7 e1 oF80 oH61 (by intro _ _ z;cases z)
  have a0:=Le.of f2
  refine⟨f1,_,_,(wor self.one),(wor self.other),800,rfl,a5.s,b0,⟨_,_,_,rfl,(Le.tup ((a4.trans a1).trans a0) b9),⟨_,_,rfl,(Le.dic a0 (Rd.of e9)),(Dk.mo a0 (Dk.mo (a4.trans a1) c2)),c3⟩,⟨_,rfl,(Le.tup ((a4.trans a1).trans a0) c6)⟩⟩,⟨_,_,_,rfl,(Le.tup (a1.trans a0) d7),⟨_,_,rfl,(Rd.of f3),(Dk.mo (a1.trans a0) d9),e0⟩,⟨_,rfl,(Le.tup (a1.trans a0) e5)⟩⟩,(by exact⟨Nat.le_trans (Nat.add_le_add W.ln U.ln) p3,by decide,fun x q e=>Nat.le_trans (W.pt x q e) p1.2.2.2.1,fun x q e=>Nat.le_trans (U.pt x q e) p2.2.2.2.1,Nat.le_trans W.rs p1.2.2.2.1,Nat.le_trans U.rs p2.2.2.2.1,by decide⟩),?_⟩
  rintro i4 b1 b2  f4 f5 
  obtain⟨b3,i5,i6,i7,rfl,f6,f7,f8,oH101,oF102,f9,g0⟩:=f5
  have g1:=a5.h.free f8
  obtain⟨g2,i8,g3⟩:=gr3 a5 b0 f4
  obtain⟨i9,rfl,g4⟩:=f7
  have hval:(((nz (addM ((wor self.one)).1 (nz (sc ((wor self.other)).1 (-1)))),((wor self.one)).2+((wor self.other)).2*(-1))):((List (Str×Rat))×Rat))=(wor self):=by exact hw.symm
  have a6:ownS K b1 H b2 (V.ref b3) (((nz (addM ((wor self.one)).1 (nz (sc ((wor self.other)).1 (-1)))),((wor self.one)).2+((wor self.other)).2*(-1)))):=⟨_,_,_,_,rfl,f6,⟨_,rfl,g4⟩,g1,oH101,oF102,f9,g0⟩
  replace a6:=Eq.mp (congrArg (ownS K b1 H b2 (V.ref b3)) hval) a6
  exact k _ _ _ (Gr.of0 g2 g3) a6
theorem f't {T:Tx w K mg} {C:String} {a:Addr} {d:FuncData} {g:Nat} (hg:2≤g) {st:Stmt} (F:Fun K "worth" C st a d) {N:List Str} (S:FnScope N ["self"] (defScope st)):FnOk P w K mg base CX0 1 a d ["self"] (spV T 0 g):=by
  have no:∀ {vs:List V} {H:Hp} {Q:VK} {E:XK},spV T 0 g vs H Q E→False:=fun h=>by
    obtain⟨F,v,t,rfl,wd,cm,ht,⟨hg',hd,_⟩,_⟩:=h
    cases t with
    | num _=>have:0=g:=hg';omega
    | edge _ _=>have:1=g:=hg';omega
    | times _ _=>exact absurd hd (Nat.not_succ_le_zero _)
    | plus _ _=>exact absurd hd (Nat.not_succ_le_zero _)
    | minus _ _=>exact absurd hd (Nat.not_succ_le_zero _)
  exact F.ok S (fun vs H Q E h=>(no h).elim) (fun cdv A outer s H vs Q E hr h=>(no h).elim)
theorem b'm (T:Tx w K mg):∀ (n:Nat) (C:Addr) (g:Nat),DT T C g→MOk P w K mg base CX0 (n+9) "worth" C (spV T n g)
  | n, _, _, .inl ⟨rfl, rfl⟩ => ⟨T.cl_Number, _, _, T.mt_Number_worth, (f'Y T n).mono (by omega), T.b_Number_worth⟩
  | n, _, _, .inr (.inl ⟨rfl, rfl⟩) => ⟨T.cl_Edge, _, _, T.mt_Edge_worth, (h'k T n).mono (by omega), T.b_Edge_worth⟩
  | 0, _, _, .inr (.inr (.inl ⟨rfl, rfl⟩)) => ⟨T.cl_Times, _, _, T.mt_Times_worth, (f't (by decide) T.F_Times_worth d'E).mono (by omega), T.b_Times_worth⟩
  | 0, _, _, .inr (.inr (.inr (.inl ⟨rfl, rfl⟩))) => ⟨T.cl_Plus, _, _, T.mt_Plus_worth, (f't (by decide) T.F_Plus_worth e'b).mono (by omega), T.b_Plus_worth⟩
  | 0, _, _, .inr (.inr (.inr (.inr ⟨rfl, rfl⟩))) => ⟨T.cl_Minus, _, _, T.mt_Minus_worth, (f't (by decide) T.F_Minus_worth d'G).mono (by omega), T.b_Minus_worth⟩
  | m + 1, _, _, .inr (.inr (.inl ⟨rfl, rfl⟩)) => ⟨T.cl_Times, _, _, T.mt_Times_worth, (g'x T m (b'm T m)).mono (by omega), T.b_Times_worth⟩
  | m + 1, _, _, .inr (.inr (.inr (.inl ⟨rfl, rfl⟩))) => ⟨T.cl_Plus, _, _, T.mt_Plus_worth, (h'l T m (b'm T m)).mono (by omega), T.b_Plus_worth⟩
  | m + 1, _, _, .inr (.inr (.inr (.inr ⟨rfl, rfl⟩))) => ⟨T.cl_Minus, _, _, T.mt_Minus_worth, (g'y T m (b'm T m)).mono (by omega), T.b_Minus_worth⟩
def plc (pl:FL Str) (x:Str):Rat:=(gt pl x).getD 0
theorem k'U {pl:FL Str} {x:Str} {y:Rat} (h:gt pl x=some y):plc pl x=y:=by unfold plc;rw [h];rfl
def misd (kd:Str) (d:Rat):Rat:=if d<0∧kd≠"most" then 0 - d else if 0<d∧kd≠"least" then d else 0
/-- parts that can be reckoned with at a placing -/
structure MPre (m:FL Str) (r:Rat) (pl:FL Str):Prop where
  keys:∀ x q,gt m x=some q→∃ y,gt pl x=some y
  parts:∀ x q,gt m x=some q→bs q≤1500
  plb:∀ x q,gt pl x=some q→bs q≤300
  sums:∀ i,bs (run (plc pl) r (List.take i m))≤1800
noncomputable def rowW (t:Tm×Tm×Str×Int×Int):List (Str×Rat)×Str×Rat×Int×Int:=(nz (addM (wor t.1).1 (nz (sc (wor t.2.1).1 (-1)))),t.2.2.1,0 - ((wor t.1).2+(wor t.2.1).2*(-1)),t.2.2.2.1,t.2.2.2.2)
def WPre (t:Tm×Tm×Str×Int×Int):Prop:=Pre 13 t.1∧Pre 13 t.2.1∧nl t.1+nl t.2.1≤100
theorem f'u {t:Tm×Tm×Str×Int×Int} (h:WPre t):(wor t.1).1.length+(wor t.2.1).1.length≤100∧1≤800∧(∀ x q,gt (wor t.1).1 x=some q→bs q≤800)∧(∀ x q,gt (wor t.2.1).1 x=some q→bs q≤800)∧bs (wor t.1).2≤800∧bs (wor t.2.1).2≤800∧800≤900:=by
  obtain⟨p1,p2,p3⟩:=h
  have W:=a'X _ p1.2.2.1
  have U:=a'X _ p2.2.2.1
  exact⟨Nat.le_trans (Nat.add_le_add W.ln U.ln) p3,by decide,fun x q e=>Nat.le_trans (W.pt x q e) p1.2.2.2.1,fun x q e=>Nat.le_trans (U.pt x q e) p2.2.2.2.1,Nat.le_trans W.rs p1.2.2.2.1,Nat.le_trans U.rs p2.2.2.2.1,by decide⟩
theorem j'c {t:Tm×Tm×Str×Int×Int} (h:WPre t):bs ((wor t.1).2+(wor t.2.1).2*(-1))≤1700:=by
  obtain⟨_,_,_,_,r1,r2,_⟩:=f'u h
  have e:=c'F (wor t.2.1).2 (-1)
  rw [e'L] at e
  exact Nat.le_trans (c'Z _ _) (by omega)
def sp_value_at (K:PySem.W.Frag):Sp:=fun vs H Q _=>Ex5 fun (F:Hp) (v_one:V) (v_placing:V) (one:((List (Str×Rat))×Rat)) (placing:(List (Str×Rat)))=>Cj7 (vs=[v_one,v_placing]) (Same F H) (Fz S0 F) ((r2 K (rD (rFr K)) (rFr K)) F v_one one) ((rD (rFr K)) F v_placing placing) (MPre one.1 one.2 placing) (∀ (v:V) (F' H':Hp),Gr F H F' H'→(rFr K) F' v (one.2+val one.1 (plc placing))→(bs (one.2+val one.1 (plc placing))≤1800)→Q v H')
theorem i'z (T:Tx w K mg):FnOk P w K mg base CX0 4 T.a_value_at T.d_value_at ["one","placing"] (sp_value_at K):=by
 refine T.F_value_at.ok sc_value_at (fun vs H Q E h=>?_) (fun cdv A outer s H vs Q E hr h=>?_)
 ·obtain⟨F,v_one,v_placing,one,placing,rfl,_⟩:=h
  rfl
 ·obtain⟨F,v_one,v_placing,one,placing,rfl,wd,cm,r_one,r_placing,hpre,k⟩:=h
  have hu:=a'M hr
  have gb:=Gr0.refl wd
  obtain⟨a1,v3,v4,rfl,sq2,h5,h6⟩:=r_one
  obtain⟨a7,kvs8,rfl,rd9,c9,d0⟩:=h5
  obtain⟨i3,rfl,d1⟩:=h6
  obtain⟨d2,i4,rfl,d3,d4,i5⟩:=r_placing
  obtain⟨hall,hm1,hm2,hm3⟩:=hpre
  refine⟨_,(@a'h _ _ _ _ _ (a'w (i:=2) sc_value_at.nd rfl (Or.inl rfl) (a'm a'k (pv 0) a'd (fun _ _=>rfl)))
     (@a'h _ _ _ _ _ (d'u PassesOwn.never rfl (a'm a'k (pv 0) a'd (fun _ _=>rfl)) (b'K rfl (a'J (a'K (i:=3) sc_value_at.nd rfl (Or.inl rfl)) (a'J (a'K (i:=4) sc_value_at.nd rfl (Or.inl rfl)) b't))) (a'i (a'w (i:=2) sc_value_at.nd rfl (Or.inl rfl) (a'l ((g't T).mono (by decide)) hr rfl T.m_plus T.F_plus.kp T.b_plus .nil a'j (a'a (pv 2) (a'a (a'l ((f'p T).mono (by decide)) hr rfl T.m_times T.F_times.kp T.b_times .nil a'j (a'a (pv 4) (a'a (i'F hu (pv 1) (pv 3) (fun _ _=>rfl)) a'e))) a'e))))))
     (a'i (a'r (pv 2))))),?_⟩
  refine a's (a'E (a'f (a'c rfl (a_c ?_))))
  refine a'o (Same.tup gb.s sq2) rfl ?_
  refine a'z ?_
  try dsimp only
  refine a's (e'k (a'f (a'c rfl (a_c ?_))))
  refine a'o (Same.tup gb.s sq2) rfl ?_
  have b5:=d'y cm rd9
  have b6:H a7=some (.dK kvs8):=gb.s _ _ b5
  have b7:F a7=none∨F a7=some (.dK kvs8):=.inr b5
  have b2:=c9
  have hnd:=d0
  have hdl:=Dk.length b2
  refine⟨_,kvs8,rfl,b6,fun a0 d5=>?_⟩
  have d6:=e'G (a:=a7) (.frz a0 (.dK kvs8)) gb
  have d7:=e'I (a:=a7) (z:=(.frz a0 (.dK kvs8))) cm
  have b8:=e'H (ob:=a0) b7
  refine c'C (a:=a7) (ob:=a0) (kvs:=kvs8) (fun i σ' H'=>Ex5 fun (a4:Hp) (v_total29:V) (b9:Rat) (d8:Option V) (d9:Option V)=>Cj8 (σ'=[some (V.ref a1),some (V.ref d2),some v_total29,d8,d9]) (Gr0 (fz F a7 (.frz a0 (.dK kvs8))) (fz H a7 (.frz a0 (.dK kvs8))) a4 H') (Fz (fun b=>b=a7∨S0 b) a4) (Le F a4) ((rFr K) a4 v_total29 b9) (a4 a7=fz F a7 (.frz a0 (.dK kvs8)) a7) (H' a7=some (.frz a0 (.dK kvs8))) ((b9=run (plc placing) one.2 (List.take i one.1)))) ?_ ?_ ?_ ?_
  ·exact⟨(fz F a7 (.frz a0 (.dK kvs8))),_,one.2,_,_,rfl,d6,d7,b8,⟨_,rfl,(Le.tup b8 d1)⟩,rfl,a'v,by rfl⟩
  ·rintro i σ' i6 _ ⟨i7,v_total37,i8,i9,j0,rfl,j1,j2,j3,j4,j5,e1,i1⟩
   exact e1
  ·rintro j6 j7 j8 σ' j9 k0 e2 ⟨k1,v_total53,a3,k2,k3,rfl,c0,e3,a8,e4,e5,c1,i1⟩ e6
   obtain⟨k4,rfl,e7⟩:=e4
   obtain⟨k5,a2,c2,rfl,e8⟩:=Dk.get (Dk.mo a8 b2) e2
   obtain⟨k6,rfl,e9⟩:=e8
   refine it2 (K:=K) c0.s e6 (fun k7 f0 b3 k8=>?_)
   obtain⟨a5,a6,f1⟩:=gr3 c0 e3 b3
   have c3:=b3.h _ _ c1
   have f2:=b3.at c1 e5
   try dsimp only
   have hgt:=c'h hnd (List.mem_of_getElem? c2)
   obtain⟨y,hy⟩:=hall _ _ hgt
   have hb1:=hm1 _ _ hgt
   have hb2:=hm2 _ _ hy
   have hb3:bs a3≤1800:=by rw [i1];exact hm3 _
   refine a'E (a'p (a'b (a'c rfl (a'b (a'p (a'b (a'c rfl ?_)))))))
   refine a'b (k'i (a'c rfl (a'c rfl ?_)))
   obtain⟨k9,f3,f4⟩:=Dk.some (Dk.mo (a8.trans a6) d4) hy
   refine i'J (Same.rd a5.s (Le.dic (a8.trans a6) d3)) f3 ?_
   obtain⟨l0,rfl,f5⟩:=f4
   refine a'g ?_
   refine⟨_,_,a2,y,rfl,(Same.tup a5.s (Le.tup a6 e9)),(Same.tup a5.s f5),a'Z (by walk_at "o"),a'Z (by walk_at "o"),fun f6 f7=>?_⟩
   obtain⟨l1,a9,f8⟩:=al2 (o:=(.tup (fr (a2*y)))) a5.s (by intro _ _ z;cases z) f7
   generalize upd f0 f6 (.tup (fr (a2*y)))=f9 at a9 ⊢
   obtain⟨b0,c4,g0⟩:=gr3 a5 f1 a9
   have c5:=a9.h _ _ c3
   have g1:=a9.at c3 f2
   have l2:=c'F a2 y
   refine a'g ?_
   refine⟨_,_,a3,(a2*y),rfl,(Same.tup b0.s (Le.tup (a6.trans c4) e7)),(Same.tup b0.s (SqT.of f8)),a'Z (by walk_at "o"),a'Z (by walk_at "o"),fun g2 g3=>?_⟩
   obtain⟨g4,b1,g5⟩:=al2 (o:=(.tup (fr (a3+(a2*y))))) b0.s (by intro _ _ z;cases z) g3
   generalize upd f9 g2 (.tup (fr (a3+(a2*y))))=l3 at b1 ⊢
   obtain⟨g6,g7,g8⟩:=gr3 b0 g0 b1
   have g9:=b1.h _ _ c5
   have h0:=b1.at c5 g1
   have l4:=c'Z a3 (a2*y)
   refine a'z ?_
   try dsimp only
   exact⟨g4,_,(a3+(a2*y)),_,_,rfl,g6,g8,(((a8.trans a6).trans c4).trans g7),⟨_,rfl,(SqT.of g5)⟩,h0,g9,by rw [f'j c2,← i1,k'U hy]⟩
  ·rintro σ' l5 ⟨l6,v_total112,c6,l7,l8,rfl,h1,h2,l9,h3,h4,h7,i1⟩
   obtain⟨c7,rfl,h8⟩:=h3
   rw [Dk.length b2] at i1
   refine⟨a7,a0,kvs8,h7,d5,?_⟩
   refine thw gb b6 b7 h1 h4 h2 (fun c8 m0 h9 i0 i2 m1 m2 nF127 nH128=>?_)
   try dsimp only
   have e0:=hm3 one.1.length
   have e:List.take one.1.length one.1=one.1:=List.take_length
   rw [e,e'n] at e0
   rw [e,e'n] at i1
   refine a'A (a'c rfl ?_)
   have hval:(c6:Rat)=(one.2+val one.1 (plc placing)):=by exact i1
   have b4:(rFr K) c8 (V.ref c7) (c6):=⟨_,rfl,(Le.tup i2 h8)⟩
   replace b4:=Eq.mp (congrArg ((rFr K) c8 (V.ref c7)) hval) b4
   exact k _ _ _ (Gr.of0 h9 i0) b4 (by exact e0)
def sp_sum_at (K:PySem.W.Frag):Sp:=fun vs H Q _=>Ex5 fun (F:Hp) (v_one:V) (v_placing:V) (one:((List (Str×Rat))×Str×Rat×Int×Int)) (placing:(List (Str×Rat)))=>Cj7 (vs=[v_one,v_placing]) (Same F H) (Fz S0 F) ((r5 K (rD (rFr K)) rS (rFr K) rI rI) F v_one one) ((rD (rFr K)) F v_placing placing) (MPre one.1 0 placing) (∀ (v:V) (F' H':Hp),Gr F H F' H'→(rFr K) F' v (val one.1 (plc placing))→(bs (val one.1 (plc placing))≤1800)→Q v H')
theorem k'V (T:Tx w K mg):FnOk P w K mg base CX0 5 T.a_sum_at T.d_sum_at ["one","placing"] (sp_sum_at K):=by
 refine T.F_sum_at.ok k'R (fun vs H Q E h=>?_) (fun cdv A outer s H vs Q E hr h=>?_)
 ·obtain⟨F,v_one,v_placing,one,placing,rfl,_⟩:=h
  rfl
 ·obtain⟨F,v_one,v_placing,one,placing,rfl,wd,cm,r_one,r_placing,hpre,k⟩:=h
  have hu:=a'M hr
  have gb:=Gr0.refl wd
  obtain⟨a1,v3,v4,v5,v6,v7,rfl,sq2,h8,h9,b0,b1,b2⟩:=r_one
  obtain⟨a3,c8,rfl,b3,b4,b5⟩:=h8
  obtain rfl:v4=V.str one.2.1:=h9
  obtain⟨c9,rfl,d0⟩:=b0
  obtain rfl:v6=V.int one.2.2.2.1:=b1
  obtain rfl:v7=V.int one.2.2.2.2:=b2
  obtain⟨d1,d2,rfl,b6,b7,b8⟩:=r_placing
  refine⟨_,(a'i (a'r (a'l ((i'z T).mono (by decide)) hr rfl T.m_value_at T.F_value_at.kp T.b_value_at .nil a'j (a'a (b'L (a'a (a'm a'k (pv 0) a'd (fun _ _=>rfl)) (a'a (b'a (v:=.ref T.c_NOUGHT) rfl T.m_NOUGHT rfl) a'e))) (a'a (pv 1) a'e))))),?_⟩
  refine a'A (a'p (a'b (b'C (a'b (a'f (a'c rfl (a_c ?_)))))))
  refine a'o (Same.tup gb.s sq2) rfl ?_
  refine a'b (a_c (a'g ?_))
  refine⟨by show 2≤sizeLine;decide,fun b9 c0=>?_⟩
  obtain⟨c1,a4,c2⟩:=al2 (o:=(.tup [V.ref a3,V.ref T.c_NOUGHT])) gb.s (by intro _ _ z;cases z) c0
  generalize upd H b9 (.tup [V.ref a3,V.ref T.c_NOUGHT])=d3 at a4 ⊢
  obtain⟨a5,a0,a6⟩:=gr3 gb cm a4
  refine a'b (a'c rfl (a'g ?_))
  refine⟨c1,_,_,(one.1,0),placing,rfl,a5.s,a6,⟨_,_,_,rfl,(SqT.of c2),⟨_,_,rfl,(Le.dic a0 b3),(Dk.mo a0 b4),b5⟩,⟨_,rfl,(Le.tup a0 (.inr T.t_NOUGHT))⟩⟩,⟨_,_,rfl,(Le.dic a0 b6),(Dk.mo a0 b7),b8⟩,(by exact hpre),?_⟩
  rintro d4 a7 d5  c3 c4 a8
  obtain⟨c5,d6,c6⟩:=gr3 a5 a6 c3
  obtain⟨a9,rfl,c7⟩:=c4
  have hval:((((one.1,0)).2+val ((one.1,0)).1 (plc placing)):Rat)=(val one.1 (plc placing)):=by exact Rat.zero_add _
  have a2:(rFr K) a7 (V.ref a9) ((((one.1,0)).2+val ((one.1,0)).1 (plc placing))):=⟨_,rfl,c7⟩
  replace a2:=Eq.mp (congrArg ((rFr K) a7 (V.ref a9)) hval) a2
  exact k _ _ _ (Gr.of0 c5 c6) a2 (by rw [Rat.zero_add] at a8;exact a8)
def sp_missed (K:PySem.W.Frag):Sp:=fun vs H Q _=>Ex5 fun (F:Hp) (v_one:V) (v_placing:V) (one:((List (Str×Rat))×Str×Rat×Int×Int)) (placing:(List (Str×Rat)))=>Cj7 (vs=[v_one,v_placing]) (Same F H) (Fz S0 F) ((r5 K (rD (rFr K)) rS (rFr K) rI rI) F v_one one) ((rD (rFr K)) F v_placing placing) (MPre one.1 0 placing∧bs one.2.2.1≤1800) (∀ (v:V) (F' H':Hp),Gr F H F' H'→(rFr K) F' v (misd one.2.1 (val one.1 (plc placing) - one.2.2.1))→(bs (misd one.2.1 (val one.1 (plc placing) - one.2.2.1))≤3700)→Q v H')
theorem k'W (T:Tx w K mg):FnOk P w K mg base CX0 6 T.a_missed T.d_missed ["one","placing"] (sp_missed K):=by
 refine T.F_missed.ok sc_missed (fun vs H Q E h=>?_) (fun cdv A outer s H vs Q E hr h=>?_)
 ·obtain⟨F,v_one,v_placing,one,placing,rfl,_⟩:=h
  rfl
 ·obtain⟨F,v_one,v_placing,one,placing,rfl,wd,cm,r_one,r_placing,hpre,k⟩:=h
  have hu:=a'M hr
  have gb:=Gr0.refl wd
  obtain⟨a1,v3,v4,v5,v6,v7,rfl,sq2,h8,h9,c0,c1,c2⟩:=r_one
  obtain⟨e5,e6,rfl,c3,c4,c5⟩:=h8
  obtain rfl:v4=V.str one.2.1:=h9
  obtain⟨e7,rfl,b6⟩:=c0
  obtain rfl:v6=V.int one.2.2.2.1:=c1
  obtain rfl:v7=V.int one.2.2.2.2:=c2
  obtain⟨e8,e9,rfl,c6,c7,c8⟩:=r_placing
  obtain⟨w1,w2⟩:=hpre
  refine⟨_,(@a'h _ _ _ _ _ (a'w (i:=2) sc_missed.nd rfl (Or.inl rfl) (a'l ((f'q T).mono (by decide)) hr rfl T.m_minus T.F_minus.kp T.b_minus .nil a'j (a'a (a'l ((k'V T).mono (by decide)) hr rfl T.m_sum_at T.F_sum_at.kp T.b_sum_at .nil a'j (a'a (pv 0) (a'a (pv 1) a'e))) (a'a (a'm a'k (pv 0) a'd (fun _ _=>rfl)) a'e))))
     (@a'h _ _ _ _ _ (a'P (PW.pt (c'z (b'J (a'l ((i'g T).mono (by decide)) hr rfl T.m_under T.F_under.kp T.b_under .nil a'j (a'a (pv 2) (a'a (b'a (v:=.ref T.c_NOUGHT) rfl T.m_NOUGHT rfl) a'e)))) (c'q (a'u b'H (a'm a'k (pv 0) a'd (fun _ _=>rfl)) a'x (a'y _))))) (a'i (a'r (a'l ((f'q T).mono (by decide)) hr rfl T.m_minus T.F_minus.kp T.b_minus .nil a'j (a'a (b'a (v:=.ref T.c_NOUGHT) rfl T.m_NOUGHT rfl) (a'a (pv 2) a'e))))) a'N)
     (@a'h _ _ _ _ _ (a'P (PW.pt (c'z (b'J (a'l ((i'g T).mono (by decide)) hr rfl T.m_under T.F_under.kp T.b_under .nil a'j (a'a (b'a (v:=.ref T.c_NOUGHT) rfl T.m_NOUGHT rfl) (a'a (pv 2) a'e)))) (c'q (a'u b'H (a'm a'k (pv 0) a'd (fun _ _=>rfl)) a'x (a'y _))))) (a'i (a'r (pv 2))) a'N)
     (a'i (a'r (b'a (v:=.ref T.c_NOUGHT) rfl T.m_NOUGHT rfl)))))),?_⟩
  have b0:=c'Q
  refine a's (a'E (a'p (a'b (a'p (a'b (a'c rfl (a'b ?_)))))))
  refine a'c rfl (a'g ?_)
  refine⟨F,_,_,one,placing,rfl,gb.s,cm,⟨_,_,_,_,_,_,rfl,sq2,⟨_,_,rfl,c3,c4,c5⟩,rfl,⟨_,rfl,b6⟩,rfl,rfl⟩,⟨_,_,rfl,c6,c7,c8⟩,(by exact w1),?_⟩
  rintro f0 f1 c9  d0 d1 f2
  obtain⟨a5,a2,d2⟩:=gr3 gb cm d0
  obtain⟨f3,rfl,d3⟩:=d1
  refine a'b (a'f (a'c rfl (a_c ?_)))
  refine a'o (Same.tup a5.s (Le.tup a2 sq2)) rfl ?_
  refine a'g ?_
  refine⟨_,_,(val one.1 (plc placing)),one.2.2.1,rfl,(Same.tup a5.s d3),(Same.tup a5.s (Le.tup a2 b6)),a'Z (by walk_at "o"),a'Z (by walk_at "o"),fun a8 d4=>?_⟩
  obtain⟨a4,b7,a6⟩:=al2 (o:=(.tup (fr ((val one.1 (plc placing)) - one.2.2.1)))) a5.s (by intro _ _ z;cases z) d4
  generalize upd c9 a8 (.tup (fr ((val one.1 (plc placing)) - one.2.2.1)))=d5 at b7 ⊢
  obtain⟨a0,a3,a7⟩:=gr3 a5 d2 b7
  have f4:=e'o (val one.1 (plc placing)) one.2.2.1
  refine a'z ?_
  try dsimp only
  refine a's (b'd (c'k (c't (a'p (a'b (a'c rfl (a'b ?_)))))))
  refine a_c (a'g ?_)
  refine⟨_,_,((val one.1 (plc placing)) - one.2.2.1),0,rfl,(Same.tup a0.s (SqT.of a6)),(Same.tup a0.s (Le.tup (a2.trans a3) (.inr T.t_NOUGHT))),a'Z (by walk_at "o"),a'Z (by walk_at "o"),?_⟩
  refine a'C ?_
  refine a'V (fun d6=>?_) (fun d6=>?_)
  ·refine a'B (a'f (a'f (a'c rfl (a_c ?_))))
   refine a'o (Same.tup a0.s (Le.tup (a2.trans a3) sq2)) rfl ?_
   refine a_c ?_
   have f5:("most":Str).length=4:=by decide +kernel
   refine h'q (a'C ?_)
   refine b'r (fun d7=>?_) (fun d7=>?_)
   ·refine a'A (a'p (a'b (a_c (a'b (a'c rfl (a'g ?_))))))
    refine⟨_,_,0,((val one.1 (plc placing)) - one.2.2.1),rfl,(Same.tup a0.s (Le.tup (a2.trans a3) (.inr T.t_NOUGHT))),(Same.tup a0.s (SqT.of a6)),a'Z (by walk_at "o"),a'Z (by walk_at "o"),fun a9 d8=>?_⟩
    obtain⟨b8,b9,d9⟩:=al2 (o:=(.tup (fr (0 - ((val one.1 (plc placing)) - one.2.2.1))))) a0.s (by intro _ _ z;cases z) d8
    generalize upd d5 a9 (.tup (fr (0 - ((val one.1 (plc placing)) - one.2.2.1))))=f6 at b9 ⊢
    obtain⟨e0,f7,e1⟩:=gr3 a0 a7 b9
    have f8:=e'o 0 ((val one.1 (plc placing)) - one.2.2.1)
    have hval:((0 - ((val one.1 (plc placing)) - one.2.2.1)):Rat)=(misd one.2.1 (val one.1 (plc placing) - one.2.2.1)):=by unfold misd;rw [if_pos (by simp_all)]
    have b1:(rFr K) b8 (V.ref a9) ((0 - ((val one.1 (plc placing)) - one.2.2.1))):=⟨_,rfl,(SqT.of d9)⟩
    replace b1:=Eq.mp (congrArg ((rFr K) b8 (V.ref a9)) hval) b1
    exact k _ _ _ (Gr.of0 e0 e1) b1 (by rw [← hval];omega)
   ·refine a'G ?_
    try dsimp only
    refine a's (b'd (c'k (c't (a'p (a'b (a_c (a'b ?_)))))))
    refine a'c rfl (a'g ?_)
    refine⟨_,_,0,((val one.1 (plc placing)) - one.2.2.1),rfl,(Same.tup a0.s (Le.tup (a2.trans a3) (.inr T.t_NOUGHT))),(Same.tup a0.s (SqT.of a6)),a'Z (by walk_at "o"),a'Z (by walk_at "o"),?_⟩
    refine a'C ?_
    refine a'V (fun e2=>?_) (fun e2=>?_)
    ·exfalso
     first | omega | grind
    ·refine b'x ?_
     refine a'G ?_
     try dsimp only
     refine a'A (a_c ?_)
     have hval:(0:Rat)=(misd one.2.1 (val one.1 (plc placing) - one.2.2.1)):=by unfold misd;rw [if_neg (by simp_all),if_neg (by simp_all)]
     have b2:(rFr K) a4 (V.ref T.c_NOUGHT) (0):=⟨_,rfl,(Le.tup (a2.trans a3) (.inr T.t_NOUGHT))⟩
     replace b2:=Eq.mp (congrArg ((rFr K) a4 (V.ref T.c_NOUGHT)) hval) b2
     exact k _ _ _ (Gr.of0 a0 a7) b2 (by rw [← hval];omega)
  ·refine b'x ?_
   refine a'G ?_
   try dsimp only
   refine a's (b'd (c'k (c't (a'p (a'b (a_c (a'b ?_)))))))
   refine a'c rfl (a'g ?_)
   refine⟨_,_,0,((val one.1 (plc placing)) - one.2.2.1),rfl,(Same.tup a0.s (Le.tup (a2.trans a3) (.inr T.t_NOUGHT))),(Same.tup a0.s (SqT.of a6)),a'Z (by walk_at "o"),a'Z (by walk_at "o"),?_⟩
   refine a'C ?_
   refine a'V (fun e3=>?_) (fun e3=>?_)
   ·refine a'B (a'f (a'f (a'c rfl (a_c ?_))))
    refine a'o (Same.tup a0.s (Le.tup (a2.trans a3) sq2)) rfl ?_
    refine a_c ?_
    have f9:("least":Str).length=5:=by decide +kernel
    refine h'q (a'C ?_)
    refine b'r (fun e4=>?_) (fun e4=>?_)
    ·refine a'A (a'c rfl ?_)
     have hval:(((val one.1 (plc placing)) - one.2.2.1):Rat)=(misd one.2.1 (val one.1 (plc placing) - one.2.2.1)):=by unfold misd;rw [if_neg (by simp_all),if_pos (by simp_all)]
     have b3:(rFr K) a4 (V.ref a8) (((val one.1 (plc placing)) - one.2.2.1)):=⟨_,rfl,(SqT.of a6)⟩
     replace b3:=Eq.mp (congrArg ((rFr K) a4 (V.ref a8)) hval) b3
     exact k _ _ _ (Gr.of0 a0 a7) b3 (by rw [← hval];omega)
    ·refine a'G ?_
     try dsimp only
     refine a'A (a_c ?_)
     have hval:(0:Rat)=(misd one.2.1 (val one.1 (plc placing) - one.2.2.1)):=by unfold misd;rw [if_neg (by simp_all),if_neg (by simp_all)]
     have b4:(rFr K) a4 (V.ref T.c_NOUGHT) (0):=⟨_,rfl,(Le.tup (a2.trans a3) (.inr T.t_NOUGHT))⟩
     replace b4:=Eq.mp (congrArg ((rFr K) a4 (V.ref T.c_NOUGHT)) hval) b4
     exact k _ _ _ (Gr.of0 a0 a7) b4 (by rw [← hval];omega)
   ·refine b'x ?_
    refine a'G ?_
    try dsimp only
    refine a'A (a_c ?_)
    have hval:(0:Rat)=(misd one.2.1 (val one.1 (plc placing) - one.2.2.1)):=by unfold misd;rw [if_neg (by simp_all),if_neg (by simp_all)]
    have b5:(rFr K) a4 (V.ref T.c_NOUGHT) (0):=⟨_,rfl,(Le.tup (a2.trans a3) (.inr T.t_NOUGHT))⟩
    replace b5:=Eq.mp (congrArg ((rFr K) a4 (V.ref T.c_NOUGHT)) hval) b5
    exact k _ _ _ (Gr.of0 a0 a7) b5 (by rw [← hval];omega)
def sp_way_of (K:PySem.W.Frag):Sp:=fun vs H Q _=>Ex3 fun (F:Hp) (v_word:V) (word:Str)=>Cj4 (vs=[v_word]) (Same F H) (rS F v_word word) (∀ (v:V) (F' H':Hp),Gr F H F' H'→rS F' v (wayS word)→Q v H')
theorem k'X (T:Tx w K mg):FnOk P w K mg base CX0 1 T.a_way_of T.d_way_of ["word"] (sp_way_of K):=by
 refine T.F_way_of.ok k'S (fun vs H Q E h=>?_) (fun cdv A outer s H vs Q E hr h=>?_)
 ·obtain⟨F,v_word,word,rfl,_⟩:=h
  rfl
 ·obtain⟨F,v_word,word,rfl,wd,r_word,k⟩:=h
  have hu:=a'M hr
  have gb:=Gr0.refl wd
  have cm:=Fz.refl F
  obtain rfl:v_word=V.str word:=r_word
  refine⟨_,(a'i (a'r (h'u (a'u g'L (pv 0) (b'a (v:=.ref T.c_DOWN) rfl T.m_DOWN rfl) (by with_unfolding_all rfl)) a'x a'x))),?_⟩
  refine a'A (j'v (a'B (a'f (a'c rfl (a_c ?_)))))
  refine o't (xs:=(["top","height","bottom","centre","drop"]:List Str)) (.inr T.t_DOWN) ?_
  refine a'C ?_
  refine a'V (fun c1=>?_) (fun c1=>?_)
  ·refine a_c ?_
   have ln2:("down":Str).length=4:=by decide +kernel
   have hval:(("down":Str):Str)=(wayS word):=by unfold wayS;first | (rw [if_pos (by assumption)];done) | (rw [if_neg (by assumption)];done)
   have rp3:rS F (V.str ("down":Str)) (("down":Str)):=rfl
   replace rp3:=Eq.mp (congrArg (rS F (V.str ("down":Str))) hval) rp3
   exact k _ _ _ (Gr.of gb cm) rp3
  ·refine a_c ?_
   have ln4:("across":Str).length=6:=by decide +kernel
   have hval:(("across":Str):Str)=(wayS word):=by unfold wayS;first | (rw [if_pos (by assumption)];done) | (rw [if_neg (by assumption)];done)
   have rp5:rS F (V.str ("across":Str)) (("across":Str)):=rfl
   replace rp5:=Eq.mp (congrArg (rS F (V.str ("across":Str))) hval) rp5
   exact k _ _ _ (Gr.of gb cm) rp5
def sp_Term_ways (T:Tx w K mg):Sp:=fun vs H Q _=>Ex3 fun (F:Hp) (v_self:V) (self:Tm)=>Cj5 (vs=[v_self]) (Same F H) ((rT T) F v_self self) (self.dep≤11∧(edg self).length≤30) (∀ (v:V) (F' H':Hp),Gr F H F' H'→ownL rS F' H H' v (wys self)→Q v H')
theorem b'Q (T:Tx w K mg):FnOk P w K mg base CX0 14 T.a_Term_ways T.d_Term_ways ["self"] (sp_Term_ways T):=by
 refine T.F_Term_ways.ok i'e (fun vs H Q E h=>?_) (fun cdv A outer s H vs Q E hr h=>?_)
 ·obtain⟨F,v_self,self,rfl,_⟩:=h
  rfl
 ·obtain⟨F,v_self,self,rfl,wd,r_self,hpre,k⟩:=h
  have hu:=a'M hr
  have gb:=Gr0.refl wd
  have cm:=Fz.refl F
  obtain⟨hd,hl⟩:=hpre
  refine⟨_,(a'i (a'r (a'F (show CallR _ _ (rSortT P w) from i'c rfl) rfl T.z_sorted rfl (a'a (c'A (show CallR _ _ (rSetX P w K) from g'U rfl) rfl T.z_set rfl (a'a (i'T (N:=["edge"]) (ix:=[none]) rfl (g'e (a'D (pv 0) (fun C g h=>(d'X T 11 C g h).mono (by decide)) hr a'j)) (fun _ _ _ _ _=>(a'K (i:=0) (show List.Nodup (["edge"]:List Str) from by decide) rfl (Or.inl rfl))) (fun _ _ _ _ _=>m'u) (fun _ _ _ _ _=>(a'l ((k'X T).mono (by decide)) hr rfl T.m_way_of T.F_way_of.kp T.b_way_of .nil a'j (a'a (a'm (show IxR _ (rIxT K) from a'k) (pv 0) a'd (fun _ _=>rfl)) a'e))) True.intro) a'e)) a'e)))),?_⟩
  refine a'A (a'U (a'b (a'U (a'b (k'A (g'l (a'O ?_)))))))
  refine a'c rfl ?_
  obtain⟨_,_,_,_,ev1,rd2,dd3,hl4⟩:=o'y r_self
  refine⟨_,_,_,_,_,ev1,gb.s.rd rd2,dd3,hl4,?_⟩
  refine⟨F,_,self,rfl,gb.s,r_self,(by exact⟨rfl,hd,Nat.le_trans hl (by decide)⟩),?_⟩
  rintro v5 F6 H7  g9 c7 
  obtain⟨a6,b3,rfl,c8,oH15,oF16,c9⟩:=c7
  have g5:=gb.h.free c8
  obtain⟨d0,g6,d1⟩:=gr3 gb cm g9
  have g7:((edg self)).length≤1000000:=by omega
  refine⟨_,rfl,⟨_,(SqL.of oH15)⟩,k'B (K:=K) (a:=a6) (xs:=b3) (fun i acc H'=>Ex4 fun (a1:Hp) (a7:List V) (b4:List (Str×Str)) (a8:List Str)=>Cj12 (True) (Gr0 F H a1 H') (Fz (frzd F) a1) (Le F6 a1) (H' a6=some (.lst a7)) (a1 a6=none) (Al (r2 K rS rS) a1 a7 b4) ((edg self)=b4) (b3=a7) (Al rS a1 acc a8) (a8.length≤i) ((a8=((edg self).take i).map fun e=>wayS e.1))) ?_ ?_ ?_ ?_⟩
  ·exact⟨F6,_,(edg self),[],True.intro,d0,d1,Le.refl _,oH15,oF16,c9,rfl,rfl,(show Al rS F6 [] [] from True.intro),(by first | (simp;done) | (rw [List.length_append];simp only [List.length_cons,List.length_nil];omega) | omega),by rfl⟩
  ·rintro i acc g8 _ ⟨h0,h1,h2,h3,_,h4,h5,h6,oH37,oF38,h7,rfl,rfl,h8,h9,q0⟩
   exact (SqL.of oH37)
  ·rintro i0 i1 i2 i3 d2 ⟨d3,i4,i5,d4,_,a9,d5,d6,oH54,oF55,b5,rfl,rfl,b6,i6,q0⟩
   obtain⟨a2,b7,d7⟩:=Al.get b5 d2
   have hil:=(List.getElem?_eq_some_iff.mp b7).1
   refine a'z ?_
   obtain⟨i7,d8,d9,rfl,e0,e1,e2⟩:=d7
   obtain rfl:d8=V.str a2.1:=e1
   obtain rfl:d9=V.str a2.2:=e2
   refine⟨Wk.non (Wk.nil),?_⟩
   try dsimp only
   refine o'q ?_
   refine c'b ?_
   refine a'p (a'b (a'f (a'c rfl (a_c ?_))))
   refine a'o (Same.tup a9.s e0) rfl ?_
   refine a'g ?_
   refine⟨d3,_,a2.1,rfl,a9.s,rfl,?_⟩
   rintro e3 e4 i8  b0 e5 
   obtain⟨e6,a3,e7⟩:=gr3 a9 d5 b0
   have oH76:=b0.h _ _ oH54
   have oF77:=b0.own oF55 oH54
   obtain rfl:e3=V.str (wayS a2.1):=e5
   refine⟨by rw [Al.length (Al.mo a3 b6)];have:=c'm;omega,?_⟩
   exact⟨e4,_,(edg self),(d4++[(wayS a2.1)]),True.intro,e6,e7,(d6.trans a3),oH76,oF77,(Al.mo a3 b5),rfl,rfl,(Al.snoc (Al.mo a3 b6) rfl),(by first | (simp;done) | (rw [List.length_append];simp only [List.length_cons,List.length_nil];omega) | omega),by rw [q0];exact (h'b _ b7).symm⟩
  ·rintro b8 e8 ⟨i9,j0,j1,a0,_,b9,e9,j2,oH89,oF90,f0,rfl,rfl,c0,j3,q0⟩
   have hlen:=Al.length f0
   refine⟨(by rw [Al.length c0];have:=c'm;omega),fun f1 f2=>?_⟩
   obtain⟨j4,a4,f3⟩:=al2 (o:=(.lst b8)) b9.s (by intro _ _ z;cases z) f2
   generalize upd e8 f1 (.lst b8)=f4 at a4 ⊢
   obtain⟨b1,f5,f6⟩:=gr3 b9 e9 a4
   have oH101:=a4.h _ _ oH89
   have oF102:=a4.own oF90 oH89
   rw [hlen,List.take_length] at q0
   refine a'g ?_
   refine k'Q (Same.seq b1.s (SqL.of f3)) (Al.mo f5 c0) (by rw [q0,List.length_map];omega) fun b2 f7=>?_
   obtain⟨c1,a5,f8⟩:=al2 (o:=(SetC P w b2 ((once a0).map Sum.inr))) b1.s (by intro _ _ z;unfold SetC at z;cases z) f7
   generalize upd f4 b2 (SetC P w b2 ((once a0).map Sum.inr))=f9 at a5 ⊢
   obtain⟨c2,j5,g0⟩:=gr3 b1 f6 a5
   have oH112:=a5.h _ _ oH101
   have oF113:=a5.own oF102 oH101
   refine a'g ?_
   refine m'R (c2.s _ _ f8) (by exact Nat.lt_of_le_of_lt (d'V _) (by rw [q0,List.length_map];omega)) (fun c3 g1=>?_)
   obtain⟨c4,c5,g2,oF120,oH121,g3⟩:=b'M (o:=(.lst ((srt (once a0)).map V.str))) c2 g1
   generalize upd f9 c3 (.lst ((srt (once a0)).map V.str))=g4 at c4 c5 oH121 ⊢
   have j6:=g3 _ _ oH112
   have oH124:=c5 _ _ oH112
   have hval:((srt (once a0)):(List Str))=(wys self):=by rw [q0];rfl
   have c6:ownL rS c1 H g4 (V.ref c3) ((srt (once a0))):=⟨_,_,rfl,g2,oH121,oF120,(i'W (F:=c1) (xs:=(srt (once a0))))⟩
   rw [hval] at c6
   exact k _ _ _ (Gr.of c4 g0) c6
def spW (T:Tx w K mg) (_:Nat):Sp:=sp_Term_ways T
theorem c'R (T:Tx w K mg):∀ (C:Addr) (g:Nat),DT T C g→MOk P w K mg base CX0 14 "ways" C (spW T g)
  | _, _, .inl ⟨rfl, rfl⟩ => ⟨T.cl_Number, _, _, T.mt_Number_ways, b'Q T, T.b_Term_ways⟩
  | _, _, .inr (.inl ⟨rfl, rfl⟩) => ⟨T.cl_Edge, _, _, T.mt_Edge_ways, b'Q T, T.b_Term_ways⟩
  | _, _, .inr (.inr (.inl ⟨rfl, rfl⟩)) => ⟨T.cl_Times, _, _, T.mt_Times_ways, b'Q T, T.b_Term_ways⟩
  | _, _, .inr (.inr (.inr (.inl ⟨rfl, rfl⟩))) => ⟨T.cl_Plus, _, _, T.mt_Plus_ways, b'Q T, T.b_Term_ways⟩
  | _, _, .inr (.inr (.inr (.inr ⟨rfl, rfl⟩))) => ⟨T.cl_Minus, _, _, T.mt_Minus_ways, b'Q T, T.b_Term_ways⟩
theorem n'a (ks:List Str) (x:Str):x∈srt ks↔x∈ks:=(Classical.epsilon_spec (k'E ks)).1.mem_iff
theorem wys_mem {t:Tm} {x:Str}:x∈wys t↔∃ e∈edg t,wayS e.1=x:=by
  unfold wys
  rw [n'a,(f'T _).2,List.mem_map]
theorem c'S (t:Tm):(wys t).length≤(edg t).length:=by
  unfold wys
  rw [m'H]
  exact Nat.le_trans (d'V _) (by rw [List.length_map];exact Nat.le_refl _)
/-- words of both ways -/
def mixd (a b:Tm):Prop:=1<(once (wys a++wys b)).length
noncomputable instance (a b:Tm):Decidable (mixd a b):=inferInstanceAs (Decidable (1<_))
noncomputable def wayW (t:Tm×Tm):Str:=if ("down":Str)∈wys t.1++wys t.2 then "down" else "across"
/-- __init__ of a wish: it may raise; a new instance gets its four fields -/
def spI4 (T:Tx w K mg) (C:Addr):Sp:=fun vs H Q E=>∃ (F:Hp) (x dx:Addr) (vn vf vr vw:V) (a b:Tm),vs=[.ref x,vn,vf,vr,vw]∧H x=some (.ins C dx [])∧Same F H∧rT T F vn a∧rT T F vf b∧(a.dep≤11∧(edg a).length≤30∧b.dep≤11∧(edg b).length≤30)∧
  (∀ F' H',Gr F H F' H'→mixd a b→E (.ref T.c_Mixed) none H')∧∀ F' H',Gr F H F' H'→¬ mixd a b→Q .non (upd H' x (.ins C dx [("near",vn),("far",vf),("rank",vr),("weight",vw)]))
theorem o'K {f g h:Str} {v u z:V} (n1:¬ f=h) (n2:¬ g=h):putF h z [(f,v),(g,u)]=[(f,v),(g,u),(h,z)]:=by
  simp only [putF,if_neg n1,if_neg n2]
theorem o'L {f g h i:Str} {v u z y:V} (n1:¬ f=i) (n2:¬ g=i) (n3:¬ h=i):putF i y [(f,v),(g,u),(h,z)]=[(f,v),(g,u),(h,z),(i,y)]:=by
  simp only [putF,if_neg n1,if_neg n2,if_neg n3]
theorem g'z (T:Tx w K mg) {C:Addr} (cl:Cls K C) (c1:NoAttr K C "near") (c2:NoAttr K C "far") (c3:NoAttr K C "rank") (c4:NoAttr K C "weight") :
    FnOk P w K mg base (CX1 P w) 15 T.a_Wish___init__ T.d_Wish___init__ ["self","near","far","rank","weight"] (spI4 T C):=by
  refine T.F_Wish___init__.ok1 f'o (fun vs H Q E h=>?_) (fun cdv A outer s H vs Q E hr h=>?_)
  · obtain⟨F,x,dx,vn,vf,vr,vw,a,b,rfl,_⟩:=h
    rfl
  · obtain⟨F,x,dx,vn,vf,vr,vw,a,b,rfl,hx,wd,ha,hb,⟨d1,l1,d2,l2⟩,kx,k⟩:=h
    have hu:=a'M hr
    obtain⟨x1,C1,dx1,fs1,ev1,rd1,dd1,hl1⟩:=e'N ha
    obtain⟨x2,C2,dx2,fs2,ev2,rd2,dd2,hl2⟩:=e'N hb
    have ln:(wys a++wys b).length≤60:=by rw [List.length_append];have:=c'S a;have:=c'S b;omega
    have lo:(once (wys a++wys b)).length≤60:=Nat.le_trans (d'V _) ln
    refine⟨_,a'h (a'P (a'u h'o (a'F (show CallR _ _ (rLenS P w) from k'P) rfl T.z_len rfl (a'a (c'A (show CallR _ _ (rSetX P w K) from g'U rfl) rfl T.z_set rfl
      (a'a (a'n d'B (a'D (pv 1) (fun C g h=>(c'R T C g h).mono (by decide)) hr a'j) (a'D (pv 2) (fun C g h=>(c'R T C g h).mono (by decide)) hr a'j)) a'e)) a'e)) a'd (a'y _))
      (a'i (l't rfl rfl rfl rfl rfl rfl T.m_Mixed PySem.F.excBase_ValueError T.q_Mixed a'x)) a'N)
      (a'h (b'u (pv 0) (pv 1) rfl) (a'h (b'u (pv 0) (pv 2) rfl) (a'h (b'u (pv 0) (pv 3) rfl) (a'i (b'u (pv 0) (pv 4) rfl))))),?_⟩
    refine a's (b'd (a'B (a'f (a'U (a'b (a'U (a'b (a'f ?_))))))))
    refine⟨_,rfl,_,C1,dx1,fs1,_,ev1,wd.rd rd1,dd1,hl1,F,vn,a,rfl,wd,ha,⟨d1,l1⟩,fun v1 F1 H1 g1 o1=>?_⟩
    refine⟨_,rfl,_,C2,dx2,fs2,_,ev2,g1.s.rd (leI g1.le rd2),dd2,hl2,F1,vf,b,rfl,g1.s,b'z g1.le b _ hb,⟨d2,l2⟩,fun v2 F2 H2 g2 o2=>?_⟩
    obtain⟨p1,u1,rfl,n1,h1,f1,al1⟩:=o1
    obtain⟨p2,u2,rfl,n2,h2,f2,al2'⟩:=o2
    have al1':=Al.mo g2.le al1
    have al12:=Al.app al1' al2'
    refine⟨p1,p2,u1,u2,rfl,rfl,SqL.of (g2.h _ _ h1),SqL.of h2,Nat.le_trans (show _≤60 by rw [← List.length_append,Al.length al12];exact ln) (by decide),fun p hp=>?_⟩
    obtain⟨F3,g3,e3⟩:=al2 (o:=.lst (u1++u2)) g2.s (by intro _ _ z;cases z) hp
    generalize upd H2 p (.lst (u1++u2))=H3 at g3 ⊢
    refine a'g ?_
    refine k'Q (SqL.of (g3.s _ _ e3)) (Al.mo g3.le al12) (by omega) fun q hq=>?_
    obtain⟨F4,g4,e4⟩:=al2 (o:=SetC P w q ((once (wys a++wys b)).map Sum.inr)) g3.s (by intro _ _ z;unfold SetC at z;cases z) hq
    generalize upd H3 q (SetC P w q ((once (wys a++wys b)).map Sum.inr))=H4 at g4 ⊢
    refine a'g ?_
    refine n'T (g4.s _ _ e4) (by omega) ?_
    refine a_c (b'g (a'C ?_))
    have gg:=Gr.trans (Gr.trans g1 g2) (Gr.trans g3 g4)
    refine a'V (fun c=>?_) (fun c=>?_)
    · refine m'z (a_c ?_)
      exact kx _ _ gg (by unfold mixd;omega)
    · refine a'G ?_
      have hx4:=gg.h _ _ hx
      refine⟨_,rfl,_,rfl,x,_,dx,[],rfl,hx4,cl,c1,(by decide),?_⟩
      refine⟨_,rfl,_,rfl,x,_,dx,[("near",vn)],rfl,a'v,cl,c2,(by show 1<1000;decide),?_⟩
      rw [c'g,i'i (by decide +kernel)]
      refine⟨_,rfl,_,rfl,x,_,dx,[("near",vn),("far",vf)],rfl,a'v,cl,c3,(by show 2<1000;decide),?_⟩
      rw [c'g,o'K (by decide +kernel) (by decide +kernel)]
      refine⟨_,rfl,_,rfl,x,_,dx,[("near",vn),("far",vf),("rank",vr)],rfl,a'v,cl,c4,(by show 3<1000;decide),?_⟩
      rw [c'g,o'L (by decide +kernel) (by decide +kernel) (by decide +kernel)]
      exact k _ _ gg (by unfold mixd;omega)
theorem n'b (T:Tx w K mg):FnOk P w K mg base (CX1 P w) 15 T.a_Wish___init__ T.d_Wish___init__ ["self","near","far","rank","weight"] (spI4 T T.c_Just):=g'z T T.cl_Just T.nf_Just_near T.nf_Just_far T.nf_Just_rank T.nf_Just_weight
theorem j'J (T:Tx w K mg):FnOk P w K mg base (CX1 P w) 15 T.a_Wish___init__ T.d_Wish___init__ ["self","near","far","rank","weight"] (spI4 T T.c_AtLeast):=g'z T T.cl_AtLeast T.nf_AtLeast_near T.nf_AtLeast_far T.nf_AtLeast_rank T.nf_AtLeast_weight
theorem k'Y (T:Tx w K mg):FnOk P w K mg base (CX1 P w) 15 T.a_Wish___init__ T.d_Wish___init__ ["self","near","far","rank","weight"] (spI4 T T.c_AtMost):=g'z T T.cl_AtMost T.nf_AtMost_near T.nf_AtMost_far T.nf_AtMost_rank T.nf_AtMost_weight
/-! wishes: near, far, kind, rank, weight -/
abbrev Wi:=Tm×Tm×Str×Int×Int
def kn (k:Str):Nat:=if k="just" then 0 else if k="least" then 1 else 2
def isK (k:Str):Prop:=k="just"∨k="least"∨k="most"
def DW (T:Tx w K mg) (C:Addr) (g:Nat):Prop:=(C=T.c_Just∧g=0)∨(C=T.c_AtLeast∧g=1)∨(C=T.c_AtMost∧g=2)
theorem DW.cl {T:Tx w K mg} {C:Addr} {g:Nat} (h:DW T C g):Cls K C:=by
  rcases h with ⟨rfl,_⟩ | ⟨rfl,_⟩ | ⟨rfl,_⟩
  · exact T.cl_Just
  · exact T.cl_AtLeast
  · exact T.cl_AtMost
theorem DW.near {T:Tx w K mg} {C:Addr} {g:Nat} (h:DW T C g):NoAttr K C "near":=by
  rcases h with ⟨rfl,_⟩ | ⟨rfl,_⟩ | ⟨rfl,_⟩
  · exact T.nf_Just_near
  · exact T.nf_AtLeast_near
  · exact T.nf_AtMost_near
theorem DW.far {T:Tx w K mg} {C:Addr} {g:Nat} (h:DW T C g):NoAttr K C "far":=by
  rcases h with ⟨rfl,_⟩ | ⟨rfl,_⟩ | ⟨rfl,_⟩
  · exact T.nf_Just_far
  · exact T.nf_AtLeast_far
  · exact T.nf_AtMost_far
theorem DW.rank {T:Tx w K mg} {C:Addr} {g:Nat} (h:DW T C g):NoAttr K C "rank":=by
  rcases h with ⟨rfl,_⟩ | ⟨rfl,_⟩ | ⟨rfl,_⟩
  · exact T.nf_Just_rank
  · exact T.nf_AtLeast_rank
  · exact T.nf_AtMost_rank
theorem DW.weight {T:Tx w K mg} {C:Addr} {g:Nat} (h:DW T C g):NoAttr K C "weight":=by
  rcases h with ⟨rfl,_⟩ | ⟨rfl,_⟩ | ⟨rfl,_⟩
  · exact T.nf_Just_weight
  · exact T.nf_AtLeast_weight
  · exact T.nf_AtMost_weight
def rW (T:Tx w K mg):Rep Wi:=fun F v t=>∃ x C dx vn vf,v=.ref x∧Rd F x (.ins C dx [("near",vn),("far",vf),("rank",.int t.2.2.2.1),("weight",.int t.2.2.2.2)])∧isK t.2.2.1∧DW T C (kn t.2.2.1)∧rT T F vn t.1∧rT T F vf t.2.1
instance {T:Tx w K mg}:Mo (rW T):=⟨fun {F F' v t} le ⟨x,C,dx,vn,vf,e,h,i,d,r,s⟩=>⟨x,C,dx,vn,vf,e,leI le h,i,d,b'z le _ _ r,b'z le _ _ s⟩⟩
theorem f'v {T:Tx w K mg} {F:Hp} {v:V} {t:Wi} (h:rW T F v t):∃ x C dx fs u,v=.ref x∧Rd F x (.ins C dx fs)∧Cls K C∧NoAttr K C "near"∧fs.lookup ("near":Str)=some u∧rT T F u t.1:=by
  obtain⟨x,C,dx,vn,vf,e,h,i,d,r,s⟩:=h
  exact⟨x,C,dx,_,vn,e,h,d.cl,d.near,rfl,r⟩
theorem g'A {T:Tx w K mg} {F:Hp} {v:V} {t:Wi} (h:rW T F v t):∃ x C dx fs u,v=.ref x∧Rd F x (.ins C dx fs)∧Cls K C∧NoAttr K C "far"∧fs.lookup ("far":Str)=some u∧rT T F u t.2.1:=by
  obtain⟨x,C,dx,vn,vf,e,h,i,d,r,s⟩:=h
  exact⟨x,C,dx,_,vf,e,h,d.cl,d.far,rfl,s⟩
theorem i'k {T:Tx w K mg} {F:Hp} {v:V} {t:Wi} (h:rW T F v t):∃ x C dx fs u,v=.ref x∧Rd F x (.ins C dx fs)∧Cls K C∧NoAttr K C "rank"∧fs.lookup ("rank":Str)=some u∧rI F u t.2.2.2.1:=by
  obtain⟨x,C,dx,vn,vf,e,h,i,d,r,s⟩:=h
  exact⟨x,C,dx,_,_,e,h,d.cl,d.rank,rfl,rfl⟩
theorem f'Z {T:Tx w K mg} {F:Hp} {v:V} {t:Wi} (h:rW T F v t):∃ x C dx fs u,v=.ref x∧Rd F x (.ins C dx fs)∧Cls K C∧NoAttr K C "weight"∧fs.lookup ("weight":Str)=some u∧rI F u t.2.2.2.2:=by
  obtain⟨x,C,dx,vn,vf,e,h,i,d,r,s⟩:=h
  exact⟨x,C,dx,_,_,e,h,d.cl,d.weight,rfl,rfl⟩
theorem h's {T:Tx w K mg} {F:Hp} {v:V} {t:Wi} (m:Str) (hm:∀ {vn vf vr vw:V},([("near",vn),("far",vf),("rank",vr),("weight",vw)]:List (Str×V)).lookup m=none) (h:rW T F v t):∃ x C dx fs,v=.ref x∧Rd F x (.ins C dx fs)∧DW T C (kn t.2.2.1)∧fs.lookup m=none:=by
  obtain⟨x,C,dx,vn,vf,e,h,i,d,r,s⟩:=h
  exact⟨x,C,dx,_,e,h,d,hm⟩
theorem j'd {T:Tx w K mg} {F:Hp} {v:V} {t:Wi} (h:rW T F v t):∃ x C dx fs,v=.ref x∧Rd F x (.ins C dx fs)∧DW T C (kn t.2.2.1)∧fs.lookup ("way":Str)=none:=h's (T:=T) "way" rfl h
theorem l'P {T:Tx w K mg} {F:Hp} {v:V} {t:Wi} (h:rW T F v t):∃ x C dx fs,v=.ref x∧Rd F x (.ins C dx fs)∧DW T C (kn t.2.2.1)∧fs.lookup ("kind":Str)=none:=h's (T:=T) "kind" rfl h
theorem g'B {T:Tx w K mg} {F:Hp} {v:V} {t:Wi} (h:rW T F v t):∃ x C dx fs,v=.ref x∧Rd F x (.ins C dx fs)∧DW T C (kn t.2.2.1)∧fs.lookup ("row":Str)=none:=h's (T:=T) "row" rfl h
theorem g'a {T:Tx w K mg} {F:Hp} {v:V} {t:Wi} (h:rW T F v t):∃ x C dx fs,v=.ref x∧Rd F x (.ins C dx fs)∧DW T C (kn t.2.2.1)∧fs.lookup ("missed":Str)=none:=h's (T:=T) "missed" rfl h
/-- kind() of each class -/
def spK (T:Tx w K mg) (g:Nat):Sp:=fun vs H Q _=>∃ (F:Hp) (v_self:V) (self:Wi),vs=[v_self]∧Same F H∧rW T F v_self self∧kn self.2.2.1=g∧∀ (v:V) (F' H':Hp),Gr F H F' H'→rS F' v self.2.2.1→Q v H'
theorem b'Z {k:Str} (h:isK k):(kn k=0→k="just")∧(kn k=1→k="least")∧(kn k=2→k="most"):=by
  rcases h with rfl | rfl | rfl<;>decide +kernel
theorem i'l (T:Tx w K mg):FnOk P w K mg base CX0 1 T.a_Just_kind T.d_Just_kind ["self"] (spK T 0):=by
  refine T.F_Just_kind.ok i'f (fun vs H Q E h=>?_) (fun cdv A outer s H vs Q E hr h=>?_)
  · obtain⟨F,v,t,rfl,_⟩:=h
    rfl
  · obtain⟨F,v,t,rfl,wd,ht,hk,k⟩:=h
    refine⟨_,a'i (a'r a'x),?_⟩
    obtain⟨x,C,dx,vn,vf,e,h,i,d,r,s⟩:=ht
    exact k _ _ _ (Gr.of (Gr0.refl wd) (Fz.refl F)) (show V.str _=V.str _ from by rw [(b'Z i).1 hk])
theorem g'b (T:Tx w K mg):FnOk P w K mg base CX0 1 T.a_AtLeast_kind T.d_AtLeast_kind ["self"] (spK T 1):=by
  refine T.F_AtLeast_kind.ok f'W (fun vs H Q E h=>?_) (fun cdv A outer s H vs Q E hr h=>?_)
  · obtain⟨F,v,t,rfl,_⟩:=h
    rfl
  · obtain⟨F,v,t,rfl,wd,ht,hk,k⟩:=h
    refine⟨_,a'i (a'r a'x),?_⟩
    obtain⟨x,C,dx,vn,vf,e,h,i,d,r,s⟩:=ht
    exact k _ _ _ (Gr.of (Gr0.refl wd) (Fz.refl F)) (show V.str _=V.str _ from by rw [(b'Z i).2.1 hk])
theorem g'C (T:Tx w K mg):FnOk P w K mg base CX0 1 T.a_AtMost_kind T.d_AtMost_kind ["self"] (spK T 2):=by
  refine T.F_AtMost_kind.ok g'r (fun vs H Q E h=>?_) (fun cdv A outer s H vs Q E hr h=>?_)
  · obtain⟨F,v,t,rfl,_⟩:=h
    rfl
  · obtain⟨F,v,t,rfl,wd,ht,hk,k⟩:=h
    refine⟨_,a'i (a'r a'x),?_⟩
    obtain⟨x,C,dx,vn,vf,e,h,i,d,r,s⟩:=ht
    exact k _ _ _ (Gr.of (Gr0.refl wd) (Fz.refl F)) (show V.str _=V.str _ from by rw [(b'Z i).2.2 hk])
theorem n'c (T:Tx w K mg):∀ (C:Addr) (g:Nat),DW T C g→MOk P w K mg base CX0 1 "kind" C (spK T g)
  | _, _, .inl ⟨rfl, rfl⟩ => ⟨T.cl_Just, _, _, T.mt_Just_kind, i'l T, T.b_Just_kind⟩
  | _, _, .inr (.inl ⟨rfl, rfl⟩) => ⟨T.cl_AtLeast, _, _, T.mt_AtLeast_kind, g'b T, T.b_AtLeast_kind⟩
  | _, _, .inr (.inr ⟨rfl, rfl⟩) => ⟨T.cl_AtMost, _, _, T.mt_AtMost_kind, g'C T, T.b_AtMost_kind⟩
theorem n'd {T:Tx w K mg} {F H:Hp} {v:V} {t:Wi} (wd:Same F H) (h:rW T F v t):∃ ty,TyR K H v ty∧PySem.W.kitOne K ty (.ref T.c_Just)=some (decide (t.2.2.1=("just":Str))):=by
  obtain⟨x,C,dx,vn,vf,e,h,i,d,r,s⟩:=h
  rcases d with ⟨rfl,hk⟩ | ⟨rfl,hk⟩ | ⟨rfl,hk⟩
  · refine⟨_,.inr ⟨x,_,dx,_,e,rfl,wd.rd h,T.ik_Just⟩,?_⟩
    rw [(b'Z i).1 hk]
    exact T.kc_Just_Just
  · refine⟨_,.inr ⟨x,_,dx,_,e,rfl,wd.rd h,T.ik_AtLeast⟩,?_⟩
    rw [(b'Z i).2.1 hk]
    exact T.kc_AtLeast_Just
  · refine⟨_,.inr ⟨x,_,dx,_,e,rfl,wd.rd h,T.ik_AtMost⟩,?_⟩
    rw [(b'Z i).2.2 hk]
    exact T.kc_AtMost_Just
theorem j'K {T:Tx w K mg} {F H:Hp} {v:V} {t:Wi} (wd:Same F H) (h:rW T F v t):∃ ty,TyR K H v ty∧PySem.W.kitOne K ty (.ref T.c_AtLeast)=some (decide (t.2.2.1=("least":Str))):=by
  obtain⟨x,C,dx,vn,vf,e,h,i,d,r,s⟩:=h
  rcases d with ⟨rfl,hk⟩ | ⟨rfl,hk⟩ | ⟨rfl,hk⟩
  · refine⟨_,.inr ⟨x,_,dx,_,e,rfl,wd.rd h,T.ik_Just⟩,?_⟩
    rw [(b'Z i).1 hk]
    exact T.kc_Just_AtLeast
  · refine⟨_,.inr ⟨x,_,dx,_,e,rfl,wd.rd h,T.ik_AtLeast⟩,?_⟩
    rw [(b'Z i).2.1 hk]
    exact T.kc_AtLeast_AtLeast
  · refine⟨_,.inr ⟨x,_,dx,_,e,rfl,wd.rd h,T.ik_AtMost⟩,?_⟩
    rw [(b'Z i).2.2 hk]
    exact T.kc_AtMost_AtLeast
theorem k'Z {T:Tx w K mg} {F H:Hp} {v:V} {t:Wi} (wd:Same F H) (h:rW T F v t):∃ ty,TyR K H v ty∧PySem.W.kitOne K ty (.ref T.c_AtMost)=some (decide (t.2.2.1=("most":Str))):=by
  obtain⟨x,C,dx,vn,vf,e,h,i,d,r,s⟩:=h
  rcases d with ⟨rfl,hk⟩ | ⟨rfl,hk⟩ | ⟨rfl,hk⟩
  · refine⟨_,.inr ⟨x,_,dx,_,e,rfl,wd.rd h,T.ik_Just⟩,?_⟩
    rw [(b'Z i).1 hk]
    exact T.kc_Just_AtMost
  · refine⟨_,.inr ⟨x,_,dx,_,e,rfl,wd.rd h,T.ik_AtLeast⟩,?_⟩
    rw [(b'Z i).2.1 hk]
    exact T.kc_AtLeast_AtMost
  · refine⟨_,.inr ⟨x,_,dx,_,e,rfl,wd.rd h,T.ik_AtMost⟩,?_⟩
    rw [(b'Z i).2.2 hk]
    exact T.kc_AtMost_AtMost
theorem n'e {T:Tx w K mg} {F H:Hp} {v:V} {t:Wi} (wd:Same F H) (h:rW T F v t):∃ ty,TyR K H v ty∧PySem.W.kitOne K ty (.ref T.c_Wish)=some true:=by
  obtain⟨x,C,dx,vn,vf,e,h,i,d,r,s⟩:=h
  rcases d with ⟨rfl,hk⟩ | ⟨rfl,hk⟩ | ⟨rfl,hk⟩
  · exact⟨_,.inr ⟨x,_,dx,_,e,rfl,wd.rd h,T.ik_Just⟩,T.kc_Just_Wish⟩
  · exact⟨_,.inr ⟨x,_,dx,_,e,rfl,wd.rd h,T.ik_AtLeast⟩,T.kc_AtLeast_Wish⟩
  · exact⟨_,.inr ⟨x,_,dx,_,e,rfl,wd.rd h,T.ik_AtMost⟩,T.kc_AtMost_Wish⟩
def sp_Wish_way (T:Tx w K mg):Sp:=fun vs H Q _=>Ex3 fun (F:Hp) (v_self:V) (self:Wi)=>Cj5 (vs=[v_self]) (Same F H) ((rW T) F v_self self) (self.1.dep≤11∧(edg self.1).length≤30∧self.2.1.dep≤11∧(edg self.2.1).length≤30) (∀ (v:V) (F' H':Hp),Gr F H F' H'→rS F' v (wayW (self.1,self.2.1))→Q v H')
theorem d'n (T:Tx w K mg):FnOk P w K mg base CX0 15 T.a_Wish_way T.d_Wish_way ["self"] (sp_Wish_way T):=by
 refine T.F_Wish_way.ok i'y (fun vs H Q E h=>?_) (fun cdv A outer s H vs Q E hr h=>?_)
 ·obtain⟨F,v_self,self,rfl,_⟩:=h
  rfl
 ·obtain⟨F,v_self,self,rfl,wd,r_self,hpre,k⟩:=h
  have hu:=a'M hr
  have gb:=Gr0.refl wd
  have cm:=Fz.refl F
  obtain⟨d1,l1,d2,l2⟩:=hpre
  refine⟨_,(a'i (a'r (h'u (a'u g'L a'x (a'n d'B (a'D (a'H (pv 0) rfl) (fun C g h=>(c'R T C g h).mono (by decide)) hr a'j) (a'D (a'H (pv 0) rfl) (fun C g h=>(c'R T C g h).mono (by decide)) hr a'j)) (by with_unfolding_all rfl)) a'x a'x))),?_⟩
  refine a'A (j'v (a'B (a'f (a_c ?_))))
  have ln1:("down":Str).length=4:=by decide +kernel
  refine a'f (a'O (a'W (a'c rfl ?_)))
  obtain⟨_,_,_,_,v2,ev3,rd4,cl5,na6,lk7,h8⟩:=f'v r_self
  refine⟨_,_,_,_,_,ev3,gb.s.rd rd4,cl5,na6,lk7,?_⟩
  obtain⟨_,_,_,_,ev9,b5,b6,b7⟩:=e'N h8
  refine⟨_,_,_,_,_,ev9,gb.s.rd b5,b6,b7,?_⟩
  refine⟨F,_,self.1,rfl,gb.s,h8,(by exact⟨d1,l1⟩),?_⟩
  rintro e7 b8 e8  b9 c0 
  obtain⟨e9,a7,rfl,c1,oH23,oF24,c2⟩:=c0
  have f0:=gb.h.free c1
  obtain⟨a1,c3,c4⟩:=gr3 gb cm b9
  refine a'O (a'W (a'c rfl ?_))
  obtain⟨_,_,_,_,f1,c5,c6,c7,c8,c9,a8⟩:=g'A (Mo.mo c3 r_self)
  refine⟨_,_,_,_,_,c5,a1.s.rd c6,c7,c8,c9,?_⟩
  obtain⟨_,_,_,_,d0,d3,d4,d5⟩:=e'N a8
  refine⟨_,_,_,_,_,d0,a1.s.rd d3,d4,d5,?_⟩
  refine⟨b8,_,self.2.1,rfl,a1.s,a8,(by exact⟨d2,l2⟩),?_⟩
  rintro f2 f3 d6  a3 d7 
  obtain⟨f4,a9,rfl,b0,oH51,oF52,d8⟩:=d7
  have f5:=a1.h.free b0
  have f6:=a'q oH23 b0
  obtain⟨b1,d9,e0⟩:=gr3 a1 c4 a3
  have oH59:=a3.h _ _ oH23
  have oF60:=a3.own oF24 oH23
  have b2:=(Al.mo d9 c2)
  have b3:=d8
  refine⟨_,_,_,_,rfl,rfl,(SqL.of oH59),(SqL.of oH51),(Nat.le_trans (show _≤100000 by rw [Al.length b2,Al.length b3];have:=c'S self.1;have:=c'S self.2.1;omega) (by decide)),fun e1 e2=>?_⟩
  obtain⟨a2,a0,e3⟩:=al2 (o:=(.lst (a7++a9))) b1.s (by intro _ _ z;cases z) e2
  generalize upd d6 e1 (.lst (a7++a9))=f7 at a0 ⊢
  obtain⟨a4,e4,b4⟩:=gr3 b1 e0 a0
  have oH72:=a0.h _ _ oH59
  have oF73:=a0.own oF60 oH59
  have oH74:=a0.h _ _ oH51
  have oF75:=a0.own oF52 oH51
  have e5:=Al.mo e4 (Al.app b2 b3)
  refine o's (Same.seq a4.s (SqL.of e3)) e5 ?_
  refine a'C ?_
  refine a'V (fun e6=>?_) (fun e6=>?_)
  ·refine a_c ?_
   have f8:("down":Str).length=4:=by decide +kernel
   have hval:(("down":Str):Str)=(wayW (self.1,self.2.1)):=by unfold wayW;first | (rw [if_pos (by assumption)];done) | (rw [if_neg (by assumption)];done)
   have a5:rS a2 (V.str ("down":Str)) (("down":Str)):=rfl
   replace a5:=Eq.mp (congrArg (rS a2 (V.str ("down":Str))) hval) a5
   exact k _ _ _ (Gr.of a4 b4) a5
  ·refine a_c ?_
   have f9:("across":Str).length=6:=by decide +kernel
   have hval:(("across":Str):Str)=(wayW (self.1,self.2.1)):=by unfold wayW;first | (rw [if_pos (by assumption)];done) | (rw [if_neg (by assumption)];done)
   have a6:rS a2 (V.str ("across":Str)) (("across":Str)):=rfl
   replace a6:=Eq.mp (congrArg (rS a2 (V.str ("across":Str))) hval) a6
   exact k _ _ _ (Gr.of a4 b4) a6
theorem l'a (T:Tx w K mg):∀ (C:Addr) (g:Nat),DW T C g→MOk P w K mg base CX0 15 "way" C ((fun _=>sp_Wish_way T) g)
  | _, _, .inl ⟨rfl, rfl⟩ => ⟨T.cl_Just, _, _, T.mt_Just_way, d'n T, T.b_Wish_way⟩
  | _, _, .inr (.inl ⟨rfl, rfl⟩) => ⟨T.cl_AtLeast, _, _, T.mt_AtLeast_way, d'n T, T.b_Wish_way⟩
  | _, _, .inr (.inr ⟨rfl, rfl⟩) => ⟨T.cl_AtMost, _, _, T.mt_AtMost_way, d'n T, T.b_Wish_way⟩
def sp_Wish_row (T:Tx w K mg):Sp:=fun vs H Q _=>Ex3 fun (F:Hp) (v_self:V) (self:Wi)=>Cj6 (vs=[v_self]) (Same F H) (Fz S0 F) ((rW T) F v_self self) (WPre self) (∀ (v:V) (F' H':Hp),Gr F H F' H'→ownR K F' H H' v (rowW self)→Q v H')
theorem d'o (T:Tx w K mg):FnOk P w K mg base CX0 24 T.a_Wish_row T.d_Wish_row ["self"] (sp_Wish_row T):=by
 refine T.F_Wish_row.ok sc_Wish_row (fun vs H Q E h=>?_) (fun cdv A outer s H vs Q E hr h=>?_)
 ·obtain⟨F,v_self,self,rfl,_⟩:=h
  rfl
 ·obtain⟨F,v_self,self,rfl,wd,cm,r_self,hpre,k⟩:=h
  have hu:=a'M hr
  have gb:=Gr0.refl wd
  refine⟨_,(@a'h _ _ _ _ _ (a'w (i:=1) sc_Wish_row.nd rfl (Or.inl rfl) (a'l ((f'X T).mono (by decide)) hr rfl T.m_reduced T.F_reduced.kp T.b_reduced .nil a'j (a'a (a'D (a'H (pv 0) rfl) (fun C g h=>(b'm T 13 C g h).mono (by decide)) hr a'j) (a'a (a'D (a'H (pv 0) rfl) (fun C g h=>(b'm T 13 C g h).mono (by decide)) hr a'j) a'e))))
     (a'i (a'r (b'L (a'a (a'm a'k (pv 1) a'd (fun _ _=>rfl)) (a'a (a'D (pv 0) (fun C g h=>(n'c T C g h).mono (by decide)) hr a'j) (a'a (a'l ((f'q T).mono (by decide)) hr rfl T.m_minus T.F_minus.kp T.b_minus .nil a'j (a'a (b'a (v:=.ref T.c_NOUGHT) rfl T.m_NOUGHT rfl) (a'a (a'm a'k (pv 1) a'd (fun _ _=>rfl)) a'e))) (a'a (a'H (pv 0) rfl) (a'a (a'H (pv 0) rfl) a'e))))))))),?_⟩
  have b0:=c'Q
  refine a's (a'E (a'p (a'b (a'O (a'W (a'c rfl ?_))))))
  obtain⟨_,_,_,_,v1,ev2,rd3,cl4,na5,lk6,h7⟩:=f'v r_self
  refine⟨_,_,_,_,_,ev2,gb.s.rd rd3,cl4,na5,lk6,?_⟩
  obtain⟨_,_,_,_,ev8,rd9,c9,d0⟩:=b'U h7
  refine⟨_,_,_,_,_,ev8,gb.s.rd rd9,c9,d0,?_⟩
  refine⟨F,_,self.1,rfl,gb.s,cm,h7,(by exact hpre.1),?_⟩
  rintro k9 d1 l0  d2 d3 
  obtain⟨l1,l2,l3,l4,rfl,d4,d5,d6,oH26,oF27,d7,d8⟩:=d3
  have d9:=gb.h.free d6
  obtain⟨a5,a3,c0⟩:=gr3 gb cm d2
  obtain⟨l5,rfl,e0⟩:=d5
  refine a'b (a'O (a'W (a'c rfl ?_)))
  obtain⟨_,_,_,_,l6,e1,e2,e3,e4,e5,c1⟩:=g'A (Mo.mo a3 r_self)
  refine⟨_,_,_,_,_,e1,a5.s.rd e2,e3,e4,e5,?_⟩
  obtain⟨_,_,_,_,e6,e7,e8,e9⟩:=b'U c1
  refine⟨_,_,_,_,_,e6,a5.s.rd e7,e8,e9,?_⟩
  refine⟨d1,_,self.2.1,rfl,a5.s,c0,c1,(by exact hpre.2.1),?_⟩
  rintro l7 l8 l9  b3 f0 
  obtain⟨m0,m1,m2,m3,rfl,f1,f2,c2,oH61,oF62,f3,f4⟩:=f0
  have f5:=a5.h.free c2
  have f6:=a'q oH26 c2
  obtain⟨f7,a2,f8⟩:=gr3 a5 c0 b3
  have oH70:=b3.h _ _ oH26
  have oF71:=b3.own oF27 oH26
  obtain⟨m4,rfl,f9⟩:=f2
  refine a'g ?_
  obtain⟨m5,g0,g1,g2,g3,g4⟩:=frz f7 f8 d9 oF71 oH70 (by intro _ _ z;cases z)
  have a1:=Le.of g2
  have oF80:=(g4 _ (Ne.symm f6)).trans oF62
  obtain⟨g5,b4,c3,g6,g7,m6⟩:=frz g0 g1 f5 oF80 oH61 (by intro _ _ z;cases z)
  have a0:=Le.of g6
  refine⟨g5,_,_,(wor self.1),(wor self.2.1),800,rfl,b4.s,c3,⟨_,_,_,rfl,(Le.tup ((a2.trans a1).trans a0) d4),⟨_,_,rfl,(Le.dic a0 (Rd.of g3)),(Dk.mo a0 (Dk.mo (a2.trans a1) d7)),d8⟩,⟨_,rfl,(Le.tup ((a2.trans a1).trans a0) e0)⟩⟩,⟨_,_,_,rfl,(Le.tup (a1.trans a0) f1),⟨_,_,rfl,(Rd.of g7),(Dk.mo (a1.trans a0) f3),f4⟩,⟨_,rfl,(Le.tup (a1.trans a0) f9)⟩⟩,(by exact f'u hpre),?_⟩
  rintro m7 g8 m8  g9 h0 
  obtain⟨m9,c4,n0,n1,rfl,c5,h1,h2,oH101,oF102,h3,h4⟩:=h0
  have h5:=b4.h.free h2
  obtain⟨a8,a6,h6⟩:=gr3 b4 c3 g9
  obtain⟨n2,rfl,h8⟩:=h1
  have hL:bs ((nz (addM ((wor self.1)).1 (nz (sc ((wor self.2.1)).1 (-1)))),((wor self.1)).2+((wor self.2.1)).2*(-1))).2≤1700:=j'c hpre
  refine a'z ?_
  try dsimp only
  refine a'A (b'C (a'b (a'f (a'c rfl (a_c ?_)))))
  refine a'o (Same.tup a8.s c5) rfl ?_
  refine a'b (a'O (a'c rfl ?_))
  obtain⟨_,_,_,_,h9,i0,i1,i2⟩:=l'P (Mo.mo ((((a3.trans a2).trans a1).trans a0).trans a6) r_self)
  refine⟨_,_,_,_,_,h9,a8.s.rd i0,i1,i2,?_⟩
  refine⟨g8,_,self,rfl,a8.s,(Mo.mo ((((a3.trans a2).trans a1).trans a0).trans a6) r_self),(by rfl),?_⟩
  rintro i3 n3 i4  b5 i5 
  obtain⟨a7,a4,i6⟩:=gr3 a8 h6 b5
  have oH125:=b5.h _ _ oH101
  have oF126:=b5.own oF102 oH101
  obtain rfl:i3=V.str (self.2.2.1):=i5
  refine a'b (a'p (a'b (a_c (a'b (a'f (a'c rfl (a_c ?_)))))))
  refine a'o (Same.tup a7.s (Le.tup a4 c5)) rfl ?_
  refine a'g ?_
  refine⟨_,_,0,((nz (addM ((wor self.1)).1 (nz (sc ((wor self.2.1)).1 (-1)))),((wor self.1)).2+((wor self.2.1)).2*(-1))).2,rfl,(Same.tup a7.s (Le.tup (((((a3.trans a2).trans a1).trans a0).trans a6).trans a4) (.inr T.t_NOUGHT))),(Same.tup a7.s (Le.tup a4 h8)),a'Z (by walk_at "o"),a'Z (by walk_at "o"),fun b6 i7=>?_⟩
  obtain⟨n4,a9,i8⟩:=al2 (o:=(.tup (fr (0 - ((nz (addM ((wor self.1)).1 (nz (sc ((wor self.2.1)).1 (-1)))),((wor self.1)).2+((wor self.2.1)).2*(-1))).2)))) a7.s (by intro _ _ z;cases z) i7
  generalize upd i4 b6 (.tup (fr (0 - ((nz (addM ((wor self.1)).1 (nz (sc ((wor self.2.1)).1 (-1)))),((wor self.1)).2+((wor self.2.1)).2*(-1))).2)))=i9 at a9 ⊢
  obtain⟨b1,b7,j0⟩:=gr3 a7 i6 a9
  have oH136:=a9.h _ _ oH125
  have oF137:=a9.own oF126 oH125
  have n5:=e'o 0 ((nz (addM ((wor self.1)).1 (nz (sc ((wor self.2.1)).1 (-1)))),((wor self.1)).2+((wor self.2.1)).2*(-1))).2
  refine a'b (a'W (a'c rfl ?_))
  obtain⟨_,_,_,_,j1,j2,j3,j4,j5,j6,j7⟩:=i'k (Mo.mo ((((((a3.trans a2).trans a1).trans a0).trans a6).trans a4).trans b7) r_self)
  refine⟨_,_,_,_,_,j2,b1.s.rd j3,j4,j5,j6,?_⟩
  obtain rfl:j1=V.int self.2.2.2.1:=j7
  refine a'b (a'W (a'c rfl ?_))
  obtain⟨_,_,_,_,j8,j9,k0,k1,k2,k3,k4⟩:=f'Z (Mo.mo ((((((a3.trans a2).trans a1).trans a0).trans a6).trans a4).trans b7) r_self)
  refine⟨_,_,_,_,_,j9,b1.s.rd k0,k1,k2,k3,?_⟩
  obtain rfl:j8=V.int self.2.2.2.2:=k4
  refine a'g ?_
  refine⟨by show 5≤sizeLine;decide,fun b8 k5=>?_⟩
  obtain⟨c6,b2,k6⟩:=al2 (o:=(.tup [V.ref c4,V.str (self.2.2.1),V.ref b6,V.int self.2.2.2.1,V.int self.2.2.2.2])) b1.s (by intro _ _ z;cases z) k5
  generalize upd i9 b8 (.tup [V.ref c4,V.str (self.2.2.1),V.ref b6,V.int self.2.2.2.1,V.int self.2.2.2.2])=c7 at b2 ⊢
  obtain⟨k7,c8,k8⟩:=gr3 b1 j0 b2
  have oH162:=b2.h _ _ oH136
  have oF163:=b2.own oF137 oH136
  have hval:((((nz (addM ((wor self.1)).1 (nz (sc ((wor self.2.1)).1 (-1)))),((wor self.1)).2+((wor self.2.1)).2*(-1))).1,(self.2.2.1),(0 - ((nz (addM ((wor self.1)).1 (nz (sc ((wor self.2.1)).1 (-1)))),((wor self.1)).2+((wor self.2.1)).2*(-1))).2),self.2.2.2.1,self.2.2.2.2):((List (Str×Rat))×Str×Rat×Int×Int))=(rowW self):=by rfl
  have b9:ownR K c6 H c7 (V.ref b8) ((((nz (addM ((wor self.1)).1 (nz (sc ((wor self.2.1)).1 (-1)))),((wor self.1)).2+((wor self.2.1)).2*(-1))).1,(self.2.2.1),(0 - ((nz (addM ((wor self.1)).1 (nz (sc ((wor self.2.1)).1 (-1)))),((wor self.1)).2+((wor self.2.1)).2*(-1))).2),self.2.2.2.1,self.2.2.2.2)):=⟨_,_,_,_,rfl,(SqT.of k6),⟨_,rfl,(Le.tup c8 (SqT.of i8))⟩,h5,oH162,oF163,(Dk.mo ((a4.trans b7).trans c8) h3),h4⟩
  replace b9:=Eq.mp (congrArg (ownR K c6 H c7 (V.ref b8)) hval) b9
  exact k _ _ _ (Gr.of0 k7 k8) b9
theorem i'm (T:Tx w K mg):∀ (C:Addr) (g:Nat),DW T C g→MOk P w K mg base CX0 24 "row" C ((fun _=>sp_Wish_row T) g)
  | _, _, .inl ⟨rfl, rfl⟩ => ⟨T.cl_Just, _, _, T.mt_Just_row, d'o T, T.b_Wish_row⟩
  | _, _, .inr (.inl ⟨rfl, rfl⟩) => ⟨T.cl_AtLeast, _, _, T.mt_AtLeast_row, d'o T, T.b_Wish_row⟩
  | _, _, .inr (.inr ⟨rfl, rfl⟩) => ⟨T.cl_AtMost, _, _, T.mt_AtMost_row, d'o T, T.b_Wish_row⟩
def sp_Wish_missed (T:Tx w K mg):Sp:=fun vs H Q _=>Ex5 fun (F:Hp) (v_self:V) (v_placing:V) (self:Wi) (placing:(List (Str×Rat)))=>Cj7 (vs=[v_self,v_placing]) (Same F H) (Fz S0 F) ((rW T) F v_self self) ((rD (rFr K)) F v_placing placing) (WPre self∧MPre (rowW self).1 0 placing∧bs (rowW self).2.2.1≤1800) (∀ (v:V) (F' H':Hp),Gr F H F' H'→(rFr K) F' v (misd self.2.2.1 (val (rowW self).1 (plc placing) - (rowW self).2.2.1))→Q v H')
theorem c'w (T:Tx w K mg):FnOk P w K mg base CX0 26 T.a_Wish_missed T.d_Wish_missed ["self","placing"] (sp_Wish_missed T):=by
 refine T.F_Wish_missed.ok g'q (fun vs H Q E h=>?_) (fun cdv A outer s H vs Q E hr h=>?_)
 ·obtain⟨F,v_self,v_placing,self,placing,rfl,_⟩:=h
  rfl
 ·obtain⟨F,v_self,v_placing,self,placing,rfl,wd,cm,r_self,r_placing,hpre,k⟩:=h
  have hu:=a'M hr
  have gb:=Gr0.refl wd
  obtain⟨a1,kvs2,rfl,rd3,dk4,nd5⟩:=r_placing
  obtain⟨p1,p2,p3⟩:=hpre
  refine⟨_,(a'i (a'r (a'l ((k'W T).mono (by decide)) hr rfl T.m_missed_rows T.F_missed.kp T.b_missed .nil a'j (a'a (a'D (pv 0) (fun C g h=>(i'm T C g h).mono (by decide)) hr a'j) (a'a (pv 1) a'e))))),?_⟩
  refine a'A (a'p (a'b (a'O (a'c rfl ?_))))
  obtain⟨_,_,_,_,ev6,rd7,dd8,hl9⟩:=g'B r_self
  refine⟨_,_,_,_,_,ev6,gb.s.rd rd7,dd8,hl9,?_⟩
  refine⟨F,_,self,rfl,gb.s,cm,r_self,(by exact p1),?_⟩
  rintro c7 c8 c9  a8 a9 
  obtain⟨d0,d1,d2,d3,rfl,b0,b1,b2,oH24,oF25,b3,b4⟩:=a9
  have b5:=gb.h.free b2
  obtain⟨b6,a3,b7⟩:=gr3 gb cm a8
  obtain⟨d4,rfl,b8⟩:=b1
  refine a'b (a'c rfl (a'g ?_))
  obtain⟨b9,a4,a5,c0,c1,d5⟩:=frz b6 b7 b5 oF25 oH24 (by intro _ _ z;cases z)
  have a0:=Le.of c0
  refine⟨b9,_,_,(rowW self),placing,rfl,a4.s,a5,⟨_,_,_,_,_,_,rfl,(Le.tup a0 b0),⟨_,_,rfl,(Rd.of c1),(Dk.mo a0 b3),b4⟩,rfl,⟨_,rfl,(Le.tup a0 b8)⟩,rfl,rfl⟩,⟨_,_,rfl,(Le.dic (a3.trans a0) rd3),(Dk.mo (a3.trans a0) dk4),nd5⟩,(by exact⟨p2,p3⟩),?_⟩
  rintro d6 a6 d7  c2 c3 d8
  obtain⟨c4,d9,c5⟩:=gr3 a4 a5 c2
  obtain⟨a7,rfl,c6⟩:=c3
  have hval:((misd ((rowW self)).2.1 (val ((rowW self)).1 (plc placing) - ((rowW self)).2.2.1)):Rat)=(misd self.2.2.1 (val (rowW self).1 (plc placing) - (rowW self).2.2.1)):=by rfl
  have a2:(rFr K) a6 (V.ref a7) ((misd ((rowW self)).2.1 (val ((rowW self)).1 (plc placing) - ((rowW self)).2.2.1))):=⟨_,rfl,c6⟩
  replace a2:=Eq.mp (congrArg ((rFr K) a6 (V.ref a7)) hval) a2
  exact k _ _ _ (Gr.of0 c4 c5) a2
theorem g'X (T:Tx w K mg):∀ (C:Addr) (g:Nat),DW T C g→MOkA P w K mg base CX0 26 "missed" C ["self","placing"] ((fun _=>sp_Wish_missed T) g)
  | _, _, .inl ⟨rfl, rfl⟩ => ⟨T.cl_Just, _, _, T.mt_Just_missed, c'w T, T.b_Wish_missed⟩
  | _, _, .inr (.inl ⟨rfl, rfl⟩) => ⟨T.cl_AtLeast, _, _, T.mt_AtLeast_missed, c'w T, T.b_Wish_missed⟩
  | _, _, .inr (.inr ⟨rfl, rfl⟩) => ⟨T.cl_AtMost, _, _, T.mt_AtMost_missed, c'w T, T.b_Wish_missed⟩
theorem n'f {x y:Int} (h:x.natAbs≤y.natAbs):bi x≤bi y:=o'o (Nat.lt_of_le_of_lt h (e'J (Nat.le_refl _)))
theorem n'g {a b:Int} (hb:0<b):gd b (a % b)=gd a b:=by
  unfold gd
  have e:a % b=a - b*(a / b):=Int.emod_def a b
  rw [e,Int.gcd_sub_mul_left_right,Int.gcd_comm]
/-! the law's terms -/
def wds (d:Int):List Str:=if d=1 then ["top","height","bottom","centre","drop"] else ["left","width","right","middle","gap"]
def nms:List Str:=["a","b","frame","ab","framed"]
def ed (t:Tm):Nat:=(edg t).length
def gT (d:Int):Tm→Prop
  | .num _ => True | .edge x n => x ∈ wds d ∧ n ∈ nms | .times _ t => gT d t | .plus a b => gT d a ∧ gT d b | .minus a b => gT d a ∧ gT d b
theorem l'b {d:Int} {x:Str} (h:x∈wds d):x∈WD:=by
  unfold wds at h
  split at h<;>(simp only [List.mem_cons,List.not_mem_nil,or_false] at h;rcases h with rfl | rfl | rfl | rfl | rfl<;>decide +kernel)
theorem g'D {n:Str} (h:n∈nms):n.length≤20:=by
  simp only [nms,List.mem_cons,List.not_mem_nil,or_false] at h
  rcases h with rfl | rfl | rfl | rfl | rfl<;>decide +kernel
theorem c'a {d:Int}:∀ {t:Tm},gT d t→okT t
  | .num _, _ => True.intro
  | .edge x n, h => ⟨l'b h.1, g'D h.2⟩
  | .times _ t, h => c'a (t := t) h
  | .plus a b, h => ⟨c'a h.1, c'a h.2⟩
  | .minus a b, h => ⟨c'a h.1, c'a h.2⟩
theorem j'e (a b:Tm):ed (.plus a b)=ed a+ed b:=by unfold ed;rw [edg,List.length_append]
theorem l'Q (a b:Tm):ed (.minus a b)=ed a+ed b:=by unfold ed;rw [edg,List.length_append]
def sm (f:Tm→Nat) (ts:List Tm):Nat:=(ts.map f).sum
theorem b'f (f:Tm→Nat) (ts:List Tm) (t:Tm):sm f (ts++[t])=sm f ts+f t:=by unfold sm;rw [List.map_append,List.sum_append];simp
structure SInv (d:Int) (n:Nat) (ts:List Tm):Prop where
  l1:1≤ts.length
  al:∀ t∈ts,gT d t∧t.dep+ts.length≤n+1
  sb:sm bt ts+2*ts.length≤4+27*n
  sn:sm nl ts≤2*(n+1)
  se:sm ed ts≤n+1
theorem SInv.one {d:Int} {t:Tm} (g:gT d t) (h0:t.dep=0) (h1:bt t≤2) (h2:nl t≤2) (h3:ed t≤1):SInv d 0 [t]:=
  ⟨Nat.le_refl _,fun x hx=>by rw [List.mem_singleton.mp hx];exact⟨g,by rw [h0];exact Nat.le_refl _⟩,by show bt t+0+2*1≤4;omega,by show nl t+0≤2;omega,by show ed t+0≤1;omega⟩
theorem SInv.put {d:Int} {i:Nat} {ts:List Tm} {t:Tm} (h:SInv d i ts) (g:gT d t) (h0:t.dep=0) (h1:bt t≤25) (h2:nl t≤2) (h3:ed t≤1):SInv d (i+1) (ts++[t]):=by
  refine⟨by rw [List.length_append];exact Nat.le_add_left _ _,fun x hx=>?_,?_,?_,?_⟩
  · have l0:=h.l1
    have hl:(ts++[t]).length=ts.length+1:=by rw [List.length_append];rfl
    rw [hl]
    rcases List.mem_append.mp hx with z | z
    · have:=h.al x z;exact⟨this.1,by omega⟩
    · rw [List.mem_singleton.mp z,h0]
      refine⟨g,?_⟩
      cases ts with
      | nil=>exact absurd l0 (by decide)
      | cons y r=>have:=(h.al y (.head _)).2;omega
  · rw [b'f,List.length_append];have:=h.sb;simp only [List.length_cons,List.length_nil];omega
  · rw [b'f];have:=h.sn;omega
  · rw [b'f];have:=h.se;omega
theorem SInv.tim {d:Int} {i:Nat} {m ys:List Tm} {x:Tm} {q:Rat} (h:SInv d i m) (e:m=ys++[x]) (hq:bs q≤21):SInv d (i+1) (ys++[.times q x]):=by
  subst e
  have hl:(ys++[x]).length=ys.length+1:=by rw [List.length_append];rfl
  have hl':(ys++[Tm.times q x]).length=ys.length+1:=by rw [List.length_append];rfl
  have a:=h.al x (List.mem_append.mpr (.inr (.head _)))
  refine⟨by rw [hl'];exact Nat.le_add_left _ _,fun y hy=>?_,?_,?_,?_⟩
  · rw [hl']
    rcases List.mem_append.mp hy with z | z
    · have:=h.al y (List.mem_append.mpr (.inl z));exact⟨this.1,by have:=this.2;omega⟩
    · rw [List.mem_singleton.mp z];exact⟨a.1,by show x.dep+1+_≤_;have:=a.2;omega⟩
  · rw [b'f,hl'];have:=h.sb;rw [b'f,hl] at this;show _+(bs q+bt x+1)+_≤_;omega
  · rw [b'f];have:=h.sn;rw [b'f] at this;show _+nl x≤_;omega
  · rw [b'f];have:=h.se;rw [b'f] at this;show _+ed x≤_;omega
theorem SInv.dbl {d:Int} {i k:Nat} {ys:List Tm} {x o z:Tm} (h:SInv d i ((ys++[x])++[o])) (hk:i≤k) (g:gT d x→gT d o→gT d z) (hd:z.dep=max x.dep o.dep+1) (hb:bt z+2*i≤bt x+bt o+2+2*k) (hn:nl z=nl x+nl o) (he:ed z=ed x+ed o):SInv d k (ys++[z]):=by
  have hl:((ys++[x])++[o]).length=ys.length+2:=by rw [List.length_append,List.length_append];rfl
  have hl':(ys++[z]).length=ys.length+1:=by rw [List.length_append];rfl
  have a:=h.al x (List.mem_append.mpr (.inl (List.mem_append.mpr (.inr (.head _)))))
  have b:=h.al o (List.mem_append.mpr (.inr (.head _)))
  refine⟨by rw [hl'];exact Nat.le_add_left _ _,fun y hy=>?_,?_,?_,?_⟩
  · rw [hl']
    rcases List.mem_append.mp hy with w | w
    · have:=h.al y (List.mem_append.mpr (.inl (List.mem_append.mpr (.inl w))));exact⟨this.1,by have:=this.2;omega⟩
    · rw [List.mem_singleton.mp w];exact⟨g a.1 b.1,by have:=a.2;have:=b.2;omega⟩
  · rw [b'f,hl'];have:=h.sb;rw [b'f,b'f,hl] at this;omega
  · rw [b'f];have:=h.sn;rw [b'f,b'f] at this;omega
  · rw [b'f];have:=h.se;rw [b'f,b'f] at this;omega
theorem i'n {α:Type} {a b:List α} {x y:α} (h:a++[x]=b++[y]):a=b∧x=y:=by
  have:=List.append_inj' h rfl
  exact⟨this.1,List.cons.inj this.2 |>.1⟩
theorem SInv.two {d:Int} {i j:Nat} {m ys a b c:List Tm} {o x y u z:Tm} (h:SInv d i m) (e1:m=ys++[o]) (hp:([Tm.plus x o,Tm.minus y o]:List Tm)[j]?=some z) (e2:ys=a++[x]) (e3:ys=b++[y]) (e4:ys=c++[u]):SInv d (i+1) (c++[z]):=by
  obtain⟨rfl,rfl⟩:=i'n (e2.symm.trans e4)
  obtain⟨rfl,rfl⟩:=i'n (e3.symm.trans e4)
  subst e1 e2
  have m:=List.mem_of_getElem? hp
  simp only [List.mem_cons,List.not_mem_nil,or_false] at m
  rcases m with rfl | rfl
  · exact h.dbl (Nat.le_succ _) (fun p q=>⟨p,q⟩) rfl (by simp only [bt];omega) rfl (j'e _ _)
  · exact h.dbl (Nat.le_succ _) (fun p q=>⟨p,q⟩) rfl (by simp only [bt];omega) rfl (l'Q _ _)
theorem SInv.pls {d:Int} {n:Nat} {m ys c:List Tm} {o x:Tm} (h:SInv d n m) (e1:m=ys++[o]) (e2:ys=c++[x]):SInv d n (c++[.plus x o]):=by
  subst e1 e2
  exact h.dbl (Nat.le_refl _) (fun p q=>⟨p,q⟩) rfl (by simp only [bt];omega) rfl (j'e _ _)
/-- a term of the law -/
structure GT (d:Int) (t:Tm):Prop where
  g:gT d t
  dp:t.dep≤7
  b:bt t≤200
  n:nl t≤14
  e:(edg t).length≤7
theorem SInv.fin {d:Int} {n:Nat} {m:List Tm} {x:Tm} (h:SInv d n m) (hn:n≤6) (hl:m.length≤1) (hx:m[(Int.toNat 0)]?=some x):GT d x∧x.dep≤6∧bt x≤164:=by
  match m,hl,hx with
  | [y], _, hx =>
    have e:y=x:=Option.some.inj hx
    subst e
    have a:=h.al y (.head _)
    have b:bt y+0+2*1≤4+27*n:=h.sb
    have c:nl y+0≤2*(n+1):=h.sn
    have e':ed y+0≤n+1:=h.se
    have d':y.dep+1≤n+1:=a.2
    exact⟨⟨a.1,by omega,by omega,by omega,by show ed y≤7;omega⟩,by omega,by omega⟩
theorem n'h {d:Int} {l:List Str} {x n:Str} {j:Nat} (hd:d=0∨d=1) (h1:([["left","width","right","middle","gap"],["top","height","bottom","centre","drop"]]:List (List Str))[d.toNat]?=some l) (h2:l[j]?=some x) (hn:n∈nms):gT d (.edge x n):=by
  refine⟨?_,hn⟩
  have m2:=List.mem_of_getElem? h2
  rcases hd with rfl | rfl
  · cases h1;exact m2
  · cases h1;exact m2
theorem o'M {x:Str} (h:x∈(["a","b","frame","ab"]:List Str)):x∈nms:=by
  simp only [List.mem_cons,List.not_mem_nil,or_false] at h
  rcases h with rfl | rfl | rfl | rfl<;>decide +kernel
def sp_law_cell_at (K:PySem.W.Frag):Sp:=fun vs H Q _=>Ex5 fun (F:Hp) (v_script:V) (v_k':V) (script:(List Int)) (k':Int)=>Cj6 (vs=[v_script,v_k']) (Same F H) (∃ a,v_script=.ref a∧SqL K H a (script.map V.int)) (rI F v_k' k') (0≤k') (∀ (v:V) (F' H':Hp) (r:Int),Gr F H F' H'→rI F' v r→Q v H')
theorem b'A (T:Tx w K mg):FnOk P w K mg base CX0 1 T.a_law_cell_at T.d_law_cell_at ["_law_script","_law_k"] (sp_law_cell_at K):=by
 refine T.F_law_cell_at.ok g'p (fun vs H Q E h=>?_) (fun cdv A outer s H vs Q E hr h=>?_)
 ·obtain⟨F,v_script,v_k',script,k',rfl,_⟩:=h
  rfl
 ·obtain⟨F,v_script,v_k',script,k',rfl,wd,r_script,r_k',hpre,k⟩:=h
  have hu:=a'M hr
  have gb:=Gr0.refl wd
  have cm:=Fz.refl F
  obtain⟨a1,rfl,sq2⟩:=r_script
  obtain rfl:v_k'=V.int k':=r_k'
  refine⟨_,(@a'h _ _ _ _ _ (a'P (a'u d'e (pv 1) (a'F b'w rfl T.z_len rfl (a'a (pv 0) a'e)) (a'y _)) (a'i (a'r (a'm b'l (pv 0) (pv 1) (fun _ _=>rfl)))) a'N)
     (a'i (a'r a'd))),?_⟩
  refine a's (b'd (a'B (a'f (a'c rfl (a'U (a'b (a'c rfl ?_)))))))
  refine a'g ?_
  refine⟨_,_,rfl,.inl (Same.seq gb.h sq2),?_⟩
  rw [Al.length (d'z (F:=F) (ns:=script))]
  refine b'g (a'C ?_)
  refine a'V (fun c3=>?_) (fun c3=>?_)
  ·refine a'A (a'f (a'c rfl (a'c rfl ?_)))
   obtain⟨x5,v4,h6,h7,h8⟩:=Al.ix (d'z (F:=F) (ns:=script)) (i:=k') (by walk_at "o") (by walk_at "ol")
   refine b'T (Same.seq gb.h sq2) h7 ?_
   obtain rfl:v4=V.int x5:=h8
   exact k _ _ _ (x5) (Gr.of gb cm) (rfl)
  ·refine a'G ?_
   try dsimp only
   refine a'A (a_c ?_)
   exact k _ _ _ (0) (Gr.of gb cm) (rfl)
def sp_law_mixed (K:PySem.W.Frag):Sp:=fun vs H Q _=>Ex5 fun (F:Hp) (v_cell:V) (v_k':V) (cell:Int) (k':Int)=>Cj5 (vs=[v_cell,v_k']) (Same F H) (rI F v_cell cell) (rI F v_k' k') (∀ (v:V) (F' H':Hp) (r:Int),Gr F H F' H'→rI F' v r→(0≤r∧r<2147483647)→Q v H')
theorem c'n (T:Tx w K mg):FnOk P w K mg base CX0 1 T.a_law_mixed T.d_law_mixed ["_law_cell","_law_k"] (sp_law_mixed K):=by
 refine T.F_law_mixed.ok sc_law_mixed (fun vs H Q E h=>?_) (fun cdv A outer s H vs Q E hr h=>?_)
 ·obtain⟨F,v_cell,v_k',cell,k',rfl,_⟩:=h
  rfl
 ·obtain⟨F,v_cell,v_k',cell,k',rfl,wd,r_cell,r_k',k⟩:=h
  have hu:=a'M hr
  have gb:=Gr0.refl wd
  have cm:=Fz.refl F
  obtain rfl:v_cell=V.int cell:=r_cell
  obtain rfl:v_k'=V.int k':=r_k'
  refine⟨_,(@a'h _ _ _ _ _ (a'w (i:=2) sc_law_mixed.nd rfl (Or.inl rfl) (a'n a'S (a'n a'L (a'n b'X (a'n b'X (pv 0) (a'n a'L a'd (pv 1))) a'd) a'd) a'd))
     (a'i (a'r (a'n a'S (a'n a'L (pv 2) (a'n b'X (a'n b'R (pv 2) a'd) a'd)) a'd)))),?_⟩
  refine a's (a'E (a'f (a'f (a'f (a'f (a'c rfl (a'f ?_)))))))
  refine a_c (a'c rfl ?_)
  refine a_I (j'A (by decide) (by decide)) ?_
  refine b'g (a_c (b'g (a_c ?_)))
  refine a_I (l'X (by decide) (by decide)) ?_
  refine a_c ?_
  refine a_I (by decide) ?_
  have m1:0≤((((cell+(7919*k'))+1)*48271) % 2147483647)∧((((cell+(7919*k'))+1)*48271) % 2147483647)<2147483647:=⟨Int.emod_nonneg _ (by decide),Int.emod_lt_of_pos _ (by decide)⟩
  refine a'z ?_
  try dsimp only
  refine a'A (a'f (a'f (a'c rfl (a'f (a'f (a'c rfl (a_c ?_)))))))
  refine a_I ⟨by decide,by decide⟩ ?_
  refine a_c (b'g ?_)
  refine a_I (by walk_at "om") ?_
  refine a_c ?_
  refine a_I (by decide) ?_
  have m2:0≤((((((cell+(7919*k'))+1)*48271) % 2147483647)*((((((cell+(7919*k'))+1)*48271) % 2147483647) / 1009)+69621)) % 2147483647)∧((((((cell+(7919*k'))+1)*48271) % 2147483647)*((((((cell+(7919*k'))+1)*48271) % 2147483647) / 1009)+69621)) % 2147483647)<2147483647:=⟨Int.emod_nonneg _ (by decide),Int.emod_lt_of_pos _ (by decide)⟩
  exact k _ _ _ (((((((cell+(7919*k'))+1)*48271) % 2147483647)*((((((cell+(7919*k'))+1)*48271) % 2147483647) / 1009)+69621)) % 2147483647)) (Gr.of gb cm) (rfl) (by walk_at "o")
def sp_law_shared (K:PySem.W.Frag):Sp:=fun vs H Q _=>Ex5 fun (F:Hp) (v_one:V) (v_other:V) (one:Int) (other:Int)=>Cj5 (vs=[v_one,v_other]) (Same F H) (rI F v_one one) (rI F v_other other) (∀ (v:V) (F' H':Hp),Gr F H F' H'→rI F' v (gd one other)→Q v H')
theorem e'c (T:Tx w K mg):FnOk P w K mg base CX0 1 T.a_law_shared T.d_law_shared ["_law_one","_law_other"] (sp_law_shared K):=by
 refine T.F_law_shared.ok sc_law_shared (fun vs H Q E h=>?_) (fun cdv A outer s H vs Q E hr h=>?_)
 ·obtain⟨F,v_one,v_other,one,other,rfl,_⟩:=h
  rfl
 ·obtain⟨F,v_one,v_other,one,other,rfl,wd,r_one,r_other,k⟩:=h
  have hu:=a'M hr
  have gb:=Gr0.refl wd
  have cm:=Fz.refl F
  obtain rfl:v_one=V.int one:=r_one
  obtain rfl:v_other=V.int other:=r_other
  refine⟨_,(@a'h _ _ _ _ _ (a'w (i:=0) sc_law_shared.nd rfl (Or.inl rfl) (a'F c's rfl T.z_abs rfl (a'a (pv 0) a'e)))
     (@a'h _ _ _ _ _ (a'w (i:=1) sc_law_shared.nd rfl (Or.inl rfl) (a'F c's rfl T.z_abs rfl (a'a (pv 1) a'e)))
     (@a'h _ _ _ _ _ (f'e PassesOwn.never (a'u b'H (pv 1) a'd (a'y _)) (a'i (n'q (i:=0) (j:=1) rfl sc_law_shared.nd rfl rfl (by decide) rfl rfl (a'a (pv 1) (a'a (a'n a'S (pv 0) (pv 1)) a'e)) rfl)))
     (a'i (a'r (pv 0)))))),?_⟩
  refine a's (a'E (a'U (a'b (a'c rfl (a'g ?_)))))
  refine⟨_,rfl,?_⟩
  refine a'z ?_
  try dsimp only
  refine a's (a'E (a'U (a'b (a'c rfl (a'g ?_)))))
  refine⟨_,rfl,?_⟩
  refine a'z ?_
  try dsimp only
  refine a's ?_
  refine⟨fun m σ' H'=>Ex3 fun (F1:Hp) (one2:Int) (other3:Int)=>Cj6 (σ'=[some (V.int one2),some (V.int other3)]) (Gr0 F H F1 H') (Fz (frzd F) F1) (Le F F1) ((0≤one2∧0≤other3∧gd one2 other3=gd one other)) (m=other3.toNat),⟨(if other<0 then -other else other).toNat,?_⟩,?_⟩
  ·exact⟨F,(if one<0 then -one else one),(if other<0 then -other else other),rfl,gb,cm,Le.refl _,by exact⟨by split<;>omega,by split<;>omega,by rw [f'F,f'F];exact k'k _ _⟩,rfl⟩
  ·rintro m σ' H4 ⟨F5,one9,a0,rfl,gb6,cm7,le8,⟨i0,i1,i2⟩,rfl⟩
   refine a'B (a'f (a'c rfl (a_c (c'L (a'C ?_)))))
   refine b'r (fun a2=>?_) (fun a2=>?_)
   ·refine⟨fun σ' H'=>Ex3 fun (F1:Hp) (one2:Int) (other3:Int)=>Cj6 (σ'=[some (V.int one2),some (V.int other3)]) (Gr0 F H F1 H') (Fz (frzd F) F1) (Le F F1) ((0≤one2∧0≤other3∧gd one2 other3=gd one other)) (other3.toNat<a0.toNat),fun σ' H' ⟨y0,y1,y2,y3,y4,y5,y6,y7,hlt⟩=>⟨_,hlt,y0,y1,y2,y3,y4,y5,y6,y7,rfl⟩,?_⟩
    refine l'U (a'b (a'c rfl (a'b (a'f (a'c rfl (a'c rfl ?_))))))
    refine a_I (by walk_at "o") ?_
    have a3:0≤(one9 % a0)∧(one9 % a0)<a0:=⟨Int.emod_nonneg _ (by walk_at "o"),Int.emod_lt_of_pos _ (by walk_at "o")⟩
    refine a'g (k'h ?_)
    try dsimp only
    exact⟨F5,a0,(one9 % a0),rfl,gb6,cm7,le8,by exact⟨by omega,Int.emod_nonneg _ (by omega),by rw [n'g (by omega)];exact i2⟩,by (have:=Int.emod_lt_of_pos one9 (show 0<a0 by omega);omega)⟩
   ·try dsimp only
    refine a'A (a'c rfl ?_)
    have hval:(one9:Int)=(gd one other):=by (have e:a0=0:=(by omega);rw [e,i'K _ i0] at i2;exact i2)
    have a1:rI F5 (V.int one9) (one9):=rfl
    replace a1:=Eq.mp (congrArg (rI F5 (V.int one9)) hval) a1
    exact k _ _ _ (Gr.of gb6 cm7) a1
def sp_law_lowest (K:PySem.W.Frag):Sp:=fun vs H Q _=>Ex5 fun (F:Hp) (v_top:V) (v_bottom:V) (top:Int) (bottom:Int)=>Cj6 (vs=[v_top,v_bottom]) (Same F H) (rI F v_top top) (rI F v_bottom bottom) (0<bottom∧bi bottom≤7000) (∀ (v:V) (F' H':Hp),Gr F H F' H'→(rFr K) F' v (Rat.divInt top bottom)→Q v H')
theorem b'E (T:Tx w K mg):FnOk P w K mg base CX0 2 T.a_law_lowest T.d_law_lowest ["_law_top","_law_bottom"] (sp_law_lowest K):=by
 refine T.F_law_lowest.ok sc_law_lowest (fun vs H Q E h=>?_) (fun cdv A outer s H vs Q E hr h=>?_)
 ·obtain⟨F,v_top,v_bottom,top,bottom,rfl,_⟩:=h
  rfl
 ·obtain⟨F,v_top,v_bottom,top,bottom,rfl,wd,r_top,r_bottom,hpre,k⟩:=h
  have hu:=a'M hr
  have gb:=Gr0.refl wd
  have cm:=Fz.refl F
  obtain rfl:v_top=V.int top:=r_top
  obtain rfl:v_bottom=V.int bottom:=r_bottom
  obtain⟨hb,hz⟩:=hpre
  refine⟨_,(@a'h _ _ _ _ _ (a'w (i:=2) sc_law_lowest.nd rfl (Or.inl rfl) (a'l ((e'c T).mono (by decide)) hr rfl T.m_law_shared T.F_law_shared.kp T.b_law_shared .nil a'j (a'a (pv 0) (a'a (pv 1) a'e))))
     (a'i (a'r (b'L (a'a (a'n d'N (pv 0) (pv 2)) (a'a (a'n d'N (pv 1) (pv 2)) a'e)))))),?_⟩
  refine a's (a'E (a'p (a'b (a'c rfl (a'b (a'c rfl (a'g ?_)))))))
  refine⟨F,_,_,top,bottom,rfl,gb.s,rfl,rfl,?_⟩
  rintro v1 F2 H3  g5 hr6 
  obtain⟨gb8,le9,a3⟩:=gr3 gb cm g5
  obtain rfl:v1=V.int (gd top bottom):=hr6
  refine a'z ?_
  try dsimp only
  have hb0:bottom≠0:=by omega
  have hd:=h'p (t:=top) hb0
  have ed':gd top bottom=dv top bottom:=by unfold dv;rw [if_neg (by omega)]
  have hl:bi (gd top bottom)≤8000:=by rw [ed'];exact Nat.le_trans (n'f (m'b hb0)) (by omega)
  refine a'A (b'C (a'b (a'f (a'c rfl (a'c rfl ?_)))))
  refine a_I (by walk_at "od") ?_
  refine a'b (a'f (a'c rfl (a'c rfl ?_)))
  refine a_I (by walk_at "od") ?_
  refine a'g ?_
  refine⟨by show 2≤sizeLine;decide,fun a0 a4=>?_⟩
  obtain⟨a1,a2,a5⟩:=al2 (o:=(.tup [V.int (Int.fdiv top (gd top bottom)),V.int (Int.fdiv bottom (gd top bottom))])) gb8.s (by intro _ _ z;cases z) a4
  generalize upd H3 a0 (.tup [V.int (Int.fdiv top (gd top bottom)),V.int (Int.fdiv bottom (gd top bottom))])=b0 at a2 ⊢
  obtain⟨a6,b1,a7⟩:=gr3 gb8 a3 a2
  have a8:SqT K a1 a0 (fr (Rat.divInt top bottom)):=by rw [show fr (Rat.divInt top bottom)=[V.int (Int.fdiv top (gd top bottom)),V.int (Int.fdiv bottom (gd top bottom))] from by unfold fr;rw [← f'h hb0,← f'i hb0,← ed']];exact SqT.of a5
  have a9:(rFr K) a1 (V.ref a0) ((Rat.divInt top bottom)):=⟨_,rfl,a8⟩
  exact k _ _ _ (Gr.of a6 a7) a9
def sp_law_number (K:PySem.W.Frag):Sp:=fun vs H Q _=>Ex3 fun (F:Hp) (v_cell:V) (cell:Int)=>Cj4 (vs=[v_cell]) (Same F H) (rI F v_cell cell) (∀ (v:V) (F' H':Hp) (r:Rat),Gr F H F' H'→(rFr K) F' v r→(bs r≤21)→Q v H')
theorem e'd (T:Tx w K mg):FnOk P w K mg base CX0 3 T.a_law_number T.d_law_number ["_law_cell"] (sp_law_number K):=by
 refine T.F_law_number.ok sc_law_number (fun vs H Q E h=>?_) (fun cdv A outer s H vs Q E hr h=>?_)
 ·obtain⟨F,v_cell,cell,rfl,_⟩:=h
  rfl
 ·obtain⟨F,v_cell,cell,rfl,wd,r_cell,k⟩:=h
  have hu:=a'M hr
  have gb:=Gr0.refl wd
  have cm:=Fz.refl F
  obtain rfl:v_cell=V.int cell:=r_cell
  refine⟨_,(@a'h _ _ _ _ _ (a'w (i:=1) sc_law_number.nd rfl (Or.inl rfl) (a'n a'S (a'l ((c'n T).mono (by decide)) hr rfl T.m_law_mixed T.F_law_mixed.kp T.b_law_mixed .nil a'j (a'a (pv 0) (a'a a'd a'e))) (a'm b'l (a'T (a'a a'd (a'a a'd (a'a (a'n e'g a'd a'd) a'e)))) (a'n a'S (pv 0) a'd) (fun _ _=>rfl))))
     (a'i (a'r (a'l ((b'E T).mono (by decide)) hr rfl T.m_law_lowest T.F_law_lowest.kp T.b_law_lowest .nil a'j (a'a (a'm b'l (a'T (a'a (pv 1) (a'a (a'n d'r a'd (pv 1)) a'e))) (a'n a'S (a'n b'R (pv 0) a'd) a'd) (fun _ _=>rfl)) (a'a (a'm b'l (a'T (a'a a'd (a'a a'd (a'a a'd (a'a a'd a'e))))) (a'n a'S (a'l ((c'n T).mono (by decide)) hr rfl T.m_law_mixed T.F_law_mixed.kp T.b_law_mixed .nil a'j (a'a (pv 0) (a'a a'd a'e))) a'd) (fun _ _=>rfl)) a'e)))))),?_⟩
  refine a's (a'E (a'f (a'p (a'b (a'c rfl (a'b (a_c ?_)))))))
  refine a'g ?_
  refine⟨F,_,_,cell,1,rfl,gb.s,rfl,rfl,?_⟩
  rintro v1 F2 H3 rz4 g5 hr6 hp7
  obtain⟨gb8,le9,b3⟩:=gr3 gb cm g5
  obtain rfl:v1=V.int rz4:=hr6
  refine a'f (b'j (a'b (a_c (a'b (a_c (a'b (a'f ?_)))))))
  refine a_c (a_c ?_)
  refine e'p (z:=1000000) (by decide) ⟨by decide,by decide,by decide⟩ ?_
  refine a'g ?_
  refine⟨by show 3≤sizeLine;decide,fun b4 b5=>?_⟩
  obtain⟨b6,a7,b7⟩:=al2 (o:=(.lst [V.int 7,V.int 41,V.int 1000000])) gb8.s (by intro _ _ z;cases z) b5
  generalize upd H3 b4 (.lst [V.int 7,V.int 41,V.int 1000000])=b8 at a7 ⊢
  obtain⟨a2,f8,b9⟩:=gr3 gb8 b3 a7
  have c0:Al rI b6 [.int 7,.int 41,.int 1000000] [7,41,1000000]:=⟨rfl,⟨rfl,⟨rfl,True.intro⟩⟩⟩
  refine a'f (a'c rfl (a_c ?_))
  refine a_I (by decide) ?_
  have f9:0≤(cell % 3)∧(cell % 3)<3:=⟨Int.emod_nonneg _ (by decide),Int.emod_lt_of_pos _ (by decide)⟩
  obtain⟨a0,c1,c2,c3,c4⟩:=Al.ix c0 (i:=(cell % 3)) (by walk_at "o") (by walk_at "ol")
  refine b'T (Same.seq a2.s (SqL.of b7)) c3 ?_
  have c5:=List.mem_of_getElem? c2
  simp only [List.mem_cons,List.not_mem_nil,or_false] at c5
  obtain rfl:c1=V.int a0:=c4
  refine a_I (by walk_at "o") ?_
  have g0:0≤(rz4 % a0)∧(rz4 % a0)<a0:=⟨Int.emod_nonneg _ (by walk_at "o"),Int.emod_lt_of_pos _ (by walk_at "o")⟩
  refine a'z ?_
  try dsimp only
  have hT:0≤(rz4 % a0)∧(rz4 % a0)<1000000:=by omega
  refine a'A (a'p (a'b (a'f (b'j (a'b (a'c rfl (a'b ?_)))))))
  refine a'f (a_c (a'c rfl (b'g (a'g ?_))))
  refine⟨by show 2≤sizeLine;decide,fun c6 c7=>?_⟩
  obtain⟨c8,a8,c9⟩:=al2 (o:=(.lst [V.int (rz4 % a0),V.int (0 - (rz4 % a0))])) a2.s (by intro _ _ z;cases z) c7
  generalize upd b8 c6 (.lst [V.int (rz4 % a0),V.int (0 - (rz4 % a0))])=d0 at a8 ⊢
  obtain⟨a3,g1,d1⟩:=gr3 a2 b9 a8
  have d2:Al rI c8 [.int (rz4 % a0),.int (0 - (rz4 % a0))] [(rz4 % a0),(0 - (rz4 % a0))]:=⟨rfl,⟨rfl,True.intro⟩⟩
  refine a'f (a'f (a'c rfl (a_c ?_)))
  refine a_I ⟨by decide,by decide⟩ ?_
  refine a_c ?_
  refine a_I (by decide) ?_
  have g2:0≤((cell / 3) % 2)∧((cell / 3) % 2)<2:=⟨Int.emod_nonneg _ (by decide),Int.emod_lt_of_pos _ (by decide)⟩
  obtain⟨a4,d3,d4,d5,d6⟩:=Al.ix d2 (i:=((cell / 3) % 2)) (by walk_at "o") (by walk_at "ol")
  refine b'T (Same.seq a3.s (SqL.of c9)) d5 ?_
  have d7:=List.mem_of_getElem? d4
  simp only [List.mem_cons,List.not_mem_nil,or_false] at d7
  obtain rfl:d3=V.int a4:=d6
  refine a'b (a'f (b'j (a'b (a_c (a'b (a_c (a'b ?_)))))))
  refine a_c (a'b (a_c (a'g ?_)))
  refine⟨by show 4≤sizeLine;decide,fun d8 d9=>?_⟩
  obtain⟨a9,b0,e0⟩:=al2 (o:=(.lst [V.int 1,V.int 2,V.int 3,V.int 60])) a3.s (by intro _ _ z;cases z) d9
  generalize upd d0 d8 (.lst [V.int 1,V.int 2,V.int 3,V.int 60])=g3 at b0 ⊢
  obtain⟨b1,g4,e1⟩:=gr3 a3 d1 b0
  have e2:Al rI a9 [.int 1,.int 2,.int 3,.int 60] [1,2,3,60]:=⟨rfl,⟨rfl,⟨rfl,⟨rfl,True.intro⟩⟩⟩⟩
  refine a'f (a'p (a'b (a'c rfl (a'b (a_c (a'g ?_))))))
  refine⟨a9,_,_,cell,2,rfl,b1.s,rfl,rfl,?_⟩
  rintro e3 e4 g6 a1 e5 e6 g7
  obtain⟨a5,b2,e7⟩:=gr3 b1 e1 e5
  obtain rfl:e3=V.int a1:=e6
  refine a_c ?_
  refine a_I (by decide) ?_
  have g8:0≤(a1 % 4)∧(a1 % 4)<4:=⟨Int.emod_nonneg _ (by decide),Int.emod_lt_of_pos _ (by decide)⟩
  obtain⟨a6,e8,e9,f0,f1⟩:=Al.ix (Al.mo b2 e2) (i:=(a1 % 4)) (by walk_at "o") (by walk_at "ol")
  refine b'T (Same.seq a5.s (Le.lst b2 (SqL.of e0))) f0 ?_
  have f2:=List.mem_of_getElem? e9
  simp only [List.mem_cons,List.not_mem_nil,or_false] at f2
  obtain rfl:e8=V.int a6:=f1
  refine a'g ?_
  refine⟨e4,_,_,a4,a6,rfl,a5.s,rfl,rfl,(by exact⟨by omega,Nat.le_trans (a'Q 7 (by omega)) (by decide)⟩),?_⟩
  rintro g9 h0 h1  f3 f4 
  obtain⟨f5,h2,f6⟩:=gr3 a5 e7 f3
  obtain⟨h3,rfl,f7⟩:=f4
  exact k _ _ _ ((Rat.divInt a4 a6)) (Gr.of f5 f6) (⟨_,rfl,f7⟩) (by exact b'O (by omega) (a'Q 21 (by omega)) (a'Q 21 (by omega)))
def sp_law_edge (T:Tx w K mg):Sp:=fun vs H Q _=>Ex5 fun (F:Hp) (v_cell:V) (v_down:V) (cell:Int) (down:Int)=>Cj6 (vs=[v_cell,v_down]) (Same F H) (rI F v_cell cell) (rI F v_down down) (down=0∨down=1) (∀ (v:V) (F' H':Hp) (r:Tm),Gr F H F' H'→(rT T) F' v r→(gT down r∧r.dep=0∧bt r≤2∧nl r≤2∧(edg r).length≤1)→Q v H')
theorem f'a (T:Tx w K mg):FnOk P w K mg base CX0 3 T.a_law_edge T.d_law_edge ["_law_cell","_law_down"] (sp_law_edge T):=by
 refine T.F_law_edge.ok sc_law_edge (fun vs H Q E h=>?_) (fun cdv A outer s H vs Q E hr h=>?_)
 ·obtain⟨F,v_cell,v_down,cell,down,rfl,_⟩:=h
  rfl
 ·obtain⟨F,v_cell,v_down,cell,down,rfl,wd,r_cell,r_down,hpre,k⟩:=h
  have hu:=a'M hr
  have gb:=Gr0.refl wd
  have cm:=Fz.refl F
  obtain rfl:v_cell=V.int cell:=r_cell
  obtain rfl:v_down=V.int down:=r_down
  refine⟨_,(@a'h _ _ _ _ _ (a'w (i:=2) sc_law_edge.nd rfl (Or.inl rfl) (a'T (a'a (a'T (a'a a'x (a'a a'x (a'a a'x (a'a a'x (a'a a'x a'e)))))) (a'a (a'T (a'a a'x (a'a a'x (a'a a'x (a'a a'x (a'a a'x a'e)))))) a'e))))
     (@a'h _ _ _ _ _ (a'w (i:=3) sc_law_edge.nd rfl (Or.inl rfl) (a'm b'l (a'T (a'a a'x (a'a a'x (a'a a'x (a'a a'x a'e))))) (a'n a'S (a'n b'R (pv 0) a'd) a'd) (fun _ _=>rfl)))
     (@a'h _ _ _ _ _ (a'P (PW.pt (c'z (a'u b'n (a'n a'S (pv 0) a'd) a'd (a'y _)) (c'q (a'u b'n (pv 3) a'x (a'y _))))) (a'i (a'w (i:=3) sc_law_edge.nd rfl (Or.inl rfl) a'x)) a'N)
     (a'i (a'r (b'v T.mk_Edge ((f'r T).mono (by decide)) hr rfl T.m_Edge T.b_Edge___init__ .nil a'j (a'a (a'm b'l (a'm b'l (pv 2) (pv 1) (fun _ _=>rfl)) (a'n a'S (pv 0) a'd) (fun _ _=>rfl)) (a'a (pv 3) a'e)))))))),?_⟩
  refine a's (a'E (b'j (a'b (b'j (a'b (a_c ?_))))))
  have ln1:("left":Str).length=4:=by decide +kernel
  refine a'b (a_c ?_)
  have ln2:("width":Str).length=5:=by decide +kernel
  refine a'b (a_c ?_)
  have ln3:("right":Str).length=5:=by decide +kernel
  refine a'b (a_c ?_)
  have ln4:("middle":Str).length=6:=by decide +kernel
  refine a'b (a_c ?_)
  have ln5:("gap":Str).length=3:=by decide +kernel
  refine a'g ?_
  refine⟨by show 5≤sizeLine;decide,fun p6 hp7=>?_⟩
  obtain⟨F8,b2,c8⟩:=al2 (o:=(.lst [V.str ("left":Str),V.str ("width":Str),V.str ("right":Str),V.str ("middle":Str),V.str ("gap":Str)])) gb.s (by intro _ _ z;cases z) hp7
  generalize upd H p6 (.lst [V.str ("left":Str),V.str ("width":Str),V.str ("right":Str),V.str ("middle":Str),V.str ("gap":Str)])=H9 at b2 ⊢
  obtain⟨b3,g9,c9⟩:=gr3 gb cm b2
  have d0:Al rS F8 [.str ("left":Str),.str ("width":Str),.str ("right":Str),.str ("middle":Str),.str ("gap":Str)] [("left":Str),("width":Str),("right":Str),("middle":Str),("gap":Str)]:=⟨rfl,⟨rfl,⟨rfl,⟨rfl,⟨rfl,True.intro⟩⟩⟩⟩⟩
  refine a'b (b'j (a'b (a_c ?_)))
  have h0:("top":Str).length=3:=by decide +kernel
  refine a'b (a_c ?_)
  have h1:("height":Str).length=6:=by decide +kernel
  refine a'b (a_c ?_)
  have h2:("bottom":Str).length=6:=by decide +kernel
  refine a'b (a_c ?_)
  have h3:("centre":Str).length=6:=by decide +kernel
  refine a'b (a_c ?_)
  have h4:("drop":Str).length=4:=by decide +kernel
  refine a'g ?_
  refine⟨by show 5≤sizeLine;decide,fun a5 d1=>?_⟩
  obtain⟨d2,b4,d3⟩:=al2 (o:=(.lst [V.str ("top":Str),V.str ("height":Str),V.str ("bottom":Str),V.str ("centre":Str),V.str ("drop":Str)])) b3.s (by intro _ _ z;cases z) d1
  generalize upd H9 a5 (.lst [V.str ("top":Str),V.str ("height":Str),V.str ("bottom":Str),V.str ("centre":Str),V.str ("drop":Str)])=d4 at b4 ⊢
  obtain⟨b5,b6,d5⟩:=gr3 b3 c9 b4
  have d6:Al rS d2 [.str ("top":Str),.str ("height":Str),.str ("bottom":Str),.str ("centre":Str),.str ("drop":Str)] [("top":Str),("height":Str),("bottom":Str),("centre":Str),("drop":Str)]:=⟨rfl,⟨rfl,⟨rfl,⟨rfl,⟨rfl,True.intro⟩⟩⟩⟩⟩
  refine a'g ?_
  refine⟨by show 2≤sizeLine;decide,fun b7 d7=>?_⟩
  obtain⟨d8,b8,d9⟩:=al2 (o:=(.lst [V.ref p6,V.ref a5])) b5.s (by intro _ _ z;cases z) d7
  generalize upd d4 b7 (.lst [V.ref p6,V.ref a5])=e0 at b8 ⊢
  obtain⟨b9,a6,e1⟩:=gr3 b5 d5 b8
  have e2:Al (rL K rS) d8 [.ref p6,.ref a5] [[("left":Str),("width":Str),("right":Str),("middle":Str),("gap":Str)],[("top":Str),("height":Str),("bottom":Str),("centre":Str),("drop":Str)]]:=⟨⟨_,_,rfl,(Le.lst (b6.trans a6) (SqL.of c8)),(Al.mo (b6.trans a6) d0)⟩,⟨⟨_,_,rfl,(Le.lst a6 (SqL.of d3)),(Al.mo a6 d6)⟩,True.intro⟩⟩
  refine a'z ?_
  try dsimp only
  refine a's (a'E (a'f (b'j (a'b (a_c ?_)))))
  have h5:("a":Str).length=1:=by decide +kernel
  refine a'b (a_c ?_)
  have h6:("b":Str).length=1:=by decide +kernel
  refine a'b (a_c ?_)
  have h7:("frame":Str).length=5:=by decide +kernel
  refine a'b (a_c ?_)
  have h8:("ab":Str).length=2:=by decide +kernel
  refine a'g ?_
  refine⟨by show 4≤sizeLine;decide,fun e3 e4=>?_⟩
  obtain⟨a1,c0,e5⟩:=al2 (o:=(.lst [V.str ("a":Str),V.str ("b":Str),V.str ("frame":Str),V.str ("ab":Str)])) b9.s (by intro _ _ z;cases z) e4
  generalize upd e0 e3 (.lst [V.str ("a":Str),V.str ("b":Str),V.str ("frame":Str),V.str ("ab":Str)])=h9 at c0 ⊢
  obtain⟨a7,c1,b0⟩:=gr3 b9 e1 c0
  have e6:Al rS a1 [.str ("a":Str),.str ("b":Str),.str ("frame":Str),.str ("ab":Str)] [("a":Str),("b":Str),("frame":Str),("ab":Str)]:=⟨rfl,⟨rfl,⟨rfl,⟨rfl,True.intro⟩⟩⟩⟩
  refine a'f (a'f (a'c rfl (a_c ?_)))
  refine a_I ⟨by decide,by decide⟩ ?_
  refine a_c ?_
  refine a_I (by decide) ?_
  have i0:0≤((cell / 5) % 4)∧((cell / 5) % 4)<4:=⟨Int.emod_nonneg _ (by decide),Int.emod_lt_of_pos _ (by decide)⟩
  obtain⟨a2,e7,c2,e8,e9⟩:=Al.ix e6 (i:=((cell / 5) % 4)) (by walk_at "o") (by walk_at "ol")
  refine b'T (Same.seq a7.s (SqL.of e5)) e8 ?_
  have c3:=List.mem_of_getElem? c2
  simp only [List.mem_cons,List.not_mem_nil,or_false] at c3
  have i1:a2.length≤5:=by rcases c3 with z | z | z | z<;>(rw [z];decide +kernel)
  have hN:a2∈nms:=o'M (List.mem_of_getElem? c2)
  obtain rfl:e7=V.str a2:=e9
  refine a'z ?_
  try dsimp only
  refine k'g (fun σ' H'=>Ex2 fun (b1:Hp) (c4:Str)=>Cj5 (σ'=[some (V.int cell),some (V.int down),some (V.ref b7),some (V.str c4)]) (Gr0 F H b1 H') (Fz (frzd F) b1) (Le a1 b1) ((c4∈nms))) (fun R hR=>?_) ?_
  ·refine b'd (c'k (a'B (a'f (a'f (a'c rfl (a_c ?_))))))
   refine a_I (by decide) ?_
   have i2:0≤(cell % 5)∧(cell % 5)<5:=⟨Int.emod_nonneg _ (by decide),Int.emod_lt_of_pos _ (by decide)⟩
   refine a_c (c'K (a'C ?_))
   refine a'V (fun f0=>?_) (fun f0=>?_)
   ·refine a'B (a'f (a'c rfl (a_c ?_)))
    have i3:("frame":Str).length=5:=by decide +kernel
    refine c'y (a'C ?_)
    refine a'V (fun f1=>?_) (fun f1=>?_)
    ·refine a'E (a_c ?_)
     have i4:("framed":Str).length=6:=by decide +kernel
     refine a'z ?_
     try dsimp only
     exact hR _ _ ⟨a1,("framed":Str),rfl,a7,b0,Le.refl _,by first | assumption | (decide +kernel)⟩
    ·refine a'G ?_
     try dsimp only
     exact hR _ _ ⟨a1,a2,rfl,a7,b0,Le.refl _,by first | assumption | (decide +kernel)⟩
   ·refine b'x ?_
    refine a'G ?_
    try dsimp only
    exact hR _ _ ⟨a1,a2,rfl,a7,b0,Le.refl _,by first | assumption | (decide +kernel)⟩
  ·rintro σ' f2 ⟨i5,a8,rfl,a9,f3,c5,hM⟩
   refine a'A (b'P (a'b (a'f (a'f (a'c rfl (a'c rfl ?_))))))
   obtain⟨i6,i7,c6,f4,f5⟩:=Al.ix (Al.mo (c1.trans c5) e2) (i:=down) (by walk_at "o") (by walk_at "ol")
   refine b'T (Same.seq a9.s (Le.lst (c1.trans c5) (SqL.of d9))) f4 ?_
   have hg1:=c6
   have hg1l:=l'K c6
   obtain⟨i8,i9,rfl,f6,f7⟩:=f5
   refine a'f (a'c rfl (a_c ?_))
   refine a_I (by decide) ?_
   have j0:0≤(cell % 5)∧(cell % 5)<5:=⟨Int.emod_nonneg _ (by decide),Int.emod_lt_of_pos _ (by decide)⟩
   obtain⟨a3,f8,f9,g0,g1⟩:=Al.ix f7 (i:=(cell % 5)) (by walk_at "o") (by walk_at "ol")
   refine b'T (Same.seq a9.s f6) g0 ?_
   have hg2:=f9
   obtain rfl:f8=V.str a3:=g1
   refine a'b (a'c rfl (a'g ?_))
   intro a0 a4 g2 g3 g4
   refine⟨a0,a4,_,_,rfl,a'v,rfl,?_⟩
   obtain⟨g5,c7,g6⟩:=d'j (C:=T.c_Edge) (fs:=[(("word":Str),V.str a3),(("name":Str),V.str a8)]) a9.s g2 g3 g4
   generalize upd (upd (upd f2 a4 (.own a0)) a0 (.ins T.c_Edge a4 [])) a0 (.ins T.c_Edge a4 [(("word":Str),V.str a3),(("name":Str),V.str a8)])=j1 at c7 ⊢
   obtain⟨g7,j2,g8⟩:=gr3 a9 f3 c7
   have hT98:rT T g5 (V.ref a0) (Tm.edge a3 a8):=⟨a0,a4,rfl,.inl g6⟩
   exact k _ _ _ ((Tm.edge a3 a8)) (Gr.of g7 g8) (hT98) (by exact⟨n'h hpre hg1 hg2 hM,rfl,Nat.le_refl _,Nat.le_refl _,Nat.le_refl _⟩)
def sp_law_term (T:Tx w K mg):Sp:=fun vs H Q _=>Ex5 fun (F:Hp) (v_cells:V) (v_down:V) (cells:(List Int)) (down:Int)=>Cj6 (vs=[v_cells,v_down]) (Same F H) ((rL K rI) F v_cells cells) (rI F v_down down) (cells.length≤6∧(down=0∨down=1)) (∀ (v:V) (F' H':Hp) (r:Tm),Gr F H F' H'→(rT T) F' v r→(GT down r∧r.dep≤6∧bt r≤164)→Q v H')
theorem f'b (T:Tx w K mg):FnOk P w K mg base CX0 5 T.a_law_term T.d_law_term ["_law_cells","_law_down"] (sp_law_term T):=by
 refine T.F_law_term.ok sc_law_term (fun vs H Q E h=>?_) (fun cdv A outer s H vs Q E hr h=>?_)
 ·obtain⟨F,v_cells,v_down,cells,down,rfl,_⟩:=h
  rfl
 ·obtain⟨F,v_cells,v_down,cells,down,rfl,wd,r_cells,r_down,hpre,k⟩:=h
  have hu:=a'M hr
  have gb:=Gr0.refl wd
  have cm:=Fz.refl F
  obtain⟨a1,vs2,rfl,sq3,al4⟩:=r_cells
  obtain rfl:v_down=V.int down:=r_down
  obtain⟨w1,hd⟩:=hpre
  refine⟨_,(@a'h _ _ _ _ _ (a'w (i:=2) sc_law_term.nd rfl (Or.inl rfl) (a'T (a'a (a'l ((f'a T).mono (by decide)) hr rfl T.m_law_edge T.F_law_edge.kp T.b_law_edge .nil a'j (a'a (a'F b'w rfl T.z_len rfl (a'a (pv 0) a'e)) (a'a (pv 1) a'e))) a'e)))
     (@a'h _ _ _ _ _ (d'q PassesOwn.never rfl (g'e (pv 0)) (a'K (i:=3) sc_law_term.nd rfl (Or.inl rfl)) (@a'h _ _ _ _ _ (a'w (i:=4) sc_law_term.nd rfl (Or.inl rfl) (a'n a'S (pv 3) a'd))
     (a'i (a'P (PW.pt (b'B (a'u d'e (pv 4) a'd (a'y _)) (b'W (PW.pt (c'z (a'u h'o (pv 4) a'd (a'y _)) (c'q (a'u b'n (a'F b'w rfl T.z_len rfl (a'a (pv 2) a'e)) a'd (a'y _)))))))) (a'i (c'r (e'B PySem.F.plainAttrs_list PySem.F.slot_list_append PySem.F.type_list_append c'B (pv 2) (a'a (a'l ((f'a T).mono (by decide)) hr rfl T.m_law_edge T.F_law_edge.kp T.b_law_edge .nil a'j (a'a (a'n b'R (pv 3) a'd) (a'a (pv 1) a'e))) a'e)))) (a'i (a'P (a'u b'n (pv 4) a'd (a'y _)) (a'i (c'r (e'B PySem.F.plainAttrs_list PySem.F.slot_list_append PySem.F.type_list_append c'B (pv 2) (a'a (b'v T.mk_Number ((c'H T).mono (by decide)) hr rfl T.m_Number T.b_Number___init__ .nil a'j (a'a (a'l ((e'd T).mono (by decide)) hr rfl T.m_law_number T.F_law_number.kp T.b_law_number .nil a'j (a'a (a'n b'R (pv 3) a'd) a'e)) a'e)) a'e)))) (a'i (a'P (a'u d'e (pv 4) a'd (a'y _)) (a'i (c'r (e'B PySem.F.plainAttrs_list PySem.F.slot_list_append PySem.F.type_list_append c'B (pv 2) (a'a (b'v T.mk_Times ((e'V T).mono (by decide)) hr rfl T.m_Times T.b_Times___init__ .nil a'j (a'a (a'l ((e'd T).mono (by decide)) hr rfl T.m_law_number T.F_law_number.kp T.b_law_number .nil a'j (a'a (a'n b'R (pv 3) a'd) a'e)) (a'a (e'j PySem.F.plainAttrs_list PySem.F.slot_list_pop PySem.F.type_list_pop f'D (pv 2)) a'e))) a'e)))) (@a'h _ _ _ _ _ (a'w (i:=5) sc_law_term.nd rfl (Or.inl rfl) (e'j PySem.F.plainAttrs_list PySem.F.slot_list_pop PySem.F.type_list_pop f'D (pv 2)))
     (@a'h _ _ _ _ _ (c'r (e'B PySem.F.plainAttrs_list PySem.F.slot_list_append PySem.F.type_list_append c'B (pv 2) (a'a (a'm b'l (a'T (a'a (b'v T.mk_Plus ((c'e T).mono (by decide)) hr rfl T.m_Plus T.b_Plus___init__ .nil a'j (a'a (a'm b'l (pv 2) (h'n f'A a'd) (fun _ _=>rfl)) (a'a (pv 5) a'e))) (a'a (b'v T.mk_Minus ((e'W T).mono (by decide)) hr rfl T.m_Minus T.b_Minus___init__ .nil a'j (a'a (a'm b'l (pv 2) (h'n f'A a'd) (fun _ _=>rfl)) (a'a (pv 5) a'e))) a'e))) (a'n d'r (pv 4) a'd) (fun _ _=>rfl)) a'e)))
     (a'i (c'r (e'B PySem.F.plainAttrs_list PySem.F.slot_list_pop PySem.F.type_list_pop l'l (pv 2) (a'a (h'n f'A a'd) a'e))))))))))))))
     (@a'h _ _ _ _ _ (f'e PassesOwn.never (a'u h'o (a'F b'w rfl T.z_len rfl (a'a (pv 2) a'e)) a'd (a'y _)) (@a'h _ _ _ _ _ (a'w (i:=5) sc_law_term.nd rfl (Or.inl rfl) (e'j PySem.F.plainAttrs_list PySem.F.slot_list_pop PySem.F.type_list_pop f'D (pv 2)))
     (a'i (c'r (e'B PySem.F.plainAttrs_list PySem.F.slot_list_append PySem.F.type_list_append c'B (pv 2) (a'a (b'v T.mk_Plus ((c'e T).mono (by decide)) hr rfl T.m_Plus T.b_Plus___init__ .nil a'j (a'a (e'j PySem.F.plainAttrs_list PySem.F.slot_list_pop PySem.F.type_list_pop f'D (pv 2)) (a'a (pv 5) a'e))) a'e))))))
     (a'i (a'r (a'm b'l (pv 2) a'd (fun _ _=>rfl))))))),?_⟩
  refine a's (a'E (b'j (a'b (a'p (a'b (a'U (a'b ?_)))))))
  refine a'c rfl (a'g ?_)
  refine⟨_,_,rfl,.inl (Same.seq gb.s sq3),?_⟩
  rw [Al.length al4]
  refine a'b (a'c rfl (a'g ?_))
  refine⟨F,_,_,((cells).length:Int),down,rfl,gb.s,rfl,rfl,(by exact hd),?_⟩
  rintro v5 F6 H7 r8 g9 l6 l7
  obtain⟨l8,c8,l9⟩:=gr3 gb cm g9
  obtain⟨g1,g2,g3,g4,g5⟩:=l7
  refine a'g ?_
  have m0:Al (rT T) F6 [v5] [r8]:=⟨l6,True.intro⟩
  refine⟨by show 1≤sizeLine;decide,fun a0 m1=>?_⟩
  obtain⟨e1,m2,a2,oF22,oH23,C6⟩:=b'M (o:=(.lst [v5])) l8 m1
  generalize upd H7 a0 (.lst [v5])=C7 at e1 m2 oH23 ⊢
  refine a'z ?_
  try dsimp only
  refine a's (f'P (g'l (a'c rfl ?_)))
  refine⟨_,rfl,⟨_,(Same.seq e1.s (Le.lst c8 sq3))⟩,h'v (xs:=vs2) (K:=K) (a:=a1) (fun i σ' H'=>Ex6 fun (b7:Hp) (h8:List V) (e2:List Tm) (m3:Option V) (m4:Option V) (m5:Option V)=>Cj8 (σ'=[some (V.ref a1),some (V.int down),some (V.ref a0),m5,m3,m4]) (Gr0 F H b7 H') (Fz (frzd F) b7) (Le F6 b7) (H' a0=some (.lst h8)) (b7 a0=none) (Al (rT T) b7 h8 e2) ((SInv down i e2∧e2.length≤i+1))) ?_ ?_ ?_ ?_⟩
  ·exact⟨F6,_,[r8],_,_,_,rfl,e1,l9,Le.refl _,oH23,oF22,m0,by exact⟨SInv.one g1 g2 g3 g4 g5,Nat.le_refl _⟩⟩
  ·rintro i σ' C8 _ ⟨C9,D0,D1,D2,D3,D4,rfl,m6,D5,m7,oH41,oF42,D6,⟨q1,q2⟩⟩
   exact (Same.seq m6.s (Le.lst (c8.trans m7) sq3))
  ·rintro D7 m8 σ' m9 n0 ⟨c9,D8,e3,D9,G0,G1,rfl,a4,b8,b5,oH57,oF58,a5,⟨q1,q2⟩⟩
   obtain⟨a9,n1,n2⟩:=Al.get (Al.mo (c8.trans b5) al4) n0
   refine a'z ?_
   try dsimp only
   obtain rfl:m8=V.int a9:=n2
   have l1:=q1.l1
   have hil:=(List.getElem?_eq_some_iff.mp n1).1
   refine a's (a'E (a'f (a'c rfl (a_c ?_))))
   refine a_I (by decide) ?_
   have G2:0≤(a9 % 8)∧(a9 % 8)<8:=⟨Int.emod_nonneg _ (by decide),Int.emod_lt_of_pos _ (by decide)⟩
   refine a'z ?_
   try dsimp only
   refine b'd (b'V (a'B (a'f (a'c rfl (a_c (b'g (a'C ?_)))))))
   refine a'V (fun n3=>?_) (fun n3=>?_)
   ·refine c'b ?_
    refine c'j (f'l (a'c rfl ?_))
    refine⟨b'y oH57,?_⟩
    refine a'b (a'p (a'b (a'f (a'c rfl (a_c ?_)))))
    refine a_I ⟨by decide,by decide⟩ ?_
    refine a'b (a'c rfl (a'g ?_))
    refine⟨c9,_,_,(a9 / 8),down,rfl,a4.s,rfl,rfl,(by exact hd),?_⟩
    rintro n4 h9 G3 i0 e4 n5 n6
    obtain⟨n7,e5,n8⟩:=gr3 a4 b8 e4
    have oH75:=e4.h _ _ oH57
    have oF76:=e4.own oF58 oH57
    obtain⟨f1,f2,f3,f4,f5⟩:=n6
    refine a'g ?_
    refine e'K oH75 (Nat.lt_of_lt_of_le (show _<100000 by rw [Al.length (Al.mo e5 a5)];(try simp only [List.length_append,List.length_cons,List.length_nil]);omega) (by decide)) (chg (R:=fun H'=>_) n7 a2 oF76 (fun G4 n9 oH79 G5=>?_))
    have o0:=Al.snoc (Al.mo e5 a5) (show (rT T) h9 (n4) i0 from n5)
    try dsimp only
    exact⟨h9,_,(e3++[i0]),_,_,_,rfl,n9,n8,(b5.trans e5),oH79,oF76,o0,by first | exact⟨q1.put f1 f2 (by omega) f4 f5,by rw [List.length_append];simp only [List.length_cons,List.length_nil];omega⟩ | exact⟨q1.put True.intro rfl (by show bs _+1≤25;omega) (Nat.zero_le _) (Nat.zero_le _),by rw [List.length_append];simp only [List.length_cons,List.length_nil];omega⟩ | exact⟨q1.tim (by assumption) f6,by rw [List.length_append];simp only [List.length_cons,List.length_nil];omega⟩ | exact⟨q1.two (by assumption) hpk (by assumption) (by assumption) (by assumption),by rw [List.length_append];simp only [List.length_cons,List.length_nil];omega⟩⟩
   ·refine c'k (a'B (a'f (a'c rfl (a_c (b'g (a'C ?_))))))
    refine a'V (fun o1=>?_) (fun o1=>?_)
    ·refine a'B (a'f (a'U (a'b (a'c rfl (a'g ?_)))))
     refine⟨_,_,rfl,.inl (SqL.of oH57),?_⟩
     rw [Al.length a5]
     refine a_c (c'K (a'C ?_))
     refine a'V (fun o2=>?_) (fun o2=>?_)
     ·refine c'j (f'l (a'c rfl ?_))
      refine⟨b'y oH57,?_⟩
      refine a'b (a'p (a'b (a'f (a'c rfl (a_c ?_)))))
      refine a_I ⟨by decide,by decide⟩ ?_
      refine a'b (a'c rfl (a'g ?_))
      refine⟨c9,_,_,(a9 / 8),down,rfl,a4.s,rfl,rfl,(by exact hd),?_⟩
      rintro o3 i1 G6 i2 e6 o4 o5
      obtain⟨o6,e7,o7⟩:=gr3 a4 b8 e6
      have oH94:=e6.h _ _ oH57
      have oF95:=e6.own oF58 oH57
      obtain⟨f1,f2,f3,f4,f5⟩:=o5
      refine a'g ?_
      refine e'K oH94 (Nat.lt_of_lt_of_le (show _<100000 by rw [Al.length (Al.mo e7 a5)];(try simp only [List.length_append,List.length_cons,List.length_nil]);omega) (by decide)) (chg (R:=fun H'=>_) o6 a2 oF95 (fun G7 o8 oH98 G8=>?_))
      have o9:=Al.snoc (Al.mo e7 a5) (show (rT T) i1 (o3) i2 from o4)
      try dsimp only
      exact⟨i1,_,(e3++[i2]),_,_,_,rfl,o8,o7,(b5.trans e7),oH98,oF95,o9,by first | exact⟨q1.put f1 f2 (by omega) f4 f5,by rw [List.length_append];simp only [List.length_cons,List.length_nil];omega⟩ | exact⟨q1.put True.intro rfl (by show bs _+1≤25;omega) (Nat.zero_le _) (Nat.zero_le _),by rw [List.length_append];simp only [List.length_cons,List.length_nil];omega⟩ | exact⟨q1.tim (by assumption) f6,by rw [List.length_append];simp only [List.length_cons,List.length_nil];omega⟩ | exact⟨q1.two (by assumption) hpk (by assumption) (by assumption) (by assumption),by rw [List.length_append];simp only [List.length_cons,List.length_nil];omega⟩⟩
     ·refine b'd (a'B (a'f (a'c rfl (a_c (c'K (a'C ?_))))))
      refine a'V (fun p0=>?_) (fun p0=>?_)
      ·exfalso
       first | omega | grind
      ·refine b'd (a'B (a'f (a'c rfl (a_c (b'g (a'C ?_))))))
       refine a'V (fun p1=>?_) (fun p1=>?_)
       ·exfalso
        first | omega | grind
       ·refine a's (a'E (f'Q (a'c rfl ?_)))
        obtain⟨i3,d0,G9,d1,p3,p4,b9,i4⟩:=Al.pop a5 (by omega)
        have l2:=congrArg List.length p4
        rw [List.length_append] at l2
        simp only [List.length_cons,List.length_nil] at l2
        refine⟨b'y oH57,h'r oH57 p3 ?_⟩
        obtain⟨e8,oH113,p5⟩:=g'm (o:=.lst i3) a4 a2 oF58
        generalize upd m9 a0 (.lst i3)=p6 at e8 oH113 p5 ⊢
        refine a'z ?_
        try dsimp only
        refine a's (c'j (f'l (a'c rfl ?_)))
        refine⟨b'y oH113,?_⟩
        refine a'b (a'f (b'j (a'b (b'P (a'b (a'f (a'c rfl ?_)))))))
        refine j't (a_c (a_U ?_))
        obtain⟨I0,i5,I1,i6,p7,I2,I3,p8⟩:=Al.pop b9 (by omega)
        refine b'T (SqL.of oH113) (by rw [p7];exact j'a) ?_
        refine a'b (a'c rfl (a'g ?_))
        intro a6 c0 p9 q0 q3
        refine⟨a6,c0,_,_,rfl,a'v,rfl,?_⟩
        obtain⟨q4,d2,q5⟩:=d'j (C:=T.c_Plus) (fs:=[(("one":Str),i5),(("other":Str),d0)]) e8.s p9 q0 q3
        generalize upd (upd (upd p6 c0 (.own a6)) a6 (.ins T.c_Plus c0 [])) a6 (.ins T.c_Plus c0 [(("one":Str),i5),(("other":Str),d0)])=q6 at d2 ⊢
        obtain⟨i7,b0,q7⟩:=gr3 e8 b8 d2
        have oH136:=d2.h _ _ oH113
        have oF137:=d2.own oF58 oH113
        have hT132:rT T q4 (V.ref a6) (Tm.plus i6 d1):=⟨a6,c0,_,_,rfl,.inl q5,(Mo.mo b0 p8),(Mo.mo b0 i4)⟩
        refine a'b (b'P (a'b (a'f (a'c rfl (j't (a_c (a_U ?_)))))))
        obtain⟨I4,i8,I5,i9,q8,I6,I7,q9⟩:=Al.pop (Al.mo b0 b9) (by omega)
        refine b'T (SqL.of oH136) (by rw [q8];exact j'a) ?_
        refine a'b (a'c rfl (a'g ?_))
        intro a7 c1 r0 r3 r4
        refine⟨a7,c1,_,_,rfl,a'v,rfl,?_⟩
        obtain⟨r5,d3,r6⟩:=d'j (C:=T.c_Minus) (fs:=[(("one":Str),i8),(("other":Str),d0)]) i7.s r0 r3 r4
        generalize upd (upd (upd q6 c1 (.own a7)) a7 (.ins T.c_Minus c1 [])) a7 (.ins T.c_Minus c1 [(("one":Str),i8),(("other":Str),d0)])=r7 at d3 ⊢
        obtain⟨j0,b1,r9⟩:=gr3 i7 q7 d3
        have oH159:=d3.h _ _ oH136
        have oF160:=d3.own oF137 oH136
        have hT155:rT T r5 (V.ref a7) (Tm.minus i9 d1):=⟨a7,c1,_,_,rfl,.inl r6,(Mo.mo b1 q9),(Mo.mo (b0.trans b1) i4)⟩
        refine a'g ?_
        refine⟨by show 2≤sizeLine;decide,fun t0 t1=>?_⟩
        obtain⟨d4,d5,t2⟩:=al2 (o:=(.lst [V.ref a6,V.ref a7])) j0.s (by intro _ _ z;cases z) t1
        generalize upd r7 t0 (.lst [V.ref a6,V.ref a7])=I8 at d5 ⊢
        obtain⟨j1,b6,t3⟩:=gr3 j0 r9 d5
        have oH170:=d5.h _ _ oH159
        have oF171:=d5.own oF160 oH159
        have t4:Al (rT T) d4 [.ref a6,.ref a7] [(Tm.plus i6 d1),(Tm.minus i9 d1)]:=⟨(Mo.mo (b1.trans b6) hT132),⟨(Mo.mo b6 hT155),True.intro⟩⟩
        refine a'f (a'c rfl (a_c (b'g ?_)))
        obtain⟨e9,d6,t5,t6,j2⟩:=Al.ix t4 (i:=((a9 % 8) - 6)) (by walk_at "o") (by walk_at "ol")
        refine b'T (Same.seq j1.s (SqL.of t2)) t6 ?_
        have hpk:=t5
        refine a'g ?_
        refine e'K oH170 (Nat.lt_of_lt_of_le (show _<100000 by rw [Al.length (Al.mo ((b0.trans b1).trans b6) b9)];(try simp only [List.length_append,List.length_cons,List.length_nil]);omega) (by decide)) (chg (R:=fun H'=>_) j1 a2 oF171 (fun t7 t8 oH180 I9=>?_))
        have J0:=Al.snoc (Al.mo ((b0.trans b1).trans b6) b9) (show (rT T) d4 (d6) e9 from j2)
        try dsimp only
        refine c'j (f'l (a'c rfl ?_))
        refine⟨b'y oH180,?_⟩
        refine a'b (j't (a_c (a_U (a'g ?_))))
        obtain⟨j3,J1,t9,J2,u0,u1,u2,J3⟩:=Al.pop (Al.mo ((b0.trans b1).trans b6) b9) (by omega)
        have l4:=congrArg List.length u1
        rw [List.length_append] at l4
        simp only [List.length_cons,List.length_nil] at l4
        refine n'U oH180 (by rw [u0]) ?_
        obtain⟨j4,oH193,u3⟩:=g'm (o:=.lst (j3++[d6])) t8 a2 oF171
        generalize upd t7 a0 (.lst (j3++[d6]))=J4 at j4 oH193 u3 ⊢
        have u4:=Al.snoc u2 (show (rT T) d4 (d6) e9 from j2)
        try dsimp only
        exact⟨d4,_,(t9++[e9]),_,_,_,rfl,j4,t3,(((b5.trans b0).trans b1).trans b6),oH193,oF171,u4,by first | exact⟨q1.put f1 f2 (by omega) f4 f5,by rw [List.length_append];simp only [List.length_cons,List.length_nil];omega⟩ | exact⟨q1.put True.intro rfl (by show bs _+1≤25;omega) (Nat.zero_le _) (Nat.zero_le _),by rw [List.length_append];simp only [List.length_cons,List.length_nil];omega⟩ | exact⟨q1.tim (by assumption) f6,by rw [List.length_append];simp only [List.length_cons,List.length_nil];omega⟩ | exact⟨q1.two (by assumption) hpk (by assumption) (by assumption) (by assumption),by rw [List.length_append];simp only [List.length_cons,List.length_nil];omega⟩⟩
    ·refine b'x ?_
     refine b'd (a'B (a'f (a'c rfl (a_c (c'K (a'C ?_))))))
     refine a'V (fun u5=>?_) (fun u5=>?_)
     ·refine c'j (f'l (a'c rfl ?_))
      refine⟨b'y oH57,?_⟩
      refine a'b (b'P (a'b (a'p (a'b (a'f (a'c rfl (a_c ?_)))))))
      refine a_I ⟨by decide,by decide⟩ ?_
      refine a'g ?_
      refine⟨c9,_,(a9 / 8),rfl,a4.s,rfl,?_⟩
      rintro J5 J6 u6 f0 f7 u7 u8
      obtain⟨j5,f8,u9⟩:=gr3 a4 b8 f7
      have oH207:=f7.h _ _ oH57
      have oF208:=f7.own oF58 oH57
      obtain⟨j6,rfl,v0⟩:=u7
      have f6:=u8
      refine a'g ?_
      intro b2 c2 v1 v2 v3
      refine⟨b2,c2,_,rfl,a'v,rfl,?_⟩
      obtain⟨f9,d7,v4⟩:=d'j (C:=T.c_Number) (fs:=[(("number":Str),V.ref j6)]) j5.s v1 v2 v3
      generalize upd (upd (upd u6 c2 (.own b2)) b2 (.ins T.c_Number c2 [])) b2 (.ins T.c_Number c2 [(("number":Str),V.ref j6)])=J7 at d7 ⊢
      obtain⟨v6,d8,v7⟩:=gr3 j5 u9 d7
      have oH224:=d7.h _ _ oH207
      have oF225:=d7.own oF208 oH207
      have hT220:rT T f9 (V.ref b2) (Tm.num f0):=⟨b2,c2,_,rfl,.inl v4,⟨_,rfl,(Le.tup d8 v0)⟩⟩
      refine a'g ?_
      refine e'K oH224 (Nat.lt_of_lt_of_le (show _<100000 by rw [Al.length (Al.mo (f8.trans d8) a5)];(try simp only [List.length_append,List.length_cons,List.length_nil]);omega) (by decide)) (chg (R:=fun H'=>_) v6 a2 oF225 (fun J8 v8 oH228 J9=>?_))
      have v9:=Al.snoc (Al.mo (f8.trans d8) a5) (show (rT T) f9 (V.ref b2) (Tm.num f0) from hT220)
      try dsimp only
      exact⟨f9,_,(e3++[(Tm.num f0)]),_,_,_,rfl,v8,v7,((b5.trans f8).trans d8),oH228,oF225,v9,by first | exact⟨q1.put f1 f2 (by omega) f4 f5,by rw [List.length_append];simp only [List.length_cons,List.length_nil];omega⟩ | exact⟨q1.put True.intro rfl (by show bs _+1≤25;omega) (Nat.zero_le _) (Nat.zero_le _),by rw [List.length_append];simp only [List.length_cons,List.length_nil];omega⟩ | exact⟨q1.tim (by assumption) f6,by rw [List.length_append];simp only [List.length_cons,List.length_nil];omega⟩ | exact⟨q1.two (by assumption) hpk (by assumption) (by assumption) (by assumption),by rw [List.length_append];simp only [List.length_cons,List.length_nil];omega⟩⟩
     ·refine b'd (a'B (a'f (a'c rfl (a_c (b'g (a'C ?_))))))
      refine a'V (fun w0=>?_) (fun w0=>?_)
      ·refine c'j (f'l (a'c rfl ?_))
       refine⟨b'y oH57,?_⟩
       refine a'b (b'P (a'b (a'p (a'b (a'f (a'c rfl (a_c ?_)))))))
       refine a_I ⟨by decide,by decide⟩ ?_
       refine a'g ?_
       refine⟨c9,_,(a9 / 8),rfl,a4.s,rfl,?_⟩
       rintro L0 L1 w2 g0 g6 w3 w4
       obtain⟨w5,j7,w6⟩:=gr3 a4 b8 g6
       have oH242:=g6.h _ _ oH57
       have oF243:=g6.own oF58 oH57
       obtain⟨j8,rfl,w7⟩:=w3
       have f6:=w4
       refine a'b (f'Q (a'c rfl ?_))
       obtain⟨j9,k0,w8,g7,w9,x0,k1,x1⟩:=Al.pop (Al.mo j7 a5) (by omega)
       have l2:=congrArg List.length x0
       rw [List.length_append] at l2
       simp only [List.length_cons,List.length_nil] at l2
       refine⟨b'y oH242,h'r oH242 w9 ?_⟩
       obtain⟨g8,oH256,x2⟩:=g'm (o:=.lst j9) w5 a2 oF243
       generalize upd w2 a0 (.lst j9)=x3 at g8 oH256 x2 ⊢
       refine a'g ?_
       intro b3 c3 x4 x5 x6
       refine⟨b3,c3,_,_,rfl,a'v,rfl,?_⟩
       obtain⟨h0,d9,x7⟩:=d'j (C:=T.c_Times) (fs:=[(("number":Str),V.ref j8),(("inner":Str),k0)]) g8.s x4 x5 x6
       generalize upd (upd (upd x3 c3 (.own b3)) b3 (.ins T.c_Times c3 [])) b3 (.ins T.c_Times c3 [(("number":Str),V.ref j8),(("inner":Str),k0)])=L2 at d9 ⊢
       obtain⟨x8,c4,x9⟩:=gr3 g8 w6 d9
       have oH271:=d9.h _ _ oH256
       have oF272:=d9.own oF243 oH256
       have hT267:rT T h0 (V.ref b3) (Tm.times g0 g7):=⟨b3,c3,_,_,rfl,.inl x7,⟨_,rfl,(Le.tup c4 w7)⟩,(Mo.mo c4 x1)⟩
       refine a'g ?_
       refine e'K oH271 (Nat.lt_of_lt_of_le (show _<100000 by rw [Al.length (Al.mo c4 k1)];(try simp only [List.length_append,List.length_cons,List.length_nil]);omega) (by decide)) (chg (R:=fun H'=>_) x8 a2 oF272 (fun L3 z0 oH275 L4=>?_))
       have z1:=Al.snoc (Al.mo c4 k1) (show (rT T) h0 (V.ref b3) (Tm.times g0 g7) from hT267)
       try dsimp only
       exact⟨h0,_,(w8++[(Tm.times g0 g7)]),_,_,_,rfl,z0,x9,((b5.trans j7).trans c4),oH275,oF272,z1,by first | exact⟨q1.put f1 f2 (by omega) f4 f5,by rw [List.length_append];simp only [List.length_cons,List.length_nil];omega⟩ | exact⟨q1.put True.intro rfl (by show bs _+1≤25;omega) (Nat.zero_le _) (Nat.zero_le _),by rw [List.length_append];simp only [List.length_cons,List.length_nil];omega⟩ | exact⟨q1.tim (by assumption) f6,by rw [List.length_append];simp only [List.length_cons,List.length_nil];omega⟩ | exact⟨q1.two (by assumption) hpk (by assumption) (by assumption) (by assumption),by rw [List.length_append];simp only [List.length_cons,List.length_nil];omega⟩⟩
      ·exfalso
       first | omega | grind
  ·rintro σ' L5 ⟨h1,L6,k2,k3,L7,k4,rfl,z2,z3,z4,oH288,oF289,z5,⟨q1,q2⟩⟩
   have hlen:=Al.length (Al.mo (c8.trans z4) al4)
   try dsimp only
   refine a's ?_
   refine⟨fun m σ' H'=>Ex4 fun (a3:Hp) (c5:List V) (a8:List Tm) (h2:Option V)=>Cj9 (σ'=[some (V.ref a1),some (V.int down),some (V.ref a0),k4,k3,h2]) (Gr0 F H a3 H') (Fz (frzd F) a3) (Le h1 a3) (H' a0=some (.lst c5)) (a3 a0=none) (Al (rT T) a3 c5 a8) ((SInv down cells.length a8∧a8.length≤7)) (m=a8.length),⟨k2.length,?_⟩,?_⟩
   ·exact⟨h1,_,k2,_,rfl,z2,z3,Le.refl _,oH288,oF289,z5,by exact⟨by rw [← hlen];exact q1,by omega⟩,rfl⟩
   ·rintro m σ' z6 ⟨L8,L9,z7,M0,rfl,k5,k6,z8,oH303,oF304,h3,⟨r1,r2⟩,rfl⟩
    refine a'B (a'f (a'U (a'b (a'c rfl (a'g ?_)))))
    refine⟨_,_,rfl,.inl (SqL.of oH303),?_⟩
    rw [Al.length h3]
    refine a_c (b'g (a'C ?_))
    refine a'V (fun z9=>?_) (fun z9=>?_)
    ·refine⟨fun σ' H'=>Ex4 fun (a3:Hp) (c5:List V) (a8:List Tm) (h2:Option V)=>Cj9 (σ'=[some (V.ref a1),some (V.int down),some (V.ref a0),k4,k3,h2]) (Gr0 F H a3 H') (Fz (frzd F) a3) (Le h1 a3) (H' a0=some (.lst c5)) (a3 a0=none) (Al (rT T) a3 c5 a8) ((SInv down cells.length a8∧a8.length≤7)) (a8.length<z7.length),fun σ' H' ⟨y0,y1,y2,y3,y4,y5,y6,y7,y8,y9,A0,A1,hlt⟩=>⟨_,hlt,y0,y1,y2,y3,y4,y5,y6,y7,y8,y9,A0,A1,rfl⟩,?_⟩
     refine a's (a'E (f'Q (a'c rfl ?_)))
     obtain⟨k7,k8,M1,h4,A2,A3,A4,A5⟩:=Al.pop h3 (by omega)
     have l2:=congrArg List.length A3
     rw [List.length_append] at l2
     simp only [List.length_cons,List.length_nil] at l2
     refine⟨b'y oH303,h'r oH303 A2 ?_⟩
     obtain⟨k9,oH317,A6⟩:=g'm (o:=.lst k7) k5 a2 oF304
     generalize upd z6 a0 (.lst k7)=A7 at k9 oH317 A6 ⊢
     refine a'z ?_
     try dsimp only
     refine c'j (f'l (a'c rfl ?_))
     refine⟨b'y oH317,?_⟩
     refine a'b (b'P (a'b (f'Q (a'c rfl ?_))))
     obtain⟨l0,l3,A8,h5,A9,B0,l5,B1⟩:=Al.pop A4 (by omega)
     have l2:=congrArg List.length B0
     rw [List.length_append] at l2
     simp only [List.length_cons,List.length_nil] at l2
     refine⟨b'y oH317,h'r oH317 A9 ?_⟩
     obtain⟨h6,oH329,B2⟩:=g'm (o:=.lst l0) k9 a2 oF304
     generalize upd A7 a0 (.lst l0)=B3 at h6 oH329 B2 ⊢
     refine a'b (a'c rfl (a'g ?_))
     intro b4 c6 B4 B5 B6
     refine⟨b4,c6,_,_,rfl,a'v,rfl,?_⟩
     obtain⟨h7,e0,B7⟩:=d'j (C:=T.c_Plus) (fs:=[(("one":Str),l3),(("other":Str),k8)]) h6.s B4 B5 B6
     generalize upd (upd (upd B3 c6 (.own b4)) b4 (.ins T.c_Plus c6 [])) b4 (.ins T.c_Plus c6 [(("one":Str),l3),(("other":Str),k8)])=M2 at e0 ⊢
     obtain⟨B8,c7,B9⟩:=gr3 h6 k6 e0
     have oH344:=e0.h _ _ oH329
     have oF345:=e0.own oF304 oH329
     have hT340:rT T h7 (V.ref b4) (Tm.plus h5 h4):=⟨b4,c6,_,_,rfl,.inl B7,(Mo.mo c7 B1),(Mo.mo c7 A5)⟩
     refine a'g ?_
     refine e'K oH344 (Nat.lt_of_lt_of_le (show _<100000 by rw [Al.length (Al.mo c7 l5)];(try simp only [List.length_append,List.length_cons,List.length_nil]);omega) (by decide)) (chg (R:=fun H'=>_) B8 a2 oF345 (fun M3 C0 oH348 M4=>?_))
     have C1:=Al.snoc (Al.mo c7 l5) (show (rT T) h7 (V.ref b4) (Tm.plus h5 h4) from hT340)
     try dsimp only
     exact⟨h7,_,(A8++[(Tm.plus h5 h4)]),_,rfl,C0,B9,(z8.trans c7),oH348,oF345,C1,by exact⟨r1.pls (by assumption) (by assumption),by rw [List.length_append];simp only [List.length_cons,List.length_nil];omega⟩,by (rw [List.length_append];simp only [List.length_cons,List.length_nil];omega)⟩
    ·try dsimp only
     have l1:=r1.l1
     refine a'A (a'f (a'c rfl (a_c ?_)))
     obtain⟨C2,M5,C3,C4,C5⟩:=Al.ix h3 (i:=0) (by walk_at "o") (by walk_at "ol")
     refine b'T (SqL.of oH303) C4 ?_
     have hx0:=C3
     exact k _ _ _ (C2) (Gr.of k5 k6) (C5) (by exact r1.fin w1 (by omega) hx0)
def W6:List Str:=["left ","width ","gap ","top ","height ","drop "]
theorem o'd {w:Str} (h:w∈W6):w.length≤7:=by
  simp only [W6,List.mem_cons,List.not_mem_nil,or_false] at h
  rcases h with rfl | rfl | rfl | rfl | rfl | rfl<;>decide +kernel
def plq (q:Rat):Prop:=q.den≤3∧q.num.natAbs≤1000000
structure PlOk (pl:FL Str):Prop where
  keys:∀ w∈W6,∀ n∈nms,∃ y,gt pl (w++n)=some y
  bnd:∀ x q,gt pl x=some q→plq q
  ln:pl.length≤30
/-- while the placing is made -/
structure PLI (m:FL Str) (i j:Nat):Prop where
  ks:∀ a b w n,(a<i∨(a=i∧b<j))→W6[a]?=some w→nms[b]?=some n→∃ y,gt m (w++n)=some y
  bd:∀ x q,gt m x=some q→plq q
theorem PLI.nil:PLI [] 0 0:=⟨fun a b w n h=>by omega,fun x q h=>by cases h⟩
theorem PLI.next {m:FL Str} {i j:Nat} (h:PLI m i j) (hj:j=5):PLI m (i+1) 0:=⟨fun a b w n hl e1 e2=>by
  refine h.ks a b w n ?_ e1 e2
  have hb:b<5:=(List.getElem?_eq_some_iff.mp e2).1
  omega,h.bd⟩
theorem PLI.put {m:FL Str} {i j:Nat} {w n:Str} {q:Rat} (h:PLI m i j) (e1:W6[i]?=some w) (e2:nms[j]?=some n) (hq:plq q):PLI (ptd m (w++n) q) i (j+1):=by
  refine⟨fun a b w' n' hl f1 f2=>?_,fun x y e=>?_⟩
  · show ∃ y,gt (pt m (w++n) q) (w'++n')=some y
    rw [e'D]
    split
    · exact⟨q,rfl⟩
    · rename_i ne
      refine h.ks a b w' n' ?_ f1 f2
      rcases hl with hl | ⟨rfl,hl⟩
      · exact .inl hl
      · refine .inr ⟨rfl,?_⟩
        rcases Nat.lt_succ_iff_lt_or_eq.mp hl with z | rfl
        · exact z
        · rw [e1] at f1;rw [e2] at f2;cases f1;cases f2;exact absurd rfl ne
  · have e:gt (pt m (w++n) q) x=some y:=e
    rw [e'D] at e
    split at e
    · cases e;exact hq
    · exact h.bd x y e
theorem PLI.fin {m:FL Str} (h:PLI m 6 0) (l:m.length≤30):PlOk m:=⟨fun w hw n hn=>by
  obtain⟨a,ha⟩:=List.getElem?_of_mem hw
  obtain⟨b,hb⟩:=List.getElem?_of_mem hn
  have:a<6:=(List.getElem?_eq_some_iff.mp ha).1
  exact h.ks a b w n (.inl this) ha hb,h.bd,l⟩
theorem o'e {t b:Int} (h0:0≤t) (h1:t<1000000) (h2:1≤b) (h3:b≤3):plq (Rat.divInt t b):=by
  have:=e'm (t:=t) (b:=b) (by omega)
  exact⟨by omega,by omega⟩
/-- a sum's value at a placing -/
noncomputable def vAt (t:Tm) (pl:FL Str):Rat:=(wor t).2+val (wor t).1 (plc pl)
theorem n'i {t q y:Rat}:Rat.divInt (t.num*(q.den*y.den)+q.num*y.num*t.den) (t.den*(q.den*y.den))=t+q*y:=by
  rw [h'a t q y,Int.mul_assoc t.num,Int.mul_assoc (t.den:Int)]
def absR (q:Rat):Rat:=if q.num<0 then -q else q
theorem g'c (q:Rat):fr (absR q)=[V.int (if q.num<0 then -q.num else q.num),V.int (q.den:Int)]:=by
  unfold absR fr
  by_cases h:q.num<0
  · rw [if_pos h,if_pos h,Rat.neg_num,Rat.neg_den]
  · rw [if_neg h,if_neg h]
theorem num_neg {q:Rat}:q.num<0↔q<0:=by
  constructor
  · intro h;exact Rat.not_le.mp (fun z=>by have:=Rat.num_nonneg.mpr z;omega)
  · intro h;exact Int.not_le.mp (fun z=>absurd (Rat.num_nonneg.mp z) (Rat.not_le.mpr h))
theorem num_pos {q:Rat}:0<q.num↔0<q:=by
  have h:=num_neg (q:=-q)
  rw [Rat.neg_num] at h
  constructor
  · intro z;have:=h.mp (by omega);grind
  · intro z;have:=h.mpr (by grind);omega
theorem c'x {k:Str} {g:Rat} (h:(k="least"∧0<g.num)∨(k="most"∧g.num<0)):(0:Rat)=misd k g:=by
  unfold misd
  rcases h with ⟨rfl,h⟩ | ⟨rfl,h⟩
  · have:=num_pos.mp h
    rw [if_neg (fun z=>by grind),if_neg (fun z=>z.2 rfl)]
  · have:=num_neg.mp h
    rw [if_neg (fun z=>z.2 rfl),if_neg (fun z=>by grind)]
theorem e'P {k:Str} {g:Rat} (h1:¬ (k="least"∧0<g.num)) (h2:¬ (k="most"∧g.num<0)):absR g=misd k g:=by
  unfold misd absR
  by_cases a:g.num<0
  · rw [if_pos a,if_pos ⟨num_neg.mp a,fun z=>h2 ⟨z,a⟩⟩];grind
  · by_cases b:0<g.num
    · rw [if_neg a,if_neg (fun z=>a (num_neg.mpr z.1)),if_pos ⟨num_pos.mp b,fun z=>h1 ⟨z,b⟩⟩]
    · have e:g.num=0:=by omega
      have e':g=0:=Rat.num_eq_zero.mp e
      rw [if_neg a,if_neg (fun z=>a (num_neg.mpr z.1)),if_neg (fun z=>b (num_pos.mpr z.1)),e']
theorem o'A {pl parts:FL Str} {rest:Rat} {i:Nat} {x:Str} {q y:Rat} {t b:Int} (hm:parts[i]?=some (x,q)) (hy:gt pl x=some y) (i1:t=(run (plc pl) rest (List.take i parts)).num) (i2:b=((run (plc pl) rest (List.take i parts)).den:Int)) :
    (Rat.divInt (t*(q.den*y.den)+q.num*y.num*b) (b*(q.den*y.den))).num=(run (plc pl) rest (List.take (i+1) parts)).num∧((Rat.divInt (t*(q.den*y.den)+q.num*y.num*b) (b*(q.den*y.den))).den:Int)=((run (plc pl) rest (List.take (i+1) parts)).den:Int):=by
  subst i1 i2
  rw [n'i,f'j hm,k'U hy]
  exact⟨rfl,rfl⟩
def sp_law_placing (K:PySem.W.Frag):Sp:=fun vs H Q _=>Ex3 fun (F:Hp) (v_cell:V) (cell:Int)=>Cj5 (vs=[v_cell]) (Same F H) (Fz S0 F) (rI F v_cell cell) (∀ (v:V) (F' H':Hp) (r:(List (Str×Rat))),Gr F H F' H'→(rD (rFr K)) F' v r→(PlOk r)→Q v H')
theorem g'E (T:Tx w K mg):FnOk P w K mg base CX0 4 T.a_law_placing T.d_law_placing ["_law_cell"] (sp_law_placing K):=by
 refine T.F_law_placing.ok sc_law_placing (fun vs H Q E h=>?_) (fun cdv A outer s H vs Q E hr h=>?_)
 ·obtain⟨F,v_cell,cell,rfl,_⟩:=h
  rfl
 ·obtain⟨F,v_cell,cell,rfl,wd,cm,r_cell,k⟩:=h
  have hu:=a'M hr
  have gb:=Gr0.refl wd
  obtain rfl:v_cell=V.int cell:=r_cell
  refine⟨_,(@a'h _ _ _ _ _ (a'w (i:=1) sc_law_placing.nd rfl (Or.inl rfl) c'U)
     (@a'h _ _ _ _ _ (d'q PassesOwn.never rfl (i'U rfl T.z_enumerate (a'a (a'T (a'a a'x (a'a a'x (a'a a'x (a'a a'x (a'a a'x (a'a a'x a'e))))))) a'e)) (b'K rfl (a'J (a'K (i:=2) sc_law_placing.nd rfl (Or.inl rfl)) (a'J (a'K (i:=3) sc_law_placing.nd rfl (Or.inl rfl)) b't))) (a'i (d'q PassesOwn.never rfl (i'U rfl T.z_enumerate (a'a (a'T (a'a a'x (a'a a'x (a'a a'x (a'a a'x (a'a a'x a'e)))))) a'e)) (b'K rfl (a'J (a'K (i:=4) sc_law_placing.nd rfl (Or.inl rfl)) (a'J (a'K (i:=5) sc_law_placing.nd rfl (Or.inl rfl)) b't))) (@a'h _ _ _ _ _ (a'w (i:=6) sc_law_placing.nd rfl (Or.inl rfl) (a'n a'S (a'l ((c'n T).mono (by decide)) hr rfl T.m_law_mixed T.F_law_mixed.kp T.b_law_mixed .nil a'j (a'a (pv 0) (a'a (a'n b'X (a'n a'L a'd (pv 2)) (pv 4)) a'e))) (a'm b'l (a'T (a'a a'd (a'a a'd (a'a (a'n e'g a'd a'd) a'e)))) (a'n a'S (pv 0) a'd) (fun _ _=>rfl))))
     (a'i (d's hu (pv 1) (a'n j'j (pv 3) (pv 5)) (a'l ((b'E T).mono (by decide)) hr rfl T.m_law_lowest T.F_law_lowest.kp T.b_law_lowest .nil a'j (a'a (pv 6) (a'a (a'n b'X a'd (a'n a'S (a'l ((c'n T).mono (by decide)) hr rfl T.m_law_mixed T.F_law_mixed.kp T.b_law_mixed .nil a'j (a'a (pv 0) (a'a (a'n b'X a'd (pv 2)) a'e))) a'd)) a'e))) rfl))))))
     (a'i (a'r (pv 1))))),?_⟩
  refine a's (a'E ?_)
  refine fun p1 hp2=>?_
  obtain⟨gb4,sm5,hb6,oF7,oH8,ne9⟩:=b'M (o:=(.dK [])) gb hp2
  generalize upd H p1 (.dK [])=H3 at gb4 sm5 oH8 ⊢
  refine a'z ?_
  try dsimp only
  refine a's (f'P (i'V (a'b (b'j (a'b (a_c ?_))))))
  have m9:("left ":Str).length=5:=by decide +kernel
  refine a'b (a_c ?_)
  have n0:("width ":Str).length=6:=by decide +kernel
  refine a'b (a_c ?_)
  have n1:("gap ":Str).length=4:=by decide +kernel
  refine a'b (a_c ?_)
  have n2:("top ":Str).length=4:=by decide +kernel
  refine a'b (a_c ?_)
  have n3:("height ":Str).length=7:=by decide +kernel
  refine a'b (a_c ?_)
  have n4:("drop ":Str).length=5:=by decide +kernel
  refine a'g ?_
  refine⟨by show 6≤sizeLine;decide,fun c6 f0=>?_⟩
  obtain⟨b3,a8,c7⟩:=al2 (o:=(.lst [V.str ("left ":Str),V.str ("width ":Str),V.str ("gap ":Str),V.str ("top ":Str),V.str ("height ":Str),V.str ("drop ":Str)])) gb4.s (by intro _ _ z;cases z) f0
  generalize upd H3 c6 (.lst [V.str ("left ":Str),V.str ("width ":Str),V.str ("gap ":Str),V.str ("top ":Str),V.str ("height ":Str),V.str ("drop ":Str)])=n5 at a8 ⊢
  obtain⟨c8,f1,f2⟩:=gr3 gb4 cm a8
  have oH25:=a8.h _ _ oH8
  have oF26:=a8.own oF7 oH8
  have c9:Al rS b3 [.str ("left ":Str),.str ("width ":Str),.str ("gap ":Str),.str ("top ":Str),.str ("height ":Str),.str ("drop ":Str)] [("left ":Str),("width ":Str),("gap ":Str),("top ":Str),("height ":Str),("drop ":Str)]:=⟨rfl,⟨rfl,⟨rfl,⟨rfl,⟨rfl,⟨rfl,True.intro⟩⟩⟩⟩⟩⟩
  refine a'g ?_
  refine⟨_,rfl,⟨_,(Same.seq c8.s (SqL.of c7))⟩,h'W (xs:=[V.str ("left ":Str),V.str ("width ":Str),V.str ("gap ":Str),V.str ("top ":Str),V.str ("height ":Str),V.str ("drop ":Str)]) (K:=K) (a:=c6) (fun i σ' H'=>Ex8 fun (a6:Hp) (d0:List (Key×V)) (placing_here30:List (Str×Rat)) (f3:Option V) (f4:Option V) (f5:Option V) (f6:Option V) (f7:Option V)=>Cj9 (σ'=[some (V.int cell),some (V.ref p1),f6,f7,f3,f4,f5]) (Gr0 F H a6 H') (Fz S0 a6) (Le b3 a6) (H' p1=some (.dK d0)) (a6 p1=none) (Dk (rFr K) a6 d0 placing_here30) ((placing_here30.map (·.1)).Nodup) ((PLI placing_here30 i 0∧placing_here30.length≤5*i))) ?_ ?_ ?_ ?_⟩
  ·exact⟨b3,_,[],_,_,_,_,_,rfl,c8,f2,Le.refl _,oH25,oF26,(Dk.mo f1 True.intro),List.nodup_nil,by exact⟨PLI.nil,Nat.le_refl _⟩⟩
  ·rintro i σ' n6 _ ⟨n7,n8,n9,o0,o1,o2,o3,o4,rfl,f8,o5,f9,oH48,oF49,o6,o7,⟨q1,q2⟩⟩
   exact (Same.seq f8.s (Le.lst f9 (SqL.of c7)))
  ·rintro a3 g0 σ' o8 o9 g1 ⟨p0,p3,g2,p4,p5,p6,p7,p8,rfl,d1,g3,d2,oH67,oF68,g4,g5,⟨q1,q2⟩⟩ g6
   obtain⟨a2,a9,g7⟩:=Al.get (Al.mo d2 c9) g1
   obtain rfl:g0=V.str a2:=g7
   refine it2 (K:=K) d1.s g6 (fun p9 g8 b4 q0=>?_)
   obtain⟨d3,d4,g9⟩:=gr3 d1 g3 b4
   have oH83:=b4.h _ _ oH67
   have oF84:=b4.own oF68 oH67
   try dsimp only
   have hil:=(List.getElem?_eq_some_iff.mp a9).1
   have hw1:=a9
   have hwl:=o'd (List.mem_of_getElem? a9)
   have hw2:a3<6:=(List.getElem?_eq_some_iff.mp a9).1
   refine f'P (i'V (a'b (b'j (a'b (a_c ?_)))))
   have q3:("a":Str).length=1:=by decide +kernel
   refine a'b (a_c ?_)
   have q4:("b":Str).length=1:=by decide +kernel
   refine a'b (a_c ?_)
   have q5:("frame":Str).length=5:=by decide +kernel
   refine a'b (a_c ?_)
   have q6:("ab":Str).length=2:=by decide +kernel
   refine a'b (a_c ?_)
   have q7:("framed":Str).length=6:=by decide +kernel
   refine a'g ?_
   refine⟨by show 5≤sizeLine;decide,fun d5 h0=>?_⟩
   obtain⟨b5,b0,d6⟩:=al2 (o:=(.lst [V.str ("a":Str),V.str ("b":Str),V.str ("frame":Str),V.str ("ab":Str),V.str ("framed":Str)])) d3.s (by intro _ _ z;cases z) h0
   generalize upd g8 d5 (.lst [V.str ("a":Str),V.str ("b":Str),V.str ("frame":Str),V.str ("ab":Str),V.str ("framed":Str)])=q8 at b0 ⊢
   obtain⟨d7,d8,h1⟩:=gr3 d3 g9 b0
   have oH99:=b0.h _ _ oH83
   have oF100:=b0.own oF84 oH83
   have d9:Al rS b5 [.str ("a":Str),.str ("b":Str),.str ("frame":Str),.str ("ab":Str),.str ("framed":Str)] [("a":Str),("b":Str),("frame":Str),("ab":Str),("framed":Str)]:=⟨rfl,⟨rfl,⟨rfl,⟨rfl,⟨rfl,True.intro⟩⟩⟩⟩⟩
   refine a'g ?_
   refine⟨_,rfl,⟨_,(Same.seq d7.s (SqL.of d6))⟩,h'W (xs:=[V.str ("a":Str),V.str ("b":Str),V.str ("frame":Str),V.str ("ab":Str),V.str ("framed":Str)]) (K:=K) (a:=d5) (fun i σ' H'=>Ex6 fun (a7:Hp) (e0:List (Key×V)) (placing_here104:List (Str×Rat)) (h2:Option V) (h3:Option V) (h4:Option V)=>Cj9 (σ'=[some (V.int cell),some (V.ref p1),some (V.int (a3:Nat)),some (V.str a2),h3,h4,h2]) (Gr0 F H a7 H') (Fz S0 a7) (Le b5 a7) (H' p1=some (.dK e0)) (a7 p1=none) (Dk (rFr K) a7 e0 placing_here104) ((placing_here104.map (·.1)).Nodup) ((PLI placing_here104 a3 i∧placing_here104.length≤5*a3+i))) ?_ ?_ ?_ ?_⟩
   ·exact⟨b5,_,g2,_,_,_,rfl,d7,h1,Le.refl _,oH99,oF100,(Dk.mo (d4.trans d8) g4),g5,by exact⟨q1,by omega⟩⟩
   ·rintro i σ' q9 _ ⟨r0,r1,r2,r3,r4,r5,rfl,h5,r6,h6,oH118,oF119,r7,r8,⟨j1,j2⟩⟩
    exact (Same.seq h5.s (Le.lst h6 (SqL.of d6)))
   ·rintro e1 h7 σ' r9 t0 h8 ⟨t1,t2,h9,t3,t4,t5,rfl,e2,i0,e3,oH135,oF136,e4,i1,⟨j1,j2⟩⟩ i2
    obtain⟨a4,b1,i3⟩:=Al.get (Al.mo e3 d9) h8
    obtain rfl:h7=V.str a4:=i3
    refine it2 (K:=K) e2.s i2 (fun i4 t6 b6 t7=>?_)
    obtain⟨e5,b7,i5⟩:=gr3 e2 i0 b6
    have oH151:=b6.h _ _ oH135
    have oF152:=b6.own oF136 oH135
    try dsimp only
    have hil:=(List.getElem?_eq_some_iff.mp b1).1
    have hnl:=g'D (List.mem_of_getElem? b1)
    have hn2:e1<5:=(List.getElem?_eq_some_iff.mp b1).1
    refine a's (a'E (a'f (a'p (a'b (a'c rfl (a'b (a'f ?_)))))))
    refine a'f (a_c (a'c rfl ?_))
    refine a_I (j'A (by decide) (by decide)) ?_
    refine a'c rfl (b'g (a'g ?_))
    refine⟨i4,_,_,cell,((5*(a3:Int))+(e1:Int)),rfl,e5.s,rfl,rfl,?_⟩
    rintro i6 t8 i7 a1 b8 i8 t9
    obtain⟨e6,b9,i9⟩:=gr3 e5 i5 b8
    have oH163:=b8.h _ _ oH151
    have oF164:=b8.own oF152 oH151
    obtain rfl:i6=V.int a1:=i8
    refine a'f (b'j (a'b (a_c (a'b (a_c (a'b (a'f ?_)))))))
    refine a_c (a_c ?_)
    refine e'p (z:=1000000) (by decide) ⟨by decide,by decide,by decide⟩ ?_
    refine a'g ?_
    refine⟨by show 3≤sizeLine;decide,fun j0 j3=>?_⟩
    obtain⟨e7,b2,j4⟩:=al2 (o:=(.lst [V.int 3,V.int 30,V.int 1000000])) e6.s (by intro _ _ z;cases z) j3
    generalize upd i7 j0 (.lst [V.int 3,V.int 30,V.int 1000000])=u0 at b2 ⊢
    obtain⟨c0,c1,j5⟩:=gr3 e6 i9 b2
    have oH174:=b2.h _ _ oH163
    have oF175:=b2.own oF164 oH163
    have j6:Al rI e7 [.int 3,.int 30,.int 1000000] [3,30,1000000]:=⟨rfl,⟨rfl,⟨rfl,True.intro⟩⟩⟩
    refine a'f (a'c rfl (a_c ?_))
    refine a_I (by decide) ?_
    have u1:0≤(cell % 3)∧(cell % 3)<3:=⟨Int.emod_nonneg _ (by decide),Int.emod_lt_of_pos _ (by decide)⟩
    obtain⟨a0,j7,j8,j9,k0⟩:=Al.ix j6 (i:=(cell % 3)) (by walk_at "o") (by walk_at "ol")
    refine b'T (Same.seq c0.s (SqL.of j4)) j9 ?_
    have k1:=List.mem_of_getElem? j8
    simp only [List.mem_cons,List.not_mem_nil,or_false] at k1
    obtain rfl:j7=V.int a0:=k0
    refine a_I (by walk_at "o") ?_
    have u2:0≤(a1 % a0)∧(a1 % a0)<a0:=⟨Int.emod_nonneg _ (by walk_at "o"),Int.emod_lt_of_pos _ (by walk_at "o")⟩
    refine a'z ?_
    try dsimp only
    have hT:0≤(a1 % a0)∧(a1 % a0)<1000000:=by omega
    refine d'w (a'p (a'b (a'c rfl (a'b (a'f (a_c (a'f ?_)))))))
    refine a'p (a'b (a'c rfl (a'b (a'f (a_c (a'c rfl (b'g ?_)))))))
    refine a'g ?_
    refine⟨e7,_,_,cell,(40+(a3:Int)),rfl,c0.s,rfl,rfl,?_⟩
    rintro k2 k3 u3 a5 c2 k4 u4
    obtain⟨e8,c3,k5⟩:=gr3 c0 j5 c2
    have oH194:=c2.h _ _ oH174
    have oF195:=c2.own oF175 oH174
    obtain rfl:k2=V.int a5:=k4
    refine a_c ?_
    refine a_I (by decide) ?_
    have u5:0≤(a5 % 3)∧(a5 % 3)<3:=⟨Int.emod_nonneg _ (by decide),Int.emod_lt_of_pos _ (by decide)⟩
    refine b'g (a'g ?_)
    refine⟨k3,_,_,(a1 % a0),(1+(a5 % 3)),rfl,e8.s,rfl,rfl,(by exact⟨by omega,Nat.le_trans (a'Q 7 (by omega)) (by decide)⟩),?_⟩
    rintro u6 k6 u7  c4 k7 
    obtain⟨k8,c5,k9⟩:=gr3 e8 k5 c4
    have oH207:=c4.h _ _ oH194
    have oF208:=c4.own oF195 oH194
    obtain⟨u8,rfl,l0⟩:=k7
    refine a'c rfl (a'f (a'c rfl (a'c rfl ?_)))
    have u9:(a2++a4).length=a2.length+a4.length:=d'l _ _
    refine⟨_,_,rfl,rfl,Nat.le_trans (show _≤100000 by omega) (by decide),?_⟩
    refine c'O oH207 (by rw [Dk.length (Dk.mo ((((b7.trans b9).trans c1).trans c3).trans c5) e4)];omega) (chg k8 hb6 oF208 (fun v0 l1 oH214 v1=>?_))
    try dsimp only
    exact⟨k6,_,(ptd h9 (a2++a4) (Rat.divInt ((a1 % a0)) ((1+(a5 % 3))))),_,_,_,rfl,l1,k9,(((((e3.trans b7).trans b9).trans c1).trans c3).trans c5),oH214,oF208,(Dk.put (x:=(a2++a4)) ⟨_,rfl,l0⟩ (Dk.mo ((((b7.trans b9).trans c1).trans c3).trans c5) e4)),(d'A i1 (a2++a4) (Rat.divInt ((a1 % a0)) ((1+(a5 % 3))))),by exact⟨j1.put hw1 b1 (o'e (by omega) (by omega) (by omega) (by omega)),Nat.le_trans (b'G _ _ _) (by omega)⟩⟩
   ·rintro σ' v2 ⟨l2,v3,l3,v4,v5,v6,rfl,l4,l5,e9,oH226,oF227,l6,l7,⟨j1,j2⟩⟩
    have hlen:=Al.length (Al.mo e9 d9)
    try dsimp only
    exact⟨l2,_,l3,_,_,_,_,_,rfl,l4,l5,(((d2.trans d4).trans d8).trans e9),oH226,oF227,l6,l7,by exact⟨j1.next rfl,by omega⟩⟩
  ·rintro σ' v7 ⟨v8,v9,l8,w0,w1,w2,w3,w4,rfl,l9,m0,m1,oH242,oF243,m2,m3,⟨q1,q2⟩⟩
   have hlen:=Al.length (Al.mo m1 c9)
   try dsimp only
   refine a'A (a'c rfl ?_)
   obtain⟨w5,m4,m5,m6,m7,w6⟩:=frz l9 m0 hb6 oF243 oH242 (by intro _ _ z;cases z)
   have m8:=Le.of m6
   exact k _ _ _ (l8) (Gr.of0 m4 m5) (⟨_,_,rfl,(Rd.of m7),(Dk.mo m8 m2),m3⟩) (by exact q1.fin (by omega))
def sp_law_at (K:PySem.W.Frag):Sp:=fun vs H Q _=>Ex7 fun (F:Hp) (v_parts:V) (v_rest:V) (v_placing_here:V) (parts:(List (Str×Rat))) (rest:Rat) (placing_here:(List (Str×Rat)))=>Cj8 (vs=[v_parts,v_rest,v_placing_here]) (Same F H) (Fz S0 F) (lentD (rFr K) F H v_parts parts) ((rFr K) F v_rest rest) ((rD (rFr K)) F v_placing_here placing_here) (MPre parts rest placing_here) (∀ (v:V) (F' H':Hp),Gr F H F' H'→(rFr K) F' v (rest+val parts (plc placing_here))→(bs (rest+val parts (plc placing_here))≤1800)→Q v H')
theorem e't (T:Tx w K mg):FnOk P w K mg base CX0 4 T.a_law_at T.d_law_at ["_law_parts","_law_rest","_law_placing_here"] (sp_law_at K):=by
 refine T.F_law_at.ok sc_law_at (fun vs H Q E h=>?_) (fun cdv A outer s H vs Q E hr h=>?_)
 ·obtain⟨F,v_parts,v_rest,v_placing_here,parts,rest,placing_here,rfl,_⟩:=h
  rfl
 ·obtain⟨F,v_parts,v_rest,v_placing_here,parts,rest,placing_here,rfl,wd,cm,r_parts,r_rest,r_placing_here,hpre,k⟩:=h
  have hu:=a'M hr
  have gb:=Gr0.refl wd
  obtain⟨p1,kv2,rfl,oH3,oF4,al5,nd6⟩:=r_parts
  obtain⟨a7,rfl,sq8⟩:=r_rest
  obtain⟨a9,h4,rfl,d2,d3,h5⟩:=r_placing_here
  refine⟨_,(@a'h _ _ _ _ _ (j'Q (pv 1) (b'K rfl (a'J (a'K (i:=3) sc_law_at.nd rfl (Or.inl rfl)) (a'J (a'K (i:=4) sc_law_at.nd rfl (Or.inl rfl)) b't))))
     (@a'h _ _ _ _ _ (d'u PassesOwn.never rfl (pv 0) (b'K rfl (a'J (a'K (i:=5) sc_law_at.nd rfl (Or.inl rfl)) (a'J (a'K (i:=6) sc_law_at.nd rfl (Or.inl rfl)) b't))) (@a'h _ _ _ _ _ (a'w (i:=7) sc_law_at.nd rfl (Or.inl rfl) (i'F hu (pv 2) (pv 5) (fun _ _=>rfl)))
     (@a'h _ _ _ _ _ (a'w (i:=8) sc_law_at.nd rfl (Or.inl rfl) (a'n a'L (a'm a'k (pv 6) a'd (fun _ _=>rfl)) (a'm a'k (pv 7) a'd (fun _ _=>rfl))))
     (@a'h _ _ _ _ _ (a'w (i:=9) sc_law_at.nd rfl (Or.inl rfl) (a'n a'L (a'm a'k (pv 6) a'd (fun _ _=>rfl)) (a'm a'k (pv 7) a'd (fun _ _=>rfl))))
     (a'i (j'Q (a'l ((b'E T).mono (by decide)) hr rfl T.m_law_lowest T.F_law_lowest.kp T.b_law_lowest .nil a'j (a'a (a'n b'X (a'n a'L (pv 3) (pv 9)) (a'n a'L (pv 8) (pv 4))) (a'a (a'n a'L (pv 4) (pv 9)) a'e))) (b'K rfl (a'J (a'K (i:=3) sc_law_at.nd rfl (Or.inl rfl)) (a'J (a'K (i:=4) sc_law_at.nd rfl (Or.inl rfl)) b't)))))))))
     (a'i (a'r (b'L (a'a (pv 3) (a'a (pv 4) a'e))))))),?_⟩
  obtain⟨hall,hm1,hm2,hm3⟩:=hpre
  refine a's (a'E (a'c rfl ?_))
  refine e'C (Same.tup gb.s sq8) ?_
  try dsimp only
  refine a's (e'k (a'c rfl ?_))
  have b8:H p1=some (.dK kv2):=oH3
  have b9:F p1=none∨F p1=some (.dK kv2):=.inl oF4
  have c0:=al5
  have hnd:=nd6
  have hdl:=Dk.length c0
  refine⟨_,kv2,rfl,b8,fun a1 d4=>?_⟩
  have d5:=e'G (a:=p1) (.frz a1 (.dK kv2)) gb
  have d6:=e'I (a:=p1) (z:=(.frz a1 (.dK kv2))) cm
  have d7:=e'H (ob:=a1) b9
  refine c'C (a:=p1) (ob:=a1) (kvs:=kv2) (fun i σ' H'=>Ex8 fun (a5:Hp) (c1:Int) (c2:Int) (d8:Option V) (d9:Option V) (e1:Option V) (e2:Option V) (e3:Option V)=>Cj7 (σ'=[some (V.ref p1),some (V.ref a7),some (V.ref a9),some (V.int c1),some (V.int c2),e2,e3,d8,d9,e1]) (Gr0 (fz F p1 (.frz a1 (.dK kv2))) (fz H p1 (.frz a1 (.dK kv2))) a5 H') (Fz (fun b=>b=p1∨S0 b) a5) (Le F a5) (a5 p1=fz F p1 (.frz a1 (.dK kv2)) p1) (H' p1=some (.frz a1 (.dK kv2))) ((c1=(run (plc placing_here) rest (List.take i parts)).num∧c2=((run (plc placing_here) rest (List.take i parts)).den:Int)))) ?_ ?_ ?_ ?_
  ·exact⟨(fz F p1 (.frz a1 (.dK kv2))),rest.num,(rest.den:Int),_,_,_,_,_,rfl,d5,d6,d7,rfl,a'v,by exact⟨rfl,rfl⟩⟩
  ·rintro i σ' h6 _ ⟨h7,h8,h9,i0,i3,i4,i5,i6,rfl,i7,i8,i9,j0,e4,⟨i1,i2⟩⟩
   exact e4
  ·rintro b1 j1 j2 σ' j3 j4 e5 ⟨j5,a3,a0,j6,j7,j8,j9,k0,rfl,c3,e6,a6,e7,c4,⟨i1,i2⟩⟩ e8
   obtain⟨k1,number_here65,c5,rfl,e9⟩:=Dk.get (Dk.mo a6 c0) e5
   obtain⟨k2,rfl,c6⟩:=e9
   refine it2 (K:=K) c3.s e8 (fun f0 k3 b2 k4=>?_)
   obtain⟨a2,a4,f1⟩:=gr3 c3 e6 b2
   have c7:=b2.h _ _ c4
   have f2:=b2.at c4 e7
   try dsimp only
   have hgt:=c'h hnd (List.mem_of_getElem? c5)
   obtain⟨y,hy⟩:=hall _ _ hgt
   have hb1:=hm1 _ _ hgt
   have hb2:=hm2 _ _ hy
   have hb3:=hm3 b1
   have hb4:=c'l (run (plc placing_here) rest (List.take b1 parts))
   have hb5:=b'p (run (plc placing_here) rest (List.take b1 parts))
   have hb6:bi a3≤1800:=by rw [i1];omega
   have hb7:bi a0≤1800:=by rw [i2];omega
   have hb8:0<a0:=by rw [i2];exact b'e _
   refine a's (a'E (k'i (a'c rfl (a'c rfl ?_))))
   obtain⟨k5,f3,f4⟩:=Dk.some (Dk.mo (a6.trans a4) d3) hy
   refine i'J (Same.rd a2.s (Le.dic (a6.trans a4) d2)) f3 ?_
   obtain⟨k6,rfl,c8⟩:=f4
   refine a'z ?_
   try dsimp only
   refine a's (a'E (a'f (a'f (a'c rfl (a_c ?_)))))
   refine a'o (Same.tup a2.s (Le.tup a4 c6)) (fr0 number_here65) ?_
   have k7:=c'l number_here65
   refine a'f (a'c rfl (a_c ?_))
   refine a'o (Same.tup a2.s c8) (fr0 y) ?_
   have k8:=c'l y
   refine a_I (by walk_at "om") ?_
   have k9:=b'N number_here65.num y.num
   refine a'z ?_
   try dsimp only
   refine a's (a'E (a'f (a'f (a'c rfl (a_c ?_)))))
   refine a'o (Same.tup a2.s (Le.tup a4 c6)) (fr1 number_here65) ?_
   have l0:=b'p number_here65
   refine a'f (a'c rfl (a_c ?_))
   refine a'o (Same.tup a2.s c8) (fr1 y) ?_
   have l1:=b'p y
   refine a_I (by walk_at "om") ?_
   have l2:=b'N (number_here65.den:Int) (y.den:Int)
   refine a'z ?_
   try dsimp only
   refine a'E (a'p (a'b (a'f (a'f (a'c rfl (a'c rfl ?_))))))
   refine a_I (by walk_at "om") ?_
   have l3:=b'N a3 ((number_here65.den:Int)*(y.den:Int))
   refine a'f (a'c rfl (a'c rfl ?_))
   refine a_I (by walk_at "om") ?_
   have l4:=b'N (number_here65.num*y.num) a0
   refine b'g ?_
   have l5:=h'P (a3*((number_here65.den:Int)*(y.den:Int))) ((number_here65.num*y.num)*a0)
   refine a'b (a'f (a'c rfl (a'c rfl ?_)))
   refine a_I (by walk_at "om") ?_
   have l6:=b'N a0 ((number_here65.den:Int)*(y.den:Int))
   refine a'g ?_
   refine⟨f0,_,_,((a3*((number_here65.den:Int)*(y.den:Int)))+((number_here65.num*y.num)*a0)),(a0*((number_here65.den:Int)*(y.den:Int))),rfl,a2.s,rfl,rfl,(by exact⟨Int.mul_pos hb8 (Int.mul_pos (b'e _) (b'e _)),by omega⟩),?_⟩
   rintro l7 f5 l8  b3 f6 
   obtain⟨c9,f7,f8⟩:=gr3 a2 f1 b3
   have f9:=b3.h _ _ c7
   have g0:=b3.at c7 f2
   obtain⟨l9,rfl,g1⟩:=f6
   refine e'C (Same.tup c9.s g1) ?_
   try dsimp only
   exact⟨f5,(Rat.divInt (((a3*((number_here65.den:Int)*(y.den:Int)))+((number_here65.num*y.num)*a0))) ((a0*((number_here65.den:Int)*(y.den:Int))))).num,((Rat.divInt (((a3*((number_here65.den:Int)*(y.den:Int)))+((number_here65.num*y.num)*a0))) ((a0*((number_here65.den:Int)*(y.den:Int))))).den:Int),_,_,_,_,_,rfl,c9,f8,((a6.trans a4).trans f7),g0,f9,by exact o'A c5 hy i1 i2⟩
  ·rintro σ' m0 ⟨m1,b4,b5,m2,m3,m4,m5,m6,rfl,g2,g3,m7,g4,g5,⟨i1,i2⟩⟩
   refine⟨p1,a1,kv2,g5,d4,?_⟩
   refine thw gb b8 b9 g2 g4 g3 (fun m8 g6 d0 g7 m9 g8 d1 nF130 nH131=>?_)
   have oF132:=g8.trans oF4
   try dsimp only
   have e0:=hm3 parts.length
   have e:List.take parts.length parts=parts:=List.take_length
   rw [e,e'n] at e0
   rw [hdl,e,e'n] at i1 i2
   refine a'A (b'C (a'b (a'c rfl (a'b (a'c rfl (a'g ?_))))))
   refine⟨by show 2≤sizeLine;decide,fun a8 g9=>?_⟩
   obtain⟨b6,b0,h0⟩:=al2 (o:=(.tup [V.int b4,V.int b5])) d0.s (by intro _ _ z;cases z) g9
   generalize upd g6 a8 (.tup [V.int b4,V.int b5])=n0 at b0 ⊢
   obtain⟨h1,n1,h2⟩:=gr3 d0 g7 b0
   have oH142:=b0.h _ _ d1
   have oF143:=b0.own oF132 d1
   have h3:SqT K b6 a8 (fr (rest+val parts (plc placing_here))):=by rw [show fr (rest+val parts (plc placing_here))=[V.int b4,V.int b5] from by rw [i1,i2];rfl];exact SqT.of h0
   have hval:((rest+val parts (plc placing_here)):Rat)=(rest+val parts (plc placing_here)):=by rfl
   have b7:(rFr K) b6 (V.ref a8) ((rest+val parts (plc placing_here))):=⟨_,rfl,h3⟩
   replace b7:=Eq.mp (congrArg ((rFr K) b6 (V.ref a8)) hval) b7
   exact k _ _ _ (Gr.of0 h1 h2) b7 (by exact e0)
def sp_law_same (K:PySem.W.Frag):Sp:=fun vs H Q _=>Ex5 fun (F:Hp) (v_found:V) (v_due:V) (found:Rat) (due:Rat)=>Cj5 (vs=[v_found,v_due]) (Same F H) ((rFr K) F v_found found) ((rFr K) F v_due due) (∀ (v:V) (F' H':Hp),Gr F H F' H'→rB F' v (decide (found=due))→Q v H')
theorem d'p (T:Tx w K mg):FnOk P w K mg base CX0 1 T.a_law_same T.d_law_same ["_law_found","_law_due"] (sp_law_same K):=by
 refine T.F_law_same.ok i'v (fun vs H Q E h=>?_) (fun cdv A outer s H vs Q E hr h=>?_)
 ·obtain⟨F,v_found,v_due,found,due,rfl,_⟩:=h
  rfl
 ·obtain⟨F,v_found,v_due,found,due,rfl,wd,r_found,r_due,k⟩:=h
  have hu:=a'M hr
  have gb:=Gr0.refl wd
  have cm:=Fz.refl F
  obtain⟨a1,rfl,sq2⟩:=r_found
  obtain⟨a3,rfl,sq4⟩:=r_due
  refine⟨_,(@a'h _ _ _ _ _ (a'P (PW.pt (b'B (c'T (b'J (a'F c'c rfl T.z_isinstance rfl (a'a (pv 0) (a'a (c'p (v:=.ty "tuple") rfl T.z_tuple rfl rfl) a'e))))) (b'W (a'u b'H (a'F b'w rfl T.z_len rfl (a'a (pv 0) a'e)) a'd (a'y _))))) (a'i (a'r c'i)) a'N)
     (a'i (a'r (e'f (j'P (a'F c'c rfl T.z_isinstance rfl (a'a (a'm a'k (pv 0) a'd (fun _ _=>rfl)) (a'a (c'p (v:=.ty "bool") rfl T.z_bool rfl rfl) a'e)))) (e'f (j'P (a'F c'c rfl T.z_isinstance rfl (a'a (a'm a'k (pv 0) a'd (fun _ _=>rfl)) (a'a (c'p (v:=.ty "bool") rfl T.z_bool rfl rfl) a'e)))) (f'z (b'F (k't (K:=K) (A:=(rFr K)) rfl hr.units) (pv 0) (pv 1) (a'y _)))))))),?_⟩
  refine a's (b'd (b'V (d'f (c't (a'U (a'b (a'c rfl ?_)))))))
  refine a'b (a_c (a'g ?_))
  refine⟨_,_,_,true,_,rfl,(k'r (Same.tup gb.s sq2)),rfl,rfl,?_⟩
  refine a'C ?_
  refine d'P ?_
  refine a'B (a'f (a'U (a'b (a'c rfl (a'g ?_)))))
  refine⟨_,_,rfl,.inr (Same.tup gb.s sq2),?_⟩
  rw [show ((fr found:List V).length:Int)=2 from rfl]
  refine a_c (c'L ?_)
  rw [show decide ((2:Int)=2)=true from by decide]
  refine a'C ?_
  refine d'P ?_
  refine a'G ?_
  try dsimp only
  refine a'A (d'v (h'H (a'U (a'b (a'f (a'c rfl (a_c ?_)))))))
  refine a'o (Same.tup gb.s sq2) (fr0 found) ?_
  refine a'b (a_c (a'g ?_))
  refine⟨_,_,_,false,_,rfl,f'N,rfl,rfl,?_⟩
  refine a'C (a'C ?_)
  refine l'V ?_
  refine d'v (h'H (a'U (a'b (a'f (a'c rfl (a_c ?_))))))
  refine a'o (Same.tup gb.s sq2) (fr1 found) ?_
  refine a'b (a_c (a'g ?_))
  refine⟨_,_,_,false,_,rfl,f'N,rfl,rfl,?_⟩
  refine a'C (a'C ?_)
  refine l'V ?_
  refine a'f (a'c rfl (a'c rfl ?_))
  refine⟨F,found,due,gb.s,⟨_,rfl,sq2⟩,⟨_,rfl,sq4⟩,?_⟩
  have hval:((decide (found=due)):Bool)=(decide (found=due)):=by rfl
  have rp5:rB F (V.bl (decide (found=due))) ((decide (found=due))):=rfl
  replace rp5:=Eq.mp (congrArg (rB F (V.bl (decide (found=due)))) hval) rp5
  exact k _ _ _ (Gr.of gb cm) rp5
def sp_law_miss (K:PySem.W.Frag):Sp:=fun vs H Q _=>Ex5 fun (F:Hp) (v_kind:V) (v_gap:V) (kind:Str) (gap:Rat)=>Cj5 (vs=[v_kind,v_gap]) (Same F H) (rS F v_kind kind) ((rFr K) F v_gap gap) (∀ (v:V) (F' H':Hp),Gr F H F' H'→(rFr K) F' v (misd kind gap)→Q v H')
theorem f'c (T:Tx w K mg):FnOk P w K mg base CX0 1 T.a_law_miss T.d_law_miss ["_law_kind","_law_gap"] (sp_law_miss K):=by
 refine T.F_law_miss.ok i'x (fun vs H Q E h=>?_) (fun cdv A outer s H vs Q E hr h=>?_)
 ·obtain⟨F,v_kind,v_gap,kind,gap,rfl,_⟩:=h
  rfl
 ·obtain⟨F,v_kind,v_gap,kind,gap,rfl,wd,r_kind,r_gap,k⟩:=h
  have hu:=a'M hr
  have gb:=Gr0.refl wd
  have cm:=Fz.refl F
  obtain rfl:v_kind=V.str kind:=r_kind
  obtain⟨a1,rfl,sq2⟩:=r_gap
  refine⟨_,(@a'h _ _ _ _ _ (a'P (PW.pt (b'B (PW.pt (c'z (a'u b'n (pv 0) a'x (a'y _)) (c'q (a'u h'o (a'm a'k (pv 1) a'd (fun _ _=>rfl)) a'd (a'y _))))) (b'W (PW.pt (c'z (a'u b'n (pv 0) a'x (a'y _)) (c'q (a'u d'e (a'm a'k (pv 1) a'd (fun _ _=>rfl)) a'd (a'y _)))))))) (a'i (a'r (b'L (a'a a'd (a'a a'd a'e))))) a'N)
     (a'i (a'r (b'L (a'a (a'F c's rfl T.z_abs rfl (a'a (a'm a'k (pv 1) a'd (fun _ _=>rfl)) a'e)) (a'a (a'm a'k (pv 1) a'd (fun _ _=>rfl)) a'e)))))),?_⟩
  refine a's (b'd (b'V (c'k (a'B (a'f (a'c rfl (a_c ?_)))))))
  have ln3:("least":Str).length=5:=by decide +kernel
  refine c'y (a'C ?_)
  refine a'V (fun c4=>?_) (fun c4=>?_)
  ·refine a'B (a'f (a'f (a'c rfl (a_c ?_))))
   refine a'o (Same.tup gb.s sq2) (fr0 gap) ?_
   refine a_c (b'g (a'C ?_))
   refine a'V (fun c5=>?_) (fun c5=>?_)
   ·refine c'b ?_
    refine a'A (b'C (a'b (a_c (a'b (a_c (a'g ?_))))))
    refine⟨by show 2≤sizeLine;decide,fun p6 hp7=>?_⟩
    obtain⟨F8,c0,c9⟩:=al2 (o:=(.tup [V.int 0,V.int 1])) gb.s (by intro _ _ z;cases z) hp7
    generalize upd H p6 (.tup [V.int 0,V.int 1])=H9 at c0 ⊢
    obtain⟨d0,g7,d1⟩:=gr3 gb cm c0
    have d2:SqT K F8 p6 (fr ((0:Int):Rat)):=by rw [f'M];exact SqT.of c9
    have hval:(((0:Int):Rat):Rat)=(misd kind gap):=by first | exact c'x (.inl ⟨by assumption,by assumption⟩) | exact c'x (.inr ⟨by assumption,by assumption⟩)
    have a7:(rFr K) F8 (V.ref p6) (((0:Int):Rat)):=⟨_,rfl,d2⟩
    replace a7:=Eq.mp (congrArg ((rFr K) F8 (V.ref p6)) hval) a7
    exact k _ _ _ (Gr.of d0 d1) a7
   ·refine c'k (a'B (a'f (a'c rfl (a_c ?_))))
    have g8:("most":Str).length=4:=by decide +kernel
    refine c'y (a'C ?_)
    refine a'V (fun d3=>?_) (fun d3=>?_)
    ·refine a'B (a'f (a'f (a'c rfl (a_c ?_))))
     refine a'o (Same.tup gb.s sq2) (fr0 gap) ?_
     refine a_c (b'g (a'C ?_))
     refine a'V (fun d4=>?_) (fun d4=>?_)
     ·refine a'A (b'C (a'b (a_c (a'b (a_c (a'g ?_))))))
      refine⟨by show 2≤sizeLine;decide,fun a0 d5=>?_⟩
      obtain⟨a8,c1,d6⟩:=al2 (o:=(.tup [V.int 0,V.int 1])) gb.s (by intro _ _ z;cases z) d5
      generalize upd H a0 (.tup [V.int 0,V.int 1])=g9 at c1 ⊢
      obtain⟨d7,h0,d8⟩:=gr3 gb cm c1
      have d9:SqT K a8 a0 (fr ((0:Int):Rat)):=by rw [f'M];exact SqT.of d6
      have hval:(((0:Int):Rat):Rat)=(misd kind gap):=by first | exact c'x (.inl ⟨by assumption,by assumption⟩) | exact c'x (.inr ⟨by assumption,by assumption⟩)
      have a9:(rFr K) a8 (V.ref a0) (((0:Int):Rat)):=⟨_,rfl,d9⟩
      replace a9:=Eq.mp (congrArg ((rFr K) a8 (V.ref a0)) hval) a9
      exact k _ _ _ (Gr.of d7 d8) a9
     ·refine a'G ?_
      try dsimp only
      refine a'A (b'C (a'b (a'U (a'b (a'f (a'c rfl (a_c ?_)))))))
      refine a'o (Same.tup gb.s sq2) (fr0 gap) ?_
      refine a'g ?_
      refine⟨_,rfl,?_⟩
      refine a'b (a'f (a'c rfl (a_c ?_)))
      refine a'o (Same.tup gb.s sq2) (fr1 gap) ?_
      refine a'g ?_
      refine⟨by show 2≤sizeLine;decide,fun a2 e0=>?_⟩
      obtain⟨b0,c2,e1⟩:=al2 (o:=(.tup [V.int (if gap.num<0 then -gap.num else gap.num),V.int (gap.den:Int)])) gb.s (by intro _ _ z;cases z) e0
      generalize upd H a2 (.tup [V.int (if gap.num<0 then -gap.num else gap.num),V.int (gap.den:Int)])=h1 at c2 ⊢
      obtain⟨e2,h2,e3⟩:=gr3 gb cm c2
      have e4:SqT K b0 a2 (fr (absR gap)):=by rw [show fr (absR gap)=[V.int (if gap.num<0 then -gap.num else gap.num),V.int (gap.den:Int)] from by rw [g'c]];exact SqT.of e1
      have hval:((absR gap):Rat)=(misd kind gap):=by exact e'P (fun z=>by simp_all) (fun z=>by simp_all)
      have b1:(rFr K) b0 (V.ref a2) ((absR gap)):=⟨_,rfl,e4⟩
      replace b1:=Eq.mp (congrArg ((rFr K) b0 (V.ref a2)) hval) b1
      exact k _ _ _ (Gr.of e2 e3) b1
    ·refine b'x ?_
     refine a'G ?_
     try dsimp only
     refine a'A (b'C (a'b (a'U (a'b (a'f (a'c rfl (a_c ?_)))))))
     refine a'o (Same.tup gb.s sq2) (fr0 gap) ?_
     refine a'g ?_
     refine⟨_,rfl,?_⟩
     refine a'b (a'f (a'c rfl (a_c ?_)))
     refine a'o (Same.tup gb.s sq2) (fr1 gap) ?_
     refine a'g ?_
     refine⟨by show 2≤sizeLine;decide,fun a3 e5=>?_⟩
     obtain⟨b2,c3,e6⟩:=al2 (o:=(.tup [V.int (if gap.num<0 then -gap.num else gap.num),V.int (gap.den:Int)])) gb.s (by intro _ _ z;cases z) e5
     generalize upd H a3 (.tup [V.int (if gap.num<0 then -gap.num else gap.num),V.int (gap.den:Int)])=h3 at c3 ⊢
     obtain⟨e7,h4,e8⟩:=gr3 gb cm c3
     have e9:SqT K b2 a3 (fr (absR gap)):=by rw [show fr (absR gap)=[V.int (if gap.num<0 then -gap.num else gap.num),V.int (gap.den:Int)] from by rw [g'c]];exact SqT.of e6
     have hval:((absR gap):Rat)=(misd kind gap):=by exact e'P (fun z=>by simp_all) (fun z=>by simp_all)
     have b3:(rFr K) b2 (V.ref a3) ((absR gap)):=⟨_,rfl,e9⟩
     replace b3:=Eq.mp (congrArg ((rFr K) b2 (V.ref a3)) hval) b3
     exact k _ _ _ (Gr.of e7 e8) b3
  ·refine b'x ?_
   refine c'k (a'B (a'f (a'c rfl (a_c ?_))))
   have h5:("most":Str).length=4:=by decide +kernel
   refine c'y (a'C ?_)
   refine a'V (fun f0=>?_) (fun f0=>?_)
   ·refine a'B (a'f (a'f (a'c rfl (a_c ?_))))
    refine a'o (Same.tup gb.s sq2) (fr0 gap) ?_
    refine a_c (b'g (a'C ?_))
    refine a'V (fun f1=>?_) (fun f1=>?_)
    ·refine a'A (b'C (a'b (a_c (a'b (a_c (a'g ?_))))))
     refine⟨by show 2≤sizeLine;decide,fun a4 f2=>?_⟩
     obtain⟨b4,c6,f3⟩:=al2 (o:=(.tup [V.int 0,V.int 1])) gb.s (by intro _ _ z;cases z) f2
     generalize upd H a4 (.tup [V.int 0,V.int 1])=h6 at c6 ⊢
     obtain⟨f4,h7,f5⟩:=gr3 gb cm c6
     have f6:SqT K b4 a4 (fr ((0:Int):Rat)):=by rw [f'M];exact SqT.of f3
     have hval:(((0:Int):Rat):Rat)=(misd kind gap):=by first | exact c'x (.inl ⟨by assumption,by assumption⟩) | exact c'x (.inr ⟨by assumption,by assumption⟩)
     have b5:(rFr K) b4 (V.ref a4) (((0:Int):Rat)):=⟨_,rfl,f6⟩
     replace b5:=Eq.mp (congrArg ((rFr K) b4 (V.ref a4)) hval) b5
     exact k _ _ _ (Gr.of f4 f5) b5
    ·refine a'G ?_
     try dsimp only
     refine a'A (b'C (a'b (a'U (a'b (a'f (a'c rfl (a_c ?_)))))))
     refine a'o (Same.tup gb.s sq2) (fr0 gap) ?_
     refine a'g ?_
     refine⟨_,rfl,?_⟩
     refine a'b (a'f (a'c rfl (a_c ?_)))
     refine a'o (Same.tup gb.s sq2) (fr1 gap) ?_
     refine a'g ?_
     refine⟨by show 2≤sizeLine;decide,fun a5 f7=>?_⟩
     obtain⟨b6,c7,f8⟩:=al2 (o:=(.tup [V.int (if gap.num<0 then -gap.num else gap.num),V.int (gap.den:Int)])) gb.s (by intro _ _ z;cases z) f7
     generalize upd H a5 (.tup [V.int (if gap.num<0 then -gap.num else gap.num),V.int (gap.den:Int)])=h8 at c7 ⊢
     obtain⟨f9,h9,g0⟩:=gr3 gb cm c7
     have g1:SqT K b6 a5 (fr (absR gap)):=by rw [show fr (absR gap)=[V.int (if gap.num<0 then -gap.num else gap.num),V.int (gap.den:Int)] from by rw [g'c]];exact SqT.of f8
     have hval:((absR gap):Rat)=(misd kind gap):=by exact e'P (fun z=>by simp_all) (fun z=>by simp_all)
     have b7:(rFr K) b6 (V.ref a5) ((absR gap)):=⟨_,rfl,g1⟩
     replace b7:=Eq.mp (congrArg ((rFr K) b6 (V.ref a5)) hval) b7
     exact k _ _ _ (Gr.of f9 g0) b7
   ·refine b'x ?_
    refine a'G ?_
    try dsimp only
    refine a'A (b'C (a'b (a'U (a'b (a'f (a'c rfl (a_c ?_)))))))
    refine a'o (Same.tup gb.s sq2) (fr0 gap) ?_
    refine a'g ?_
    refine⟨_,rfl,?_⟩
    refine a'b (a'f (a'c rfl (a_c ?_)))
    refine a'o (Same.tup gb.s sq2) (fr1 gap) ?_
    refine a'g ?_
    refine⟨by show 2≤sizeLine;decide,fun a6 g2=>?_⟩
    obtain⟨b8,c8,g3⟩:=al2 (o:=(.tup [V.int (if gap.num<0 then -gap.num else gap.num),V.int (gap.den:Int)])) gb.s (by intro _ _ z;cases z) g2
    generalize upd H a6 (.tup [V.int (if gap.num<0 then -gap.num else gap.num),V.int (gap.den:Int)])=i0 at c8 ⊢
    obtain⟨g4,i1,g5⟩:=gr3 gb cm c8
    have g6:SqT K b8 a6 (fr (absR gap)):=by rw [show fr (absR gap)=[V.int (if gap.num<0 then -gap.num else gap.num),V.int (gap.den:Int)] from by rw [g'c]];exact SqT.of g3
    have hval:((absR gap):Rat)=(misd kind gap):=by exact e'P (fun z=>by simp_all) (fun z=>by simp_all)
    have b9:(rFr K) b8 (V.ref a6) ((absR gap)):=⟨_,rfl,g6⟩
    replace b9:=Eq.mp (congrArg ((rFr K) b8 (V.ref a6)) hval) b9
    exact k _ _ _ (Gr.of g4 g5) b9
def sp_law_one_class (T:Tx w K mg):Sp:=fun vs H Q _=>Ex5 fun (F:Hp) (v_wish_here:V) (v_kind:V) (wish_here:Wi) (kind:Str)=>Cj6 (vs=[v_wish_here,v_kind]) (Same F H) ((rW T) F v_wish_here wish_here) (rS F v_kind kind) (kind=wish_here.2.2.1) (∀ (v:V) (F' H':Hp),Gr F H F' H'→rB F' v (true)→Q v H')
theorem f'w (T:Tx w K mg):FnOk P w K mg base CX0 1 T.a_law_one_class T.d_law_one_class ["_law_wish_here","_law_kind"] (sp_law_one_class T):=by
 refine T.F_law_one_class.ok sc_law_one_class (fun vs H Q E h=>?_) (fun cdv A outer s H vs Q E hr h=>?_)
 ·obtain⟨F,v_wish_here,v_kind,wish_here,kind,rfl,_⟩:=h
  rfl
 ·obtain⟨F,v_wish_here,v_kind,wish_here,kind,rfl,wd,r_wish_here,r_kind,hpre,k⟩:=h
  have hu:=a'M hr
  have gb:=Gr0.refl wd
  have cm:=Fz.refl F
  obtain rfl:v_kind=V.str kind:=r_kind
  refine⟨_,(@a'h _ _ _ _ _ (a'w (i:=2) sc_law_one_class.nd rfl (Or.inl rfl) (a'T (a'a (a'F (show CallR _ _ (rIsR K) from d'W) rfl T.z_isinstance rfl (a'a (pv 0) (a'a (b'a (v:=.ref T.c_Just) rfl T.m_Just rfl) a'e))) (a'a (a'F (show CallR _ _ (rIsR K) from d'W) rfl T.z_isinstance rfl (a'a (pv 0) (a'a (b'a (v:=.ref T.c_AtLeast) rfl T.m_AtLeast rfl) a'e))) (a'a (a'F (show CallR _ _ (rIsR K) from d'W) rfl T.z_isinstance rfl (a'a (pv 0) (a'a (b'a (v:=.ref T.c_AtMost) rfl T.m_AtMost rfl) a'e))) a'e)))))
     (a'i (a'r (e'f (a'F (show CallR _ _ (rIsR K) from d'W) rfl T.z_isinstance rfl (a'a (pv 0) (a'a (b'a (v:=.ref T.c_Wish) rfl T.m_Wish rfl) a'e))) (f'z (b'F (k't (K:=K) (A:=(rL K rB)) rfl hr.units) (pv 2) (a'T (a'a (b'F b'n (pv 1) a'x (a'y _)) (a'a (b'F b'n (pv 1) a'x (a'y _)) (a'a (b'F b'n (pv 1) a'x (a'y _)) a'e)))) (a'y _))))))),?_⟩
  refine a's (a'E (b'j (a'b (a'U (a'b (a'c rfl (a'b ?_)))))))
  refine a_c (a'g ?_)
  obtain⟨ty1,hty2,hk3⟩:=n'd gb.s r_wish_here
  refine⟨_,_,ty1,_,_,rfl,hty2,rfl,hk3,?_⟩
  refine a'b (a'U (a'b (a'c rfl (a'b (a_c (a'g ?_))))))
  obtain⟨ty4,hty5,hk6⟩:=j'K gb.s r_wish_here
  refine⟨_,_,ty4,_,_,rfl,hty5,rfl,hk6,?_⟩
  refine a'b (a'U (a'b (a'c rfl (a'b (a_c (a'g ?_))))))
  obtain⟨ty7,hty8,hk9⟩:=k'Z gb.s r_wish_here
  refine⟨_,_,ty7,_,_,rfl,hty8,rfl,hk9,?_⟩
  refine a'g ?_
  refine⟨by show 3≤sizeLine;decide,fun a7 a8=>?_⟩
  obtain⟨a9,a3,b0⟩:=al2 (o:=(.lst [V.bl (decide (wish_here.2.2.1=("just":Str))),V.bl (decide (wish_here.2.2.1=("least":Str))),V.bl (decide (wish_here.2.2.1=("most":Str)))])) gb.s (by intro _ _ z;cases z) a8
  generalize upd H a7 (.lst [V.bl (decide (wish_here.2.2.1=("just":Str))),V.bl (decide (wish_here.2.2.1=("least":Str))),V.bl (decide (wish_here.2.2.1=("most":Str)))])=b1 at a3 ⊢
  obtain⟨a1,b2,b3⟩:=gr3 gb cm a3
  have b4:Al rB a9 [.bl (decide (wish_here.2.2.1=("just":Str))),.bl (decide (wish_here.2.2.1=("least":Str))),.bl (decide (wish_here.2.2.1=("most":Str)))] [(decide (wish_here.2.2.1=("just":Str))),(decide (wish_here.2.2.1=("least":Str))),(decide (wish_here.2.2.1=("most":Str)))]:=⟨rfl,⟨rfl,⟨rfl,True.intro⟩⟩⟩
  refine a'z ?_
  try dsimp only
  refine a'A (d'v (a'U (a'b (a'c rfl (a'b (a_c (a'g ?_)))))))
  obtain⟨b5,b6,b7⟩:=n'e a1.s (Mo.mo b2 r_wish_here)
  refine⟨_,_,b5,_,_,rfl,b6,rfl,b7,?_⟩
  refine a'C ?_
  refine c'b ?_
  refine a'f (a'c rfl (b'j (a'b (a'f (a'c rfl (a_c ?_))))))
  have c3:("just":Str).length=4:=by decide +kernel
  refine c'y (a'b (a'f (a'c rfl (a_c ?_))))
  have c4:("least":Str).length=5:=by decide +kernel
  refine c'y (a'b (a'f (a'c rfl (a_c ?_))))
  have c5:("most":Str).length=4:=by decide +kernel
  refine c'y (a'g ?_)
  refine⟨by show 3≤sizeLine;decide,fun b8 b9=>?_⟩
  obtain⟨a0,a4,c0⟩:=al2 (o:=(.lst [V.bl (decide (kind=("just":Str))),V.bl (decide (kind=("least":Str))),V.bl (decide (kind=("most":Str)))])) a1.s (by intro _ _ z;cases z) b9
  generalize upd b1 b8 (.lst [V.bl (decide (kind=("just":Str))),V.bl (decide (kind=("least":Str))),V.bl (decide (kind=("most":Str)))])=c6 at a4 ⊢
  obtain⟨a5,a6,c1⟩:=gr3 a1 b3 a4
  have c2:Al rB a0 [.bl (decide (kind=("just":Str))),.bl (decide (kind=("least":Str))),.bl (decide (kind=("most":Str)))] [(decide (kind=("just":Str))),(decide (kind=("least":Str))),(decide (kind=("most":Str)))]:=⟨rfl,⟨rfl,⟨rfl,True.intro⟩⟩⟩
  refine⟨a0,[(decide (wish_here.2.2.1=("just":Str))),(decide (wish_here.2.2.1=("least":Str))),(decide (wish_here.2.2.1=("most":Str)))],[(decide (kind=("just":Str))),(decide (kind=("least":Str))),(decide (kind=("most":Str)))],a5.s,⟨_,_,rfl,(Le.lst a6 (SqL.of b0)),(Al.mo a6 b4)⟩,⟨_,_,rfl,(SqL.of c0),c2⟩,?_⟩
  have hval:((decide ([(decide (wish_here.2.2.1=("just":Str))),(decide (wish_here.2.2.1=("least":Str))),(decide (wish_here.2.2.1=("most":Str)))]=[(decide (kind=("just":Str))),(decide (kind=("least":Str))),(decide (kind=("most":Str)))])):Bool)=(true):=by exact decide_eq_true (by rw [hpre])
  have a2:rB a0 (V.bl (decide ([(decide (wish_here.2.2.1=("just":Str))),(decide (wish_here.2.2.1=("least":Str))),(decide (wish_here.2.2.1=("most":Str)))]=[(decide (kind=("just":Str))),(decide (kind=("least":Str))),(decide (kind=("most":Str)))]))) ((decide ([(decide (wish_here.2.2.1=("just":Str))),(decide (wish_here.2.2.1=("least":Str))),(decide (wish_here.2.2.1=("most":Str)))]=[(decide (kind=("just":Str))),(decide (kind=("least":Str))),(decide (kind=("most":Str)))]))):=rfl
  replace a2:=Eq.mp (congrArg (rB a0 (V.bl (decide ([(decide (wish_here.2.2.1=("just":Str))),(decide (wish_here.2.2.1=("least":Str))),(decide (wish_here.2.2.1=("most":Str)))]=[(decide (kind=("just":Str))),(decide (kind=("least":Str))),(decide (kind=("most":Str)))])))) hval) a2
  exact k _ _ _ (Gr.of a5 c1) a2
def sp_law_wish (T:Tx w K mg):Sp:=fun vs H Q _=>Ex11 fun (F:Hp) (v_kind:V) (v_near:V) (v_far:V) (v_rank:V) (v_weight:V) (kind:Str) (near:Tm) (far:Tm) (rank:Int) (weight:Int)=>Cj9 (vs=[v_kind,v_near,v_far,v_rank,v_weight]) (Same F H) (rS F v_kind kind) ((rT T) F v_near near) ((rT T) F v_far far) (rI F v_rank rank) (rI F v_weight weight) (isK kind∧¬ mixd near far∧near.dep≤11∧(edg near).length≤30∧far.dep≤11∧(edg far).length≤30) (∀ (v:V) (F' H':Hp),Gr F H F' H'→(rW T) F' v (((near,far,kind,rank,weight):Wi))→Q v H')
theorem i'A (T:Tx w K mg):FnOk P w K mg base CX0 17 T.a_law_wish T.d_law_wish ["_law_kind","_law_near","_law_far","_law_rank","_law_weight"] (sp_law_wish T):=by
 refine T.F_law_wish.ok i'w (fun vs H Q E h=>?_) (fun cdv A outer s H vs Q E hr h=>?_)
 ·obtain⟨F,v_kind,v_near,v_far,v_rank,v_weight,kind,near,far,rank,weight,rfl,_⟩:=h
  rfl
 ·obtain⟨F,v_kind,v_near,v_far,v_rank,v_weight,kind,near,far,rank,weight,rfl,wd,r_kind,r_near,r_far,r_rank,r_weight,hpre,k⟩:=h
  have hu:=a'M hr
  have gb:=Gr0.refl wd
  have cm:=Fz.refl F
  obtain rfl:v_kind=V.str kind:=r_kind
  obtain rfl:v_rank=V.int rank:=r_rank
  obtain rfl:v_weight=V.int weight:=r_weight
  obtain⟨w1,w2,w3,w4,w5,w6⟩:=hpre
  refine⟨_,(@a'h _ _ _ _ _ (a'P (a'u b'n (pv 0) a'x (a'y _)) (a'i (a'r (b'v (E:=E0) T.mk_Just ((n'b T).mono (by decide)) hr rfl T.m_Just T.b_Wish___init__ .nil h'V (a'a (pv 1) (a'a (pv 2) (a'a (pv 3) (a'a (pv 4) a'e))))))) a'N)
     (@a'h _ _ _ _ _ (a'P (a'u b'n (pv 0) a'x (a'y _)) (a'i (a'r (b'v (E:=E0) T.mk_AtLeast ((j'J T).mono (by decide)) hr rfl T.m_AtLeast T.b_Wish___init__ .nil h'V (a'a (pv 1) (a'a (pv 2) (a'a (pv 3) (a'a (pv 4) a'e))))))) a'N)
     (a'i (a'r (b'v (E:=E0) T.mk_AtMost ((k'Y T).mono (by decide)) hr rfl T.m_AtMost T.b_Wish___init__ .nil h'V (a'a (pv 1) (a'a (pv 2) (a'a (pv 3) (a'a (pv 4) a'e))))))))),?_⟩
  refine a's (b'd (a'B (a'f (a'c rfl (a_c ?_)))))
  have ln1:("just":Str).length=4:=by decide +kernel
  refine c'y (a'C ?_)
  refine a'V (fun c2=>?_) (fun c2=>?_)
  ·refine a'A (b'P (a'b (a'c rfl (a'b (a'c rfl (a'b (a'c rfl ?_)))))))
   refine a'b (a'c rfl (a'g ?_))
   intro x3 dx4 hx5 hd6 ne7
   obtain⟨F8,g9,d3,b2⟩:=mkX (C:=T.c_Just) gb.s hx5 hd6 ne7
   refine⟨F8,x3,dx4,_,_,_,_,near,far,rfl,b2,g9.s,(Mo.mo (Gr.le g9) (r_near)),(Mo.mo (Gr.le g9) (r_far)),(by exact⟨w3,w4,w5,w6⟩),?_,?_⟩
   ·intro d4 b3 b4 b5
    exfalso
    exact w2 b5
   ·intro d4 b3 b4 b5
    refine⟨rfl,?_⟩
    obtain⟨a6,b6,d5⟩:=mkY (C:=T.c_Just) (dx:=dx4) [(("near":Str),v_near),(("far":Str),v_far),(("rank":Str),V.int rank),(("weight":Str),V.int weight)] g9 hx5 d3 b2 b4
    generalize upd b3 x3 (.ins T.c_Just dx4 [(("near":Str),v_near),(("far":Str),v_far),(("rank":Str),V.int rank),(("weight":Str),V.int weight)])=f5 at b6 ⊢
    obtain⟨d6,b7,d7⟩:=gr3 gb cm b6
    have hT20:(rW T) a6 (V.ref x3) ((near,far,("just":Str),rank,weight):Wi):=⟨x3,_,dx4,_,_,rfl,.inl d5,(.inl rfl),(.inl ⟨rfl,rfl⟩),(Mo.mo b7 r_near),(Mo.mo b7 r_far)⟩
    have hval:(((near,far,("just":Str),rank,weight):Wi):Wi)=(((near,far,kind,rank,weight):Wi)):=by first | (rw [show kind="just" by assumption];done) | (rw [show kind="least" by assumption];done) | (rw [(w1.resolve_left (by assumption)).resolve_left (by assumption)];done)
    have a7:(rW T) a6 (V.ref x3) (((near,far,("just":Str),rank,weight):Wi)):=hT20
    replace a7:=Eq.mp (congrArg ((rW T) a6 (V.ref x3)) hval) a7
    exact k _ _ _ (Gr.of d6 d7) a7
  ·refine a'G ?_
   try dsimp only
   refine a's (b'd (a'B (a'f (a'c rfl (a_c ?_)))))
   have f6:("least":Str).length=5:=by decide +kernel
   refine c'y (a'C ?_)
   refine a'V (fun d8=>?_) (fun d8=>?_)
   ·refine a'A (b'P (a'b (a'c rfl (a'b (a'c rfl (a'b (a'c rfl ?_)))))))
    refine a'b (a'c rfl (a'g ?_))
    intro a0 a2 b8 d9 e0
    obtain⟨e1,a3,e2,b9⟩:=mkX (C:=T.c_AtLeast) gb.s b8 d9 e0
    refine⟨e1,a0,a2,_,_,_,_,near,far,rfl,b9,a3.s,(Mo.mo (Gr.le a3) (r_near)),(Mo.mo (Gr.le a3) (r_far)),(by exact⟨w3,w4,w5,w6⟩),?_,?_⟩
    ·intro e3 c0 c1 c3
     exfalso
     exact w2 c3
    ·intro e3 c0 c1 c3
     refine⟨rfl,?_⟩
     obtain⟨a8,c4,e4⟩:=mkY (C:=T.c_AtLeast) (dx:=a2) [(("near":Str),v_near),(("far":Str),v_far),(("rank":Str),V.int rank),(("weight":Str),V.int weight)] a3 b8 e2 b9 c1
     generalize upd c0 a0 (.ins T.c_AtLeast a2 [(("near":Str),v_near),(("far":Str),v_far),(("rank":Str),V.int rank),(("weight":Str),V.int weight)])=f7 at c4 ⊢
     obtain⟨e5,c5,e6⟩:=gr3 gb cm c4
     have hT44:(rW T) a8 (V.ref a0) ((near,far,("least":Str),rank,weight):Wi):=⟨a0,_,a2,_,_,rfl,.inl e4,(.inr (.inl rfl)),(.inr (.inl ⟨rfl,rfl⟩)),(Mo.mo c5 r_near),(Mo.mo c5 r_far)⟩
     have hval:(((near,far,("least":Str),rank,weight):Wi):Wi)=(((near,far,kind,rank,weight):Wi)):=by first | (rw [show kind="just" by assumption];done) | (rw [show kind="least" by assumption];done) | (rw [(w1.resolve_left (by assumption)).resolve_left (by assumption)];done)
     have a9:(rW T) a8 (V.ref a0) (((near,far,("least":Str),rank,weight):Wi)):=hT44
     replace a9:=Eq.mp (congrArg ((rW T) a8 (V.ref a0)) hval) a9
     exact k _ _ _ (Gr.of e5 e6) a9
   ·refine a'G ?_
    try dsimp only
    refine a'A (b'P (a'b (a'c rfl (a'b (a'c rfl (a'b (a'c rfl ?_)))))))
    refine a'b (a'c rfl (a'g ?_))
    intro a1 a4 c6 e7 e8
    obtain⟨e9,a5,f0,c7⟩:=mkX (C:=T.c_AtMost) gb.s c6 e7 e8
    refine⟨e9,a1,a4,_,_,_,_,near,far,rfl,c7,a5.s,(Mo.mo (Gr.le a5) (r_near)),(Mo.mo (Gr.le a5) (r_far)),(by exact⟨w3,w4,w5,w6⟩),?_,?_⟩
    ·intro f1 c8 c9 d0
     exfalso
     exact w2 d0
    ·intro f1 c8 c9 d0
     refine⟨rfl,?_⟩
     obtain⟨b0,d1,f2⟩:=mkY (C:=T.c_AtMost) (dx:=a4) [(("near":Str),v_near),(("far":Str),v_far),(("rank":Str),V.int rank),(("weight":Str),V.int weight)] a5 c6 f0 c7 c9
     generalize upd c8 a1 (.ins T.c_AtMost a4 [(("near":Str),v_near),(("far":Str),v_far),(("rank":Str),V.int rank),(("weight":Str),V.int weight)])=f8 at d1 ⊢
     obtain⟨f3,d2,f4⟩:=gr3 gb cm d1
     have hT66:(rW T) b0 (V.ref a1) ((near,far,("most":Str),rank,weight):Wi):=⟨a1,_,a4,_,_,rfl,.inl f2,(.inr (.inr rfl)),(.inr (.inr ⟨rfl,rfl⟩)),(Mo.mo d2 r_near),(Mo.mo d2 r_far)⟩
     have hval:(((near,far,("most":Str),rank,weight):Wi):Wi)=(((near,far,kind,rank,weight):Wi)):=by first | (rw [show kind="just" by assumption];done) | (rw [show kind="least" by assumption];done) | (rw [(w1.resolve_left (by assumption)).resolve_left (by assumption)];done)
     have b1:(rW T) b0 (V.ref a1) (((near,far,("most":Str),rank,weight):Wi)):=hT66
     replace b1:=Eq.mp (congrArg ((rW T) b0 (V.ref a1)) hval) b1
     exact k _ _ _ (Gr.of f3 f4) b1
def sp_law_less (T:Tx w K mg):Sp:=fun vs H Q _=>Ex7 fun (F:Hp) (v_near:V) (v_far:V) (v_placing_here:V) (near:Tm) (far:Tm) (placing_here:(List (Str×Rat)))=>Cj8 (vs=[v_near,v_far,v_placing_here]) (Same F H) (Fz S0 F) ((rT T) F v_near near) ((rT T) F v_far far) ((rD (rFr K)) F v_placing_here placing_here) (Pre 13 near∧Pre 13 far∧MPre (wor near).1 (wor near).2 placing_here∧MPre (wor far).1 (wor far).2 placing_here) (∀ (v:V) (F' H':Hp),Gr F H F' H'→(rFr K) F' v (vAt near placing_here - vAt far placing_here)→(bs (vAt near placing_here - vAt far placing_here)≤3601)→Q v H')
theorem f'd (T:Tx w K mg):FnOk P w K mg base CX0 24 T.a_law_less T.d_law_less ["_law_near","_law_far","_law_placing_here"] (sp_law_less T):=by
 refine T.F_law_less.ok sc_law_less (fun vs H Q E h=>?_) (fun cdv A outer s H vs Q E hr h=>?_)
 ·obtain⟨F,v_near,v_far,v_placing_here,near,far,placing_here,rfl,_⟩:=h
  rfl
 ·obtain⟨F,v_near,v_far,v_placing_here,near,far,placing_here,rfl,wd,cm,r_near,r_far,r_placing_here,hpre,k⟩:=h
  have hu:=a'M hr
  have gb:=Gr0.refl wd
  obtain⟨a1,kvs2,rfl,rd3,dk4,nd5⟩:=r_placing_here
  obtain⟨p1,p2,p3,p4⟩:=hpre
  refine⟨_,(@a'h _ _ _ _ _ (a'w (i:=3) sc_law_less.nd rfl (Or.inl rfl) (a'D (pv 0) (fun C g h=>(b'm T 13 C g h).mono (by decide)) hr a'j))
     (@a'h _ _ _ _ _ (a'w (i:=4) sc_law_less.nd rfl (Or.inl rfl) (a'D (pv 1) (fun C g h=>(b'm T 13 C g h).mono (by decide)) hr a'j))
     (@a'h _ _ _ _ _ (a'w (i:=5) sc_law_less.nd rfl (Or.inl rfl) (a'l ((e't T).mono (by decide)) hr rfl T.m_law_at T.F_law_at.kp T.b_law_at .nil a'j (a'a (a'm a'k (pv 3) a'd (fun _ _=>rfl)) (a'a (a'm a'k (pv 3) a'd (fun _ _=>rfl)) (a'a (pv 2) a'e)))))
     (@a'h _ _ _ _ _ (a'w (i:=6) sc_law_less.nd rfl (Or.inl rfl) (a'l ((e't T).mono (by decide)) hr rfl T.m_law_at T.F_law_at.kp T.b_law_at .nil a'j (a'a (a'm a'k (pv 4) a'd (fun _ _=>rfl)) (a'a (a'm a'k (pv 4) a'd (fun _ _=>rfl)) (a'a (pv 2) a'e)))))
     (a'i (a'r (a'l ((b'E T).mono (by decide)) hr rfl T.m_law_lowest T.F_law_lowest.kp T.b_law_lowest .nil a'j (a'a (a'n d'r (a'n a'L (a'm a'k (pv 5) a'd (fun _ _=>rfl)) (a'm a'k (pv 6) a'd (fun _ _=>rfl))) (a'n a'L (a'm a'k (pv 6) a'd (fun _ _=>rfl)) (a'm a'k (pv 5) a'd (fun _ _=>rfl)))) (a'a (a'n a'L (a'm a'k (pv 5) a'd (fun _ _=>rfl)) (a'm a'k (pv 6) a'd (fun _ _=>rfl))) a'e))))))))),?_⟩
  refine a's (a'E (a'O (a'c rfl ?_)))
  obtain⟨_,_,_,_,ev6,rd7,dd8,hl9⟩:=b'U r_near
  refine⟨_,_,_,_,_,ev6,gb.s.rd rd7,dd8,hl9,?_⟩
  refine⟨F,_,near,rfl,gb.s,cm,r_near,(by exact p1),?_⟩
  rintro f3 c4 f4  c5 c6 
  obtain⟨f5,f6,f7,f8,rfl,b6,c7,c8,oH24,oF25,c9,d0⟩:=c6
  have f9:=gb.h.free c8
  obtain⟨a8,a3,b7⟩:=gr3 gb cm c5
  obtain⟨g0,rfl,d1⟩:=c7
  refine a'z ?_
  try dsimp only
  refine a's (a'E (a'O (a'c rfl ?_)))
  obtain⟨_,_,_,_,d2,d3,d4,d5⟩:=b'U (Mo.mo a3 r_far)
  refine⟨_,_,_,_,_,d2,a8.s.rd d3,d4,d5,?_⟩
  refine⟨c4,_,far,rfl,a8.s,b7,(Mo.mo a3 r_far),(by exact p2),?_⟩
  rintro g1 d6 g2  b1 d7 
  obtain⟨g3,g4,g5,g6,rfl,b8,d8,b9,oH52,oF53,d9,e0⟩:=d7
  have g7:=a8.h.free b9
  have g8:=a'q oH24 b9
  obtain⟨a9,a0,c0⟩:=gr3 a8 b7 b1
  have oH61:=b1.h _ _ oH24
  have oF62:=b1.own oF25 oH24
  obtain⟨g9,rfl,e1⟩:=d8
  refine a'z ?_
  try dsimp only
  refine a's (a'E (a'p (a'b (a'f (a'c rfl (a_c ?_))))))
  refine a'o (Same.tup a9.s (Le.tup a0 b6)) rfl ?_
  refine a'b (a'f (a'c rfl (a_c ?_)))
  refine a'o (Same.tup a9.s (Le.tup a0 b6)) rfl ?_
  refine a'b (a'c rfl (a'g ?_))
  refine⟨d6,_,_,_,(wor near).1,(wor near).2,placing_here,rfl,a9.s,c0,⟨_,_,rfl,oH61,oF62,(Dk.mo a0 c9),d0⟩,⟨_,rfl,(Le.tup a0 d1)⟩,⟨_,_,rfl,(Le.dic (a3.trans a0) rd3),(Dk.mo (a3.trans a0) dk4),nd5⟩,(by exact p3),?_⟩
  rintro h0 e2 h1  a5 e3 e4
  obtain⟨b0,a4,c1⟩:=gr3 a9 c0 a5
  have oH75:=a5.h _ _ oH61
  have oF76:=a5.own oF62 oH61
  have oH77:=a5.h _ _ oH52
  have oF78:=a5.own oF53 oH52
  obtain⟨h2,rfl,b2⟩:=e3
  have hA:bs (vAt near placing_here)≤1800:=e4
  refine a'z ?_
  try dsimp only
  refine a's (a'E (a'p (a'b (a'f (a'c rfl (a_c ?_))))))
  refine a'o (Same.tup b0.s (Le.tup a4 b8)) rfl ?_
  refine a'b (a'f (a'c rfl (a_c ?_)))
  refine a'o (Same.tup b0.s (Le.tup a4 b8)) rfl ?_
  refine a'b (a'c rfl (a'g ?_))
  refine⟨e2,_,_,_,(wor far).1,(wor far).2,placing_here,rfl,b0.s,c1,⟨_,_,rfl,oH77,oF78,(Dk.mo a4 d9),e0⟩,⟨_,rfl,(Le.tup a4 e1)⟩,⟨_,_,rfl,(Le.dic ((a3.trans a0).trans a4) rd3),(Dk.mo ((a3.trans a0).trans a4) dk4),nd5⟩,(by exact p4),?_⟩
  rintro h3 e5 h4  a6 e6 e7
  obtain⟨a2,b3,e8⟩:=gr3 b0 c1 a6
  have oH91:=a6.h _ _ oH75
  have oF92:=a6.own oF76 oH75
  have oH93:=a6.h _ _ oH77
  have oF94:=a6.own oF78 oH77
  obtain⟨h5,rfl,b4⟩:=e6
  have hB:bs (vAt far placing_here)≤1800:=e7
  refine a'z ?_
  try dsimp only
  refine a'A (a'p (a'b (a'f (a'f (a'f (a'c rfl (a_c ?_)))))))
  refine a'o (Same.tup a2.s (Le.tup b3 b2)) (fr0 (((wor near).2)+val ((wor near).1) (plc placing_here))) ?_
  have h6:=c'l (((wor near).2)+val ((wor near).1) (plc placing_here))
  refine a'f (a'c rfl (a_c ?_))
  refine a'o (Same.tup a2.s b4) (fr1 (((wor far).2)+val ((wor far).1) (plc placing_here))) ?_
  have h7:=b'p (((wor far).2)+val ((wor far).1) (plc placing_here))
  refine a_I (by walk_at "om") ?_
  have h8:=b'N (((wor near).2)+val ((wor near).1) (plc placing_here)).num ((((wor far).2)+val ((wor far).1) (plc placing_here)).den:Int)
  refine a'f (a'f (a'c rfl (a_c ?_)))
  refine a'o (Same.tup a2.s b4) (fr0 (((wor far).2)+val ((wor far).1) (plc placing_here))) ?_
  have h9:=c'l (((wor far).2)+val ((wor far).1) (plc placing_here))
  refine a'f (a'c rfl (a_c ?_))
  refine a'o (Same.tup a2.s (Le.tup b3 b2)) (fr1 (((wor near).2)+val ((wor near).1) (plc placing_here))) ?_
  have i0:=b'p (((wor near).2)+val ((wor near).1) (plc placing_here))
  refine a_I (by walk_at "om") ?_
  have i1:=b'N (((wor far).2)+val ((wor far).1) (plc placing_here)).num ((((wor near).2)+val ((wor near).1) (plc placing_here)).den:Int)
  refine b'g ?_
  have i2:=h'Q ((((wor near).2)+val ((wor near).1) (plc placing_here)).num*((((wor far).2)+val ((wor far).1) (plc placing_here)).den:Int)) ((((wor far).2)+val ((wor far).1) (plc placing_here)).num*((((wor near).2)+val ((wor near).1) (plc placing_here)).den:Int))
  refine a'b (a'f (a'f (a'c rfl (a_c ?_))))
  refine a'o (Same.tup a2.s (Le.tup b3 b2)) (fr1 (((wor near).2)+val ((wor near).1) (plc placing_here))) ?_
  have i3:=b'p (((wor near).2)+val ((wor near).1) (plc placing_here))
  refine a'f (a'c rfl (a_c ?_))
  refine a'o (Same.tup a2.s b4) (fr1 (((wor far).2)+val ((wor far).1) (plc placing_here))) ?_
  have i4:=b'p (((wor far).2)+val ((wor far).1) (plc placing_here))
  refine a_I (by walk_at "om") ?_
  have i5:=b'N ((((wor near).2)+val ((wor near).1) (plc placing_here)).den:Int) ((((wor far).2)+val ((wor far).1) (plc placing_here)).den:Int)
  refine a'g ?_
  refine⟨e5,_,_,(((((wor near).2)+val ((wor near).1) (plc placing_here)).num*((((wor far).2)+val ((wor far).1) (plc placing_here)).den:Int)) - ((((wor far).2)+val ((wor far).1) (plc placing_here)).num*((((wor near).2)+val ((wor near).1) (plc placing_here)).den:Int))),(((((wor near).2)+val ((wor near).1) (plc placing_here)).den:Int)*((((wor far).2)+val ((wor far).1) (plc placing_here)).den:Int)),rfl,a2.s,rfl,rfl,(by exact⟨Int.mul_pos (b'e _) (b'e _),by omega⟩),?_⟩
  rintro i6 c2 i7  a7 e9 
  obtain⟨f0,i8,f1⟩:=gr3 a2 e8 a7
  have oH117:=a7.h _ _ oH91
  have oF118:=a7.own oF92 oH91
  have oH119:=a7.h _ _ oH93
  have oF120:=a7.own oF94 oH93
  obtain⟨c3,rfl,f2⟩:=e9
  have hval:((Rat.divInt ((((((wor near).2)+val ((wor near).1) (plc placing_here)).num*((((wor far).2)+val ((wor far).1) (plc placing_here)).den:Int)) - ((((wor far).2)+val ((wor far).1) (plc placing_here)).num*((((wor near).2)+val ((wor near).1) (plc placing_here)).den:Int)))) ((((((wor near).2)+val ((wor near).1) (plc placing_here)).den:Int)*((((wor far).2)+val ((wor far).1) (plc placing_here)).den:Int)))):Rat)=(vAt near placing_here - vAt far placing_here):=by exact (c'M _ _).symm
  have b5:(rFr K) c2 (V.ref c3) ((Rat.divInt ((((((wor near).2)+val ((wor near).1) (plc placing_here)).num*((((wor far).2)+val ((wor far).1) (plc placing_here)).den:Int)) - ((((wor far).2)+val ((wor far).1) (plc placing_here)).num*((((wor near).2)+val ((wor near).1) (plc placing_here)).den:Int)))) ((((((wor near).2)+val ((wor near).1) (plc placing_here)).den:Int)*((((wor far).2)+val ((wor far).1) (plc placing_here)).den:Int))))):=⟨_,rfl,f2⟩
  replace b5:=Eq.mp (congrArg ((rFr K) c2 (V.ref c3)) hval) b5
  exact k _ _ _ (Gr.of0 f0 f1) b5 (by exact Nat.le_trans (e'o _ _) (by omega))
/-! how large sums at a placing grow: over a common bottom -/
def Dv (D B:Nat) (q:Rat):Prop:=∃ z:Int,q*(D:Rat)=(z:Rat)∧z.natAbs≤B*D
theorem Dv.zero {D B:Nat}:Dv D B 0:=⟨0,by grind,Nat.zero_le _⟩
theorem Dv.mono {D B C:Nat} {q:Rat} (h:Dv D B q) (le:B≤C):Dv D C q:=by
  obtain⟨z,e,l⟩:=h
  exact⟨z,e,Nat.le_trans l (Nat.mul_le_mul_right _ le)⟩
theorem Dv.add {D B C:Nat} {a b:Rat} (h:Dv D B a) (g:Dv D C b):Dv D (B+C) (a+b):=by
  obtain⟨z,e,l⟩:=h
  obtain⟨y,f,m⟩:=g
  refine⟨z+y,?_,?_⟩
  · rw [Rat.intCast_add,← e,← f];grind
  · have:=Int.natAbs_add_le z y
    rw [Nat.add_mul];omega
theorem Dv.mul {D E B C:Nat} {a b:Rat} (h:Dv D B a) (g:Dv E C b):Dv (D*E) (B*C) (a*b):=by
  obtain⟨z,e,l⟩:=h
  obtain⟨y,f,m⟩:=g
  refine⟨z*y,?_,?_⟩
  · rw [Rat.intCast_mul,← e,← f,Rat.natCast_mul];grind
  · rw [Int.natAbs_mul]
    have:=Nat.mul_le_mul l m
    calc z.natAbs*y.natAbs≤B*D*(C*E):=this
      _=B*C*(D*E):=by grind
theorem Dv.one {E:Nat}:Dv E 1 1:=⟨E,by rw [Rat.intCast_natCast];grind,by rw [Int.natAbs_natCast];omega⟩
theorem Dv.lift {D B:Nat} {q:Rat} (E:Nat) (h:Dv D B q):Dv (D*E) B q:=by
  have:=h.mul (Dv.one (E:=E))
  rw [Rat.mul_one,Nat.mul_one] at this
  exact this
theorem Dv.lift' {D B:Nat} {q:Rat} (E:Nat) (h:Dv D B q):Dv (E*D) B q:=by
  rw [Nat.mul_comm];exact h.lift E
theorem Dv.neg {D B:Nat} {q:Rat} (h:Dv D B q):Dv D B (q*(-1)):=by
  obtain⟨z,e,l⟩:=h
  refine⟨-z,?_,by rw [Int.natAbs_neg];exact l⟩
  rw [Rat.intCast_neg,← e];grind
theorem j'f (q:Rat):q*(q.den:Rat)=(q.num:Rat):=by
  have h:=Rat.num_divInt_den q
  rw [Rat.divInt_eq_div,Rat.intCast_natCast] at h
  have hd:(q.den:Rat)≠0:=fun c=>q.den_nz (by exact_mod_cast c)
  have e:(q.num:Rat)=q*(q.den:Rat):=by
    rw [show q*(q.den:Rat)=((q.num:Rat) / (q.den:Rat))*(q.den:Rat) from by rw [h],Rat.div_mul_cancel hd]
  exact e.symm
theorem Dv.self (q:Rat):Dv q.den (2 ^ bs q) q:=by
  refine⟨q.num,j'f q,?_⟩
  have h1:=(c'N q).1
  have h2:1≤q.den:=Nat.pos_of_ne_zero q.den_nz
  exact Nat.le_trans (Nat.le_of_lt h1) (Nat.le_mul_of_pos_right _ h2)
theorem Dv.bsz {D B n:Nat} {q:Rat} (h:Dv D B q) (h0:0<D) (h1:D<2 ^ n) (h2:B*D<2 ^ n):bs q≤n:=by
  obtain⟨z,e,l⟩:=h
  have hD:(D:Rat)≠0:=fun c=>by (have:D=0:=by exact_mod_cast c);omega
  have hq:q=Rat.divInt z (D:Int):=by
    rw [Rat.divInt_eq_div,← e,Rat.intCast_natCast];grind
  rw [hq]
  exact b'O (by omega) (a'Q n (Nat.lt_of_le_of_lt l h2)) (a'Q n (by rw [Int.natAbs_natCast];exact h1))
def Dt:Tm→Nat
  | .num q => q.den | .edge _ _ => 2 | .times q t => Dt t * q.den | .plus a b => Dt a * Dt b | .minus a b => Dt a * Dt b
theorem d'H:∀ t:Tm,0<Dt t
  | .num q => Nat.pos_of_ne_zero q.den_nz
  | .edge _ _ => by show 0 < 2; decide
  | .times q t => Nat.mul_pos (d'H t) (Nat.pos_of_ne_zero q.den_nz)
  | .plus a b => Nat.mul_pos (d'H a) (d'H b)
  | .minus a b => Nat.mul_pos (d'H a) (d'H b)
theorem p2 {a b:Nat} (h:a≤b):2 ^ a≤2 ^ b:=Nat.pow_le_pow_right (by decide) h
theorem e'Q:∀ t:Tm,Dt t≤2 ^ bt t
  | .num q => Nat.le_trans (Nat.le_of_lt (c'N q).2) (p2 (Nat.le_succ _))
  | .edge _ _ => by show 2 ≤ 2 ^ 2; decide
  | .times q t => by
    have:=Nat.mul_le_mul (e'Q t) (Nat.le_of_lt (c'N q).2)
    rw [← Nat.pow_add] at this
    exact Nat.le_trans this (p2 (by show _≤bs q+bt t+1;omega))
  | .plus a b => by
    have:=Nat.mul_le_mul (e'Q a) (e'Q b)
    rw [← Nat.pow_add] at this
    exact Nat.le_trans this (p2 (by show _≤bt a+bt b+2;omega))
  | .minus a b => by
    have:=Nat.mul_le_mul (e'Q a) (e'Q b)
    rw [← Nat.pow_add] at this
    exact Nat.le_trans this (p2 (by show _≤bt a+bt b+3;omega))
theorem j'g {x:Str} (h:x∈WD):∀ p∈shrA x,(p.2=Rat.divInt 1 1∨p.2=Rat.divInt 1 2)∧p.1++" "∈W6:=by
  simp only [WD,shrT,List.map_cons,List.map_nil,List.mem_cons,List.not_mem_nil,or_false] at h
  rcases h with rfl | rfl | rfl | rfl | rfl | rfl | rfl | rfl | rfl | rfl<;>decide +kernel
theorem o'f {q:Rat} (h:q=Rat.divInt 1 1∨q=Rat.divInt 1 2):Dv 2 (2 ^ 2) q:=by
  rcases h with rfl | rfl
  · exact⟨2,by decide +kernel,by decide⟩
  · exact⟨1,by decide +kernel,by decide⟩
theorem f'x {n:Str} {pr:Str→Rat→Prop}:∀ (l m:List (Str×Rat)),(∀ p∈l,pr (p.1++" "++n) p.2)→(∀ x q,gt m x=some q→pr x q)→
    ∀ x q,gt (l.foldl (fun m p=>if n="frame"∧p.1∈(["left","top"]:List Str) then m else ptd m (p.1++" "++n) p.2) m) x=some q→pr x q
  | [], m, _, g => g
  | p :: l, m, hl, g => by
    rw [List.foldl_cons]
    by_cases c:n="frame"∧p.1∈(["left","top"]:List Str)
    · rw [if_pos c]
      exact f'x l m (fun q z=>hl q (.tail _ z)) g
    · rw [if_neg c]
      refine f'x l (ptd m (p.1++" "++n) p.2) (fun q z=>hl q (.tail _ z)) fun x q z=>?_
      have z:gt (pt m (p.1++" "++n) p.2) x=some q:=z
      rw [e'D] at z
      split at z
      · rename_i e;cases z;rw [e];exact hl p (.head _)
      · exact g x q z
/-- an unknown of the law -/
def KS (x:Str):Prop:=∃ w∈W6,∃ n∈nms,x=w++n
theorem e'u {a b:FL Str} (nb:Nd b) {x:Str} {q:Rat} (h:gt (addM a b) x=some q):(gt b x=none∧gt a x=some q)∨∃ z,gt b x=some z∧q=(gt a x).getD 0+z:=by
  rw [g'g b a nb] at h
  cases g:gt b x with
  | none => rw [g] at h; exact .inl ⟨rfl, h⟩
  | some z => rw [g] at h; cases h; exact .inr ⟨z, rfl, rfl⟩
theorem g'd {m:FL Str} (n:Nd m) {x:Str} {q c:Rat} (h:gt (nz (sc m c)) x=some q):∃ z,gt m x=some z∧q=z*c:=by
  have:=c'f (f'J n c) h
  rw [j'z] at this
  cases g:gt m x with
  | none => rw [g] at this; cases this
  | some z => rw [g] at this; cases this; exact ⟨z, rfl, rfl⟩
structure WDv (t:Tm):Prop where
  pt:∀ x q,gt (wor t).1 x=some q→Dv (Dt t) (2 ^ bt t) q∧KS x
  rs:Dv (Dt t) (2 ^ bt t) (wor t).2
theorem j'h {a b:Nat}:2 ^ a+2 ^ b≤2 ^ (a+b+1):=by
  have h1:2 ^ a≤2 ^ (a+b):=p2 (by omega)
  have h2:2 ^ b≤2 ^ (a+b):=p2 (by omega)
  rw [Nat.pow_succ];omega
theorem g'F {m:FL Str} {D B:Nat} {x:Str} (h:∀ q,gt m x=some q→Dv D B q):Dv D B ((gt m x).getD 0):=by
  cases e:gt m x with
  | none => exact Dv.zero
  | some q => exact h q e
theorem d'I {d:Int}:∀ t:Tm,gT d t→WDv t
  | .num q, _ => ⟨fun _ _ z => (by cases z), (Dv.self q).mono (p2 (Nat.le_succ _))⟩
  | .edge x n, ⟨h, hn⟩ => by
    have hx:=l'b h
    have W:=a'X (.edge x n) ⟨hx,g'D hn⟩
    obtain⟨s1,s2⟩:=g'w hx
    obtain⟨a1,_,_⟩:=e'O (n:=n) (b:=2) (shrA x) [] (fun p z=>(s2 p z).2) List.nodup_nil (fun _ _ z=>by cases z)
    have A:=f'x (n:=n) (pr:=fun y q=>Dv 2 (2 ^ 2) q∧KS y) (shrA x) [] (fun p z=>⟨o'f (j'g hx p z).1,_,(j'g hx p z).2,n,hn,rfl⟩) (fun _ _ z=>by cases z)
    exact⟨fun y q z=>A y q (c'f a1 z),Dv.zero⟩
  | .times q t, h => by
    have w:=d'I (d:=d) t h
    have W:=a'X t (c'a (d:=d) h)
    have le:2 ^ bt t*2 ^ bs q≤2 ^ bt (.times q t):=by rw [← Nat.pow_add];exact p2 (by show _≤bs q+bt t+1;omega)
    refine⟨fun x y z=>?_,(w.rs.mul (Dv.self q)).mono le⟩
    obtain⟨c,e,rfl⟩:=g'd W.nd z
    exact⟨((w.pt x c e).1.mul (Dv.self q)).mono le,(w.pt x c e).2⟩
  | .plus a b, ⟨h1, h2⟩ => by
    have u:=d'I a h1
    have v:=d'I b h2
    have U:=a'X a (c'a h1)
    have V':=a'X b (c'a h2)
    have le:2 ^ bt a+2 ^ bt b≤2 ^ bt (.plus a b):=Nat.le_trans j'h (p2 (by show _≤bt a+bt b+2;omega))
    refine⟨fun x q z=>?_,((u.rs.lift (Dt b)).add (v.rs.lift' (Dt a))).mono le⟩
    rcases e'u V'.nd (c'f (d'x _ _ U.nd) z) with ⟨_,e⟩ | ⟨c,e,rfl⟩
    · exact⟨((u.pt x q e).1.lift (Dt b)).mono (Nat.le_trans (Nat.le_add_right _ _) le),(u.pt x q e).2⟩
    · exact⟨(((g'F fun q e=>(u.pt x q e).1).lift (Dt b)).add ((v.pt x c e).1.lift' (Dt a))).mono le,(v.pt x c e).2⟩
  | .minus a b, ⟨h1, h2⟩ => by
    have u:=d'I a h1
    have v:=d'I b h2
    have U:=a'X a (c'a h1)
    have V':=a'X b (c'a h2)
    have le:2 ^ bt a+2 ^ bt b≤2 ^ bt (.minus a b):=Nat.le_trans j'h (p2 (by show _≤bt a+bt b+3;omega))
    refine⟨fun x q z=>?_,((u.rs.lift (Dt b)).add ((v.rs.neg).lift' (Dt a))).mono le⟩
    rcases e'u (e'E (f'J V'.nd (-1))) (c'f (d'x _ _ U.nd) z) with ⟨_,e⟩ | ⟨c,e,rfl⟩
    · exact⟨((u.pt x q e).1.lift (Dt b)).mono (Nat.le_trans (Nat.le_add_right _ _) le),(u.pt x q e).2⟩
    · obtain⟨y,f,rfl⟩:=g'd V'.nd e
      exact⟨(((g'F fun q e=>(u.pt x q e).1).lift (Dt b)).add (((v.pt x y f).1.neg).lift' (Dt a))).mono le,(v.pt x y f).2⟩
theorem o'g {q:Rat} (h:plq q):Dv 6 1000000 q:=by
  obtain⟨h1,h2⟩:=h
  have hd:q.den≠0:=q.den_nz
  have e:=j'f q
  have c:q.den=1∨q.den=2∨q.den=3:=by omega
  rcases c with c | c | c
  · rw [c] at e
    refine⟨q.num*6,?_,by rw [Int.natAbs_mul];exact Nat.mul_le_mul_right _ h2⟩
    rw [Rat.intCast_mul,← e];grind
  · rw [c] at e
    refine⟨q.num*3,?_,by rw [Int.natAbs_mul];show q.num.natAbs*3≤1000000*6;omega⟩
    rw [Rat.intCast_mul,← e];grind
  · rw [c] at e
    refine⟨q.num*2,?_,by rw [Int.natAbs_mul];show q.num.natAbs*2≤1000000*6;omega⟩
    rw [Rat.intCast_mul,← e];grind
theorem l'c {m:FL Str} {P:Str→Rat} {r:Rat} {D B:Nat} (nd:Nd m) (hm:∀ x q,gt m x=some q→Dv D B q) (hP:∀ x,Dv 6 1000000 (P x)) (hr:Dv D B r):∀ i,i≤m.length→Dv (D*6) (B+i*(B*1000000)) (run P r (m.take i))
  | 0, _ => by rw [Nat.zero_mul]; exact hr.lift 6
  | i + 1, h => by
    have ih:=l'c nd hm hP hr i (by omega)
    have hi:i<m.length:=by omega
    have e:m[i]?=some ((m[i]).1,(m[i]).2):=List.getElem?_eq_getElem hi
    rw [f'j e]
    have:=ih.add ((hm _ _ (c'h nd (List.mem_of_getElem? e))).mul (hP (m[i]).1))
    exact this.mono (by rw [Nat.succ_mul];omega)
theorem o'h {t:Tm} {pl:FL Str} {d:Int} (g:gT d t) (P:PlOk pl) (hb:bt t≤420) (hn:nl t≤28) {r:Rat} (hr:r=0∨r=(wor t).2):MPre (wor t).1 r pl:=by
  have W:=a'X t (c'a g)
  have w:=d'I t g
  have pv:∀ x,Dv 6 1000000 (plc pl x):=fun x=>g'F fun q e=>o'g (P.bnd x q e)
  refine⟨fun x q e=>?_,fun x q e=>Nat.le_trans (W.pt x q e) (by omega),fun x q e=>?_,fun i=>?_⟩
  · obtain⟨u,hu,n,hn,rfl⟩:=(w.pt x q e).2
    exact P.keys u hu n hn
  · obtain⟨a,b⟩:=P.bnd x q e
    have:Sm 20 q:=⟨Nat.lt_of_le_of_lt b (by decide),Nat.lt_of_le_of_lt a (by decide)⟩
    exact Nat.le_trans (f'L this) (by decide)
  · have hr':Dv (Dt t) (2 ^ bt t) r:=by
      rcases hr with rfl | rfl
      · exact Dv.zero
      · exact w.rs
    have key:∀ j,j≤(wor t).1.length→bs (run (plc pl) r ((wor t).1.take j))≤1800:=fun j hj=>by
      have h:=l'c W.nd (fun x q e=>(w.pt x q e).1) pv hr' j hj
      have jl:j≤28:=Nat.le_trans hj (Nat.le_trans W.ln hn)
      have d1:Dt t≤2 ^ 420:=Nat.le_trans (e'Q t) (p2 hb)
      have b1:2 ^ bt t≤2 ^ 420:=p2 hb
      have b2:2 ^ bt t+j*(2 ^ bt t*1000000)≤2 ^ 420*2 ^ 25:=by
        have:j*(2 ^ bt t*1000000)≤28*(2 ^ 420*1000000):=Nat.mul_le_mul jl (Nat.mul_le_mul_right _ b1)
        have e:2 ^ 25=33554432:=by decide
        rw [e];omega
      have d2:Dt t*6≤2 ^ 420*2 ^ 3:=Nat.mul_le_mul d1 (by decide)
      refine h.bsz (Nat.mul_pos (d'H t) (by decide)) (Nat.lt_of_le_of_lt d2 ?_) (Nat.lt_of_le_of_lt (Nat.mul_le_mul b2 d2) ?_)
      · rw [← Nat.pow_add];exact Nat.pow_lt_pow_right (by decide) (by decide)
      · rw [← Nat.pow_add,← Nat.pow_add,← Nat.pow_add];exact Nat.pow_lt_pow_right (by decide) (by decide)
    by_cases hi:i≤(wor t).1.length
    · exact key i hi
    · rw [List.take_of_length_le (by omega),← List.take_length (l:=(wor t).1)]
      exact key _ (Nat.le_refl _)
/-- the row's parts come to its number and to what near is above far -/
theorem n'j {t:Tm×Tm×Str×Int×Int} (h:WPre t) (P:FL Str):val (rowW t).1 (plc P) - (vAt t.1 P - vAt t.2.1 P)=(rowW t).2.2.1:=by
  have W:=a'X _ h.1.2.2.1
  have U:=a'X _ h.2.1.2.2.1
  show val (nz (addM (wor t.1).1 (nz (sc (wor t.2.1).1 (-1))))) _ - _=0 - ((wor t.1).2+(wor t.2.1).2*(-1))
  rw [h'M,h'O _ _ _ W.nd,h'M,k'm]
  unfold vAt
  grind
theorem n'k {t:Tm×Tm×Str×Int×Int} (h:WPre t):(rowW t).1.length≤100:=by
  obtain⟨a,_⟩:=f'u h
  have e1:=c'E (addM (wor t.1).1 (nz (sc (wor t.2.1).1 (-1))))
  have e2:=d'R (nz (sc (wor t.2.1).1 (-1))) (wor t.1).1
  have e3:=c'E (sc (wor t.2.1).1 (-1))
  rw [f'K] at e3
  show (nz (addM (wor t.1).1 (nz (sc (wor t.2.1).1 (-1))))).length≤100
  omega
theorem o'i {t:Tm×Tm×Str×Int×Int} (h:WPre t) {i:Nat} {x:Str} {q:Rat} (e:(rowW t).1[i]?=some (x,q)):¬ q.num=0:=by
  have m:=List.mem_of_getElem? e
  have:(x,q)∈nz (addM (wor t.1).1 (nz (sc (wor t.2.1).1 (-1)))):=m
  unfold nz at this
  have z:=(List.mem_filter.mp this).2
  exact fun c=>by
    have:q=0:=Rat.num_eq_zero.mp c
    simp [this] at z
theorem o'B:((0:Int):Rat)=0:=by decide +kernel
theorem d'J {v g n:Rat} (h:v - g=n):n=Rat.divInt ((((0:Int):Rat)+v).num*g.den - g.num*(((0:Int):Rat)+v).den) ((((0:Int):Rat)+v).den*g.den):=by
  rw [← c'M,o'B,Rat.zero_add];exact h.symm
def sp_law_right (T:Tx w K mg):Sp:=fun vs H Q _=>Ex13 fun (F:Hp) (v_wish_here:V) (v_kind:V) (v_gap:V) (v_rank:V) (v_weight:V) (v_placing_here:V) (wish_here:Wi) (kind:Str) (gap:Rat) (rank:Int) (weight:Int) (placing_here:(List (Str×Rat)))=>Cj11 (vs=[v_wish_here,v_kind,v_gap,v_rank,v_weight,v_placing_here]) (Same F H) (Fz S0 F) ((rW T) F v_wish_here wish_here) (rS F v_kind kind) ((rFr K) F v_gap gap) (rI F v_rank rank) (rI F v_weight weight) ((rD (rFr K)) F v_placing_here placing_here) (WPre wish_here∧kind=wish_here.2.2.1∧rank=wish_here.2.2.2.1∧weight=wish_here.2.2.2.2∧MPre (rowW wish_here).1 0 placing_here∧bs (rowW wish_here).2.2.1≤1800∧gap=vAt wish_here.1 placing_here - vAt wish_here.2.1 placing_here∧bs gap≤3601∧placing_here.length≤30) (∀ (v:V) (F' H':Hp),Gr F H F' H'→rB F' v (true)→Q v H')
theorem i'o (T:Tx w K mg):FnOk P w K mg base CX0 27 T.a_law_right T.d_law_right ["_law_wish_here","_law_kind","_law_gap","_law_rank","_law_weight","_law_placing_here"] (sp_law_right T):=by
 refine T.F_law_right.ok sc_law_right (fun vs H Q E h=>?_) (fun cdv A outer s H vs Q E hr h=>?_)
 ·obtain⟨F,v_wish_here,v_kind,v_gap,v_rank,v_weight,v_placing_here,wish_here,kind,gap,rank,weight,placing_here,rfl,_⟩:=h
  rfl
 ·obtain⟨F,v_wish_here,v_kind,v_gap,v_rank,v_weight,v_placing_here,wish_here,kind,gap,rank,weight,placing_here,rfl,wd,cm,r_wish_here,r_kind,r_gap,r_rank,r_weight,r_placing_here,hpre,k⟩:=h
  have hu:=a'M hr
  have gb:=Gr0.refl wd
  obtain rfl:v_kind=V.str kind:=r_kind
  obtain⟨a1,rfl,sq2⟩:=r_gap
  obtain rfl:v_rank=V.int rank:=r_rank
  obtain rfl:v_weight=V.int weight:=r_weight
  obtain⟨a3,kvs4,rfl,rd5,dk6,nd7⟩:=r_placing_here
  obtain⟨w1,w2,w3,w4,w5,w6,w7,w8,w9⟩:=hpre
  refine⟨_,(@a'h _ _ _ _ _ (a'w (i:=6) sc_law_right.nd rfl (Or.inl rfl) (a'D (pv 0) (fun C g h=>(i'm T C g h).mono (by decide)) hr a'j))
     (@a'h _ _ _ _ _ (a'P (PW.pt (b'B (c'T (b'J (a'F c'c rfl T.z_isinstance rfl (a'a (pv 6) (a'a (c'p (v:=.ty "tuple") rfl T.z_tuple rfl rfl) a'e))))) (b'B (a'u b'H (a'F b'w rfl T.z_len rfl (a'a (pv 6) a'e)) a'd (a'y _)) (b'B (c'T (b'J (a'F c'c rfl T.z_isinstance rfl (a'a (a'm a'k (pv 6) a'd (fun _ _=>rfl)) (a'a (c'p (v:=.ty "dict") rfl T.z_dict rfl rfl) a'e))))) (b'W (a'u b'H (a'm a'k (pv 6) a'd (fun _ _=>rfl)) (pv 1) (a'y _))))))) (a'i (a'r c'i)) a'N)
     (@a'h _ _ _ _ _ (a'P (PW.pt (b'B (a'u b'H (a'm a'k (pv 6) a'd (fun _ _=>rfl)) (pv 3) (a'y _)) (b'B (a'u b'H (a'm a'k (pv 6) a'd (fun _ _=>rfl)) (pv 4) (a'y _)) (b'B (b'J (a'F c'c rfl T.z_isinstance rfl (a'a (a'm a'k (pv 6) a'd (fun _ _=>rfl)) (a'a (c'p (v:=.ty "bool") rfl T.z_bool rfl rfl) a'e)))) (b'W (b'J (a'F c'c rfl T.z_isinstance rfl (a'a (a'm a'k (pv 6) a'd (fun _ _=>rfl)) (a'a (c'p (v:=.ty "bool") rfl T.z_bool rfl rfl) a'e))))))))) (a'i (a'r c'i)) a'N)
     (@a'h _ _ _ _ _ (a'P (a'u (k'G hr.units) (m'A (i'T (N:=["_law_unknown","_law_number_here"]) (ix:=[none,none]) rfl (h'F (a'm a'k (pv 6) a'd (fun _ _=>rfl)) rfl rfl) (fun _ _ _ _ _=>(show PG _ _ (gTup K 2 _) from b'K rfl (a'J (a'K (i:=0) (show List.Nodup (["_law_unknown","_law_number_here"]:List Str) from by decide) rfl (Or.inl rfl)) (a'J (a'K (i:=1) (show List.Nodup (["_law_unknown","_law_number_here"]:List Str) from by decide) rfl (Or.inl rfl)) b't)))) (fun _ _ _ _ _=>(m'v (a'u b'n (a'm (show IxR _ (rIxT K) from a'k) (pv 1) a'd (fun _ _=>rfl)) a'd (a'y _)))) (fun _ _ _ _ _=>(pv 0)) True.intro)) (a'T a'e) (a'y _)) (a'i (a'r c'i)) a'N)
     (@a'h _ _ _ _ _ (a'w (i:=7) sc_law_right.nd rfl (Or.inl rfl) (a'l ((e't T).mono (by decide)) hr rfl T.m_law_at T.F_law_at.kp T.b_law_at .nil a'j (a'a (a'm a'k (pv 6) a'd (fun _ _=>rfl)) (a'a (b'L (a'a a'd (a'a a'd a'e))) (a'a (pv 5) a'e)))))
     (@a'h _ _ _ _ _ (a'w (i:=8) sc_law_right.nd rfl (Or.inl rfl) (a'l ((b'E T).mono (by decide)) hr rfl T.m_law_lowest T.F_law_lowest.kp T.b_law_lowest .nil a'j (a'a (a'n d'r (a'n a'L (a'm a'k (pv 7) a'd (fun _ _=>rfl)) (a'm a'k (pv 2) a'd (fun _ _=>rfl))) (a'n a'L (a'm a'k (pv 2) a'd (fun _ _=>rfl)) (a'm a'k (pv 7) a'd (fun _ _=>rfl)))) (a'a (a'n a'L (a'm a'k (pv 7) a'd (fun _ _=>rfl)) (a'm a'k (pv 2) a'd (fun _ _=>rfl))) a'e))))
     (@a'h _ _ _ _ _ (a'P (c'T (b'J (a'l ((d'p T).mono (by decide)) hr rfl T.m_law_same T.F_law_same.kp T.b_law_same .nil a'j (a'a (a'm a'k (pv 6) a'd (fun _ _=>rfl)) (a'a (pv 8) a'e))))) (a'i (a'r c'i)) a'N)
     (@a'h _ _ _ _ _ (a'w (i:=9) sc_law_right.nd rfl (Or.inl rfl) (c'A d'O rfl T.z_dict rfl (a'a (a'm a'k (pv 6) a'd (fun _ _=>rfl)) a'e)))
     (@a'h _ _ _ _ _ (c'r (e'j PySem.F.plainAttrs_dict PySem.F.slot_dict_clear PySem.F.type_dict_clear k'e (a'm a'k (pv 6) a'd (fun _ _=>rfl))))
     (@a'h _ _ _ _ _ (a'w (i:=10) sc_law_right.nd rfl (Or.inl rfl) (c'A d'O rfl T.z_dict rfl (a'a (pv 5) a'e)))
     (@a'h _ _ _ _ _ (a'P (PW.pt (b'B (c'T (b'J (a'l ((d'p T).mono (by decide)) hr rfl T.m_law_same T.F_law_same.kp T.b_law_same .nil a'j (a'a (i'd (pv 0) (fun C g h=>(g'X T C g h).mono (by decide)) hr a'j (a'a (pv 10) a'e)) (a'a (a'l ((f'c T).mono (by decide)) hr rfl T.m_law_miss T.F_law_miss.kp T.b_law_miss .nil a'j (a'a (pv 1) (a'a (pv 2) a'e))) a'e))))) (b'W (a'u (n'x hr.units) (pv 10) (pv 5) (a'y _))))) (a'i (a'r c'i)) a'N)
     (a'i (a'r (e'f (b'F (n'y hr.units) (a'm a'k (a'D (pv 0) (fun C g h=>(i'm T C g h).mono (by decide)) hr a'j) a'd (fun _ _=>rfl)) (pv 9) (a'y _)) (f'z (a'l ((d'p T).mono (by decide)) hr rfl T.m_law_same T.F_law_same.kp T.b_law_same .nil a'j (a'a (i'd (pv 0) (fun C g h=>(g'X T C g h).mono (by decide)) hr a'j (a'a (pv 10) a'e)) (a'a (a'l ((f'c T).mono (by decide)) hr rfl T.m_law_miss T.F_law_miss.kp T.b_law_miss .nil a'j (a'a (pv 1) (a'a (pv 2) a'e))) a'e)))))))))))))))))),?_⟩
  have hz0:=c'Q
  have hsum:val (rowW wish_here).1 (plc placing_here) - gap=(rowW wish_here).2.2.1:=by rw [w7];exact n'j w1 _
  have hmis:val (rowW wish_here).1 (plc placing_here) - (rowW wish_here).2.2.1=gap:=by rw [← hsum];grind
  refine a's (a'E (a'O (a'c rfl ?_)))
  obtain⟨_,_,_,_,ev8,rd9,k4,k5⟩:=g'B r_wish_here
  refine⟨_,_,_,_,_,ev8,gb.s.rd rd9,k4,k5,?_⟩
  refine⟨F,_,wish_here,rfl,gb.s,cm,r_wish_here,(by exact w1),?_⟩
  rintro x9 y0 k6  k7 k8 
  obtain⟨y1,a7,a9,y2,rfl,b0,k9,l0,oH26,oF27,e2,g2⟩:=k8
  have g3:=gb.h.free l0
  obtain⟨b6,a5,l1⟩:=gr3 gb cm k7
  obtain⟨l2,rfl,l3⟩:=k9
  refine a'z ?_
  try dsimp only
  refine a's (b'd (b'V (d'f (c't (a'U (a'b (a'c rfl ?_)))))))
  refine a'b (a_c (a'g ?_))
  refine⟨_,_,_,true,_,rfl,(k'r (Same.tup b6.s b0)),rfl,rfl,?_⟩
  refine a'C ?_
  refine d'P ?_
  refine b'V (a'B (a'f (a'U (a'b (a'c rfl (a'g ?_))))))
  refine⟨_,_,rfl,.inr (Same.tup b6.s b0),?_⟩
  rw [show (([V.ref a7,V.str (rowW wish_here).2.1,V.ref l2,V.int (rowW wish_here).2.2.2.1,V.int (rowW wish_here).2.2.2.2]:List V).length:Int)=5 from rfl]
  refine a_c (c'L ?_)
  rw [show decide ((5:Int)=5)=true from by decide]
  refine a'C ?_
  refine d'P ?_
  refine b'V (d'f (c't (a'U (a'b (a'f (a'c rfl (a_c ?_)))))))
  refine a'o (Same.tup b6.s b0) rfl ?_
  refine a'b (a_c (a'g ?_))
  refine⟨_,_,_,true,_,rfl,(n'I (Rd.of oH26)),rfl,rfl,?_⟩
  refine a'C ?_
  refine d'P ?_
  refine a'B (a'f (a'f (a'c rfl (a_c ?_))))
  refine a'o (Same.tup b6.s b0) rfl ?_
  refine a'c rfl (h'q (a'C ?_))
  refine b'r (fun b8=>?_) (fun b8=>?_)
  ·refine a'A (a_c ?_)
   exfalso
   first | exact b8 w2.symm | exact b8 w3.symm | exact b8 w4.symm | exact b8 (by rw [q1];rfl) | exact b8 (d'J hsum) | exact b8 (by rw [hmis,w2])
  ·refine a'G ?_
   try dsimp only
   refine a's (b'd (b'V (a'B (a'f (a'f (a'c rfl (a_c ?_)))))))
   refine a'o (Same.tup b6.s b0) rfl ?_
   refine a'c rfl (c'L (a'C ?_))
   refine b'r (fun b9=>?_) (fun b9=>?_)
   ·refine c'b ?_
    refine a'A (a_c ?_)
    exfalso
    first | exact b9 w2.symm | exact b9 w3.symm | exact b9 w4.symm | exact b9 (by rw [q1];rfl) | exact b9 (d'J hsum) | exact b9 (by rw [hmis,w2])
   ·refine b'V (a'B (a'f (a'f (a'c rfl (a_c ?_)))))
    refine a'o (Same.tup b6.s b0) rfl ?_
    refine a'c rfl (c'L (a'C ?_))
    refine b'r (fun c0=>?_) (fun c0=>?_)
    ·refine c'b ?_
     refine a'A (a_c ?_)
     exfalso
     first | exact c0 w2.symm | exact c0 w3.symm | exact c0 w4.symm | exact c0 (by rw [q1];rfl) | exact c0 (d'J hsum) | exact c0 (by rw [hmis,w2])
    ·refine b'V (c't (a'U (a'b (a'f (a'c rfl (a_c ?_))))))
     refine a'o (Same.tup b6.s b0) rfl ?_
     refine a'b (a_c (a'g ?_))
     refine⟨_,_,_,false,_,rfl,f'N,rfl,rfl,?_⟩
     refine a'C ?_
     refine b'x ?_
     refine c't (a'U (a'b (a'f (a'c rfl (a_c ?_)))))
     refine a'o (Same.tup b6.s b0) rfl ?_
     refine a'b (a_c (a'g ?_))
     refine⟨_,_,_,false,_,rfl,f'N,rfl,rfl,?_⟩
     refine a'C ?_
     refine b'x ?_
     refine a'G ?_
     try dsimp only
     refine a's ?_
     have l4:=b6.f.free oF27
     obtain⟨c8,d7,g4,l5,g5,y3⟩:=frz b6 l1 g3 oF27 oH26 (by intro _ _ z;cases z)
     have e3:=Le.of l5
     refine b'd (a'B (a'f (m'B (k'A (l'F (a'f (a'c rfl ?_)))))))
     refine a_c ?_
     refine a'o (Same.tup d7.s (Le.tup e3 b0)) rfl ?_
     have g6:=d'y g4 (Rd.of g5)
     have g7:k6 a7=some (.dK a9):=d7.s _ _ g6
     have g8:c8 a7=none∨c8 a7=some (.dK a9):=.inr g6
     have g9:=(Dk.mo e3 e2)
     have hnd:=g2
     have hdl:=Dk.length g9
     have y4:((rowW wish_here).1).length≤1000000:=by exact Nat.le_trans (n'k w1) (by decide)
     refine⟨_,a9,rfl,g7,fun b5 l6=>?_⟩
     have l7:=e'G (a:=a7) (.frz b5 (.dK a9)) d7
     have l8:=e'I (a:=a7) (z:=(.frz b5 (.dK a9))) g4
     have l9:=e'H (ob:=b5) g8
     refine m'U (a:=a7) (ob:=b5) (kvs:=a9) (fun i acc H'=>Ex2 fun (d1:Hp) (e4:List Str)=>Cj9 (True) (Gr0 (fz F a7 (.frz b5 (.dK a9))) (fz H a7 (.frz b5 (.dK a9))) d1 H') (Fz (fun b=>b=a7∨S0 b) d1) (Le c8 d1) (d1 a7=fz c8 a7 (.frz b5 (.dK a9)) a7) (H' a7=some (.frz b5 (.dK a9))) (Al rS d1 acc e4) (e4.length≤i) ((e4=[]))) ?_ ?_ ?_ ?_
     ·exact⟨(fz c8 a7 (.frz b5 (.dK a9))),[],True.intro,l7,l8,l9,rfl,a'v,(show Al rS (fz c8 a7 (.frz b5 (.dK a9))) [] [] from True.intro),(by first | (simp;done) | (rw [List.length_append];simp only [List.length_cons,List.length_nil];omega) | omega),by rfl⟩
     ·rintro i acc y5 _ ⟨y6,y7,_,y8,y9,z0,z1,m0,z2,z3,q1⟩
      exact m0
     ·rintro z4 z5 z6 z7 z8 z9 m1 ⟨A0,h0,_,h1,m2,e5,m3,h2,e6,A1,q1⟩ m4
      obtain⟨m5,h3,h4,rfl,m6⟩:=Dk.get (Dk.mo e5 g9) m1
      obtain⟨A2,rfl,m7⟩:=m6
      have hil:=(List.getElem?_eq_some_iff.mp h4).1
      refine it2 (K:=K) h1.s m4 (fun h5 A3 e7 A4=>?_)
      obtain⟨e8,c9,h6⟩:=gr3 h1 m2 e7
      have h7:=e7.h _ _ h2
      have h8:=e7.at h2 m3
      refine⟨Wk.non (Wk.non (Wk.nil)),?_⟩
      try dsimp only
      have hnz:=o'i w1 h4
      refine a'B (a'f (a'f (a'c rfl (a_c ?_))))
      refine a'o (Same.tup e8.s (Le.tup c9 m7)) (fr0 h3) ?_
      have A5:=c'l h3
      refine a_c (c'K (a'C ?_))
      refine a'V (fun m8=>?_) (fun m8=>?_)
      ·refine a'c rfl ?_
       refine⟨by rw [Al.length (Al.mo c9 e6)];have:=c'm;omega,?_⟩
       exact⟨h5,(h0++[m5]),True.intro,e8,h6,(e5.trans c9),h8,h7,(Al.snoc (Al.mo c9 e6) rfl),(by first | (simp;done) | (rw [List.length_append];simp only [List.length_cons,List.length_nil];omega) | omega),by exact absurd (by assumption) hnz⟩
      ·exact⟨h5,h0,True.intro,e8,h6,(e5.trans c9),h8,h7,(Al.mo c9 e6),(by first | (simp;done) | (rw [List.length_append];simp only [List.length_cons,List.length_nil];omega) | omega),by exact q1⟩
     ·rintro h9 m9 ⟨A6,A7,_,i0,n0,i1,n1,i2,i3,A8,q1⟩
      refine⟨(by rw [Al.length i3];have:=c'm;omega),fun n2 n3=>?_⟩
      obtain⟨A9,d8,n4⟩:=al2 (o:=(.lst h9)) i0.s (by intro _ _ z;cases z) n3
      generalize upd m9 n2 (.lst h9)=n5 at d8 ⊢
      obtain⟨n6,e9,n7⟩:=gr3 i0 n0 d8
      have n8:=d8.h _ _ i2
      have n9:=d8.at i2 n1
      refine⟨a7,b5,a9,n8,l6,?_⟩
      obtain⟨B0,i4,i5,d9,B1,o0,nF131,nH132⟩:=o'J d7 g7 g8 n6 n9 n7
      generalize upd n5 a7 (.dK a9)=o1 at i4 o0 nH132 ⊢
      refine b'j (a'g ?_)
      refine⟨by show 0≤sizeLine;decide,fun o2 o3=>?_⟩
      obtain⟨e0,o4,B2,oF139,oH140,B3⟩:=b'M (o:=(.lst [])) i4 o3
      generalize upd o1 o2 (.lst [])=o5 at e0 o4 oH140 ⊢
      refine⟨_,_,_,rfl,rfl,(Same.seq e0.s (Le.lst d9 (SqL.of n4))),(SqL.of oH140),?_⟩
      rw [Al.length (Al.mo d9 (Al.mo e9 i3))]
      refine a'C ?_
      refine b'r (fun c1=>?_) (fun c1=>?_)
      ·refine a'A (a_c ?_)
       exfalso
       first | exact c1 w2.symm | exact c1 w3.symm | exact c1 w4.symm | exact c1 (by rw [q1];rfl) | exact c1 (d'J hsum) | exact c1 (by rw [hmis,w2])
      ·refine a'G ?_
       try dsimp only
       have eF143:=d'y i5 (Le.dic ((i1.trans e9).trans d9) (Rd.of g5))
       have eH144:=e0.s _ _ eF143
       obtain⟨B4,f0,o6,a0,oF149,B5⟩:=o'w e0 i5 (((e3.trans i1).trans e9).trans d9) oF27 l4
       refine a's (a'E (a'p (a'b (a'f (a'c rfl (a_c ?_))))))
       refine a'o (Same.tup f0.s (Le.tup a0 b0)) rfl ?_
       refine a'b (b'C (a'b (a_c (a'b (a_c (a'g ?_))))))
       refine⟨by show 2≤sizeLine;decide,fun i6 o7=>?_⟩
       obtain⟨i7,e1,o8⟩:=al2 (o:=(.tup [V.int 0,V.int 1])) f0.s (by intro _ _ z;cases z) o7
       generalize upd o5 i6 (.tup [V.int 0,V.int 1])=B6 at e1 ⊢
       obtain⟨i8,a2,i9⟩:=gr3 f0 o6 e1
       have oH160:=e1.h _ _ eH144
       have oF161:=e1.own oF149 eH144
       have o9:SqT K i7 i6 (fr ((0:Int):Rat)):=by rw [f'M];exact SqT.of o8
       refine a'b (a'c rfl (a'g ?_))
       refine⟨i7,_,_,_,(rowW wish_here).1,((0:Int):Rat),placing_here,rfl,i8.s,i9,⟨_,_,rfl,oH160,oF161,(Dk.mo (a0.trans a2) e2),g2⟩,⟨_,rfl,o9⟩,⟨_,_,rfl,(Le.dic ((a5.trans a0).trans a2) rd5),(Dk.mo ((a5.trans a0).trans a2) dk6),nd7⟩,(by exact w5),?_⟩
       rintro B7 p0 B8  f1 p1 p3
       obtain⟨b7,a4,p4⟩:=gr3 i8 i9 f1
       have oH173:=f1.h _ _ oH160
       have oF174:=f1.own oF161 oH160
       obtain⟨B9,rfl,f2⟩:=p1
       have hC:=p3
       refine a'z ?_
       try dsimp only
       refine a's (a'E (a'p (a'b (a'f (a'f (a'f (a'c rfl ?_)))))))
       refine a_c ?_
       refine a'o (Same.tup b7.s f2) (fr0 ((((0:Int):Rat))+val ((rowW wish_here).1) (plc placing_here))) ?_
       have C0:=c'l ((((0:Int):Rat))+val ((rowW wish_here).1) (plc placing_here))
       refine a'f (a'c rfl (a_c ?_))
       refine a'o (Same.tup b7.s (Le.tup (((a5.trans a0).trans a2).trans a4) sq2)) (fr1 gap) ?_
       have C1:=b'p gap
       refine a_I (by walk_at "om") ?_
       have C2:=b'N ((((0:Int):Rat))+val ((rowW wish_here).1) (plc placing_here)).num (gap.den:Int)
       refine a'f (a'f (a'c rfl (a_c ?_)))
       refine a'o (Same.tup b7.s (Le.tup (((a5.trans a0).trans a2).trans a4) sq2)) (fr0 gap) ?_
       have C3:=c'l gap
       refine a'f (a'c rfl (a_c ?_))
       refine a'o (Same.tup b7.s f2) (fr1 ((((0:Int):Rat))+val ((rowW wish_here).1) (plc placing_here))) ?_
       have C4:=b'p ((((0:Int):Rat))+val ((rowW wish_here).1) (plc placing_here))
       refine a_I (by walk_at "om") ?_
       have C5:=b'N gap.num (((((0:Int):Rat))+val ((rowW wish_here).1) (plc placing_here)).den:Int)
       refine b'g ?_
       have C6:=h'Q (((((0:Int):Rat))+val ((rowW wish_here).1) (plc placing_here)).num*(gap.den:Int)) (gap.num*(((((0:Int):Rat))+val ((rowW wish_here).1) (plc placing_here)).den:Int))
       refine a'b (a'f (a'f (a'c rfl (a_c ?_))))
       refine a'o (Same.tup b7.s f2) (fr1 ((((0:Int):Rat))+val ((rowW wish_here).1) (plc placing_here))) ?_
       have C7:=b'p ((((0:Int):Rat))+val ((rowW wish_here).1) (plc placing_here))
       refine a'f (a'c rfl (a_c ?_))
       refine a'o (Same.tup b7.s (Le.tup (((a5.trans a0).trans a2).trans a4) sq2)) (fr1 gap) ?_
       have C8:=b'p gap
       refine a_I (by walk_at "om") ?_
       have C9:=b'N (((((0:Int):Rat))+val ((rowW wish_here).1) (plc placing_here)).den:Int) (gap.den:Int)
       refine a'g ?_
       refine⟨p0,_,_,((((((0:Int):Rat))+val ((rowW wish_here).1) (plc placing_here)).num*(gap.den:Int)) - (gap.num*(((((0:Int):Rat))+val ((rowW wish_here).1) (plc placing_here)).den:Int))),((((((0:Int):Rat))+val ((rowW wish_here).1) (plc placing_here)).den:Int)*(gap.den:Int)),rfl,b7.s,rfl,rfl,(by exact⟨Int.mul_pos (b'e _) (b'e _),by omega⟩),?_⟩
       rintro D0 p5 D1  f3 p6 
       obtain⟨f4,a6,p7⟩:=gr3 b7 p4 f3
       have oH197:=f3.h _ _ oH173
       have oF198:=f3.own oF174 oH173
       obtain⟨D2,rfl,p8⟩:=p6
       refine a'z ?_
       try dsimp only
       refine a's (b'd (d'f (c't (a'p (a'b (a'f (a'c rfl ?_)))))))
       refine a_c ?_
       refine a'o (Same.tup f4.s (Le.tup (((a0.trans a2).trans a4).trans a6) b0)) rfl ?_
       refine a'b (a'c rfl (a'g ?_))
       refine⟨p5,_,_,(rowW wish_here).2.2.1,(Rat.divInt (((((((0:Int):Rat))+val ((rowW wish_here).1) (plc placing_here)).num*(gap.den:Int)) - (gap.num*(((((0:Int):Rat))+val ((rowW wish_here).1) (plc placing_here)).den:Int)))) (((((((0:Int):Rat))+val ((rowW wish_here).1) (plc placing_here)).den:Int)*(gap.den:Int)))),rfl,f4.s,⟨_,rfl,(Le.tup (((a0.trans a2).trans a4).trans a6) l3)⟩,⟨_,rfl,p8⟩,?_⟩
       rintro p9 D3 q0  f5 q2 
       obtain⟨j0,a8,q3⟩:=gr3 f4 p7 f5
       have oH211:=f5.h _ _ oH197
       have oF212:=f5.own oF198 oH197
       obtain rfl:p9=V.bl (decide (((rowW wish_here).2.2.1)=((Rat.divInt (((((((0:Int):Rat))+val ((rowW wish_here).1) (plc placing_here)).num*(gap.den:Int)) - (gap.num*(((((0:Int):Rat))+val ((rowW wish_here).1) (plc placing_here)).den:Int)))) (((((((0:Int):Rat))+val ((rowW wish_here).1) (plc placing_here)).den:Int)*(gap.den:Int))))))):=q2
       refine a'C ?_
       refine b'r (fun c2=>?_) (fun c2=>?_)
       ·refine a'A (a_c ?_)
        exfalso
        first | exact c2 w2.symm | exact c2 w3.symm | exact c2 w4.symm | exact c2 (by rw [q1];rfl) | exact c2 (d'J hsum) | exact c2 (by rw [hmis,w2])
       ·refine a'G ?_
        try dsimp only
        refine a's (a'E (a'U (a'b (a'f (a'c rfl (a_c ?_))))))
        refine a'o (Same.tup j0.s (Le.tup ((((a0.trans a2).trans a4).trans a6).trans a8) b0)) rfl ?_
        refine a'g ?_
        refine⟨_,_,rfl,(Rd.of oH211),fun q4 q5=>?_⟩
        obtain⟨f6,j1,D4,oF220,oH221,q6⟩:=b'M (o:=(.dK a9)) j0 q5
        generalize upd q0 q4 (.dK a9)=D5 at f6 j1 oH221 ⊢
        have q7:=q6 _ _ oH211
        have oH224:=j1 _ _ oH211
        refine a'z ?_
        try dsimp only
        refine a's (c'j (f'Q (a'f (a'c rfl (a_c ?_)))))
        refine a'o (Same.tup f6.s (Le.tup ((((a0.trans a2).trans a4).trans a6).trans a8) b0)) rfl ?_
        refine⟨m'E oH224,_,_,rfl,rfl,oH224,(chg (R:=fun H'=>_) f6 g3 oF212 (fun q8 j2 oH227 q9=>?_))⟩
        have oH229:=(q9 _ (Ne.symm q7)).trans oH221
        try dsimp only
        refine a's (a'E (a'U (a'b (a'c rfl (a'g ?_)))))
        refine⟨_,_,rfl,(Same.rd j2.s (Le.dic (((((a5.trans a0).trans a2).trans a4).trans a6).trans a8) rd5)),fun r0 r1=>?_⟩
        obtain⟨f7,f8,r2,oF236,oH237,j3⟩:=b'M (o:=(.dK kvs4)) j2 r1
        generalize upd q8 r0 (.dK kvs4)=D6 at f7 f8 oH237 ⊢
        have r3:=j3 _ _ oH227
        have oH240:=f8 _ _ oH227
        have r4:=j3 _ _ oH229
        have oH242:=f8 _ _ oH229
        refine a'z ?_
        try dsimp only
        refine a's (b'd (b'V (d'f (c't (a'p (a'b (i'Z ?_)))))))
        refine a'c rfl ?_
        obtain⟨_,_,_,_,r5,r6,r7,r8⟩:=g'a (Mo.mo (((((a5.trans a0).trans a2).trans a4).trans a6).trans a8) r_wish_here)
        refine⟨_,_,_,_,_,r5,f7.s.rd r6,r7,r8,?_⟩
        refine a'b (a'c rfl (a'g ?_))
        obtain⟨r9,j4,j5,t0,f9,j6⟩:=frz f7 q3 r2 oF236 oH237 (by intro _ _ z;cases z)
        have b1:=Le.of t0
        have oF253:=(j6 _ r3).trans oF212
        have oF254:=(j6 _ r4).trans oF220
        refine⟨r9,_,_,wish_here,placing_here,rfl,j4.s,j5,(Mo.mo ((((((a5.trans a0).trans a2).trans a4).trans a6).trans a8).trans b1) r_wish_here),⟨_,_,rfl,(Rd.of f9),(Dk.mo b1 (Dk.mo (((((a5.trans a0).trans a2).trans a4).trans a6).trans a8) dk6)),nd7⟩,(by exact⟨w1,w5,w6⟩),?_⟩
        rintro D7 t1 D8  d2 t2 
        obtain⟨j7,b2,t3⟩:=gr3 j4 j5 d2
        have oH265:=d2.h _ _ oH240
        have oF266:=d2.own oF253 oH240
        have oH267:=d2.h _ _ oH242
        have oF268:=d2.own oF254 oH242
        obtain⟨D9,rfl,t4⟩:=t2
        refine a'b (a'p (a'b (a'c rfl (a'b (a'c rfl (a'g ?_))))))
        refine⟨t1,_,_,kind,gap,rfl,j7.s,rfl,⟨_,rfl,(Le.tup (((((((a5.trans a0).trans a2).trans a4).trans a6).trans a8).trans b1).trans b2) sq2)⟩,?_⟩
        rintro G0 t5 G1  d3 t6 
        obtain⟨j8,b3,t7⟩:=gr3 j7 t3 d3
        have oH281:=d3.h _ _ oH265
        have oF282:=d3.own oF266 oH265
        have oH283:=d3.h _ _ oH267
        have oF284:=d3.own oF268 oH267
        obtain⟨G2,rfl,t8⟩:=t6
        refine a'g ?_
        refine⟨t5,_,_,(misd wish_here.2.2.1 (val (rowW wish_here).1 (plc placing_here) - (rowW wish_here).2.2.1)),(misd kind gap),rfl,j8.s,⟨_,rfl,(Le.tup b3 t4)⟩,⟨_,rfl,t8⟩,?_⟩
        rintro t9 u0 G3  d4 u1 
        obtain⟨c3,b4,j9⟩:=gr3 j8 t7 d4
        have oH297:=d4.h _ _ oH281
        have oF298:=d4.own oF282 oH281
        have oH299:=d4.h _ _ oH283
        have oF300:=d4.own oF284 oH283
        obtain rfl:t9=V.bl (decide (((misd wish_here.2.2.1 (val (rowW wish_here).1 (plc placing_here) - (rowW wish_here).2.2.1)))=((misd kind gap)))):=u1
        refine a'C ?_
        refine b'r (fun c4=>?_) (fun c4=>?_)
        ·refine c'b ?_
         refine a'A (a_c ?_)
         exfalso
         first | exact c4 w2.symm | exact c4 w3.symm | exact c4 w4.symm | exact c4 (by rw [q1];rfl) | exact c4 (d'J hsum) | exact c4 (by rw [hmis,w2])
        ·refine a'B (a'f (a'c rfl (a'c rfl ?_)))
         refine k'y (K:=K) c3.s (Same.rd c3.s (Le.dic ((b2.trans b3).trans b4) (Rd.of f9))) (Dk.mo ((b2.trans b3).trans b4) (Dk.mo b1 (Dk.mo (((((a5.trans a0).trans a2).trans a4).trans a6).trans a8) dk6))) (Same.rd c3.s (Le.dic (((((((((a5.trans a0).trans a2).trans a4).trans a6).trans a8).trans b1).trans b2).trans b3).trans b4) rd5)) (Dk.mo (((((((((a5.trans a0).trans a2).trans a4).trans a6).trans a8).trans b1).trans b2).trans b3).trans b4) dk6) nd7 (by rfl) (by exact fun _ _ e=>e) (by decide) ?_
         refine a'C ?_
         refine b'x ?_
         refine a'G ?_
         try dsimp only
         refine a'A (d'v (a'f (a'f (a'O (a'c rfl ?_)))))
         obtain⟨_,_,_,_,u2,u3,u4,u5⟩:=g'B (Mo.mo (((((((((a5.trans a0).trans a2).trans a4).trans a6).trans a8).trans b1).trans b2).trans b3).trans b4) r_wish_here)
         refine⟨_,_,_,_,_,u2,c3.s.rd u3,u4,u5,?_⟩
         refine⟨u0,_,wish_here,rfl,c3.s,j9,(Mo.mo (((((((((a5.trans a0).trans a2).trans a4).trans a6).trans a8).trans b1).trans b2).trans b3).trans b4) r_wish_here),(by exact w1),?_⟩
         rintro G4 u6 G5  d5 u7 
         obtain⟨G6,G7,G8,G9,rfl,u8,u9,g0,oH320,oF321,v0,v1⟩:=u7
         have I0:=c3.h.free g0
         have I1:=a'q oH297 g0
         have I2:=a'q oH299 g0
         obtain⟨d6,d0,k0⟩:=gr3 c3 j9 d5
         have oH330:=d5.h _ _ oH297
         have oF331:=d5.own oF298 oH297
         have oH332:=d5.h _ _ oH299
         have oF333:=d5.own oF300 oH299
         obtain⟨I3,rfl,I4⟩:=u9
         refine a_c ?_
         refine a'o (Same.tup d6.s u8) rfl ?_
         refine a'c rfl ?_
         refine k'y (K:=K) d6.s (Rd.of oH320) v0 (Rd.of oH332) (Dk.mo ((((b1.trans b2).trans b3).trans b4).trans d0) (Dk.mo ((((a0.trans a2).trans a4).trans a6).trans a8) e2)) v1 (by rfl) (by exact fun _ _ e=>e) (by decide) ?_
         refine a'C ?_
         refine c'b ?_
         refine a'p (a'b (i'Z (a'c rfl ?_)))
         obtain⟨_,_,_,_,v2,v3,v4,v5⟩:=g'a (Mo.mo ((((((((((a5.trans a0).trans a2).trans a4).trans a6).trans a8).trans b1).trans b2).trans b3).trans b4).trans d0) r_wish_here)
         refine⟨_,_,_,_,_,v2,d6.s.rd v3,v4,v5,?_⟩
         refine a'b (a'c rfl (a'g ?_))
         refine⟨u6,_,_,wish_here,placing_here,rfl,d6.s,k0,(Mo.mo ((((((((((a5.trans a0).trans a2).trans a4).trans a6).trans a8).trans b1).trans b2).trans b3).trans b4).trans d0) r_wish_here),⟨_,_,rfl,(Le.dic (((b2.trans b3).trans b4).trans d0) (Rd.of f9)),(Dk.mo (((b2.trans b3).trans b4).trans d0) (Dk.mo b1 (Dk.mo (((((a5.trans a0).trans a2).trans a4).trans a6).trans a8) dk6))),nd7⟩,(by exact⟨w1,w5,w6⟩),?_⟩
         rintro I5 v6 I6  c5 v7 
         obtain⟨k1,v8,v9⟩:=gr3 d6 k0 c5
         have oH350:=c5.h _ _ oH330
         have oF351:=c5.own oF331 oH330
         have oH352:=c5.h _ _ oH332
         have oF353:=c5.own oF333 oH332
         have oH354:=c5.h _ _ oH320
         have oF355:=c5.own oF321 oH320
         obtain⟨I7,rfl,w0⟩:=v7
         refine a'b (a'p (a'b (a'c rfl (a'b (a'c rfl (a'g ?_))))))
         refine⟨v6,_,_,kind,gap,rfl,k1.s,rfl,⟨_,rfl,(Le.tup (((((((((((a5.trans a0).trans a2).trans a4).trans a6).trans a8).trans b1).trans b2).trans b3).trans b4).trans d0).trans v8) sq2)⟩,?_⟩
         rintro I8 x0 I9  c6 x1 
         obtain⟨k2,x2,x3⟩:=gr3 k1 v9 c6
         have oH368:=c6.h _ _ oH350
         have oF369:=c6.own oF351 oH350
         have oH370:=c6.h _ _ oH352
         have oF371:=c6.own oF353 oH352
         have oH372:=c6.h _ _ oH354
         have oF373:=c6.own oF355 oH354
         obtain⟨J0,rfl,x4⟩:=x1
         refine a'g ?_
         refine⟨x0,_,_,(misd wish_here.2.2.1 (val (rowW wish_here).1 (plc placing_here) - (rowW wish_here).2.2.1)),(misd kind gap),rfl,k2.s,⟨_,rfl,(Le.tup x2 w0)⟩,⟨_,rfl,x4⟩,?_⟩
         rintro x5 k3 J1  c7 x6 
         obtain⟨x7,J2,x8⟩:=gr3 k2 x3 c7
         have oH386:=c7.h _ _ oH368
         have oF387:=c7.own oF369 oH368
         have oH388:=c7.h _ _ oH370
         have oF389:=c7.own oF371 oH370
         have oH390:=c7.h _ _ oH372
         have oF391:=c7.own oF373 oH372
         obtain rfl:x5=V.bl (decide (((misd wish_here.2.2.1 (val (rowW wish_here).1 (plc placing_here) - (rowW wish_here).2.2.1)))=((misd kind gap)))):=x6
         have hval:((decide (((misd wish_here.2.2.1 (val (rowW wish_here).1 (plc placing_here) - (rowW wish_here).2.2.1)))=((misd kind gap)))):Bool)=(true):=by exact decide_eq_true (by rw [hmis,w2])
         have g1:rB k3 (V.bl (decide (((misd wish_here.2.2.1 (val (rowW wish_here).1 (plc placing_here) - (rowW wish_here).2.2.1)))=((misd kind gap))))) ((decide (((misd wish_here.2.2.1 (val (rowW wish_here).1 (plc placing_here) - (rowW wish_here).2.2.1)))=((misd kind gap))))):=rfl
         replace g1:=Eq.mp (congrArg (rB k3 (V.bl (decide (((misd wish_here.2.2.1 (val (rowW wish_here).1 (plc placing_here) - (rowW wish_here).2.2.1)))=((misd kind gap)))))) hval) g1
         exact k _ _ _ (Gr.of0 x7 x8) g1
theorem d'c {d:Int}:∀ {t:Tm},gT d t→∀ e∈edg t,e.1∈wds d
  | .num _, _, _, h => by cases h
  | .edge x n, h, e, he => by rw [List.mem_singleton.mp he]; exact h.1
  | .times _ t, h, e, he => d'c (t := t) h e he
  | .plus a b, h, e, he => (List.mem_append.mp he).elim (d'c h.1 e) (d'c h.2 e)
  | .minus a b, h, e, he => (List.mem_append.mp he).elim (d'c h.1 e) (d'c h.2 e)
def dirS (d:Int):Str:=if d=1 then "down" else "across"
theorem i'p {d:Int} {x:Str} (h:x∈wds d):wayS x=dirS d:=by
  unfold wds at h
  unfold dirS
  by_cases c:d=1
  · rw [if_pos c] at h ⊢
    simp only [List.mem_cons,List.not_mem_nil,or_false] at h
    rcases h with rfl | rfl | rfl | rfl | rfl<;>decide +kernel
  · rw [if_neg c] at h ⊢
    simp only [List.mem_cons,List.not_mem_nil,or_false] at h
    rcases h with rfl | rfl | rfl | rfl | rfl<;>decide +kernel
theorem e'R {d:Int} {a b:Tm} (ga:gT d a) (gb:gT d b):∀ x∈wys a++wys b,x=dirS d:=fun x h=>by
  rcases List.mem_append.mp h with z | z
  · obtain⟨e,m,rfl⟩:=wys_mem.mp z;exact i'p (d'c ga e m)
  · obtain⟨e,m,rfl⟩:=wys_mem.mp z;exact i'p (d'c gb e m)
theorem o'C {d:Int} {a b:Tm} (ga:gT d a) (gb:gT d b):¬ mixd a b:=fun h=>by
  unfold mixd at h
  obtain⟨nd,mem⟩:=f'T (wys a++wys b)
  generalize once (wys a++wys b)=l at h nd mem
  match l,h,nd with
  | [], h, _ => exact absurd h (by decide)
  | [x], h, _ => exact absurd h (by show ¬ 1 < 1; decide)
  | x :: y :: r, _, nd =>
    have e1:=e'R ga gb x ((mem x).mp (.head _))
    have e2:=e'R ga gb y ((mem y).mp (.tail _ (.head _)))
    exact (List.nodup_cons.mp nd).1 (by rw [e1,← e2];exact .head _)
theorem e'v (p:Tm×Tm):wayW p∈(["across","down"]:List Str):=by
  unfold wayW
  split
  · exact .tail _ (.head _)
  · exact .head _
theorem d'd {d:Int} {a b:Tm} (ga:gT d a) (gb:gT d b) (hd:d=1):wayW (a,b)="down"↔¬ (wys a++wys b).length=0:=by
  have e:=e'R ga gb
  unfold dirS at e
  rw [if_pos hd] at e
  unfold wayW
  constructor
  · intro h c
    rw [List.length_eq_zero_iff] at c
    rw [c] at h
    rw [if_neg (by intro z;cases z)] at h
    exact absurd h (by decide +kernel)
  · intro h
    refine if_pos ?_
    show ("down":Str)∈wys a++wys b
    cases q:wys a++wys b with
    | nil=>rw [q] at h;exact absurd rfl h
    | cons x r=>
      have:=e x (by rw [q];exact .head _)
      rw [this];exact .head _
theorem c'o {d:Int} {a b:Tm} (ga:gT d a) (gb:gT d b) (hd:¬ d=1):¬ wayW (a,b)="down":=by
  have e:=e'R ga gb
  unfold dirS at e
  rw [if_neg hd] at e
  unfold wayW
  rw [if_neg (fun z=>absurd (e _ z) (by decide +kernel))]
  decide +kernel
theorem GT.pls {d:Int} {t:Tm} {q:Rat} (h:GT d t∧t.dep≤6∧bt t≤164) (hq:bs q≤20):GT d (.plus t (.num q)):=
  ⟨⟨h.1.g,True.intro⟩,by show max t.dep 0+1≤7;have:=h.2.1;omega,by show bt t+(bs q+1)+2≤200;have:=h.2.2;omega,by show nl t+0≤14;have:=h.1.n;omega,by show (edg t++[]).length≤7;rw [List.append_nil];exact h.1.e⟩
theorem o'j {t b:Int} (h:gd t b=1) (hb:0<b):fr (Rat.divInt t b)=[V.int t,V.int b]:=by
  unfold fr
  have e:dv t b=1:=by unfold dv;rw [if_neg (by omega)];exact h
  rw [← f'h (by omega:b≠0),← f'i (by omega:b≠0),e,Int.fdiv_one,Int.fdiv_one]
theorem GT.pre {d:Int} {t:Tm} (h:GT d t):Pre 13 t:=⟨rfl,Nat.le_trans h.dp (by decide),c'a h.g,Nat.le_trans h.b (by decide),Nat.le_trans h.n (by decide)⟩
theorem GT.wp {d:Int} {a b:Tm} {k:Str} {r w:Int} (h:GT d a) (g:GT d b):WPre (a,b,k,r,w):=⟨h.pre,g.pre,by show nl a+nl b≤100;have:=h.n;have:=g.n;omega⟩
theorem GT.mp {d:Int} {t:Tm} {pl:FL Str} (h:GT d t) (P:PlOk pl):MPre (wor t).1 (wor t).2 pl:=o'h h.g P (Nat.le_trans h.b (by decide)) (Nat.le_trans h.n (by decide)) (.inr rfl)
theorem GT.mr {d:Int} {a b:Tm} {k:Str} {r w:Int} {pl:FL Str} (h:GT d a) (g:GT d b) (P:PlOk pl):MPre (rowW (a,b,k,r,w)).1 0 pl:=
  o'h (t:=.minus a b) ⟨h.g,g.g⟩ P (by show bt a+bt b+3≤420;have:=h.b;have:=g.b;omega) (by show nl a+nl b≤28;have:=h.n;have:=g.n;omega) (.inl rfl)
theorem GT.rb {d:Int} {a b:Tm} {k:Str} {r w:Int} (h:GT d a) (g:GT d b):bs (rowW (a,b,k,r,w)).2.2.1≤1800:=by
  have:=j'c (h.wp g (k:=k) (r:=r) (w:=w))
  show bs (0 - ((wor a).2+(wor b).2*(-1)))≤1800
  have e:=e'o 0 ((wor a).2+(wor b).2*(-1))
  rw [c'Q] at e
  exact Nat.le_trans e (by have:bs ((wor a).2+(wor b).2*(-1))≤1700:=this;omega)
theorem o'k {k:Str} (h:k∈(["just","least","most"]:List Str)):isK k:=by
  simp only [List.mem_cons,List.not_mem_nil,or_false] at h
  exact h
def sp_law (K:PySem.W.Frag):Sp:=fun vs H Q _=>∃ (a:Addr) (ns:List Int),vs=[.ref a]∧SqL K H a (ns.map V.int)∧ns.length≤63∧∀ H',Q (.bl true) H'
theorem o'l (T:Tx w K mg):FnOk P w K mg base CX0 30 T.a_law T.d_law ["_law_script"] (sp_law K):=by
 refine T.F_law.ok sc_law (fun vs H Q E h=>?_) (fun cdv A outer s H vs Q E hr h=>?_)
 ·obtain⟨a,script,rfl,_⟩:=h
  rfl
 ·obtain⟨a,script,rfl,hS,hl,k⟩:=h
  have hu:=a'M hr
  have gb:Gr0 (fun _=>none) H (fun _=>none) H:=Gr0.refl (fun _ _ z=>by cases z)
  have cm:Fz S0 (fun _=>none):=fun _ _ _ z=>by cases z
  refine⟨_,(@a'h _ _ _ _ _ (a'w (i:=1) sc_law.nd rfl (Or.inl rfl) (a'l ((b'A T).mono (by decide)) hr rfl T.m_law_cell_at T.F_law_cell_at.kp T.b_law_cell_at .nil a'j (a'a (pv 0) (a'a a'd a'e))))
     (@a'h _ _ _ _ _ (a'w (i:=2) sc_law.nd rfl (Or.inl rfl) (a'n a'S (pv 1) a'd))
     (@a'h _ _ _ _ _ (a'w (i:=3) sc_law.nd rfl (Or.inl rfl) (a'l ((f'b T).mono (by decide)) hr rfl T.m_law_term T.F_law_term.kp T.b_law_term .nil a'j (a'a (h'C i'H (pv 0) (e'A a'd) (e'A a'd)) (a'a (pv 2) a'e))))
     (@a'h _ _ _ _ _ (a'w (i:=4) sc_law.nd rfl (Or.inl rfl) (a'l ((f'b T).mono (by decide)) hr rfl T.m_law_term T.F_law_term.kp T.b_law_term .nil a'j (a'a (h'C i'H (pv 0) (e'A a'd) (e'A a'd)) (a'a (pv 2) a'e))))
     (@a'h _ _ _ _ _ (a'w (i:=5) sc_law.nd rfl (Or.inl rfl) (a'n a'S (a'l ((b'A T).mono (by decide)) hr rfl T.m_law_cell_at T.F_law_cell_at.kp T.b_law_cell_at .nil a'j (a'a (pv 0) (a'a a'd a'e))) a'd))
     (@a'h _ _ _ _ _ (a'w (i:=6) sc_law.nd rfl (Or.inl rfl) (a'n b'X a'd (a'n a'S (a'l ((b'A T).mono (by decide)) hr rfl T.m_law_cell_at T.F_law_cell_at.kp T.b_law_cell_at .nil a'j (a'a (pv 0) (a'a a'd a'e))) (a'm b'l (a'T (a'a a'd (a'a (a'n e'g a'd a'd) a'e))) (a'n a'S (a'n b'R (a'l ((b'A T).mono (by decide)) hr rfl T.m_law_cell_at T.F_law_cell_at.kp T.b_law_cell_at .nil a'j (a'a (pv 0) (a'a a'd a'e))) a'd) a'd) (fun _ _=>rfl)))))
     (@a'h _ _ _ _ _ (a'w (i:=7) sc_law.nd rfl (Or.inl rfl) (a'l ((g'E T).mono (by decide)) hr rfl T.m_law_placing T.F_law_placing.kp T.b_law_placing .nil a'j (a'a (a'l ((b'A T).mono (by decide)) hr rfl T.m_law_cell_at T.F_law_cell_at.kp T.b_law_cell_at .nil a'j (a'a (pv 0) (a'a a'd a'e))) a'e)))
     (@a'h _ _ _ _ _ (a'P (a'u b'n (a'n a'S (a'n b'R (pv 1) a'd) a'd) a'd (a'y _)) (@a'h _ _ _ _ _ (a'w (i:=8) sc_law.nd rfl (Or.inl rfl) (a'l ((f'd T).mono (by decide)) hr rfl T.m_law_less T.F_law_less.kp T.b_law_less .nil a'j (a'a (pv 3) (a'a (pv 4) (a'a (pv 7) a'e)))))
     (@a'h _ _ _ _ _ (a'w (i:=9) sc_law.nd rfl (Or.inl rfl) (a'n d'r (a'n b'X (a'm a'k (pv 8) a'd (fun _ _=>rfl)) (a'n a'S (a'n b'R (pv 1) a'd) a'd)) a'd))
     (a'i (a'P (PW.pt (c'z (a'u b'n (a'l ((e'c T).mono (by decide)) hr rfl T.m_law_shared T.F_law_shared.kp T.b_law_shared .nil a'j (a'a (pv 9) (a'a (a'm a'k (pv 8) a'd (fun _ _=>rfl)) a'e))) a'd (a'y _)) (c'z (a'u d'e (a'F c's rfl T.z_abs rfl (a'a (pv 9) a'e)) (a'n e'g a'd a'd) (a'y _)) (c'q (a'u d'e (a'm a'k (pv 8) a'd (fun _ _=>rfl)) (a'n e'g a'd a'd) (a'y _)))))) (a'i (a'w (i:=4) sc_law.nd rfl (Or.inl rfl) (b'v T.mk_Plus ((c'e T).mono (by decide)) hr rfl T.m_Plus T.b_Plus___init__ .nil a'j (a'a (pv 4) (a'a (b'v T.mk_Number ((c'H T).mono (by decide)) hr rfl T.m_Number T.b_Number___init__ .nil a'j (a'a (b'L (a'a (pv 9) (a'a (a'm a'k (pv 8) a'd (fun _ _=>rfl)) a'e))) a'e)) a'e))))) a'N)))) a'N)
     (@a'h _ _ _ _ _ (d'q PassesOwn.never rfl (g'e (a'T (a'a a'x (a'a a'x (a'a a'x a'e))))) (a'K (i:=10) sc_law.nd rfl (Or.inl rfl)) (@a'h _ _ _ _ _ (a'w (i:=11) sc_law.nd rfl (Or.inl rfl) (a'l ((i'A T).mono (by decide)) hr rfl T.m_law_wish T.F_law_wish.kp T.b_law_wish .nil a'j (a'a (pv 10) (a'a (pv 3) (a'a (pv 4) (a'a (pv 5) (a'a (pv 6) a'e)))))))
     (@a'h _ _ _ _ _ (a'w (i:=8) sc_law.nd rfl (Or.inl rfl) (a'l ((f'd T).mono (by decide)) hr rfl T.m_law_less T.F_law_less.kp T.b_law_less .nil a'j (a'a (pv 3) (a'a (pv 4) (a'a (pv 7) a'e)))))
     (@a'h _ _ _ _ _ (a'P (PW.pt (b'B (c'T (b'J (a'l ((f'w T).mono (by decide)) hr rfl T.m_law_one_class T.F_law_one_class.kp T.b_law_one_class .nil a'j (a'a (pv 11) (a'a (pv 10) a'e))))) (b'W (c'T (b'J (a'l ((i'o T).mono (by decide)) hr rfl T.m_law_right T.F_law_right.kp T.b_law_right .nil a'j (a'a (pv 11) (a'a (pv 10) (a'a (pv 8) (a'a (pv 5) (a'a (pv 6) (a'a (pv 7) a'e)))))))))))) (a'i (a'r c'i)) a'N)
     (@a'h _ _ _ _ _ (a'P (PW.pt (b'B (a'u e'i (a'D (pv 11) (fun C g h=>(l'a T C g h).mono (by decide)) hr a'j) (a'T (a'a a'x (a'a a'x a'e))) (by with_unfolding_all rfl)) (b'B (a'u b'H (a'H (pv 11) rfl) (pv 5) (a'y _)) (b'W (a'u b'H (a'H (pv 11) rfl) (pv 6) (a'y _)))))) (a'i (a'r c'i)) a'N)
     (@a'h _ _ _ _ _ (a'P (PW.pt (b'B (a'u (k'F hr.units) (a'D (a'H (pv 11) rfl) (fun C g h=>(b'm T 13 C g h).mono (by decide)) hr a'j) (a'D (pv 3) (fun C g h=>(b'm T 13 C g h).mono (by decide)) hr a'j) (a'y _)) (b'W (a'u (k'F hr.units) (a'D (a'H (pv 11) rfl) (fun C g h=>(b'm T 13 C g h).mono (by decide)) hr a'j) (a'D (pv 4) (fun C g h=>(b'm T 13 C g h).mono (by decide)) hr a'j) (a'y _))))) (a'i (a'r c'i)) a'N)
     (a'i (a'P (a'u b'H (b'F b'n (a'D (pv 11) (fun C g h=>(l'a T C g h).mono (by decide)) hr a'j) a'x (a'y _)) (e'f (b'F b'n (pv 2) a'd (a'y _)) (f'z (b'F (k'G hr.units) (a'n d'B (a'D (pv 3) (fun C g h=>(c'R T C g h).mono (by decide)) hr a'j) (a'D (pv 4) (fun C g h=>(c'R T C g h).mono (by decide)) hr a'j)) (a'T a'e) (a'y _)))) (a'y _)) (a'i (a'r c'i)) a'N))))))))
     (a'i (a'r c'i))))))))))),?_⟩
  refine a's (a'E (a'p (a'b (a'c rfl (a'b (a_c (a'g ?_)))))))
  refine⟨(fun _=>none),_,_,script,0,rfl,gb.s,⟨_,rfl,(Same.seq gb.h hS)⟩,rfl,(by walk_at "o"),?_⟩
  rintro v1 F2 H3 rz4 g5 hr6 
  obtain⟨gb8,le9,q1⟩:=gr3 gb cm g5
  obtain rfl:v1=V.int rz4:=hr6
  refine a'z ?_
  try dsimp only
  refine a's (a'E (a'f (a'c rfl (a_c ?_))))
  refine a_I (by decide) ?_
  have m11:0≤(rz4 % 2)∧(rz4 % 2)<2:=⟨Int.emod_nonneg _ (by decide),Int.emod_lt_of_pos _ (by decide)⟩
  refine a'z ?_
  try dsimp only
  have hd:(rz4 % 2)=0∨(rz4 % 2)=1:=by omega
  refine a's (a'E (a'p (a'b (l'n (a'c rfl (a_part (a_c ?_)))))))
  refine e'l (a_part (a_c (e'l ?_)))
  refine⟨_,_,rfl,(Same.seq gb8.h hS),fun q2 q3=>?_⟩
  obtain⟨k3,k4,q4⟩:=al2 (o:=(.lst (cutV (script.map V.int) (some 4) (some 10)))) gb8.s (by intro _ _ z;cases z) q3
  generalize upd H3 q2 (.lst (cutV (script.map V.int) (some 4) (some 10)))=H15 at k4 ⊢
  obtain⟨k5,a0m,q5⟩:=gr3 gb8 q1 k4
  have q6:=Al.cut (some 4) (some 10) (d'z (F:=k3) (ns:=script))
  have a0n:(cutA script (some 4) (some 10)).length≤script.length:=i'P _ _ _
  have a0o:(cutA script (some 4) (some 10)).length≤6:=g'O script 4 10
  refine a'b (a'c rfl (a'g ?_))
  refine⟨k3,_,_,(cutA script (some 4) (some 10)),(rz4 % 2),rfl,k5.s,⟨_,_,rfl,(SqL.of q4),q6⟩,rfl,(by exact⟨by omega,hd⟩),?_⟩
  rintro k6 F25 q7 a2 q8 d8 q9
  obtain⟨h6,a0q,r0⟩:=gr3 k5 q5 q8
  have a1:=q9
  refine a'z ?_
  try dsimp only
  refine a's (a'E (a'p (a'b (l'n (a'c rfl (a_part (a_c ?_)))))))
  refine e'l (a_part (a_c (e'l ?_)))
  refine⟨_,_,rfl,(Same.seq h6.h hS),fun r1 r3=>?_⟩
  obtain⟨k7,k8,r4⟩:=al2 (o:=(.lst (cutV (script.map V.int) (some 10) (some 16)))) h6.s (by intro _ _ z;cases z) r3
  generalize upd q7 r1 (.lst (cutV (script.map V.int) (some 10) (some 16)))=H37 at k8 ⊢
  obtain⟨k9,d9,r5⟩:=gr3 h6 r0 k8
  have r6:=Al.cut (some 10) (some 16) (d'z (F:=k7) (ns:=script))
  have a0s:(cutA script (some 10) (some 16)).length≤script.length:=i'P _ _ _
  have a0t:(cutA script (some 10) (some 16)).length≤6:=g'O script 10 16
  refine a'b (a'c rfl (a'g ?_))
  refine⟨k7,_,_,(cutA script (some 10) (some 16)),(rz4 % 2),rfl,k9.s,⟨_,_,rfl,(SqL.of r4),r6⟩,rfl,(by exact⟨by omega,hd⟩),?_⟩
  rintro l0 r7 H48 a3 r8 e6 r9
  obtain⟨h7,e0,t0⟩:=gr3 k9 r5 r8
  have b1:=r9
  refine a'z ?_
  try dsimp only
  refine a's (a'E (a'f (a'p (a'b (a'c rfl (a'b (a_c ?_)))))))
  refine a'g ?_
  refine⟨r7,_,_,script,1,rfl,h7.s,⟨_,rfl,(Same.seq h7.h hS)⟩,rfl,(by walk_at "o"),?_⟩
  rintro t1 t2 H58 a8 t3 t4 
  obtain⟨h8,c1,t5⟩:=gr3 h7 t0 t3
  obtain rfl:t1=V.int a8:=t4
  refine a_c ?_
  refine a_I (by decide) ?_
  have m66:0≤(a8 % 5)∧(a8 % 5)<5:=⟨Int.emod_nonneg _ (by decide),Int.emod_lt_of_pos _ (by decide)⟩
  refine a'z ?_
  try dsimp only
  refine a's (a'E (a'f (a_c (a'f (a'p (a'b (a'c rfl ?_)))))))
  refine a'b (a_c (a'g ?_))
  refine⟨t2,_,_,script,2,rfl,h8.s,⟨_,rfl,(Same.seq h8.h hS)⟩,rfl,(by walk_at "o"),?_⟩
  rintro t6 F68 t7 a5 t8 t9 
  obtain⟨l1,c2,u0⟩:=gr3 h8 t5 t8
  obtain rfl:t6=V.int a5:=t9
  refine a'f (b'j (a'b (a_c (a'b (a'f (a_c (a_c ?_)))))))
  refine e'p (z:=1000000) (by decide) ⟨by decide,by decide,by decide⟩ ?_
  refine a'g ?_
  refine⟨by show 2≤sizeLine;decide,fun u1 u2=>?_⟩
  obtain⟨l2,l3,u3⟩:=al2 (o:=(.lst [V.int 9,V.int 1000000])) l1.s (by intro _ _ z;cases z) u2
  generalize upd t7 u1 (.lst [V.int 9,V.int 1000000])=H80 at l3 ⊢
  obtain⟨h9,c3,u4⟩:=gr3 l1 u0 l3
  have u5:Al rI l2 [.int 9,.int 1000000] [9,1000000]:=⟨rfl,⟨rfl,True.intro⟩⟩
  refine a'f (a'f (a'p (a'b (a'c rfl (a'b (a_c (a'g ?_)))))))
  refine⟨l2,_,_,script,2,rfl,h9.s,⟨_,rfl,(Same.seq h9.h hS)⟩,rfl,(by walk_at "o"),?_⟩
  rintro u6 u7 H89 g0 u8 u9 
  obtain⟨g2,b8,v0⟩:=gr3 h9 u4 u8
  obtain rfl:u6=V.int g0:=u9
  refine a_c ?_
  refine a_I ⟨by decide,by decide⟩ ?_
  refine a_c ?_
  refine a_I (by decide) ?_
  have m97:0≤((g0 / 7) % 2)∧((g0 / 7) % 2)<2:=⟨Int.emod_nonneg _ (by decide),Int.emod_lt_of_pos _ (by decide)⟩
  obtain⟨a4,v2,v3,v4,v5⟩:=Al.ix (Al.mo b8 u5) (i:=((g0 / 7) % 2)) (by walk_at "o") (by walk_at "ol")
  refine b'T (Same.seq g2.s (Le.lst b8 (SqL.of u3))) v4 ?_
  have v6:=List.mem_of_getElem? v3
  simp only [List.mem_cons,List.not_mem_nil,or_false] at v6
  obtain rfl:v2=V.int a4:=v5
  refine a_I (by walk_at "o") ?_
  have a1b:0≤(a5 % a4)∧(a5 % a4)<a4:=⟨Int.emod_nonneg _ (by walk_at "o"),Int.emod_lt_of_pos _ (by walk_at "o")⟩
  refine b'g ?_
  have a1c:=h'P (1:Int) (a5 % a4)
  refine a'z ?_
  try dsimp only
  refine a's (a'E (a'p (a'b (a'p (a'b (a'c rfl (a'b ?_)))))))
  refine a_c (a'g ?_)
  refine⟨u7,_,_,script,3,rfl,g2.s,⟨_,rfl,(Same.seq g2.h hS)⟩,rfl,(by walk_at "o"),?_⟩
  rintro v7 v8 a1d l4 v9 w0 
  obtain⟨l5,c4,l6⟩:=gr3 g2 v0 v9
  obtain rfl:v7=V.int l4:=w0
  refine a'g ?_
  refine⟨v8,_,l4,rfl,l5.s,l6,rfl,?_⟩
  rintro a1e i0 a1f a0 w1 w2 w3
  obtain⟨i1,c5,i2⟩:=gr3 l5 l6 w1
  obtain⟨l7,a1g,rfl,i3,i4,i5⟩:=w2
  have P1:=w3
  refine a'z ?_
  try dsimp only
  refine k'g (fun σ' H'=>Ex5 fun (g3:Hp) (v_far131:V) (l8:Tm) (w4:Option V) (w5:Option V)=>Cj6 (σ'=[some (V.ref a),some (V.int rz4),some (V.int (rz4 % 2)),some (k6),some v_far131,some (V.int (a8 % 5)),some (V.int (1+(a5 % a4))),some (V.ref l7),w4,w5,none,none]) (Gr0 (fun _=>none) H g3 H') (Fz S0 g3) (Le i0 g3) ((rT T) g3 v_far131 l8) ((GT (rz4 % 2) l8))) (fun R hR=>?_) ?_
  ·refine b'd (a'B (a'f (a'f (a'f (a'c rfl (a_c ?_))))))
   refine a_I ⟨by decide,by decide⟩ ?_
   refine a_c ?_
   refine a_I (by decide) ?_
   have a1h:0≤((rz4 / 2) % 3)∧((rz4 / 2) % 3)<3:=⟨Int.emod_nonneg _ (by decide),Int.emod_lt_of_pos _ (by decide)⟩
   refine a_c (c'K (a'C ?_))
   with_reducible refine a'V (fun w6=>?_) (fun w6=>?_)
   ·refine a's (a'E (a'p (a'b (a'c rfl (a'b (a'c rfl (a'b ?_)))))))
    refine a'c rfl (a'g ?_)
    refine⟨i0,_,_,_,a2,a3,a0,rfl,i1.s,i2,(Mo.mo (((((((d9.trans e0).trans c1).trans c2).trans c3).trans b8).trans c4).trans c5) d8),(Mo.mo (((((c1.trans c2).trans c3).trans b8).trans c4).trans c5) e6),⟨_,_,rfl,i3,i4,i5⟩,(by first | exact⟨a1.1.pre,g1.pre,a1.1.mp P1,g1.mp P1⟩ | exact⟨a1.1.pre,b1.1.pre,a1.1.mp P1,b1.1.mp P1⟩),?_⟩
    rintro a1i w7 a1j  w8 w9 x0
    obtain⟨g4,d5,x1⟩:=gr3 i1 i2 w8
    obtain⟨a1k,rfl,g6⟩:=w9
    have L1:=x0
    refine a'z ?_
    try dsimp only
    refine a's (a'E (a'f (a'f (a'f (a'c rfl (a_c ?_))))))
    refine a'o (Same.tup g4.s g6) (fr0 (vAt a2 a0 - vAt a3 a0)) ?_
    have a1l:=c'l (vAt a2 a0 - vAt a3 a0)
    refine a'f (a'f (a'c rfl (a_c ?_)))
    refine a_I ⟨by decide,by decide⟩ ?_
    refine a_c ?_
    refine a_I (by decide) ?_
    have a1m:0≤((rz4 / 6) % 3)∧((rz4 / 6) % 3)<3:=⟨Int.emod_nonneg _ (by decide),Int.emod_lt_of_pos _ (by decide)⟩
    refine b'g ?_
    have a1n:=h'P (vAt a2 a0 - vAt a3 a0).num ((rz4 / 6) % 3)
    refine a_c (b'g ?_)
    have a1o:=h'Q ((vAt a2 a0 - vAt a3 a0).num+((rz4 / 6) % 3)) (1:Int)
    refine a'z ?_
    try dsimp only
    refine b'd (c'k (a'B (a'f (a'p (a'b (a'c rfl (a'b ?_)))))))
    refine a'f (a'c rfl (a_c ?_))
    refine a'o (Same.tup g4.s g6) (fr1 (vAt a2 a0 - vAt a3 a0)) ?_
    have a1p:=b'p (vAt a2 a0 - vAt a3 a0)
    refine a'g ?_
    refine⟨w7,_,_,(((vAt a2 a0 - vAt a3 a0).num+((rz4 / 6) % 3)) - 1),((vAt a2 a0 - vAt a3 a0).den:Int),rfl,g4.s,rfl,rfl,?_⟩
    rintro x2 i6 x3  x4 x5 
    obtain⟨e1,c9,g7⟩:=gr3 g4 x1 x4
    obtain rfl:x2=V.int (gd ((((vAt a2 a0 - vAt a3 a0).num+((rz4 / 6) % 3)) - 1)) (((vAt a2 a0 - vAt a3 a0).den:Int))):=x5
    refine a_c (c'K (a'C ?_))
    with_reducible refine a'V (fun x6=>?_) (fun x6=>?_)
    ·refine c'k (a'B (a'f (a'U (a'b (a'c rfl (a'g ?_))))))
     refine⟨_,rfl,?_⟩
     refine a'f (a_c (a_c ?_))
     refine e'p (z:=1000000) (by decide) ⟨by decide,by decide,by decide⟩ ?_
     refine b'g (a'C ?_)
     with_reducible refine a'V (fun x7=>?_) (fun x7=>?_)
     ·refine a'B (a'f (a'f (a'c rfl (a_c ?_))))
      refine a'o (Same.tup e1.s (Le.tup c9 g6)) (fr1 (vAt a2 a0 - vAt a3 a0)) ?_
      have a1q:=b'p (vAt a2 a0 - vAt a3 a0)
      refine a'f (a_c (a_c ?_))
      refine e'p (z:=1000000) (by decide) ⟨by decide,by decide,by decide⟩ ?_
      refine b'g (a'C ?_)
      with_reducible refine a'V (fun x8=>?_) (fun x8=>?_)
      ·refine a'E (b'P (a'b (a'c rfl (a'b (b'P (a'b (b'C ?_)))))))
       refine a'b (a'c rfl (a'b (a'f (a'c rfl (a_c ?_)))))
       refine a'o (Same.tup e1.s (Le.tup c9 g6)) (fr1 (vAt a2 a0 - vAt a3 a0)) ?_
       have a1r:=b'p (vAt a2 a0 - vAt a3 a0)
       refine a'g ?_
       refine⟨by show 2≤sizeLine;decide,fun g8 x9=>?_⟩
       obtain⟨y0,l9,y1⟩:=al2 (o:=(.tup [V.int (((vAt a2 a0 - vAt a3 a0).num+((rz4 / 6) % 3)) - 1),V.int ((vAt a2 a0 - vAt a3 a0).den:Int)])) e1.s (by intro _ _ z;cases z) x9
       generalize upd x3 g8 (.tup [V.int (((vAt a2 a0 - vAt a3 a0).num+((rz4 / 6) % 3)) - 1),V.int ((vAt a2 a0 - vAt a3 a0).den:Int)])=y2 at l9 ⊢
       obtain⟨m0,m1,y3⟩:=gr3 e1 g7 l9
       have y4:SqT K y0 g8 (fr (Rat.divInt (((vAt a2 a0 - vAt a3 a0).num+((rz4 / 6) % 3)) - 1) ((vAt a2 a0 - vAt a3 a0).den:Int))):=by rw [show fr (Rat.divInt (((vAt a2 a0 - vAt a3 a0).num+((rz4 / 6) % 3)) - 1) ((vAt a2 a0 - vAt a3 a0).den:Int))=[V.int (((vAt a2 a0 - vAt a3 a0).num+((rz4 / 6) % 3)) - 1),V.int ((vAt a2 a0 - vAt a3 a0).den:Int)] from by exact o'j (by assumption) (b'e _)];exact SqT.of y1
       refine a'g ?_
       intro d6 f5 y5 y6 y7
       refine⟨d6,f5,_,rfl,a'v,rfl,?_⟩
       obtain⟨y8,m2,y9⟩:=d'j (C:=T.c_Number) (fs:=[(("number":Str),V.ref g8)]) m0.s y5 y6 y7
       generalize upd (upd (upd y2 f5 (.own d6)) d6 (.ins T.c_Number f5 [])) d6 (.ins T.c_Number f5 [(("number":Str),V.ref g8)])=z0 at m2 ⊢
       obtain⟨m3,i7,z1⟩:=gr3 m0 y3 m2
       have hT187:rT T y8 (V.ref d6) (Tm.num ((Rat.divInt (((vAt a2 a0 - vAt a3 a0).num+((rz4 / 6) % 3)) - 1) ((vAt a2 a0 - vAt a3 a0).den:Int)))):=⟨d6,f5,_,rfl,.inl y9,⟨_,rfl,(Le.tup i7 y4)⟩⟩
       refine a'g ?_
       intro e7 f6 z2 z3 z4
       refine⟨e7,f6,_,_,rfl,a'v,rfl,?_⟩
       obtain⟨m4,m5,z5⟩:=d'j (C:=T.c_Plus) (fs:=[(("one":Str),l0),(("other":Str),V.ref d6)]) m3.s z2 z3 z4
       generalize upd (upd (upd z0 f6 (.own e7)) e7 (.ins T.c_Plus f6 [])) e7 (.ins T.c_Plus f6 [(("one":Str),l0),(("other":Str),V.ref d6)])=a1s at m5 ⊢
       obtain⟨z6,i8,z7⟩:=gr3 m3 z1 m5
       have hT200:rT T m4 (V.ref e7) (Tm.plus a3 ((Tm.num ((Rat.divInt (((vAt a2 a0 - vAt a3 a0).num+((rz4 / 6) % 3)) - 1) ((vAt a2 a0 - vAt a3 a0).den:Int)))))):=⟨e7,f6,_,_,rfl,.inl z5,(Mo.mo ((((((((((c1.trans c2).trans c3).trans b8).trans c4).trans c5).trans d5).trans c9).trans m1).trans i7).trans i8) e6),(Mo.mo i8 hT187)⟩
       refine a'z ?_
       try dsimp only
       exact hR _ _ ⟨m4,_,(Tm.plus a3 ((Tm.num ((Rat.divInt (((vAt a2 a0 - vAt a3 a0).num+((rz4 / 6) % 3)) - 1) ((vAt a2 a0 - vAt a3 a0).den:Int)))))),_,_,rfl,z6,z7,((((d5.trans c9).trans m1).trans i7).trans i8),hT200,by first | exact b1.1 | exact GT.pls b1 (b'O (Int.ne_of_gt (b'e _)) (a'Q 20 (by omega)) (a'Q 20 (by omega)))⟩
      ·refine a'G ?_
       try dsimp only
       exact hR _ _ ⟨i6,_,a3,_,_,rfl,e1,g7,(d5.trans c9),(Mo.mo (((((((c1.trans c2).trans c3).trans b8).trans c4).trans c5).trans d5).trans c9) e6),by first | exact b1.1 | exact GT.pls b1 (b'O (Int.ne_of_gt (b'e _)) (a'Q 20 (by omega)) (a'Q 20 (by omega)))⟩
     ·refine b'x ?_
      refine a'G ?_
      try dsimp only
      exact hR _ _ ⟨i6,_,a3,_,_,rfl,e1,g7,(d5.trans c9),(Mo.mo (((((((c1.trans c2).trans c3).trans b8).trans c4).trans c5).trans d5).trans c9) e6),by first | exact b1.1 | exact GT.pls b1 (b'O (Int.ne_of_gt (b'e _)) (a'Q 20 (by omega)) (a'Q 20 (by omega)))⟩
    ·refine b'x ?_
     refine a'G ?_
     try dsimp only
     exact hR _ _ ⟨i6,_,a3,_,_,rfl,e1,g7,(d5.trans c9),(Mo.mo (((((((c1.trans c2).trans c3).trans b8).trans c4).trans c5).trans d5).trans c9) e6),by first | exact b1.1 | exact GT.pls b1 (b'O (Int.ne_of_gt (b'e _)) (a'Q 20 (by omega)) (a'Q 20 (by omega)))⟩
   ·refine a'G ?_
    try dsimp only
    exact hR _ _ ⟨i0,_,a3,_,_,rfl,i1,i2,Le.refl _,(Mo.mo (((((c1.trans c2).trans c3).trans b8).trans c4).trans c5) e6),by first | exact b1.1 | exact GT.pls b1 (b'O (Int.ne_of_gt (b'e _)) (a'Q 20 (by omega)) (a'Q 20 (by omega)))⟩
  ·rintro σ' z8 ⟨a1t,v_far209,a9,a1u,z9,rfl,m6,A0,d0,e8,g1⟩
   refine a's (f'P (g'l (b'j (a'b (a_c ?_)))))
   have a1v:("just":Str).length=4:=by decide +kernel
   refine a'b (a_c ?_)
   have a1w:("least":Str).length=5:=by decide +kernel
   refine a'b (a_c ?_)
   have a1x:("most":Str).length=4:=by decide +kernel
   refine a'g ?_
   refine⟨by show 3≤sizeLine;decide,fun m7 A1=>?_⟩
   obtain⟨i9,m8,m9⟩:=al2 (o:=(.lst [V.str ("just":Str),V.str ("least":Str),V.str ("most":Str)])) m6.s (by intro _ _ z;cases z) A1
   generalize upd z8 m7 (.lst [V.str ("just":Str),V.str ("least":Str),V.str ("most":Str)])=a1y at m8 ⊢
   obtain⟨n0,b4,A2⟩:=gr3 m6 A0 m8
   have n1:Al rS i9 [.str ("just":Str),.str ("least":Str),.str ("most":Str)] [("just":Str),("least":Str),("most":Str)]:=⟨rfl,⟨rfl,⟨rfl,True.intro⟩⟩⟩
   refine⟨_,rfl,⟨_,(Same.seq n0.s (SqL.of m9))⟩,h'v (xs:=[V.str ("just":Str),V.str ("least":Str),V.str ("most":Str)]) (K:=K) (a:=m7) (fun i σ' H'=>Ex4 fun (j0:Hp) (A3:Option V) (A4:Option V) (A5:Option V)=>Cj5 (σ'=[some (V.ref a),some (V.int rz4),some (V.int (rz4 % 2)),some (k6),some (v_far209),some (V.int (a8 % 5)),some (V.int (1+(a5 % a4))),some (V.ref l7),A4,z9,A5,A3]) (Gr0 (fun _=>none) H j0 H') (Fz S0 j0) (Le i9 j0) ((True))) ?_ ?_ ?_ ?_⟩
   ·exact⟨i9,_,_,_,rfl,n0,A2,Le.refl _,by trivial⟩
   ·rintro i σ' a1z _ ⟨a2a,a2b,a2c,a2d,rfl,A6,a2e,A7,_⟩
    exact (Same.seq A6.s (Le.lst A7 (SqL.of m9)))
   ·rintro a2f A8 σ' a2g A9 ⟨B0,a2h,a2i,a2j,rfl,n2,B1,b0,_⟩
    obtain⟨b2,B2,B3⟩:=Al.get (Al.mo b0 n1) A9
    refine a'z ?_
    try dsimp only
    obtain rfl:A8=V.str b2:=B3
    have hk:=o'k (List.mem_of_getElem? B2)
    refine a's (a'E (a'p (a'b (a'c rfl (a'b (a'c rfl (a'b ?_)))))))
    refine a'c rfl (a'b (a'c rfl (a'b (a'c rfl (a'g ?_)))))
    refine⟨B0,_,_,_,_,_,b2,a2,a9,(a8 % 5),(1+(a5 % a4)),rfl,n2.s,rfl,(Mo.mo ((((((((((d9.trans e0).trans c1).trans c2).trans c3).trans b8).trans c4).trans c5).trans d0).trans b4).trans b0) d8),(Mo.mo (b4.trans b0) e8),rfl,rfl,(by exact⟨hk,o'C a1.1.g g1.g,Nat.le_trans a1.1.dp (by decide),Nat.le_trans a1.1.e (by decide),Nat.le_trans g1.dp (by decide),Nat.le_trans g1.e (by decide)⟩),?_⟩
    rintro a2k B4 a2l  B5 d1 
    obtain⟨n3,b5,n4⟩:=gr3 n2 B1 B5
    refine a'z ?_
    try dsimp only
    refine a's (a'E (a'p (a'b (a'c rfl (a'b (a'c rfl (a'b ?_)))))))
    refine a'c rfl (a'g ?_)
    refine⟨B4,_,_,_,a2,a9,a0,rfl,n3.s,n4,(Mo.mo (((((((((((d9.trans e0).trans c1).trans c2).trans c3).trans b8).trans c4).trans c5).trans d0).trans b4).trans b0).trans b5) d8),(Mo.mo ((b4.trans b0).trans b5) e8),⟨_,_,rfl,(Le.dic (((d0.trans b4).trans b0).trans b5) i3),(Dk.mo (((d0.trans b4).trans b0).trans b5) i4),i5⟩,(by first | exact⟨a1.1.pre,g1.pre,a1.1.mp P1,g1.mp P1⟩ | exact⟨a1.1.pre,b1.1.pre,a1.1.mp P1,b1.1.mp P1⟩),?_⟩
    rintro a2m B6 a2n  B7 B8 B9
    obtain⟨n5,a6,C0⟩:=gr3 n3 n4 B7
    obtain⟨a2o,rfl,C1⟩:=B8
    have L1:=B9
    refine a'z ?_
    try dsimp only
    refine a's (b'd (b'V (d'f (c't (a'p (a'b (a'c rfl ?_)))))))
    refine a'b (a'c rfl (a'g ?_))
    refine⟨B6,_,_,(((a2,a9,b2,((a8 % 5)),((1+(a5 % a4)))):Wi)),b2,rfl,n5.s,(Mo.mo a6 d1),rfl,(by rfl),?_⟩
    rintro C2 C3 a2p  C4 C5 
    obtain⟨n6,a7,n7⟩:=gr3 n5 C0 C4
    obtain rfl:C2=V.bl true:=C5
    refine a'C ?_
    refine d'P ?_
    refine d'f (c't (a'p (a'b (a'c rfl (a'b (a'c rfl (a'b ?_)))))))
    refine a'c rfl (a'b (a'c rfl (a'b (a'c rfl (a'b (a'c rfl (a'g ?_)))))))
    refine⟨C3,_,_,_,_,_,_,(((a2,a9,b2,((a8 % 5)),((1+(a5 % a4)))):Wi)),b2,(vAt a2 a0 - vAt a9 a0),(a8 % 5),(1+(a5 % a4)),a0,rfl,n6.s,n7,(Mo.mo (a6.trans a7) d1),rfl,⟨_,rfl,(Le.tup a7 C1)⟩,rfl,rfl,⟨_,_,rfl,(Le.dic (((((d0.trans b4).trans b0).trans b5).trans a6).trans a7) i3),(Dk.mo (((((d0.trans b4).trans b0).trans b5).trans a6).trans a7) i4),i5⟩,(by exact⟨a1.1.wp g1,rfl,rfl,rfl,a1.1.mr g1 P1,a1.1.rb g1,rfl,L1,P1.ln⟩),?_⟩
    rintro C6 C7 a2q  C8 C9 
    obtain⟨j1,b3,D0⟩:=gr3 n6 n7 C8
    obtain rfl:C6=V.bl true:=C9
    refine a'C ?_
    refine d'P ?_
    refine a'G ?_
    try dsimp only
    refine a's (b'd (b'V (a'B (a'f (a'O (a'c rfl ?_))))))
    obtain⟨_,_,_,_,D1,D2,D3,D4⟩:=j'd (Mo.mo ((a6.trans a7).trans b3) d1)
    refine⟨_,_,_,_,_,D1,j1.s.rd D2,D3,D4,?_⟩
    refine⟨C7,_,(((a2,a9,b2,((a8 % 5)),((1+(a5 % a4)))):Wi)),rfl,j1.s,(Mo.mo ((a6.trans a7).trans b3) d1),(by exact⟨Nat.le_trans a1.1.dp (by decide),Nat.le_trans a1.1.e (by decide),Nat.le_trans g1.dp (by decide),Nat.le_trans g1.e (by decide)⟩),?_⟩
    rintro D5 a2r D6  D7 D8 
    obtain⟨n8,b6,D9⟩:=gr3 j1 D0 D7
    obtain rfl:D5=V.str (wayW (((((a2,a9,b2,((a8 % 5)),((1+(a5 % a4)))):Wi))).1,((((a2,a9,b2,((a8 % 5)),((1+(a5 % a4)))):Wi))).2.1)):=D8
    refine b'j (a'b (a_c ?_))
    have a2s:("across":Str).length=6:=by decide +kernel
    refine a'b (a_c ?_)
    have a2t:("down":Str).length=4:=by decide +kernel
    refine a'g ?_
    refine⟨by show 2≤sizeLine;decide,fun G0 G1=>?_⟩
    obtain⟨n9,o0,G2⟩:=al2 (o:=(.lst [V.str ("across":Str),V.str ("down":Str)])) n8.s (by intro _ _ z;cases z) G1
    generalize upd D6 G0 (.lst [V.str ("across":Str),V.str ("down":Str)])=a2u at o0 ⊢
    obtain⟨d7,b7,o1⟩:=gr3 n8 D9 o0
    have G3:Al rS n9 [.str ("across":Str),.str ("down":Str)] [("across":Str),("down":Str)]:=⟨rfl,⟨rfl,True.intro⟩⟩
    refine n'V (Same.seq d7.s (SqL.of G2)) G3 ?_
    refine a'C ?_
    with_reducible refine b'r (fun j2=>?_) (fun j2=>?_)
    ·refine c'b ?_
     refine a'A (a_c ?_)
     exfalso
     first | exact j2 (e'v _) | exact j2 rfl | (have h1:=d'd a1.1.g g1.g;have h2:=c'o a1.1.g g1.g;simp_all;done)
    ·refine b'V (a'B (a'f (a'W (a'c rfl ?_))))
     obtain⟨_,_,_,_,G4,G5,G6,G7,G8,G9,I0⟩:=i'k (Mo.mo ((((a6.trans a7).trans b3).trans b6).trans b7) d1)
     refine⟨_,_,_,_,_,G5,d7.s.rd G6,G7,G8,G9,?_⟩
     obtain rfl:G4=V.int (((a2,a9,b2,((a8 % 5)),((1+(a5 % a4)))):Wi)).2.2.2.1:=I0
     refine a'c rfl (c'L (a'C ?_))
     with_reducible refine b'r (fun j3=>?_) (fun j3=>?_)
     ·refine c'b ?_
      refine a'A (a_c ?_)
      exfalso
      first | exact j3 (e'v _) | exact j3 rfl | (have h1:=d'd a1.1.g g1.g;have h2:=c'o a1.1.g g1.g;simp_all;done)
     ·refine a'B (a'f (a'W (a'c rfl ?_)))
      obtain⟨_,_,_,_,I1,I2,I3,I4,I5,I6,I7⟩:=f'Z (Mo.mo ((((a6.trans a7).trans b3).trans b6).trans b7) d1)
      refine⟨_,_,_,_,_,I2,d7.s.rd I3,I4,I5,I6,?_⟩
      obtain rfl:I1=V.int (((a2,a9,b2,((a8 % 5)),((1+(a5 % a4)))):Wi)).2.2.2.2:=I7
      refine a'c rfl (c'L (a'C ?_))
      with_reducible refine b'r (fun j4=>?_) (fun j4=>?_)
      ·refine a'A (a_c ?_)
       exfalso
       first | exact j4 (e'v _) | exact j4 rfl | (have h1:=d'd a1.1.g g1.g;have h2:=c'o a1.1.g g1.g;simp_all;done)
      ·refine a'G ?_
       try dsimp only
       refine a's (b'd (b'V (a'B (a'f (a'O (a'W (a'c rfl ?_)))))))
       obtain⟨_,_,_,_,a2v,I8,I9,J0,J1,J2,o2⟩:=f'v (Mo.mo ((((a6.trans a7).trans b3).trans b6).trans b7) d1)
       refine⟨_,_,_,_,_,I8,d7.s.rd I9,J0,J1,J2,?_⟩
       obtain⟨_,_,_,_,J3,J4,J5,J6⟩:=b'U o2
       refine⟨_,_,_,_,_,J3,d7.s.rd J4,J5,J6,?_⟩
       refine⟨n9,_,(((a2,a9,b2,((a8 % 5)),((1+(a5 % a4)))):Wi)).1,rfl,d7.s,o1,o2,(by exact a1.1.pre),?_⟩
       rintro a2w J7 a2x  J8 J9 
       obtain⟨L0,a2y,a2z,a3a,rfl,L2,L3,L4,oH362,oF363,L5,L6⟩:=J9
       have L7:=d7.h.free L4
       obtain⟨g9,c6,o3⟩:=gr3 d7 o1 J8
       obtain⟨a3b,rfl,L8⟩:=L3
       refine a'O (a'c rfl ?_)
       obtain⟨_,_,_,_,L9,M0,M1,M2⟩:=b'U (Mo.mo (((((((((((((((((d9.trans e0).trans c1).trans c2).trans c3).trans b8).trans c4).trans c5).trans d0).trans b4).trans b0).trans b5).trans a6).trans a7).trans b3).trans b6).trans b7).trans c6) d8)
       refine⟨_,_,_,_,_,L9,g9.s.rd M0,M1,M2,?_⟩
       refine⟨J7,_,a2,rfl,g9.s,o3,(Mo.mo (((((((((((((((((d9.trans e0).trans c1).trans c2).trans c3).trans b8).trans c4).trans c5).trans d0).trans b4).trans b0).trans b5).trans a6).trans a7).trans b3).trans b6).trans b7).trans c6) d8),(by exact a1.1.pre),?_⟩
       rintro a3c M3 a3d  j5 M4 
       obtain⟨M5,a3e,a3f,a3g,rfl,M6,M7,o4,oH390,oF391,M8,M9⟩:=M4
       have N0:=g9.h.free o4
       have N1:=a'q oH362 o4
       obtain⟨e9,b9,j6⟩:=gr3 g9 o3 j5
       have oH399:=j5.h _ _ oH362
       have oF400:=j5.own oF363 oH362
       obtain⟨a3h,rfl,N2⟩:=M7
       obtain⟨a3i,N3,N4,N5,N6,N7⟩:=frz e9 j6 L7 oF400 oH399 (by intro _ _ z;cases z)
       have f0:=Le.of N5
       have oF409:=(N7 _ (Ne.symm N1)).trans oF391
       obtain⟨o5,N8,a3j,N9,O0,a3k⟩:=frz N3 N4 N0 oF409 oH390 (by intro _ _ z;cases z)
       have e2:=Le.of N9
       have O1:(r2 K (rD (rFr K)) (rFr K)) o5 (V.ref M5) (wor a2):=⟨_,_,_,rfl,(Le.tup (f0.trans e2) M6),⟨_,_,rfl,(Rd.of O0),(Dk.mo (f0.trans e2) M8),M9⟩,⟨_,rfl,(Le.tup (f0.trans e2) N2)⟩⟩
       refine m'a (fun Q' q'=>k'x (K:=K) N8.s (show (r2 K (rD (rFr K)) (rFr K)) o5 (V.ref L0) (wor ((((a2,a9,b2,((a8 % 5)),((1+(a5 % a4)))):Wi)).1)) from ⟨_,_,_,rfl,(Le.tup ((b9.trans f0).trans e2) L2),⟨_,_,rfl,(Le.dic e2 (Rd.of N6)),(Dk.mo e2 (Dk.mo (b9.trans f0) L5)),L6⟩,⟨_,rfl,(Le.tup ((b9.trans f0).trans e2) L8)⟩⟩) O1 (by decide) q') ?_
       refine a'C ?_
       refine b'x ?_
       refine a'B (a'f (a'O (a'W (a'c rfl ?_))))
       obtain⟨_,_,_,_,a3l,O2,O3,O4,O5,O6,o6⟩:=g'A (Mo.mo ((((((a6.trans a7).trans b3).trans b6).trans b7).trans c6).trans b9) d1)
       refine⟨_,_,_,_,_,O2,e9.s.rd O3,O4,O5,O6,?_⟩
       obtain⟨_,_,_,_,O7,O8,O9,R0⟩:=b'U o6
       refine⟨_,_,_,_,_,O7,e9.s.rd O8,O9,R0,?_⟩
       refine⟨M3,_,(((a2,a9,b2,((a8 % 5)),((1+(a5 % a4)))):Wi)).2.1,rfl,e9.s,j6,o6,(by exact g1.pre),?_⟩
       rintro a3m R1 a3n  f7 R2 
       obtain⟨R3,a3o,a3p,a3q,rfl,R4,R5,j7,oH442,oF443,R6,R7⟩:=R2
       have R8:=e9.h.free j7
       have R9:=a'q oH399 j7
       have U0:=a'q oH390 j7
       obtain⟨h0,d2,o7⟩:=gr3 e9 j6 f7
       have oH452:=f7.h _ _ oH399
       have oF453:=f7.own oF400 oH399
       have oH454:=f7.h _ _ oH390
       have oF455:=f7.own oF391 oH390
       obtain⟨a3r,rfl,U1⟩:=R5
       refine a'O (a'c rfl ?_)
       obtain⟨_,_,_,_,U2,U3,U4,U5⟩:=b'U (Mo.mo ((((((((((b4.trans b0).trans b5).trans a6).trans a7).trans b3).trans b6).trans b7).trans c6).trans b9).trans d2) e8)
       refine⟨_,_,_,_,_,U2,h0.s.rd U3,U4,U5,?_⟩
       refine⟨R1,_,a9,rfl,h0.s,o7,(Mo.mo ((((((((((b4.trans b0).trans b5).trans a6).trans a7).trans b3).trans b6).trans b7).trans c6).trans b9).trans d2) e8),(by exact g1.pre),?_⟩
       rintro a3s U6 a3t  e3 U7 
       obtain⟨U8,a3u,a3v,a3w,rfl,U9,V0,h3,oH476,oF477,V1,V2⟩:=U7
       have V3:=h0.h.free h3
       have V4:=a'q oH452 h3
       have V5:=a'q oH454 h3
       have V6:=a'q oH442 h3
       obtain⟨h4,c7,o8⟩:=gr3 h0 o7 e3
       have oH487:=e3.h _ _ oH452
       have oF488:=e3.own oF453 oH452
       have oH489:=e3.h _ _ oH454
       have oF490:=e3.own oF455 oH454
       have oH491:=e3.h _ _ oH442
       have oF492:=e3.own oF443 oH442
       obtain⟨a3x,rfl,V7⟩:=V0
       obtain⟨a3y,V8,V9,X0,X1,j8⟩:=frz h4 o8 R8 oF492 oH491 (by intro _ _ z;cases z)
       have f1:=Le.of X0
       have oF501:=(j8 _ R9).trans oF488
       have oF502:=(j8 _ U0).trans oF490
       have oF503:=(j8 _ (Ne.symm V6)).trans oF477
       obtain⟨o9,X2,a3z,X3,X4,p0⟩:=frz V8 V9 V3 oF503 oH476 (by intro _ _ z;cases z)
       have e4:=Le.of X3
       have oF510:=(p0 _ V4).trans oF501
       have oF511:=(p0 _ V5).trans oF502
       have X5:(r2 K (rD (rFr K)) (rFr K)) o9 (V.ref U8) (wor a9):=⟨_,_,_,rfl,(Le.tup (f1.trans e4) U9),⟨_,_,rfl,(Rd.of X4),(Dk.mo (f1.trans e4) V1),V2⟩,⟨_,rfl,(Le.tup (f1.trans e4) V7)⟩⟩
       refine m'a (fun Q' q'=>k'x (K:=K) X2.s (show (r2 K (rD (rFr K)) (rFr K)) o9 (V.ref R3) (wor ((((a2,a9,b2,((a8 % 5)),((1+(a5 % a4)))):Wi)).2.1)) from ⟨_,_,_,rfl,(Le.tup ((c7.trans f1).trans e4) R4),⟨_,_,rfl,(Le.dic e4 (Rd.of X1)),(Dk.mo e4 (Dk.mo (c7.trans f1) R6)),R7⟩,⟨_,rfl,(Le.tup ((c7.trans f1).trans e4) U1)⟩⟩) X5 (by decide) q') ?_
       refine a'C ?_
       refine b'x ?_
       refine a'G ?_
       try dsimp only
       refine b'd (a'B (a'f (a'f (a'O (a'c rfl ?_)))))
       obtain⟨_,_,_,_,X6,X7,X8,X9⟩:=j'd (Mo.mo ((((((((a6.trans a7).trans b3).trans b6).trans b7).trans c6).trans b9).trans d2).trans c7) d1)
       refine⟨_,_,_,_,_,X6,h4.s.rd X7,X8,X9,?_⟩
       refine⟨U6,_,(((a2,a9,b2,((a8 % 5)),((1+(a5 % a4)))):Wi)),rfl,h4.s,(Mo.mo ((((((((a6.trans a7).trans b3).trans b6).trans b7).trans c6).trans b9).trans d2).trans c7) d1),(by exact⟨Nat.le_trans a1.1.dp (by decide),Nat.le_trans a1.1.e (by decide),Nat.le_trans g1.dp (by decide),Nat.le_trans g1.e (by decide)⟩),?_⟩
       rintro Y0 p1 a4a  d3 Y1 
       obtain⟨f8,f2,p3⟩:=gr3 h4 o8 d3
       have oH527:=d3.h _ _ oH487
       have oF528:=d3.own oF488 oH487
       have oH529:=d3.h _ _ oH489
       have oF530:=d3.own oF490 oH489
       have oH531:=d3.h _ _ oH491
       have oF532:=d3.own oF492 oH491
       have oH533:=d3.h _ _ oH476
       have oF534:=d3.own oF477 oH476
       obtain rfl:Y0=V.str (wayW (((((a2,a9,b2,((a8 % 5)),((1+(a5 % a4)))):Wi))).1,((((a2,a9,b2,((a8 % 5)),((1+(a5 % a4)))):Wi))).2.1)):=Y1
       refine a_c ?_
       have a4b:("down":Str).length=4:=by decide +kernel
       refine c'y (d'v (a'f (a'c rfl (a_c (c'K (a'C ?_))))))
       with_reducible refine a'V (fun Y2=>?_) (fun Y2=>?_)
       ·refine a'f (a'f (a'O (a'c rfl ?_)))
        obtain⟨_,_,_,_,Y3,Y4,Y5,Y6⟩:=e'N (Mo.mo (((((((((((((((((((((d9.trans e0).trans c1).trans c2).trans c3).trans b8).trans c4).trans c5).trans d0).trans b4).trans b0).trans b5).trans a6).trans a7).trans b3).trans b6).trans b7).trans c6).trans b9).trans d2).trans c7).trans f2) d8)
        refine⟨_,_,_,_,_,Y3,f8.s.rd Y4,Y5,Y6,?_⟩
        refine⟨p1,_,a2,rfl,f8.s,(Mo.mo (((((((((((((((((((((d9.trans e0).trans c1).trans c2).trans c3).trans b8).trans c4).trans c5).trans d0).trans b4).trans b0).trans b5).trans a6).trans a7).trans b3).trans b6).trans b7).trans c6).trans b9).trans d2).trans c7).trans f2) d8),(by exact⟨Nat.le_trans a1.1.dp (by decide),Nat.le_trans a1.1.e (by decide)⟩),?_⟩
        rintro a4c Y7 a4d  d4 Y8 
        obtain⟨a4e,p4,rfl,f9,oH551,oF552,Y9⟩:=Y8
        have a4f:=f8.h.free f9
        have a4g:=a'q oH527 f9
        have a4h:=a'q oH529 f9
        have a4i:=a'q oH531 f9
        have a4j:=a'q oH533 f9
        obtain⟨h5,j9,Z0⟩:=gr3 f8 p3 d4
        have oH562:=d4.h _ _ oH527
        have oF563:=d4.own oF528 oH527
        have oH564:=d4.h _ _ oH529
        have oF565:=d4.own oF530 oH529
        have oH566:=d4.h _ _ oH531
        have oF567:=d4.own oF532 oH531
        have oH568:=d4.h _ _ oH533
        have oF569:=d4.own oF534 oH533
        refine a'O (a'c rfl ?_)
        obtain⟨_,_,_,_,Z1,Z2,Z3,Z4⟩:=e'N (Mo.mo (((((((((((((b4.trans b0).trans b5).trans a6).trans a7).trans b3).trans b6).trans b7).trans c6).trans b9).trans d2).trans c7).trans f2).trans j9) e8)
        refine⟨_,_,_,_,_,Z1,h5.s.rd Z2,Z3,Z4,?_⟩
        refine⟨Y7,_,a9,rfl,h5.s,(Mo.mo (((((((((((((b4.trans b0).trans b5).trans a6).trans a7).trans b3).trans b6).trans b7).trans c6).trans b9).trans d2).trans c7).trans f2).trans j9) e8),(by exact⟨Nat.le_trans g1.dp (by decide),Nat.le_trans g1.e (by decide)⟩),?_⟩
        rintro a4k a4l Z5  c8 Z6 
        obtain⟨a4m,p5,rfl,f3,oH584,oF585,Z7⟩:=Z6
        have a4n:=h5.h.free f3
        have a4o:=a'q oH562 f3
        have a4p:=a'q oH564 f3
        have a4q:=a'q oH566 f3
        have a4r:=a'q oH568 f3
        have a4s:=a'q oH551 f3
        obtain⟨p6,p7,Z8⟩:=gr3 h5 Z0 c8
        have oH596:=c8.h _ _ oH562
        have oF597:=c8.own oF563 oH562
        have oH598:=c8.h _ _ oH564
        have oF599:=c8.own oF565 oH564
        have oH600:=c8.h _ _ oH566
        have oF601:=c8.own oF567 oH566
        have oH602:=c8.h _ _ oH568
        have oF603:=c8.own oF569 oH568
        have oH604:=c8.h _ _ oH551
        have oF605:=c8.own oF552 oH551
        have p8:=(Al.mo p7 Y9)
        have p9:=Z7
        refine⟨_,_,_,_,rfl,rfl,(SqL.of oH604),(SqL.of oH584),(Nat.le_trans (show _≤100000 by rw [Al.length p8,Al.length p9];have:=c'S a2;have:=c'S a9;have:=a1.1.e;have:=g1.e;omega) (by decide)),fun Z9 a0a=>?_⟩
        obtain⟨a0b,c0,a0c⟩:=al2 (o:=(.lst (p4++p5))) p6.s (by intro _ _ z;cases z) a0a
        generalize upd Z5 Z9 (.lst (p4++p5))=a0d at c0 ⊢
        obtain⟨a0e,q0,a0f⟩:=gr3 p6 Z8 c0
        have oH617:=c0.h _ _ oH596
        have oF618:=c0.own oF597 oH596
        have oH619:=c0.h _ _ oH598
        have oF620:=c0.own oF599 oH598
        have oH621:=c0.h _ _ oH600
        have oF622:=c0.own oF601 oH600
        have oH623:=c0.h _ _ oH602
        have oF624:=c0.own oF603 oH602
        have oH625:=c0.h _ _ oH604
        have oF626:=c0.own oF605 oH604
        have oH627:=c0.h _ _ oH584
        have oF628:=c0.own oF585 oH584
        have a0g:=Al.mo q0 (Al.app p8 p9)
        refine b'j (a'g ?_)
        refine⟨by show 0≤sizeLine;decide,fun a0h a0i=>?_⟩
        obtain⟨k0,e5,a4t,oF636,oH637,f4⟩:=b'M (o:=(.lst [])) a0e a0i
        generalize upd a0d a0h (.lst [])=a4u at k0 e5 oH637 ⊢
        have a4v:=f4 _ _ oH617
        have oH640:=e5 _ _ oH617
        have a4w:=f4 _ _ oH619
        have oH642:=e5 _ _ oH619
        have a4x:=f4 _ _ oH621
        have oH644:=e5 _ _ oH621
        have a4y:=f4 _ _ oH623
        have oH646:=e5 _ _ oH623
        have a4z:=f4 _ _ oH625
        have oH648:=e5 _ _ oH625
        have a5a:=f4 _ _ oH627
        have oH650:=e5 _ _ oH627
        refine⟨_,_,_,rfl,rfl,(Same.seq k0.s (SqL.of a0c)),(SqL.of oH637),?_⟩
        rw [Al.length a0g]
        refine j'u (a'C ?_)
        with_reducible refine l'Y (fun k1=>?_) (fun k1=>?_)
        ·refine a'A (a_c ?_)
         exfalso
         first | exact k1 (e'v _) | exact k1 rfl | (have h1:=d'd a1.1.g g1.g;have h2:=c'o a1.1.g g1.g;simp_all;done)
        ·refine a'G ?_
         try dsimp only
         exact⟨a0b,_,_,_,rfl,k0,a0f,((((((((((((((b0.trans b5).trans a6).trans a7).trans b3).trans b6).trans b7).trans c6).trans b9).trans d2).trans c7).trans f2).trans j9).trans p7).trans q0),by trivial⟩
       ·refine j'u (a'C ?_)
        with_reducible refine l'Y (fun k2=>?_) (fun k2=>?_)
        ·refine a'A (a_c ?_)
         exfalso
         first | exact k2 (e'v _) | exact k2 rfl | (have h1:=d'd a1.1.g g1.g;have h2:=c'o a1.1.g g1.g;simp_all;done)
        ·refine a'G ?_
         try dsimp only
         exact⟨p1,_,_,_,rfl,f8,p3,(((((((((((b0.trans b5).trans a6).trans a7).trans b3).trans b6).trans b7).trans c6).trans b9).trans d2).trans c7).trans f2),by trivial⟩
   ·rintro σ' a5b ⟨a5c,a5d,a5e,a5f,rfl,a5g,a5h,a0j,_⟩
    have hlen:=Al.length (Al.mo a0j n1)
    try dsimp only
    refine a'A (a_c ?_)
    exact k _
end
theorem walk {l:PySem.W.OpenLaw} {q:Program} {loose:List Str} {XP:(Str→Option Value)→Heap→Prop} {YP:World→Heap→Prop} {d:DefRec} {K:Params→PySem.W.Frag} (hn:l.most=some 63) (hdf:d.params.defaults=[]) (hnm:d.name="law")
    (hY:∀ (w:World) (h:Heap),YP w h→(K w.params).In h)
    (F:∀ (w:World) (mg:Str→Option Value) (h:Heap),(K w.params).In h→h.Ns mainGlobals mg→Nonempty (Tx w (K w.params) mg)) :
    PySem.W.WalkO q loose XP YP l.row.toRowW d [] (fun f vs=>PySem.call f vs):=by
  refine L2.walk_of (n:=63) (k:=30) (x:="_law_script") (CX:=fun _=>CX0) (sp:=fun w=>sp_law (K w.params)) hn (by decide) hdf ⟨rfl,by decide,by decide⟩ hY ?_ (fun _ _ a ns hl _ hS=>⟨a,ns,rfl,hS,hl,fun _=>rfl⟩) fun _ _ _ _ _ z=>z
  intro w mg fa h KX G hmg
  obtain⟨T⟩:=F w mg h KX G
  rw [hnm] at hmg
  have e:=hmg.symm.trans T.m_law
  cases e
  refine⟨T.d_law,fun s v=>?_,fun base _ _=>o'l T⟩
  obtain⟨oc,od,kV,doc,pm,an,cdv,ct,osl,hfd,lk,hcd⟩:=T.F_law.ex
  rw [hfd]
  exact .of_eq rfl
end Sf
/-! no twins of the start-up's heaps: their names are taken -/
def PySem.W.Fast.tw12410354643903950208:Unit:=()
def PySem.W.Fast.tw3762008956583438200:Unit:=()
def PySem.W.Fast.tw4473476249007740987:Unit:=()
def PySem.W.Fast.tw13071307397360017322:Unit:=()
def PySem.W.Fast.tw2686853319936044398:Unit:=()
def PySem.W.Fast.tw3129898528466625648:Unit:=()
def PySem.W.Fast.tw5274628142731295727:Unit:=()
def PySem.W.Fast.tw10786991281913765355:Unit:=()
def PySem.W.Fast.tw6626717347883063972:Unit:=()
def PySem.W.Fast.tw2354444304384603256:Unit:=()
def PySem.W.Fast.tw9007696758039021170:Unit:=()
def PySem.W.Fast.tw13144857781025231880:Unit:=()
def PySem.W.Fast.tw2495607405848806587:Unit:=()
def PySem.W.Fast.tw6356631346917778010:Unit:=()
def PySem.W.Fast.tw16694292698289149797:Unit:=()
def PySem.W.Fast.tw951802962170711151:Unit:=()
def PySem.W.Fast.tw5408521268778251271:Unit:=()
def PySem.W.Fast.tw13722381407865080395:Unit:=()
def PySem.W.Fast.tw18285522672884601644:Unit:=()
def PySem.W.Fast.tw13974149779831680720:Unit:=()
def PySem.W.Fast.tw1674322028562748832:Unit:=()
def PySem.W.Fast.tw9123629494872079722:Unit:=()
def PySem.W.Fast.tw14390397143257875058:Unit:=()
def PySem.W.Fast.tw6702678713024780575:Unit:=()
def PySem.W.Fast.tw16545609061775965137:Unit:=()
def PySem.W.Fast.tw5866028955921738568:Unit:=()
def PySem.W.Fast.tw9661133278734489440:Unit:=()
def PySem.W.Fast.tw11716670086048774575:Unit:=()
def PySem.W.Fast.tw2768590673573465666:Unit:=()
def PySem.W.Fast.tw6894713682095320336:Unit:=()
def PySem.W.Fast.tw12833992756989454684:Unit:=()
def PySem.W.Fast.tw3515457652179522121:Unit:=()
def PySem.W.Fast.tw14543524218682506101:Unit:=()
def PySem.W.Fast.tw12781524793529656603:Unit:=()
def PySem.W.Fast.tw12181692137517681834:Unit:=()
def PySem.W.Fast.tw5095769845461320428:Unit:=()
def PySem.W.Fast.tw2656042143766352519:Unit:=()
def PySem.W.Fast.tw11082148863442605146:Unit:=()
def PySem.W.Fast.tw11749445397980147314:Unit:=()
def PySem.W.Fast.tw4610133630375545140:Unit:=()
def PySem.W.Fast.tw18001081938307516871:Unit:=()
def PySem.W.Fast.tw5857856019522847193:Unit:=()
def PySem.W.Fast.tw3057425097830924673:Unit:=()
def PySem.W.Fast.tw401729091877392829:Unit:=()
def PySem.W.Fast.tw8278397991217623738:Unit:=()
def PySem.W.Fast.tw9764683490612890458:Unit:=()
def PySem.W.Fast.tw566318031589300299:Unit:=()
def PySem.W.Fast.tw7423675409311774512:Unit:=()
def PySem.W.Fast.tw660864885846263660:Unit:=()
def PySem.W.Fast.tw324679659216955350:Unit:=()
def PySem.W.Fast.tw37626541518059770:Unit:=()
def PySem.W.Fast.tw9472451863505919951:Unit:=()
def PySem.W.Fast.tw575683735960127252:Unit:=()
def PySem.W.Fast.tw15134231177957112138:Unit:=()
def PySem.W.Fast.tw13881100801736979196:Unit:=()
def PySem.W.Fast.tw9693012909672078271:Unit:=()
def PySem.W.Fast.tw8407509006633363600:Unit:=()
def PySem.W.Fast.tw7048707514192456438:Unit:=()
def PySem.W.Fast.tw10958184418590955133:Unit:=()
open PySem PySem.W PyProof.Rows
set_option maxRecDepth 100000 in
set_option maxHeartbeats 0 in
theorem PySem.Challenge.cw_springframe_k12_rows_and_misses_holds : PySem.Challenge.rw_springframe_k12_rows_and_misses.Holds := by
  w_on;o_law;k_head;(case hw=>w_witness2)
  k_fill
  refine Sf.walk (l:=PySem.Challenge.rw_springframe_k12_rows_and_misses) rfl rfl rfl (fun w h Y=>PySem.W.kIn_of Y) ?F
  case F=>
    intro w mg h KX G
    refine' Sf.tx_mk KX G ?_ ?_ ?_ ?_ ?_ ?_ ?_ ?_ ?_ ?_ ?_ ?_ ?_ ?_ ?_ ?_ ?_ ?_ ?_ ?_ ?_ ?_ ?_ ?_ ?_ ?_ ?_ ?_ ?_ ?_ ?_ ?_ ?_ ?_ ?_ ?_ ?_ ?_ ?_ ?_ ?_ ?_ ?_ ?_ ?_ ?_ ?_ ?_ ?_ ?_ ?_ ?_ ?_ ?_ ?_ ?_ ?_ ?_ ?_ ?_ ?_ ?_ ?_ ?_ ?_ ?_ ?_ ?_ ?_ ?_ ?_ ?_ ?_ ?_ ?_ ?_ ?_ ?_ ?_ ?_ ?_ ?_ ?_ ?_ ?_ ?_ ?_ ?_ ?_ ?_ ?_ ?_ ?_ ?_ ?_ ?_ ?_ ?_ ?_ ?_ ?_ ?_ ?_ ?_ ?_ ?_ ?_ ?_ ?_ ?_ ?_ ?_ ?_ ?_ ?_ ?_ ?_ ?_ ?_ ?_ ?_ ?_ ?_ ?_ ?_ ?_ ?_ ?_ ?_ ?_ ?_ ?_ ?_ ?_ ?_ ?_ ?_ ?_ ?_ ?_ ?_ ?_ ?_ ?_ ?_ ?_ ?_ ?_ ?_ ?_ ?_ ?_ ?_ ?_ ?_ ?_ ?_ ?_ ?_ ?_ ?_ ?_ ?_ ?_ ?_ ?_ ?_ ?_ ?_ ?_ ?_ ?_ ?_ ?_ ?_ ?_ ?_ ?_ ?_ ?_ ?_ ?_ ?_ ?_ ?_ ?_ ?_ ?_ ?_ ?_ ?_ ?_ ?_ ?_ ?_ ?_ ?_ ?_ ?_ ?_ ?_ ?_ ?_ ?_ ?_ ?_ ?_ ?_ ?_ ?_ ?_ ?_ ?_ ?_ ?_ ?_ ?_ ?_ ?_ ?_ ?_ ?_ ?_ ?_ ?_ ?_ ?_ ?_ ?_ ?_ ?_ ?_ ?_ ?_ ?_ ?_ ?_ ?_ ?_ ?_ ?_ ?_ ?_ ?_ ?_ ?_ ?_ ?_ ?_ ?_ ?_ ?_ ?_ ?_ ?_ ?_ ?_ ?_ ?_ ?_ ?_ ?_ ?_ ?_ ?_ ?_ ?_ ?_ ?_ ?_ ?_ ?_ ?_
    all_goals try first | k_is | kit_is | k_exc | kts_exm | exact L2.fnin (by k_is) (by k_is) (by k_is)
    exact Sf.kd_WORTHS_mk (by k_is) (by k_is) (by k_is) (by k_is) (by k_is) (by k_is) (by k_is) (by k_is) (by k_is) (by k_is) (by k_is) (by k_is) (by k_is) (by k_is) (by k_is) (by k_is) (by k_is) (by k_is) (by k_is) (by k_is) (by k_is) (by k_is) (by k_is) (by k_is) (by k_is) (by k_is) (by k_is) (by k_is) (by k_is) (by k_is) (by k_is) (by k_is) (by k_is) (by k_is) (by k_is) (by k_is) (by k_is) (by k_is) (by k_is)
#print axioms PySem.Challenge.cw_springframe_k12_rows_and_misses_holds

