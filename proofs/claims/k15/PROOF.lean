import PyProof.Rows.All
import Wide.All
import OpenK.AllK
import Wide.FinOn
import Lean
import PyProof.EqAt
import PyProof.EqKinds
import PyProof.TupleCall
import PySem.Challenge.RW_springframe_k15_written_and_read
set_option Elab.async false
set_option linter.all false
set_option maxRecDepth 100000
namespace L2
open PySem PySem.Spec PyProof.Rows
abbrev Key:=Sum Int Str
def ako:Key->Value->Bool
 |.inl k,v=>Value.isInt k v
 |.inr x,v=>Value.isStrOf x v
def aot(w:World):Key->Int
 |.inl k=>hashInt k
 |.inr x=>hashStr w x
theorem a'N:∀{k:Key}{v:Value},ako k v=true->(∃ i t,k=Sum.inl i/\v=Value.int i t)\/(∃ x t,k=Sum.inr x/\v=Value.str x t)
 |.inl i,v,h=>by
  obtain⟨t,e⟩:=Value.isInt_shape (k:=i) (v:=v) h;exact .inl ⟨i,t,rfl,e⟩
 |.inr x,v,h=>by
  obtain⟨t,e⟩:=Value.isStrOf_shape (x:=x) (v:=v) h;exact .inr ⟨x,t,rfl,e⟩
theorem m'M(i:Int)(t:Tok):ako (.inl i) (.int i t)=true:=by simp[ako,Value.isInt]
theorem m'N(x:Str)(t:Tok):ako (.inr x) (.str x t)=true:=by simp[ako,Value.isStrOf]
theorem u'l(a b:Int):decide ((Sum.inl a:Key)=Sum.inl b)=(a == b):=by
 by_cases e:a=b
 ·subst e;simp
 ·have h:¬ (Sum.inl a:Key)=Sum.inl b:=λq=>e (Sum.inl.inj q)
  rw[decide_eq_false h];exact (beq_eq_false_iff_ne.mpr e).symm
theorem u'm(a b:Str):decide ((Sum.inr a:Key)=Sum.inr b)=decide (a=b):=by
 by_cases e:a=b
 ·subst e;simp
 ·have h:¬ (Sum.inr a:Key)=Sum.inr b:=λq=>e (Sum.inr.inj q)
  rw[decide_eq_false h,decide_eq_false e]
theorem u'n(a:Int)(b:Str):decide ((Sum.inl a:Key)=Sum.inr b)=false:=decide_eq_false (λq=>nomatch q)
theorem u'o(a:Str)(b:Int):decide ((Sum.inr a:Key)=Sum.inl b)=false:=decide_eq_false (λq=>nomatch q)
def ahW(prog:Program)(w:World):PySem.KeyKind prog w Key where
 is:=ako
 hash:=aot w
 inj:=λv a b ha hb=>by
  rcases a'N ha with⟨i,t,rfl,rfl⟩ |⟨x,t,rfl,rfl⟩
  ·rcases a'N hb with⟨j,u,rfl,e⟩ |⟨y,u,rfl,e⟩
   ·injection e with e1 _;rw[e1]
   ·exact nomatch e
  ·rcases a'N hb with⟨j,u,rfl,e⟩ |⟨y,u,rfl,e⟩
   ·exact nomatch e
   ·injection e with e1 _;rw[e1]
 byValue:=λk v h=>by
  rcases a'N h with⟨i,t,rfl,rfl⟩ |⟨x,t,rfl,rfl⟩<;>rfl
 pyHash:=λhv h=>by
  rcases a'N hv with⟨i,t,rfl,rfl⟩ |⟨x,t,rfl,rfl⟩
  ·exact wpAny_pyHash_int h
  ·exact wpAny_pyHash_str h
 eqBool:=λhu hv h=>by
  rcases a'N hu with⟨i,t,rfl,rfl⟩ |⟨x,t,rfl,rfl⟩
  ·rcases a'N hv with⟨j,u,rfl,rfl⟩ |⟨y,u,rfl,rfl⟩
   ·rw[u'l] at h;exact wpAny_eqBool_int h
   ·rw[u'n] at h;exact SeqAt.EqAt.int_str i t y u _ _ _ _ h
  ·rcases a'N hv with⟨j,u,rfl,rfl⟩ |⟨y,u,rfl,rfl⟩
   ·rw[u'o] at h;exact SeqAt.EqAt.str_int x t j u _ _ _ _ h
   ·rw[u'm] at h;exact wpAny_eqBool_str h
 «strs»:=λk x t v h=>by
  rcases a'N h with⟨i,u,rfl,e⟩ |⟨y,u,rfl,e⟩
  ·exact nomatch e
  ·injection e with e1 _
   subst e1;cases v<;>rfl
theorem j'S(prog:Program)(w:World)(i:Int)(t:Tok):(ahW prog w).is (.inl i) (.int i t)=true:=m'M i t
theorem j'T(prog:Program)(w:World)(x:Str)(t:Tok):(ahW prog w).is (.inr x) (.str x t)=true:=m'N x t
inductive V where
 |non |bl (b:Bool) |int (i:Int) |str (x:Str) |byt (b:Array UInt8) |flt (b:UInt64) |ref (a:Addr) |ty (n:String)
 deriving DecidableEq
def RelV:V->Value->Prop
 |.non,u=>u = Value.none
 |.bl b,u=>u = Value.bool b
 |.int i,u=>∃ t,u = Value.int i t
 |.str x,u=>∃ t,u = Value.str x t
 |.byt b,u=>∃ t,u = Value.bytes b t
 |.flt b,u=>∃ t,u = Value.float b t
 |.ref a,u=>u = Value.ref a
 |.ty n,u=>u = Value.type n
abbrev Vals:List V->List Value->Prop:=Paired RelV
theorem Vals.length(r:Vals xs us):xs.length=us.length:=Paired.length r
theorem Vals.get:∀{xs:List V}{us:List Value}{i:Nat}{x:V},Vals xs us->xs[i]?=some x->∃ u,us[i]?=some u/\RelV x u
 |_,_,_,_,.nil,e=>by simp at e
 |_,_,0,_,.cons r _,e=>by simp at e; subst e; exact⟨_,rfl,r⟩
 |_,_,i + 1,x,.cons _ t,e=>by
  obtain⟨u,h1,h2⟩:=Vals.get (i:=i) (x:=x) t (by simpa using e);exact⟨u,by simpa using h1,h2⟩
theorem Vals.set(r:RelV x u):∀{xs:List V}{us:List Value}(i:Nat),Vals xs us->Vals (xs.set i x) (us.set i u)
 |_,_,_,.nil=>.nil
 |_,_,0,.cons _ t=>.cons r t
 |_,_,i + 1,.cons q t=>.cons q (Vals.set r i t)
theorem Vals.append:∀{xs ys:List V}{us ws:List Value},Vals xs us->Vals ys ws->Vals (xs++ys) (us++ws)
 |_,_,_,_,.nil,s=>s
 |_,_,_,_,.cons r t,s=>.cons r (Vals.append t s)
theorem Vals.take:∀{xs:List V}{us:List Value}(n:Nat),Vals xs us->Vals (xs.take n) (us.take n)
 |_,_,0,_=>.nil
 |_,_,_ + 1,.nil=>.nil
 |_,_,n + 1,.cons r t=>.cons r (Vals.take n t)
theorem Vals.drop:∀{xs:List V}{us:List Value}(n:Nat),Vals xs us->Vals (xs.drop n) (us.drop n)
 |_,_,0,r=>r
 |_,_,_ + 1,.nil=>.nil
 |_,_,n + 1,.cons _ t=>Vals.drop n t
def RelO:Option V->Option Value->Prop
 |some v,some u=>RelV v u
 |none,none=>True
 |_,_=>False
def KV{κ:Type}:List (κ×V)->List (κ×Value)->Prop:=Paired λ(p:κ×V)(q:κ×Value)=>p.1=q.1/\RelV p.2 q.2
def kV:Key->V
 |.inl i=>.int i
 |.inr x=>.str x
inductive HO where
 /-- a list -/
 |lst (xs:List V)
 /-- a tuple (never changes) -/
 |tup (xs:List V)
 /-- a dict whose keys are ints and texts; one whose keys are tuples of ints and texts (the empty one is both) -/
 |dK (kvs:List (Key × V)) |dT (kvs:List (List Key × V))
 /-- a set of ints: its members,its size -/
 |set (S:Int -> Bool) (n:Nat)
 /-- an instance of the class at C,its dict at dx,its attributes -/
 |ins (C dx:Addr) (fs:List (Str × V))
 /-- the dict of the instance at x -/
 |own (x:Addr)
 /-- the dict of an exception -/
 |xd (fs:List (Str × V))
 /-- a bound method,f of x -/
 |met (f x:Addr)
 /-- a range object lo,lo + 1,.. below hi -/
 |rng (lo hi:Int)
 /-- a thing that is known to the object (the script; a dict while a loop walks it): read,never written while it is so -/
 |frz (o:Obj) (u:HO)
 /-- a code object's table -/
 |tbl (ps:Array Value)
 /-- any other thing,by what is true of its one object (a def of one's own: SetO a S n:=HO.ext λh=>..) -/
 |ext (φ:Heap -> Prop)
abbrev Hp:=Addr->Option HO
def upd(H:Hp)(a:Addr)(o:HO):Hp:=λb=>if b=a then some o else H b
theorem a'O:upd H a o a=some o:=by unfold upd;rw[if_pos rfl]
theorem a'u{H:Hp}(h:b≠a):upd H a o b=H b:=by unfold upd;rw[if_neg h]
theorem a'E{H:Hp}(h:H a=some o)(h':H b=none):a≠b:=by
 intro e;subst e;rw[h] at h';cases h'
section
variable(P:Program)(w:World)
def ObjOk(H:Hp)(h:Heap)(a:Addr):HO->Prop
 |.lst xs=>xs.length <= sizeLine /\ ∃(its:List Value)(n:Nat),Vals xs its /\ h.get? a = some { cls:=.type "list",data:=.seq its.toArray n }
 |.tup xs=>xs.length <= sizeLine /\ ∃ its:List Value,Vals xs its /\ IsTup h a its.toArray
 |.dK kvs=>kvs.length <= sizeLine /\ (a == sysModules) = false /\ ∃ vs,KV kvs vs /\ h.DictOf (ahW P w) a vs
 |.dT kvs=>kvs.length <= sizeLine /\ (a == sysModules) = false /\ ∃ xs:List (List Key × Addr × Value),
   Paired (λ(p:List Key×V)(q:List Key×Addr×Value)=>p.1=q.1/\H q.2.1=some (.tup (p.1.map kV))/\RelV p.2 q.2.2) kvs xs/\
   ∃ o es ep,h.get? a=some o/\o.ExactDict/\o.data=.dict es ep/\es.toList=xs.map (entryOfKey (tupleKind (ahW P w)))/\(xs.map (·.1)).Nodup
 |.set S n=>h.SetOf (intKind P w) a S n
 |.ins C dx fs=>H dx = some (.own a) /\ fs.length <= 1000 /\ dx ≠ a /\ h.get? a = some (W.instObj C dx) /\
   ∃ mA,h.Ns1 dx mA/\(∀ f,RelO (fs.lookup f) (mA f))/\PySem.Within mA (fs.map (·.1))
 |.own _=>∃ o,h.get? a = some o
 |.xd fs=>∃ mA,h.Ns1 a mA /\ ∀ f,RelO (fs.lookup f) (mA f)
 |.rng lo hi=>∃ t u v,h.get? a = some { cls:=.type "range",data:=.fields #[.int lo t,.int hi u,.int 1 v] }
 |.frz o u=>h.get? a = some o /\ ObjOk H h a u
 |.tbl ps=>h.get? a = some { cls:=.none,data:=.fields ps }
 |.met f x=>h.get? a = some (W.methodObj (.ref f) (.ref x))
 |.ext φ=>φ h /\ (∃ o,h.get? a = some o) /\ ∀ h1 h2:Heap,φ h1 -> (∀ o,h1.get? a = some o -> h2.get? a = some o) -> φ h2
def HOk(H:Hp)(h:Heap):Prop:=∀ a o,H a=some o->ObjOk P w H h a o
end
section
variable{P:Program}{w:World}{H H':Hp}{h h':Heap}{a:Addr}{o:HO}
theorem ObjOk.lt(x:ObjOk P w H h a o):a<h.objs.size:=by
 cases o with
 |lst xs=>obtain⟨_,_,_,_,e⟩:=x; exact Heap.lt_size e
 |tup xs=>obtain⟨_,_,_,p⟩:=x; exact p.lt
 |dK kvs=>obtain⟨_,_,_,_,o,_,_,e,_⟩:=x; exact Heap.lt_size e
 |dT kvs=>obtain⟨_,_,_,_,o,_,_,e,_⟩:=x; exact Heap.lt_size e
 |set S n=>obtain⟨o,_,_,_,e,_⟩:=x; exact Heap.lt_size e
 |ins C dx fs=>obtain⟨_,_,_,e,_⟩:=x; exact Heap.lt_size e
 |own y=>obtain⟨_,e⟩:=x; exact Heap.lt_size e
 |xd fs=>obtain⟨_,⟨_,_,_,e,_⟩,_⟩:=x; exact Heap.lt_size e
 |rng lo hi=>obtain⟨_,_,_,e⟩:=x; exact Heap.lt_size e
 |frz ob u=>obtain⟨e,_⟩:=x; exact Heap.lt_size e
 |tbl ps=>exact Heap.lt_size (show h.get? a = some _ from x)
 |met f y=>exact Heap.lt_size (show h.get? a = some _ from x)
 |ext φ=>obtain⟨_,⟨_,e⟩,_⟩:=x; exact Heap.lt_size e
theorem Paired.mapP{F G:α->β->Prop}:∀{l₁:List α}{l₂:List β},Paired F l₁ l₂->(∀ a b,F a b->G a b)->Paired G l₁ l₂
 |_,_,.nil,_=>.nil
 |_,_,.cons r t,f=>.cons (f _ _ r) (Paired.mapP t f)
theorem ObjOk.stay(x:ObjOk P w H h a o)(k:∀ b u,(b=a\/H b=some (.own a))->h.get? b=some u->h'.get? b=some u)(ho:∀ b,H b=some (.own a)->H' b=some (.own a))(ht:∀ b xs,H b=some (.tup xs)->H' b=some (.tup xs)):ObjOk P w H' h' a o:=by
 induction o with
 |lst xs=>obtain⟨z,its,n,r,e⟩:=x; exact⟨z,its,n,r,k _ _ (.inl rfl) e⟩
 |tup xs=>obtain⟨z,its,r,ob,e,c⟩:=x; exact⟨z,its,r,ob,k _ _ (.inl rfl) e,c⟩
 |dK kvs=>obtain⟨z,y,vs,r,ob,es,ep,e,c⟩:=x; exact⟨z,y,vs,r,ob,es,ep,k _ _ (.inl rfl) e,c⟩
 |dT kvs=>
  obtain⟨z,y,xs,r,ob,es,ep,e,c⟩:=x;exact⟨z,y,xs,Paired.mapP r λp q z=>⟨z.1,ht _ _ z.2.1,z.2.2⟩,ob,es,ep,k _ _ (.inl rfl) e,c⟩
 |set S n=>obtain⟨ob,es,ep,t,e,c⟩:=x; exact⟨ob,es,ep,t,k _ _ (.inl rfl) e,c⟩
 |ins C dx fs=>
  obtain⟨d,z,ne,e,mA,⟨od,es,ep,e2,c⟩,r⟩:=x;exact⟨ho _ d,z,ne,k _ _ (.inl rfl) e,mA,⟨od,es,ep,k _ _ (.inr d) e2,c⟩,r⟩
 |own y=>obtain⟨ob,e⟩:=x; exact⟨ob,k _ _ (.inl rfl) e⟩
 |xd fs=>obtain⟨mA,⟨od,es,ep,e,c⟩,r⟩:=x; exact⟨mA,⟨od,es,ep,k _ _ (.inl rfl) e,c⟩,r⟩
 |rng lo hi=>obtain⟨t,u,v,e⟩:=x; exact⟨t,u,v,k _ _ (.inl rfl) e⟩
 |frz ob u ih=>obtain⟨e,q⟩:=x; exact⟨k _ _ (.inl rfl) e,ih q⟩
 |tbl ps=>
  have e:h.get? a=some { cls:=.none,data:=.fields ps }:=x;show h'.get? a=some { cls:=.none,data:=.fields ps };exact k a _ (.inl rfl) e
 |met f y=>
  have e:h.get? a=some (W.methodObj (.ref f) (.ref y)):=x;show h'.get? a=some (W.methodObj (.ref f) (.ref y));exact k a _ (.inl rfl) e
 |ext φ=>obtain⟨p,⟨o,e⟩,st⟩:=x; exact⟨st _ _ p λo q=>k _ _ (.inl rfl) q,⟨o,k _ _ (.inl rfl) e⟩,st⟩
theorem HOk.lt(x:HOk P w H h)(e:H a=some o):a<h.objs.size:=(x a o e).lt
theorem HOk.fresh(x:HOk P w H h)(e:h.objs.size<=a):H a=none:=by
 cases q:H a with
 |none=>rfl
 |some u=>exact absurd (Nat.lt_of_lt_of_le (x.lt q) e) (Nat.lt_irrefl _)
theorem HOk.kept(x:HOk P w H h)(k:∀ b u,h.get? b=some u->h'.get? b=some u):HOk P w H h':=λa o e=>
 (x a o e).stay (λb u _ q=>k b u q) (λ_ q=>q) λ_ _ q=>q
theorem HOk.laid(x:HOk P w H h)(k:∀ b u,h.get? b=some u->h'.get? b=some u)(hp:h.objs.size<=a)(new:ObjOk P w (upd H a o) h' a o):HOk P w (upd H a o) h':=λb u e=>by
 have hn:=x.fresh hp;by_cases hb:b=a
 ·subst hb;rw[a'O] at e;cases e;exact new
 ·rw[a'u hb] at e;exact (x b u e).stay (λc v _ q=>k c v q) (λc q=>by rw[a'u (a'E q hn)];exact q) λc xs q=>by rw[a'u (a'E q hn)];exact q
end
def Rd(H:Hp)(a:Addr)(u:HO):Prop:=H a=some u\/∃ o,H a=some (.frz o u)
theorem Rd.of{H:Hp}(h:H a=some u):Rd H a u:=.inl h
theorem Rd.ok(r:Rd H a u)(x:HOk P w H h):ObjOk P w H h a u:=by
 rcases r with r |⟨o,r⟩
 ·exact x a u r
 ·obtain⟨_,q⟩:=x a _ r;exact q
def Mut:Option HO->Prop
 |some (.lst _)=>True
 |some (.dK _)=>True
 |some (.dT _)=>True
 |some (.set _ _)=>True
 |some (.ins _ _ _)=>True
 |some (.ext _)=>True
 |_=>False
section
variable{P:Program}{w:World}{H:Hp}{h h':Heap}{x e:Addr}{o':HO}
theorem HOk.write(ok:HOk P w H h)(mu:Mut (H x))(he:e=x\/H e=some (.own x))(k:∀ b u,b≠e->h.get? b=some u->h'.get? b=some u)(heo:∃ u,h'.get? e=some u)(new:ObjOk P w (upd H x o') h' x o'):HOk P w (upd H x o') h':=λb u q=>by
 have nown:∀ c y,H c=some (.own y)->c≠x:=λc y r z=>by subst z;rw[r] at mu;exact mu
 have ntup:∀ c xs,H c=some (.tup xs)->c≠x:=λc xs r z=>by subst z;rw[r] at mu;exact mu
 by_cases hb:b=x
 ·subst hb;rw[a'O] at q;cases q;exact new
 ·rw[a'u hb] at q;by_cases hbe:b=e
  ·have q':H b=some (.own x):=by
    rcases he with z |z
    ·exact absurd (hbe.trans z) hb
    ·rw[hbe];exact z
   rw[q] at q';cases q';obtain⟨v,hv⟩:=heo;exact⟨v,by rw[hbe];exact hv⟩
  ·refine (ok b u q).stay (λc v hc r=>k c v ?_ r) (λc r=>by rw[a'u (nown c b r)];exact r) λc xs r=>by rw[a'u (ntup c xs r)];exact r
   rcases hc with rfl |hc
   ·exact hbe
   ·rintro rfl;rcases he with z |z
    ·exact nown c b hc z
    ·rw[hc] at z;cases z;exact hb rfl
end
structure Un(fs ex:List Addr)(H H':Hp)(h h':Heap):Prop where
 keep:∀ b o,h.get? b=some o->H b=none->b ∉ fs->b ∉ ex->h'.get? b=some o
 slot:∀ b o,h.get? b=some o->H b=none->b∈fs->b ∉ ex->∃ sl,h'.get? b=some { o with slots:=sl }
 free:∀ b o,h.get? b=some o->H b=none->b ∉ ex->H' b=none
 there:∀ b o,h.get? b=some o->b ∉ ex->∃ o',h'.get? b=some o'
 tups:∀ b xs,H b=some (.tup xs)->H' b=some (.tup xs)
 frzs:∀ b o u,H b=some (.frz o u)->H' b=some (.frz o u)
 tbls:∀ b ps,H b=some (.tbl ps)->∃ more,H' b=some (.tbl (ps++more))
section
variable{fs fs' ex ex':List Addr}{H H1 H2:Hp}{h h1 h2 h':Heap}{a x e:Addr}{o:HO}
theorem Un.any(u:Un fs ex H H1 h h1){ob:Obj}(q:h.get? b=some ob)(n:H b=none)(hx:b ∉ ex):∃ sl,h1.get? b=some { ob with slots:=sl }:=by
 by_cases hb:b∈fs
 ·exact u.slot b ob q n hb hx
 ·exact⟨ob.slots,u.keep b ob q n hb hx⟩
theorem Un.kept(k:∀ b u,h.get? b=some u->h'.get? b=some u):Un fs ex H H h h':=
 ⟨λb ob q _ _ _=>k b ob q,λb ob q _ _ _=>⟨ob.slots,k b ob q⟩,λ_ _ _ n _=>n,λb ob q _=>⟨ob,k b ob q⟩,λ_ _ q=>q,λ_ _ _ q=>q,λ_ ps q=>⟨#[],by rw[q];simp⟩⟩
theorem Un.refl:Un fs ex H H h h:=Un.kept λ_ _ q=>q
theorem Un.laid(k:∀ b u,h.get? b=some u->h'.get? b=some u)(hp:h.objs.size<=a)(hn:H a=none):Un fs ex H (upd H a o) h h' where
 keep:=λb u q _ _ _=>k b u q
 slot:=λb u q _ _ _=>⟨u.slots,k b u q⟩
 free:=λb u q n _=>by rw[a'u (Nat.ne_of_lt (Nat.lt_of_lt_of_le (Heap.lt_size q) hp))];exact n
 there:=λb u q _=>⟨u,k b u q⟩
 tups:=λb xs q=>by rw[a'u (a'E q hn)];exact q
 frzs:=λb u xs q=>by rw[a'u (a'E q hn)];exact q
 tbls:=λb ps q=>⟨#[],by rw[a'u (a'E q hn),q];simp⟩
theorem Un.write(mu:Mut (H x))(he:e=x\/H e=some (.own x))(k:∀ b u,b≠e->h.get? b=some u->h'.get? b=some u)(heo:∃ u,h'.get? e=some u):Un fs ex H (upd H x o) h h':=by
 have hx:∀ b,H b=none->b≠x:=λb n z=>by subst z;rw[n] at mu;exact mu
 have hb:∀ b,H b=none->b≠e:=λb n z=>by
  subst z;rcases he with r |r
  ·exact hx b n r
  ·rw[n] at r;cases r
 have hm:∀ b u,H b=some u->¬ Mut (some u)->b≠x:=λb u q nm z=>by subst z;rw[q] at mu;exact nm mu
 refine⟨λb u q n _ _=>k b u (hb b n) q,λb u q n _ _=>⟨u.slots,k b u (hb b n) q⟩,λb u q n _=>by rw[a'u (hx b n)];exact n,λb u q _=>?_,
  λb xs q=>by rw[a'u (hm b _ q λz=>z)];exact q,λb u xs q=>by rw[a'u (hm b _ q λz=>z)];exact q,λb ps q=>⟨#[],by rw[a'u (hm b _ q λz=>z),q];simp⟩⟩
 by_cases hbe:b=e
 ·subst hbe;exact heo
 ·exact⟨u,k b u hbe q⟩
end
def trk(h:Heap)(H:Hp):List Addr:=(List.range h.objs.size).filter λa=>(H a).isSome
def ak3(h:Heap)(H:Hp):Heap:=W.hideAll h (trk h H)
theorem m'O(h:Heap)(H:Hp):(ak3 h H).objs.size=h.objs.size:=W.hideAll_size _ _
theorem p'A{H:Hp}(e:h.get? b=some o)(n:H b=none):(ak3 h H).get? b=some o:=
 W.hideAll_get _ e λhm=>by
  have q:(H b).isSome=true:=(List.mem_filter.mp hm).2;rw[n] at q;simp at q
theorem s'p{H:Hp}(e:(ak3 h H).get? b=some o):h.get? b=some o/\H b=none:=by
 have e':h.get? b=some o:=W.of_hideAll (trk h H) e;refine⟨e',?_⟩;cases q:H b with
 |none=>rfl
 |some x=>
  have hm:b∈trk h H:=List.mem_filter.mpr ⟨List.mem_range.mpr (Heap.lt_size e'),by simp[q]⟩;have z:(ak3 h H).get? b=none:=W.hideAll_none (trk h H) hm;rw[z] at e;cases e
def alq(g h:Heap)(L:Addr):List (Addr×Obj):=(List.range h.objs.size).filterMap λa=>if a=L\/(g.get? a).isSome=true then none else (h.get? a).map λo=>(a,o)
def rest(g h:Heap)(L d:Addr):List (Addr×Obj):=(alq g h L).filter λp=>decide (p.1≠d)
structure Mod(K:W.Frag)(mg:Str->Option Value)(base:Heap):Prop where
 kin:K.In base
 glob:base.Ns mainGlobals mg
 blt:∃ mb,base.Ns builtinsNs mb/\∀ x:Str,x≠"__name__"->mb x=bootBuiltins x
 nolimit:base.NoLimit
structure Cx where
 prog:Program
 w:World
 K:W.Frag
 mg:Str->Option Value
 base:Heap
 A:Around
 N:List Str
 s₀:Shared
 H₀:Hp
 env:Env
 outer:List Env
 stack:List Env
 ex:List Addr
 fn:Str->Bool
 calm:Bool
 pn:List (Addr×Obj)
 xe:Value->Shared->Prop
def frs(l:List Env):List Addr:=l.filterMap (·.frame)
abbrev Cx.fs(X:Cx):List Addr:=frs X.outer
def Vis(sc:Scope)(x:Str):Prop:=sc.names.lookup x=some .local\/sc.names.lookup x=some .cell\/sc.names.lookup x=some .free
def Loc(sc:Scope)(x:Str):Prop:=sc.names.lookup x=some .local\/sc.names.lookup x=some .cell
def aou(env:Env)(h:Heap)(m:Str->Option Value)(x:Str)(u:Value):Prop:=
 (env.kindOf x=some .local/\m x=some u)\/((env.kindOf x=some .cell\/env.kindOf x=some .free)/\∃ c,env.cells.lookup x=some c/\h.IsCell c (some u))
structure Cx.Ok(X:Cx):Prop where
 mod:Mod X.K X.mg X.base
 kind:X.env.scope.kind=.function
 glob:X.env.globals=mainGlobals
 blt:X.env.builtins=builtinsNs
 above:X.s₀.heap.objs.size<=X.env.locals
 inj:∀ x y c,X.env.cells.lookup x=some c->X.env.cells.lookup y=some c->x=y
 has:∀ x,(X.env.kindOf x=some .cell\/X.env.kindOf x=some .free)->∃ c,X.env.cells.lookup x=some c
 cab:∀ x c,X.fn x=true->X.env.cells.lookup x=some c->X.s₀.heap.objs.size<=c
 hd:X.calm=true->X.A.handled=none
 frames:X.A.frames=some X.stack
 stk:X.stack=X.outer\/(X.stack=X.env :: X.outer/\X.env.frame=some X.env.locals)
 exf:∀ b∈X.ex,b≠X.env.locals/\∀ x c,X.env.cells.lookup x=some c->c≠b
 bs:∀ b o,X.base.get? b=some o->X.s₀.heap.get? b=some o/\X.H₀ b=none
 bsz:X.base.objs.size<=X.s₀.heap.objs.size
 noex:∀ b o,X.base.get? b=some o->b ∉ X.ex
 exfs:∀ b∈X.ex,b ∉ X.fs
 funs:X.s₀.heap.FunFrames X.base X.outer
 frf:∀ b∈X.fs,X.H₀ b=none
structure Inv(X:Cx)(pins:List (Addr×Obj))(σ:List (Option V))(H:Hp)(s:Shared):Prop where
 ok:X.Ok
 os:s.os=X.s₀.os
 bare:AllBare s.gens
 base:Un X.fs X.ex X.H₀ H X.s₀.heap s.heap
 loc:∃ m,s.heap.Ns X.env.locals m/\∀(i:Nat)(x:Str)(v:V),X.N[i]?=some x->σ[i]?=some (some v)->Vis X.env.scope x->∃ u,RelV v u/\aou X.env s.heap m x u
 cell:∀ x c,X.env.cells.lookup x=some c->∃ v,s.heap.IsCell c v
 free:H X.env.locals=none
 freeC:∀ x c,X.env.cells.lookup x=some c->H c=none
 pin:∀ p∈X.pn++pins,s.heap.get? p.1=some p.2/\H p.1=none/\p.1≠X.env.locals/\p.1 ∉ X.fs/\∀ v,p.2.data≠.cell v
 hok:HOk X.prog X.w H s.heap
 len:σ.length=X.N.length
section
variable{X:Cx}{pins:List (Addr×Obj)}{σ:List (Option V)}{H H':Hp}{s:Shared}{h':Heap}
theorem Cx.Ok.nofr(ok:X.Ok)(e:X.base.get? b=some o):b ∉ X.fs:=λhb=>by
 have:=(ok.funs.mem hb).1;rw[e] at this;cases this
theorem Inv.bs(I:Inv X pins σ H s):∀ b o,X.base.get? b=some o->s.heap.get? b=some o/\H b=none:=λb o e=>
 ⟨I.base.keep b o (I.ok.bs b o e).1 (I.ok.bs b o e).2 (I.ok.nofr e) (I.ok.noex b o e),I.base.free b o (I.ok.bs b o e).1 (I.ok.bs b o e).2 (I.ok.noex b o e)⟩
theorem Inv.bk(I:Inv X pins σ H s):∀ b o,X.base.get? b=some o->s.heap.get? b=some o:=λb o e=>(I.bs b o e).1
theorem Inv.mod(I:Inv X pins σ H s):Mod X.K X.mg X.base:=I.ok.mod
theorem Inv.kIn(I:Inv X pins σ H s):X.K.In s.heap:=I.ok.mod.kin.keeps I.bk
theorem Inv.lt(I:Inv X pins σ H s):X.env.locals<s.heap.objs.size:=let ⟨_,hn,_⟩:=I.loc;hn.lt
theorem Inv.sz(I:Inv X pins σ H s):X.s₀.heap.objs.size<=s.heap.objs.size:=Nat.le_trans I.ok.above (Nat.le_of_lt I.lt)
theorem Inv.nofs(I:Inv X pins σ H s)(h:s.heap.objs.size<=a):a ∉ X.fs:=λhb=>by
 obtain⟨_,o,ho,_⟩:=I.ok.funs.mem hb;exact absurd (Nat.lt_of_lt_of_le (Heap.lt_size ho) (Nat.le_trans I.sz h)) (Nat.lt_irrefl _)
theorem Inv.cne(I:Inv X pins σ H s):∀ x c,X.env.cells.lookup x=some c->c≠X.env.locals:=λx c e z=>by
 obtain⟨v,o,ho,hd⟩:=I.cell x c e;obtain⟨m,⟨o',es,ep,ho',hd',_⟩,_⟩:=I.loc;rw[z,ho'] at ho;cases ho;rw[hd'] at hd;cases hd
theorem Inv.funs(I:Inv X pins σ H s):s.heap.FunFrames X.base X.outer:=by
 have all:∀(l:List Env),(∀ b∈frs l,b∈X.fs)->X.s₀.heap.FunFrames X.base l->s.heap.FunFrames X.base l:=by
  intro l
  induction l with
  |nil=>intro _ _;trivial
  |cons env r ih=>
   intro hs hl;obtain⟨hk,⟨L,o,hf,hn,ho,hd⟩,hr⟩:=hl;have hL:L∈X.fs:=hs L (by unfold frs;rw[List.filterMap_cons,hf];exact List.mem_cons_self);obtain⟨sl,e⟩:=I.base.slot L o ho (I.ok.frf L hL) hL λz=>I.ok.exfs L z hL
   exact⟨hk,⟨L,_,hf,hn,e,hd⟩,ih (λb hb=>hs b (by unfold frs;rw[List.filterMap_cons,hf];exact List.mem_cons_of_mem _ hb)) hr⟩
 exact all X.outer (λ_ hb=>hb) I.ok.funs
theorem Inv.stack(I:Inv X pins σ H s):s.heap.FunFrames X.base X.stack:=by
 rcases I.ok.stk with e |⟨e,hf⟩
 ·rw[e];exact I.funs
 ·rw[e];obtain⟨m,hn,_⟩:=I.loc;refine .cons (by rw[I.ok.kind];decide) hf hn ?_ I.funs;exact Heap.get?_none_of_le (Nat.le_trans I.ok.bsz I.ok.above)
theorem Inv.stkSub(I:Inv X pins σ H s):∀ b∈frs X.stack,b∈X.env.locals :: X.fs:=λb hb=>by
 rcases I.ok.stk with e |⟨e,hf⟩
 ·rw[e] at hb;exact List.mem_cons_of_mem _ hb
 ·rw[e] at hb;unfold frs at hb;rw[List.filterMap_cons,hf] at hb;exact hb
theorem Inv.stkFree(I:Inv X pins σ H s):∀ b∈frs X.stack,H b=none:=λb hb=>by
 rcases List.mem_cons.mp (I.stkSub b hb) with e |hb
 ·rw[e];exact I.free
 ·obtain⟨_,o,ho,_⟩:=I.ok.funs.mem hb;exact I.base.free b o ho (I.ok.frf b hb) λz=>I.ok.exfs b z hb
theorem Inv.step{g':Array GenState}{t':Nat}{d':Drawn}{ch:List Addr}(I:Inv X pins σ H s)(hch:∀ b∈ch,(b∈X.ex\/X.s₀.heap.objs.size<=b)/\b≠X.env.locals/\(∀ x c,X.env.cells.lookup x=some c->c≠b)/\∀ p∈X.pn++pins,p.1≠b)(keep:∀ b o,b≠X.env.locals->b ∉ X.fs->b ∉ ch->s.heap.get? b=some o->H b=none->h'.get? b=some o)(slot:∀ b o,b≠X.env.locals->b∈X.fs->b ∉ ch->s.heap.get? b=some o->H b=none->∃ sl,h'.get? b=some { o with slots:=sl })(free:∀ b o,b ∉ ch->s.heap.get? b=some o->H b=none->H' b=none)(there:∀ b o,b ∉ ch->s.heap.get? b=some o->∃ o',h'.get? b=some o')(tups:∀ b xs,H b=some (.tup xs)->H' b=some (.tup xs))(frzs:∀ b o u,H b=some (.frz o u)->H' b=some (.frz o u))(tbls:∀ b ps,H b=some (.tbl ps)->∃ more,H' b=some (.tbl (ps++more)))(ns:∀ m,s.heap.Ns X.env.locals m->h'.Ns X.env.locals m)(hok:HOk X.prog X.w H' h')(hg:AllBare g'):
  Inv X pins σ H' { s with heap:=h',gens:=g',drawn:=d',toks:=t' }:=by
 have neL:∀ b o,X.s₀.heap.get? b=some o->b≠X.env.locals:=λb o e=>Nat.ne_of_lt (Nat.lt_of_lt_of_le (Heap.lt_size e) I.ok.above)
 have neC:∀ b o,X.s₀.heap.get? b=some o->b ∉ X.ex->b ∉ ch:=λb o e hx hb=>by
  rcases (hch b hb).1 with z |z
  ·exact hx z
  ·exact absurd (Nat.lt_of_lt_of_le (Heap.lt_size e) z) (Nat.lt_irrefl _)
 have cellK:∀ x c,X.env.cells.lookup x=some c->∀ v,s.heap.IsCell c v->h'.IsCell c v:=λx c e v ⟨o,ho,hd⟩=>by
  have nch:c ∉ ch:=λz=>(hch c z).2.2.1 x c e rfl
  by_cases hc:c∈X.fs
  ·obtain⟨sl,q⟩:=slot c o (I.cne x c e) hc nch ho (I.freeC x c e);exact⟨_,q,hd⟩
  ·exact⟨o,keep c o (I.cne x c e) hc nch ho (I.freeC x c e),hd⟩
 refine⟨I.ok,I.os,hg,⟨λb o e n hb hx=>?_,λb o e n hb hx=>?_,λb o e n hx=>?_,λb o e hx=>?_,λb xs e=>tups b xs (I.base.tups b xs e),λb o xs e=>frzs b o xs (I.base.frzs b o xs e),λb ps e=>?_⟩,?_,λx c e=>?_,?_,λx c e=>?_,λp hp=>?_,hok,I.len⟩
 ·exact keep b o (neL b o e) hb (neC b o e hx) (I.base.keep b o e n hb hx) (I.base.free b o e n hx)
 ·obtain⟨sl,e1⟩:=I.base.slot b o e n hb hx;obtain⟨sl',e2⟩:=slot b _ (neL b o e) hb (neC b o e hx) e1 (I.base.free b o e n hx);exact⟨sl',e2⟩
 ·obtain⟨o',e1⟩:=I.base.there b o e hx;exact free b o' (neC b o e hx) e1 (I.base.free b o e n hx)
 ·obtain⟨o',e1⟩:=I.base.there b o e hx;exact there b o' (neC b o e hx) e1
 ·obtain⟨m1,e1⟩:=I.base.tbls b ps e;obtain⟨m2,e2⟩:=tbls b _ e1;exact⟨m1++m2,by rw[e2,Array.append_assoc]⟩
 ·obtain⟨m,hn,hl⟩:=I.loc;refine⟨m,ns m hn,λi x v e1 e2 e3=>?_⟩;obtain⟨u,r,l⟩:=hl i x v e1 e2 e3;refine⟨u,r,?_⟩;rcases l with l |⟨k,c,e,z⟩
  ·exact .inl l
  ·exact .inr ⟨k,c,e,cellK x c e _ z⟩
 ·obtain⟨v,z⟩:=I.cell x c e;exact⟨v,cellK x c e v z⟩
 ·obtain⟨m,⟨o,_,_,ho,_⟩,_⟩:=I.loc;exact free _ o (λz=>(hch _ z).2.1 rfl) ho I.free
 ·obtain⟨v,o,ho,hd⟩:=I.cell x c e;exact free c o (λz=>(hch c z).2.2.1 x c e rfl) ho (I.freeC x c e)
 ·obtain⟨e,n,ne,nf,d⟩:=I.pin p hp;have nch:p.1 ∉ ch:=λz=>(hch p.1 z).2.2.2 p hp rfl
  exact⟨keep p.1 p.2 ne nf nch e n,free p.1 p.2 nch e n,ne,nf,d⟩
theorem Inv.un{t':Nat}(I:Inv X pins σ H s)(u:Un X.fs [] H H' s.heap h')(hok:HOk X.prog X.w H' h'):Inv X pins σ H' { s with heap:=h',toks:=t' }:=by
 obtain⟨m,⟨o,es,ep,ho,r⟩,_⟩:=id I.loc;obtain⟨sl,hL⟩:=u.any ho I.free (by simp);exact I.step (g':=s.gens) (d':=s.drawn) (ch:=[]) (λ_ z=>nomatch z) (λb o _ hb _ e n=>u.keep b o e n hb (by simp)) (λb o _ hb _ e n=>u.slot b o e n hb (by simp)) (λb o _ e n=>u.free b o e n (by simp)) (λb o _ e=>u.there b o e (by simp)) u.tups u.frzs u.tbls (λm' hm=>by
  obtain⟨o',es',ep',ho',r'⟩:=hm;rw[ho] at ho';cases ho';exact⟨_,es',ep',hL,r'⟩) hok I.bare
theorem Inv.call{g':Array GenState}{t':Nat}{d':Drawn}{ch:List Addr}(I:Inv X pins σ H s)(u:Un (frs X.stack) ch H H' s.heap h')(hok:HOk X.prog X.w H' h')(hg:AllBare g')(hch:∀ b∈ch,(b∈X.ex\/X.s₀.heap.objs.size<=b)/\b≠X.env.locals/\(∀ x c,X.env.cells.lookup x=some c->c≠b)/\∀ p∈X.pn++pins,p.1≠b):
  Inv X pins σ H' { s with heap:=h',gens:=g',drawn:=d',toks:=t' }:=by
 obtain⟨m,⟨o,es,ep,ho,r⟩,_⟩:=id I.loc;obtain⟨sl,hL⟩:=u.any ho I.free λz=>(hch _ z).2.1 rfl
 exact I.step (ch:=ch) hch (λb o hL hb hc e n=>u.keep b o e n (λz=>(List.mem_cons.mp (I.stkSub b z)).elim hL hb) hc) (λb o _ _ hc e n=>u.any e n hc) (λb o hc e n=>u.free b o e n hc) (λb o hc e=>u.there b o e hc) u.tups u.frzs u.tbls (λm' hm=>by
  obtain⟨o',es',ep',ho',r'⟩:=hm;rw[ho] at ho';cases ho';exact⟨_,es',ep',hL,r'⟩) hok hg
theorem Inv.turned{t':Nat}{it:Addr}(I:Inv X pins σ H s)(k:∀ b o,b≠it->s.heap.get? b=some o->h'.get? b=some o)(hn:H it=none)(hL:it≠X.env.locals)(h1:it∈X.ex\/X.s₀.heap.objs.size<=it)(h2:∀ x c,X.env.cells.lookup x=some c->c≠it)(h3:∀ p∈X.pn++pins,p.1≠it):Inv X pins σ H { s with heap:=h',toks:=t' }:=by
 have nit:∀ b u,H b=some u->b≠it:=λb u e z=>by rw[z,hn] at e;cases e
 refine I.step (g':=s.gens) (d':=s.drawn) (ch:=[it]) (λb hb=>?_) (λb o _ _ hc e _=>k b o (λz=>hc (by simp[z])) e) (λb o _ _ hc e _=>⟨o.slots,k b o (λz=>hc (by simp[z])) e⟩) (λ_ _ _ _ n=>n)
  (λb o hc e=>⟨o,k b o (λz=>hc (by simp[z])) e⟩) (λ_ _ e=>e) (λ_ _ _ e=>e) (λb ps e=>⟨#[],by rw[e];simp⟩) (λm hm=>?_) (λb u e=>?_) I.bare
 ·have e:b=it:=by simpa using hb
  subst e;exact⟨h1,hL,h2,h3⟩
 ·obtain⟨o,es,ep,ho,r⟩:=hm;exact⟨o,es,ep,k _ o (Ne.symm hL) ho,r⟩
 ·refine (I.hok b u e).stay (λc v hc q=>k c v ?_ q) (λ_ q=>q) λ_ _ q=>q
  rcases hc with z |z
  ·rw[z];exact nit b u e
  ·exact nit c _ z
theorem Inv.tok(I:Inv X pins σ H s)(t:Nat):Inv X pins σ H { s with toks:=t }:=I.un (h':=s.heap) (t':=t) Un.refl I.hok
theorem Inv.kept(I:Inv X pins σ H s)(k:∀ b u,s.heap.get? b=some u->h'.get? b=some u):Inv X pins σ H { s with heap:=h',toks:=t' }:=I.un (Un.kept k) (I.hok.kept k)
theorem Inv.laid(I:Inv X pins σ H s)(k:∀ b u,s.heap.get? b=some u->h'.get? b=some u)(hp:s.heap.objs.size<=a)(new:ObjOk X.prog X.w (upd H a o) h' a o):
  Inv X pins σ (upd H a o) { s with heap:=h',toks:=t' }:=I.un (Un.laid k hp (I.hok.fresh hp)) (I.hok.laid k hp new)
theorem Inv.write(I:Inv X pins σ H s)(mu:Mut (H x))(he:e=x\/H e=some (.own x))(k:∀ b u,b≠e->s.heap.get? b=some u->h'.get? b=some u)(heo:∃ u,h'.get? e=some u)(new:ObjOk X.prog X.w (upd H x o) h' x o):Inv X pins σ (upd H x o) { s with heap:=h',toks:=t' }:=I.un (Un.write mu he k heo) (I.hok.write mu he k heo new)
theorem Inv.weak(I:Inv X pins σ H s)(hl:σ'.length=σ.length)(w:∀(i:Nat) v,σ'[i]?=some (some v)->σ[i]?=some (some v)):Inv X pins σ' H s:=
 ⟨I.ok,I.os,I.bare,I.base,let ⟨m,hn,hl'⟩:=I.loc;⟨m,hn,λi x v e1 e2 e3=>hl' i x v e1 (w i v e2) e3⟩,I.cell,I.free,I.freeC,I.pin,I.hok,hl.trans I.len⟩
theorem Inv.pins_of(I:Inv X pins σ H s)(h:∀ p∈pins',s.heap.get? p.1=some p.2/\H p.1=none/\p.1≠X.env.locals/\p.1 ∉ X.fs/\∀ v,p.2.data≠.cell v):Inv X pins' σ H s:=
 ⟨I.ok,I.os,I.bare,I.base,I.loc,I.cell,I.free,I.freeC,λp hp=>(List.mem_append.mp hp).elim (λz=>I.pin p (List.mem_append_left _ z)) (h p),I.hok,I.len⟩
theorem i'h{N:List Str}(hN:N.Nodup){i j:Nat}{x:Str}(a:N[i]?=some x)(b:N[j]?=some x):i=j:=by
 obtain⟨h1,e1⟩:=List.getElem?_eq_some_iff.mp a;obtain⟨h2,e2⟩:=List.getElem?_eq_some_iff.mp b;exact (List.getElem_inj hN).mp (e1.trans e2.symm)
theorem m'P{M:Model}{A:Around}{E:Value->Shared->Prop}{i:Nat}{x:Str}{v:V}{u:Value}{Q:Unit->Shared->Prop}(I:Inv X pins σ H s)(hN:X.N.Nodup)(hi:X.N[i]?=some x)(hx:Loc X.env.scope x)(r:RelV v u)(h:∀ s',Inv X pins (σ.set i (some v)) H s'->(∃ a,Heap.SameBut a s.heap s'.heap/\(a=X.env.locals\/X.env.cells.lookup x=some a))->Q () s')(hf:X.fn x=true\/X.env.scope.names.lookup x=some .local:=by first |exact .inl rfl |exact .inr rfl |assumption):wpAny M A (storeName X.env x u) Q E s:=by
 obtain⟨m,hn,hl⟩:=id I.loc;have hcls:(X.env.scope.kind == .class || (X.env.scope.kind == .module && X.env.locals != X.env.globals))=false:=by rw[I.ok.kind];rfl
 have hiσ:i<σ.length:=by rw[I.len];exact (List.getElem?_eq_some_iff.mp hi).1
 have cne:=I.cne;have tracked:∀{a:Addr}{h':Heap},(∃ o,s.heap.get? a=some o/\H a=none)->Heap.SameBut a s.heap h'->HOk X.prog X.w H h':=λ{a h'} ha hs b ob e=>by
  obtain⟨_,_,hfree⟩:=ha;refine (I.hok b ob e).stay (λc w' hc q=>(hs.2 c ?_).trans q) (λ_ q=>q) λ_ _ q=>q
  rintro rfl;rcases hc with rfl |hc
  ·rw[hfree] at e;cases e
  ·rw[hfree] at hc;cases hc
 rcases hx with hk |hk
 ·refine wpAny_storeName_local hk hn (λh' hn' hs=>?_) hcls;obtain⟨oL,_,_,hoL,_⟩:=id hn;refine h _ ⟨I.ok,I.os,I.bare,⟨λb o e n hb hx=>?_,λb o e n hb hx=>?_,I.base.free,λb o e hx=>?_,I.base.tups,I.base.frzs,I.base.tbls⟩,⟨_,hn',λj y v' e1 e2 e3=>?_⟩,λy c e=>?_,I.free,I.freeC,λp hp=>?_,tracked ⟨oL,hoL,I.free⟩ hs,by simpa using I.len⟩ ⟨_,hs,.inl rfl⟩
  ·exact (hs.2 b (Nat.ne_of_lt (Nat.lt_of_lt_of_le (Heap.lt_size e) I.ok.above))).trans (I.base.keep b o e n hb hx)
  ·obtain⟨sl,e1⟩:=I.base.slot b o e n hb hx;exact⟨sl,(hs.2 b (Nat.ne_of_lt (Nat.lt_of_lt_of_le (Heap.lt_size e) I.ok.above))).trans e1⟩
  ·obtain⟨o',e1⟩:=I.base.there b o e hx;exact⟨o',(hs.2 b (Nat.ne_of_lt (Nat.lt_of_lt_of_le (Heap.lt_size e) I.ok.above))).trans e1⟩
  ·by_cases hj:j=i
   ·subst hj;rw[hi] at e1;cases e1;rw[List.getElem?_set_self hiσ] at e2;cases e2;exact⟨u,r,.inl ⟨hk,by simp⟩⟩
   ·rw[List.getElem?_set_ne (Ne.symm hj)] at e2;obtain⟨u',r',q⟩:=hl j y v' e1 e2 e3;refine⟨u',r',?_⟩;rcases q with⟨k,e⟩ |⟨k,c,e,z⟩
    ·refine .inl ⟨k,?_⟩;have:y≠x:=λe=>hj (i'h hN e1 (e ▸ hi))
     simp[this,e]
    ·exact .inr ⟨k,c,e,z.sameBut hs (cne y c e)⟩
  ·obtain⟨w',z⟩:=I.cell y c e;exact⟨w',z.sameBut hs (cne y c e)⟩
  ·obtain⟨e,n,ne,nf,d⟩:=I.pin p hp;exact⟨(hs.2 p.1 ne).trans e,n,ne,nf,d⟩
 ·have hfn:X.fn x=true:=by
   rcases hf with z |z
   ·exact z
   ·rw[z] at hk;cases hk
  obtain⟨c,hc⟩:=I.ok.has x (.inl hk);obtain⟨w',z⟩:=I.cell x c hc;refine wpAny_storeName_cell I.ok.kind hk hc z (λh' hc' hs=>?_);obtain⟨oc,hoc,hocd⟩:=id z;refine h { s with heap:=h' } ⟨I.ok,I.os,I.bare,⟨λb o e n hb hx=>?_,λb o e n hb hx=>?_,I.base.free,λb o e hx=>?_,I.base.tups,I.base.frzs,I.base.tbls⟩,⟨m,hn.sameBut hs (Ne.symm (cne x c hc)),λj y v' e1 e2 e3=>?_⟩,λy c' e=>?_,I.free,I.freeC,λp hp=>?_,tracked ⟨oc,hoc,I.freeC x c hc⟩ hs,by simpa using I.len⟩ ⟨c,hs,.inr hc⟩
  ·exact (hs.2 b (Nat.ne_of_lt (Nat.lt_of_lt_of_le (Heap.lt_size e) (I.ok.cab x c hfn hc)))).trans (I.base.keep b o e n hb hx)
  ·obtain⟨sl,e1⟩:=I.base.slot b o e n hb hx;exact⟨sl,(hs.2 b (Nat.ne_of_lt (Nat.lt_of_lt_of_le (Heap.lt_size e) (I.ok.cab x c hfn hc)))).trans e1⟩
  ·obtain⟨o',e1⟩:=I.base.there b o e hx;exact⟨o',(hs.2 b (Nat.ne_of_lt (Nat.lt_of_lt_of_le (Heap.lt_size e) (I.ok.cab x c hfn hc)))).trans e1⟩
  ·by_cases hj:j=i
   ·subst hj;rw[hi] at e1;cases e1;rw[List.getElem?_set_self hiσ] at e2;cases e2;exact⟨u,r,.inr ⟨.inl hk,c,hc,hc'⟩⟩
   ·rw[List.getElem?_set_ne (Ne.symm hj)] at e2;obtain⟨u',r',q⟩:=hl j y v' e1 e2 e3;refine⟨u',r',?_⟩;rcases q with q |⟨k,c',e,z'⟩
    ·exact .inl q
    ·refine .inr ⟨k,c',e,z'.sameBut hs ?_⟩;rintro rfl;exact hj (i'h hN e1 (I.ok.inj _ _ _ e hc ▸ hi))
  ·by_cases hcc:c'=c
   ·subst hcc;exact⟨_,hc'⟩
   ·obtain⟨w2,z2⟩:=I.cell y c' e;exact⟨w2,z2.sameBut hs hcc⟩
  ·obtain⟨e,n,ne,nf,d⟩:=I.pin p hp;refine⟨(hs.2 p.1 ?_).trans e,n,ne,nf,d⟩;intro q;rw[q,hoc] at e;have q':oc=p.2:=Option.some.inj e;exact d w' (by rw[<- q'];exact hocd)
theorem d'y{Q:Unit->Shared->Prop}(I:Inv X pins σ H s)(hN:X.N.Nodup)(hi:X.N[i]?=some x)(hx:Loc X.env.scope x)(r:RelV v u)(h:∀ s',Inv X pins (σ.set i (some v)) H s'->Q () s')(hf:X.fn x=true\/X.env.scope.names.lookup x=some .local:=by first |exact .inl rfl |exact .inr rfl |assumption):wpAny M A (storeName X.env x u) Q E s:=
 m'P I hN hi hx r (λs' I' _=>h s' I') hf
theorem Inv.call'(I:Inv X pins σ H s)(ho:s'.os=s.os)(u:Un (frs X.stack) ch H H' s.heap s'.heap)(hok:HOk X.prog X.w H' s'.heap)(hg:AllBare s'.gens)(hch:∀ b∈ch,(b∈X.ex\/X.s₀.heap.objs.size<=b)/\b≠X.env.locals/\(∀ x c,X.env.cells.lookup x=some c->c≠b)/\∀ p∈X.pn++pins,p.1≠b):Inv X pins σ H' s':=by
 obtain⟨h',g',d',t',o'⟩:=s';have e:o'=s.os:=ho;subst e;exact I.call (g':=g') (t':=t') (d':=d') u hok hg hch
end
abbrev XK:=Value->Option Addr->Hp->Prop
abbrev St:=List (Option V)
abbrev VK:=V->Hp->Prop
abbrev TE:=St->Hp->VK->Prop
abbrev TT:=St->Hp->(Bool->Hp->Prop)->Prop
abbrev TA:=St->Hp->(List V->Hp->Prop)->Prop
structure aky where
 nx:St->Hp->Prop
 rt:VK
 bk:St->Hp->Prop:=λ_ _=>False
 ct:St->Hp->Prop:=λ_ _=>False
abbrev TS:=aky->St->Hp->Prop
def EP(X:Cx)(pins:List (Addr×Obj))(σ:St)(Q:VK)(u:Value)(s':Shared):Prop:=∃ v H',Inv X pins σ H' s'/\RelV v u/\Q v H'
def TP(X:Cx)(pins:List (Addr×Obj))(σ:St)(Q:Bool->Hp->Prop)(b:Bool)(s':Shared):Prop:=∃ H',Inv X pins σ H' s'/\Q b H'
def AP(X:Cx)(pins:List (Addr×Obj))(σ:St)(Q:List V->Hp->Prop)(us:List Value)(s':Shared):Prop:=∃ vs H',Inv X pins σ H' s'/\Vals vs us/\Q vs H'
def SP(X:Cx)(pins:List (Addr×Obj))(D:aky)(f:Flow)(s':Shared):Prop:=
 match f with
 |.next=>∃ σ' H',Inv X pins σ' H' s' /\ D.nx σ' H'
 |.brk=>∃ σ' H',Inv X pins σ' H' s' /\ D.bk σ' H'
 |.cont=>∃ σ' H',Inv X pins σ' H' s' /\ D.ct σ' H'
 |.ret u=>∃ v σ' H',Inv X pins σ' H' s' /\ RelV v u /\ D.rt v H'
def PE(X:Cx)(e:Expr)(t:TE):Prop:=
 ∀(pins:List (Addr×Obj))(s:Shared)(σ:St)(H:Hp)(Q:VK),Inv X pins σ H s->t σ H Q->wpAny (model X.prog X.w) X.A (eval e X.env) (EP X pins σ Q) X.xe s
def PT(X:Cx)(e:Expr)(t:TT):Prop:=
 ∀(pins:List (Addr×Obj))(s:Shared)(σ:St)(H:Hp)(Q:Bool->Hp->Prop),Inv X pins σ H s->t σ H Q->wpAny (model X.prog X.w) X.A (isTrue e X.env (eval e X.env)) (TP X pins σ Q) X.xe s
def PW(X:Cx)(e:Expr)(t:TT):Prop:=
 ∀(whole:Sem Value)(pins:List (Addr×Obj))(s:Shared)(σ:St)(H:Hp)(Q:Bool->Hp->Prop),Inv X pins σ H s->t σ H Q->wpAny (model X.prog X.w) X.A (isTrue e X.env whole) (TP X pins σ Q) X.xe s
theorem PW.pt(h:PW X e t):PT X e t:=h _
def PA(X:Cx)(es:List Expr)(t:TA):Prop:=
 ∀(pos:Pos)(pins:List (Addr×Obj))(s:Shared)(σ:St)(H:Hp)(Q:List V->Hp->Prop),Inv X pins σ H s->t σ H Q->wpAny (model X.prog X.w) X.A (spliced (backTo pos (starEach es X.env))) (AP X pins σ Q) X.xe s
def PS(X:Cx)(st:Stmt)(t:TS):Prop:=
 ∀(pins:List (Addr×Obj))(s:Shared)(σ:St)(H:Hp)(D:aky),Inv X pins σ H s->t D σ H->wpAny (model X.prog X.w) X.A (exec st X.env) (SP X pins D) X.xe s
def PSs(X:Cx)(st:List Stmt)(t:TS):Prop:=
 ∀(pins:List (Addr×Obj))(s:Shared)(σ:St)(H:Hp)(D:aky),Inv X pins σ H s->t D σ H->wpAny (model X.prog X.w) X.A (execs st X.env) (SP X pins D) X.xe s
theorem thn{Q Q':α->Shared->Prop}(h:wpAny M A t Q E s)(hQ:∀ a s,Q a s->Q' a s):wpAny M A t Q' E s:=wpAny_mono h hQ λ_ _ x=>x
section
variable{X:Cx}
def ame(i:Nat):TE:=λσ H Q=>∃ v,σ[i]?=some (some v)/\Q v H
def tC(v:V):TE:=λ_ H Q=>Q v H
theorem e'a(hN:X.N[i]?=some x)(hv:Vis X.env.scope x)(hd:(x == ("__debug__":Str))=false:=by decide)(hcd:(x == ("__classdict__":Str))=false:=by decide):PE X (.Name x pos) (ame i):=by
 intro pins s σ H Q I h;obtain⟨v,e,h⟩:=h;obtain⟨m,hn,hl⟩:=I.loc;obtain⟨u,r,l⟩:=hl i x v hN e hv;have fin:EP X pins σ Q u s:=⟨v,H,I,r,h⟩;rcases l with⟨hk,hm⟩ |⟨hk,c,hc,hcell⟩
 ·exact wpAny_Name (wpAny_loadName_local I.ok.kind hk hn hm fin) hd
 ·rcases hk with hk |hk
  ·exact wpAny_Name (wpAny_loadName_cell I.ok.kind hk hc hcell fin) hd
  ·exact wpAny_Name (wpAny_loadName_free I.ok.kind hk hc hcell fin hcd) hd
theorem u'p{i j pos}:PE X (.Constant (.int i) j pos) (tC (.int i)):=λ_ _ _ H _ I h=>wpAny_Constant_int ⟨.int i,H,I.tok _,⟨_,rfl⟩,h⟩
theorem w'L{b j pos}:PE X (.Constant (.bool b) j pos) (tC (.bl b)):=λ_ _ _ H _ I h=>Constant_bool ⟨.bl b,H,I,rfl,h⟩
theorem u'q{j pos}:PE X (.Constant .none j pos) (tC .non):=λ_ _ _ H _ I h=>Constant_none ⟨.non,H,I,rfl,h⟩
theorem u'r{x j pos}:PE X (.Constant (.str x) j pos) (tC (.str x)):=λ_ _ _ H _ I h=>Calls.Constant_str ⟨.str x,H,I.tok _,⟨_,rfl⟩,h⟩
def Gl(X:Cx)(x:Str):Prop:=X.env.kindOf x=some .globalImplicit
theorem b'V{Q:Value->Shared->Prop}(I:Inv X pins σ H s)(hg:Gl X x)(hm:X.mg x=some u)(h:Q u s)(hd:(x == ("__debug__":Str))=false:=by decide):wpAny (model X.prog X.w) X.A (eval (.Name x pos) X.env) Q E s:=
 Calls.Name_function_global I.ok.kind hg (Calls.loadGlobal_global (by rw[I.ok.glob];exact I.mod.glob.keeps I.bk) hm h) hd
theorem f'N{Q:Value->Shared->Prop}(I:Inv X pins σ H s)(hg:Gl X x)(hm:X.mg x=none)(hv:bootBuiltins x=some u)(h:Q u s)(hn:x≠"__name__":=by decide)(hd:(x == ("__debug__":Str))=false:=by decide):wpAny (model X.prog X.w) X.A (eval (.Name x pos) X.env) Q E s:=by
 obtain⟨mb,h1,h2⟩:=I.mod.blt;exact Calls.Name_function_global I.ok.kind hg (Calls.loadGlobal_builtin (by rw[I.ok.glob];exact I.mod.glob.keeps I.bk) hm (by rw[I.ok.blt];exact h1.keeps I.bk) ((h2 x hn).trans hv) h) hd
theorem s'q(hg:Gl X x)(hm:X.mg x=some u)(r:RelV v u)(hd:(x == ("__debug__":Str))=false:=by decide):PE X (.Name x pos) (tC v):=
 λ_ _ _ H _ I h=>b'V I hg hm ⟨v,H,I,r,h⟩ hd
theorem s'r(hg:Gl X x)(hm:X.mg x=none)(hv:bootBuiltins x=some u)(r:RelV v u)(hn:x≠"__name__":=by decide)(hd:(x == ("__debug__":Str))=false:=by decide):PE X (.Name x pos) (tC v):=
 λ_ _ _ H _ I h=>f'N I hg hm hv ⟨v,H,I,r,h⟩ hn hd
variable{a b:Expr}{ta tb:TE}{pos:Pos}
def tB(t:TE):TT:=λσ H Q=>t σ H λx H1=>∃ c,x=.bl c/\Q c H1
theorem u's(h:PE X e t)(he:∀ whole,isTrue e X.env whole=(do let v <- whole;standAt e.pos;holding [v] (truthy v)):=by intro _;rfl):PT X e (tB t):=by
 intro pins s σ H Q I hw;refine isTrue_plain (thn (h pins s σ H _ I hw) λv s1 ⟨x,H1,I1,r1,q1⟩=>?_) (he _);obtain⟨d,rfl,q⟩:=q1;cases r1;exact wpAny_truthy_bool ⟨H1,I1,q⟩
variable{tA tB':TT}{rest:List Expr}
def anI(t u:TT):TT:=λσ H Q=>t σ H λc H1=>if c=true then u σ H1 Q else Q false H1
def tOr(t u:TT):TT:=λσ H Q=>t σ H λc H1=>if c=true then Q true H1 else u σ H1 Q
def anJ(t:TT):TT:=λσ H Q=>t σ H λc H1=>Q (!c) H1
theorem s's(ha:PT X a tA):PW X (.BoolOp .And [a] pos) tA:=by
 intro wh pins s σ H Q I h;refine isTrue_and (thn (ha pins s σ H Q I h) λc s1 e=>?_);cases c with
 |true=>exact isTrue_and_nil e
 |false=>exact e
theorem u't(ha:PT X a tA):PW X (.BoolOp .Or [a] pos) tA:=by
 intro wh pins s σ H Q I h;refine isTrue_or (thn (ha pins s σ H Q I h) λc s1 e=>?_);cases c with
 |false=>exact isTrue_or_nil e
 |true=>exact e
theorem u'u(ha:PT X a tA)(hb:PW X (.BoolOp .And (b :: rest) pos) tB'):PW X (.BoolOp .And (a :: b :: rest) pos) (anI tA tB'):=by
 intro wh pins s σ H Q I h;refine isTrue_and (thn (ha pins s σ H _ I h) λc s1 ⟨H1,I1,q1⟩=>?_);cases c with
 |true=>exact hb wh pins s1 σ H1 Q I1 q1
 |false=>exact⟨H1,I1,q1⟩
theorem w'M(ha:PT X a tA)(hb:PW X (.BoolOp .Or (b :: rest) pos) tB'):PW X (.BoolOp .Or (a :: b :: rest) pos) (tOr tA tB'):=by
 intro wh pins s σ H Q I h;refine isTrue_or (thn (ha pins s σ H _ I h) λc s1 ⟨H1,I1,q1⟩=>?_);cases c with
 |true=>exact⟨H1,I1,q1⟩
 |false=>exact hb wh pins s1 σ H1 Q I1 q1
theorem u'v(ha:PT X a tA):PT X (.UnaryOp .Not a pos) (anJ tA):=by
 intro pins s σ H Q I h;exact isTrue_not (ha pins s σ H (λc H1=>Q (!c) H1) I h)
def amf(ta tb:TE):TE:=λσ H Q=>ta σ H λx H1=>∃ c,x=.bl c/\if c=true then tb σ H1 Q else Q (.bl false) H1
def anK(ta tb:TE):TE:=λσ H Q=>ta σ H λx H1=>∃ c,x=.bl c/\if c=true then Q (.bl true) H1 else tb σ H1 Q
theorem u'w{op}(h:PE X a t):PE X (.BoolOp op [a] pos) t:=λpins s σ H Q I hw=>BoolOp_one (h pins s σ H Q I hw)
theorem u'x(ha:PE X a ta)(hb:PE X (.BoolOp .And (b :: rest) pos) tb):PE X (.BoolOp .And (a :: b :: rest) pos) (amf ta tb):=by
 intro pins s σ H Q I h;refine BoolOp_and (thn (ha pins s σ H _ I h) λv s1 ⟨x,H1,I1,r1,q1⟩=>?_);obtain⟨c,rfl,q1⟩:=q1;cases r1;refine wpAny_truthy_bool ?_;cases c with
 |true=>exact hb pins s1 σ H1 Q I1 q1
 |false=>exact⟨.bl false,H1,I1,rfl,q1⟩
theorem w'N(ha:PE X a ta)(hb:PE X (.BoolOp .Or (b :: rest) pos) tb):PE X (.BoolOp .Or (a :: b :: rest) pos) (anK ta tb):=by
 intro pins s σ H Q I h;refine BoolOp_or (thn (ha pins s σ H _ I h) λv s1 ⟨x,H1,I1,r1,q1⟩=>?_);obtain⟨c,rfl,q1⟩:=q1;cases r1;refine wpAny_truthy_bool ?_;cases c with
 |false=>exact hb pins s1 σ H1 Q I1 q1
 |true=>exact⟨.bl true,H1,I1,rfl,q1⟩
def tIf(t:TT)(ta tb:TE):TE:=λσ H Q=>t σ H λc H1=>if c=true then ta σ H1 Q else tb σ H1 Q
theorem p'B(hc:PT X c tA)(ha:PE X a ta)(hb:PE X b tb):PE X (.IfExp c a b pos) (tIf tA ta tb):=by
 intro pins s σ H Q I h;refine wpAny_IfExp (thn (hc pins s σ H _ I h) λd s1 ⟨H1,I1,q1⟩=>?_);cases d with
 |true=>exact ha pins s1 σ H1 Q I1 q1
 |false=>exact hb pins s1 σ H1 Q I1 q1
end
def SqL(K:W.Frag)(H:Hp)(a:Addr)(xs:List V):Prop:=
 Rd H a (.lst xs)\/
  ∃(o:Obj)(its:Array Value)(n:Nat),K.lookup a=some o/\o.cls=.type "list"/\o.dict=none/\o.data=.seq its n/\its.size<=sizeLine/\Vals xs its.toList
def SqT(K:W.Frag)(H:Hp)(a:Addr)(xs:List V):Prop:=
 Rd H a (.tup xs)\/
  ∃(o:Obj)(its:Array Value)(n:Nat),K.lookup a=some o/\o.cls=.type "tuple"/\o.data=.seq its n/\its.size<=sizeLine/\Vals xs its.toList
def aov:Value->Option V
 |.none=>some .non
 |.bool b=>some (.bl b)
 |.int i _=>some (.int i)
 |.str x _=>some (.str x)
 |.bytes b _=>some (.byt b)
 |.float b _=>some (.flt b)
 |.ref a=>some (.ref a)
 |.type n=>some (.ty n)
 |_=>none
theorem RelV.abs(r:RelV x u):aov u=some x:=by
 cases x with
 |non=>cases r; rfl
 |bl _=>cases r; rfl
 |int _=>obtain⟨t,rfl⟩:=r; rfl
 |str _=>obtain⟨t,rfl⟩:=r; rfl
 |byt _=>obtain⟨t,rfl⟩:=r; rfl
 |flt _=>obtain⟨t,rfl⟩:=r; rfl
 |ref _=>cases r; rfl
 |ty _=>cases r; rfl
theorem RelV.inj(r:RelV x u)(q:RelV y u):x=y:=Option.some.inj (r.abs.symm.trans q.abs)
theorem Vals.inj:∀{xs ys:List V}{us:List Value},Vals xs us->Vals ys us->xs=ys
 |_,_,_,.nil,.nil=>rfl
 |_,_,_,.cons r t,.cons r' t'=>by rw[r.inj r',Vals.inj t t']
section
variable{X:Cx}{pins:List (Addr×Obj)}{σ:St}{H:Hp}{s:Shared}{a:Addr}{xs ys:List V}
theorem SqL.of{K:W.Frag}(h:H a=some (.lst xs)):SqL K H a xs:=.inl (.inl h)
theorem SqT.of{K:W.Frag}(h:H a=some (.tup xs)):SqT K H a xs:=.inl (.inl h)
theorem Inv.list(I:Inv X pins σ H s)(h:SqL X.K H a xs):∃ its:List Value,Vals xs its/\PlainL s.heap a its.toArray/\xs.length<=sizeLine:=by
 rcases h with h |⟨o,its,n,hk,hc,hd,hs,hz,r⟩
 ·obtain⟨z,its,n,r,e⟩:=h.ok I.hok;exact⟨its,r,⟨_,n,e,rfl,rfl,rfl⟩,z⟩
 ·refine⟨its.toList,r,⟨o,n,I.kIn a o hk,hc,hd,by simpa using hs⟩,?_⟩;have e:=r.length;simp only[Array.length_toList] at e;omega
theorem Inv.tuple(I:Inv X pins σ H s)(h:SqT X.K H a xs):∃ its:List Value,Vals xs its/\IsTup s.heap a its.toArray/\xs.length<=sizeLine:=by
 rcases h with h |⟨o,its,n,hk,hc,hs,hz,r⟩
 ·obtain⟨z,its,r,p⟩:=h.ok I.hok;exact⟨its,r,p,z⟩
 ·refine⟨its.toList,r,⟨o,I.kIn a o hk,hc,n,by simpa using hs⟩,?_⟩;have e:=r.length;simp only[Array.length_toList] at e;omega
theorem Inv.list_inj(I:Inv X pins σ H s)(h:SqL X.K H a xs)(h':SqL X.K H a ys):xs=ys:=by
 obtain⟨its,r,⟨o,n,e,_,_,d⟩,_⟩:=I.list h;obtain⟨its',r',⟨o',n',e',_,_,d'⟩,_⟩:=I.list h';rw[e] at e';cases e';rw[d] at d';injection d' with d1 _
 have:its=its':=by simpa using congrArg Array.toList d1
 subst this;exact r.inj r'
end
abbrev Cx.wish(X:Cx)(E:Value->Shared->Prop):Cx:={ X with xe:=E }
abbrev Cx.nox(X:Cx):Cx:=X.wish λ_ _=>False
theorem Cx.Ok.wish{X:Cx}(ok:X.Ok)(E:Value->Shared->Prop):(X.wish E).Ok:=
 ⟨ok.mod,ok.kind,ok.glob,ok.blt,ok.above,ok.inj,ok.has,ok.cab,ok.hd,ok.frames,ok.stk,ok.exf,ok.bs,ok.bsz,ok.noex,ok.exfs,ok.funs,ok.frf⟩
theorem Cx.Ok.unwish{X:Cx}{E:Value->Shared->Prop}(ok:(X.wish E).Ok):X.Ok:=
 ⟨ok.mod,ok.kind,ok.glob,ok.blt,ok.above,ok.inj,ok.has,ok.cab,ok.hd,ok.frames,ok.stk,ok.exf,ok.bs,ok.bsz,ok.noex,ok.exfs,ok.funs,ok.frf⟩
section
variable{X:Cx}{pins:List (Addr×Obj)}{σ:St}{H:Hp}{s:Shared}{E:Value->Shared->Prop}
theorem Inv.wish(I:Inv X pins σ H s)(E:Value->Shared->Prop):Inv (X.wish E) pins σ H s:=⟨I.ok.wish E,I.os,I.bare,I.base,I.loc,I.cell,I.free,I.freeC,I.pin,I.hok,I.len⟩
theorem Inv.unwish(I:Inv (X.wish E) pins σ H s):Inv X pins σ H s:=⟨I.ok.unwish,I.os,I.bare,I.base,I.loc,I.cell,I.free,I.freeC,I.pin,I.hok,I.len⟩
theorem SP.unwish(h:SP (X.wish E) pins D f s'):SP X pins D f s':=by
 cases f with
 |next=>obtain⟨σ',H',I,q⟩:=h; exact⟨σ',H',I.unwish,q⟩
 |brk=>obtain⟨σ',H',I,q⟩:=h; exact⟨σ',H',I.unwish,q⟩
 |cont=>obtain⟨σ',H',I,q⟩:=h; exact⟨σ',H',I.unwish,q⟩
 |ret u=>obtain⟨v,σ',H',I,r,q⟩:=h; exact⟨v,σ',H',I.unwish,r,q⟩
theorem PSs.nox{st:List Stmt}{t:TS}(h:PSs X.nox st t):PSs X st t:=λpins s σ H D I hw=>
 wpAny_mono (h pins s σ H D (I.wish _) hw) (λ_ _ q=>q.unwish) λ_ _ z=>False.elim z
end
section
variable{X:Cx}{st:Stmt}{rest:List Stmt}{t u:TS}{e:Expr}{te:TE}{pos:Pos}
def amg:TS:=λD σ H=>D.nx σ H
def anL(t u:TS):TS:=λD σ H=>t { D with nx:=u D } σ H
theorem s't:PSs X [] amg:=λ_ _ σ H _ I h=>wpAny_execs_nil ⟨σ,H,I,h⟩
theorem p'C(h1:PS X st t)(h2:PSs X rest u):PSs X (st :: rest) (anL t u):=by
 intro pins s σ H D I h;refine wpAny_execs_cons (thn (h1 pins s σ H { D with nx:=u D } I h) λf s1 q=>?_);cases f with
 |next=>
  obtain⟨σ',H',I',q⟩:=q;exact h2 pins s1 σ' H' D I' q
 |ret v=>exact q
 |brk=>exact q
 |cont=>exact q
theorem k'e(h1:PS X st t):PSs X [st] t:=by
 intro pins s σ H D I h;refine wpAny_execs_cons (thn (h1 pins s σ H D I h) λf s1 q=>?_);cases f with
 |next=>exact wpAny_execs_nil q
 |ret v=>exact q
 |brk=>exact q
 |cont=>exact q
theorem Inv.quiet(I:Inv X pins σ H s):interactive X.env=false:=by simp[interactive,I.ok.kind]
def ak4(te:TE):TS:=λD σ H=>te σ H λ_ H1=>D.nx σ H1
theorem g'p(he:PE X e te)(hs:swapsWith e none pos.line X.env=pure false:=by rfl):PS X (.Expr e pos) (ak4 te):=by
 intro pins s σ H D I h;exact wpAny_Expr_any (thn (he pins s σ H _ I h) λv s1 ⟨x,H1,I1,r1,q1⟩=>⟨σ,H1,I1,q1⟩) I.quiet hs
def am5(te:TE):TS:=λD σ H=>te σ H D.rt
theorem m'Q(he:PE X e te):PS X (.Return (some e) pos) (am5 te):=by
 intro pins s σ H D I h;exact wpAny_Return_some (thn (he pins s σ H _ I h) λv s1 ⟨x,H1,I1,r1,q1⟩=>⟨x,σ,H1,I1,r1,q1⟩)
def am6(c:TT)(t u:TS):TS:=λD σ H=>c σ H λb H1=>if b=true then t D σ H1 else u D σ H1
theorem q'W(hc:PT X c tc)(ha:PSs X a t)(hb:PSs X b u):PS X (.If c a b pos) (am6 tc t u):=by
 intro pins s σ H D I h;refine wpAny_If (thn (hc pins s σ H _ I h) λd s1 ⟨H1,I1,q1⟩=>?_);cases d with
 |true=>exact ha pins s1 σ H1 D I1 q1
 |false=>exact hb pins s1 σ H1 D I1 q1
def amh:TS:=λ_ _ _=>False
theorem p'D:PS X st amh:=λ_ _ _ _ _ _ h=>h.elim
end
abbrev TG:=V->St->Hp->(St->Hp->Prop)->Prop
def PG(X:Cx)(target:Expr)(t:TG):Prop:=
 ∀(pins:List (Addr×Obj))(s:Shared)(σ:St)(H:Hp)(v:V)(u:Value)(Q:St->Hp->Prop),Inv X pins σ H s->RelV v u->t v σ H Q->
  wpAny (model X.prog X.w) X.A (assign target X.env u) (λ_ s'=>∃ σ' H',Inv X pins σ' H' s'/\Q σ' H') X.xe s
abbrev anM:=V->V->V->Hp->(Hp->Prop)->Prop
def anN(X:Cx)(t:anM):Prop:=
 ∀(pins:List (Addr×Obj))(s:Shared)(σ:St)(H:Hp)(o i v:V)(ov iv u:Value)(Q:Hp->Prop),Inv X pins σ H s->RelV o ov->RelV i iv->RelV v u->t o i v H Q->
  wpAny (model X.prog X.w) X.A (setItem ov iv u) (λ_ s'=>∃ H',Inv X pins σ H' s'/\Q H') X.xe s
section
variable{X:Cx}{pos:Pos}
def ajU(i:Nat):TG:=λv σ H Q=>Q (σ.set i (some v)) H
theorem k'f(hN:X.N.Nodup)(hi:X.N[i]?=some x)(hx:Loc X.env.scope x)(hf:X.fn x=true\/X.env.scope.names.lookup x=some .local:=by first |exact .inl rfl |exact .inr rfl |assumption):PG X (.Name x pos) (ajU i):=by
 intro pins s σ H v u Q I r h;exact wpAny_assign_Name (d'y I hN hi hx r (λs' I'=>⟨_,H,I',h⟩) hf)
def anO(to ti:TE)(t:anM):TG:=λv σ H Q=>to σ H λo H1=>ti σ H1 λi H2=>t o i v H2 λH3=>Q σ H3
theorem u'y(ho:PE X o to)(hi:PE X i ti)(hs:anN X t)(ha:∀ v,assign (.Subscript o i pos) X.env v=(do
   let ov <- holding [v] (eval o X.env)
   let iv <- holding [v,ov] (eval i X.env)
   standAt pos
   holding [v,ov,iv] (setItem ov iv v)
   release [v,ov,iv] []):=by intro _;rfl):PG X (.Subscript o i pos) (anO to ti t):=by
 intro pins s σ H v u Q I r h;rw[ha];refine wpAny_bind (wpAny_holding (thn (ho pins s σ H _ I h) λov s1 ⟨x,H1,I1,r1,q1⟩=>?_));refine wpAny_bind (wpAny_holding (thn (hi pins s1 σ H1 _ I1 q1) λiv s2 ⟨y,H2,I2,r2,q2⟩=>?_));refine wpAny_bind (wpAny_standAt (wpAny_bind (wpAny_holding (thn (hs pins s2 σ H2 x y v ov iv u _ I2 r1 r2 r q2) λ_ s3 ⟨H3,I3,q3⟩=>?_))));exact wpAny_release ⟨σ,H3,I3,q3⟩
def alr(te:TE)(g:TG):TS:=λD σ H=>te σ H λx H1=>g x σ H1 D.nx
theorem u'z(he:PE X e te)(hg:PG X tg g)(hs:swapsWithSole [tg] e pos.line X.env=pure false:=by rfl)(hw:swappedStores [tg] e X.env=pure none:=by rfl)(h1:(assignEach [tg] X.env).map (·.2)=[assign tg X.env]:=by rfl):PS X (.Assign [tg] e pos) (alr te g):=by
 intro pins s σ H D I h;refine wpAny_Assign_stores (thn (he pins s σ H _ I h) λv s1 ⟨x,H1,I1,r1,q1⟩=>?_) hs hw;rw[h1];exact thn (hg pins s1 σ H1 x v _ I1 r1 q1) λ_ s2 q=>q
theorem e'b(hN:X.N.Nodup)(hi:X.N[i]?=some x)(hx:Loc X.env.scope x)(he:PE X e te)(hs:swapsWith e (some (.Name x pos')) pos.line X.env=pure false:=by rfl)(hf:X.fn x=true\/X.env.scope.names.lookup x=some .local:=by first |exact .inl rfl |exact .inr rfl |assumption):
  PS X (.Assign [.Name x pos'] e pos) (alr te (ajU i)):=by
 intro pins s σ H D I h;refine wpAny_Assign_Name (thn (he pins s σ H _ I h) λv s1 ⟨y,H1,I1,r1,q1⟩=>?_) hs;exact d'y I1 hN hi hx r1 (λs2 I2=>⟨_,H1,I2,q1⟩) hf
def anP(i j:Nat)(ta:TA):TS:=λD σ H=>ta σ H λvs H1=>∃ v w,vs=[v,w]/\D.nx ((σ.set i (some v)).set j (some w)) H1
theorem u'A{kt k2 pt2}(hc:X.calm=true)(hN:X.N.Nodup)(hi:X.N[i]?=some x)(hj:X.N[j]?=some y)(hij:i≠j)(hx:X.env.scope.names.lookup x=some .local)(hy:X.env.scope.names.lookup y=some .local)(ha:PA X [a,b] ta)(hw:swappedStores [.Tuple [.Name x px,.Name y py] kt pt] (.Tuple [a,b] k2 pt2) X.env=pure (some [x,y]))(hs:swapsWithSole [.Tuple [.Name x px,.Name y py] kt pt] (.Tuple [a,b] k2 pt2) pos.line X.env=pure false:=by rfl):
  PS X (.Assign [.Tuple [.Name x px,.Name y py] kt pt] (.Tuple [a,b] k2 pt2) pos) (anP i j ta):=by
 intro pins s σ H D I h;rw[exec_Assign_arm];refine wpAny_bind (wpAny_standAt ?_);rw[hs];refine wpAny_bind (wpAny_pure ?_);rw[if_neg (by decide)];refine wpAny_bind (Tuple_ (thn (ha _ pins s σ H _ I h) λus s1 ⟨vs,H1,I1,r1,q1⟩=>?_));obtain⟨v,w,e1,q1⟩:=q1;subst e1;obtain⟨u1,u2,rfl,rv,rw'⟩:∃ u1 u2,us=[u1,u2]/\RelV v u1/\RelV w u2:=by
  cases r1 with
  |cons p q=>
   cases q with
   |cons p' q'=>
    cases q';exact⟨_,_,rfl,p,p'⟩
 refine wpAny_newObj_type ?_ (by show 2<=sizeLine;decide);have I2:Inv X pins σ H1 { s1 with heap:=s1.heap.push { cls:=.type "tuple",data:=.seq [u1,u2].toArray } }:=I1.kept (t':=s1.toks) λb o e=>Heap.get?_push_of_some _ e
 rw[hw];refine wpAny_bind (wpAny_pure ?_);show wpAny (model X.prog X.w) X.A (do rule "assign.swapped-stores";let items <- unpackItems (.ref s1.heap.objs.size) 2 none;assignInOrder [λv=>bindName X.env y v,λv=>bindName X.env x v] items.reverse;pure Flow.next) _ _ _;refine wpAny_bind (wpAny_rule (wpAny_bind (unpackItems_tuple (items:=#[u1,u2]) (I.ok.hd hc) (IsTup.new s1.heap _) λh' hx'=>?_)));have I3:=I2.kept (h':=h') (t':=s1.toks) λb o e=>hx' b o (Nat.ne_of_lt (Heap.lt_size e)) e
 show wpAny _ _ (assignInOrder [λv=>bindName X.env y v,λv=>bindName X.env x v] [u2,u1] >>= λ_=>pure Flow.next) _ _ _;refine wpAny_bind (assignInOrder_cons (wpAny_bindName (d'y I3 hN hj (.inl hy) rw' (λs2 I4=>?_) (.inr hy))));refine assignInOrder_cons (wpAny_bindName (d'y I4 hN hi (.inl hx) rv (λs3 I5=>assignInOrder_nil (wpAny_pure ?_)) (.inr hx)));rw[List.set_comm _ _ (Ne.symm hij)] at I5;exact⟨_,H1,I5,q1⟩
end
section
variable{X:Cx}{pos:Pos}
def ald(c:TT)(tb:TS):TS:=λD σ H=>∃ W:Nat->St->Hp->Prop,(∃ m,W m σ H)/\∀ m σ H,W m σ H->
 c σ H λb H1=>if b=true then ∃ N:St->Hp->Prop,(∀ σ' H',N σ' H'->∃ m',m'<m/\W m' σ' H')/\tb { D with nx:=N,ct:=N,bk:=D.nx } σ H1 else D.nx σ H1
theorem p'E(hp:PassesOwn (model X.prog X.w) X.A X.env X.xe)(hc:PT X c tc)(hb:PSs X body tb):PS X (.While c body [] pos) (ald tc tb):=by
 intro pins s σ H D I h;obtain⟨W,⟨m0,w0⟩,turn⟩:=h;refine wpAny_While (codeAny_whileLoop (λn s'=>∃ σ' H',Inv X pins σ' H' s'/\W n σ' H') ?_ m0 ⟨σ,H,I,w0⟩);rintro n s1 ⟨σ1,H1,I1,w1⟩;refine wpAny_passesOwn hp (thn (hc pins s1 σ1 H1 _ I1 (turn n σ1 H1 w1)) λb s2 ⟨H2,I2,q2⟩=>?_);cases b with
 |true=>
  obtain⟨N,hN,q2⟩:=q2;rw[if_pos rfl];refine wpAny_passesOwn hp (thn (hb pins s2 σ1 H2 _ I2 q2) λf s3 q3=>?_);cases f with
  |next=>
   obtain⟨σ3,H3,I3,n3⟩:=q3;obtain⟨m',hm,w3⟩:=hN σ3 H3 n3;exact⟨m',hm,σ3,H3,I3,w3⟩
  |cont=>
   obtain⟨σ3,H3,I3,n3⟩:=q3;obtain⟨m',hm,w3⟩:=hN σ3 H3 n3;exact⟨m',hm,σ3,H3,I3,w3⟩
  |brk=>exact q3
  |ret v=>exact q3
 |false=>
  rw[if_neg Bool.false_ne_true];exact wpAny_execs_nil ⟨σ1,H2,I2,q2⟩
end
structure It where
 go:Nat->Hp->Prop
 yld:Nat->Hp->V->Hp->Prop
 stop:Nat->Hp->Prop
def ak0(X:Cx)(pins:List (Addr×Obj))(H:Hp)(b:Addr):Prop:=
 H b=none/\b≠X.env.locals/\b ∉ X.fs/\(b∈X.ex\/X.s₀.heap.objs.size<=b)/\(∀ x c,X.env.cells.lookup x=some c->c≠b)/\∀ p∈X.pn++pins,p.1≠b
theorem Inv.fpOk{H H':Hp}(I:Inv X pins σ H s)(hb:s.heap.objs.size<=b)(hn:H' b=none):ak0 X pins H' b:=by
 refine⟨hn,Nat.ne_of_gt (Nat.lt_of_lt_of_le I.lt hb),I.nofs hb,.inr (Nat.le_trans I.sz hb),λx c e z=>?_,λp hp z=>?_⟩
 ·obtain⟨v,q⟩:=I.cell x c e;exact absurd (Nat.lt_of_lt_of_le q.lt (by rw[z];exact hb)) (Nat.lt_irrefl _)
 ·exact absurd (Nat.lt_of_lt_of_le (Heap.lt_size (I.pin p hp).1) (by rw[z];exact hb)) (Nat.lt_irrefl _)
structure ami(P:Program)(w:World)(K:W.Frag)(tg:Expr)(J:It)(fp:List Addr)(it:Addr)(tn:Nat->Heap->Prop):Prop where
 mem:it∈fp
 obj:∀ i h,tn i h->∀ b∈fp,∃ o,h.get? b=some o/\∀ v,o.data≠.cell v
 keep:∀ i h h',tn i h->(∀ b∈fp,∀ o,h.get? b=some o->h'.get? b=some o)->tn i h'
 item:∀(X:Cx),X.prog=P->X.w=w->X.K=K->X.calm=true->∀(i:Nat)(pins:List (Addr×Obj))(s:Shared)(σ:St)(H:Hp)(E:Value->Shared->Prop),Inv X pins σ H s->(∀ b∈fp,ak0 X pins H b)->tn i s.heap->J.go i H->
  wpAny (model P w) X.A (pyNext (.ref it)) (λr s1=>∃ u,r=some u/\
   wpAny (model P w) X.A (letOwnedTupleGo tg (.ref it) u) (λ_ s2=>∃ x H',Inv X pins σ H' s2/\RelV x u/\J.yld i H x H'/\tn (i+1) s2.heap/\∀ b∈fp,H' b=none) E s1) E s
 done:∀(X:Cx),X.prog=P->X.w=w->X.K=K->X.calm=true->∀(i:Nat)(pins:List (Addr×Obj))(s:Shared)(σ:St)(H:Hp)(E:Value->Shared->Prop),Inv X pins σ H s->(∀ b∈fp,ak0 X pins H b)->tn i s.heap->J.stop i H->
  wpAny (model P w) X.A (pyNext (.ref it)) (λr s1=>r=none/\Inv X pins σ H s1) E s
 self:∀(A:Around)(i:Nat)(s:Shared)(Q:Value->Shared->Prop)(E:Value->Shared->Prop),tn i s.heap->Q (.ref it) s->wpAny (model P w) A (pyIter (.ref it)) Q E s
abbrev TI:=St->Hp->(It->Hp->Prop)->Prop
def PIE(X:Cx)(pins:List (Addr×Obj))(σ:St)(tg:Expr)(R:It->Hp->Prop)(itv:Value)(s2:Shared):Prop:=
 ∃(it:Addr)(fp:List Addr)(tn:Nat->Heap->Prop)(J:It)(H':Hp),itv=.ref it/\Inv X pins σ H' s2/\ami X.prog X.w X.K tg J fp it tn/\tn 0 s2.heap/\(∀ b∈fp,ak0 X pins H' b)/\R J H'
def PI(X:Cx)(tg iter:Expr)(wi:TI):Prop:=
 ∀(pins:List (Addr×Obj))(s:Shared)(σ:St)(H:Hp)(R:It->Hp->Prop),Inv X pins σ H s->wi σ H R->
  wpAny (model X.prog X.w) X.A (eval iter X.env) (λv s1=>wpAny (model X.prog X.w) X.A (pyIter v) (PIE X pins σ tg R) X.xe s1) X.xe s
theorem l'R{Q:Unit->Shared->Prop}(ho:s.heap.get? it=some o)(hc:o.cls=.type n)(hd:o.data=.fields vs)(hn:["enumerate","zip","dict_itemiterator","dict_reverseitemiterator","odict_iterator","itertools.zip_longest","itertools.pairwise"].contains n=false)(hQ:Q () s):wpAny M A (letOwnedTupleGo tg (.ref it) u) Q E s:=by
 unfold letOwnedTupleGo;cases tg<;>first
  |exact wpAny_pure hQ
  |(cases u<;>first
    |exact wpAny_pure hQ
    | (refine wpAny_bind (wpAny_load ho ?_)
       rw[hc,hd];show wpAny M A (if (["enumerate","zip","dict_itemiterator","dict_reverseitemiterator","odict_iterator","itertools.zip_longest","itertools.pairwise"].contains n && vs[0]? == some (rawInt _))=true then _ else _) Q E s;rw[if_neg (by intro h;rw[hn,Bool.false_and] at h;cases h)];exact wpAny_pure hQ))
def Itl(K:W.Frag)(a:Addr):It:=
 ⟨λi H=>∃ xs x,SqL K H a xs/\xs[i]?=some x,λi H x H'=>H'=H/\∀ xs,SqL K H a xs->xs[i]?=some x,λi H=>∃ xs,SqL K H a xs/\xs.length<=i⟩
def Itr(lo:Int)(n:Nat):It:=⟨λi _=>i<n,λi H x H'=>H'=H/\x=.int (lo+i),λi _=>n<=i⟩
theorem m'R{P:Program}{w:World}{K:W.Frag}{tg:Expr}(a it:Addr):ami P w K tg (Itl K a) [it] it (λi h=>h.IsListIter it a i) where
 mem:=by simp
 obj:=λi h st b hb=>by
  have e:b=it:=by simpa using hb
  subst e;obtain⟨o,e,c,d⟩:=st;exact⟨o,e,λv z=>by rw[d] at z;cases z⟩
 keep:=λi h h' st k=>st.at λo e=>k it (by simp) o e
 item:=by
  intro X hP hw hK hc i pins s σ H E I hf st hg;subst hP hw hK;obtain⟨xs,x,hq,hx⟩:=hg;obtain⟨its,rv,p,hz⟩:=I.list hq;obtain⟨u,hu,ru⟩:=rv.get hx;obtain⟨f0,f1,f2,f3,f4,f5⟩:=hf it (by simp);refine wpAny_pyNext_list_item st p.isList (x:=u) (by simpa using hu) λh' st' sb=>?_
  have I1:Inv X pins σ H { s with heap:=h' }:=I.turned (t':=s.toks) (λb o hb e=>(sb.2 b hb).trans e) f0 f1 f3 f4 f5;obtain⟨o,e,c,d⟩:=id st';exact⟨u,rfl,l'R (s:={ s with heap:=h' }) e c d (by decide) ⟨x,H,I1,ru,⟨rfl,λys hy=>by rw[I.list_inj hy hq];exact hx⟩,st',λb hb=>(hf b hb).1⟩⟩
 done:=by
  intro X hP hw hK hc i pins s σ H E I hf st hg;subst hP hw hK;obtain⟨xs,hq,hx⟩:=hg;obtain⟨its,rv,p,hz⟩:=I.list hq;obtain⟨f0,f1,f2,f3,f4,f5⟩:=hf it (by simp);have hl:=rv.length;exact wpAny_pyNext_list_end (I.ok.hd hc) st p.isList (by simp;omega) λh' eb=>⟨rfl,I.turned (t':=s.toks) (λb o hb e=>eb b o hb e) f0 f1 f3 f4 f5⟩
 self:=λ_ _ _ _ _ st h=>wpAny_pyIter_listiter st h
theorem l'S{P:Program}{w:World}{K:PySem.W.Frag}{tg:Expr}(it:Addr)(lo:Int)(n:Nat):ami P w K tg (Itr lo n) [it] it (λi h=>IsRangeIter h it (lo+(i:Nat)*1) ((n:Int) - (i:Nat)) 1) where
 mem:=by simp
 obj:=λi h st b hb=>by
  have e:b=it:=by simpa using hb
  subst e;exact⟨_,st,λv z=>by
   have z':Data.fields _=Data.cell v:=z;cases z'⟩
 keep:=λi h h' st k=>k it (by simp) _ st
 item:=by
  intro X hP hw hK hc i pins s σ H E I hf st hg;subst hP hw hK;obtain⟨f0,f1,f2,f3,f4,f5⟩:=hf it (by simp);have W:=Walks.range (prog:=X.prog) (w:=X.w) (I.ok.hd hc) it lo 1 n;refine W.item i s _ _ hg st λv h' tk hv st' kk=>?_
  obtain⟨t,rfl⟩:=hv;have I1:Inv X pins σ H { s with heap:=h',toks:=tk }:=I.turned (λb o hb e=>kk b o (by simpa using hb) e) f0 f1 f3 f4 f5;refine⟨_,rfl,l'R (s:={ s with heap:=h',toks:=tk }) (n:="range_iterator") st' rfl rfl (by decide) ⟨.int (lo+i),H,I1,⟨t,?_⟩,⟨rfl,rfl⟩,st',λb hb=>(hf b hb).1⟩⟩;rw[Int.mul_one]
 done:=by
  intro X hP hw hK hc i pins s σ H E I hf st hg;subst hP hw hK;obtain⟨f0,f1,f2,f3,f4,f5⟩:=hf it (by simp);exact wpAny_pyNext_range_end (I.ok.hd hc) st (by have:n<=i:=hg;omega) λh' eb=>⟨rfl,I.turned (t':=s.toks) (λb o hb e=>eb b o hb e) f0 f1 f3 f4 f5⟩
 self:=λ_ _ _ _ _ st h=>wpAny_pyIter_rangeiter st h
section
variable{X:Cx}{tg:Expr}
def amj(K:W.Frag)(tl:TE):TI:=λσ H R=>tl σ H λx H1=>∃ a,x=.ref a/\(∃ xs,SqL K H1 a xs)/\R (Itl K a) H1
theorem s'u{l:Expr}{tl:TE}(hl:PE X l tl):PI X tg l (amj X.K tl):=by
 intro pins s σ H R I h;refine thn (hl pins s σ H _ I h) λv s1 ⟨x,H1,I1,r1,q1⟩=>?_
 obtain⟨a,e,⟨xs,hq⟩,q⟩:=q1;subst e;cases r1;obtain⟨its,rv,p,hz⟩:=I1.list hq;refine wpAny_pyIter_list p.isList ?_;refine⟨s1.heap.objs.size,[s1.heap.objs.size],_,_,H1,rfl,I1.kept (t':=s1.toks) λb o e=>Heap.get?_push_of_some _ e,m'R a _,⟨_,Heap.get?_push_size _ rfl,rfl,rfl⟩,λb hb=>?_,q⟩;have e:b=s1.heap.objs.size:=by simpa using hb
 subst e;exact I1.fpOk (Nat.le_refl _) (I1.hok.fresh (Nat.le_refl _))
theorem p'F{pins:List (Addr×Obj)}{σ:St}{H:Hp}{s:Shared}{R:It->Hp->Prop}{E:Value->Shared->Prop}{lo hi:Int}{t u v:Tok}{tk:Nat}(I:Inv X pins σ H s)(h1:-(2 ^ 62)<=lo)(h2:lo<2 ^ 62)(h3:-(2 ^ 62)<=hi)(h4:hi<2 ^ 62)(q:R (Itr lo (hi - lo).toNat) H):wpAny (model X.prog X.w) X.A (pyIter (.ref s.heap.objs.size)) (PIE X pins σ tg R) E { s with heap:=s.heap.push { cls:=.type "range",data:=.fields #[.int lo t,.int hi u,.int 1 v] },toks:=tk }:=by
 refine wpAny_pyIter_range (IsRange.new ..) (small_one h1 h2 h3 h4) ?_;have I1:Inv X pins σ H { s with heap:=s.heap.push { cls:=.type "range",data:=.fields #[.int lo t,.int hi u,.int 1 v] },toks:=tk }:=I.kept λb o e=>Heap.get?_push_of_some _ e
 refine⟨(s.heap.push { cls:=.type "range",data:=.fields #[.int lo t,.int hi u,.int 1 v] }).objs.size,[(s.heap.push { cls:=.type "range",data:=.fields #[.int lo t,.int hi u,.int 1 v] }).objs.size],_,_,H,rfl,
  I1.kept (t':=tk) λb o e=>Heap.get?_push_of_some _ e,l'S _ lo (hi - lo).toNat,?_,λb hb=>?_,q⟩
 ·have e1:lo+((0:Nat):Int)*1=lo:=by simp
  have e2:(((hi - lo).toNat:Nat):Int) - ((0:Nat):Int)=Builtin.Range.rangeSize lo hi 1:=by rw[rangeSize_one];split<;>omega
  show IsRangeIter _ _ (lo+((0:Nat):Int)*1) ((((hi - lo).toNat:Nat):Int) - ((0:Nat):Int)) 1;rw[e1,e2];exact Heap.get?_push_size _ rfl
 ·have e:b=(s.heap.push { cls:=.type "range",data:=.fields #[.int lo t,.int hi u,.int 1 v] }).objs.size:=by simpa using hb
  subst e;exact I1.fpOk (Nat.le_refl _) (I1.hok.fresh (Nat.le_refl _))
def amk(ta:TA):TI:=λσ H R=>ta σ H λvs H1=>∃ j:Int,vs=[.int j]/\-(2 ^ 62)<=j/\j<2 ^ 62/\R (Itr 0 j.toNat) H1
theorem m'S{a:Expr}{ta:TA}{p pos:Pos}(hg:Gl X "range")(hm:X.mg "range"=none)(ha:PA X [a] ta)(hs:starEach [a] X.env=[(false,eval a X.env)]:=by rfl):PI X tg (.Call (.Name "range" p) [a] [] pos) (amk ta):=by
 intro pins s σ H R I h;refine Call_ (f'N I hg hm boot_range (PyProof.Rows.callWith_type1 (thn (ha pos pins s σ H _ I h) λus s1 ⟨vs,H1,I1,r1,q1⟩=>?_) hs rfl));obtain⟨j,e,q1,q2,q⟩:=q1;subst e;cases r1 with
 |cons r rr=>
  cases rr;obtain⟨t,rfl⟩:=r;exact call_range_1 (p'F I1 (by omega) (by omega) q1 q2 (by simpa using q))
def anQ(wi:TI)(g:TG)(tb:TS):TS:=λD σ H=>wi σ H λJ H1=>∃ W:Nat->Nat->St->Hp->Prop,(∃ m,W 0 m σ H1)/\∀ i m σ H,W i m σ H->
 (J.stop i H/\D.nx σ H)\/(J.go i H/\∃ N:St->Hp->Prop,(∀ σ' H',N σ' H'->∃ m',m'<m/\W (i+1) m' σ' H')/\∀ x H',J.yld i H x H'->g x σ H' λσ2 H2=>tb { D with nx:=N,ct:=N,bk:=D.nx } σ2 H2)
def ajV(fp:List Addr)(h:Heap):List (Addr×Obj):=fp.filterMap λb=>(h.get? b).map λo=>(b,o)
theorem c't(hb:b∈fp)(e:h.get? b=some o):(b,o)∈ajV fp h:=List.mem_filterMap.mpr ⟨b,hb,by rw[e];rfl⟩
theorem m'T(hp:p∈ajV fp h):p.1∈fp/\h.get? p.1=some p.2:=by
 obtain⟨b,hb,e⟩:=List.mem_filterMap.mp hp;cases q:h.get? b with
 |none=>rw[q] at e; cases e
 |some o=>
  rw[q] at e;have e':(b,o)=p:=Option.some.inj e;subst e';exact⟨hb,q⟩
theorem Inv.pinned(I:Inv X pins σ H s)(hf:∀ b∈fp,ak0 X pins H b)(ho:∀ b∈fp,∃ o,s.heap.get? b=some o/\∀ v,o.data≠.cell v):Inv X (pins++ajV fp s.heap) σ H s:=
 I.pins_of λp hp=>(List.mem_append.mp hp).elim (λz=>I.pin p (List.mem_append_right _ z)) λz=>by
  obtain⟨hb,e⟩:=m'T z;obtain⟨f0,f1,f2,_⟩:=hf p.1 hb;obtain⟨o,e',d⟩:=ho p.1 hb;rw[e] at e';cases e';exact⟨e,f0,f1,f2,d⟩
theorem Inv.unpinned(I:Inv X (pins++pl) σ H s):Inv X pins σ H s:=I.pins_of λp hp=>I.pin p (List.mem_append_right _ (List.mem_append_left _ hp))
theorem u'B(hp:PassesOwn (model X.prog X.w) X.A X.env X.xe)(hc:X.calm=true)(hi:PI X tg iter wi)(hg:PG X tg g)(hb:PSs X body tb)(hs:∀ x,foldedSetIterable iter X.env x=pure x:=by intro _;rfl):PS X (.For tg iter body [] pos) (anQ wi g tb):=by
 intro pins s σ H D I h;refine wpAny_For (thn (hi pins s σ H _ I h) λv s1 h1=>thn h1 λitv s2 h2=>?_) hs;obtain⟨it,fp,tn,J,H2,e,I2,T,st2,f2,W,⟨m0,w0⟩,turn⟩:=h2;subst e;have stat:∀{H':Hp},(∀ b∈fp,H' b=none)->∀ b∈fp,ak0 X pins H' b:=λhn b hb=>⟨hn b hb,(f2 b hb).2⟩
 refine codeAny_forLoop_any (λn s'=>∃ i σ' H',Inv X pins σ' H' s'/\tn i s'.heap/\(∀ b∈fp,H' b=none)/\W i n σ' H') ?_ m0 ⟨0,σ,H2,I2,st2,λb hb=>(f2 b hb).1,w0⟩;rintro n s3 ⟨i,σ3,H3,I3,st3,fr3,w3⟩;rcases turn i n σ3 H3 w3 with⟨stop,qn⟩ |⟨go,N,hN,step⟩
 ·refine wpAny_passesOwn hp (thn (T.done X rfl rfl rfl hc i pins s3 σ3 H3 X.xe I3 (stat fr3) st3 stop) λr s4 ⟨hr,I4⟩=>?_);subst hr;exact wpAny_execs_nil ⟨σ3,H3,I4,qn⟩
 ·refine wpAny_passesOwn hp (thn (T.item X rfl rfl rfl hc i pins s3 σ3 H3 X.xe I3 (stat fr3) st3 go) λr s4 ⟨u,hr,h4⟩=>?_);subst hr;refine wpAny_passesOwn hp (thn h4 λ_ s5 ⟨x,H5,I5,r5,y5,st5,fr5⟩=>?_);have I5':=I5.pinned (stat fr5) (T.obj _ _ st5);refine wpAny_passesOwn hp (thn (hg _ s5 σ3 H5 x u _ I5' r5 (step x H5 y5)) λ_ s6 ⟨σ6,H6,I6,q6⟩=>?_);refine wpAny_passesOwn hp (thn (hb _ s6 σ6 H6 _ I6 q6) λf s7 q7=>?_);have again:∀{σ7:St}{H7:Hp},Inv X (pins++ajV fp s5.heap) σ7 H7 s7->N σ7 H7->∃ m,m<n/\∃ i σ' H',Inv X pins σ' H' s7/\tn i s7.heap/\(∀ b∈fp,H' b=none)/\W i m σ' H':=λ{σ7 H7} I7 n7=>by
   obtain⟨m',hm,w7⟩:=hN σ7 H7 n7;refine⟨m',hm,i+1,σ7,H7,I7.unpinned,T.keep _ _ _ st5 λb hb o e=>(I7.pin (b,o) (List.mem_append_right _ (List.mem_append_right _ (c't hb e)))).1,λb hb=>?_,w7⟩;obtain⟨o,e,d⟩:=T.obj _ _ st5 b hb;exact (I7.pin (b,o) (List.mem_append_right _ (List.mem_append_right _ (c't hb e)))).2.1
  cases f with
  |next=>obtain⟨σ7,H7,I7,n7⟩:=q7;exact again I7 n7
  |cont=>obtain⟨σ7,H7,I7,n7⟩:=q7;exact again I7 n7
  |brk=>obtain⟨σ7,H7,I7,q7⟩:=q7;exact⟨σ7,H7,I7.unpinned,q7⟩
  |ret v=>obtain⟨x7,σ7,H7,I7,r7,q7⟩:=q7;exact⟨x7,σ7,H7,I7.unpinned,r7,q7⟩
end
abbrev R2:=V->V->Hp->VK->Prop
def OpR(X:Cx)(f:Value->Value->Sem Value)(r:R2):Prop:=
 ∀(pins:List (Addr×Obj))(s:Shared)(σ:St)(H:Hp)(x y:V)(v u:Value)(Q:VK),Inv X pins σ H s->RelV x v->RelV y u->r x y H Q->
  wpAny (model X.prog X.w) X.A (f v u) (EP X pins σ Q) X.xe s
def UnR(X:Cx)(f:Value->Sem Value)(r:V->Hp->VK->Prop):Prop:=
 ∀(pins:List (Addr×Obj))(s:Shared)(σ:St)(H:Hp)(x:V)(v:Value)(Q:VK),Inv X pins σ H s->RelV x v->r x H Q->
  wpAny (model X.prog X.w) X.A (f v) (EP X pins σ Q) X.xe s
def CallR(X:Cx)(f:Value)(r:List V->Hp->VK->Prop):Prop:=
 ∀(pins:List (Addr×Obj))(s:Shared)(σ:St)(H:Hp)(xs:List V)(us:List Value)(Q:VK),Inv X pins σ H s->Vals xs us->r xs H Q->
  wpAny (model X.prog X.w) X.A (call f us) (EP X pins σ Q) X.xe s
def tOp(r:R2)(ta tb:TE):TE:=λσ H Q=>ta σ H λx H1=>tb σ H1 λy H2=>r x y H2 Q
def tUn(r:V->Hp->VK->Prop)(ta:TE):TE:=λσ H Q=>ta σ H λx H1=>r x H1 Q
def rI(C:Int->Int->Prop)(g:Int->Int->V):R2:=λx y H Q=>∃ i j,x=.int i/\y=.int j/\C i j/\Q (g i j) H
def rI0(g:Int->Int->V):R2:=λx y H Q=>∃ i j,x=.int i/\y=.int j/\Q (g i j) H
def rU(g:Int->V):V->Hp->VK->Prop:=λx H Q=>∃ i,x=.int i/\Q (g i) H
section
variable{X:Cx}{a b c:Expr}{ta tb tc:TE}{pos:Pos}
theorem p'G(ha:PE X a ta)(hb:PE X b tb){R:V->V->Hp->Prop}(I:Inv X pins σ H s)(h:ta σ H λx H1=>tb σ H1 λy H2=>R x y H2){f:Value->Value->Sem Value}(hf:∀ v u s2 x y H2,Inv X pins σ H2 s2->RelV x v->RelV y u->R x y H2->wpAny (model X.prog X.w) X.A (f v u) Q X.xe s2):
  wpAny (model X.prog X.w) X.A (eval a X.env) (λv s₁=>wpAny (model X.prog X.w) X.A (eval b X.env) (λu s₂=>wpAny (model X.prog X.w) X.A (f v u) Q X.xe s₂) X.xe s₁) X.xe s:=by
 refine thn (ha pins s σ H _ I h) λv s1 ⟨x,H1,I1,r1,q1⟩=>?_
 refine thn (hb pins s1 σ H1 _ I1 q1) λu s2 ⟨y,H2,I2,r2,q2⟩=>?_
 exact hf v u s2 x y H2 I2 r1 r2 q2
theorem w'O(ho:OpR X (binaryOp op) r)(ha:PE X a ta)(hb:PE X b tb):PE X (.BinOp a op b pos) (tOp r ta tb):=by
 intro pins s σ H Q I h;exact wpAny_BinOp (p'G ha hb I h λv u s2 x y H2 I2 rx ry q=>ho pins s2 σ H2 x y v u Q I2 rx ry q)
theorem w'P(ho:UnR X (unaryOp op) r)(ha:PE X a ta):PE X (.UnaryOp op a pos) (tUn r ta):=by
 intro pins s σ H Q I h;exact UnaryOp_ (thn (ha pins s σ H _ I h) λv s1 ⟨x,H1,I1,r1,q1⟩=>ho pins s1 σ H1 x v Q I1 r1 q1)
theorem opI{f:Value->Value->Sem Value}{C:Int->Int->Prop}{g:Int->Int->Int}(rule:∀(i j:Int)(t u:Tok)(s:Shared)(Q:Value->Shared->Prop)(E:Value->Shared->Prop),C i j->Q (.int (g i j) s.toks) { s with toks:=s.toks+1 }->wpAny (model X.prog X.w) X.A (f (.int i t) (.int j u)) Q E s):
  OpR X f (rI C λi j=>.int (g i j)):=by
 intro pins s σ H x y v u Q I rx ry h;obtain⟨i,j,rfl,rfl,hc,q⟩:=h;obtain⟨t,rfl⟩:=rx;obtain⟨t',rfl⟩:=ry;exact rule i j t t' s _ _ hc ⟨.int (g i j),H,I.tok _,⟨_,rfl⟩,q⟩
theorem u'C{f:Value->Value->Sem Value}{g:Int->Int->Int}(rule:∀(i j:Int)(t u:Tok)(s:Shared)(Q:Value->Shared->Prop)(E:Value->Shared->Prop),Q (.int (g i j) s.toks) { s with toks:=s.toks+1 }->wpAny (model X.prog X.w) X.A (f (.int i t) (.int j u)) Q E s):
  OpR X f (rI0 λi j=>.int (g i j)):=by
 intro pins s σ H x y v u Q I rx ry h;obtain⟨i,j,rfl,rfl,q⟩:=h;obtain⟨t,rfl⟩:=rx;obtain⟨t',rfl⟩:=ry;exact rule i j t t' s _ _ ⟨.int (g i j),H,I.tok _,⟨_,rfl⟩,q⟩
theorem l'T{f:Value->Value->Sem Value}{g:Int->Int->Bool}(rule:∀(i j:Int)(t u:Tok)(s:Shared)(Q:Value->Shared->Prop)(E:Value->Shared->Prop),Q (.bool (g i j)) s->wpAny (model X.prog X.w) X.A (f (.int i t) (.int j u)) Q E s):
  OpR X f (rI0 λi j=>.bl (g i j)):=by
 intro pins s σ H x y v u Q I rx ry h;obtain⟨i,j,rfl,rfl,q⟩:=h;obtain⟨t,rfl⟩:=rx;obtain⟨t',rfl⟩:=ry;exact rule i j t t' s _ _ ⟨.bl (g i j),H,I,rfl,q⟩
def anR(i j:Int):Prop:=0<=j/\j<=1000000/\i.natAbs<2 ^ 64
def CMul(i j:Int):Prop:=(-(2 ^ 64)<i/\i<2 ^ 64)\/(-(2 ^ 64)<j/\j<2 ^ 64)
theorem CMul.ok(h:CMul i j):IntMulOk i j:=by
 rcases h with⟨h1,h2⟩ |⟨h1,h2⟩
 ·exact .of_left (intBits_le_64 h1 h2)
 ·exact .of_right (intBits_le_64 h1 h2)
theorem aml:OpR X (binaryOp .Add) (rI0 λi j=>.int (i+j)):=u'C λ_ _ _ _ _ _ _ q=>add_int q
theorem u'D:OpR X (binaryOp .Sub) (rI0 λi j=>.int (i - j)):=u'C λ_ _ _ _ _ _ _ q=>sub_int q
theorem u'E:OpR X (binaryOp .Mod) (rI (λ_ j=>0<j) λi j=>.int (i % j)):=opI λi j _ _ _ _ _ hc q=>by
 have h1:(0:Int)<j:=hc;exact mod_int' (by omega) (by rw[Int.fmod_eq_emod_of_nonneg i (by omega)];exact q)
theorem u'F:OpR X (binaryOp .Pow) (rI anR λi j=>.int (i ^ j.toNat)):=opI λ_ _ _ _ _ _ _ hc q=>pow_int_small hc.1 hc.2.1 hc.2.2 q
theorem unI{f:Value->Sem Value}{g:Int->Int}(rule:∀(i:Int)(t:Tok)(s:Shared)(Q:Value->Shared->Prop)(E:Value->Shared->Prop),Q (.int (g i) s.toks) { s with toks:=s.toks+1 }->wpAny (model X.prog X.w) X.A (f (.int i t)) Q E s):
  UnR X f (rU λi=>.int (g i)):=by
 intro pins s σ H x v Q I rx h;obtain⟨i,rfl,q⟩:=h;obtain⟨t,rfl⟩:=rx;exact rule i t s _ _ ⟨.int (g i),H,I.tok _,⟨_,rfl⟩,q⟩
theorem u'G:UnR X (unaryOp .USub) (rU λi=>.int (-i)):=unI λ_ _ _ _ _ q=>neg_int q
end
def am7:V->V->Bool
 |.non,.non=>true |.non,.int _=>true |.int _,.non=>true |.non,.bl _=>true |.bl _,.non=>true |.non,.str _=>true |.str _,.non=>true
 |.int _,.int _=>true |.bl _,.bl _=>true |.str _,.str _=>true |.byt _,.byt _=>true
 |.int _,.str _=>true |.str _,.int _=>true |.bl _,.str _=>true |.str _,.bl _=>true
 |_,_=>false
def rEq:R2:=λx y H Q=>am7 x y=true/\Q (.bl (decide (x=y))) H
def rNe:R2:=λx y H Q=>am7 x y=true/\Q (.bl (!decide (x=y))) H
theorem k'g:decide (V.int i=V.int j)=(i == j):=by
 rw[Bool.eq_iff_iff];simp
theorem m'U:decide (V.bl i=V.bl j)=(i == j):=by
 rw[Bool.eq_iff_iff];simp
theorem k'h:decide (V.str i=V.str j)=(i == j):=by
 rw[Bool.eq_iff_iff];simp
theorem k'i:decide (V.byt i=V.byt j)=(i.toList == j.toList):=by
 rw[Bool.eq_iff_iff];cases i;cases j;simp
section
variable{X:Cx}{a b c:Expr}{ta tb tc:TE}{pos:Pos}
theorem a's{Q:VK}(I:Inv X pins σ H s)(q:Q (.bl k) H)(e:k=k'):EP X pins σ Q (.bool k') s:=by
 subst e;exact⟨.bl k,H,I,rfl,q⟩
theorem am8:OpR X (compareOp .Eq) rEq:=by
 intro pins s σ H x y v u Q I rx ry h;obtain⟨hs,q⟩:=h;cases x with
 |non=>
  cases rx;cases y with
  |non=>cases ry;exact PySem.EqNone.eq_none_none (a's I q (by simp))
  |bl j=>cases ry;exact PySem.EqNone.eq_none_bool (a's I q (by simp))
  |int j=>obtain⟨t',rfl⟩:=ry;exact PySem.EqNone.eq_none_int (a's I q (by simp))
  |str j=>obtain⟨t',rfl⟩:=ry;exact PySem.EqNone.eq_none_str (a's I q (by simp))
  |_=>exact absurd (show false=true from hs) Bool.false_ne_true
 |bl i=>
  cases rx;cases y with
  |non=>cases ry;exact PySem.EqNone.eq_bool_none (a's I q (by simp))
  |bl j=>cases ry;exact eq_bool (a's I q m'U)
  |str j=>obtain⟨t',rfl⟩:=ry;exact PySem.EqMixed.eq_bool_str (a's I q (by simp))
  |_=>exact absurd (show false=true from hs) Bool.false_ne_true
 |int i=>
  obtain⟨t,rfl⟩:=rx;cases y with
  |non=>cases ry;exact PySem.EqNone.eq_int_none (a's I q (by simp))
  |int j=>obtain⟨t',rfl⟩:=ry;exact eq_int (a's I q k'g)
  |str j=>obtain⟨t',rfl⟩:=ry;exact PySem.EqMixed.eq_int_str (a's I q (by simp))
  |_=>exact absurd (show false=true from hs) Bool.false_ne_true
 |str i=>
  obtain⟨t,rfl⟩:=rx;cases y with
  |non=>cases ry;exact PySem.EqNone.eq_str_none (a's I q (by simp))
  |bl j=>cases ry;exact PySem.EqMixed.eq_str_bool (a's I q (by simp))
  |int j=>obtain⟨t',rfl⟩:=ry;exact PySem.EqMixed.eq_str_int (a's I q (by simp))
  |str j=>obtain⟨t',rfl⟩:=ry;exact eq_str (a's I q k'h)
  |_=>exact absurd (show false=true from hs) Bool.false_ne_true
 |byt i=>
  obtain⟨t,rfl⟩:=rx;cases y with
  |byt j=>obtain⟨t',rfl⟩:=ry;exact W.eq_bytes (a's I q k'i)
  |_=>exact absurd (show false=true from hs) Bool.false_ne_true
 |_=>cases y <;> exact absurd (show false = true from hs) Bool.false_ne_true
theorem am9:OpR X (compareOp .NotEq) rNe:=by
 intro pins s σ H x y v u Q I rx ry h;obtain⟨hs,q⟩:=h;cases x with
 |non=>
  cases rx;cases y with
  |non=>cases ry;exact PySem.EqNone.ne_none_none (a's I q (by simp))
  |bl j=>cases ry;exact PySem.EqNone.ne_none_bool (a's I q (by simp))
  |int j=>obtain⟨t',rfl⟩:=ry;exact PySem.EqNone.ne_none_int (a's I q (by simp))
  |str j=>obtain⟨t',rfl⟩:=ry;exact PySem.EqNone.ne_none_str (a's I q (by simp))
  |_=>exact absurd (show false=true from hs) Bool.false_ne_true
 |bl i=>
  cases rx;cases y with
  |non=>cases ry;exact PySem.EqNone.ne_bool_none (a's I q (by simp))
  |bl j=>cases ry;exact ne_bool (a's I q (congrArg not m'U))
  |str j=>obtain⟨t',rfl⟩:=ry;exact PySem.EqMixed.ne_bool_str (a's I q (by simp))
  |_=>exact absurd (show false=true from hs) Bool.false_ne_true
 |int i=>
  obtain⟨t,rfl⟩:=rx;cases y with
  |non=>cases ry;exact PySem.EqNone.ne_int_none (a's I q (by simp))
  |int j=>obtain⟨t',rfl⟩:=ry;exact ne_int (a's I q (congrArg not k'g))
  |str j=>obtain⟨t',rfl⟩:=ry;exact PySem.EqMixed.ne_int_str (a's I q (by simp))
  |_=>exact absurd (show false=true from hs) Bool.false_ne_true
 |str i=>
  obtain⟨t,rfl⟩:=rx;cases y with
  |non=>cases ry;exact PySem.EqNone.ne_str_none (a's I q (by simp))
  |bl j=>cases ry;exact PySem.EqMixed.ne_str_bool (a's I q (by simp))
  |int j=>obtain⟨t',rfl⟩:=ry;exact PySem.EqMixed.ne_str_int (a's I q (by simp))
  |str j=>obtain⟨t',rfl⟩:=ry;exact ne_str (a's I q (congrArg not k'h))
  |_=>exact absurd (show false=true from hs) Bool.false_ne_true
 |byt i=>
  obtain⟨t,rfl⟩:=rx;cases y with
  |byt j=>obtain⟨t',rfl⟩:=ry;exact W.ne_bytes (a's I q (congrArg not k'i))
  |_=>exact absurd (show false=true from hs) Bool.false_ne_true
 |_=>cases y <;> exact absurd (show false = true from hs) Bool.false_ne_true
theorem ana:OpR X (compareOp .Lt) (rI0 λi j=>.bl (decide (i<j))):=l'T λ_ _ _ _ _ _ _ q=>lt_int q
theorem e'G:OpR X (compareOp .LtE) (rI0 λi j=>.bl (decide (i<=j))):=l'T λ_ _ _ _ _ _ _ q=>le_int q
theorem anb:OpR X (compareOp .Gt) (rI0 λi j=>.bl (decide (j<i))):=l'T λ_ _ _ _ _ _ _ q=>gt_int q
theorem l'U:OpR X (compareOp .GtE) (rI0 λi j=>.bl (decide (j<=i))):=l'T λ_ _ _ _ _ _ _ q=>ge_int q
theorem m'V:OpR X (compareOp .Lt) (λx y H Q=>∃ i j,x=.str i/\y=.str j/\Q (.bl (decide (i.cps.toList<j.cps.toList))) H):=by
 intro pins s σ H x y v u Q I rx ry h;obtain⟨i,j,rfl,rfl,q⟩:=h;obtain⟨t,rfl⟩:=rx;obtain⟨t',rfl⟩:=ry;exact lt_str (a's I q rfl)
theorem h'g:OpR X (compareOp .In) (λx y H Q=>∃ i j,x=.str i/\y=.str j/\Q (.bl (!(Builtin.Str.occurrences j i 0 j.length 1).isEmpty)) H):=by
 intro pins s σ H x y v u Q I rx ry h;obtain⟨i,j,rfl,rfl,q⟩:=h;obtain⟨t,rfl⟩:=rx;obtain⟨t',rfl⟩:=ry;exact in_str (a's I q rfl)
theorem u'H:OpR X (compareOp .Is) (λx y H Q=>y=.non/\Q (.bl (decide (x=.non))) H):=by
 intro pins s σ H x y v u Q I rx ry h;obtain⟨rfl,q⟩:=h;cases ry;refine is_none_gen (a's I q ?_);cases x<;>first
  |(cases rx;rfl)
  |(obtain⟨t,rfl⟩:=rx;rfl)
theorem s'v:OpR X (compareOp .IsNot) (λx y H Q=>y=.non/\Q (.bl (!decide (x=.non))) H):=by
 intro pins s σ H x y v u Q I rx ry h;obtain⟨rfl,q⟩:=h;cases ry;refine isnot_none_gen (a's I q ?_);cases x<;>first
  |(cases rx;rfl)
  |(obtain⟨t,rfl⟩:=rx;rfl)
theorem OpR.or{r r':R2}(h:OpR X f r)(h':OpR X f r'):OpR X f (λx y H Q=>r x y H Q\/r' x y H Q):=by
 intro pins s σ H x y v u Q I rx ry q;rcases q with q |q
 ·exact h pins s σ H x y v u Q I rx ry q
 ·exact h' pins s σ H x y v u Q I rx ry q
theorem s'w(ho:OpR X (compareOp op) r)(ha:PE X a ta)(hb:PE X b tb)(hm:behindInMarks op b=false):PE X (.Compare a [op] [b] pos) (tOp r ta tb):=by
 intro pins s σ H Q I h;exact wpAny_Compare1 (p'G ha hb I h λv u s2 x y H2 I2 rx ry q=>ho pins s2 σ H2 x y v u Q I2 rx ry q) hm
def als(t:TE):TT:=λσ H Q=>t σ H λx H'=>∃ k,x=.bl k/\Q k H'
theorem k'j(ho:OpR X (compareOp op) r)(ha:PE X a ta)(hb:PE X b tb)(hm:behindInMarks op b=false):PT X (.Compare a [op] [b] pos) (als (tOp r ta tb)):=by
 intro pins s σ H Q I h;refine wpAny_isTrue_Compare1 (thn (ha pins s σ H _ I h) λv s1 ⟨x,H1,I1,r1,q1⟩=>thn (hb pins s1 σ H1 _ I1 q1) λu s2 ⟨y,H2,I2,r2,q2⟩=>
  thn (ho pins s2 σ H2 x y v u _ I2 r1 r2 q2) λc s3 ⟨z,H3,I3,r3,k,e,q3⟩=>?_) hm
 subst e;cases r3;exact wpAny_truthy_bool ⟨H3,I3,q3⟩
def ale(r r':R2)(ta tb tc:TE):TE:=λσ H Q=>ta σ H λx H1=>tb σ H1 λy H2=>r x y H2 λz H3=>∃ k,z=.bl k/\
 (if k=true then tc σ H3 λw' H4=>r' y w' H4 Q else Q (.bl false) H3)
theorem p'H(ho:OpR X (compareOp op) r)(ho':OpR X (compareOp op') r')(ha:PE X a ta)(hb:PE X b tb)(hc:PE X c tc)(hm:lastMarks [op,op'] [b,c]=false:=by with_unfolding_all rfl):PT X (.Compare a [op,op'] [b,c] pos) (als (ale r r' ta tb tc)):=by
 intro pins s σ H Q I h;refine isTrue_chain (thn (ha pins s σ H _ I h) λv s1 ⟨x,H1,I1,r1,q1⟩=>test_link (thn (hb pins s1 σ H1 _ I1 q1) λu s2 ⟨y,H2,I2,r2,q2⟩=>
  thn (ho pins s2 σ H2 x y v u _ I2 r1 r2 q2) λd s3 ⟨z,H3,I3,r3,k,e,q3⟩=>?_)) hm
 subst e;cases r3;refine wpAny_truthy_bool ?_;cases k with
 |false=>
  obtain⟨k',e',q'⟩:=q3;cases e';exact ite_ff ⟨H3,I3,q'⟩
 |true=>
  refine ite_tt (test_last (thn (hc pins s3 σ H3 _ I3 q3) λw' s4 ⟨z',H4,I4,r4,q4⟩=>thn (ho' pins s4 σ H4 y z' u w' _ I4 r2 r4 q4) λd' s5 ⟨z2,H5,I5,r5,k2,e2,q5⟩=>?_));subst e2;cases r5;exact wpAny_truthy_bool ⟨H5,I5,q5⟩
theorem e'c:(sizeLine:Nat)<2 ^ 63:=by rw[sizeLine_eq];decide
theorem akp:OpR X (binaryOp .Add) (λx y H Q=>∃ i j,x=.str i/\y=.str j/\i.length+j.length<=sizeLine/\Q (.str (i++j)) H):=by
 intro pins s σ H x y v u Q I rx ry h;obtain⟨i,j,rfl,rfl,hz,q⟩:=h;obtain⟨t,rfl⟩:=rx;obtain⟨t',rfl⟩:=ry;exact add_str (λt' tk=>⟨.str (i++j),H,I.tok _,⟨_,rfl⟩,q⟩) hz
theorem b'E(r:Vals [x] us):∃ u,us=[u]/\RelV x u:=by
 cases r with
 |cons r1 r2=>cases r2; exact⟨_,rfl,r1⟩
theorem h'Y(r:Vals [x,y] us):∃ u w',us=[u,w']/\RelV x u/\RelV y w':=by
 cases r with
 |cons r1 r2=>
  cases r2 with
  |cons r3 r4=>cases r4;exact⟨_,_,rfl,r1,r3⟩
theorem d'z:CallR X (.builtin "abs") (λxs H Q=>∃ i,xs=[.int i]/\Q (.int (if i<0 then -i else i)) H):=by
 intro pins s σ H xs us Q I r h;obtain⟨i,rfl,q⟩:=h;obtain⟨u,rfl,t,rfl⟩:=b'E r;exact call_abs_int λu tk=>⟨.int (if i<0 then -i else i),H,I.tok _,⟨_,rfl⟩,q⟩
theorem b'k:CallR X (.type "str") (λxs H Q=>∃ i,xs=[.int i]/\i.natAbs.log2<1920/\Q (.str (toString i)) H):=by
 intro pins s σ H xs us Q I r h;obtain⟨i,rfl,hz,q⟩:=h;obtain⟨u,rfl,t,rfl⟩:=b'E r;exact PySem.P.str_of_int hz ⟨.str _,H,I.tok _,⟨_,rfl⟩,q⟩
def anS(K:W.Frag)(x:V)(H:Hp)(n:Nat):Prop:=
 match x with
 |.str y=>y.length <= sizeLine /\ n = y.length
 |.byt y=>y.size <= sizeLine /\ n = y.size
 |.ref p=>(∃ xs,SqL K H p xs /\ n = xs.length) \/ ∃ xs,SqT K H p xs /\ n = xs.length
 |_=>False
theorem ak5:CallR X (.builtin "len") (λxs H Q=>∃ x n,xs=[x]/\anS X.K x H n/\Q (.int n) H):=by
 intro pins s σ H xs us Q I r h;obtain⟨x,n,rfl,e,q⟩:=h;obtain⟨u,rfl,rx⟩:=b'E r;have hl:=e'c;have hs:sizeLine=16777216:=sizeLine_eq;cases x with
 |str y=>
  obtain⟨t,rfl⟩:=rx;obtain⟨hy,e'⟩:y.length<=sizeLine/\n=y.length:=e;subst e';exact len_str (by omega) ⟨.int _,H,I.tok _,⟨_,rfl⟩,q⟩
 |byt y=>
  obtain⟨t,rfl⟩:=rx;obtain⟨hy,e'⟩:y.size<=sizeLine/\n=y.size:=e;subst e';exact W.len_bytes (by omega) ⟨.int _,H,I.tok _,⟨_,rfl⟩,q⟩
 |ref p=>
  cases rx;have e':(∃ xs,SqL X.K H p xs/\n=xs.length)\/∃ xs,SqT X.K H p xs/\n=xs.length:=e;rcases e' with⟨xs,hx,e'⟩ |⟨xs,hx,e'⟩
  ·subst e';obtain⟨its,r',pl,hz⟩:=I.list hx;have hlen:=r'.length;exact Calls.call_len_list pl.isList (by simp only[List.size_toArray];omega) ⟨.int xs.length,H,I.tok _,⟨_,by simp only[List.size_toArray];rw[hlen]⟩,q⟩
  ·subst e';obtain⟨its,r',pl,hz⟩:=I.tuple hx;have hlen:=r'.length;exact len_tuple pl (by simp only[List.size_toArray];omega) ⟨.int xs.length,H,I.tok _,⟨_,by simp only[List.size_toArray];rw[hlen]⟩,q⟩
 |_=>exact (show False from e).elim
end
structure ObjM(h:Heap)(x dx C:Addr)(mA:Str->Option Value):Prop where
 obj:h.get? x=some (W.instObj C dx)
 ns:h.Ns1 dx mA
 ne:dx≠x
theorem m'W{h:Heap}{dx:Addr}{mA:Str->Option Value}(n:h.Ns1 dx mA):∃ od,h.get? dx=some od/\∀ name,W.lookIn name od=some (mA name):=by
 obtain⟨o,es,ep,ho,hd,hk,_,hm⟩:=n;refine⟨o,ho,λname=>?_⟩;have e:=hm name;unfold nsFind findBy at e;rw[<- Array.find?_toList] at e;unfold W.lookIn;rw[hd];dsimp only;split
 ·rename_i y q;rw[q] at e;exact congrArg some e
 ·rename_i q;rw[q] at e;have a:es.toList.any (·.refKey)=false:=by
   rw[List.any_eq_false];intro y hy;obtain⟨z,t,hkey⟩:=hk y (Array.mem_toList_iff.mp hy);simp[DictEntry.refKey,hkey]
  have a':¬ es.toList.any (·.refKey)=true:=by rw[a];exact Bool.false_ne_true
  rw[if_neg a'];exact congrArg some e
theorem ObjM.look{mA:Str->Option Value}(I:ObjM h x dx C mA):∃ od,W.InstAt h x (W.instObj C dx) C (some od)/\∀ name,W.lookIn name od=some (mA name):=
 let ⟨od,ho,hl⟩:=m'W I.ns
 ⟨od,⟨I.obj,rfl,rfl,ho⟩,hl⟩
section
variable{prog:Program}{w:World}{A:Around}{E:Value->Shared->Prop}{s:Shared}{K:W.Frag}{x dx C f:Addr}{mA:Str->Option Value}{name:Str}{v:Value}
theorem k'k{Q:Value->Shared->Prop}(X:K.In s.heap)(I:ObjM s.heap x dx C mA)(hg:W.plainGet K C name=true)(hh:W.hasDictIn K C=true)(ha:W.findIn K (.ref C) name=some none)(hv:mA name=some v)(hv':W.handedIn v=true)(h:Q v { s with toks:=s.toks+1 }):
  wpAny (model prog w) A (getAttr (.ref x) name expr) Q E s:=by
 obtain⟨od,J,hl⟩:=I.look;exact W.get_value X J (W.plainGet_of hg).1 (W.findObj_own hh ha rfl (by rw[hl,hv])) hv' h
theorem i'i{Q:Value×List Value->Shared->Prop}(X:K.In s.heap)(I:ObjM s.heap x dx C mA)(hg:W.plainGet K C name=true)(hf:W.findIn K (.ref C) name=some (some (.ref f)))(ht:W.isFn K (.ref f)=true)(hv:mA name=none)(h:Q (.ref f,[.ref x]) s):
  wpAny (model prog w) A (getMethod (.ref x) name pl) Q E s:=by
 obtain⟨od,J,hl⟩:=I.look;exact W.method_fn X J (W.plainGet_of hg).1 (W.plainGet_of hg).2 hf (beq_iff_eq.mp ht) (by show (W.lookIn name od).map (·.isSome)=some false;rw[hl,hv];rfl) h
theorem s'x{Q:Unit->Shared->Prop}(X:K.In s.heap)(I:ObjM s.heap x dx C mA)(hs:W.findIn K (.ref C) "__setattr__"=some (some (.builtin "object.__setattr__")))(hp:W.plainOver K C=true)(ht:W.takerIn K C name=some none)(hh:W.hasDictIn K C=true)(hw:PySem.Within mA ns)(hsz:ns.length<=sizeLine)(h:∀ h',ObjM h' x dx C (λy=>if y=name then some v else mA y)->Heap.SameBut dx s.heap h'->Q () { s with heap:=h',toks:=s.toks+2 }):
  wpAny (model prog w) A (setAttr (.ref x) name v) Q E s:=by
 obtain⟨od,J,hl⟩:=I.look;refine W.set_plain X J hs (W.osa_open (s:={ s with toks:=s.toks+1 }) (r:=none) X J hp ht λb=>?_);obtain⟨cd,hc,hd'⟩:=W.any_some hh;have hx:s.heap.get? x=some ⟨.ref C,some dx,.plain,#[]⟩:=I.obj;refine wpAny_bind (wpAny_pure (wpAny_bind (wpAny_bind (wpAny_loadPart hx (wpAny_bind (W.Looks.here (s:={ s with toks:=s.toks+1 }) (W.looks_clsIn X hc) ?_))))));rw[hd'];refine wpAny_pure (a:=some dx) (wpAny_bind (wpAny_pure (wpAny_bind ?_)));refine wpAny_nsSet1 (s:={ s with toks:=s.toks+1 }) I.ns λh' hn2 hs2=>?_
 obtain⟨oD,esD,epD,hoD,hdD,hcD⟩:=hn2.count (PySem.Within.cons name v hw);refine wpAny_bind (wpAny_lookBehind hoD (by rw[hdD];exact pastItsLine_dict (Nat.le_trans hcD (by rw[List.length_cons];omega))) ?_);exact wpAny_pure (h _ ⟨(hs2.2 _ (Ne.symm I.ne)).trans I.obj,hn2,I.ne⟩ hs2)
theorem p'I(X:K.In s.heap)(hm:W.makesIn K C=true)(hi:W.findIn K (.ref C) "__init__"=some (some (.ref f)))(hf:W.typeIn K (.ref f)=some (.type "function"))(h:codeAny (model prog w) (A.under (.builtin "type.__call__" ⟨.ref C :: vs,kw⟩)) (.call (.ref f) ⟨.ref (s.heap.objs.size+1) :: vs,kw⟩) (W.InitBack (s.heap.objs.size+1) R)
   { s with heap:=(s.heap.push W.emptyDict).push (W.instObj C s.heap.objs.size) }):
  codeAny (model prog w) A (.call (.ref C) ⟨vs,kw⟩) R s:=by
 obtain⟨hh,g,d,t,os⟩:=s;exact W.make_core (W.makes_of X hm) (W.looks_findIn X hi) (λself=>W.bind_fn X self hf) (.inl rfl) h
end
def ajF(f:Str)(v:V):List (Str×V)->List (Str×V)
 |[]=>[(f,v)]
 |(g,x) :: r=>if g = f then (g,v) :: r else (g,x) :: ajF f v r
theorem f'f(f g:Str)(v:V):∀ fs:List (Str×V),(ajF f v fs).lookup g=if g=f then some v else fs.lookup g
 |[]=>by
  show List.lookup g [(f,v)]=_;by_cases h:g=f
  ·have hb:(g == f)=true:=beq_iff_eq.mpr h;simp only[List.lookup,hb,if_pos h]
  ·have hb:(g == f)=false:=beq_eq_false_iff_ne.mpr h;simp only[List.lookup,hb,if_neg h]
 |(k,x) :: r=>by
  have ih:=f'f f g v r;rw[show ajF f v ((k,x) :: r)=(if k=f then (k,v) :: r else (k,x) :: ajF f v r) from rfl];by_cases hk:k=f
  ·rw[if_pos hk];by_cases h:g=k
   ·have hb:(g == k)=true:=beq_iff_eq.mpr h;simp only[List.lookup,hb,if_pos (h.trans hk)]
   ·have hb:(g == k)=false:=beq_eq_false_iff_ne.mpr h;simp only[List.lookup,hb,if_neg (λe:g=f=>h (e.trans hk.symm))]
  ·rw[if_neg hk];by_cases h:g=k
   ·have hb:(g == k)=true:=beq_iff_eq.mpr h;simp only[List.lookup,hb,if_neg (λe:g=f=>hk (h.symm.trans e))]
   ·have hb:(g == k)=false:=beq_eq_false_iff_ne.mpr h;simp only[List.lookup,hb];exact ih
theorem e'd(f:Str)(v:V):∀ fs:List (Str×V),f∈(ajF f v fs).map (·.1)/\∀ g,g∈fs.map (·.1)->g∈(ajF f v fs).map (·.1)
 |[]=>⟨by simp[ajF],λg h=>by simp at h⟩
 |(k,x) :: r=>by
  obtain⟨i1,i2⟩:=e'd f v r;rw[show ajF f v ((k,x) :: r)=(if k=f then (k,v) :: r else (k,x) :: ajF f v r) from rfl];by_cases hk:k=f
  ·rw[if_pos hk];subst hk;exact⟨by simp,λg h=>by simpa using h⟩
  ·rw[if_neg hk];refine⟨?_,λg h=>?_⟩
   ·rw[List.map_cons];exact List.mem_cons_of_mem _ i1
   ·rw[List.map_cons] at h ⊢;rcases List.mem_cons.mp h with e |e
    ·exact List.mem_cons.mpr (.inl e)
    ·exact List.mem_cons_of_mem _ (i2 g e)
theorem f'g(f:Str)(v:V):∀ fs:List (Str×V),(ajF f v fs).length<=fs.length+1
 |[]=>by simp[ajF]
 |(k,x) :: r=>by
  have ih:=f'g f v r;rw[show ajF f v ((k,x) :: r)=(if k=f then (k,v) :: r else (k,x) :: ajF f v r) from rfl];by_cases hk:k=f
  ·rw[if_pos hk,List.length_cons,List.length_cons];omega
  ·rw[if_neg hk,List.length_cons,List.length_cons];omega
theorem RelO.some_of(r:RelO (some v) o):∃ u,o=some u/\RelV v u:=by
 cases o with
 |none=>exact (show False from r).elim
 |some u=>exact⟨u,rfl,r⟩
theorem RelO.none_of(r:RelO none o):o=none:=by
 cases o with
 |none=>rfl
 |some u=>exact (show False from r).elim
theorem h'h(r:RelV v u):W.handedIn u=true:=by
 cases v with
 |non=>cases (show u = Value.none from r); rfl
 |bl b=>cases (show u = Value.bool b from r); rfl
 |int i=>obtain⟨t,e⟩:=(show ∃ t,u = Value.int i t from r); cases e; rfl
 |str x=>obtain⟨t,e⟩:=(show ∃ t,u = Value.str x t from r); cases e; rfl
 |byt b=>obtain⟨t,e⟩:=(show ∃ t,u = Value.bytes b t from r); cases e; rfl
 |flt b=>obtain⟨t,e⟩:=(show ∃ t,u = Value.float b t from r); cases e; rfl
 |ref a=>cases (show u = Value.ref a from r); rfl
 |ty n=>cases (show u = Value.type n from r); rfl
section
variable{P:Program}{w:World}{H H':Hp}{h h':Heap}{a C dx:Addr}{fs fs':List (Str×V)}
theorem g'q(hok:HOk P w H h)(e:H a=some (.ins C dx fs)):∃ mA,ObjM h a dx C mA/\(∀ f,RelO (fs.lookup f) (mA f))/\PySem.Within mA (fs.map (·.1))/\fs.length<=1000/\H dx=some (.own a):=by
 obtain⟨d,z,ne,ob,mA,n,r,q⟩:=(show ObjOk P w H h a (.ins C dx fs) from hok a _ e);exact⟨mA,⟨ob,n,ne⟩,r,q,z,d⟩
end
structure Cls(K:W.Frag)(C:Addr):Prop where
 pg:W.plainGet K C Str.empty=true
 hd:W.hasDictIn K C=true
 po:W.plainOver K C=true
 sa:W.findIn K (.ref C) "__setattr__"=some (some (.builtin "object.__setattr__"))
theorem Cls.get{K:W.Frag}{C:Addr}(c:Cls K C)(f:Str):W.plainGet K C f=true:=c.pg
def NoAttr(K:W.Frag)(C:Addr)(f:Str):Prop:=W.findIn K (.ref C) f=some none
theorem NoAttr.taker{K:W.Frag}{C:Addr}{f:Str}(n:NoAttr K C f):W.takerIn K C f=some none:=by
 unfold W.takerIn;rw[show W.findIn K (.ref C) f=some none from n];rfl
structure ai4(K:W.Frag)(C:Addr)(m:Str)(f:Addr):Prop where
 at_:W.findIn K (.ref C) m=some (some (.ref f))
 fn:W.isFn K (.ref f)=true
 kp:W.keepIn K (.ref f)=true
section
variable{X:Cx}{pins:List (Addr×Obj)}{σ:St}{H:Hp}{s:Shared}{a C dx:Addr}{fs:List (Str×V)}{f:Str}{v:V}{A:Around}{E:Value->Shared->Prop}
theorem l'V{Q:Value->Shared->Prop}(I:Inv X pins σ H s)(e:H a=some (.ins C dx fs))(c:Cls X.K C)(n:NoAttr X.K C f)(l:fs.lookup f=some v)(h:∀ u s',Inv X pins σ H s'->RelV v u->Q u s'):wpAny (model X.prog X.w) A (getAttr (.ref a) f b) Q E s:=by
 obtain⟨mA,O,r,_,_,_⟩:=g'q I.hok e;obtain⟨u,hu,ru⟩:=RelO.some_of (v:=v) (o:=mA f) (by rw[<- l];exact r f);exact k'k I.kIn O (c.get f) c.hd n hu (h'h ru) (h u _ (I.tok _) ru)
theorem f'O{Q:Unit->Shared->Prop}(I:Inv X pins σ H s)(e:H a=some (.ins C dx fs))(c:Cls X.K C)(n:NoAttr X.K C f)(hl:fs.length<1000)(ry:RelV y u)(h:∀ s',Inv X pins σ (upd H a (.ins C dx (ajF f y fs))) s'->Q () s'):wpAny (model X.prog X.w) A (setAttr (.ref a) f u) Q E s:=by
 obtain⟨mA,O,r,wi,_,ho⟩:=g'q I.hok e;have hz:(fs.map (·.1)).length<=sizeLine:=by rw[List.length_map,sizeLine_eq];omega
 refine s'x I.kIn O c.sa c.po n.taker c.hd wi hz λh' O' sb=>h _ ?_
 have hd:∃ o,h'.get? dx=some o:=let ⟨o,_,_,e',_⟩:=O'.ns;⟨o,e'⟩
 refine I.write (x:=a) (e:=dx) (by rw[e];exact True.intro) (.inr ho) (λb q hb z=>(sb.2 b hb).trans z) hd ?_;refine⟨by rw[a'u O.ne];exact ho,?_,O.ne,O'.obj,_,O'.ns,λg=>?_,λg hg=>?_⟩
 ·have:=f'g f y fs;omega
 ·show RelO ((ajF f y fs).lookup g) (if g=f then some u else mA g);rw[f'f];by_cases q:g=f
  ·rw[if_pos q,if_pos q];exact ry
  ·rw[if_neg q,if_neg q];exact r g
 ·by_cases q:g=f
  ·rw[q];exact (e'd f y fs).1
  ·refine (e'd f y fs).2 g (wi g λz=>hg ?_);show (if g=f then some u else mA g)=none;rw[if_neg q];exact z
theorem Inv.made(I:Inv X pins σ H s):Inv X pins σ (upd (upd H s.heap.objs.size (.own (s.heap.objs.size+1))) (s.heap.objs.size+1) (.ins C s.heap.objs.size []))
  { s with heap:=(s.heap.push W.emptyDict).push (W.instObj C s.heap.objs.size) }:=by
 have e1:(s.heap.push W.emptyDict).get? s.heap.objs.size=some W.emptyDict:=Heap.get?_push_size s.heap rfl;have e2:((s.heap.push W.emptyDict).push (W.instObj C s.heap.objs.size)).get? (s.heap.objs.size+1)=some (W.instObj C s.heap.objs.size):=by
  have:=Heap.get?_push_size (s.heap.push W.emptyDict) (o:=W.instObj C s.heap.objs.size) rfl;rwa[Heap.size_push] at this
 have e3:(s.heap.push W.emptyDict).Ns s.heap.objs.size (λ_=>none):=⟨W.emptyDict,#[],_,e1,rfl,(λe he=>absurd he (by simp)),λ_=>rfl⟩
 have I1:=I.laid (a:=s.heap.objs.size) (o:=.own (s.heap.objs.size+1)) (h':=s.heap.push W.emptyDict) (t':=s.toks) (λb u q=>Heap.get?_push_of_some _ q) (Nat.le_refl _) ⟨_,e1⟩;refine I1.laid (a:=s.heap.objs.size+1) (o:=.ins C s.heap.objs.size []) (t':=s.toks) (λb u q=>Heap.get?_push_of_some _ q) (Nat.le_of_eq (Heap.size_push _ _)) ?_;have ne:s.heap.objs.size≠s.heap.objs.size+1:=Nat.ne_of_lt (Nat.lt_succ_self _);refine⟨by rw[a'u ne,a'O],Nat.zero_le _,ne,e2,λ_=>none,(Heap.Ns1.of_empty e3).at λo q=>Heap.get?_push_of_some _ q,λ_=>True.intro,λy hy=>absurd rfl hy⟩
theorem s'y(hb:attributeBase e f env (eval e env)=eval e env)(h:wpAny (model prog w) A (eval e env) (λo s₁=>wpAny (model prog w) A (getAttr o f true) Q E s₁) E s):wpAny (model prog w) A (eval (.Attribute e f pos) env) Q E s:=
 Attribute_any_ h (by rw[arm_eval_Attribute,hb])
end
def anT(K:W.Frag)(ta tv:TE)(f:Str):TS:=λD σ H=>tv σ H λy H1=>ta σ H1 λx H2=>∃ a C dx fs,x=.ref a/\H2 a=some (.ins C dx fs)/\Cls K C/\NoAttr K C f/\fs.length<1000/\
 D.nx σ (upd H2 a (.ins C dx (ajF f y fs)))
def anU(X:Cx)(op:Operator)(rd:V->V->Hp->VK->Prop):Prop:=
 ∀(pins:List (Addr×Obj))(s:Shared)(σ:St)(H:Hp)(x y:V)(u v:Value)(Q:VK),Inv X pins σ H s->RelV x u->RelV y v->rd x y H Q->wpAny (model X.prog X.w) X.A (inplaceOp op u v) (EP X pins σ Q) X.xe s
def akz(K:W.Frag)(ta tv:TE)(rd:V->V->Hp->VK->Prop)(f:Str):TS:=λD σ H=>ta σ H λx H1=>∃ a C dx fs v,x=.ref a/\H1 a=some (.ins C dx fs)/\Cls K C/\NoAttr K C f/\fs.lookup f=some v/\
 tv σ H1 λy H2=>rd v y H2 λz H3=>∃ dx' fs',H3 a=some (.ins C dx' fs')/\fs'.length<1000/\D.nx σ (upd H3 a (.ins C dx' (ajF f z fs')))
section
variable{X:Cx}{o e value:Expr}{f:Str}{pos pos' tpos:Pos}{ta tv:TE}
theorem u'I(ha:PE X o ta)(hv:PE X value tv)(hs:swapsWith value (some (.Attribute o f pos')) pos.line X.env=pure false):PS X (.Assign [.Attribute o f pos'] value pos) (anT X.K ta tv f):=by
 intro pins s σ H D I h;refine plainObj_wpAny_Assign_Attribute (thn (hv pins s σ H _ I h) λu s1 ⟨y,H1,I1,ry,q⟩=>thn (ha pins s1 σ H1 _ I1 q) λov s2 ⟨x,H2,I2,rx,a,C,dx,fs,ex,ea,c,n,l,q2⟩=>?_) hs;subst ex;obtain rfl:ov=Value.ref a:=rx;exact f'O I2 ea c n l ry λs3 I3=>⟨σ,_,I3,q2⟩
theorem m'X(ha:PE X o ta)(hv:PE X value tv)(hop:anU X op rd):PS X (.AugAssign (.Attribute o f tpos) op value pos) (akz X.K ta tv rd f):=by
 intro pins s σ H D I h;refine wpAny_AugAssign_AttributeAny (thn (ha pins s σ H _ I h) λov s1 ⟨x,H1,I1,rx,a,C,dx,fs,v,ex,ea,c,n,l,q⟩=>?_);subst ex;obtain rfl:ov=Value.ref a:=rx;refine l'V I1 ea c n l λu s2 I2 ru=>thn (hv pins s2 σ H1 _ I2 q) λw3 s3 ⟨y,H2,I3,ry,q3⟩=>thn (hop pins s3 σ H2 v y u w3 _ I3 ru ry q3) λw4 s4 ⟨z,H3,I4,rz,dx',fs',ea',l',q4⟩=>?_
 exact f'O I4 ea' c n l' rz λs5 I5=>⟨σ,_,I5,q4⟩
def anV:V->V->Hp->VK->Prop:=λx y H Q=>∃ i j,x=.int i/\y=.int j/\Q (.int (i+j)) H
theorem u'J:anU X .Add anV:=by
 rintro pins s σ H x y u v Q I rx ry ⟨i,j,rfl,rfl,q⟩;obtain⟨t,rfl⟩:=(show ∃ t,u=Value.int i t from rx);obtain⟨t',rfl⟩:=(show ∃ t',v=Value.int j t' from ry);exact PyProof.Rows.iadd_int ⟨.int (i+j),H,I.tok _,⟨_,rfl⟩,q⟩
end
section
variable{X:Cx}{pins:List (Addr×Obj)}{σ:St}{H:Hp}{s:Shared}{A:Around}{E:Value->Shared->Prop}{Q:Value->Shared->Prop}{c:Value}{b:Bool}
inductive TyOf (K:W.Frag) (H:Hp):V->Value->Prop where
 |non:TyOf K H .non (.type "NoneType")
 |bl (x:Bool):TyOf K H (.bl x) (.type "bool")
 |int (i:Int):TyOf K H (.int i) (.type "int")
 |str (x:Str):TyOf K H (.str x) (.type "str")
 |flt (x:UInt64):TyOf K H (.flt x) (.type "float")
 |lst {a:Addr} {xs:List V} (e:H a = some (.lst xs)):TyOf K H (.ref a) (.type "list")
 |frz {a:Addr} {o:Obj} {xs:List V} (e:H a = some (.frz o (.lst xs))):TyOf K H (.ref a) (.type "list")
 |tup {a:Addr} {xs:List V} (e:H a = some (.tup xs)):TyOf K H (.ref a) (.type "tuple")
 |dK {a:Addr} {kvs:List (Key × V)} (e:H a = some (.dK kvs)):TyOf K H (.ref a) (.type "dict")
 |dT {a:Addr} {kvs:List (List Key × V)} (e:H a = some (.dT kvs)):TyOf K H (.ref a) (.type "dict")
 |ins {a C dx:Addr} {fs:List (Str × V)} (e:H a = some (.ins C dx fs)) (cl:Cls K C) (ha:W.findIn K (.ref C) "__class__" = some (some (.builtin "object.__class__")))
   (hn:W.specialIn K (.builtin "object.__class__") "__get__"=some (some (.builtin "getset_descriptor.__get__"))) (htk:W.takesIn K (.builtin "object.__class__")=some true)
   (hm:W.mroIn K C (.type "object")=some true):TyOf K H (.ref a) (.ref C)
theorem m'Y(I:Inv X pins σ H s)(rx:RelV x u)(ty:TyOf X.K H x t)(e:W.kitOne X.K t c=some b)(h:∀ tk,Q (.bool b) { s with toks:=tk }):
  wpAny (model X.prog X.w) A (call (.builtin "isinstance") [u,c]) Q E s:=by
 cases ty with
 |non=>cases (show u = Value.none from rx); exact W.kia_one W.kitx_none I.kIn True.intro e (λz=>nomatch z) h
 |bl y=>cases (show u = Value.bool y from rx); exact W.kia_one W.kitx_bool I.kIn True.intro e (λz=>nomatch z) h
 |int i=>obtain⟨t,q⟩:=(show ∃ t,u = Value.int i t from rx); cases q; exact W.kia_one W.kitx_int I.kIn True.intro e (λz=>nomatch z) h
 |str y=>obtain⟨t,q⟩:=(show ∃ t,u = Value.str y t from rx); cases q; exact W.kia_one W.kitx_str I.kIn True.intro e (λz=>nomatch z) h
 |flt y=>obtain⟨t,q⟩:=(show ∃ t,u = Value.float y t from rx); cases q; exact W.kia_one W.kitx_float I.kIn True.intro e (λz=>nomatch z) h
 |@lst a xs ea=>
  cases (show u=Value.ref a from rx);obtain⟨_,_,n,_,h1⟩:=(show ObjOk X.prog X.w H s.heap a (.lst xs) from I.hok a _ ea);exact W.kia_one W.kitx_list I.kIn ⟨_,h1,rfl⟩ e (λz=>nomatch z) h
 |@frz a ob xs ea=>
  cases (show u=Value.ref a from rx);obtain⟨_,_,_,n,_,h1⟩:=(show ObjOk X.prog X.w H s.heap a (.frz ob (.lst xs)) from I.hok a _ ea);exact W.kia_one W.kitx_list I.kIn ⟨_,h1,rfl⟩ e (λz=>nomatch z) h
 |@tup a xs ea=>
  cases (show u=Value.ref a from rx);obtain⟨_,_,_,p⟩:=(show ObjOk X.prog X.w H s.heap a (.tup xs) from I.hok a _ ea);obtain⟨o,h1,h2,_⟩:=p;exact W.kia_one W.kitx_tuple I.kIn ⟨o,h1,h2⟩ e (λz=>nomatch z) h
 |@dK a kvs ea=>
  cases (show u=Value.ref a from rx);obtain⟨_,_,vs,_,p⟩:=(show ObjOk X.prog X.w H s.heap a (.dK kvs) from I.hok a _ ea);obtain⟨o,es,ep,h1,h2,_⟩:=p;exact W.kia_one W.kitx_dict I.kIn ⟨o,h1,h2.1⟩ e (λz=>nomatch z) h
 |@dT a kvs ea=>
  cases (show u=Value.ref a from rx);obtain⟨_,_,xs,_,o,es,ep,h1,h2,_⟩:=(show ObjOk X.prog X.w H s.heap a (.dT kvs) from I.hok a _ ea);exact W.kia_one W.kitx_dict I.kIn ⟨o,h1,h2.1⟩ e (λz=>nomatch z) h
 |@ins a C dx fs ea cl ha hn htk hm=>
  cases (show u=Value.ref a from rx);obtain⟨mA,O,_⟩:=g'q I.hok ea;obtain⟨od,J,_⟩:=O.look;exact W.kia_one (W.kitx_own (cl.get _) cl.hd ha hn htk hm) I.kIn J e (λz=>nomatch z) h
end
structure Room(k:Nat)(A:Around):Prop where
 hd:A.handled=none
 dp:A.depth+3*k+5<recursionLimit
 un:A.units+16*k+200<cLine
theorem Room.mono(r:Room k A)(h:j<=k):Room j A:=⟨r.hd,by have:=r.dp;omega,by have:=r.un;omega⟩
theorem Room.deeper(r:Room (k+1) A)(env:Env):Room k (A.deeper env):=
 ⟨r.hd,by have:=r.dp;show A.depth+1+3*k+5<_;omega,by have:=r.un;show A.units+3+16*k+200<_;omega⟩
theorem l'W{A:Around}{C:Addr}{us:List Value}{kw:List (Str×Value)}:(A.under (.builtin "type.__call__" ⟨.ref C :: us,kw⟩)).depth=A.depth+1:=by
 first |rfl |simp[Around.under,Code.weight,Code.isCreation,Code.isGuard,Code.isCaller,Code.frames,Code.isFrame,guardIds]
theorem l'X{A:Around}{C:Addr}{us:List Value}{kw:List (Str×Value)}:(A.under (.builtin "type.__call__" ⟨.ref C :: us,kw⟩)).units=A.units+1:=by
 first |rfl |simp[Around.under,Code.cUnits,Code.frames,Code.isFrame]
theorem Room.make(r:Room (k+1) A)(C:Addr)(us:List Value)(kw:List (Str×Value)):Room k (A.under (.builtin "type.__call__" ⟨.ref C :: us,kw⟩)):=
 ⟨r.hd,by have:=r.dp;rw[l'W];omega,by have:=r.un;rw[l'X];omega⟩
theorem Room.depth(r:Room k A):A.depth<recursionLimit:=by have:=r.dp;omega
theorem Room.units(r:Room k A):A.units+64<cLine:=by have:=r.un;omega
def akA:TA:=λ_ H Q=>Q [] H
def ajO(ta:TE)(tr:TA):TA:=λσ H Q=>ta σ H λx H1=>tr σ H1 λxs H2=>Q (x :: xs) H2
section
variable{X:Cx}{e:Expr}{es:List Expr}{te:TE}{t:TA}{pos:Pos}
theorem b'R:PA X [] akA:=λ_ _ _ _ H Q I h=>Calls.spliced_nil ⟨[],H,I,.nil,h⟩
theorem b'y(ha:PE X e te)(hr:PA X es t)(hs:starEach (e :: es) X.env=(false,eval e X.env) :: starEach es X.env:=by rfl):PA X (e :: es) (ajO te t):=by
 intro pos pins s σ H Q I h;rw[hs];show wpAny _ _ (spliced ((false,eval e X.env) :: backTo pos (starEach es X.env))) _ _ s;refine Calls.spliced_cons (thn (ha pins s σ H _ I h) λu s1 ⟨x,H1,I1,r1,q1⟩=>?_);exact thn (hr pos pins s1 σ H1 _ I1 q1) λus s2 ⟨xs,H2,I2,r2,q2⟩=>⟨x :: xs,H2,I2,.cons r1 r2,q2⟩
def anc(t:TA):TE:=λσ H Q=>t σ H λxs H1=>xs.length<=sizeLine/\∀ p,H1 p=none->Q (.ref p) (upd H1 p (.tup xs))
def anW(t:TA):TE:=λσ H Q=>t σ H λxs H1=>xs.length<=sizeLine/\∀ p,H1 p=none->Q (.ref p) (upd H1 p (.lst xs))
theorem m'Z{x1}(h:PA X es t):PE X (.Tuple es x1 pos) (anc t):=by
 intro pins s σ H Q I hq;refine wpAny_Tuple_spliced (thn (h pos pins s σ H _ I hq) λus s1 ⟨xs,H1,I1,r,z,q⟩=>⟨by rw[<- r.length];exact z,?_⟩);have hf:H1 s1.heap.objs.size=none:=I1.hok.fresh (Nat.le_refl _);refine⟨.ref s1.heap.objs.size,upd H1 s1.heap.objs.size (.tup xs),I1.laid (t':=s1.toks) (λb u e=>Heap.get?_push_of_some _ e) (Nat.le_refl _) ?_,rfl,q _ hf⟩;exact⟨z,us,r,⟨_,Heap.get?_push_size _ rfl,rfl,_,rfl⟩⟩
theorem u'K(h:PA X es t):PE X (.List es pos) (anW t):=by
 intro pins s σ H Q I hq;refine wpAny_List_spliced (thn (h pos pins s σ H _ I hq) λus s1 ⟨xs,H1,I1,r,z,q⟩=>⟨by rw[<- r.length];exact z,?_⟩);have hf:H1 s1.heap.objs.size=none:=I1.hok.fresh (Nat.le_refl _);refine⟨.ref s1.heap.objs.size,upd H1 s1.heap.objs.size (.lst xs),I1.laid (t':=s1.toks) (λb u e=>Heap.get?_push_of_some _ e) (Nat.le_refl _) ?_,rfl,q _ hf⟩;exact⟨z,us,0,r,Heap.get?_push_size _ rfl⟩
end
abbrev Sp:=List V->Hp->VK->XK->Prop
abbrev CXT:=List Env->Hp->Shared->XK->Value->Shared->Prop
structure Env0(P:Program)(w:World)(K:W.Frag)(mg:Str->Option Value)(base:Heap)(A:Around)(outer:List Env)(s:Shared)(H:Hp):Prop where
 frames:A.frames=some outer
 mod:Mod K mg base
 bs:∀ b o,base.get? b=some o->s.heap.get? b=some o/\H b=none
 bsz:base.objs.size<=s.heap.objs.size
 funs:s.heap.FunFrames base outer
 frf:∀ b∈frs outer,H b=none
 hok:HOk P w H s.heap
 bare:AllBare s.gens
def CE(outer:List Env)(P:Program)(w:World)(H:Hp)(s:Shared)(Q:VK)(u:Value)(s':Shared):Prop:=
 ∃ v H',s'.os=s.os/\AllBare s'.gens/\Un (frs outer) [] H H' s.heap s'.heap/\HOk P w H' s'.heap/\RelV v u/\Q v H'
def CR(CX:CXT)(outer:List Env)(P:Program)(w:World)(H:Hp)(s:Shared)(Q:VK)(E:XK)(r:Result)(s':Shared):Prop:=
 match r with
 |.ok (.ret u)=>CE outer P w H s Q u s'
 |.ok _=>False
 |.error e=>CX outer H s E e s'
structure FnOk(P:Program)(w:World)(K:W.Frag)(mg:Str->Option Value)(base:Heap)(CX:CXT)(k:Nat)(f:Addr)(fd:FuncData)(ps:List Str)(sp:Sp):Prop where
 len:∀ vs H Q E,sp vs H Q E->vs.length=ps.length
 run:∀(A:Around)(outer:List Env)(s:Shared)(H:Hp)(args:Args)(us:List Value)(vs:List V)(Q:VK)(E:XK),Room k A->Env0 P w K mg base A outer s H->BindsTo s fd args (ps.zip us)->Vals vs us->sp vs H Q E->
  codeAny (model P w) A (.call (.ref f) args) (CR CX outer P w H s Q E) s
theorem FnOk.mono{P:Program}{w:World}{K:W.Frag}{mg:Str->Option Value}{base:Heap}{CX:CXT}{j k:Nat}{f:Addr}{fd:FuncData}{ps:List Str}{sp:Sp}(F:FnOk P w K mg base CX j f fd ps sp)(h:j<=k):
  FnOk P w K mg base CX k f fd ps sp:=⟨F.len,λA outer s H args us vs Q E hr=>F.run A outer s H args us vs Q E (hr.mono h)⟩
theorem FnOk.imp{P:Program}{w:World}{K:W.Frag}{mg:Str->Option Value}{base:Heap}{CX:CXT}{k:Nat}{f:Addr}{fd:FuncData}{ps:List Str}{sp sp':Sp}(F:FnOk P w K mg base CX k f fd ps sp)(h:∀ vs H Q E,sp' vs H Q E->sp vs H Q E):FnOk P w K mg base CX k f fd ps sp':=
 ⟨λvs H Q E q=>F.len vs H Q E (h _ _ _ _ q),λA outer s H args us vs Q E hr he hb hv hs=>F.run A outer s H args us vs Q E hr he hb hv (h _ _ _ _ hs)⟩
theorem Env0.make{P:Program}{w:World}{K:W.Frag}{mg:Str->Option Value}{base:Heap}{A:Around}{outer:List Env}{s:Shared}{H:Hp}(e:Env0 P w K mg base A outer s H)(C:Addr)(us:List Value)(kw:List (Str×Value)):
  Env0 P w K mg base (A.under (.builtin "type.__call__" ⟨.ref C :: us,kw⟩)) outer s H:=⟨by first |exact e.frames |(simpa [Around.under,Code.envs,Code.isFrame,pushEnvs] using e.frames),e.mod,e.bs,e.bsz,e.funs,e.frf,e.hok,e.bare⟩
section
variable{X:Cx}{pins:List (Addr×Obj)}{σ:St}{H:Hp}{s s':Shared}
theorem Inv.env0(I:Inv X pins σ H s):Env0 X.prog X.w X.K X.mg X.base X.A X.stack s H:=
 ⟨I.ok.frames,I.ok.mod,I.bs,Nat.le_trans I.ok.bsz I.sz,I.stack,I.stkFree,I.hok,I.bare⟩
theorem Inv.after(I:Inv X pins σ H s)(h:CE X.stack X.prog X.w H s Q u s'):EP X pins σ Q u s':=by
 obtain⟨v,H',os,bare,un,hok,r,q⟩:=h;obtain⟨hh,g,d,t,os'⟩:=s';obtain rfl:os'=s.os:=os;exact⟨v,H',I.call (h':=hh) (g':=g) (d':=d) (t':=t) (ch:=[]) un hok bare (λb z=>absurd z (by simp)),r,q⟩
end
def amm(sp:Sp)(dvs:List V)(E:XK)(t:TA):TE:=λσ H Q=>t σ H λvs H1=>sp (vs++dvs) H1 Q E
def Binds(K:W.Frag)(fd:FuncData)(ps:List Str)(ds:List Value):Prop:=
 ∀(s:Shared)(us:List Value),K.In s.heap->(us++ds).length=ps.length->BindsTo s fd ⟨us,[]⟩ (ps.zip (us++ds))
theorem Binds.all{K:W.Frag}{fd:FuncData}{ps:List Str}(h:∀ us:List Value,us.length=ps.length->bindArgs fd ⟨us,[]⟩=pure (ps.zip us)):Binds K fd ps []:=λs us _ hl=>by
 rw[List.append_nil] at hl ⊢;exact .of_eq (h us hl)
def ajG(CX:CXT)(X:Cx)(E:XK):Prop:=∀(pins:List (Addr×Obj))(σ:St)(H:Hp)(s:Shared)(e:Value)(s':Shared),Inv X pins σ H s->CX X.stack H s E e s'->X.xe e s'
section
variable{X:Cx}{CX:CXT}{k:Nat}{f C:Addr}{fd:FuncData}{ps:List Str}{sp:Sp}{dvs:List V}{ds:List Value}{E:XK}{x m:Str}{p pos apos:Pos}{e o:Expr}{es:List Expr}{ta:TE}{t:TA}
theorem u'L(F:FnOk X.prog X.w X.K X.mg X.base CX k f fd ps sp)(hr:Room k X.A)(hb:Binds X.K fd ps ds)(hd:Vals dvs ds)(hx:ajG CX X E)(I:Inv X pins σ H s)(r:Vals vs us)(h:sp (vs++dvs) H Q E):wpAny (model X.prog X.w) X.A (call (.ref f) us) (EP X pins σ Q) X.xe s:=by
 have r2:Vals (vs++dvs) (us++ds):=r.append hd;have hl:(us++ds).length=ps.length:=by rw[<- r2.length];exact F.len _ _ _ _ h
 refine wpAny_call (codeAny_mono (F.run X.A X.stack s H ⟨us,[]⟩ (us++ds) (vs++dvs) Q E hr I.env0 (hb s us I.kIn hl) r2 h) λr s' hq=>?_);cases r with
 |error e=>exact hx pins σ H s e s' I hq
 |ok fl=>
  cases fl with
  |ret u=>exact I.after hq
  |next=>exact False.elim hq
  |brk=>exact False.elim hq
  |cont=>exact False.elim hq
theorem s'z(F:FnOk X.prog X.w X.K X.mg X.base CX k f fd ps sp)(hr:Room k X.A)(hg:Gl X x)(hm:X.mg x=some (.ref f))(hk:W.keepIn X.K (.ref f)=true)(hb:Binds X.K fd ps ds)(hd:Vals dvs ds)(hx:ajG CX X E)(ha:PA X (e :: es) t)(hdb:(x == ("__debug__":Str))=false:=by decide)(he:starEach (e :: es) X.env=(false,eval e X.env) :: starEach es X.env:=by rfl)(hpl:(backTo pos (starEach es X.env)).any (·.1)=false:=by rfl):
  PE X (.Call (.Name x p) (e :: es) [] pos) (amm sp dvs E t):=by
 intro pins s σ H Q I h;refine wpAny_Call_Name_kw (b'V I hg hm ?_ hdb);refine W.callWith_K (h₀:=X.base) I.ok.mod.kin hk (thn (ha pos pins s σ H _ I h) λus s1 ⟨vs,H1,I1,r,q⟩=>⟨I1.kIn,?_⟩) he hpl;exact u'L F hr hb hd hx I1 r q
structure Mk(K:W.Frag)(C f:Addr):Prop where
 makes:W.makesIn K C=true
 init:W.findIn K (.ref C) "__init__"=some (some (.ref f))
 fn:W.isFn K (.ref f)=true
 kp:W.keepIn K (.ref C)=true
end
structure ahN(N P:List Str)(sc:Scope):Prop where
 kind:sc.kind=.function
 co:sc.isCoroutine=false
 gen:sc.isGenerator=false
 nd:N.Nodup
 pre:N.take P.length=P
 par:∀ x∈P,sc.names.lookup x=some .local\/sc.names.lookup x=some .cell
 nofree:∀ y∈sc.names,y.2≠.free
theorem h'i{kindOf:Str->Option NameKind}{x:Str}:∀{binds:List (Str×Value)}{m:Str->Option Value},(∀ v,(x,v) ∉ binds)->bindL kindOf binds m x=m x
 |[],_,_=>rfl
 |(n,v) :: r,m,h=>by
  unfold bindL;rw[h'i λw hw=>h w (List.mem_cons_of_mem _ hw)];split
  ·have:x≠n:=by rintro rfl;exact h v List.mem_cons_self
   simp[this]
  ·rfl
theorem h'j{kindOf:Str->Option NameKind}{x:Str}:∀{binds:List (Str×Value)}{m:Str->Option Value},(∀ v,(x,v) ∉ binds)->bindC kindOf binds m x=m x
 |[],_,_=>rfl
 |(n,v) :: r,m,h=>by
  unfold bindC;rw[h'j λw hw=>h w (List.mem_cons_of_mem _ hw)];split
  ·rfl
  ·have:x≠n:=by rintro rfl;exact h v List.mem_cons_self
   simp[this]
theorem h'k{kindOf:Str->Option NameKind}{v:Value}:∀{P:List Str}{vs:List Value}{i:Nat}{m:Str->Option Value},P.Nodup->P[i]?=some x->vs[i]?=some v->kindOf x=some .local->
  bindL kindOf (P.zip vs) m x=some v
 |[],_,_,_,_,h,_,_=>by simp at h
 |_ :: _,[],_,_,_,_,h,_=>by simp at h
 |p :: P,w :: vs,0,m,nd,h1,h2,hk=>by
  simp at h1 h2;subst h1;subst h2;show bindL kindOf ((p,w) :: P.zip vs) m p=_;unfold bindL;rw[h'i λv hv=>(List.nodup_cons.mp nd).1 (List.of_mem_zip hv).1,if_pos hk];simp
 |p :: P,w :: vs,i + 1,m,nd,h1,h2,hk=>by
  show bindL kindOf ((p,w) :: P.zip vs) m x=_;unfold bindL;exact h'k (i:=i) (List.nodup_cons.mp nd).2 (by simpa using h1) (by simpa using h2) hk
theorem h'l{kindOf:Str->Option NameKind}{v:Value}:∀{P:List Str}{vs:List Value}{i:Nat}{m:Str->Option Value},P.Nodup->P[i]?=some x->vs[i]?=some v->kindOf x≠some .local->
  bindC kindOf (P.zip vs) m x=some v
 |[],_,_,_,_,h,_,_=>by simp at h
 |_ :: _,[],_,_,_,_,h,_=>by simp at h
 |p :: P,w :: vs,0,m,nd,h1,h2,hk=>by
  simp at h1 h2;subst h1;subst h2;show bindC kindOf ((p,w) :: P.zip vs) m p=_;unfold bindC;rw[h'j λv hv=>(List.nodup_cons.mp nd).1 (List.of_mem_zip hv).1,if_neg hk];simp
 |p :: P,w :: vs,i + 1,m,nd,h1,h2,hk=>by
  show bindC kindOf ((p,w) :: P.zip vs) m x=_;unfold bindC;exact h'l (i:=i) (List.nodup_cons.mp nd).2 (by simpa using h1) (by simpa using h2) hk
def start(N:List Str)(vs:List V):St:=vs.map some++List.replicate (N.length - vs.length) none
def akB(CX:CXT)(P:Program)(w:World)(K:W.Frag)(mg:Str->Option Value)(base:Heap)(N:List Str)(qual:Str)(scope:Scope)(f:Addr)(cd:Value)(A:Around)(outer:List Env)(s:Shared)(H:Hp)(E:XK):Cx where
 prog:=P
 w:=w
 K:=K
 mg:=mg
 base:=base
 A:=A.deeper (envOfC qual scope s.heap.objs.size f cd)
 N:=N
 s₀:=s
 H₀:=H
 env:=envOfC qual scope s.heap.objs.size f cd
 outer:=outer
 stack:=envOfC qual scope s.heap.objs.size f cd :: outer
 ex:=[]
 calm:=true
 fn:=λ_=>true
 pn:=[]
 xe:=λe s'=>wpAny (model P w) (A.deeper (envOfC qual scope s.heap.objs.size f cd)) (leaving (envOfC qual scope s.heap.objs.size f cd) e) (λ_ s''=>CX outer H s E e s'') (λe' s''=>CX outer H s E e' s'') s'
theorem i'j{sc:Scope}{n:Nat}{x:Str}(h:sc.names.lookup x=some .cell):∃ c,(cellsFrom n sc.names []).lookup x=some c:=by
 have q:=W.cellsFrom_some sc.names n [] (.inl h);exact Option.isSome_iff_exists.mp q
theorem n'a{CX:CXT}{P:Program}{w:World}{K:W.Frag}{mg:Str->Option Value}{base:Heap}{N ps:List Str}{qual:Str}{scope:Scope}{f:Addr}{cd:Value}{A:Around}{outer:List Env}{s s1:Shared}{H:Hp}{E:XK}{us:List Value}{vs:List V}(S:ahN N ps scope)(hd:A.handled=none)(e0:Env0 P w K mg base A outer s H)(hl:vs.length=ps.length)(r:Vals vs us)(x:InCallC s s.heap.objs.size (bindL (envOfC qual scope s.heap.objs.size f cd).kindOf (ps.zip us) λ_=>none) (cellsFrom (s.heap.objs.size+1) scope.names []) (bindC (envOfC qual scope s.heap.objs.size f cd).kindOf (ps.zip us) λ_=>none) s1):
  Inv (akB CX P w K mg base N qual scope f cd A outer s H E) [] (start N vs) H s1:=by
 have hpl:ps.length<=N.length:=by have:=congrArg List.length S.pre;rw[List.length_take] at this;omega
 obtain⟨h1,tk,rfl,hk⟩:=x.done;have noA:∀ b:Addr,b ∉ (akB CX P w K mg base N qual scope f cd A outer s H E).ex:=λb z=>absurd (show b∈([]:List Addr) from z) (by simp)
 refine⟨⟨e0.mod,S.kind,rfl,rfl,Nat.le_refl _,λy z c h1 h2=>?_,λy hy=>?_,λy c _ h=>?_,λ_=>hd,Around.frames_deeper e0.frames,.inr ⟨rfl,rfl⟩,λb z=>absurd z (noA b),e0.bs,e0.bsz,λb _ _=>noA b,λb z=>absurd z (noA b),e0.funs,e0.frf⟩,
  rfl,e0.bare,Un.kept hk,⟨_,x.toInCall.ns,λi y v h1 h2 h3=>?_⟩,λy c h=>⟨_,x.cell y c h⟩,e0.hok.fresh (Nat.le_refl _),λy c h=>?_,λp hp=>absurd (show p∈([]:List (Addr×Obj)) from hp) (by simp),e0.hok.kept hk,?_⟩
 ·exact name_of_addr x.apart (PySem.mem_of_lookup h1) (PySem.mem_of_lookup h2)
 ·have hy:scope.names.lookup y=some .cell\/scope.names.lookup y=some .free:=hy;rcases hy with hy |hy
  ·exact i'j hy
  ·exact absurd rfl (S.nofree _ (PySem.mem_of_lookup hy))
 ·exact Nat.le_of_lt (x.above y c (PySem.mem_of_lookup h))
 ·have hi:i<vs.length:=by
   unfold start at h2;by_cases hi:i<vs.length
   ·exact hi
   ·rw[List.getElem?_append_right (by simpa using hi)] at h2;rw[List.getElem?_replicate] at h2;split at h2<;>cases h2
  have ha:vs[i]?=some v:=by
   unfold start at h2;rw[List.getElem?_append_left (by simpa using hi),List.getElem?_map] at h2;cases e:vs[i]? with
   |none=>rw[e] at h2;cases h2
   |some a=>rw[e] at h2;cases h2;rfl
  obtain⟨u,hu,rv⟩:=r.get ha;have hp:ps[i]?=some y:=by
   rw[<- S.pre,List.getElem?_take_of_lt (by omega)];exact h1
  have ndP:ps.Nodup:=by rw[<- S.pre];exact S.nd.sublist (List.take_sublist _ _)
  refine⟨u,rv,?_⟩;rcases S.par y (List.mem_of_getElem? hp) with k |k
  ·exact .inl ⟨k,h'k ndP hp hu k⟩
  ·obtain⟨c,e⟩:=i'j (n:=s.heap.objs.size+1) k;refine .inr ⟨.inl k,c,e,?_⟩;have q:=x.cell y c e;rw[h'l ndP hp hu (by show scope.names.lookup y≠_;rw[k];decide)] at q;exact q
 ·exact e0.hok.fresh (Nat.le_of_lt (x.above y c (PySem.mem_of_lookup h)))
 ·unfold start;show _=N.length;rw[List.length_append,List.length_map,List.length_replicate];omega
theorem q'X{CX:CXT}{P:Program}{w:World}{K:W.Frag}{mg:Str->Option Value}{base:Heap}{k:Nat}{f:Addr}{name qual:Str}{params:Arguments}{body:List Stmt}{scope:Scope}{dV kV doc pm cdv ct oc:Value}{an od:Option Addr}{osl:Array (Option Value)}{N ps:List Str}{sp:Sp}(lk:K.lookup f=some ⟨oc,od,.func (W.fnOf name qual params body scope dV kV doc pm an cdv ct),osl⟩)(hcd:W.codeIn K cdv qual=true)(S:ahN N ps scope)(len:∀ vs H Q E,sp vs H Q E->vs.length=ps.length)(hbody:∀(A:Around)(outer:List Env)(s:Shared)(H:Hp)(vs:List V)(Q:VK)(E:XK),Room k (A.deeper (envOfC qual scope s.heap.objs.size f cdv))->sp vs H Q E->
   ∃ t,PSs (akB CX P w K mg base N qual scope f cdv A outer s H E) body t/\t { nx:=λ_ H'=>Q .non H',rt:=Q } (start N vs) H):
  FnOk P w K mg base CX (k+1) f (W.fnOf name qual params body scope dV kV doc pm an cdv ct) ps sp:=by
 refine⟨len,λA outer s H args us vs Q E hr e0 hb r hsp=>?_⟩;have hl:=len _ _ _ _ hsp;have KX:K.In s.heap:=e0.mod.kin.keeps λb o e=>(e0.bs b o e).1
 have lim:s.heap.NoLimit:=e0.mod.nolimit.keeps λb o e=>(e0.bs b o e).1
 have hkind:∀ y∈ps.zip us,scope.names.lookup y.1=some .local\/(scope.names.lookup y.1=some .cell/\((cellsFrom (s.heap.objs.size+1) scope.names []).lookup y.1).isSome=true):=λ⟨n,v⟩ hy=>by
  rcases S.par n (List.of_mem_zip hy).1 with q |q
  ·exact .inl q
  ·exact .inr ⟨q,W.cellsFrom_some _ _ _ (.inl q)⟩
 refine codeAny_call_function hr.depth (KX _ _ lk) rfl S.co S.gen rfl (W.codeRec_of KX hcd) (hb _ _ _ _ ?_);refine wpAny_newFunctionEnv_cells S.kind hkind λenv he s1 x=>?_
 subst he;refine⟨lim.keeps x.toInCall.keep,codeAny_func ?_⟩;obtain⟨t,ht,hq⟩:=hbody A outer s H vs Q E (hr.deeper _) hsp;have I:Inv (akB CX P w K mg base N qual scope f cdv A outer s H E) [] (start N vs) H s1:=n'a S hr.hd e0 hl r x;refine wpAny_mono (ht [] s1 (start N vs) H _ I hq) (λfl s' hs=>?_) λe s' hs=>hs
 have fin:∀{σ':St}{H':Hp}{v:V}{u:Value},Inv (akB CX P w K mg base N qual scope f cdv A outer s H E) [] σ' H' s'->RelV v u->Q v H'->CE outer P w H s Q u s':=
  λ{σ' H' v u} J rv q=>⟨v,H',J.os,J.bare,J.base,J.hok,rv,q⟩
 cases fl with
 |ret u=>
  obtain⟨v,σ',H',J,rv,q⟩:=hs;exact fin J rv q
 |next=>
  obtain⟨σ',H',J,q⟩:=hs;exact fin (v:=V.non) (u:=Value.none) J rfl q
 |brk=>
  obtain⟨_,_,_,q⟩:=hs;exact False.elim q
 |cont=>
  obtain⟨_,_,_,q⟩:=hs;exact False.elim q
section
variable{X:Cx}{x:Str}{p pos:Pos}{e:Expr}{es:List Expr}{t:TA}{id T:String}{r:List V->Hp->VK->Prop}
def tCB(r:List V->Hp->VK->Prop)(t:TA):TE:=λσ H Q=>t σ H λvs H1=>r vs H1 Q
theorem f'o(hc:CallR X (.builtin id) r)(hg:Gl X x)(hm:X.mg x=none)(hv:bootBuiltins x=some (.builtin id))(ha:PA X (e :: es) t)(hn:x≠"__name__":=by decide)(hdb:(x == ("__debug__":Str))=false:=by decide)(he:starEach (e :: es) X.env=(false,eval e X.env) :: starEach es X.env:=by rfl)(hpl:(backTo pos (starEach es X.env)).any (·.1)=false:=by rfl):PE X (.Call (.Name x p) (e :: es) [] pos) (tCB r t):=by
 intro pins s σ H Q I h;refine wpAny_Call_Name_kw (f'N I hg hm hv ?_ hn hdb);exact PyProof.Rows.callWith_builtin1 (thn (ha pos pins s σ H _ I h) λus s1 ⟨vs,H1,I1,r1,q1⟩=>hc pins s1 σ H1 vs us Q I1 r1 q1) he hpl
theorem e'e(hc:CallR X (.type T) r)(hg:Gl X x)(hm:X.mg x=none)(hv:bootBuiltins x=some (.type T))(ha:PA X (e :: es) t)(hn:x≠"__name__":=by decide)(hdb:(x == ("__debug__":Str))=false:=by decide)(he:starEach (e :: es) X.env=(false,eval e X.env) :: starEach es X.env:=by rfl)(hpl:(backTo pos (starEach es X.env)).any (·.1)=false:=by rfl):PE X (.Call (.Name x p) (e :: es) [] pos) (tCB r t):=by
 intro pins s σ H Q I h;refine wpAny_Call_Name_kw (f'N I hg hm hv ?_ hn hdb);exact PyProof.Rows.callWith_type1 (thn (ha pos pins s σ H _ I h) λus s1 ⟨vs,H1,I1,r1,q1⟩=>hc pins s1 σ H1 vs us Q I1 r1 q1) he hpl
end
section
variable{κ:Type}[DecidableEq κ]
def aka(kvs:List (κ×V))(k:κ):Option V:=(kvs.find? λkv=>decide (kv.1=k)).map (·.2)
theorem i'k{p:κ×V}{r:List (κ×V)}{k:κ}(e:p.1=k):aka (p :: r) k=some p.2:=by simp[aka,List.find?_cons,e]
theorem i'l{p:κ×V}{r:List (κ×V)}{k:κ}(e:¬ p.1=k):aka (p :: r) k=aka r k:=by simp[aka,List.find?_cons,e]
theorem RelO.isSome_eq(r:RelO o u):o.isSome=u.isSome:=by
 cases o with
 |none=>cases u with
  |none=>rfl
  |some _=>exact (show False from r).elim
 |some _=>cases u with
  |none=>exact (show False from r).elim
  |some _=>rfl
theorem KV.val{kvs:List (κ×V)}{vs:List (κ×Value)}(r:KV kvs vs)(k:κ):RelO (aka kvs k) (valueAt vs k):=by
 unfold KV at r
 induction r with
 |nil=>exact True.intro
 |@cons p q ps qs h t ih=>
  obtain⟨h1,h2⟩:=h;by_cases e:p.1=k
  ·have e':q.1=k:=h1.symm.trans e;have b:valueAt (q :: qs) k=some q.2:=by simp[valueAt,List.find?_cons,e']
   rw[i'k e,b];exact h2
  ·have e':¬ q.1=k:=λz=>e (h1.trans z)
   have b:valueAt (q :: qs) k=valueAt qs k:=by simp[valueAt,List.find?_cons,e']
   rw[i'l e,b];exact ih
theorem KV.length(r:KV kvs vs):kvs.length=vs.length:=Paired.length r
end
theorem f'P(r:RelV (kV k) u):(ahW P w).is k u=true:=by
 cases k with
 |inl i=>obtain⟨t,e⟩:=(show ∃ t,u = Value.int i t from r); subst e; exact j'S P w i t
 |inr x=>obtain⟨t,e⟩:=(show ∃ t,u = Value.str x t from r); subst e; exact j'T P w x t
theorem h'm:∀{ks:List Key}{us:List Value},Vals (ks.map kV) us->ItemsAre (ahW P w) ks us
 |[],_,r=>by rw[List.map_nil] at r; cases r; exact .nil
 |k :: ks,_,r=>by
  rw[List.map_cons] at r;cases r with
  |cons h t=>exact .cons (f'P h) (h'm t)
abbrev KT(H:Hp):List (List Key×V)->List (List Key×Addr×Value)->Prop:=Paired λp q=>p.1=q.1/\H q.2.1=some (.tup (p.1.map kV))/\RelV p.2 q.2.2
theorem KT.val{H:Hp}{kvs:List (List Key×V)}{xs:List (List Key×Addr×Value)}(r:KT H kvs xs)(k:List Key):RelO (aka kvs k) ((atKey xs k).map (·.2)):=by
 induction r with
 |nil=>exact True.intro
 |@cons p q ps qs h t ih=>
  obtain⟨h1,_,h2⟩:=h;by_cases e:p.1=k
  ·have e':q.1=k:=h1.symm.trans e;have b:atKey (q :: qs) k=some q.2:=by simp[atKey,List.find?_cons,e']
   rw[i'k e,b];exact h2
  ·have e':¬ q.1=k:=λz=>e (h1.trans z)
   have b:atKey (q :: qs) k=atKey qs k:=by simp[atKey,List.find?_cons,e']
   rw[i'l e,b];exact ih
section
variable{P:Program}{w:World}{H:Hp}{h:Heap}{a:Addr}
theorem q'Y(ok:HOk P w H h)(e:Rd H a u):ObjOk P w H h a u:=e.ok ok
theorem d'A(ok:HOk P w H h)(e:Rd H a (.dK kvs)):kvs.length<=sizeLine/\(a == sysModules)=false/\∃ vs,KV kvs vs/\h.DictOf (ahW P w) a vs:=
 show ObjOk P w H h a (.dK kvs) from q'Y ok e
theorem f'Q(ok:HOk P w H h)(e:H a=some (.tup (ks.map kV))):(tupleKind (ahW P w)).is h ks a:=by
 obtain⟨_,its,r,o,h1,h2,n,h3⟩:=(show ObjOk P w H h a (.tup (ks.map kV)) from ok a _ e);exact⟨o,its.toArray,n,h1,h2,h3,by simpa using h'm r⟩
theorem h'Z(ok:HOk P w H h)(e:Rd H a (.dT kvs)):kvs.length<=sizeLine/\(a == sysModules)=false/\
  ∃ xs,KT H kvs xs/\h.DictOfH (tupleKind (ahW P w)) a xs:=by
 obtain⟨z,y,xs,r,o,es,ep,h1,h2,h3,h4,h5⟩:=(show ObjOk P w H h a (.dT kvs) from q'Y ok e);refine⟨z,y,xs,r,o,es,ep,h1,h2,h3,h4,λx hx=>?_,h5⟩;have all:∀{l:List (List Key×V)}{m:List (List Key×Addr×Value)},KT H l m->∀ x∈m,(tupleKind (ahW P w)).is h x.1 x.2.1:=by
  intro l m q
  induction q with
  |nil=>intro x hx;exact nomatch hx
  |@cons p q ps qs hq t ih=>
   intro x hx;rcases List.mem_cons.mp hx with e |hx
   ·subst e;exact f'Q ok (by rw[<- hq.1];exact hq.2.1)
   ·exact ih x hx
 exact all r x hx
end
def al6(H:Hp)(a:Addr)(y:V)(r:Option V):Prop:=
 (∃ kvs k,Rd H a (.dK kvs)/\y=kV k/\r=aka kvs k)\/∃ kvs k b,Rd H a (.dT kvs)/\y=.ref b/\H b=some (.tup (k.map kV))/\r=aka kvs k
section
variable{X:Cx}{pins:List (Addr×Obj)}{σ:St}{H:Hp}{s:Shared}{a:Addr}{y v:V}{u r:Value}{o:Option V}{A:Around}{E:Value->Shared->Prop}
theorem n'b{Q:Value->Shared->Prop}(hu:A.units+1<cLine)(I:Inv X pins σ H s)(g:al6 H a y (some v))(ry:RelV y u)(h:∀ w' s',Inv X pins σ H s'->RelV v w'->Q w' s'):
  wpAny (model X.prog X.w) A (getItem (.ref a) u) Q E s:=by
 rcases g with⟨kvs,k,e,ey,l⟩ |⟨kvs,k,b,e,ey,eb,l⟩
 ·subst ey;obtain⟨z,hd,vs,rel,dd⟩:=d'A I.hok e;obtain⟨w',hw,rw'⟩:=RelO.some_of (v:=v) (o:=valueAt vs k) (by rw[l];exact rel.val k);exact wpAny_getItem_of (f'P ry) dd.mapOf hw (h w' _ (I.tok _) rw')
 ·subst ey;cases (show u=Value.ref b from ry);obtain⟨z,hd,xs,rel,dd⟩:=h'Z I.hok e;obtain⟨w',hw,rw'⟩:=RelO.some_of (v:=v) (o:=(atKey xs k).map (·.2)) (by rw[l];exact rel.val k);obtain⟨p,hp,hp2⟩:=Option.map_eq_some_iff.mp hw;refine wpAny_getItem_heap (tupleKind_room_in1 hu) (f'Q I.hok eb) dd hp ?_;rw[hp2];exact h w' _ (I.tok _) rw'
theorem x'p{Q:Value->Shared->Prop}(hu:A.units+1<cLine)(I:Inv X pins σ H s)(g:al6 H a y o)(ry:RelV y u)(h:∀ s',Inv X pins σ H s'->Q (.bool o.isSome) s'):
  wpAny (model X.prog X.w) A (compareOp .In u (.ref a)) Q E s:=by
 rcases g with⟨kvs,k,e,ey,l⟩ |⟨kvs,k,b,e,ey,eb,l⟩
 ·subst ey;obtain⟨z,hd,vs,rel,dd⟩:=d'A I.hok e;refine wpAny_in_of (f'P ry) hd dd.mapOf ?_;rw[<- (rel.val k).isSome_eq,<- l];exact h _ (I.tok _)
 ·subst ey;cases (show u=Value.ref b from ry);obtain⟨z,hd,xs,rel,dd⟩:=h'Z I.hok e;refine wpAny_in_heap (tupleKind_room_in1 hu) (f'Q I.hok eb) hd dd ?_;have q:=(rel.val k).isSome_eq;rw[Option.isSome_map] at q;rw[<- q,<- l];exact h _ (I.tok _)
theorem s'A{Q:Value->Shared->Prop}(hu:A.units+1<cLine)(I:Inv X pins σ H s)(g:al6 H a y o)(ry:RelV y u)(h:∀ s',Inv X pins σ H s'->Q (.bool (!o.isSome)) s'):
  wpAny (model X.prog X.w) A (compareOp .NotIn u (.ref a)) Q E s:=by
 rcases g with⟨kvs,k,e,ey,l⟩ |⟨kvs,k,b,e,ey,eb,l⟩
 ·subst ey;obtain⟨z,hd,vs,rel,dd⟩:=d'A I.hok e;refine wpAny_notIn_of (f'P ry) hd dd.mapOf ?_;rw[<- (rel.val k).isSome_eq,<- l];exact h _ (I.tok _)
 ·subst ey;cases (show u=Value.ref b from ry);obtain⟨z,hd,xs,rel,dd⟩:=h'Z I.hok e;refine wpAny_notIn_heap (tupleKind_room_in1 hu) (f'Q I.hok eb) hd dd ?_;have q:=(rel.val k).isSome_eq;rw[Option.isSome_map] at q;rw[<- q,<- l];exact h _ (I.tok _)
end
section
variable{X:Cx}{pins:List (Addr×Obj)}{σ:St}{H:Hp}{s:Shared}{a:Addr}{kvs:List (Key×V)}{k:Key}{u:Value}{A:Around}{E:Value->Shared->Prop}
theorem w'Q{Q:Value->Shared->Prop}(I:Inv X pins σ H s)(e:Rd H a (.dK kvs))(h:∀ t s',Inv X pins σ H s'->Q (.int kvs.length t) s'):wpAny (model X.prog X.w) A (call (.builtin "len") [.ref a]) Q E s:=by
 obtain⟨z,hd,vs,rel,dd⟩:=d'A I.hok e;refine call_len_dict hd dd (by rw[<- rel.length];rw[sizeLine_eq] at z;omega) ?_;rw[<- rel.length];exact h _ _ (I.tok _)
end
theorem j'U(I:Inv X pins σ H s)(g:al6 H a y o):s.TypeIs (.ref a) "dict":=by
 rcases g with⟨kvs,k,e,_,_⟩ |⟨kvs,k,b,e,_,_,_⟩
 ·obtain⟨_,_,vs,_,dd⟩:=d'A I.hok e;exact dd.typeIs
 ·obtain⟨_,_,xs,_,dd⟩:=h'Z I.hok e;exact dd.typeIs
structure M1(X:Cx)(o:Expr)(m:Str)(apos:Pos)(e:Expr)(cpos:Pos):Prop where
 base:attributeBase o m X.env (eval o X.env)=eval o X.env
 few:((backTo cpos (starEach [e] X.env)).all (λx=>!x.1) && (backToKw cpos (keywordEach [] X.env)).all (λx=>x.1.isSome)
  && decide (([e]:List Expr).length+([]:List Keyword).length+(if ([]:List Keyword).isEmpty then 0 else 1)<30))=true
 line:(apos.endLine == cpos.line)=true
 trees:backTo cpos (starEach [e] X.env)=[(false,eval e X.env)]
end L2
namespace HT
open PySem PyProof.Rows
section
variable{prog:Program}{w:World}{A:Around}{E:Value->Shared->Prop}{s:Shared}
def sIx(n d:Nat):Option Int->Nat
 |none=>d
 |some v=>if v < 0 then (v + (n:Int)).toNat else min v.toNat n
theorem u'M(n d:Nat)(hd:d<=n)(o:Option Int):sIx n d o<=n:=by
 cases o with
 |none=>exact hd
 |some v=>
  show (if v<0 then (v+(n:Int)).toNat else min v.toNat n)<=n;by_cases hv:v<0
  ·rw[if_pos hv];omega
  ·rw[if_neg hv];exact Nat.min_le_right _ _
theorem k'l(v:Int)(n d:Nat):(if v<0 then max (v+(n:Int)) 0 else min v (n:Int))=((sIx n d (some v):Nat):Int):=by
 show (if v<0 then max (v+(n:Int)) 0 else min v (n:Int))=(((if v<0 then (v+(n:Int)).toNat else min v.toNat n):Nat):Int)
 by_cases hv:v<0
 ·simp only[if_pos hv];omega
 ·simp only[if_neg hv];omega
theorem l'Y(lo hi:Option Int)(n:Nat):Builtin.Slice.sliceAdjust lo hi 1 (n:Int)=(((sIx n 0 lo:Nat):Int),((sIx n n hi:Nat):Int)):=by
 have h1:¬ ((1:Int)<0):=by omega
 unfold Builtin.Slice.sliceAdjust;simp only[h1,if_false];refine Prod.ext ?_ ?_
 ·cases lo with
  |none=>rfl
  |some v=>exact k'l v n 0
 ·cases hi with
  |none=>rfl
  |some v=>exact k'l v n n
theorem l'Z(i j:Nat):Builtin.Slice.slicePlaces (i:Int) (j:Int) 1=j - i:=by
 unfold Builtin.Slice.slicePlaces;have h1:(1:Int) > 0:=by omega
 simp only[h1,if_true,Int.ediv_one];split<;>omega
theorem f'R{Q:Option Int->Shared->Prop}(p:IsPart v o)(h:Q o s):wpAny (model prog w) A (Builtin.Slice.slicePartIndex v) Q E s:=by
 cases p with
 |none=>exact slicePart_none h
 |int i t=>exact slicePart_int h
theorem f'p{sl:Addr}{vl vu:Value}{lo hi:Option Int}{n:Nat}{Q:Int×Int×Nat->Shared->Prop}(hs:s.heap.IsSliceOf sl vl vu .none)(pl:IsPart vl lo)(pu:IsPart vu hi)(h:Q (((sIx n 0 lo:Nat):Int),1,sIx n n hi - sIx n 0 lo) s):wpAny (model prog w) A (Builtin.Slice.sliceApplied (.ref sl) (pure (n:Int))) Q E s:=by
 obtain⟨os,hos,hcs,hds⟩:=id hs;unfold Builtin.Slice.sliceApplied Builtin.Slice.sliceFields;refine wpAny_bind (wpAny_bind (wpAny_field hos hds (x:=vl) rfl (wpAny_bind (wpAny_field hos hds (x:=vu) rfl (wpAny_bind (wpAny_field hos hds (x:=.none) rfl (wpAny_pure ?_)))))));refine wpAny_bind (slicePart_none ?_);show wpAny _ _ (if ((1:Int) == 0)=true then _ else _) _ _ s;rw[if_neg (by decide)];refine wpAny_bind (f'R pl (wpAny_bind (f'R pu (wpAny_bind (wpAny_pure ?_)))));show wpAny _ _ (match Builtin.Slice.sliceAdjust lo hi 1 (n:Int) with |(lo,hi)=>pure (lo,(1:Int),Builtin.Slice.slicePlaces lo hi 1)) _ _ s;rw[l'Y lo hi n];show wpAny _ _ (pure (((sIx n 0 lo:Nat):Int),(1:Int),Builtin.Slice.slicePlaces ((sIx n 0 lo:Nat):Int) ((sIx n n hi:Nat):Int) 1)) _ _ s;rw[l'Z];exact wpAny_pure h
theorem p'J(xs:Array Value)(i k:Nat):((List.range k).filterMap λ(m:Nat)=>xs[((i:Int)+(m:Int)*1).toNat]?).toArray=((xs.toList.drop i).take k).toArray:=by
 have e:(λ(m:Nat)=>xs[((i:Int)+(m:Int)*1).toNat]?)=λm=>xs[i+m]?:=by
  funext m;have:((i:Int)+(m:Int)*1).toNat=i+m:=by omega
  rw[this]
 rw[e];have:=pick_run xs i k;rw[List.filterMap_map] at this;have e2:((λx=>xs[x]?) ∘ λx=>i+x)=λm=>xs[i+m]?:=rfl
 rw[e2] at this;rw[this]
theorem getItem_tuple_cut{t sl:Addr}{items:Array Value}{vl vu:Value}{lo hi:Option Int}{Q:Value->Shared->Prop}(ht:IsTup s.heap t items)(hs:s.heap.IsSliceOf sl vl vu .none)(pl:IsPart vl lo)(pu:IsPart vu hi)(hw:¬ (sIx items.size 0 lo=0/\sIx items.size items.size hi=items.size))(h:Q (.ref s.heap.objs.size) { s with heap:=s.heap.push { cls:=.type "tuple",data:=.seq ((items.toList.drop (sIx items.size 0 lo)).take (sIx items.size items.size hi - sIx items.size 0 lo)).toArray } })(hsz:items.size<=sizeLine):wpAny (model prog w) A (getItem (.ref t) (.ref sl)) Q E s:=by
 have htake:sizeOk (.seq ((items.toList.drop (sIx items.size 0 lo)).take (sIx items.size items.size hi - sIx items.size 0 lo)).toArray):=by
  show ((items.toList.drop (sIx items.size 0 lo)).take (sIx items.size items.size hi - sIx items.size 0 lo)).toArray.size<=sizeLine;rw[List.size_toArray,List.length_take,List.length_drop,Array.length_toList];omega
 have hj:sIx items.size items.size hi<=items.size:=u'M _ _ (Nat.le_refl _) hi;obtain⟨os,hos,hcs,hds⟩:=id hs;have hTs:s.TypeIs (.ref sl) "slice":=⟨os,hos,hcs⟩
 unfold getItem
 try with_reducible refine wpAny_holding ?_
 first |refine wpAny_bind (wpAny_pure ?_) |skip
 refine wpAny_bind (wpAny_sequenceKey ht.typeIs (by decide) ?_);refine wpAny_bind (wpAny_callSpecial?_slot (name:=Str.ofString "__getitem__") ht.typeIs PyProof.Rows.slot_tuple_getitem
  (wpAny_call_entry PyProof.Rows.slot_tuple_getitem ht.typeIs entry_tuple_getitem ?_ (args_tuple_getitem _ _)))
 show wpAny _ _ (Builtin.Tuple.tupleItemsOf (.ref t) >>= _) _ _ s;refine wpAny_bind (tupleItemsOf_ ht ?_);refine wpAny_bind (wpAny_typeOf hTs ?_);rw[if_pos (by decide)];refine wpAny_bind (f'p hs pl pu ?_);have hno:¬ ((((sIx items.size 0 lo:Nat):Int) == 0 && (1:Int) == 1 && (sIx items.size items.size hi - sIx items.size 0 lo) == items.size)=true):=by
  intro q;rw[Bool.and_eq_true,Bool.and_eq_true] at q;have q1:((sIx items.size 0 lo:Nat):Int)=0:=eq_of_beq q.1.1;have q2:sIx items.size items.size hi - sIx items.size 0 lo=items.size:=eq_of_beq q.2;exact hw ⟨by omega,by omega⟩
 show wpAny _ _ (if (((sIx items.size 0 lo:Nat):Int) == 0 && (1:Int) == 1 && (sIx items.size items.size hi - sIx items.size 0 lo) == items.size)=true then _ else _) _ _ s;rw[if_neg hno,p'J];first
  |exact wpAny_bind (m:=Builtin.Tuple.tupleExact _) (wpAny_newObj_type (wpAny_pure ⟨_,rfl,wpAny_pure h⟩) htake)
  |exact wpAny_bind (m:=Builtin.Tuple.tupleExact _) (wpAny_newObj_type (wpAny_bind (wpAny_pure (wpAny_pure ⟨_,rfl,wpAny_pure h⟩))) htake)
  |exact wpAny_bind (wpAny_bind (m:=Builtin.Tuple.tupleExact _) (wpAny_newObj_type (wpAny_pure (wpAny_pure ⟨_,rfl,wpAny_pure h⟩)) htake))
  |exact wpAny_bind (wpAny_bind (m:=Builtin.Tuple.tupleExact _) (wpAny_newObj_type (wpAny_pure ⟨_,rfl,wpAny_pure h⟩) htake))
end
end HT
namespace L2
open PySem PySem.Spec PyProof.Rows
abbrev TO:=St->Hp->(Option Int->Hp->Prop)->Prop
def PO(X:Cx)(e:Option Expr)(t:TO):Prop:=
 ∀(pins:List (Addr×Obj))(s:Shared)(σ:St)(H:Hp)(Q:Option Int->Hp->Prop),Inv X pins σ H s->t σ H Q->
  wpAny (model X.prog X.w) X.A (evalPart e X.env) (λu s'=>∃ o H',Inv X pins σ H' s'/\IsPart u o/\Q o H') X.xe s
def akC:TO:=λ_ H Q=>Q none H
def alt(t:TE):TO:=λσ H Q=>t σ H λx H1=>∃ i,x=.int i/\Q (some i) H1
section
variable{X:Cx}{e:Expr}{te:TE}{lo hi:Option Expr}{tl th:TO}{pos p2:Pos}
theorem s'B:PO X none akC:=by
 intro pins s σ H Q I h;rw[evalPart_none];exact wpAny_pure ⟨none,H,I,.none,h⟩
theorem s'C(h:PE X e te):PO X (some e) (alt te):=by
 intro pins s σ H Q I hw;rw[evalPart_some];refine thn (h pins s σ H _ I hw) λu s1 ⟨x,H1,I1,r1,q1⟩=>?_
 obtain⟨i,rfl,q⟩:=q1;obtain⟨t,rfl⟩:=r1;exact⟨some i,H1,I1,.int i t,q⟩
def SlR(X:Cx)(r:V->Option Int->Option Int->Hp->VK->Prop):Prop:=
 ∀(pins:List (Addr×Obj))(s:Shared)(σ:St)(H:Hp)(x:V)(v vl vu:Value)(lo hi:Option Int)(sl:Addr)(Q:VK),Inv X pins σ H s->RelV x v->s.heap.IsSliceOf sl vl vu .none->IsPart vl lo->IsPart vu hi->r x lo hi H Q->
  ∃ T id,typeLookup (.type T) "__getitem__"=pure (some (.builtin id))/\s.TypeIs v T/\wpAny (model X.prog X.w) X.A (getItem v (.ref sl)) (EP X pins σ Q) X.xe s
theorem SlR.or{r r':V->Option Int->Option Int->Hp->VK->Prop}(h:SlR X r)(h':SlR X r'):SlR X (λx lo hi H Q=>r x lo hi H Q\/r' x lo hi H Q):=by
 intro pins s σ H x v vl vu lo hi sl Q I rx hs pl pu q;rcases q with q |q
 ·exact h pins s σ H x v vl vu lo hi sl Q I rx hs pl pu q
 ·exact h' pins s σ H x v vl vu lo hi sl Q I rx hs pl pu q
def tSl(r:V->Option Int->Option Int->Hp->VK->Prop)(te:TE)(tl th:TO):TE:=λσ H Q=>te σ H λx H1=>tl σ H1 λl H2=>th σ H2 λu H3=>r x l u H3 Q
theorem i'm(hr:SlR X r)(he:PE X e te)(hl:PO X lo tl)(hu:PO X hi th):PE X (.Subscript e (.Slice lo hi none p2) pos) (tSl r te tl th):=by
 intro pins s σ H Q I h;refine Subscript_ (thn (he pins s σ H _ I h) λv s1 ⟨x,H1,I1,r1,q1⟩=>?_);refine wpAny_Slice (thn (hl pins s1 σ H1 _ I1 q1) λvl s2 ⟨l,H2,I2,pl,q2⟩=>thn (hu pins s2 σ H2 _ I2 q2) λvu s3 ⟨u,H3,I3,pu,q3⟩=>?_);rw[evalPart_none];refine wpAny_pure ?_;have I4:Inv X pins σ H3 { s3 with heap:=s3.heap.push { cls:=.type "slice",data:=.fields #[vl,vu,.none] } }:=I3.kept (t':=s3.toks) λb ob q=>Heap.get?_push_of_some _ q
 obtain⟨T,id,hT,ht,hg⟩:=hr pins { s3 with heap:=s3.heap.push { cls:=.type "slice",data:=.fields #[vl,vu,.none] } } σ H3 x v vl vu l u s3.heap.objs.size Q I4 r1 (Heap.IsSliceOf.new ..) pl pu q3;show wpAny (model X.prog X.w) X.A (subscriptTail e (.Slice lo hi none p2) v (.ref s3.heap.objs.size)) (EP X pins σ Q) X.xe { s3 with heap:=s3.heap.push { cls:=.type "slice",data:=.fields #[vl,vu,.none] } };exact tail_any (ops:=[.ref s3.heap.objs.size,v]) ht hT hg (by with_unfolding_all rfl)
def alf(xs:List V)(lo hi:Option Int):List V:=(xs.drop (HT.sIx xs.length 0 lo)).take (HT.sIx xs.length xs.length hi - HT.sIx xs.length 0 lo)
theorem f'h(xs:List V)(lo hi:Option Int):(alf xs lo hi).length<=xs.length:=by
 unfold alf;rw[List.length_take,List.length_drop];omega
def anX(K:W.Frag):V->Option Int->Option Int->Hp->VK->Prop:=λx lo hi H Q=>∃ a xs,x=.ref a/\SqT K H a xs/\
 ¬ (HT.sIx xs.length 0 lo=0/\HT.sIx xs.length xs.length hi=xs.length)/\∀ p,H p=none->Q (.ref p) (upd H p (.tup (alf xs lo hi)))
theorem u'N:SlR X (anX X.K):=by
 intro pins s σ H x v vl vu lo hi sl Q I rx hs pl pu h;obtain⟨a,xs,rfl,hx,hw,q⟩:=h;cases rx;obtain⟨its,r,ht,hz⟩:=I.tuple hx;have hlen:its.toArray.size=xs.length:=by rw[List.size_toArray];exact r.length.symm
 refine⟨"tuple",_,PyProof.Rows.slot_tuple_getitem.lookup,ht.typeIs,?_⟩;refine HT.getItem_tuple_cut ht hs pl pu (by rw[hlen];exact hw) ?_ (by rw[hlen];exact hz);rw[hlen];refine⟨.ref s.heap.objs.size,_,I.laid (t':=s.toks) (o:=.tup (alf xs lo hi)) (λb ob q=>Heap.get?_push_of_some _ q) (Nat.le_refl _) ?_,rfl,q _ (I.hok.fresh (Nat.le_refl _))⟩;exact⟨Nat.le_trans (f'h xs lo hi) hz,_,(r.drop (HT.sIx xs.length 0 lo)).take (HT.sIx xs.length xs.length hi - HT.sIx xs.length 0 lo),IsTup.new _ _⟩
end
def ixN(n:Nat)(i:Int):Option Nat:=if 0<=i then (if i<n then some i.toNat else none) else if -(n:Int)<=i then some (i+n).toNat else none
def atI{α:Type}(xs:List α)(i:Int):Option α:=(ixN xs.length i).bind λj=>xs[j]?
theorem k'm(h:ixN n i=some j):seqIndex? i n=some j/\j<n/\-(n:Int)<=i/\i<n:=by
 unfold ixN at h;by_cases h0:0<=i
 ·rw[if_pos h0] at h;by_cases h1:i<n
  ·rw[if_pos h1] at h;have e:i.toNat=j:=Option.some.inj h;exact⟨by rw[seqIndex_of h0 h1,e],by omega,by omega,h1⟩
  ·rw[if_neg h1] at h;cases h
 ·rw[if_neg h0] at h;by_cases h1:-(n:Int)<=i
  ·rw[if_pos h1] at h;have e:(i+n).toNat=j:=Option.some.inj h;exact⟨by rw[seqIndex_neg (by omega) h1,e],by omega,h1,by omega⟩
  ·rw[if_neg h1] at h;cases h
theorem g'r(h:atI xs i=some v):∃ j,seqIndex? i xs.length=some j/\xs[j]?=some v/\j<xs.length/\-(xs.length:Int)<=i/\i<xs.length:=by
 unfold atI at h;cases e:ixN xs.length i with
 |none=>rw[e] at h; cases h
 |some j=>
  rw[e] at h;obtain⟨h1,h2,h3,h4⟩:=k'm e;exact⟨j,h1,h,h2,h3,h4⟩
def akD(b:Expr):Prop:=∀ o i,subscripted b false o i=operate [o,i] (getItem o i)
def IxR(X:Cx)(r:R2):Prop:=
 ∀(value slice:Expr)(pins:List (Addr×Obj))(s:Shared)(σ:St)(H:Hp)(x y:V)(v u:Value)(Q:VK),Inv X pins σ H s->RelV x v->RelV y u->r x y H Q->
  subscripted slice false v u=operate [v,u] (getItem v u)->wpAny (model X.prog X.w) X.A (subscriptTail value slice v u) (EP X pins σ Q) X.xe s
def MtR(X:Cx)(id:String)(r:V->List V->Hp->VK->Prop):Prop:=
 ∀(pins:List (Addr×Obj))(s:Shared)(σ:St)(H:Hp)(x:V)(xs:List V)(v:Value)(us:List Value)(Q:VK),Inv X pins σ H s->RelV x v->Vals xs us->r x xs H Q->
  wpAny (model X.prog X.w) X.A (call (.builtin id) (v :: us)) (EP X pins σ Q) X.xe s
section
variable{X:Cx}{a b:Expr}{ta tb:TE}{pos:Pos}
theorem IxR.or{r r':R2}(h:IxR X r)(h':IxR X r'):IxR X (λx y H Q=>r x y H Q\/r' x y H Q):=by
 intro value slice pins s σ H x y v u Q I rx ry q hs;rcases q with q |q
 ·exact h value slice pins s σ H x y v u Q I rx ry q hs
 ·exact h' value slice pins s σ H x y v u Q I rx ry q hs
theorem w'R(hr:IxR X r)(ha:PE X a ta)(hb:PE X b tb)(hs:akD b):PE X (.Subscript a b pos) (tOp r ta tb):=by
 intro pins s σ H Q I h;exact Subscript_ (p'G ha hb I h λv u s2 x y H2 I2 rx ry q=>hr a b pins s2 σ H2 x y v u Q I2 rx ry q (hs _ _))
def anY(K:W.Frag):R2:=λx y H Q=>∃ p xs i v,x=.ref p/\y=.int i/\SqL K H p xs/\atI xs i=some v/\Q v H
def anZ(K:W.Frag):R2:=λx y H Q=>∃ p xs i v,x=.ref p/\y=.int i/\SqT K H p xs/\atI xs i=some v/\Q v H
def an0:R2:=λx y H Q=>∃ z i c,x=.str z/\y=.int i/\z.length<=sizeLine/\atI z.cps.toList i=some c/\Q (.str ⟨#[c]⟩) H
theorem alu:IxR X (anY X.K):=by
 intro value slice pins s σ H x y v u Q I rx ry h hs;obtain⟨p,xs,i,z,rfl,rfl,hq,he,q⟩:=h;cases rx;obtain⟨t,rfl⟩:=ry;obtain⟨its,r,pl,hz⟩:=I.list hq;obtain⟨j,h1,h2,h3,h4,h5⟩:=g'r he;obtain⟨w,ew,rw'⟩:=r.get h2;have hl:=r.length;have hn:=e'c;have fin:EP X pins σ Q w s:=⟨z,H,I,rw',q⟩;by_cases h0:0<=i
 ·have hj:i.toNat=j:=by
   rw[seqIndex_of h0 h5] at h1;exact Option.some.inj h1
  exact item_listR pl.isList h0 (by omega) (by rw[hj];simpa using ew) fin hs
 ·have hj:(i+(its.toArray.size:Int)).toNat=j:=by
   rw[seqIndex_neg (by omega) h4] at h1;rw[List.size_toArray,<- hl];exact Option.some.inj h1
  exact subscriptTail_builtinR (x:=w) pl.isList.typeIs slot_list_getitem.lookup
   (wpAny_getItem_list_neg (Q:=λr s'=>r=w/\EP X pins σ Q r s') pl.isList (by omega) (by rw[List.size_toArray]<;>omega) (by omega) (by rw[hj];simpa using ew) ⟨rfl,fin⟩) hs
theorem amn:IxR X (anZ X.K):=by
 intro value slice pins s σ H x y v u Q I rx ry h hs;obtain⟨p,xs,i,z,rfl,rfl,hq,he,q⟩:=h;cases rx;obtain⟨t,rfl⟩:=ry;obtain⟨its,r,pl,hz⟩:=I.tuple hq;obtain⟨j,h1,h2,h3,h4,h5⟩:=g'r he;obtain⟨w,ew,rw'⟩:=r.get h2;have hl:=r.length;have hn:=e'c;have fin:EP X pins σ Q w s:=⟨z,H,I,rw',q⟩;exact subscriptTail_builtinR (x:=w) pl.typeIs slot_tuple_getitem.lookup
  (getItem_tuple (j:=j) (Q:=λr s'=>r=w/\EP X pins σ Q r s') pl (by omega) (by omega) (by rw[List.size_toArray,<- hl];exact h1) (by simpa using ew) ⟨rfl,fin⟩) hs
theorem u'O:IxR X an0:=by
 intro value slice pins s σ H x y v u Q I rx ry h hs;obtain⟨z,i,c,rfl,rfl,hz,he,q⟩:=h;obtain⟨t,rfl⟩:=rx;obtain⟨t',rfl⟩:=ry;obtain⟨j,h1,h2,h3,h4,h5⟩:=g'r he;have hl:z.cps.toList.length=z.length:=by simp[Str.length]
 rw[hl] at h1 h4 h5;have hn:=e'c;exact tail_any (typeIs_str s z t) slot_str_getitem.lookup (getItem_str (c:=c) (by
  have e1:decide (i < -(2 ^ 63:Int))=false:=decide_eq_false (by omega);have e2:decide (i ≥ 2 ^ 63)=false:=decide_eq_false (by omega);rw[e1,e2,Bool.or_false]) (by rw[h1];simpa using h2) ⟨.str ⟨#[c]⟩,H,I.tok _,⟨_,rfl⟩,q⟩) hs
def rIx(K:W.Frag):R2:=λx y H Q=>anY K x y H Q\/anZ K x y H Q\/an0 x y H Q
theorem amo:IxR X (rIx X.K):=alu.or (amn.or u'O)
theorem m'a(its:List Value)(n j:Nat)(u:Value):Obj.mapSeq (·.setIfInBounds j u) { cls:=.type "list",data:=.seq its.toArray n }={ cls:=.type "list",data:=.seq (its.set j u).toArray n }:=by
 simp[Obj.mapSeq]
theorem Inv.lst{H:Hp}(I:Inv X pins σ H s)(h:H p=some (.lst xs)):
  ∃(its:List Value)(n:Nat),Vals xs its/\s.heap.get? p=some { cls:=.type "list",data:=.seq its.toArray n }/\xs.length<=sizeLine:=by
 obtain⟨z,its,n,r,e⟩:=I.hok p _ h;exact⟨its,n,r,e,z⟩
theorem Inv.lstUpd{pins:List (Addr×Obj)}{σ:St}{H:Hp}{s:Shared}{p:Addr}{xs ys:List V}{its its':List Value}{n n':Nat}{f:Obj->Obj}(I:Inv X pins σ H s)(h:H p=some (.lst xs))(ho:s.heap.get? p=some { cls:=.type "list",data:=.seq its.toArray n })(hf:f { cls:=.type "list",data:=.seq its.toArray n }={ cls:=.type "list",data:=.seq its'.toArray n' })(r:Vals ys its')(hz:ys.length<=sizeLine)(t:Nat):
  Inv X pins σ (upd H p (.lst ys)) { s with heap:=s.heap.update p f,toks:=t }:=by
 have e:(s.heap.update p f).get? p=some { cls:=.type "list",data:=.seq its'.toArray n' }:=by
  rw[Heap.get?_update_self f ho (by rw[hf]<;>rfl),hf]
 refine I.write (x:=p) (e:=p) (by rw[h];trivial) (.inl rfl) (λb u hb q=>(Heap.get?_update_other _ _ (Ne.symm hb)).trans q) ⟨_,e⟩ ?_;exact⟨hz,its',n',r,e⟩
def amp:V->V->V->Hp->(Hp->Prop)->Prop:=λo i v H Q=>∃ p xs k j,o=.ref p/\i=.int k/\H p=some (.lst xs)/\ixN xs.length k=some j/\Q (upd H p (.lst (xs.set j v)))
theorem p'K:anN X amp:=by
 intro pins s σ H o i v ov iv u Q I ro ri rv h;obtain⟨p,xs,k,j,rfl,rfl,hp,hj,q⟩:=h;cases ro;obtain⟨t,rfl⟩:=ri;obtain⟨its,n,r,ho,hz⟩:=I.lst hp;obtain⟨h1,h2,h3,h4⟩:=k'm hj;have hl:=r.length;have hn:=e'c;have I':Inv X pins σ (upd H p (.lst (xs.set j v))) { s with heap:=s.heap.update p (Obj.mapSeq (·.setIfInBounds j u)) }:=
  I.lstUpd hp ho (m'a its n j u) (r.set rv j) (by rw[List.length_set];exact hz) s.toks
 by_cases h0:0<=k
 ·have hk:k.toNat=j:=by
   rw[seqIndex_of h0 h4] at h1;exact Option.some.inj h1
  exact W.ki_setAt ho h0 (by omega) (by rw[List.size_toArray,<- hl];exact h4) (by rw[hk];exact⟨_,I',q⟩)
 ·have hk:(k+(its.toArray.size:Int)).toNat=j:=by
   rw[seqIndex_neg (by omega) h3] at h1;rw[List.size_toArray,<- hl];exact Option.some.inj h1
  exact W.ki_setBack ho (by omega) (by rw[List.size_toArray,<- hl];exact h3) (by omega) (by rw[hk];exact⟨_,I',q⟩)
theorem i'n(lo hi:Option Int)(n:Nat):(sliceBounds lo hi none n).1=((HT.sIx n 0 lo:Nat):Int)/\(sliceBounds lo hi none n).2.1=((HT.sIx n n hi:Nat):Int)/\(sliceBounds lo hi none n).2.2=1:=by
 refine⟨?_,?_,rfl⟩
 ·cases lo with
  |none=>simp[sliceBounds,HT.sIx]
  |some i=>
   simp only[sliceBounds,HT.sIx,Option.getD_none,show (1:Int) > 0 by decide,if_true];by_cases h:i<0
   ·simp only[h,if_true]<;>omega
   ·simp only[h,if_false]<;>omega
 ·cases hi with
  |none=>simp[sliceBounds,HT.sIx]
  |some i=>
   simp only[sliceBounds,HT.sIx,Option.getD_none,show (1:Int) > 0 by decide,if_true];by_cases h:i<0
   ·simp only[h,if_true]<;>omega
   ·simp only[h,if_false]<;>omega
theorem h'L(its:List Value)(lo hi:Option Int):slicePick its.toArray lo hi none=((its.drop (HT.sIx its.length 0 lo)).take (HT.sIx its.length its.length hi - HT.sIx its.length 0 lo)).toArray:=by
 obtain⟨h1,h2,h3⟩:=i'n lo hi its.toArray.size;unfold slicePick;rw[h1,h2,h3];simp only[sliceRange_one,pick_run,List.size_toArray]<;>rfl
def an1(K:W.Frag):V->Option Int->Option Int->Hp->VK->Prop:=λx lo hi H Q=>∃ a xs,x=.ref a/\SqL K H a xs/\∀ p,H p=none->Q (.ref p) (upd H p (.lst (alf xs lo hi)))
theorem alv:SlR X (an1 X.K):=by
 intro pins s σ H x v vl vu lo hi sl Q I rx hs pl pu h;obtain⟨a,xs,rfl,hx,q⟩:=h;cases rx;obtain⟨its,r,ht,hz⟩:=I.list hx;have hlen:=r.length;refine⟨"list",_,slot_list_getitem.lookup,ht.isList.typeIs,?_⟩;refine wpAny_getItem_list_slice ht.isList hs pl pu .none (by simp) ?_ (by rw[List.size_toArray]<;>omega);rw[h'L,<- hlen];refine⟨.ref s.heap.objs.size,_,I.laid (t':=s.toks) (o:=.lst (alf xs lo hi)) (λb ob q=>Heap.get?_push_of_some _ q) (Nat.le_refl _) ?_,rfl,q _ (I.hok.fresh (Nat.le_refl _))⟩;exact⟨Nat.le_trans (f'h xs lo hi) hz,_,0,(r.drop (HT.sIx xs.length 0 lo)).take (HT.sIx xs.length xs.length hi - HT.sIx xs.length 0 lo),Heap.get?_push_size _ rfl⟩
def ajH:V->Bool
 |.non=>true
 |.bl _=>true
 |.int _=>true
 |.str _=>true
 |_=>false
def eqV:V->V->Bool
 |.non,.non=>true
 |.bl a,.bl b=>a == b
 |.bl a,.int b=>(if a then 1 else 0) == b
 |.int a,.bl b=>a == (if b then 1 else 0)
 |.int a,.int b=>a == b
 |.str a,.str b=>a == b
 |_,_=>false
theorem e'f(ry:RelV y u)(rx:RelV x v)(fy:ajH y=true)(fx:ajH x=true):SeqAt.EqAt A s u v (eqV y x):=by
 cases y with
 |non=>
  cases ry;cases x with
  |non=>cases rx;exact SeqAt.EqAt.same _
  |bl b=>cases rx;exact SeqAt.EqAt.none_bool b
  |int b=>obtain⟨t,rfl⟩:=rx;exact SeqAt.EqAt.none_int b t
  |str b=>obtain⟨t,rfl⟩:=rx;exact SeqAt.EqAt.none_str b t
  |_=>exact absurd (show false=true from fx) Bool.false_ne_true
 |bl a=>
  cases ry;cases x with
  |non=>cases rx;exact SeqAt.EqAt.bool_none a
  |bl b=>cases rx;exact SeqAt.EqAt.bool_bool a b
  |int b=>obtain⟨t,rfl⟩:=rx;exact SeqAt.EqAt.bool_int a b t
  |str b=>obtain⟨t,rfl⟩:=rx;exact SeqAt.EqAt.bool_str a b t
  |_=>exact absurd (show false=true from fx) Bool.false_ne_true
 |int a=>
  obtain⟨t',rfl⟩:=ry;cases x with
  |non=>cases rx;exact SeqAt.EqAt.int_none a t'
  |bl b=>cases rx;exact SeqAt.EqAt.int_bool a t' b
  |int b=>obtain⟨t,rfl⟩:=rx;exact SeqAt.EqAt.int_int a t' b t
  |str b=>obtain⟨t,rfl⟩:=rx;exact SeqAt.EqAt.int_str a t' b t
  |_=>exact absurd (show false=true from fx) Bool.false_ne_true
 |str a=>
  obtain⟨t',rfl⟩:=ry;cases x with
  |non=>cases rx;exact SeqAt.EqAt.str_none a t'
  |bl b=>cases rx;exact SeqAt.EqAt.str_bool a t' b
  |int b=>obtain⟨t,rfl⟩:=rx;exact SeqAt.EqAt.str_int a t' b t
  |str b=>obtain⟨t,rfl⟩:=rx;exact SeqAt.EqAt.str_str a t' b t
  |_=>exact absurd (show false=true from fx) Bool.false_ne_true
 |_=>exact absurd (show false = true from fy) Bool.false_ne_true
def eqU(x:V)(u:Value):Bool:=match u with
 |.none=>eqV .non x
 |.bool b=>eqV (.bl b) x
 |.int i _=>eqV (.int i) x
 |.str z _=>eqV (.str z) x
 |_=>false
theorem n'c(r:RelV y u)(f:ajH y=true):eqU x u=eqV y x:=by
 cases y with
 |non=>cases r; rfl
 |bl b=>cases r; rfl
 |int i=>obtain⟨t,rfl⟩:=r; rfl
 |str z=>obtain⟨t,rfl⟩:=r; rfl
 |_=>exact absurd (show false = true from f) Bool.false_ne_true
theorem d'h:∀{xs:List V}{us:List Value},Vals xs us->xs.all ajH=true->us.any (eqU x)=xs.any λy=>eqV y x
 |_,_,.nil,_=>rfl
 |y :: xs,u :: us,.cons r t,f=>by
  rw[List.all_cons,Bool.and_eq_true] at f;rw[List.any_cons,List.any_cons,n'c r f.1,d'h t f.2]
theorem c'F(rx:RelV x v)(fx:ajH x=true):∀{xs:List V}{us:List Value},Vals xs us->xs.all ajH=true->∀ u∈us,SeqAt.EqAt A s u v (eqU x u)
 |_,_,.nil,_=>λu hu=>by cases hu
 |y :: xs,u :: us,.cons r t,f=>λu' hu=>by
  rw[List.all_cons,Bool.and_eq_true] at f;rcases List.mem_cons.mp hu with rfl |hu
  ·rw[n'c r f.1];exact e'f r rx f.1 fx
  ·exact c'F rx fx t f.2 u' hu
def inV(x:V)(xs:List V):Bool:=xs.any λy=>eqV y x
def rIn(K:W.Frag)(neg:Bool):R2:=λx y H Q=>∃ p xs,y=.ref p/\(SqL K H p xs\/SqT K H p xs)/\ajH x=true/\xs.all ajH=true/\Q (.bl (if neg then !inV x xs else inV x xs)) H
theorem akE:OpR X (compareOp .In) (rIn X.K false):=by
 intro pins s σ H x y v u Q I rx ry h;obtain⟨p,xs,rfl,hq,fx,fs,q⟩:=h;cases ry;rcases hq with hq |hq
 ·obtain⟨its,r,pl,hz⟩:=I.list hq;refine SeqAt.in_listAt (eqU x) pl.isList (λw hw=>c'F rx fx r fs w (by simpa using hw)) ⟨.bl _,H,I,rfl,?_⟩;rw[show its.toArray.any (eqU x)=its.any (eqU x) by simp,d'h r fs];exact q
 ·obtain⟨its,r,pl,hz⟩:=I.tuple hq;refine SeqAt.in_tupleAt (eqU x) pl (λw hw=>c'F rx fx r fs w (by simpa using hw)) ⟨.bl _,H,I,rfl,?_⟩;rw[show its.toArray.any (eqU x)=its.any (eqU x) by simp,d'h r fs];exact q
theorem ajW:OpR X (compareOp .NotIn) (rIn X.K true):=by
 intro pins s σ H x y v u Q I rx ry h;obtain⟨p,xs,rfl,hq,fx,fs,q⟩:=h;cases ry;rcases hq with hq |hq
 ·obtain⟨its,r,pl,hz⟩:=I.list hq;refine SeqAt.notIn_listAt (eqU x) pl.isList (λw hw=>c'F rx fx r fs w (by simpa using hw)) ⟨.bl _,H,I,rfl,?_⟩;rw[show its.toArray.any (eqU x)=its.any (eqU x) by simp,d'h r fs];exact q
 ·obtain⟨its,r,pl,hz⟩:=I.tuple hq;refine SeqAt.notIn_tupleAt (eqU x) pl (λw hw=>c'F rx fx r fs w (by simpa using hw)) ⟨.bl _,H,I,rfl,?_⟩;rw[show its.toArray.any (eqU x)=its.any (eqU x) by simp,d'h r fs];exact q
theorem CallR.or{r r':List V->Hp->VK->Prop}(h:CallR X f r)(h':CallR X f r'):CallR X f (λxs H Q=>r xs H Q\/r' xs H Q):=by
 intro pins s σ H xs us Q I rs q;rcases q with q |q
 ·exact h pins s σ H xs us Q I rs q
 ·exact h' pins s σ H xs us Q I rs q
theorem ajX:CallR X (.type "list") (λxs H Q=>∃ p ys,xs=[.ref p]/\(SqL X.K H p ys\/SqT X.K H p ys)/\∀ l,H l=none->Q (.ref l) (upd H l (.lst ys))):=by
 intro pins s σ H xs us Q I r h;obtain⟨p,ys,rfl,hq,q⟩:=h;obtain⟨u,rfl,rx⟩:=b'E r;cases rx;have fin:∀(its:List Value),Vals ys its->ys.length<=sizeLine->∀(h':Heap)(c':Nat),(∀ b o',s.heap.get? b=some o'->h'.get? b=some o')->
   h'.get? s.heap.objs.size=some { cls:=.type "list",dict:=none,data:=.seq its.toArray c',slots:=#[] }->EP X pins σ Q (.ref s.heap.objs.size) { s with heap:=h' }:=λits r' hz h' c' kp e=>
  ⟨.ref s.heap.objs.size,_,I.laid (t':=s.toks) kp (Nat.le_refl _) (show ObjOk X.prog X.w _ h' _ (.lst ys) from ⟨hz,its,c',r',e⟩),rfl,q _ (I.hok.fresh (Nat.le_refl _))⟩
 rcases hq with hq |hq
 ·obtain⟨its,r',pl,hz⟩:=I.list hq;have hlen:=r'.length;obtain⟨o,ho,hc,n,hd⟩:=pl.isList;exact call_list_seq p (.inl rfl) ho hc hd (λh' c' kp e=>fin its r' hz h' c' kp e) (by simp only[List.size_toArray]<;>omega)
 ·obtain⟨its,r',pl,hz⟩:=I.tuple hq;have hlen:=r'.length;obtain⟨o,ho,hc,n,hd⟩:=pl;exact call_list_seq p (.inr rfl) ho hc hd (λh' c' kp e=>fin its r' hz h' c' kp e) (by simp only[List.size_toArray]<;>omega)
def tyV(K:W.Frag)(T:String)(x:V)(H:Hp):Prop:=match x with
 |.str _=>T = "str"
 |.int _=>T = "int"
 |.ref p=>(T = "list" /\ ∃ xs,SqL K H p xs) \/ (T = "tuple" /\ ∃ o,K.lookup p = some o /\ o.cls = .type "tuple" /\ o.dict = none) \/
   (T="dict"/\((∃ kvs,H p=some (.dK kvs))\/∃ kvs,H p=some (.dT kvs)))\/(T="set"/\∃ S n,H p=some (.set S n))
 |_=>False
theorem n'd(I:Inv X pins σ H s)(r:RelV x v)(ty:tyV X.K T x H):
  s.TypeIs v T/\∀ a,v=.ref a->∃ ob,s.heap.get? a=some ob/\ob.dict=none:=by
 cases x with
 |str z=>
  obtain⟨t,rfl⟩:=r;cases (show T="str" from ty);exact⟨typeIs_str s z t,λ_ e=>nomatch e⟩
 |int i=>
  obtain⟨t,rfl⟩:=r;cases (show T="int" from ty);exact⟨typeIs_int s i t,λ_ e=>nomatch e⟩
 |ref p=>
  cases r;rcases ty with⟨rfl,xs,hq⟩ |⟨rfl,o,hk,hc,hd⟩ |⟨rfl,hk⟩ |⟨rfl,S,n,hk⟩
  ·obtain⟨its,_,pl,_⟩:=I.list hq;refine⟨pl.isList.typeIs,λa e=>?_⟩;cases e;obtain⟨o,n,e,c,hd,_⟩:=pl;exact⟨o,e,hd⟩
  ·refine⟨⟨o,I.kIn p o hk,hc⟩,λa e=>?_⟩;cases e;exact⟨o,I.kIn _ o hk,hd⟩
  ·have z:∃ o,s.heap.get? p=some o/\o.ExactDict:=by
    rcases hk with⟨kvs,hk⟩ |⟨kvs,hk⟩
    ·obtain⟨_,_,_,_,o,_,_,e,ex,_⟩:=I.hok p _ hk;exact⟨o,e,ex⟩
    ·obtain⟨_,_,_,_,o,_,_,e,ex,_⟩:=I.hok p _ hk;exact⟨o,e,ex⟩
   obtain⟨o,e,ex⟩:=z;refine⟨⟨o,e,ex.1⟩,λa e2=>?_⟩;cases e2;exact⟨o,e,ex.2.1⟩
  ·obtain⟨o,_,_,_,e,ex,_⟩:=I.hok p _ hk;refine⟨⟨o,e,ex.1⟩,λa e2=>?_⟩;cases e2;exact⟨o,e,ex.2.1⟩
 |_=>exact False.elim ty
def an2(K:W.Frag)(T:String)(r:V->List V->Hp->VK->Prop)(to:TE):TE:=λσ H Q=>to σ H λx H1=>tyV K T x H1/\r x [] H1 Q
def tBM(K:W.Frag)(T:String)(r:V->List V->Hp->VK->Prop)(to:TE)(t:TA):TE:=λσ H Q=>to σ H λx H1=>tyV K T x H1/\t σ H1 λxs H2=>r x xs H2 Q
variable{o e:Expr}{es:List Expr}{to:TE}{t:TA}{name:Str}{apos cpos:Pos}{T id:String}{r:V->List V->Hp->VK->Prop}
theorem u'P(pa:PlainAttrs T)(slot:Slot T name id)(hty:typeOf (.builtin id)=pure (.type "method_descriptor"))(hm:MtR X id r)(ho:PE X o to)(hbase:attributeBase o name X.env (eval o X.env)=eval o X.env:=by rfl)(hline:(apos.endLine == cpos.line)=true:=by rfl):PE X (.Call (.Attribute o name apos) [] [] cpos) (an2 X.K T r to):=by
 intro pins s σ H Q I h;refine wpAny_Call_method0_late hbase hline (thn (ho pins s σ H _ I h) λv s1 ⟨x,H1,I1,r1,ty,q1⟩=>?_);obtain⟨h1,h2⟩:=n'd I1 r1 ty;exact⟨T,id,pa,slot,hty,h1,h2,Calls.callWith_builtin rfl (PySem.evalArgs_none (hm pins s1 σ H1 x [] v [] Q I1 r1 .nil q1))⟩
theorem q'Z(pa:PlainAttrs T)(slot:Slot T name id)(hty:typeOf (.builtin id)=pure (.type "method_descriptor"))(hm:MtR X id r)(ho:PE X o to)(ha:PA X (e :: es) t)(hbase:attributeBase o name X.env (eval o X.env)=eval o X.env:=by rfl)(hfew:((backTo cpos (starEach (e :: es) X.env)).all (λx=>!x.1) && (backToKw cpos (keywordEach [] X.env)).all (λx=>x.1.isSome)
   && decide ((e :: es).length+([]:List Keyword).length+(if ([]:List Keyword).isEmpty then 0 else 1)<30))=true:=by rfl)(hline:(apos.endLine == cpos.line)=true:=by rfl)(hs:starEach (e :: es) X.env=(false,eval e X.env) :: starEach es X.env:=by rfl)(hplain:(backTo cpos (starEach es X.env)).any (·.1)=false:=by rfl):
  PE X (.Call (.Attribute o name apos) (e :: es) [] cpos) (tBM X.K T r to t):=by
 intro pins s σ H Q I h;refine wpAny_Call_method_late hbase hfew hline rfl (thn (ho pins s σ H _ I h) λv s1 ⟨x,H1,I1,r1,ty,q1⟩=>?_);obtain⟨h1,h2⟩:=n'd I1 r1 ty;refine⟨T,id,pa,slot,hty,h1,h2,?_⟩;have hA:=ha cpos pins s1 σ H1 _ I1 q1;rw[hs] at hA ⊢;refine Calls.callWith_builtin (by show (false || (backTo cpos (starEach es X.env)).any (·.1))=false;rw[hplain]<;>rfl) (Calls.evalArgs_plain ?_);exact thn hA λus s2 ⟨vs,H2,I2,r2,q2⟩=>hm pins s2 σ H2 x vs v us Q I2 r1 r2 q2
end
def MtM(X:Cx)(id:String)(r:V->List V->Hp->VK->Prop):Prop:=
 ∀(pins:List (Addr×Obj))(s:Shared)(σ:St)(H:Hp)(x:V)(xs:List V)(v:Value)(us:List Value)(Q:VK),Inv X pins σ H s->RelV x v->Vals xs us->r x xs H Q->
  wpAny (model X.prog X.w) X.A (call (.builtin id) (v :: us)) (EP X pins σ Q) X.xe s
theorem Vals.one:∀{x:V}{us:List Value},Vals [x] us->∃ u,us=[u]/\RelV x u
 |_,_,.cons r .nil=>⟨_,rfl,r⟩
theorem Vals.zero:∀{us:List Value},Vals [] us->us=[]
 |_,.nil=>rfl
theorem Vals.dropLast(h:Vals xs us):Vals xs.dropLast us.dropLast:=by
 induction h with
 |nil=>exact .nil
 |cons r t ih=>
  cases t with
  |nil=>exact .nil
  |cons q t'=>exact .cons r ih
theorem m'b(l:List α):l.eraseIdx (l.length - 1)=l.dropLast:=by
 induction l with
 |nil=>rfl
 |cons a r ih=>
  cases r with
  |nil=>rfl
  |cons b r=>
   have e:(a :: b :: r).length - 1=((b :: r).length - 1)+1:=by
    have h1:(a :: b :: r).length=r.length+2:=rfl;have h2:(b :: r).length=r.length+1:=rfl;omega
   rw[e,List.eraseIdx_cons_succ,ih]
   all_goals rfl
section
variable{X:Cx}{pins:List (Addr×Obj)}{σ:St}{H:Hp}{s:Shared}{l b:Addr}{xs ys zs:List V}
theorem Inv.lset{its its':List Value}{n:Nat}{f:Array Value->Array Value}{t':Nat}(I:Inv X pins σ H s)(hH:H l=some (.lst xs))(e:s.heap.get? l=some { cls:=.type "list",data:=.seq its.toArray n })(hf:f its.toArray=its'.toArray)(hv:Vals ys its')(hz:ys.length<=sizeLine):
  Inv X pins σ (upd H l (.lst ys)) { s with heap:=s.heap.update l (Obj.mapSeq f),toks:=t' }:=by
 have q:=PySem.IsL.update e f;rw[hf] at q;refine I.write (x:=l) (e:=l) (by rw[hH];exact trivial) (.inl rfl) (λb' u hb hu=>(Heap.get?_update_other s.heap (Obj.mapSeq f) (Ne.symm hb)).trans hu) ⟨_,q⟩ ?_;exact⟨hz,its',_,hv,q⟩
theorem Inv.lnew(I:Inv X pins σ H s)(hv:Vals ys its)(hz:ys.length<=sizeLine):
  Inv X pins σ (upd H s.heap.objs.size (.lst ys)) { s with heap:=s.heap.push { cls:=.type "list",data:=.seq its.toArray },toks:=t' }:=
 I.laid (λ_ _ q=>Heap.get?_push_of_some _ q) (Nat.le_refl _) ⟨hz,its,0,hv,Heap.get?_push_size _ rfl⟩
theorem Inv.fresh(I:Inv X pins σ H s):H s.heap.objs.size=none:=I.hok.fresh (Nat.le_refl _)
theorem Inv.lstM(I:Inv X pins σ H s)(hH:H l=some (.lst xs)):xs.length<=sizeLine/\∃(its:List Value)(n:Nat),Vals xs its/\xs.length=its.length/\s.heap.get? l=some { cls:=.type "list",data:=.seq its.toArray n }:=by
 obtain⟨z,its,n,r,e⟩:=I.hok l _ hH;exact⟨z,its,n,r,r.length,e⟩
end
section
variable{X:Cx}
def akb:V->List V->Hp->VK->Prop:=λx vs H Q=>∃ l xs y,x=.ref l/\vs=[y]/\H l=some (.lst xs)/\xs.length<sizeLine/\Q .non (upd H l (.lst (xs++[y])))
theorem h'n:MtM X "list.append" akb:=by
 intro pins s σ H x vs v us Q I rx rv h;obtain⟨l,xs,y,rfl,rfl,hH,hz,q⟩:=h;cases rx;obtain⟨u,rfl,ru⟩:=rv.one;obtain⟨z,its,n,r,hl,e⟩:=I.lstM hH;refine call_meets F.slot_list_append ⟨_,e,rfl⟩ F.entry_list_append (F.args_list_append_2 _ _) (PySem.list_append l its.toArray n u (by rw[List.size_toArray];omega)) ⟨e,?_⟩;refine⟨.non,_,I.lset (its':=its++[u]) hH e (by simp) (r.append (.cons ru .nil)) ?_,rfl,q⟩;rw[List.length_append,List.length_singleton];omega
def an3:V->List V->Hp->VK->Prop:=λx vs H Q=>∃ l xs y,x=.ref l/\vs=[]/\H l=some (.lst xs)/\xs[xs.length - 1]?=some y/\Q y (upd H l (.lst xs.dropLast))
theorem u'Q:MtM X "list.pop" an3:=by
 intro pins s σ H x vs v us Q I rx rv h;obtain⟨l,xs,y,rfl,rfl,hH,hy,q⟩:=h;cases rx;have hus:=rv.zero;subst hus;obtain⟨z,its,n,r,hl,e⟩:=I.lstM hH;obtain⟨u,hu,ru⟩:=r.get hy;have hy':its.toArray[its.toArray.size - 1]?=some u:=by
  show its.toArray[its.length - 1]?=some u;rw[<- Array.getElem?_toList,<- hl];exact hu
 refine call_meets F.slot_list_pop ⟨_,e,rfl⟩ F.entry_list_pop (F.args_list_pop_1 _) (MeetsSeq.list_pop_last l its.toArray n u hy' (by rw[List.size_toArray];omega)) ⟨e,?_⟩;refine⟨y,_,I.lset (its':=its.dropLast) hH e ?_ r.dropLast ?_,ru,q⟩
 ·show its.toArray.eraseIdxIfInBounds (its.toArray.size - 1)=its.dropLast.toArray;rw[List.size_toArray,List.eraseIdxIfInBounds_toArray,m'b]
 ·rw[List.length_dropLast];omega
end
end L2
namespace Att
open PySem PySem.W PySem.Calls PyProof.Rows
theorem f'S:∀(ns:List Int)(vs:List Value),WellAll P h vs (ns.map WData.int)->IntsAre vs ns:=by
 intro ns
 induction ns with
 |nil=>
  intro vs w;rw[List.map_nil] at w;cases w;exact .nil
 |cons n ns ih=>
  intro vs w;rw[List.map_cons] at w;cases w with
  |cons a b=>
   cases a;exact .cons _ _ (ih _ b)
theorem n'e{l:OpenLaw}{n:Nat}(hn:l.most=some n){P:Params}{h:Heap}{args:List WData}{vals:List Value}(hpre:l.row.toRowW.claim.pre args=true)(hwl:WellAll P h vals args):
  ∃ a vs ns,vals=[Value.ref a]/\args=[WData.list (ns.map WData.int)]/\h.get? a=some { cls:=.type "list",data:=.seq vs.toArray }/\IntsAre vs ns/\ns.length<=n:=by
 have hsh:WShape.hasAll [] args [.list .int]=true:=(pre_splitW hpre).1;have hc:l.pre.holds [] { args:=args }=true:=(pre_splitW hpre).2;obtain⟨d,r,rfl,h1,h2⟩:=hasAllW_cons hsh;obtain rfl:=hasAllW_nil h2;obtain⟨xs,rfl,h3⟩:=hasW_list h1;obtain⟨ns,rfl⟩:=items_int h3;have hlen:ns.length<=n:=by
  unfold OpenLaw.pre at hc;have h4:(WTm.not (.lt (.lit (.int (n:Int))) (.len (.arg 0)))).holds [] { args:=[.list (ns.map .int)] }=true:=by
   have h4:=(holds_andW hc).1;rw[hn] at h4;exact h4
  have h5:=condW_of h4 (w_not (w_lt w_lit (w_len_list (w_arg rfl))));rw[List.length_map] at h5;refine Nat.le_of_not_lt λq=>?_
  have q':(n:Int)<((ns.length:Nat):Int):=by omega
  first
   |(rw[decide_eq_true q'] at h5;exact absurd h5 (by decide))
   |(simp at h5;omega)
 cases hwl with
 |cons w1 w2=>
  cases w2;cases w1 with
  |list ho hall=>exact⟨_,_,ns,rfl,rfl,ho,f'S ns _ hall,hlen⟩
theorem n'f(l:OpenLaw)(args:List WData):l.row.toRowW.claim.post args (.bool true) args=true:=
 postW_of (r:=l.row.toRowW) (X:=(true == true))
  (show WShape.has [] (.bool true) .bool=true by first |rfl |decide |simp[WShape.has,WShape.arms,WShape.armsAll])
  (show (WTm.eq .res (.lit (.bool true))).value [] { args:=args,res:=some (.bool true),after:=args }=some (.bool (true == true)) from w_eq_bool (w_res rfl) w_lit) rfl
theorem attach_call{l:OpenLaw}{n:Nat}{q:Program}{loose:List Str}{XP:(Str->Option Value)->Heap->Prop}{YP:World->Heap->Prop}{d:DefRec}(hn:l.most=some n)(hdf:d.params.defaults=[])(call:∀(w:World)(s₀ s₁:Shared)(mg mb:Str->Option Value)(fa:Addr)(o:Obj)(pm cd doc:Value)(a:Addr)(vs:List Value)(ns:List Int),
   Ground q loose [] XP w s₀ mg mb s₁.heap->YP w s₁.heap->
   s₁.heap.get? fa=some o->o.data=.func (docDef d.name d.params d.body d.scope pm cd doc)->s₁.heap.CodeRec cd d.name->mg d.name=some (.ref fa)->
   s₁.heap.get? a=some { cls:=.type "list",data:=.seq vs.toArray }->IntsAre vs ns->ns.length<=n->s₁.gens=#[]->
   codeAny (model l.prog w) callerA (.call (.ref fa) ⟨[.ref a],[]⟩) (λr s'=>r=.ok (.ret (.bool true))/\OldK s₁.heap s'.heap/\s'.os=s₁.os/\AllBare s'.gens) s₁):
  WalkO q loose XP YP l.row.toRowW d [] (λf vs=>PySem.call f vs):=by
 intro w s₀ s₁ mg mb G Y fa o pm cd doc dV kV ho hd hcd hD hmg hg args vals as hpre hlay hrd hwl hlo;obtain rfl:dV=.none:=Dflts.none hD hdf;obtain rfl:kV=.none:=Dflts.noKw hD;obtain⟨a,vs,ns,rfl,rfl,hobj,hints,hlen⟩:=n'e hn hpre hwl;refine enter_call (codeAny_mono (call w s₀ s₁ mg mb fa o pm cd doc a vs ns G Y ho (fd_plain hd) hcd hmg hobj hints hlen hg) λr s' hq=>?_);obtain⟨rfl,h2,h3,h4⟩:=hq;exact⟨.inl ⟨.bool true,.bool true,[],rfl,λ_=>rfl,.bool true,n'f l _,λ_=>⟨List.Pairwise.nil,λ_ hm=>(nomatch hm)⟩⟩,h2,h3,h4⟩
end Att
namespace L2
open PySem PySem.Spec PyProof.Rows
theorem h'o:∀{vs:List Value}{ns:List Int},IntsAre vs ns->Vals (ns.map V.int) vs
 |_,_,.nil=>.nil
 |_,_,.cons n t h=>.cons ⟨t,rfl⟩ (h'o h)
def ane(H:Hp):Prop:=∀ b,H b=none\/∃ o xs,H b=some (.frz o (.lst xs))
theorem p'L{P:Program}{w:World}{K:W.Frag}{mg mb:Str->Option Value}{CX:CXT}{k:Nat}{fa a:Addr}{fd:FuncData}{x:Str}{sp:Sp}{s₁:Shared}{vs:List Value}{ns:List Int}(KX:K.In s₁.heap)(hns:s₁.heap.Ns mainGlobals mg)(hb:s₁.heap.Ns builtinsNs mb)(hbb:∀ x:Str,x≠"__name__"->mb x=bootBuiltins x)(hlim:s₁.heap.NoLimit)(hg:s₁.gens=#[])(ha:s₁.heap.get? a=some { cls:=.type "list",data:=.seq vs.toArray })(hi:IntsAre vs ns)(hl:ns.length<=sizeLine)(hr:Room k callerA)(F:∀ base:Heap,K.In base->base.Ns mainGlobals mg->FnOk P w K mg base CX k fa fd [x] sp)(hbind:∀(s:Shared)(u:Value),BindsTo s fd ⟨[u],[]⟩ [(x,u)])(hsp:∀ H:Hp,ane H->SqL K H a (ns.map V.int)->sp [.ref a] H (λv _=>v=.bl true) λ_ _ _=>False)(hCX:∀ H e s',CX [] H s₁ (λ_ _ _=>False) e s'->False):
  codeAny (model P w) callerA (.call (.ref fa) ⟨[.ref a],[]⟩) (λr s'=>r=.ok (.ret (.bool true))/\OldK s₁.heap s'.heap/\s'.os=s₁.os/\AllBare s'.gens) s₁:=by
 have rv:=h'o hi;have lenV:=hi.length;have core:∀ H:Hp,ane H->SqL K H a (ns.map V.int)->HOk P w H s₁.heap->(∀ b,H b≠none->b=a)->(H a≠none->K.lookup a=none)->
   codeAny (model P w) callerA (.call (.ref fa) ⟨[.ref a],[]⟩) (λr s'=>r=.ok (.ret (.bool true))/\OldK s₁.heap s'.heap/\s'.os=s₁.os/\AllBare s'.gens) s₁:=by
  intro H hO hS hok hA hK;have base_of:∀{b:Addr}{o:Obj},s₁.heap.get? b=some o->H b=none->(ak3 s₁.heap H).get? b=some o:=λe n=>p'A e n
  have noA:∀{b:Addr}{o:Obj}{es:Array DictEntry}{ep:Nat},s₁.heap.get? b=some o->o.data=.dict es ep->H b=none:=λ{b o es ep} e d=>by
   cases q:H b with
   |none=>rfl
   |some u=>
    have e':b=a:=hA b (by rw[q];simp);subst e';rw[ha] at e;cases e;have d':Data.seq vs.toArray _=Data.dict es ep:=d;cases d'
  have nsK:∀{b:Addr}{m:Str->Option Value},s₁.heap.Ns b m->(ak3 s₁.heap H).Ns b m:=λ{b m} ⟨o,es,ep,e,d,r⟩=>⟨o,es,ep,base_of e (noA e d),d,r⟩
  have hKb:K.In (ak3 s₁.heap H):=λb o e=>base_of (KX b o e) (by
   cases q:H b with
   |none=>rfl
   |some u=>
    have e':b=a:=hA b (by rw[q];simp);subst e';rw[hK (by rw[q];simp)] at e;cases e)
  have hM:Mod K mg (ak3 s₁.heap H):=⟨hKb,nsK hns,⟨mb,nsK hb,hbb⟩,let ⟨mc,h1,h2⟩:=hlim;⟨mc,nsK h1,h2⟩⟩
  have e0:Env0 P w K mg (ak3 s₁.heap H) callerA [] s₁ H:=⟨rfl,hM,λb o e=>s'p e,Nat.le_of_eq (m'O _ _),trivial,λb hb=>absurd (show b∈([]:List Addr) from hb) (by simp),hok,.of_eq hg⟩
  refine codeAny_mono ((F _ hKb (nsK hns)).run callerA [] s₁ H ⟨[.ref a],[]⟩ [.ref a] [.ref a] _ _ hr e0 (hbind s₁ (.ref a)) (.cons rfl .nil) (hsp H hO hS)) λr s' h=>?_
  cases r with
  |error e=>exact (hCX H e s' h).elim
  |ok fl=>
   cases fl with
   |next=>exact False.elim h
   |brk=>exact False.elim h
   |cont=>exact False.elim h
   |ret u=>
    obtain⟨v,H',os,bare,un,hok',r',q⟩:=h;have q':v=.bl true:=q;subst q';obtain rfl:u=Value.bool true:=r';refine⟨rfl,OldK.of_keep λb o e=>?_,os,bare⟩;cases q:H b with
    |none=>exact un.keep b o e q (by intro z;exact absurd (show b∈([]:List Addr) from z) (by simp)) (by simp)
    |some u=>
     rcases hO b with z |⟨ob,xs,z⟩
     ·rw[q] at z;cases z
     ·have z2:=un.frzs b ob _ z;obtain⟨e1,_⟩:=hok b _ z;obtain⟨e2,_⟩:=hok' b _ z2;rw[e] at e1;cases e1;exact e2
 cases hk:K.lookup a with
 |some o=>
  have e:=KX a o hk;rw[ha] at e;cases e;refine core (λ_=>none) (λ_=>.inl rfl) (.inr ⟨_,vs.toArray,_,hk,rfl,rfl,rfl,by rw[List.size_toArray,lenV];exact hl,by simpa using rv⟩) (λb u z=>by have z':(none:Option HO)=some u:=z;cases z') (λb z=>absurd rfl z) λz=>absurd rfl z
 |none=>
  refine core (λb=>if b=a then some (.frz { cls:=.type "list",data:=.seq vs.toArray } (.lst (ns.map V.int))) else none) (λb=>?_) (.inl (.inr ⟨{ cls:=.type "list",data:=.seq vs.toArray },if_pos rfl⟩)) (λb u z=>?_) (λb z=>?_) λ_=>hk
  ·by_cases hb:b=a
   ·exact .inr ⟨_,_,if_pos hb⟩
   ·exact .inl (if_neg hb)
  ·by_cases hb:b=a
   ·have z':=(if_pos hb).symm.trans z;cases z';subst hb;exact⟨ha,by rw[List.length_map];exact hl,vs,_,rv,ha⟩
   ·have z':=(if_neg hb).symm.trans z;cases z'
  ·by_cases hb:b=a
   ·exact hb
   ·exact absurd (if_neg hb) z
theorem walk_of{l:W.OpenLaw}{n k:Nat}{q:Program}{loose:List Str}{XP:(Str->Option Value)->Heap->Prop}{YP:World->Heap->Prop}{d:DefRec}{K:Params->W.Frag}{CX:World->CXT}{sp:World->Sp}{x:Str}(hn:l.most=some n)(hn2:n<=sizeLine)(hdf:d.params.defaults=[])(hr:Room k callerA)(hY:∀(w:World)(h:Heap),YP w h->(K w.params).In h)(F:∀(w:World)(mg:Str->Option Value)(fa:Addr)(h:Heap),(K w.params).In h->h.Ns mainGlobals mg->mg d.name=some (.ref fa)->
   ∃ fd:FuncData,(∀(s:Shared)(u:Value),BindsTo s fd ⟨[u],[]⟩ [(x,u)])/\
    ∀ base:Heap,(K w.params).In base->base.Ns mainGlobals mg->FnOk l.prog w (K w.params) mg base (CX w) k fa fd [x] (sp w))(hsp:∀(w:World)(H:Hp)(a:Addr)(ns:List Int),ns.length<=n->ane H->SqL (K w.params) H a (ns.map V.int)->sp w [.ref a] H (λv _=>v=.bl true) λ_ _ _=>False)(hCX:∀(w:World)(H:Hp)(s:Shared)(e:Value)(s':Shared),CX w [] H s (λ_ _ _=>False) e s'->False):
  W.WalkO q loose XP YP l.row.toRowW d [] (λf vs=>PySem.call f vs):=by
 refine Att.attach_call hn hdf λw s₀ s₁ mg mb fa o pm cd doc a vs ns G Y ho hd hcd hmg hobj hints hlen hg=>?_
 have KX:=hY w _ Y;obtain⟨fd,hb,hF⟩:=F w mg fa _ KX G.T.g hmg;exact p'L KX G.T.g G.T.b G.T.builtins G.T.nolimit hg hobj hints (Nat.le_trans hlen hn2) hr hF hb (λH hO hS=>hsp w H a ns hlen hO hS) λH e s'=>hCX w H s₁ e s'
def inClass(s:Stmt)(j:Nat):Stmt:=match s with
 |.ClassDef _ _ _ body _ _ _ _ _ _ _=>body.getD j (.Pass ⟨0,0,0,0⟩)
 |_=>.Pass ⟨0,0,0,0⟩
def ajI(s:Stmt):Arguments:=match s with
 |.FunctionDef _ a _ _ _ _ _ _ _ _=>a
 |_=>{ posonlyargs:=[],args:=[],vararg:=none,kwonlyargs:=[],kw_defaults:=[],kwarg:=none,defaults:=[] }
def ain(s:Stmt):List Stmt:=match s with
 |.FunctionDef _ _ b _ _ _ _ _ _ _=>b
 |_=>[]
def ahM(s:Stmt):Scope:=match s with
 |.FunctionDef _ _ _ _ _ _ sc _ _ _=>sc
 |_=>{ kind:=.function,names:=[],isGenerator:=false,isCoroutine:=false }
abbrev CX0:CXT:=λ_ _ _ _ _ _=>False
abbrev E0:XK:=λ_ _ _=>False
theorem i'a:ajG CX0 X E0:=λ_ _ _ _ _ _ _ h=>h.elim
structure Fun(K:W.Frag)(x qual:Str)(st:Stmt)(f:Addr)(fd:FuncData):Prop where
 ex:∃(oc:Value)(od:Option Addr)(kV doc pm:Value)(an:Option Addr)(cdv ct:Value)(osl:Array (Option Value)),
  fd=W.fnOf x qual (ajI st) (ain st) (ahM st) .none kV doc pm an cdv ct/\K.lookup f=some ⟨oc,od,.func fd,osl⟩/\W.codeIn K cdv qual=true
 kp:W.keepIn K (.ref f)=true
section
variable{P:Program}{w:World}{K:W.Frag}{mg:Str->Option Value}{base:Heap}
theorem Fun.ok{x qual:Str}{st:Stmt}{f:Addr}{fd:FuncData}{N ps:List Str}{k:Nat}{sp:Sp}(F:Fun K x qual st f fd)(S:ahN N ps (ahM st))(len:∀ vs H Q E,sp vs H Q E->vs.length=ps.length)(hbody:∀(cdv:Value)(A:Around)(outer:List Env)(s:Shared)(H:Hp)(vs:List V)(Q:VK)(E:XK),Room k (A.deeper (envOfC qual (ahM st) s.heap.objs.size f cdv))->sp vs H Q E->
   ∃ t,PSs (akB CX0 P w K mg base N qual (ahM st) f cdv A outer s H E).nox (ain st) t/\t { nx:=λ_ H'=>Q .non H',rt:=Q } (start N vs) H):FnOk P w K mg base CX0 (k+1) f fd ps sp:=by
 obtain⟨oc,od,kV,doc,pm,an,cdv,ct,osl,rfl,lk,hcd⟩:=F.ex;refine q'X lk hcd S len λA outer s H vs Q E hr hsp=>?_
 obtain⟨t,h,q⟩:=hbody cdv A outer s H vs Q E hr hsp;exact⟨t,h.nox,q⟩
theorem Fun.binds{x qual:Str}{st:Stmt}{f:Addr}{fd:FuncData}{ps:List Str}(F:Fun K x qual st f fd)(h:∀(kV doc pm:Value)(an:Option Addr)(cdv ct:Value)(us:List Value),us.length=ps.length->bindArgs (W.fnOf x qual (ajI st) (ain st) (ahM st) .none kV doc pm an cdv ct) ⟨us,[]⟩=pure (ps.zip us)):Binds K fd ps []:=by
 obtain⟨oc,od,kV,doc,pm,an,cdv,ct,osl,rfl,lk,hcd⟩:=F.ex;exact .all (h kV doc pm an cdv ct)
theorem u'R{x qual:Str}{st:Stmt}{f:Addr}{oc:Value}{od an:Option Addr}{osl:Array (Option Value)}{kV doc pm cdv ct:Value}(l:K.lookup f=some ⟨oc,od,.func (W.fnOf x qual (ajI st) (ain st) (ahM st) .none kV doc pm an cdv ct),osl⟩)(c:W.codeIn K cdv qual=true)(k:W.keepIn K (.ref f)=true):Fun K x qual st f (W.fnOf x qual (ajI st) (ain st) (ahM st) .none kV doc pm an cdv ct):=⟨⟨oc,od,kV,doc,pm,an,cdv,ct,osl,rfl,l,c⟩,k⟩
end
theorem a'o(hr:Room k A):A.units+1<cLine:=Nat.lt_of_le_of_lt (Nat.add_le_add_left (by decide:1<=64) _) hr.units
section
variable{X:Cx}
theorem pv(i:Nat)(hN:X.N[i]?=some x:=by rfl)(hv:Vis X.env.scope x:=by first |exact Or.inl rfl |exact Or.inr (Or.inl rfl) |exact Or.inr (Or.inr rfl))(hd:(x == ("__debug__":Str))=false:=by decide)(hcd:(x == ("__classdict__":Str))=false:=by decide):PE X (.Name x pos) (ame i):=e'a hN hv hd hcd
end
def Same(H H':Hp):Prop:=∀ b o,H b=some o->H' b=some o
theorem Same.refl(H:Hp):Same H H:=λ_ _ h=>h
theorem Same.trans(a:Same H H1)(b:Same H1 H2):Same H H2:=λc o h=>b c o (a c o h)
theorem Same.free{H H':Hp}(e:Same H H')(h:H' l=Option.none):H l=Option.none:=by
 cases q:H l with
 |none=>rfl
 |some o=>
  rw[e l o q] at h;cases h
theorem Same.seq{K:W.Frag}{H H':Hp}{a:Addr}{xs:List V}(e:Same H H')(h:SqL K H a xs):SqL K H' a xs:=by
 rcases h with (h |⟨o,h⟩) |h
 ·exact .inl (.inl (e _ _ h))
 ·exact .inl (.inr ⟨o,e _ _ h⟩)
 ·exact .inr h
section
variable{X:Cx}
theorem n'g:CallR X (.builtin "len") (λxs H Q=>∃ a kvs,xs=[V.ref a]/\H a=some (.dK kvs)/\Q (.int kvs.length) H):=by
 intro pins s σ H xs us Q I r h;obtain⟨a,kvs,rfl,ha,q⟩:=h;obtain⟨u,rfl,ru⟩:=b'E r;cases ru;exact w'Q I (.inl ha) λt s' I'=>⟨.int kvs.length,H,I',⟨t,rfl⟩,q⟩
end
end L2
set_option Elab.async false
set_option linter.all false
set_option maxRecDepth 100000
set_option maxHeartbeats 4000000
namespace L2
open PySem PySem.Spec PyProof.Rows
def CMulB(i j:Int):Prop:=∃ n:Nat,n<=60000000/\i.natAbs<2 ^ n/\j.natAbs<2 ^ n
theorem k'n(h:x.natAbs<2 ^ n):Builtin.Int.intBits x<=n:=by
 unfold Builtin.Int.intBits;by_cases e:(x == 0)=true
 ·rw[if_pos e];exact Nat.zero_le _
 ·rw[if_neg e];have hx:x.natAbs≠0:=by
   intro z;have:x=0:=by omega
   rw[this] at e;exact e rfl
  exact (Nat.log2_lt hx).mpr h
theorem CMulB.ok(h:CMulB i j):IntMulOk i j:=by
 obtain⟨n,hn,h1,h2⟩:=h;have b1:=k'n h1;have b2:=k'n h2;intro z;simp only[Bool.and_eq_true,Builtin.Int.intTooBig,decide_eq_true_eq] at z;have e:(bitsLine:Nat)=134217728:=by decide
 have z2:=z.2;rw[e] at z2;omega
def akq(i j:Int):Prop:=CMul i j\/CMulB i j
def CDivB(_ j:Int):Prop:=j≠0/\j.natAbs<2 ^ 8000
theorem CDivB.ok(h:CDivB i j):Builtin.divisionGoesByPylong i j=false:=by
 refine PyProof.noPylong_of_log2 ?_;have hx:j.natAbs≠0:=by have:=h.1;omega
 have:=(Nat.log2_lt hx).mpr h.2;omega
section
variable{X:Cx}
theorem alw:OpR X (binaryOp .Mult) (rI akq λi j=>.int (i*j)):=opI λ_ _ _ _ _ _ _ hc q=>mul_int q (hc.elim CMul.ok CMulB.ok)
theorem p'M:OpR X (binaryOp .FloorDiv) (rI CDivB λi j=>.int (i.fdiv j)):=opI λ_ _ _ _ _ _ _ hc q=>floordiv_int hc.1 q (.inl hc.ok)
end
theorem i'o(h:(ahW P w).is k u=true):RelV (kV k) u:=by
 rcases a'N (k:=k) (v:=u) h with⟨i,t,rfl,rfl⟩ |⟨x,t,rfl,rfl⟩
 ·exact⟨t,rfl⟩
 ·exact⟨t,rfl⟩
theorem KV.at(r:KV kvs vs):∀{i:Nat}{k:Key}{v:V},kvs[i]?=some (k,v)->∃ u,vs[i]?=some (k,u)/\RelV v u:=by
 unfold KV at r
 induction r with
 |nil=>intro i k v h; simp at h
 |@cons p q ps qs h t ih=>
  intro i k v e;cases i with
  |zero=>
   simp at e;subst e;have e1:k=q.1:=h.1;exact⟨q.2,by rw[e1];rfl,h.2⟩
  |succ i=>simpa using ih (i:=i) (k:=k) (v:=v) (by simpa using e)
section
variable{X:Cx}
theorem m'c(hc:X.calm=true):CallR X (.type "list") (λxs H Q=>∃ a kvs,xs=[.ref a]/\Rd H a (.dK kvs)/\∀ p,H p=none->Q (.ref p) (upd H p (.lst (kvs.map λkv=>kV kv.1)))):=by
 intro pins s σ H xs us Q I r h;obtain⟨a,kvs,rfl,ha,q⟩:=h;obtain⟨u,rfl,ru⟩:=b'E r;cases ru;obtain⟨z,y,vs,rel,dd⟩:=d'A I.hok ha;obtain⟨ep,hat⟩:=dd.dictAt;have hl:kvs.length=vs.length:=KV.length rel;refine W.kdl_call (W.kdl_dict (knd:=ahW X.prog X.w) (kvs:=vs) (ep:=ep) y) (I.ok.hd hc) hat (by rw[<- hl];exact z) λh' tk acc' c' hk hS hacc=>?_
 have hfr:H s.heap.objs.size=none:=I.hok.fresh (Nat.le_refl _);refine⟨.ref s.heap.objs.size,_,I.laid (a:=s.heap.objs.size) (o:=.lst (kvs.map λkv=>kV kv.1)) (h':=h') (t':=tk) hk (Nat.le_refl _) ⟨by rw[List.length_map];exact z,acc'.toList,c',?_,by simpa using hS⟩,rfl,q _ hfr⟩;have hn:acc'.toList.length=vs.length:=by rw[Array.length_toList];exact hacc.1
 have gen:∀(kvs:List (Key×V))(us:List Value),us.length=kvs.length->(∀(j:Nat) k v u,kvs[j]?=some (k,v)->us[j]?=some u->RelV (kV k) u)->Vals (kvs.map λkv=>kV kv.1) us:=by
  intro kvs
  induction kvs with
  |nil=>intro us e _;cases us with
   |nil=>exact .nil
   |cons _ _=>simp at e
  |cons p r ih=>
   intro us e f;cases us with
   |nil=>simp at e
   |cons u us=>
    refine .cons (f 0 p.1 p.2 u rfl rfl) (ih us (by simpa using e) λj k v w h1 h2=>f (j+1) k v w (by simpa using h1) (by simpa using h2))
 refine gen kvs acc'.toList (by rw[hn,hl]) λj k v u h1 h2=>?_
 obtain⟨k',x,hx,hkey⟩:=hacc.2 j u (by rw[<- Array.getElem?_toList];exact h2);obtain⟨u',hu',_⟩:=rel.at h1;rw[hu'] at hx;cases hx;exact i'o hkey
def amq:V->Option Value
 |.ty n=>some (.type n)
 |.ref a=>some (.ref a)
 |_=>none
theorem i'p:CallR X (.builtin "isinstance") (λxs H Q=>∃ x c t b u,xs=[x,c]/\TyOf X.K H x t/\amq c=some u/\W.kitOne X.K t u=some b/\Q (.bl b) H):=by
 intro pins s σ H xs us Q I r h;obtain⟨x,c,t,b,u,rfl,ty,rc,e,q⟩:=h;obtain⟨v,w',rfl,rx,rw'⟩:=h'Y r;have ew:w'=u:=by
  cases c with
  |ref a=>cases rc;exact rw'
  |ty n=>cases rc;exact rw'
  |non=>cases rc
  |bl n=>cases rc
  |int i=>cases rc
  |str i=>cases rc
  |byt i=>cases rc
  |flt i=>cases rc
 subst ew;exact m'Y I rx ty e λtk=>⟨.bl b,H,I.tok tk,rfl,q⟩
end
theorem b'J(A:Around):A.in1.units=A.units+1:=rfl
section
variable{σ:St}{H:Hp}{Q:VK}{D:aky}{K:W.Frag}
theorem Same.upd(h:H a=none):Same H (upd H a o):=λb u e=>by rw[a'u (a'E e h)];exact e
theorem Same.tup(e:Same H H')(h:SqT K H a xs):SqT K H' a xs:=by
 rcases h with (h |⟨o,h⟩) |h
 ·exact .inl (.inl (e _ _ h))
 ·exact .inl (.inr ⟨o,e _ _ h⟩)
 ·exact .inr h
theorem Same.rd(e:Same H H')(h:Rd H a u):Rd H' a u:=by
 rcases h with h |⟨o,h⟩
 ·exact .inl (e _ _ h)
 ·exact .inr ⟨o,e _ _ h⟩
end
section
variable{σ:St}{H:Hp}{Q:VK}{D:aky}{K:W.Frag}{X:Cx}
theorem Same.updN(e:Same H H')(n:H a=none):Same H (L2.upd H' a o):=λb u q=>by rw[a'u (a'E q n)];exact e b u q
theorem an4{t:TE}{R:Option Int->Hp->Prop}(h:t σ H λx H1=>∃ i,x=.int i/\R (some i) H1):alt t σ H R:=h
end
end L2
namespace Sf
def gd(a b:Int):Int:=(Int.gcd a b:Nat)
theorem k'o(a:Int)(h:0<=a):gd a 0=a:=by
 unfold gd;rw[Int.gcd_zero_right];omega
theorem n'h(ha:0<=a)(hb:0<b):gd b (a % b)=gd a b:=by
 unfold gd Int.gcd;have e:(a % b).natAbs=a.natAbs % b.natAbs:=by
  obtain⟨m,rfl⟩:=Int.eq_ofNat_of_zero_le ha;obtain⟨n,rfl⟩:=Int.eq_ofNat_of_zero_le (Int.le_of_lt hb);simp only[Int.natAbs_natCast];rw[<- Int.natCast_emod,Int.natAbs_natCast]
 rw[e,Nat.gcd_comm b.natAbs,Nat.gcd_comm a.natAbs,Nat.gcd_rec b.natAbs a.natAbs]
theorem d'i(h:b≠0):0<gd a b:=by
 unfold gd;have:=Int.gcd_pos_of_ne_zero_right a h;omega
theorem f'T(a b:Int):gd (a.natAbs:Int) (b.natAbs:Int)=gd a b:=by
 unfold gd;simp[Int.gcd]
theorem f'U(a:Int):(if a<0 then -a else a)=(a.natAbs:Int):=by split<;>omega
theorem s'D(a b:Int):gd (if a<0 then -a else a) (if b<0 then -b else b)=gd a b:=by
 rw[f'U,f'U,f'T]
def dv(t b:Int):Int:=if b<0 then -(gd t b) else gd t b
theorem r'a(h:b≠0):dv t b≠0:=by
 have:=d'i (a:=t) h;unfold dv;split<;>omega
theorem f'q(t b:Int):gd t b ∣ t:=Int.gcd_dvd_left ..
theorem d'B(t b:Int):gd t b ∣ b:=Int.gcd_dvd_right ..
theorem p'N(t b:Int):dv t b ∣ t:=by
 unfold dv;split
 ·exact Int.neg_dvd.mpr (f'q t b)
 ·exact f'q t b
theorem p'O(t b:Int):dv t b ∣ b:=by
 unfold dv;split
 ·exact Int.neg_dvd.mpr (d'B t b)
 ·exact d'B t b
theorem r'b{x d:Int}(h:d ∣ x):x.fdiv d*d=x:=by
 rw[Int.fdiv_mul_cancel h]
theorem i'q{t b:Int}(h:b≠0):t.fdiv (dv t b)=(Rat.divInt t b).num:=by
 have hd:=r'a (t:=t) h;refine Int.eq_of_mul_eq_mul_right hd ?_;rw[r'b (p'N t b),Rat.num_divInt];have e:b.gcd t=t.gcd b:=Int.gcd_comm ..;rw[e];have hg:((t.gcd b:Nat):Int) ∣ t:=Int.gcd_dvd_left ..;have hp:=d'i (a:=t) h;unfold gd at hp;unfold dv gd;rw[Int.mul_ediv_assoc _ hg];obtain⟨k,hk⟩:=hg;generalize hG:((t.gcd b:Nat):Int)=g at *;have hk2:t / g=k:=by rw[hk];exact Int.mul_ediv_cancel_left k (by omega)
 rw[hk2];split
 ·rename_i hb;rw[Int.sign_eq_neg_one_of_neg hb];grind
 ·rename_i hb;rw[Int.sign_eq_one_of_pos (by omega)];grind
theorem i'r{t b:Int}(h:b≠0):b.fdiv (dv t b)=((Rat.divInt t b).den:Int):=by
 have hd:=r'a (t:=t) h;refine Int.eq_of_mul_eq_mul_right hd ?_;rw[r'b (p'O t b),Rat.den_divInt,if_neg h];have e:b.gcd t=t.gcd b:=Int.gcd_comm ..;rw[e];have hg:(t.gcd b) ∣ b.natAbs:=by rw[<- Int.ofNat_dvd_left];exact Int.gcd_dvd_right ..
 have hp:=d'i (a:=t) h;unfold gd at hp;unfold dv gd;obtain⟨k,hk⟩:=hg;have hk2:b.natAbs / t.gcd b=k:=by rw[hk];exact Nat.mul_div_cancel_left k (by omega)
 rw[hk2];generalize t.gcd b=g at *;have hk3:(b.natAbs:Int)=(g:Int)*(k:Int):=by rw[hk];exact Int.natCast_mul ..
 split<;>grind
end Sf
namespace Sf
def Sm(n:Nat)(q:Rat):Prop:=q.num.natAbs<2 ^ n/\q.den<2 ^ n
theorem h'p(h:b≠0):(Rat.divInt t b).num.natAbs<=t.natAbs/\(Rat.divInt t b).den<=b.natAbs:=by
 obtain⟨m,hm,e1,e2⟩:=Rat.divInt_num_den (n:=t) (d:=b) h (n':=(Rat.divInt t b).num) (d':=(Rat.divInt t b).den) (z':=(Rat.divInt t b).den_nz) (c:=(Rat.divInt t b).reduced) rfl;have hm1:1<=m.natAbs:=by omega
 have a1:=congrArg Int.natAbs e1;have a2:=congrArg Int.natAbs e2;rw[Int.natAbs_mul] at a1 a2;rw[Int.natAbs_natCast] at a2;constructor
 ·rw[a1];exact Nat.le_mul_of_pos_right _ hm1
 ·rw[a2];exact Nat.le_mul_of_pos_right _ hm1
theorem n'i(h:b≠0)(h1:t.natAbs<2 ^ n)(h2:b.natAbs<2 ^ n):Sm n (Rat.divInt t b):=
 ⟨Nat.lt_of_le_of_lt (h'p h).1 h1,Nat.lt_of_le_of_lt (h'p h).2 h2⟩
end Sf
namespace Sf
section
variable{κ:Type}[DecidableEq κ]
abbrev FL(κ:Type):=List (κ×Rat)
def gt(m:FL κ)(k:κ):Option Rat:=(m.find? λp=>decide (p.1=k)).map (·.2)
def sc(m:FL κ)(n:Rat):FL κ:=m.map λp=>(p.1,p.2*n)
def run(P:κ->Rat)(r:Rat)(m:FL κ):Rat:=m.foldl (λt p=>t+p.2*P p.1) r
end
end Sf
namespace Vc
open PySem L2 Sf
def Le(F F':Hp):Prop:=∀ a u,(∀ o w,u≠.frz o w)->Rd F a u->Rd F' a u
theorem Le.refl(F:Hp):Le F F:=λ_ _ _ h=>h
theorem Le.trans(a:Le F G)(b:Le G H):Le F H:=λx u n h=>b x u n (a x u n h)
theorem Le.of(e:Same F F'):Le F F':=λa u _ h=>e.rd h
theorem Le.tup(e:Le F F')(h:SqT K F a xs):SqT K F' a xs:=by
 rcases h with h |h
 ·exact .inl (e _ _ (by intro o w z;cases z) h)
 ·exact .inr h
theorem Le.lst(e:Le F F')(h:SqL K F a xs):SqL K F' a xs:=by
 rcases h with h |h
 ·exact .inl (e _ _ (by intro o w z;cases z) h)
 ·exact .inr h
theorem Le.dic(e:Le F F')(h:Rd F a (.dK kvs)):Rd F' a (.dK kvs):=e _ _ (by intro o w z;cases z) h
def Fz(S:Addr->Prop)(F:Hp):Prop:=∀ a o u,F a=some (.frz o u)->S a
abbrev S0:Addr->Prop:=λ_=>False
def anf(F:Hp):Addr->Prop:=λa=>∃ o u,F a=some (.frz o u)
structure Gr0(F H F' H':Hp):Prop where
 h:Same H H'
 f:Same F F'
 s:Same F' H'
 n:∀ a u,F' a=some u->F a=none->H a=none
structure Gr(F H F' H':Hp):Prop extends Gr0 F H F' H' where
 z:Fz (anf F) F'
theorem Gr0.refl(s:Same F H):Gr0 F H F H:=⟨Same.refl _,Same.refl _,s,(λa u h e=>by rw[h] at e;cases e)⟩
theorem Fz.refl(F:Hp):Fz (anf F) F:=λ_ o u h=>⟨o,u,h⟩
theorem Gr.of(g:Gr0 F H F' H')(z:Fz (anf F) F'):Gr F H F' H':=⟨g,z⟩
theorem Gr.le(g:Gr F H F' H'):Le F F':=.of g.f
theorem Gr.fz(g:Gr F H F' H')(c:Fz S F):Fz S F':=λa o u h=>by
 obtain⟨o',u',e⟩:=g.z a o u h;exact c a o' u' e
theorem Gr0.trans(a:Gr0 F H F1 H1)(b:Gr0 F1 H1 F2 H2):Gr0 F H F2 H2:=
 ⟨a.h.trans b.h,a.f.trans b.f,b.s,(λx u h e=>match q:F1 x with
  |none=>a.h.free (b.n x u h q)
  |some w=>a.n x w q e)⟩
theorem Gr0.tr(a:Gr0 F H F1 H1)(b:Gr F1 H1 F2 H2):Gr0 F H F2 H2:=a.trans b.toGr0
theorem Gr.own{F H F' H':Hp}(g:Gr F H F' H')(eF:F o=none)(eH:H o=some u):F' o=none:=by
 cases q:F' o with
 |none=>rfl
 |some w=>have:=g.n o w q eF; rw[eH] at this; cases this
theorem al{F H:Hp}{R:V->Hp->Prop}(wd:Same F H)(nf:∀ x u,o≠.frz x u)(h:∀(p:Addr)(F' H':Hp),Gr F H F' H'->F' p=some o->R (.ref p) H'):∀ p,H p=none->R (.ref p) (upd H p o):=λp hp=>by
 have fp:F p=none:=wd.free hp;refine h p (upd F p o) (upd H p o) ⟨⟨Same.upd hp,Same.upd fp,?_,λa u e q=>?_⟩,λa x u e=>?_⟩ a'O
 ·intro b u e;by_cases hb:b=p
  ·subst hb;rw[a'O] at e ⊢;exact e
  ·rw[a'u hb] at e ⊢;exact wd b u e
 ·by_cases hb:a=p
  ·subst hb;exact hp
  ·rw[a'u hb,q] at e;cases e
 ·by_cases hb:a=p
  ·subst hb;rw[a'O] at e;exact absurd (Option.some.inj e) (nf x u)
  ·rw[a'u hb] at e;exact⟨_,_,e⟩
theorem al1{F H:Hp}{R:Hp->Prop}(wd:Same F H)(nf:∀ x u,o≠.frz x u)(hp:H p=none)(h:∀ F' H':Hp,Gr F H F' H'->F' p=some o->R H'):R (upd H p o):=by
 have:=al (R:=λv H'=>∀ q,v=.ref q->q=p->R H') wd nf (λq F' H' g e z hz hq=>by cases hz;subst hq;exact h F' H' g e) p hp;exact this p rfl rfl
theorem al2{F H:Hp}(wd:Same F H)(nf:∀ x u,o≠.frz x u)(hp:H p=none):∃ F',Gr F H F' (upd H p o)/\F' p=some o:=
 al1 (R:=λH'=>∃ F',Gr F H F' H'/\F' p=some o) wd nf hp λF' _ g e=>⟨F',g,e⟩
theorem frz{Fb Hb F H:Hp}(gb:Gr0 Fb Hb F H)(cm:Fz S F)(hb:Hb p=none)(hf:F p=none)(hH:H p=some o)(nf:∀ x u,o≠.frz x u):∃ F',Gr0 Fb Hb F' H/\Fz S F'/\Same F F'/\F' p=some o/\∀ a,a≠p->F' a=F a:=by
 refine⟨upd F p o,⟨gb.h,gb.f.trans (Same.upd hf),?_,λa u e q=>?_⟩,λa x u e=>?_,Same.upd hf,a'O,λ_ e=>a'u e⟩
 ·intro b u e;by_cases hb:b=p
  ·subst hb;rw[a'O] at e;cases e;exact hH
  ·rw[a'u hb] at e;exact gb.s b u e
 ·by_cases hb':a=p
  ·subst hb';exact hb
  ·rw[a'u hb'] at e;exact gb.n a u e q
 ·by_cases hb':a=p
  ·subst hb';rw[a'O] at e;exact absurd (Option.some.inj e) (nf x u)
  ·rw[a'u hb'] at e;exact cm a x u e
theorem s'E{F:Hp}(c:Fz S0 F)(h:Rd F a (.dK kvs)):F a=some (.dK kvs):=by
 rcases h with h |⟨o,h⟩
 ·exact h
 ·exact (c _ _ _ h).elim
abbrev Rep(α:Type):=Hp->V->α->Prop
def r2(K:W.Frag){α β:Type}(A:Rep α)(B:Rep β):Rep (α×β):=λF v x=>∃ a v1 v2,v=.ref a/\SqT K F a [v1,v2]/\A F v1 x.1/\B F v2 x.2
def r3(K:W.Frag){α β γ:Type}(A:Rep α)(B:Rep β)(C:Rep γ):Rep (α×β×γ):=λF v x=>∃ a v1 v2 v3,v=.ref a/\SqT K F a [v1,v2,v3]/\A F v1 x.1/\B F v2 x.2.1/\C F v3 x.2.2
def r5(K:W.Frag){α β γ δ ε:Type}(A:Rep α)(B:Rep β)(C:Rep γ)(D:Rep δ)(E:Rep ε):Rep (α×β×γ×δ×ε):=λF v x=>∃ a v1 v2 v3 v4 v5,v=.ref a/\SqT K F a [v1,v2,v3,v4,v5]/\A F v1 x.1/\B F v2 x.2.1/\C F v3 x.2.2.1/\D F v4 x.2.2.2.1/\E F v5 x.2.2.2.2
def bl(n:Nat):Nat:=if n=0 then 0 else Nat.log2 n+1
theorem akF:n<2 ^ k↔bl n<=k:=by
 unfold bl;by_cases h:n=0
 ·subst h;simp[Nat.two_pow_pos]
 ·rw[if_neg h,<- Nat.log2_lt h];omega
def bi(x:Int):Nat:=bl x.natAbs
def bs(q:Rat):Nat:=max (bl q.num.natAbs) (bl q.den)
theorem w'S(h:Sm n q):bs q<=n:=by
 have h1:=akF.mp h.1;have h2:=akF.mp h.2;unfold bs;omega
theorem e'H(h:x.natAbs<2 ^ k):bi x<=k:=akF.mp h
theorem e'I(h:bi x<=k):x.natAbs<2 ^ k:=akF.mpr h
theorem f'r(k:Nat)(h:x.natAbs<2 ^ k):bi x<=k:=akF.mp h
theorem u'S(q:Rat):bi q.num<=bs q:=by unfold bi bs;omega
theorem n'j(q:Rat):bi (q.den:Int)<=bs q:=by unfold bi bs;rw[Int.natAbs_natCast];omega
theorem h'q(h:b≠0)(h1:bi t<=k)(h2:bi b<=k):bs (Rat.divInt t b)<=k:=w'S (n'i h (e'I h1) (e'I h2))
def TyX(K:W.Frag)(H:Hp)(x:V)(t:Value):Prop:=TyOf K H x t\/(t=.type "tuple"/\∃ a xs,x=.ref a/\SqT K H a xs)\/(t=.type "list"/\∃ a xs,x=.ref a/\SqL K H a xs)\/(t=.type "dict"/\∃ a kvs,x=.ref a/\Rd H a (.dK kvs))
section
variable{K:W.Frag}{H:Hp}
theorem u'T(h:SqT K H a xs):TyX K H (.ref a) (.type "tuple"):=.inr (.inl ⟨rfl,a,xs,rfl,h⟩)
theorem u'U(h:SqL K H a xs):TyX K H (.ref a) (.type "list"):=.inr (.inr (.inl ⟨rfl,a,xs,rfl,h⟩))
theorem u'V(h:Rd H a (.dK kvs)):TyX K H (.ref a) (.type "dict"):=.inr (.inr (.inr ⟨rfl,a,kvs,rfl,h⟩))
theorem u'W:TyX K H (.int i) (.type "int"):=.inl (.int i)
theorem u'X:TyX K H (.str i) (.type "str"):=.inl (.str i)
theorem w'T:TyX K H (.bl i) (.type "bool"):=.inl (.bl i)
theorem u'Y:TyX K H .non (.type "NoneType"):=.inl .non
end
section
open PySem.Spec PyProof.Rows
variable{X:Cx}
theorem p'P:CallR X (.builtin "isinstance") (λxs H Q=>∃ x c t b u,xs=[x,c]/\TyX X.K H x t/\amq c=some u/\W.kitOne X.K t u=some b/\Q (.bl b) H):=by
 intro pins s σ H xs us Q I r h;obtain⟨x,c,t,b,u,rfl,ty,rc,e,q⟩:=h;rcases ty with ty |⟨rfl,a,ys,rfl,hs⟩ |⟨rfl,a,ys,rfl,hs⟩ |⟨rfl,a,kvs,rfl,hs⟩
 ·exact i'p pins s σ H [x,c] us Q I r ⟨x,c,t,b,u,rfl,ty,rc,e,q⟩
 all_goals
  obtain⟨v,w',rfl,rx,rw'⟩:=h'Y r;have ew:w'=u:=by
   cases c with
   |ref a=>cases rc;exact rw'
   |ty n=>cases rc;exact rw'
   |non=>cases rc
   |bl n=>cases rc
   |int i=>cases rc
   |str i=>cases rc
   |byt i=>cases rc
   |flt i=>cases rc
  subst ew;cases (show v=Value.ref a from rx)
 ·obtain⟨its,_,p,_⟩:=I.tuple hs;obtain⟨o,h1,h2,_⟩:=p;exact W.kia_one W.kitx_tuple I.kIn ⟨o,h1,h2⟩ e (λz=>nomatch z) λtk=>⟨.bl b,H,I.tok tk,rfl,q⟩
 ·obtain⟨its,_,p,_⟩:=I.list hs;obtain⟨o,h1,h2,_⟩:=p.isList;exact W.kia_one W.kitx_list I.kIn ⟨o,h1,h2⟩ e (λz=>nomatch z) λtk=>⟨.bl b,H,I.tok tk,rfl,q⟩
 ·obtain⟨_,_,vs,_,p⟩:=d'A I.hok hs;obtain⟨o,es,ep,h1,h2,_⟩:=p;exact W.kia_one W.kitx_dict I.kIn ⟨o,h1,h2.1⟩ e (λz=>nomatch z) λtk=>⟨.bl b,H,I.tok tk,rfl,q⟩
end
def sgn(z:Str)(i:Int):Str:=⟨#[z.cps.toList.getD i.toNat 0]⟩
section
variable{X:Cx}{pins:List (Addr×Obj)}{σ:St}{F H:Hp}{s:Shared}{Au:Around}
theorem s'F:∀{x y:V}{u:Value},RelV x u->RelV y u->x=y:=by
 intro x y u h1 h2;cases x<;>cases y<;>simp only[RelV] at h1 h2<;>first
  |rfl
  |(subst h1;simp at h2;subst h2;rfl)
  |(subst h1;simp at h2;done)
  |(obtain⟨t,rfl⟩:=h1;obtain⟨t',e⟩:=h2;simp at e;rw[e.1])
  |(obtain⟨t,rfl⟩:=h1;simp at h2;done)
  |(obtain⟨t,rfl⟩:=h2;simp at h1;done)
theorem f's:∀{xs ys:List V}{us:List Value},Vals xs us->Vals ys us->xs=ys
 |[],[],_,_,_=>rfl
 |_ :: _,_ :: _,_,.cons h t,.cons h' t'=>by rw[s'F h h',f's t t']
 |[],_ :: _,_,h,h'=>by cases h; cases h'
 |_ :: _,[],_,h,h'=>by cases h'; cases h
theorem s'G(I:Inv X pins σ H s)(h1:SqT X.K H a xs)(h2:SqT X.K H a ys):xs=ys:=by
 obtain⟨us,r1,⟨o1,g1,c1,n1,d1⟩,_⟩:=I.tuple h1;obtain⟨ws,r2,⟨o2,g2,c2,n2,d2⟩,_⟩:=I.tuple h2;rw[g1] at g2;cases g2;rw[d1] at d2;injection d2 with e _
 have:us=ws:=by simpa using e
 subst this;exact f's r1 r2
theorem s'H(I:Inv X pins σ H s)(h1:SqL X.K H a xs)(h2:SqL X.K H a ys):xs=ys:=by
 obtain⟨us,r1,p1,_⟩:=I.list h1;obtain⟨ws,r2,p2,_⟩:=I.list h2;obtain⟨o1,g1,c1,n1,d1⟩:=p1.isList;obtain⟨o2,g2,c2,n2,d2⟩:=p2.isList;rw[g1] at g2;cases g2;rw[d1] at d2;injection d2 with e _
 have:us=ws:=by simpa using e
 subst this;exact f's r1 r2
theorem k'p(I:Inv X pins σ H s)(h1:SqT X.K H a xs)(h2:SqT X.K H b ys)(hu:Au.units<cLine)(hl:xs.length=ys.length)(e:Nat->Bool)(he:∀(j:Nat) x y u v,xs[j]?=some x->ys[j]?=some y->RelV x u->RelV y v->SeqAt.EqAt Au.in1 s u v (e j)):SeqAt.RcAt Au s (.ref a) (.ref b) ((List.range xs.length).all e):=by
 obtain⟨us,r1,t1,_⟩:=I.tuple h1;obtain⟨ws,r2,t2,_⟩:=I.tuple h2;have l1:=r1.length;have l2:=r2.length;have z:=SeqAt.RcAt.tuples (A:=Au) (e:=e) t1 t2 hu (λj h1 h2=>?_)
 ·have e0:((List.range (min us.toArray.size ws.toArray.size)).all e && us.toArray.size == ws.toArray.size)=(List.range xs.length).all e:=by
   simp only[List.size_toArray];have e1:min us.length ws.length=xs.length:=by omega
   have e2:(us.length == ws.length)=true:=by simp;omega
   rw[e1,e2,Bool.and_true]
  rw[e0] at z;exact z
 ·simp only[List.size_toArray] at h1 h2;obtain⟨u,e1,ru⟩:=r1.get (i:=j) (x:=xs[j]'(by omega)) (by simp);obtain⟨v,e2,rv⟩:=r2.get (i:=j) (x:=ys[j]'(by omega)) (by simp);obtain⟨_,f1⟩:=List.getElem?_eq_some_iff.mp e1;obtain⟨_,f2⟩:=List.getElem?_eq_some_iff.mp e2;have g1:us.toArray[j]'(by simpa using h1)=u:=by simpa using f1
  have g2:ws.toArray[j]'(by simpa using h2)=v:=by simpa using f2
  rw[g1,g2];exact he j _ _ u v (by simp) (by simp) ru rv
theorem k'q(I:Inv X pins σ H s)(h1:SqL X.K H a xs)(h2:SqL X.K H b ys)(hu:Au.units<cLine)(hl:xs.length=ys.length)(e:Nat->Bool)(he:∀(j:Nat) x y u v,xs[j]?=some x->ys[j]?=some y->RelV x u->RelV y v->SeqAt.EqAt Au.in1 s u v (e j)):SeqAt.RcAt Au s (.ref a) (.ref b) ((List.range xs.length).all e):=by
 obtain⟨us,r1,t1,_⟩:=I.list h1;obtain⟨ws,r2,t2,_⟩:=I.list h2;have l1:=r1.length;have l2:=r2.length;have z:=SeqAt.RcAt.lists (A:=Au) (e:=e) t1.isList t2.isList (by simp;omega) hu (λj h1 h2=>?_)
 ·have e0:(List.range us.toArray.size).all e=(List.range xs.length).all e:=by
   simp only[List.size_toArray];rw[<- l1]
  rw[e0] at z;exact z
 ·simp only[List.size_toArray] at h1 h2;obtain⟨u,e1,ru⟩:=r1.get (i:=j) (x:=xs[j]'(by omega)) (by simp);obtain⟨v,e2,rv⟩:=r2.get (i:=j) (x:=ys[j]'(by omega)) (by simp);obtain⟨_,f1⟩:=List.getElem?_eq_some_iff.mp e1;obtain⟨_,f2⟩:=List.getElem?_eq_some_iff.mp e2;have g1:us.toArray[j]'(by simpa using h1)=u:=by simpa using f1
  have g2:ws.toArray[j]'(by simpa using h2)=v:=by simpa using f2
  rw[g1,g2];exact he j _ _ u v (by simp) (by simp) ru rv
end
theorem p'Q(r1:RelV (.int i) u)(r2:RelV (.int j) v):SeqAt.EqAt Au s u v (decide (i=j)):=by
 have z:=e'f (A:=Au) (s:=s) r1 r2 rfl rfl;have e:eqV (.int i) (.int j)=decide (i=j):=by show (i == j)=_;rw[Bool.beq_eq_decide_eq]
 rw[e] at z;exact z
end Vc
namespace L2
open PySem PySem.Spec PyProof.Rows
def aiS(env:Env)(cs:List (Str×Addr))(y:Str×NameKind):List (Str×Addr):=if (y.2 == .free)=true then (match env.cells.lookup y.1 with |some a=>(y.1,a) :: cs |none=>cs) else cs
def ak1(scope:Scope)(env:Env):List (Str×Addr):=scope.names.foldl (aiS env) []
def ajQ(scope:Scope)(env:Env):Bool:=scope.names.all λy=>!(y.2 == .free) || (env.cells.lookup y.1).isSome
theorem f'V(h:ajQ scope env=true):closureFor scope env=pure (ak1 scope env):=by
 unfold closureFor ak1;unfold ajQ at h;have gen:∀(l:List (Str×NameKind))(cs:List (Str×Addr)),(l.all λy=>!(y.2 == .free) || (env.cells.lookup y.1).isSome)=true->
   (forIn l cs λx r=>match x with |(name,kind)=>if (kind == NameKind.free)=true then (do let a <- cellOf env name;pure (ForInStep.yield ((name,a) :: r))) else pure (ForInStep.yield r):Sem (List (Str×Addr)))=pure (l.foldl (aiS env) cs):=by
  intro l
  induction l with
  |nil=>intro cs _;rfl
  |cons y r ih=>
   intro cs ha;rw[List.all_cons,Bool.and_eq_true] at ha;obtain⟨n,k⟩:=y;rw[List.forIn_cons,List.foldl_cons];by_cases hk:(k == NameKind.free)=true
   ·have h1:=ha.1;simp only[hk,Bool.not_true,Bool.false_or] at h1;obtain⟨a,e⟩:=Option.isSome_iff_exists.mp h1;have e1:aiS env cs (n,k)=(n,a) :: cs:=by unfold aiS;simp[hk,e]
    have e2:cellOf env n=pure a:=by unfold cellOf;rw[e]
    rw[e1,<- ih _ ha.2];simp only[hk,if_true,e2,pure_bind]
   ·have e1:aiS env cs (n,k)=cs:=by unfold aiS;simp[hk]
    rw[e1,<- ih _ ha.2];simp only[hk,if_false,pure_bind,Bool.false_eq_true]
 have:=gen scope.names [] h;simp only[this,pure_bind]
theorem b'H(h:(ak1 scope env).lookup x=some c):env.cells.lookup x=some c:=by
 unfold ak1 at h;have gen:∀(l:List (Str×NameKind))(cs:List (Str×Addr)),(cs.lookup x=some c->env.cells.lookup x=some c)->(l.foldl (aiS env) cs).lookup x=some c->env.cells.lookup x=some c:=by
  intro l
  induction l with
  |nil=>intro cs f g;exact f g
  |cons y r ih=>
   intro cs f g;rw[List.foldl_cons] at g;refine ih _ (λz=>?_) g;unfold aiS at z;split at z
   ·split at z
    ·rename_i a e;rw[List.lookup_cons] at z;by_cases hx:(x == y.1)=true
     ·rw[hx] at z;have:=eq_of_beq hx;subst this;simp at z;rw[<- z];exact e
     ·simp only[hx] at z;exact f z
    ·exact f z
   ·exact f z
 exact gen scope.names [] (λz=>by cases z) h
theorem i's(ha:ajQ scope env=true)(h:scope.names.lookup x=some .free):∃ c,(ak1 scope env).lookup x=some c:=by
 unfold ak1;unfold ajQ at ha;have keep:∀(l:List (Str×NameKind))(cs:List (Str×Addr)),(∃ c,cs.lookup x=some c)->∃ c,(l.foldl (aiS env) cs).lookup x=some c:=by
  intro l
  induction l with
  |nil=>intro cs f;exact f
  |cons y r ih=>
   intro cs f;rw[List.foldl_cons];refine ih _ ?_;unfold aiS;split
   ·split
    ·rw[List.lookup_cons];by_cases hx:(x == y.1)=true
     ·rw[hx];exact⟨_,rfl⟩
     ·simp only[hx];exact f
    ·exact f
   ·exact f
 have gen:∀(l:List (Str×NameKind))(cs:List (Str×Addr)),(l.all λy=>!(y.2 == .free) || (env.cells.lookup y.1).isSome)=true->l.lookup x=some .free->∃ c,(l.foldl (aiS env) cs).lookup x=some c:=by
  intro l
  induction l with
  |nil=>intro cs _ f;cases f
  |cons y r ih=>
   intro cs ha f;rw[List.all_cons,Bool.and_eq_true] at ha;obtain⟨n,k⟩:=y;rw[List.foldl_cons];rw[List.lookup_cons] at f;by_cases hx:(x == n)=true
   ·rw[hx] at f;have:=eq_of_beq hx;subst this;simp at f;subst f;refine keep r _ ?_;have h1:(env.cells.lookup x).isSome=true:=ha.1;obtain⟨a,e⟩:=Option.isSome_iff_exists.mp h1;refine⟨a,?_⟩;unfold aiS;rw[if_pos (show ((NameKind.free) == NameKind.free)=true from rfl)];dsimp only;rw[e];dsimp only;rw[List.lookup_cons,hx]
   ·simp only[hx] at f;exact ih _ ha.2 f
 exact gen scope.names [] ha h
theorem j'V(hcell:∀ y∈scope.names,y.2≠.cell)(h:(relabel scope env).names.lookup x=some .cell\/(relabel scope env).names.lookup x=some .free):scope.names.lookup x=some .free:=by
 unfold relabel at h;dsimp only at h;have gen:∀ l:List (Str×NameKind),(∀ y∈l,y.2≠.cell)->((l.map λ(n,k)=>if (k == NameKind.free && env.scope.kind == .function && env.kindOf n == some .cell) then (n,NameKind.cell) else (n,k)).lookup x=some .cell\/(l.map λ(n,k)=>if (k == NameKind.free && env.scope.kind == .function && env.kindOf n == some .cell) then (n,NameKind.cell) else (n,k)).lookup x=some .free)->l.lookup x=some .free:=by
  intro l
  induction l with
  |nil=>intro _ f;rcases f with f |f<;>cases f
  |cons y r ih=>
   intro hc f;obtain⟨n,k⟩:=y;have hk:k≠.cell:=hc (n,k) (List.mem_cons_self ..);rw[List.map_cons] at f;rw[List.lookup_cons];by_cases hx:(x == n)=true
   ·rw[hx];dsimp only at f ⊢;by_cases hf:(k == NameKind.free && env.scope.kind == .function && env.kindOf n == some .cell)=true
    ·have:k=.free:=by
      simp only[Bool.and_eq_true] at hf;exact eq_of_beq hf.1.1
     rw[this]
    ·rw[if_neg hf,List.lookup_cons,hx] at f;simp only[Option.some.injEq] at f;rcases f with f |f
     ·exact absurd f hk
     ·rw[f]
   ·simp only[hx];refine ih (λy hy=>hc y (List.mem_cons_of_mem _ hy)) ?_;dsimp only at f;split at f<;>(rw[List.lookup_cons] at f;simp only[hx] at f;exact f)
 exact gen scope.names hcell h
inductive Wk:St->St->Prop
 |nil:Wk [] []
 |non {a b:St} {x:Option V}:Wk a b -> Wk (none :: a) (x :: b)
 |som {a b:St} {v:V}:Wk a b -> Wk (some v :: a) (some v :: b)
theorem Wk.length(h:Wk a b):b.length=a.length:=by
 induction h with
 |nil=>rfl
 |non _ ih=>simp[ih]
 |som _ ih=>simp[ih]
theorem Wk.get(h:Wk a b):∀{i:Nat}{v:V},a[i]?=some (some v)->b[i]?=some (some v):=by
 induction h with
 |nil=>intro i v e; simp at e
 |non _ ih=>
  intro i v e;cases i with
  |zero=>simp at e
  |succ i=>simpa using ih (i:=i) (v:=v) (by simpa using e)
 |som _ ih=>
  intro i v e;cases i with
  |zero=>simpa using e
  |succ i=>simpa using ih (i:=i) (v:=v) (by simpa using e)
theorem g's:∀ a:St,Wk a a
 |[]=>.nil
 |none :: a=>.non (g's a)
 |some _ :: a=>.som (g's a)
def aiA(ix:List (Option Nat))(σ:St):St:=ix.map λo=>match o with |none=>none |some i=>(σ[i]?).getD none
def PickOk(X:Cx)(sc:Scope):List Str->List (Option Nat)->Prop
 |[],[]=>True
 |_ :: N,none :: ix=>PickOk X sc N ix
 |x :: N,some i :: ix=>X.N[i]? = some x /\ X.env.kindOf x = some .cell /\ sc.names.lookup x = some .free /\ PickOk X sc N ix
 |_,_=>False
theorem PickOk.length:∀{N:List Str}{ix:List (Option Nat)},PickOk X sc N ix->ix.length=N.length
 |[],[],_=>rfl
 |_ :: N,none :: ix,h=>by rw[List.length_cons,List.length_cons,PickOk.length (X:=X) (sc:=sc) (N:=N) (ix:=ix) h]
 |_ :: N,some i :: ix,h=>by rw[List.length_cons,List.length_cons,PickOk.length (X:=X) (sc:=sc) (N:=N) (ix:=ix) h.2.2.2]
 |[],_ :: _,h=>h.elim
 |_ :: _,[],h=>h.elim
theorem PickOk.get:∀{N:List Str}{ix:List (Option Nat)}{j:Nat}{x:Str}{v:V},PickOk X sc N ix->N[j]?=some x->(aiA ix σ)[j]?=some (some v)->∃ i:Nat,X.N[i]?=some x/\X.env.kindOf x=some .cell/\sc.names.lookup x=some .free/\σ[i]?=some (some v)
 |_ :: N,none :: ix,0,x,v,h,e1,e2=>by simp[aiA] at e2
 |_ :: N,none :: ix,j + 1,x,v,h,e1,e2=>PickOk.get (N:=N) (ix:=ix) (j:=j) h (by simpa using e1) (by simpa [aiA] using e2)
 |y :: N,some i :: ix,0,x,v,h,e1,e2=>by
  simp at e1;subst e1;refine⟨i,h.1,h.2.1,h.2.2.1,?_⟩;simp[aiA] at e2;cases q:σ[i]? with
  |none=>rw[q] at e2;simp at e2
  |some o=>rw[q] at e2;simp at e2;rw[e2]
 |y :: N,some i :: ix,j + 1,x,v,h,e1,e2=>PickOk.get (N:=N) (ix:=ix) (j:=j) h.2.2.2 (by simpa using e1) (by simpa [aiA] using e2)
 |[],[],_,_,_,_,e1,_=>by simp at e1
 |[],_ :: _,_,_,_,h,_,_=>h.elim
 |_ :: _,[],_,_,_,h,_,_=>h.elim
theorem i't(h:scope.names.lookup x=some .free):(relabel scope env).names.lookup x=some .cell\/(relabel scope env).names.lookup x=some .free:=by
 unfold relabel;dsimp only;have gen:∀ l:List (Str×NameKind),l.lookup x=some .free->((l.map λ(n,k)=>if (k == NameKind.free && env.scope.kind == .function && env.kindOf n == some .cell) then (n,NameKind.cell) else (n,k)).lookup x=some .cell\/(l.map λ(n,k)=>if (k == NameKind.free && env.scope.kind == .function && env.kindOf n == some .cell) then (n,NameKind.cell) else (n,k)).lookup x=some .free):=by
  intro l
  induction l with
  |nil=>intro f;cases f
  |cons y r ih=>
   intro f;obtain⟨n,k⟩:=y;rw[List.lookup_cons] at f;rw[List.map_cons];by_cases hx:(x == n)=true
   ·rw[hx] at f;simp at f;subst f;dsimp only;split
    ·left;rw[List.lookup_cons,hx]
    ·right;rw[List.lookup_cons,hx]
   ·simp only[hx] at f;dsimp only;split<;>(rw[List.lookup_cons];simp only[hx];exact ih f)
 exact gen scope.names h
def ahT(X:Cx)(scope:Scope)(N:List Str)(C:Addr)(s:Shared)(H:Hp)(fp:List Addr)(pl:List (Addr×Obj)):Cx where
 prog:=X.prog
 w:=X.w
 K:=X.K
 mg:=X.mg
 base:=X.base
 A:=X.A
 N:=N
 s₀:=s
 H₀:=H
 env:=compEnvC scope (ak1 scope X.env) C X.env
 outer:=X.stack
 stack:=X.stack
 ex:=fp
 fn:=λ_=>false
 calm:=X.calm
 pn:=X.pn++pl
 xe:=λ_ _=>False
def PTs(Y:Cx)(ifs:List Expr)(t:TT):Prop:=
 ∀(pins:List (Addr×Obj))(s:Shared)(σ:St)(H:Hp)(Q:Bool->Hp->Prop),Inv Y pins σ H s->t σ H Q->
  wpAny (model Y.prog Y.w) Y.A (forIn ifs true λc r=>if r=true then do let ok <- isTrue c Y.env (eval c Y.env);pure (ForInStep.yield ok) else pure (ForInStep.yield r)) (TP Y pins σ Q) Y.xe s
def an5:TT:=λ_ H Q=>Q true H
theorem s'I:PTs Y [] an5:=λ_ _ _ H _ I h=>wpAny_tests_nil ⟨H,I,h⟩
theorem i'u{R:Result->Shared->Prop}(I:Nat->Shared->Prop)(turn:∀ n s,I n s->wpAny (model prog w) A (pyNext it) (λr s₁=>match r with
   |none=>R (.ok .next) s₁
   |some v=>wpAny (model prog w) A (letOwnedTupleGo target it v) (λ_ s₀=>wpAny (model prog w) A (assign target env v) (λ_ s₂=>
     wpAny (model prog w) A (forIn ifs true λc r=>if r=true then do let ok <- isTrue c env (eval c env);pure (ForInStep.yield ok) else pure (ForInStep.yield r)) (λok s₃=>
      if ok=true then wpAny (model prog w) A (eval elt env) (λx s₄=>
       wpAny (model prog w) A (call (.builtin "list.append") [acc,x]) (λ_ s₅=>∃ m,m<n/\I m s₅) (notedBy (model prog w) A env λe s'=>R (.error e) s') s₄) (notedBy (model prog w) A env λe s'=>R (.error e) s') s₃
      else ∃ m,m<n/\I m s₃) (notedBy (model prog w) A env λe s'=>R (.error e) s') s₂) (notedBy (model prog w) A env λe s'=>R (.error e) s') s₀) (notedBy (model prog w) A env λe s'=>R (.error e) s') s₁) (notedBy (model prog w) A env λe s'=>R (.error e) s') s)(n:Nat)(h:I n s):codeAny (model prog w) A (.compLoop (.ListComp elt [⟨target,iter,ifs,0⟩] scope pos) 0 it acc env) R s:=by
 refine codeAny_loop rfl I (λn s hI=>?_) n h;show wpAny _ A ((compTurn (.ListComp elt [⟨target,iter,ifs,0⟩] scope pos) 0 it acc env).onRaise (λx=>do noteFrame x env;theTreesLotGoes x)) _ _ s;refine wpAny_noted ?_;rw[compTurn_list];refine wpAny_bind (wpAny_standAt (wpAny_bind (wpAny_mono (turn n s hI) (λr s₁ h₁=>?_) λ_ _ h'=>h')));cases r with
 |none=>exact wpAny_pure h₁
 |some v=>
  refine wpAny_bind (wpAny_mono h₁ (λ_ s₀ h₀=>?_) λ_ _ h'=>h');refine wpAny_bind (wpAny_mono h₀ (λ_ s₂ h₂=>wpAny_bind (wpAny_mono h₂ (λok s₃ h₃=>?_) λ_ _ h'=>h')) λ_ _ h'=>h');cases ok with
  |false=>exact wpAny_pure ⟨rfl,h₃⟩
  |true=>
   exact wpAny_bind (wpAny_bind (wpAny_mono h₃ (λx s₄ h₄=>wpAny_bind (wpAny_mono h₄ (λ_ s₅ h₅=>wpAny_pure (wpAny_pure ⟨rfl,h₅⟩)) λ_ _ h'=>h')) λ_ _ h'=>h'))
section
variable{X:Cx}{pins:List (Addr×Obj)}{σ:St}{H:Hp}{s:Shared}{scope:Scope}{N:List Str}{fp:List Addr}{C:Addr}
theorem s'J(I:Inv X pins σ H s)(hC:s.heap.objs.size<=C)(hf:∀ b∈fp,ak0 X pins H b)(hfo:∀ b∈fp,∃ o,s.heap.get? b=some o)(hkind:scope.kind=.function)(hcell:∀ y∈scope.names,y.2≠.cell)(hall:ajQ scope X.env=true):
  (ahT X scope N C s H fp pins).Ok where
 mod:=I.ok.mod
 kind:=hkind
 glob:=I.ok.glob
 blt:=I.ok.blt
 above:=hC
 inj:=λx y c h1 h2=>I.ok.inj x y c (b'H h1) (b'H h2)
 has:=λx h=>i's hall (j'V hcell h)
 cab:=λx c h=>by cases h
 hd:=I.ok.hd
 frames:=I.ok.frames
 stk:=.inl rfl
 exf:=λb hb=>⟨λz=>by obtain⟨o,e⟩:=hfo b hb;have:=Heap.lt_size e;subst z;exact absurd (Nat.lt_of_lt_of_le this hC) (Nat.lt_irrefl _),λx c e=>(hf b hb).2.2.2.2.1 x c (b'H e)⟩
 bs:=I.bs
 bsz:=Nat.le_trans I.ok.bsz I.sz
 noex:=λb o e hb=>by
  rcases (hf b hb).2.2.2.1 with z |z
  ·exact I.ok.noex b o e z
  ·exact absurd (Nat.lt_of_lt_of_le (Heap.lt_size e) (Nat.le_trans I.ok.bsz z)) (Nat.lt_irrefl _)
 exfs:=λb hb hm=>by
  rcases List.mem_cons.mp (I.stkSub b hm) with z |z
  ·exact (hf b hb).2.1 z
  ·exact (hf b hb).2.2.1 z
 funs:=I.stack
 frf:=I.stkFree
theorem p'R(I:Inv X pins σ H s)(ok:(ahT X scope N C s H fp pins).Ok)(hC:s.heap.objs.size<=C)(k:∀ b o,s.heap.get? b=some o->h'.get? b=some o)(hn:h'.Ns C m)(hpk:PickOk X scope N ix)(hall:ajQ scope X.env=true):
  Inv (ahT X scope N C s H fp pins) [] (aiA ix σ) H { s with heap:=h',toks:=t' } where
 ok:=ok
 os:=rfl
 bare:=I.bare
 base:=Un.kept k
 loc:=⟨m,hn,λi x v e1 e2 e3=>by
  obtain⟨i',hN,hk,hfr,hσ⟩:=hpk.get e1 e2;obtain⟨m0,_,hl⟩:=I.loc;obtain⟨u,r,look⟩:=hl i' x v hN hσ (.inr (.inl hk));rcases look with⟨z,_⟩ |⟨_,c,hc,o,ho,hd⟩
  ·rw[hk] at z;cases z
  ·obtain⟨c',hc'⟩:=i's hall hfr;have e:=b'H hc';rw[hc] at e;cases e;exact⟨u,r,.inr ⟨i't hfr,c,hc',o,k _ _ ho,hd⟩⟩⟩
 cell:=λx c e=>by
  obtain⟨v,o,ho,hd⟩:=I.cell x c (b'H e);exact⟨v,o,k _ _ ho,hd⟩
 free:=I.hok.fresh hC
 freeC:=λx c e=>I.freeC x c (b'H e)
 pin:=λp hp=>by
  have hp':p∈X.pn++pins:=by simpa [ahT] using hp
  obtain⟨e,n,ne,nf,d⟩:=I.pin p hp';refine⟨k _ _ e,n,λz=>?_,λz=>?_,d⟩
  ·have:=Heap.lt_size e;have z':p.1=C:=z;rw[z'] at this;exact absurd (Nat.lt_of_lt_of_le this hC) (Nat.lt_irrefl _)
  ·rcases List.mem_cons.mp (I.stkSub p.1 z) with q |q
   ·exact ne q
   ·exact nf q
 hok:=I.hok.kept k
 len:=by
  have:=hpk.length;simp[aiA,ahT,this]
theorem n'k{H':Hp}(I:Inv X pins σ H s)(J:Inv (ahT X scope N C s H fp pins) pl σ' H' s')(hD:D=s.heap.objs.size)(hf:∀ b∈fp,ak0 X pins H b)(hl:s'.heap.PlainList D its.toArray)(hv:Vals acc its)(hz:acc.length<=sizeLine)(hn:H' D=none):Inv X pins σ (upd H' D (.lst acc)) s':=by
 have hDn:∀ b o,s.heap.get? b=some o->b≠D:=λb o e z=>by rw[z,hD] at e;exact absurd (Heap.lt_size e) (Nat.lt_irrefl _)
 have hHD:H D=none:=I.hok.fresh (by rw[hD];exact Nat.le_refl _);refine I.call' (ch:=fp) J.os ⟨J.base.keep,J.base.slot,λb o e n hx=>?_,J.base.there,λb xs e=>?_,λb o u e=>?_,λb ps e=>?_⟩ (λb u e=>?_) J.bare λb hb=>⟨(hf b hb).2.2.2.1,(hf b hb).2.1,(hf b hb).2.2.2.2.1,(hf b hb).2.2.2.2.2⟩
 ·rw[a'u (hDn b o e)];exact J.base.free b o e n hx
 ·rw[a'u (a'E e hHD)];exact J.base.tups b xs e
 ·rw[a'u (a'E e hHD)];exact J.base.frzs b o u e
 ·obtain⟨mo,e2⟩:=J.base.tbls b ps e;exact⟨mo,by rw[a'u (a'E e hHD)];exact e2⟩
 ·by_cases hb:b=D
  ·subst hb;rw[a'O] at e;cases e;obtain⟨n,g⟩:=hl;exact⟨hz,its,n,hv,g⟩
  ·rw[a'u hb] at e;exact (J.hok b u e).stay (λ_ _ _ q=>q) (λc q=>by rw[a'u (a'E q hn)];exact q) λc xs q=>by rw[a'u (a'E q hn)];exact q
end
def amr(wi:TI)(g:TG)(ti:TT)(te:TE)(ix:List (Option Nat)):TE:=λσ H Q=>wi σ H λJ H1=>∃ W:Nat->Nat->List V->Hp->Prop,(∃ m,W 0 m [] H1)/\∀ i m acc H,W i m acc H->
 (J.stop i H/\acc.length<=sizeLine/\∀ p,H p=none->Q (.ref p) (upd H p (.lst acc)))\/
 (J.go i H/\∃ N:List V->Hp->Prop,(∀ acc' H',N acc' H'->∃ m',m'<m/\W (i+1) m' acc' H')/\∀ x H',J.yld i H x H'->g x (aiA ix σ) H' λσ2 H2=>Wk (aiA ix σ) σ2/\ti σ2 H2 λb H3=>if b=true then te σ2 H3 λv H4=>acc.length<sizeLine/\N (acc++[v]) H4 else N acc H3)
section
variable{X:Cx}{elt target iter:Expr}{ifs:List Expr}{scope:Scope}{pos:Pos}{N:List Str}{ix:List (Option Nat)}{wi:TI}{g:TG}{ti:TT}{te:TE}
theorem p'S{Q:VK}{RR:Value->Addr->Result->Shared->Prop}{tn:Nat->Heap->Prop}(hc:X.calm=true)(hg:∀ C s H fp pl,PG (ahT X scope N C s H fp pl) target g)(ht:∀ C s H fp pl,PTs (ahT X scope N C s H fp pl) ifs ti)(he:∀ C s H fp pl,PE (ahT X scope N C s H fp pl) elt te)(hkind:scope.kind=.function)(hcell:∀ y∈scope.names,y.2≠.cell)(hall:ajQ scope X.env=true)(hpk:PickOk X scope N ix)(I2:Inv X pins σ H2 s2)(T:ami X.prog X.w X.K target J fp it tn)(st2:tn 0 s2.heap)(f2:∀ b∈fp,ak0 X pins H2 b)(h:∃ W:Nat->Nat->List V->Hp->Prop,(∃ m,W 0 m [] H2)/\∀ i m acc H,W i m acc H->
   (J.stop i H/\acc.length<=sizeLine/\∀ p,H p=none->Q (.ref p) (upd H p (.lst acc)))\/
   (J.go i H/\∃ N:List V->Hp->Prop,(∀ acc' H',N acc' H'->∃ m',m'<m/\W (i+1) m' acc' H')/\∀ x H',J.yld i H x H'->g x (aiA ix σ) H' λσ2 H2=>Wk (aiA ix σ) σ2/\ti σ2 H2 λb H3=>if b=true then te σ2 H3 λv H4=>acc.length<sizeLine/\N (acc++[v]) H4 else N acc H3))(hR:∀(D C:Addr)(s':Shared)(H':Hp)(m:Str->Option Value),Inv X pins σ H' s'->s'.heap.Ns C m->H' C=none->s2.heap.objs.size<=C->Q (.ref D) H'->RR (.ref D) C (.ok .next) s'):
  wpAny (model X.prog X.w) X.A (newList []) (λacc s₃=>wpAny (model X.prog X.w) X.A (newFunctionEnv scope X.env.globals (ak1 scope X.env) [] X.env.qual none .none (some X.env)) (λcenv s₄=>
   codeAny (model X.prog X.w) X.A (.compStart (.ListComp elt [⟨target,iter,ifs,0⟩] scope pos) 0 (.ref it) acc { cenv with scope:=relabel scope X.env }) (RR acc cenv.locals) s₄) E s₃) E s2:=by
 obtain⟨W,⟨m0,w0⟩,turn⟩:=h;refine wpAny_newObj_type (wpAny_newFunctionEnv hcell (by intro y hy;simp at hy) (λh₁ hns₁ hsb₁=>?_) hkind);dsimp only at hns₁ hsb₁ ⊢;generalize hH2:s2.heap.push { cls:=.type "list",dict:=none,data:=.seq ([]:List Value).toArray }=P2 at hns₁ hsb₁ ⊢;have hC:P2.objs.size=s2.heap.objs.size+1:=by rw[<- hH2,Heap.size_push]
 have hDC:s2.heap.objs.size≠P2.objs.size:=by rw[hC];exact Nat.ne_of_lt (Nat.lt_succ_self _)
 have hCle:s2.heap.objs.size<=P2.objs.size:=by rw[hC];exact Nat.le_succ _
 have below:∀ b,b<s2.heap.objs.size->b≠P2.objs.size/\b≠s2.heap.objs.size:=λb hb=>⟨by rw[hC];exact Nat.ne_of_lt (Nat.lt_succ_of_lt hb),Nat.ne_of_lt hb⟩
 have old:∀ b o,s2.heap.get? b=some o->h₁.get? b=some o:=λb o e=>hsb₁.extBut b o (below b (Heap.lt_size e)).1 (Heap.get?_push_of_some _ (hH2 ▸ Heap.get?_push_of_some _ e))
 have hacc:h₁.PlainList s2.heap.objs.size #[]:=⟨_,hsb₁.extBut _ _ hDC (Heap.get?_push_of_some _ (hH2 ▸ Heap.get?_push_size _ rfl))⟩
 have hfo:∀ b∈fp,∃ o,s2.heap.get? b=some o:=λb hb=>let ⟨o,e,_⟩:=T.obj 0 _ st2 b hb;⟨o,e⟩
 have hfD:s2.heap.objs.size ∉ fp:=λhm=>by obtain⟨o,e⟩:=hfo _ hm;exact absurd (Heap.lt_size e) (Nat.lt_irrefl _)
 have ok:=s'J (N:=N) (C:=P2.objs.size) I2 hCle f2 hfo hkind hcell hall;have st1:tn 0 h₁:=T.keep 0 _ _ st2 λb _ o e=>old b o e
 have J0:=p'R (t':=s2.toks+([]:List (Str×Value)).length) (ix:=ix) I2 ok hCle old hns₁ hpk hall;have pnD:∀ p∈X.pn++pins,p.1≠s2.heap.objs.size:=λp hp=>(below _ (Heap.lt_size (I2.pin p hp).1)).2
 have cellD:∀ x c,(ak1 scope X.env).lookup x=some c->c≠s2.heap.objs.size:=λx c e=>by
  obtain⟨v,o,ho,_⟩:=I2.cell x c (b'H e);exact (below _ (Heap.lt_size ho)).2
 have stat:∀{pl:List (Addr×Obj)}{H':Hp},(∀ b∈fp,H' b=none)->(∀ p∈pl,p.1=s2.heap.objs.size)->∀ b∈fp,ak0 (ahT X scope N P2.objs.size s2 H2 fp pins) pl H' b:=λ{pl H'} hn hp b hb=>by
  refine⟨hn b hb,(ok.exf b hb).1,ok.exfs b hb,.inl hb,(ok.exf b hb).2,λp hm=>?_⟩;rcases List.mem_append.mp hm with z |z
  ·exact (f2 b hb).2.2.2.2.2 p z
  ·rw[hp p z];intro q;rw[q] at hfD;exact hfD hb
 have loop:∀ s₃:Shared,s₃={ s2 with heap:=h₁,toks:=s2.toks+([]:List (Str×Value)).length }->
   codeAny (model X.prog X.w) X.A (.compLoop (.ListComp elt [⟨target,iter,ifs,0⟩] scope pos) 0 (.ref it) (.ref s2.heap.objs.size) (compEnvC scope (ak1 scope X.env) P2.objs.size X.env)) (RR (.ref s2.heap.objs.size) P2.objs.size) s₃:=by
  rintro s₃ rfl;refine i'u (λn s'=>∃ i acc its σ' H',Inv (ahT X scope N P2.objs.size s2 H2 fp pins) [] σ' H' s'/\Wk (aiA ix σ) σ'/\tn i s'.heap/\(∀ b∈fp,H' b=none)/\s'.heap.PlainList s2.heap.objs.size (List.toArray its)/\Vals acc its/\H' s2.heap.objs.size=none/\W i n acc H') ?_ m0
   ⟨0,[],[],_,H2,J0,g's _,st1,λb hb=>(f2 b hb).1,hacc,.nil,I2.hok.fresh (Nat.le_refl _),w0⟩
  rintro n s3 ⟨i,acc,its,σ3,H3,I3,wk3,st3,fr3,pl3,va3,nd3,w3⟩;obtain⟨kk,g3⟩:=id pl3;have I3':Inv (ahT X scope N P2.objs.size s2 H2 fp pins) [(s2.heap.objs.size,⟨.type "list",none,.seq (List.toArray its) kk,#[]⟩)] σ3 H3 s3:=I3.pins_of λp hp=>by
   have e:=List.mem_singleton.mp hp;subst e;refine⟨g3,nd3,hDC,λz=>?_,λv q=>by cases q⟩;obtain⟨_,o,ho,_⟩:=(I2.stack).mem z;exact absurd (Heap.lt_size ho) (Nat.lt_irrefl _)
  have onlyD:∀ p∈[((s2.heap.objs.size,⟨.type "list",none,.seq (List.toArray its) kk,#[]⟩):Addr×Obj)],p.1=s2.heap.objs.size:=λp hp=>by
   rw[List.mem_singleton.mp hp]
  rcases turn i n acc H3 w3 with⟨stop,hlen,fin⟩ |⟨go,NN,hNN,step⟩
  ·refine wpAny_mono (T.done (ahT X scope N P2.objs.size s2 H2 fp pins) rfl rfl rfl hc i _ s3 σ3 H3 _ I3' (stat fr3 onlyD) st3 stop) (λr s4 h4=>?_) λ_ _ z=>z
   obtain⟨hr,I4⟩:=h4;subst hr;have g4:=(I4.pin (s2.heap.objs.size,_) (List.mem_append_right _ (List.mem_singleton.mpr rfl))).1;obtain⟨mm,hnm,_⟩:=I4.loc;have B:=n'k I2 I4 rfl f2 ⟨kk,g4⟩ va3 hlen nd3;refine hR _ _ s4 _ mm B hnm ?_ hCle (fin _ nd3);rw[a'u (Ne.symm hDC)];exact I4.free
  ·refine wpAny_mono (T.item (ahT X scope N P2.objs.size s2 H2 fp pins) rfl rfl rfl hc i _ s3 σ3 H3 _ I3' (stat fr3 onlyD) st3 go) (λr s4 h4=>?_) λ_ _ z=>z
   obtain⟨u,hr,h4⟩:=h4;subst hr;refine wpAny_mono h4 (λ_ s5 h5=>?_) λ_ _ z=>z
   obtain⟨x,H5,I5,r5,y5,st5,fr5⟩:=h5;have I5w:=I5.weak wk3.length.symm (λi v e=>wk3.get e);have I5':=I5w.pinned (fp:=fp) (stat fr5 onlyD) (T.obj _ _ st5);refine wpAny_mono (hg P2.objs.size s2 H2 fp pins _ s5 _ H5 x u _ I5' r5 (step x H5 y5)) (λ_ s6 h6=>?_) λ_ _ z=>z.elim
   obtain⟨σ6,H6,I6,wk6,q6⟩:=h6;refine wpAny_mono (ht P2.objs.size s2 H2 fp pins _ s6 σ6 H6 _ I6 q6) (λok s7 h7=>?_) λ_ _ z=>z.elim
   obtain⟨H7,I7,q7⟩:=h7;have keepT:∀{σ8:St}{H8:Hp}{s8:Shared},Inv (ahT X scope N P2.objs.size s2 H2 fp pins) ([((s2.heap.objs.size,⟨.type "list",none,.seq (List.toArray its) kk,#[]⟩):Addr×Obj)]++ajV fp s5.heap) σ8 H8 s8->
     (∀ b∈fp,∀ o,s5.heap.get? b=some o->s8.heap.get? b=some o)/\(∀ b∈fp,H8 b=none):=λ{σ8 H8 s8} I8=>by
    refine⟨λb hb o e=>(I8.pin (b,o) (List.mem_append_right _ (List.mem_append_right _ (c't hb e)))).1,λb hb=>?_⟩;obtain⟨o,e,d⟩:=T.obj _ _ st5 b hb;exact (I8.pin (b,o) (List.mem_append_right _ (List.mem_append_right _ (c't hb e)))).2.1
   have unpin:∀{σ8:St}{H8:Hp}{s8:Shared}{pl:List (Addr×Obj)},Inv (ahT X scope N P2.objs.size s2 H2 fp pins) pl σ8 H8 s8->Inv (ahT X scope N P2.objs.size s2 H2 fp pins) [] σ8 H8 s8:=λI8=>I8.pins_of λp hp=>by cases hp
   cases ok with
   |false=>
    simp only[Bool.false_eq_true,if_false] at q7 ⊢;obtain⟨m',hm,w7⟩:=hNN _ _ q7;have p7:=I7.pin (s2.heap.objs.size,_) (List.mem_append_right _ (List.mem_append_left _ (List.mem_singleton.mpr rfl)));obtain⟨k1,k2⟩:=keepT I7;exact⟨m',hm,i+1,acc,its,σ6,H7,unpin I7,wk6,T.keep _ _ _ st5 k1,k2,⟨kk,p7.1⟩,va3,p7.2.1,w7⟩
   |true=>
    simp only[if_true] at q7 ⊢;refine wpAny_mono (he P2.objs.size s2 H2 fp pins _ s7 σ6 H7 _ I7 q7) (λy s8 h8=>?_) λ_ _ z=>z.elim
    obtain⟨v,H8,I8,r8,hlt,q8⟩:=h8;obtain⟨m',hm,w8⟩:=hNN _ _ q8;have p8:=I8.pin (s2.heap.objs.size,_) (List.mem_append_right _ (List.mem_append_left _ (List.mem_singleton.mpr rfl)));obtain⟨k1,k2⟩:=keepT I8;have hl:=va3.length;refine wpAny_list_append_plain (items:=List.toArray its) (hsz:=by rw[List.size_toArray,<- hl];exact Nat.le_of_lt hlt) ⟨kk,p8.1⟩ λh₅ hl₅ hs₅=>?_
    have I9:Inv (ahT X scope N P2.objs.size s2 H2 fp pins) [] σ6 H8 { s8 with heap:=h₅ }:=(unpin I8).turned (t':=s8.toks) (it:=s2.heap.objs.size) (λb o hb e=>hs₅.extBut b o hb e) p8.2.1 hDC (.inr (Nat.le_refl _)) cellD (λp hp=>by
     have hp':p∈X.pn++pins:=by simpa [ahT] using hp
     exact pnD p hp')
    refine⟨m',hm,i+1,acc++[v],its++[y],σ6,H8,I9,wk6,T.keep _ _ _ st5 λb hb o e=>hs₅.extBut b o (λz=>hfD (z ▸ hb)) (k1 b hb o e),k2,?_,va3.append (.cons r8 .nil),p8.2.1,w8⟩;have e:(its++[y]).toArray=its.toArray.push y:=by simp
    rw[e];exact hl₅
 exact codeAny_compStart_list (loop _ rfl) (T.self X.A 0 _ _ _ st1 (loop _ rfl))
theorem s'K(hc:X.calm=true)(hi:PI X target iter wi)(hg:∀ C s H fp pl,PG (ahT X scope N C s H fp pl) target g)(ht:∀ C s H fp pl,PTs (ahT X scope N C s H fp pl) ifs ti)(he:∀ C s H fp pl,PE (ahT X scope N C s H fp pl) elt te)(hpk:PickOk X scope N ix)(hkind:scope.kind=.function:=by rfl)(hcell:∀ y∈scope.names,y.2≠.cell:=by decide)(hnames:∀ x∈scope.names,x.2=.local->scope.names.lookup x.1=some .local:=by decide)(hall:ajQ scope X.env=true:=by rfl)(hs:∀ x,foldedSetIterable iter X.env x=pure x:=by intro _;rfl):PE X (.ListComp elt [⟨target,iter,ifs,0⟩] scope pos) (amr wi g ti te ix):=by
 intro pins s σ H Q I h;rw[eval_ListComp];refine wpAny_comprehension_free (use:=none) rfl hs (f'V hall) hkind hnames ?_;refine thn (hi pins s σ H _ I h) λv s1 h1=>thn h1 λitv s2 h2=>?_
 obtain⟨it,fp,tn,J,H2,e,I2,T,st2,f2,h⟩:=h2;subst e;refine p'S (RR:=λacc C=>compPost (model X.prog X.w) X.A X.xe none (EP X pins σ Q) acc C) hc hg ht he hkind hcell hall hpk I2 T st2 f2 h ?_;intro D C s' H' m B hn hHC hle q;refine⟨m,hn,λh' hs'=>⟨.ref D,H',B.turned (t':=s'.toks) (it:=C) (λb o hb e=>hs'.extBut b o hb e) hHC (Nat.ne_of_gt (Nat.lt_of_lt_of_le I2.lt hle)) (.inr (Nat.le_trans I2.sz hle)) (λx c e=>?_) (λp hp=>?_),rfl,q⟩⟩
 ·obtain⟨v,o,ho,_⟩:=I2.cell x c e;exact Nat.ne_of_lt (Nat.lt_of_lt_of_le (Heap.lt_size ho) hle)
 ·exact Nat.ne_of_lt (Nat.lt_of_lt_of_le (Heap.lt_size (I2.pin p hp).1) hle)
end
section
variable{g:TG}{ti:TT}{te:TE}{ix:List (Option Nat)}{σ:St}{Q:VK}
def ang(J:It)(g:TG)(ti:TT)(te:TE)(ix:List (Option Nat))(σ:St)(Q:VK)(H1:Hp):Prop:=∃ W:Nat->Nat->List V->Hp->Prop,(∃ m,W 0 m [] H1)/\∀ i m acc H,W i m acc H->
 (J.stop i H/\acc.length<=sizeLine/\∀ p,H p=none->Q (.ref p) (upd H p (.lst acc)))\/
 (J.go i H/\∃ N:List V->Hp->Prop,(∀ acc' H',N acc' H'->∃ m',m'<m/\W (i+1) m' acc' H')/\∀ x H',J.yld i H x H'->g x (aiA ix σ) H' λσ2 H2=>Wk (aiA ix σ) σ2/\ti σ2 H2 λb H3=>if b=true then te σ2 H3 λv H4=>acc.length<sizeLine/\N (acc++[v]) H4 else N acc H3)
theorem w'U(Pv:Nat->List V->Hp->Prop)(h0:Pv 0 [] H1)(hgo:∀ i acc H,i<n->Pv i acc H->J.go i H)(hst:∀ acc H,Pv n acc H->J.stop n H)(hs:∀ i x acc H H',i<n->Pv i acc H->J.yld i H x H'->g x (aiA ix σ) H' λσ2 H2=>Wk (aiA ix σ) σ2/\ti σ2 H2 λb H3=>if b=true then te σ2 H3 λv H4=>acc.length<sizeLine/\Pv (i+1) (acc++[v]) H4 else Pv (i+1) acc H3)(hd:∀ acc H,Pv n acc H->acc.length<=sizeLine/\∀ p,H p=none->Q (.ref p) (upd H p (.lst acc))):ang J g ti te ix σ Q H1:=by
 refine⟨λi m acc H=>m=n - i/\i<=n/\Pv i acc H,⟨n,by simp,Nat.zero_le _,h0⟩,?_⟩;rintro i m acc H ⟨rfl,hi,p⟩;by_cases hlt:i<n
 ·exact .inr ⟨hgo i acc H hlt p,Pv (i+1),λacc' H' p'=>⟨n - (i+1),by omega,rfl,hlt,p'⟩,λx H' y=>hs i x acc H H' hlt p y⟩
 ·have e:i=n:=by omega
  subst e;exact .inl ⟨hst acc H p,hd acc H p⟩
end
section
variable{X:Cx}
def an6:V->Option Int->Option Int->Hp->VK->Prop:=λx lo hi H Q=>∃ z,x=.str z/\z.length<=sizeLine/\Q (.str (Txt.slice z lo hi)) H
theorem u'Z:SlR X an6:=by
 intro pins s σ H x v vl vu lo hi sl Q I rx hs pl pu h;obtain⟨z,rfl,hz,q⟩:=h;obtain⟨t,rfl⟩:=(show ∃ t,v=Value.str z t from rx);refine⟨"str",_,F.slot_str_getitem.lookup,typeIs_str _ _ _,?_⟩;have fin:∀(tk:Tok)(k:Nat),EP X pins σ Q (.str (Txt.slice z lo hi) tk) { s with toks:=k }:=λtk k=>⟨.str _,H,I.tok k,⟨tk,rfl⟩,q⟩
 cases pl with
 |none=>
  cases pu with
  |none=>exact wpAny_getItem_str_slice (l:=none) (u:=none) (st:=none) hs rfl (post_val_or_str ⟨Nat.le_trans (Txt.slice_le z _ _) hz,λt' k=>fin t' k⟩)
  |int j tj=>exact wpAny_getItem_str_slice (l:=none) (u:=some (j,tj)) (st:=none) hs rfl (post_val_or_str ⟨Nat.le_trans (Txt.slice_le z _ _) hz,λt' k=>fin t' k⟩)
 |int i ti=>
  cases pu with
  |none=>exact wpAny_getItem_str_slice (l:=some (i,ti)) (u:=none) (st:=none) hs rfl (post_val_or_str ⟨Nat.le_trans (Txt.slice_le z _ _) hz,λt' k=>fin t' k⟩)
  |int j tj=>exact wpAny_getItem_str_slice (l:=some (i,ti)) (u:=some (j,tj)) (st:=none) hs rfl (post_val_or_str ⟨Nat.le_trans (Txt.slice_le z _ _) hz,λt' k=>fin t' k⟩)
end
def Fly(h0 h:Heap)(H:Hp)(x:Addr)(cls:Value):Prop:=
 h0.get? x=none/\H x=none/\∃ a0 oe vs T oT ts,h0.get? T=none/\H T=none/\h.get? x=some oe/\oe.cls=cls/\vs[0]?=some a0/\oe.data=.fields vs/\vs[1]?=some (.ref T)/\T≠x/\h.get? T=some oT/\oT.data=.fields ts/\ts[3]?=some .none
def CX1(P:Program)(w:World):CXT:=λouter H s E e s'=>∃ x cls H',e=.ref x/\s'.os=s.os/\AllBare s'.gens/\Un (frs outer) [] H H' s.heap s'.heap/\HOk P w H' s'.heap/\Fly s.heap s'.heap H' x cls/\E cls none H'
theorem ObjOk.has(x:ObjOk P w H h a o):∃ u,h.get? a=some u:=by
 cases o with
 |lst xs=>obtain⟨_,_,_,_,e⟩:=x; exact⟨_,e⟩
 |tup xs=>obtain⟨_,_,_,u,e,_⟩:=x; exact⟨_,e⟩
 |dK kvs=>obtain⟨_,_,_,_,u,_,_,e,_⟩:=x; exact⟨_,e⟩
 |dT kvs=>obtain⟨_,_,_,_,u,_,_,e,_⟩:=x; exact⟨_,e⟩
 |set S n=>obtain⟨u,_,_,_,e,_⟩:=x; exact⟨_,e⟩
 |ins C dx fs=>obtain⟨_,_,_,e,_⟩:=x; exact⟨_,e⟩
 |own y=>exact x
 |xd fs=>obtain⟨_,⟨u,_,_,e,_⟩,_⟩:=x; exact⟨_,e⟩
 |rng lo hi=>obtain⟨_,_,_,e⟩:=x; exact⟨_,e⟩
 |frz ob u=>obtain⟨e,_⟩:=x; exact⟨_,e⟩
 |tbl ps=>exact⟨_,x⟩
 |met f y=>exact⟨_,x⟩
 |ext φ=>exact x.2.1
theorem n'l{P:Program}{w:World}{fs fr l bad:List Addr}{H H':Hp}{h h1 h2:Heap}(u:Un fs [] H H' h h1)(hok:HOk P w H' h1)(hl:∀ b∈l,b∈bad\/b∈fr)(hb:∀ b∈bad,h.get? b=none/\H' b=none)(hfr:∀ b∈fr,(b∈fs\/h.get? b=none)/\H' b=none/\∃ o,h1.get? b=some o/\∀ vs,o.data≠.fields vs)(hfs:∀ b∈fs,b∈fr)(k:(W.hideAll h1 l).StaysIn h2)(sm:h1.UpToSlots h2):
  Un fs [] H H' h h2/\HOk P w H' h2/\∀ x cls a0,h2.TracedW (W.hideAll h1 l) x cls a0->h.get? x=none->H' x=none->Fly h h2 H' x cls:=by
 have gt:∀ b o,h1.get? b=some o->b ∉ bad->b ∉ fr->h2.get? b=some o:=λb o e n1 n2=>k b o (W.hideAll_get _ e λz=>(hl b z).elim n1 n2)
 have nb:∀ b o,h.get? b=some o->b ∉ bad:=λb o e z=>by rw[(hb b z).1] at e;cases e
 have slots:∀ b o,b∈fr->h1.get? b=some o->∃ sl,h2.get? b=some { o with slots:=sl }:=λb o hf e=>by
  obtain⟨_,_,o',e',d⟩:=hfr b hf;rw[e] at e';cases e';exact sm b o e d
 have tr:∀ b u,H' b=some u->b ∉ bad/\b ∉ fr:=λb u e=>⟨λz=>(by rw[(hb b z).2] at e;cases e),λz=>(by rw[(hfr b z).2.1] at e;cases e)⟩
 refine⟨⟨λb o e n hf hx=>?_,λb o e n hf hx=>?_,λb o e n hx=>u.free b o e n hx,λb o e hx=>?_,u.tups,u.frzs,u.tbls⟩,λb v e=>?_,λx cls a0 ht hx hHx=>?_⟩
 ·refine gt b o (u.keep b o e n hf hx) (nb b o e) λz=>?_
  rcases (hfr b z).1 with q |q
  ·exact hf q
  ·rw[e] at q;cases q
 ·obtain⟨sl,e1⟩:=u.slot b o e n hf hx;obtain⟨sl',e2⟩:=slots b _ (hfs b hf) e1;exact⟨sl',e2⟩
 ·obtain⟨o',e1⟩:=u.there b o e hx;by_cases hf:b∈fr
  ·obtain⟨sl,e2⟩:=slots b o' hf e1;exact⟨_,e2⟩
  ·exact⟨o',gt b o' e1 (nb b o e) hf⟩
 ·refine (hok b v e).stay (λc o hc q=>?_) (λ_ q=>q) λ_ _ q=>q
  rcases hc with rfl |hc
  ·exact gt c o q (tr c v e).1 (tr c v e).2
  ·exact gt c o q (tr c _ hc).1 (tr c _ hc).2
 ·obtain⟨oe,vs,T,oT,ts,t1,⟨t2,t3⟩,t4,t5,t6,t7,t8,t9,t10⟩:=ht;have hT:h.get? T=none/\H' T=none:=by
   cases q:h1.get? T with
   |none=>
    refine⟨?_,?_⟩
    ·cases r:h.get? T with
     |none=>rfl
     |some o=>obtain⟨o',e'⟩:=u.there T o r (by simp);rw[q] at e';cases e'
    ·cases r:H' T with
     |none=>rfl
     |some v=>obtain⟨o',e'⟩:=(hok T v r).has;rw[q] at e';cases e'
   |some o=>
    by_cases hm:T∈l
    ·rcases hl T hm with z |z
     ·exact hb T z
     ·obtain⟨sl,e2⟩:=slots T o z q;obtain⟨_,_,o',e',d⟩:=hfr T z;rw[q] at e';cases e';rw[t8] at e2;cases e2;exact absurd t9 (d ts)
    ·have:=W.hideAll_get _ q hm;rw[t6] at this;cases this
  exact⟨hx,hHx,a0,oe,vs,T,oT,ts,hT.1,hT.2,t1,t2,t3,t4,t5,t7,t8,t9,t10⟩
theorem Fly.traced{H:Hp}(f:Fly h0 h H x cls):∃ T a0,h0.get? T=none/\H T=none/\∀ l:List Addr,T∈l->h.TracedW (W.hideAll h l) x cls a0:=by
 obtain⟨_,_,a0,oe,vs,T,oT,ts,t1,t2,t3,t4,t5,t6,t7,t8,t9,t10,t11⟩:=f;exact⟨T,a0,t1,t2,λl hl=>⟨oe,vs,T,oT,ts,t3,⟨t4,t5⟩,t6,t7,W.hideAll_none _ hl,t8,t9,t10,t11⟩⟩
section
variable{X:Cx}{pins:List (Addr×Obj)}{σ:St}{H:Hp}{s:Shared}
theorem g't:∀ env∈l,∀ a,env.frame=some a->a∈frs l:=λenv he a hf=>List.mem_filterMap.mpr ⟨env,he,hf⟩
theorem Inv.frm(I:Inv X pins σ H s):∀ b∈frs X.stack,(b∈X.fs\/X.s₀.heap.get? b=none)/\H b=none/\∃ o,s.heap.get? b=some o/\∀ vs,o.data≠.fields vs:=λb hb=>by
 refine⟨?_,I.stkFree b hb,(I.stack.mem hb).2⟩;rcases List.mem_cons.mp (I.stkSub b hb) with e |e
 ·exact .inr (by rw[e];exact Heap.get?_none_of_le I.ok.above)
 ·exact .inl e
theorem n'm{E:XK}{x:Addr}{cls:Value}(hs:X.stack=X.env :: X.outer)(hf:X.env.frame=some X.env.locals)(hex:X.ex=[])(I:Inv X pins σ H s){l bad:List Addr}{h1:Heap}(hl:∀ b∈l,b∈bad\/b∈frs X.stack)(hb:∀ b∈bad,X.s₀.heap.get? b=none/\H b=none)(k:(W.hideAll s.heap l).StaysIn h1)(sm:s.heap.UpToSlots h1){a0:Value}(ht:h1.TracedW (W.hideAll s.heap l) x cls a0)(hx:X.s₀.heap.get? x=none)(hHx:H x=none)(e:E cls none H):CX1 X.prog X.w X.outer X.H₀ X.s₀ E (.ref x) { s with heap:=h1 }:=by
 have ub:=I.base;rw[hex] at ub;obtain⟨u,ok,fl⟩:=n'l ub I.hok hl hb I.frm (λb hb=>by rw[hs];unfold frs;rw[List.filterMap_cons,hf];exact List.mem_cons_of_mem _ hb) k sm;exact⟨x,cls,H,rfl,I.os,I.bare,u,ok,fl x cls a0 ht hx hHx,e⟩
def Xe1(X:Cx)(E:XK):Prop:=X.xe=λe s'=>wpAny (model X.prog X.w) X.A (leaving X.env e) (λ_ s''=>CX1 X.prog X.w X.outer X.H₀ X.s₀ E e s'') (λe' s''=>CX1 X.prog X.w X.outer X.H₀ X.s₀ E e' s'') s'
theorem a'A{E:XK}(hs:X.stack=X.env :: X.outer)(hf:X.env.frame=some X.env.locals)(hex:X.ex=[])(hxe:Xe1 X E):ajG (CX1 X.prog X.w) X E:=by
 intro pins σ H s e s' I hc;obtain⟨x,cls,H',rfl,os,bare,un,hok,fly,hE⟩:=hc;have J:Inv X pins σ H' s':=I.call' (ch:=[]) os un hok bare (λb z=>absurd z (by simp));have up:∀ b,s.heap.get? b=none->X.s₀.heap.get? b=none:=λb z=>by
  cases q:X.s₀.heap.get? b with
  |none=>rfl
  |some o=>obtain⟨o',e'⟩:=I.base.there b o q (by rw[hex];simp);rw[z] at e';cases e'
 obtain⟨T,a0,hT0,hT,htr⟩:=fly.traced;rw[hxe];have hin:∀ env∈X.env :: X.outer,∀ a,env.frame=some a->a∈x :: T :: frs X.stack:=λenv he a hf=>.tail _ (.tail _ (by rw[hs];exact g't env he a hf))
 refine wpAny_leaving_nextW (base:=W.hideAll s'.heap (x :: T :: frs X.stack)) (by rw[J.ok.frames,hs]) (W.funFrames_hide (hs ▸ J.stack) hin) hf (htr _ (.tail _ (.head _))) (λb o q=>W.of_hideAll _ q)
  (W.hideAll_none _ (.head _)) λh' hL=>?_
 obtain⟨k1,_,k3,k4⟩:=hL;exact n'm hs hf hex J (bad:=[x,T]) (λb hb=>by
  rcases List.mem_cons.mp hb with z |hb
  ·exact .inl (by rw[z];exact .head _)
  ·rcases List.mem_cons.mp hb with z |hb
   ·exact .inl (by rw[z];exact .tail _ (.head _))
   ·exact .inr hb) (λb hb=>by
  rcases List.mem_cons.mp hb with z |hb
  ·rw[z];exact⟨up _ fly.1,fly.2.1⟩
  ·have z:b=T:=by simpa using hb
   rw[z];exact⟨up _ hT0,hT⟩) k1 k4 k3 (up _ fly.1) fly.2.1 hE
end
theorem s'L{K:W.Frag}{h:Heap}{C:Addr}{bmB:List Value}{newId:String}(X:K.In h)(q:W.excIn K C bmB newId=true):
  ∃ bm N nm qn bs hd sn sub ab col dd k0 k1 k2 k3 k5 mN,h.get? C=some (excClassObj nm qn C N bs bm hd sn sub ab col dd k0 k1 k2 k3 k5 newId)/\h.Ns N mN/\mN "__init__"=none/\OwnTail h bmB bm:=by
 unfold W.excIn at q;split at q
 case h_2=>cases q
 case h_1 ddc cdc slc hlook=>
  split at q
  case h_2=>cases q
  case h_1 Cc bmc k0 k1 k2 k3 nn k5 hmro hslots=>
   simp only[Bool.and_eq_true,beq_iff_eq,Bool.not_eq_true'] at q;obtain⟨⟨⟨⟨⟨e1,e2⟩,e3⟩,e4⟩,e5⟩,e6⟩:=q;obtain⟨nm,bs,mro,ns,qn,hd,sn,sub,ab,col,del⟩:=cdc;dsimp only at hmro e3 e5 e6;obtain⟨ll⟩:=slc;simp only at hslots;subst e1 e2 e3 hmro hslots;exact⟨_,_,_,_,_,_,_,_,_,_,_,_,_,_,_,_,_,X _ _ hlook,.of_isNs (W.isNs_of_in X e5),W.nsMap_none_of_in X e5 e6,W.tail_of_in X e4⟩
def alg(C:Addr)(E:XK)(te:TE):TS:=λ_ σ H=>te σ H λ_ H'=>E (.ref C) none H'
section
variable{X:Cx}
theorem p'T{E:XK}{x:Str}{np cpos pos:Pos}{e₀:Expr}{te:TE}{C:Addr}{B newId initId:String}{bmB:List Value}(hs:X.stack=X.env :: X.outer)(hf:X.env.frame=some X.env.locals)(hex:X.ex=[])(hxe:Xe1 X E)(hcalm:X.calm=true)(hg:Gl X x)(hm:X.mg x=some (.ref C))(FB:ExcBaseFacts B newId initId bmB)(hq:W.excIn X.K C bmB newId=true)(he:PE X e₀ te)(hdb:(x == ("__debug__":Str))=false:=by decide)(hst:starEach [e₀] X.env=(false,eval e₀ X.env) :: starEach [] X.env:=by rfl)(hpl:(backTo cpos (starEach [] X.env)).any (·.1)=false:=by rfl):
  PS X (.Raise (some (.Call (.Name x np) [e₀] [] cpos)) none pos) (alg C E te):=by
 intro pins s σ H D I h;obtain⟨bm,N,nm,qn,bs,hd,sn,sub,ab,col,dd,k0,k1,k2,k3,k5,mN,hC,hN,hni,T⟩:=s'L I.ok.mod.kin hq;refine wpAny_Raise_call_subT (C:=C) (nm:=nm) (q:=qn) (N:=N) (bs:=bs) (bm:=bm) (hdct:=hd) (sn:=sn) (sub:=sub) (ab:=ab) (col:=col) (dd:=dd) (k0:=k0) (k1:=k1) (k2:=k2) (k3:=k3) (k5:=k5)
  FB (mN:=mN) (T.hasType FB.hasBase) (I.ok.hd hcalm) (by rw[hst];show (false || (backTo cpos (starEach [] X.env)).any (·.1))=false;rw[hpl];rfl) hni (b'V I hg hm ⟨rfl,?_⟩ hdb)
 rw[hst];refine Calls.evalArgs_plain ?_;refine Calls.spliced_cons ?_;refine thn (he pins s σ H _ I h) λu s1 ⟨v,H1,I1,_,q1⟩=>?_
 refine Calls.spliced_nil ?_;refine⟨rfl,by show (1:Nat)<=sizeLine;decide,I1.bk _ _ hC,hN.keeps I1.bk,T.keeps I1.bk,λh' e hmade=>?_⟩;obtain⟨t,ht,ht0,htt⟩:=hmade.there;have J:Inv X pins σ H1 { s1 with heap:=h' }:=I1.call' (ch:=[]) rfl (Un.kept hmade.keeps) (I1.hok.kept hmade.keeps) I1.bare (λb z=>absurd z (by simp));have up:∀ b,s1.heap.get? b=none->X.s₀.heap.get? b=none:=λb z=>by
  cases q:X.s₀.heap.get? b with
  |none=>rfl
  |some o=>obtain⟨o',e'⟩:=I1.base.there b o q (by rw[hex];simp);rw[z] at e';cases e'
 have hHe:H1 e=none:=by
  cases r:H1 e with
  |none=>rfl
  |some v=>obtain⟨o',e'⟩:=(I1.hok e v r).has;rw[hmade.new] at e';cases e'
 rw[hxe];have hin:∀ env∈X.env :: X.outer,∀ a,env.frame=some a->a∈e :: frs X.stack:=λenv he a hf=>.tail _ (by rw[hs];exact g't env he a hf)
 refine wpAny_leaving_firstW (base:=W.hideAll h' (e :: frs X.stack)) (a0:=.ref t) (by rw[J.ok.frames,hs]) (W.funFrames_hide (hs ▸ J.stack) hin) hf ht (λb o q=>W.of_hideAll _ q)
  (W.hideAll_none _ (.head _)) rfl rfl rfl λh2 hL=>?_
 obtain⟨l1,_,l3,l4⟩:=hL;exact n'm hs hf hex J (bad:=[e]) (λb hb=>by
  rcases List.mem_cons.mp hb with z |hb
  ·exact .inl (by rw[z];exact .head _)
  ·exact .inr hb) (λb hb=>by
  have z:b=e:=by simpa using hb
  rw[z];exact⟨up _ hmade.new,hHe⟩) l1 l4 l3 (up _ hmade.new) hHe q1
end
section
variable{P:Program}{w:World}{K:W.Frag}{mg:Str->Option Value}{base:Heap}
theorem Fun.ok1{x qual:Str}{st:Stmt}{f:Addr}{fd:FuncData}{N ps:List Str}{k:Nat}{sp:Sp}(F:Fun K x qual st f fd)(S:ahN N ps (ahM st))(len:∀ vs H Q E,sp vs H Q E->vs.length=ps.length)(hbody:∀(cdv:Value)(A:Around)(outer:List Env)(s:Shared)(H:Hp)(vs:List V)(Q:VK)(E:XK),Room k (A.deeper (envOfC qual (ahM st) s.heap.objs.size f cdv))->sp vs H Q E->
   ∃ t,PSs (akB (CX1 P w) P w K mg base N qual (ahM st) f cdv A outer s H E) (ain st) t/\t { nx:=λ_ H'=>Q .non H',rt:=Q } (start N vs) H):FnOk P w K mg base (CX1 P w) (k+1) f fd ps sp:=by
 obtain⟨oc,od,kV,doc,pm,an,cdv,ct,osl,rfl,lk,hcd⟩:=F.ex;exact q'X lk hcd S len λA outer s H vs Q E hr hsp=>hbody cdv A outer s H vs Q E hr hsp
end
section
variable{X:Cx}
def aio(CX:CXT)(X:Cx)(σ:St)(E:XK):Prop:=∀(pins:List (Addr×Obj))(H:Hp)(s:Shared)(e:Value)(s':Shared),Inv X pins σ H s->CX X.stack H s E e s'->X.xe e s'
def alh(sp:Sp)(dvs:List V)(R:St->XK)(t:TA):TE:=λσ H Q=>t σ H λvs H1=>sp (vs++dvs) H1 Q (R σ)
variable{CX:CXT}{k:Nat}{f:Addr}{fd:FuncData}{ps:List Str}{sp:Sp}{dvs:List V}{ds:List Value}{x:Str}{p pos:Pos}{e:Expr}{es:List Expr}{t:TA}
theorem g'u(F:FnOk X.prog X.w X.K X.mg X.base CX k f fd ps sp)(hr:Room k X.A)(hb:Binds X.K fd ps ds)(hd:Vals dvs ds)(hx:aio CX X σ E)(I:Inv X pins σ H s)(r:Vals vs us)(h:sp (vs++dvs) H Q E):wpAny (model X.prog X.w) X.A (call (.ref f) us) (EP X pins σ Q) X.xe s:=by
 have r2:=r.append hd;have hl:(us++ds).length=ps.length:=r2.length ▸ F.len _ _ _ _ h;refine wpAny_call (codeAny_mono (F.run X.A X.stack s H ⟨us,[]⟩ (us++ds) (vs++dvs) Q E hr I.env0 (hb s us I.kIn hl) r2 h) λr s' hq=>?_)
 match r,hq with
 |.error e,hq=>exact hx pins H s e s' I hq
 |.ok (.ret u),hq=>exact I.after hq
 |.ok .next,hq=>exact hq.elim
 |.ok .brk,hq=>exact hq.elim
 |.ok .cont,hq=>exact hq.elim
theorem p'U{R:St->XK}(F:FnOk X.prog X.w X.K X.mg X.base CX k f fd ps sp)(hr:Room k X.A)(hg:Gl X x)(hm:X.mg x=some (.ref f))(hk:W.keepIn X.K (.ref f)=true)(hb:Binds X.K fd ps ds)(hd:Vals dvs ds)(hx:∀ σ,aio CX X σ (R σ))(ha:PA X (e :: es) t)(hdb:(x == ("__debug__":Str))=false:=by decide)(he:starEach (e :: es) X.env=(false,eval e X.env) :: starEach es X.env:=by rfl)(hpl:(backTo pos (starEach es X.env)).any (·.1)=false:=by rfl):PE X (.Call (.Name x p) (e :: es) [] pos) (alh sp dvs R t):=by
 intro pins s σ H Q I h;refine wpAny_Call_Name_kw (b'V I hg hm ?_ hdb);exact W.callWith_K (h₀:=X.base) I.ok.mod.kin hk (thn (ha pos pins s σ H _ I h) λus s1 ⟨vs,H1,I1,r,q⟩=>⟨I1.kIn,g'u F hr hb hd (hx σ) I1 r q⟩) he hpl
abbrev Cx.kept2(X:Cx)(pn:List (Addr×Obj))(xe:Value->Shared->Prop):Cx:={ X with pn:=pn,xe:=xe }
theorem Cx.Ok.kept2(ok:X.Ok)(pn:List (Addr×Obj))(xe:Value->Shared->Prop):(X.kept2 pn xe).Ok:=
 ⟨ok.mod,ok.kind,ok.glob,ok.blt,ok.above,ok.inj,ok.has,ok.cab,ok.hd,ok.frames,ok.stk,ok.exf,ok.bs,ok.bsz,ok.noex,ok.exfs,ok.funs,ok.frf⟩
theorem Inv.keep2(I:Inv X pins σ H s)(xe:Value->Shared->Prop):Inv (X.kept2 (X.pn++pins) xe) [] σ H s:=
 ⟨I.ok.kept2 _ xe,I.os,I.bare,I.base,I.loc,I.cell,I.free,I.freeC,by rw[List.append_nil];exact I.pin,I.hok,I.len⟩
theorem Inv.unkeep2(ok:X.Ok)(I:Inv (X.kept2 (X.pn++pins) xe) more σ H s):Inv X pins σ H s:=
 ⟨ok,I.os,I.bare,I.base,I.loc,I.cell,I.free,I.freeC,λp hp=>I.pin p (List.mem_append_left _ hp),I.hok,I.len⟩
abbrev Cx.inHandler(X:Cx)(v:Value):Cx:={ X with A:=X.A.mark (some v),calm:=false,xe:=λ_ _=>False }
theorem Inv.inHandler(I:Inv X pins σ H s)(v:Value):Inv (X.inHandler v) pins σ H s:=
 ⟨⟨I.ok.mod,I.ok.kind,I.ok.glob,I.ok.blt,I.ok.above,I.ok.inj,I.ok.has,I.ok.cab,λz=>Bool.noConfusion z,I.ok.frames,I.ok.stk,I.ok.exf,I.ok.bs,I.ok.bsz,I.ok.noex,I.ok.exfs,I.ok.funs,I.ok.frf⟩,
  I.os,I.bare,I.base,I.loc,I.cell,I.free,I.freeC,I.pin,I.hok,I.len⟩
theorem Inv.outHandler(ok:X.Ok)(I:Inv (X.inHandler v) pins σ H s):Inv X pins σ H s:=
 ⟨ok,I.os,I.bare,I.base,I.loc,I.cell,I.free,I.freeC,I.pin,I.hok,I.len⟩
theorem SP.imp(q:SP Y pins' D fl s)(h:∀ σ H,Inv Y pins' σ H s->Inv X pins σ H s):SP X pins D fl s:=by
 cases fl with
 |next=>obtain⟨σ',H',I,q⟩:=q; exact⟨σ',H',h _ _ I,q⟩
 |brk=>obtain⟨σ',H',I,q⟩:=q; exact⟨σ',H',h _ _ I,q⟩
 |cont=>obtain⟨σ',H',I,q⟩:=q; exact⟨σ',H',h _ _ I,q⟩
 |ret u=>obtain⟨v,σ',H',I,r,q⟩:=q; exact⟨v,σ',H',h _ _ I,r,q⟩
def Cat(K:W.Frag)(C:Addr)(th:TS)(D:aky):St->XK:=λσ cls _ H=>W.exmOne K cls (.ref C)=some true/\th D σ H
def an7(K:W.Frag)(C:Addr)(tb:(St->XK)->TS)(th:TS):TS:=λD σ H=>tb (Cat K C th D) D σ H
theorem v'a{tb:(St->XK)->TS}(hs:X.stack=X.env :: X.outer)(hf:X.env.frame=some X.env.locals)(hg:Gl X x)(hm:X.mg x=some (.ref C))(hb:∀(pn:List (Addr×Obj))(xe:Value->Shared->Prop)(R:St->XK),(∀ σ,aio (CX1 X.prog X.w) (X.kept2 pn xe) σ (R σ))->PSs (X.kept2 pn xe) body (tb R))(hh:∀ v:Value,PSs (X.inHandler v) (b₀ :: suite) th)(hdb:(x == ("__debug__":Str))=false:=by decide):
  PS X (.Try body [.ExceptHandler (some (.Name x np)) none (b₀ :: suite) hpos] [] [] pos) (an7 X.K C tb th):=by
 intro pins s σ H D I h;refine wpAny_Try_except ?_;have land:∀ σ',aio (CX1 X.prog X.w) (X.kept2 (X.pn++pins) λe s₁=>wpAny (model X.prog X.w) X.A (noteFrame e X.env) (λ_ s₂=>wpAny (model X.prog X.w) X.A (setFlight e none)
   (λ_ s₃=>wpAny (model X.prog X.w) X.A (handleBy e X.env [.ExceptHandler (some (.Name x np)) none (b₀ :: suite) hpos]) (SP X pins D) X.xe s₃) X.xe s₂) X.xe s₁) σ' (Cat X.K C th D σ'):=by
  intro σ' pins' H1 s1 e s2 I1 hc;obtain⟨y,cls,H2,rfl,os,bare,un,hok,fly,hcat,hth⟩:=hc;have J1:Inv X pins σ' H1 s1:=Inv.unkeep2 I.ok I1;have J2:Inv X pins σ' H2 s2:=J1.call' (ch:=[]) os un hok bare (λb z=>absurd z (by simp));obtain⟨T,a0,hT0,hT,htr⟩:=fly.traced;have hin:∀ env∈X.env :: X.outer,∀ a,env.frame=some a->a∈y :: T :: frs X.stack:=λenv he a hf=>.tail _ (.tail _ (by rw[hs];exact g't env he a hf))
  have fl0:Heap.FlyingW (W.hideAll s2.heap (y :: T :: frs X.stack)) (X.env :: X.outer) y cls a0 s2.heap:=
   ⟨λb o q=>W.of_hideAll _ q,W.hideAll_none _ (.head _),W.funFrames_hide (hs ▸ J2.stack) hin,htr _ (.tail _ (.head _))⟩
  have after:∀ h2:Heap,(W.hideAll s2.heap (y :: T :: frs X.stack)).StaysIn h2->s2.heap.UpToSlots h2->Inv X pins σ' H2 { s2 with heap:=h2 }:=λh2 k sm=>by
   obtain⟨u,ok,_⟩:=n'l (fs:=frs X.stack) (fr:=frs X.stack) (bad:=[y,T]) un hok (λb hb=>by
    rcases List.mem_cons.mp hb with z |hb
    ·exact .inl (by rw[z];exact .head _)
    ·rcases List.mem_cons.mp hb with z |hb
     ·exact .inl (by rw[z];exact .tail _ (.head _))
     ·exact .inr hb) (λb hb=>by
    rcases List.mem_cons.mp hb with z |hb
    ·rw[z];exact⟨fly.1,fly.2.1⟩
    ·have z:b=T:=by simpa using hb
     rw[z];exact⟨hT0,hT⟩) (λb hb=>⟨.inl hb,(J2.frm b hb).2⟩) (λ_ hb=>hb) k sm
   exact J1.call' (s':={ s2 with heap:=h2 }) (ch:=[]) os u ok bare (λb z=>absurd z (by simp))
  refine wpAny_looks_onW (by rw[I.ok.frames,hs]) hf fl0 λh4 held4 sm4=>?_
  refine wpAny_landsW held4 λh5 fl5 sm5=>?_
  have J5:=after h5 fl5.1 (sm4.trans sm5);refine wpAny_handleBy_cons (codeAny_handlers_test ?_) (by intro q;cases q);have M5:=J5.inHandler (.ref y);refine b'V (X:=X.inHandler (.ref y)) M5 hg hm ?_ hdb;obtain⟨ob,hob,hoc⟩:=fl5.there;subst hoc;refine (W.exm_one (M:=model X.prog X.w) J5.kIn ((W.Looks.ld hob).andThen .now) hcat).here ?_;refine codeAny_handlers_suite (lands_againW fl5 λh6 fl6 sm6=>?_);have J6:=(after h6 fl6.1 ((sm4.trans sm5).trans sm6)).inHandler (.ref y);exact wpAny_mono (hh (.ref y) pins _ σ' H2 D J6 hth) (λfl s7 q=>q.imp λσ H J=>Inv.outHandler I.ok J) λ_ _ z=>z.elim
 refine wpAny_mono (hb _ _ _ land [] s σ H D (I.keep2 _) h) (λfl s1 q=>?_) λ_ _ z=>z
 have q':SP X pins D fl s1:=q.imp λσ H J=>Inv.unkeep2 I.ok J
 cases fl with
 |next=>exact wpAny_execs_nil q'
 |brk=>exact q'
 |cont=>exact q'
 |ret u=>exact q'
end
end L2
namespace L2
open PySem PySem.Spec PyProof.Rows PySem.W Builtin Builtin.ObjectAttr Builtin.Getset_descriptor
structure aow(K:Frag)(C:Addr):Prop where
 fg:findIn K (.ref C) "__getattribute__"=some (some (.builtin "BaseException.__getattribute__"))
 fn:findIn K (.ref C) "__getattr__"=some none
 fc:findIn K (.ref C) "__class__"=some (some (.builtin "object.__class__"))
 mo:mroIn K C (.type "object")=some true
 sb:subIn K (.ref C) (.type "BaseException")=some true
def aox(x C:Addr)(h:Heap):Prop:=∃ o,h.get? x=some o/\o.cls=.ref C
def exO(x C:Addr):HO:=.ext (aox x C)
end L2
namespace L2
open PySem PySem.Spec PyProof.Rows
theorem i'v:ajG (CX1 P w) X E0:=λ_ _ _ _ _ _ _ ⟨_,_,_,_,_,_,_,_,_,h⟩=>h.elim
end L2
namespace Vc
open PySem L2 Sf
theorem Le.exc(e:Le F F')(h:Rd F a (exO a B)):Rd F' a (exO a B):=e _ _ (by intro o w z;cases z) h
end Vc
namespace L2
open PySem PySem.Spec PyProof.Rows
theorem f'W:∀{bs:List Bool}{us:List Value},Vals (bs.map V.bl) us->us=bs.map Value.bool
 |[],_,.nil=>rfl
 |b :: r,_,.cons h t=>by
  have e:=f'W (bs:=r) t;subst e;cases h;rfl
theorem n'n(bs:List Bool):(List.range bs.length).all (λi=>bs.getD i false)=bs.all id:=by
 rw[Bool.eq_iff_iff,List.all_eq_true,List.all_eq_true];constructor
 ·intro h b hb;obtain⟨i,hi,rfl⟩:=List.getElem_of_mem hb;have z:=h i (List.mem_range.mpr hi);rw[List.getD_eq_getElem?_getD,List.getElem?_eq_getElem hi] at z;exact z
 ·intro h i hi;rw[List.mem_range] at hi;rw[List.getD_eq_getElem?_getD,List.getElem?_eq_getElem hi];exact h _ (List.getElem_mem hi)
theorem j'W(bs:List Bool):TruthOf prog w A (λi v=>(bs.map Value.bool).toArray[i]?=some v) (λi=>bs.getD i false):=by
 intro i v s Q E hP hQ;simp only[List.getElem?_toArray,List.getElem?_map] at hP;cases q:bs[i]? with
 |none=>rw[q] at hP; cases hP
 |some b=>
  rw[q] at hP;cases hP;have hQ:Q (bs.getD i false) s:=hQ;rw[List.getD_eq_getElem?_getD,q] at hQ;exact wpAny_pure hQ
section
variable{X:Cx}
theorem e'g(hc:X.calm=true):CallR X (.builtin "all") (λxs H Q=>∃(a:Addr)(bs:List Bool),xs=[.ref a]/\SqL X.K H a (bs.map V.bl)/\Q (.bl (bs.all id)) H):=by
 intro pins s σ H xs us Q I r h;obtain⟨a,bs,rfl,hq,q⟩:=h;obtain⟨u,rfl,ru⟩:=b'E r;cases ru;obtain⟨its,rv,p,hz⟩:=I.list hq;obtain rfl:=f'W rv;have hL:=p.isList;have la:a<s.heap.objs.size:=(let ⟨_,e,_⟩:=hL;Heap.lt_size e);refine call_all_walk (wpAny_pyIter_list hL ?_);refine⟨s.heap.objs.size,_,_,_,_,_,_,rfl,Walks.list (by exact I.ok.hd hc) _ a (Nat.ne_of_lt la) _,⟨⟨_,Heap.get?_push_size _ rfl,rfl,rfl⟩,(let ⟨o,e,c⟩:=hL;⟨o,Heap.get?_push_of_some _ e,c⟩)⟩,j'W bs,λh' tk hk=>?_⟩;refine⟨.bl (bs.all id),H,I.kept λb o e=>hk b o (λz=>absurd (Heap.lt_size e) (by rw[show b=s.heap.objs.size from by simpa using z];exact Nat.lt_irrefl _)) (Heap.get?_push_of_some _ e),?_,q⟩;rw[<- n'n];show _=_;simp
end
section
variable{X:Cx}
def PJ(X:Cx)(es:List Expr)(t:Str->TE):Prop:=
 ∀(out:Str)(pins:List (Addr×Obj))(s:Shared)(σ:St)(H:Hp)(Q:VK),Inv X pins σ H s->t out σ H Q->wpAny (model X.prog X.w) X.A (joinParts out (evalEach es X.env)) (EP X pins σ Q) X.xe s
def an8:Str->TE:=λout _ H Q=>out.length<=sizeLine/\Q (.str out) H
def an9(x:Str)(t:Str->TE):Str->TE:=λout σ H Q=>(out++x).length<=sizeLine/\t (out++x) σ H Q
def aoa(te:TE)(t:Str->TE):Str->TE:=λout σ H Q=>te σ H λv H1=>∃ y,v=.str y/\y.length<=sizeLine/\(out++y).length<=sizeLine/\t (out++y) σ H1 Q
theorem v'b:PJ X [] an8:=λout pins s σ H Q I h=>joinParts_nil ⟨.str out,H,I.tok _,⟨_,rfl⟩,h.2⟩ h.1
theorem v'c(hr:PJ X es t):PJ X (.Constant (.str x) j pos :: es) (an9 x t):=λout pins s σ H Q I h=>
 joinParts_cons (rest:=evalEach es X.env) (Calls.Constant_str ⟨h.1,hr (out++x) pins _ σ H Q (I.tok _) h.2⟩)
theorem v'd(he:PE X e te)(hr:PJ X es t):PJ X (.FormattedValue e (-1) none pos :: es) (aoa te t):=λout pins s σ H Q I h=>
 joinParts_cons (rest:=evalEach es X.env) (FormattedValue_plain (thn (he pins s σ H _ I h) λv s1 ⟨x,H1,I1,r1,y,e1,hz,hq,q1⟩=>by
  subst e1;obtain⟨t',rfl⟩:=r1;exact formatField_str (λt' tk=>⟨hq,hr (out++y) pins _ σ H1 Q (I1.tok _) q1⟩) hz))
def tJ(t:Str->TE):TE:=t Str.empty
theorem s'M(h:PJ X (a :: b :: es) t):PE X (.JoinedStr (a :: b :: es) pos) (tJ t):=λpins s σ H Q I q=>
 JoinedStr_many (h Str.empty pins s σ H Q I q)
end
end L2
namespace Vc
open PySem L2 Sf
section
variable{X:Cx}{pins:List (Addr×Obj)}{σ:St}{H:Hp}{s:Shared}{Au:Around}
theorem s'N(I:Inv X pins σ H s)(h1:SqL X.K H a xs)(h2:SqL X.K H b ys)(hu:Au.units<cLine)(hl:xs.length=ys.length)(e:Nat->Bool)(he:∀(j:Nat) x y u v,xs[j]?=some x->ys[j]?=some y->RelV x u->RelV y v->SeqAt.EqAt Au.in1 s u v (e j)):SeqAt.RcNeAt Au s (.ref a) (.ref b) (!(List.range xs.length).all e):=by
 obtain⟨us,r1,t1,_⟩:=I.list h1;obtain⟨ws,r2,t2,_⟩:=I.list h2;have l1:=r1.length;have l2:=r2.length;have z:=SeqAt.RcNeAt.lists (A:=Au) (e:=e) t1.isList t2.isList (by simp;omega) hu (λj h1 h2=>?_)
 ·have e0:(List.range us.toArray.size).all e=(List.range xs.length).all e:=by
   simp only[List.size_toArray];rw[<- l1]
  rw[e0] at z;exact z
 ·simp only[List.size_toArray] at h1 h2;obtain⟨u,e1,ru⟩:=r1.get (i:=j) (x:=xs[j]'(by omega)) (by simp);obtain⟨v,e2,rv⟩:=r2.get (i:=j) (x:=ys[j]'(by omega)) (by simp);obtain⟨_,f1⟩:=List.getElem?_eq_some_iff.mp e1;obtain⟨_,f2⟩:=List.getElem?_eq_some_iff.mp e2;have g1:us.toArray[j]'(by simpa using h1)=u:=by simpa using f1
  have g2:ws.toArray[j]'(by simpa using h2)=v:=by simpa using f2
  rw[g1,g2];exact he j _ _ u v (by simp) (by simp) ru rv
end
theorem flat_strs:∀ xs:List Str,(xs.map V.str).all ajH=true
 |[]=>rfl
 |y :: r=>by rw[List.map_cons,List.all_cons,flat_strs r]; rfl
theorem g'v{H:Hp}(h:H p=some (.lst xs)):tyV K "list" (.ref p) H:=by
 exact .inl ⟨rfl,xs,SqL.of h⟩
end Vc
namespace L2
open PySem PySem.Spec PyProof.Rows
def ams:R2:=λx y H Q=>∃ z n,x=.str z/\y=.int n/\z.length<=100/\0<=n/\n<=1000/\Q (.str (Txt.mul z n)) H
theorem m'd:OpR X (binaryOp .Mult) ams:=by
 intro pins s σ H x y v u Q I rx ry h;obtain⟨z,n,rfl,rfl,hz,h0,h1,q⟩:=h;obtain⟨t,rfl⟩:=rx;obtain⟨t',rfl⟩:=ry;exact SB.mul (mulOk_of 100 1000 hz (by omega) (by omega) (by decide) (by decide)) λt' k=>⟨.str _,H,I.tok _,⟨_,rfl⟩,q⟩
section
variable{X:Cx}
theorem h'r(h:StrsAre us ks):Vals (ks.map V.str) us:=by
 induction h with
 |nil=>exact .nil
 |cons _ _ _ ih=>exact .cons ⟨_,rfl⟩ ih
end
end L2
namespace Vc
open PySem L2 Sf
theorem j'X{a b:List Nat}(h1:¬ a<b)(h2:¬ b<a):a=b:=by
 rw[List.not_lt] at h1 h2;exact List.le_antisymm h2 h1
theorem f'X:∀(l:List Str),PyProof.Rows.sortedS l=true->l.Pairwise (λa b=>¬ b.cps.toList<a.cps.toList)
 |[],_=>.nil
 |x :: r,h=>by
  have tr:∀ a b c:List Nat,¬ b<a->¬ c<b->¬ c<a:=λa b c h1 h2=>by
   rw[List.not_lt] at h1 h2 ⊢;exact List.le_trans h1 h2
  have gen:∀(r:List Str)(p:Str),PyProof.Rows.risingS p r=true->(p :: r).Pairwise (λa b=>¬ b.cps.toList<a.cps.toList):=by
   intro r
   induction r with
   |nil=>intro p _;exact List.pairwise_singleton _ _
   |cons y t ih=>
    intro p h;have h':(!PySem.Spec.ltCps y.cps.toList p.cps.toList && PyProof.Rows.risingS y t)=true:=h;rw[Bool.and_eq_true,PyProof.Rows.ltCps_eq] at h';have h1:¬ y.cps.toList<p.cps.toList:=by simpa using h'.1
    have w:=ih y h'.2;refine List.pairwise_cons.mpr ⟨λb hb=>?_,w⟩;rcases List.mem_cons.mp hb with e |hb
    ·rw[e];exact h1
    ·exact tr _ _ _ h1 ((List.pairwise_cons.mp w).1 b hb)
  exact gen r x h
theorem m'e{a b:List Str}(h1:PyProof.Rows.sortedS a=true)(h2:PyProof.Rows.sortedS b=true)(p:a.Perm b):a=b:=by
 refine List.Perm.eq_of_pairwise (le:=λa b=>¬ b.cps.toList<a.cps.toList) (λx y _ _ e1 e2=>?_) (f'X a h1) (f'X b h2) p;have:=j'X e2 e1;cases x;cases y;simpa using this
noncomputable def srt(ks:List Str):List Str:=Classical.epsilon λl=>l.Perm ks/\PyProof.Rows.sortedS l=true
theorem v'e(h:l.Perm ks)(g:PyProof.Rows.sortedS l=true):l=srt ks:=by
 have:=Classical.epsilon_spec (p:=λl:List Str=>l.Perm ks/\PyProof.Rows.sortedS l=true) ⟨l,h,g⟩;exact m'e g this.2 (h.trans this.1.symm)
theorem n'o(ks:List Str):∃ l:List Str,l.Perm ks/\PyProof.Rows.sortedS l=true:=by
 have e:∃ l:List Str,l.Perm ks/\PyProof.Rows.sortedS l=true:=by
  refine⟨ks.mergeSort (λa b=>!decide (b.cps.toList<a.cps.toList)),List.mergeSort_perm _ _,PyProof.Rows.sortedS_of_pairwise _ ?_⟩;have:=List.pairwise_mergeSort (le:=λa b:Str=>!decide (b.cps.toList<a.cps.toList)) (λa b c h1 h2=>by
   have h1':¬ b.cps.toList<a.cps.toList:=by simpa using h1
   have h2':¬ c.cps.toList<b.cps.toList:=by simpa using h2
   rw[List.not_lt] at h1' h2';have:=List.not_lt.mpr (List.le_trans h1' h2');simpa using this) (λa b=>by
   rcases List.le_total a.cps.toList b.cps.toList with h |h
   ·have:=List.not_lt.mpr h;simp[this]
   ·have:=List.not_lt.mpr h;simp[this]) ks
  refine this.imp λh=>?_
  rw[PyProof.Rows.ltCps_eq];simpa using h
 exact e
theorem s'O(ks:List Str):(srt ks).length=ks.length:=(Classical.epsilon_spec (n'o ks)).1.length_eq
def r4(K:W.Frag){α β γ δ:Type}(A:Rep α)(B:Rep β)(C:Rep γ)(D:Rep δ):Rep (α×β×γ×δ):=λF v x=>∃ a v1 v2 v3 v4,v=.ref a/\SqT K F a [v1,v2,v3,v4]/\A F v1 x.1/\B F v2 x.2.1/\C F v3 x.2.2.1/\D F v4 x.2.2.2
end Vc
namespace L2
open PySem PySem.Spec PyProof.Rows
section
variable{X:Cx}
theorem n'p:OpR X (compareOp .Gt) (λx y H Q=>∃ i j,x=.str i/\y=.str j/\Q (.bl (decide (j.cps.toList<i.cps.toList))) H):=by
 intro pins s σ H x y v u Q I rx ry h;obtain⟨i,j,rfl,rfl,q⟩:=h;obtain⟨t,rfl⟩:=rx;obtain⟨t',rfl⟩:=ry;exact PySem.P.gt_str (a's I q rfl)
end
section
variable{X:Cx}
def amt(K:W.Frag):R2:=λx y H Q=>∃ l b xs zs,x=.ref l/\y=.ref b/\SqL K H l xs/\SqL K H b zs/\xs.length+zs.length<=sizeLine/\∀ p,H p=none->Q (.ref p) (upd H p (.lst (xs++zs)))
theorem s'P:OpR X (binaryOp .Add) (amt X.K):=by
 intro pins s σ H x y v u Q I rx ry h;obtain⟨l,b,xs,zs,rfl,rfl,hH,hB,hz,q⟩:=h;cases rx;cases ry;obtain⟨its,r,p1,z1⟩:=I.list hH;obtain⟨its2,r2,p2,z2⟩:=I.list hB;have n1:=r.length;have n2:=r2.length;obtain⟨⟨c1,d1,t1,sl1⟩,ho,hc,n,hd⟩:=p1.isList;obtain⟨⟨c2,d2,t2,sl2⟩,ho2,hc2,m,hd2⟩:=p2.isList;simp only at hc hd hc2 hd2;subst hc hd hc2 hd2;refine concat_meets ⟨_,ho,rfl⟩ ⟨_,ho2,rfl⟩ noFill_list_add seq_list_add PySem.F.slot_list_add PySem.F.entry_list_add (PySem.F.args_list_add_2 _ _) (list_addW l b its.toArray its2.toArray n m d1 d2 sl1 sl2 (by simp;omega)) ⟨ho,ho2,?_⟩;rw[show its.toArray++its2.toArray=(its++its2).toArray by simp];exact⟨.ref _,_,I.lnew (t':=s.toks) (r.append r2) (by rw[List.length_append];omega),rfl,q _ I.fresh⟩
theorem n'q:CallR X (.type "int") (λxs H Q=>∃ b,xs=[.bl b]/\Q (.int (if b=true then 1 else 0)) H):=by
 intro pins s σ H xs us Q I r h;obtain⟨b,rfl,q⟩:=h;obtain⟨u,rfl,ru⟩:=b'E r;cases ru;exact call_int_bool ⟨.int _,H,I.tok _,⟨_,rfl⟩,q⟩
end
end L2
namespace Vc
open PySem L2
def hid(a b:Addr)(H:Hp):Hp:=λx=>if x=a\/x=b then none else H x
end Vc
namespace L2
open PySem
def Ris(xs:Array Nat):Prop:=∀ i j (hj:j<xs.size) (hi:i<j),xs[i]'(Nat.lt_trans hi hj)<xs[j]
theorem p'V(xs:Array Nat)(j:Nat)(hR:Ris xs):∀(fuel lo hi:Nat),hi - lo<=fuel->lo<=hi->hi<=xs.size->(∀ i (h:i<xs.size),i<lo->xs[i]<j)->(∀ i (h:i<xs.size),hi<=i->j<=xs[i])->
  SetTable.below.go xs j fuel lo hi<=xs.size/\(∀ i (h:i<xs.size),i<SetTable.below.go xs j fuel lo hi->xs[i]<j)/\(∀ i (h:i<xs.size),SetTable.below.go xs j fuel lo hi<=i->j<=xs[i]):=by
 intro fuel
 induction fuel with
 |zero=>intro lo hi h1 h2 h3 h4 h5; unfold SetTable.below.go; exact⟨by omega,h4,λi h e=>h5 i h (by omega)⟩
 |succ f ih=>
  intro lo hi h1 h2 h3 h4 h5;unfold SetTable.below.go;by_cases hl:lo<hi
  ·rw[if_pos hl];dsimp only;have hm:(lo+hi) / 2<xs.size:=by omega
   have eg:xs.getD ((lo+hi) / 2) j=xs[(lo+hi) / 2]:=by rw[Array.getD_eq_getD_getElem?,Array.getElem?_eq_getElem hm];rfl
   rw[eg];by_cases hx:xs[(lo+hi) / 2]<j
   ·rw[if_pos hx];refine ih _ _ (by omega) (by omega) h3 (λi h e=>?_) h5;by_cases z:i=(lo+hi) / 2
    ·subst z;exact hx
    ·exact Nat.lt_trans (hR i _ hm (by omega)) hx
   ·rw[if_neg hx];refine ih _ _ (by omega) (by omega) (by omega) h4 λi h e=>?_
    by_cases z:i=(lo+hi) / 2
    ·subst z;omega
    ·have:=hR ((lo+hi) / 2) i h (by omega);omega
  ·rw[if_neg hl];exact⟨by omega,h4,λi h e=>h5 i h (by omega)⟩
theorem d'C(hR:Ris xs)(j:Nat):SetTable.below xs j<=xs.size/\(∀ i (h:i<xs.size),i<SetTable.below xs j->xs[i]<j)/\(∀ i (h:i<xs.size),SetTable.below xs j<=i->j<=xs[i]):=
 p'V xs j hR _ _ _ (by omega) (by omega) (Nat.le_refl _) (λi h e=>by omega) (λi h e=>by omega)
theorem p'W(hR:Ris xs)(h:i<xs.size):SetTable.below xs (xs[i]+1)=i+1:=by
 obtain⟨a,b,c⟩:=d'C hR (xs[i]+1);have h1:¬ SetTable.below xs (xs[i]+1)<=i:=λz=>by have:=c i h z;omega
 by_cases z:i+1<SetTable.below xs (xs[i]+1)
 ·have h2:i+1<xs.size:=by omega
  have:=b (i+1) h2 z;have:=hR i (i+1) h2 (by omega);omega
 ·omega
theorem m'f(hR:Ris xs):SetTable.below xs 0=0:=by
 obtain⟨a,b,c⟩:=d'C hR 0;by_cases z:0<SetTable.below xs 0
 ·have:=b 0 (by omega) z;omega
 ·omega
theorem m'g(hR:Ris xs)(hn:xs[SetTable.below xs j]?≠some j):Ris (SetTable.insertAt xs (SetTable.below xs j) j):=by
 obtain⟨a,b,c⟩:=d'C hR j;generalize SetTable.below xs j=p at *;have hs:(SetTable.insertAt xs p j).size=xs.size+1:=by unfold SetTable.insertAt;simp;omega
 have at':∀ i,(SetTable.insertAt xs p j)[i]?=if i<p then xs[i]? else if i=p then some j else xs[i - 1]?:=by
  intro i;unfold SetTable.insertAt;have hx:((xs.extract 0 p).push j).size=p+1:=by simp;omega
  rw[Array.getElem?_append];rw[hx];by_cases h1:i<p
  ·rw[if_pos (by omega),if_pos h1,Array.getElem?_push_lt (by simp;omega)];simp[Array.getElem_extract]
  ·rw[if_neg h1];by_cases h2:i=p
   ·rw[if_pos (by omega),if_pos h2];have:(xs.extract 0 p).size=i:=by simp;omega
    rw[<- this,Array.getElem?_push_size]
   ·rw[if_neg (by omega),if_neg h2];rw[Array.getElem?_extract];have e:p+(i - (p+1))=i - 1:=by omega
    rw[e];by_cases h3:i - (p+1)<min xs.size xs.size - p
    ·rw[if_pos h3]
    ·rw[if_neg h3,Array.getElem?_eq_none (by omega)]
 have strict:∀ i (h:i<xs.size),p<=i->j<xs[i]:=by
  intro i h hp;have h0:p<xs.size:=by omega
  have h1:=c p h0 (Nat.le_refl _);have h2:xs[p]≠j:=λz=>hn (by rw[Array.getElem?_eq_getElem h0,z])
  by_cases z:i=p
  ·subst z;omega
  ·have:=hR p i h (by omega);omega
 intro i k hk hi;have gi:=at' i;have gk:=at' k;rw[Array.getElem?_eq_getElem (by omega)] at gi;rw[Array.getElem?_eq_getElem hk] at gk;rw[hs] at hk;by_cases k1:k<p
 ·rw[if_pos k1,Array.getElem?_eq_getElem (by omega)] at gk;rw[if_pos (by omega),Array.getElem?_eq_getElem (by omega)] at gi;rw[Option.some.inj gi,Option.some.inj gk];exact hR i k (by omega) hi
 ·rw[if_neg k1] at gk;by_cases k2:k=p
  ·rw[if_pos k2] at gk;rw[if_pos (by omega),Array.getElem?_eq_getElem (by omega)] at gi;rw[Option.some.inj gi,Option.some.inj gk];exact b i (by omega) (by omega)
  ·rw[if_neg k2,Array.getElem?_eq_getElem (by omega)] at gk;rw[Option.some.inj gk];by_cases i1:i<p
   ·rw[if_pos i1,Array.getElem?_eq_getElem (by omega)] at gi;rw[Option.some.inj gi];exact hR i (k - 1) (by omega) (by omega)
   ·rw[if_neg i1] at gi;by_cases i2:i=p
    ·rw[if_pos i2] at gi;rw[Option.some.inj gi];exact strict (k - 1) (by omega) (by omega)
    ·rw[if_neg i2,Array.getElem?_eq_getElem (by omega)] at gi;rw[Option.some.inj gi];exact hR (i - 1) (k - 1) (by omega) (by omega)
theorem p'X{l:List Nat}(h:l.Pairwise (·<·)):Ris l.toArray:=by
 intro i j hj hi;have:=List.pairwise_iff_getElem.mp h i j (by simpa using Nat.lt_trans hi hj) (by simpa using hj) hi;simpa using this
theorem c'V(n:Nat):Ris (Array.range n):=by
 intro i j hj hi;simp only[Array.getElem_range];exact hi
theorem n'r:Ris #[]:=λi j hj hi=>absurd hj (by simp)
theorem m'h:∀(fuel:Nat)(p:SetTable.Probe),(∀ d,p.dummy=some d->t.place[SetTable.below t.place d]?≠some d)->
  ∀ j d,SetTable.probe.go t hf h fuel p=some (.empty j d)->t.place[SetTable.below t.place (d.getD j)]?≠some (d.getD j):=by
 intro fuel
 induction fuel with
 |zero=>intro p _ j d e; unfold SetTable.probe.go at e; cases e
 |succ f ih=>
  intro p hp j d e;unfold SetTable.probe.go at e;have nl:(t.slot p.j=.empty\/t.slot p.j=.dummy)->t.place[SetTable.below t.place p.j]?≠some p.j:=by
   intro z q;unfold SetTable.slot at z;dsimp only at z;rw[if_pos (by rw[q];exact beq_self_eq_true _)] at z;rcases z with z |z<;>cases z
  have adv:∀ q:SetTable.Probe,(t.advance q).dummy=q.dummy:=λq=>by unfold SetTable.advance;split<;>rfl
  split at e
  ·rename_i hs;cases e;cases q:p.dummy with
   |none=>exact nl (.inl hs)
   |some d=>exact hp d q
  ·rename_i hs;refine ih _ (λd q=>?_) j d e;rw[adv] at q;cases q;exact nl (.inr hs)
  ·rename_i i hs;split at e
   ·cases e
   ·refine ih _ (λd q=>hp d (by rw[adv] at q;exact q)) j d e
theorem n's{t:SetTable}{h:Int}{s:Nat}{b:Bool}(e:t.freeSlot h=some (s,b)):t.place[SetTable.below t.place s]?≠some s:=by
 unfold SetTable.freeSlot at e;split at e
 ·rename_i j d q;cases e;exact m'h _ _ (λd z=>by cases z) j d q
 ·cases e
theorem h'M{t:SetTable}(hR:Ris t.place)(n:Nat):Ris (t.orStandIn n).place/\(t.orStandIn n).led=t.led:=by
 unfold SetTable.orStandIn;split
 ·exact⟨hR,rfl⟩
 ·exact⟨c'V _,rfl⟩
theorem m'i{t:SetTable}(hR:Ris t.place)(es:Array (Int×Value))(h:Int)(x:Value):Ris (layNew t es h x).2.1.place/\(layNew t es h x).2.1.led=t.led:=by
 unfold layNew;split
 ·rename_i s b e;exact h'M (t:=(t.put s).1) (m'g hR (n's e)) _
 ·exact⟨c'V _,rfl⟩
theorem i'w{t:SetTable}(hR:Ris t.place)(es:Array (Int×Value))(n:Nat):Ris (relayAll t es n).2.1.place/\(relayAll t es n).2.1.led=t.led:=by
 unfold relayAll;split
 ·rename_i t' o e;dsimp only;split
  ·unfold SetTable.relaid SetTable.laid at e;cases q:SetTable.layClean (SetTable.sizeAbove n - 1) (es.map (·.1)) with
   |none=>rw[q] at e;cases e
   |some ow=>
    rw[q] at e;cases e;refine⟨p'X ?_,rfl⟩;rw[List.pairwise_map];refine List.Pairwise.filterMap (R:=(·<·)) _ (λa a' hlt b hb b' hb'=>?_) List.pairwise_lt_range;cases z1:ow.getD a none with
    |none=>rw[z1] at hb;cases hb
    |some y1=>
     rw[z1] at hb;cases hb;cases z2:ow.getD a' none with
     |none=>rw[z2] at hb';cases hb'
     |some y2=>rw[z2] at hb';cases hb';exact hlt
  ·exact⟨c'V _,rfl⟩
 ·exact⟨c'V _,rfl⟩
theorem d'D:∀(l:List α)(i:Nat)(h:i<l.length),(l[i] :: l.eraseIdx i).Perm l
 |[],_,h=>absurd h (by simp)
 |_ :: _,0,_=>.refl _
 |x :: r,i + 1,h=>(List.Perm.swap x _ _).trans (List.Perm.cons x (d'D r i (by simpa using h)))
theorem s'Q(nx:Nat->Nat):∀(fuel k:Nat)(left:List α)(out:Array α),left.length<=fuel->(pickOrder.go nx fuel k left out).toList.Perm (out.toList++left):=by
 intro fuel
 induction fuel with
 |zero=>intro k left out h; unfold pickOrder.go; cases left with
  |nil=>simp
  |cons _ _=>simp at h
 |succ f ih=>
  intro k left out h;unfold pickOrder.go;cases left with
  |nil=>simp
  |cons y r=>
   have hm:nx k % (y :: r).length<(y :: r).length:=Nat.mod_lt _ (by simp);rw[List.getElem?_eq_getElem hm];dsimp only;refine (ih _ _ _ (by rw[List.length_eraseIdx_of_lt hm];simp at h ⊢;omega)).trans ?_;rw[Array.toList_push,List.append_assoc];refine List.Perm.append_left _ ?_;exact d'D _ _ hm
theorem n't(nx:Nat->Nat)(xs:Array α):(pickOrder nx xs).toList.Perm xs.toList:=by
 unfold pickOrder;simpa using s'Q nx xs.size 0 xs.toList #[] (by simp)
section
variable{prog:Program}{w:World}{K:Type}[DecidableEq K]
noncomputable def kfo(knd:KeyKind prog w K)(v:Value):Option K:=by
 classical exact if h:∃ k,knd.is k v=true then some h.choose else none
variable{knd:KeyKind prog w K}
theorem d'j(h:knd.is k v=true):kfo knd v=some k:=by
 unfold kfo;have ex:∃ k,knd.is k v=true:=⟨k,h⟩;rw[dif_pos ex];exact congrArg some (knd.inj v _ _ ex.choose_spec h)
def aj7(w:World):Bool:=!(w.params.followText "set-order")
def GS(knd:KeyKind prog w K)(o:Obj)(ks:List K):Prop:=
 o.ExactSet/\∃ es ep t,o.data=.set es ep t/\ElemsOf knd es.toList/\t.fits es.size=true/\Ris t.place/\t.led=aj7 w/\(es.toList.filterMap λe=>kfo knd e.2).Perm ks
theorem h's:∀{es:List (Int×Value)},ElemsOf knd es->(es.filterMap λe=>kfo knd e.2).length=es.length
 |[],_=>rfl
 |e :: r,h=>by
  obtain⟨⟨k,hk,_⟩,_⟩:=h.head;rw[List.filterMap_cons,d'j hk];simp[h's h.tail]
theorem g'w{o:Obj}{es:Array (Int×Value)}{ks:List K}(h:ElemsOf knd es.toList)(p:(es.toList.filterMap λe=>kfo knd e.2).Perm ks):es.size=ks.length:=by
 rw[<- p.length_eq,h's h,Array.length_toList]
theorem p'Y(h:ElemsOf knd es)(k:K):(k∈es.filterMap λe=>kfo knd e.2)↔∃ e∈es,knd.is k e.2=true:=by
 rw[List.mem_filterMap];constructor
 ·rintro⟨e,he,q⟩;obtain⟨⟨k',hk,_⟩,_⟩:=h e he;rw[d'j hk] at q;cases q;exact⟨e,he,hk⟩
 ·rintro⟨e,he,q⟩;exact⟨e,he,d'j q⟩
variable{A:Around}{E:Value->Shared->Prop}{s:Shared}
theorem n'u{h:Heap}{a:Addr}{o:Obj}{es es':Array (Int×Value)}{ep:Nat}{t t':SetTable}(ho:h.get? a=some o)(hd:o.data=.set es ep t):
  (h.update a (Obj.putSet es' t')).get? a=some { o with data:=.set es' (ep+1) t' }:=by
 have:=Heap.get?_update_self (Obj.putSet es' t') ho (by rw[putSet_of es' t' hd];rfl);rw[putSet_of es' t' hd] at this;exact this
theorem k'r{g:Bool->Sem Unit}(hg:∀(b:Bool)(s₁:Shared)(Q':Unit->Shared->Prop),Q' () s₁->wpAny (model prog w) A (g b) Q' E s₁){a:Addr}{o:Obj}{es:Array (Int×Value)}{ep:Nat}{t:SetTable}(ho:s.heap.get? a=some o)(hex:o.ExactSet)(hd:o.data=.set es ep t){es1:Array (Int×Value)}{t2:SetTable}{ks:List K}(hel:ElemsOf knd es1.toList)(hp:(es1.toList.filterMap λe=>kfo knd e.2).Perm ks)(hb:es1.size<scanBound)(hf:t2.fits es1.size=true)(hR:Ris t2.place)(hL:t2.led=aj7 w){wd:Bool}{R:Option Bool->Shared->Prop}(h:∀ h' o',Heap.SameBut a s.heap h'->h'.get? a=some o'->GS knd o' ks->R (some true) { s with heap:=h' }):
  wpAny (model prog w) A (do
    storeSet a es1 t2
    if (!wd && t2.tooFull)=true then do
      g (relayAll t2 es1 (SetTable.grown es1.size)).2.2
      storeSet a (relayAll t2 es1 (SetTable.grown es1.size)).1 (relayAll t2 es1 (SetTable.grown es1.size)).2.1
      pure (some true)
     else pure (some true)) R E s:=by
 refine wpAny_bind (wpAny_storeSet_of ho hd ?_ (fits_of_scanBound hb));have ho1:=n'u (es':=es1) (t':=t2) ho hd;have hs1:=Heap.SameBut.update s.heap a (Obj.putSet es1 t2);split
 ·have q1:=relayAll_perm t2 es1 (SetTable.grown es1.size);have q2:=relayAll_fits t2 es1 (SetTable.grown es1.size);have q3:=i'w hR es1 (SetTable.grown es1.size);generalize relayAll t2 es1 (SetTable.grown es1.size)=Rl at q1 q2 q3 ⊢;have hsz:Rl.1.size=es1.size:=by rw[<- Array.length_toList,q1.length_eq,Array.length_toList]
  refine wpAny_bind (hg _ _ _ ?_);refine wpAny_bind (wpAny_storeSet_of ho1 rfl ?_ (fits_of_scanBound (by rw[hsz];exact hb)));have ho2:=n'u (es':=Rl.1) (t':=Rl.2.1) ho1 rfl;exact wpAny_pure (h _ _ (hs1.trans (Heap.SameBut.update _ a _)) ho2 ⟨hex,_,_,_,rfl,hel.perm q1,q2,q3.1,q3.2.trans hL,(q1.filterMap _).trans hp⟩)
 ·exact wpAny_pure (h _ _ hs1 ho1 ⟨hex,_,_,_,rfl,hel,hf,hR,hL,hp⟩)
def ajB(ks:List K)(k:K):List K:=if k∈ks then ks else ks++[k]
theorem v'f{a:Addr}{o:Obj}{ks:List K}{k:K}{x:Value}{Q:Bool->Shared->Prop}(hkey:knd.is k x=true)(hsc:x.scannable=true)(ho:s.heap.get? a=some o)(hG:GS knd o ks)(hroom:ks.length+1<scanBound)(h:∀(b:Bool) h' o',Heap.SameBut a s.heap h'->h'.get? a=some o'->GS knd o' (ajB ks k)->Q b { s with heap:=h' }):
  wpAny (model prog w) A (setAddHashed a x (knd.hash k)) Q E s:=by
 obtain⟨hex,es,ep,t,hd,hel,hf,hR,hL,hp⟩:=hG;have hn:=g'w (o:=o) hel hp;have hmem:=p'Y hel k;unfold setAddHashed setAddHashedIn;refine wpAny_holding (wpAny_bind (wpAny_setState_of ho hd hf ?_));dsimp only;rw[byScan_of hsc (by rw[hn];omega) hel];simp only[↓reduceIte];unfold setAddByScan;refine wpAny_bind (wpAny_bind (wpAny_rule (wpAny_bind (wpAny_setScan_of hkey ho hd hf hel ?_))));cases hr:List.findIdx? (λe=>knd.is k e.2) es.toList with
 |some j=>
  dsimp only;obtain⟨hj,hpj,_⟩:=List.findIdx?_eq_some_iff_getElem.mp hr;have hk:k∈ks:=hp.mem_iff.mp (hmem.mpr ⟨es.toList[j],List.getElem_mem hj,hpj⟩);refine wpAny_pure (wpAny_pure ?_);have:=h false s.heap o (Heap.SameBut.refl a s.heap) ho ⟨hex,es,ep,t,hd,hel,hf,hR,hL,by unfold ajB;rw[if_pos hk];exact hp⟩;have e:s={ s with heap:=s.heap }:=by cases s;rfl
  rw[e];exact this
 |none=>
  dsimp only;have hk:¬ k∈ks:=λz=>by
   obtain⟨e,he,q⟩:=hmem.mp (hp.mem_iff.mpr z);have:=List.findIdx?_eq_none_iff.mp hr e he;rw[q] at this;cases this
  have hgw:∀(b:Bool){s₁:Shared}{Q':Unit->Shared->Prop},Q' () s₁->wpAny (model prog w) A (match b with |true=>rule "set.scan.the-table-gave-way" |false=>pure ()) Q' E s₁:=
   λb s₁ Q' hq=>by cases b<;>first |exact wpAny_pure hq |exact wpAny_rule hq
  have q1:=layNew_perm t es (knd.hash k) x;have q2:=layNew_fits t es (knd.hash k) x;have q3:=m'i hR es (knd.hash k) x;generalize layNew t es (knd.hash k) x=L at q1 q2 q3 ⊢;obtain⟨es1,t1,wd,gave⟩:=L;dsimp only at q1 q2 q3 ⊢;rw[Array.toList_push] at q1;have hel1:ElemsOf knd es1.toList:=(hel.push hkey hsc).perm q1;have hp1:(es1.toList.filterMap λe=>kfo knd e.2).Perm (ajB ks k):=by
   refine (q1.filterMap _).trans ?_;rw[List.filterMap_append];unfold ajB;rw[if_neg hk];refine List.Perm.append hp ?_;rw[List.filterMap_cons,d'j (show knd.is k ((knd.hash k,x):Int×Value).2=true from hkey)];exact .refl _
  have hb1:es1.size<scanBound:=by rw[<- Array.length_toList,q1.length_eq,List.length_append,Array.length_toList,hn];exact hroom
  refine wpAny_bind (hgw _ ?_);split
  ·refine wpAny_bind ?_;rw[hashByValue_scannable 8 hsc];refine wpAny_pure ?_;refine k'r ?_ ho hex hd hel1 hp1 hb1 ?_ ?_ ?_ ?_
   ·intro b s₁ Q' hq;cases b<;>first |exact wpAny_pure hq |exact wpAny_rule hq
   ·split
    ·exact q2
    ·exact SetTable.fits_plain_off q2
   ·split<;>exact q3.1
   ·split<;>exact q3.2.trans hL
   ·intro h' o' hsb ho' hG';dsimp only;exact wpAny_pure (h true h' o' hsb ho' hG')
  ·refine wpAny_bind (wpAny_pure ?_);simp only[↓reduceIte];refine k'r ?_ ho hex hd hel1 hp1 hb1 q2 q3.1 (q3.2.trans hL) ?_
   ·intro b s₁ Q' hq;cases b<;>first |exact wpAny_pure hq |exact wpAny_rule hq
   ·intro h' o' hsb ho' hG';dsimp only;exact wpAny_pure (h true h' o' hsb ho' hG')
def ajk(ks:List K):List K:=ks.foldl ajB []
theorem n'v(ks:List K)(k:K):ajk (ks++[k])=ajB (ajk ks) k:=by unfold ajk;rw[List.foldl_append];rfl
theorem p'Z(ks:List K)(k:K):(ajB ks k).length<=ks.length+1:=by unfold ajB;split<;>simp
theorem i'x:∀ ks:List K,(ks.reverse.foldr (λx a=>ajB a x) []).length<=ks.length:=by
 intro ks;rw[List.foldr_reverse];generalize hq:([]:List K)=a0;have:∀(l a:List K),(l.foldl ajB a).length<=a.length+l.length:=by
  intro l
  induction l with
  |nil=>intro a;exact Nat.le_refl _
  |cons x r ih=>intro a;have:=ih (ajB a x);have:=p'Z a x;simp only[List.foldl_cons,List.length_cons];omega
 have:=this ks a0;rw[<- hq] at this ⊢;simpa using this
theorem d'E(ks:List K):(ajk ks).length<=ks.length:=by
 have:=i'x ks;rw[List.foldr_reverse] at this;exact this
end
theorem ahP:Slot "set_iterator" "__next__" "set_iterator.__next__":=
 .of (owner:="set_iterator") (n:="__next__") (by rw[typeLookup_type,builtinLookup_eq_fast];kernel_rfl) (by decide +kernel) (by decide +kernel) (by decide +kernel)
  (by first |exact .inl (by decide +kernel) |exact .inr (by decide +kernel)) (by rw[isSubtype_type];kernel_rfl)
theorem b'e:entryFor table "set_iterator.__next__"=some Builtin.«set_iterator.__next__»:=entryFor_of_fast (by kernel_rfl)
theorem b'i(a:Value):argsOk "set_iterator.__next__" ⟨[a],[]⟩:=by unfold argsOk;kernel_rfl
theorem c'q:Slot "set_iterator" "__iter__" "set_iterator.__iter__":=
 .of (owner:="set_iterator") (n:="__iter__") (by rw[typeLookup_type,builtinLookup_eq_fast];kernel_rfl) (by decide +kernel) (by decide +kernel) (by decide +kernel)
  (by first |exact .inl (by decide +kernel) |exact .inr (by decide +kernel)) (by rw[isSubtype_type];kernel_rfl)
theorem e'h:entryFor table "set_iterator.__iter__"=some Builtin.«dict_keyiterator.__iter__»:=
 entryFor_alias (id':="dict_keyiterator.__iter__") (by kernel_rfl) rfl (by decide +kernel) (by kernel_rfl)
theorem f'c(a:Value):argsOk "set_iterator.__iter__" ⟨[a],[]⟩:=by unfold argsOk;kernel_rfl
theorem g'x:entryFor table "set.__iter__"=some Builtin.«frozenset.__iter__»:=
 entryFor_alias (id':="frozenset.__iter__") (by kernel_rfl) rfl (by decide +kernel) (by kernel_rfl)
def sit(first:Value)(i a n ep:Nat):Obj:={ cls:=.type "set_iterator",data:=.fields #[first,.int i 0,.ref a,.int n 0,.int ep 0] }
section
variable{prog:Program}{w:World}{A:Around}{E:Value->Shared->Prop}{s:Shared}
theorem i'y{Q:Value->Shared->Prop}(hI:s.heap.get? I=some (sit first i a n ep))(h:Q (.ref I) s):wpAny (model prog w) A (pyIter (.ref I)) Q E s:=by
 have hT:s.TypeIs (.ref I) "set_iterator":=⟨_,hI,rfl⟩
 refine wpAny_pyIter_slot hT c'q (wpAny_call_entry c'q hT e'h ?_ (f'c _));show wpAny _ _ (ret (.ref I)) _ _ s;exact wpAny_pure ⟨_,rfl,"set_iterator",_,hT,ahP.lookup,h⟩
theorem q'a{I a o es ep t n}{sl sl' i:Nat}{x:Value}{Q:Option Value->Shared->Prop}(hI:s.heap.get? I=some (sit (.int sl 0) i a n ep))(ho:s.heap.get? a=some o)(hd:o.data=.set es ep t)(hf:t.fits es.size=true)(hn:es.size=n)(hx:∀(A':Around)(E':Value->Shared->Prop)(Q':Option (Value×Nat)->Shared->Prop),Q' (some (x,sl')) s->wpAny (model prog w) A' (setNext a sl i ep) Q' E' s)(hQ:∀ h',h'.get? I=some (sit (.int sl' 0) (i+1) a n ep)->Heap.SameBut I s.heap h'->Q (some x) { s with heap:=h' }):wpAny (model prog w) A (pyNext (.ref I)) Q E s:=by
 have hT:s.TypeIs (.ref I) "set_iterator":=⟨_,hI,rfl⟩
 unfold pyNext;refine wpAny_bind (wpAny_attempt (wpAny_callSpecial?_slot (name:=Str.ofString "__next__") hT ahP (wpAny_call_entry ahP hT b'e ?_ (b'i _))));show wpAny _ _ (fieldsOf (.ref I) >>= _) _ _ s;refine wpAny_bind (wpAny_fieldsOf hI rfl ?_);show wpAny _ _ (setEntries a >>= _) _ _ s;refine wpAny_bind (wpAny_setEntries_of ho hd hf ?_);rw[if_neg (by rw[hn];simp)];show wpAny _ _ (setNext a (Int.toNat sl) (Int.toNat i) (Int.toNat ep) >>= _) _ _ s;simp only[Int.toNat_natCast];refine wpAny_bind (hx _ _ _ ?_);dsimp only;refine wpAny_bind (wpAny_setField hI rfl (by simp) ?_);have h1:=Heap.get?_update_self (Obj.mapFields (·.setIfInBounds 0 (rawInt sl'))) hI rfl;refine wpAny_bind (wpAny_setField h1 rfl (by simp[sit,Obj.mapFields]) (wpAny_pure ⟨x,rfl,wpAny_pure (hQ _ ?_ ((Heap.SameBut.update ..).trans (Heap.SameBut.update ..)))⟩));have h2:=Heap.get?_update_self (Obj.mapFields (·.setIfInBounds 1 (rawInt ((i:Int)+1)))) h1 rfl;exact h2
theorem s'R{I a o es ep t n}{sl i:Nat}{Q:Option Value->Shared->Prop}(hh:A.handled=none)(hI:s.heap.get? I=some (sit (.int sl 0) i a n ep))(ho:s.heap.get? a=some o)(hd:o.data=.set es ep t)(hf:t.fits es.size=true)(hn:es.size=n)(hx:∀(A':Around)(E':Value->Shared->Prop)(Q':Option (Value×Nat)->Shared->Prop),Q' none s->wpAny (model prog w) A' (setNext a sl i ep) Q' E' s)(hQ:∀ h',Heap.ExtBut I s.heap h'->Q none { s with heap:=h' }):wpAny (model prog w) A (pyNext (.ref I)) Q E s:=by
 have hT:s.TypeIs (.ref I) "set_iterator":=⟨_,hI,rfl⟩
 unfold pyNext;refine wpAny_bind (wpAny_attempt (wpAny_callSpecial?_slot (name:=Str.ofString "__next__") hT ahP (wpAny_call_entry ahP hT b'e ?_ (b'i _))));show wpAny _ _ (fieldsOf (.ref I) >>= _) _ _ s;refine wpAny_bind (wpAny_fieldsOf hI rfl ?_);show wpAny _ _ (setEntries a >>= _) _ _ s;refine wpAny_bind (wpAny_setEntries_of ho hd hf ?_);rw[if_neg (by rw[hn];simp)];show wpAny _ _ (setNext a (Int.toNat sl) (Int.toNat i) (Int.toNat ep) >>= _) _ _ s;simp only[Int.toNat_natCast];refine wpAny_bind (hx _ _ _ ?_);dsimp only;refine wpAny_bind (wpAny_setField hI rfl (by simp) ?_);show wpAny _ _ (newExc (.type "StopIteration") [] >>= _) _ _ _;refine wpAny_bind ?_;simp only[newExc,newTuple];refine wpAny_bind (wpAny_newObj_type ?_ (by size_fits));refine wpAny_bind (m:=firstArgMember _ _) (wpAny_of_eq (a:=Value.none) (by first |rfl |(simp only[firstArgMember];rfl)) ?_);refine wpAny_newObj_type ?_ (by size_fits);simp only[raiseNew];refine wpAny_bind (wpAny_handled ?_);rw[show A.in1.handled=none from hh];refine wpAny_bind (wpAny_pure (wpAny_throw ?_));refine wpAny_bind (wpAny_isInstance (T:="StopIteration") (b:=true) ⟨_,Heap.get?_push_size _ rfl,rfl⟩ isSubtype_stop ?_);exact wpAny_pure (hQ _ (((Heap.SameBut.update ..).extBut.push _).push _))
theorem n'w{I a o es ep t n tp pl pn}{i j:Nat}{x:Value}{Q:Option Value->Shared->Prop}{po:Obj}(hI:s.heap.get? I=some (sit (.ref tp) i a n ep))(ho:s.heap.get? a=some o)(hd:o.data=.set es ep t)(hf:t.fits es.size=true)(hn:es.size=n)(hp:s.heap.get? tp=some po)(hpd:po.data=.seq pl pn)(hj:pl[i]?=some (.int j 0))(hx:∃ h,es[j]?=some (h,x))(hQ:∀ h',h'.get? I=some (sit (.ref tp) (i+1) a n ep)->Heap.SameBut I s.heap h'->Q (some x) { s with heap:=h' }):wpAny (model prog w) A (pyNext (.ref I)) Q E s:=by
 have hT:s.TypeIs (.ref I) "set_iterator":=⟨_,hI,rfl⟩
 obtain⟨hv,hx⟩:=hx;unfold pyNext;refine wpAny_bind (wpAny_attempt (wpAny_callSpecial?_slot (name:=Str.ofString "__next__") hT ahP (wpAny_call_entry ahP hT b'e ?_ (b'i _))));show wpAny _ _ (fieldsOf (.ref I) >>= _) _ _ s;refine wpAny_bind (wpAny_fieldsOf hI rfl ?_);show wpAny _ _ (setEntries a >>= _) _ _ s;refine wpAny_bind (wpAny_setEntries_of ho hd hf ?_);rw[if_neg (by rw[hn];simp)];show wpAny _ _ (seqItems? (.ref tp) >>= _) _ _ s;refine wpAny_bind (wpAny_seqItems hp hpd ?_);dsimp only;simp only[Int.toNat_natCast,hj];refine wpAny_bind ?_;unfold setNextDrawn;refine wpAny_bind (wpAny_setState_of ho hd hf ?_);simp only[Int.toNat_natCast,bne_self_eq_false,Bool.false_eq_true,if_false,hx];refine wpAny_pure ?_;refine wpAny_bind (wpAny_setField hI rfl (by simp) (wpAny_pure ⟨x,rfl,wpAny_pure (hQ _ ?_ (Heap.SameBut.update ..))⟩));exact Heap.get?_update_self (Obj.mapFields (·.setIfInBounds 1 (rawInt ((i:Int)+1)))) hI rfl
theorem q'b{I a o es ep t n tp pl pn}{Q:Option Value->Shared->Prop}(hh:A.handled=none)(hI:s.heap.get? I=some (sit (.ref tp) i a n ep))(ho:s.heap.get? a=some o)(hd:o.data=.set es ep t)(hf:t.fits es.size=true)(hn:es.size=n)(hp:s.heap.get? tp=some po)(hpd:po.data=.seq pl pn)(hj:pl[i]?=none)(hQ:∀ h',Heap.ExtBut I s.heap h'->Q none { s with heap:=h' }):wpAny (model prog w) A (pyNext (.ref I)) Q E s:=by
 have hT:s.TypeIs (.ref I) "set_iterator":=⟨_,hI,rfl⟩
 unfold pyNext;refine wpAny_bind (wpAny_attempt (wpAny_callSpecial?_slot (name:=Str.ofString "__next__") hT ahP (wpAny_call_entry ahP hT b'e ?_ (b'i _))));show wpAny _ _ (fieldsOf (.ref I) >>= _) _ _ s;refine wpAny_bind (wpAny_fieldsOf hI rfl ?_);show wpAny _ _ (setEntries a >>= _) _ _ s;refine wpAny_bind (wpAny_setEntries_of ho hd hf ?_);rw[if_neg (by rw[hn];simp)];show wpAny _ _ (seqItems? (.ref tp) >>= _) _ _ s;refine wpAny_bind (wpAny_seqItems hp hpd ?_);dsimp only;simp only[Int.toNat_natCast,hj];refine wpAny_bind (wpAny_setField hI rfl (by simp) ?_);have h1:=Heap.get?_update_self (Obj.mapFields (·.setIfInBounds 0 (rawInt 0))) hI rfl;refine wpAny_bind (wpAny_setField h1 rfl (by simp[sit,Obj.mapFields]) ?_);show wpAny _ _ (newExc (.type "StopIteration") [] >>= _) _ _ _;refine wpAny_bind ?_;simp only[newExc,newTuple];refine wpAny_bind (wpAny_newObj_type ?_ (by size_fits));refine wpAny_bind (m:=firstArgMember _ _) (wpAny_of_eq (a:=Value.none) (by first |rfl |(simp only[firstArgMember];rfl)) ?_);refine wpAny_newObj_type ?_ (by size_fits);simp only[raiseNew];refine wpAny_bind (wpAny_handled ?_);rw[show A.in1.handled=none from hh];refine wpAny_bind (wpAny_pure (wpAny_throw ?_));refine wpAny_bind (wpAny_isInstance (T:="StopIteration") (b:=true) ⟨_,Heap.get?_push_size _ rfl,rfl⟩ isSubtype_stop ?_);exact wpAny_pure (hQ _ ((((Heap.SameBut.update ..).trans (Heap.SameBut.update ..)).extBut.push _).push _))
end
section
variable{prog:Program}{w:World}{A:Around}{E:Value->Shared->Prop}{s:Shared}
variable{a ep:Nat}{o:Obj}{es:Array (Int×Value)}{t:SetTable}
theorem c'W{Q:Bool->Shared->Prop}(h:Q (w.params.followText "set-order") s):wpAny (model prog w) A setsByText Q E s:=by
 unfold setsByText;exact wpAny_bind (wpAny_askSetting (wpAny_pure h))
theorem h't{Q:Option (Value×Nat)->Shared->Prop}(ho:s.heap.get? a=some o)(hd:o.data=.set es ep t)(hf:t.fits es.size=true)(hB:w.params.followText "set-order"=true)(h:Q (((pickOrder (w.params.setOrder a ep) es)[i]?).map λe=>(e.2,sl)) s):wpAny (model prog w) A (setNext a sl i ep) Q E s:=by
 unfold setNext;refine wpAny_bind (wpAny_setState_of ho hd hf ?_);refine wpAny_bind (c'W ?_);rw[hB];simp only[bne_self_eq_false,Bool.false_eq_true,if_false,if_true];refine wpAny_bind ?_;unfold setWalk;refine wpAny_bind (wpAny_setState_of ho hd hf ?_);refine wpAny_bind (c'W ?_);rw[hB];simp only[if_true];refine wpAny_bind (wpAny_askSetting (wpAny_pure ?_));exact wpAny_pure h
theorem i'z{Q:Option (Value×Nat)->Shared->Prop}(ho:s.heap.get? a=some o)(hd:o.data=.set es ep t)(hf:t.fits es.size=true)(hB:w.params.followText "set-order"=false)(hL:t.led=true)(hD:(!t.plain && decide (es.size > 1))=false)(h:Q (match es[SetTable.below t.place sl]?,t.place[SetTable.below t.place sl]? with |some (_,x),some j=>some (x,j+1) |_,_=>none) s):wpAny (model prog w) A (setNext a sl i ep) Q E s:=by
 unfold setNext;refine wpAny_bind (wpAny_setState_of ho hd hf ?_);refine wpAny_bind (c'W ?_);rw[hB];simp only[Bool.false_eq_true,if_false];show wpAny _ _ (if (!t.plain && decide (es.size > 1))=true then _ else _) _ _ _;rw[hD];simp only[Bool.false_eq_true,if_false];refine wpAny_bind ?_;show wpAny _ _ (if (!t.led && !es.isEmpty)=true then _ else _) _ _ _;rw[hL];simp only[Bool.not_true,Bool.false_and,Bool.false_eq_true,if_false];exact wpAny_pure (wpAny_pure h)
theorem f'Y(hh:A.handled=none)(I:Addr)(hne:a≠I)(hd:o.data=.set es ep t)(hf:t.fits es.size=true)(vals:Array Value)(hvs:vals.size=es.size)(sl:Nat->Nat)(hi:∀(s:Shared)(A':Around)(E':Value->Shared->Prop)(Q':Option (Value×Nat)->Shared->Prop)(i:Nat)(x:Value),vals[i]?=some x->s.heap.get? a=some o->Q' (some (x,sl (i+1))) s->wpAny (model prog w) A' (setNext a (sl i) i ep) Q' E' s)(he:∀(s:Shared)(A':Around)(E':Value->Shared->Prop)(Q':Option (Value×Nat)->Shared->Prop),s.heap.get? a=some o->Q' none s->wpAny (model prog w) A' (setNext a (sl es.size) es.size ep) Q' E' s):
  Walks prog w A I [I,a] [I] es.size (λi v=>vals[i]?=some v) (λi h=>h.get? I=some (sit (.int (sl i) 0) i a es.size ep)/\h.get? a=some o) where
 sub:=λb hb=>by simp at hb;simp[hb]
 frame:=λ_ _ _ st hk=>⟨hk I (by simp) _ st.1,hk a (by simp) _ st.2⟩
 item:=λi s Q E hlt st hQ=>by
  have hx:vals[i]?=some vals[i]:=Array.getElem?_eq_getElem (by omega);refine q'a (n:=es.size) st.1 st.2 hd hf rfl (λA' E' Q' q=>hi s A' E' Q' i _ hx st.2 q) λh' hI' hs'=>?_
  exact hQ _ h' s.toks hx ⟨hI',hs'.extBut a _ hne st.2⟩ λb o hb e=>hs'.extBut b o (λh=>hb (by simp[h])) e
 done:=λs Q E st hQ=>s'R hh st.1 st.2 hd hf rfl (λA' E' Q' q=>he s A' E' Q' st.2 q) λh' he'=>hQ h' s.toks λb o hb e=>he' b o (λh=>hb (by simp[h])) e
 self:=λ_ _ _ _ st hQ=>i'y st.1 hQ
theorem m'j(hh:A.handled=none)(I tp:Addr)(hne:a≠I)(hnt:tp≠I)(hd:o.data=.set es ep t)(hf:t.fits es.size=true)(vals:Array Value)(hvs:vals.size=es.size)(js:List Nat)(hj:js.length=es.size)(hv:∀(i j:Nat),js[i]?=some j->∃ h x,vals[i]?=some x/\es[j]?=some (h,x)){po:Obj}{pn:Nat}(hpd:po.data=.seq (js.map λj:Nat=>rawInt j).toArray pn):
  Walks prog w A I [I,a,tp] [I] es.size (λi v=>vals[i]?=some v) (λi h=>h.get? I=some (sit (.ref tp) i a es.size ep)/\h.get? a=some o/\h.get? tp=some po) where
 sub:=λb hb=>by simp at hb;simp[hb]
 frame:=λ_ _ _ st hk=>⟨hk I (by simp) _ st.1,hk a (by simp) _ st.2.1,hk tp (by simp) _ st.2.2⟩
 item:=λi s Q E hlt st hQ=>by
  have e1:js[i]?=some js[i]:=List.getElem?_eq_getElem (by omega);obtain⟨h,x,hx,hex⟩:=hv i _ e1;refine n'w (n:=es.size) (j:=js[i]) st.1 st.2.1 hd hf rfl st.2.2 hpd (by rw[List.getElem?_toArray,List.getElem?_map,e1];rfl) ⟨h,hex⟩ λh' hI' hs'=>?_
  exact hQ _ h' s.toks hx ⟨hI',hs'.extBut a _ hne st.2.1,hs'.extBut tp _ hnt st.2.2⟩ λb o hb e=>hs'.extBut b o (λh=>hb (by simp[h])) e
 done:=λs Q E st hQ=>q'b hh st.1 st.2.1 hd hf rfl st.2.2 hpd (by rw[List.getElem?_toArray,List.getElem?_map,List.getElem?_eq_none (by omega)];rfl) λh' he'=>hQ h' s.toks λb o hb e=>he' b o (λh=>hb (by simp[h])) e
 self:=λ_ _ _ _ st hQ=>i'y st.1 hQ
theorem n'x:∀(n:Nat)(xs:List α)(s:Shared)(Q:List α->Shared->Prop),xs.length=n->(∀ d' ys,ys.Perm xs->Q ys { s with drawn:=d' })->wpAny (model prog w) A (drawOrder n xs) Q E s:=by
 intro n
 induction n with
 |zero=>intro xs s Q hl h; unfold drawOrder; cases xs with
  |nil=>exact wpAny_pure (h s.drawn [] (.refl _))
  |cons _ _=>simp at hl
 |succ n ih=>
  intro xs s Q hl h;cases xs with
  |nil=>simp at hl
  |cons x r=>
   unfold drawOrder;refine wpAny_bind ?_;refine λΓ p hΓ=>⟨by simp,?_⟩
   have hm:(model prog w).w.draws .order (s.drawn.get .order) % (x :: r).length<(x :: r).length:=Nat.mod_lt _ (by simp);show wpAny (model prog w) A _ Q E { s with drawn:=s.drawn.bump .order };rw[List.getElem?_eq_getElem hm];dsimp only;refine wpAny_bind (ih _ _ _ (by rw[List.length_eraseIdx_of_lt hm];simp at hl ⊢;omega) λd' ys hp=>?_);exact wpAny_pure (h d' _ ((hp.cons _).trans (d'D _ _ hm)))
theorem s'S{K:Type}[DecidableEq K]{knd:KeyKind prog w K}{ks:List K}(hh:A.handled=none)(ho:s.heap.get? a=some o)(hG:GS knd o ks)(hsz:ks.length<=sizeLine){Q:Value->Shared->Prop}(h:∀(h1:Heap)(d1:Drawn)(I:Addr)(vals:Array Value)(fp:List Addr)(St:Nat->Heap->Prop),(∀ b o,s.heap.get? b=some o->h1.get? b=some o)->(∀ b∈fp,b=a\/s.heap.objs.size<=b/\b<h1.objs.size)->s.heap.objs.size<=I->
   (∀ v∈vals.toList,∃ k,knd.is k v=true)->(vals.toList.filterMap (kfo knd)).Perm ks->Walks prog w A I fp [I] vals.size (λi v=>vals[i]?=some v) St->St 0 h1->Q (.ref I) { s with heap:=h1,drawn:=d1 }):
  wpAny (model prog w) A (pyIter (.ref a)) Q E s:=by
 obtain⟨hex,es,ep,t,hd,hel,hf,hR,hL,hp⟩:=hG;have hT:s.TypeIs (.ref a) "set":=⟨o,ho,hex.1⟩;have ha:a<s.heap.objs.size:=Heap.lt_size ho;have keyz:∀ vals:Array Value,vals.toList.Perm (es.toList.map (·.2))->(∀ v∈vals.toList,∃ k,knd.is k v=true)/\(vals.toList.filterMap (kfo knd)).Perm ks:=by
  intro vals q;refine⟨λv hv=>?_,(q.filterMap _).trans ?_⟩
  ·obtain⟨e,he,rfl⟩:=List.mem_map.mp (q.mem_iff.mp hv);obtain⟨⟨k,hk,_⟩,_⟩:=hel e he;exact⟨k,hk⟩
  ·rw[List.filterMap_map];exact hp
 have hfz:t.place.size=es.size:=by unfold SetTable.fits at hf;simp only[Bool.and_eq_true,beq_iff_eq] at hf;exact hf.1
 refine wpAny_pyIter_slot hT F.slot_set_iter (wpAny_call_entry F.slot_set_iter hT g'x ?_ (F.args_set_iter_1 _));show wpAny _ _ (Builtin.Frozenset.sizeOf a >>= _) _ _ s;refine wpAny_bind ?_;unfold Builtin.Frozenset.sizeOf;refine wpAny_bind (wpAny_setEntries_of ho hd hf (wpAny_pure ?_));refine wpAny_bind ?_;unfold setDrawn;refine wpAny_bind (wpAny_setState_of ho hd hf ?_);refine wpAny_bind (c'W ?_);show wpAny _ _ (pure (!(w.params.followText "set-order") && (!t.plain && decide (es.size > 1)))) _ _ _;refine wpAny_pure ?_;cases hB:w.params.followText "set-order" with
 |true=>
  simp only[Bool.not_true,Bool.false_and,Bool.false_eq_true,if_false];refine wpAny_bind (wpAny_pure ?_);refine wpAny_bind (wpAny_setEpoch_of ho hd hf ?_);refine wpAny_bind (wpAny_newObj_type (wpAny_pure ⟨_,rfl,"set_iterator",_,⟨_,Heap.get?_push_size _ rfl,rfl⟩,ahP.lookup,?_⟩));have hq:((pickOrder (w.params.setOrder a ep) es).map (·.2)).toList.Perm (es.toList.map (·.2)):=by rw[Array.toList_map];exact (n't _ es).map _
  have hz:((pickOrder (w.params.setOrder a ep) es).map (·.2)).size=es.size:=by rw[<- Array.length_toList,hq.length_eq,List.length_map,Array.length_toList]
  obtain⟨k1,k2⟩:=keyz _ hq;have W:=f'Y (prog:=prog) (w:=w) (A:=A) (a:=a) (o:=o) (ep:=ep) (t:=t) hh s.heap.objs.size (Nat.ne_of_lt ha) hd hf _ hz (λ_=>0) (λs A' E' Q' i x hx ho' q=>h't ho' hd hf hB (by rw[Array.getElem?_map] at hx;cases z:(pickOrder (w.params.setOrder a ep) es)[i]? with |none=>rw[z] at hx;cases hx |some y=>rw[z] at hx;cases hx;exact q)) (λs A' E' Q' ho' q=>h't ho' hd hf hB (by rw[Array.getElem?_eq_none (by rw[Array.size_map] at hz;omega)];exact q));rw[<- hz] at W;refine h _ s.drawn _ _ _ _ (λb o e=>Heap.get?_push_of_some _ e) (λb hb=>?_) (Nat.le_refl _) k1 k2 W ⟨by rw[hz];exact Heap.get?_push_size _ rfl,Heap.get?_push_of_some _ ho⟩;rcases List.mem_cons.mp hb with rfl |hb
  ·exact .inr ⟨Nat.le_refl _,by rw[Heap.size_push];exact Nat.lt_succ_self _⟩
  ·exact .inl (by simpa using hb)
 |false=>
  simp only[Bool.not_false,Bool.true_and];cases hD:(!t.plain && decide (es.size > 1)) with
  |false=>
   simp only[Bool.false_eq_true,if_false];refine wpAny_bind (wpAny_pure ?_);refine wpAny_bind (wpAny_setEpoch_of ho hd hf ?_);refine wpAny_bind (wpAny_newObj_type (wpAny_pure ⟨_,rfl,"set_iterator",_,⟨_,Heap.get?_push_size _ rfl,rfl⟩,ahP.lookup,?_⟩));have hq:(es.map (·.2)).toList.Perm (es.toList.map (·.2)):=by rw[Array.toList_map]
   have hz:(es.map (·.2)).size=es.size:=by rw[Array.size_map]
   obtain⟨k1,k2⟩:=keyz _ hq;have hL':t.led=true:=by rw[hL];unfold aj7;rw[hB];rfl
   have hb0:∀ i,i<=es.size->SetTable.below t.place (if i=0 then 0 else t.place.getD (i - 1) 0+1)=i:=by
    intro i hi;by_cases z:i=0
    ·rw[if_pos z,z];exact m'f hR
    ·rw[if_neg z];have hlt:i - 1<t.place.size:=by omega
     have:=p'W hR hlt;rw[Array.getD_eq_getD_getElem?,Array.getElem?_eq_getElem hlt];show SetTable.below t.place (t.place[i - 1]+1)=i;rw[this];omega
   have W:=f'Y (prog:=prog) (w:=w) (A:=A) (a:=a) (o:=o) (ep:=ep) (t:=t) hh s.heap.objs.size (Nat.ne_of_lt ha) hd hf _ hz (λi=>if i=0 then 0 else t.place.getD (i - 1) 0+1) (λs A' E' Q' i x hx ho' q=>i'z ho' hd hf hB hL' hD (by
      have hi:i<es.size:=by have:=(Array.getElem?_eq_some_iff.mp hx).1;rw[hz] at this;exact this
      rw[hb0 i (Nat.le_of_lt hi)];rw[Array.getElem?_map] at hx;rw[Array.getElem?_eq_getElem hi] at hx ⊢;rw[Array.getElem?_eq_getElem (by omega:i<t.place.size)];cases hx;have e2:(if i+1=0 then 0 else t.place.getD (i+1 - 1) 0+1)=t.place[i]'(by omega)+1:=by
       rw[if_neg (by omega),Nat.add_sub_cancel,Array.getD_eq_getD_getElem?,Array.getElem?_eq_getElem (by omega)];rfl
      rw[e2] at q;exact q)) (λs A' E' Q' ho' q=>i'z ho' hd hf hB hL' hD (by
      rw[hb0 es.size (Nat.le_refl _),Array.getElem?_eq_none (Nat.le_refl _)];exact q))
   rw[<- hz] at W;refine h _ s.drawn _ _ _ _ (λb o e=>Heap.get?_push_of_some _ e) (λb hb=>?_) (Nat.le_refl _) k1 k2 W ⟨by rw[hz];exact Heap.get?_push_size _ rfl,Heap.get?_push_of_some _ ho⟩;rcases List.mem_cons.mp hb with rfl |hb
   ·exact .inr ⟨Nat.le_refl _,by rw[Heap.size_push];exact Nat.lt_succ_self _⟩
   ·exact .inl (by simpa using hb)
  |true=>
   simp only[if_true];refine wpAny_bind (n'x es.size _ s _ List.length_range λd1 js hjs=>?_);have hjl:js.length=es.size:=by rw[hjs.length_eq,List.length_range]
   have hjb:∀ j∈js,j<es.size:=λj hj=>List.mem_range.mp (hjs.mem_iff.mp hj)
   simp only[newTuple];refine wpAny_bind (wpAny_newObj_type ?_ (by show (List.map _ js).toArray.size<=sizeLine;rw[List.size_toArray,List.length_map,hjl,g'w (o:=o) hel hp];exact hsz));have ho1:(s.heap.push { cls:=.type "tuple",data:=.seq (js.map λj:Nat=>rawInt j).toArray }).get? a=some o:=Heap.get?_push_of_some _ ho;refine wpAny_bind (wpAny_setEpoch_of (s:={ s with heap:=s.heap.push { cls:=.type "tuple",data:=.seq (js.map λj:Nat=>rawInt j).toArray },drawn:=d1 }) ho1 hd hf ?_);refine wpAny_bind (wpAny_newObj_type (wpAny_pure ⟨_,rfl,"set_iterator",_,⟨_,Heap.get?_push_size _ rfl,rfl⟩,ahP.lookup,?_⟩));have emap:∀(l:List Nat),(∀ j∈l,j<es.size)->(l.filterMap λj=>es[j]?.map (·.2)).length=l.length:=by
    intro l
    induction l with
    |nil=>intro _;rfl
    |cons j r ih=>
     intro hl;rw[List.filterMap_cons,Array.getElem?_eq_getElem (hl j List.mem_cons_self)];simp[ih λi hi=>hl i (List.mem_cons_of_mem _ hi)]
   have eat:∀(l:List Nat),(∀ j∈l,j<es.size)->∀(i j:Nat),l[i]?=some j->(l.filterMap λj=>es[j]?.map (·.2))[i]?=es[j]?.map (·.2):=by
    intro l
    induction l with
    |nil=>intro _ i j e;simp at e
    |cons j r ih=>
     intro hl i k e;have hj:=hl j List.mem_cons_self;rw[List.filterMap_cons,Array.getElem?_eq_getElem hj];cases i with
     |zero=>simp at e;subst e;rw[Array.getElem?_eq_getElem hj];rfl
     |succ i=>simpa using ih (λi hi=>hl i (List.mem_cons_of_mem _ hi)) i k (by simpa using e)
   have hq:(js.filterMap λj=>es[j]?.map (·.2)).toArray.toList.Perm (es.toList.map (·.2)):=by
    refine (hjs.filterMap _).trans ?_;have:((List.range es.size).filterMap λj=>es[j]?.map (·.2))=es.toList.map (·.2):=by
     refine List.ext_getElem? λi=>?_
     by_cases hi:i<es.size
     ·rw[eat (List.range es.size) (λj hj=>List.mem_range.mp hj) i i (by rw[List.getElem?_range hi]),List.getElem?_map,Array.getElem?_toList]
     ·rw[List.getElem?_eq_none (by rw[emap _ λj hj=>List.mem_range.mp hj,List.length_range];omega),List.getElem?_eq_none (by rw[List.length_map,Array.length_toList];omega)]
    rw[this]
   have hz:(js.filterMap λj=>es[j]?.map (·.2)).toArray.size=es.size:=by rw[List.size_toArray,emap js hjb,hjl]
   obtain⟨k1,k2⟩:=keyz _ hq;have hsp:(s.heap.push { cls:=.type "tuple",data:=.seq (js.map λj:Nat=>rawInt j).toArray }).objs.size=s.heap.objs.size+1:=Heap.size_push _ _;have W:=m'j (prog:=prog) (w:=w) (A:=A) (a:=a) (o:=o) (ep:=ep) (t:=t) hh (s.heap.objs.size+1) s.heap.objs.size (Nat.ne_of_lt (Nat.lt_succ_of_lt ha)) (Nat.ne_of_lt (Nat.lt_succ_self _)) hd hf _ hz js hjl (λi j e=>by
     have hj:=hjb j (List.mem_of_getElem? e);refine⟨es[j].1,es[j].2,?_,Array.getElem?_eq_getElem hj⟩;rw[List.getElem?_toArray,eat js hjb i j e,Array.getElem?_eq_getElem hj];rfl) (po:={ cls:=.type "tuple",data:=.seq (js.map λj:Nat=>rawInt j).toArray }) (pn:=0) rfl
   rw[<- hz] at W;rw[hsp];refine h _ d1 (s.heap.objs.size+1) _ _ _ (λb o e=>Heap.get?_push_of_some _ (Heap.get?_push_of_some _ e)) (λb hb=>?_) (Nat.le_succ _) k1 k2 W ⟨?_,Heap.get?_push_of_some _ ho1,Heap.get?_push_of_some _ (Heap.get?_push_size _ rfl)⟩
   ·rw[Heap.size_push,hsp];simp only[List.mem_cons,List.not_mem_nil,or_false] at hb;rcases hb with rfl |rfl |rfl
    ·exact .inr ⟨Nat.le_succ _,Nat.lt_succ_self _⟩
    ·exact .inl rfl
    ·exact .inr ⟨Nat.le_refl _,Nat.lt_succ_of_lt (Nat.lt_succ_self _)⟩
   ·rw[<- hsp,hz];exact Heap.get?_push_size _ rfl
theorem s'T(ho:s.heap.get? a=some o)(hex:o.ExactSet){Q:Bool->Shared->Prop}(h:Q false s):wpAny (model prog w) A (Builtin.List.listLengthHint (.ref a)) Q E s:=by
 have hT:s.TypeIs (.ref a) "set":=⟨o,ho,hex.1⟩
 unfold Builtin.List.listLengthHint;refine wpAny_bind (wpAny_specialOf hT F.slot_set_len.lookup ?_)
 (generalize hid:("set.__len__":String)=id0;(fail_if_success (clear hid id0));wp_delta;rw[show splitId id0=some ("set","__len__") from by subst hid;decide +kernel];subst hid)
 refine wpAny_bind (wpAny_isInstance (b:=true) hT (by rw[isSubtype_type];kernel_rfl) ?_);refine wpAny_ite_split (λz=>absurd z (by decide)) (λ_=>?_);refine wpAny_ite_split (λ_=>?_) (λz=>absurd (by decide +kernel) z);exact wpAny_bind (wpAny_typeOf hT (wpAny_pure h))
theorem m'k{K:Type}[DecidableEq K]{knd:KeyKind prog w K}{ks:List K}(hh:A.handled=none)(ho:s.heap.get? a=some o)(hG:GS knd o ks)(hsz:ks.length<=sizeLine){Q:List Value->Shared->Prop}(h:∀(h1:Heap)(tk:Nat)(d1:Drawn)(vs:List Value),(∀ b o,s.heap.get? b=some o->h1.get? b=some o)->(∀ v∈vs,∃ k,knd.is k v=true)->(vs.filterMap (kfo knd)).Perm ks->Q vs { s with heap:=h1,toks:=tk,drawn:=d1 }):
  wpAny (model prog w) A (collect (.ref a)) Q E s:=by
 have ha:a<s.heap.objs.size:=Heap.lt_size ho;have hex:=hG.1;unfold collect;refine wpAny_bind (wpAny_runValue (codeAny_builtin F.entry_proto_collect ?_));rw[Around.under_plainId F.plain_proto_collect _];show wpAny _ A.in1 (newList [] >>= λl=>again (.builtin "list.__iadd__" ⟨[l,.ref a],[]⟩)) _ _ s;refine wpAny_bind (wpAny_newObj_type ?_);refine wpAny_pure ⟨plainId_quiet F.plain_list_iadd _,codeAny_builtin F.entry_list_iadd ?_⟩;rw[Around.under_plainId F.plain_list_iadd _];show wpAny _ A.in1 (Builtin.List.listExtendWith (.ref s.heap.objs.size) (.ref a) (.ref s.heap.objs.size)) _ _ _;have hS₁:(s.heap.push { cls:=.type "list",data:=.seq ([]:List Value).toArray }).get? s.heap.objs.size=some { cls:=.type "list",data:=.seq ([]:List Value).toArray }:=Heap.get?_push_size _ rfl;have ho1:(s.heap.push { cls:=.type "list",data:=.seq ([]:List Value).toArray }).get? a=some o:=Heap.get?_push_of_some _ ho;have h1:Builtin.List.listSameRef (.ref s.heap.objs.size) (.ref a)=false:=by simp[Builtin.List.listSameRef,Nat.ne_of_gt ha]
 unfold Builtin.List.listExtendWith;refine wpAny_bind (wpAny_typeOf (T:="set") ⟨o,ho1,hex.1⟩ ?_);rw[if_neg (by rw[h1];decide)];refine wpAny_bind (s'S (A:=A.in1) (s:={ s with heap:=s.heap.push { cls:=.type "list",data:=.seq ([]:List Value).toArray } }) hh ho1 hG hsz λg d1 I vals fp St hk hfp hI v1 v2 W st=>?_);have hn:vals.size<=sizeLine:=by
  have:(vals.toList.filterMap (kfo knd)).length=vals.toList.length:=by
   generalize vals.toList=l at v1
   induction l with
   |nil=>rfl
   |cons v r ih=>
    obtain⟨k,hk⟩:=v1 v List.mem_cons_self;rw[List.filterMap_cons,d'j hk];simp[ih λu hu=>v1 u (List.mem_cons_of_mem _ hu)]
  have e2:=Array.length_toList (xs:=vals);rw[<- e2,<- this,v2.length_eq];exact hsz
 have hSf:s.heap.objs.size ∉ fp:=λhm=>by
  rcases hfp _ hm with e |⟨e,_⟩
  ·exact absurd e (Nat.ne_of_gt ha)
  ·have e:(s.heap.push { cls:=.type "list",data:=.seq ([]:List Value).toArray }).objs.size<=s.heap.objs.size:=e;rw[Heap.size_push] at e;omega
 have hSI:s.heap.objs.size≠I:=λe=>by
  have z:(s.heap.push { cls:=.type "list",data:=.seq ([]:List Value).toArray }).objs.size<=I:=hI;rw[Heap.size_push,<- e] at z;exact absurd z (Nat.not_succ_le_self _)
 refine wpAny_bind (wpAny_holding (s'T (hk _ _ ho1) hex ?_));refine wpAny_ite_split (λ_=>?_) (λz=>absurd z (by decide));refine wpAny_bind (wpAny_rule ?_);refine wpAny_bind ?_;have hS₂:=hk _ _ hS₁;show wpAny _ A.in1 (updateSeq s.heap.objs.size (·.push .none) >>= λ_=>updateSeq s.heap.objs.size (·.pop)) _ _ _;refine wpAny_bind (wpAny_updateSeq hS₂ rfl ?_);have hS₃:=Heap.get?_update_self (Obj.mapSeq (·.push Value.none)) hS₂ rfl;refine wpAny_updateSeq (hz:=by seq_fits) hS₃ rfl ?_;have hS₄:=Heap.get?_update_self (Obj.mapSeq (·.pop)) hS₃ rfl;have stay:∀ b o,b≠s.heap.objs.size->g.get? b=some o->((g.update s.heap.objs.size (Obj.mapSeq (·.push Value.none))).update s.heap.objs.size (Obj.mapSeq (·.pop))).get? b=some o:=λb o hb e=>
  (Heap.get?_update_other _ _ (Ne.symm hb)).trans ((Heap.get?_update_other _ _ (Ne.symm hb)).trans e)
 refine wpAny_pure ⟨plainId_quiet F.plain_extend_loop _,codeAny_extend_loopS W.toS hn s.heap.objs.size hSf _ vals.size 0 _ #[] _ rfl (Nat.zero_le _) (W.frame 0 _ _ st λb hb o e=>stay b o (λz=>hSf (z ▸ hb)) e) hS₄ (ItemsOf.nil _) λs' acc' c' hm hS' hacc=>?_⟩;show wpAny _ A (load s.heap.objs.size >>= _) _ _ s';refine wpAny_bind (wpAny_load hS' ?_);have ev:acc'=vals:=by
  refine Array.ext_getElem? λi=>?_
  by_cases hi:i<acc'.size
  ·rw[hacc.2 i acc'[i] (Array.getElem?_eq_getElem hi)];exact Array.getElem?_eq_getElem hi
  ·rw[Array.getElem?_eq_none (by omega),Array.getElem?_eq_none (by have:=hacc.1;omega)]
 subst ev;obtain⟨h',g',d',tk',os'⟩:=s';have eg:g'=s.gens:=hm.gens;have ed:d'=d1:=hm.drawn;have eo:os'=s.os:=hm.os;subst eg;subst ed;subst eo;refine wpAny_pure (h h' tk' d' _ (λb o e=>?_) v1 v2);have hb0:b<s.heap.objs.size:=Heap.lt_size e;refine hm.heap b o (λhmem=>?_) (stay b o (Nat.ne_of_lt hb0) (hk b o (Heap.get?_push_of_some _ e)));rcases List.mem_cons.mp hmem with e' |hmem
 ·exact absurd e' (Nat.ne_of_lt hb0)
 ·have z:(s.heap.push { cls:=.type "list",data:=.seq ([]:List Value).toArray }).objs.size<=I:=hI;rw[Heap.size_push] at z;rw[<- List.mem_singleton.mp hmem] at z;exact absurd (Nat.lt_of_lt_of_le hb0 (Nat.le_trans (Nat.le_succ _) z)) (Nat.lt_irrefl _)
end
section
variable{prog:Program}{w:World}{K:Type}[DecidableEq K]{knd:KeyKind prog w K}{A:Around}{E:Value->Shared->Prop}{s:Shared}
section
variable{R:Result->Shared->Prop}{I:Addr}{fp wr:List Addr}{G:Array GenState->Array GenState->Prop}{n:Nat}{P:Nat->Value->Prop}{St:Nat->Shared->Prop}
theorem s'U(W:WalksS prog w A.in1 I fp wr G n P St)(S:Addr)(hSf:S ∉ fp)(ks:List K)(hl:ks.length=n)(hval:∀ i v,P i v->v.scannable=true/\∀ k,ks[i]?=some k->knd.is k v=true)(hb:n+1<scanBound):
  ∀(k i:Nat)(s:Shared)(o:Obj),n - i=k->i<=n->St i s->s.heap.get? S=some o->GS knd o (ajk (ks.take i))->
   (∀ s' o',Moved (S :: wr) G s s'->s'.heap.get? S=some o'->GS knd o' (ajk ks)->R (.ok (.ret .none)) s')->
   codeAny (model prog w) A (.builtin "set.update.loop" ⟨[.ref S,.ref I],[]⟩) R s:=by
 have hSw:S ∉ wr:=λh=>hSf (W.sub _ h)
 have hsub:∀ b∈wr,b∈S :: wr:=λb hb=>List.mem_cons_of_mem _ hb
 intro k
 induction k with
 |zero=>
  intro i s o hk hi hst hS hG hR;have hin:i=n:=by omega
  subst hin;refine codeAny_builtin PyProof.Rows.F.entry_set_update_loop ?_;rw[Around.under_plainId PyProof.Rows.F.plain_set_update_loop _];show wpAny _ A.in1 (pyNext (.ref I) >>= _) _ _ s;refine wpAny_bind (W.done s _ _ hst λs' hm=>?_);show wpAny _ A.in1 (ret Value.none) _ _ s';rw[<- hl,List.take_length] at hG;exact wpAny_pure (hR s' o (hm.mono hsub) (hm.heap S _ hSw hS) hG)
 |succ k ih=>
  intro i s o hk hi hst hS hG hR;have hlt:i<n:=by omega
  refine codeAny_builtin PyProof.Rows.F.entry_set_update_loop ?_;rw[Around.under_plainId PyProof.Rows.F.plain_set_update_loop _];show wpAny _ A.in1 (pyNext (.ref I) >>= _) _ _ s;refine wpAny_bind (W.item i s _ _ hlt hst λv s' hP hst' hm=>?_);have hli:i<ks.length:=by omega
  obtain⟨hsc,hky⟩:=hval i v hP;have hk1:=hky ks[i] (List.getElem?_eq_getElem hli);have hS':=hm.heap S _ hSw hS;show wpAny _ A.in1 (holding [v] (setAdd S v) >>= _) _ _ s';refine wpAny_bind (wpAny_holding ?_);unfold setAdd;refine wpAny_holding ?_;refine wpAny_bind (knd.pyHash hk1 ?_);have hroom:(ajk (ks.take i)).length+1<scanBound:=by have:=d'E (ks.take i);rw[List.length_take] at this;omega
  refine v'f (s:={ s' with toks:=s'.toks+1 }) hk1 hsc hS' hG hroom λb h' o' hsb ho' hG'=>?_
  have et:ks.take (i+1)=ks.take i++[ks[i]]:=by rw[List.take_succ,List.getElem?_eq_getElem hli];rfl
  refine wpAny_pure ⟨plainId_quiet PyProof.Rows.F.plain_set_update_loop _,ih (i+1) _ o' (by omega) hlt (W.frame _ s' _ _ hst' (Nat.le_succ _) λb hb o e=>?_) ho' (by rw[et,n'v];exact hG') λs'' o'' hm'' hS'' hG''=>?_⟩
  ·rw[hsb.2 b (λh:b=S=>hSf (by rw[<- h];exact hb))];exact e
  ·refine hR s'' o'' (Moved.trans W.gtrans ((hm.mono hsub).then_heap (Nat.le_succ _) λb o hb e=>?_) hm'') hS'' hG'';rw[hsb.2 b (λh:b=S=>hb (by rw[h];exact List.mem_cons_self))];exact e
end
theorem q'c:GS knd { cls:=.type "set",dict:=none,data:=.set #[] 0 (.fresh 0 0 (aj7 w)) } ([]:List K):=
 ⟨⟨rfl,rfl,rfl⟩,#[],0,_,rfl,λe he=>by simp at he,rfl,n'r,rfl,.refl _⟩
theorem v'g(a:Value){Q₁:Value->Shared->Prop}(h:Q₁ (.ref s.heap.objs.size) { s with heap:=s.heap.push { cls:=.type "set",dict:=none,data:=.set #[] 0 (.fresh 0 0 (aj7 w)) } }):
  codeAny (model prog w) A (.call (.builtin "set.__new__") ⟨[.type "set",a],[]⟩) (wants Q₁ E) s:=by
 refine codeAny_of_tree ?_;show wpAny _ A.in1 (do checkBuiltinCall "set.__new__" ⟨[.type "set",a],[]⟩;again (.builtin "set.__new__" ⟨[.type "set",a],[]⟩)) _ _ s;refine wpAny_bind (wpAny_of_eq (F.newCall_set_1 a) (wpAny_pure ⟨plainId_quiet F.plain_set_new _,codeAny_builtin F.entry_set_new ?_⟩));rw[Around.under_plainId F.plain_set_new _];unfold Builtin.«set.__new__» Builtin.Frozenset.newClass;have hsub:=sub_set_self;obtain⟨hp,g,d,tk,os⟩:=s;dsimp only
 wp_walk
 refine wpAny_askSetting (wpAny_pure ?_);dsimp only;simp only[newObj];refine wpAny_bind (wpAny_alloc (wpAny_pure ?_));exact wpAny_pure h
theorem s'V{Q:Value->Shared->Prop}(hh:A.handled=none)(hl:s.heap.IsList l items)(hks:ks.length=items.size)(hi:∀(i:Nat) v,items[i]?=some v->v.scannable=true/\∀ k,ks[i]?=some k->knd.is k v=true)(hb:items.size+1<scanBound)(h:∀(h':Heap)(tk:Nat)(o:Obj),h'.get? s.heap.objs.size=some o->GS knd o (ajk ks)->(∀ b o,s.heap.get? b=some o->h'.get? b=some o)->Q (.ref s.heap.objs.size) { s with heap:=h',toks:=tk }):
  wpAny (model prog w) A (call (.type "set") [.ref l]) Q E s:=by
 obtain⟨c,tl,hmro⟩:=F.called_set.mro;have hmade:=F.called_set.made;have hsub:=F.called_set.sub;refine wpAny_call (codeAny_of_tree ?_);show wpAny _ _ (callAny (.type "set") _) _ _ _;refine wpAny_pure ⟨Code.quiet_builtin _ (by decide +kernel),codeAny_builtin F.entry_type_call ?_⟩;rw[Around.under_plain (weight_type_call_type "set" [.ref l] []) rfl];have h1:=F.called_set.notType;have h2:=F.called_set.canCreate;have hct:=F.typeCall_set_1 (.ref l)
 repeat (any_goals (first |assumption |wp_step))
 refine codeAny_mono (v'g (.ref l) (E:=E) (Q₁:=λobj s₁=>obj=.ref s.heap.objs.size/\s₁={ s with heap:=s.heap.push { cls:=.type "set",dict:=none,data:=.set #[] 0 (.fresh 0 0 (aj7 w)) } }) ⟨rfl,rfl⟩) λr s₁ hr=>?_
 have hG0:GS knd { cls:=.type "set",dict:=none,data:=.set #[] 0 (.fresh 0 0 (aj7 w)) } ([]:List K):=q'c;cases r with
 |error e=>exact hr
 |ok fl=>
  cases fl with
  |ret obj=>
   obtain⟨rfl,rfl⟩:=hr;have hS:(s.heap.push { cls:=.type "set",dict:=none,data:=.set #[] 0 (.fresh 0 0 (aj7 w)) }).get? s.heap.objs.size=some { cls:=.type "set",dict:=none,data:=.set #[] 0 (.fresh 0 0 (aj7 w)) }:=Heap.get?_push_size _ rfl;have hT:Shared.TypeIs { s with heap:=s.heap.push { cls:=.type "set",dict:=none,data:=.set #[] 0 (.fresh 0 0 (aj7 w)) } } (.ref s.heap.objs.size) "set":=⟨_,hS,hG0.1.1⟩;have hli:=F.called_set.init.lookup;have hbi:=F.called_set.init.bind (.ref s.heap.objs.size)
   repeat (any_goals (first |assumption |wp_step))
   refine codeAny_mono (codeAny_call_builtin (R:=wants (λr s₂=>r=.none/\∃ h' tk o,s₂={ s with heap:=h',toks:=tk }/\h'.get? s.heap.objs.size=some o/\GS knd o (ajk ks)/\
     (∀ b o,s.heap.get? b=some o->h'.get? b=some o)) E) F.called_set.init.plain F.entry_set_init (check_set_init_1 hT ?_)) λr₂ s₂ hr₂=>?_
   ·obtain⟨ol,hol,hcl,nl,hdl⟩:=hl;obtain⟨ocls,odict,odata,oslots⟩:=ol;simp only at hcl hdl;subst hcl;subst hdl;have hol':(s.heap.push { cls:=.type "set",dict:=none,data:=.set #[] 0 (.fresh 0 0 (aj7 w)) }).get? l=some { cls:=.type "list",dict:=odict,data:=.seq items nl,slots:=oslots }:=Heap.get?_push_of_some _ hol;have hsls:=F.sub_list_set;have hslf:=F.sub_list_frozenset;have hne:(Value.type "list" == Value.type "dict")=false:=by decide
    have hl1:(s.heap.push { cls:=.type "set",dict:=none,data:=.set #[] 0 (.fresh 0 0 (aj7 w)) }).IsList l items:=⟨_,hol',rfl,nl,rfl⟩
    unfold Builtin.«set.__init__» noKeywords Builtin.Frozenset.updateFrom;generalize hPI:pyIter=PI
    wp_walk
    subst hPI;refine wpAny_pyIter_list hl1 ?_;refine wpAny_bind (wpAny_runValue ?_);have hlS:l<s.heap.objs.size:=Heap.lt_size hol;have hh3:A.in1.in1.in1.handled=none:=by simp[hh]
    have hneI:l≠(s.heap.push { cls:=.type "set",dict:=none,data:=.set #[] 0 (.fresh 0 0 (aj7 w)) }).objs.size:=by rw[Heap.size_push];exact Nat.ne_of_lt (Nat.lt_succ_of_lt hlS)
    have hSf:s.heap.objs.size ∉ [(s.heap.push { cls:=.type "set",dict:=none,data:=.set #[] 0 (.fresh 0 0 (aj7 w)) }).objs.size,l]:=by
     rw[Heap.size_push];simp only[List.mem_cons,List.not_mem_nil,or_false,not_or];exact⟨Nat.ne_of_lt (Nat.lt_succ_self _),Nat.ne_of_gt hlS⟩
    refine s'U (knd:=knd) ((Walks.list hh3 _ l hneI items).toS) s.heap.objs.size hSf ks hks hi hb (items.size - 0) 0 _ { cls:=.type "set",dict:=none,data:=.set #[] 0 (.fresh 0 0 (aj7 w)) } (by omega) (Nat.zero_le _)
     ⟨⟨_,Heap.get?_push_size _ rfl,rfl,rfl⟩,(hl1.push _)⟩ (Heap.get?_push_of_some _ hS) hG0 λs' o' hm ho' hG'=>?_
    obtain⟨h',g',d',tk',os'⟩:=s';have eg:g'=s.gens:=hm.gens;have ed:d'=s.drawn:=hm.drawn;have eo:os'=s.os:=hm.os;subst eg;subst ed;subst eo;show wpAny _ _ _ _ _ _;refine wpAny_pure ?_;show wpAny _ _ (ret Value.none) _ _ _;refine wpAny_pure ⟨rfl,h',tk',o',rfl,ho',hG',λb o e=>?_⟩;have hb0:b<s.heap.objs.size:=Heap.lt_size e;have hb1:b≠s.heap.objs.size:=Nat.ne_of_lt hb0;have hb2:b≠(s.heap.push { cls:=.type "set",dict:=none,data:=.set #[] 0 (.fresh 0 0 (aj7 w)) }).objs.size:=by rw[Heap.size_push];exact Nat.ne_of_lt (Nat.lt_succ_of_lt hb0)
    exact hm.heap b o (by simp only[List.mem_cons,List.not_mem_nil,or_false,not_or];exact⟨hb1,hb2⟩) (Heap.get?_push_of_some _ (Heap.get?_push_of_some _ e))
   ·cases r₂ with
    |error e=>exact hr₂
    |ok fl₂=>
     cases fl₂ with
     |ret r=>
      obtain⟨rfl,h',tk,o',rfl,ho',hG',hk'⟩:=hr₂
      repeat (any_goals (first |assumption |wp_step))
      exact h _ _ _ ho' hG' hk'
     |_=>exact hr₂.elim
  |_=>exact hr.elim
end
end L2
namespace L2
open PySem PySem.Spec PyProof.Rows
section
def ak2(P:Program)(w:World)(a:Addr)(ks:List Key):HO:=.ext λh=>∃ o,h.get? a=some o/\GS (ahW P w) o ks
theorem s'W(e:h.get? a=some o)(g:GS (ahW P w) o ks):ObjOk P w H h a (ak2 P w a ks):=
 ⟨⟨o,e,g⟩,⟨o,e⟩,λ_ _ ⟨o,e,g⟩ k=>⟨o,k o e,g⟩⟩
theorem s'X(r:RelV (kV k) v):v.scannable=true:=by
 cases k<;>(obtain⟨t,rfl⟩:=r;rfl)
variable{X:Cx}
theorem n'y(hc:X.calm=true):CallR X (.type "set") (λxs H Q=>∃(a:Addr)(ks:List Key),xs=[.ref a]/\SqL X.K H a (ks.map kV)/\ks.length+1<4096/\∀ p,H p=none->Q (.ref p) (upd H p (ak2 X.prog X.w p (ajk ks)))):=by
 intro pins s σ H xs us Q I r h;obtain⟨a,ks,rfl,hq,hz,q⟩:=h;obtain⟨u,rfl,ru⟩:=b'E r;cases ru;obtain⟨its,rv,pl,hl⟩:=I.list hq;have hlen:ks.length=its.toArray.size:=by have:=rv.length;rw[List.length_map] at this;rw[List.size_toArray,this]
 refine s'V (knd:=ahW X.prog X.w) (ks:=ks) (I.ok.hd hc) pl.isList hlen (λi v e=>?_) (by rw[<- hlen];exact hz) λh' tk o ho hG hk=>?_
 ·have hi:i<ks.length:=by rw[hlen];exact (Array.getElem?_eq_some_iff.mp e).1
  obtain⟨u,hu,ru⟩:=rv.get (x:=kV ks[i]) (show (ks.map kV)[i]?=some (kV ks[i]) by rw[List.getElem?_map,List.getElem?_eq_getElem hi];rfl);rw[List.getElem?_toArray,hu] at e;cases e;refine⟨s'X ru,λk hk=>?_⟩;rw[List.getElem?_eq_getElem hi] at hk;cases hk;exact f'P ru
 ·exact⟨.ref s.heap.objs.size,_,I.laid (t':=tk) hk (Nat.le_refl _) (s'W ho hG),rfl,q _ (I.hok.fresh (Nat.le_refl _))⟩
theorem Inv.drawn'{s:Shared}(I:Inv X pins σ H s)(d:Drawn):Inv X pins σ H { s with drawn:=d }:=
 ⟨I.ok,I.os,I.bare,I.base,I.loc,I.cell,I.free,I.freeC,I.pin,I.hok,I.len⟩
theorem k's:∀(vs:List Value),(∀ v∈vs,∃ k,(ahW P w).is k v=true)->(∀ k∈vs.filterMap (kfo (ahW P w)),∃ n:Str,k=Sum.inr n)->
  ∃ ns:List Str,StrsAre vs ns/\vs.filterMap (kfo (ahW P w))=ns.map Sum.inr
 |[],_,_=>⟨[],.nil,rfl⟩
 |v :: r,h1,h2=>by
  obtain⟨k,hk⟩:=h1 v List.mem_cons_self;have e:=d'j hk;obtain⟨ns,a,b⟩:=k's r (λu hu=>h1 u (List.mem_cons_of_mem _ hu)) λk' hk'=>h2 k' (by rw[List.filterMap_cons,e];exact List.mem_cons_of_mem _ hk')
  obtain⟨n,rfl⟩:=h2 k (by rw[List.filterMap_cons,e];exact List.mem_cons_self);obtain⟨t,rfl⟩:=i'o hk;exact⟨n :: ns,.cons _ _ a,by rw[List.filterMap_cons,e,b];rfl⟩
theorem q'd{a b:List Str}(h:(a.map (Sum.inr:Str->Key)).Perm (b.map Sum.inr)):a.Perm b:=by
 have:=h.filterMap (λk:Key=>match k with |.inl _=>none |.inr x=>some x);have e:∀ l:List Str,(l.map (Sum.inr:Str->Key)).filterMap (λk:Key=>match k with |.inl _=>none |.inr x=>some x)=l:=λl=>by
  rw[List.filterMap_map];show l.filterMap (λn=>some n)=l;simp
 rw[e,e] at this;exact this
def ajY(P:Program)(w:World):List V->Hp->VK->Prop:=λxs H Q=>∃(a:Addr)(ks:List Str),xs=[.ref a]/\H a=some (ak2 P w a (ks.map Sum.inr))/\ks.length<64/\
  ∀ ks':List Str,ks'.Perm ks->sortedS ks'=true->∀ p,H p=none->Q (.ref p) (upd H p (.lst (ks'.map V.str)))
theorem i'A(hc:X.calm=true):CallR X (.builtin "sorted") (ajY X.prog X.w):=by
 intro pins s σ H xs us Q I r h;obtain⟨a,ks,rfl,ha,h64,q⟩:=h;obtain⟨u,rfl,ru⟩:=b'E r;cases ru;obtain⟨⟨o,ho,hG⟩,_⟩:=I.hok a _ ha;refine Calls.call_function_entry kind_sorted plain_sorted entry_sorted (args_sorted1 _) ?_;unfold Builtin.«sorted»;refine wpAny_bind (m:=checkCount "sorted" 1 1 _) (wpAny_pure ?_);refine wpAny_bind (m'k (A:=X.A.in1) (I.ok.hd hc) ho hG (by rw[List.length_map,sizeLine_eq];omega) λh' tk d1 vs hkp v1 v2=>?_);obtain⟨n1,hS,e1⟩:=k's vs v1 (λk hk=>by obtain⟨n,_,rfl⟩:=List.mem_map.mp (v2.mem_iff.mp hk);exact⟨n,rfl⟩);rw[e1] at v2;have hp:=q'd v2;have hlv:vs.length=n1.length:=by have:=(h'r hS).length;rw[List.length_map] at this;exact this.symm
 have I1:Inv X pins σ H { s with heap:=h',toks:=tk,drawn:=d1 }:=(I.kept (t':=tk) hkp).drawn' d1;refine wpAny_bind (wpAny_newList ?_ (by rw[hlv,hp.length_eq,sizeLine_eq];omega));have hoL:(h'.push (seqObj "list" vs.toArray 0)).get? h'.objs.size=some (seqObj "list" vs.toArray 0):=Heap.get?_push_size _ rfl;show wpAny _ _ _ _ _ { s with heap:=h'.push (seqObj "list" vs.toArray 0),toks:=tk,drawn:=d1 };refine wpAny_bind (wpAny_holding (wpAny_call_entry slot_list_sort ⟨_,hoL,rfl⟩ entry_list_sort (list_sort_treeK strKind_oneLt hoL hS.keysOf (λv1 v2 rest e=>keyKind_strs (by rw[<- e];exact hS)) (by rw[hlv,hp.length_eq];exact h64) λst' a1 a2=>⟨_,rfl,?_⟩) (args_list_sort _)));obtain⟨ss',b1,b2,b3⟩:=sorted_out_str hS a1 a2;refine wpAny_pure ⟨_,rfl,?_⟩;obtain⟨e,he⟩:=sortedHeap_at (out:=(arrOf st').map (·.2)) hoL;have hfr:H h'.objs.size=none:=I1.hok.fresh (Nat.le_refl _);refine⟨.ref h'.objs.size,_,I1.laid (a:=h'.objs.size) (o:=.lst (ss'.map V.str)) (t':=tk) (λb o eb=>?_) (Nat.le_refl _) ⟨?_,((arrOf st').map (·.2)).toList,e,h'r b1,by rw[Array.toArray_toList];exact he⟩,rfl,q ss' (b2.trans hp) b3 _ hfr⟩
 ·have lb:b<h'.objs.size:=Heap.lt_size eb;rw[sortedHeap_old (Nat.ne_of_lt lb) (by rw[size_push'];exact Nat.lt_succ_of_lt lb)];exact Heap.get?_push_of_some _ eb
 ·rw[List.length_map,b2.length_eq,hp.length_eq,sizeLine_eq];omega
end
end L2
namespace Vc
open PySem L2 Sf
def hdn(l:List Addr)(H:Hp):Hp:=λx=>if x∈l then none else H x
theorem e'i{H:Hp}(h1:x ∉ l)(h:H x=some o):hdn l H x=some o:=by unfold hdn;rw[if_neg h1];exact h
theorem v'h(h:x∈l):hdn l H x=none:=if_pos h
theorem q'e{H:Hp}(h:hdn l H x=some o):x ∉ l/\H x=some o:=by
 unfold hdn at h;by_cases z:x∈l
 ·rw[if_pos z] at h;cases h
 ·rw[if_neg z] at h;exact⟨z,h⟩
theorem i'B(wd:Same F H):Gr0 F (hdn l H) F H:=⟨λ_ _ e=>(q'e e).2,Same.refl _,wd,λx u h e=>by rw[h] at e;cases e⟩
theorem hl1{Hb:Hp}(h:Hb a=none):∀ x∈[a],Hb x=none:=λx z=>by rw[List.mem_singleton.mp z];exact h
end Vc
namespace L2
open PySem PySem.Spec PyProof.Rows
section
variable{P:Program}{w:World}{K:W.Frag}
def akr(P:Program)(w:World)(K:W.Frag):List V->Hp->VK->Prop:=λxs H Q=>∃(a:Addr)(ks:List Key),xs=[.ref a]/\SqL K H a (ks.map kV)/\ks.length+1<4096/\∀ p,H p=none->Q (.ref p) (upd H p (ak2 P w p (ajk ks)))
theorem h'u(hc:X.calm=true):CallR X (.type "set") (akr X.prog X.w X.K):=n'y hc
end
theorem q'f[DecidableEq α][DecidableEq β]{f:α->β}(hf:∀ x y,f x=f y->x=y)(l:List α):ajk (l.map f)=(ajk l).map f:=by
 have key:∀(l a:List α),(l.map f).foldl ajB (a.map f)=(l.foldl ajB a).map f:=by
  intro l
  induction l with
  |nil=>intro a;rfl
  |cons x r ih=>
   intro a;have e:ajB (a.map f) (f x)=(ajB a x).map f:=by
    unfold ajB;by_cases h:x∈a
    ·rw[if_pos h,if_pos (List.mem_map.mpr ⟨x,h,rfl⟩)]
    ·rw[if_neg h,if_neg (λz=>by obtain⟨y,hy,e⟩:=List.mem_map.mp z;exact h (hf _ _ e ▸ hy)),List.map_append];rfl
   show ((r.map f).foldl ajB (ajB (a.map f) (f x)))=_;rw[e];exact ih _
 exact key l []
theorem f'Z[DecidableEq α](l:List α):(ajk l).Nodup/\∀ x,x∈ajk l↔x∈l:=by
 have key:∀(l a:List α),a.Nodup->(l.foldl ajB a).Nodup/\∀ x,x∈l.foldl ajB a↔x∈a\/x∈l:=by
  intro l
  induction l with
  |nil=>intro a h;exact⟨h,λx=>by simp⟩
  |cons y r ih=>
   intro a h;have h1:(ajB a y).Nodup:=by
    unfold ajB;by_cases hy:y∈a
    ·rw[if_pos hy];exact h
    ·rw[if_neg hy,List.nodup_append];exact⟨h,by simp,λu hu v hv e=>by rw[List.mem_singleton] at hv;exact hy (hv ▸ e ▸ hu)⟩
   have h2:∀ x,x∈ajB a y↔x∈a\/x=y:=by
    intro x;unfold ajB;by_cases hy:y∈a
    ·rw[if_pos hy];exact⟨.inl,λz=>z.elim id λe=>e ▸ hy⟩
    ·rw[if_neg hy,List.mem_append,List.mem_singleton]
   obtain⟨a1,a2⟩:=ih (ajB a y) h1;refine⟨a1,λx=>(a2 x).trans ?_⟩;rw[h2,List.mem_cons,or_assoc]
 obtain⟨a,b⟩:=key l [] List.nodup_nil;exact⟨a,λx=>by rw[show ajk l=l.foldl ajB [] from rfl,b x];simp⟩
theorem e'j(hok:HOk P w H h)(e:Rd H a (.ins C dx fs)):∃ mA,ObjM h a dx C mA/\∀ f,RelO (fs.lookup f) (mA f):=by
 have x:ObjOk P w H h a (.ins C dx fs):=by
  rcases e with e |⟨o,e⟩
  ·exact hok a _ e
  ·exact (hok a _ e).2
 obtain⟨d,z,ne,ob,mA,n,r,q⟩:=x;exact⟨mA,⟨ob,n,ne⟩,r⟩
def alx(K:W.Frag)(ta:TE)(f:Str):TE:=λσ H Q=>ta σ H λx H1=>∃ a C dx fs v,x=.ref a/\Rd H1 a (.ins C dx fs)/\Cls K C/\NoAttr K C f/\fs.lookup f=some v/\Q v H1
section
variable{X:Cx}{CX:CXT}{k:Nat}{E:XK}{m f:Str}{pos apos:Pos}{o e:Expr}{ta:TE}{D:Addr->Nat->Prop}{sp:Nat->Sp}
theorem s'Y(he:PE X e ta)(hb:attributeBase e f X.env (eval e X.env)=eval e X.env):PE X (.Attribute e f pos) (alx X.K ta f):=by
 intro pins s σ H Q I h;refine s'y hb (thn (he pins s σ H _ I h) λu s1 ⟨x,H1,I1,rx,a,C,dx,fs,v,ex,ea,c,n,l,q⟩=>?_);subst ex;obtain rfl:u=Value.ref a:=rx;obtain⟨mA,O,r⟩:=e'j I1.hok ea;obtain⟨u,hu,ru⟩:=RelO.some_of (v:=v) (o:=mA f) (by rw[<- l];exact r f);exact k'k I1.kIn O (c.get f) c.hd n hu (h'h ru) ⟨v,H1,I1.tok _,ru,q⟩
end
def akG(P:Program)(w:World):List V->Hp->VK->Prop:=λxs H Q=>∃(a:Addr)(ks:List Key),xs=[.ref a]/\H a=some (ak2 P w a ks)/\ks.length<4096/\Q (.int ks.length) H
theorem n'z:CallR X (.builtin "len") (akG X.prog X.w):=by
 intro pins s σ H xs us Q I r h;obtain⟨a,ks,rfl,ha,hl,q⟩:=h;obtain⟨u,rfl,ru⟩:=b'E r;cases ru;obtain⟨⟨o,ho,hex,es,ep,t,hd,hel,hf,_,_,hp⟩,_⟩:=I.hok a _ ha;have hz:=g'w (o:=o) hel hp;exact call_len_set ho hex hd hf (by rw[hz];omega) ⟨.int ks.length,H,I.tok _,⟨_,by rw[hz]⟩,q⟩
end L2
namespace Vc
open PySem L2 Sf
section
variable{P:Program}{w:World}{K:W.Frag}{F H:Hp}{Q:VK}
theorem s'Z(h:H a=some (ak2 P w a (ns.map Sum.inr)))(hl:ns.length<64)(q:∀ p,H p=none->Q (.ref p) (upd H p (.lst ((srt ns).map V.str)))):ajY P w [V.ref a] H Q:=
 ⟨a,ns,rfl,h,hl,λns' e1 e2 p hp=>by rw[v'e e1 e2];exact q p hp⟩
theorem v'i{α:Type}{f:α->Key}{a:Addr}{ns:List α}(h:H a=some (ak2 P w a (ns.map f)))(hl:ns.length<4096)(q:Q (.int (ns.length:Int)) H):akG P w [V.ref a] H Q:=
 ⟨a,ns.map f,rfl,h,by rw[List.length_map];exact hl,by rw[List.length_map];exact q⟩
end
end Vc
namespace L2
open PySem PySem.Spec PyProof.Rows
section
variable{X:Cx}{CX:CXT}{k:Nat}{f C:Addr}{fd:FuncData}{ps:List Str}{sp:Sp}{dvs:List V}{ds:List Value}{x:Str}{p pos:Pos}{e:Expr}{es:List Expr}{t:TA}
def akj(C:Addr)(sp:Sp)(dvs:List V)(R:St->XK)(t:TA):TE:=λσ H Q=>t σ H λvs H1=>∀ x dx,H1 x=none->H1 dx=none->dx≠x->
 sp (.ref x :: (vs++dvs)) (upd (upd H1 dx (.own x)) x (.ins C dx [])) (λv H2=>v=.non/\Q (.ref x) H2) (R σ)
theorem n'A{H:Hp}{Q:VK}(M:Mk X.K C f)(F:FnOk X.prog X.w X.K X.mg X.base CX k f fd ps sp)(hr:Room (k+1) X.A)(hb:Binds X.K fd ps ds)(hd:Vals dvs ds)(hx:aio CX X σ E)(I:Inv X pins σ H s)(r:Vals vs us)(h:∀ x dx,H x=none->H dx=none->dx≠x->sp (.ref x :: (vs++dvs)) (upd (upd H dx (.own x)) x (.ins C dx [])) (λv H2=>v=.non/\Q (.ref x) H2) E):
  wpAny (model X.prog X.w) X.A (call (.ref C) us) (EP X pins σ Q) X.xe s:=by
 have hq:=h (s.heap.objs.size+1) s.heap.objs.size (I.hok.fresh (Nat.le_succ _)) (I.hok.fresh (Nat.le_refl _)) (Nat.ne_of_lt (Nat.lt_succ_self _));have I2:=Inv.made (C:=C) I;have r2:Vals (V.ref (s.heap.objs.size+1) :: (vs++dvs)) (Value.ref (s.heap.objs.size+1) :: (us++ds)):=.cons rfl (r.append hd);have hl:(Value.ref (s.heap.objs.size+1) :: us++ds).length=ps.length:=(r2.length.symm.trans (F.len _ _ _ _ hq))
 refine wpAny_call (p'I (f:=f) I.kIn M.makes M.init (beq_iff_eq.mp M.fn) (codeAny_mono (F.run _ X.stack _ _ ⟨Value.ref (s.heap.objs.size+1) :: us,[]⟩ (Value.ref (s.heap.objs.size+1) :: (us++ds)) _ _ E (hr.make C us [])
  (I2.env0.make C us []) (hb _ (Value.ref (s.heap.objs.size+1) :: us) I2.kIn hl) r2 hq) λfl s' hq'=>?_))
 match fl,hq' with
 |.error e,hq'=>exact hx pins _ _ e s' I2 hq'
 |.ok (.ret u),hq'=>
  obtain⟨v,H',I3,rv,ev,q3⟩:=I2.after hq';subst ev;exact⟨rv,⟨V.ref (s.heap.objs.size+1),H',I3,rfl,q3⟩⟩
 |.ok .next,hq'=>exact hq'.elim
 |.ok .brk,hq'=>exact hq'.elim
 |.ok .cont,hq'=>exact hq'.elim
theorem f't{R:St->XK}(M:Mk X.K C f)(F:FnOk X.prog X.w X.K X.mg X.base CX k f fd ps sp)(hr:Room (k+1) X.A)(hg:Gl X x)(hm:X.mg x=some (.ref C))(hb:Binds X.K fd ps ds)(hd:Vals dvs ds)(hx:∀ σ,aio CX X σ (R σ))(ha:PA X (e :: es) t)(hdb:(x == ("__debug__":Str))=false:=by decide)(he:starEach (e :: es) X.env=(false,eval e X.env) :: starEach es X.env:=by rfl)(hpl:(backTo pos (starEach es X.env)).any (·.1)=false:=by rfl):
  PE X (.Call (.Name x p) (e :: es) [] pos) (akj C sp dvs R t):=by
 intro pins s σ H Q I h;refine wpAny_Call_Name_kw (b'V I hg hm ?_ hdb);exact W.callWith_K (h₀:=X.base) I.ok.mod.kin M.kp (thn (ha pos pins s σ H _ I h) λus s1 ⟨vs,H1,I1,r,q⟩=>⟨I1.kIn,n'A M F hr hb hd (hx σ) I1 r q⟩) he hpl
structure akk(K:W.Frag)(C:Addr):Prop where
 cl:Cls K C
 ha:W.findIn K (.ref C) "__class__"=some (some (.builtin "object.__class__"))
 hn:W.specialIn K (.builtin "object.__class__") "__get__"=some (some (.builtin "getset_descriptor.__get__"))
 htk:W.takesIn K (.builtin "object.__class__")=some true
 hm:W.mroIn K C (.type "object")=some true
def TyR(K:W.Frag)(H:Hp)(x:V)(t:Value):Prop:=TyOf K H x t\/∃ a C dx fs,x=.ref a/\t=.ref C/\Rd H a (.ins C dx fs)/\akk K C
def aob(K:W.Frag):List V->Hp->VK->Prop:=λxs H Q=>∃ x c t b u,xs=[x,c]/\TyR K H x t/\amq c=some u/\W.kitOne K t u=some b/\Q (.bl b) H
theorem q'g:CallR X (.builtin "isinstance") (aob X.K):=by
 intro pins s σ H xs us Q I r h;obtain⟨x,c,t,b,u,rfl,ty,rc,e,q⟩:=h;rcases ty with ty |⟨a,C,dx,fs,rfl,rfl,ea,z⟩
 ·exact i'p pins s σ H _ us Q I r ⟨x,c,t,b,u,rfl,ty,rc,e,q⟩
 ·obtain⟨v,w',rfl,rx,rw'⟩:=h'Y r;have ew:w'=u:=by
   cases c with
   |ref a=>cases rc;exact rw'
   |ty n=>cases rc;exact rw'
   |non=>cases rc
   |bl n=>cases rc
   |int i=>cases rc
   |str i=>cases rc
   |byt i=>cases rc
   |flt i=>cases rc
  subst ew;cases (show v=Value.ref a from rx);obtain⟨mA,O,_⟩:=e'j I.hok ea;obtain⟨od,J,_⟩:=O.look;exact W.kia_one (W.kitx_own (z.cl.get _) z.cl.hd z.ha z.hn z.htk z.hm) I.kIn J e (λz=>nomatch z) λtk=>⟨.bl b,H,I.tok tk,rfl,q⟩
end
def MOkA(P:Program)(w:World)(K:W.Frag)(mg:Str->Option Value)(base:Heap)(CX:CXT)(k:Nat)(m:Str)(C:Addr)(ps:List Str)(sp:Sp):Prop:=
 Cls K C/\∃ f fd,ai4 K C m f/\FnOk P w K mg base CX k f fd ps sp/\Binds K fd ps []
theorem MOkA.mono{P:Program}{w:World}{K:W.Frag}{mg:Str->Option Value}{base:Heap}{CX:CXT}{k k':Nat}{m:Str}{C:Addr}{ps:List Str}{sp:Sp}(h:MOkA P w K mg base CX k m C ps sp)(le:k<=k'):MOkA P w K mg base CX k' m C ps sp:=by
 obtain⟨c,f,fd,hm,F,hb⟩:=h;exact⟨c,f,fd,hm,F.mono le,hb⟩
def ah0(K:W.Frag)(x qual:Str)(st:Stmt)(f:Addr):Prop:=∃ fd,Fun K x qual st f fd
theorem fnin{K:W.Frag}{x qual:Str}{st:Stmt}{f:Addr}{oc:Value}{od an:Option Addr}{osl:Array (Option Value)}{kV doc pm cdv ct:Value}(l:K.lookup f=some ⟨oc,od,.func (W.fnOf x qual (ajI st) (ain st) (ahM st) .none kV doc pm an cdv ct),osl⟩)(c:W.codeIn K cdv qual=true)(k:W.keepIn K (.ref f)=true):ah0 K x qual st f:=⟨_,u'R l c k⟩
end L2
namespace Pu
open PySem L2 Vc Sf
inductive Fl where |f |o |l (k:Bool)
 deriving DecidableEq
inductive Tr where
 |int (n:Int) |bl (b:Bool) |str (s:Str) |non |hole |ty (n:String) |cl (a:Addr) |exc (b:Addr)
 |tup (xs:List Tr) |lst (f:Fl) (xs:List Tr) |dic (f:Fl) (kvs:List (Key × Tr)) |ins (f:Fl) (c:Addr) (fs:List (Str × Tr))
abbrev Cs:=List (Addr×HO)
mutual
/-- v stands for the tree: its frozen parts in F,its lent ones in B,its own ones are the cells -/
def R(K:W.Frag)(F:Hp)(B:Bool->Hp):Tr->V->Cs->Prop
 |.int n,v,cs=>v = .int n /\ cs = []
 |.bl b,v,cs=>v = .bl b /\ cs = []
 |.str s,v,cs=>v = .str s /\ cs = []
 |.non,v,cs=>v = .non /\ cs = []
 |.hole,_,_=>False
 |.ty n,v,cs=>v = .ty n /\ cs = []
 |.cl a,v,cs=>v = .ref a /\ cs = []
 |.exc b,v,cs=>cs = [] /\ ∃ a,v = .ref a /\ Rd F a (exO a b)
 |.tup xs,v,cs=>∃ a vs,v = .ref a /\ SqT K F a vs /\ Rs K F B xs vs cs
 |.lst .f xs,v,cs=>cs = [] /\ ∃ a vs,v = .ref a /\ SqL K F a vs /\ Rs K F B xs vs []
 |.lst (.l k) xs,v,cs=>cs = [] /\ ∃ a vs,v = .ref a /\ SqL K (B k) a vs /\ Rs K F B xs vs []
 |.lst .o xs,v,cs=>∃ a vs ds,v = .ref a /\ cs = (a,.lst vs) :: ds /\ Rs K F B xs vs ds
 |.dic .f xs,v,cs=>cs = [] /\ ∃ a vs,v = .ref a /\ Rd F a (.dK vs) /\ Rk K F B xs vs [] /\ (xs.map (·.1)).Nodup
 |.dic (.l k) xs,v,cs=>cs = [] /\ ∃ a vs,v = .ref a /\ Rd (B k) a (.dK vs) /\ Rk K F B xs vs [] /\ (xs.map (·.1)).Nodup
 |.dic .o xs,v,cs=>∃ a vs ds,v = .ref a /\ cs = (a,.dK vs) :: ds /\ Rk K F B xs vs ds /\ (xs.map (·.1)).Nodup
 |.ins .f c xs,v,cs=>cs = [] /\ ∃ a dx vs,v = .ref a /\ Rd F a (.ins c dx vs) /\ Rf K F B xs vs []
 |.ins (.l k) c xs,v,cs=>cs = [] /\ ∃ a dx vs,v = .ref a /\ Rd (B k) a (.ins c dx vs) /\ Rf K F B xs vs []
 |.ins .o c xs,v,cs=>∃ a dx vs ds,v = .ref a /\ cs = (a,.ins c dx vs) :: ds /\ Rf K F B xs vs ds
def Rs(K:W.Frag)(F:Hp)(B:Bool->Hp):List Tr->List V->Cs->Prop
 |[],vs,cs=>vs = [] /\ cs = []
 |x :: xs,vs,cs=>∃ v r c d,vs = v :: r /\ cs = c ++ d /\ R K F B x v c /\ Rs K F B xs r d
def Rk(K:W.Frag)(F:Hp)(B:Bool->Hp):List (Key×Tr)->List (Key×V)->Cs->Prop
 |[],vs,cs=>vs = [] /\ cs = []
 |(k,x) :: xs,vs,cs=>∃ v r c d,vs = (k,v) :: r /\ cs = c ++ d /\ R K F B x v c /\ Rk K F B xs r d
def Rf(K:W.Frag)(F:Hp)(B:Bool->Hp):List (Str×Tr)->List (Str×V)->Cs->Prop
 |[],vs,cs=>vs = [] /\ cs = []
 |(k,x) :: xs,vs,cs=>∃ v r c d,vs = (k,v) :: r /\ cs = c ++ d /\ R K F B x v c /\ Rf K F B xs r d
end
mutual
def lend:Tr->Tr
 |.tup xs=>.tup (lends xs)
 |.lst .o xs=>.lst (.l true) (lends xs)
 |.dic .o xs=>.dic (.l true) (lendk xs)
 |.ins .o c xs=>.ins (.l true) c (lendf xs)
 |t=>t
def lends:List Tr->List Tr
 |[]=>[] |x :: xs=>lend x :: lends xs
def lendk:List (Key×Tr)->List (Key×Tr)
 |[]=>[] |(k,x) :: xs=>(k,lend x) :: lendk xs
def lendf:List (Str×Tr)->List (Str×Tr)
 |[]=>[] |(k,x) :: xs=>(k,lend x) :: lendf xs
end
mutual
/-- no one changes it any more -/
def frz:Tr->Tr
 |.tup xs=>.tup (frzs xs)
 |.lst .o xs=>.lst .f (frzs xs)
 |.dic .o xs=>.dic .f (frzk xs)
 |.ins .o c xs=>.ins .f c (frzf xs)
 |t=>t
def frzs:List Tr->List Tr
 |[]=>[] |x :: xs=>frz x :: frzs xs
def frzk:List (Key×Tr)->List (Key×Tr)
 |[]=>[] |(k,x) :: xs=>(k,frz x) :: frzk xs
def frzf:List (Str×Tr)->List (Str×Tr)
 |[]=>[] |(k,x) :: xs=>(k,frz x) :: frzf xs
end
mutual
/-- nothing lent in it -/
def nol:Tr->Bool
 |.tup xs=>nols xs
 |.lst (.l _) _=>false
 |.dic (.l _) _=>false
 |.ins (.l _) _ _=>false
 |.lst _ xs=>nols xs
 |.dic _ xs=>nolk xs
 |.ins _ _ xs=>nolf xs
 |_=>true
def nols:List Tr->Bool
 |[]=>true |x :: xs=>nol x && nols xs
def nolk:List (Key×Tr)->Bool
 |[]=>true |(_,x) :: xs=>nol x && nolk xs
def nolf:List (Str×Tr)->Bool
 |[]=>true |(_,x) :: xs=>nol x && nolf xs
end
mutual
/-- nothing lent for now in it -/
def nlt:Tr->Bool
 |.tup xs=>nlts xs
 |.lst (.l true) _=>false
 |.dic (.l true) _=>false
 |.ins (.l true) _ _=>false
 |.lst _ xs=>nlts xs
 |.dic _ xs=>nltk xs
 |.ins _ _ xs=>nltf xs
 |_=>true
def nlts:List Tr->Bool
 |[]=>true |x :: xs=>nlt x && nlts xs
def nltk:List (Key×Tr)->Bool
 |[]=>true |(_,x) :: xs=>nlt x && nltk xs
def nltf:List (Str×Tr)->Bool
 |[]=>true |(_,x) :: xs=>nlt x && nltf xs
end
mutual
/-- as a callee has it: what is lent is lent to it -/
def dn:Tr->Tr
 |.tup xs=>.tup (dns xs)
 |.lst (.l _) xs=>.lst (.l false) (dns xs)
 |.dic (.l _) xs=>.dic (.l false) (dnk xs)
 |.ins (.l _) c xs=>.ins (.l false) c (dnf xs)
 |.lst .o xs=>.lst .o (dns xs)
 |.dic .o xs=>.dic .o (dnk xs)
 |.ins .o c xs=>.ins .o c (dnf xs)
 |.lst .f xs=>.lst .f (dns xs)
 |.dic .f xs=>.dic .f (dnk xs)
 |.ins .f c xs=>.ins .f c (dnf xs)
 |t=>t
def dns:List Tr->List Tr
 |[]=>[] |x :: xs=>dn x :: dns xs
def dnk:List (Key×Tr)->List (Key×Tr)
 |[]=>[] |(k,x) :: xs=>(k,dn x) :: dnk xs
def dnf:List (Str×Tr)->List (Str×Tr)
 |[]=>[] |(k,x) :: xs=>(k,dn x) :: dnf xs
end
mutual
theorem R.mo{B B':Bool->Hp}(e:Le F F')(b:∀ k,Le (B k) (B' k)):∀(t:Tr){v:V}{cs:Cs},R K F B t v cs->R K F' B' t v cs
 |.int _,_,_,h=>h
 |.bl _,_,_,h=>h
 |.str _,_,_,h=>h
 |.non,_,_,h=>h
 |.hole,_,_,h=>h
 |.ty _,_,_,h=>h
 |.cl _,_,_,h=>h
 |.exc _,_,_,⟨z,a,h1,h2⟩=>⟨z,a,h1,Le.exc e h2⟩
 |.tup xs,_,_,⟨a,vs,h1,h2,h3⟩=>⟨a,vs,h1,e.tup h2,Rs.mo e b xs h3⟩
 |.lst .f xs,_,_,⟨z,a,vs,h1,h2,h3⟩=>⟨z,a,vs,h1,e.lst h2,Rs.mo e b xs h3⟩
 |.lst (.l k) xs,_,_,⟨z,a,vs,h1,h2,h3⟩=>⟨z,a,vs,h1,(b k).lst h2,Rs.mo e b xs h3⟩
 |.lst .o xs,_,_,⟨a,vs,ds,h1,h2,h3⟩=>⟨a,vs,ds,h1,h2,Rs.mo e b xs h3⟩
 |.dic .f xs,_,_,⟨z,a,vs,h1,h2,h3,h4⟩=>⟨z,a,vs,h1,e.dic h2,Rk.mo e b xs h3,h4⟩
 |.dic (.l k) xs,_,_,⟨z,a,vs,h1,h2,h3,h4⟩=>⟨z,a,vs,h1,(b k).dic h2,Rk.mo e b xs h3,h4⟩
 |.dic .o xs,_,_,⟨a,vs,ds,h1,h2,h3,h4⟩=>⟨a,vs,ds,h1,h2,Rk.mo e b xs h3,h4⟩
 |.ins .f _ xs,_,_,⟨z,a,dx,vs,h1,h2,h3⟩=>⟨z,a,dx,vs,h1,e _ _ (by intro _ _ z; cases z) h2,Rf.mo e b xs h3⟩
 |.ins (.l k) _ xs,_,_,⟨z,a,dx,vs,h1,h2,h3⟩=>⟨z,a,dx,vs,h1,b k _ _ (by intro _ _ z; cases z) h2,Rf.mo e b xs h3⟩
 |.ins .o _ xs,_,_,⟨a,dx,vs,ds,h1,h2,h3⟩=>⟨a,dx,vs,ds,h1,h2,Rf.mo e b xs h3⟩
theorem Rs.mo{B B':Bool->Hp}(e:Le F F')(b:∀ k,Le (B k) (B' k)):∀(t:List Tr){v:List V}{cs:Cs},Rs K F B t v cs->Rs K F' B' t v cs
 |[],_,_,h=>h
 |x :: xs,_,_,⟨v,r,c,d,h1,h2,h3,h4⟩=>⟨v,r,c,d,h1,h2,R.mo e b x h3,Rs.mo e b xs h4⟩
theorem Rk.mo{B B':Bool->Hp}(e:Le F F')(b:∀ k,Le (B k) (B' k)):∀(t:List (Key×Tr)){v:List (Key×V)}{cs:Cs},Rk K F B t v cs->Rk K F' B' t v cs
 |[],_,_,h=>h
 |(_,x) :: xs,_,_,⟨v,r,c,d,h1,h2,h3,h4⟩=>⟨v,r,c,d,h1,h2,R.mo e b x h3,Rk.mo e b xs h4⟩
theorem Rf.mo{B B':Bool->Hp}(e:Le F F')(b:∀ k,Le (B k) (B' k)):∀(t:List (Str×Tr)){v:List (Str×V)}{cs:Cs},Rf K F B t v cs->Rf K F' B' t v cs
 |[],_,_,h=>h
 |(_,x) :: xs,_,_,⟨v,r,c,d,h1,h2,h3,h4⟩=>⟨v,r,c,d,h1,h2,R.mo e b x h3,Rf.mo e b xs h4⟩
end
section
mutual
theorem R.lend(b:∀ k,Le (B k) (B' k)):∀(t:Tr){v:V}{cs:Cs},R K F B t v cs->(∀ p∈cs,B' true p.1=some p.2)->R K F B' (lend t) v []
 |.int _,_,_,⟨h,_⟩,_=>⟨h,rfl⟩
 |.bl _,_,_,⟨h,_⟩,_=>⟨h,rfl⟩
 |.str _,_,_,⟨h,_⟩,_=>⟨h,rfl⟩
 |.non,_,_,⟨h,_⟩,_=>⟨h,rfl⟩
 |.hole,_,_,h,_=>h.elim
 |.ty _,_,_,⟨h,_⟩,_=>⟨h,rfl⟩
 |.cl _,_,_,⟨h,_⟩,_=>⟨h,rfl⟩
 |.exc _,_,_,⟨_,a,h,h'⟩,_=>⟨rfl,a,h,h'⟩
 |.tup xs,_,_,⟨a,vs,h1,h2,h3⟩,m=>⟨a,vs,h1,h2,Rs.lend b xs h3 m⟩
 |.lst .f xs,_,_,⟨z,a,vs,h1,h2,h3⟩,_=>⟨rfl,a,vs,h1,h2,Rs.mo (Le.refl F) b xs h3⟩
 |.lst (.l k) xs,_,_,⟨z,a,vs,h1,h2,h3⟩,_=>⟨rfl,a,vs,h1,(b k).lst h2,Rs.mo (Le.refl F) b xs h3⟩
 |.lst .o xs,_,_,⟨a,vs,ds,h1,h2,h3⟩,m=>⟨rfl,a,vs,h1,SqL.of (m (a,.lst vs) (by rw[h2]; exact .head _)),Rs.lend b xs h3 λp q=>m p (by rw[h2]; exact .tail _ q)⟩
 |.dic .f xs,_,_,⟨z,a,vs,h1,h2,h3,h4⟩,_=>⟨rfl,a,vs,h1,h2,Rk.mo (Le.refl F) b xs h3,h4⟩
 |.dic (.l k) xs,_,_,⟨z,a,vs,h1,h2,h3,h4⟩,_=>⟨rfl,a,vs,h1,(b k).dic h2,Rk.mo (Le.refl F) b xs h3,h4⟩
 |.dic .o xs,_,_,⟨a,vs,ds,h1,h2,h3,h4⟩,m=>⟨rfl,a,vs,h1,Rd.of (m (a,.dK vs) (by rw[h2]; exact .head _)),Rk.lend b xs h3 λp q=>m p (by rw[h2]; exact .tail _ q),by rw[lendk_keys]; exact h4⟩
 |.ins .f _ xs,_,_,⟨z,a,dx,vs,h1,h2,h3⟩,_=>⟨rfl,a,dx,vs,h1,h2,Rf.mo (Le.refl F) b xs h3⟩
 |.ins (.l k) _ xs,_,_,⟨z,a,dx,vs,h1,h2,h3⟩,_=>⟨rfl,a,dx,vs,h1,b k _ _ (by intro _ _ z; cases z) h2,Rf.mo (Le.refl F) b xs h3⟩
 |.ins .o _ xs,_,_,⟨a,dx,vs,ds,h1,h2,h3⟩,m=>⟨rfl,a,dx,vs,h1,Rd.of (m (a,.ins _ dx vs) (by rw[h2]; exact .head _)),Rf.lend b xs h3 λp q=>m p (by rw[h2]; exact .tail _ q)⟩
theorem Rs.lend(b:∀ k,Le (B k) (B' k)):∀(t:List Tr){v:List V}{cs:Cs},Rs K F B t v cs->(∀ p∈cs,B' true p.1=some p.2)->Rs K F B' (lends t) v []
 |[],_,_,⟨h,_⟩,_=>⟨h,rfl⟩
 |x :: xs,_,_,⟨v,r,c,d,h1,h2,h3,h4⟩,m=>⟨v,r,[],[],h1,rfl,R.lend b x h3 λp q=>m p (by rw[h2]; exact List.mem_append.mpr (.inl q)),Rs.lend b xs h4 λp q=>m p (by rw[h2]; exact List.mem_append.mpr (.inr q))⟩
theorem Rk.lend(b:∀ k,Le (B k) (B' k)):∀(t:List (Key×Tr)){v:List (Key×V)}{cs:Cs},Rk K F B t v cs->(∀ p∈cs,B' true p.1=some p.2)->Rk K F B' (lendk t) v []
 |[],_,_,⟨h,_⟩,_=>⟨h,rfl⟩
 |(_,x) :: xs,_,_,⟨v,r,c,d,h1,h2,h3,h4⟩,m=>⟨v,r,[],[],h1,rfl,R.lend b x h3 λp q=>m p (by rw[h2]; exact List.mem_append.mpr (.inl q)),Rk.lend b xs h4 λp q=>m p (by rw[h2]; exact List.mem_append.mpr (.inr q))⟩
theorem Rf.lend(b:∀ k,Le (B k) (B' k)):∀(t:List (Str×Tr)){v:List (Str×V)}{cs:Cs},Rf K F B t v cs->(∀ p∈cs,B' true p.1=some p.2)->Rf K F B' (lendf t) v []
 |[],_,_,⟨h,_⟩,_=>⟨h,rfl⟩
 |(_,x) :: xs,_,_,⟨v,r,c,d,h1,h2,h3,h4⟩,m=>⟨v,r,[],[],h1,rfl,R.lend b x h3 λp q=>m p (by rw[h2]; exact List.mem_append.mpr (.inl q)),Rf.lend b xs h4 λp q=>m p (by rw[h2]; exact List.mem_append.mpr (.inr q))⟩
theorem lendk_keys:∀(xs:List (Key×Tr)),(lendk xs).map (·.1)=xs.map (·.1)
 |[]=>rfl
 |(_,_) :: xs=>by show _ :: _ = _ :: _; rw[lendk_keys xs]
end
theorem h'v:∀(xs:List (Key×Tr)),(frzk xs).map (·.1)=xs.map (·.1)
 |[]=>rfl
 |(_,_) :: xs=>by show _ :: _ = _ :: _; rw[h'v xs]
mutual
/-- without lent parts B is not asked -/
theorem R.base:∀(t:Tr){v:V}{cs:Cs},nol t=true->R K F B t v cs->R K F B' t v cs
 |.int _,_,_,_,h=>h
 |.bl _,_,_,_,h=>h
 |.str _,_,_,_,h=>h
 |.non,_,_,_,h=>h
 |.hole,_,_,_,h=>h
 |.ty _,_,_,_,h=>h
 |.cl _,_,_,_,h=>h
 |.exc _,_,_,_,h=>h
 |.tup xs,_,_,n,⟨a,vs,h1,h2,h3⟩=>⟨a,vs,h1,h2,Rs.base xs n h3⟩
 |.lst .f xs,_,_,n,⟨z,a,vs,h1,h2,h3⟩=>⟨z,a,vs,h1,h2,Rs.base xs n h3⟩
 |.lst (.l k) xs,_,_,n,_=>by cases n
 |.lst .o xs,_,_,n,⟨a,vs,ds,h1,h2,h3⟩=>⟨a,vs,ds,h1,h2,Rs.base xs n h3⟩
 |.dic .f xs,_,_,n,⟨z,a,vs,h1,h2,h3,h4⟩=>⟨z,a,vs,h1,h2,Rk.base xs n h3,h4⟩
 |.dic (.l k) xs,_,_,n,_=>by cases n
 |.dic .o xs,_,_,n,⟨a,vs,ds,h1,h2,h3,h4⟩=>⟨a,vs,ds,h1,h2,Rk.base xs n h3,h4⟩
 |.ins .f _ xs,_,_,n,⟨z,a,dx,vs,h1,h2,h3⟩=>⟨z,a,dx,vs,h1,h2,Rf.base xs n h3⟩
 |.ins (.l k) _ xs,_,_,n,_=>by cases n
 |.ins .o _ xs,_,_,n,⟨a,dx,vs,ds,h1,h2,h3⟩=>⟨a,dx,vs,ds,h1,h2,Rf.base xs n h3⟩
theorem Rs.base:∀(t:List Tr){v:List V}{cs:Cs},nols t=true->Rs K F B t v cs->Rs K F B' t v cs
 |[],_,_,_,h=>h
 |x :: xs,_,_,n,⟨v,r,c,d,h1,h2,h3,h4⟩=>by
  rw[nols,Bool.and_eq_true] at n;exact⟨v,r,c,d,h1,h2,R.base x n.1 h3,Rs.base xs n.2 h4⟩
theorem Rk.base:∀(t:List (Key×Tr)){v:List (Key×V)}{cs:Cs},nolk t=true->Rk K F B t v cs->Rk K F B' t v cs
 |[],_,_,_,h=>h
 |(_,x) :: xs,_,_,n,⟨v,r,c,d,h1,h2,h3,h4⟩=>by
  rw[nolk,Bool.and_eq_true] at n;exact⟨v,r,c,d,h1,h2,R.base x n.1 h3,Rk.base xs n.2 h4⟩
theorem Rf.base:∀(t:List (Str×Tr)){v:List (Str×V)}{cs:Cs},nolf t=true->Rf K F B t v cs->Rf K F B' t v cs
 |[],_,_,_,h=>h
 |(_,x) :: xs,_,_,n,⟨v,r,c,d,h1,h2,h3,h4⟩=>by
  rw[nolf,Bool.and_eq_true] at n;exact⟨v,r,c,d,h1,h2,R.base x n.1 h3,Rf.base xs n.2 h4⟩
end
mutual
theorem R.frz(b:Le F F'):∀(t:Tr){v:V}{cs:Cs},R K F B t v cs->(∀ p∈cs,F' p.1=some p.2)->R K F' B (frz t) v []
 |.int _,_,_,⟨h,_⟩,_=>⟨h,rfl⟩
 |.bl _,_,_,⟨h,_⟩,_=>⟨h,rfl⟩
 |.str _,_,_,⟨h,_⟩,_=>⟨h,rfl⟩
 |.non,_,_,⟨h,_⟩,_=>⟨h,rfl⟩
 |.hole,_,_,h,_=>h.elim
 |.ty _,_,_,⟨h,_⟩,_=>⟨h,rfl⟩
 |.cl _,_,_,⟨h,_⟩,_=>⟨h,rfl⟩
 |.exc _,_,_,⟨_,a,h,h'⟩,_=>⟨rfl,a,h,Le.exc b h'⟩
 |.tup xs,_,_,⟨a,vs,h1,h2,h3⟩,m=>⟨a,vs,h1,b.tup h2,Rs.frz b xs h3 m⟩
 |.lst .f xs,_,_,⟨z,a,vs,h1,h2,h3⟩,_=>⟨rfl,a,vs,h1,b.lst h2,Rs.mo b (λk=>Le.refl (B k)) xs h3⟩
 |.lst (.l k) xs,_,_,⟨z,a,vs,h1,h2,h3⟩,_=>⟨rfl,a,vs,h1,h2,Rs.mo b (λk=>Le.refl (B k)) xs h3⟩
 |.lst .o xs,_,_,⟨a,vs,ds,h1,h2,h3⟩,m=>⟨rfl,a,vs,h1,SqL.of (m (a,.lst vs) (by rw[h2]; exact .head _)),Rs.frz b xs h3 λp q=>m p (by rw[h2]; exact .tail _ q)⟩
 |.dic .f xs,_,_,⟨z,a,vs,h1,h2,h3,h4⟩,_=>⟨rfl,a,vs,h1,b.dic h2,Rk.mo b (λk=>Le.refl (B k)) xs h3,h4⟩
 |.dic (.l k) xs,_,_,⟨z,a,vs,h1,h2,h3,h4⟩,_=>⟨rfl,a,vs,h1,h2,Rk.mo b (λk=>Le.refl (B k)) xs h3,h4⟩
 |.dic .o xs,_,_,⟨a,vs,ds,h1,h2,h3,h4⟩,m=>⟨rfl,a,vs,h1,Rd.of (m (a,.dK vs) (by rw[h2]; exact .head _)),Rk.frz b xs h3 λp q=>m p (by rw[h2]; exact .tail _ q),by rw[h'v]; exact h4⟩
 |.ins .f _ xs,_,_,⟨z,a,dx,vs,h1,h2,h3⟩,_=>⟨rfl,a,dx,vs,h1,b _ _ (by intro _ _ z; cases z) h2,Rf.mo b (λk=>Le.refl (B k)) xs h3⟩
 |.ins (.l k) _ xs,_,_,⟨z,a,dx,vs,h1,h2,h3⟩,_=>⟨rfl,a,dx,vs,h1,h2,Rf.mo b (λk=>Le.refl (B k)) xs h3⟩
 |.ins .o _ xs,_,_,⟨a,dx,vs,ds,h1,h2,h3⟩,m=>⟨rfl,a,dx,vs,h1,Rd.of (m (a,.ins _ dx vs) (by rw[h2]; exact .head _)),Rf.frz b xs h3 λp q=>m p (by rw[h2]; exact .tail _ q)⟩
theorem Rs.frz(b:Le F F'):∀(t:List Tr){v:List V}{cs:Cs},Rs K F B t v cs->(∀ p∈cs,F' p.1=some p.2)->Rs K F' B (frzs t) v []
 |[],_,_,⟨h,_⟩,_=>⟨h,rfl⟩
 |x :: xs,_,_,⟨v,r,c,d,h1,h2,h3,h4⟩,m=>⟨v,r,[],[],h1,rfl,R.frz b x h3 λp q=>m p (by rw[h2]; exact List.mem_append.mpr (.inl q)),Rs.frz b xs h4 λp q=>m p (by rw[h2]; exact List.mem_append.mpr (.inr q))⟩
theorem Rk.frz(b:Le F F'):∀(t:List (Key×Tr)){v:List (Key×V)}{cs:Cs},Rk K F B t v cs->(∀ p∈cs,F' p.1=some p.2)->Rk K F' B (frzk t) v []
 |[],_,_,⟨h,_⟩,_=>⟨h,rfl⟩
 |(_,x) :: xs,_,_,⟨v,r,c,d,h1,h2,h3,h4⟩,m=>⟨v,r,[],[],h1,rfl,R.frz b x h3 λp q=>m p (by rw[h2]; exact List.mem_append.mpr (.inl q)),Rk.frz b xs h4 λp q=>m p (by rw[h2]; exact List.mem_append.mpr (.inr q))⟩
theorem Rf.frz(b:Le F F'):∀(t:List (Str×Tr)){v:List (Str×V)}{cs:Cs},Rf K F B t v cs->(∀ p∈cs,F' p.1=some p.2)->Rf K F' B (frzf t) v []
 |[],_,_,⟨h,_⟩,_=>⟨h,rfl⟩
 |(_,x) :: xs,_,_,⟨v,r,c,d,h1,h2,h3,h4⟩,m=>⟨v,r,[],[],h1,rfl,R.frz b x h3 λp q=>m p (by rw[h2]; exact List.mem_append.mpr (.inl q)),Rf.frz b xs h4 λp q=>m p (by rw[h2]; exact List.mem_append.mpr (.inr q))⟩
end
def Plain(cs:Cs):Prop:=∀ p∈cs,∀ x u,p.2≠HO.frz x u
theorem Plain.nil:Plain []:=λ_ h=>nomatch h
theorem Plain.cons{a:Addr}{o:HO}{cs:Cs}(h:∀ x u,o≠HO.frz x u)(t:Plain cs):Plain ((a,o) :: cs):=λp m=>by
 cases m with
 |head=>exact h
 |tail _ m=>exact t p m
theorem Plain.app(h:Plain c)(t:Plain d):Plain (c++d):=λp m=>(List.mem_append.mp m).elim (h p) (t p)
mutual
theorem R.plain:∀(t:Tr){v:V}{cs:Cs},R K F B t v cs->Plain cs
 |.int _,_,_,⟨_,h⟩=>by rw[h]; exact .nil
 |.bl _,_,_,⟨_,h⟩=>by rw[h]; exact .nil
 |.str _,_,_,⟨_,h⟩=>by rw[h]; exact .nil
 |.non,_,_,⟨_,h⟩=>by rw[h]; exact .nil
 |.hole,_,_,h=>h.elim
 |.ty _,_,_,⟨_,h⟩=>by rw[h]; exact .nil
 |.cl _,_,_,⟨_,h⟩=>by rw[h]; exact .nil
 |.exc _,_,_,⟨h,_⟩=>by rw[h]; exact .nil
 |.tup xs,_,_,⟨a,vs,h1,h2,h3⟩=>Rs.plain xs h3
 |.lst .f xs,_,_,⟨z,_⟩=>by rw[z]; exact .nil
 |.lst (.l k) xs,_,_,⟨z,_⟩=>by rw[z]; exact .nil
 |.lst .o xs,_,_,⟨a,vs,ds,h1,h2,h3⟩=>by rw[h2]; exact .cons (by intro _ _ z; cases z) (Rs.plain xs h3)
 |.dic .f xs,_,_,⟨z,_⟩=>by rw[z]; exact .nil
 |.dic (.l k) xs,_,_,⟨z,_⟩=>by rw[z]; exact .nil
 |.dic .o xs,_,_,⟨a,vs,ds,h1,h2,h3,_⟩=>by rw[h2]; exact .cons (by intro _ _ z; cases z) (Rk.plain xs h3)
 |.ins .f _ xs,_,_,⟨z,_⟩=>by rw[z]; exact .nil
 |.ins (.l k) _ xs,_,_,⟨z,_⟩=>by rw[z]; exact .nil
 |.ins .o _ xs,_,_,⟨a,dx,vs,ds,h1,h2,h3⟩=>by rw[h2]; exact .cons (by intro _ _ z; cases z) (Rf.plain xs h3)
theorem Rs.plain:∀(t:List Tr){v:List V}{cs:Cs},Rs K F B t v cs->Plain cs
 |[],_,_,⟨_,h⟩=>by rw[h]; exact .nil
 |x :: xs,_,_,⟨v,r,c,d,h1,h2,h3,h4⟩=>by rw[h2]; exact (R.plain x h3).app (Rs.plain xs h4)
theorem Rk.plain:∀(t:List (Key×Tr)){v:List (Key×V)}{cs:Cs},Rk K F B t v cs->Plain cs
 |[],_,_,⟨_,h⟩=>by rw[h]; exact .nil
 |(_,x) :: xs,_,_,⟨v,r,c,d,h1,h2,h3,h4⟩=>by rw[h2]; exact (R.plain x h3).app (Rk.plain xs h4)
theorem Rf.plain:∀(t:List (Str×Tr)){v:List (Str×V)}{cs:Cs},Rf K F B t v cs->Plain cs
 |[],_,_,⟨_,h⟩=>by rw[h]; exact .nil
 |(_,x) :: xs,_,_,⟨v,r,c,d,h1,h2,h3,h4⟩=>by rw[h2]; exact (R.plain x h3).app (Rf.plain xs h4)
end
structure Cells(F H:Hp)(cs:Cs):Prop where
 h:∀ p∈cs,H p.1=some p.2
 f:∀ p∈cs,F p.1=none
 nd:(cs.map (·.1)).Nodup
theorem Cells.nil:Cells F H []:=⟨λ_ h=>(nomatch h),λ_ h=>(nomatch h),List.nodup_nil⟩
theorem Cells.gr(c:Cells F H cs)(g:Gr F H F' H'):Cells F' H' cs:=⟨λp m=>g.h _ _ (c.h p m),λp m=>g.own (c.f p m) (c.h p m),c.nd⟩
def New(H:Hp)(cs:Cs):Prop:=∀ p∈cs,H p.1=none
theorem New.nil:New H []:=λ_ h=>nomatch h
theorem New.back(s:Same H H')(n:New H' cs):New H cs:=λp m=>s.free (n p m)
theorem Cells.app(h:Cells F H c)(t:Cells F H d)(n:∀ p∈c,∀ q∈d,p.1≠q.1):Cells F H (c++d):=
 ⟨λp m=>(List.mem_append.mp m).elim (h.h p) (t.h p),λp m=>(List.mem_append.mp m).elim (h.f p) (t.f p),by
  rw[List.map_append,List.nodup_append];refine⟨h.nd,t.nd,λa ma b mb=>?_⟩;obtain⟨p,mp,rfl⟩:=List.mem_map.mp ma;obtain⟨q,mq,rfl⟩:=List.mem_map.mp mb;exact n p mp q mq⟩
theorem Cells.left(h:Cells F H (c++d)):Cells F H c:=⟨λp m=>h.h p (List.mem_append.mpr (.inl m)),λp m=>h.f p (List.mem_append.mpr (.inl m)),by have:=h.nd;rw[List.map_append,List.nodup_append] at this;exact this.1⟩
theorem Cells.right(h:Cells F H (c++d)):Cells F H d:=⟨λp m=>h.h p (List.mem_append.mpr (.inr m)),λp m=>h.f p (List.mem_append.mpr (.inr m)),by have:=h.nd;rw[List.map_append,List.nodup_append] at this;exact this.2.1⟩
structure Out(K:W.Frag)(F:Hp)(B:Bool->Hp)(H F' H':Hp)(t:Tr)(v:V)(cs:Cs):Prop where
 g:Gr F H F' H'
 r:R K F' B t v cs
 c:Cells F' H' cs
 n:New H cs
structure OutA(K:W.Frag)(F:Hp)(B:Bool->Hp)(H F' H':Hp)(t:List Tr)(v:List V)(cs:Cs):Prop where
 g:Gr F H F' H'
 r:Rs K F' B t v cs
 c:Cells F' H' cs
 n:New H cs
def EnvQ(K:W.Frag)(F:Hp)(B:Bool->Hp)(σ:St)(ρ:List Tr):Prop:=∀(i:Nat)(t:Tr),ρ[i]?=some t->t=.hole\/∃ v,σ[i]?=some (some v)/\R K F B t v []
theorem EnvQ.mo(e:EnvQ K F B σ ρ)(l:Le F F')(b:∀ k,Le (B k) (B' k)):EnvQ K F' B' σ ρ:=λi t h=>(e i t h).imp id λ⟨v,h1,h2⟩=>⟨v,h1,h2.mo l b t⟩
abbrev PE':=List Tr->(Tr->Prop)->Prop
abbrev PA':=List Tr->(List Tr->Prop)->Prop
abbrev PB':=List Tr->(Bool->Prop)->Prop
structure Md where
 z:Bool
 E:St->XK
 q:Value->Prop
def Md.mute(k:Md):Md:=⟨k.z,k.E,λ_=>False⟩
def Md.base(b:Bool):Md:=⟨b,λ_=>E0,λ_=>False⟩
structure Cxt(K:W.Frag)(k:Md)(F:Hp)(B:Bool->Hp)(H:Hp)(σ:St)(ρ:List Tr):Prop where
 s:Same F H
 b:∀ k,Same (B k) H
 z:k.z=true->Fz S0 F
 e:EnvQ K F B σ ρ
 x:∀ cls F' H',k.q cls->Gr F H F' H'->k.E σ cls none H'
theorem _root_.Vc.Gr.refl'(s:Same F H):Gr F H F H:=Gr.of (Gr0.refl s) (Fz.refl F)
theorem _root_.Vc.Gr.trans'(a:Gr F H F' H')(b:Gr F' H' F2 H2):Gr F H F2 H2:=Gr.of (a.toGr0.tr b) (b.fz a.z)
theorem Cxt.gr(c:Cxt K k F B H σ ρ)(g:Gr F H F' H'):Cxt K k F' B H' σ ρ:=⟨g.s,λk=>(c.b k).trans g.h,λh=>g.fz (c.z h),c.e.mo g.le (λk=>Le.refl (B k)),λcls F' H' q g'=>c.x cls F' H' q (g.trans' g')⟩
def Sim(K:W.Frag)(k:Md)(te:TE)(pe:PE'):Prop:=∀(F:Hp)(B:Bool->Hp)(H:Hp)(σ:St)(ρ:List Tr)(Q:VK)(Q':Tr->Prop),Cxt K k F B H σ ρ->pe ρ Q'->(∀ t v F' H' cs,Q' t->Out K F B H F' H' t v cs->Q v H')->te σ H Q
def ajZ(K:W.Frag)(k:Md)(te:TA)(pe:PA'):Prop:=∀(F:Hp)(B:Bool->Hp)(H:Hp)(σ:St)(ρ:List Tr)(Q:List V->Hp->Prop)(Q':List Tr->Prop),Cxt K k F B H σ ρ->pe ρ Q'->(∀ t v F' H' cs,Q' t->OutA K F B H F' H' t v cs->Q v H')->te σ H Q
def ajT(K:W.Frag)(k:Md)(te:TT)(pe:PB'):Prop:=∀(F:Hp)(B:Bool->Hp)(H:Hp)(σ:St)(ρ:List Tr)(Q:Bool->Hp->Prop)(Q':Bool->Prop),Cxt K k F B H σ ρ->pe ρ Q'->(∀ b F' H',Q' b->Gr F H F' H'->Q b H')->te σ H Q
theorem Out.same(s:Same F H)(r:R K F B t v []):Out K F B H F H t v []:=⟨Gr.refl' s,r,.nil,.nil⟩
def al7(i:Nat):PE':=λρ Q=>match ρ[i]? with |some .hole=>False |some t=>Q t |none=>False
theorem t'a(i:Nat):Sim K k (ame i) (al7 i):=λF B H σ ρ Q Q' c p q=>by
 unfold al7 at p;cases h:ρ[i]? with
 |none=>rw[h] at p; exact p.elim
 |some t=>
  rcases c.e i t h with rfl |⟨v,h1,h2⟩
  ·rw[h] at p;exact p.elim
  ·refine⟨v,h1,q t v F H [] ?_ (Out.same c.s h2)⟩;rw[h] at p;cases t with
   |hole=>exact p.elim
   |_=>exact p
def pC(t:Tr):PE':=λ_ Q=>Q t
theorem e'J(h:∀ F B,R K F B t v []):Sim K k (tC v) (pC t):=λF B H σ ρ Q Q' c p q=>q t v F H [] p (Out.same c.s (h F B))
theorem t'b:Sim K k (tC (.int n)) (pC (.int n)):=e'J λ_ _=>⟨rfl,rfl⟩
theorem t'c:Sim K k (tC (.str n)) (pC (.str n)):=e'J λ_ _=>⟨rfl,rfl⟩
theorem v'j:Sim K k (tC (.bl n)) (pC (.bl n)):=e'J λ_ _=>⟨rfl,rfl⟩
theorem t'd:Sim K k (tC .non) (pC .non):=e'J λ_ _=>⟨rfl,rfl⟩
def p2(pr:Tr->Tr->(Tr->Prop)->Prop)(pa pb:PE'):PE':=λρ Q=>pa ρ λx=>pb ρ λy=>pr x y Q
def Op2(K:W.Frag)(k:Md)(r:R2)(pr:Tr->Tr->(Tr->Prop)->Prop):Prop:=∀(F:Hp)(B:Bool->Hp)(H:Hp)(x y:V)(tx ty:Tr)(cx cy:Cs)(Q:VK)(Q':Tr->Prop),Same F H->(∀ k,Same (B k) H)->(k.z=true->Fz S0 F)->R K F B tx x cx->R K F B ty y cy->Cells F H cx->Cells F H cy->(∀ p∈cx,∀ q∈cy,p.1≠q.1)->pr tx ty Q'->
 (∀ t v F' H' cs,Q' t->Gr F H F' H'->R K F' B t v cs->Cells F' H' cs->(∀ p∈cs,H p.1=none\/p∈cx\/p∈cy)->Q v H')->r x y H Q
theorem g'a(o:Op2 K k r pr)(ha:Sim K k ta pa)(hb:Sim K k tb pb):Sim K k (tOp r ta tb) (p2 pr pa pb):=λF B H σ ρ Q Q' c p q=>by
 refine ha F B H σ ρ _ _ c p λx v F1 H1 c1 p1 o1=>?_
 refine hb F1 B H1 σ ρ _ _ (c.gr o1.g) p1 λy u F2 H2 c2 p2 o2=>?_
 refine o F2 B H2 v u x y c1 c2 Q Q' o2.g.s (λk=>((c.b k).trans o1.g.h).trans o2.g.h) (λh=>o2.g.fz (o1.g.fz (c.z h))) (o1.r.mo o2.g.le (λk=>Le.refl (B k)) x) o2.r (o1.c.gr o2.g) o2.c (λp mp q mq e=>by have:=o1.c.h p mp;rw[e,o2.n q mq] at this;cases this) p2 λt v' F3 H3 cs qt g r' c' n=>?_
 refine q t v' F3 H3 cs qt ⟨(o1.g.trans' o2.g).trans' g,r',c',λp m=>?_⟩;rcases n p m with z |z |z
 ·exact (o1.g.h.trans o2.g.h).free z
 ·exact o1.n p z
 ·exact o1.g.h.free (o2.n p z)
def p1(pr:Tr->(Tr->Prop)->Prop)(pa:PE'):PE':=λρ Q=>pa ρ λx=>pr x Q
def Op1(K:W.Frag)(k:Md)(r:V->Hp->VK->Prop)(pr:Tr->(Tr->Prop)->Prop):Prop:=∀(F:Hp)(B:Bool->Hp)(H:Hp)(x:V)(tx:Tr)(cx:Cs)(Q:VK)(Q':Tr->Prop),Same F H->(∀ k,Same (B k) H)->(k.z=true->Fz S0 F)->R K F B tx x cx->Cells F H cx->pr tx Q'->
 (∀ t v F' H' cs,Q' t->Gr F H F' H'->R K F' B t v cs->Cells F' H' cs->(∀ p∈cs,H p.1=none\/p∈cx)->Q v H')->r x H Q
theorem v'k(o:Op1 K k r pr)(ha:Sim K k ta pa):Sim K k (tUn r ta) (p1 pr pa):=λF B H σ ρ Q Q' c p q=>by
 refine ha F B H σ ρ _ _ c p λx v F1 H1 c1 p1 o1=>?_
 refine o F1 B H1 v x c1 Q Q' o1.g.s (λk=>(c.b k).trans o1.g.h) (λh=>o1.g.fz (c.z h)) o1.r o1.c p1 λt v' F3 H3 cs qt g r' c' n=>?_
 refine q t v' F3 H3 cs qt ⟨o1.g.trans' g,r',c',λp m=>?_⟩;rcases n p m with z |z
 ·exact o1.g.h.free z
 ·exact o1.n p z
def amZ:PA':=λ_ Q=>Q []
def aly(pe:PE')(pa:PA'):PA':=λρ Q=>pe ρ λx=>pa ρ λxs=>Q (x :: xs)
theorem k't:ajZ K k akA amZ:=λF B H σ ρ Q Q' c p q=>q [] [] F H [] p ⟨Gr.refl' c.s,⟨rfl,rfl⟩,.nil,.nil⟩
theorem q'h(h:Sim K k te pe)(ha:ajZ K k ta pa):ajZ K k (ajO te ta) (aly pe pa):=λF B H σ ρ Q Q' c p q=>by
 refine h F B H σ ρ _ _ c p λx v F1 H1 c1 p1 o1=>?_
 refine ha F1 B H1 σ ρ _ _ (c.gr o1.g) p1 λxs vs F2 H2 c2 p2 o2=>?_
 refine q (x :: xs) (v :: vs) F2 H2 (c1++c2) p2 ⟨o1.g.trans' o2.g,⟨v,vs,c1,c2,rfl,rfl,o1.r.mo o2.g.le (λk=>Le.refl (B k)) x,o2.r⟩,(o1.c.gr o2.g).app o2.c λp mp q mq e=>?_,λp m=>?_⟩
 ·have:=o1.c.h p mp;rw[e,o2.n q mq] at this;cases this
 ·rcases List.mem_append.mp m with m |m
  ·exact o1.n p m
  ·exact o1.g.h.free (o2.n p m)
theorem Rs.length:∀{t:List Tr}{v:List V}{cs:Cs},Rs K F B t v cs->v.length=t.length
 |[],_,_,⟨h,_⟩=>by rw[h]; rfl
 |x :: xs,_,_,⟨v,r,c,d,h1,h2,h3,h4⟩=>by rw[h1,List.length_cons,List.length_cons,Rs.length h4]
theorem Rs.at:∀{t:List Tr}{v:List V}{cs:Cs}{i:Nat}{x:Tr},Rs K F B t v cs->t[i]?=some x->∃ u c,v[i]?=some u/\R K F B x u c/\∀ p∈c,p∈cs
 |x :: xs,_,_,0,y,⟨v,r,c,d,h1,h2,h3,h4⟩,h=>by
  cases h;exact⟨v,c,by rw[h1];rfl,h3,λp m=>by rw[h2];exact List.mem_append.mpr (.inl m)⟩
 |x :: xs,_,_,i + 1,y,⟨v,r,c,d,h1,h2,h3,h4⟩,h=>by
  obtain⟨u,e,a1,a2,a3⟩:=Rs.at (i:=i) h4 h;exact⟨u,e,by rw[h1];exact a1,a2,λp m=>by rw[h2];exact List.mem_append.mpr (.inr (a3 p m))⟩
theorem Rs.at':∀{t:List Tr}{v:List V}{cs:Cs}{i:Nat}{x:Tr},Rs K F B t v cs->Cells F H cs->t[i]?=some x->∃ u c,v[i]?=some u/\R K F B x u c/\Cells F H c/\∀ p∈c,p∈cs
 |x :: xs,_,_,0,y,⟨v,r,c,d,h1,h2,h3,h4⟩,hc,h=>by
  cases h;rw[h2] at hc;exact⟨v,c,by rw[h1];rfl,h3,hc.left,λp m=>by rw[h2];exact List.mem_append.mpr (.inl m)⟩
 |x :: xs,_,_,i + 1,y,⟨v,r,c,d,h1,h2,h3,h4⟩,hc,h=>by
  rw[h2] at hc;obtain⟨u,e,a1,a2,a3,a4⟩:=Rs.at' (i:=i) h4 hc.right h;exact⟨u,e,by rw[h1];exact a1,a2,a3,λp m=>by rw[h2];exact List.mem_append.mpr (.inr (a4 p m))⟩
theorem Rk.keys:∀{t:List (Key×Tr)}{v:List (Key×V)}{cs:Cs},Rk K F B t v cs->v.map (·.1)=t.map (·.1)
 |[],_,_,⟨h,_⟩=>by rw[h]; rfl
 |(k,x) :: xs,_,_,⟨v,r,c,d,h1,h2,h3,h4⟩=>by rw[h1,List.map_cons,List.map_cons,Rk.keys h4]
theorem Rk.length(h:Rk K F B t v cs):v.length=t.length:=by have:=congrArg List.length h.keys;simpa using this
def look(m:List (Key×Tr))(k:Key):Option Tr:=(m.find? λp=>decide (p.1=k)).map (·.2)
theorem Rk.look:∀{t:List (Key×Tr)}{v:List (Key×V)}{cs:Cs}(k:Key),Rk K F B t v cs->Cells F H cs->(look t k=none/\aka v k=none)\/∃ x u c,look t k=some x/\aka v k=some u/\R K F B x u c/\Cells F H c/\∀ p∈c,p∈cs
 |[],_,_,k,⟨h,_⟩,_=>.inl ⟨rfl,by rw[h]; rfl⟩
 |(k',x) :: xs,_,_,k,⟨v,r,c,d,h1,h2,h3,h4⟩,hc=>by
  rw[h2] at hc;by_cases e:k'=k
  ·refine .inr ⟨x,v,c,?_,?_,h3,hc.left,λp m=>by rw[h2];exact List.mem_append.mpr (.inl m)⟩
   ·unfold Pu.look;rw[List.find?_cons_of_pos (by simpa using e)];rfl
   ·unfold aka;rw[h1,List.find?_cons_of_pos (by simpa using e)];rfl
  ·have e1:Pu.look ((k',x) :: xs) k=Pu.look xs k:=by unfold Pu.look;rw[List.find?_cons_of_neg (by simpa using e)]
   have e2:aka ((k',v) :: r) k=aka r k:=by unfold aka;rw[List.find?_cons_of_neg (by simpa using e)]
   rw[h1,e1,e2];rcases Rk.look (t:=xs) (v:=r) (cs:=d) k h4 hc.right with z |⟨y,u,c',a1,a2,a3,a4,a5⟩
   ·exact .inl z
   ·exact .inr ⟨y,u,c',a1,a2,a3,a4,λp m=>by rw[h2];exact List.mem_append.mpr (.inr (a5 p m))⟩
theorem R.lstH(s:Same F H)(b:∀ k,Same (B k) H)(r:R K F B (.lst f xs) v cs)(c:Cells F H cs):∃ a vs ds,v=.ref a/\SqL K H a vs/\Rs K F B xs vs ds/\Cells F H ds/\∀ p∈ds,p∈cs:=by
 cases f with
 |f=>obtain⟨z,a,vs,h1,h2,h3⟩:=r; exact⟨a,vs,[],h1,s.seq h2,h3,.nil,λ_ m=>nomatch m⟩
 |l k=>obtain⟨z,a,vs,h1,h2,h3⟩:=r; exact⟨a,vs,[],h1,(b k).seq h2,h3,.nil,λ_ m=>nomatch m⟩
 |o=>
  obtain⟨a,vs,ds,h1,h2,h3⟩:=r;rw[h2] at c;exact⟨a,vs,ds,h1,SqL.of (c.h _ (.head _)),h3,Cells.right (c:=[_]) c,λp m=>by rw[h2];exact .tail _ m⟩
theorem R.tupH(s:Same F H)(r:R K F B (.tup xs) v cs):∃ a vs,v=.ref a/\SqT K H a vs/\Rs K F B xs vs cs:=by
 obtain⟨a,vs,h1,h2,h3⟩:=r;exact⟨a,vs,h1,s.tup h2,h3⟩
theorem R.dicH(s:Same F H)(b:∀ k,Same (B k) H)(r:R K F B (.dic f xs) v cs)(c:Cells F H cs):∃ a vs ds,v=.ref a/\Rd H a (.dK vs)/\Rk K F B xs vs ds/\Cells F H ds/\∀ p∈ds,p∈cs:=by
 cases f with
 |f=>obtain⟨z,a,vs,h1,h2,h3,_⟩:=r; exact⟨a,vs,[],h1,s.rd h2,h3,.nil,λ_ m=>nomatch m⟩
 |l k=>obtain⟨z,a,vs,h1,h2,h3,_⟩:=r; exact⟨a,vs,[],h1,(b k).rd h2,h3,.nil,λ_ m=>nomatch m⟩
 |o=>
  obtain⟨a,vs,ds,h1,h2,h3,_⟩:=r;rw[h2] at c;exact⟨a,vs,ds,h1,Rd.of (c.h _ (.head _)),h3,Cells.right (c:=[_]) c,λp m=>by rw[h2];exact .tail _ m⟩
theorem R.insH(s:Same F H)(b:∀ k,Same (B k) H)(r:R K F B (.ins f C xs) v cs)(c:Cells F H cs):∃ a dx vs ds,v=.ref a/\Rd H a (.ins C dx vs)/\Rf K F B xs vs ds/\Cells F H ds/\∀ p∈ds,p∈cs:=by
 cases f with
 |f=>obtain⟨z,a,dx,vs,h1,h2,h3⟩:=r; exact⟨a,dx,vs,[],h1,s.rd h2,h3,.nil,λ_ m=>nomatch m⟩
 |l k=>obtain⟨z,a,dx,vs,h1,h2,h3⟩:=r; exact⟨a,dx,vs,[],h1,(b k).rd h2,h3,.nil,λ_ m=>nomatch m⟩
 |o=>
  obtain⟨a,dx,vs,ds,h1,h2,h3⟩:=r;rw[h2] at c;exact⟨a,dx,vs,ds,h1,Rd.of (c.h _ (.head _)),h3,Cells.right (c:=[_]) c,λp m=>by rw[h2];exact .tail _ m⟩
theorem g'y(s:Same F H)(r:Rs K F B xs vs cs)(c:Cells F H cs)(hp:H p=none):∃ F',Gr F H F' (upd H p (.tup vs))/\R K F' B (.tup xs) (.ref p) cs/\Cells F' (upd H p (.tup vs)) cs:=by
 obtain⟨F',g,e⟩:=al2 (o:=.tup vs) s (by intro _ _ z;cases z) hp;exact⟨F',g,⟨p,vs,rfl,SqT.of e,r.mo g.le (λk=>Le.refl (B k)) xs⟩,c.gr g⟩
theorem Gr.own1(s:Same F H)(hp:H p=none):Gr F H F (upd H p o):=⟨⟨Same.upd hp,Same.refl F,s.updN (s.free hp),λa u h e=>by rw[h] at e;cases e⟩,Fz.refl F⟩
theorem g'z(s:Same F H)(c:Cells F H cs)(hp:H p=none):Cells F (upd H p o) ((p,o) :: cs):=
 ⟨λq m=>by
  cases m with
  |head=>exact a'O
  |tail _ m=>show upd H p o q.1=_;rw[a'u (a'E (c.h q m) hp)];exact c.h q m,
 λq m=>by
  cases m with
  |head=>exact s.free hp
  |tail _ m=>exact c.f q m,
 by
  rw[List.map_cons,List.nodup_cons];refine⟨λm=>?_,c.nd⟩;obtain⟨q,mq,e⟩:=List.mem_map.mp m;have e:q.1=p:=e;have:=c.h q mq;rw[e,hp] at this;cases this⟩
def anh(pa:PA'):PE':=λρ Q=>pa ρ λxs=>xs.length<=10000/\Q (.tup xs)
def ani(pa:PA'):PE':=λρ Q=>pa ρ λxs=>xs.length<=10000/\Q (.lst .o xs)
theorem c'd(h:n<=1000000):n<=sizeLine:=Nat.le_trans h (by decide)
theorem t'e(h:ajZ K k ta pa):Sim K k (anc ta) (anh pa):=λF B H σ ρ Q Q' c p q=>by
 refine h F B H σ ρ _ _ c p λxs vs F1 H1 c1 p1 o1=>⟨by rw[o1.r.length];exact c'd (Nat.le_trans p1.1 (by decide)),λa ha=>?_⟩
 obtain⟨F2,g,r,c2⟩:=g'y o1.g.s o1.r o1.c ha;exact q (.tup xs) (.ref a) F2 _ c1 p1.2 ⟨o1.g.trans' g,r,c2,o1.n⟩
theorem t'f(h:ajZ K k ta pa):Sim K k (anW ta) (ani pa):=λF B H σ ρ Q Q' c p q=>by
 refine h F B H σ ρ _ _ c p λxs vs F1 H1 c1 p1 o1=>⟨by rw[o1.r.length];exact c'd (Nat.le_trans p1.1 (by decide)),λa ha=>?_⟩
 refine q (.lst .o xs) (.ref a) F1 _ ((a,.lst vs) :: c1) p1.2 ⟨o1.g.trans' (Gr.own1 o1.g.s ha),⟨a,vs,c1,rfl,rfl,o1.r⟩,g'z o1.g.s o1.c ha,λp m=>?_⟩;cases m with
 |head=>exact o1.g.h.free ha
 |tail _ m=>exact o1.n p m
end
end Pu
namespace Pu
open PySem PySem.Spec PyProof.Rows L2 Vc Sf
section
def aoc:R2:=λx y H Q=>∃ a v,x=.ref a/\al6 H a y (some v)/\Q v H
theorem t'g(hu:X.A.units+1<cLine):IxR X aoc:=by
 intro value slice pins s σ H x y v u Q I rx ry h hs;obtain⟨a,z,rfl,g,q⟩:=h;obtain rfl:v=Value.ref a:=rx;have hT:=j'U I g;unfold subscriptTail;refine wpAny_bind ?_;rw[getitemInPython_of_ne hT.not_modules];refine wpAny_bind (wpAny_specialOf hT PySem.F.slot_dict_getitem.lookup ?_);have fin:wpAny (model X.prog X.w) X.A (subscripted slice false (.ref a) u) (λr s₃=>wpAny (model X.prog X.w) X.A (letTemporaryGo value (.ref a) r >>= λ_=>pure r) (EP X pins σ Q) X.xe s₃) X.xe s:=by
  rw[hs];exact wpAny_operating (n'b hu I g ry λw' s3 I3 rw'=>wpAny_bind (wpAny_letTemporaryGo (wpAny_pure ⟨z,H,I3,rw',q⟩)))
 first
  |exact wpAny_pure (wpAny_bind fin)
  |exact wpAny_bind (wpAny_pure (wpAny_bind fin))
  |exact wpAny_bind fin
def amu(neg:Bool):R2:=λy x H Q=>∃ a o,x=.ref a/\al6 H a y o/\Q (.bl (if neg then !o.isSome else o.isSome)) H
theorem v'l(hu:X.A.units+1<cLine):OpR X (compareOp .In) (amu false):=by
 intro pins s σ H y x u v Q I ry rx h;obtain⟨a,o,rfl,g,q⟩:=h;obtain rfl:v=Value.ref a:=rx;exact x'p hu I g ry λs3 I3=>⟨.bl o.isSome,H,I3,rfl,q⟩
theorem n'B(hu:X.A.units+1<cLine):OpR X (compareOp .NotIn) (amu true):=by
 intro pins s σ H y x u v Q I ry rx h;obtain⟨a,o,rfl,g,q⟩:=h;obtain rfl:v=Value.ref a:=rx;exact s'A hu I g ry λs3 I3=>⟨.bl (!o.isSome),H,I3,rfl,q⟩
def amv(K:W.Frag):R2:=λx y H Q=>rI0 (λi j=>.int (i+j)) x y H Q\/(λx y H Q=>(λx y H Q=>∃ i j,x=.str i/\y=.str j/\i.length+j.length<=sizeLine/\Q (.str (i++j)) H) x y H Q\/amt K x y H Q) x y H Q
theorem w'V:OpR X (binaryOp .Add) (amv X.K):=aml.or (akp.or s'P)
def amw:R2:=λx y H Q=>rI akq (λi j=>.int (i*j)) x y H Q\/ams x y H Q
theorem w'W:OpR X (binaryOp .Mult) amw:=alw.or m'd
def aod(K:W.Frag):R2:=λx y H Q=>rIx K x y H Q\/aoc x y H Q
theorem x'q(hu:X.A.units+1<cLine):IxR X (aod X.K):=amo.or (t'g hu)
def aoe:R2:=λx y H Q=>rI0 (λi j=>.bl (decide (i<j))) x y H Q\/(λx y H Q=>∃ i j,x=.str i/\y=.str j/\Q (.bl (decide (i.cps.toList<j.cps.toList))) H) x y H Q
theorem f'u:OpR X (compareOp .Lt) aoe:=ana.or m'V
def aof:R2:=λx y H Q=>rI0 (λi j=>.bl (decide (j<i))) x y H Q\/(λx y H Q=>∃ i j,x=.str i/\y=.str j/\Q (.bl (decide (j.cps.toList<i.cps.toList))) H) x y H Q
theorem d'F:OpR X (compareOp .Gt) aof:=anb.or n'p
end
section
variable{K:W.Frag}{F F' H H':Hp}{B B':Bool->Hp}{k:Md}
def ajl(C:Int->Int->Prop)(g:Int->Int->Tr)(x y:Tr)(Q:Tr->Prop):Prop:=match x,y with
 |.int i,.int j=>C i j /\ Q (g i j)
 |_,_=>False
theorem m'l{g:Int->Int->V}{t:Int->Int->Tr}(h:∀ i j F B,R K F B (t i j) (g i j) []):Op2 K k (rI C g) (ajl C t):=λF B H x y tx ty cx cy Q Q' s b z rx ry hx hy hd p q=>by
 unfold ajl at p;split at p
 ·obtain⟨rfl,_⟩:=rx;obtain⟨rfl,_⟩:=ry;exact⟨_,_,rfl,rfl,p.1,q _ _ F H [] p.2 (Gr.refl' s) (h _ _ F B) .nil λ_ m=>nomatch m⟩
 ·exact p.elim
theorem i'C{g:Int->Int->V}{t:Int->Int->Tr}(h:∀ i j F B,R K F B (t i j) (g i j) []):Op2 K k (rI0 g) (ajl (λ_ _=>True) t):=λF B H x y tx ty cx cy Q Q' s b z rx ry hx hy hd p q=>by
 unfold ajl at p;split at p
 ·obtain⟨rfl,_⟩:=rx;obtain⟨rfl,_⟩:=ry;exact⟨_,_,rfl,rfl,q _ _ F H [] p.2 (Gr.refl' s) (h _ _ F B) .nil λ_ m=>nomatch m⟩
 ·exact p.elim
def al8(x y:Tr)(Q:Tr->Prop):Prop:=match x,y with
 |.int i,.int j=>Q (.int (i + j))
 |.str i,.str j=>i.length + j.length <= 1000000 /\ Q (.str (i ++ j))
 |.lst _ xs,.lst _ ys=>xs.length + ys.length <= 1000000 /\ Q (.lst .o (xs ++ ys))
 |_,_=>False
theorem Rs.append:∀{xs ys:List Tr}{vs us:List V}{c d:Cs},Rs K F B xs vs c->Rs K F B ys us d->Rs K F B (xs++ys) (vs++us) (c++d)
 |[],_,_,_,_,_,⟨h1,h2⟩,h=>by rw[h1,h2]; exact h
 |x :: xs,_,_,_,_,_,⟨v,r,c,d,h1,h2,h3,h4⟩,h=>by rw[h1,h2]; exact⟨v,r ++ _,c,d ++ _,rfl,by rw[List.append_assoc],h3,Rs.append h4 h⟩
theorem c'x(s:Same F H)(r:Rs K F B xs vs cs)(c:Cells F H cs)(hp:H p=none):Gr F H F (upd H p (.lst vs))/\R K F B (.lst .o xs) (.ref p) ((p,.lst vs) :: cs)/\Cells F (upd H p (.lst vs)) ((p,.lst vs) :: cs):=
 ⟨Gr.own1 s hp,⟨p,vs,cs,rfl,rfl,r⟩,g'z s c hp⟩
theorem t'h:Op2 K k (amv K) al8:=λF B H x y tx ty cx cy Q Q' s b z rx ry hx hy hd p q=>by
 unfold al8 at p;split at p
 ·obtain⟨rfl,_⟩:=rx;obtain⟨rfl,_⟩:=ry;exact .inl ⟨_,_,rfl,rfl,q _ _ F H [] p (Gr.refl' s) ⟨rfl,rfl⟩ .nil λ_ m=>nomatch m⟩
 ·obtain⟨rfl,_⟩:=rx;obtain⟨rfl,_⟩:=ry;exact .inr (.inl ⟨_,_,rfl,rfl,c'd p.1,q _ _ F H [] p.2 (Gr.refl' s) ⟨rfl,rfl⟩ .nil λ_ m=>nomatch m⟩)
 ·obtain⟨a,vs,ds,rfl,h1,h2,h3,h4⟩:=rx.lstH s b hx;obtain⟨a',us,es,rfl,g1,g2,g3,g4⟩:=ry.lstH s b hy;refine .inr (.inr ⟨_,_,_,_,rfl,rfl,h1,g1,c'd (by rw[h2.length,g2.length];exact p.1),λl hl=>?_⟩);obtain⟨n1,n2,n3⟩:=c'x s (h2.append g2) (h3.app g3 λp mp q mq=>hd p (h4 p mp) q (g4 q mq)) hl;refine q _ _ F _ _ p.2 n1 n2 n3 λp m=>?_
  cases m with
  |head=>exact .inl hl
  |tail _ m=>exact (List.mem_append.mp m).elim (λm=>.inr (.inl (h4 p m))) (λm=>.inr (.inr (g4 p m)))
 ·exact p.elim
def am0(x y:Tr)(Q:Tr->Prop):Prop:=match x,y with
 |.int i,.int j=>akq i j /\ Q (.int (i * j))
 |_,_=>False
theorem t'i:Op2 K k amw am0:=λF B H x y tx ty cx cy Q Q' s b z rx ry hx hy hd p q=>by
 unfold am0 at p;split at p
 ·obtain⟨rfl,_⟩:=rx;obtain⟨rfl,_⟩:=ry;exact .inl ⟨_,_,rfl,rfl,p.1,q _ _ F H [] p.2 (Gr.refl' s) ⟨rfl,rfl⟩ .nil λ_ m=>nomatch m⟩
 ·exact p.elim
def anj:Tr->Option Key
 |.int n=>some (.inl n)
 |.str x=>some (.inr x)
 |_=>none
theorem n'C(r:R K F B t v cs)(h:anj t=some y):v=kV y:=by
 cases t with
 |int n=>cases h; exact r.1
 |str n=>cases h; exact r.1
 |_=>cases h
def akw(x y:Tr)(Q:Tr->Prop):Prop:=match x,y with
 |.tup xs,.int i=>(match atI xs i with |some t=>Q t |none=>False)
 |.lst _ xs,.int i=>(match atI xs i with |some t=>Q t |none=>False)
 |.str x,.int i=>x.length <= 1000000 /\ (match atI x.cps.toList i with |some c=>Q (.str ⟨#[c]⟩) |none=>False)
 |.dic _ m,y=>(match anj y with |some y=>(match look m y with |some t=>Q t |none=>False) |none=>False)
 |_,_=>False
theorem Rs.atI(r:Rs K F B xs vs cs)(c:Cells F H cs)(h:L2.atI xs i=some t):∃ u d,L2.atI vs i=some u/\R K F B t u d/\Cells F H d/\∀ p∈d,p∈cs:=by
 unfold L2.atI at h ⊢;rw[r.length];cases e:ixN xs.length i with
 |none=>rw[e] at h; cases h
 |some j=>rw[e] at h; exact r.at' c h
theorem t'j:Op2 K k (aod K) akw:=λF B H x y tx ty cx cy Q Q' s b z rx ry hx hy hd p q=>by
 unfold akw at p;split at p
 ·obtain⟨rfl,_⟩:=ry;split at p
  ·rename_i e;obtain⟨a,vs,rfl,h1,h2⟩:=rx.tupH s;obtain⟨u,d,e1,e2,e3,e4⟩:=h2.atI hx e;exact .inl (.inr (.inl ⟨_,_,_,_,rfl,rfl,h1,e1,q _ _ F H d p (Gr.refl' s) e2 e3 λp m=>.inr (.inl (e4 p m))⟩))
  ·exact p.elim
 ·obtain⟨rfl,_⟩:=ry;split at p
  ·rename_i e;obtain⟨a,vs,ds,rfl,h1,h2,h3,h4⟩:=rx.lstH s b hx;obtain⟨u,d,e1,e2,e3,e4⟩:=h2.atI h3 e;exact .inl (.inl ⟨_,_,_,_,rfl,rfl,h1,e1,q _ _ F H d p (Gr.refl' s) e2 e3 λp m=>.inr (.inl (h4 p (e4 p m)))⟩)
  ·exact p.elim
 ·obtain⟨rfl,_⟩:=ry;obtain⟨rfl,_⟩:=rx;obtain⟨hl,p⟩:=p;split at p
  ·rename_i e;exact .inl (.inr (.inr ⟨_,_,_,rfl,rfl,c'd hl,e,q _ _ F H [] p (Gr.refl' s) ⟨rfl,rfl⟩ .nil λ_ m=>nomatch m⟩))
  ·exact p.elim
 ·split at p
  ·rename_i e;split at p
   ·rename_i e';obtain⟨a,vs,ds,rfl,h1,h2,h3,h4⟩:=rx.dicH s b hx;obtain rfl:=n'C ry e;rcases h2.look _ h3 with⟨z,_⟩ |⟨x,u,c,a1,a2,a3,a4,a5⟩
    ·rw[z] at e';cases e'
    ·rw[a1] at e';cases e';exact .inr ⟨a,u,rfl,.inl ⟨vs,_,h1,rfl,a2.symm⟩,q _ _ F H c p (Gr.refl' s) a3 a4 λp m=>.inr (.inl (h4 p (a5 p m)))⟩
   ·exact p.elim
  ·exact p.elim
 ·exact p.elim
def wLt(x y:Tr)(Q:Tr->Prop):Prop:=match x,y with
 |.int i,.int j=>Q (.bl (decide (i < j)))
 |.str i,.str j=>Q (.bl (decide (i.cps.toList < j.cps.toList)))
 |_,_=>False
theorem c'G:Op2 K k aoe wLt:=λF B H x y tx ty cx cy Q Q' s b z rx ry hx hy hd p q=>by
 unfold wLt at p;split at p
 ·obtain⟨rfl,_⟩:=rx;obtain⟨rfl,_⟩:=ry;exact .inl ⟨_,_,rfl,rfl,q _ _ F H [] p (Gr.refl' s) ⟨rfl,rfl⟩ .nil λ_ m=>nomatch m⟩
 ·obtain⟨rfl,_⟩:=rx;obtain⟨rfl,_⟩:=ry;exact .inr ⟨_,_,rfl,rfl,q _ _ F H [] p (Gr.refl' s) ⟨rfl,rfl⟩ .nil λ_ m=>nomatch m⟩
 ·exact p.elim
def wGt(x y:Tr)(Q:Tr->Prop):Prop:=match x,y with
 |.int i,.int j=>Q (.bl (decide (j < i)))
 |.str i,.str j=>Q (.bl (decide (j.cps.toList < i.cps.toList)))
 |_,_=>False
theorem b'S:Op2 K k aof wGt:=λF B H x y tx ty cx cy Q Q' s b z rx ry hx hy hd p q=>by
 unfold wGt at p;split at p
 ·obtain⟨rfl,_⟩:=rx;obtain⟨rfl,_⟩:=ry;exact .inl ⟨_,_,rfl,rfl,q _ _ F H [] p (Gr.refl' s) ⟨rfl,rfl⟩ .nil λ_ m=>nomatch m⟩
 ·obtain⟨rfl,_⟩:=rx;obtain⟨rfl,_⟩:=ry;exact .inr ⟨_,_,rfl,rfl,q _ _ F H [] p (Gr.refl' s) ⟨rfl,rfl⟩ .nil λ_ m=>nomatch m⟩
 ·exact p.elim
theorem d'k:Op2 K k (rI0 λi j=>.bl (decide (i<=j))) (ajl (λ_ _=>True) λi j=>.bl (decide (i<=j))):=i'C λ_ _ _ _=>⟨rfl,rfl⟩
theorem i'D:Op2 K k (rI0 λi j=>.bl (decide (j<=i))) (ajl (λ_ _=>True) λi j=>.bl (decide (j<=i))):=i'C λ_ _ _ _=>⟨rfl,rfl⟩
theorem t'k:Op2 K k (rI0 λi j=>.int (i - j)) (ajl (λ_ _=>True) λi j=>.int (i - j)):=i'C λ_ _ _ _=>⟨rfl,rfl⟩
theorem q'i:Op2 K k (rI CDivB λi j=>.int (i.fdiv j)) (ajl CDivB λi j=>.int (i.fdiv j)):=m'l λ_ _ _ _=>⟨rfl,rfl⟩
theorem t'l:Op2 K k (rI (λ_ j=>0<j) λi j=>.int (i % j)) (ajl (λ_ j=>0<j) λi j=>.int (i % j)):=m'l λ_ _ _ _=>⟨rfl,rfl⟩
def am1(x:Tr)(Q:Tr->Prop):Prop:=match x with
 |.int i=>Q (.int (-i))
 |_=>False
theorem t'm:Op1 K k (L2.rU λi=>.int (-i)) am1:=λF B H x tx cx Q Q' s b z rx hx p q=>by
 unfold am1 at p;split at p
 ·obtain⟨rfl,_⟩:=rx;exact⟨_,rfl,q _ _ F H [] p (Gr.refl' s) ⟨rfl,rfl⟩ .nil λ_ m=>nomatch m⟩
 ·exact p.elim
def alz:Tr->Option V
 |.int n=>some (.int n) |.bl b=>some (.bl b) |.str x=>some (.str x) |.non=>some .non |_=>none
theorem g'b(r:R K F B t v cs)(h:alz t=some u):v=u:=by
 cases t with
 |int n=>cases h; exact r.1
 |bl n=>cases h; exact r.1
 |str n=>cases h; exact r.1
 |non=>cases h; exact r.1
 |_=>cases h
def amx(neg:Bool)(x y:Tr)(Q:Tr->Prop):Prop:=match alz x,alz y with
 |some u,some v=>am7 u v = true /\ Q (.bl (if neg then !decide (u = v) else decide (u = v)))
 |_,_=>False
theorem t'n:Op2 K k rEq (amx false):=λF B H x y tx ty cx cy Q Q' s b z rx ry hx hy hd p q=>by
 unfold amx at p;split at p
 ·rename_i e1 e2;obtain rfl:=g'b rx e1;obtain rfl:=g'b ry e2;exact⟨p.1,q _ _ F H [] p.2 (Gr.refl' s) ⟨rfl,rfl⟩ .nil λ_ m=>nomatch m⟩
 ·exact p.elim
theorem t'o:Op2 K k rNe (amx true):=λF B H x y tx ty cx cy Q Q' s b z rx ry hx hy hd p q=>by
 unfold amx at p;split at p
 ·rename_i e1 e2;obtain rfl:=g'b rx e1;obtain rfl:=g'b ry e2;exact⟨p.1,q _ _ F H [] p.2 (Gr.refl' s) ⟨rfl,rfl⟩ .nil λ_ m=>nomatch m⟩
 ·exact p.elim
def wBl(x:Tr)(Q:Bool->Prop):Prop:=match x with
 |.bl b=>Q b
 |_=>False
def pT(pe:PE'):PB':=λρ Q=>pe ρ λx=>wBl x Q
theorem n'D(h:Sim K k te pe):ajT K k (tB te) (pT pe):=λF B H σ ρ Q Q' c p q=>by
 refine h F B H σ ρ _ _ c p λt v F1 H1 c1 p1 o1=>?_
 unfold wBl at p1;split at p1
 ·obtain⟨rfl,_⟩:=o1.r;exact⟨_,rfl,q _ F1 H1 p1 o1.g⟩
 ·exact p1.elim
theorem h'w(h:Sim K k te pe):ajT K k (als te) (pT pe):=n'D h
def ank(pa pb:PB'):PB':=λρ Q=>pa ρ λc=>if c=true then pb ρ Q else Q false
def pOr(pa pb:PB'):PB':=λρ Q=>pa ρ λc=>if c=true then Q true else pb ρ Q
def anl(pa:PB'):PB':=λρ Q=>pa ρ λc=>Q (!c)
theorem t'p(ha:ajT K k ta pa)(hb:ajT K k tb pb):ajT K k (anI ta tb) (ank pa pb):=λF B H σ ρ Q Q' c p q=>by
 refine ha F B H σ ρ _ _ c p λb F1 H1 p1 g1=>?_
 cases b with
 |true=>rw[if_pos rfl]; exact hb F1 B H1 σ ρ _ _ (c.gr g1) p1 λb F2 H2 p2 g2=>q b F2 H2 p2 (g1.trans' g2)
 |false=>exact q false F1 H1 p1 g1
theorem v'm(ha:ajT K k ta pa)(hb:ajT K k tb pb):ajT K k (tOr ta tb) (pOr pa pb):=λF B H σ ρ Q Q' c p q=>by
 refine ha F B H σ ρ _ _ c p λb F1 H1 p1 g1=>?_
 cases b with
 |false=>exact hb F1 B H1 σ ρ _ _ (c.gr g1) p1 λb F2 H2 p2 g2=>q b F2 H2 p2 (g1.trans' g2)
 |true=>exact q true F1 H1 p1 g1
theorem t'q(ha:ajT K k ta pa):ajT K k (anJ ta) (anl pa):=λF B H σ ρ Q Q' c p q=>ha F B H σ ρ _ _ c p λb F1 H1 p1 g1=>q (!b) F1 H1 p1 g1
def alA(pa pb:PE'):PE':=λρ Q=>pa ρ λx=>wBl x λc=>if c=true then pb ρ Q else Q (.bl false)
def anm(pa pb:PE'):PE':=λρ Q=>pa ρ λx=>wBl x λc=>if c=true then Q (.bl true) else pb ρ Q
theorem Out.bl(g:Gr F H F1 H1):Out K F B H F1 H1 (.bl b) (.bl b) []:=⟨g,⟨rfl,rfl⟩,.nil,.nil⟩
theorem Out.tr(g:Gr F H F1 H1)(o:Out K F1 B H1 F2 H2 t v cs):Out K F B H F2 H2 t v cs:=⟨g.trans' o.g,o.r,o.c,o.n.back g.h⟩
theorem q'j(ha:Sim K k ta pa)(hb:Sim K k tb pb):Sim K k (amf ta tb) (alA pa pb):=λF B H σ ρ Q Q' c p q=>by
 refine ha F B H σ ρ _ _ c p λt v F1 H1 c1 p1 o1=>?_
 unfold wBl at p1;split at p1
 ·rename_i b;obtain⟨rfl,_⟩:=o1.r;refine⟨b,rfl,?_⟩;cases b with
  |true=>exact hb F1 B H1 σ ρ _ _ (c.gr o1.g) p1 λt v F2 H2 cs p2 o2=>q t v F2 H2 cs p2 (.tr o1.g o2)
  |false=>exact q _ _ F1 H1 [] p1 (.bl o1.g)
 ·exact p1.elim
theorem t'r(ha:Sim K k ta pa)(hb:Sim K k tb pb):Sim K k (anK ta tb) (anm pa pb):=λF B H σ ρ Q Q' c p q=>by
 refine ha F B H σ ρ _ _ c p λt v F1 H1 c1 p1 o1=>?_
 unfold wBl at p1;split at p1
 ·rename_i b;obtain⟨rfl,_⟩:=o1.r;refine⟨b,rfl,?_⟩;cases b with
  |false=>exact hb F1 B H1 σ ρ _ _ (c.gr o1.g) p1 λt v F2 H2 cs p2 o2=>q t v F2 H2 cs p2 (.tr o1.g o2)
  |true=>exact q _ _ F1 H1 [] p1 (.bl o1.g)
 ·exact p1.elim
def pIf(pc:PB')(pa pb:PE'):PE':=λρ Q=>pc ρ λc=>if c=true then pa ρ Q else pb ρ Q
theorem t's(hc:ajT K k tc pc)(ha:Sim K k ta pa)(hb:Sim K k tb pb):Sim K k (tIf tc ta tb) (pIf pc pa pb):=λF B H σ ρ Q Q' c p q=>by
 refine hc F B H σ ρ _ _ c p λb F1 H1 p1 g1=>?_
 cases b with
 |true=>rw[if_pos rfl] at p1 ⊢; exact ha F1 B H1 σ ρ _ _ (c.gr g1) p1 λt v F2 H2 cs p2 o2=>q t v F2 H2 cs p2 (.tr g1 o2)
 |false=>rw[if_neg (by decide)] at p1 ⊢; exact hb F1 B H1 σ ρ _ _ (c.gr g1) p1 λt v F2 H2 cs p2 o2=>q t v F2 H2 cs p2 (.tr g1 o2)
end
end Pu
namespace Pu
open PySem L2 Vc Sf
section
mutual
theorem R.low:∀(t:Tr){v:V}{cs:Cs},nlt t=true->B false=B' false->R K F B t v cs->R K F B' t v cs
 |.int _,_,_,_,_,h=>h
 |.bl _,_,_,_,_,h=>h
 |.str _,_,_,_,_,h=>h
 |.non,_,_,_,_,h=>h
 |.hole,_,_,_,_,h=>h
 |.ty _,_,_,_,_,h=>h
 |.cl _,_,_,_,_,h=>h
 |.exc _,_,_,_,_,h=>h
 |.tup xs,_,_,n,e,⟨a,vs,h1,h2,h3⟩=>⟨a,vs,h1,h2,Rs.low xs n e h3⟩
 |.lst .f xs,_,_,n,e,⟨z,a,vs,h1,h2,h3⟩=>⟨z,a,vs,h1,h2,Rs.low xs n e h3⟩
 |.lst (.l true) xs,_,_,n,_,_=>by cases n
 |.lst (.l false) xs,_,_,n,e,⟨z,a,vs,h1,h2,h3⟩=>⟨z,a,vs,h1,by rw[<- e]; exact h2,Rs.low xs n e h3⟩
 |.lst .o xs,_,_,n,e,⟨a,vs,ds,h1,h2,h3⟩=>⟨a,vs,ds,h1,h2,Rs.low xs n e h3⟩
 |.dic .f xs,_,_,n,e,⟨z,a,vs,h1,h2,h3,h4⟩=>⟨z,a,vs,h1,h2,Rk.low xs n e h3,h4⟩
 |.dic (.l true) xs,_,_,n,_,_=>by cases n
 |.dic (.l false) xs,_,_,n,e,⟨z,a,vs,h1,h2,h3,h4⟩=>⟨z,a,vs,h1,by rw[<- e]; exact h2,Rk.low xs n e h3,h4⟩
 |.dic .o xs,_,_,n,e,⟨a,vs,ds,h1,h2,h3,h4⟩=>⟨a,vs,ds,h1,h2,Rk.low xs n e h3,h4⟩
 |.ins .f _ xs,_,_,n,e,⟨z,a,dx,vs,h1,h2,h3⟩=>⟨z,a,dx,vs,h1,h2,Rf.low xs n e h3⟩
 |.ins (.l true) _ xs,_,_,n,_,_=>by cases n
 |.ins (.l false) _ xs,_,_,n,e,⟨z,a,dx,vs,h1,h2,h3⟩=>⟨z,a,dx,vs,h1,by rw[<- e]; exact h2,Rf.low xs n e h3⟩
 |.ins .o _ xs,_,_,n,e,⟨a,dx,vs,ds,h1,h2,h3⟩=>⟨a,dx,vs,ds,h1,h2,Rf.low xs n e h3⟩
theorem Rs.low:∀(t:List Tr){v:List V}{cs:Cs},nlts t=true->B false=B' false->Rs K F B t v cs->Rs K F B' t v cs
 |[],_,_,_,_,h=>h
 |x :: xs,_,_,n,e,⟨v,r,c,d,h1,h2,h3,h4⟩=>by
  rw[nlts,Bool.and_eq_true] at n;exact⟨v,r,c,d,h1,h2,R.low x n.1 e h3,Rs.low xs n.2 e h4⟩
theorem Rk.low:∀(t:List (Key×Tr)){v:List (Key×V)}{cs:Cs},nltk t=true->B false=B' false->Rk K F B t v cs->Rk K F B' t v cs
 |[],_,_,_,_,h=>h
 |(_,x) :: xs,_,_,n,e,⟨v,r,c,d,h1,h2,h3,h4⟩=>by
  rw[nltk,Bool.and_eq_true] at n;exact⟨v,r,c,d,h1,h2,R.low x n.1 e h3,Rk.low xs n.2 e h4⟩
theorem Rf.low:∀(t:List (Str×Tr)){v:List (Str×V)}{cs:Cs},nltf t=true->B false=B' false->Rf K F B t v cs->Rf K F B' t v cs
 |[],_,_,_,_,h=>h
 |(_,x) :: xs,_,_,n,e,⟨v,r,c,d,h1,h2,h3,h4⟩=>by
  rw[nltf,Bool.and_eq_true] at n;exact⟨v,r,c,d,h1,h2,R.low x n.1 e h3,Rf.low xs n.2 e h4⟩
end
mutual
/-- what is lent is lent to the callee -/
theorem R.dn(b:∀ k,Le (B k) G):∀(t:Tr){v:V}{cs:Cs},R K F B t v cs->R K F (λ_=>G) (dn t) v cs
 |.int _,_,_,h=>h
 |.bl _,_,_,h=>h
 |.str _,_,_,h=>h
 |.non,_,_,h=>h
 |.hole,_,_,h=>h
 |.ty _,_,_,h=>h
 |.cl _,_,_,h=>h
 |.exc _,_,_,h=>h
 |.tup xs,_,_,⟨a,vs,h1,h2,h3⟩=>⟨a,vs,h1,h2,Rs.dn b xs h3⟩
 |.lst .f xs,_,_,⟨z,a,vs,h1,h2,h3⟩=>⟨z,a,vs,h1,h2,Rs.dn b xs h3⟩
 |.lst (.l k) xs,_,_,⟨z,a,vs,h1,h2,h3⟩=>⟨z,a,vs,h1,(b k).lst h2,Rs.dn b xs h3⟩
 |.lst .o xs,_,_,⟨a,vs,ds,h1,h2,h3⟩=>⟨a,vs,ds,h1,h2,Rs.dn b xs h3⟩
 |.dic .f xs,_,_,⟨z,a,vs,h1,h2,h3,h4⟩=>⟨z,a,vs,h1,h2,Rk.dn b xs h3,by rw[dnk_keys]; exact h4⟩
 |.dic (.l k) xs,_,_,⟨z,a,vs,h1,h2,h3,h4⟩=>⟨z,a,vs,h1,(b k).dic h2,Rk.dn b xs h3,by rw[dnk_keys]; exact h4⟩
 |.dic .o xs,_,_,⟨a,vs,ds,h1,h2,h3,h4⟩=>⟨a,vs,ds,h1,h2,Rk.dn b xs h3,by rw[dnk_keys]; exact h4⟩
 |.ins .f _ xs,_,_,⟨z,a,dx,vs,h1,h2,h3⟩=>⟨z,a,dx,vs,h1,h2,Rf.dn b xs h3⟩
 |.ins (.l k) _ xs,_,_,⟨z,a,dx,vs,h1,h2,h3⟩=>⟨z,a,dx,vs,h1,b k _ _ (by intro _ _ z; cases z) h2,Rf.dn b xs h3⟩
 |.ins .o _ xs,_,_,⟨a,dx,vs,ds,h1,h2,h3⟩=>⟨a,dx,vs,ds,h1,h2,Rf.dn b xs h3⟩
theorem Rs.dn(b:∀ k,Le (B k) G):∀(t:List Tr){v:List V}{cs:Cs},Rs K F B t v cs->Rs K F (λ_=>G) (dns t) v cs
 |[],_,_,h=>h
 |x :: xs,_,_,⟨v,r,c,d,h1,h2,h3,h4⟩=>⟨v,r,c,d,h1,h2,R.dn b x h3,Rs.dn b xs h4⟩
theorem Rk.dn(b:∀ k,Le (B k) G):∀(t:List (Key×Tr)){v:List (Key×V)}{cs:Cs},Rk K F B t v cs->Rk K F (λ_=>G) (dnk t) v cs
 |[],_,_,h=>h
 |(_,x) :: xs,_,_,⟨v,r,c,d,h1,h2,h3,h4⟩=>⟨v,r,c,d,h1,h2,R.dn b x h3,Rk.dn b xs h4⟩
theorem Rf.dn(b:∀ k,Le (B k) G):∀(t:List (Str×Tr)){v:List (Str×V)}{cs:Cs},Rf K F B t v cs->Rf K F (λ_=>G) (dnf t) v cs
 |[],_,_,h=>h
 |(_,x) :: xs,_,_,⟨v,r,c,d,h1,h2,h3,h4⟩=>⟨v,r,c,d,h1,h2,R.dn b x h3,Rf.dn b xs h4⟩
theorem dnk_keys:∀(xs:List (Key×Tr)),(dnk xs).map (·.1)=xs.map (·.1)
 |[]=>rfl
 |(_,_) :: xs=>by show _ :: _ = _ :: _; rw[dnk_keys xs]
end
theorem b'o:∀(xs:List Tr),(dns xs).length=xs.length
 |[]=>rfl
 |_ :: xs=>by show (dns xs).length + 1 = _; rw[b'o xs]; rfl
end
structure Wld(K:W.Frag)(k:Md)(lo:Nat)(us:List V)(Fb Hb F H:Hp)(σ:St)(ρ:List Tr)(cs:Nat->Cs):Prop where
 g:Gr Fb Hb F H
 z:k.z=true->Fz S0 F
 l:σ.length=ρ.length
 e:∀(i:Nat)(t:Tr),ρ[i]?=some t->t=.hole\/∃ v,σ[i]?=some (some v)/\R K F (λ_=>Hb) t v (cs i)
 c:∀ i,Cells F H (cs i)
 n:∀ i,New Hb (cs i)
 d:∀ i j,i≠j->∀ p∈cs i,∀ q∈cs j,p.1≠q.1
 p:∀ i,i<lo->σ[i]?=(us[i]?).map some
 x:∀ cls σ' F' H',k.q cls->Gr Fb Hb F' H'->k.E σ' cls none H'
section
def Bq(Hb H:Hp):Bool->Hp:=λb=>if b then H else Hb
theorem Wld.cxt(W:Wld K k lo us Fb Hb F H σ ρ cs):Cxt K k F (Bq Hb H) H σ (ρ.map lend) where
 s:=W.g.s
 b:=λb=>by
  cases b with
  |true=>exact Same.refl H
  |false=>exact W.g.h
 z:=W.z
 e:=λi t h=>by
  rw[List.getElem?_map] at h;cases q:ρ[i]? with
  |none=>rw[q] at h;cases h
  |some u=>
   rw[q] at h;cases h;rcases W.e i u q with rfl |⟨v,h1,h2⟩
   ·exact .inl rfl
   ·refine .inr ⟨v,h1,h2.lend (λb=>?_) u λp m=>(W.c i).h p m⟩;cases b with
    |true=>exact Le.of W.g.h
    |false=>exact Le.refl _
 x:=λcls F' H' q g=>W.x cls σ F' H' q (W.g.trans' g)
theorem Wld.gr(W:Wld K k lo us Fb Hb F H σ ρ cs)(g:Gr F H F' H'):Wld K k lo us Fb Hb F' H' σ ρ cs:=
 ⟨W.g.trans' g,λh=>g.fz (W.z h),W.l,λi t h=>(W.e i t h).imp id λ⟨v,h1,h2⟩=>⟨v,h1,h2.mo g.le (λ_=>Le.refl _) t⟩,λi=>(W.c i).gr g,W.n,W.d,W.p,W.x⟩
theorem Wld.set{i:Nat}{t:Tr}{v:V}{c:Cs}(W:Wld K k lo us Fb Hb F H σ ρ cs)(hi:lo<=i)(r:R K F (λ_=>Hb) t v c)(hc:Cells F H c)(n:New Hb c)(d:∀ j,j≠i->∀ p∈cs j,∀ q∈c,p.1≠q.1):
  Wld K k lo us Fb Hb F H (σ.set i (some v)) (ρ.set i t) (λj=>if j=i then c else cs j) where
 g:=W.g
 z:=W.z
 l:=by rw[List.length_set,List.length_set];exact W.l
 e:=λj u h=>by
  by_cases e:j=i
  ·subst e;have hl:j<ρ.length:=by have:=(List.getElem?_eq_some_iff.mp h).1;rw[List.length_set] at this;exact this
   rw[List.getElem?_set_self hl] at h;cases h;exact .inr ⟨v,List.getElem?_set_self (by rw[W.l];exact hl),by rw[if_pos rfl];exact r⟩
  ·rw[List.getElem?_set_ne (λz=>e z.symm)] at h;rw[if_neg e];exact (W.e j u h).imp id λ⟨v,h1,h2⟩=>⟨v,by rw[List.getElem?_set_ne (λz=>e z.symm)];exact h1,h2⟩
 c:=λj=>by
  split
  ·exact hc
  ·exact W.c j
 n:=λj=>by
  split
  ·exact n
  ·exact W.n j
 d:=λa b ne p mp q mq=>by
  by_cases ea:a=i
  ·rw[if_pos ea] at mp;rw[if_neg (λz=>ne (ea.trans z.symm))] at mq;exact (d b (λz=>ne (ea.trans z.symm)) q mq p mp).symm
  ·rw[if_neg ea] at mp;by_cases eb:b=i
   ·rw[if_pos eb] at mq;exact d a ea p mp q mq
   ·rw[if_neg eb] at mq;exact W.d a b ne p mp q mq
 p:=λj h=>by rw[List.getElem?_set_ne (by omega)];exact W.p j h
 x:=W.x
theorem Wld.out{i:Nat}{t:Tr}{v:V}{c:Cs}(W:Wld K k lo us Fb Hb F H σ ρ cs)(o:Out K F (Bq Hb H) H F' H' t v c)(hi:lo<=i)(n:nlt t=true):
  Wld K k lo us Fb Hb F' H' (σ.set i (some v)) (ρ.set i t) (λj=>if j=i then c else cs j):=
 (W.gr o.g).set hi (o.r.low t n rfl) o.c (λp m=>W.g.h.free (o.n p m)) λj _ p mp q mq e=>by
  have:=(W.c j).h p mp;rw[e,o.n q mq] at this;cases this
end
structure Pd where
 nx:List Tr->Prop
 rt:Tr->List Tr->Prop
 bk:List Tr->Prop:=λ_=>False
 ct:List Tr->Prop:=λ_=>False
abbrev PS':=Pd->List Tr->Prop
structure Lk(K:W.Frag)(k:Md)(lo:Nat)(us:List V)(Fb Hb:Hp)(D:aky)(D':Pd):Prop where
 nx:∀ F H σ ρ cs,Wld K k lo us Fb Hb F H σ ρ cs->D'.nx ρ->D.nx σ H
 rt:∀ F H σ ρ cs v t c,Wld K k lo us Fb Hb F H σ ρ cs->R K F (λ_=>Hb) t v c->Cells F H c->New Hb c->(∀ i,∀ p∈cs i,∀ q∈c,p.1≠q.1)->nol t=true->D'.rt t ρ->D.rt v H
 bk:∀ F H σ ρ cs,Wld K k lo us Fb Hb F H σ ρ cs->D'.bk ρ->D.bk σ H
 ct:∀ F H σ ρ cs,Wld K k lo us Fb Hb F H σ ρ cs->D'.ct ρ->D.ct σ H
def ai5(K:W.Frag)(k:Md)(lo:Nat)(ts:TS)(ps:PS'):Prop:=∀(us:List V)(Fb Hb F H:Hp)(σ:St)(ρ:List Tr)(cs:Nat->Cs)(D:aky)(D':Pd),Wld K k lo us Fb Hb F H σ ρ cs->ps D' ρ->Lk K k lo us Fb Hb D D'->ts D σ H
section
def ann(p q:PS'):PS':=λD ρ=>p { D with nx:=q D } ρ
def alB:PS':=λD ρ=>D.nx ρ
theorem t't(h:ai5 K k lo t p)(h':ai5 K k lo u q):ai5 K k lo (anL t u) (ann p q):=λus Fb Hb F H σ ρ cs D D' W p L=>
 h us Fb Hb F H σ ρ cs _ _ W p ⟨λF H σ ρ cs W q=>h' us Fb Hb F H σ ρ cs D D' W q L,L.rt,L.bk,L.ct⟩
theorem q'k:ai5 K k lo amg alB:=λus Fb Hb F H σ ρ cs D D' W p L=>L.nx F H σ ρ cs W p
def ano(i:Nat)(pe:PE'):PS':=λD ρ=>pe (ρ.map lend) λt=>nlt t=true/\D.nx (ρ.set i t)
theorem t'u(hi:lo<=i)(h:Sim K k te pe):ai5 K k lo (alr te (ajU i)) (ano i pe):=λus Fb Hb F H σ ρ cs D D' W p L=>by
 refine h F (Bq Hb H) H σ _ _ _ W.cxt p λt v F1 H1 c q o=>?_
 exact L.nx F1 H1 _ _ _ (W.out o hi q.1) q.2
def anp(pe:PE'):PS':=λD ρ=>pe (ρ.map lend) λt=>nol t=true/\D.rt t ρ
theorem t'v(h:Sim K k te pe):ai5 K k lo (am5 te) (anp pe):=λus Fb Hb F H σ ρ cs D D' W p L=>by
 refine h F (Bq Hb H) H σ _ _ _ W.cxt p λt v F1 H1 c q o=>?_
 refine L.rt F1 H1 σ ρ cs v t c (W.gr o.g) (o.r.base t q.1) o.c (λp m=>W.g.h.free (o.n p m)) (λi p mp q mq e=>?_) q.1 q.2;have:=(W.c i).h p mp;rw[e,o.n q mq] at this;cases this
def anq(pc:PB')(p q:PS'):PS':=λD ρ=>pc (ρ.map lend) λb=>if b=true then p D ρ else q D ρ
theorem v'n(hc:ajT K k tc pc)(h:ai5 K k lo t p)(h':ai5 K k lo u q):ai5 K k lo (am6 tc t u) (anq pc p q):=λus Fb Hb F H σ ρ cs D D' W p L=>by
 refine hc F (Bq Hb H) H σ _ _ _ W.cxt p λb F1 H1 q g=>?_
 cases b with
 |true=>exact h us Fb Hb F1 H1 σ ρ cs D D' (W.gr g) q L
 |false=>exact h' us Fb Hb F1 H1 σ ρ cs D D' (W.gr g) q L
def aog(pc:PB')(pb:PS'):PS':=λD ρ=>∃ I:Nat->List Tr->Prop,(∃ m,I m ρ)/\∀ m ρ,I m ρ->pc (ρ.map lend) λb=>if b=true then pb { D with nx:=λρ'=>∃ m',m'<m/\I m' ρ',ct:=λρ'=>∃ m',m'<m/\I m' ρ',bk:=D.nx } ρ else D.nx ρ
theorem t'w(hc:ajT K k tc pc)(hb:ai5 K k lo tb pb):ai5 K k lo (ald tc tb) (aog pc pb):=λus Fb Hb F H σ ρ cs D D' W p L=>by
 obtain⟨I,⟨m0,i0⟩,step⟩:=p;refine⟨λm σ H=>∃ F ρ cs,Wld K k lo us Fb Hb F H σ ρ cs/\I m ρ,⟨m0,F,ρ,cs,W,i0⟩,?_⟩;rintro m σ H ⟨F,ρ,cs,W,i⟩;refine hc F (Bq Hb H) H σ _ _ _ W.cxt (step m ρ i) λb F1 H1 q g=>?_
 cases b with
 |false=>exact L.nx F1 H1 σ ρ cs (W.gr g) q
 |true=>
  refine⟨λσ' H'=>∃ m',m'<m/\∃ F ρ cs,Wld K k lo us Fb Hb F H' σ' ρ cs/\I m' ρ,λσ' H' h=>h,?_⟩;refine hb us Fb Hb F1 H1 σ ρ cs _ _ (W.gr g) q ⟨?_,L.rt,?_,?_⟩
  ·exact λF H σ ρ cs W ⟨m',l,i⟩=>⟨m',l,F,ρ,cs,W,i⟩
  ·exact L.nx
  ·exact λF H σ ρ cs W ⟨m',l,i⟩=>⟨m',l,F,ρ,cs,W,i⟩
end
abbrev PSp:=List Tr->(Tr->List Tr->Prop)->Prop
abbrev ajm:=List Tr->(Tr->List Tr->Prop)->(Value->Prop)->Prop
def spX(K:W.Frag)(z:Bool)(lo n:Nat)(ps:ajm):Sp:=λvs H Q E=>vs.length=n/\∃(F Hb:Hp)(ts:List Tr)(cs:Nat->Cs)(Q':Tr->List Tr->Prop)(q:Value->Prop),Wld K ⟨z,λ_=>E,q⟩ lo vs F Hb F H (vs.map some) ts cs/\ps ts Q' q/\
 ∀ F' H' σ' ρ' cs' v t c,Wld K ⟨z,λ_=>E,q⟩ lo vs F Hb F' H' σ' ρ' cs'->R K F' (λ_=>Hb) t v c->Cells F' H' c->New Hb c->(∀ i,∀ p∈cs' i,∀ q∈c,p.1≠q.1)->nol t=true->Q' t ρ'->Q v H'
def spP(K:W.Frag)(z:Bool)(lo n:Nat)(ps:PSp):Sp:=spX K z lo n λxs Q _=>ps xs Q
theorem Wld.md(W:Wld K k lo us Fb Hb F H σ ρ cs)(hz:k'.z=true->k.z=true)(x:∀ cls σ' F' H',k'.q cls->Gr Fb Hb F' H'->k'.E σ' cls none H'):Wld K k' lo us Fb Hb F H σ ρ cs:=⟨W.g,λh=>W.z (hz h),W.l,W.e,W.c,W.n,W.d,W.p,x⟩
section
theorem Wld.start(N:List Str)(hlo:lo<=vs.length)(W:Wld K k lo us Fb Hb F H (vs.map some) ρ cs):Wld K k lo us Fb Hb F H (start N vs) (ρ++List.replicate (N.length - ρ.length) .hole) cs where
 g:=W.g
 z:=W.z
 l:=by
  have:=W.l;rw[List.length_map] at this;show (vs.map some++List.replicate (N.length - vs.length) none).length=_;rw[List.length_append,List.length_append,List.length_replicate,List.length_replicate,List.length_map,this]
 e:=λi t h=>by
  have hl:=W.l;rcases Nat.lt_or_ge i ρ.length with z |z
  ·rw[List.getElem?_append_left z] at h;exact (W.e i t h).imp id λ⟨v,h1,h2⟩=>⟨v,by show (vs.map some++List.replicate (N.length - vs.length) none)[i]?=_;rw[List.getElem?_append_left (by rw[hl];exact z)];exact h1,h2⟩
  ·rw[List.getElem?_append_right z] at h;have m:=List.mem_of_getElem? h;exact .inl (List.mem_replicate.mp m).2
 c:=W.c
 n:=W.n
 d:=W.d
 p:=λi h=>by
  have e:=W.p i h;show (vs.map some++List.replicate (N.length - vs.length) none)[i]?=_;rw[List.getElem?_append_left (by rw[List.length_map];omega)];exact e
 x:=W.x
end
theorem Rs.split:∀{ts:List Tr}{vs:List V}{c:Cs},Rs K F B ts vs c->Cells F H c->∃ cs:Nat->Cs,(∀(i:Nat)(t:Tr),ts[i]?=some t->∃ v,vs[i]?=some v/\R K F B t v (cs i))/\(∀ i,∀ p∈cs i,p∈c)/\(∀ i,Cells F H (cs i))/\∀ i j,i≠j->∀ p∈cs i,∀ q∈cs j,p.1≠q.1
 |[],_,_,_,_=>⟨λ_=>[],λi t h=>(by cases h),λ_ _ m=>(nomatch m),λ_=>.nil,λ_ _ _ _ m=>nomatch m⟩
 |x :: xs,_,_,⟨v,r,c,d,h1,h2,h3,h4⟩,hc=>by
  rw[h2] at hc;obtain⟨cs,a1,a2,a3,a4⟩:=Rs.split h4 hc.right;have dj:∀ p∈c,∀ q∈d,p.1≠q.1:=λp mp q mq=>by
   have:=hc.nd;rw[List.map_append,List.nodup_append] at this;exact this.2.2 _ (List.mem_map.mpr ⟨p,mp,rfl⟩) _ (List.mem_map.mpr ⟨q,mq,rfl⟩)
  refine⟨λi=>match i with |0=>c |j+1=>cs j,λi t h=>?_,λi p m=>?_,λi=>?_,λi j ne p mp q mq=>?_⟩
  ·cases i with
   |zero=>cases h;exact⟨v,by rw[h1];rfl,h3⟩
   |succ j=>obtain⟨u,b1,b2⟩:=a1 j t h;exact⟨u,by rw[h1];exact b1,b2⟩
  ·rw[h2];cases i with
   |zero=>exact List.mem_append.mpr (.inl m)
   |succ j=>exact List.mem_append.mpr (.inr (a2 j p m))
  ·cases i with
   |zero=>exact hc.left
   |succ j=>exact a3 j
  ·cases i with
   |zero=>
    cases j with
    |zero=>exact absurd rfl ne
    |succ j=>exact dj p mp q (a2 j q mq)
   |succ i=>
    cases j with
    |zero=>exact (dj q mq p (a2 i p mp)).symm
    |succ j=>exact a4 i j (λz=>ne (by rw[z])) p mp q mq
section
theorem t'x{psp:PSp}(F:Fun K x qual st f fd)(S:ahN N ps (ahM st))(hn:ps.length=n)(hlo:lo<=n)(body:∀(cdv:Value)(A:Around)(outer:List Env)(s:Shared)(H:Hp)(E:XK),Room m (A.deeper (PyProof.Rows.envOfC qual (ahM st) s.heap.objs.size f cdv))->
   ∃ ts pb,PSs (akB CX0 P w K mg base N qual (ahM st) f cdv A outer s H E).nox (ain st) ts/\ai5 K (Md.base z) lo ts pb/\∀ xs Q',xs.length=n->psp xs Q'->pb { nx:=λρ=>Q' .non ρ,rt:=Q' } (xs++List.replicate (N.length - n) .hole)):
  FnOk P w K mg base CX0 (m+1) f fd ps (spP K z lo n psp):=by
 refine F.ok S (λvs H Q E h=>h.1.trans hn.symm) (λcdv A outer s H vs Q E hr h=>?_);obtain⟨hl,F0,Hb,ts,cs,Q',q,W,p,post⟩:=h;obtain⟨tS,pb,hP,hS,hp⟩:=body cdv A outer s H E hr;have hlt:ts.length=n:=by have:=W.l;rw[List.length_map] at this;omega
 refine⟨tS,hP,hS vs F0 Hb F0 H _ _ cs _ { nx:=λρ=>Q' .non ρ,rt:=Q' } ((W.start N (by omega)).md id λ_ _ _ _ h=>h.elim) (by rw[hlt];exact hp ts Q' hlt p) ⟨?_,?_,λ_ _ _ _ _ _ (h:False)=>h.elim,λ_ _ _ _ _ _ (h:False)=>h.elim⟩⟩
 ·exact λF H σ ρ cs W' q=>post F H σ ρ cs .non .non [] (W'.md id W.x) ⟨rfl,rfl⟩ .nil .nil (λ_ _ _ _ m=>nomatch m) rfl q
 ·exact λF H σ ρ cs v t c W' r hc n d nl q=>post F H σ ρ cs v t c (W'.md id W.x) r hc n d nl q
theorem q'l{psp:ajm}(F:Fun K x qual st f fd)(S:ahN N ps (ahM st))(hn:ps.length=n)(hlo:lo<=n)(body:∀(cdv:Value)(A:Around)(outer:List Env)(s:Shared)(H:Hp)(E:XK)(q:Value->Prop),Room m (A.deeper (PyProof.Rows.envOfC qual (ahM st) s.heap.objs.size f cdv))->
   ∃ ts pb,PSs (akB (CX1 P w) P w K mg base N qual (ahM st) f cdv A outer s H E) (ain st) ts/\ai5 K ⟨z,λ_=>E,q⟩ lo ts pb/\∀ xs Q',xs.length=n->psp xs Q' q->pb { nx:=λρ=>Q' .non ρ,rt:=Q' } (xs++List.replicate (N.length - n) .hole)):
  FnOk P w K mg base (CX1 P w) (m+1) f fd ps (spX K z lo n psp):=by
 refine F.ok1 S (λvs H Q E h=>h.1.trans hn.symm) (λcdv A outer s H vs Q E hr h=>?_);obtain⟨hl,F0,Hb,ts,cs,Q',q,W,p,post⟩:=h;obtain⟨tS,pb,hP,hS,hp⟩:=body cdv A outer s H E q hr;have hlt:ts.length=n:=by have:=W.l;rw[List.length_map] at this;omega
 refine⟨tS,hP,hS vs F0 Hb F0 H _ _ cs _ { nx:=λρ=>Q' .non ρ,rt:=Q' } (W.start N (by omega)) (by rw[hlt];exact hp ts Q' hlt p) ⟨?_,?_,λ_ _ _ _ _ _ (h:False)=>h.elim,λ_ _ _ _ _ _ (h:False)=>h.elim⟩⟩
 ·exact λF H σ ρ cs W' q=>post F H σ ρ cs .non .non [] W' ⟨rfl,rfl⟩ .nil .nil (λ_ _ _ _ m=>nomatch m) rfl q
 ·exact λF H σ ρ cs v t c W' r hc n d nl q=>post F H σ ρ cs v t c W' r hc n d nl q
end
section
theorem e'k{c:Cs}{p:Addr×HO}(m:p∈c):hdn (c.map (·.1)) H p.1=none:=v'h (List.mem_map.mpr ⟨p,m,rfl⟩)
theorem e'K(n:New H c)(h:H a=some o):a ∉ c.map (·.1):=λm=>by
 obtain⟨p,mp,rfl⟩:=List.mem_map.mp m;rw[n p mp] at h;cases h
theorem _root_.Vc.Gr.hdn(g:Gr F H F1 H1)(n:New H c)(g':Gr F1 (hdn (c.map (·.1)) H1) F' H'):Gr F H F' H':=
 Gr.of ⟨λa u e=>g'.h a u (e'i (e'K n e) (g.h a u e)),g.f.trans g'.f,g'.s,λa u e z=>by
  cases q:F1 a with
  |some y=>exact g.n a y q z
  |none=>
   have h:=g'.n a u e q;by_cases m:a∈c.map (·.1)
   ·obtain⟨p,mp,rfl⟩:=List.mem_map.mp m;exact n p mp
   ·unfold Vc.hdn at h;rw[if_neg m] at h;exact g.h.free h⟩ (g'.fz g.z)
def aj0(q:Value->Prop)(psp:ajm)(pa:PA'):PE':=λρ Q=>pa ρ λts=>psp (dns ts) (λt _=>Q t) q
def alC(psp:PSp)(pa:PA'):PE':=λρ Q=>pa ρ λts=>psp (dns ts) λt _=>Q t
theorem h'x{n:Nat}{z:Bool}{psp:ajm}{ta:TA}{pa:PA'}{R':St->XK}{q':Value->Prop}(hE:∀(F:Hp)(B:Bool->Hp)(H:Hp)(σ:St)(ρ:List Tr),Cxt K k F B H σ ρ->∀ cls F' H',q' cls->Gr F H F' H'->R' σ cls none H')(hk:z=true->k.z=true)(hn:∀ xs Q q,psp xs Q q->xs.length=n)(h:ajZ K k ta pa):Sim K k (alh (spX K z 0 n psp) [] R' ta) (aj0 q' psp pa):=λF B H σ ρ Q Q' c p q=>by
 refine h F B H σ ρ _ _ c p λts vs F1 H1 c1 p1 o1=>?_
 rw[List.append_nil];obtain⟨cs,a1,a2,a3,a4⟩:=o1.r.split o1.c;have hl:vs.length=n:=by rw[o1.r.length,<- hn _ _ _ p1,b'o]
 have hb:∀ k,Same (B k) (hdn (c1.map (·.1)) H1):=λk a o e=>e'i (e'K o1.n (c.b k a o e)) (o1.g.h _ _ (c.b k a o e))
 refine⟨hl,F1,hdn (c1.map (·.1)) H1,dns ts,cs,_,q',⟨⟨i'B o1.g.s,Fz.refl F1⟩,λh=>o1.g.fz (c.z (hk h)),by rw[List.length_map,b'o,o1.r.length],?_,a3,λi p m=>e'k (a2 i p m),a4,λi h=>absurd h (Nat.not_lt_zero i),λcls _ F' H' h g=>hE F B H σ ρ c cls F' H' h (o1.g.hdn o1.n g)⟩,p1,?_⟩
 ·intro i t h;have hi:i<ts.length:=by have:=(List.getElem?_eq_some_iff.mp h).1;rw[b'o] at this;exact this
  have e:∀(ts:List Tr)(i:Nat),(dns ts)[i]?=ts[i]?.map dn:=by
   intro ts
   induction ts with
   |nil=>intro i;rfl
   |cons x xs ih=>intro i;cases i with
    |zero=>rfl
    |succ j=>exact ih j
  rw[e] at h;cases z:ts[i]? with
  |none=>rw[z] at h;cases h
  |some u=>
   rw[z] at h;cases h;obtain⟨v,b1,b2⟩:=a1 i u z;exact .inr ⟨v,by rw[List.getElem?_map,b1];rfl,b2.dn (λk=>Le.of (hb k)) u⟩
 ·intro F' H' σ' ρ' cs' v t c' W r hc nw dj nl qt;refine q t v F' H' c' qt ⟨o1.g.hdn o1.n W.g,r.base t nl,hc,λp m=>?_⟩;have z:=nw p m;by_cases mc:p.1∈c1.map (·.1)
  ·obtain⟨q,mq,e⟩:=List.mem_map.mp mc;have e:q.1=p.1:=e;rw[<- e];exact o1.n q mq
  ·unfold hdn at z;rw[if_neg mc] at z;exact o1.g.h.free z
theorem q'm{psp:PSp}(hk:z=true->k.z=true)(hn:∀ xs Q,psp xs Q->xs.length=n)(h:ajZ K k ta pa):Sim K k (amm (spP K z 0 n psp) [] E ta) (alC psp pa):=
 h'x (R':=λ_=>E) (q':=λ_=>False) (psp:=λxs Q _=>psp xs Q) (λ_ _ _ _ _ _ _ _ _ h=>h.elim) hk (λxs Q _=>hn xs Q) h
def OpA(K:W.Frag)(k:Md)(r:List V->Hp->VK->Prop)(pr:List Tr->(Tr->Prop)->Prop):Prop:=∀(F:Hp)(B:Bool->Hp)(H:Hp)(xs:List V)(ts:List Tr)(cx:Cs)(Q:VK)(Q':Tr->Prop),Same F H->(∀ k,Same (B k) H)->(k.z=true->Fz S0 F)->Rs K F B ts xs cx->Cells F H cx->pr ts Q'->
 (∀ t v F' H' cs,Q' t->Gr F H F' H'->R K F' B t v cs->Cells F' H' cs->(∀ p∈cs,H p.1=none\/p∈cx)->Q v H')->r xs H Q
def pB(pr:List Tr->(Tr->Prop)->Prop)(pa:PA'):PE':=λρ Q=>pa ρ λts=>pr ts Q
theorem n'E(o:OpA K k r pr)(h:ajZ K k ta pa):Sim K k (tCB r ta) (pB pr pa):=λF B H σ ρ Q Q' c p q=>by
 refine h F B H σ ρ _ _ c p λts vs F1 H1 c1 p1 o1=>?_
 refine o F1 B H1 vs ts c1 Q Q' o1.g.s (λk=>(c.b k).trans o1.g.h) (λh=>o1.g.fz (c.z h)) o1.r o1.c p1 λt v F2 H2 cs qt g r' c' n=>?_
 refine q t v F2 H2 cs qt ⟨o1.g.trans' g,r',c',λp m=>?_⟩;rcases n p m with z |z
 ·exact o1.g.h.free z
 ·exact o1.n p z
theorem Rs.one(r:Rs K F B [t] xs cs):∃ v,xs=[v]/\R K F B t v cs:=by
 obtain⟨v,r,c,d,h1,h2,h3,rfl,rfl⟩:=r;rw[List.append_nil] at h2;exact⟨v,h1,by rw[h2];exact h3⟩
def anr(ts:List Tr)(Q:Tr->Prop):Prop:=match ts with
 |[.int i]=>Q (.int (if i < 0 then -i else i))
 |_=>False
theorem e'L:OpA K k (λxs H Q=>∃ i,xs=[.int i]/\Q (.int (if i<0 then -i else i)) H) anr:=λF B H xs ts cx Q Q' s b z r hc p q=>by
 unfold anr at p;split at p
 ·obtain⟨v,rfl,rfl,_⟩:=r.one;exact⟨_,rfl,q _ _ F H [] p (Gr.refl' s) ⟨rfl,rfl⟩ .nil λ_ m=>nomatch m⟩
 ·exact p.elim
end
structure QE(X:Cx)(k:Md)(e:Expr)(pe:PE'):Prop where
 h:∃ te,PE X e te/\Sim X.K k te pe
structure QT(X:Cx)(k:Md)(e:Expr)(pe:PB'):Prop where
 h:∃ te,PT X e te/\ajT X.K k te pe
structure QW(X:Cx)(k:Md)(e:Expr)(pe:PB'):Prop where
 h:∃ te,PW X e te/\ajT X.K k te pe
structure QA(X:Cx)(k:Md)(es:List Expr)(pa:PA'):Prop where
 h:∃ ta,PA X es ta/\ajZ X.K k ta pa
structure QS(X:Cx)(k:Md)(lo:Nat)(st:Stmt)(ps:PS'):Prop where
 h:∃ ts,PS X st ts/\ai5 X.K k lo ts ps
structure QB(X:Cx)(k:Md)(lo:Nat)(sts:List Stmt)(ps:PS'):Prop where
 h:∃ ts,PSs X sts ts/\ai5 X.K k lo ts ps
section
theorem qv(i:Nat)(hN:X.N[i]?=some x:=by rfl)(hv:Vis X.env.scope x:=by first |exact Or.inl rfl |exact Or.inr (Or.inl rfl) |exact Or.inr (Or.inr rfl))(hd:(x == ("__debug__":Str))=false:=by decide)(hcd:(x == ("__classdict__":Str))=false:=by decide):QE X k (.Name x pos) (al7 i):=⟨_,e'a hN hv hd hcd,t'a i⟩
theorem a'c{i j}:QE X k (.Constant (.int i) j pos) (pC (.int i)):=⟨_,u'p,t'b⟩
theorem a'f{i j}:QE X k (.Constant (.str i) j pos) (pC (.str i)):=⟨_,u'r,t'c⟩
theorem b'T{i j}:QE X k (.Constant (.bool i) j pos) (pC (.bl i)):=⟨_,w'L,v'j⟩
theorem c'X{j}:QE X k (.Constant .none j pos) (pC .non):=⟨_,u'q,t'd⟩
theorem g'c(v:V)(hg:Gl X x)(hm:X.mg x=some u)(r:RelV v u)(ht:∀ F B,R X.K F B t v [])(hd:(x == ("__debug__":Str))=false:=by decide):QE X k (.Name x pos) (pC t):=⟨_,s'q hg hm r hd,e'J ht⟩
theorem e'M(ho:OpR X (binaryOp op) r)(hs:Op2 X.K k r pr)(ha:QE X k a pa)(hb:QE X k b pb):QE X k (.BinOp a op b pos) (p2 pr pa pb):=by
 obtain⟨ta,h1,h2⟩:=ha.h;obtain⟨tb,g1,g2⟩:=hb.h;exact⟨_,w'O ho h1 g1,g'a hs h2 g2⟩
theorem a'z(ha:QE X k a pa)(hb:QE X k b pb):QE X k (.BinOp a .Add b pos) (p2 al8 pa pb):=e'M w'V t'h ha hb
theorem i'b(ha:QE X k a pa)(hb:QE X k b pb):QE X k (.BinOp a .Sub b pos) (p2 (ajl (λ_ _=>True) λi j=>.int (i - j)) pa pb):=e'M u'D t'k ha hb
theorem e'N(ha:QE X k a pa)(hb:QE X k b pb):QE X k (.BinOp a .Mult b pos) (p2 am0 pa pb):=e'M w'W t'i ha hb
theorem a'R(ha:QE X k a pa)(hb:QE X k b pb):QE X k (.BinOp a .FloorDiv b pos) (p2 (ajl CDivB λi j=>.int (i.fdiv j)) pa pb):=e'M p'M q'i ha hb
theorem a'B(ha:QE X k a pa)(hb:QE X k b pb):QE X k (.BinOp a .Mod b pos) (p2 (ajl (λ_ j=>0<j) λi j=>.int (i % j)) pa pb):=e'M u'E t'l ha hb
theorem d'G(ha:QE X k a pa):QE X k (.UnaryOp .USub a pos) (p1 am1 pa):=by
 obtain⟨ta,h1,h2⟩:=ha.h;exact⟨_,w'P u'G h1,v'k t'm h2⟩
theorem a'n(hu:X.A.units+1<cLine)(ha:QE X k a pa)(hb:QE X k b pb)(hs:akD b):QE X k (.Subscript a b pos) (p2 akw pa pb):=by
 obtain⟨ta,h1,h2⟩:=ha.h;obtain⟨tb,g1,g2⟩:=hb.h;exact⟨_,w'R (x'q hu) h1 g1 hs,g'a t'j h2 g2⟩
theorem b'f(ho:OpR X (compareOp op) r)(hs:Op2 X.K k r pr)(ha:QE X k a pa)(hb:QE X k b pb)(hm:behindInMarks op b=false):QE X k (.Compare a [op] [b] pos) (p2 pr pa pb):=by
 obtain⟨ta,h1,h2⟩:=ha.h;obtain⟨tb,g1,g2⟩:=hb.h;exact⟨_,s'w ho h1 g1 hm,g'a hs h2 g2⟩
theorem a'i(ho:OpR X (compareOp op) r)(hs:Op2 X.K k r pr)(ha:QE X k a pa)(hb:QE X k b pb)(hm:behindInMarks op b=false):QT X k (.Compare a [op] [b] pos) (pT (p2 pr pa pb)):=by
 obtain⟨ta,h1,h2⟩:=ha.h;obtain⟨tb,g1,g2⟩:=hb.h;exact⟨_,k'j ho h1 g1 hm,h'w (g'a hs h2 g2)⟩
theorem b'c(h:QE X k e pe)(he:∀ whole,isTrue e X.env whole=(do let v <- whole;standAt e.pos;holding [v] (truthy v)):=by intro _;rfl):QT X k e (pT pe):=by
 obtain⟨te,h1,h2⟩:=h.h;exact⟨_,u's h1 he,n'D h2⟩
theorem b'r(h:QT X k e pe):QT X k (.UnaryOp .Not e pos) (anl pe):=by
 obtain⟨te,h1,h2⟩:=h.h;exact⟨_,u'v h1,t'q h2⟩
theorem QW.t(h:QW X k e pe):QT X k e pe:=by
 obtain⟨te,h1,h2⟩:=h.h;exact⟨_,h1.pt,h2⟩
theorem b'K(h:QT X k e pe):QW X k (.BoolOp .And [e] pos) pe:=by
 obtain⟨te,h1,h2⟩:=h.h;exact⟨_,s's h1,h2⟩
theorem b'u(h:QT X k e pe):QW X k (.BoolOp .Or [e] pos) pe:=by
 obtain⟨te,h1,h2⟩:=h.h;exact⟨_,u't h1,h2⟩
theorem c'h(h:QT X k e pe)(h':QW X k (.BoolOp .And (f :: r) pos) pf):QW X k (.BoolOp .And (e :: f :: r) pos) (ank pe pf):=by
 obtain⟨te,h1,h2⟩:=h.h;obtain⟨tf,g1,g2⟩:=h'.h;exact⟨_,u'u h1 g1,t'p h2 g2⟩
theorem b's(h:QT X k e pe)(h':QW X k (.BoolOp .Or (f :: r) pos) pf):QW X k (.BoolOp .Or (e :: f :: r) pos) (pOr pe pf):=by
 obtain⟨te,h1,h2⟩:=h.h;obtain⟨tf,g1,g2⟩:=h'.h;exact⟨_,w'M h1 g1,v'm h2 g2⟩
theorem d'H{op}(h:QE X k e pe):QE X k (.BoolOp op [e] pos) pe:=by
 obtain⟨te,h1,h2⟩:=h.h;exact⟨_,u'w h1,h2⟩
theorem c'e(h:QE X k e pe)(h':QE X k (.BoolOp .And (f :: r) pos) pf):QE X k (.BoolOp .And (e :: f :: r) pos) (alA pe pf):=by
 obtain⟨te,h1,h2⟩:=h.h;obtain⟨tf,g1,g2⟩:=h'.h;exact⟨_,u'x h1 g1,q'j h2 g2⟩
theorem x'r(h:QE X k e pe)(h':QE X k (.BoolOp .Or (f :: r) pos) pf):QE X k (.BoolOp .Or (e :: f :: r) pos) (anm pe pf):=by
 obtain⟨te,h1,h2⟩:=h.h;obtain⟨tf,g1,g2⟩:=h'.h;exact⟨_,w'N h1 g1,t'r h2 g2⟩
theorem m'm{pt:PB'}(hc:QT X k c pt)(ha:QE X k a pa)(hb:QE X k b pb):QE X k (.IfExp c a b pos) (pIf pt pa pb):=by
 obtain⟨tc,h1,h2⟩:=hc.h;obtain⟨ta,g1,g2⟩:=ha.h;obtain⟨tb,f1,f2⟩:=hb.h;exact⟨_,p'B h1 g1 f1,t's h2 g2 f2⟩
theorem a'd:QA X k [] amZ:=⟨_,b'R,k't⟩
theorem a'a(h:QE X k a pa)(h':QA X k es ps)(hs:starEach (a :: es) X.env=(false,eval a X.env) :: starEach es X.env:=by rfl):QA X k (a :: es) (aly pa ps):=by
 obtain⟨te,h1,h2⟩:=h.h;obtain⟨tf,g1,g2⟩:=h'.h;exact⟨_,b'y h1 g1 hs,q'h h2 g2⟩
theorem c'Y{x1}(h:QA X k es ps):QE X k (.Tuple es x1 pos) (anh ps):=by
 obtain⟨te,h1,h2⟩:=h.h;exact⟨_,m'Z h1,t'e h2⟩
theorem a'U(h:QA X k es ps):QE X k (.List es pos) (ani ps):=by
 obtain⟨te,h1,h2⟩:=h.h;exact⟨_,u'K h1,t'f h2⟩
theorem a'j{psp:PSp}(G:FnOk X.prog X.w X.K X.mg X.base CX0 m f fd pn (spP X.K z 0 n psp))(hk:z=true->k.z=true)(hn:∀ xs Q,psp xs Q->xs.length=n)(hr:Room m X.A)(hg:Gl X x)(hm:X.mg x=some (.ref f))(hkp:W.keepIn X.K (.ref f)=true)(hb:Binds X.K fd pn [])(ha:QA X k (e :: es) ps)(hdb:(x == ("__debug__":Str))=false:=by decide)(he:starEach (e :: es) X.env=(false,eval e X.env) :: starEach es X.env:=by rfl)(hpl:(backTo pos (starEach es X.env)).any (·.1)=false:=by rfl):
  QE X k (.Call (.Name x p) (e :: es) [] pos) (alC psp ps):=by
 obtain⟨ta,h1,h2⟩:=ha.h;exact⟨_,s'z (E:=E0) G hr hg hm hkp hb .nil i'a h1 hdb he hpl,q'm hk hn h2⟩
theorem a'V{r:List V->Hp->VK->Prop}{pr:List Tr->(Tr->Prop)->Prop}{id:String}{x:Str}{p:Pos}{e:Expr}{es:List Expr}{ps:PA'}(hc:CallR X (.builtin id) r)(ho:OpA X.K k r pr)(hg:Gl X x)(hm:X.mg x=none)(hv:bootBuiltins x=some (.builtin id))(ha:QA X k (e :: es) ps)(hn:x≠"__name__":=by decide)(hdb:(x == ("__debug__":Str))=false:=by decide)(he:starEach (e :: es) X.env=(false,eval e X.env) :: starEach es X.env:=by rfl)(hpl:(backTo pos (starEach es X.env)).any (·.1)=false:=by rfl):
  QE X k (.Call (.Name x p) (e :: es) [] pos) (pB pr ps):=by
 obtain⟨ta,h1,h2⟩:=ha.h;exact⟨_,f'o hc hg hm hv h1 hn hdb he hpl,n'E ho h2⟩
theorem a'l:QB X k lo [] alB:=⟨_,s't,q'k⟩
theorem a'b(h:QS X k lo st p)(h':QB X k lo r q):QB X k lo (st :: r) (ann p q):=by
 obtain⟨te,h1,h2⟩:=h.h;obtain⟨tf,g1,g2⟩:=h'.h;exact⟨_,p'C h1 g1,t't h2 g2⟩
theorem a'e(h:QS X k lo st p):QB X k lo [st] p:=by
 obtain⟨te,h1,h2⟩:=h.h;exact⟨_,k'e h1,h2⟩
def akH:PS':=λ_ _=>False
theorem e'O:QS X k lo st akH:=⟨_,p'D,λ_ _ _ _ _ _ _ _ _ _ _ h _=>h⟩
theorem a'g(h:QE X k e pe):QS X k lo (.Return (some e) pos) (anp pe):=by
 obtain⟨te,h1,h2⟩:=h.h;exact⟨_,m'Q h1,t'v h2⟩
theorem a't(hc:QT X k e pe)(h:QB X k lo s1 p)(h':QB X k lo s2 q):QS X k lo (.If e s1 s2 pos) (anq pe p q):=by
 obtain⟨tc,h1,h2⟩:=hc.h;obtain⟨ta,g1,g2⟩:=h.h;obtain⟨tb,f1,f2⟩:=h'.h;exact⟨_,q'W h1 g1 f1,v'n h2 g2 f2⟩
theorem i'c(hp:PassesOwn (model X.prog X.w) X.A X.env X.xe)(hc:QT X k e pe)(h:QB X k lo s1 p):QS X k lo (.While e s1 [] pos) (aog pe p):=by
 obtain⟨tc,h1,h2⟩:=hc.h;obtain⟨ta,g1,g2⟩:=h.h;exact⟨_,p'E hp h1 g1,t'w h2 g2⟩
theorem i'd(hN:X.N.Nodup)(hl:lo<=i)(hi:X.N[i]?=some x)(hx:Loc X.env.scope x)(h:QE X k e pe)(hs:swapsWith e (some (.Name x pos')) pos.line X.env=pure false:=by rfl)(hf:X.fn x=true\/X.env.scope.names.lookup x=some .local:=by first |exact .inl rfl |exact .inr rfl |assumption):
  QS X k lo (.Assign [.Name x pos'] e pos) (ano i pe):=by
 obtain⟨te,h1,h2⟩:=h.h;exact⟨_,e'b hN hi hx h1 hs hf,t'u hl h2⟩
end
section
theorem a'v{psp:PSp}(F:Fun K x qual st f fd)(S:ahN N ps (ahM st))(hn:ps.length=n)(hlo:lo<=n)(body:∀(cdv:Value)(A:Around)(outer:List Env)(s:Shared)(H:Hp)(E:XK),Room m (A.deeper (PyProof.Rows.envOfC qual (ahM st) s.heap.objs.size f cdv))->
   ∃ pb,QB (akB CX0 P w K mg base N qual (ahM st) f cdv A outer s H E).nox (Md.base z) lo (ain st) pb/\∀ xs Q',xs.length=n->psp xs Q'->pb { nx:=λρ=>Q' .non ρ,rt:=Q' } (xs++List.replicate (N.length - n) .hole)):
  FnOk P w K mg base CX0 (m+1) f fd ps (spP K z lo n psp):=t'x F S hn hlo λcdv A outer s H E hr=>by
 obtain⟨pb,h,q⟩:=body cdv A outer s H E hr;obtain⟨ts,h1,h2⟩:=h.h;exact⟨ts,pb,h1,h2,q⟩
theorem b'g{psp:ajm}(F:Fun K x qual st f fd)(S:ahN N ps (ahM st))(hn:ps.length=n)(hlo:lo<=n)(body:∀(cdv:Value)(A:Around)(outer:List Env)(s:Shared)(H:Hp)(E:XK)(q:Value->Prop),Room m (A.deeper (PyProof.Rows.envOfC qual (ahM st) s.heap.objs.size f cdv))->
   ∃ pb,QB (akB (CX1 P w) P w K mg base N qual (ahM st) f cdv A outer s H E) ⟨z,λ_=>E,q⟩ lo (ain st) pb/\∀ xs Q',xs.length=n->psp xs Q' q->pb { nx:=λρ=>Q' .non ρ,rt:=Q' } (xs++List.replicate (N.length - n) .hole)):
  FnOk P w K mg base (CX1 P w) (m+1) f fd ps (spX K z lo n psp):=q'l F S hn hlo λcdv A outer s H E q hr=>by
 obtain⟨pb,h,q⟩:=body cdv A outer s H E q hr;obtain⟨ts,h1,h2⟩:=h.h;exact⟨ts,pb,h1,h2,q⟩
end
section
theorem lay:∀(c:Cs){F:Hp},Gr Fb Hb F H->Cells F H c->New Hb c->Plain c->∃ F',Gr Fb Hb F' H/\(∀ S,Fz S F->Fz S F')/\Same F F'/\(∀ p∈c,F' p.1=some p.2)/\∀ a,a ∉ c.map (·.1)->F' a=F a
 |[],F,g,_,_,_=>⟨F,g,λ_ h=>h,Same.refl F,λ_ m=>(nomatch m),λ_ _=>rfl⟩
 |(a,o) :: c,F,g,hc,n,pl=>by
  obtain⟨F1,g1,z1,s1,e1,n1⟩:=Vc.frz g.toGr0 g.z (n _ (.head _)) (hc.f _ (.head _)) (hc.h _ (.head _)) (pl _ (.head _));have nd:=hc.nd;rw[List.map_cons,List.nodup_cons] at nd;have hc1:Cells F1 H c:=⟨λp m=>hc.h p (.tail _ m),λp m=>by rw[n1 p.1 (λz=>nd.1 (List.mem_map.mpr ⟨p,m,z⟩))];exact hc.f p (.tail _ m),nd.2⟩;obtain⟨F2,g2,z2,s2,e2,n2⟩:=lay c ⟨g1,z1⟩ hc1 (λp m=>n p (.tail _ m)) λp m=>pl p (.tail _ m)
  refine⟨F2,g2,λS h=>z2 S λb x u e=>?_,s1.trans s2,λp m=>?_,λb hb=>?_⟩
  ·by_cases hb:b=a
   ·subst hb;rw[e1] at e;exact absurd (Option.some.inj e) (pl _ (.head _) x u)
   ·rw[n1 b hb] at e;exact h b x u e
  ·cases m with
   |head=>exact s2 _ _ e1
   |tail _ m=>exact e2 p m
  ·rw[List.map_cons,List.mem_cons] at hb;rw[n2 b λz=>hb (.inr z),n1 b λz=>hb (.inl z)]
theorem Wld.lay{c:Cs}(W:Wld K k lo us Fb Hb F H σ ρ cs)(hc:Cells F H c)(n:New Hb c)(pl:Plain c)(d:∀ j,∀ p∈cs j,∀ q∈c,p.1≠q.1):∃ F',Wld K k lo us Fb Hb F' H σ ρ cs/\Same F F'/\∀ p∈c,F' p.1=some p.2:=by
 obtain⟨F1,g1,z1,s1,e1,n1⟩:=Pu.lay c W.g hc n pl;refine⟨F1,⟨g1,λh=>z1 _ (W.z h),W.l,λi t h=>(W.e i t h).imp id λ⟨v,h1,h2⟩=>⟨v,h1,h2.mo (Le.of s1) (λ_=>Le.refl _) t⟩,λi=>⟨(W.c i).h,λp m=>?_,(W.c i).nd⟩,W.n,W.d,W.p,W.x⟩,s1,e1⟩;rw[n1 p.1 λz=>?_]
 ·exact (W.c i).f p m
 ·obtain⟨q,mq,e⟩:=List.mem_map.mp z;exact d i p m q mq e.symm
theorem Wld.fresh{t:Tr}{v:V}{c:Cs}{B:Bool->Hp}(W:Wld K k lo us Fb Hb F H σ ρ cs)(o:Out K F B H F' H' t v c):New Hb c/\∀ j,∀ p∈cs j,∀ q∈c,p.1≠q.1:=
 ⟨λp m=>W.g.h.free (o.n p m),λj p mp q mq e=>by
  have:=(W.c j).h p mp;rw[e,o.n q mq] at this;cases this⟩
theorem Wld.outF{i:Nat}{t:Tr}{v:V}{c:Cs}(W:Wld K k lo us Fb Hb F H σ ρ cs)(o:Out K F (Bq Hb H) H F' H' t v c)(hi:lo<=i)(n:nlt t=true):
  ∃ F'' cs',Wld K k lo us Fb Hb F'' H' (σ.set i (some v)) (ρ.set i (frz t)) cs':=by
 obtain⟨n1,d1⟩:=W.fresh o;obtain⟨F2,W2,s2,e2⟩:=(W.gr o.g).lay o.c n1 (o.r.plain t) d1;exact⟨F2,_,W2.set hi ((R.low (B':=λ_=>Hb) t n rfl o.r).frz (Le.of s2) t e2) .nil .nil λ_ _ _ _ _ m=>nomatch m⟩
def ak6(i:Nat)(pe:PE'):PS':=λD ρ=>pe (ρ.map lend) λt=>nlt t=true/\D.nx (ρ.set i (frz t))
theorem q'n(hi:lo<=i)(h:Sim K k te pe):ai5 K k lo (alr te (ajU i)) (ak6 i pe):=λus Fb Hb F H σ ρ cs D D' W p L=>by
 refine h F (Bq Hb H) H σ _ _ _ W.cxt p λt v F1 H1 c q o=>?_
 obtain⟨F2,cs2,W2⟩:=W.outF o hi q.1;exact L.nx F2 H1 _ _ _ W2 q.2
abbrev PG':=Tr->List Tr->(List Tr->Prop)->Prop
def ans(K:W.Frag)(k:Md)(lo:Nat)(tg:TG)(pg:PG'):Prop:=∀(us:List V)(Fb Hb F H:Hp)(σ:St)(ρ:List Tr)(cs:Nat->Cs)(x:V)(t:Tr)(Q:St->Hp->Prop)(Q':List Tr->Prop),Wld K k lo us Fb Hb F H σ ρ cs->R K F (λ_=>Hb) t x []->pg t ρ Q'->(∀ σ' ρ' cs',Wld K k lo us Fb Hb F H σ' ρ' cs'->Q' ρ'->Q σ' H)->tg x σ H Q
def pgN(i:Nat):PG':=λt ρ Q=>Q (ρ.set i t)
theorem v'o(hi:lo<=i):ans K k lo (ajU i) (pgN i):=λus Fb Hb F H σ ρ cs x t Q Q' W r p q=>q _ _ _ (W.set hi r .nil .nil λ_ _ _ _ _ m=>nomatch m) p
def ant(i j:Nat)(pa:PA'):PS':=λD ρ=>pa (ρ.map lend) λts=>match ts with |[a,b]=>nlt a=true/\nlt b=true/\D.nx ((ρ.set i (frz a)).set j (frz b)) |_=>False
theorem t'y{i j:Nat}{ta:TA}{pa:PA'}(hi:lo<=i)(hj:lo<=j)(h:ajZ K k ta pa):ai5 K k lo (anP i j ta) (ant i j pa):=λus Fb Hb F H σ ρ cs D D' W p L=>by
 refine h F (Bq Hb H) H σ _ _ _ W.cxt p λts vs F1 H1 c q o=>?_
 split at q
 ·obtain⟨v,r,c1,d1,h1,h2,h3,v',r',c2,d2,g1,g2,g3,g4,g5⟩:=o.r;have n1:New Hb c:=λp m=>W.g.h.free (o.n p m)
  have dj:∀ j,∀ p∈cs j,∀ q∈c,p.1≠q.1:=λj p mp q mq e=>by
   have:=(W.c j).h p mp;rw[e,o.n q mq] at this;cases this
  have pl:Plain c:=Rs.plain _ o.r;obtain⟨F2,W2,s2,e2⟩:=(W.gr o.g).lay o.c n1 pl dj;refine⟨v,v',by rw[h1,g1,g4],L.nx F2 H1 _ _ _ ((W2.set hi ((R.low (B':=λ_=>Hb) _ q.1 rfl h3).frz (Le.of s2) _ λp m=>e2 p (by rw[h2];exact List.mem_append.mpr (.inl m))) .nil .nil λ_ _ _ _ _ m=>nomatch m).set hj ((R.low (B':=λ_=>Hb) _ q.2.1 rfl g3).frz (Le.of s2) _ λp m=>e2 p (by rw[h2,g2];exact List.mem_append.mpr (.inr (List.mem_append.mpr (.inl m))))) .nil .nil λ_ _ _ _ _ m=>nomatch m) q.2.2⟩
 ·exact q.elim
end
def aoy(J:It)(n:Nat)(Kp:Hp->Prop)(Y:Nat->Hp->V->Hp->Prop):Prop:=∀(g:TG)(tb:TS)(D:aky)(σ:St)(H:Hp)(Pv:Nat->St->Hp->Prop),Pv 0 σ H->(∀ i σ H,i<=n->Pv i σ H->Kp H)->
 (∀ i x σ H H',i<n->Pv i σ H->Y i H x H'->g x σ H' λσ2 H2=>tb { D with nx:=Pv (i+1),ct:=Pv (i+1),bk:=D.nx } σ2 H2)->(∀ σ H,Pv n σ H->D.nx σ H)->
 ∃ W:Nat->Nat->St->Hp->Prop,(∃ m,W 0 m σ H)/\∀ i m σ H,W i m σ H->
  (J.stop i H/\D.nx σ H)\/(J.go i H/\∃ N:St->Hp->Prop,(∀ σ' H',N σ' H'->∃ m',m'<m/\W (i+1) m' σ' H')/\∀ x H',J.yld i H x H'->g x σ H' λσ2 H2=>tb { D with nx:=N,ct:=N,bk:=D.nx } σ2 H2)
theorem r'c{α:Type}{xs:List α}{i:Nat}{x:α}(h:xs[i]?=some x):i<xs.length:=(List.getElem?_eq_some_iff.mp h).1
structure ItOk(J:It)(n:Nat)(Kp:Hp->Prop)(Y:Nat->Hp->V->Hp->Prop):Prop where
 go:∀ i H,i<n->Kp H->J.go i H
 st:∀ H,Kp H->J.stop n H
 yl:∀ i H x H',i<n->Kp H->J.yld i H x H'->Y i H x H'
theorem ItOk.runs(o:ItOk J n Kp Y):aoy J n Kp Y:=λg tb D σ H Pv h0 hk hs hd=>by
 refine⟨λi m σ H=>m=n - i/\i<=n/\Pv i σ H,⟨n,by simp,Nat.zero_le _,h0⟩,?_⟩;rintro i m σ H ⟨rfl,hi,p⟩;by_cases hlt:i<n
 ·exact .inr ⟨o.go i H hlt (hk i σ H hi p),Pv (i+1),λσ' H' p'=>⟨n - (i+1),by omega,rfl,hlt,p'⟩,λx H' y=>hs i x σ H H' hlt p (o.yl i H x H' hlt (hk i σ H hi p) y)⟩
 ·have e:i=n:=by omega
  subst e;exact .inl ⟨o.st H (hk i σ H hi p),hd σ H p⟩
theorem r'd{α:Type}{xs:List α}{i:Nat}(h:i<xs.length):∃ x,xs[i]?=some x:=⟨_,List.getElem?_eq_getElem h⟩
theorem t'z{K:W.Frag}{a:Addr}{xs:List V}:ItOk (Itl K a) xs.length (λH=>SqL K H a xs) (λi H x H'=>xs[i]?=some x/\H'=H):=
 ⟨λi H h q=>by obtain⟨x,e⟩:=r'd h;exact⟨xs,x,q,e⟩,λH q=>⟨xs,q,Nat.le_refl _⟩,λi H x H' h q y=>⟨y.2 xs q,y.1⟩⟩
theorem q'o:ItOk (Itr l n) n (λ_=>True) (λi H x H'=>x=.int (l+i)/\H'=H):=⟨λi H h _=>h,λH _=>Nat.le_refl _,λi H x H' h _ y=>⟨y.2,y.1⟩⟩
def Src(K:W.Frag)(B:Bool->Hp)(F:Hp)(J:It)(ts:List Tr):Prop:=∃(Kp:Hp->Prop)(Y:Nat->Hp->V->Hp->Prop),ItOk J ts.length Kp Y/\(∀ F' H',Le F F'->Same F' H'->(∀ k,Same (B k) H')->Kp H')/\
 ∀ i t F' H' x H'',ts[i]?=some t->Le F F'->Same F' H'->(∀ k,Same (B k) H')->Y i H' x H''->∃ F'',Gr F' H' F'' H''/\R K F'' B t x []
section
abbrev PI':=List Tr->(List Tr->Bool->Prop)->Prop
def al9(K:W.Frag)(k:Md)(wi:TI)(pi:PI'):Prop:=∀(F:Hp)(B:Bool->Hp)(H:Hp)(σ:St)(ρ:List Tr)(R':It->Hp->Prop)(Q':List Tr->Bool->Prop),Cxt K k F B H σ ρ->pi ρ Q'->
 (∀ ts nl J F' H',Q' ts nl->Gr F H F' H'->Src K B F' J ts->(nl=true->∀ B':Bool->Hp,B' false=B false->Src K B' F' J ts)->R' J H')->wi σ H R'
theorem _root_.Vc.Gr.base(g:Gr Fb Hb F1 H1)(g':Gr F1 Hb F H):Gr Fb Hb F H:=
 Gr.of ⟨g'.h,g.f.trans g'.f,g'.s,λa u e z=>by
  cases q:F1 a with
  |some w=>exact g.n a w q z
  |none=>exact g'.n a u e q⟩ (g'.fz g.z)
theorem Wld.base(W0:Wld K k lo us Fb Hb F1 H1 σ0 ρ0 cs0)(W:Wld K k lo us F1 Hb F H σ ρ cs):Wld K k lo us Fb Hb F H σ ρ cs:=⟨W0.g.base W.g,W.z,W.l,W.e,W.c,W.n,W.d,W.p,W0.x⟩
theorem Wld.rebase(W:Wld K k lo us Fb Hb F H σ ρ cs):Wld K k lo us F Hb F H σ ρ cs:=⟨⟨⟨W.g.h,Same.refl F,W.g.s,λa u e z=>by rw[e] at z;cases z⟩,Fz.refl F⟩,W.z,W.l,W.e,W.c,W.n,W.d,W.p,λcls σ' F' H' q g=>W.x cls σ' F' H' q (W.g.base g)⟩
theorem Lk.rebase(W0:Wld K k lo us Fb Hb F1 H1 σ0 ρ0 cs0)(L:Lk K k lo us Fb Hb D D'):Lk K k lo us F1 Hb D D':=
 ⟨λF H σ ρ cs W=>L.nx F H σ ρ cs (W0.base W),λF H σ ρ cs v t c W=>L.rt F H σ ρ cs v t c (W0.base W),λF H σ ρ cs W=>L.bk F H σ ρ cs (W0.base W),λF H σ ρ cs W=>L.ct F H σ ρ cs (W0.base W)⟩
def anu(pi:PI')(pg:PG')(pb:PS'):PS':=λD ρ=>pi (ρ.map lend) λts nl=>nl=true/\∃ I:Nat->List Tr->Prop,I 0 ρ/\(∀ i t ρ,ts[i]?=some t->I i ρ->pg t ρ λρ'=>pb { D with nx:=I (i+1),ct:=I (i+1),bk:=D.nx } ρ')/\∀ ρ,I ts.length ρ->D.nx ρ
theorem t'A(hi:al9 K k wi pi)(hg:ans K k lo tg pg)(hb:ai5 K k lo tb pb):ai5 K k lo (anQ wi tg tb) (anu pi pg pb):=λus Fb Hb F H σ ρ cs D D' W p L=>by
 refine hi F (Bq Hb H) H σ _ _ _ W.cxt p λts nl J F1 H1 q g1 _ src=>?_
 have W1:=W.gr g1;obtain⟨hnl,I,i0,step,fin⟩:=q;obtain⟨Kp,Y,ito,kp,yl⟩:=src hnl (λ_=>Hb) rfl;have run:=ito.runs;have L1:=L.rebase W1;refine run tg tb D σ H1 (λi σ H=>∃ F ρ cs,Wld K k lo us F1 Hb F H σ ρ cs/\I i ρ) ⟨F1,ρ,cs,W1.rebase,i0⟩ ?_ ?_ ?_
 ·rintro i σ H hi ⟨F,ρ,cs,W,_⟩;exact kp F H (Le.of W.g.f) W.g.s λ_=>W.g.h
 ·rintro i x σ H H' hi ⟨F,ρ,cs,W,ii⟩ y;have ht:ts[i]?=some (ts[i]'hi):=List.getElem?_eq_getElem hi;obtain⟨F2,g2,r2⟩:=yl i _ F H x H' ht (Le.of W.g.f) W.g.s (λ_=>W.g.h) y;refine hg us F1 Hb F2 H' σ ρ cs x _ _ _ (W.gr g2) r2 (step i _ ρ ht ii) λσ' ρ' cs' W' p'=>?_
  exact hb us F1 Hb F2 H' σ' ρ' cs' _ _ W' p' ⟨λF H σ ρ cs W q=>⟨F,ρ,cs,W,q⟩,L1.rt,L1.nx,λF H σ ρ cs W q=>⟨F,ρ,cs,W,q⟩⟩
 ·rintro σ H ⟨F,ρ,cs,W,q⟩;exact L1.nx F H σ ρ cs W (fin ρ q)
theorem v'p(l:Le F F')(s:Same F' H')(h:SqL K F a vs):SqL K H' a vs:=s.seq (l.lst h)
theorem r'e(r:R K F B (.lst f xs) v []):∃ a vs,v=.ref a/\Rs K F B xs vs []/\∀ F' H',Le F F'->Same F' H'->(∀ k,Same (B k) H')->SqL K H' a vs:=by
 cases f with
 |f=>obtain⟨_,a,vs,h1,h2,h3⟩:=r; exact⟨a,vs,h1,h3,λF' H' l s b=>v'p l s h2⟩
 |l q=>obtain⟨_,a,vs,h1,h2,h3⟩:=r; exact⟨a,vs,h1,h3,λF' H' l s b=>(b q).seq h2⟩
 |o=>obtain⟨a,vs,ds,h1,h2,h3⟩:=r; cases h2
theorem Rs.nil_at{xs:List Tr}{vs:List V}{i:Nat}{t:Tr}(r:Rs K F B xs vs [])(h:xs[i]?=some t):∃ u,vs[i]?=some u/\R K F B t u []:=by
 obtain⟨u,c,h1,h2,h3⟩:=r.at h;have e:c=[]:=List.eq_nil_iff_forall_not_mem.mpr λp m=>nomatch h3 p m
 rw[e] at h2;exact⟨u,h1,h2⟩
theorem i'E{a:Addr}{f:Fl}{xs:List Tr}(r:R K F B (.lst f xs) (.ref a) []):Src K B F (Itl K a) xs:=by
 obtain⟨a',vs,h1,h2,h3⟩:=r'e r;cases h1;refine⟨_,_,h2.length ▸ t'z (K:=K) (a:=a) (xs:=vs),h3,λi t F' H' x H'' ht l s b y=>?_⟩;obtain⟨y1,rfl⟩:=y;obtain⟨u,e1,e2⟩:=h2.nil_at ht;rw[e1] at y1;cases y1;exact⟨F',Gr.refl' s,e2.mo l (λ_=>Le.refl _) t⟩
theorem n'F{l:Int}{n:Nat}:Src K B F (Itr l n) ((List.range n).map λ(i:Nat)=>.int (l+i)):=by
 refine⟨_,_,(by rw[List.length_map,List.length_range];exact q'o (l:=l) (n:=n)),λ_ _ _ _ _=>True.intro,λi t F' H' x H'' ht l' s b y=>?_⟩;obtain⟨rfl,rfl⟩:=y;rw[List.getElem?_map] at ht;cases q:(List.range n)[i]? with
 |none=>rw[q] at ht; cases ht
 |some u=>
  rw[q] at ht;cases ht;have hi:=r'c q;rw[List.length_range] at hi;rw[List.getElem?_range hi] at q;cases q;exact⟨F',Gr.refl' s,rfl,rfl⟩
theorem Out.held{t:Tr}{v:V}{c:Cs}(o:Out K F B H F' H' t v c):∃ F'',Gr F H F'' H'/\R K F'' B (frz t) v []:=by
 obtain⟨F2,g2,_,s2,e2,_⟩:=Pu.lay c o.g o.c o.n (o.r.plain t);exact⟨F2,g2,o.r.frz (Le.of s2) t e2⟩
theorem OutA.held{t:List Tr}{v:List V}{c:Cs}(o:OutA K F B H F' H' t v c):∃ F'',Gr F H F'' H'/\Rs K F'' B (frzs t) v []:=by
 obtain⟨F2,g2,_,s2,e2,_⟩:=Pu.lay c o.g o.c o.n (o.r.plain t);exact⟨F2,g2,o.r.frz (Le.of s2) t e2⟩
def amy(t:Tr)(Q:List Tr->Prop):Prop:=match t with |.lst _ xs=>Q xs |_=>False
theorem t'B{Q:List Tr->Prop}(h:amy t Q):∃ f xs,t=.lst f xs/\Q xs:=by
 unfold amy at h;split at h
 ·exact⟨_,_,rfl,h⟩
 ·exact h.elim
def piL(pe:PE'):PI':=λρ Q=>pe ρ λt=>amy (frz t) λxs=>Q xs (nlt (frz t))
theorem n'G(h:Sim K k te pe):al9 K k (amj K te) (piL pe):=λF B H σ ρ R' Q' c p q=>by
 refine h F B H σ ρ _ _ c p λt v F1 H1 c1 p1 o=>?_
 obtain⟨F2,g2,r2⟩:=o.held;obtain⟨f,xs,e,p1⟩:=t'B p1;rw[e] at r2 p1;obtain⟨a,vs,rfl,_,h3⟩:=r'e r2;exact⟨a,rfl,⟨vs,h3 F2 H1 (Le.refl _) g2.s λk=>(c.b k).trans g2.h⟩,q _ _ _ F2 H1 p1 g2 (i'E r2) λhn B' e'=>i'E (R.low _ hn e'.symm r2)⟩
theorem Rs.two(r:Rs K F B [t,u] xs cs):∃ v w c d,xs=[v,w]/\R K F B t v c/\R K F B u w d/\cs=c++d:=by
 obtain⟨v,r,c,d,h1,h2,h3,v',r',c',d',g1,g2,g3,rfl,rfl⟩:=r;rw[List.append_nil] at g2;exact⟨v,v',c,c',by rw[h1,g1],h3,g3,by rw[h2,g2]⟩
def ak7(ts:List Tr)(Q:Int->Prop):Prop:=match ts with |[.int i]=>Q i |_=>False
def anv(pa:PA'):PI':=λρ Q=>pa ρ λts=>ak7 ts λj=>-1000000<=j/\j<=1000000/\Q ((List.range j.toNat).map λ(i:Nat)=>.int i) true
theorem t'C(h:ajZ K k ta pa):al9 K k (amk ta) (anv pa):=λF B H σ ρ R' Q' c p q=>by
 refine h F B H σ ρ _ _ c p λts vs F1 H1 c1 p1 o=>?_
 unfold ak7 at p1;split at p1
 ·rename_i j;obtain⟨v,rfl,rfl,_⟩:=o.r.one;have sr:∀ B,Src K B F1 (Itr 0 j.toNat) ((List.range j.toNat).map λ(i:Nat)=>.int i):=λB=>by
   have:=n'F (K:=K) (B:=B) (F:=F1) (l:=0) (n:=Int.toNat j);simp only[Int.zero_add] at this;exact this
  exact⟨_,rfl,by omega,by omega,q _ _ _ F1 H1 p1.2.2 o.g (sr B) λ_ B' _=>sr B'⟩
 ·exact p1.elim
end
section
theorem Wld.mut{i:Nat}(W:Wld K k lo us Fb Hb F H σ ρ cs)(hv:σ[i]?=some (some v))(e:(a,o)∈cs i)(hd:Cells F H ds')(hn:New Hb ds')(ha:∀ p∈ds',p.1≠a)(hj:∀ j,j≠i->∀ p∈ds',∀ q∈cs j,p.1≠q.1)(hc:c'.Perm ((a,o') :: ds'))(r':R K F (λ_=>Hb) t' v c'):
  Wld K k lo us Fb Hb F (upd H a o') σ (ρ.set i t') (λj=>if j=i then c' else cs j):=by
 have hb:=W.n i _ e;have fa:=(W.c i).f _ e;have other:∀ j,j≠i->∀ p∈cs j,p.1≠a:=λj hj p m z=>W.d j i hj p m _ e z
 refine⟨⟨⟨W.g.h.updN hb,W.g.f,W.g.s.updN fa,W.g.n⟩,W.g.z⟩,W.z,by rw[List.length_set];exact W.l,λj u h=>?_,λj=>?_,λj=>?_,λx y ne p mp q mq=>?_,W.p,W.x⟩
 ·by_cases ej:j=i
  ·subst ej;have hl:j<ρ.length:=by have:=(List.getElem?_eq_some_iff.mp h).1;rw[List.length_set] at this;exact this
   rw[List.getElem?_set_self hl] at h;cases h;exact .inr ⟨v,hv,by rw[if_pos rfl];exact r'⟩
  ·rw[List.getElem?_set_ne (λz=>ej z.symm)] at h;rw[if_neg ej];exact W.e j u h
 ·split
  ·refine⟨λp m=>?_,λp m=>?_,?_⟩
   ·rcases List.mem_cons.mp (hc.mem_iff.mp m) with rfl |m
    ·exact a'O
    ·rw[a'u (ha p m)];exact hd.h p m
   ·rcases List.mem_cons.mp (hc.mem_iff.mp m) with rfl |m
    ·exact fa
    ·exact hd.f p m
   ·refine ((hc.map (·.1)).nodup_iff).mpr ?_;rw[List.map_cons,List.nodup_cons];refine⟨λm=>?_,hd.nd⟩;obtain⟨p,mp,e⟩:=List.mem_map.mp m;exact ha p mp e
  ·rename_i ej;exact⟨λp m=>by rw[a'u (other j ej p m)];exact (W.c j).h p m,(W.c j).f,(W.c j).nd⟩
 ·split
  ·intro p m;rcases List.mem_cons.mp (hc.mem_iff.mp m) with rfl |m
   ·exact hb
   ·exact hn p m
  ·exact W.n j
 ·have key:∀ p,p∈c'->∀ y,y≠i->∀ q∈cs y,p.1≠q.1:=λp m y hy q mq=>by
   rcases List.mem_cons.mp (hc.mem_iff.mp m) with rfl |m
   ·exact (other y hy q mq).symm
   ·exact hj y hy p m q mq
  by_cases ex:x=i
  ·have ey:y≠i:=λz=>ne (ex.trans z.symm)
   rw[if_pos ex] at mp;rw[if_neg ey] at mq;exact key p mp y ey q mq
  ·rw[if_neg ex] at mp;by_cases ey:y=i
   ·rw[if_pos ey] at mq;exact (key q mq x ex p mp).symm
   ·rw[if_neg ey] at mq;exact W.d x y ne p mp q mq
def alD(f:Str)(u:Tr):List (Str×Tr)->List (Str×Tr)
 |[]=>[]
 |(g,x) :: r=>if g = f then (g,u) :: r else (g,x) :: alD f u r
def ak8(t:Tr):List Str->Tr
 |[]=>t
 |f :: r=>match ak8 t r with |.ins .o _ fs=>(fs.lookup f).getD .hole |_=>.hole
def ama(t:Tr):List Str->Tr->Tr
 |[],u=>u
 |f :: r,u=>ama t r (match ak8 t r with |.ins .o c fs=>.ins .o c (alD f u fs) |y=>y)
def okR(K:W.Frag)(t:Tr):List Str->Prop
 |[]=>True
 |f :: r=>okR K t r /\ (match ak8 t r with |.ins .o c fs=>(Cls K c /\ NoAttr K c f) /\ (fs.lookup f).isSome = true |_=>False)
def tR(K:W.Frag)(i:Nat):List Str->TE
 |[]=>ame i
 |f :: r=>alx K (tR K i r) f
theorem Rf.at:∀{fs:List (Str×Tr)}{vs:List (Str×V)}{ds:Cs}{f:Str}{x:Tr},Rf K F B fs vs ds->fs.lookup f=some x->∃ w c pre post,vs.lookup f=some w/\R K F B x w c/\ds=pre++c++post/\∀ F',Le F F'->∀ u d,R K F' B u w d->Rf K F' B (alD f u fs) vs (pre++d++post)
 |(g,y) :: fs,_,_,f,x,⟨v,r,c,d,h1,h2,h3,h4⟩,h=>by
  by_cases e:g=f
  ·subst e;rw[List.lookup_cons_self] at h;cases h;refine⟨v,c,[],d,by rw[h1,List.lookup_cons_self],h3,by rw[h2];rfl,λF' l u d' ru=>?_⟩;unfold alD;rw[if_pos rfl];exact⟨v,r,d',d,h1,rfl,ru,h4.mo l (λ_=>Le.refl _) fs⟩
  ·have e':(f == g)=false:=by simpa using λz=>e z.symm
   rw[List.lookup_cons,e'] at h;obtain⟨w,c',pre,post,a1,a2,a3,a4⟩:=Rf.at (fs:=fs) h4 h;refine⟨w,c',c++pre,post,by rw[h1,List.lookup_cons,e'];exact a1,a2,by rw[h2,a3];simp only[List.append_assoc],λF' l u d' ru=>?_⟩;unfold alD;rw[if_neg e];exact⟨v,r,c,pre++d'++post,h1,by simp only[List.append_assoc],h3.mo l (λ_=>Le.refl _) y,a4 F' l u d' ru⟩
theorem place{B:Bool->Hp}(s:Same F H)(b:∀ k,Same (B k) H)(hv:σ[i]?=some (some v))(r0:R K F B t v c0)(hc:Cells F H c0):∀(r:List Str),okR K t r->∃ w c rest,c0.Perm (c++rest)/\R K F B (ak8 t r) w c/\(∀ F',Le F F'->∀ u d,R K F' B u w d->∃ c1,R K F' B (ama t r u) v c1/\c1.Perm (d++rest))/\∀ Q:VK,Q w H->tR K i r σ H Q
 |[],_=>⟨v,c0,[],by rw[List.append_nil],r0,λF' l u d ru=>⟨d,ru,by rw[List.append_nil]⟩,λQ q=>⟨v,hv,q⟩⟩
 |f :: r,ok=>by
  obtain⟨w,c,rest,p1,r1,cl,rd⟩:=place s b hv r0 hc r ok.1;have o2:=ok.2;split at o2
  ·rename_i C fs eg;obtain⟨⟨ok1,ok2⟩,ok3⟩:=o2;obtain⟨x,hx⟩:=Option.isSome_iff_exists.mp ok3;rw[eg] at r1;obtain⟨a,dx,vs,ds,h1,h2,h3⟩:=r1;obtain⟨w',c',pre,post,a1,a2,a3,a4⟩:=h3.at hx;have hm:(a,HO.ins C dx vs)∈c0:=p1.mem_iff.mpr (List.mem_append.mpr (.inl (by rw[h2];exact .head _)));refine⟨w',c',(a,.ins C dx vs) :: (pre++post++rest),?_,?_,λF' l u d ru=>?_,λQ q=>?_⟩
   ·refine p1.trans ?_;rw[h2,a3];show List.Perm ((a,HO.ins C dx vs) :: ((pre++c'++post)++rest)) _;refine List.Perm.trans (List.Perm.cons _ ?_) (List.perm_middle.symm);rw[List.append_assoc pre c' post,<- List.append_assoc,<- List.append_assoc,<- List.append_assoc];refine List.Perm.append_right _ ?_;refine List.Perm.append_right _ ?_;exact List.perm_append_comm
   ·show R K F B (match ak8 t r with |.ins .o _ fs=>(fs.lookup f).getD .hole |_=>.hole) w' c';rw[eg];show R K F B ((fs.lookup f).getD .hole) w' c';rw[hx];exact a2
   ·obtain⟨c1,b1,b2⟩:=cl F' l (.ins .o C (alD f u fs)) ((a,.ins C dx vs) :: (pre++d++post)) ⟨a,dx,vs,_,h1,rfl,a4 F' l u d ru⟩;refine⟨c1,?_,b2.trans ?_⟩
    ·show R K F' B (ama t r (match ak8 t r with |.ins .o c fs=>.ins .o c (alD f u fs) |y=>y)) v c1;rw[eg];exact b1
    ·show List.Perm ((a,HO.ins C dx vs) :: ((pre++d++post)++rest)) _;refine List.Perm.trans (List.Perm.cons _ ?_) (List.perm_middle.symm);rw[List.append_assoc pre d post,<- List.append_assoc,<- List.append_assoc,<- List.append_assoc];refine List.Perm.append_right _ ?_;refine List.Perm.append_right _ ?_;exact List.perm_append_comm
   ·exact rd _ ⟨a,C,dx,vs,w',h1,Rd.of (hc.h _ hm),ok1,ok2,a1,q⟩
  ·exact o2.elim
theorem Wld.at(W:Wld K k lo us Fb Hb F H σ ρ cs)(ht:ρ[i]?=some t)(hn:t≠.hole)(r:List Str)(ok:okR K t r):∃ w c,R K F (λ_=>Hb) (ak8 t r) w c/\(∀ p∈c,p∈cs i)/\Cells F H c/\(∀ Q:VK,Q w H->tR K i r σ H Q)/\
  ∀ F' H',Wld K k lo us Fb Hb F' H' σ ρ cs->Le F F'->∀(a:Addr)(o o':HO)(ds ds' e:Cs)(u:Tr)(d:Cs),c=(a,o) :: ds->ds'.Sublist ds->Cells F' H' e->New Hb e->(∀ j,∀ p∈cs j,∀ q∈e,p.1≠q.1)->d.Perm ((a,o') :: (ds'++e))->R K F' (λ_=>Hb) u w d->∃ cs',Wld K k lo us Fb Hb F' (upd H' a o') σ (ρ.set i (ama t r u)) cs':=by
 rcases W.e i t ht with z |⟨v,hv,rv⟩
 ·exact absurd z hn
 ·obtain⟨w,c,rest,p1,r1,cl,rd⟩:=place W.g.s (λ_=>W.g.h) hv rv (W.c i) r ok;have sub:∀{F H:Hp},Cells F H (cs i)->Cells F H (c++rest):=λh=>⟨λp m=>h.h p (p1.mem_iff.mpr m),λp m=>h.f p (p1.mem_iff.mpr m),((p1.map (·.1)).nodup_iff).mp h.nd⟩
  refine⟨w,c,r1,λp m=>p1.mem_iff.mpr (List.mem_append.mpr (.inl m)),(sub (W.c i)).left,rd,λF' H' W' l a o o' ds ds' e u d ec sl he hne hje pd ru=>?_⟩;obtain⟨c1,b1,b2⟩:=cl F' l u d ru;have ci:=sub (W'.c i);rw[ec] at ci;have am:(a,o)∈cs i:=p1.mem_iff.mpr (List.mem_append.mpr (.inl (by rw[ec];exact .head _)));have nd':(a ∉ (ds++rest).map (·.1))/\((ds++rest).map (·.1)).Nodup:=List.nodup_cons.mp ci.nd;have s2:(ds'++rest).Sublist (ds++rest):=sl.append_right rest;have mm:∀ p∈ds'++rest,p∈cs i:=λp m=>p1.mem_iff.mpr (by rw[ec];exact .tail _ (s2.subset m))
  have c3:Cells F' H' (ds'++rest):=⟨λp m=>(W'.c i).h p (mm p m),λp m=>(W'.c i).f p (mm p m),List.Sublist.nodup (s2.map _) nd'.2⟩
  refine⟨_,W'.mut (o:=o) (o':=o') (ds':=(ds'++rest)++e) hv am (c3.app he λp mp q mq=>hje i p (mm p mp) q mq) ?_ ?_ ?_ (b2.trans ((pd.append_right rest).trans ?_)) b1⟩
  ·exact λp m=>(List.mem_append.mp m).elim (λm=>W'.n i p (mm p m)) (hne p)
  ·intro p m z;rcases List.mem_append.mp m with m |m
   ·exact nd'.1 (List.mem_map.mpr ⟨p,s2.subset m,z⟩)
   ·exact hje i _ am p m z.symm
  ·intro j hj p m q mq;rcases List.mem_append.mp m with m |m
   ·exact W'.d i j (λz=>hj z.symm) p (mm p m) q mq
   ·exact (hje j q mq p m).symm
  ·show List.Perm ((a,o') :: ((ds'++e)++rest)) ((a,o') :: ((ds'++rest)++e));refine List.Perm.cons _ ?_;rw[List.append_assoc,List.append_assoc];exact List.Perm.append_left _ List.perm_append_comm
end
section
def wPl(K:W.Frag)(ρ:List Tr)(i:Nat)(r:List Str)(Q:Tr->(Tr->List Tr)->Prop):Prop:=match ρ[i]? with
 |some .hole=>False
 |some t=>okR K t r /\ Q (ak8 t r) λu=>ρ.set i (ama t r u)
 |none=>False
theorem e'l{Q:Tr->(Tr->List Tr)->Prop}(h:wPl K ρ i r Q):∃ t,ρ[i]?=some t/\t≠.hole/\okR K t r/\Q (ak8 t r) λu=>ρ.set i (ama t r u):=by
 unfold wPl at h;split at h
 ·exact h.elim
 ·rename_i t ne e;exact⟨t,e,ne,h.1,h.2⟩
 ·exact h.elim
theorem Rs.set:∀{xs:List Tr}{vs:List V}{ds:Cs}(n:Nat){t:Tr}{v:V},Rs K F B xs vs ds->R K F B t v []->∃ ds',Rs K F B (xs.set n t) (vs.set n v) ds'/\ds'.Sublist ds
 |[],_,ds,n,_,_,⟨h1,h2⟩,_=>⟨[],by rw[h1]; exact⟨rfl,rfl⟩,by rw[h2]; exact List.Sublist.refl _⟩
 |x :: xs,_,_,0,_,_,⟨v,r,c,d,h1,h2,h3,h4⟩,rt=>⟨d,by rw[h1]; exact⟨_,r,[],d,rfl,rfl,rt,h4⟩,by rw[h2]; exact List.sublist_append_right c d⟩
 |x :: xs,_,_,n + 1,_,_,⟨v,r,c,d,h1,h2,h3,h4⟩,rt=>by
  obtain⟨d',a1,a2⟩:=Rs.set (xs:=xs) n h4 rt;exact⟨c++d',by rw[h1];exact⟨v,_,c,d',rfl,rfl,h3,a1⟩,by rw[h2];exact a2.append_left c⟩
theorem Rs.snoc(h:Rs K F B xs vs ds)(rt:R K F B t v e):Rs K F B (xs++[t]) (vs++[v]) (ds++e):=h.append ⟨v,[],e,[],rfl,by rw[List.append_nil],rt,rfl,rfl⟩
theorem Wld.heldLe{t:Tr}{v:V}{c:Cs}(W:Wld K k lo us Fb Hb F H σ ρ cs)(o:Out K F (Bq Hb H) H F' H' t v c)(n:nlt t=true):
  ∃ F'',Wld K k lo us Fb Hb F'' H' σ ρ cs/\R K F'' (λ_=>Hb) (frz t) v []/\Le F F'':=by
 obtain⟨n1,d1⟩:=W.fresh o;obtain⟨F2,W2,s2,e2⟩:=(W.gr o.g).lay o.c n1 (o.r.plain t) d1;exact⟨F2,W2,(R.low (B':=λ_=>Hb) t n rfl o.r).frz (Le.of s2) t e2,Le.trans o.g.le (Le.of s2)⟩
theorem d'l:New Hb []:=λ_ m=>nomatch m
theorem c'i{cs:Nat->Cs}:∀(j:Nat),∀ p∈cs j,∀ q∈([]:Cs),p.1≠q.1:=λ_ _ _ _ m=>nomatch m
def ajp(u:Tr)(Q:List Tr->Prop):Prop:=match u with |.lst .o xs=>Q xs |_=>False
theorem c'H{Q:List Tr->Prop}(h:ajp u Q):∃ xs,u=.lst .o xs/\Q xs:=by
 unfold ajp at h;split at h
 ·exact⟨_,rfl,h⟩
 ·exact h.elim
def anw(K:W.Frag)(i:Nat)(r:List Str)(pe:PE'):PS':=λD ρ=>wPl K ρ i r λu s=>ajp u λxs=>pe (ρ.map lend) λt=>nlt t=true/\xs.length<1000000/\D.nx (s (.lst .o (xs++[frz t])))
theorem t'D(h:Sim K k te pe):ai5 K k lo (ak4 (tBM K "list" akb (tR K i r) (ajO te akA))) (anw K i r pe):=λus Fb Hb F H σ ρ cs D D' W p L=>by
 obtain⟨t,e1,e2,e3,p⟩:=e'l p;obtain⟨xs,eg,p⟩:=c'H p;obtain⟨w,c,r1,sub,hc,rd,cl⟩:=W.at e1 e2 r e3;rw[eg] at r1;obtain⟨a,vs,ds,rfl,h2,h3⟩:=r1;have ha:H a=some (.lst vs):=hc.h (a,.lst vs) (by rw[h2];exact .head _);refine rd _ ⟨g'v ha,h F (Bq Hb H) H σ _ _ _ W.cxt p λu v F1 H1 c1 q o=>?_⟩;obtain⟨F2,W2,r2,l2⟩:=W.heldLe o q.1;have ha1:H1 a=some (.lst vs):=o.g.h _ _ ha;obtain⟨cs',W3⟩:=cl F2 H1 W2 l2 a (.lst vs) (.lst (vs++[v])) ds ds [] (.lst .o (xs++[frz u])) ((a,.lst (vs++[v])) :: (ds++[])) h2 (List.Sublist.refl _) .nil d'l c'i (List.Perm.refl _) ⟨a,vs++[v],ds++[],rfl,rfl,(h3.mo l2 (λ_=>Le.refl _) xs).snoc r2⟩;exact⟨a,vs,v,rfl,rfl,ha1,Nat.lt_of_lt_of_le (by rw[h3.length];exact q.2.1) (by decide),L.nx F2 _ σ _ cs' W3 q.2.2⟩
def akI(xs:List Tr)(y t:Tr)(Q:List Tr->Prop):Prop:=match y with |.int j=>(match ixN xs.length j with |some n=>Q (xs.set n t) |none=>False) |_=>False
def alE(K:W.Frag)(i:Nat)(r:List Str)(pj pe:PE'):PS':=λD ρ=>pe (ρ.map lend) λt=>nlt t=true/\wPl K ρ i r λu s=>ajp u λxs=>pj (ρ.map lend) λy=>akI xs y (frz t) λxs'=>D.nx (s (.lst .o xs'))
theorem q'p(h:Sim K k te pe)(hj:Sim K k tj pj):ai5 K k lo (alr te (anO (tR K i r) tj amp)) (alE K i r pj pe):=λus Fb Hb F H σ ρ cs D D' W p L=>by
 refine h F (Bq Hb H) H σ _ _ _ W.cxt p λu v F1 H1 c1 q o=>?_
 obtain⟨F2,W2,r2,l2⟩:=W.heldLe o q.1;obtain⟨t,e1,e2,e3,p⟩:=e'l q.2;obtain⟨xs,eg,p⟩:=c'H p;obtain⟨w,c,r1,sub,hc,rd,cl⟩:=W2.at e1 e2 r e3;rw[eg] at r1;obtain⟨a,vs,ds,rfl,h2,h3⟩:=r1;have ha:H1 a=some (.lst vs):=hc.h (a,.lst vs) (by rw[h2];exact .head _);refine rd _ (hj F2 (Bq Hb H1) H1 σ _ _ _ W2.cxt p λy vy F3 H3 c3 q3 o3=>?_);unfold akI at q3;split at q3
 ·obtain⟨rfl,_⟩:=o3.r;split at q3
  ·rename_i n en;obtain⟨ds',a1,a2⟩:=(h3.mo o3.g.le (λ_=>Le.refl _) xs).set n (r2.mo o3.g.le (λ_=>Le.refl _) _);obtain⟨cs',W4⟩:=cl F3 H3 (W2.gr o3.g) o3.g.le a (.lst vs) (.lst (vs.set n v)) ds ds' [] (.lst .o (xs.set n (frz u))) ((a,.lst (vs.set n v)) :: (ds'++[])) h2 a2 .nil d'l c'i (List.Perm.refl _) ⟨a,_,ds'++[],rfl,rfl,by rw[List.append_nil];exact a1⟩;exact⟨a,vs,_,n,rfl,rfl,o3.g.h _ _ ha,by rw[h3.length];exact en,L.nx F3 _ σ _ cs' W4 q3⟩
  ·exact q3.elim
 ·exact q3.elim
def am2(y:Tr)(Q:Key->Prop):Prop:=match anj y with |some y=>Q y |none=>False
def aj8(f:Str)(u:Tr):List (Str×Tr)->List (Str×Tr)
 |[]=>[(f,u)]
 |(g,x) :: r=>if g = f then (g,u) :: r else (g,x) :: aj8 f u r
theorem Rf.put:∀{fs:List (Str×Tr)}{vs:List (Str×V)}{ds:Cs}{f:Str}{t:Tr}{v:V}{e:Cs},Rf K F B fs vs ds->R K F B t v e->∃ ds' d,Rf K F B (aj8 f t fs) (ajF f v vs) d/\ds'.Sublist ds/\d.Perm (ds'++e)
 |[],_,_,f,t,v,e,⟨h1,h2⟩,rt=>⟨[],e,by rw[h1]; exact⟨v,[],e,[],rfl,by rw[List.append_nil],rt,rfl,rfl⟩,by rw[h2]; exact List.Sublist.refl _,List.Perm.refl _⟩
 |(g,x) :: fs,_,_,f,t,w,e,⟨v,r,c,d,h1,h2,h3,h4⟩,rt=>by
  by_cases z:g=f
  ·refine⟨d,e++d,?_,by rw[h2];exact List.sublist_append_right c d,List.perm_append_comm⟩;rw[h1];show Rf K F B (if g=f then (g,t) :: fs else _) (if g=f then (g,w) :: r else _) _;rw[if_pos z,if_pos z];exact⟨w,r,e,d,rfl,rfl,rt,h4⟩
  ·obtain⟨d',d2,a1,a2,a3⟩:=Rf.put (f:=f) h4 rt;refine⟨c++d',c++d2,?_,by rw[h2];exact a2.append_left c,by rw[List.append_assoc];exact a3.append_left c⟩;rw[h1];show Rf K F B (if g=f then _ else (g,x) :: aj8 f t fs) (if g=f then _ else (g,v) :: ajF f w r) _;rw[if_neg z,if_neg z];exact⟨v,_,c,d2,rfl,rfl,h3,a1⟩
theorem Rf.length:∀{fs:List (Str×Tr)}{vs:List (Str×V)}{ds:Cs},Rf K F B fs vs ds->vs.length=fs.length
 |[],_,_,⟨h,_⟩=>by rw[h]; rfl
 |(k,x) :: xs,_,_,⟨v,r,c,d,h1,h2,h3,h4⟩=>by rw[h1,List.length_cons,List.length_cons,Rf.length h4]
def aj1(K:W.Frag)(f:Str)(u:Tr)(Q:Addr->List (Str×Tr)->Prop):Prop:=match u with |.ins .o c fs=>(Cls K c/\NoAttr K c f)/\fs.length<900/\Q c fs |_=>False
theorem i'F{Q:Addr->List (Str×Tr)->Prop}(h:aj1 K f u Q):∃ c fs,u=.ins .o c fs/\(Cls K c/\NoAttr K c f)/\fs.length<900/\Q c fs:=by
 unfold aj1 at h;split at h
 ·exact⟨_,_,rfl,h⟩
 ·exact h.elim
def alF(K:W.Frag)(i:Nat)(r:List Str)(f:Str)(pe:PE'):PS':=λD ρ=>pe (ρ.map lend) λt=>nlt t=true/\wPl K ρ i r λu s=>aj1 K f u λc fs=>D.nx (s (.ins .o c (aj8 f t fs)))
theorem q'q(h:Sim K k te pe):ai5 K k lo (anT K (tR K i r) te f) (alF K i r f pe):=λus Fb Hb F H σ ρ cs D D' W p L=>by
 refine h F (Bq Hb H) H σ _ _ _ W.cxt p λu v F1 H1 c1 q o=>?_
 have W2:=W.gr o.g;obtain⟨n1,d1⟩:=W.fresh o;obtain⟨t,e1,e2,e3,p⟩:=e'l q.2;obtain⟨C,fs,eg,ok,hl,p⟩:=i'F p;obtain⟨w,c,r1,sub,hc,rd,cl⟩:=W2.at e1 e2 r e3;rw[eg] at r1;obtain⟨a,dx,vs,ds,rfl,h2,h3⟩:=r1;have ha:H1 a=some (.ins C dx vs):=hc.h (a,.ins C dx vs) (by rw[h2];exact .head _);obtain⟨ds',d,a1,a2,a3⟩:=h3.put (f:=f) (R.low (B':=λ_=>Hb) u q.1 rfl o.r);obtain⟨cs',W3⟩:=cl F1 H1 W2 (Le.refl _) a (.ins C dx vs) (.ins C dx (ajF f v vs)) ds ds' c1 (.ins .o C (aj8 f u fs)) ((a,.ins C dx (ajF f v vs)) :: d) h2 a2 o.c n1 d1 (List.Perm.cons _ a3) ⟨a,dx,_,d,rfl,rfl,a1⟩;exact rd _ ⟨a,C,dx,vs,rfl,ha,ok.1,ok.2,Nat.lt_of_lt_of_le (by rw[h3.length];exact hl) (by decide),L.nx F1 _ σ _ cs' W3 p⟩
end
section
def alG:Key->Tr |.inl n=>.int n |.inr s=>.str s
theorem w'X:R K F B (alG y) (kV y) []:=by
 cases y with
 |inl n=>exact⟨rfl,rfl⟩
 |inr n=>exact⟨rfl,rfl⟩
end
section
def amz(K:W.Frag):List V->Hp->VK->Prop:=λxs H Q=>(λxs H Q=>∃ x n,xs=[x]/\anS K x H n/\Q (.int n) H) xs H Q\/(λxs H Q=>∃ a kvs,xs=[V.ref a]/\H a=some (.dK kvs)/\Q (.int kvs.length) H) xs H Q
theorem b'j:CallR X (.builtin "len") (amz X.K):=ak5.or n'g
def ali(K:W.Frag):List V->Hp->VK->Prop:=λxs H Q=>(λxs H Q=>∃ p ys,xs=[.ref p]/\(SqL K H p ys\/SqT K H p ys)/\∀ l,H l=none->Q (.ref l) (upd H l (.lst ys))) xs H Q\/(λxs H Q=>∃ a kvs,xs=[.ref a]/\Rd H a (.dK kvs)/\∀ p,H p=none->Q (.ref p) (upd H p (.lst (kvs.map λkv=>kV kv.1)))) xs H Q
theorem v'q(hc:X.calm=true):CallR X (.type "list") (ali X.K):=ajX.or (m'c hc)
def aoh(K:W.Frag):R2:=λx y H Q=>rIn K false x y H Q\/amu false x y H Q
theorem i'G(hu:X.A.units+1<cLine):OpR X (compareOp .In) (aoh X.K):=akE.or (v'l hu)
def akJ(K:W.Frag):R2:=λx y H Q=>rIn K true x y H Q\/amu true x y H Q
theorem k'u(hu:X.A.units+1<cLine):OpR X (compareOp .NotIn) (akJ X.K):=ajW.or (n'B hu)
def aoi(K:W.Frag):V->Option Int->Option Int->Hp->VK->Prop:=λx l h H Q=>an1 K x l h H Q\/an6 x l h H Q
theorem x's:SlR X (aoi X.K):=alv.or u'Z
end
section
def amb(k:Bool)(ts:List Tr)(Q:Tr->Prop):Prop:=match ts with
 |[.str x]=>x.length <= 1000000 /\ Q (.int x.length)
 |[.lst _ xs]=>Q (.int xs.length)
 |[.tup xs]=>Q (.int xs.length)
 |[.dic .f m]=>k = true /\ Q (.int m.length)
 |[.dic .o m]=>Q (.int m.length)
 |_=>False
theorem a'P:OpA K k (amz K) (amb k.z):=λF B H xs ts cx Q Q' s b z r hc p q=>by
 unfold amb at p;split at p
 ·obtain⟨v,rfl,rfl,_⟩:=r.one;exact .inl ⟨_,_,rfl,⟨c'd p.1,rfl⟩,q _ _ F H [] p.2 (Gr.refl' s) ⟨rfl,rfl⟩ .nil λ_ m=>nomatch m⟩
 ·obtain⟨v,rfl,r1⟩:=r.one;obtain⟨a,vs,ds,rfl,h1,h2,_⟩:=r1.lstH s b hc;exact .inl ⟨_,_,rfl,.inl ⟨vs,h1,rfl⟩,q (.int vs.length) _ F H [] (by rw[<- h2.length] at p;exact p) (Gr.refl' s) ⟨rfl,rfl⟩ .nil λ_ m=>nomatch m⟩
 ·obtain⟨v,rfl,r1⟩:=r.one;obtain⟨a,vs,rfl,h1,h2⟩:=r1.tupH s;exact .inl ⟨_,_,rfl,.inr ⟨vs,h1,rfl⟩,q (.int vs.length) _ F H [] (by rw[<- h2.length] at p;exact p) (Gr.refl' s) ⟨rfl,rfl⟩ .nil λ_ m=>nomatch m⟩
 ·obtain⟨v,rfl,r1⟩:=r.one;obtain⟨_,a,vs,rfl,h2,h3,h4⟩:=r1;exact .inr ⟨a,vs,rfl,s _ _ (s'E (z p.1) h2),q (.int vs.length) _ F H [] (by rw[<- h3.length] at p;exact p.2) (Gr.refl' s) ⟨rfl,rfl⟩ .nil λ_ m=>nomatch m⟩
 ·obtain⟨v,rfl,r1⟩:=r.one;obtain⟨a,vs,ds,rfl,h2,h3,h4⟩:=r1;exact .inr ⟨a,vs,rfl,hc.h (a,.dK vs) (by rw[h2];exact .head _),q (.int vs.length) _ F H [] (by rw[<- h3.length] at p;exact p) (Gr.refl' s) ⟨rfl,rfl⟩ .nil λ_ m=>nomatch m⟩
 ·exact p.elim
theorem Rk.keysV:∀{m:List (Key×Tr)}{vs:List (Key×V)}{ds:Cs},Rk K F B m vs ds->Rs K F B (m.map λp=>alG p.1) (vs.map λkv=>kV kv.1) []
 |[],_,_,⟨h,_⟩=>by rw[h]; exact⟨rfl,rfl⟩
 |(y,x) :: m,_,_,⟨v,r,c,d,h1,h2,h3,h4⟩=>by rw[h1]; exact⟨kV y,_,[],[],rfl,rfl,w'X,Rk.keysV h4⟩
theorem f'v{xs:List Tr}{vs:List V}{cs cx:Cs}{p:Addr}{Q:VK}{Q':Tr->Prop}(s:Same F H)(r:Rs K F B xs vs cs)(c:Cells F H cs)(sub:∀ p∈cs,p∈cx)(hp:H p=none)(h:Q' (.lst .o xs))(q:∀ t v F' H' cs,Q' t->Gr F H F' H'->R K F' B t v cs->Cells F' H' cs->(∀ p∈cs,H p.1=none\/p∈cx)->Q v H'):Q (.ref p) (upd H p (.lst vs)):=by
 obtain⟨n1,n2,n3⟩:=c'x s r c hp;refine q _ _ F _ _ h n1 n2 n3 λp m=>?_
 cases m with
 |head=>exact .inl hp
 |tail _ m=>exact .inr (sub p m)
def alH(ts:List Tr)(Q:Tr->Prop):Prop:=match ts with
 |[.lst _ xs]=>Q (.lst .o xs)
 |[.tup xs]=>Q (.lst .o xs)
 |[.dic _ m]=>Q (.lst .o (m.map λp=>alG p.1))
 |_=>False
theorem q'r:OpA K k (ali K) alH:=λF B H xs ts cx Q Q' s b z r hc p q=>by
 unfold alH at p;split at p
 ·obtain⟨v,rfl,r1⟩:=r.one;obtain⟨a,vs,ds,rfl,h1,h2,h3,h4⟩:=r1.lstH s b hc;exact .inl ⟨_,_,rfl,.inl h1,λl hl=>f'v s h2 h3 h4 hl p q⟩
 ·obtain⟨v,rfl,r1⟩:=r.one;obtain⟨a,vs,rfl,h1,h2⟩:=r1.tupH s;exact .inl ⟨_,_,rfl,.inr h1,λl hl=>f'v s h2 hc (λ_ m=>m) hl p q⟩
 ·obtain⟨v,rfl,r1⟩:=r.one;obtain⟨a,vs,ds,rfl,h1,h2,h3,h4⟩:=r1.dicH s b hc;exact .inr ⟨_,_,rfl,h1,λl hl=>f'v s h2.keysV .nil (λ_ m=>nomatch m) hl p q⟩
 ·exact p.elim
def anx(ts:List Tr)(Q:Tr->Prop):Prop:=match ts with
 |[.int i]=>i.natAbs.log2 < 1920 /\ Q (.str (toString i))
 |_=>False
theorem c'y:OpA K k (λxs H Q=>∃ i,xs=[.int i]/\i.natAbs.log2<1920/\Q (.str (toString i)) H) anx:=λF B H xs ts cx Q Q' s b z r hc p q=>by
 unfold anx at p;split at p
 ·obtain⟨v,rfl,rfl,_⟩:=r.one;exact⟨_,rfl,p.1,q _ _ F H [] p.2 (Gr.refl' s) ⟨rfl,rfl⟩ .nil λ_ m=>nomatch m⟩
 ·exact p.elim
def alI(ts:List Tr)(Q:Tr->Prop):Prop:=match ts with
 |[.bl b]=>Q (.int (if b = true then 1 else 0))
 |_=>False
theorem q's:OpA K k (λxs H Q=>∃ b,xs=[.bl b]/\Q (.int (if b=true then 1 else 0)) H) alI:=λF B H xs ts cx Q Q' s b z r hc p q=>by
 unfold alI at p;split at p
 ·obtain⟨v,rfl,rfl,_⟩:=r.one;exact⟨_,rfl,q _ _ F H [] p (Gr.refl' s) ⟨rfl,rfl⟩ .nil λ_ m=>nomatch m⟩
 ·exact p.elim
def tyT:Tr->Option String
 |.int _=>some "int" |.bl _=>some "bool" |.str _=>some "str" |.non=>some "NoneType" |.tup _=>some "tuple" |.lst _ _=>some "list" |.dic _ _=>some "dict" |_=>none
def clT:Tr->Option Value
 |.ty n=>some (.type n) |.cl a=>some (.ref a) |_=>none
def wIs(K:W.Frag)(ts:List Tr)(Q:Tr->Prop):Prop:=match ts with
 |[x,c]=>(match tyT x,clT c with |some t,some u=>∃ b,W.kitOne K (.type t) u = some b /\ Q (.bl b) |_,_=>False)
 |_=>False
theorem v'r:OpA K k (λxs H Q=>∃ x c t b u,xs=[x,c]/\TyX K H x t/\amq c=some u/\W.kitOne K t u=some b/\Q (.bl b) H) (wIs K):=λF B H xs ts cx Q Q' s b z r hc p q=>by
 unfold wIs at p;split at p
 ·rename_i x c;obtain⟨v,w,c1,d1,rfl,r1,r2,e⟩:=r.two;rw[e] at hc;split at p
  ·rename_i t u e1 e2;obtain⟨bb,hk,p⟩:=p;have hw:amq w=some u:=by
    cases c with
    |ty n=>cases e2;rw[r2.1];rfl
    |cl a=>cases e2;rw[r2.1];rfl
    |_=>cases e2
   have ht:TyX K H v (.type t):=by
    cases x with
    |int n=>cases e1;rw[r1.1];exact u'W
    |bl n=>cases e1;rw[r1.1];exact w'T
    |str n=>cases e1;rw[r1.1];exact u'X
    |non=>cases e1;rw[r1.1];exact u'Y
    |tup xs=>cases e1;obtain⟨a,vs,rfl,h1,_⟩:=r1.tupH s;exact u'T h1
    |lst f xs=>cases e1;obtain⟨a,vs,ds,rfl,h1,_⟩:=r1.lstH s b hc.left;exact u'U h1
    |dic f xs=>cases e1;obtain⟨a,vs,ds,rfl,h1,_⟩:=r1.dicH s b hc.left;exact u'V h1
    |_=>cases e1
   exact⟨v,w,_,bb,u,rfl,ht,hw,hk,q _ _ F H [] p (Gr.refl' s) ⟨rfl,rfl⟩ .nil λ_ m=>nomatch m⟩
  ·exact p.elim
 ·exact p.elim
def akc:Tr->Bool
 |.int _=>true |.bl _=>true |.str _=>true |.non=>true |_=>false
def amc:Tr->V
 |.int n=>.int n |.bl b=>.bl b |.str x=>.str x |_=>.non
theorem i'H(r:R K F B t v cs)(h:akc t=true):v=amc t/\ajH v=true:=by
 cases t with
 |int n=>rw[r.1]; exact⟨rfl,rfl⟩
 |bl n=>rw[r.1]; exact⟨rfl,rfl⟩
 |str n=>rw[r.1]; exact⟨rfl,rfl⟩
 |non=>rw[r.1]; exact⟨rfl,rfl⟩
 |_=>cases h
theorem g'A:∀{ts:List Tr}{vs:List V}{cs:Cs},Rs K F B ts vs cs->ts.all akc=true->vs=ts.map amc/\vs.all ajH=true
 |[],_,_,⟨h,_⟩,_=>by rw[h]; exact⟨rfl,rfl⟩
 |x :: xs,_,_,⟨v,r,c,d,h1,h2,h3,h4⟩,h=>by
  rw[List.all_cons,Bool.and_eq_true] at h;obtain⟨a1,a2⟩:=i'H h3 h.1;obtain⟨b1,b2⟩:=g'A h4 h.2;rw[h1,b1,a1];exact⟨rfl,by rw[List.all_cons,<- b1,b2,<- a1,a2];rfl⟩
def inT(x:Tr)(xs:List Tr):Bool:=inV (amc x) (xs.map amc)
def wIn(neg:Bool)(x y:Tr)(Q:Tr->Prop):Prop:=match y with
 |.lst _ xs=>akc x = true /\ xs.all akc = true /\ Q (.bl (if neg = true then !inT x xs else inT x xs))
 |.tup xs=>akc x = true /\ xs.all akc = true /\ Q (.bl (if neg = true then !inT x xs else inT x xs))
 |.dic _ m=>am2 x λy=>Q (.bl (if neg = true then !(look m y).isSome else (look m y).isSome))
 |_=>False
theorem k'v:Op2 K k (λx y H Q=>rIn K neg x y H Q\/amu neg x y H Q) (wIn neg):=λF B H x y tx ty cx cy Q Q' s b z rx ry hx hy hd p q=>by
 unfold wIn at p;split at p
 ·obtain⟨h1,h2,p⟩:=p;obtain⟨a,vs,ds,rfl,g1,g2,_⟩:=ry.lstH s b hy;obtain⟨a1,a2⟩:=i'H rx h1;obtain⟨b1,b2⟩:=g'A g2 h2;refine .inl ⟨a,vs,rfl,.inl g1,a2,b2,q _ _ F H [] p (Gr.refl' s) ⟨?_,rfl⟩ .nil λ_ m=>nomatch m⟩;rw[a1,b1];cases neg<;>rfl
 ·obtain⟨h1,h2,p⟩:=p;obtain⟨a,vs,rfl,g1,g2⟩:=ry.tupH s;obtain⟨a1,a2⟩:=i'H rx h1;obtain⟨b1,b2⟩:=g'A g2 h2;refine .inl ⟨a,vs,rfl,.inr g1,a2,b2,q _ _ F H [] p (Gr.refl' s) ⟨?_,rfl⟩ .nil λ_ m=>nomatch m⟩;rw[a1,b1];cases neg<;>rfl
 ·obtain⟨a,vs,ds,rfl,g1,g2,g3,_⟩:=ry.dicH s b hy;unfold am2 at p;split at p
  ·rename_i yk ey;obtain rfl:=n'C rx ey;rcases g2.look yk g3 with⟨z1,z2⟩ |⟨x,u,c,a1,a2,_⟩
   ·refine .inr ⟨a,none,rfl,.inl ⟨vs,yk,g1,rfl,z2.symm⟩,q _ _ F H [] p (Gr.refl' s) ⟨?_,rfl⟩ .nil λ_ m=>nomatch m⟩;rw[z1];cases neg<;>rfl
   ·refine .inr ⟨a,some u,rfl,.inl ⟨vs,yk,g1,rfl,a2.symm⟩,q _ _ F H [] p (Gr.refl' s) ⟨?_,rfl⟩ .nil λ_ m=>nomatch m⟩;rw[a1];cases neg<;>rfl
  ·exact p.elim
 ·exact p.elim
theorem e'm:Op2 K k (aoh K) (wIn false):=k'v
theorem h'y:Op2 K k (akJ K) (wIn true):=k'v
def akl(K:W.Frag)(f:Str)(x:Tr)(Q:Tr->Prop):Prop:=match x with
 |.ins _ c fs=>(Cls K c /\ NoAttr K c f) /\ (match fs.lookup f with |some t=>Q t |none=>False)
 |_=>False
theorem Rf.look:∀{fs:List (Str×Tr)}{vs:List (Str×V)}{ds:Cs}{f:Str}{x:Tr},Rf K F B fs vs ds->Cells F H ds->fs.lookup f=some x->∃ u c,vs.lookup f=some u/\R K F B x u c/\Cells F H c/\∀ p∈c,p∈ds:=λ{fs vs ds f x} h hc e=>by
 obtain⟨w,c,pre,post,a1,a2,a3,_⟩:=h.at e;rw[a3] at hc;exact⟨w,c,a1,a2,hc.left.right,λp m=>by rw[a3];exact List.mem_append.mpr (.inl (List.mem_append.mpr (.inr m)))⟩
theorem t'E(h:Sim K k te pe):Sim K k (alx K te f) (p1 (akl K f) pe):=λF B H σ ρ Q Q' c p q=>by
 refine h F B H σ ρ _ _ c p λx v F1 H1 c1 p1 o1=>?_
 unfold akl at p1;split at p1
 ·obtain⟨ok,p1⟩:=p1;split at p1
  ·rename_i t et;obtain⟨a,dx,vs,ds,rfl,h1,h2,h3,h4⟩:=o1.r.insH o1.g.s (λk=>(c.b k).trans o1.g.h) o1.c;obtain⟨u,d,b1,b2,b3,b4⟩:=h2.look h3 et;exact⟨a,_,dx,vs,u,rfl,h1,ok.1,ok.2,b1,q _ _ F1 H1 d p1 ⟨o1.g,b2,b3,λp m=>o1.n p (h4 p (b4 p m))⟩⟩
  ·exact p1.elim
 ·exact p1.elim
def p3(pr:Tr->Tr->Tr->(Tr->Prop)->Prop)(pa pb pc:PE'):PE':=λρ Q=>pa ρ λx=>(match x with |.dic _ _=>True |_=>False)/\pb ρ λy=>pc ρ λz=>pr x y z Q
abbrev PO':=List Tr->(Option Int->Prop)->Prop
def alJ(K:W.Frag)(k:Md)(te:TO)(pe:PO'):Prop:=∀(F:Hp)(B:Bool->Hp)(H:Hp)(σ:St)(ρ:List Tr)(Q:Option Int->Hp->Prop)(Q':Option Int->Prop),Cxt K k F B H σ ρ->pe ρ Q'->(∀ b F' H',Q' b->Gr F H F' H'->Q b H')->te σ H Q
def poN:PO':=λ_ Q=>Q none
def poS(pe:PE'):PO':=λρ Q=>pe ρ λx=>match x with |.int i=>Q (some i) |_=>False
theorem v's:alJ K k akC poN:=λF B H σ ρ Q Q' c p q=>q none F H p (Gr.refl' c.s)
theorem v't(h:Sim K k te pe):alJ K k (alt te) (poS pe):=λF B H σ ρ Q Q' c p q=>by
 refine h F B H σ ρ _ _ c p λx v F1 H1 c1 p1 o1=>?_
 split at p1
 ·obtain⟨rfl,_⟩:=o1.r;exact⟨_,rfl,q _ F1 H1 p1 o1.g⟩
 ·exact p1.elim
def akK{α:Type}(xs:List α)(l h:Option Int):List α:=(xs.drop (HT.sIx xs.length 0 l)).take (HT.sIx xs.length xs.length h - HT.sIx xs.length 0 l)
theorem Rs.drop:∀(n:Nat){xs:List Tr}{vs:List V}{ds:Cs},Rs K F B xs vs ds->Cells F H ds->∃ d,Rs K F B (xs.drop n) (vs.drop n) d/\Cells F H d/\∀ p∈d,p∈ds
 |0,_,_,ds,h,hc=>⟨ds,h,hc,λ_ m=>m⟩
 |n + 1,[],_,ds,⟨h1,h2⟩,_=>⟨[],by rw[h1]; exact⟨rfl,rfl⟩,.nil,λ_ m=>nomatch m⟩
 |n + 1,x :: xs,_,_,⟨v,r,c,d,h1,h2,h3,h4⟩,hc=>by
  rw[h2] at hc;obtain⟨d',a1,a2,a3⟩:=Rs.drop n h4 hc.right;exact⟨d',by rw[h1];exact a1,a2,λp m=>by rw[h2];exact List.mem_append.mpr (.inr (a3 p m))⟩
theorem Rs.take:∀(n:Nat){xs:List Tr}{vs:List V}{ds:Cs},Rs K F B xs vs ds->Cells F H ds->∃ d,Rs K F B (xs.take n) (vs.take n) d/\Cells F H d/\∀ p∈d,p∈ds
 |0,_,_,ds,h,hc=>⟨[],⟨rfl,rfl⟩,.nil,λ_ m=>nomatch m⟩
 |n + 1,[],_,ds,⟨h1,h2⟩,_=>⟨[],by rw[h1]; exact⟨rfl,rfl⟩,.nil,λ_ m=>nomatch m⟩
 |n + 1,x :: xs,_,_,⟨v,r,c,d,h1,h2,h3,h4⟩,hc=>by
  rw[h2] at hc;obtain⟨d',a1,a2,a3⟩:=Rs.take n h4 hc.right;refine⟨c++d',by rw[h1];exact⟨v,_,c,d',rfl,rfl,h3,a1⟩,hc.left.app a2 λp mp q mq=>?_,λp m=>by rw[h2];exact (List.mem_append.mp m).elim (λm=>List.mem_append.mpr (.inl m)) λm=>List.mem_append.mpr (.inr (a3 p m))⟩;have:=hc.nd;rw[List.map_append,List.nodup_append] at this;exact this.2.2 _ (List.mem_map.mpr ⟨p,mp,rfl⟩) _ (List.mem_map.mpr ⟨q,a3 q mq,rfl⟩)
def wSl(x:Tr)(l h:Option Int)(Q:Tr->Prop):Prop:=match x with
 |.lst _ xs=>Q (.lst .o (akK xs l h))
 |.str x=>x.length <= 1000000 /\ Q (.str (Txt.slice x l h))
 |_=>False
def pSl(pe:PE')(pl ph:PO'):PE':=λρ Q=>pe ρ λx=>pl ρ λl=>ph ρ λh=>wSl x l h Q
theorem v'u(h:Sim K k te pe)(hl:alJ K k tl pl)(hh:alJ K k th ph):Sim K k (tSl (aoi K) te tl th) (pSl pe pl ph):=λF B H σ ρ Q Q' c p q=>by
 refine h F B H σ ρ _ _ c p λx v F1 H1 c1 p1 o1=>?_
 refine hl F1 B H1 σ ρ _ _ (c.gr o1.g) p1 λl F2 H2 p2 g2=>?_
 refine hh F2 B H2 σ ρ _ _ ((c.gr o1.g).gr g2) p2 λh F3 H3 p3 g3=>?_
 have g23:=g2.trans' g3;have c3:=(c.gr o1.g).gr g23;have r3:=o1.r.mo g23.le (λk=>Le.refl (B k)) x;have hc3:=o1.c.gr g23;unfold wSl at p3;split at p3
 ·obtain⟨a,vs,ds,rfl,h1,h2,h3,h4⟩:=r3.lstH c3.s c3.b hc3;refine .inl ⟨a,vs,rfl,h1,λl' hl'=>?_⟩;obtain⟨d1,a1,a2,a3⟩:=h2.drop (HT.sIx vs.length 0 l) h3;obtain⟨d2,b1,b2,b3⟩:=a1.take (HT.sIx vs.length vs.length h - HT.sIx vs.length 0 l) a2;obtain⟨n1,n2,n3⟩:=c'x c3.s b1 b2 hl';refine q _ _ F3 _ _ p3 ⟨(o1.g.trans' g23).trans' n1,?_,n3,λp m=>?_⟩
  ·unfold akK;rw[<- h2.length];exact n2
  ·cases m with
   |head=>exact (o1.g.h.trans g23.h).free hl'
   |tail _ m=>exact o1.n p (h4 p (a3 p (b3 p m)))
 ·obtain⟨rfl,_⟩:=r3;exact .inr ⟨_,rfl,c'd p3.1,q _ _ F3 H3 [] p3.2 ⟨o1.g.trans' g23,⟨rfl,rfl⟩,.nil,.nil⟩⟩
 ·exact p3.elim
end
section
def aj2(ix:List (Option Nat))(ρ:List Tr):List Tr:=ix.map λo=>match o with |none=>.hole |some i=>(ρ[i]?).getD .hole
theorem EnvQ.pick(e:EnvQ K F B σ ρ):EnvQ K F B (aiA ix σ) (aj2 ix ρ):=λj t h=>by
 unfold aj2 at h;rw[List.getElem?_map] at h;cases q:ix[j]? with
 |none=>rw[q] at h; cases h
 |some o=>
  rw[q] at h;cases o with
  |none=>cases h;exact .inl rfl
  |some i=>
   cases z:ρ[i]? with
   |none=>
    have h:some ((ρ[i]?).getD .hole)=some t:=h;rw[z] at h;cases h;exact .inl rfl
   |some u=>
    have h:some ((ρ[i]?).getD .hole)=some t:=h;rw[z] at h;cases h;refine (e i u z).imp id λ⟨v,h1,h2⟩=>⟨v,?_,h2⟩
    unfold aiA;rw[List.getElem?_map,q];show some ((σ[i]?).getD none)=_;rw[h1];rfl
theorem m'n:∀{a b:St},a.length=b.length->(∀(i:Nat)(v:V),a[i]?=some (some v)->b[i]?=some (some v))->Wk a b
 |[],[],_,_=>.nil
 |[],_ :: _,h,_=>by cases h
 |_ :: _,[],h,_=>by cases h
 |none :: a,y :: b,h,g=>.non (m'n (Nat.succ.inj h) λi v e=>g (i + 1) v e)
 |some x :: a,y :: b,h,g=>by
  have e:=g 0 x rfl;cases e;exact .som (m'n (Nat.succ.inj h) λi v e=>g (i+1) v e)
def anz(K:W.Frag)(js:List Nat)(tg:TG)(pg:PG'):Prop:=∀(F:Hp)(B:Bool->Hp)(H:Hp)(σ:St)(ρ:List Tr)(x:V)(t:Tr)(Q:St->Hp->Prop)(Q':List Tr->Prop),Same F H->EnvQ K F B σ ρ->σ.length=ρ.length->R K F B t x []->pg t ρ Q'->(∀ σ' ρ',EnvQ K F B σ' ρ'->σ'.length=ρ'.length->σ'.length=σ.length->(∀ i,i ∉ js->σ'[i]?=σ[i]?)->Q' ρ'->Q σ' H)->tg x σ H Q
theorem EnvQ.set(e:EnvQ K F B σ ρ)(hl:σ.length=ρ.length)(r:R K F B t x []):EnvQ K F B (σ.set i (some x)) (ρ.set i t):=λj u h=>by
 by_cases ej:j=i
 ·subst ej;have hj:j<ρ.length:=by have:=r'c h;rw[List.length_set] at this;exact this
  rw[List.getElem?_set_self hj] at h;cases h;exact .inr ⟨x,List.getElem?_set_self (by rw[hl];exact hj),r⟩
 ·rw[List.getElem?_set_ne (λz=>ej z.symm)] at h;exact (e j u h).imp id λ⟨v,h1,h2⟩=>⟨v,by rw[List.getElem?_set_ne (λz=>ej z.symm)];exact h1,h2⟩
theorem v'v:anz K [i] (ajU i) (pgN i):=λF B H σ ρ x t Q Q' s e hl r p q=>q _ _ (e.set hl r) (by rw[List.length_set,List.length_set];exact hl) (by rw[List.length_set]) (λj hj=>List.getElem?_set_ne λz=>hj (by rw[z];exact List.mem_singleton.mpr rfl)) p
def amd:PB':=λ_ Q=>Q true
theorem t'F:ajT K k an5 amd:=λF B H σ ρ Q Q' c p q=>q true F H p (Gr.refl' c.s)
def alK(pi:PI')(pg:PG')(pt:PB')(pe:PE')(ix:List (Option Nat)):PE':=λρ Q=>pi ρ λts _=>∃ I:Nat->List Tr->Prop,I 0 []/\
 (∀ i t acc,ts[i]?=some t->I i acc->pg t (aj2 ix ρ) λρ2=>pt ρ2 λb=>if b=true then pe ρ2 λx=>acc.length<1000000/\I (i+1) (acc++[x]) else I (i+1) acc)/\∀ acc,I ts.length acc->acc.length<=1000000/\Q (.lst .o acc)
theorem q't{wi:TI}{pi:PI'}{js:List Nat}{tg:TG}{pg:PG'}{ti:TT}{pt:PB'}{te:TE}{pe:PE'}{ix:List (Option Nat)}(hi:al9 K k wi pi)(hg:anz K js tg pg)(ht:ajT K k.mute ti pt)(he:Sim K k.mute te pe)(hj:∀ j∈js,ix[j]?=some none):Sim K k (amr wi tg ti te ix) (alK pi pg pt pe ix):=λF B H σ ρ Q Q' c p q=>by
 refine hi F B H σ ρ _ _ c p λts nl J F1 H1 p1 g1 src _=>?_
 obtain⟨I,i0,step,fin⟩:=p1;obtain⟨Kp,Y,ito,kp,yl⟩:=src;have c1:=c.gr g1;refine w'U (n:=ts.length) (λi acc H2=>∃ F2 us cells,Gr F1 H1 F2 H2/\Rs K F2 B us acc cells/\Cells F2 H2 cells/\New H1 cells/\I i us) ⟨F1,[],[],Gr.refl' g1.s,⟨rfl,rfl⟩,.nil,.nil,i0⟩ ?_ ?_ ?_ ?_
 ·rintro i acc H2 hlt ⟨F2,us,cells,g2,_⟩;exact ito.go i H2 hlt (kp F2 H2 g2.le g2.s (c1.gr g2).b)
 ·rintro acc H2 ⟨F2,us,cells,g2,_⟩;exact ito.st H2 (kp F2 H2 g2.le g2.s (c1.gr g2).b)
 ·rintro i x acc H2 H3 hlt ⟨F2,us,cells,g2,r2,hc2,n2,ii⟩ y;have c2:=c1.gr g2;obtain⟨t,et⟩:=r'd hlt;obtain⟨F3,g3,r3⟩:=yl i t F2 H2 x H3 et g2.le g2.s c2.b (ito.yl i H2 x H3 hlt (kp F2 H2 g2.le g2.s c2.b) y);have c3:=c2.gr g3;have hl0:(aiA ix σ).length=(aj2 ix ρ).length:=by unfold aiA aj2;rw[List.length_map,List.length_map]
  refine hg F3 B H3 _ _ x t _ _ c3.s c3.e.pick hl0 r3 (step i t us et ii) λσ2 ρ2 e2 l2 l2' n3 p2=>⟨m'n l2'.symm λj v ej=>?_,?_⟩
  ·by_cases hjs:j∈js
   ·have z:=hj j hjs;unfold aiA at ej;rw[List.getElem?_map,z] at ej;cases ej
   ·rw[n3 j hjs];exact ej
  ·have c3':Cxt K k.mute F3 B H3 σ2 ρ2:=⟨c3.s,c3.b,c3.z,e2,λ_ _ _ h=>h.elim⟩
   refine ht F3 B H3 σ2 ρ2 _ _ c3' p2 λb F4 H4 p4 g4=>?_
   have g24:=g3.trans' g4;cases b with
   |false=>
    rw[if_neg (by decide)] at p4 ⊢;exact⟨F4,us,cells,g2.trans' g24,r2.mo g24.le (λk=>Le.refl (B k)) us,hc2.gr g24,n2,p4⟩
   |true=>
    rw[if_pos rfl] at p4 ⊢;refine he F4 B H4 σ2 ρ2 _ _ (c3'.gr g4) p4 λu v F5 H5 c5 p5 o5=>?_
    have g25:=g24.trans' o5.g;refine⟨Nat.lt_of_lt_of_le (by rw[r2.length];exact p5.1) (by decide),F5,us++[u],cells++c5,g2.trans' g25,(r2.mo g25.le (λk=>Le.refl (B k)) us).snoc o5.r,(hc2.gr g25).app o5.c λp mp q mq e=>?_,λp m=>?_,p5.2⟩
    ·have:=(hc2.gr g24).h p mp;rw[e,o5.n q mq] at this;cases this
    ·rcases List.mem_append.mp m with m |m
     ·exact n2 p m
     ·exact (g2.h.trans g24.h).free (o5.n p m)
 ·rintro acc H2 ⟨F2,us,cells,g2,r2,hc2,n2,ii⟩;obtain⟨hl,hq⟩:=fin us ii;refine⟨by rw[r2.length];exact c'd hl,λa ha=>?_⟩;obtain⟨m1,m2,m3⟩:=c'x g2.s r2 hc2 ha;refine q _ _ F2 _ _ hq ⟨(g1.trans' g2).trans' m1,m2,m3,λp m=>?_⟩;cases m with
  |head=>exact (g1.h.trans g2.h).free ha
  |tail _ m=>exact g1.h.free (n2 p m)
end
mutual
def eqd:Tr->Tr->Option Bool
 |.tup xs,.tup ys=>if xs.length = ys.length then eqds xs ys else none
 |.lst _ xs,.lst _ ys=>if xs.length = ys.length then eqds xs ys else some false
 |.int a,.int b=>some (decide (a = b))
 |.str a,.str b=>some (decide (a = b))
 |.bl a,.bl b=>some (decide (a = b))
 |.non,.non=>some true
 |_,_=>none
def eqds:List Tr->List Tr->Option Bool
 |[],[]=>some true
 |x :: xs,y :: ys=>(eqd x y).bind λa=>(eqds xs ys).bind λb=>some (a && b)
 |_,_=>none
end
mutual
def dep:Tr->Nat
 |.tup xs=>deps xs + 1
 |.lst _ xs=>deps xs + 1
 |_=>0
def deps:List Tr->Nat
 |[]=>0
 |x :: xs=>max (dep x) (deps xs)
end
section
mutual
theorem i'I(I:Inv X pins σ H s)(sf:Same F H)(sb:∀ k,Same (B k) H):∀(t:Tr)(t':Tr)(v:V)(c c':Cs)(b:Bool),eqd t t'=some b->R X.K F B t v c->R X.K F B t' v c'->Cells F H c->Cells F H c'->b=true
 |.tup xs=>λt' v c c' b e r r' hc hc'=>by
  cases t' with
  |tup ys=>
   unfold eqd at e;split at e
   ·obtain⟨a,vs,rfl,h1,h2⟩:=r.tupH sf;obtain⟨a',vs',e',g1,g2⟩:=r'.tupH sf;cases e';have z:=s'G I h1 g1;subst z;exact eqds_fn I sf sb xs ys vs c c' b e h2 g2 hc hc'
   ·cases e
  |_=>cases e
 |.lst f xs=>λt' v c c' b e r r' hc hc'=>by
  cases t' with
  |lst f' ys=>
   unfold eqd at e;obtain⟨a,vs,ds,rfl,h1,h2,h3,_⟩:=r.lstH sf sb hc;obtain⟨a',vs',ds',e',g1,g2,g3,_⟩:=r'.lstH sf sb hc';cases e';have z:=s'H I h1 g1;subst z;split at e
   ·exact eqds_fn I sf sb xs ys vs ds ds' b e h2 g2 h3 g3
   ·rename_i hl;exact absurd (h2.length.symm.trans g2.length) hl
  |_=>cases e
 |.int a=>λt' v c c' b e r r' _ _=>by
  cases t' with
  |int a'=>cases e;have:=r.1.symm.trans r'.1;cases this;exact decide_eq_true rfl
  |_=>cases e
 |.str a=>λt' v c c' b e r r' _ _=>by
  cases t' with
  |str a'=>cases e;have:=r.1.symm.trans r'.1;cases this;exact decide_eq_true rfl
  |_=>cases e
 |.bl a=>λt' v c c' b e r r' _ _=>by
  cases t' with
  |bl a'=>cases e;have:=r.1.symm.trans r'.1;cases this;exact decide_eq_true rfl
  |_=>cases e
 |.non=>λt' v c c' b e r r' _ _=>by
  cases t' with
  |non=>cases e;rfl
  |_=>cases e
 |.hole=>λt' v c c' b e _ _ _ _=>by cases t' <;> cases e
 |.ty _=>λt' v c c' b e _ _ _ _=>by cases t' <;> cases e
 |.cl _=>λt' v c c' b e _ _ _ _=>by cases t' <;> cases e
 |.exc _=>λt' v c c' b e _ _ _ _=>by cases t' <;> cases e
 |.dic _ _=>λt' v c c' b e _ _ _ _=>by cases t' <;> cases e
 |.ins _ _ _=>λt' v c c' b e _ _ _ _=>by cases t' <;> cases e
theorem eqds_fn(I:Inv X pins σ H s)(sf:Same F H)(sb:∀ k,Same (B k) H):∀(ts:List Tr)(ts':List Tr)(vs:List V)(c c':Cs)(b:Bool),eqds ts ts'=some b->Rs X.K F B ts vs c->Rs X.K F B ts' vs c'->Cells F H c->Cells F H c'->b=true
 |[]=>λts' vs c c' b e _ _ _ _=>by
  cases ts' with
  |nil=>cases e;rfl
  |cons _ _=>cases e
 |x :: xs=>λts' vs c c' b e r r' hc hc'=>by
  cases ts' with
  |nil=>cases e
  |cons y ys=>
   obtain⟨v,r,c1,d1,h1,h2,h3,h4⟩:=r;obtain⟨v',r',c2,d2,g1,g2,g3,g4⟩:=r';rw[h1] at g1;cases g1;rw[h2] at hc;rw[g2] at hc';unfold eqds at e;cases e1:eqd x y with
   |none=>rw[e1] at e;cases e
   |some a=>
    cases e2:eqds xs ys with
    |none=>rw[e1,e2] at e;cases e
    |some a'=>
     rw[e1,e2] at e;cases e;rw[i'I I sf sb x y v c1 c2 a e1 h3 g3 hc.left hc'.left,eqds_fn I sf sb xs ys r d1 d2 a' e2 h4 g4 hc.right hc'.right];rfl
end
def eqL(ts ts':List Tr)(j:Nat):Bool:=match ts[j]?,ts'[j]? with |some x,some y=>(eqd x y).getD false |_,_=>false
theorem b'W:∀{ts ts':List Tr}{b:Bool},eqds ts ts'=some b->(List.range ts.length).all (eqL ts ts')=b/\∀(j:Nat)(x y:Tr),ts[j]?=some x->ts'[j]?=some y->eqd x y=some (eqL ts ts' j)
 |[],[],b,e=>by cases e; exact⟨rfl,λj x y h=>by cases h⟩
 |[],_ :: _,b,e=>by cases e
 |_ :: _,[],b,e=>by cases e
 |x :: xs,y :: ys,b,e=>by
  unfold eqds at e;cases e1:eqd x y with
  |none=>rw[e1] at e;cases e
  |some a=>
   cases e2:eqds xs ys with
   |none=>rw[e1,e2] at e;cases e
   |some a'=>
    rw[e1,e2] at e;cases e;obtain⟨h1,h2⟩:=b'W e2;refine⟨?_,λj u w hu hw=>?_⟩
    ·rw[List.length_cons,List.range_succ_eq_map,List.all_cons,List.all_map];have z0:eqL (x :: xs) (y :: ys) 0=a:=by show (eqd x y).getD false=a;rw[e1];rfl
     rw[z0,<- h1];rfl
    ·cases j with
     |zero=>cases hu;cases hw;show eqd x y=some ((eqd x y).getD false);rw[e1];rfl
     |succ j=>exact h2 j u w hu hw
mutual
theorem v'w(I:Inv X pins σ H s)(sf:Same F H)(sb:∀ k,Same (B k) H):∀(t:Tr)(t':Tr)(Au:Around)(v v':V)(c c':Cs)(b:Bool)(u u':Value),eqd t t'=some b->R X.K F B t v c->R X.K F B t' v' c'->Cells F H c->Cells F H c'->RelV v u->RelV v' u'->Au.units+dep t<cLine->SeqAt.EqAt Au s u u' b
 |.tup xs=>λt' Au v v' c c' b u u' e r r' hc hc' ru ru' hu=>by
  cases t' with
  |tup ys=>
   have fn:=λ(z:v=v')=>i'I I sf sb (.tup xs) (.tup ys) v' c c' b e (z ▸ r) r' hc hc'
   unfold eqd at e;split at e
   ·rename_i hl;obtain⟨a,vs,rfl,h1,h2⟩:=r.tupH sf;obtain⟨a',vs',rfl,g1,g2⟩:=r'.tupH sf;obtain rfl:u=Value.ref a:=ru;obtain rfl:u'=Value.ref a':=ru';by_cases z:a=a'
    ·rw[fn (by rw[z]),z];exact SeqAt.EqAt.same _
    ·unfold dep at hu;obtain⟨al,ix⟩:=b'W e;have rc:=k'p (Au:=Au) I h1 g1 (by omega) (by rw[h2.length,g2.length];exact hl) (eqL xs ys) (λj x y p q ex ey rx ry=>eqds_at I sf sb xs ys (eqL xs ys) Au.in1 vs vs' c c' j x y p q ix h2 g2 hc hc' ex ey rx ry (by rw[b'J];omega));rw[h2.length,al] at rc;exact SeqAt.EqAt.of_refs z rc
   ·cases e
  |_=>cases e
 |.lst f xs=>λt' Au v v' c c' b u u' e r r' hc hc' ru ru' hu=>by
  cases t' with
  |lst f' ys=>
   have fn:=λ(z:v=v')=>i'I I sf sb (.lst f xs) (.lst f' ys) v' c c' b e (z ▸ r) r' hc hc'
   unfold eqd at e;obtain⟨a,vs,ds,rfl,h1,h2,h3,_⟩:=r.lstH sf sb hc;obtain⟨a',vs',ds',rfl,g1,g2,g3,_⟩:=r'.lstH sf sb hc';obtain rfl:u=Value.ref a:=ru;obtain rfl:u'=Value.ref a':=ru';unfold dep at hu;by_cases z:a=a'
   ·rw[fn (by rw[z]),z];exact SeqAt.EqAt.same _
   ·split at e
    ·rename_i hl;obtain⟨al,ix⟩:=b'W e;have rc:=k'q (Au:=Au) I h1 g1 (by omega) (by rw[h2.length,g2.length];exact hl) (eqL xs ys) (λj x y p q ex ey rx ry=>eqds_at I sf sb xs ys (eqL xs ys) Au.in1 vs vs' ds ds' j x y p q ix h2 g2 h3 g3 ex ey rx ry (by rw[b'J];omega));rw[h2.length,al] at rc;exact SeqAt.EqAt.of_refs z rc
    ·rename_i hl;cases e;obtain⟨us,r1,t1,_⟩:=I.list h1;obtain⟨zs,r2,t2,_⟩:=I.list g1;have m1:=r1.length;have m2:=r2.length;have l1:=h2.length;have l2:=g2.length;exact SeqAt.EqAt.of_refs z (SeqAt.RcAt.lists_lengths t1.isList t2.isList (by simp;omega) (by omega))
  |_=>cases e
 |.int a=>λt' Au v v' c c' b u u' e r r' _ _ ru ru' _=>by
  cases t' with
  |int a'=>cases e;rw[r.1] at ru;rw[r'.1] at ru';exact p'Q ru ru'
  |_=>cases e
 |.str a=>λt' Au v v' c c' b u u' e r r' _ _ ru ru' _=>by
  cases t' with
  |str a'=>
   cases e;rw[r.1] at ru;rw[r'.1] at ru';have z:=e'f (A:=Au) (s:=s) ru ru' rfl rfl;have e:eqV (.str a) (.str a')=decide (a=a'):=by show (a == a')=_;rw[Bool.beq_eq_decide_eq]
   rw[e] at z;exact z
  |_=>cases e
 |.bl a=>λt' Au v v' c c' b u u' e r r' _ _ ru ru' _=>by
  cases t' with
  |bl a'=>
   cases e;rw[r.1] at ru;rw[r'.1] at ru';have z:=e'f (A:=Au) (s:=s) ru ru' rfl rfl;have e:eqV (.bl a) (.bl a')=decide (a=a'):=by show (a == a')=_;rw[Bool.beq_eq_decide_eq]
   rw[e] at z;exact z
  |_=>cases e
 |.non=>λt' Au v v' c c' b u u' e r r' _ _ ru ru' _=>by
  cases t' with
  |non=>cases e;rw[r.1] at ru;rw[r'.1] at ru';exact e'f (A:=Au) (s:=s) ru ru' rfl rfl
  |_=>cases e
 |.hole=>λt' Au v v' c c' b u u' e _ _ _ _ _ _ _=>by cases t' <;> cases e
 |.ty _=>λt' Au v v' c c' b u u' e _ _ _ _ _ _ _=>by cases t' <;> cases e
 |.cl _=>λt' Au v v' c c' b u u' e _ _ _ _ _ _ _=>by cases t' <;> cases e
 |.exc _=>λt' Au v v' c c' b u u' e _ _ _ _ _ _ _=>by cases t' <;> cases e
 |.dic _ _=>λt' Au v v' c c' b u u' e _ _ _ _ _ _ _=>by cases t' <;> cases e
 |.ins _ _ _=>λt' Au v v' c c' b u u' e _ _ _ _ _ _ _=>by cases t' <;> cases e
theorem eqds_at(I:Inv X pins σ H s)(sf:Same F H)(sb:∀ k,Same (B k) H):∀(ts:List Tr)(ts':List Tr)(e:Nat->Bool)(Au:Around)(vs vs':List V)(c c':Cs)(j:Nat)(x y:V)(u u':Value),(∀(j:Nat)(x y:Tr),ts[j]?=some x->ts'[j]?=some y->eqd x y=some (e j))->Rs X.K F B ts vs c->Rs X.K F B ts' vs' c'->Cells F H c->Cells F H c'->vs[j]?=some x->vs'[j]?=some y->RelV x u->RelV y u'->Au.units+deps ts<cLine->SeqAt.EqAt Au s u u' (e j)
 |[]=>λts' e Au vs vs' c c' j x y u u' _ r _ _ _ ex _ _ _ _=>by rw[r.1] at ex; cases ex
 |t :: ts=>λts' e Au vs vs' c c' j x y u u' ix r r' hc hc' ex ey ru ru' hu=>by
  cases ts' with
  |nil=>rw[r'.1] at ey;cases ey
  |cons t' ts'=>
   obtain⟨v,r,c1,d1,h1,h2,h3,h4⟩:=r;obtain⟨v',r',c2,d2,g1,g2,g3,g4⟩:=r';rw[h1] at ex;rw[g1] at ey;rw[h2] at hc;rw[g2] at hc';unfold deps at hu;cases j with
   |zero=>
    cases ex;cases ey;exact v'w I sf sb t t' Au _ _ c1 c2 (e 0) u u' (ix 0 t t' rfl rfl) h3 g3 hc.left hc'.left ru ru' (by omega)
   |succ j=>exact eqds_at I sf sb ts ts' (λi=>e (i+1)) Au r r' d1 d2 j x y u u' (λi a b ha hb=>ix (i+1) a b ha hb) h4 g4 hc.right hc'.right ex ey ru ru' (by omega)
end
theorem t'G(I:Inv X pins σ H s)(h1:SqT X.K H a xs)(h2:SqT X.K H b ys)(hu:Au.units<cLine)(hl:xs.length=ys.length)(e:Nat->Bool)(he:∀(j:Nat) x y u v,xs[j]?=some x->ys[j]?=some y->RelV x u->RelV y v->SeqAt.EqAt Au.in1 s u v (e j)):SeqAt.RcNeAt Au s (.ref a) (.ref b) (!(List.range xs.length).all e):=by
 obtain⟨us,r1,t1,_⟩:=I.tuple h1;obtain⟨ws,r2,t2,_⟩:=I.tuple h2;have l1:=r1.length;have l2:=r2.length;have z:=SeqAt.RcNeAt.tuples (A:=Au) (e:=e) t1 t2 hu (λj h1 h2=>?_)
 ·have e0:((List.range (min us.toArray.size ws.toArray.size)).all e && us.toArray.size == ws.toArray.size)=(List.range xs.length).all e:=by
   simp only[List.size_toArray];have e1:min us.length ws.length=xs.length:=by omega
   have e2:(us.length == ws.length)=true:=by simp;omega
   rw[e1,e2,Bool.and_true]
  rw[e0] at z;exact z
 ·simp only[List.size_toArray] at h1 h2;obtain⟨u,e1,ru⟩:=r1.get (i:=j) (x:=xs[j]'(by omega)) (by simp);obtain⟨v,e2,rv⟩:=r2.get (i:=j) (x:=ys[j]'(by omega)) (by simp);obtain⟨_,f1⟩:=List.getElem?_eq_some_iff.mp e1;obtain⟨_,f2⟩:=List.getElem?_eq_some_iff.mp e2;have g1:us.toArray[j]'(by simpa using h1)=u:=by simpa using f1
  have g2:ws.toArray[j]'(by simpa using h2)=v:=by simpa using f2
  rw[g1,g2];exact he j _ _ u v (by simp) (by simp) ru rv
def am3(K:W.Frag)(neg:Bool):R2:=λx y H Q=>∃(F:Hp)(B:Bool->Hp)(t t':Tr)(c c':Cs)(b:Bool),Same F H/\(∀ k,Same (B k) H)/\R K F B t x c/\R K F B t' y c'/\Cells F H c/\Cells F H c'/\eqd t t'=some b/\dep t<=60/\1<=dep t/\Q (.bl (if neg=true then !b else b)) H
theorem v'x(hu:X.A.units+64<cLine):OpR X (compareOp .Eq) (am3 X.K false):=by
 intro pins s σ H x y v u Q I rx ry h;obtain⟨F,B,t,t',c,c',b,sf,sb,r,r',hc,hc',e,d,d1,q⟩:=h;have fin:∀{p p':Addr},SeqAt.RcAt X.A s (.ref p) (.ref p') b->wpAny (model X.prog X.w) X.A (compareOp .Eq (.ref p) (.ref p')) (EP X pins σ Q) X.xe s:=λrc=>rc X.prog X.w X.xe _ ⟨.bl b,H,I,rfl,q⟩
 cases t with
 |tup xs=>
  cases t' with
  |tup ys=>
   unfold eqd at e;unfold dep at d;split at e
   ·rename_i hl;obtain⟨a,vs,rfl,h1,h2⟩:=r.tupH sf;obtain⟨a',vs',rfl,g1,g2⟩:=r'.tupH sf;obtain rfl:v=Value.ref a:=rx;obtain rfl:u=Value.ref a':=ry;obtain⟨al,ix⟩:=b'W e;have rc:=k'p (Au:=X.A) I h1 g1 (by omega) (by rw[h2.length,g2.length];exact hl) (eqL xs ys) (λj x y p q ex ey rx ry=>eqds_at I sf sb xs ys (eqL xs ys) X.A.in1 vs vs' c c' j x y p q ix h2 g2 hc hc' ex ey rx ry (by rw[b'J];omega));rw[h2.length,al] at rc;exact fin rc
   ·cases e
  |_=>cases e
 |lst f xs=>
  cases t' with
  |lst f' ys=>
   unfold eqd at e;unfold dep at d;obtain⟨a,vs,ds,rfl,h1,h2,h3,_⟩:=r.lstH sf sb hc;obtain⟨a',vs',ds',rfl,g1,g2,g3,_⟩:=r'.lstH sf sb hc';obtain rfl:v=Value.ref a:=rx;obtain rfl:u=Value.ref a':=ry;split at e
   ·rename_i hl;obtain⟨al,ix⟩:=b'W e;have rc:=k'q (Au:=X.A) I h1 g1 (by omega) (by rw[h2.length,g2.length];exact hl) (eqL xs ys) (λj x y p q ex ey rx ry=>eqds_at I sf sb xs ys (eqL xs ys) X.A.in1 vs vs' ds ds' j x y p q ix h2 g2 h3 g3 ex ey rx ry (by rw[b'J];omega));rw[h2.length,al] at rc;exact fin rc
   ·rename_i hl;cases e;obtain⟨us,r1,t1,_⟩:=I.list h1;obtain⟨zs,r2,t2,_⟩:=I.list g1;have m1:=r1.length;have m2:=r2.length;have l1:=h2.length;have l2:=g2.length;exact fin (SeqAt.RcAt.lists_lengths t1.isList t2.isList (by simp;omega) (by omega))
  |_=>cases e
 |_=>exact absurd d1 (by unfold dep; decide)
theorem v'y(hu:X.A.units+64<cLine):OpR X (compareOp .NotEq) (am3 X.K true):=by
 intro pins s σ H x y v u Q I rx ry h;obtain⟨F,B,t,t',c,c',b,sf,sb,r,r',hc,hc',e,d,d1,q⟩:=h;have fin:∀{p p':Addr},SeqAt.RcNeAt X.A s (.ref p) (.ref p') (!b)->wpAny (model X.prog X.w) X.A (compareOp .NotEq (.ref p) (.ref p')) (EP X pins σ Q) X.xe s:=λrc=>rc X.prog X.w X.xe _ ⟨.bl (!b),H,I,rfl,q⟩
 cases t with
 |tup xs=>
  cases t' with
  |tup ys=>
   unfold eqd at e;unfold dep at d;split at e
   ·rename_i hl;obtain⟨a,vs,rfl,h1,h2⟩:=r.tupH sf;obtain⟨a',vs',rfl,g1,g2⟩:=r'.tupH sf;obtain rfl:v=Value.ref a:=rx;obtain rfl:u=Value.ref a':=ry;obtain⟨al,ix⟩:=b'W e;have rc:=t'G (Au:=X.A) I h1 g1 (by omega) (by rw[h2.length,g2.length];exact hl) (eqL xs ys) (λj x y p q ex ey rx ry=>eqds_at I sf sb xs ys (eqL xs ys) X.A.in1 vs vs' c c' j x y p q ix h2 g2 hc hc' ex ey rx ry (by rw[b'J];omega));rw[h2.length,al] at rc;exact fin rc
   ·cases e
  |_=>cases e
 |lst f xs=>
  cases t' with
  |lst f' ys=>
   unfold eqd at e;unfold dep at d;obtain⟨a,vs,ds,rfl,h1,h2,h3,_⟩:=r.lstH sf sb hc;obtain⟨a',vs',ds',rfl,g1,g2,g3,_⟩:=r'.lstH sf sb hc';obtain rfl:v=Value.ref a:=rx;obtain rfl:u=Value.ref a':=ry;split at e
   ·rename_i hl;obtain⟨al,ix⟩:=b'W e;have rc:=s'N (Au:=X.A) I h1 g1 (by omega) (by rw[h2.length,g2.length];exact hl) (eqL xs ys) (λj x y p q ex ey rx ry=>eqds_at I sf sb xs ys (eqL xs ys) X.A.in1 vs vs' ds ds' j x y p q ix h2 g2 h3 g3 ex ey rx ry (by rw[b'J];omega));rw[h2.length,al] at rc;exact fin rc
   ·rename_i hl;cases e;obtain⟨us,r1,t1,_⟩:=I.list h1;obtain⟨zs,r2,t2,_⟩:=I.list g1;have m1:=r1.length;have m2:=r2.length;have l1:=h2.length;have l2:=g2.length;exact fin (SeqAt.RcNeAt.lists_lengths (A:=X.A) t1.isList t2.isList (by simp;omega) (by omega))
  |_=>cases e
 |_=>exact absurd d1 (by unfold dep; decide)
def aoj(K:W.Frag):R2:=λx y H Q=>rEq x y H Q\/am3 K false x y H Q
theorem a'y(hu:X.A.units+64<cLine):OpR X (compareOp .Eq) (aoj X.K):=am8.or (v'x hu)
def aok(K:W.Frag):R2:=λx y H Q=>rNe x y H Q\/am3 K true x y H Q
theorem d'I(hu:X.A.units+64<cLine):OpR X (compareOp .NotEq) (aok X.K):=am9.or (v'y hu)
def wEq(neg:Bool)(x y:Tr)(Q:Tr->Prop):Prop:=match x,y with
 |.int a,.int b=>Q (.bl (if neg = true then !decide (a = b) else decide (a = b)))
 |.str a,.str b=>Q (.bl (if neg = true then !decide (a = b) else decide (a = b)))
 |.bl a,.bl b=>Q (.bl (if neg = true then !decide (a = b) else decide (a = b)))
 |x,y=>amx neg x y Q \/ ∃ b,eqd x y = some b /\ dep x <= 60 /\ 1 <= dep x /\ Q (.bl (if neg = true then !b else b))
theorem a'm:Op2 K k (aoj K) (wEq false):=λF B H x y tx ty cx cy Q Q' s b z rx ry hx hy hd p q=>by
 unfold wEq at p;split at p
 ·obtain⟨rfl,_⟩:=rx;obtain⟨rfl,_⟩:=ry;refine .inl ⟨rfl,q _ _ F H [] p (Gr.refl' s) ⟨?_,rfl⟩ .nil λ_ m=>nomatch m⟩;exact congrArg V.bl (decide_eq_decide.mpr ⟨λh=>V.int.inj h,λh=>by rw[h]⟩)
 ·obtain⟨rfl,_⟩:=rx;obtain⟨rfl,_⟩:=ry;refine .inl ⟨rfl,q _ _ F H [] p (Gr.refl' s) ⟨?_,rfl⟩ .nil λ_ m=>nomatch m⟩;exact congrArg V.bl (decide_eq_decide.mpr ⟨λh=>V.str.inj h,λh=>by rw[h]⟩)
 ·obtain⟨rfl,_⟩:=rx;obtain⟨rfl,_⟩:=ry;refine .inl ⟨rfl,q _ _ F H [] p (Gr.refl' s) ⟨?_,rfl⟩ .nil λ_ m=>nomatch m⟩;exact congrArg V.bl (decide_eq_decide.mpr ⟨λh=>V.bl.inj h,λh=>by rw[h]⟩)
 ·rcases p with p |p
  ·exact .inl (t'n (k:=k) F B H x y tx ty cx cy Q Q' s b z rx ry hx hy hd p q)
  ·obtain⟨bb,e,d,d1,p⟩:=p;exact .inr ⟨F,B,tx,ty,cx,cy,bb,s,b,rx,ry,hx,hy,e,d,d1,q _ _ F H [] p (Gr.refl' s) ⟨rfl,rfl⟩ .nil λ_ m=>nomatch m⟩
theorem b'z:Op2 K k (aok K) (wEq true):=λF B H x y tx ty cx cy Q Q' s b z rx ry hx hy hd p q=>by
 unfold wEq at p;split at p
 ·obtain⟨rfl,_⟩:=rx;obtain⟨rfl,_⟩:=ry;refine .inl ⟨rfl,q _ _ F H [] p (Gr.refl' s) ⟨?_,rfl⟩ .nil λ_ m=>nomatch m⟩;exact congrArg (λb=>V.bl (!b)) (decide_eq_decide.mpr ⟨λh=>V.int.inj h,λh=>by rw[h]⟩)
 ·obtain⟨rfl,_⟩:=rx;obtain⟨rfl,_⟩:=ry;refine .inl ⟨rfl,q _ _ F H [] p (Gr.refl' s) ⟨?_,rfl⟩ .nil λ_ m=>nomatch m⟩;exact congrArg (λb=>V.bl (!b)) (decide_eq_decide.mpr ⟨λh=>V.str.inj h,λh=>by rw[h]⟩)
 ·obtain⟨rfl,_⟩:=rx;obtain⟨rfl,_⟩:=ry;refine .inl ⟨rfl,q _ _ F H [] p (Gr.refl' s) ⟨?_,rfl⟩ .nil λ_ m=>nomatch m⟩;exact congrArg (λb=>V.bl (!b)) (decide_eq_decide.mpr ⟨λh=>V.bl.inj h,λh=>by rw[h]⟩)
 ·rcases p with p |p
  ·exact .inl (t'o (k:=k) F B H x y tx ty cx cy Q Q' s b z rx ry hx hy hd p q)
  ·obtain⟨bb,e,d,d1,p⟩:=p;exact .inr ⟨F,B,tx,ty,cx,cy,bb,s,b,rx,ry,hx,hy,e,d,d1,q _ _ F H [] p (Gr.refl' s) ⟨rfl,rfl⟩ .nil λ_ m=>nomatch m⟩
end
def tOf(K:W.Frag)(k:Md)(pe:PE'):TE:=λσ H Q=>∃(F:Hp)(B:Bool->Hp)(ρ:List Tr)(Q':Tr->Prop),Cxt K k F B H σ ρ/\pe ρ Q'/\∀ t v F' H' cs,Q' t->Out K F B H F' H' t v cs->Q v H'
def aol(K:W.Frag)(k:Md)(pe:PB'):TT:=λσ H Q=>∃(F:Hp)(B:Bool->Hp)(ρ:List Tr)(Q':Bool->Prop),Cxt K k F B H σ ρ/\pe ρ Q'/\∀ b F' H',Q' b->Gr F H F' H'->Q b H'
section
theorem QE.of(h:QE X k e pe):PE X e (tOf X.K k pe):=λpins s σ H Q I ⟨F,B,ρ,Q',h1,h2,h3⟩=>by
 obtain⟨te,g1,g2⟩:=h.h;exact g1 pins s σ H Q I (g2 F B H σ ρ Q Q' h1 h2 h3)
theorem v'z:Sim K k (tOf K k pe) pe:=λF B H σ ρ Q Q' h1 h2 h3=>⟨F,B,ρ,Q',h1,h2,h3⟩
theorem t'H:ajT K k (aol K k pe) pe:=λF B H σ ρ Q Q' h1 h2 h3=>⟨F,B,ρ,Q',h1,h2,h3⟩
theorem i'e(ha:QE X k a pa)(hb:QE X k b pb):QE X k (.BinOp a .Pow b pos) (p2 (ajl anR λi j=>.int (i ^ j.toNat)) pa pb):=e'M u'F (m'l λ_ _ _ _=>⟨rfl,rfl⟩) ha hb
theorem b't(hc:CallR X (.type T) r)(ho:OpA X.K k r pr)(hg:Gl X x)(hm:X.mg x=none)(hv:bootBuiltins x=some (.type T))(ha:QA X k (e :: es) ps)(hn:x≠"__name__":=by decide)(hdb:(x == ("__debug__":Str))=false:=by decide)(he:starEach (e :: es) X.env=(false,eval e X.env) :: starEach es X.env:=by rfl)(hpl:(backTo pos (starEach es X.env)).any (·.1)=false:=by rfl):
  QE X k (.Call (.Name x p) (e :: es) [] pos) (pB pr ps):=by
 obtain⟨ta,h1,h2⟩:=ha.h;exact⟨_,e'e hc hg hm hv h1 hn hdb he hpl,n'E ho h2⟩
theorem w'Y(h:QE X k e pe)(hb:attributeBase e f X.env (eval e X.env)=eval e X.env:=by rfl):QE X k (.Attribute e f pos) (p1 (akl X.K f) pe):=by
 obtain⟨te,h1,h2⟩:=h.h;exact⟨_,s'Y h1 hb,t'E h2⟩
structure QO(X:Cx)(k:Md)(e:Option Expr)(pe:PO'):Prop where
 h:∃ te,PO X e te/\alJ X.K k te pe
theorem m'o:QO X k none poN:=⟨_,s'B,v's⟩
theorem e'n(h:QE X k e pe):QO X k (some e) (poS pe):=by
 obtain⟨te,h1,h2⟩:=h.h;exact⟨_,s'C h1,v't h2⟩
theorem i'J{e:Expr}{pe:PE'}{l h:Option Expr}{pl ph:PO'}{p2:Pos}(he:QE X k e pe)(hl:QO X k l pl)(hh:QO X k h ph):QE X k (.Subscript e (.Slice l h none p2) pos) (pSl pe pl ph):=by
 obtain⟨te,h1,h2⟩:=he.h;obtain⟨tf,g1,g2⟩:=hl.h;obtain⟨tg,f1,f2⟩:=hh.h;exact⟨_,i'm x's h1 g1 f1,v'u h2 g2 f2⟩
structure QG(X:Cx)(k:Md)(lo:Nat)(e:Expr)(pg:PG'):Prop where
 h:∃ tg,PG X e tg/\ans X.K k lo tg pg
theorem v'A(hN:X.N.Nodup)(hl:lo<=i)(hi:X.N[i]?=some x)(hx:Loc X.env.scope x)(hf:X.fn x=true\/X.env.scope.names.lookup x=some .local:=by first |exact .inl rfl |exact .inr rfl |assumption):QG X k lo (.Name x pos) (pgN i):=⟨_,k'f hN hi hx hf,v'o hl⟩
structure QI(X:Cx)(k:Md)(tg e:Expr)(pi:PI'):Prop where
 h:∃ ti,PI X tg e ti/\al9 X.K k ti pi
section
theorem q'u(h:QE X k l pl):QI X k tg l (piL pl):=by
 obtain⟨te,h1,h2⟩:=h.h;exact⟨_,s'u h1,n'G h2⟩
theorem r'f(hg:Gl X "range")(hm:X.mg "range"=none)(h:QA X k [l] ps)(hs:starEach [l] X.env=[(false,eval l X.env)]:=by rfl):QI X k tg (.Call (.Name "range" p) [l] [] pos) (anv ps):=by
 obtain⟨te,h1,h2⟩:=h.h;exact⟨_,m'S hg hm h1 hs,t'C h2⟩
end
theorem a'k(hN:X.N.Nodup)(hl:lo<=i)(hi:X.N[i]?=some x)(hx:Loc X.env.scope x)(h:QE X k e pe)(hs:swapsWith e (some (.Name x pos')) pos.line X.env=pure false:=by rfl)(hf:X.fn x=true\/X.env.scope.names.lookup x=some .local:=by first |exact .inl rfl |exact .inr rfl |assumption):
  QS X k lo (.Assign [.Name x pos'] e pos) (ak6 i pe):=by
 obtain⟨te,h1,h2⟩:=h.h;exact⟨_,e'b hN hi hx h1 hs hf,q'n hl h2⟩
theorem w'Z{i j:Nat}{x y:Str}{ps:PA'}{px py pt pt2:Pos}{kt k2:Nat}(hc:X.calm=true)(hN:X.N.Nodup)(hl:lo<=i)(hl':lo<=j)(hi:X.N[i]?=some x)(hj:X.N[j]?=some y)(hij:i≠j)(hx:X.env.scope.names.lookup x=some .local)(hy:X.env.scope.names.lookup y=some .local)(h:QA X k [a,b] ps)(hs:swappedStores [.Tuple [.Name x px,.Name y py] kt pt] (.Tuple [a,b] k2 pt2) X.env=pure (some [x,y]))(hw:swapsWithSole [.Tuple [.Name x px,.Name y py] kt pt] (.Tuple [a,b] k2 pt2) pos.line X.env=pure false:=by rfl):QS X k lo (.Assign [.Tuple [.Name x px,.Name y py] kt pt] (.Tuple [a,b] k2 pt2) pos) (ant i j ps):=by
 obtain⟨te,h1,h2⟩:=h.h;exact⟨_,u'A hc hN hi hj hij hx hy h1 hs hw,t'y hl hl' h2⟩
theorem r'g(hp:PassesOwn (model X.prog X.w) X.A X.env X.xe)(hc:X.calm=true)(hi:QI X k tg iter pi)(hg:QG X k lo tg pg)(hb:QB X k lo body pb)(hs:∀ x,foldedSetIterable iter X.env x=pure x:=by intro _;rfl):QS X k lo (.For tg iter body [] pos) (anu pi pg pb):=by
 obtain⟨te,h1,h2⟩:=hi.h;obtain⟨tf,g1,g2⟩:=hg.h;obtain⟨tb,b1,b2⟩:=hb.h;exact⟨_,u'B hp hc h1 g1 b1 hs,t'A h2 g2 b2⟩
theorem a'Q(i:Nat)(hN:X.N[i]?=some x:=by rfl)(hv:Vis X.env.scope x:=by first |exact Or.inl rfl |exact Or.inr (Or.inl rfl) |exact Or.inr (Or.inr rfl))(hd:(x == ("__debug__":Str))=false:=by decide)(hcd:(x == ("__classdict__":Str))=false:=by decide):PE X (.Name x pos) (tR X.K i []):=e'a hN hv hd hcd
theorem r'h(hp:PE X o (tR X.K i r))(h:QE X k e pe)(h1:attributeBase o "append" X.env (eval o X.env)=eval o X.env:=by rfl)(h2:(((backTo cpos (starEach [e] X.env)).all (!·.1) && (backToKw cpos (keywordEach [] X.env)).all (·.1.isSome)) && decide (([e].length+([]:List Keyword).length+if ([]:List Keyword).isEmpty=true then 0 else 1)<30))=true:=by rfl)(h3:(apos.endLine == cpos.line)=true:=by rfl)(h4:starEach [e] X.env=(false,eval e X.env) :: starEach [] X.env:=by rfl)(hs:swapsWith (.Call (.Attribute o "append" apos) [e] [] cpos) none spos.line X.env=pure false:=by rfl):
  QS X k lo (.Expr (.Call (.Attribute o "append" apos) [e] [] cpos) spos) (anw X.K i r pe):=by
 obtain⟨te,e1,e2⟩:=h.h;exact⟨_,g'p (q'Z PySem.F.plainAttrs_list slot_list_append type_list_append h'n hp (b'y e1 b'R h4) h1 h2 h3 h4 rfl) hs,t'D e2⟩
theorem v'B(hp:PE X o (tR X.K i r))(hj:QE X k j pj)(h:QE X k e pe)(ha:∀ v,assign (.Subscript o j pos') X.env v=(do
   let ov <- holding [v] (eval o X.env)
   let iv <- holding [v,ov] (eval j X.env)
   standAt pos'
   holding [v,ov,iv] (setItem ov iv v)
   release [v,ov,iv] []):=by intro _;rfl)(h1:swapsWithSole [.Subscript o j pos'] e pos.line X.env=pure false:=by rfl)(h2:swappedStores [.Subscript o j pos'] e X.env=pure none:=by rfl)(h3:(assignEach [.Subscript o j pos'] X.env).map (·.2)=[assign (.Subscript o j pos') X.env]:=by rfl):
  QS X k lo (.Assign [.Subscript o j pos'] e pos) (alE X.K i r pj pe):=by
 obtain⟨te,e1,e2⟩:=h.h;obtain⟨tj,f1,f2⟩:=hj.h;exact⟨_,u'z e1 (u'y hp f1 p'K ha) h1 h2 h3,q'p e2 f2⟩
theorem a'X(hp:PE X o (tR X.K i r))(h:QE X k e pe)(hs:swapsWith e (some (.Attribute o f pos')) pos.line X.env=pure false:=by rfl):QS X k lo (.Assign [.Attribute o f pos'] e pos) (alF X.K i r f pe):=by
 obtain⟨te,e1,e2⟩:=h.h;exact⟨_,u'I hp e1 hs,q'q e2⟩
structure QGq(X:Cx)(scope:Scope)(N:List Str)(js:List Nat)(e:Expr)(pg:PG'):Prop where
 h:∃ tg,(∀ C s H fp pl,PG (ahT X scope N C s H fp pl) e tg)/\anz X.K js tg pg
section
theorem i'K(hN:N.Nodup)(hi:N[i]?=some x)(hx:∀ C s H fp pl,(ahT X scope N C s H fp pl).env.scope.names.lookup x=some .local:=by intros;rfl):QGq X scope N [i] (.Name x pos) (pgN i):=⟨_,λC s H fp pl=>k'f (X:=ahT X scope N C s H fp pl) hN hi (.inl (hx C s H fp pl)) (.inr (hx C s H fp pl)),v'v⟩
structure QTs(Y:Cx)(k:Md)(es:List Expr)(pt:PB'):Prop where
 h:PTs Y es (aol Y.K k pt)
theorem d'm:QTs X k [] amd:=⟨λpins s σ H Q I ⟨F,B,ρ,Q',h1,h2,h3⟩=>s'I pins s σ H Q I (t'F (k:=k) F B H σ ρ Q Q' h1 h2 h3)⟩
variable{elt target iter:Expr}{ifs:List Expr}{ix:List (Option Nat)}{pi:PI'}{pg:PG'}{pt:PB'}{pe:PE'}{js:List Nat}
theorem e'o(hc:X.calm=true)(hi:QI X k target iter pi)(hg:QGq X scope N js target pg)(ht:∀ C s H fp pl,QTs (ahT X scope N C s H fp pl) k.mute ifs pt)(he:∀ C s H fp pl,QE (ahT X scope N C s H fp pl) k.mute elt pe)(hpk:PickOk X scope N ix)(hj:∀ j∈js,ix[j]?=some none:=by decide)(hkind:scope.kind=.function:=by rfl)(hcell:∀ y∈scope.names,y.2≠.cell:=by decide)(hnames:∀ x∈scope.names,x.2=.local->scope.names.lookup x.1=some .local:=by decide)(hall:ajQ scope X.env=true:=by rfl)(hs:∀ x,foldedSetIterable iter X.env x=pure x:=by intro _;rfl):
  QE X k (.ListComp elt [⟨target,iter,ifs,0⟩] scope pos) (alK pi pg pt pe ix):=by
 obtain⟨te,h1,h2⟩:=hi.h;obtain⟨tf,g1,g2⟩:=hg.h;exact⟨_,s'K hc h1 g1 (λC s H fp pl=>(ht C s H fp pl).h) (λC s H fp pl=>(he C s H fp pl).of) hpk hkind hcell hnames hall hs,q't h2 g2 t'H v'z hj⟩
end
end
section
theorem Lk.md(L:Lk K k lo us Fb Hb D D')(hz:k.z=true->k'.z=true)(x:∀ cls σ' F' H',k.q cls->Gr Fb Hb F' H'->k.E σ' cls none H'):Lk K k' lo us Fb Hb D D':=
 ⟨λF H σ ρ cs W=>L.nx F H σ ρ cs (W.md hz x),λF H σ ρ cs v t c W=>L.rt F H σ ρ cs v t c (W.md hz x),λF H σ ρ cs W=>L.bk F H σ ρ cs (W.md hz x),λF H σ ρ cs W=>L.ct F H σ ρ cs (W.md hz x)⟩
def akL(q:Value->Prop)(C:Addr)(pe:PE'):PS':=λ_ ρ=>pe (ρ.map lend) λ_=>q (.ref C)
theorem n'H(h:Sim K ⟨z,λ_=>E,q⟩ te pe):ai5 K ⟨z,λ_=>E,q⟩ lo (alg C E te) (akL q C pe):=λus Fb Hb F H σ ρ cs D D' W p L=>
 h F (Bq Hb H) H σ _ _ _ W.cxt p λt v F1 H1 c q o=>W.x (.ref C) σ F1 H1 q (W.g.trans' o.g)
def aom(K:W.Frag)(k:Md)(lo:Nat)(ps:PS'):TS:=λD σ H=>∃(us:List V)(Fb Hb F:Hp)(ρ:List Tr)(cs:Nat->Cs)(D':Pd),Wld K k lo us Fb Hb F H σ ρ cs/\ps D' ρ/\Lk K k lo us Fb Hb D D'
theorem QB.of(h:QB X k lo sts ps):PSs X sts (aom X.K k lo ps):=λpins s σ H D I ⟨us,Fb,Hb,F,ρ,cs,D',h1,h2,h3⟩=>by
 obtain⟨te,g1,g2⟩:=h.h;exact g1 pins s σ H D I (g2 us Fb Hb F H σ ρ cs D D' h1 h2 h3)
theorem t'I:ai5 K k lo (aom K k lo ps) ps:=λus Fb Hb F H σ ρ cs D D' h1 h2 h3=>⟨us,Fb,Hb,F,ρ,cs,D',h1,h2,h3⟩
def Snd(K:W.Frag)(k:Md)(lo:Nat)(tS:TE->TS)(pS:PE'->PS'):Prop:=∀(us:List V)(Fb Hb F H:Hp)(σ:St)(ρ:List Tr)(cs:Nat->Cs)(D:aky)(D':Pd)(te:TE)(pe:PE'),Wld K k lo us Fb Hb F H σ ρ cs->Lk K k lo us Fb Hb D D'->(∀ Q Q',pe (ρ.map lend) Q'->(∀ t v F' H' c,Q' t->Out K F (Bq Hb H) H F' H' t v c->Q v H')->te σ H Q)->pS pe D' ρ->tS te D σ H
theorem i'L(hi:lo<=i):Snd K k lo (λte=>alr te (ajU i)) (ak6 i):=λus Fb Hb F H σ ρ cs D D' te pe W L h p=>h _ _ p λt v F1 H1 c q o=>by
 obtain⟨F2,cs2,W2⟩:=W.outF o hi q.1;exact L.nx F2 H1 _ _ _ W2 q.2
def tTr(K:W.Frag)(z:Bool)(pe:(Value->Prop)->PE')(R':St->XK):TE:=λσ H Q=>∃ q,tOf K ⟨z,R',q⟩ (pe q) σ H Q
theorem x'a{pe:(Value->Prop)->PE'}(h:∀ q,QE X ⟨z,R',q⟩ e (pe q)):PE X e (tTr X.K z pe R'):=λpins s σ H Q I ⟨q,h'⟩=>(h q).of pins s σ H Q I h'
@[reducible] def aon(K:W.Frag)(C:Addr)(cls:Value):Prop:=W.exmOne K cls (.ref C)=some true
def anA(K:W.Frag)(C:Addr)(pS:PE'->PS')(pe:(Value->Prop)->PE')(ph:PS'):PS':=λD ρ=>pS (pe λcls=>aon K C cls/\ph D ρ) D ρ
theorem t'J{tS:TE->TS}(hS:Snd K k lo tS pS)(hh:ai5 K k.mute lo th ph):ai5 K k lo (an7 K C (λR'=>tS (tTr K k.z pe R')) th) (anA K C pS pe ph):=λus Fb Hb F H σ ρ cs D D' W p L=>
 hS us Fb Hb F H σ ρ cs D D' _ _ W L (λQ Q' pq q=>⟨_,F,Bq Hb H,_,Q',⟨W.cxt.s,W.cxt.b,W.cxt.z,W.cxt.e,λcls F' H' hq g=>⟨hq.1,hh us Fb Hb F' H' σ ρ cs D D' ((W.gr g).md id λ_ _ _ _ h=>h.elim) hq.2 (L.md id W.x)⟩⟩,pq,q⟩) p
end
section
theorem a'q(h:ajG (CX1 X.prog X.w) X E):∀ σ,aio (CX1 X.prog X.w) X σ E:=λσ pins H s e s' I c=>h pins σ H s e s' I c
theorem e'P{psp:ajm}(G:FnOk X.prog X.w X.K X.mg X.base (CX1 X.prog X.w) m f fd pn (spX X.K z 0 n psp))(hx:∀ σ,aio (CX1 X.prog X.w) X σ (k.E σ))(hk:z=true->k.z=true)(hn:∀ xs Q q,psp xs Q q->xs.length=n)(hr:Room m X.A)(hg:Gl X x)(hm:X.mg x=some (.ref f))(hkp:W.keepIn X.K (.ref f)=true)(hb:Binds X.K fd pn [])(ha:QA X k (e :: es) ps)(hdb:(x == ("__debug__":Str))=false:=by decide)(he:starEach (e :: es) X.env=(false,eval e X.env) :: starEach es X.env:=by rfl)(hpl:(backTo pos (starEach es X.env)).any (·.1)=false:=by rfl):
  QE X k (.Call (.Name x p) (e :: es) [] pos) (aj0 k.q psp ps):=by
 obtain⟨ta,h1,h2⟩:=ha.h;exact⟨_,p'U G hr hg hm hkp hb .nil hx h1 hdb he hpl,h'x (λF B H σ ρ c cls F' H' hq g=>c.x cls F' H' hq g) hk hn h2⟩
theorem b'l(hs:X.stack=X.env :: X.outer)(hf:X.env.frame=some X.env.locals)(hex:X.ex=[])(hxe:Xe1 X E)(hcalm:X.calm=true)(hg:Gl X x)(hm:X.mg x=some (.ref C))(FB:ExcBaseFacts B newId initId bmB)(hq:W.excIn X.K C bmB newId=true)(he:QE X ⟨z,λ_=>E,q⟩ e₀ pe)(hdb:(x == ("__debug__":Str))=false:=by decide)(hst:starEach [e₀] X.env=(false,eval e₀ X.env) :: starEach [] X.env:=by rfl)(hpl:(backTo cpos (starEach [] X.env)).any (·.1)=false:=by rfl):
  QS X ⟨z,λ_=>E,q⟩ lo (.Raise (some (.Call (.Name x np) [e₀] [] cpos)) none pos) (akL q C pe):=by
 obtain⟨te,h1,h2⟩:=he.h;exact⟨_,p'T hs hf hex hxe hcalm hg hm FB hq h1 hdb hst hpl,n'H h2⟩
section
theorem r'i(hs:X.stack=X.env :: X.outer)(hf:X.env.frame=some X.env.locals)(hg:Gl X x)(hm:X.mg x=some (.ref C))(hS:Snd X.K k lo tS pS)(hb:∀ pn xe te,PE (X.kept2 pn xe) e te->PS (X.kept2 pn xe) st (tS te))(he:∀(pn:List (Addr×Obj))(xe:Value->Shared->Prop)(R':St->XK),(∀ σ,aio (CX1 X.prog X.w) (X.kept2 pn xe) σ (R' σ))->∀ q,QE (X.kept2 pn xe) ⟨k.z,R',q⟩ e (pe q))(hh:∀ v:Value,QB (X.inHandler v) k.mute lo (b₀ :: suite) ph)(hdb:(x == ("__debug__":Str))=false:=by decide):
  QS X k lo (.Try [st] [.ExceptHandler (some (.Name x np)) none (b₀ :: suite) hpos] [] [] pos) (anA X.K C pS pe ph):=
 ⟨_,v'a hs hf hg hm (λpn xe R' hx=>k'e (hb pn xe _ (x'a (he pn xe R' hx)))) (λv=>(hh v).of) hdb,t'J hS t'I⟩
end
theorem i'M:OpR X (compareOp .Is) (λx y H Q=>((∃ d,y=.bl d)\/y=.non)/\Q (.bl (decide (x=y))) H):=by
 intro pins s σ H x y v u Q I rx ry h;obtain⟨hy,q⟩:=h;rcases hy with⟨d,rfl⟩ |rfl
 ·cases ry;cases x with
  |bl c=>cases rx;exact PyProof.Rows.is_bool (a's I q (by cases c<;>cases d<;>rfl))
  |_=>first
   |(cases rx;exact wpAny_pure (a's I q rfl))
   |(obtain⟨t,rfl⟩:=rx;exact wpAny_pure (a's I q rfl))
 ·exact u'H pins s σ H x _ v u Q I rx ry ⟨rfl,q⟩
end
section
theorem t'K:OpR X (compareOp .IsNot) (λx y H Q=>((∃ d,y=.bl d)\/y=.non)/\Q (.bl (!decide (x=y))) H):=by
 intro pins s σ H x y v u Q I rx ry h;obtain⟨hy,q⟩:=h;rcases hy with⟨d,rfl⟩ |rfl
 ·cases ry;cases x with
  |bl c=>cases rx;exact PyProof.Rows.isnot_bool (a's I q (by cases c<;>cases d<;>rfl))
  |_=>first
   |(cases rx;exact wpAny_pure (a's I q rfl))
   |(obtain⟨t,rfl⟩:=rx;exact wpAny_pure (a's I q rfl))
 ·exact s'v pins s σ H x _ v u Q I rx ry ⟨rfl,q⟩
end
section
def isT:Tr->Tr->Bool
 |.bl c,.bl d=>c == d
 |.non,.non=>true
 |_,_=>false
def alL(neg:Bool)(x y:Tr)(Q:Tr->Prop):Prop:=match y with
 |.bl d=>Q (.bl (neg ^^ isT x (.bl d)))
 |.non=>Q (.bl (neg ^^ isT x .non))
 |_=>False
theorem R.ref(r:R K F B t v c):(∃ b,t=.bl b/\v=.bl b)\/(t=.non/\v=.non)\/(∀ d,isT t (.bl d)=false/\isT t .non=false/\v≠.bl d/\v≠.non):=by
 cases t with
 |bl b=>exact .inl ⟨b,rfl,r.1⟩
 |non=>exact .inr (.inl ⟨rfl,r.1⟩)
 |hole=>exact (show False from r).elim
 |int n=>exact .inr (.inr λd=>⟨rfl,rfl,(by rw[r.1]; intro z; cases z),(by rw[r.1]; intro z; cases z)⟩)
 |str n=>exact .inr (.inr λd=>⟨rfl,rfl,(by rw[r.1]; intro z; cases z),(by rw[r.1]; intro z; cases z)⟩)
 |ty n=>exact .inr (.inr λd=>⟨rfl,rfl,(by rw[r.1]; intro z; cases z),(by rw[r.1]; intro z; cases z)⟩)
 |cl n=>exact .inr (.inr λd=>⟨rfl,rfl,(by rw[r.1]; intro z; cases z),(by rw[r.1]; intro z; cases z)⟩)
 |exc n=>obtain⟨_,a,rfl,_⟩:=r; exact .inr (.inr λd=>⟨rfl,rfl,(by intro z; cases z),(by intro z; cases z)⟩)
 |tup xs=>obtain⟨a,vs,rfl,_⟩:=r; exact .inr (.inr λd=>⟨rfl,rfl,(by intro z; cases z),(by intro z; cases z)⟩)
 |lst f xs=>
  cases f with
  |o=>obtain⟨a,vs,ds,rfl,_⟩:=r;exact .inr (.inr λd=>⟨rfl,rfl,(by intro z;cases z),(by intro z;cases z)⟩)
  |f=>obtain⟨_,a,vs,rfl,_⟩:=r;exact .inr (.inr λd=>⟨rfl,rfl,(by intro z;cases z),(by intro z;cases z)⟩)
  |l b=>obtain⟨_,a,vs,rfl,_⟩:=r;exact .inr (.inr λd=>⟨rfl,rfl,(by intro z;cases z),(by intro z;cases z)⟩)
 |dic f xs=>
  cases f with
  |o=>obtain⟨a,vs,ds,rfl,_⟩:=r;exact .inr (.inr λd=>⟨rfl,rfl,(by intro z;cases z),(by intro z;cases z)⟩)
  |f=>obtain⟨_,a,vs,rfl,_⟩:=r;exact .inr (.inr λd=>⟨rfl,rfl,(by intro z;cases z),(by intro z;cases z)⟩)
  |l b=>obtain⟨_,a,vs,rfl,_⟩:=r;exact .inr (.inr λd=>⟨rfl,rfl,(by intro z;cases z),(by intro z;cases z)⟩)
 |ins f c xs=>
  cases f with
  |o=>obtain⟨a,dx,vs,ds,rfl,_⟩:=r;exact .inr (.inr λd=>⟨rfl,rfl,(by intro z;cases z),(by intro z;cases z)⟩)
  |f=>obtain⟨_,a,dx,vs,rfl,_⟩:=r;exact .inr (.inr λd=>⟨rfl,rfl,(by intro z;cases z),(by intro z;cases z)⟩)
  |l b=>obtain⟨_,a,dx,vs,rfl,_⟩:=r;exact .inr (.inr λd=>⟨rfl,rfl,(by intro z;cases z),(by intro z;cases z)⟩)
theorem n'I(r:R K F B t v c)(d:Bool):decide (v=.bl d)=isT t (.bl d):=by
 rcases r.ref with⟨b,rfl,rfl⟩ |⟨rfl,rfl⟩ |h
 ·cases b<;>cases d<;>rfl
 ·rfl
 ·rw[(h d).1];exact decide_eq_false (h d).2.2.1
theorem k'w(r:R K F B t v c):decide (v=.non)=isT t .non:=by
 rcases r.ref with⟨b,rfl,rfl⟩ |⟨rfl,rfl⟩ |h
 ·rfl
 ·rfl
 ·rw[(h true).2.1];exact decide_eq_false (h true).2.2.2
theorem i'N:Op2 K k (λx y H Q=>((∃ d,y=.bl d)\/y=.non)/\Q (.bl (decide (x=y))) H) (alL false):=λF B H x y tx ty cx cy Q Q' s b z rx ry hx hy hd p q=>by
 unfold alL at p;split at p
 ·obtain⟨rfl,_⟩:=ry;refine⟨.inl ⟨_,rfl⟩,?_⟩;rw[n'I rx];rw[Bool.false_xor] at p;exact q _ _ F H [] p (Gr.refl' s) ⟨rfl,rfl⟩ .nil λ_ m=>nomatch m
 ·obtain⟨rfl,_⟩:=ry;refine⟨.inr rfl,?_⟩;rw[k'w rx];rw[Bool.false_xor] at p;exact q _ _ F H [] p (Gr.refl' s) ⟨rfl,rfl⟩ .nil λ_ m=>nomatch m
 ·exact p.elim
theorem n'J:Op2 K k (λx y H Q=>((∃ d,y=.bl d)\/y=.non)/\Q (.bl (!decide (x=y))) H) (alL true):=λF B H x y tx ty cx cy Q Q' s b z rx ry hx hy hd p q=>by
 unfold alL at p;split at p
 ·obtain⟨rfl,_⟩:=ry;refine⟨.inl ⟨_,rfl⟩,?_⟩;rw[n'I rx];rw[Bool.true_xor] at p;exact q _ _ F H [] p (Gr.refl' s) ⟨rfl,rfl⟩ .nil λ_ m=>nomatch m
 ·obtain⟨rfl,_⟩:=ry;refine⟨.inr rfl,?_⟩;rw[k'w rx];rw[Bool.true_xor] at p;exact q _ _ F H [] p (Gr.refl' s) ⟨rfl,rfl⟩ .nil λ_ m=>nomatch m
 ·exact p.elim
theorem Rs.bls:∀{bs:List Bool}{vs:List V}{c:Cs},Rs K F B (bs.map .bl) vs c->vs=bs.map V.bl
 |[],_,_,⟨h,_⟩=>h
 |b :: bs,_,_,⟨v,r,c,d,h1,h2,h3,h4⟩=>by rw[h1,Rs.bls h4,h3.1]; rfl
def aoo(all:Bool)(ts:List Tr)(Q:Tr->Prop):Prop:=match ts with
 |[.lst _ xs]=>∃ bs:List Bool,xs = bs.map .bl /\ Q (.bl (if all = true then bs.all id else bs.any id))
 |_=>False
theorem g'B:OpA K k (λxs H Q=>∃(a:Addr)(bs:List Bool),xs=[.ref a]/\SqL K H a (bs.map V.bl)/\Q (.bl (bs.all id)) H) (aoo true):=λF B H xs ts cx Q Q' s b z r hc p q=>by
 unfold aoo at p;split at p
 ·obtain⟨v,rfl,r1⟩:=r.one;obtain⟨a,vs,ds,rfl,h1,h2,_⟩:=r1.lstH s b hc;obtain⟨bs,rfl,p⟩:=p;rw[h2.bls] at h1;exact⟨a,bs,rfl,h1,q _ _ F H [] p (Gr.refl' s) ⟨rfl,rfl⟩ .nil λ_ m=>nomatch m⟩
 ·exact p.elim
theorem i'O(hg:Gl X x)(hm:X.mg x=some (.int i t))(hd:(x == ("__debug__":Str))=false:=by decide):QE X k (.Name x pos) (pC (.int i)):=g'c (.int i) hg hm ⟨_,rfl⟩ (λ_ _=>⟨rfl,rfl⟩) hd
theorem q'v(hg:Gl X x)(hm:X.mg x=some (.str i t))(hd:(x == ("__debug__":Str))=false:=by decide):QE X k (.Name x pos) (pC (.str i)):=g'c (.str i) hg hm ⟨_,rfl⟩ (λ_ _=>⟨rfl,rfl⟩) hd
theorem d'd(hg:Gl X x)(hm:X.mg x=some (.ref c))(hd:(x == ("__debug__":Str))=false:=by decide):QE X k (.Name x pos) (pC (.cl c)):=g'c (.ref c) hg hm rfl (λ_ _=>⟨rfl,rfl⟩) hd
end
section
theorem x'b(K:W.Frag)(hK:X.K=K)(hg:Gl X x)(hm:X.mg x=none)(hv:bootBuiltins x=some (.builtin "isinstance"))(ha:QA X k (e :: es) ps)(hn:x≠"__name__":=by decide)(hdb:(x == ("__debug__":Str))=false:=by decide)(he:starEach (e :: es) X.env=(false,eval e X.env) :: starEach es X.env:=by rfl)(hpl:(backTo pos (starEach es X.env)).any (·.1)=false:=by rfl):
  QE X k (.Call (.Name x p) (e :: es) [] pos) (pB (wIs K) ps):=by
 subst hK;exact a'V p'P v'r hg hm hv ha hn hdb he hpl
theorem a'r(K:W.Frag)(hK:X.K=K)(h:QE X k e pe)(hb:attributeBase e f X.env (eval e X.env)=eval e X.env:=by rfl):QE X k (.Attribute e f pos) (p1 (akl K f) pe):=by
 subst hK;exact w'Y h hb
end
mutual
def Cl:Tr->Bool
 |.tup xs=>Cls' xs
 |.lst .f xs=>Cls' xs
 |.dic .f xs=>Clk xs
 |.ins .f _ xs=>Clf xs
 |.lst _ _=>false
 |.dic _ _=>false
 |.ins _ _ _=>false
 |_=>true
def Cls':List Tr->Bool
 |[]=>true |x :: xs=>Cl x && Cls' xs
def Clk:List (Key×Tr)->Bool
 |[]=>true |(_,x) :: xs=>Cl x && Clk xs
def Clf:List (Str×Tr)->Bool
 |[]=>true |(_,x) :: xs=>Cl x && Clf xs
end
structure Clo(t:Tr):Prop where
 l:lend t=t
 f:frz t=t
 d:dn t=t
 o:nol t=true
 t:nlt t=true
structure aoz(t:List Tr):Prop where
 l:lends t=t
 f:frzs t=t
 d:dns t=t
 o:nols t=true
 t:nlts t=true
structure aoA(t:List (Key×Tr)):Prop where
 l:lendk t=t
 f:frzk t=t
 d:dnk t=t
 o:nolk t=true
 t:nltk t=true
structure aoB(t:List (Str×Tr)):Prop where
 l:lendf t=t
 f:frzf t=t
 d:dnf t=t
 o:nolf t=true
 t:nltf t=true
mutual
theorem clo:∀(t:Tr),Cl t=true->Clo t
 |.int _,_=>⟨rfl,rfl,rfl,rfl,rfl⟩
 |.bl _,_=>⟨rfl,rfl,rfl,rfl,rfl⟩
 |.str _,_=>⟨rfl,rfl,rfl,rfl,rfl⟩
 |.non,_=>⟨rfl,rfl,rfl,rfl,rfl⟩
 |.hole,_=>⟨rfl,rfl,rfl,rfl,rfl⟩
 |.ty _,_=>⟨rfl,rfl,rfl,rfl,rfl⟩
 |.cl _,_=>⟨rfl,rfl,rfl,rfl,rfl⟩
 |.exc _,_=>⟨rfl,rfl,rfl,rfl,rfl⟩
 |.tup xs,h=>have c:=clos xs h; ⟨by show Tr.tup (lends xs) = _; rw[c.l],by show Tr.tup (frzs xs) = _; rw[c.f],by show Tr.tup (dns xs) = _; rw[c.d],c.o,c.t⟩
 |.lst .f xs,h=>have c:=clos xs h; ⟨rfl,rfl,by show Tr.lst .f (dns xs) = _; rw[c.d],c.o,c.t⟩
 |.dic .f xs,h=>have c:=clok xs h; ⟨rfl,rfl,by show Tr.dic .f (dnk xs) = _; rw[c.d],c.o,c.t⟩
 |.ins .f a xs,h=>have c:=clof xs h; ⟨rfl,rfl,by show Tr.ins .f a (dnf xs) = _; rw[c.d],c.o,c.t⟩
theorem clos:∀(t:List Tr),Cls' t=true->aoz t
 |[],_=>⟨rfl,rfl,rfl,rfl,rfl⟩
 |x :: xs,h=>by
  have h:(Cl x && Cls' xs)=true:=h;rw[Bool.and_eq_true] at h;have a:=clo x h.1;have b:=clos xs h.2;exact⟨by show lend x :: lends xs=_;rw[a.l,b.l],by show frz x :: frzs xs=_;rw[a.f,b.f],by show dn x :: dns xs=_;rw[a.d,b.d],by show (nol x && nols xs)=_;rw[a.o,b.o];rfl,by show (nlt x && nlts xs)=_;rw[a.t,b.t];rfl⟩
theorem clok:∀(t:List (Key×Tr)),Clk t=true->aoA t
 |[],_=>⟨rfl,rfl,rfl,rfl,rfl⟩
 |(k,x) :: xs,h=>by
  have h:(Cl x && Clk xs)=true:=h;rw[Bool.and_eq_true] at h;have a:=clo x h.1;have b:=clok xs h.2;exact⟨by show (k,lend x) :: lendk xs=_;rw[a.l,b.l],by show (k,frz x) :: frzk xs=_;rw[a.f,b.f],by show (k,dn x) :: dnk xs=_;rw[a.d,b.d],by show (nol x && nolk xs)=_;rw[a.o,b.o];rfl,by show (nlt x && nltk xs)=_;rw[a.t,b.t];rfl⟩
theorem clof:∀(t:List (Str×Tr)),Clf t=true->aoB t
 |[],_=>⟨rfl,rfl,rfl,rfl,rfl⟩
 |(k,x) :: xs,h=>by
  have h:(Cl x && Clf xs)=true:=h;rw[Bool.and_eq_true] at h;have a:=clo x h.1;have b:=clof xs h.2;exact⟨by show (k,lend x) :: lendf xs=_;rw[a.l,b.l],by show (k,frz x) :: frzf xs=_;rw[a.f,b.f],by show (k,dn x) :: dnf xs=_;rw[a.d,b.d],by show (nol x && nolf xs)=_;rw[a.o,b.o];rfl,by show (nlt x && nltf xs)=_;rw[a.t,b.t];rfl⟩
end
class Enc(α:Type) where
 t:α->Tr
 c:∀ a,Cl (t a)=true
 h:∀ a,t a≠.hole
theorem c'I[Enc α]:∀ xs:List α,Cls' (xs.map Enc.t)=true
 |[]=>rfl
 |x :: xs=>by show (Cl (Enc.t x) && Cls' (xs.map Enc.t)) = true; rw[Enc.c x,c'I xs]; rfl
theorem b'X[Enc α]:∀ xs:List (Key×α),Clk (xs.map λp=>(p.1,Enc.t p.2))=true
 |[]=>rfl
 |x :: xs=>by show (Cl (Enc.t x.2) && Clk (xs.map λp=>(p.1,Enc.t p.2))) = true; rw[Enc.c x.2,b'X xs]; rfl
instance:Enc Int:=⟨.int,λ_=>rfl,λ_ z=>by cases z⟩
instance:Enc Str:=⟨.str,λ_=>rfl,λ_ z=>by cases z⟩
instance:Enc Bool:=⟨.bl,λ_=>rfl,λ_ z=>by cases z⟩
instance:Enc Rat:=⟨λq=>.tup [.int q.num,.int (q.den:Int)],λ_=>rfl,λ_ z=>by cases z⟩
instance {α:Type} [Enc α]:Enc (List α):=⟨λxs=>.lst .f (xs.map Enc.t),λxs=>c'I xs,λ_ z=>by cases z⟩
instance {α β:Type} [Enc α] [Enc β]:Enc (α ⊕ β):=⟨λx=>match x with |.inl a=>Enc.t a |.inr b=>Enc.t b,λx=>by cases x<;>exact Enc.c _,λx=>by cases x<;>exact Enc.h _⟩
instance {α β:Type} [Enc α] [Enc β]:Enc (α×β):=⟨λx=>.tup [Enc.t x.1,Enc.t x.2],λx=>by show (Cl _ && (Cl _ && true))=true;rw[Enc.c,Enc.c];rfl,λ_ z=>by cases z⟩
section
variable{α β:Type}[Enc α][Enc β](a:α)(xs:List α)
@[simp] theorem r'j(n:Int):Enc.t n=.int n:=rfl
@[simp] theorem r'k(n:Str):Enc.t n=.str n:=rfl
@[simp] theorem v'C(n:Bool):Enc.t n=.bl n:=rfl
theorem r'l(q:Rat):Enc.t q=.tup [.int q.num,.int (q.den:Int)]:=rfl
theorem e_l:lend (Enc.t a)=Enc.t a:=(clo _ (Enc.c a)).l
theorem e_f:frz (Enc.t a)=Enc.t a:=(clo _ (Enc.c a)).f
theorem e_d:dn (Enc.t a)=Enc.t a:=(clo _ (Enc.c a)).d
theorem e_o:nol (Enc.t a)=true:=(clo _ (Enc.c a)).o
theorem e_t:nlt (Enc.t a)=true:=(clo _ (Enc.c a)).t
theorem q'w:lends (xs.map Enc.t)=xs.map Enc.t:=(clos _ (c'I xs)).l
theorem v'D:frzs (xs.map Enc.t)=xs.map Enc.t:=(clos _ (c'I xs)).f
theorem g'C:dns (xs.map Enc.t)=xs.map Enc.t:=(clos _ (c'I xs)).d
theorem m'p:nols (xs.map Enc.t)=true:=(clos _ (c'I xs)).o
theorem m'q:nlts (xs.map Enc.t)=true:=(clos _ (c'I xs)).t
end
class inductive Fp:Fl->Prop where
 |f:Fp .f
 |l:Fp (.l false)
instance:Fp .f:=.f
instance:Fp (.l false):=.l
section
variable{f:Fl}[h:Fp f]
theorem i'f:lend (.lst f xs)=.lst f xs:=by cases h<;>rfl
theorem n'K:frz (.lst f xs)=.lst f xs:=by cases h<;>rfl
theorem i'P:dn (.lst f xs)=.lst f (dns xs):=by cases h<;>rfl
theorem i'Q{α:Type}[Enc α]{xs:List α}:nlt (.lst f (xs.map Enc.t))=true:=by cases h<;>first |exact m'q xs |rfl
theorem r'm:lend (.dic f xs)=.dic f xs:=by cases h<;>rfl
theorem n'L:frz (.dic f xs)=.dic f xs:=by cases h<;>rfl
theorem n'M:dn (.dic f xs)=.dic f (dnk xs):=by cases h<;>rfl
theorem n'N{α:Type}[Enc α]{xs:List (Key×α)}:nlt (.dic f (xs.map λp=>(p.1,Enc.t p.2)))=true:=by cases h<;>first |exact (clok _ (b'X xs)).t |rfl
end
section
variable{α:Type}[Enc α]{xs:List (Key×α)}
theorem v'E:lendk (xs.map λp=>(p.1,Enc.t p.2))=xs.map λp=>(p.1,Enc.t p.2):=(clok _ (b'X xs)).l
theorem v'F:frzk (xs.map λp=>(p.1,Enc.t p.2))=xs.map λp=>(p.1,Enc.t p.2):=(clok _ (b'X xs)).f
theorem v'G:dnk (xs.map λp=>(p.1,Enc.t p.2))=xs.map λp=>(p.1,Enc.t p.2):=(clok _ (b'X xs)).d
theorem v'H:nolk (xs.map λp=>(p.1,Enc.t p.2))=true:=(clok _ (b'X xs)).o
theorem v'I:nltk (xs.map λp=>(p.1,Enc.t p.2))=true:=(clok _ (b'X xs)).t
end
section
def alM(pa:PA'):PA':=λρ Q=>pa ρ λts=>Q (frzs ts)
theorem q'x(h:ajZ K k ta pa):ajZ K k ta (alM pa):=λF B H σ ρ Q Q' c p q=>by
 refine h F B H σ ρ _ _ c p λts vs F1 H1 c1 p1 o1=>?_
 obtain⟨F2,g2,r2⟩:=o1.held;exact q _ vs F2 H1 [] p1 ⟨g2,r2,.nil,.nil⟩
theorem QA.frz(h:QA X k es pa):QA X k es (alM pa):=by
 obtain⟨ta,h1,h2⟩:=h.h;exact⟨ta,h1,q'x h2⟩
end
theorem at0(x:α)(xs:List α):atI (x :: xs) 0=some x:=by unfold atI ixN;simp
theorem at1(x y:α)(xs:List α):atI (x :: y :: xs) 1=some y:=by unfold atI ixN;rw[if_pos (by omega),if_pos (by simp only[List.length_cons];omega)];rfl
theorem at2(x y z:α)(xs:List α):atI (x :: y :: z :: xs) 2=some z:=by unfold atI ixN;rw[if_pos (by omega),if_pos (by simp only[List.length_cons];omega)];rfl
theorem at3(x y z a:α)(xs:List α):atI (x :: y :: z :: a :: xs) 3=some a:=by unfold atI ixN;rw[if_pos (by omega),if_pos (by simp only[List.length_cons];omega)];rfl
theorem at4(x y z a b:α)(xs:List α):atI (x :: y :: z :: a :: b :: xs) 4=some b:=by unfold atI ixN;rw[if_pos (by omega),if_pos (by simp only[List.length_cons];omega)];rfl
def ai6(n:Nat)(g:List Tr->(Tr->Prop)->Prop):PSp:=λxs Q=>xs.length=n/\g xs λt=>∀ ρ,Q t ρ
def aoC:PSp:=ai6 2 λxs Q=>∃ a b,xs=[.int a,.int b]/\0<=a/\0<=b/\Q (.int (gd a b))
def alj:PSp:=ai6 2 λxs Q=>∃ a b,xs=[.int a,.int b]/\b≠0/\bi b<=7990/\Q (Enc.t (Rat.divInt a b))
theorem r'n(hb:b≠0)(h:bi b<=k):bi (gd a b)<=k:=by
 refine e'H ?_;have h1:=e'I h;have h2:(gd a b).natAbs<=b.natAbs:=Nat.le_of_dvd (by omega) (Int.natAbs_dvd_natAbs.mpr (d'B a b));omega
theorem e'Q(hb:b≠0)(h:bi b<=7990):CDivB x (gd a b):=⟨by have:=d'i (a:=a) hb;omega,e'I (Nat.le_trans (r'n hb h) (show 7990<=8000 by omega))⟩
theorem i'R(hb:b≠0)(h:bi b<=7990):CDivB x (-gd a b):=⟨by have:=d'i (a:=a) hb;omega,by rw[Int.natAbs_neg];exact e'I (Nat.le_trans (r'n hb h) (show 7990<=8000 by omega))⟩
theorem k'x[Enc α][Enc β](ws:List α)(ns:List β):(ws.map Enc.t).zipWith (λx y=>Tr.tup [x,y]) (ns.map Enc.t)=(ws.zip ns).map λp=>Tr.tup [Enc.t p.1,Enc.t p.2]:=by
 rw[List.zipWith_map,List.zip_eq_zipWith,List.map_zipWith]
theorem k'y[Enc α](ws:List α):(ws.map Enc.t).mapIdx (λi x=>Tr.tup [.int i,x])=ws.zipIdx.map λp=>Tr.tup [.int p.2,Enc.t p.1]:=by
 apply List.ext_getElem?;intro i;rw[List.getElem?_mapIdx,List.getElem?_map,List.getElem?_map,List.getElem?_zipIdx];cases ws[i]?<;>simp
theorem v'J(t:Tr)(ρ':List Tr)(Q:Tr->Prop):pC t ρ' Q=(Q t):=rfl
theorem v'K(pr:Tr->Tr->(Tr->Prop)->Prop)(pa pb:PE')(ρ:List Tr)(Q:Tr->Prop):p2 pr pa pb ρ Q=(pa ρ λx=>pb ρ λy=>pr x y Q):=rfl
theorem v'L(pr:Tr->(Tr->Prop)->Prop)(pa:PE')(ρ:List Tr)(Q:Tr->Prop):Pu.p1 pr pa ρ Q=(pa ρ λx=>pr x Q):=rfl
theorem n'O:amZ ρ' Q=(Q []):=rfl
theorem k'z:aly pe pa ρ Q=(pe ρ λx=>pa ρ λxs=>Q (x :: xs)):=rfl
theorem n'P:anh pa ρ Q=(pa ρ λxs=>xs.length<=10000/\Q (.tup xs)):=rfl
theorem n'Q:ani pa ρ Q=(pa ρ λxs=>xs.length<=10000/\Q (.lst .o xs)):=rfl
theorem v'M(pe:PE')(ρ:List Tr)(Q:Bool->Prop):pT pe ρ Q=(pe ρ λx=>wBl x Q):=rfl
theorem n'R(pa pb:PB')(ρ:List Tr)(Q:Bool->Prop):ank pa pb ρ Q=(pa ρ λc=>if c=true then pb ρ Q else Q false):=rfl
theorem r'o(pa pb:PB')(ρ:List Tr)(Q:Bool->Prop):pOr pa pb ρ Q=(pa ρ λc=>if c=true then Q true else pb ρ Q):=rfl
theorem n'S(pa:PB')(ρ:List Tr)(Q:Bool->Prop):anl pa ρ Q=(pa ρ λc=>Q (!c)):=rfl
theorem k'A:alA pa pb ρ Q=(pa ρ λx=>wBl x λc=>if c=true then pb ρ Q else Q (.bl false)):=rfl
theorem n'T:anm pa pb ρ Q=(pa ρ λx=>wBl x λc=>if c=true then Q (.bl true) else pb ρ Q):=rfl
theorem r'p:pIf pc pa pb ρ Q=(pc ρ λc=>if c=true then pa ρ Q else pb ρ Q):=rfl
theorem n'U:ann p q D ρ=(p { D with nx:=q D } ρ):=rfl
theorem k'B:alB D ρ=(D.nx ρ):=rfl
theorem n'V(i:Nat)(pe:PE')(D:Pd)(ρ:List Tr):ano i pe D ρ=(pe (ρ.map lend) λt=>nlt t=true/\D.nx (ρ.set i t)):=rfl
theorem n'W:anp pe D ρ=(pe (ρ.map lend) λt=>nol t=true/\D.rt t ρ):=rfl
theorem e'p(pc:PB')(p q:PS')(D:Pd)(ρ:List Tr):anq pc p q D ρ=(pc (ρ.map lend) λb=>if b=true then p D ρ else q D ρ):=rfl
theorem i'S:aj0 q psp pa ρ Q=(pa ρ λts=>psp (dns ts) (λt _=>Q t) q):=rfl
theorem k'C:alC psp pa ρ Q=(pa ρ λts=>psp (dns ts) λt _=>Q t):=rfl
theorem v'N(pr:List Tr->(Tr->Prop)->Prop)(pa:PA')(ρ:List Tr)(Q:Tr->Prop):pB pr pa ρ Q=(pa ρ λts=>pr ts Q):=rfl
theorem i'T:akH D' ρ'=(False):=rfl
theorem k'D(i:Nat)(pe:PE')(D:Pd)(ρ:List Tr):ak6 i pe D ρ=(pe (ρ.map lend) λt=>nlt t=true/\D.nx (ρ.set i (frz t))):=rfl
theorem r'q(i:Nat)(t:Tr)(ρ:List Tr)(Q:List Tr->Prop):pgN i t ρ Q=(Q (ρ.set i t)):=rfl
theorem n'X(i j:Nat)(pa:PA')(D:Pd)(ρ:List Tr):ant i j pa D ρ=(pa (ρ.map lend) λts=>match ts with |[a,b]=>nlt a=true/\nlt b=true/\D.nx ((ρ.set i (frz a)).set j (frz b)) |_=>False):=rfl
theorem r'r(pe:PE')(ρ:List Tr)(Q:List Tr->Bool->Prop):piL pe ρ Q=(pe ρ λt=>amy (frz t) λxs=>Q xs (nlt (frz t))):=rfl
theorem n'Y(pa:PA')(ρ:List Tr)(Q:List Tr->Bool->Prop):anv pa ρ Q=(pa ρ λts=>ak7 ts λj=>-1000000<=j/\j<=1000000/\Q ((List.range j.toNat).map λ(i:Nat)=>.int i) true):=rfl
theorem n'Z(K:W.Frag)(i:Nat)(r:List Str)(pe:PE')(D:Pd)(ρ:List Tr):anw K i r pe D ρ=(wPl K ρ i r λu s=>ajp u λxs=>pe (ρ.map lend) λt=>nlt t=true/\xs.length<1000000/\D.nx (s (.lst .o (xs++[frz t])))):=rfl
theorem k'E(K:W.Frag)(i:Nat)(r:List Str)(pj pe:PE')(D:Pd)(ρ:List Tr):alE K i r pj pe D ρ=(pe (ρ.map lend) λt=>nlt t=true/\wPl K ρ i r λu s=>ajp u λxs=>pj (ρ.map lend) λy=>akI xs y (frz t) λxs'=>D.nx (s (.lst .o xs'))):=rfl
theorem k'F(K:W.Frag)(i:Nat)(r:List Str)(f:Str)(pe:PE')(D:Pd)(ρ:List Tr):alF K i r f pe D ρ=(pe (ρ.map lend) λt=>nlt t=true/\wPl K ρ i r λu s=>aj1 K f u λc fs=>D.nx (s (.ins .o c (aj8 f t fs)))):=rfl
theorem r's(ρ':List Tr)(Q:Option Int->Prop):poN ρ' Q=(Q none):=rfl
theorem r't(pe:PE')(ρ:List Tr)(Q:Option Int->Prop):poS pe ρ Q=(pe ρ λx=>match x with |.int i=>Q (some i) |_=>False):=rfl
theorem r'u:pSl pe pl ph ρ Q=(pe ρ λx=>pl ρ λl=>ph ρ λh=>wSl x l h Q):=rfl
theorem o'a(ρ':List Tr)(Q:Bool->Prop):amd ρ' Q=(Q true):=rfl
theorem i'U:akL q C pe D' ρ=(pe (ρ.map lend) λ_=>q (.ref C)):=rfl
theorem o'b(K:W.Frag)(C:Addr)(pS:PE'->PS')(pe:(Value->Prop)->PE')(ph:PS')(D:Pd)(ρ:List Tr):anA K C pS pe ph D ρ=(pS (pe λcls=>aon K C cls/\ph D ρ) D ρ):=rfl
theorem k'G:alM pa ρ Q=(pa ρ λts=>Q (frzs ts)):=rfl
theorem e'R(n:Int):lend (.int n)=(.int n):=rfl
theorem o'c:lend (.bl n)=(.bl n):=rfl
theorem k'H:lend (.str n)=(.str n):=rfl
theorem k'I:lend .non=.non:=rfl
theorem i'V:lend .hole=.hole:=rfl
theorem o'd(n:String):lend (.ty n)=(.ty n):=rfl
theorem o'e:lend (.cl n)=(.cl n):=rfl
theorem k'J:lend (.exc n)=(.exc n):=rfl
theorem c'z(n:Int):Pu.frz (.int n)=(.int n):=rfl
theorem o'f:Pu.frz (.bl n)=(.bl n):=rfl
theorem g'D(n:Str):Pu.frz (.str n)=(.str n):=rfl
theorem k'K:Pu.frz .non=.non:=rfl
theorem i'W:Pu.frz .hole=.hole:=rfl
theorem o'g(n:String):Pu.frz (.ty n)=(.ty n):=rfl
theorem o'h:Pu.frz (.cl n)=(.cl n):=rfl
theorem k'L:Pu.frz (.exc n)=(.exc n):=rfl
theorem e'S(n:Int):dn (.int n)=(.int n):=rfl
theorem o'i:dn (.bl n)=(.bl n):=rfl
theorem k'M:dn (.str n)=(.str n):=rfl
theorem k'N:dn .non=.non:=rfl
theorem i'X:dn .hole=.hole:=rfl
theorem o'j(n:String):dn (.ty n)=(.ty n):=rfl
theorem o'k:dn (.cl n)=(.cl n):=rfl
theorem k'O:dn (.exc n)=(.exc n):=rfl
theorem b'm(n:Int):nol (.int n)=true:=rfl
theorem o'l:nol (.bl n)=true:=rfl
theorem g'E(n:Str):nol (.str n)=true:=rfl
theorem k'P:nol .non=true:=rfl
theorem i'Y:nol .hole=true:=rfl
theorem o'm(n:String):nol (.ty n)=true:=rfl
theorem o'n:nol (.cl n)=true:=rfl
theorem k'Q:nol (.exc n)=true:=rfl
theorem e'T(n:Int):nlt (.int n)=true:=rfl
theorem o'o:nlt (.bl n)=true:=rfl
theorem g'F(n:Str):nlt (.str n)=true:=rfl
theorem k'R:nlt .non=true:=rfl
theorem i'Z:nlt .hole=true:=rfl
theorem o'p(n:String):nlt (.ty n)=true:=rfl
theorem o'q:nlt (.cl n)=true:=rfl
theorem k'S:nlt (.exc n)=true:=rfl
theorem k'T:lend (.tup xs)=.tup (lends xs):=rfl
theorem k'U:Pu.frz (.tup xs)=.tup (frzs xs):=rfl
theorem k'V:dn (.tup xs)=.tup (dns xs):=rfl
theorem k'W:nol (.tup xs)=nols xs:=rfl
theorem k'X:nlt (.tup xs)=nlts xs:=rfl
theorem g'G(xs:List Tr):lend (.lst .o xs)=.lst (.l true) (lends xs):=rfl
theorem k'Y:Pu.frz (.lst .o xs)=.lst .f (frzs xs):=rfl
theorem k'Z:dn (.lst (.l true) xs)=.lst (.l false) (dns xs):=rfl
theorem o'r:Pu.frz (.lst (.l b) xs)=.lst (.l b) xs:=rfl
theorem j'a(b:Bool)(xs:List Tr):lend (.lst (.l b) xs)=.lst (.l b) xs:=rfl
theorem g'H(xs:List Tr):nol (.lst .o xs)=nols xs:=rfl
theorem g'I(xs:List Tr):nlt (.lst .o xs)=nlts xs:=rfl
theorem m'r(xs:List Tr):nol (.lst .f xs)=nols xs:=rfl
theorem g'J(xs:List (Key×Tr)):lend (.dic .o xs)=.dic (.l true) (lendk xs):=rfl
theorem l'a(xs:List (Key×Tr)):Pu.frz (.dic .o xs)=.dic .f (frzk xs):=rfl
theorem l'b(xs:List (Key×Tr)):dn (.dic (.l true) xs)=.dic (.l false) (dnk xs):=rfl
theorem g'K(xs:List (Key×Tr)):nol (.dic .o xs)=nolk xs:=rfl
theorem l'c(xs:List (Key×Tr)):nlt (.dic .o xs)=nltk xs:=rfl
def Loop(ts:List Tr)(pg:PG')(pb:PS')(D:Pd)(ρ:List Tr):Prop:=∃ I:Nat->List Tr->Prop,I 0 ρ/\(∀ i t ρ,ts[i]?=some t->I i ρ->pg t ρ λρ'=>pb { D with nx:=I (i+1),ct:=I (i+1),bk:=D.nx } ρ')/\∀ ρ,I ts.length ρ->D.nx ρ
theorem o's:anu pi pg pb D ρ=(pi (ρ.map lend) λts nl=>nl=true/\Loop ts pg pb D ρ):=rfl
theorem Loop.map(ys:List γ)(g:γ->Tr){pg:PG'}(J:Nat->List Tr->Prop)(h0:J 0 ρ)(step:∀ i y ρ,ys[i]?=some y->J i ρ->pg (g y) ρ λρ'=>pb { D with nx:=J (i+1),ct:=J (i+1),bk:=D.nx } ρ')(fin:∀ ρ,J ys.length ρ->D.nx ρ):Loop (ys.map g) pg pb D ρ:=by
 refine⟨J,h0,λi t ρ h j=>?_,λρ h=>fin ρ (by rw[List.length_map] at h;exact h)⟩;rw[List.getElem?_map] at h;cases e:ys[i]? with
 |none=>rw[e] at h; cases h
 |some y=>rw[e] at h; cases h; exact step i y ρ e j
def pV(o:Option Tr)(Q:Tr->Prop):Prop:=match o with |some .hole=>False |some t=>Q t |none=>False
theorem o't(i:Nat)(ρ:List Tr)(Q:Tr->Prop):al7 i ρ Q=pV ρ[i]? Q:=rfl
theorem e'U[Enc α](a:α)(Q:Tr->Prop):pV (some (Enc.t a)) Q=Q (Enc.t a):=by
 have h:=Enc.h a;generalize Enc.t a=t at h;cases t with
 |hole=>exact absurd rfl h
 |_=>rfl
theorem r'v:pV (some (.int n)) Q=Q (.int n):=rfl
theorem v'O:pV (some (.bl n)) Q=Q (.bl n):=rfl
theorem r'w:pV (some (.str n)) Q=Q (.str n):=rfl
theorem r'x:pV (some .non) Q=Q .non:=rfl
theorem r'y:pV (some (.exc n)) Q=Q (.exc n):=rfl
theorem r'z:pV (some (.tup xs)) Q=Q (.tup xs):=rfl
theorem r'A:pV (some (.lst f xs)) Q=Q (.lst f xs):=rfl
theorem r'B(f:Fl)(xs:List (Key×Tr))(Q:Tr->Prop):pV (some (.dic f xs)) Q=Q (.dic f xs):=rfl
theorem r'C(f:Fl)(c:Addr)(xs:List (Str×Tr))(Q:Tr->Prop):pV (some (.ins f c xs)) Q=Q (.ins f c xs):=rfl
theorem j'b(q:Rat)(Q:Tr->Prop):akw (Enc.t q) (.int 0) Q=Q (.int q.num):=rfl
theorem j'c(q:Rat)(Q:Tr->Prop):akw (Enc.t q) (.int 1) Q=Q (.int (q.den:Int)):=rfl
theorem o'u:Tr.tup [.int 0,.int 1]=Enc.t (0:Rat):=rfl
theorem r'D:Tr.tup [.int 1,.int 1]=Enc.t (1:Rat):=rfl
def CLoop(ts:List Tr)(pg:PG')(pt:PB')(pe:PE')(σ':List Tr)(Q:Tr->Prop):Prop:=∃ I:Nat->List Tr->Prop,I 0 []/\
 (∀ i t acc,ts[i]?=some t->I i acc->pg t σ' λρ2=>pt ρ2 λb=>if b=true then pe ρ2 λx=>acc.length<1000000/\I (i+1) (acc++[x]) else I (i+1) acc)/\∀ acc,I ts.length acc->acc.length<=1000000/\Q (.lst .o acc)
theorem l'd(pi:PI')(pg:PG')(pt:PB')(pe:PE')(ix:List (Option Nat))(ρ:List Tr)(Q:Tr->Prop):alK pi pg pt pe ix ρ Q=(pi ρ λts _=>CLoop ts pg pt pe (aj2 ix ρ) Q):=rfl
theorem CLoop.mapT(ys:List γ)(g:γ->Tr)(h:γ->Tr){pg:PG'}{pe:PE'}{Q:Tr->Prop}(hl:ys.length<=1000000)(step:∀ y∈ys,∀ R:Tr->Prop,R (h y)->pg (g y) σ' λρ2=>pe ρ2 R)(q:Q (.lst .o (ys.map h))):CLoop (ys.map g) pg amd pe σ' Q:=by
 refine⟨λi acc=>acc=(ys.take i).map h,rfl,λi t acc e a=>?_,λacc a=>?_⟩
 ·rw[List.getElem?_map] at e;cases e':ys[i]? with
  |none=>rw[e'] at e;cases e
  |some y=>
   rw[e'] at e;cases e;have l:=(List.getElem?_eq_some_iff.mp e').1;refine step y (List.mem_of_getElem? e') _ ⟨?_,?_⟩
   ·rw[a,List.length_map,List.length_take];omega
   ·show acc++[h y]=(ys.take (i+1)).map h;rw[a,List.take_add_one,e',List.map_append];rfl
 ·rw[List.length_map,List.take_length] at a;rw[a,List.length_map];exact⟨hl,q⟩
theorem CLoop.map[Enc β](ys:List γ)(g:γ->Tr)(h:γ->β){pg:PG'}{pe:PE'}{Q:Tr->Prop}(hl:ys.length<=1000000)(step:∀ y∈ys,∀ R:Tr->Prop,R (Enc.t (h y))->pg (g y) σ' λρ2=>pe ρ2 R)(q:Q (.lst .o ((ys.map h).map Enc.t))):CLoop (ys.map g) pg amd pe σ' Q:=
 CLoop.mapT ys g (λy=>Enc.t (h y)) hl step (by rw[List.map_map] at q;exact q)
def oQ(o:Option Tr)(Q:Tr->Prop):Prop:=match o with |some t=>Q t |none=>False
theorem g'd(t:Tr)(Q:Tr->Prop):oQ (some t) Q=Q t:=rfl
section
theorem o'v:akw (.tup xs) (.int i) Q=oQ (atI xs i) Q:=rfl
theorem g'e:akw (.lst f xs) (.int i) Q=oQ (atI xs i) Q:=rfl
theorem o'w(C:Int->Int->Prop)(t:Int->Int->Tr):ajl C t (.int i) (.int j) Q=(C i j/\Q (t i j)):=rfl
theorem o'x:al8 (.int i) (.int j) Q=Q (.int (i+j)):=rfl
theorem o'y:al8 (.str x) (.str y) Q=(x.length+y.length<=1000000/\Q (.str (x++y))):=rfl
theorem o'z:al8 (.lst f xs) (.lst g ys) Q=(xs.length+ys.length<=1000000/\Q (.lst .o (xs++ys))):=rfl
theorem r'E:am0 (.int i) (.int j) Q=(akq i j/\Q (.int (i*j))):=rfl
theorem w_lt:wLt (.int i) (.int j) Q=Q (.bl (decide (i<j))):=rfl
theorem v'P:wGt (.int i) (.int j) Q=Q (.bl (decide (j<i))):=rfl
theorem r'F:am1 (.int i) Q=Q (.int (-i)):=rfl
theorem r'G:anr [.int i] Q=Q (.int (if i<0 then -i else i)):=rfl
theorem v'Q(R:Bool->Prop):wBl (.bl b) R=R b:=rfl
theorem r'H:wEq false (.int i) (.int j) Q=Q (.bl (decide (i=j))):=rfl
theorem r'I:wEq false (.str x) (.str y) Q=Q (.bl (decide (x=y))):=rfl
theorem r'J:wEq false (.bl b) (.bl c) Q=Q (.bl (decide (b=c))):=rfl
theorem r'K:wEq true (.int i) (.int j) Q=Q (.bl (!decide (i=j))):=rfl
theorem r'L:wEq true (.str x) (.str y) Q=Q (.bl (!decide (x=y))):=rfl
theorem r'M:wEq true (.bl b) (.bl c) Q=Q (.bl (!decide (b=c))):=rfl
theorem o'A:amb k [.lst f xs] Q=Q (.int xs.length):=rfl
theorem o'B:amb k [.tup xs] Q=Q (.int xs.length):=rfl
theorem o'C:alH [.lst f xs] Q=Q (.lst .o xs):=rfl
theorem r'N(R:List Tr->Prop):amy (.lst f xs) R=R xs:=rfl
theorem o'D(R:Int->Prop):ak7 [.int i] R=R i:=rfl
theorem r'O:alL false (.bl b) (.bl c) Q=Q (.bl (b == c)):=by show Q (.bl (false ^^ (b == c)))=_;rw[Bool.false_xor]
theorem o'E:alI [.bl b] Q=Q (.int (if b=true then 1 else 0)):=rfl
end
theorem o'F[Enc α][Enc β](r:α×β)(Q:Tr->Prop):akw (Enc.t r) (.int 0) Q=Q (Enc.t r.1):=rfl
theorem o'G[Enc α][Enc β](r:α×β)(Q:Tr->Prop):akw (Enc.t r) (.int 1) Q=Q (Enc.t r.2):=rfl
section
def wP0(o:Option Tr)(R:Tr->Prop):Prop:=match o with |some .hole=>False |some t=>R t |none=>False
theorem r'P(ρ:List Tr)(i:Nat)(Q:Tr->(Tr->List Tr)->Prop):wPl K ρ i [] Q=wP0 ρ[i]? λt=>Q t λu=>ρ.set i u:=by
 unfold wPl wP0;cases ρ[i]? with
 |none=>rfl
 |some t=>cases t <;> first |rfl |exact propext ⟨λh=>h.2,λh=>⟨trivial,h⟩⟩
theorem o'H(f:Fl)(xs:List Tr)(R:Tr->Prop):wP0 (some (.lst f xs)) R=R (.lst f xs):=rfl
theorem o'I(f:Fl)(xs:List (Key×Tr))(R:Tr->Prop):wP0 (some (.dic f xs)) R=R (.dic f xs):=rfl
theorem o'J:ajp (.lst .o xs) Q=Q xs:=rfl
end
section
variable{α:Type}[Enc α]
theorem d'J(xs:List α)(a:α):xs.map Enc.t++[Enc.t a]=(xs++[a]).map Enc.t:=by rw[List.map_append];rfl
theorem j'd(xs:List Int)(a:Int):xs.map Enc.t++[Tr.int a]=(xs++[a]).map Enc.t:=d'J xs a
theorem j'e(xs:List Str)(a:Str):xs.map Enc.t++[Tr.str a]=(xs++[a]).map Enc.t:=d'J xs a
theorem d'n(xs:List α)(i:Int):atI (xs.map Enc.t) i=(atI xs i).map Enc.t:=by
 unfold atI;rw[List.length_map];cases ixN xs.length i with
 |none=>rfl
 |some n=>exact List.getElem?_map ..
theorem e'q(xs:List β)(h0:0<=i)(h:i.toNat<xs.length):atI xs i=some (xs[i.toNat]'h):=by
 unfold atI ixN;rw[if_pos h0,if_pos (by omega)];exact List.getElem?_eq_getElem h
theorem r'Q[Enc β](o:Option β)(Q:Tr->Prop)(x:β)(h:o=some x)(q:Q (Enc.t x)):oQ (o.map Enc.t) Q:=by rw[h];exact q
theorem l'e(xs:List α)(l h:Option Int):akK (xs.map Enc.t) l h=(akK xs l h).map Enc.t:=by
 unfold akK;rw[List.length_map,List.map_take,List.map_drop]
theorem r'R(f:Fl)(xs:List Tr)(l h:Option Int)(Q:Tr->Prop):wSl (.lst f xs) l h Q=Q (.lst .o (akK xs l h)):=rfl
end
theorem v'R{p:PS'}(J:List Tr->Prop)(h1:∀ N:List Tr->Prop,(∀ ρ,J ρ->N ρ)->p { D with nx:=N } ρ)(h2:∀ ρ,J ρ->D.nx ρ):p D ρ:=h1 D.nx h2
section
variable{α:Type}[Enc α](m:List (Str×α))(f:Fl)
theorem o'K(x:Str)(Q:Key->Prop):am2 (.str x) Q=Q (Sum.inr x):=rfl
theorem o'L(x:Int)(Q:Key->Prop):am2 (.int x) Q=Q (Sum.inl x):=rfl
end
mutual
def smT:Tr->Tr->Bool
 |.int a,.int b=>decide (a = b)
 |.str a,.str b=>decide (a = b)
 |.bl a,.bl b=>decide (a = b)
 |.non,.non=>true
 |.tup xs,.tup ys=>smTs xs ys
 |.lst _ xs,.lst _ ys=>smTs xs ys
 |_,_=>false
def smTs:List Tr->List Tr->Bool
 |[],[]=>true
 |x :: xs,y :: ys=>smT x y && smTs xs ys
 |_,_=>false
end
def aop:List (Key×Tr)->List (Key×Tr)->Bool
 |[],[]=>true
 |x :: xs,y :: ys=>decide (x.1 = y.1) && (smT x.2 y.2 && aop xs ys)
 |_,_=>false
def aoq:List (Key×Tr)->Nat
 |[]=>0
 |x :: xs=>max (dep x.2) (aoq xs)
mutual
def smN:Tr->Tr->Bool
 |.int a,.int b=>decide (a = b)
 |.str a,.str b=>decide (a = b)
 |.bl a,.bl b=>decide (a = b)
 |.non,.non=>true
 |.tup xs,.tup ys=>smNs xs ys
 |.lst _ xs,.lst _ ys=>smNs xs ys
 |.dic _ xs,.dic _ ys=>aop xs ys
 |_,_=>false
def smNs:List Tr->List Tr->Bool
 |[],[]=>true
 |x :: xs,y :: ys=>smN x y && smNs xs ys
 |_,_=>false
end
mutual
def aoD:Tr->Nat
 |.tup xs=>depNs xs + 1
 |.lst _ xs=>depNs xs + 1
 |.dic _ xs=>aoq xs + 1
 |_=>0
def depNs:List Tr->Nat
 |[]=>0
 |x :: xs=>max (aoD x) (depNs xs)
end
def TM(X:Cx)(id:String)(r:Str->Str->Hp->VK->Prop):Prop:=∀(pins:List (Addr×Obj))(s:Shared)(σ:St)(H:Hp)(a b:Str)(t u:Tok)(Q:VK),Inv X pins σ H s->r a b H Q->wpAny (model X.prog X.w) X.A (call (.builtin id) [.str a t,.str b u]) (EP X pins σ Q) X.xe s
def tTm(r:Str->Str->Hp->VK->Prop)(td ty:TE):TE:=λσ H Q=>td σ H λx H1=>∃ a,x=.str a/\ty σ H1 λy H2=>∃ b,y=.str b/\r a b H2 Q
section
theorem r'S{o e:Expr}{name:Str}{id:String}{apos cpos:Pos}{td ty:TE}{r:Str->Str->Hp->VK->Prop}(sl:Slot "str" name id)(tp:typeOf (.builtin id)=pure (.type "method_descriptor"))(hT:TM X id r)(ho:PE X o td)(he:PE X e ty)(m:M1 X o name apos e cpos):PE X (.Call (.Attribute o name apos) [e] [] cpos) (tTm r td ty):=by
 intro pins s σ H Q I h;refine wpAny_Call_method m.base m.few m.line PySem.F.plainAttrs_str sl tp (thn (ho pins s σ H _ I h) λu s1 ⟨x,H1,I1,rx,a,ex,q1⟩=>?_);subst ex;obtain⟨t,rfl⟩:=(show ∃ t,u=Value.str a t from rx);refine⟨typeIs_str s1 a t,(λb z=>by cases z),?_⟩;rw[m.trees];refine Calls.callWith_builtin rfl (Calls.evalArgs_plain (Calls.spliced_cons (thn (he pins s1 σ H1 _ I1 q1) λiv s2 ⟨y,H2,I2,ry,b,ey,q2⟩=>Calls.spliced_nil ?_)));subst ey;obtain⟨t',rfl⟩:=(show ∃ t,iv=Value.str b t from ry);exact hT pins s2 σ H2 a b t t' Q I2 q2
def stW(a b:Str):Bool:=decide (0+b.length<=a.length) && Builtin.Str.subAt a b 0
theorem o'M:TM X "str.startswith" λa b H Q=>Q (.bl (stW a b)) H:=λpins s σ H a b t u Q I q=>
 call_gives F.slot_str_startswith (typeIs_str s a t) F.entry_str_startswith (F.args_str_startswith_2 _ _) (gives_str_startswith a b t u) ⟨.bl _,H,I,rfl,q⟩
theorem g'f:∀(ps:List Str)(n:Nat),Vals (ps.map V.str) (strsFrom n ps)
 |[],_=>.nil
 |p :: ps,n=>.cons ⟨n,rfl⟩ (g'f ps (n + 1))
theorem f'w{s:Shared}{Q:VK}(I:Inv X pins σ H s)(rv:Vals xs its)(hl:xs.length<=sizeLine)(q:Q (.ref s.heap.objs.size) (upd H s.heap.objs.size (.lst xs))):EP X pins σ Q (.ref s.heap.objs.size) { s with heap:=s.heap.push { cls:=.type "list",data:=.seq its.toArray },toks:=t' }:=
 ⟨.ref _,_,I.laid (a:=s.heap.objs.size) (o:=.lst xs) (t':=t') (λb o e=>Heap.get?_push_of_some _ e) (Nat.le_refl _) ⟨hl,its,0,rv,Heap.get?_push_size _ rfl⟩,rfl,q⟩
theorem q'y:TM X "str.split" λa b H Q=>(b.length == 0)=false/\a.length<=1000000/\(Txt.split a b).length<=1000000/\∀ p,H p=none->Q (.ref p) (upd H p (.lst ((Txt.split a b).map V.str))):=λpins s σ H a b t u Q I ⟨h0,h1,h2,q⟩=>by
 have fr:H s.heap.objs.size=none:=I.hok.fresh (Nat.le_refl _);have q:=q _ fr;have sz:=sizeLine_eq;unfold Txt.split at h2 q;by_cases c1:(decide (a.length<b.length) || decide (Builtin.Str.strKind a<Builtin.Str.strKind b))=true
 ·rw[if_pos c1] at h2 q;refine call_meets F.slot_str_split (typeIs_str s a t) F.entry_str_split (F.args_str_split_2 _ _) (meets_str_split_cannot_occur a b t u c1) ?_;exact f'w (t':=s.toks) I (xs:=[.str a]) (its:=[.str a t]) (.cons ⟨t,rfl⟩ .nil) (show (1:Nat)<=sizeLine by rw[sz];decide) q
 ·rw[if_neg c1] at h2 q;have c1:=Bool.eq_false_iff.mpr c1;by_cases c2:(Builtin.Str.occurrences a b 0 a.length (a.length+1)).isEmpty=true
  ·rw[if_pos c2] at h2 q;refine call_meets F.slot_str_split (typeIs_str s a t) F.entry_str_split (F.args_str_split_2 _ _) (meets_str_split_not_found a b t u c1 h0 c2) ?_;exact f'w (t':=s.toks) I (xs:=[.str a]) (its:=[.str a t]) (.cons ⟨t,rfl⟩ .nil) (show (1:Nat)<=sizeLine by rw[sz];decide) q
  ·rw[if_neg c2] at h2 q;refine call_meets F.slot_str_split (typeIs_str s a t) F.entry_str_split (F.args_str_split_2 _ _) (meets_str_split_sep a b t u c1 h0 (Bool.eq_false_iff.mpr c2) (by rw[sz];omega) (by rw[sz];omega)) ?_;exact f'w I (g'f _ _) (by rw[List.length_map,sz];omega) q
end
def wTx(x:Tr)(R:Str->Prop):Prop:=match x with |.str a=>R a |_=>False
def pTm(pr:Str->Str->(Tr->Prop)->Prop)(pd py:PE'):PE':=λρ Q=>pd ρ λx=>wTx x λa=>py ρ λy=>wTx y λb=>pr a b Q
theorem c'J{R:Str->Prop}(h:wTx x R):∃ a,x=.str a/\R a:=by
 unfold wTx at h;split at h
 ·exact⟨_,rfl,h⟩
 ·exact h.elim
def akd(a b:Str)(Q:Tr->Prop):Prop:=Q (.bl (stW a b))
def akM(a b:Str)(Q:Tr->Prop):Prop:=(b.length == 0)=false/\a.length<=1000000/\(Txt.split a b).length<=1000000/\Q (.lst .o ((Txt.split a b).map Tr.str))
section
def OkT(K:W.Frag)(r:Str->Str->Hp->VK->Prop)(pr:Str->Str->(Tr->Prop)->Prop):Prop:=∀(F:Hp)(B:Bool->Hp)(H:Hp)(a b:Str)(Q:VK)(Q':Tr->Prop),Same F H->(∀ k,Same (B k) H)->pr a b Q'->(∀ t v F' H' c,Q' t->Out K F B H F' H' t v c->Q v H')->r a b H Q
theorem o'N(o:OkT K r pr)(hd:Sim K k td pd)(hy:Sim K k ty py):Sim K k (tTm r td ty) (pTm pr pd py):=λF B H σ ρ Q Q' c p q=>by
 refine hd F B H σ ρ _ _ c p λx v F1 H1 c1 p1 o1=>?_
 obtain⟨a,rfl,p1⟩:=c'J p1;refine⟨a,o1.r.1,?_⟩;refine hy F1 B H1 σ ρ _ _ (c.gr o1.g) p1 λy u F2 H2 c2 p2 o2=>?_
 obtain⟨b,rfl,p2⟩:=c'J p2;refine⟨b,o2.r.1,?_⟩;exact o F2 B H2 a b Q Q' o2.g.s (λk=>((c.b k).trans o1.g.h).trans o2.g.h) p2 λt v F3 H3 c' qt ot=>q t v F3 H3 c' qt ⟨(o1.g.trans' o2.g).trans' ot.g,ot.r,ot.c,λp m=>(o1.g.h.trans o2.g.h).free (ot.n p m)⟩
theorem m's:OkT K (λa b H Q=>Q (.bl (stW a b)) H) akd:=λF B H a b Q Q' s _ p q=>q _ _ F H [] p (Out.same s ⟨rfl,rfl⟩)
theorem e'V:∀ ps:List Str,Rs K F B (ps.map Tr.str) (ps.map V.str) []
 |[]=>⟨rfl,rfl⟩
 |p :: ps=>⟨_,_,[],[],rfl,rfl,⟨rfl,rfl⟩,e'V ps⟩
theorem o'O:OkT K (λa b H Q=>(b.length == 0)=false/\a.length<=1000000/\(Txt.split a b).length<=1000000/\∀ p,H p=none->Q (.ref p) (upd H p (.lst ((Txt.split a b).map V.str)))) akM:=λF B H a b Q Q' s _ ⟨h0,h1,h2,p⟩ q=>⟨h0,h1,h2,λl hl=>by
 obtain⟨n1,n2,n3⟩:=c'x (K:=K) (B:=B) s (e'V (Txt.split a b)) .nil hl;exact q _ _ F _ _ p ⟨n1,n2,n3,λp m=>by cases m with |head=>exact hl |tail _ m=>cases m⟩⟩
end
section
theorem q'z(ho:QE X k o po)(he:QE X k e pe)(m:M1 X o "startswith" apos e cpos):QE X k (.Call (.Attribute o "startswith" apos) [e] [] cpos) (pTm akd po pe):=by
 obtain⟨te,h1,h2⟩:=ho.h;obtain⟨tf,g1,g2⟩:=he.h;exact⟨_,r'S F.slot_str_startswith F.type_str_startswith o'M h1 g1 m,o'N m's h2 g2⟩
theorem e'W(ho:QE X k o po)(he:QE X k e pe)(m:M1 X o "split" apos e cpos):QE X k (.Call (.Attribute o "split" apos) [e] [] cpos) (pTm akM po pe):=by
 obtain⟨te,h1,h2⟩:=ho.h;obtain⟨tf,g1,g2⟩:=he.h;exact⟨_,r'S F.slot_str_split F.type_str_split q'y h1 g1 m,o'N o'O h2 g2⟩
end
def Itc(x:Str):It:=⟨λi _=>i<x.cps.size,λi H v H'=>H'=H/\∃ c,x.cps[i]?=some c/\v=.str ⟨#[c]⟩,λi _=>x.cps.size<=i⟩
theorem h'z(hh:A.handled=none)(it:Addr)(x:Str)(t:Tok):Walks prog w A it [it] [it] x.cps.size (SignAt x) (λi h=>h.IsStrIter it (strIterType x) x t i):=by
 cases e:x.cps.all (·<128)
 ·have z:strIterType x="str_iterator":=by unfold strIterType;rw[e];rfl
  rw[z];exact Walks.strWide hh it x t
 ·have z:strIterType x="str_ascii_iterator":=by unfold strIterType;rw[e];rfl
  rw[z];exact Walks.strAscii hh it x t
theorem q'A(x:Str)(t:Tok)(it:Addr):ami P w K tg (Itc x) [it] it (λi h=>i<=x.cps.size/\h.IsStrIter it (strIterType x) x t i) where
 mem:=by simp
 obj:=λi h st b hb=>by
  have e:b=it:=by simpa using hb
  subst e;obtain⟨_,o,e,c,d⟩:=st;exact⟨o,e,λv z=>by rw[d] at z;cases z⟩
 keep:=λi h h' st k=>by
  obtain⟨h0,o,e,c,d⟩:=st;exact⟨h0,o,k it (by simp) o e,c,d⟩
 item:=by
  intro X hP hw hK hc i pins s σ H E I hf st hg;subst hP hw hK;obtain⟨f0,f1,f2,f3,f4,f5⟩:=hf it (by simp);refine (h'z (prog:=X.prog) (w:=X.w) (I.ok.hd hc) it x t).item i s _ _ hg st.2 λv h' tk hv st' kk=>?_
  have I1:Inv X pins σ H { s with heap:=h',toks:=tk }:=I.turned (λb o hb e=>kk b o (by simpa using hb) e) f0 f1 f3 f4 f5;obtain⟨c,u,hx,rfl⟩:=(show ∃ c u,x.cps[i]?=some c/\v=Value.str ⟨#[c]⟩ u from hv)
  obtain⟨o,e,c1,d⟩:=id st';refine⟨_,rfl,l'R (s:={ s with heap:=h',toks:=tk }) e c1 d ?_ ⟨.str ⟨#[c]⟩,H,I1,⟨u,rfl⟩,⟨rfl,c,hx,rfl⟩,⟨hg,st'⟩,λb hb=>(hf b hb).1⟩⟩;unfold strIterType;split<;>decide
 done:=by
  intro X hP hw hK hc i pins s σ H E I hf st hg;subst hP hw hK;obtain⟨f0,f1,f2,f3,f4,f5⟩:=hf it (by simp);have e:i=x.cps.size:=Nat.le_antisymm st.1 hg;subst e;exact (h'z (prog:=X.prog) (w:=X.w) (I.ok.hd hc) it x t).done s _ _ st.2 λh' tk kk=>⟨rfl,I.turned (λb o hb e=>kk b o (by simpa using hb) e) f0 f1 f3 f4 f5⟩
 self:=λA i s Q E st q=>by
  obtain⟨h0,st⟩:=st;cases e:x.cps.all (·<128)
  ·have z:strIterType x="str_iterator":=by unfold strIterType;rw[e];rfl
   rw[z] at st;exact wpAny_pyIter_striter_wide st q
  ·have z:strIterType x="str_ascii_iterator":=by unfold strIterType;rw[e];rfl
   rw[z] at st;exact wpAny_pyIter_striter_ascii st q
def aor(tl:TE):TI:=λσ H R=>tl σ H λx H1=>∃ a,x=.str a/\R (Itc a) H1
theorem v'S(hl:PE X l tl):PI X tg l (aor tl):=by
 intro pins s σ H R I h;refine thn (hl pins s σ H _ I h) λv s1 ⟨x,H1,I1,r1,q1⟩=>?_
 obtain⟨a,e,q⟩:=q1;subst e;obtain⟨t,rfl⟩:=(show ∃ t,v=Value.str a t from r1);refine wpAny_pyIter_strU ?_;refine⟨s1.heap.objs.size,[s1.heap.objs.size],_,_,H1,rfl,I1.kept (t':=s1.toks) λb o e=>Heap.get?_push_of_some _ e,q'A a t _,⟨Nat.zero_le _,_,Heap.get?_push_size _ rfl,rfl,rfl⟩,λb hb=>?_,q⟩;have e:b=s1.heap.objs.size:=by simpa using hb
 subst e;exact I1.fpOk (Nat.le_refl _) (I1.hok.fresh (Nat.le_refl _))
def aj3(x:Str):List Tr:=x.cps.toList.map λc=>.str ⟨#[c]⟩
def piS(pe:PE'):PI':=λρ Q=>pe ρ λt=>wTx t λx=>Q (aj3 x) true
theorem v'T:ItOk (Itc x) (aj3 x).length (λ_=>True) (λi H v H'=>(∃ c,x.cps[i]?=some c/\v=.str ⟨#[c]⟩)/\H'=H):=by
 have e:(aj3 x).length=x.cps.size:=by unfold aj3;rw[List.length_map,Array.length_toList]
 rw[e];exact⟨λi H h _=>h,λH _=>Nat.le_refl _,λi H x H' h _ y=>⟨y.2,y.1⟩⟩
section
theorem l'f:Src K B F (Itc x) (aj3 x):=by
 refine⟨_,_,v'T,λ_ _ _ _ _=>True.intro,λi t F' H' v H'' ht l' s b y=>?_⟩;obtain⟨⟨c,hc,rfl⟩,rfl⟩:=y;unfold aj3 at ht;rw[List.getElem?_map,Array.getElem?_toList,hc] at ht;cases ht;exact⟨F',Gr.refl' s,rfl,rfl⟩
theorem q'B(h:Sim K k te pe):al9 K k (aor te) (piS pe):=λF B H σ ρ R' Q' c p q=>by
 refine h F B H σ ρ _ _ c p λt v F1 H1 c1 p1 o=>?_
 obtain⟨a,rfl,p1⟩:=c'J p1;exact⟨a,o.r.1,q _ _ _ F1 H1 p1 o.g l'f λ_ B' _=>l'f⟩
end
section
theorem v'U(h:QE X k l pl):QI X k tg l (piS pl):=by
 obtain⟨te,h1,h2⟩:=h.h;exact⟨_,v'S h1,q'B h2⟩
end
def alk(b a:Str):Bool:=!(Builtin.Str.occurrences b a 0 b.length 1).isEmpty
def aos(neg:Bool)(x y:Tr)(Q:Tr->Prop):Prop:=wTx x λa=>wTx y λb=>Q (.bl (if neg=true then !alk b a else alk b a))
theorem l'g:Op2 K k (λx y H Q=>∃ i j,x=.str i/\y=.str j/\Q (.bl (!(Builtin.Str.occurrences j i 0 j.length 1).isEmpty)) H) (aos false):=λF B H x y tx ty cx cy Q Q' s b z rx ry hx hy hd p q=>by
 obtain⟨i,rfl,p1⟩:=c'J p;obtain⟨j,rfl,p2⟩:=c'J p1;exact⟨i,j,rx.1,ry.1,q _ _ F H [] p2 (Gr.refl' s) ⟨rfl,rfl⟩ .nil λ_ m=>nomatch m⟩
theorem b'L:CallR X (.type "int") (λxs H Q=>∃ x n,xs=[.str x]/\intText? x=some n/\x.length<=640/\Q (.int n) H):=by
 intro pins s σ H xs us Q I r h;obtain⟨x,n,rfl,e,hl,q⟩:=h;obtain⟨u,rfl,ru⟩:=b'E r;obtain⟨t,rfl⟩:=(show ∃ t,u=Value.str x t from ru);exact W.KIN.call_text e hl ⟨.int _,H,I.tok _,⟨_,rfl⟩,q⟩
def alN(ts:List Tr)(Q:Tr->Prop):Prop:=match ts with
 |[.str x]=>∃ n,intText? x = some n /\ x.length <= 640 /\ Q (.int n)
 |_=>False
theorem b'Y:OpA K k (λxs H Q=>∃ x n,xs=[.str x]/\intText? x=some n/\x.length<=640/\Q (.int n) H) alN:=λF B H xs ts cx Q Q' s b z r hc p q=>by
 unfold alN at p;split at p
 ·obtain⟨v,rfl,rfl,_⟩:=r.one;obtain⟨n,e,hl,p⟩:=p;exact⟨_,n,rfl,e,hl,q _ _ F H [] p (Gr.refl' s) ⟨rfl,rfl⟩ .nil λ_ m=>nomatch m⟩
 ·exact p.elim
def alm(K:W.Frag)(k:Md)(tj:Str->TE)(pj:Str->PE'):Prop:=∀ out,Sim K k (tj out) (pj out)
def pjN:Str->PE':=λout _ Q=>out.length<=1000000/\Q (.str out)
def pjT(x:Str)(p:Str->PE'):Str->PE':=λout ρ Q=>(out++x).length<=1000000/\p (out++x) ρ Q
def pjV(pe:PE')(p:Str->PE'):Str->PE':=λout ρ Q=>pe ρ λt=>wTx t λy=>y.length<=1000000/\(out++y).length<=1000000/\p (out++y) ρ Q
def pFs(p:Str->PE'):PE':=p Str.empty
section
theorem e'r(h:n<=1000000):n<=sizeLine:=by rw[sizeLine_eq];omega
theorem v'V:alm K k an8 pjN:=λout F B H σ ρ Q Q' c p q=>⟨e'r p.1,q _ _ F H [] p.2 (Out.same c.s ⟨rfl,rfl⟩)⟩
theorem v'W(h:alm K k t p):alm K k (an9 x t) (pjT x p):=λout F B H σ ρ Q Q' c pp q=>⟨e'r pp.1,h _ F B H σ ρ Q Q' c pp.2 q⟩
theorem v'X(he:Sim K k te pe)(h:alm K k t p):alm K k (aoa te t) (pjV pe p):=λout F B H σ ρ Q Q' c pp q=>by
 refine he F B H σ ρ _ _ c pp λt v F1 H1 c1 p1 o1=>?_
 obtain⟨y,rfl,h1,h2,p1⟩:=c'J p1;exact⟨y,o1.r.1,e'r h1,e'r h2,h _ F1 B H1 σ ρ Q Q' (c.gr o1.g) p1 λt v F2 H2 c2 qt o2=>q t v F2 H2 c2 qt ⟨o1.g.trans' o2.g,o2.r,o2.c,λp m=>o1.g.h.free (o2.n p m)⟩⟩
end
structure QJ(X:Cx)(k:Md)(es:List Expr)(pj:Str->PE'):Prop where
 h:∃ tj,PJ X es tj/\alm X.K k tj pj
section
theorem b'v:QJ X k [] pjN:=⟨_,v'b,v'V⟩
theorem b'b(h:QJ X k es p):QJ X k (.Constant (.str x) j pos :: es) (pjT x p):=by
 obtain⟨t,h1,h2⟩:=h.h;exact⟨_,v'c h1,v'W h2⟩
theorem a'L(he:QE X k e pe)(h:QJ X k es p):QJ X k (.FormattedValue e (-1) none pos :: es) (pjV pe p):=by
 obtain⟨t,h1,h2⟩:=h.h;obtain⟨te,g1,g2⟩:=he.h;exact⟨_,v'd g1 h1,v'X g2 h2⟩
theorem b'w(h:QJ X k (a :: b :: es) p):QE X k (.JoinedStr (a :: b :: es) pos) (pFs p):=by
 obtain⟨t,h1,h2⟩:=h.h;exact⟨_,s'M h1,h2 _⟩
end
theorem o'P:∀{as:List Addr}{vs:List V}{c:Cs},Rs K F B (as.map Tr.cl) vs c->vs=as.map V.ref
 |[],_,_,h=>h.1
 |a :: as,_,_,⟨v,r,c,d,h1,_,h3,h4⟩=>by rw[h1,h3.1,o'P h4]; rfl
theorem x'c(hg:Gl X x)(hm:X.mg x=none)(hv:bootBuiltins x=some (.type n))(hn:x≠"__name__":=by decide)(hd:(x == ("__debug__":Str))=false:=by decide):QE X k (.Name x pos) (pC (.ty n)):=⟨_,s'r (v:=.ty n) hg hm hv rfl hn hd,e'J λ_ _=>⟨rfl,rfl⟩⟩
theorem r'T(pr:Str->Str->(Tr->Prop)->Prop)(pd py:PE')(ρ:List Tr)(Q:Tr->Prop):pTm pr pd py ρ Q=(pd ρ λx=>wTx x λa=>py ρ λy=>wTx y λb=>pr a b Q):=rfl
theorem v'Y(a:Str)(R:Str->Prop):wTx (.str a) R=R a:=rfl
theorem o'Q:aj3 x=x.cps.toList.map λc=>.str ⟨#[c]⟩:=rfl
theorem r'U(pe:PE')(ρ:List Tr)(Q:List Tr->Bool->Prop):piS pe ρ Q=(pe ρ λt=>wTx t λx=>Q (aj3 x) true):=rfl
theorem r'V:pFs p ρ Q=p Str.empty ρ Q:=rfl
theorem r'W(out:Str)(ρ:List Tr)(Q:Tr->Prop):pjN out ρ Q=(out.length<=1000000/\Q (.str out)):=rfl
theorem r'X(x:Str)(p:Str->PE')(out:Str)(ρ:List Tr)(Q:Tr->Prop):pjT x p out ρ Q=((out++x).length<=1000000/\p (out++x) ρ Q):=rfl
theorem r'Y(pe:PE')(p:Str->PE')(out:Str)(ρ:List Tr)(Q:Tr->Prop):pjV pe p out ρ Q=(pe ρ λt=>wTx t λy=>y.length<=1000000/\(out++y).length<=1000000/\p (out++y) ρ Q):=rfl
theorem j'f:akd a b Q=Q (.bl (stW a b)):=rfl
theorem l'h:akM a b Q=((b.length == 0)=false/\a.length<=1000000/\(Txt.split a b).length<=1000000/\Q (.lst .o ((Txt.split a b).map (Enc.t (α:=Str))))):=rfl
theorem r'Z(neg:Bool)(a b:Str)(Q:Tr->Prop):aos neg (.str a) (.str b) Q=Q (.bl (if neg=true then !alk b a else alk b a)):=rfl
theorem o'R:alN [.str x] Q=(∃ n,intText? x=some n/\x.length<=640/\Q (.int n)):=rfl
end Pu
namespace L2
open PySem PySem.Spec PyProof.Rows
def amA(D:Addr->Nat->Prop)(m:Str)(sp:Nat->Sp)(R:St->XK)(ta:TE)(t:TA):TE:=λσ H Q=>ta σ H λx H1=>∃ a C dx fs g,x=.ref a/\Rd H1 a (.ins C dx fs)/\D C g/\fs.lookup m=none/\t σ H1 λvs H2=>sp g (x :: vs) H2 Q (R σ)
section
theorem v'Z(he:PE X o ta)(hD:∀ C g,D C g->MOkA X.prog X.w X.K X.mg X.base CX k m C ps (sp g))(hr:Room k X.A)(hx:∀ σ,aio CX X σ (R σ))(ha:PA X (e :: es) t)(hst:starEach (e :: es) X.env=(false,eval e X.env) :: starEach es X.env:=by rfl)(hpl:(backTo pos (starEach es X.env)).any (·.1)=false:=by rfl)(ht:eval (.Call (.Attribute o m apos) (e :: es) [] pos) X.env=(do
   let ov <- eval o X.env
   standAt apos.atName
   let (f,first) <- holding [ov] (getMethod ov m pl)
   callWith pos f first (backTo pos (starEach (e :: es) X.env)) (backToKw pos (keywordEach [] X.env))):=by rfl):
  PE X (.Call (.Attribute o m apos) (e :: es) [] pos) (amA D m sp R ta t):=by
 intro pins s σ H Q I h;refine W.methodCall_KW (pl:=pl) (thn (he pins s σ H _ I h) λu s1 ⟨x,H1,I1,rx,a,C,dx,fs,g,ex,ea,d,l,q⟩=>?_) ht;subst ex;obtain rfl:u=Value.ref a:=rx;obtain⟨c,f,fd,hm,F,hb⟩:=hD C g d;obtain⟨mA,O,r⟩:=e'j I1.hok ea;have hn:mA m=none:=RelO.none_of (by rw[<- l];exact r m);refine i'i I1.kIn O (c.get m) hm.at_ hm.fn hn ?_;refine W.callWith_K (first:=[.ref a]) (h₀:=X.base) I.ok.mod.kin hm.kp (thn (ha pos pins s1 σ H1 _ I1 q) λus s2 ⟨vs,H2,I2,rv,q2⟩=>⟨I2.kIn,?_⟩) hst hpl;exact g'u (us:=.ref a :: us) (vs:=.ref a :: vs) F hr hb .nil (hx σ) I2 (.cons rfl rv) (by rw[List.append_nil];exact q2)
theorem l'i(he:PE X o ta)(hD:∀ C g,D C g->MOkA X.prog X.w X.K X.mg X.base CX k m C ps (sp g))(hr:Room k X.A)(hx:∀ σ,aio CX X σ (R σ))(ht:eval (.Call (.Attribute o m apos) [] [] pos) X.env=(do
   let ov <- eval o X.env
   standAt apos.atName
   let (f,first) <- holding [ov] (getMethod ov m pl)
   callWith pos f first (backTo pos (starEach [] X.env)) (backToKw pos (keywordEach [] X.env))):=by rfl):
  PE X (.Call (.Attribute o m apos) [] [] pos) (amA D m sp R ta akA):=by
 intro pins s σ H Q I h;refine W.methodCall_KW (pl:=pl) (thn (he pins s σ H _ I h) λu s1 ⟨x,H1,I1,rx,a,C,dx,fs,g,ex,ea,d,l,q⟩=>?_) ht;subst ex;obtain rfl:u=Value.ref a:=rx;obtain⟨c,f,fd,hm,F,hb⟩:=hD C g d;obtain⟨mA,O,r⟩:=e'j I1.hok ea;have hn:mA m=none:=RelO.none_of (by rw[<- l];exact r m);refine i'i I1.kIn O (c.get m) hm.at_ hm.fn hn ?_;exact W.callWith_K0 (first:=[.ref a]) I1.kIn hm.kp (g'u (us:=[.ref a]) (vs:=[.ref a]) F hr hb .nil (hx σ) I1 (.cons rfl .nil) (by rw[List.append_nil];exact q))
theorem m't(h:ajG CX X E):∀ σ,aio CX X σ E:=λσ pins H s e s' I c=>h pins σ H s e s' I c
end
end L2
namespace Pu
open PySem L2 Vc Sf
section
theorem o'S:∀(ts:List Tr)(i:Nat),(dns ts)[i]?=ts[i]?.map dn
 |[],_=>rfl
 |_ :: _,0=>rfl
 |_ :: xs,i + 1=>o'S xs i
theorem d'K{psp:ajm}{E:XK}{q':Value->Prop}{Q'':Tr->List Tr->Prop}{Q:VK}(hk:z=true->Fz S0 F)(hn:(dns ts).length=n)(bB:∀ k,Same (B k) H)(o1:OutA K F B H F1 H1 ts vs c1)(hE:∀ cls F' H',q' cls->Gr F H F' H'->E cls none H')(p1:psp (dns ts) Q'' q')(post:∀ F' H' σ' ρ' cs' v t c,Gr F H F' H'->(∀ c,New (hdn (c1.map (·.1)) H1) c->New H c)->Wld K ⟨z,λ_=>E,q'⟩ lo vs F1 (hdn (c1.map (·.1)) H1) F' H' σ' ρ' cs'->R K F' (λ_=>hdn (c1.map (·.1)) H1) t v c->Cells F' H' c->New H c->(∀ i,∀ p∈cs' i,∀ q∈c,p.1≠q.1)->nol t=true->Q'' t ρ'->Q v H'):spX K z lo n psp vs H1 Q E:=by
 obtain⟨cs,a1,a2,a3,a4⟩:=o1.r.split o1.c;have hl:vs.length=n:=by rw[o1.r.length,<- hn,b'o]
 have hb:∀ k,Same (B k) (hdn (c1.map (·.1)) H1):=λk a o e=>e'i (e'K o1.n (bB k a o e)) (o1.g.h _ _ (bB k a o e))
 have nw:∀ c,New (hdn (c1.map (·.1)) H1) c->New H c:=λc n p m=>by
  have z:=n p m;by_cases mc:p.1∈c1.map (·.1)
  ·obtain⟨q,mq,e⟩:=List.mem_map.mp mc;have e:q.1=p.1:=e;rw[<- e];exact o1.n q mq
  ·unfold hdn at z;rw[if_neg mc] at z;exact o1.g.h.free z
 refine⟨hl,F1,hdn (c1.map (·.1)) H1,dns ts,cs,_,q',⟨⟨i'B o1.g.s,Fz.refl F1⟩,λh=>o1.g.fz (hk h),by rw[List.length_map,b'o,o1.r.length],?_,a3,λi p m=>e'k (a2 i p m),a4,λi _=>by rw[List.getElem?_map],λcls _ F' H' h g=>hE cls F' H' h (o1.g.hdn o1.n g)⟩,p1,?_⟩
 ·intro i t h;rw[o'S] at h;cases z:ts[i]? with
  |none=>rw[z] at h;cases h
  |some u=>
   rw[z] at h;cases h;obtain⟨v,b1,b2⟩:=a1 i u z;exact .inr ⟨v,by rw[List.getElem?_map,b1];rfl,b2.dn (λk=>Le.of (hb k)) u⟩
 ·intro F' H' σ' ρ' cs' v t c' W r hc n dj nl qt;exact post F' H' σ' ρ' cs' v t c' (o1.g.hdn o1.n W.g) nw W r hc (nw _ n) dj nl qt
theorem o'T{psp:ajm}{E:XK}{q':Value->Prop}{Q':Tr->Prop}{Q:VK}(hk:z=true->Fz S0 F)(hn:(dns ts).length=n)(bB:∀ k,Same (B k) H)(o1:OutA K F B H F1 H1 ts vs c1)(hE:∀ cls F' H',q' cls->Gr F H F' H'->E cls none H')(p1:psp (dns ts) (λt _=>Q' t) q')(q:∀ t v F' H' cs,Q' t->Out K F B H F' H' t v cs->Q v H'):spX K z 0 n psp vs H1 Q E:=
 d'K hk hn bB o1 hE p1 λF' H' _ _ _ v t c g _ _ r hc n _ nl qt=>q t v F' H' c qt ⟨g,r.base t nl,hc,n⟩
theorem OutA.cons{F2 H2:Hp}{t:Tr}{v:V}{c:Cs}{ts:List Tr}{vs:List V}{d:Cs}(o:Out K F B H F1 H1 t v c)(a:OutA K F1 B H1 F2 H2 ts vs d):OutA K F B H F2 H2 (t :: ts) (v :: vs) (c++d) where
 g:=o.g.trans' a.g
 r:=⟨v,vs,c,d,rfl,rfl,o.r.mo a.g.le (λ_=>Le.refl _) t,a.r⟩
 c:=(o.c.gr a.g).app a.c λp mp q mq e=>by
  have:=o.c.h p mp;rw[e,a.n q mq] at this;cases this
 n:=λp m=>(List.mem_append.mp m).elim (o.n p) λm=>o.g.h.free (a.n p m)
def ajP(D:Addr->Nat->Prop)(m:Str)(x:Tr)(Q:Nat->Prop):Prop:=match x with |.ins _ c fs=>∃ g,D c g/\fs.lookup m=none/\Q g |_=>False
theorem l'j{D:Addr->Nat->Prop}{Q:Nat->Prop}(h:ajP D m x Q):∃ f c fs g,x=.ins f c fs/\D c g/\fs.lookup m=none/\Q g:=by
 unfold ajP at h;split at h
 ·obtain⟨g,h⟩:=h;exact⟨_,_,_,g,rfl,h⟩
 ·exact h.elim
def amB(q:Value->Prop)(D:Addr->Nat->Prop)(m:Str)(psp:Nat->ajm)(po:PE')(pa:PA'):PE':=λρ Q=>po ρ λx=>ajP D m x λc=>pa ρ λts=>psp c (dns (x :: ts)) (λt _=>Q t) q
def anB(D:Addr->Nat->Prop)(m:Str)(psp:Nat->PSp)(po:PE')(pa:PA'):PE':=λρ Q=>po ρ λx=>ajP D m x λc=>pa ρ λts=>psp c (dns (x :: ts)) (λt _=>Q t)
theorem Rf.none_of:∀{fs:List (Str×Tr)}{vs:List (Str×V)}{ds:Cs}{f:Str},Rf K F B fs vs ds->fs.lookup f=none->vs.lookup f=none
 |[],_,_,_,⟨h,_⟩,_=>by rw[h]; rfl
 |(g,y) :: fs,_,_,f,⟨v,r,c,d,h1,h2,h3,h4⟩,h=>by
  rw[h1];rw[List.lookup_cons] at h ⊢;cases e:f == g with
  |true=>rw[e] at h;cases h
  |false=>rw[e] at h;exact Rf.none_of h4 h
theorem q'C{psp:Nat->ajm}{R':St->XK}{q':Value->Prop}(hE:∀(F:Hp)(B:Bool->Hp)(H:Hp)(σ:St)(ρ:List Tr),Cxt K k F B H σ ρ->∀ cls F' H',q' cls->Gr F H F' H'->R' σ cls none H')(hk:z=true->k.z=true)(hn:∀ C xs Q q,psp C xs Q q->xs.length=n)(h:Sim K k te po)(ha:ajZ K k ta pa):Sim K k (amA D m (λC=>spX K z 0 n (psp C)) R' te ta) (amB q' D m psp po pa):=λF B H σ ρ Q Q' c p q=>by
 refine h F B H σ ρ _ _ c p λx v F1 H1 c1 p1 o1=>?_
 obtain⟨f,C,fs,g,rfl,hD,hl,p1⟩:=l'j p1;obtain⟨a,dx,vs,ds,rfl,h1,h2,_⟩:=o1.r.insH o1.g.s (λk=>(c.b k).trans o1.g.h) o1.c;refine⟨a,C,dx,vs,g,rfl,h1,hD,h2.none_of hl,ha F1 B H1 σ ρ _ _ (c.gr o1.g) p1 λts us F2 H2 c2 p2 o2=>?_⟩;exact o'T (λh=>c.z (hk h)) (hn _ _ _ _ p2) c.b (OutA.cons o1 o2) (λcls F' H' hq g=>hE F B H σ ρ c cls F' H' hq g) p2 q
theorem t'L{psp:Nat->PSp}(hk:z=true->k.z=true)(hn:∀ C xs Q,psp C xs Q->xs.length=n)(h:Sim K k te po)(ha:ajZ K k ta pa):Sim K k (amA D m (λC=>spP K z 0 n (psp C)) (λ_=>E) te ta) (anB D m psp po pa):=
 q'C (R':=λ_=>E) (q':=λ_=>False) (psp:=λC xs Q _=>psp C xs Q) (λ_ _ _ _ _ _ _ _ _ h=>h.elim) hk (λC xs Q _=>hn C xs Q) h ha
def aj9(o:Option Tr)(Q:Tr->Prop):Prop:=match o with |some (.ins f c fs)=>nol (.ins f c fs)=true/\Q (.ins f c fs) |_=>False
theorem l'k{Q:Tr->Prop}(h:aj9 o Q):∃ f c fs,o=some (.ins f c fs)/\nol (.ins f c fs)=true/\Q (.ins f c fs):=by
 unfold aj9 at h;split at h
 ·exact⟨_,_,_,rfl,h⟩
 ·exact h.elim
def akN(q:Value->Prop)(C:Addr)(psp:ajm)(pa:PA'):PE':=λρ Q=>pa ρ λts=>psp (dns (.ins .o C [] :: ts)) (λt ρ'=>t=.non/\aj9 ρ'[0]? Q) q
def alO(C:Addr)(psp:PSp)(pa:PA'):PE':=λρ Q=>pa ρ λts=>psp (dns (.ins .o C [] :: ts)) λt ρ'=>t=.non/\aj9 ρ'[0]? Q
theorem l'l(o1:OutA K F B H F1 H1 ts vs c1)(hx:H1 x=none)(hd:H1 dx=none)(ne:dx≠x):∃ F2,OutA K F B H F2 (upd (upd H1 dx (.own x)) x (.ins C dx [])) (.ins .o C [] :: ts) (.ref x :: vs) ((x,.ins C dx []) :: c1):=by
 obtain⟨F2,g2,_⟩:=al2 (o:=.own x) o1.g.s (by intro _ _ z;cases z) hd;have hx2:upd H1 dx (.own x) x=none:=by rw[a'u (Ne.symm ne)];exact hx
 have g3:Gr F2 (upd H1 dx (.own x)) F2 (upd (upd H1 dx (.own x)) x (.ins C dx [])):=Gr.own1 g2.s hx2;have g:=g2.trans' g3;refine⟨F2,o1.g.trans' g,⟨.ref x,vs,[(x,.ins C dx [])],c1,rfl,rfl,⟨x,dx,[],[],rfl,rfl,rfl,rfl⟩,o1.r.mo g.le (λ_=>Le.refl _) ts⟩,g'z g2.s (o1.c.gr g2) hx2,λp m=>?_⟩;cases m with
 |head=>exact o1.g.h.free hx
 |tail _ m=>exact o1.n p m
theorem h'A{psp:ajm}{R':St->XK}{q':Value->Prop}(hE:∀(F:Hp)(B:Bool->Hp)(H:Hp)(σ:St)(ρ:List Tr),Cxt K k F B H σ ρ->∀ cls F' H',q' cls->Gr F H F' H'->R' σ cls none H')(hk:z=true->k.z=true)(hn:∀ xs Q q,psp xs Q q->xs.length=n)(ha:ajZ K k ta pa):Sim K k (akj C (spX K z 1 n psp) [] R' ta) (akN q' C psp pa):=λF B H σ ρ Q Q' c p q=>by
 refine ha F B H σ ρ _ _ c p λts vs F1 H1 c1 p1 o1 x dx hx hd ne=>?_
 rw[List.append_nil];obtain⟨F2,o2⟩:=l'l (C:=C) o1 hx hd ne;refine d'K (λh=>c.z (hk h)) (hn _ _ _ p1) c.b o2 (λcls F' H' hq g=>hE F B H σ ρ c cls F' H' hq g) p1 λF' H' σ' ρ' cs' v t c' g nw W r hc n dj nl qt=>?_
 obtain⟨rfl,qt⟩:=qt;obtain⟨f,c,fs,e1,e2,e3⟩:=l'k qt;refine⟨r.1,?_⟩;rcases W.e 0 _ e1 with z |⟨u,h1,h2⟩
 ·cases z
 ·have:=W.p 0 Nat.zero_lt_one;rw[h1] at this;cases this;exact q _ _ F' H' (cs' 0) e3 ⟨g,h2.base _ e2,W.c 0,nw _ (W.n 0)⟩
theorem q'D{psp:PSp}(hk:z=true->k.z=true)(hn:∀ xs Q,psp xs Q->xs.length=n)(ha:ajZ K k ta pa):Sim K k (akj C (spP K z 1 n psp) [] (λ_=>E) ta) (alO C psp pa):=
 h'A (R':=λ_=>E) (q':=λ_=>False) (psp:=λxs Q _=>psp xs Q) (λ_ _ _ _ _ _ _ _ _ h=>h.elim) hk (λxs Q _=>hn xs Q) ha
end
section
theorem a'D{D:Addr->Nat->Prop}{psp:Nat->PSp}(hD:∀ C g,D C g->MOkA X.prog X.w X.K X.mg X.base CX0 km m C ps (spP X.K z 0 n (psp g)))(hk:z=true->k.z=true)(hn:∀ C xs Q,psp C xs Q->xs.length=n)(hr:Room km X.A)(ho:QE X k o po)(ht:eval (.Call (.Attribute o m apos) [] [] pos) X.env=(do
   let ov <- eval o X.env
   standAt apos.atName
   let (f,first) <- holding [ov] (getMethod ov m pl)
   callWith pos f first (backTo pos (starEach [] X.env)) (backToKw pos (keywordEach [] X.env))):=by rfl):QE X k (.Call (.Attribute o m apos) [] [] pos) (anB D m psp po amZ):=by
 obtain⟨te,h1,h2⟩:=ho.h;exact⟨_,l'i (R:=λ_=>E0) h1 hD hr (m't i'a) ht,t'L hk hn h2 k't⟩
section
theorem c'K{psp:PSp}(M:Mk X.K C f)(G:FnOk X.prog X.w X.K X.mg X.base CX0 km f fd ps (spP X.K z 1 n psp))(hk:z=true->k.z=true)(hn:∀ xs Q,psp xs Q->xs.length=n)(hr:Room (km+1) X.A)(hg:Gl X x)(hm:X.mg x=some (.ref C))(hb:Binds X.K fd ps [])(ha:QA X k (e :: es) pa)(hdb:(x == ("__debug__":Str))=false:=by decide)(he:starEach (e :: es) X.env=(false,eval e X.env) :: starEach es X.env:=by rfl)(hpl:(backTo pos (starEach es X.env)).any (·.1)=false:=by rfl):
  QE X k (.Call (.Name x p) (e :: es) [] pos) (alO C psp pa):=by
 obtain⟨ta,g1,g2⟩:=ha.h;exact⟨_,f't (R:=λ_=>E0) M G hr hg hm hb .nil (m't i'a) g1 hdb he hpl,q'D hk hn g2⟩
theorem b'M{psp:ajm}(M:Mk X.K C f)(G:FnOk X.prog X.w X.K X.mg X.base (CX1 X.prog X.w) km f fd ps (spX X.K z 1 n psp))(hx:∀ σ,aio (CX1 X.prog X.w) X σ (k.E σ))(hk:z=true->k.z=true)(hn:∀ xs Q q,psp xs Q q->xs.length=n)(hr:Room (km+1) X.A)(hg:Gl X x)(hm:X.mg x=some (.ref C))(hb:Binds X.K fd ps [])(ha:QA X k (e :: es) pa)(hdb:(x == ("__debug__":Str))=false:=by decide)(he:starEach (e :: es) X.env=(false,eval e X.env) :: starEach es X.env:=by rfl)(hpl:(backTo pos (starEach es X.env)).any (·.1)=false:=by rfl):
  QE X k (.Call (.Name x p) (e :: es) [] pos) (akN k.q C psp pa):=by
 obtain⟨ta,g1,g2⟩:=ha.h;exact⟨_,f't M G hr hg hm hb .nil hx g1 hdb he hpl,h'A (λF B H σ ρ c cls F' H' hq g=>c.x cls F' H' hq g) hk hn g2⟩
end
end
abbrev PL':=List Tr->(Tr->List Tr->Prop)->Prop
abbrev ak9:=List Tr->(List Tr->List Tr->Prop)->Prop
structure OutL(K:PySem.W.Frag)(k:Md)(lo:Nat)(us:List V)(Fb Hb F F' H':Hp)(σ:St)(ρ:List Tr)(cs:Nat->Cs)(t:Tr)(v:V)(e:Cs):Prop where
 l:Le F F'
 W:Wld K k lo us Fb Hb F' H' σ ρ cs
 r:R K F' (λ_=>Hb) t v e
 c:Cells F' H' e
 n:New Hb e
 d:∀ i,∀ p∈cs i,∀ q∈e,p.1≠q.1
def ake(K:W.Frag)(k:Md)(lo:Nat)(te:TE)(pl:PL'):Prop:=∀(us:List V)(Fb Hb F H:Hp)(σ:St)(ρ:List Tr)(cs:Nat->Cs)(Q:VK)(Q':Tr->List Tr->Prop),Wld K k lo us Fb Hb F H σ ρ cs->pl ρ Q'->
 (∀ t v F' H' ρ' cs' c,OutL K k lo us Fb Hb F F' H' σ ρ' cs' t v c->Q' t ρ'->Q v H')->te σ H Q
def aks(K:W.Frag)(k:Md)(lo:Nat)(ta:TA)(pa:ak9):Prop:=∀(us:List V)(Fb Hb F H:Hp)(σ:St)(ρ:List Tr)(cs:Nat->Cs)(Q:List V->Hp->Prop)(Q':List Tr->List Tr->Prop),Wld K k lo us Fb Hb F H σ ρ cs->pa ρ Q'->
 (∀ ts vs F' H' ρ' cs',Le F F'->Wld K k lo us Fb Hb F' H' σ ρ' cs'->Rs K F' (λ_=>Hb) ts vs []->Q' ts ρ'->Q vs H')->ta σ H Q
section
theorem OutL.held{t:Tr}{v:V}{c:Cs}(o:OutL K k lo us Fb Hb F F' H' σ ρ cs t v c):∃ F2,Le F F2/\Wld K k lo us Fb Hb F2 H' σ ρ cs/\R K F2 (λ_=>Hb) (frz t) v []:=by
 obtain⟨F2,W2,s2,e2⟩:=o.W.lay o.c o.n (o.r.plain t) o.d;exact⟨F2,o.l.trans (Le.of s2),W2,o.r.frz (Le.of s2) t e2⟩
def plQ(pe:PE'):PL':=λρ Q=>pe (ρ.map lend) λt=>nlt t=true/\Q t ρ
theorem w'a(h:Sim K k te pe):ake K k lo te (plQ pe):=λus Fb Hb F H σ ρ cs Q Q' W p q=>by
 refine h F (Bq Hb H) H σ _ _ _ W.cxt p λt v F1 H1 c1 q1 o=>?_
 obtain⟨n1,d1⟩:=W.fresh o;exact q t v F1 H1 ρ cs c1 ⟨o.g.le,W.gr o.g,R.low (B':=λ_=>Hb) t q1.1 rfl o.r,o.c,n1,d1⟩ q1.2
def alP:ak9:=λρ Q=>Q [] ρ
def akO(pl:PL')(pa:ak9):ak9:=λρ Q=>pl ρ λt ρ1=>pa ρ1 λts ρ2=>Q (frz t :: ts) ρ2
theorem q'E:aks K k lo akA alP:=λus Fb Hb F H σ ρ cs Q Q' W p q=>q [] [] F H ρ cs (Le.refl F) W ⟨rfl,rfl⟩ p
theorem o'U(h:ake K k lo te pl)(h':aks K k lo ta pla):aks K k lo (ajO te ta) (akO pl pla):=λus Fb Hb F H σ ρ cs Q Q' W p q=>by
 refine h us Fb Hb F H σ ρ cs _ _ W p λt v F1 H1 ρ1 cs1 c1 o p1=>?_
 obtain⟨F2,l2,W2,r2⟩:=o.held;refine h' us Fb Hb F2 H1 σ ρ1 cs1 _ _ W2 p1 λts vs F3 H3 ρ3 cs3 l3 W3 r3 p3=>?_
 exact q (frz t :: ts) _ F3 H3 ρ3 cs3 (l2.trans l3) W3 ⟨v,vs,[],[],rfl,rfl,r2.mo l3 (λ_=>Le.refl _) _,r3⟩ p3
theorem Wld.outA(W:Wld K k lo us Fb Hb F H σ ρ cs)(r:Rs K F (λ_=>Hb) ts vs []):OutA K F (λ_=>Hb) H F H ts vs []:=⟨Gr.refl' W.g.s,r,.nil,.nil⟩
theorem Wld.outL{t:Tr}{v:V}{c:Cs}(W:Wld K k lo us Fb Hb F1 H1 σ ρ cs)(l:Le F F1)(o:Out K F1 (λ_=>Hb) H1 F' H' t v c):OutL K k lo us Fb Hb F F' H' σ ρ cs t v c:=by
 obtain⟨n1,d1⟩:=W.fresh o;exact⟨l.trans o.g.le,W.gr o.g,o.r,o.c,n1,d1⟩
def akP(q:Value->Prop)(C:Addr)(psp:ajm)(pa:ak9):PL':=λρ Q=>pa ρ λts ρ1=>psp (dns (.ins .o C [] :: ts)) (λt ρ'=>t=.non/\aj9 ρ'[0]? λx=>Q x ρ1) q
theorem m'u{psp:ajm}{R':St->XK}{q':Value->Prop}(hE:∀(us:List V)(Fb Hb F H:Hp)(σ:St)(ρ:List Tr)(cs:Nat->Cs),Wld K k lo us Fb Hb F H σ ρ cs->∀ cls F' H',q' cls->Gr Fb Hb F' H'->R' σ cls none H')(hk:z=true->k.z=true)(hn:∀ xs Q q,psp xs Q q->xs.length=n)(h:aks K k lo ta pla):ake K k lo (akj C (spX K z 1 n psp) [] R' ta) (akP q' C psp pla):=λus Fb Hb F H σ ρ cs Q Q' W p q=>by
 refine h us Fb Hb F H σ ρ cs _ _ W p λts vs F1 H1 ρ1 cs1 l1 W1 r1 p1 x dx hx hd ne=>?_
 rw[List.append_nil];obtain⟨F2,o2⟩:=l'l (C:=C) (W1.outA r1) hx hd ne;refine d'K (λh=>W1.z (hk h)) (hn _ _ _ p1) (λ_=>W1.g.h) o2 (λcls F' H' hq g=>hE us Fb Hb F1 H1 σ ρ1 cs1 W1 cls F' H' hq (W1.g.trans' g)) p1 λF' H' σ' ρ' cs' v t c' g nw W' r hc n dj nl qt=>?_
 obtain⟨rfl,qt⟩:=qt;obtain⟨f,c,fs,e1,e2,e3⟩:=l'k qt;refine⟨r.1,?_⟩;rcases W'.e 0 _ e1 with z |⟨u,h1,h2⟩
 ·cases z
 ·have:=W'.p 0 Nat.zero_lt_one;rw[h1] at this;cases this;exact q _ _ F' H' ρ1 cs1 (cs' 0) (W1.outL l1 ⟨g,h2.base _ e2,W'.c 0,nw _ (W'.n 0)⟩) e3
def alQ(pa:ak9):PL':=λρ Q=>pa ρ λts ρ1=>ts.length<=10000/\Q (.tup ts) ρ1
theorem q'F(h:aks K k lo ta pla):ake K k lo (anc ta) (alQ pla):=λus Fb Hb F H σ ρ cs Q Q' W p q=>by
 refine h us Fb Hb F H σ ρ cs _ _ W p λts vs F1 H1 ρ1 cs1 l1 W1 r1 p1=>⟨by rw[r1.length];exact c'd (Nat.le_trans p1.1 (by decide)),λa ha=>?_⟩
 obtain⟨F2,g,r,c2⟩:=g'y W1.g.s r1 .nil ha;exact q _ _ F2 _ ρ1 cs1 [] (W1.outL l1 ⟨g,r,c2,.nil⟩) p1.2
def pl2(pr:Tr->Tr->(Tr->Prop)->Prop)(pa:PL')(pb:PL'):PL':=λρ Q=>pa ρ λx ρ1=>pb ρ1 λy ρ2=>pr (frz x) y λt=>Q t ρ2
theorem t'M(o:Op2 K k r pr)(ha:ake K k lo te pl)(hb:ake K k lo tf pb):ake K k lo (tOp r te tf) (pl2 pr pl pb):=λus Fb Hb F H σ ρ cs Q Q' W p q=>by
 refine ha us Fb Hb F H σ ρ cs _ _ W p λx v F1 H1 ρ1 cs1 c1 o1 p1=>?_
 obtain⟨F2,l2,W2,r2⟩:=o1.held;refine hb us Fb Hb F2 H1 σ ρ1 cs1 _ _ W2 p1 λy u F3 H3 ρ3 cs3 c3 o3 p3=>?_
 refine o F3 (λ_=>Hb) H3 v u (frz x) y [] c3 Q _ o3.W.g.s (λ_=>o3.W.g.h) o3.W.z (r2.mo o3.l (λ_=>Le.refl _) _) o3.r .nil o3.c (λp m=>nomatch m) p3 λt w F4 H4 c4 q4 g4 r4 hc4 n4=>?_
 have new4:∀ p∈c4,H3 p.1=none\/p∈c3:=λp m=>(n4 p m).imp id λz=>z.resolve_left (λz=>nomatch z)
 refine q t w F4 H4 ρ3 cs3 c4 ⟨l2.trans (o3.l.trans g4.le),o3.W.gr g4,r4,hc4,λp m=>?_,λi p mp q mq e=>?_⟩ q4
 ·rcases new4 p m with z |z
  ·exact o3.W.g.h.free z
  ·exact o3.n p z
 ·rcases new4 q mq with z |z
  ·have:=(o3.W.c i).h p mp;rw[e,z] at this;cases this
  ·exact o3.d i p mp q z e
def akQ(i:Nat)(pl:PL'):PS':=λD ρ=>pl ρ λt ρ1=>D.nx (ρ1.set i (frz t))
theorem o'V(hi:lo<=i)(h:ake K k lo te pl):ai5 K k lo (alr te (ajU i)) (akQ i pl):=λus Fb Hb F H σ ρ cs D D' W p L=>by
 refine h us Fb Hb F H σ ρ cs _ _ W p λt v F1 H1 ρ1 cs1 c1 o p1=>?_
 obtain⟨F2,l2,W2,r2⟩:=o.held;exact L.nx F2 H1 _ _ _ (W2.set hi r2 .nil .nil λ_ _ _ _ _ m=>nomatch m) p1
def akR(pl:PL'):PS':=λD ρ=>pl ρ λ_ ρ1=>D.nx ρ1
theorem o'W(h:ake K k lo te pl):ai5 K k lo (ak4 te) (akR pl):=λus Fb Hb F H σ ρ cs D D' W p L=>
 h us Fb Hb F H σ ρ cs _ _ W p λt v F1 H1 ρ1 cs1 c1 o p1=>L.nx F1 H1 _ _ _ o.W p1
def alR(pl:PL'):PS':=λD ρ=>pl ρ λt ρ1=>nol t=true/\D.rt t ρ1
theorem q'G(h:ake K k lo te pl):ai5 K k lo (am5 te) (alR pl):=λus Fb Hb F H σ ρ cs D D' W p L=>
 h us Fb Hb F H σ ρ cs _ _ W p λt v F1 H1 ρ1 cs1 c1 o p1=>L.rt F1 H1 σ ρ1 cs1 v t c1 o.W o.r o.c o.n o.d p1.1 p1.2
def anC(pl:PL')(p q:PS'):PS':=λD ρ=>pl ρ λt ρ1=>wBl t λb=>if b=true then p D ρ1 else q D ρ1
theorem t'N(h:ake K k lo te pl)(h1:ai5 K k lo ts p)(h2:ai5 K k lo tu q):ai5 K k lo (am6 (tB te) ts tu) (anC pl p q):=λus Fb Hb F H σ ρ cs D D' W p L=>by
 refine h us Fb Hb F H σ ρ cs _ _ W p λt v F1 H1 ρ1 cs1 c1 o p1=>?_
 unfold wBl at p1;split at p1
 ·rename_i b;obtain⟨rfl,_⟩:=o.r;refine⟨b,rfl,?_⟩;cases b with
  |true=>exact h1 us Fb Hb F1 H1 σ ρ1 cs1 D D' o.W p1 L
  |false=>exact h2 us Fb Hb F1 H1 σ ρ1 cs1 D D' o.W p1 L
 ·exact p1.elim
end
section
def HA(K:W.Frag)(F Hb:Hp)(σ:St)(ρ:List Tr):List (Option Nat)->List Tr->List V->Prop
 |[],ts,vs=>ts = [] /\ vs = []
 |none :: hs,ts,vs=>∃ t v ts' vs',ts = t :: ts' /\ vs = v :: vs' /\ R K F (λ_=>Hb) t v [] /\ HA K F Hb σ ρ hs ts' vs'
 |some i :: hs,ts,vs=>∃ t v ts' vs',ts = t :: ts' /\ vs = v :: vs' /\ ρ[i]? = some t /\ t ≠ .hole /\ σ[i]? = some (some v) /\ HA K F Hb σ ρ hs ts' vs'
def amC(K:W.Frag)(k:Md)(lo:Nat)(hs:List (Option Nat))(ta:TA)(ph:PA'):Prop:=∀(us:List V)(Fb Hb F H:Hp)(σ:St)(ρ:List Tr)(cs:Nat->Cs)(Q:List V->Hp->Prop)(Q':List Tr->Prop),Wld K k lo us Fb Hb F H σ ρ cs->ph ρ Q'->
 (∀ ts vs F' H',Le F F'->Wld K k lo us Fb Hb F' H' σ ρ cs->HA K F' Hb σ ρ hs ts vs->Q' ts->Q vs H')->ta σ H Q
def phN:PA':=λ_ Q=>Q []
def phQ(pe:PE')(ph:PA'):PA':=λρ Q=>pe (ρ.map lend) λt=>nlt t=true/\ph ρ λts=>Q (Pu.frz t :: ts)
theorem j'g:amC K k lo [] akA phN:=λus Fb Hb F H σ ρ cs Q Q' W p q=>q [] [] F H (Le.refl F) W ⟨rfl,rfl⟩ p
theorem i'g{Q:Tr->Prop}(h:pV o Q):∃ t,o=some t/\t≠.hole/\Q t:=by
 unfold pV at h;split at h
 ·exact h.elim
 ·rename_i t hn;exact⟨t,rfl,λz=>hn (by rw[z]),h⟩
 ·exact h.elim
theorem w'b(he:Sim K k te pe)(h:amC K k lo hs ta ph):amC K k lo (none :: hs) (ajO te ta) (phQ pe ph):=λus Fb Hb F H σ ρ cs Q Q' W p q=>by
 refine he F (Bq Hb H) H σ _ _ _ W.cxt p λt v F1 H1 c1 q1 o=>?_
 obtain⟨F2,W2,r2,l2⟩:=W.heldLe o q1.1;exact h us Fb Hb F2 H1 σ ρ cs _ _ W2 q1.2 λts vs F3 H3 l3 W3 a p3=>q (Pu.frz t :: ts) _ F3 H3 (l2.trans l3) W3 ⟨Pu.frz t,v,ts,vs,rfl,rfl,r2.mo l3 (λ_=>Le.refl _) _,a⟩ p3
theorem HA.rs(W:Wld K k lo us Fb Hb F H σ ρ cs):∀{hs:List (Option Nat)}{ts:List Tr}{vs:List V},(hs.filterMap id).Nodup->HA K F Hb σ ρ hs ts vs->∃ c,Rs K F (λ_=>Hb) ts vs c/\Cells F H c/\New Hb c/\(∀ p∈c,∃ i,some i∈hs/\p∈cs i)/\∀ i,some i∈hs->∀ p∈cs i,p∈c
 |[],_,_,_,⟨h1,h2⟩=>⟨[],by rw[h1,h2]; exact⟨rfl,rfl⟩,.nil,.nil,(λ_ m=>nomatch m),λ_ m=>nomatch m⟩
 |none :: hs,_,_,nd,⟨t,v,ts',vs',h1,h2,h3,h4⟩=>by
  obtain⟨c,a1,a2,a3,a4,a5⟩:=HA.rs W (hs:=hs) nd h4;refine⟨c,by rw[h1,h2];exact⟨v,vs',[],c,rfl,rfl,h3,a1⟩,a2,a3,λp m=>?_,λi m p mp=>?_⟩
  ·obtain⟨i,b1,b2⟩:=a4 p m;exact⟨i,.tail _ b1,b2⟩
  ·cases m with
   |tail _ m=>exact a5 i m p mp
 |some i :: hs,_,_,nd,⟨t,v,ts',vs',h1,h2,h3,h4,h5,h6⟩=>by
  have nd:(i :: hs.filterMap id).Nodup:=nd;rw[List.nodup_cons] at nd;obtain⟨c,a1,a2,a3,a4,a5⟩:=HA.rs W (hs:=hs) nd.2 h6;have ni:some i ∉ hs:=λm=>nd.1 (List.mem_filterMap.mpr ⟨_,m,rfl⟩)
  have rt:R K F (λ_=>Hb) t v (cs i):=by
   rcases W.e i t h3 with z |⟨u,g1,g2⟩
   ·exact absurd z h4
   ·rw[h5] at g1;cases g1;exact g2
  refine⟨cs i++c,by rw[h1,h2];exact⟨v,vs',cs i,c,rfl,rfl,rt,a1⟩,(W.c i).app a2 λp mp q mq=>?_,λp m=>(List.mem_append.mp m).elim (W.n i p) (a3 p),λp m=>?_,λj m p mp=>?_⟩
  ·obtain⟨j,b1,b2⟩:=a4 q mq;exact W.d i j (λz=>ni (by rw[z];exact b1)) p mp q b2
  ·rcases List.mem_append.mp m with m |m
   ·exact⟨i,.head _,m⟩
   ·obtain⟨j,b1,b2⟩:=a4 p m;exact⟨j,.tail _ b1,b2⟩
  ·rcases List.mem_cons.mp m with e |m
   ·cases e;exact List.mem_append.mpr (.inl mp)
   ·exact List.mem_append.mpr (.inr (a5 j m p mp))
def aiT:List (Option Nat)->List Tr->List Tr
 |[],ρ=>ρ
 |none :: hs,ρ=>aiT hs ρ
 |some i :: hs,ρ=>(aiT hs ρ).set i .hole
theorem e's:∀(hs:List (Option Nat))(ρ:List Tr),(aiT hs ρ).length=ρ.length
 |[],_=>rfl
 |none :: hs,ρ=>e's hs ρ
 |some i :: hs,ρ=>by show ((aiT hs ρ).set i .hole).length = _; rw[List.length_set]; exact e's hs ρ
theorem e't:∀(hs:List (Option Nat))(ρ:List Tr),some i ∉ hs->(aiT hs ρ).set i t=aiT hs (ρ.set i t)
 |[],_,_=>rfl
 |none :: hs,ρ,h=>e't hs ρ λm=>h (.tail _ m)
 |some j :: hs,ρ,h=>by
  show ((aiT hs ρ).set j .hole).set i t=(aiT hs (ρ.set i t)).set j .hole;rw[List.set_comm _ _ (λz=>h (by rw[z];exact .head _)),e't hs ρ λm=>h (.tail _ m)]
theorem f'x:∀(hs:List (Option Nat))(ρ:List Tr),(aiT hs ρ)[j]?=some t->t=.hole\/(some j ∉ hs/\ρ[j]?=some t)
 |[],_,h=>.inr ⟨(λm=>nomatch m),h⟩
 |none :: hs,ρ,h=>(f'x hs ρ h).imp id λ⟨a,b⟩=>⟨λm=>by cases m with |tail _ m=>exact a m,b⟩
 |some i :: hs,ρ,h=>by
  have h:((aiT hs ρ).set i .hole)[j]?=some t:=h;by_cases e:i=j
  ·subst e;have hl:=(List.getElem?_eq_some_iff.mp h).1;rw[List.length_set] at hl;rw[List.getElem?_set_self hl] at h;cases h;exact .inl rfl
  ·rw[List.getElem?_set_ne e] at h;exact (f'x hs ρ h).imp id λ⟨a,b⟩=>⟨λm=>by
    rcases List.mem_cons.mp m with z |m
    ·cases z;exact e rfl
    ·exact a m,b⟩
theorem Wld.past{hs:List (Option Nat)}{c:Cs}(W:Wld K k lo us Fb Hb F H σ ρ cs)(n:New Hb c)(c4:∀ p∈c,∃ i,some i∈hs/\p∈cs i)(g:Gr F (hdn (c.map (·.1)) H) F' H'):Wld K k lo us Fb Hb F' H' σ (aiT hs ρ) (λj=>if some j∈hs then [] else cs j)/\∀ j,some j ∉ hs->∀ p∈cs j,(hdn (c.map (·.1)) H) p.1=some p.2:=by
 have gb:Gr Fb Hb F' H':=W.g.hdn n g;have keep:∀ j,some j ∉ hs->∀ p∈cs j,(hdn (c.map (·.1)) H) p.1=some p.2:=λj hj p mp=>by
  refine e'i (λm=>?_) ((W.c j).h p mp);obtain⟨q,mq,e⟩:=List.mem_map.mp m;obtain⟨i,b1,b2⟩:=c4 q mq;exact W.d j i (λz=>hj (by rw[z];exact b1)) p mp q b2 e.symm
 refine⟨⟨gb,λh=>g.fz (W.z h),by rw[e's];exact W.l,λj t h=>?_,λj=>?_,λj=>?_,λa b ne p mp q mq=>?_,W.p,W.x⟩,keep⟩
 ·rcases f'x hs ρ h with z |⟨z,e⟩
  ·exact .inl z
  ·rw[if_neg z];exact (W.e j t e).imp id λ⟨v,h1,h2⟩=>⟨v,h1,h2.mo g.le (λ_=>Le.refl _) t⟩
 ·split
  ·exact .nil
  ·rename_i hj;refine⟨λp m=>g.h _ _ (keep j hj p m),λp m=>?_,(W.c j).nd⟩;cases z:F' p.1 with
   |none=>rfl
   |some u=>
    have:=g.n p.1 u z ((W.c j).f p m);rw[keep j hj p m] at this;cases this
 ·split
  ·exact .nil
  ·exact W.n j
 ·split at mp
  ·cases mp
  ·split at mq
   ·cases mq
   ·exact W.d a b ne p mp q mq
theorem Wld.fill{i:Nat}{t:Tr}{v:V}{c:Cs}(W:Wld K k lo us Fb Hb F H σ ρ cs)(hv:σ[i]?=some (some v))(r:R K F (λ_=>Hb) t v c)(hc:Cells F H c)(n:New Hb c)(d:∀ j,j≠i->∀ p∈cs j,∀ q∈c,p.1≠q.1):
  Wld K k lo us Fb Hb F H σ (ρ.set i t) (λj=>if j=i then c else cs j) where
 g:=W.g
 z:=W.z
 l:=by rw[List.length_set];exact W.l
 e:=λj u h=>by
  by_cases e:j=i
  ·subst e;have hl:j<ρ.length:=by have:=(List.getElem?_eq_some_iff.mp h).1;rw[List.length_set] at this;exact this
   rw[List.getElem?_set_self hl] at h;cases h;exact .inr ⟨v,hv,by rw[if_pos rfl];exact r⟩
  ·rw[List.getElem?_set_ne (λz=>e z.symm)] at h;rw[if_neg e];exact W.e j u h
 c:=λj=>by
  split
  ·exact hc
  ·exact W.c j
 n:=λj=>by
  split
  ·exact n
  ·exact W.n j
 d:=λa b ne p mp q mq=>by
  by_cases ea:a=i
  ·rw[if_pos ea] at mp;rw[if_neg (λz=>ne (ea.trans z.symm))] at mq;exact (d b (λz=>ne (ea.trans z.symm)) q mq p mp).symm
  ·rw[if_neg ea] at mp;by_cases eb:b=i
   ·rw[if_pos eb] at mq;exact d a ea p mp q mq
   ·rw[if_neg eb] at mq;exact W.d a b ne p mp q mq
 p:=W.p
 x:=W.x
def ajJ:List (Option Nat)->Nat->List Tr->List Tr->(List Tr->Prop)->Prop
 |[],_,_,ρ,Q=>Q ρ
 |none :: hs,j,ρ',ρ,Q=>ajJ hs (j + 1) ρ' ρ Q
 |some i :: hs,j,ρ',ρ,Q=>pV ρ'[j]? λt=>nol t = true /\ ajJ hs (j + 1) ρ' (ρ.set i t) Q
theorem f'y{k':Md}{lo':Nat}{vs:List V}{Hc:Hp}{σ':St}{ρ':List Tr}{cs':Nat->Cs}{G:Prop}{Q':List Tr->Prop}(W':Wld K k' lo' vs F1 Hc F' H' σ' ρ' cs')(hb:Same Hb Hc):∀(hs:List (Option Nat))(j:Nat)(ρ:List Tr)(cx:Nat->Cs),(hs.filterMap id).Nodup->Wld K k lo us Fb Hb F' H' σ (aiT hs ρ) cx->(∀ n i,hs[n]?=some (some i)->∃ v,σ[i]?=some (some v)/\vs[j+n]?=some v)->j+hs.length<=lo'->
  (∀ i m,(i<lo\/True)->j<=m->∀ p∈cx i,∀ q∈cs' m,p.1≠q.1)->ajJ hs j ρ' ρ Q'->(∀ ρ2 cs2,Wld K k lo us Fb Hb F' H' σ ρ2 cs2->(∀ i,∀ p∈cs2 i,p∈cx i\/∃ m,p∈cs' m)->Q' ρ2->G)->G
 |[],j,ρ,cx,_,W,_,_,_,p,q=>q ρ cx W (λi p m=>.inl m) p
 |none :: hs,j,ρ,cx,nd,W,hv,hl,d,p,q=>by
  refine f'y W' hb hs (j+1) ρ cx nd W (λn i e=>?_) (by rw[List.length_cons] at hl;omega) (λi m z hm=>d i m z (by omega)) p q;obtain⟨v,h1,h2⟩:=hv (n+1) i e;exact⟨v,h1,by rw[show j+1+n=j+(n+1) by omega];exact h2⟩
 |some i :: hs,j,ρ,cx,nd,W,hv,hl,d,p,q=>by
  have nd:(i :: hs.filterMap id).Nodup:=nd;rw[List.nodup_cons] at nd;have ni:some i ∉ hs:=λm=>nd.1 (List.mem_filterMap.mpr ⟨_,m,rfl⟩)
  obtain⟨t,e1,e2,e3,p⟩:=i'g p;obtain⟨v,h1,h2⟩:=hv 0 i rfl;rw[List.length_cons] at hl;have rt:R K F' (λ_=>Hb) t v (cs' j):=by
   rcases W'.e j t e1 with z |⟨u,g1,g2⟩
   ·exact absurd z e2
   ·have:=W'.p j (by omega);rw[g1,show vs[j]?=some v from h2] at this;cases this;exact g2.base t e3
  have Wf:Wld K k lo us Fb Hb F' H' σ (aiT hs (ρ.set i t)) (λm=>if m=i then cs' j else cx m):=by
   have:=W.fill (i:=i) h1 rt (W'.c j) (λp m=>hb.free (W'.n j p m)) λm _ p mp q mq=>d m j (.inr trivial) (Nat.le_refl j) p mp q mq
   rw[show (aiT (some i :: hs) ρ).set i t=aiT hs (ρ.set i t) by
    show ((aiT hs ρ).set i .hole).set i t=_;rw[List.set_set];exact e't hs ρ ni] at this
   exact this
  refine f'y W' hb hs (j+1) (ρ.set i t) _ nd.2 Wf (λn i' e=>?_) (by omega) (λi' m z hm p mp q mq=>?_) p λρ2 cs2 W2 sub=>q ρ2 cs2 W2 λi' p m=>?_
  ·obtain⟨v,h1,h2⟩:=hv (n+1) i' e;exact⟨v,h1,by rw[show j+1+n=j+(n+1) by omega];exact h2⟩
  ·by_cases ei:i'=i
   ·rw[if_pos ei] at mp;exact W'.d j m (by omega) p mp q mq
   ·rw[if_neg ei] at mp;exact d i' m z (by omega) p mp q mq
  ·rcases sub i' p m with z |z
   ·by_cases ei:i'=i
    ·rw[if_pos ei] at z;exact .inr ⟨j,z⟩
    ·rw[if_neg ei] at z;exact .inl z
   ·exact .inr z
theorem HA.at_:∀{hs:List (Option Nat)}{ts:List Tr}{vs:List V}{n i:Nat},HA K F Hb σ ρ hs ts vs->hs[n]?=some (some i)->∃ v,σ[i]?=some (some v)/\vs[n]?=some v
 |none :: hs,_,_,n,i,⟨t,v,ts',vs',h1,h2,h3,h4⟩,e=>by
  cases n with
  |zero=>cases e
  |succ n=>obtain⟨u,a,b⟩:=HA.at_ (hs:=hs) h4 e;exact⟨u,a,by rw[h2];exact b⟩
 |some x :: hs,_,_,n,i,⟨t,v,ts',vs',h1,h2,h3,h4,h5,h6⟩,e=>by
  cases n with
  |zero=>cases e;exact⟨v,h5,by rw[h2];rfl⟩
  |succ n=>obtain⟨u,a,b⟩:=HA.at_ (hs:=hs) h6 e;exact⟨u,a,by rw[h2];exact b⟩
theorem HA.len:∀{hs:List (Option Nat)}{ts:List Tr}{vs:List V},HA K F Hb σ ρ hs ts vs->ts.length=hs.length
 |[],_,_,⟨h1,_⟩=>by rw[h1]; rfl
 |none :: hs,_,_,⟨t,v,ts',vs',h1,h2,h3,h4⟩=>by rw[h1,List.length_cons,List.length_cons,HA.len h4]
 |some i :: hs,_,_,⟨t,v,ts',vs',h1,h2,h3,h4,h5,h6⟩=>by rw[h1,List.length_cons,List.length_cons,HA.len h6]
theorem q'H{hs:List (Option Nat)}{n:Nat}{z:Bool}{psp:ajm}{ts:List Tr}{vs:List V}{E:XK}{q':Value->Prop}{Q':Tr->List Tr->Prop}{Q:VK}(W:Wld K k lo us Fb Hb F1 H1 σ ρ cs)(l:Le F F1)(a:HA K F1 Hb σ ρ hs ts vs)(nd:(hs.filterMap id).Nodup)(hk:z=true->k.z=true)(hn:(dns ts).length=n)(hE:∀ cls F' H',q' cls->Gr Fb Hb F' H'->E cls none H')(p1:psp (dns ts) (λt ρ'=>ajJ hs 0 ρ' ρ λρ2=>Q' t ρ2) q')(q:∀ t v F' H' ρ' cs' c,OutL K k lo us Fb Hb F F' H' σ ρ' cs' t v c->Q' t ρ'->Q v H'):spX K z n n psp vs H1 Q E:=by
 obtain⟨c1,a1,a2,a3,a4,a5⟩:=a.rs W nd;have hb:Same Hb (hdn (c1.map (·.1)) H1):=λx o e=>e'i (e'K a3 e) (W.g.h _ _ e)
 have o1:OutA K F1 (λ_=>Hb) (hdn (c1.map (·.1)) H1) F1 H1 ts vs c1:=⟨⟨i'B W.g.s,Fz.refl F1⟩,a1,a2,λp m=>e'k m⟩
 refine d'K (λh=>W.z (hk h)) hn (λ_=>hb) o1 (λcls F' H' hq g=>hE cls F' H' hq (W.g.hdn a3 g)) p1 λF' H' σ' ρ' cs' v t c g nw W' r hc nc dj nl qt=>?_
 obtain⟨W0,keep⟩:=W.past a3 a4 g;have far:∀(c':Cs),New (hdn (c1.map (·.1)) H1) c'->∀ i,∀ p∈(if some i∈hs then [] else cs i),∀ q∈c',p.1≠q.1:=λc' nc i p mp q mq e=>by
  split at mp
  ·cases mp
  ·rename_i hi;have:=keep i hi p mp;rw[e,nc q mq] at this;cases this
 refine f'y W' hb hs 0 ρ _ nd W0 (λn i e=>?_) (by rw[<- hn,b'o,a.len];omega) (λi m _ _=>far (cs' m) (W'.n m) i) qt λρ2 cs2 W2 sub q2=>?_
 ·rw[Nat.zero_add];exact a.at_ e
 ·refine q t v F' H' ρ2 cs2 c ⟨l.trans g.le,W2,r.base t nl,hc,λp m=>hb.free (nc p m),λi p mp q mq=>?_⟩ q2;rcases sub i p mp with z |⟨m,z⟩
  ·exact far c nc i p z q mq
  ·exact dj m p z q mq
def akm(q:Value->Prop)(D:Addr->Nat->Prop)(m:Str)(i:Nat)(hs:List (Option Nat))(psp:Nat->ajm)(ph:PA'):PL':=λρ Q=>pV ρ[i]? λx=>ajP D m x λc=>ph ρ λts=>psp c (dns (x :: ts)) (λt ρ'=>ajJ (some i :: hs) 0 ρ' ρ λρ2=>Q t ρ2) q
theorem h'B{psp:Nat->ajm}{R':St->XK}{q':Value->Prop}(hE:∀(us:List V)(Fb Hb F H:Hp)(σ:St)(ρ:List Tr)(cs:Nat->Cs),Wld K k lo us Fb Hb F H σ ρ cs->∀ cls F' H',q' cls->Gr Fb Hb F' H'->R' σ cls none H')(nd:((some i :: hs).filterMap id).Nodup)(hk:z=true->k.z=true)(hn:∀ C xs Q q,psp C xs Q q->xs.length=n)(h:amC K k lo hs ta ph):ake K k lo (amA D m (λC=>spX K z n n (psp C)) R' (ame i) ta) (akm q' D m i hs psp ph):=λus Fb Hb F H σ ρ cs Q Q' W p q=>by
 obtain⟨x,e1,e2,p⟩:=i'g p;obtain⟨f,C,fs,g,rfl,hD,hl,p⟩:=l'j p;rcases W.e i _ e1 with z |⟨v,h1,h2⟩
 ·cases z
 obtain⟨a,dx,vs,ds,rfl,g1,g2,_⟩:=h2.insH W.g.s (λ_=>W.g.h) (W.c i);refine⟨.ref a,h1,a,C,dx,vs,g,rfl,g1,hD,g2.none_of hl,h us Fb Hb F H σ ρ cs _ _ W p λts us' F1 H1 l1 W1 ha p1=>?_⟩;exact q'H W1 l1 (hs:=some i :: hs) ⟨_,_,ts,us',rfl,rfl,e1,e2,h1,ha⟩ nd hk (hn _ _ _ _ p1) (λcls F' H' hq g=>hE us Fb Hb F1 H1 σ ρ cs W1 cls F' H' hq g) p1 q
end
structure QL(X:Cx)(k:Md)(lo:Nat)(e:Expr)(pl:PL'):Prop where
 h:∃ te,PE X e te/\ake X.K k lo te pl
structure QLA(X:Cx)(k:Md)(lo:Nat)(es:List Expr)(pa:ak9):Prop where
 h:∃ ta,PA X es ta/\aks X.K k lo ta pa
structure QH(X:Cx)(k:Md)(lo:Nat)(es:List Expr)(hs:List (Option Nat))(ph:PA'):Prop where
 h:∃ ta,PA X es ta/\amC X.K k lo hs ta ph
section
theorem c'L(h:QE X k e pe):QL X k lo e (plQ pe):=by
 obtain⟨te,h1,h2⟩:=h.h;exact⟨_,h1,w'a h2⟩
theorem c'A:QLA X k lo [] alP:=⟨_,b'R,q'E⟩
theorem a'K(h:QL X k lo e pl)(h':QLA X k lo es pla)(hs:starEach (e :: es) X.env=(false,eval e X.env) :: starEach es X.env:=by rfl):QLA X k lo (e :: es) (akO pl pla):=by
 obtain⟨te,h1,h2⟩:=h.h;obtain⟨tf,g1,g2⟩:=h'.h;exact⟨_,b'y h1 g1 hs,o'U h2 g2⟩
theorem g'g:QH X k lo [] [] phN:=⟨_,b'R,j'g⟩
theorem m'v(he:QE X k e pe)(h:QH X k lo es hs ph)(hst:starEach (e :: es) X.env=(false,eval e X.env) :: starEach es X.env:=by rfl):QH X k lo (e :: es) (none :: hs) (phQ pe ph):=by
 obtain⟨te,h1,h2⟩:=he.h;obtain⟨tf,g1,g2⟩:=h.h;exact⟨_,b'y h1 g1 hst,w'b h2 g2⟩
theorem j'h{x1}(h:QLA X k lo es pla):QL X k lo (.Tuple es x1 pos) (alQ pla):=by
 obtain⟨te,h1,h2⟩:=h.h;exact⟨_,m'Z h1,q'F h2⟩
theorem o'X(ho:OpR X (compareOp op) r)(hs:Op2 X.K k r pr)(ha:QL X k lo a pl)(hb:QL X k lo b pl')(hm:behindInMarks op b=false)(h:QB X k lo s1 p)(h':QB X k lo s2 q):QS X k lo (.If (.Compare a [op] [b] pos) s1 s2 ipos) (anC (pl2 pr pl pl') p q):=by
 obtain⟨ta,h1,h2⟩:=ha.h;obtain⟨tb,g1,g2⟩:=hb.h;obtain⟨t1,f1,f2⟩:=h.h;obtain⟨t2,e1,e2⟩:=h'.h;exact⟨_,q'W (k'j ho h1 g1 hm) f1 e1,t'N (t'M hs h2 g2) f2 e2⟩
theorem wx:∀(us:List V)(Fb Hb F H:Hp)(σ:St)(ρ:List Tr)(cs:Nat->Cs),Wld K k lo us Fb Hb F H σ ρ cs->∀ cls F' H',k.q cls->Gr Fb Hb F' H'->k.E σ cls none H':=λus Fb Hb F H σ ρ cs W cls F' H' hq g=>W.x cls σ F' H' hq g
section
def aln(C:Addr)(psp:PSp)(pa:ak9):PL':=λρ Q=>pa ρ λts ρ1=>psp (dns (.ins .o C [] :: ts)) (λt ρ'=>t=.non/\aj9 ρ'[0]? λx=>Q x ρ1)
theorem g'L{psp:PSp}(M:Mk X.K C f)(G:FnOk X.prog X.w X.K X.mg X.base CX0 km f fd ps (spP X.K z 1 n psp))(hk:z=true->k.z=true)(hn:∀ xs Q,psp xs Q->xs.length=n)(hr:Room (km+1) X.A)(hg:Gl X x)(hm:X.mg x=some (.ref C))(hb:Binds X.K fd ps [])(ha:QLA X k lo (e :: es) pla)(hdb:(x == ("__debug__":Str))=false:=by decide)(he:starEach (e :: es) X.env=(false,eval e X.env) :: starEach es X.env:=by rfl)(hpl:(backTo pos (starEach es X.env)).any (·.1)=false:=by rfl):
  QL X k lo (.Call (.Name x p) (e :: es) [] pos) (aln C psp pla):=by
 obtain⟨ta,g1,g2⟩:=ha.h;exact⟨_,f't (R:=λ_=>E0) M G hr hg hm hb .nil (m't i'a) g1 hdb he hpl,m'u (q':=λ_=>False) (psp:=λxs Q _=>psp xs Q) (λ_ _ _ _ _ _ _ _ _ _ _ _ h=>h.elim) hk (λxs Q _=>hn xs Q) g2⟩
theorem e'X(i:Nat){D:Addr->Nat->Prop}{psp:Nat->ajm}(hD:∀ C g,D C g->MOkA X.prog X.w X.K X.mg X.base (CX1 X.prog X.w) km m C ps (spX X.K z n n (psp g)))(hx:∀ σ,aio (CX1 X.prog X.w) X σ (k.E σ))(hk:z=true->k.z=true)(hn:∀ C xs Q q,psp C xs Q q->xs.length=n)(hr:Room km X.A)(ha:QH X k lo (e :: es) hs ph)(nd:((some i :: hs).filterMap id).Nodup:=by decide)(hN:X.N[i]?=some x:=by rfl)(hv:Vis X.env.scope x:=by first |exact Or.inl rfl |exact Or.inr (Or.inl rfl) |exact Or.inr (Or.inr rfl))(hd:(x == ("__debug__":Str))=false:=by decide)(hcd:(x == ("__classdict__":Str))=false:=by decide)(hst:starEach (e :: es) X.env=(false,eval e X.env) :: starEach es X.env:=by rfl)(hpl:(backTo pos (starEach es X.env)).any (·.1)=false:=by rfl)(ht:eval (.Call (.Attribute (.Name x p) m apos) (e :: es) [] pos) X.env=(do
   let ov <- eval (.Name x p) X.env
   standAt apos.atName
   let (f,first) <- holding [ov] (getMethod ov m pl)
   callWith pos f first (backTo pos (starEach (e :: es) X.env)) (backToKw pos (keywordEach [] X.env))):=by rfl):QL X k lo (.Call (.Attribute (.Name x p) m apos) (e :: es) [] pos) (akm k.q D m i hs psp ph):=by
 obtain⟨ta,g1,g2⟩:=ha.h;exact⟨_,v'Z (e'a hN hv hd hcd) hD hr hx g1 hst hpl ht,h'B wx nd hk hn g2⟩
theorem a'w(i:Nat){D:Addr->Nat->Prop}{psp:Nat->ajm}(hD:∀ C g,D C g->MOkA X.prog X.w X.K X.mg X.base (CX1 X.prog X.w) km m C ps (spX X.K z n n (psp g)))(hx:∀ σ,aio (CX1 X.prog X.w) X σ (k.E σ))(hk:z=true->k.z=true)(hn:∀ C xs Q q,psp C xs Q q->xs.length=n)(hr:Room km X.A)(hN:X.N[i]?=some x:=by rfl)(hv:Vis X.env.scope x:=by first |exact Or.inl rfl |exact Or.inr (Or.inl rfl) |exact Or.inr (Or.inr rfl))(hd:(x == ("__debug__":Str))=false:=by decide)(hcd:(x == ("__classdict__":Str))=false:=by decide)(ht:eval (.Call (.Attribute (.Name x p) m apos) [] [] pos) X.env=(do
   let ov <- eval (.Name x p) X.env
   standAt apos.atName
   let (f,first) <- holding [ov] (getMethod ov m pl)
   callWith pos f first (backTo pos (starEach [] X.env)) (backToKw pos (keywordEach [] X.env))):=by rfl):QL X k lo (.Call (.Attribute (.Name x p) m apos) [] [] pos) (akm k.q D m i [] psp phN):=
 ⟨_,l'i (e'a hN hv hd hcd) hD hr hx ht,h'B wx (show ([i]:List Nat).Nodup by simp) hk hn j'g⟩
end
section
theorem a'F(hN:X.N.Nodup)(hl:lo<=i)(hi:X.N[i]?=some x)(hx:Loc X.env.scope x)(h:QL X k lo e pl)(hs:swapsWith e (some (.Name x pos')) pos.line X.env=pure false:=by rfl)(hf:X.fn x=true\/X.env.scope.names.lookup x=some .local:=by first |exact .inl rfl |exact .inr rfl |assumption):
  QS X k lo (.Assign [.Name x pos'] e pos) (akQ i pl):=by
 obtain⟨te,h1,h2⟩:=h.h;exact⟨_,e'b hN hi hx h1 hs hf,o'V hl h2⟩
theorem c'B(h:QL X k lo e pl)(hs:swapsWith e none pos.line X.env=pure false:=by rfl):QS X k lo (.Expr e pos) (akR pl):=by
 obtain⟨te,h1,h2⟩:=h.h;exact⟨_,g'p h1 hs,o'W h2⟩
theorem o'Y(h:QL X k lo e pl):QS X k lo (.Return (some e) pos) (alR pl):=by
 obtain⟨te,h1,h2⟩:=h.h;exact⟨_,m'Q h1,q'G h2⟩
end
end
mutual
theorem R.nil_of:∀(t:Tr){v:V}{cs:Cs},frz t=t->R K F B t v cs->cs=[]
 |.int _,_,_,_,h=>h.2
 |.bl _,_,_,_,h=>h.2
 |.str _,_,_,_,h=>h.2
 |.non,_,_,_,h=>h.2
 |.hole,_,_,_,h=>h.elim
 |.ty _,_,_,_,h=>h.2
 |.cl _,_,_,_,h=>h.2
 |.exc _,_,_,_,h=>h.1
 |.tup xs,_,_,e,⟨a,vs,h1,h2,h3⟩=>Rs.nil_of xs (by injection e) h3
 |.lst .f xs,_,_,_,h=>h.1
 |.lst (.l k) xs,_,_,_,h=>h.1
 |.lst .o xs,_,_,e,_=>by injection e with e; cases e
 |.dic .f xs,_,_,_,h=>h.1
 |.dic (.l k) xs,_,_,_,h=>h.1
 |.dic .o xs,_,_,e,_=>by injection e with e; cases e
 |.ins .f _ xs,_,_,_,h=>h.1
 |.ins (.l k) _ xs,_,_,_,h=>h.1
 |.ins .o _ xs,_,_,e,_=>by injection e with e; cases e
theorem Rs.nil_of:∀(t:List Tr){v:List V}{cs:Cs},frzs t=t->Rs K F B t v cs->cs=[]
 |[],_,_,_,h=>h.2
 |x :: xs,_,_,e,⟨v,r,c,d,h1,h2,h3,h4⟩=>by
  have e:frz x :: frzs xs=x :: xs:=e;injection e with e1 e2
  rw[h2,R.nil_of x e1 h3,Rs.nil_of xs e2 h4];rfl
end
theorem Rs.unsnoc:∀{ys:List Tr}{t:Tr}{vs:List V}{cs:Cs},Rs K F B (ys++[t]) vs cs->∃ us u c d,vs=us++[u]/\cs=c++d/\Rs K F B ys us c/\R K F B t u d
 |[],t,_,_,h=>by
  obtain⟨v,rfl,r⟩:=h.one;exact⟨[],v,[],_,rfl,rfl,⟨rfl,rfl⟩,r⟩
 |y :: ys,t,_,_,⟨v,r,c,d,h1,h2,h3,h4⟩=>by
  obtain⟨us,u,c',d',a1,a2,a3,a4⟩:=Rs.unsnoc (ys:=ys) h4;exact⟨v :: us,u,c++c',d',by rw[h1,a1];rfl,by rw[h2,a2,List.append_assoc],⟨v,us,c,c',rfl,rfl,h3,a3⟩,a4⟩
section
def alS(K:W.Frag)(i:Nat)(r:List Str):PL':=λρ Q=>wPl K ρ i r λu s=>ajp u λxs=>∃ ys t,xs=ys++[t]/\Pu.frz t=t/\Q t (s (.lst .o ys))
theorem q'I:ake K k lo (an2 K "list" an3 (tR K i r)) (alS K i r):=λus Fb Hb F H σ ρ cs Q Q' W p q=>by
 obtain⟨t,e1,e2,e3,p⟩:=e'l p;obtain⟨xs,eg,ys,u,rfl,ef,p⟩:=c'H p;obtain⟨w,c,r1,sub,hc,rd,cl⟩:=W.at e1 e2 r e3;rw[eg] at r1;obtain⟨a,vs,ds,rfl,h2,h3⟩:=r1;have ha:H a=some (.lst vs):=hc.h (a,.lst vs) (by rw[h2];exact .head _);obtain⟨us',x,c',d',rfl,b2,b3,b4⟩:=h3.unsnoc;obtain rfl:=R.nil_of u ef b4;rw[List.append_nil] at b2;subst b2;obtain⟨cs',W3⟩:=cl F H W (Le.refl _) a (.lst (us'++[x])) (.lst us') ds ds [] (.lst .o ys) ((a,.lst us') :: (ds++[])) h2 (List.Sublist.refl _) .nil d'l c'i (List.Perm.refl _) ⟨a,us',ds++[],rfl,rfl,by rw[List.append_nil];exact b3⟩;refine rd _ ⟨g'v ha,a,us'++[x],x,rfl,rfl,ha,by simp,?_⟩;rw[List.dropLast_concat];exact q u x F _ _ cs' [] ⟨Le.refl _,W3,b4,.nil,.nil,λ_ _ _ _ m=>nomatch m⟩ p
def alT(K:W.Frag)(i:Nat)(pl:PL'):PS':=λD ρ=>(pV ρ[i]? λu=>ajp u λ_=>True)/\pl ρ λt ρ1=>pV ρ1[i]? λu=>ajp u λxs=>xs.length<1000000/\D.nx (ρ1.set i (.lst .o (xs++[Pu.frz t])))
theorem q'J(h:ake K k lo te pl):ai5 K k lo (ak4 (tBM K "list" akb (tR K i []) (ajO te akA))) (alT K i pl):=λus Fb Hb F H σ ρ cs D D' W p L=>by
 obtain⟨p0,p⟩:=p;obtain⟨t0,e1,e2,p0⟩:=i'g p0;obtain⟨xs0,rfl,_⟩:=c'H p0;rcases W.e i _ e1 with z |⟨v,h1,a,vs,ds,rfl,h2,h3⟩
 ·cases z
 have ha:H a=some (.lst vs):=(W.c i).h (a,.lst vs) (by rw[h2];exact .head _);refine⟨_,h1,g'v ha,h us Fb Hb F H σ ρ cs _ _ W p λt x F1 H1 ρ1 cs1 c1 o p1=>?_⟩;obtain⟨t1,g1,g2,p1⟩:=i'g p1;obtain⟨xs,rfl,hl,p1⟩:=c'H p1;obtain⟨F2,l2,W2,r2⟩:=o.held;obtain⟨w,c,r1,sub,hc,rd,cl⟩:=W2.at g1 g2 [] trivial;obtain⟨a',vs',ds',rfl,b2,b3⟩:=r1;have ew:a'=a:=by
  obtain⟨u,y1,y2⟩:=rd (λw' _=>w'=.ref a') rfl;rw[h1] at y1;cases y1;cases y2;rfl
 subst ew;have ha1:H1 a'=some (.lst vs'):=hc.h (a',.lst vs') (by rw[b2];exact .head _);obtain⟨cs',W3⟩:=cl F2 H1 W2 (Le.refl _) a' (.lst vs') (.lst (vs'++[x])) ds' ds' [] (.lst .o (xs++[Pu.frz t])) ((a',.lst (vs'++[x])) :: (ds'++[])) b2 (List.Sublist.refl _) .nil d'l c'i (List.Perm.refl _) ⟨a',vs'++[x],ds'++[],rfl,rfl,b3.snoc r2⟩;exact⟨a',vs',x,rfl,rfl,ha1,Nat.lt_of_lt_of_le (by rw[b3.length];exact hl) (by decide),L.nx F2 _ σ _ cs' W3 p1⟩
end
section
theorem e'u(hp:PE X o (tR X.K i r))(h1:attributeBase o "pop" X.env (eval o X.env)=eval o X.env:=by rfl)(h2:(apos.endLine == cpos.line)=true:=by rfl):QL X k lo (.Call (.Attribute o "pop" apos) [] [] cpos) (alS X.K i r):=
 ⟨_,u'P PySem.F.plainAttrs_list PySem.F.slot_list_pop PySem.F.type_list_pop u'Q hp h1 h2,q'I⟩
theorem j'i(hp:PE X o (tR X.K i []))(h:QL X k lo e pl)(h1:attributeBase o "append" X.env (eval o X.env)=eval o X.env:=by rfl)(h2:(((backTo cpos (starEach [e] X.env)).all (!·.1) && (backToKw cpos (keywordEach [] X.env)).all (·.1.isSome)) && decide (([e].length+([]:List Keyword).length+if ([]:List Keyword).isEmpty=true then 0 else 1)<30))=true:=by rfl)(h3:(apos.endLine == cpos.line)=true:=by rfl)(h4:starEach [e] X.env=(false,eval e X.env) :: starEach [] X.env:=by rfl)(hs:swapsWith (.Call (.Attribute o "append" apos) [e] [] cpos) none spos.line X.env=pure false:=by rfl):
  QS X k lo (.Expr (.Call (.Attribute o "append" apos) [e] [] cpos) spos) (alT X.K i pl):=by
 obtain⟨te,e1,e2⟩:=h.h;exact⟨_,g'p (q'Z PySem.F.plainAttrs_list slot_list_append type_list_append h'n hp (b'y e1 b'R h4) h1 h2 h3 h4 rfl) hs,q'J e2⟩
end
section
theorem g'M:∀{ns:List Str}{vs:List V}{c:Cs},Rs K F B (ns.map (Enc.t (α:=Str))) vs c->vs=ns.map V.str/\c=[]
 |[],_,_,h=>h
 |n :: ns,_,_,⟨v,r,c,d,h1,h2,h3,h4⟩=>by
  obtain⟨e1,e2⟩:=g'M h4;obtain⟨e3,e4⟩:=(show v=V.str n/\c=[] from h3);exact⟨by rw[h1,e1,e3];rfl,by rw[h2,e4,e2];rfl⟩
theorem l'm:∀(ns:List Str),Rs K F B (ns.map (Enc.t (α:=Str))) (ns.map V.str) []
 |[]=>⟨rfl,rfl⟩
 |n :: ns=>⟨.str n,ns.map V.str,[],[],rfl,rfl,⟨rfl,rfl⟩,l'm ns⟩
def wSS(t:Tr)(Q:Tr->Prop):Prop:=∃(f:Fl)(ns:List Str),t=.lst f (ns.map Enc.t)/\ns.length<60/\Q (.lst .o ((srt (ajk ns)).map Enc.t))
def wLS(t:Tr)(Q:Tr->Prop):Prop:=∃(f:Fl)(ns:List Str),t=.lst f (ns.map Enc.t)/\ns.length<60/\Q (.int ((ajk ns).length:Int))
theorem j'j{Q:VK}(s:Same F H)(b:∀ k,Same (B k) H)(r:R K F B (.lst f (ns.map Enc.t)) v c1)(hc:Cells F H c1)(hl:ns.length<60)(q:∀ p,H p=none->Q (.ref p) (upd H p (ak2 P w p ((ajk ns).map Sum.inr)))):akr P w K [v] H Q:=by
 obtain⟨a,vs,ds,rfl,h1,h2,h3,h4⟩:=r.lstH s b hc;obtain⟨rfl,_⟩:=g'M h2;refine⟨a,ns.map Sum.inr,rfl,?_,by rw[List.length_map];omega,λp hp=>?_⟩
 ·rw[List.map_map];exact h1
 ·rw[q'f (λx y e=>Sum.inr.inj e)];exact q p hp
theorem w'c(h:Sim K k te pe):Sim K k (tCB (ajY P w) (ajO (tCB (akr P w K) (ajO te akA)) akA)) (p1 wSS pe):=λF B H σ ρ Q Q' c p q=>by
 refine h F B H σ ρ _ _ c p λx v F1 H1 c1 p1 o1=>?_
 obtain⟨f,ns,rfl,hl,p1⟩:=p1;have key:akr P w K [v] H1 (λx H2=>ajY P w [x] H2 Q):=?_
 ·exact key
 refine j'j o1.g.s (λk=>(c.b k).trans o1.g.h) o1.r o1.c hl λp hp=>?_
 show ajY P w [V.ref p] _ Q;refine s'Z a'O (Nat.lt_of_le_of_lt (d'E _) (by omega)) λp2 hp2=>?_
 have g2:Gr F1 H1 F1 (upd H1 p (ak2 P w p ((ajk ns).map Sum.inr))):=Gr.own1 o1.g.s hp;obtain⟨n1,n2,n3⟩:=c'x (K:=K) (B:=B) g2.s (l'm (srt (ajk ns))) .nil hp2;refine q _ _ F1 _ _ p1 ⟨(o1.g.trans' g2).trans' n1,n2,n3,λy m=>?_⟩;cases m with
 |head=>exact o1.g.h.free (g2.h.free hp2)
 |tail _ m=>cases m
theorem w'd(h:Sim K k te pe):Sim K k (tCB (akG P w) (ajO (tCB (akr P w K) (ajO te akA)) akA)) (p1 wLS pe):=λF B H σ ρ Q Q' c p q=>by
 refine h F B H σ ρ _ _ c p λx v F1 H1 c1 p1 o1=>?_
 obtain⟨f,ns,rfl,hl,p1⟩:=p1;have key:akr P w K [v] H1 (λx H2=>akG P w [x] H2 Q):=?_
 ·exact key
 refine j'j o1.g.s (λk=>(c.b k).trans o1.g.h) o1.r o1.c hl λp hp=>?_
 have g2:Gr F1 H1 F1 (upd H1 p (ak2 P w p ((ajk ns).map Sum.inr))):=Gr.own1 o1.g.s hp;show akG P w [V.ref p] _ Q;exact v'i a'O (Nat.lt_of_le_of_lt (d'E _) (by omega)) (q _ _ F1 _ [] p1 ⟨o1.g.trans' g2,⟨rfl,rfl⟩,.nil,.nil⟩)
def am4(K:W.Frag)(ts:List Tr)(Q:Tr->Prop):Prop:=match ts with
 |[.ins _ C _,.cl D]=>∃ b,akk K C /\ W.kitOne K (.ref C) (.ref D) = some b /\ Q (.bl b)
 |_=>False
theorem t'O:OpA K k (aob K) (am4 K):=λF B H xs ts cx Q Q' s b z r hc p q=>by
 unfold am4 at p;split at p
 ·obtain⟨v,w,c1,d1,rfl,r1,r2,e⟩:=r.two;rw[e] at hc;obtain⟨bb,e1,e2,p⟩:=p;obtain⟨a,dx,vs,ds,rfl,h1,_⟩:=r1.insH s b hc.left;obtain⟨rfl,_⟩:=r2;exact⟨_,_,_,bb,_,rfl,.inr ⟨a,_,dx,vs,rfl,rfl,h1,e1⟩,rfl,e2,q _ _ F H [] p (Gr.refl' s) ⟨rfl,rfl⟩ .nil λ_ m=>nomatch m⟩
 ·exact p.elim
end
section
theorem x't{p p2 pos2:Pos}(hc:X.calm=true)(hg:Gl X "sorted")(hm:X.mg "sorted"=none)(hg2:Gl X "set")(hm2:X.mg "set"=none)(h:QE X k e pe)(h1:starEach [e] X.env=[(false,eval e X.env)]:=by rfl)(h2:starEach [.Call (.Name "set" p2) [e] [] pos2] X.env=[(false,eval (.Call (.Name "set" p2) [e] [] pos2) X.env)]:=by rfl):
  QE X k (.Call (.Name "sorted" p) [.Call (.Name "set" p2) [e] [] pos2] [] pos) (p1 wSS pe):=by
 obtain⟨te,g1,g2⟩:=h.h;exact⟨_,f'o (i'A hc) hg hm rfl (b'y (e'e (h'u hc) hg2 hm2 rfl (b'y g1 b'R h1) (he:=h1)) b'R h2),w'c g2⟩
theorem x'u{p p2 pos2:Pos}(hc:X.calm=true)(hg:Gl X "len")(hm:X.mg "len"=none)(hg2:Gl X "set")(hm2:X.mg "set"=none)(h:QE X k e pe)(h1:starEach [e] X.env=[(false,eval e X.env)]:=by rfl)(h2:starEach [.Call (.Name "set" p2) [e] [] pos2] X.env=[(false,eval (.Call (.Name "set" p2) [e] [] pos2) X.env)]:=by rfl):
  QE X k (.Call (.Name "len" p) [.Call (.Name "set" p2) [e] [] pos2] [] pos) (p1 wLS pe):=by
 obtain⟨te,g1,g2⟩:=h.h;exact⟨_,f'o n'z hg hm rfl (b'y (e'e (h'u hc) hg2 hm2 rfl (b'y g1 b'R h1) (he:=h1)) b'R h2),w'd g2⟩
theorem c'Z(K:W.Frag)(hK:X.K=K)(hg:Gl X x)(hm:X.mg x=none)(hv:bootBuiltins x=some (.builtin "isinstance"))(ha:QA X k (e :: es) ps)(hn:x≠"__name__":=by decide)(hdb:(x == ("__debug__":Str))=false:=by decide)(he:starEach (e :: es) X.env=(false,eval e X.env) :: starEach es X.env:=by rfl)(hpl:(backTo pos (starEach es X.env)).any (·.1)=false:=by rfl):
  QE X k (.Call (.Name x p) (e :: es) [] pos) (pB (am4 K) ps):=by
 subst hK;exact a'V q'g t'O hg hm hv ha hn hdb he hpl
end
theorem l'n:amB q D m psp po pa ρ Q=(po ρ λx=>ajP D m x λc=>pa ρ λts=>psp c (dns (x :: ts)) (λt _=>Q t) q):=rfl
theorem o'Z:anB D m psp po pa ρ Q=(po ρ λx=>ajP D m x λc=>pa ρ λts=>psp c (dns (x :: ts)) (λt _=>Q t)):=rfl
theorem j'k:akN q C psp pa ρ Q=(pa ρ λts=>psp (dns (.ins .o C [] :: ts)) (λt ρ'=>t=.non/\aj9 ρ'[0]? Q) q):=rfl
theorem l'o:alO C psp pa ρ Q=(pa ρ λts=>psp (dns (.ins .o C [] :: ts)) λt ρ'=>t=.non/\aj9 ρ'[0]? Q):=rfl
theorem s'a:plQ pe ρ Q=(pe (ρ.map lend) λt=>nlt t=true/\Q t ρ):=rfl
theorem l'p(ρ:List Tr)(Q:List Tr->List Tr->Prop):alP ρ Q=(Q [] ρ):=rfl
theorem j'l(pl:PL')(pa:ak9)(ρ:List Tr)(Q:List Tr->List Tr->Prop):akO pl pa ρ Q=(pl ρ λt ρ1=>pa ρ1 λts ρ2=>Q (frz t :: ts) ρ2):=rfl
theorem h'C:akP q C psp pa ρ Q=(pa ρ λts ρ1=>psp (dns (.ins .o C [] :: ts)) (λt ρ'=>t=.non/\aj9 ρ'[0]? λx=>Q x ρ1) q):=rfl
theorem l'q:alQ pa ρ Q=(pa ρ λts ρ1=>ts.length<=10000/\Q (.tup ts) ρ1):=rfl
theorem s'b(pr:Tr->Tr->(Tr->Prop)->Prop)(pa:PL')(pb:PL')(ρ:List Tr)(Q:Tr->List Tr->Prop):pl2 pr pa pb ρ Q=(pa ρ λx ρ1=>pb ρ1 λy ρ2=>pr (frz x) y λt=>Q t ρ2):=rfl
theorem j'm(i:Nat)(pl:PL')(D:Pd)(ρ:List Tr):akQ i pl D ρ=(pl ρ λt ρ1=>D.nx (ρ1.set i (frz t))):=rfl
theorem j'n:akR pl D ρ=(pl ρ λ_ ρ1=>D.nx ρ1):=rfl
theorem l'r:alR pl D ρ=(pl ρ λt ρ1=>nol t=true/\D.rt t ρ1):=rfl
theorem p'a:anC pl p q D ρ=(pl ρ λt ρ1=>wBl t λb=>if b=true then p D ρ1 else q D ρ1):=rfl
theorem s'c:phN ρ' Q=(Q []):=rfl
theorem s'd:phQ pe ph ρ Q=(pe (ρ.map lend) λt=>nlt t=true/\ph ρ λts=>Q (Pu.frz t :: ts)):=rfl
theorem j'o(q:Value->Prop)(D:Addr->Nat->Prop)(m:Str)(i:Nat)(hs:List (Option Nat))(psp:Nat->ajm)(ph:PA')(ρ:List Tr)(Q:Tr->List Tr->Prop):akm q D m i hs psp ph ρ Q=(pV ρ[i]? λx=>ajP D m x λc=>ph ρ λts=>psp c (dns (x :: ts)) (λt ρ'=>ajJ (some i :: hs) 0 ρ' ρ λρ2=>Q t ρ2) q):=rfl
theorem j'p:aln C psp pa ρ Q=(pa ρ λts ρ1=>psp (dns (.ins .o C [] :: ts)) (λt ρ'=>t=.non/\aj9 ρ'[0]? λx=>Q x ρ1)):=rfl
theorem l's(K:W.Frag)(i:Nat)(r:List Str)(ρ:List Tr)(Q:Tr->List Tr->Prop):alS K i r ρ Q=(wPl K ρ i r λu s=>ajp u λxs=>∃ ys t,xs=ys++[t]/\Pu.frz t=t/\Q t (s (.lst .o ys))):=rfl
theorem l't(K:W.Frag)(i:Nat)(pl:PL')(D:Pd)(ρ:List Tr):alT K i pl D ρ=((pV ρ[i]? λu=>ajp u λ_=>True)/\pl ρ λt ρ1=>pV ρ1[i]? λu=>ajp u λxs=>xs.length<1000000/\D.nx (ρ1.set i (.lst .o (xs++[Pu.frz t])))):=rfl
theorem s'e(f:Fl)(c:Addr)(fs:List (Str×Tr))(Q:Tr->Prop):aj9 (some (.ins f c fs)) Q=(nol (.ins f c fs)=true/\Q (.ins f c fs)):=rfl
theorem j'q(j:Nat)(ρ' ρ:List Tr)(Q:List Tr->Prop):ajJ [] j ρ' ρ Q=Q ρ:=rfl
theorem l'u(hs:List (Option Nat))(j:Nat)(ρ' ρ:List Tr)(Q:List Tr->Prop):ajJ (none :: hs) j ρ' ρ Q=ajJ hs (j+1) ρ' ρ Q:=rfl
theorem j'r(i:Nat)(hs:List (Option Nat))(j:Nat)(ρ' ρ:List Tr)(Q:List Tr->Prop):ajJ (some i :: hs) j ρ' ρ Q=(pV ρ'[j]? λt=>nol t=true/\ajJ hs (j+1) ρ' (ρ.set i t) Q):=rfl
theorem i_l(c:Addr)(fs:List (Str×Tr)):lend (.ins .o c fs)=.ins (.l true) c (lendf fs):=rfl
theorem i_f(c:Addr)(fs:List (Str×Tr)):Pu.frz (.ins .o c fs)=.ins .f c (frzf fs):=rfl
theorem i_d(c:Addr)(fs:List (Str×Tr)):dn (.ins .o c fs)=.ins .o c (dnf fs):=rfl
theorem m'w(b:Bool)(c:Addr)(fs:List (Str×Tr)):dn (.ins (.l b) c fs)=.ins (.l false) c (dnf fs):=rfl
theorem m'x(c:Addr)(fs:List (Str×Tr)):dn (.ins .f c fs)=.ins .f c (dnf fs):=rfl
theorem q'K(c:Addr)(fs:List (Str×Tr)):Pu.frz (.ins .f c fs)=.ins .f c fs:=rfl
theorem m'y(c:Addr)(fs:List (Str×Tr)):lend (.ins .f c fs)=.ins .f c fs:=rfl
theorem m'z(b:Bool)(c:Addr)(fs:List (Str×Tr)):lend (.ins (.l b) c fs)=.ins (.l b) c fs:=rfl
theorem w'e(b:Bool)(c:Addr)(fs:List (Str×Tr)):Pu.frz (.ins (.l b) c fs)=.ins (.l b) c fs:=rfl
theorem i_o(c:Addr)(fs:List (Str×Tr)):nol (.ins .o c fs)=nolf fs:=rfl
theorem w'f(c:Addr)(fs:List (Str×Tr)):nol (.ins .f c fs)=nolf fs:=rfl
theorem i_t(c:Addr)(fs:List (Str×Tr)):nlt (.ins .o c fs)=nltf fs:=rfl
theorem w'g(c:Addr)(fs:List (Str×Tr)):nlt (.ins .f c fs)=nltf fs:=rfl
theorem s'f(K:W.Frag)(f:Fl)(C:Addr)(fs:List (Str×Tr))(D:Addr)(Q:Tr->Prop):am4 K [.ins f C fs,.cl D] Q=∃ b,akk K C/\W.kitOne K (.ref C) (.ref D)=some b/\Q (.bl b):=rfl
theorem p'b(K:W.Frag)(f:Str)(c:Addr)(fs:List (Str×Tr))(Q:Addr->List (Str×Tr)->Prop):aj1 K f (.ins .o c fs) Q=((Cls K c/\NoAttr K c f)/\fs.length<900/\Q c fs):=rfl
theorem w_fld(K:W.Frag)(f:Str)(g:Fl)(c:Addr)(fs:List (Str×Tr))(Q:Tr->Prop):akl K f (.ins g c fs) Q=((Cls K c/\NoAttr K c f)/\(match fs.lookup f with |some t=>Q t |none=>False)):=rfl
theorem j's:aj8 f u []=[(f,u)]:=rfl
theorem l'v(f:Fl)(c:Addr)(xs:List (Str×Tr))(R:Tr->Prop):wP0 (some (.ins f c xs)) R=R (.ins f c xs):=rfl
section
theorem e'Y(xs:List Str)(hg:Gl X x)(hm:X.mg x=some (.ref c))(ht:∃(o:Obj)(its:Array Value)(n:Nat),X.K.lookup c=some o/\o.cls=.type "tuple"/\o.data=.seq its n/\its.size<=sizeLine/\Vals (xs.map V.str) its.toList)(hd:(x == ("__debug__":Str))=false:=by decide):QE X k (.Name x pos) (pC (.tup (xs.map Tr.str))):=
 g'c (.ref c) hg hm rfl (λF B=>⟨c,_,rfl,.inr ht,e'V xs⟩) hd
end
end Pu
namespace L2
open PySem PySem.Spec PyProof.Rows
def amD(K:W.Frag):List V->Hp->VK->Prop:=λxs H Q=>∃(a C dx t:Addr)(fs:List (Str×V))(cs:List Addr)(b:Bool),xs=[.ref a,.ref t]/\Rd H a (.ins C dx fs)/\akk K C/\SqT K H t (cs.map V.ref)/\W.kitAny K (.ref C) (cs.map Value.ref)=some b/\Q (.bl b) H
theorem p'c:CallR X (.builtin "isinstance") (amD X.K):=by
 intro pins s σ H xs us Q I r h;obtain⟨a,C,dx,t,fs,cs,b,rfl,ea,z,ht,e,q⟩:=h;obtain⟨v,w',rfl,rx,rw'⟩:=h'Y r;cases (show v=Value.ref a from rx);cases (show w'=Value.ref t from rw');obtain⟨mA,O,_⟩:=e'j I.hok ea;obtain⟨od,J,_⟩:=O.look;obtain⟨us,r1,pt,hsz⟩:=I.tuple ht;have eu:us=cs.map Value.ref:=by
  clear e ht q pt hsz
  induction cs generalizing us with
  |nil=>cases r1;rfl
  |cons c cs ih=>cases r1 with
   |cons a b=>rw[List.map_cons,ih _ b];exact congrArg (· :: _) a
 subst eu;obtain⟨⟨c1,d1,t1,sl1⟩,ho,hc,n,hd⟩:=pt;simp only at hc hd;subst hc hd;exact W.kia_tup (W.kitx_own (z.cl.get _) z.cl.hd z.ha z.hn z.htk z.hm) I.kIn J ho e (λz=>nomatch z) λtk=>⟨.bl b,H,I.tok tk,rfl,q⟩
end L2
namespace Pu
open PySem L2 Vc Sf
section
def ala(K:W.Frag)(ts:List Tr)(Q:Tr->Prop):Prop:=match ts with
 |[.ins _ C _,.tup cs]=>∃(as:List Addr)(b:Bool),cs = as.map Tr.cl /\ akk K C /\ W.kitAny K (.ref C) (as.map Value.ref) = some b /\ Q (.bl b)
 |_=>False
theorem q'L:OpA K k (amD K) (ala K):=λF B H xs ts cx Q Q' s b z r hc p q=>by
 unfold ala at p;split at p
 ·obtain⟨v,us,c,d,rfl,rfl,h3,h4⟩:=r;obtain⟨v',us',c',d',rfl,rfl,g3,g4⟩:=h4;obtain⟨rfl,_⟩:=g4;obtain⟨as,bb,rfl,e1,e2,p⟩:=p;obtain⟨a,dx,vs,ds,rfl,ha,_⟩:=h3.insH s b hc.left;obtain⟨t,vs',rfl,ht,h5⟩:=g3.tupH s;rw[o'P h5] at ht;exact⟨a,_,dx,t,vs,as,bb,rfl,ha,e1,ht,e2,q _ _ F H [] p (Gr.refl' s) ⟨rfl,rfl⟩ .nil λ_ m=>nomatch m⟩
 ·exact p.elim
def akS(pr pr':Tr->Tr->(Tr->Prop)->Prop)(pa pb pc:PE'):PE':=λρ Q=>pa ρ λx=>pb ρ λy=>pr x y λz=>wBl z λb=>if b=true then pc ρ λw=>pr' y w Q else Q (.bl false)
theorem p'd(o:Op2 K k r pr)(o':Op2 K k r' pr')(ha:Sim K k ta pa)(hb:Sim K k tb pb)(hc:Sim K k tc pc):Sim K k (ale r r' ta tb tc) (akS pr pr' pa pb pc):=λF B H σ ρ Q Q' c p q=>by
 refine ha F B H σ ρ _ _ c p λx v F1 H1 c1 p1 o1=>?_
 refine hb F1 B H1 σ ρ _ _ (c.gr o1.g) p1 λy u F2 H2 c2 p2 o2=>?_
 have g12:=o1.g.trans' o2.g;refine o F2 B H2 v u x y c1 c2 _ _ o2.g.s (λk=>((c.b k).trans o1.g.h).trans o2.g.h) (λh=>o2.g.fz (o1.g.fz (c.z h))) (o1.r.mo o2.g.le (λk=>Le.refl (B k)) x) o2.r (o1.c.gr o2.g) o2.c (λp mp q mq e=>by have:=o1.c.h p mp;rw[e,o2.n q mq] at this;cases this) p2 λz v3 F3 H3 c3 q3 g3 r3 _ _=>?_
 unfold wBl at q3;split at q3
 ·rename_i b;obtain⟨rfl,_⟩:=r3;refine⟨b,rfl,?_⟩;have g13:=g12.trans' g3;cases b with
  |false=>exact q _ _ F3 H3 [] q3 (.bl g13)
  |true=>
   rw[if_pos rfl] at q3 ⊢;refine hc F3 B H3 σ ρ _ _ (c.gr g13) q3 λt4 v4 F4 H4 c4 p4 o4=>?_
   have y4:=(o2.r.mo g3.le (λk=>Le.refl (B k)) y).mo o4.g.le (λk=>Le.refl (B k)) y;have yc:=(o2.c.gr g3).gr o4.g;refine o' F4 B H4 u v4 y t4 c2 c4 Q Q' o4.g.s (λk=>((c.b k).trans g13.h).trans o4.g.h) (λh=>o4.g.fz (g13.fz (c.z h))) y4 o4.r yc o4.c (λp mp q mq e=>by have:=(o2.c.gr g3).h p mp;rw[e,o4.n q mq] at this;cases this) p4 λt5 v5 F5 H5 c5 q5 g5 r5 hc5 n5=>?_
   refine q t5 v5 F5 H5 c5 q5 ⟨(g13.trans' o4.g).trans' g5,r5,hc5,λp m=>?_⟩;rcases n5 p m with z |z |z
   ·exact g13.h.free (o4.g.h.free z)
   ·exact o1.g.h.free (o2.n p z)
   ·exact g13.h.free (o4.n p z)
 ·exact q3.elim
def wI(o:Option Tr)(Q:Int->Prop):Prop:=match o with |some (.int a)=>Q a |_=>False
theorem m'A{Q:Int->Prop}(h:wI o Q):∃ a,o=some (.int a)/\Q a:=by
 unfold wI at h;split at h
 ·exact⟨_,rfl,h⟩
 ·exact h.elim
def akf(K:W.Frag)(i:Nat)(r:List Str)(f:Str)(pe:PE'):PS':=λD ρ=>wPl K ρ i r λu s=>aj1 K f u λc fs=>wI (fs.lookup f) λa=>pe (ρ.map lend) λt=>wI (some t) λb=>D.nx (s (.ins .o c (aj8 f (.int (a+b)) fs)))
theorem m'B(h:Sim K k te pe):ai5 K k lo (akz K (tR K i r) te anV f) (akf K i r f pe):=λus Fb Hb F H σ ρ cs D D' W p L=>by
 obtain⟨t,e1,e2,e3,p⟩:=e'l p;obtain⟨C,fs,eg,ok,hl,p⟩:=i'F p;obtain⟨a0,el,p⟩:=m'A p;obtain⟨w,c,r1,sub,hc,rd,cl⟩:=W.at e1 e2 r e3;rw[eg] at r1;obtain⟨a,dx,vs,ds,rfl,h2,h3⟩:=r1;have ha:H a=some (.ins C dx vs):=hc.h (a,.ins C dx vs) (by rw[h2];exact .head _);have lk:vs.lookup f=some (.int a0):=by
  obtain⟨w,c,pre,post,a1,a2,_⟩:=h3.at el;rw[a1,a2.1]
 refine rd _ ⟨a,C,dx,vs,.int a0,rfl,ha,ok.1,ok.2,lk,h F (Bq Hb H) H σ _ _ _ W.cxt p λu v F1 H1 c1 q o=>?_⟩;obtain⟨b,eu,q⟩:=m'A q;cases eu;obtain⟨rfl,_⟩:=o.r;obtain⟨ds',d,a1,a2,a3⟩:=(h3.mo o.g.le (λ_=>Le.refl _) fs).put (f:=f) (t:=.int (a0+b)) (v:=.int (a0+b)) (e:=[]) ⟨rfl,rfl⟩;rw[List.append_nil] at a3;obtain⟨cs',W3⟩:=cl F1 H1 (W.gr o.g) o.g.le a (.ins C dx vs) (.ins C dx (ajF f (.int (a0+b)) vs)) ds ds' [] (.ins .o C (aj8 f (.int (a0+b)) fs)) ((a,.ins C dx (ajF f (.int (a0+b)) vs)) :: d) h2 a2 .nil d'l c'i (List.Perm.cons _ (by rw[List.append_nil];exact a3)) ⟨a,dx,_,d,rfl,rfl,a1⟩;exact⟨a0,b,rfl,rfl,dx,vs,o.g.h _ _ ha,Nat.lt_of_lt_of_le (by rw[h3.length];exact hl) (by decide),L.nx F1 _ σ _ cs' W3 q⟩
end
section
theorem w'h(K:W.Frag)(hK:X.K=K)(hg:Gl X x)(hm:X.mg x=none)(hv:bootBuiltins x=some (.builtin "isinstance"))(ha:QA X k (e :: es) ps)(hn:x≠"__name__":=by decide)(hdb:(x == ("__debug__":Str))=false:=by decide)(he:starEach (e :: es) X.env=(false,eval e X.env) :: starEach es X.env:=by rfl)(hpl:(backTo pos (starEach es X.env)).any (·.1)=false:=by rfl):
  QE X k (.Call (.Name x p) (e :: es) [] pos) (pB (ala K) ps):=by
 subst hK;exact a'V p'c q'L hg hm hv ha hn hdb he hpl
theorem f'z(ho:OpR X (compareOp op) r)(hs:Op2 X.K k r pr)(ho':OpR X (compareOp op') r')(hs':Op2 X.K k r' pr')(ha:QE X k a pa)(hb:QE X k b pb)(hc:QE X k c pc)(hm:lastMarks [op,op'] [b,c]=false:=by with_unfolding_all rfl):QT X k (.Compare a [op,op'] [b,c] pos) (pT (akS pr pr' pa pb pc)):=by
 obtain⟨ta,h1,h2⟩:=ha.h;obtain⟨tb,g1,g2⟩:=hb.h;obtain⟨tc,f1,f2⟩:=hc.h;exact⟨_,p'H ho ho' h1 g1 f1 hm,h'w (p'd hs hs' h2 g2 f2)⟩
theorem q'M(hp:PE X o (tR X.K i r))(h:QE X k e pe):QS X k lo (.AugAssign (.Attribute o f tpos) .Add e pos) (akf X.K i r f pe):=by
 obtain⟨te,h1,h2⟩:=h.h;exact⟨_,m'X hp h1 u'J,m'B h2⟩
end
theorem j't(pr pr':Tr->Tr->(Tr->Prop)->Prop)(pa pb pc:PE')(ρ:List Tr)(Q:Tr->Prop):akS pr pr' pa pb pc ρ Q=(pa ρ λx=>pb ρ λy=>pr x y λz=>wBl z λb=>if b=true then pc ρ λw=>pr' y w Q else Q (.bl false)):=rfl
theorem h'D(K:W.Frag)(i:Nat)(r:List Str)(f:Str)(pe:PE')(D:Pd)(ρ:List Tr):akf K i r f pe D ρ=(wPl K ρ i r λu s=>aj1 K f u λc fs=>wI (fs.lookup f) λa=>pe (ρ.map lend) λt=>wI (some t) λb=>D.nx (s (.ins .o c (aj8 f (.int (a+b)) fs)))):=rfl
theorem w_i(n:Int)(Q:Int->Prop):wI (some (.int n)) Q=Q n:=rfl
theorem p'e(K:W.Frag)(f:Fl)(C:Addr)(fs:List (Str×Tr))(cs:List Tr)(Q:Tr->Prop):ala K [.ins f C fs,.tup cs] Q=∃(as:List Addr)(b:Bool),cs=as.map Tr.cl/\akk K C/\W.kitAny K (.ref C) (as.map Value.ref)=some b/\Q (.bl b):=rfl
theorem p'f(hxe:Xe1 X E):PassesOwn (model X.prog X.w) X.A X.env X.xe:=by
 rw[show X.xe=_ from hxe]
 passes_own
end Pu
namespace Pu
open PySem L2 Vc Sf PyProof.Rows
theorem g'h:∀{vs:List Value}{ys:List Str},StrsAre vs ys->∀ i,i<vs.length->∃ y t,vs[i]?=some (.str y t)/\ys[i]?=some y
 |_,_,.nil,i,h=>absurd h (Nat.not_lt_zero _)
 |_,_,.cons y t h,0,_=>⟨y,t,rfl,rfl⟩
 |_,_,.cons y t h,i + 1,hi=>by
  obtain⟨y',t',e1,e2⟩:=g'h h i (Nat.lt_of_succ_lt_succ hi);exact⟨y',t',by rw[List.getElem?_cons_succ];exact e1,by rw[List.getElem?_cons_succ];exact e2⟩
theorem g'N(l:Addr)(items:Array Value)(n:Nat)(dd:Option Addr)(sl:Array (Option Value))(x:Str)(u:Tok)(ys:List Str)(hi:StrsAre items.toList ys)(j:Nat)(hj:j<items.size)(hit:ys[j]?=some x)(hno:∀ m,m<j->ys[m]?≠some x):
  Meets (Builtin.«tuple.index» ⟨[.ref l,.str x u],[]⟩)
   (λA R s=>s.heap.get? l=some { cls:=.type "tuple",dict:=dd,data:=.seq items n,slots:=sl }/\R (.ok (.ret (.int j s.toks))) { s with toks:=s.toks+1 }):=
 .of_wp λprog w A R s h=>by
  obtain⟨hp,g,d,tk,os⟩:=s;obtain⟨hl,h⟩:=h;have at_:∀ i (hm:i<items.size),∃ y t,items[i]?=some (.str y t)/\ys[i]?=some y:=λi hm=>by
   obtain⟨y,t,e1,e2⟩:=g'h hi i (by simpa using hm);exact⟨y,t,by simpa using e1,e2⟩
  unfold Builtin.«tuple.index»;simp only[Std.Legacy.Range.forIn_eq_forIn_range',Std.Legacy.Range.size]
  wp_walk using wpAny_loadPart' hl,wpAny_forIn_list _ (λrest b s'=>b.1=none/\s'=⟨hp,g,d,tk,os⟩/\∃ i,rest=List.range' i (items.size - i) 1/\i<=j) _
  case turn=>
   rintro y rest b s' ⟨hb,rfl,i,hr,hij⟩;have hlt:i<items.size:=by omega
   rw[show items.size - i=(items.size - (i+1))+1 by omega,List.range'_succ] at hr;injection hr with h1 h2
   subst h1;obtain⟨z,t,e1,e2⟩:=at_ y hlt;rw[e1];refine wpAny_bind (eqBool_str ?_);by_cases c:z=x
   ·subst c;have:y=j:=by
     rcases Nat.lt_or_ge y j with q |q
     ·exact absurd e2 (hno y q)
     ·omega
    subst this;rw[if_pos (by simp)]
    wp_walk
    exact⟨_,rfl,h⟩
   ·rw[if_neg (by simpa using c)];refine wpAny_pure ?_;refine⟨rfl,rfl,y+1,h2,?_⟩;rcases Nat.lt_or_ge y j with q |q
    ·exact q
    ·have:y=j:=by omega
     subst this;rw[hit] at e2;exact absurd (Option.some.inj e2).symm c
  case fin=>
   rintro⟨b1,b2⟩ s' ⟨hb,rfl,i,hr,hij⟩;rw[show items.size - i=(items.size - (i+1))+1 by omega,List.range'_succ] at hr;cases hr
  case h=>exact⟨rfl,rfl,0,by simp,Nat.zero_le _⟩
theorem e'v:∀{ys:List Str}{its:List Value},Vals (ys.map V.str) its->StrsAre its ys
 |[],_,h=>by cases h; exact .nil
 |y :: ys,_,h=>by
  cases h with
  |cons a b=>
   obtain⟨t,rfl⟩:=(show ∃ t,_=Value.str y t from a);exact .cons y t (e'v b)
def amE(xs:List Str)(pe:PE'):PE':=λρ Q=>pe ρ λt=>wTx t λy=>∃ j:Nat,xs[j]?=some y/\(∀ m,m<j->xs[m]?≠some y)/\Q (.int (j:Int))
section
theorem q'N(xs:List Str)(hg:Gl X x)(hm:X.mg x=some (.ref c))(ht:∃(o:Obj)(its:Array Value)(n:Nat),X.K.lookup c=some o/\o.cls=.type "tuple"/\o.data=.seq its n/\its.size<=sizeLine/\Vals (xs.map V.str) its.toList)(hn:∀ o,X.K.lookup c=some o->o.dict=none)(he:QE X k e pe)(m:M1 X (.Name x pos) "index" apos e cpos)(hd:(x == ("__debug__":Str))=false:=by decide):QE X k (.Call (.Attribute (.Name x pos) "index" apos) [e] [] cpos) (amE xs pe):=by
 obtain⟨te,h1,h2⟩:=he.h;refine⟨λσ H Q=>te σ H λy H2=>∃(b:Str)(j:Nat),y=.str b/\xs[j]?=some b/\(∀ m,m<j->xs[m]?≠some b)/\Q (.int (j:Int)) H2,?_,?_⟩
 ·intro pins s σ H Q I h;obtain⟨o,its,n,ho,hc,hdt,hz,hv⟩:=ht;obtain⟨c1,d1,t1,sl1⟩:=o;simp only at hc hdt;subst hc hdt;have hob:=I.kIn c _ ho;refine wpAny_Call_method m.base m.few m.line PySem.F.plainAttrs_tuple PySem.F.slot_tuple_index PySem.F.type_tuple_index (b'V I hg hm ⟨⟨_,hob,rfl⟩,(λa z=>by cases z;exact⟨_,hob,hn _ ho⟩),?_⟩ hd);rw[m.trees];refine Calls.callWith_builtin rfl (Calls.evalArgs_plain (Calls.spliced_cons (thn (h1 pins s σ H _ I h) λiv s2 ⟨y,H2,I2,ry,b,j,ey,e1,e2,q2⟩=>Calls.spliced_nil ?_)));subst ey;obtain⟨t',rfl⟩:=(show ∃ t,iv=Value.str b t from ry);have sa:=e'v hv;have hl:xs.length=its.size:=by simpa using hv.length
  have hj:j<its.size:=by
   rw[<- hl];rcases Nat.lt_or_ge j xs.length with z |z
   ·exact z
   ·rw[List.getElem?_eq_none z] at e1;cases e1
  exact call_meets PySem.F.slot_tuple_index ⟨_,I2.kIn c _ ho,rfl⟩ PySem.F.entry_tuple_index (PySem.F.args_tuple_index_2 _ _) (g'N c its n d1 sl1 b t' xs sa j hj e1 e2) ⟨I2.kIn c _ ho,⟨.int _,H2,I2.tok _,⟨_,rfl⟩,q2⟩⟩
 ·intro F B H σ ρ Q Q' c p q;refine h2 F B H σ ρ _ _ c p λt v F1 H1 c1 p1 o1=>?_
  obtain⟨y,rfl,j,e1,e2,p1⟩:=c'J p1;exact⟨y,j,o1.r.1,e1,e2,q _ _ F1 H1 [] p1 ⟨o1.g,⟨rfl,rfl⟩,.nil,λ_ m=>nomatch m⟩⟩
end
def amF(te:TE)(t:Str->TE):Str->TE:=λout σ H Q=>te σ H λv H1=>∃ i:Int,v=.int i/\i.natAbs.log2<1920/\(out++(toString i:Str)).length<=sizeLine/\t (out++(toString i:Str)) σ H1 Q
theorem t'P(he:PE X e te)(hr:PJ X es t):PJ X (.FormattedValue e (-1) none pos :: es) (amF te t):=λout pins s σ H Q I h=>
 joinParts_cons (rest:=evalEach es X.env) (FormattedValue_plain (thn (he pins s σ H _ I h) λv s1 ⟨x,H1,I1,r1,i,e1,hz,hq,q1⟩=>by
  subst e1;obtain⟨t',rfl⟩:=(show ∃ t,v=Value.int i t from r1);exact formatField_int_small hz ⟨hq,hr (out++(toString i:Str)) pins _ σ H1 Q (I1.tok _) q1⟩))
def pjI(pe:PE')(p:Str->PE'):Str->PE':=λout ρ Q=>pe ρ λt=>wI (some t) λi=>i.natAbs.log2<1920/\(out++(toString i:Str)).length<=1000000/\p (out++(toString i:Str)) ρ Q
theorem w'i{K:W.Frag}{k:Md}{te:TE}{pe:PE'}{t:Str->TE}{p:Str->PE'}(he:Sim K k te pe)(h:alm K k t p):alm K k (amF te t) (pjI pe p):=λout F B H σ ρ Q Q' c pp q=>by
 refine he F B H σ ρ _ _ c pp λt v F1 H1 c1 p1 o1=>?_
 obtain⟨i,e,p2⟩:=m'A p1;obtain⟨h1,h2,p3⟩:=p2;have e:=Option.some.inj e;subst e;exact⟨i,o1.r.1,h1,e'r h2,h _ F1 B H1 σ ρ Q Q' (c.gr o1.g) p3 λt v F2 H2 c2 qt o2=>q t v F2 H2 c2 qt ⟨o1.g.trans' o2.g,o2.r,o2.c,λp m=>o1.g.h.free (o2.n p m)⟩⟩
theorem w'j(he:QE X k e pe)(h:QJ X k es p):QJ X k (.FormattedValue e (-1) none pos :: es) (pjI pe p):=by
 obtain⟨t,h1,h2⟩:=h.h;obtain⟨te,g1,g2⟩:=he.h;exact⟨_,t'P g1 h1,w'i g2 h2⟩
def anD(x:Tr)(l h:Option Int)(Q:Tr->Prop):Prop:=match x with
 |.tup xs=>¬ (HT.sIx xs.length 0 l = 0 /\ HT.sIx xs.length xs.length h = xs.length) /\ ∃ ss:List Str,xs = ss.map Tr.str /\ Q (.tup (akK xs l h))
 |_=>False
def anE(pe:PE')(pl ph:PO'):PE':=λρ Q=>pe ρ λx=>pl ρ λl=>ph ρ λh=>anD x l h Q
theorem t'Q{K:W.Frag}{F:Hp}{B:Bool->Hp}:∀{ns:List Str}{vs:List V}{c:Cs},Rs K F B (ns.map Tr.str) vs c->vs=ns.map V.str/\c=[]:=λh=>g'M h
theorem t'R{K:W.Frag}{k:Md}{te:TE}{pe:PE'}{tl th:TO}{pl ph:PO'}(h:Sim K k te pe)(hl:alJ K k tl pl)(hh:alJ K k th ph):Sim K k (tSl (anX K) te tl th) (anE pe pl ph):=λF B H σ ρ Q Q' c p q=>by
 refine h F B H σ ρ _ _ c p λx v F1 H1 c1 p1 o1=>?_
 refine hl F1 B H1 σ ρ _ _ (c.gr o1.g) p1 λl F2 H2 p2 g2=>?_
 refine hh F2 B H2 σ ρ _ _ ((c.gr o1.g).gr g2) p2 λh F3 H3 p3 g3=>?_
 have g23:=g2.trans' g3;unfold anD at p3;split at p3
 ·obtain⟨hw,ss,rfl,p3⟩:=p3;have r3:=o1.r.mo g23.le (λk=>Le.refl (B k));obtain⟨a,vs,rfl,h1,h2⟩:=r3.tupH g23.s;obtain⟨rfl,_⟩:=t'Q h2;refine⟨a,_,rfl,h1,by simpa using hw,λp hp=>?_⟩;have e:alf (ss.map V.str) l h=((ss.drop (HT.sIx ss.length 0 l)).take (HT.sIx ss.length ss.length h - HT.sIx ss.length 0 l)).map V.str:=by
   unfold alf;simp
  have e':akK (ss.map Tr.str) l h=((ss.drop (HT.sIx ss.length 0 l)).take (HT.sIx ss.length ss.length h - HT.sIx ss.length 0 l)).map Tr.str:=by
   unfold akK;simp
  rw[e];rw[e'] at p3;obtain⟨F4,g4,r4,c4⟩:=g'y (K:=K) (B:=B) g23.s (e'V _) .nil hp;exact q _ _ F4 _ [] p3 ⟨(o1.g.trans' g23).trans' g4,r4,.nil,λ_ m=>nomatch m⟩
 ·exact p3.elim
theorem x'd{X:Cx}{k:Md}{e:Expr}{pe:PE'}{l h:Option Expr}{pl ph:PO'}{p2 pos:Pos}(he:QE X k e pe)(hl:QO X k l pl)(hh:QO X k h ph):QE X k (.Subscript e (.Slice l h none p2) pos) (anE pe pl ph):=by
 obtain⟨te,h1,h2⟩:=he.h;obtain⟨tf,g1,g2⟩:=hl.h;obtain⟨tg,f1,f2⟩:=hh.h;exact⟨_,i'm u'N h1 g1 f1,t'R h2 g2 f2⟩
theorem l'w:amE xs pe ρ Q=pe ρ λt=>wTx t λy=>∃ j:Nat,xs[j]?=some y/\(∀ m,m<j->xs[m]?≠some y)/\Q (.int (j:Int)):=rfl
theorem s'g(pe:PE')(p:Str->PE')(out:Str)(ρ:List Tr)(Q:Tr->Prop):pjI pe p out ρ Q=pe ρ λt=>wI (some t) λi=>i.natAbs.log2<1920/\(out++(toString i:Str)).length<=1000000/\p (out++(toString i:Str)) ρ Q:=rfl
theorem p'g:anE pe pl ph ρ Q=pe ρ λx=>pl ρ λl=>ph ρ λh=>anD x l h Q:=rfl
end Pu
namespace Pu
open PySem PySem.Spec PyProof.Rows
section
variable{p:List Value->Prop}
theorem ln1(h:∀ a,p [a]):∀ us:List Value,us.length=[x1].length->p us
 |[_],_=>h _
theorem ln2(h:∀ a b,p [a,b]):∀ us:List Value,us.length=[x1,x2].length->p us
 |[_,_],_=>h _ _
theorem ln3(h:∀ a b c,p [a,b,c]):∀ us:List Value,us.length=[x1,x2,x3].length->p us
 |[_,_,_],_=>h _ _ _
theorem ln5(h:∀ a b c d e,p [a,b,c,d,e]):∀ us:List Value,us.length=[x1,x2,x3,x4,x5].length->p us
 |[_,_,_,_,_],_=>h _ _ _ _ _
theorem ln6(h:∀ a b c d e f,p [a,b,c,d,e,f]):∀ us:List Value,us.length=[x1,x2,x3,x4,x5,x6].length->p us
 |[_,_,_,_,_,_],_=>h _ _ _ _ _ _
end
end Pu
namespace Sf
open PySem L2 Vc Pu
local macro_rules | `(tactic| walk_at "z") => `(tactic| first | exact id | exact fun _ => rfl)
local macro_rules | `(tactic| walk_at "c") => `(tactic| exact ⟨rfl, rfl, rfl, by decide +kernel, rfl, by decide +kernel, by decide +kernel⟩)
local macro_rules | `(tactic| walk_at "u") => `(tactic| with_unfolding_all exact rfl)
local macro_rules | `(tactic| walk_at "k") => `(tactic| decide +kernel)
def inClass(s:Stmt)(j:Nat):Stmt:=match s with
 |.ClassDef _ _ _ body _ _ _ _ _ _ _=>body.getD j (.Pass ⟨0,0,0,0⟩)
 |_=>.Pass ⟨0,0,0,0⟩
def top(i:Nat):Stmt:=PySem.Challenge.pw_springframe_k15_written_and_read.main.body.getD i (.Pass ⟨0,0,0,0⟩)
abbrev akT:Stmt:=top 8
abbrev ah4:Stmt:=top 9
abbrev ajq:Stmt:=top 16
abbrev aiG:Stmt:=top 17
abbrev aiH:Stmt:=top 18
abbrev ajK:Stmt:=top 41
abbrev ajR:Stmt:=top 43
abbrev ai9:Stmt:=top 44
abbrev ajr:Stmt:=top 55
abbrev aja:Stmt:=top 56
abbrev aiI:Stmt:=top 57
abbrev aiJ:Stmt:=top 59
abbrev ajb:Stmt:=top 60
abbrev aiU:Stmt:=top 61
abbrev aiV:Stmt:=top 62
abbrev ajs:Stmt:=top 63
abbrev ajt:Stmt:=top 64
abbrev aju:Stmt:=top 65
abbrev aiK:Stmt:=top 66
abbrev aiW:Stmt:=top 67
abbrev ajv:Stmt:=top 68
abbrev ajw:Stmt:=top 69
abbrev ajx:Stmt:=top 70
abbrev ajy:Stmt:=top 71
abbrev aiL:Stmt:=top 72
abbrev ajz:Stmt:=top 73
abbrev ajA:Stmt:=top 74
abbrev aiB:Stmt:=top 75
abbrev alU:Stmt:=top 76
abbrev aic:Stmt:=inClass (top 46) 0
abbrev aiX:Stmt:=inClass (top 45) 0
abbrev ajc:Stmt:=inClass (top 45) 1
abbrev aiM:Stmt:=inClass (top 46) 2
abbrev aip:Stmt:=inClass (top 47) 0
abbrev aiY:Stmt:=inClass (top 47) 1
abbrev ajd:Stmt:=inClass (top 47) 3
abbrev aih:Stmt:=inClass (top 48) 0
abbrev aiN:Stmt:=inClass (top 48) 1
abbrev aiZ:Stmt:=inClass (top 48) 3
abbrev aiq:Stmt:=inClass (top 49) 0
abbrev ai0:Stmt:=inClass (top 49) 1
abbrev aje:Stmt:=inClass (top 49) 3
abbrev aii:Stmt:=inClass (top 50) 0
abbrev aiO:Stmt:=inClass (top 50) 1
abbrev ai1:Stmt:=inClass (top 50) 3
abbrev air:Stmt:=inClass (top 28) 0
abbrev ajf:Stmt:=inClass (top 28) 5
abbrev ajg:Stmt:=inClass (top 29) 1
abbrev aiC:Stmt:=inClass (top 30) 1
abbrev aiP:Stmt:=inClass (top 31) 1
abbrev aid:Stmt:=inClass (top 54) 0
abbrev aiQ:Stmt:=inClass (top 54) 2
abbrev ais:Stmt:=inClass (top 54) 3
abbrev ah5:Stmt:=inClass (top 54) 6
abbrev ah6:Stmt:=inClass (top 54) 7
abbrev ah7:Stmt:=inClass (top 54) 8
abbrev ah1:Stmt:=inClass (top 54) 9
abbrev ah8:Stmt:=inClass (top 54) 10
abbrev ah9:Stmt:=inClass (top 54) 11
abbrev ahY:Stmt:=inClass (top 54) 12
abbrev ait:Stmt:=inClass (top 54) 5
abbrev aiD:Stmt:=inClass (top 54) 1
abbrev aiu:Stmt:=inClass (top 54) 4
theorem akg:ahN ["top","bottom","divisor"] ["top","bottom"] (ahM akT):=by walk_at "c"
theorem ahU:ahN ["one","other","remainder"] ["one","other"] (ahM ah4):=by walk_at "c"
theorem j'Y:ahN ["word","most"] ["word","most"] (ahM ajq):=by walk_at "c"
theorem ahZ:ahN ["word","pieces","figures","bottom","number"] ["word"] (ahM aiG):=by walk_at "c"
theorem aiE:ahN ["number","top","bottom"] ["number"] (ahM aiH):=by walk_at "c"
theorem m'C:ahN ["word"] ["word"] (ahM ajK):=by walk_at "c"
theorem p'h:ahN ["word"] ["word"] (ahM ajR):=by walk_at "c"
theorem ajC:ahN ["term","text"] ["term"] (ahM ai9):=by walk_at "c"
theorem ajh:ahN ["text","reader","term"] ["text"] (ahM ajr):=by walk_at "c"
theorem j'u:ahN ["text"] ["text"] (ahM aja):=by walk_at "c"
theorem ahR:ahN ["text","names","reader","near","verb","far","rank","weight"] ["text","names"] (ahM aiI):=by walk_at "c"
theorem g'O:ahN ["_law_script","_law_k"] ["_law_script","_law_k"] (ahM aiJ):=by walk_at "c"
theorem ajD:ahN ["_law_cell","_law_k","_law_number_here"] ["_law_cell","_law_k"] (ahM ajb):=by walk_at "c"
theorem aij:ahN ["_law_one","_law_other"] ["_law_one","_law_other"] (ahM aiU):=by walk_at "c"
theorem aik:ahN ["_law_cell","_law_top","_law_bottom","_law_shared_here"] ["_law_cell"] (ahM aiV):=by walk_at "c"
theorem aie:ahN ["_law_first","_law_k","_law_some","_law_word","_law_at","_law_place"] ["_law_first","_law_k"] (ahM ajs):=by walk_at "c"
theorem ajL:ahN ["_law_cell","_law_first","_law_words"] ["_law_cell","_law_first"] (ahM ajt):=by walk_at "c"
theorem aif:ahN ["_law_cells","_law_first","_law_held","_law_cell","_law_way","_law_other"] ["_law_cells","_law_first"] (ahM aju):=by walk_at "c"
theorem g'P:ahN ["_law_number_here"] ["_law_number_here"] (ahM aiK):=by walk_at "c"
theorem ajn:ahN ["_law_tree_here","_law_closing","_law_extra","_law_text_here"] ["_law_tree_here","_law_closing","_law_extra"] (ahM aiW):=by walk_at "c"
theorem ah2:ahN ["_law_tree_here","_law_extra","_law_one","_law_two","_law_joint"] ["_law_tree_here","_law_extra"] (ahM ajv):=by walk_at "c"
theorem f'i:ahN ["_law_tree_here"] ["_law_tree_here"] (ahM ajw):=by walk_at "c"
theorem f'j:ahN ["_law_term_here","_law_tree_here"] ["_law_term_here","_law_tree_here"] (ahM ajx):=by walk_at "c"
theorem j'Z:ahN ["_law_kind","_law_near","_law_far","_law_rank","_law_weight"] ["_law_kind","_law_near","_law_far","_law_rank","_law_weight"] (ahM ajy):=by walk_at "c"
theorem ai7:ahN ["_law_wish_here","_law_kind","_law_found"] ["_law_wish_here","_law_kind"] (ahM aiL):=by walk_at "c"
theorem aji:ahN ["_law_rank","_law_weight","_law_tail_here"] ["_law_rank","_law_weight"] (ahM ajz):=by walk_at "c"
theorem aiR:ahN ["_law_text_here","_law_kind","_law_trees","_law_rank","_law_weight","_law_own","_law_wish_here"] ["_law_text_here","_law_kind","_law_trees","_law_rank","_law_weight","_law_own"] (ahM ajA):=by walk_at "c"
theorem aia:ahN ["_law_text_here","_law_tree_here","_law_term_here"] ["_law_text_here","_law_tree_here"] (ahM aiB):=by walk_at "c"
theorem ai2:ahN ["_law_script","_law_first","_law_trees","_law_kind","_law_rank","_law_weight","_law_said","_law_own","_law_extra","_law_more"] ["_law_script"] (ahM alU):=by walk_at "c"
theorem e'w:ahN ["self","number"] ["self","number"] (ahM aic):=by walk_at "c"
theorem h'N:ahN ["self"] ["self"] (ahM aiX):=by walk_at "c"
theorem j'v:ahN ["self"] ["self"] (ahM ajc):=by walk_at "c"
theorem g'Q:ahN ["self"] ["self"] (ahM aiM):=by walk_at "c"
theorem f'A:ahN ["self","word","name"] ["self","word","name"] (ahM aip):=by walk_at "c"
theorem h'O:ahN ["self"] ["self"] (ahM aiY):=by walk_at "c"
theorem ai3:ahN ["self","word","name"] ["self"] (ahM ajd):=by walk_at "c"
theorem f'd:ahN ["self","number","inner"] ["self","number","inner"] (ahM aih):=by walk_at "c"
theorem d'o:ahN ["self"] ["self"] (ahM aiN):=by walk_at "c"
theorem ail:ahN ["self","number","inner"] ["self"] (ahM aiZ):=by walk_at "c"
theorem f'B:ahN ["self","one","other"] ["self","one","other"] (ahM aiq):=by walk_at "c"
theorem d'S:ahN ["self"] ["self"] (ahM ai0):=by walk_at "c"
theorem aiz:ahN ["self","one","other"] ["self"] (ahM aje):=by walk_at "c"
theorem f'e:ahN ["self","one","other"] ["self","one","other"] (ahM aii):=by walk_at "c"
theorem d'p:ahN ["self"] ["self"] (ahM aiO):=by walk_at "c"
theorem aim:ahN ["self","one","other"] ["self"] (ahM ai1):=by walk_at "c"
theorem f'C:ahN ["self","near","far","rank","weight"] ["self","near","far","rank","weight"] (ahM air):=by walk_at "c"
theorem ahX:ahN ["self","near","verb","far","said","rank","weight"] ["self"] (ahM ajf):=by walk_at "c"
theorem j'w:ahN ["self"] ["self"] (ahM ajg):=by walk_at "c"
theorem g'i:ahN ["self"] ["self"] (ahM aiC):=by walk_at "c"
theorem g'R:ahN ["self"] ["self"] (ahM aiP):=by walk_at "c"
theorem e'x:ahN ["self","text","names"] ["self","text","names"] (ahM aid):=by walk_at "c"
theorem ai8:ahN ["self","word"] ["self"] (ahM aiQ):=by walk_at "c"
theorem f'D:ahN ["self","word"] ["self","word"] (ahM ais):=by walk_at "c"
theorem ahQ:ahN ["self","word","inner","number"] ["self"] (ahM ah5):=by walk_at "c"
theorem aiv:ahN ["self","word","name"] ["self","word"] (ahM ah6):=by walk_at "c"
theorem aiw:ahN ["self","word"] ["self"] (ahM ah7):=by walk_at "c"
theorem ahS:ahN ["self","term"] ["self"] (ahM ah1):=by walk_at "c"
theorem ahV:ahN ["self","word","behind"] ["self"] (ahM ah8):=by walk_at "c"
theorem aix:ahN ["self","word"] ["self"] (ahM ah9):=by walk_at "c"
theorem aig:ahN ["self","word"] ["self"] (ahM ahY):=by walk_at "c"
theorem f'E:ahN ["self"] ["self"] (ahM ait):=by walk_at "c"
theorem g'j:ahN ["self"] ["self"] (ahM aiD):=by walk_at "c"
theorem f'F:ahN ["self"] ["self"] (ahM aiu):=by walk_at "c"
set_option genInjectivity false in
set_option genSizeOf false in
structure Tx(K:W.Frag)(mg:Str->Option Value) where
 aaa:Addr
 aab:FuncData
 aac:Fun K "part" "part" akT aaa aab
 aad:Binds K aab ["top","bottom"] []
 aae:mg "part"=some (.ref aaa)
 aaf:Addr
 aag:FuncData
 aah:Fun K "greatest_divisor" "greatest_divisor" ah4 aaf aag
 aai:Binds K aag ["one","other"] []
 aaj:mg "greatest_divisor"=some (.ref aaf)
 aak:Addr
 aal:FuncData
 aam:Fun K "is_whole" "is_whole" ajq aak aal
 aan:Binds K aal ["word","most"] []
 aao:mg "is_whole"=some (.ref aak)
 aap:Addr
 aaq:FuncData
 aar:Fun K "read_number" "read_number" aiG aap aaq
 aas:Binds K aaq ["word"] []
 aat:mg "read_number"=some (.ref aap)
 aau:Addr
 aav:FuncData
 aaw:Fun K "show_number" "show_number" aiH aau aav
 aax:Binds K aav ["number"] []
 aay:mg "show_number"=some (.ref aau)
 aaz:Addr
 aaA:FuncData
 aaB:Fun K "is_name" "is_name" ajK aaz aaA
 aaC:Binds K aaA ["word"] []
 aaD:mg "is_name"=some (.ref aaz)
 aaE:Addr
 aaF:FuncData
 aaG:Fun K "way_of" "way_of" ajR aaE aaF
 aaH:Binds K aaF ["word"] []
 aaI:mg "way_of"=some (.ref aaE)
 aaJ:Addr
 aaK:FuncData
 aaL:Fun K "bracketed" "bracketed" ai9 aaJ aaK
 aaM:Binds K aaK ["term"] []
 aaN:mg "bracketed"=some (.ref aaJ)
 aaO:Addr
 aaP:FuncData
 aaQ:Fun K "read_sum" "read_sum" ajr aaO aaP
 aaR:Binds K aaP ["text"] []
 aaS:mg "read_sum"=some (.ref aaO)
 aaT:Addr
 aaU:FuncData
 aaV:Fun K "read_wish" "read_wish" aja aaT aaU
 aaW:Binds K aaU ["text"] []
 aaX:mg "read_wish"=some (.ref aaT)
 aaY:Addr
 aaZ:FuncData
 aa0:Fun K "read_filled" "read_filled" aiI aaY aaZ
 aa1:Binds K aaZ ["text","names"] []
 aa2:mg "read_filled"=some (.ref aaY)
 aa3:Addr
 aa4:FuncData
 aa5:Fun K "_law_cell_at" "_law_cell_at" aiJ aa3 aa4
 aa6:Binds K aa4 ["_law_script","_law_k"] []
 aa7:mg "_law_cell_at"=some (.ref aa3)
 aa8:Addr
 aa9:FuncData
 aba:Fun K "_law_mixed" "_law_mixed" ajb aa8 aa9
 abb:Binds K aa9 ["_law_cell","_law_k"] []
 abc:mg "_law_mixed"=some (.ref aa8)
 abd:Addr
 abe:FuncData
 abf:Fun K "_law_shared" "_law_shared" aiU abd abe
 abg:Binds K abe ["_law_one","_law_other"] []
 abh:mg "_law_shared"=some (.ref abd)
 abi:Addr
 abj:FuncData
 abk:Fun K "_law_number" "_law_number" aiV abi abj
 abl:Binds K abj ["_law_cell"] []
 abm:mg "_law_number"=some (.ref abi)
 abn:Addr
 abo:FuncData
 abp:Fun K "_law_name" "_law_name" ajs abn abo
 abq:Binds K abo ["_law_first","_law_k"] []
 abr:mg "_law_name"=some (.ref abn)
 abt:Addr
 abu:FuncData
 abv:Fun K "_law_edge" "_law_edge" ajt abt abu
 abw:Binds K abu ["_law_cell","_law_first"] []
 abx:mg "_law_edge"=some (.ref abt)
 aby:Addr
 abz:FuncData
 abA:Fun K "_law_tree" "_law_tree" aju aby abz
 abB:Binds K abz ["_law_cells","_law_first"] []
 abC:mg "_law_tree"=some (.ref aby)
 abD:Addr
 abE:FuncData
 abF:Fun K "_law_figures" "_law_figures" aiK abD abE
 abG:Binds K abE ["_law_number_here"] []
 abH:mg "_law_figures"=some (.ref abD)
 abI:Addr
 abJ:FuncData
 abK:Fun K "_law_closed" "_law_closed" aiW abI abJ
 abL:Binds K abJ ["_law_tree_here","_law_closing","_law_extra"] []
 abM:mg "_law_closed"=some (.ref abI)
 abN:Addr
 abO:FuncData
 abP:Fun K "_law_text" "_law_text" ajv abN abO
 abQ:Binds K abO ["_law_tree_here","_law_extra"] []
 abR:mg "_law_text"=some (.ref abN)
 abS:Addr
 abT:FuncData
 abU:Fun K "_law_term" "_law_term" ajw abS abT
 abV:Binds K abT ["_law_tree_here"] []
 abW:mg "_law_term"=some (.ref abS)
 abX:Addr
 abY:FuncData
 abZ:Fun K "_law_same" "_law_same" ajx abX abY
 ab0:Binds K abY ["_law_term_here","_law_tree_here"] []
 ab1:mg "_law_same"=some (.ref abX)
 ab2:Addr
 ab3:FuncData
 ab4:Fun K "_law_wish" "_law_wish" ajy ab2 ab3
 ab5:Binds K ab3 ["_law_kind","_law_near","_law_far","_law_rank","_law_weight"] []
 ab6:mg "_law_wish"=some (.ref ab2)
 ab7:Addr
 ab8:FuncData
 ab9:Fun K "_law_is_kind" "_law_is_kind" aiL ab7 ab8
 aca:Binds K ab8 ["_law_wish_here","_law_kind"] []
 acb:mg "_law_is_kind"=some (.ref ab7)
 acd:Addr
 ace:FuncData
 acf:Fun K "_law_tail" "_law_tail" ajz acd ace
 acg:Binds K ace ["_law_rank","_law_weight"] []
 ach:mg "_law_tail"=some (.ref acd)
 aci:Addr
 acj:FuncData
 ack:Fun K "_law_read" "_law_read" ajA aci acj
 acl:Binds K acj ["_law_text_here","_law_kind","_law_trees","_law_rank","_law_weight","_law_own"] []
 acm:mg "_law_read"=some (.ref aci)
 acn:Addr
 aco:FuncData
 acp:Fun K "_law_sum_read" "_law_sum_read" aiB acn aco
 acq:Binds K aco ["_law_text_here","_law_tree_here"] []
 acs:mg "_law_sum_read"=some (.ref acn)
 act:Addr
 acu:FuncData
 acv:Fun K "law" "law" alU act acu
 acw:Binds K acu ["_law_script"] []
 acx:mg "law"=some (.ref act)
 acy:Addr
 acz:FuncData
 acA:Fun K "__init__" "Number.__init__" aic acy acz
 acB:Binds K acz ["self","number"] []
 acC:Addr
 acD:FuncData
 acE:Fun K "edges" "Term.edges" aiX acC acD
 acF:Binds K acD ["self"] []
 acG:Addr
 acH:FuncData
 acI:Fun K "ways" "Term.ways" ajc acG acH
 acJ:Binds K acH ["self"] []
 acK:Addr
 acL:FuncData
 acM:Fun K "text" "Number.text" aiM acK acL
 acN:Binds K acL ["self"] []
 acO:Addr
 acP:FuncData
 acQ:Fun K "__init__" "Edge.__init__" aip acO acP
 acR:Binds K acP ["self","word","name"] []
 acS:Addr
 acT:FuncData
 acU:Fun K "edges" "Edge.edges" aiY acS acT
 acV:Binds K acT ["self"] []
 acW:Addr
 acX:FuncData
 acY:Fun K "text" "Edge.text" ajd acW acX
 acZ:Binds K acX ["self"] []
 ac0:Addr
 ac1:FuncData
 ac2:Fun K "__init__" "Times.__init__" aih ac0 ac1
 ac3:Binds K ac1 ["self","number","inner"] []
 ac4:Addr
 ac5:FuncData
 ac6:Fun K "edges" "Times.edges" aiN ac4 ac5
 ac7:Binds K ac5 ["self"] []
 ac8:Addr
 ac9:FuncData
 ada:Fun K "text" "Times.text" aiZ ac8 ac9
 adb:Binds K ac9 ["self"] []
 adc:Addr
 add:FuncData
 ade:Fun K "__init__" "Plus.__init__" aiq adc add
 adf:Binds K add ["self","one","other"] []
 adg:Addr
 adh:FuncData
 adi:Fun K "edges" "Plus.edges" ai0 adg adh
 adj:Binds K adh ["self"] []
 adk:Addr
 adl:FuncData
 adm:Fun K "text" "Plus.text" aje adk adl
 adn:Binds K adl ["self"] []
 ado:Addr
 adp:FuncData
 adq:Fun K "__init__" "Minus.__init__" aii ado adp
 adr:Binds K adp ["self","one","other"] []
 ads:Addr
 adt:FuncData
 adu:Fun K "edges" "Minus.edges" aiO ads adt
 adw:Binds K adt ["self"] []
 adx:Addr
 ady:FuncData
 adz:Fun K "text" "Minus.text" ai1 adx ady
 adA:Binds K ady ["self"] []
 adB:Addr
 adC:FuncData
 adD:Fun K "__init__" "Wish.__init__" air adB adC
 adE:Binds K adC ["self","near","far","rank","weight"] []
 adF:Addr
 adG:FuncData
 adH:Fun K "text" "Wish.text" ajf adF adG
 adI:Binds K adG ["self"] []
 adJ:Addr
 adK:FuncData
 adL:Fun K "verb" "Just.verb" ajg adJ adK
 adM:Binds K adK ["self"] []
 adN:Addr
 adO:FuncData
 adP:Fun K "verb" "AtLeast.verb" aiC adN adO
 adQ:Binds K adO ["self"] []
 adR:Addr
 adS:FuncData
 adT:Fun K "verb" "AtMost.verb" aiP adR adS
 adU:Binds K adS ["self"] []
 adV:Addr
 adW:FuncData
 adX:Fun K "__init__" "Reader.__init__" aid adV adW
 adY:Binds K adW ["self","text","names"] []
 adZ:Addr
 ad0:FuncData
 ad1:Fun K "step" "Reader.step" aiQ adZ ad0
 ad2:Binds K ad0 ["self"] []
 ad3:Addr
 ad4:FuncData
 ad5:Fun K "expect" "Reader.expect" ais ad3 ad4
 ad6:Binds K ad4 ["self","word"] []
 ad7:Addr
 ad8:FuncData
 ad9:Fun K "read_term" "Reader.read_term" ah5 ad7 ad8
 aea:Binds K ad8 ["self"] []
 aeb:Addr
 aec:FuncData
 aed:Fun K "read_edge" "Reader.read_edge" ah6 aeb aec
 aee:Binds K aec ["self","word"] []
 aef:Addr
 aeg:FuncData
 aeh:Fun K "read_name" "Reader.read_name" ah7 aef aeg
 aei:Binds K aeg ["self"] []
 aej:Addr
 aek:FuncData
 ael:Fun K "read_terms" "Reader.read_terms" ah1 aej aek
 aem:Binds K aek ["self"] []
 aen:Addr
 aeo:FuncData
 aep:Fun K "read_verb" "Reader.read_verb" ah8 aen aeo
 aeq:Binds K aeo ["self"] []
 aer:Addr
 aes:FuncData
 aet:Fun K "read_rank" "Reader.read_rank" ah9 aer aes
 aeu:Binds K aes ["self"] []
 aev:Addr
 aew:FuncData
 aex:Fun K "read_weight" "Reader.read_weight" ahY aev aew
 aey:Binds K aew ["self"] []
 aez:Addr
 aeA:FuncData
 aeB:Fun K "finish" "Reader.finish" ait aez aeA
 aeC:Binds K aeA ["self"] []
 aeD:Addr
 aeE:FuncData
 aeF:Fun K "ahead" "Reader.ahead" aiD aeD aeE
 aeG:Binds K aeE ["self"] []
 aeH:Addr
 aeI:FuncData
 aeJ:Fun K "at_end" "Reader.at_end" aiu aeH aeI
 aeK:Binds K aeI ["self"] []
 aeL:Addr
 aeM:mg "NOUGHT"=some (.ref aeL)
 aeN:∃(o:Obj)(its:Array Value)(n:Nat),K.lookup aeL=some o/\o.cls=.type "tuple"/\o.data=.seq its n/\its.size<=sizeLine/\Vals (([0,1]:List Int).map V.int) its.toList
 aeO:Addr
 aeP:mg "MINUS_ONE"=some (.ref aeO)
 aeQ:∃(o:Obj)(its:Array Value)(n:Nat),K.lookup aeO=some o/\o.cls=.type "tuple"/\o.data=.seq its n/\its.size<=sizeLine/\Vals (([-1,1]:List Int).map V.int) its.toList
 aeR:Addr
 aeS:mg "ACROSS"=some (.ref aeR)
 aeT:∃(o:Obj)(its:Array Value)(n:Nat),K.lookup aeR=some o/\o.cls=.type "tuple"/\o.data=.seq its n/\its.size<=sizeLine/\Vals ((["left","width","right","middle","gap"]:List Str).map V.str) its.toList
 aeU:Addr
 aeV:mg "DOWN"=some (.ref aeU)
 aeW:∃(o:Obj)(its:Array Value)(n:Nat),K.lookup aeU=some o/\o.cls=.type "tuple"/\o.data=.seq its n/\its.size<=sizeLine/\Vals ((["top","height","bottom","centre","drop"]:List Str).map V.str) its.toList
 aeX:Addr
 aeY:mg "SPANS"=some (.ref aeX)
 aeZ:∃(o:Obj)(its:Array Value)(n:Nat),K.lookup aeX=some o/\o.cls=.type "tuple"/\o.data=.seq its n/\its.size<=sizeLine/\Vals ((["gap","drop"]:List Str).map V.str) its.toList
 ae0:Addr
 ae1:mg "STARTS"=some (.ref ae0)
 ae2:∃(o:Obj)(its:Array Value)(n:Nat),K.lookup ae0=some o/\o.cls=.type "tuple"/\o.data=.seq its n/\its.size<=sizeLine/\Vals ((["left","top"]:List Str).map V.str) its.toList
 ae3:Addr
 ae4:mg "RANKS"=some (.ref ae3)
 ae5:∃(o:Obj)(its:Array Value)(n:Nat),K.lookup ae3=some o/\o.cls=.type "tuple"/\o.data=.seq its n/\its.size<=sizeLine/\Vals ((["must","hand","strong","fair","faint"]:List Str).map V.str) its.toList
 ae6:∀ o:Obj,K.lookup ae3=some o->o.dict=none
 ae7:Tok
 ae8:mg "FRAME"=some (.str "frame" ae7)
 ae9:Tok
 afa:mg "FIGURES"=some (.str "0123456789" ae9)
 afb:Tok
 afc:mg "LETTERS"=some (.str "abcdefghijklmnopqrstuvwxyz" afb)
 afd:Tok
 afe:mg "MOST_FIGURES"=some (.int (6) afd)
 aff:Tok
 afg:mg "MOST_WORDS"=some (.int (60) aff)
 afh:Tok
 afi:mg "WEIGHT_FIGURES"=some (.int (7) afh)
 afj:Tok
 afk:mg "MOST_WEIGHT"=some (.int (1000000) afj)
 afl:Tok
 afm:mg "MOST_LETTERS"=some (.int (8) afl)
 afn:Addr
 afo:mg "NoWish"=some (.ref afn)
 afp:W.excIn K afn [.type "ValueError",.type "Exception",.type "BaseException",.type "object"] "ValueError.__new__"=true
 afq:Addr
 afr:mg "Mixed"=some (.ref afq)
 afs:W.excIn K afq [.type "ValueError",.type "Exception",.type "BaseException",.type "object"] "ValueError.__new__"=true
 aft:Addr
 afu:mg "NoPart"=some (.ref aft)
 afv:W.excIn K aft [.type "ValueError",.type "Exception",.type "BaseException",.type "object"] "ValueError.__new__"=true
 afw:aow K afn
 afx:W.exmOne K (.ref afn) (.ref afn)=some true
 afy:Addr
 afz:mg "Number"=some (.ref afy)
 afA:Cls K afy
 afB:NoAttr K afy "number"
 afC:Mk K afy acy
 afD:ai4 K afy "edges" acC
 afE:ai4 K afy "ways" acG
 afF:ai4 K afy "text" acK
 afG:Addr
 afH:mg "Edge"=some (.ref afG)
 afI:Cls K afG
 afJ:NoAttr K afG "word"
 afK:NoAttr K afG "name"
 afL:Mk K afG acO
 afM:ai4 K afG "edges" acS
 afN:ai4 K afG "ways" acG
 afO:ai4 K afG "text" acW
 afP:Addr
 afQ:mg "Times"=some (.ref afP)
 afR:Cls K afP
 afS:NoAttr K afP "number"
 afT:NoAttr K afP "inner"
 afU:Mk K afP ac0
 afV:ai4 K afP "edges" ac4
 afW:ai4 K afP "ways" acG
 afX:ai4 K afP "text" ac8
 afY:Addr
 afZ:mg "Plus"=some (.ref afY)
 af0:Cls K afY
 af1:NoAttr K afY "one"
 af2:NoAttr K afY "other"
 af3:Mk K afY adc
 af4:ai4 K afY "edges" adg
 af5:ai4 K afY "ways" acG
 af6:ai4 K afY "text" adk
 af7:Addr
 af8:mg "Minus"=some (.ref af7)
 af9:Cls K af7
 aga:NoAttr K af7 "one"
 agb:NoAttr K af7 "other"
 agc:Mk K af7 ado
 agd:ai4 K af7 "edges" ads
 age:ai4 K af7 "ways" acG
 agf:ai4 K af7 "text" adx
 agg:Addr
 agh:mg "Just"=some (.ref agg)
 agi:Cls K agg
 agj:NoAttr K agg "near"
 agk:NoAttr K agg "far"
 agl:NoAttr K agg "rank"
 agm:NoAttr K agg "weight"
 agn:Mk K agg adB
 ago:ai4 K agg "text" adF
 agp:ai4 K agg "verb" adJ
 agq:Addr
 agr:mg "AtLeast"=some (.ref agq)
 ags:Cls K agq
 agt:NoAttr K agq "near"
 agu:NoAttr K agq "far"
 agv:NoAttr K agq "rank"
 agw:NoAttr K agq "weight"
 agx:Mk K agq adB
 agy:ai4 K agq "text" adF
 agz:ai4 K agq "verb" adN
 agA:Addr
 agB:mg "AtMost"=some (.ref agA)
 agC:Cls K agA
 agD:NoAttr K agA "near"
 agE:NoAttr K agA "far"
 agF:NoAttr K agA "rank"
 agG:NoAttr K agA "weight"
 agH:Mk K agA adB
 agI:ai4 K agA "text" adF
 agJ:ai4 K agA "verb" adR
 agK:Addr
 agL:mg "Reader"=some (.ref agK)
 agM:Cls K agK
 agN:NoAttr K agK "words"
 agO:NoAttr K agK "names"
 agP:NoAttr K agK "place"
 agQ:Mk K agK adV
 agR:ai4 K agK "step" adZ
 agS:ai4 K agK "expect" ad3
 agT:ai4 K agK "read_term" ad7
 agU:ai4 K agK "read_edge" aeb
 agV:ai4 K agK "read_name" aef
 agW:ai4 K agK "read_terms" aej
 agX:ai4 K agK "read_verb" aen
 agY:ai4 K agK "read_rank" aer
 agZ:ai4 K agK "read_weight" aev
 ag0:ai4 K agK "finish" aez
 ag1:ai4 K agK "ahead" aeD
 ag2:ai4 K agK "at_end" aeH
 ag3:Addr
 ag4:mg "Term"=some (.ref ag3)
 ag5:Cls K ag3
 ag6:Addr
 ag7:mg "Wish"=some (.ref ag6)
 ag8:Cls K ag6
 ag9:akk K afy
 aha:akk K afG
 ahb:akk K afP
 ahc:akk K afY
 ahd:akk K af7
 ahe:akk K agg
 ahf:akk K agq
 ahg:akk K agA
 ahh:W.kitOne K (.ref afy) (.ref afy)=some true
 ahi:W.kitOne K (.ref afG) (.ref afG)=some true
 ahj:W.kitOne K (.ref afP) (.ref afP)=some true
 ahk:W.kitOne K (.ref afY) (.ref afY)=some true
 ahl:W.kitOne K (.ref af7) (.ref af7)=some true
 ahm:W.kitOne K (.ref agg) (.ref agg)=some true
 ahn:W.kitOne K (.ref agg) (.ref agq)=some false
 aho:W.kitOne K (.ref agg) (.ref agA)=some false
 ahp:W.kitOne K (.ref agq) (.ref agg)=some false
 ahq:W.kitOne K (.ref agq) (.ref agq)=some true
 ahr:W.kitOne K (.ref agq) (.ref agA)=some false
 ahs:W.kitOne K (.ref agA) (.ref agg)=some false
 aht:W.kitOne K (.ref agA) (.ref agq)=some false
 ahu:W.kitOne K (.ref agA) (.ref agA)=some true
 ahv:W.kitAny K (.ref afy) [.ref afY,.ref af7]=some false
 ahw:W.kitAny K (.ref afG) [.ref afY,.ref af7]=some false
 ahx:W.kitAny K (.ref afP) [.ref afY,.ref af7]=some false
 ahy:W.kitAny K (.ref afY) [.ref afY,.ref af7]=some true
 ahz:W.kitAny K (.ref af7) [.ref afY,.ref af7]=some true
 ahA:mg "abs"=none
 ahB:mg "len"=none
 ahC:mg "range"=none
 ahD:mg "isinstance"=none
 ahE:mg "tuple"=none
 ahF:mg "bool"=none
 ahG:mg "list"=none
 ahH:mg "set"=none
 ahI:mg "sorted"=none
 ahJ:mg "int"=none
 ahK:mg "all"=none
 ahL:mg "str"=none
theorem tx_mk{K:W.Frag}{h:Heap}{mg:Str->Option Value}(X:K.In h)(G:h.Ns mainGlobals mg)
 {x_Number x_Edge x_Times x_Plus x_Minus x_Just x_AtLeast x_AtMost x_Reader x_Term x_Wish f0 f1 f2 f3 f4 f5 f6 f7 f8 f9 f10 f11 f12 f13 f14 f15 f16 f17 f18 f19 f20 f21 f22 f23 f24 f25 f26 f27 f28 f29 f30 f31 f32 f33 f34 f35 f36 f37 f38 f39 f40 f41 f42 f43 f44 f45 f46 f47 f48 f49 f50 f51 f52 f53 f54 f55 f56 f57 f58 f59 f60 f61 f62 sg_ACROSS:Addr}{sgd_ACROSS:Option Addr}{sgs_ACROSS:Array (Option Value)}{sgn_ACROSS:Nat}{st_ACROSS_0 st_ACROSS_1 st_ACROSS_2 st_ACROSS_3 st_ACROSS_4:Tok}{sg_DOWN:Addr}{sgd_DOWN:Option Addr}{sgs_DOWN:Array (Option Value)}{sgn_DOWN:Nat}{st_DOWN_0 st_DOWN_1 st_DOWN_2 st_DOWN_3 st_DOWN_4:Tok}{sg_SPANS:Addr}{sgd_SPANS:Option Addr}{sgs_SPANS:Array (Option Value)}{sgn_SPANS:Nat}{st_SPANS_0 st_SPANS_1:Tok}{sg_STARTS:Addr}{sgd_STARTS:Option Addr}{sgs_STARTS:Array (Option Value)}{sgn_STARTS:Nat}{st_STARTS_0 st_STARTS_1:Tok}{sg_RANKS:Addr}{sgs_RANKS:Array (Option Value)}{sgn_RANKS:Nat}{st_RANKS_0 st_RANKS_1 st_RANKS_2 st_RANKS_3 st_RANKS_4:Tok}{g0:Addr}{gd0:Option Addr}{gs0:Array (Option Value)}{gn0:Nat}{t0_0 t0_1:Tok}{g1:Addr}{gd1:Option Addr}{gs1:Array (Option Value)}{gn1:Nat}{t1_0 t1_1:Tok}{yk_FRAME:Tok}{yk_FIGURES:Tok}{yk_LETTERS:Tok}{yk_MOST_FIGURES:Tok}{yk_MOST_WORDS:Tok}{yk_WEIGHT_FIGURES:Tok}{yk_MOST_WEIGHT:Tok}{yk_MOST_LETTERS:Tok}
 {x_NoWish x_Mixed x_NoPart:Addr}(wn_Number:W.nsIn K mainGlobals "Number"=some (some (.ref x_Number)))(wa_Number:W.plainGet K x_Number Str.empty=true)(wb_Number:W.hasDictIn K x_Number=true)(wc_Number:W.plainOver K x_Number=true)(wd_Number:W.findIn K (.ref x_Number) "__setattr__"=some (some (.builtin "object.__setattr__")))(wf_Number_number:W.findIn K (.ref x_Number) "number"=some none)(wn_Edge:W.nsIn K mainGlobals "Edge"=some (some (.ref x_Edge)))(wa_Edge:W.plainGet K x_Edge Str.empty=true)(wb_Edge:W.hasDictIn K x_Edge=true)(wc_Edge:W.plainOver K x_Edge=true)(wd_Edge:W.findIn K (.ref x_Edge) "__setattr__"=some (some (.builtin "object.__setattr__")))(wf_Edge_word:W.findIn K (.ref x_Edge) "word"=some none)(wf_Edge_name:W.findIn K (.ref x_Edge) "name"=some none)(wn_Times:W.nsIn K mainGlobals "Times"=some (some (.ref x_Times)))(wa_Times:W.plainGet K x_Times Str.empty=true)(wb_Times:W.hasDictIn K x_Times=true)(wc_Times:W.plainOver K x_Times=true)(wd_Times:W.findIn K (.ref x_Times) "__setattr__"=some (some (.builtin "object.__setattr__")))(wf_Times_number:W.findIn K (.ref x_Times) "number"=some none)(wf_Times_inner:W.findIn K (.ref x_Times) "inner"=some none)(wn_Plus:W.nsIn K mainGlobals "Plus"=some (some (.ref x_Plus)))(wa_Plus:W.plainGet K x_Plus Str.empty=true)(wb_Plus:W.hasDictIn K x_Plus=true)(wc_Plus:W.plainOver K x_Plus=true)(wd_Plus:W.findIn K (.ref x_Plus) "__setattr__"=some (some (.builtin "object.__setattr__")))(wf_Plus_one:W.findIn K (.ref x_Plus) "one"=some none)(wf_Plus_other:W.findIn K (.ref x_Plus) "other"=some none)(wn_Minus:W.nsIn K mainGlobals "Minus"=some (some (.ref x_Minus)))(wa_Minus:W.plainGet K x_Minus Str.empty=true)(wb_Minus:W.hasDictIn K x_Minus=true)(wc_Minus:W.plainOver K x_Minus=true)(wd_Minus:W.findIn K (.ref x_Minus) "__setattr__"=some (some (.builtin "object.__setattr__")))(wf_Minus_one:W.findIn K (.ref x_Minus) "one"=some none)(wf_Minus_other:W.findIn K (.ref x_Minus) "other"=some none)(wn_Just:W.nsIn K mainGlobals "Just"=some (some (.ref x_Just)))(wa_Just:W.plainGet K x_Just Str.empty=true)(wb_Just:W.hasDictIn K x_Just=true)(wc_Just:W.plainOver K x_Just=true)(wd_Just:W.findIn K (.ref x_Just) "__setattr__"=some (some (.builtin "object.__setattr__")))(wf_Just_near:W.findIn K (.ref x_Just) "near"=some none)(wf_Just_far:W.findIn K (.ref x_Just) "far"=some none)(wf_Just_rank:W.findIn K (.ref x_Just) "rank"=some none)(wf_Just_weight:W.findIn K (.ref x_Just) "weight"=some none)(wn_AtLeast:W.nsIn K mainGlobals "AtLeast"=some (some (.ref x_AtLeast)))(wa_AtLeast:W.plainGet K x_AtLeast Str.empty=true)(wb_AtLeast:W.hasDictIn K x_AtLeast=true)(wc_AtLeast:W.plainOver K x_AtLeast=true)(wd_AtLeast:W.findIn K (.ref x_AtLeast) "__setattr__"=some (some (.builtin "object.__setattr__")))(wf_AtLeast_near:W.findIn K (.ref x_AtLeast) "near"=some none)(wf_AtLeast_far:W.findIn K (.ref x_AtLeast) "far"=some none)(wf_AtLeast_rank:W.findIn K (.ref x_AtLeast) "rank"=some none)(wf_AtLeast_weight:W.findIn K (.ref x_AtLeast) "weight"=some none)(wn_AtMost:W.nsIn K mainGlobals "AtMost"=some (some (.ref x_AtMost)))(wa_AtMost:W.plainGet K x_AtMost Str.empty=true)(wb_AtMost:W.hasDictIn K x_AtMost=true)(wc_AtMost:W.plainOver K x_AtMost=true)(wd_AtMost:W.findIn K (.ref x_AtMost) "__setattr__"=some (some (.builtin "object.__setattr__")))(wf_AtMost_near:W.findIn K (.ref x_AtMost) "near"=some none)(wf_AtMost_far:W.findIn K (.ref x_AtMost) "far"=some none)(wf_AtMost_rank:W.findIn K (.ref x_AtMost) "rank"=some none)(wf_AtMost_weight:W.findIn K (.ref x_AtMost) "weight"=some none)(wn_Reader:W.nsIn K mainGlobals "Reader"=some (some (.ref x_Reader)))(wa_Reader:W.plainGet K x_Reader Str.empty=true)(wb_Reader:W.hasDictIn K x_Reader=true)(wc_Reader:W.plainOver K x_Reader=true)(wd_Reader:W.findIn K (.ref x_Reader) "__setattr__"=some (some (.builtin "object.__setattr__")))(wf_Reader_words:W.findIn K (.ref x_Reader) "words"=some none)(wf_Reader_names:W.findIn K (.ref x_Reader) "names"=some none)(wf_Reader_place:W.findIn K (.ref x_Reader) "place"=some none)(wn_Term:W.nsIn K mainGlobals "Term"=some (some (.ref x_Term)))(wa_Term:W.plainGet K x_Term Str.empty=true)(wb_Term:W.hasDictIn K x_Term=true)(wc_Term:W.plainOver K x_Term=true)(wd_Term:W.findIn K (.ref x_Term) "__setattr__"=some (some (.builtin "object.__setattr__")))(wn_Wish:W.nsIn K mainGlobals "Wish"=some (some (.ref x_Wish)))(wa_Wish:W.plainGet K x_Wish Str.empty=true)(wb_Wish:W.hasDictIn K x_Wish=true)(wc_Wish:W.plainOver K x_Wish=true)(wd_Wish:W.findIn K (.ref x_Wish) "__setattr__"=some (some (.builtin "object.__setattr__")))(wg_Number:W.findIn K (.ref x_Number) "__class__"=some (some (.builtin "object.__class__")))(wh_Number:W.mroIn K x_Number (.type "object")=some true)(wi_0:W.specialIn K (.builtin "object.__class__") "__get__"=some (some (.builtin "getset_descriptor.__get__")))(wj_0:W.takesIn K (.builtin "object.__class__")=some true)(wg_Edge:W.findIn K (.ref x_Edge) "__class__"=some (some (.builtin "object.__class__")))(wh_Edge:W.mroIn K x_Edge (.type "object")=some true)(wg_Times:W.findIn K (.ref x_Times) "__class__"=some (some (.builtin "object.__class__")))(wh_Times:W.mroIn K x_Times (.type "object")=some true)(wg_Plus:W.findIn K (.ref x_Plus) "__class__"=some (some (.builtin "object.__class__")))(wh_Plus:W.mroIn K x_Plus (.type "object")=some true)(wg_Minus:W.findIn K (.ref x_Minus) "__class__"=some (some (.builtin "object.__class__")))(wh_Minus:W.mroIn K x_Minus (.type "object")=some true)(wg_Just:W.findIn K (.ref x_Just) "__class__"=some (some (.builtin "object.__class__")))(wh_Just:W.mroIn K x_Just (.type "object")=some true)(wg_AtLeast:W.findIn K (.ref x_AtLeast) "__class__"=some (some (.builtin "object.__class__")))(wh_AtLeast:W.mroIn K x_AtLeast (.type "object")=some true)(wg_AtMost:W.findIn K (.ref x_AtMost) "__class__"=some (some (.builtin "object.__class__")))(wh_AtMost:W.mroIn K x_AtMost (.type "object")=some true)(wkc_Number_Number:W.kitOne K (.ref x_Number) (.ref x_Number)=some true)(wkc_Edge_Edge:W.kitOne K (.ref x_Edge) (.ref x_Edge)=some true)(wkc_Times_Times:W.kitOne K (.ref x_Times) (.ref x_Times)=some true)(wkc_Plus_Plus:W.kitOne K (.ref x_Plus) (.ref x_Plus)=some true)(wkc_Minus_Minus:W.kitOne K (.ref x_Minus) (.ref x_Minus)=some true)(wkc_Just_Just:W.kitOne K (.ref x_Just) (.ref x_Just)=some true)(wkc_Just_AtLeast:W.kitOne K (.ref x_Just) (.ref x_AtLeast)=some false)(wkc_Just_AtMost:W.kitOne K (.ref x_Just) (.ref x_AtMost)=some false)(wkc_AtLeast_Just:W.kitOne K (.ref x_AtLeast) (.ref x_Just)=some false)(wkc_AtLeast_AtLeast:W.kitOne K (.ref x_AtLeast) (.ref x_AtLeast)=some true)(wkc_AtLeast_AtMost:W.kitOne K (.ref x_AtLeast) (.ref x_AtMost)=some false)(wkc_AtMost_Just:W.kitOne K (.ref x_AtMost) (.ref x_Just)=some false)(wkc_AtMost_AtLeast:W.kitOne K (.ref x_AtMost) (.ref x_AtLeast)=some false)(wkc_AtMost_AtMost:W.kitOne K (.ref x_AtMost) (.ref x_AtMost)=some true)(wkt_Number_Plus_Minus:W.kitAny K (.ref x_Number) [.ref x_Plus,.ref x_Minus]=some false)(wkt_Edge_Plus_Minus:W.kitAny K (.ref x_Edge) [.ref x_Plus,.ref x_Minus]=some false)(wkt_Times_Plus_Minus:W.kitAny K (.ref x_Times) [.ref x_Plus,.ref x_Minus]=some false)(wkt_Plus_Plus_Minus:W.kitAny K (.ref x_Plus) [.ref x_Plus,.ref x_Minus]=some true)(wkt_Minus_Plus_Minus:W.kitAny K (.ref x_Minus) [.ref x_Plus,.ref x_Minus]=some true)(e0:W.nsIn K mainGlobals "part"=some (some (.ref f0)))(F0:ah0 K "part" "part" akT f0)(e1:W.nsIn K mainGlobals "greatest_divisor"=some (some (.ref f1)))(F1:ah0 K "greatest_divisor" "greatest_divisor" ah4 f1)(e2:W.nsIn K mainGlobals "is_whole"=some (some (.ref f2)))(F2:ah0 K "is_whole" "is_whole" ajq f2)(e3:W.nsIn K mainGlobals "read_number"=some (some (.ref f3)))(F3:ah0 K "read_number" "read_number" aiG f3)(e4:W.nsIn K mainGlobals "show_number"=some (some (.ref f4)))(F4:ah0 K "show_number" "show_number" aiH f4)(e5:W.nsIn K mainGlobals "is_name"=some (some (.ref f5)))(F5:ah0 K "is_name" "is_name" ajK f5)(e6:W.nsIn K mainGlobals "way_of"=some (some (.ref f6)))(F6:ah0 K "way_of" "way_of" ajR f6)(e7:W.nsIn K mainGlobals "bracketed"=some (some (.ref f7)))(F7:ah0 K "bracketed" "bracketed" ai9 f7)(e8:W.nsIn K mainGlobals "read_sum"=some (some (.ref f8)))(F8:ah0 K "read_sum" "read_sum" ajr f8)(e9:W.nsIn K mainGlobals "read_wish"=some (some (.ref f9)))(F9:ah0 K "read_wish" "read_wish" aja f9)(e10:W.nsIn K mainGlobals "read_filled"=some (some (.ref f10)))(F10:ah0 K "read_filled" "read_filled" aiI f10)(e11:W.nsIn K mainGlobals "_law_cell_at"=some (some (.ref f11)))(F11:ah0 K "_law_cell_at" "_law_cell_at" aiJ f11)(e12:W.nsIn K mainGlobals "_law_mixed"=some (some (.ref f12)))(F12:ah0 K "_law_mixed" "_law_mixed" ajb f12)(e13:W.nsIn K mainGlobals "_law_shared"=some (some (.ref f13)))(F13:ah0 K "_law_shared" "_law_shared" aiU f13)(e14:W.nsIn K mainGlobals "_law_number"=some (some (.ref f14)))(F14:ah0 K "_law_number" "_law_number" aiV f14)(e15:W.nsIn K mainGlobals "_law_name"=some (some (.ref f15)))(F15:ah0 K "_law_name" "_law_name" ajs f15)(e16:W.nsIn K mainGlobals "_law_edge"=some (some (.ref f16)))(F16:ah0 K "_law_edge" "_law_edge" ajt f16)(e17:W.nsIn K mainGlobals "_law_tree"=some (some (.ref f17)))(F17:ah0 K "_law_tree" "_law_tree" aju f17)(e18:W.nsIn K mainGlobals "_law_figures"=some (some (.ref f18)))(F18:ah0 K "_law_figures" "_law_figures" aiK f18)(e19:W.nsIn K mainGlobals "_law_closed"=some (some (.ref f19)))(F19:ah0 K "_law_closed" "_law_closed" aiW f19)(e20:W.nsIn K mainGlobals "_law_text"=some (some (.ref f20)))(F20:ah0 K "_law_text" "_law_text" ajv f20)(e21:W.nsIn K mainGlobals "_law_term"=some (some (.ref f21)))(F21:ah0 K "_law_term" "_law_term" ajw f21)(e22:W.nsIn K mainGlobals "_law_same"=some (some (.ref f22)))(F22:ah0 K "_law_same" "_law_same" ajx f22)(e23:W.nsIn K mainGlobals "_law_wish"=some (some (.ref f23)))(F23:ah0 K "_law_wish" "_law_wish" ajy f23)(e24:W.nsIn K mainGlobals "_law_is_kind"=some (some (.ref f24)))(F24:ah0 K "_law_is_kind" "_law_is_kind" aiL f24)(e25:W.nsIn K mainGlobals "_law_tail"=some (some (.ref f25)))(F25:ah0 K "_law_tail" "_law_tail" ajz f25)(e26:W.nsIn K mainGlobals "_law_read"=some (some (.ref f26)))(F26:ah0 K "_law_read" "_law_read" ajA f26)(e27:W.nsIn K mainGlobals "_law_sum_read"=some (some (.ref f27)))(F27:ah0 K "_law_sum_read" "_law_sum_read" aiB f27)(e28:W.nsIn K mainGlobals "law"=some (some (.ref f28)))(F28:ah0 K "law" "law" alU f28)(we_Number___init__:W.findIn K (.ref x_Number) "__init__"=some (some (.ref f29)))(F29:ah0 K "__init__" "Number.__init__" aic f29)(we_Number_edges:W.findIn K (.ref x_Number) "edges"=some (some (.ref f30)))(F30:ah0 K "edges" "Term.edges" aiX f30)(we_Number_ways:W.findIn K (.ref x_Number) "ways"=some (some (.ref f31)))(F31:ah0 K "ways" "Term.ways" ajc f31)(we_Number_text:W.findIn K (.ref x_Number) "text"=some (some (.ref f32)))(F32:ah0 K "text" "Number.text" aiM f32)(we_Edge___init__:W.findIn K (.ref x_Edge) "__init__"=some (some (.ref f33)))(F33:ah0 K "__init__" "Edge.__init__" aip f33)(we_Edge_edges:W.findIn K (.ref x_Edge) "edges"=some (some (.ref f34)))(F34:ah0 K "edges" "Edge.edges" aiY f34)(we_Edge_text:W.findIn K (.ref x_Edge) "text"=some (some (.ref f35)))(F35:ah0 K "text" "Edge.text" ajd f35)(we_Times___init__:W.findIn K (.ref x_Times) "__init__"=some (some (.ref f36)))(F36:ah0 K "__init__" "Times.__init__" aih f36)(we_Times_edges:W.findIn K (.ref x_Times) "edges"=some (some (.ref f37)))(F37:ah0 K "edges" "Times.edges" aiN f37)(we_Times_text:W.findIn K (.ref x_Times) "text"=some (some (.ref f38)))(F38:ah0 K "text" "Times.text" aiZ f38)(we_Plus___init__:W.findIn K (.ref x_Plus) "__init__"=some (some (.ref f39)))(F39:ah0 K "__init__" "Plus.__init__" aiq f39)(we_Plus_edges:W.findIn K (.ref x_Plus) "edges"=some (some (.ref f40)))(F40:ah0 K "edges" "Plus.edges" ai0 f40)(we_Plus_text:W.findIn K (.ref x_Plus) "text"=some (some (.ref f41)))(F41:ah0 K "text" "Plus.text" aje f41)(we_Minus___init__:W.findIn K (.ref x_Minus) "__init__"=some (some (.ref f42)))(F42:ah0 K "__init__" "Minus.__init__" aii f42)(we_Minus_edges:W.findIn K (.ref x_Minus) "edges"=some (some (.ref f43)))(F43:ah0 K "edges" "Minus.edges" aiO f43)(we_Minus_text:W.findIn K (.ref x_Minus) "text"=some (some (.ref f44)))(F44:ah0 K "text" "Minus.text" ai1 f44)(we_Just___init__:W.findIn K (.ref x_Just) "__init__"=some (some (.ref f45)))(F45:ah0 K "__init__" "Wish.__init__" air f45)(we_Just_text:W.findIn K (.ref x_Just) "text"=some (some (.ref f46)))(F46:ah0 K "text" "Wish.text" ajf f46)(we_Just_verb:W.findIn K (.ref x_Just) "verb"=some (some (.ref f47)))(F47:ah0 K "verb" "Just.verb" ajg f47)(we_AtLeast_verb:W.findIn K (.ref x_AtLeast) "verb"=some (some (.ref f48)))(F48:ah0 K "verb" "AtLeast.verb" aiC f48)(we_AtMost_verb:W.findIn K (.ref x_AtMost) "verb"=some (some (.ref f49)))(F49:ah0 K "verb" "AtMost.verb" aiP f49)(we_Reader___init__:W.findIn K (.ref x_Reader) "__init__"=some (some (.ref f50)))(F50:ah0 K "__init__" "Reader.__init__" aid f50)(we_Reader_step:W.findIn K (.ref x_Reader) "step"=some (some (.ref f51)))(F51:ah0 K "step" "Reader.step" aiQ f51)(we_Reader_expect:W.findIn K (.ref x_Reader) "expect"=some (some (.ref f52)))(F52:ah0 K "expect" "Reader.expect" ais f52)(we_Reader_read_term:W.findIn K (.ref x_Reader) "read_term"=some (some (.ref f53)))(F53:ah0 K "read_term" "Reader.read_term" ah5 f53)(we_Reader_read_edge:W.findIn K (.ref x_Reader) "read_edge"=some (some (.ref f54)))(F54:ah0 K "read_edge" "Reader.read_edge" ah6 f54)(we_Reader_read_name:W.findIn K (.ref x_Reader) "read_name"=some (some (.ref f55)))(F55:ah0 K "read_name" "Reader.read_name" ah7 f55)(we_Reader_read_terms:W.findIn K (.ref x_Reader) "read_terms"=some (some (.ref f56)))(F56:ah0 K "read_terms" "Reader.read_terms" ah1 f56)(we_Reader_read_verb:W.findIn K (.ref x_Reader) "read_verb"=some (some (.ref f57)))(F57:ah0 K "read_verb" "Reader.read_verb" ah8 f57)(we_Reader_read_rank:W.findIn K (.ref x_Reader) "read_rank"=some (some (.ref f58)))(F58:ah0 K "read_rank" "Reader.read_rank" ah9 f58)(we_Reader_read_weight:W.findIn K (.ref x_Reader) "read_weight"=some (some (.ref f59)))(F59:ah0 K "read_weight" "Reader.read_weight" ahY f59)(we_Reader_finish:W.findIn K (.ref x_Reader) "finish"=some (some (.ref f60)))(F60:ah0 K "finish" "Reader.finish" ait f60)(we_Reader_ahead:W.findIn K (.ref x_Reader) "ahead"=some (some (.ref f61)))(F61:ah0 K "ahead" "Reader.ahead" aiD f61)(we_Reader_at_end:W.findIn K (.ref x_Reader) "at_end"=some (some (.ref f62)))(F62:ah0 K "at_end" "Reader.at_end" aiu f62)(sn_ACROSS:W.nsIn K mainGlobals "ACROSS"=some (some (.ref sg_ACROSS)))(so_ACROSS:K.lookup sg_ACROSS=some ⟨.type "tuple",sgd_ACROSS,.seq #[Value.str "left" st_ACROSS_0,Value.str "width" st_ACROSS_1,Value.str "right" st_ACROSS_2,Value.str "middle" st_ACROSS_3,Value.str "gap" st_ACROSS_4] sgn_ACROSS,sgs_ACROSS⟩)(sn_DOWN:W.nsIn K mainGlobals "DOWN"=some (some (.ref sg_DOWN)))(so_DOWN:K.lookup sg_DOWN=some ⟨.type "tuple",sgd_DOWN,.seq #[Value.str "top" st_DOWN_0,Value.str "height" st_DOWN_1,Value.str "bottom" st_DOWN_2,Value.str "centre" st_DOWN_3,Value.str "drop" st_DOWN_4] sgn_DOWN,sgs_DOWN⟩)(sn_SPANS:W.nsIn K mainGlobals "SPANS"=some (some (.ref sg_SPANS)))(so_SPANS:K.lookup sg_SPANS=some ⟨.type "tuple",sgd_SPANS,.seq #[Value.str "gap" st_SPANS_0,Value.str "drop" st_SPANS_1] sgn_SPANS,sgs_SPANS⟩)(sn_STARTS:W.nsIn K mainGlobals "STARTS"=some (some (.ref sg_STARTS)))(so_STARTS:K.lookup sg_STARTS=some ⟨.type "tuple",sgd_STARTS,.seq #[Value.str "left" st_STARTS_0,Value.str "top" st_STARTS_1] sgn_STARTS,sgs_STARTS⟩)(sn_RANKS:W.nsIn K mainGlobals "RANKS"=some (some (.ref sg_RANKS)))(so_RANKS:K.lookup sg_RANKS=some ⟨.type "tuple",none,.seq #[Value.str "must" st_RANKS_0,Value.str "hand" st_RANKS_1,Value.str "strong" st_RANKS_2,Value.str "fair" st_RANKS_3,Value.str "faint" st_RANKS_4] sgn_RANKS,sgs_RANKS⟩)(n0:W.nsIn K mainGlobals "NOUGHT"=some (some (.ref g0)))(o0:K.lookup g0=some ⟨.type "tuple",gd0,.seq #[Value.int (0) t0_0,Value.int (1) t0_1] gn0,gs0⟩)(n1:W.nsIn K mainGlobals "MINUS_ONE"=some (some (.ref g1)))(o1:K.lookup g1=some ⟨.type "tuple",gd1,.seq #[Value.int (-1) t1_0,Value.int (1) t1_1] gn1,gs1⟩)(yi_FRAME:W.nsIn K mainGlobals "FRAME"=some (some (.str "frame" yk_FRAME)))(yi_FIGURES:W.nsIn K mainGlobals "FIGURES"=some (some (.str "0123456789" yk_FIGURES)))(yi_LETTERS:W.nsIn K mainGlobals "LETTERS"=some (some (.str "abcdefghijklmnopqrstuvwxyz" yk_LETTERS)))(yi_MOST_FIGURES:W.nsIn K mainGlobals "MOST_FIGURES"=some (some (.int (6) yk_MOST_FIGURES)))(yi_MOST_WORDS:W.nsIn K mainGlobals "MOST_WORDS"=some (some (.int (60) yk_MOST_WORDS)))(yi_WEIGHT_FIGURES:W.nsIn K mainGlobals "WEIGHT_FIGURES"=some (some (.int (7) yk_WEIGHT_FIGURES)))(yi_MOST_WEIGHT:W.nsIn K mainGlobals "MOST_WEIGHT"=some (some (.int (1000000) yk_MOST_WEIGHT)))(yi_MOST_LETTERS:W.nsIn K mainGlobals "MOST_LETTERS"=some (some (.int (8) yk_MOST_LETTERS)))(xn_NoWish:W.nsIn K mainGlobals "NoWish"=some (some (.ref x_NoWish)))(xq_NoWish:W.excIn K x_NoWish [.type "ValueError",.type "Exception",.type "BaseException",.type "object"] "ValueError.__new__"=true)(xn_Mixed:W.nsIn K mainGlobals "Mixed"=some (some (.ref x_Mixed)))(xq_Mixed:W.excIn K x_Mixed [.type "ValueError",.type "Exception",.type "BaseException",.type "object"] "ValueError.__new__"=true)(xn_NoPart:W.nsIn K mainGlobals "NoPart"=some (some (.ref x_NoPart)))(xq_NoPart:W.excIn K x_NoPart [.type "ValueError",.type "Exception",.type "BaseException",.type "object"] "ValueError.__new__"=true)(yfg_NoWish:W.findIn K (.ref x_NoWish) "__getattribute__"=some (some (.builtin "BaseException.__getattribute__")))(yfn_NoWish:W.findIn K (.ref x_NoWish) "__getattr__"=some none)(yfc_NoWish:W.findIn K (.ref x_NoWish) "__class__"=some (some (.builtin "object.__class__")))(ymo_NoWish:W.mroIn K x_NoWish (.type "object")=some true)(ysb_NoWish:W.subIn K (.ref x_NoWish) (.type "BaseException")=some true)(xm_NoWish_NoWish:W.exmOne K (.ref x_NoWish) (.ref x_NoWish)=some true)(z0:W.nsIn K mainGlobals "abs"=some none)(z1:W.nsIn K mainGlobals "len"=some none)(z2:W.nsIn K mainGlobals "range"=some none)(z3:W.nsIn K mainGlobals "isinstance"=some none)(z4:W.nsIn K mainGlobals "tuple"=some none)(z5:W.nsIn K mainGlobals "bool"=some none)(z6:W.nsIn K mainGlobals "list"=some none)(z7:W.nsIn K mainGlobals "set"=some none)(z8:W.nsIn K mainGlobals "sorted"=some none)(z9:W.nsIn K mainGlobals "int"=some none)(z10:W.nsIn K mainGlobals "all"=some none)(z11:W.nsIn K mainGlobals "str"=some none)(ws_29:W.isFn K (.ref f29)=true)(wm_Number:W.makesIn K x_Number=true)(wk_Number:W.keepIn K (.ref x_Number)=true)(ws_30:W.isFn K (.ref f30)=true)(ws_31:W.isFn K (.ref f31)=true)(ws_32:W.isFn K (.ref f32)=true)(ws_33:W.isFn K (.ref f33)=true)(wm_Edge:W.makesIn K x_Edge=true)(wk_Edge:W.keepIn K (.ref x_Edge)=true)(ws_34:W.isFn K (.ref f34)=true)(we_Edge_ways:W.findIn K (.ref x_Edge) "ways"=some (some (.ref f31)))(ws_35:W.isFn K (.ref f35)=true)(ws_36:W.isFn K (.ref f36)=true)(wm_Times:W.makesIn K x_Times=true)(wk_Times:W.keepIn K (.ref x_Times)=true)(ws_37:W.isFn K (.ref f37)=true)(we_Times_ways:W.findIn K (.ref x_Times) "ways"=some (some (.ref f31)))(ws_38:W.isFn K (.ref f38)=true)(ws_39:W.isFn K (.ref f39)=true)(wm_Plus:W.makesIn K x_Plus=true)(wk_Plus:W.keepIn K (.ref x_Plus)=true)(ws_40:W.isFn K (.ref f40)=true)(we_Plus_ways:W.findIn K (.ref x_Plus) "ways"=some (some (.ref f31)))(ws_41:W.isFn K (.ref f41)=true)(ws_42:W.isFn K (.ref f42)=true)(wm_Minus:W.makesIn K x_Minus=true)(wk_Minus:W.keepIn K (.ref x_Minus)=true)(ws_43:W.isFn K (.ref f43)=true)(we_Minus_ways:W.findIn K (.ref x_Minus) "ways"=some (some (.ref f31)))(ws_44:W.isFn K (.ref f44)=true)(ws_45:W.isFn K (.ref f45)=true)(wm_Just:W.makesIn K x_Just=true)(wk_Just:W.keepIn K (.ref x_Just)=true)(ws_46:W.isFn K (.ref f46)=true)(ws_47:W.isFn K (.ref f47)=true)(we_AtLeast___init__:W.findIn K (.ref x_AtLeast) "__init__"=some (some (.ref f45)))(wm_AtLeast:W.makesIn K x_AtLeast=true)(wk_AtLeast:W.keepIn K (.ref x_AtLeast)=true)(we_AtLeast_text:W.findIn K (.ref x_AtLeast) "text"=some (some (.ref f46)))(ws_48:W.isFn K (.ref f48)=true)(we_AtMost___init__:W.findIn K (.ref x_AtMost) "__init__"=some (some (.ref f45)))(wm_AtMost:W.makesIn K x_AtMost=true)(wk_AtMost:W.keepIn K (.ref x_AtMost)=true)(we_AtMost_text:W.findIn K (.ref x_AtMost) "text"=some (some (.ref f46)))(ws_49:W.isFn K (.ref f49)=true)(ws_50:W.isFn K (.ref f50)=true)(wm_Reader:W.makesIn K x_Reader=true)(wk_Reader:W.keepIn K (.ref x_Reader)=true)(ws_51:W.isFn K (.ref f51)=true)(ws_52:W.isFn K (.ref f52)=true)(ws_53:W.isFn K (.ref f53)=true)(ws_54:W.isFn K (.ref f54)=true)(ws_55:W.isFn K (.ref f55)=true)(ws_56:W.isFn K (.ref f56)=true)(ws_57:W.isFn K (.ref f57)=true)(ws_58:W.isFn K (.ref f58)=true)(ws_59:W.isFn K (.ref f59)=true)(ws_60:W.isFn K (.ref f60)=true)(ws_61:W.isFn K (.ref f61)=true)(ws_62:W.isFn K (.ref f62)=true): Nonempty (Tx K mg):=by
 obtain⟨d0,F0⟩:=F0;obtain⟨d1,F1⟩:=F1;obtain⟨d2,F2⟩:=F2;obtain⟨d3,F3⟩:=F3;obtain⟨d4,F4⟩:=F4;obtain⟨d5,F5⟩:=F5;obtain⟨d6,F6⟩:=F6;obtain⟨d7,F7⟩:=F7;obtain⟨d8,F8⟩:=F8;obtain⟨d9,F9⟩:=F9;obtain⟨d10,F10⟩:=F10;obtain⟨d11,F11⟩:=F11;obtain⟨d12,F12⟩:=F12;obtain⟨d13,F13⟩:=F13;obtain⟨d14,F14⟩:=F14;obtain⟨d15,F15⟩:=F15;obtain⟨d16,F16⟩:=F16;obtain⟨d17,F17⟩:=F17;obtain⟨d18,F18⟩:=F18;obtain⟨d19,F19⟩:=F19;obtain⟨d20,F20⟩:=F20;obtain⟨d21,F21⟩:=F21;obtain⟨d22,F22⟩:=F22;obtain⟨d23,F23⟩:=F23;obtain⟨d24,F24⟩:=F24;obtain⟨d25,F25⟩:=F25;obtain⟨d26,F26⟩:=F26;obtain⟨d27,F27⟩:=F27;obtain⟨d28,F28⟩:=F28;obtain⟨d29,F29⟩:=F29;obtain⟨d30,F30⟩:=F30;obtain⟨d31,F31⟩:=F31;obtain⟨d32,F32⟩:=F32;obtain⟨d33,F33⟩:=F33;obtain⟨d34,F34⟩:=F34;obtain⟨d35,F35⟩:=F35;obtain⟨d36,F36⟩:=F36;obtain⟨d37,F37⟩:=F37;obtain⟨d38,F38⟩:=F38;obtain⟨d39,F39⟩:=F39;obtain⟨d40,F40⟩:=F40;obtain⟨d41,F41⟩:=F41;obtain⟨d42,F42⟩:=F42;obtain⟨d43,F43⟩:=F43;obtain⟨d44,F44⟩:=F44;obtain⟨d45,F45⟩:=F45;obtain⟨d46,F46⟩:=F46;obtain⟨d47,F47⟩:=F47;obtain⟨d48,F48⟩:=F48;obtain⟨d49,F49⟩:=F49;obtain⟨d50,F50⟩:=F50;obtain⟨d51,F51⟩:=F51;obtain⟨d52,F52⟩:=F52;obtain⟨d53,F53⟩:=F53;obtain⟨d54,F54⟩:=F54;obtain⟨d55,F55⟩:=F55;obtain⟨d56,F56⟩:=F56;obtain⟨d57,F57⟩:=F57;obtain⟨d58,F58⟩:=F58;obtain⟨d59,F59⟩:=F59;obtain⟨d60,F60⟩:=F60;obtain⟨d61,F61⟩:=F61;obtain⟨d62,F62⟩:=F62;exact⟨{
 afy:=x_Number
 afz:=W.mg_of X G wn_Number
 afA:=⟨wa_Number,wb_Number,wc_Number,wd_Number⟩
 afB:=wf_Number_number
 afG:=x_Edge
 afH:=W.mg_of X G wn_Edge
 afI:=⟨wa_Edge,wb_Edge,wc_Edge,wd_Edge⟩
 afJ:=wf_Edge_word
 afK:=wf_Edge_name
 afP:=x_Times
 afQ:=W.mg_of X G wn_Times
 afR:=⟨wa_Times,wb_Times,wc_Times,wd_Times⟩
 afS:=wf_Times_number
 afT:=wf_Times_inner
 afY:=x_Plus
 afZ:=W.mg_of X G wn_Plus
 af0:=⟨wa_Plus,wb_Plus,wc_Plus,wd_Plus⟩
 af1:=wf_Plus_one
 af2:=wf_Plus_other
 af7:=x_Minus
 af8:=W.mg_of X G wn_Minus
 af9:=⟨wa_Minus,wb_Minus,wc_Minus,wd_Minus⟩
 aga:=wf_Minus_one
 agb:=wf_Minus_other
 agg:=x_Just
 agh:=W.mg_of X G wn_Just
 agi:=⟨wa_Just,wb_Just,wc_Just,wd_Just⟩
 agj:=wf_Just_near
 agk:=wf_Just_far
 agl:=wf_Just_rank
 agm:=wf_Just_weight
 agq:=x_AtLeast
 agr:=W.mg_of X G wn_AtLeast
 ags:=⟨wa_AtLeast,wb_AtLeast,wc_AtLeast,wd_AtLeast⟩
 agt:=wf_AtLeast_near
 agu:=wf_AtLeast_far
 agv:=wf_AtLeast_rank
 agw:=wf_AtLeast_weight
 agA:=x_AtMost
 agB:=W.mg_of X G wn_AtMost
 agC:=⟨wa_AtMost,wb_AtMost,wc_AtMost,wd_AtMost⟩
 agD:=wf_AtMost_near
 agE:=wf_AtMost_far
 agF:=wf_AtMost_rank
 agG:=wf_AtMost_weight
 agK:=x_Reader
 agL:=W.mg_of X G wn_Reader
 agM:=⟨wa_Reader,wb_Reader,wc_Reader,wd_Reader⟩
 agN:=wf_Reader_words
 agO:=wf_Reader_names
 agP:=wf_Reader_place
 ag3:=x_Term
 ag4:=W.mg_of X G wn_Term
 ag5:=⟨wa_Term,wb_Term,wc_Term,wd_Term⟩
 ag6:=x_Wish
 ag7:=W.mg_of X G wn_Wish
 ag8:=⟨wa_Wish,wb_Wish,wc_Wish,wd_Wish⟩
 ag9:=⟨⟨wa_Number,wb_Number,wc_Number,wd_Number⟩,wg_Number,wi_0,wj_0,wh_Number⟩
 aha:=⟨⟨wa_Edge,wb_Edge,wc_Edge,wd_Edge⟩,wg_Edge,wi_0,wj_0,wh_Edge⟩
 ahb:=⟨⟨wa_Times,wb_Times,wc_Times,wd_Times⟩,wg_Times,wi_0,wj_0,wh_Times⟩
 ahc:=⟨⟨wa_Plus,wb_Plus,wc_Plus,wd_Plus⟩,wg_Plus,wi_0,wj_0,wh_Plus⟩
 ahd:=⟨⟨wa_Minus,wb_Minus,wc_Minus,wd_Minus⟩,wg_Minus,wi_0,wj_0,wh_Minus⟩
 ahe:=⟨⟨wa_Just,wb_Just,wc_Just,wd_Just⟩,wg_Just,wi_0,wj_0,wh_Just⟩
 ahf:=⟨⟨wa_AtLeast,wb_AtLeast,wc_AtLeast,wd_AtLeast⟩,wg_AtLeast,wi_0,wj_0,wh_AtLeast⟩
 ahg:=⟨⟨wa_AtMost,wb_AtMost,wc_AtMost,wd_AtMost⟩,wg_AtMost,wi_0,wj_0,wh_AtMost⟩
 ahh:=wkc_Number_Number
 ahi:=wkc_Edge_Edge
 ahj:=wkc_Times_Times
 ahk:=wkc_Plus_Plus
 ahl:=wkc_Minus_Minus
 ahm:=wkc_Just_Just
 ahn:=wkc_Just_AtLeast
 aho:=wkc_Just_AtMost
 ahp:=wkc_AtLeast_Just
 ahq:=wkc_AtLeast_AtLeast
 ahr:=wkc_AtLeast_AtMost
 ahs:=wkc_AtMost_Just
 aht:=wkc_AtMost_AtLeast
 ahu:=wkc_AtMost_AtMost
 ahv:=wkt_Number_Plus_Minus
 ahw:=wkt_Edge_Plus_Minus
 ahx:=wkt_Times_Plus_Minus
 ahy:=wkt_Plus_Plus_Minus
 ahz:=wkt_Minus_Plus_Minus
 afC:=⟨wm_Number,we_Number___init__,ws_29,wk_Number⟩
 afD:=⟨we_Number_edges,ws_30,F30.kp⟩
 afE:=⟨we_Number_ways,ws_31,F31.kp⟩
 afF:=⟨we_Number_text,ws_32,F32.kp⟩
 afL:=⟨wm_Edge,we_Edge___init__,ws_33,wk_Edge⟩
 afM:=⟨we_Edge_edges,ws_34,F34.kp⟩
 afN:=⟨we_Edge_ways,ws_31,F31.kp⟩
 afO:=⟨we_Edge_text,ws_35,F35.kp⟩
 afU:=⟨wm_Times,we_Times___init__,ws_36,wk_Times⟩
 afV:=⟨we_Times_edges,ws_37,F37.kp⟩
 afW:=⟨we_Times_ways,ws_31,F31.kp⟩
 afX:=⟨we_Times_text,ws_38,F38.kp⟩
 af3:=⟨wm_Plus,we_Plus___init__,ws_39,wk_Plus⟩
 af4:=⟨we_Plus_edges,ws_40,F40.kp⟩
 af5:=⟨we_Plus_ways,ws_31,F31.kp⟩
 af6:=⟨we_Plus_text,ws_41,F41.kp⟩
 agc:=⟨wm_Minus,we_Minus___init__,ws_42,wk_Minus⟩
 agd:=⟨we_Minus_edges,ws_43,F43.kp⟩
 age:=⟨we_Minus_ways,ws_31,F31.kp⟩
 agf:=⟨we_Minus_text,ws_44,F44.kp⟩
 agn:=⟨wm_Just,we_Just___init__,ws_45,wk_Just⟩
 ago:=⟨we_Just_text,ws_46,F46.kp⟩
 agp:=⟨we_Just_verb,ws_47,F47.kp⟩
 agx:=⟨wm_AtLeast,we_AtLeast___init__,ws_45,wk_AtLeast⟩
 agy:=⟨we_AtLeast_text,ws_46,F46.kp⟩
 agz:=⟨we_AtLeast_verb,ws_48,F48.kp⟩
 agH:=⟨wm_AtMost,we_AtMost___init__,ws_45,wk_AtMost⟩
 agI:=⟨we_AtMost_text,ws_46,F46.kp⟩
 agJ:=⟨we_AtMost_verb,ws_49,F49.kp⟩
 agQ:=⟨wm_Reader,we_Reader___init__,ws_50,wk_Reader⟩
 agR:=⟨we_Reader_step,ws_51,F51.kp⟩
 agS:=⟨we_Reader_expect,ws_52,F52.kp⟩
 agT:=⟨we_Reader_read_term,ws_53,F53.kp⟩
 agU:=⟨we_Reader_read_edge,ws_54,F54.kp⟩
 agV:=⟨we_Reader_read_name,ws_55,F55.kp⟩
 agW:=⟨we_Reader_read_terms,ws_56,F56.kp⟩
 agX:=⟨we_Reader_read_verb,ws_57,F57.kp⟩
 agY:=⟨we_Reader_read_rank,ws_58,F58.kp⟩
 agZ:=⟨we_Reader_read_weight,ws_59,F59.kp⟩
 ag0:=⟨we_Reader_finish,ws_60,F60.kp⟩
 ag1:=⟨we_Reader_ahead,ws_61,F61.kp⟩
 ag2:=⟨we_Reader_at_end,ws_62,F62.kp⟩
 aaa:=f0
 aab:=d0
 aac:=F0
 aad:=F0.binds (ps:=["top","bottom"]) λ_ _ _ _ _ _=>Pu.ln2 λ_ _=>rfl
 aae:=W.mg_of X G e0
 aaf:=f1
 aag:=d1
 aah:=F1
 aai:=F1.binds (ps:=["one","other"]) λ_ _ _ _ _ _=>Pu.ln2 λ_ _=>rfl
 aaj:=W.mg_of X G e1
 aak:=f2
 aal:=d2
 aam:=F2
 aan:=F2.binds (ps:=["word","most"]) λ_ _ _ _ _ _=>Pu.ln2 λ_ _=>rfl
 aao:=W.mg_of X G e2
 aap:=f3
 aaq:=d3
 aar:=F3
 aas:=F3.binds (ps:=["word"]) λ_ _ _ _ _ _=>Pu.ln1 λ_=>rfl
 aat:=W.mg_of X G e3
 aau:=f4
 aav:=d4
 aaw:=F4
 aax:=F4.binds (ps:=["number"]) λ_ _ _ _ _ _=>Pu.ln1 λ_=>rfl
 aay:=W.mg_of X G e4
 aaz:=f5
 aaA:=d5
 aaB:=F5
 aaC:=F5.binds (ps:=["word"]) λ_ _ _ _ _ _=>Pu.ln1 λ_=>rfl
 aaD:=W.mg_of X G e5
 aaE:=f6
 aaF:=d6
 aaG:=F6
 aaH:=F6.binds (ps:=["word"]) λ_ _ _ _ _ _=>Pu.ln1 λ_=>rfl
 aaI:=W.mg_of X G e6
 aaJ:=f7
 aaK:=d7
 aaL:=F7
 aaM:=F7.binds (ps:=["term"]) λ_ _ _ _ _ _=>Pu.ln1 λ_=>rfl
 aaN:=W.mg_of X G e7
 aaO:=f8
 aaP:=d8
 aaQ:=F8
 aaR:=F8.binds (ps:=["text"]) λ_ _ _ _ _ _=>Pu.ln1 λ_=>rfl
 aaS:=W.mg_of X G e8
 aaT:=f9
 aaU:=d9
 aaV:=F9
 aaW:=F9.binds (ps:=["text"]) λ_ _ _ _ _ _=>Pu.ln1 λ_=>rfl
 aaX:=W.mg_of X G e9
 aaY:=f10
 aaZ:=d10
 aa0:=F10
 aa1:=F10.binds (ps:=["text","names"]) λ_ _ _ _ _ _=>Pu.ln2 λ_ _=>rfl
 aa2:=W.mg_of X G e10
 aa3:=f11
 aa4:=d11
 aa5:=F11
 aa6:=F11.binds (ps:=["_law_script","_law_k"]) λ_ _ _ _ _ _=>Pu.ln2 λ_ _=>rfl
 aa7:=W.mg_of X G e11
 aa8:=f12
 aa9:=d12
 aba:=F12
 abb:=F12.binds (ps:=["_law_cell","_law_k"]) λ_ _ _ _ _ _=>Pu.ln2 λ_ _=>rfl
 abc:=W.mg_of X G e12
 abd:=f13
 abe:=d13
 abf:=F13
 abg:=F13.binds (ps:=["_law_one","_law_other"]) λ_ _ _ _ _ _=>Pu.ln2 λ_ _=>rfl
 abh:=W.mg_of X G e13
 abi:=f14
 abj:=d14
 abk:=F14
 abl:=F14.binds (ps:=["_law_cell"]) λ_ _ _ _ _ _=>Pu.ln1 λ_=>rfl
 abm:=W.mg_of X G e14
 abn:=f15
 abo:=d15
 abp:=F15
 abq:=F15.binds (ps:=["_law_first","_law_k"]) λ_ _ _ _ _ _=>Pu.ln2 λ_ _=>rfl
 abr:=W.mg_of X G e15
 abt:=f16
 abu:=d16
 abv:=F16
 abw:=F16.binds (ps:=["_law_cell","_law_first"]) λ_ _ _ _ _ _=>Pu.ln2 λ_ _=>rfl
 abx:=W.mg_of X G e16
 aby:=f17
 abz:=d17
 abA:=F17
 abB:=F17.binds (ps:=["_law_cells","_law_first"]) λ_ _ _ _ _ _=>Pu.ln2 λ_ _=>rfl
 abC:=W.mg_of X G e17
 abD:=f18
 abE:=d18
 abF:=F18
 abG:=F18.binds (ps:=["_law_number_here"]) λ_ _ _ _ _ _=>Pu.ln1 λ_=>rfl
 abH:=W.mg_of X G e18
 abI:=f19
 abJ:=d19
 abK:=F19
 abL:=F19.binds (ps:=["_law_tree_here","_law_closing","_law_extra"]) λ_ _ _ _ _ _=>Pu.ln3 λ_ _ _=>rfl
 abM:=W.mg_of X G e19
 abN:=f20
 abO:=d20
 abP:=F20
 abQ:=F20.binds (ps:=["_law_tree_here","_law_extra"]) λ_ _ _ _ _ _=>Pu.ln2 λ_ _=>rfl
 abR:=W.mg_of X G e20
 abS:=f21
 abT:=d21
 abU:=F21
 abV:=F21.binds (ps:=["_law_tree_here"]) λ_ _ _ _ _ _=>Pu.ln1 λ_=>rfl
 abW:=W.mg_of X G e21
 abX:=f22
 abY:=d22
 abZ:=F22
 ab0:=F22.binds (ps:=["_law_term_here","_law_tree_here"]) λ_ _ _ _ _ _=>Pu.ln2 λ_ _=>rfl
 ab1:=W.mg_of X G e22
 ab2:=f23
 ab3:=d23
 ab4:=F23
 ab5:=F23.binds (ps:=["_law_kind","_law_near","_law_far","_law_rank","_law_weight"]) λ_ _ _ _ _ _=>Pu.ln5 λ_ _ _ _ _=>rfl
 ab6:=W.mg_of X G e23
 ab7:=f24
 ab8:=d24
 ab9:=F24
 aca:=F24.binds (ps:=["_law_wish_here","_law_kind"]) λ_ _ _ _ _ _=>Pu.ln2 λ_ _=>rfl
 acb:=W.mg_of X G e24
 acd:=f25
 ace:=d25
 acf:=F25
 acg:=F25.binds (ps:=["_law_rank","_law_weight"]) λ_ _ _ _ _ _=>Pu.ln2 λ_ _=>rfl
 ach:=W.mg_of X G e25
 aci:=f26
 acj:=d26
 ack:=F26
 acl:=F26.binds (ps:=["_law_text_here","_law_kind","_law_trees","_law_rank","_law_weight","_law_own"]) λ_ _ _ _ _ _=>Pu.ln6 λ_ _ _ _ _ _=>rfl
 acm:=W.mg_of X G e26
 acn:=f27
 aco:=d27
 acp:=F27
 acq:=F27.binds (ps:=["_law_text_here","_law_tree_here"]) λ_ _ _ _ _ _=>Pu.ln2 λ_ _=>rfl
 acs:=W.mg_of X G e27
 act:=f28
 acu:=d28
 acv:=F28
 acw:=F28.binds (ps:=["_law_script"]) λ_ _ _ _ _ _=>Pu.ln1 λ_=>rfl
 acx:=W.mg_of X G e28
 acy:=f29
 acz:=d29
 acA:=F29
 acB:=F29.binds (ps:=["self","number"]) λ_ _ _ _ _ _=>Pu.ln2 λ_ _=>rfl
 acC:=f30
 acD:=d30
 acE:=F30
 acF:=F30.binds (ps:=["self"]) λ_ _ _ _ _ _=>Pu.ln1 λ_=>rfl
 acG:=f31
 acH:=d31
 acI:=F31
 acJ:=F31.binds (ps:=["self"]) λ_ _ _ _ _ _=>Pu.ln1 λ_=>rfl
 acK:=f32
 acL:=d32
 acM:=F32
 acN:=F32.binds (ps:=["self"]) λ_ _ _ _ _ _=>Pu.ln1 λ_=>rfl
 acO:=f33
 acP:=d33
 acQ:=F33
 acR:=F33.binds (ps:=["self","word","name"]) λ_ _ _ _ _ _=>Pu.ln3 λ_ _ _=>rfl
 acS:=f34
 acT:=d34
 acU:=F34
 acV:=F34.binds (ps:=["self"]) λ_ _ _ _ _ _=>Pu.ln1 λ_=>rfl
 acW:=f35
 acX:=d35
 acY:=F35
 acZ:=F35.binds (ps:=["self"]) λ_ _ _ _ _ _=>Pu.ln1 λ_=>rfl
 ac0:=f36
 ac1:=d36
 ac2:=F36
 ac3:=F36.binds (ps:=["self","number","inner"]) λ_ _ _ _ _ _=>Pu.ln3 λ_ _ _=>rfl
 ac4:=f37
 ac5:=d37
 ac6:=F37
 ac7:=F37.binds (ps:=["self"]) λ_ _ _ _ _ _=>Pu.ln1 λ_=>rfl
 ac8:=f38
 ac9:=d38
 ada:=F38
 adb:=F38.binds (ps:=["self"]) λ_ _ _ _ _ _=>Pu.ln1 λ_=>rfl
 adc:=f39
 add:=d39
 ade:=F39
 adf:=F39.binds (ps:=["self","one","other"]) λ_ _ _ _ _ _=>Pu.ln3 λ_ _ _=>rfl
 adg:=f40
 adh:=d40
 adi:=F40
 adj:=F40.binds (ps:=["self"]) λ_ _ _ _ _ _=>Pu.ln1 λ_=>rfl
 adk:=f41
 adl:=d41
 adm:=F41
 adn:=F41.binds (ps:=["self"]) λ_ _ _ _ _ _=>Pu.ln1 λ_=>rfl
 ado:=f42
 adp:=d42
 adq:=F42
 adr:=F42.binds (ps:=["self","one","other"]) λ_ _ _ _ _ _=>Pu.ln3 λ_ _ _=>rfl
 ads:=f43
 adt:=d43
 adu:=F43
 adw:=F43.binds (ps:=["self"]) λ_ _ _ _ _ _=>Pu.ln1 λ_=>rfl
 adx:=f44
 ady:=d44
 adz:=F44
 adA:=F44.binds (ps:=["self"]) λ_ _ _ _ _ _=>Pu.ln1 λ_=>rfl
 adB:=f45
 adC:=d45
 adD:=F45
 adE:=F45.binds (ps:=["self","near","far","rank","weight"]) λ_ _ _ _ _ _=>Pu.ln5 λ_ _ _ _ _=>rfl
 adF:=f46
 adG:=d46
 adH:=F46
 adI:=F46.binds (ps:=["self"]) λ_ _ _ _ _ _=>Pu.ln1 λ_=>rfl
 adJ:=f47
 adK:=d47
 adL:=F47
 adM:=F47.binds (ps:=["self"]) λ_ _ _ _ _ _=>Pu.ln1 λ_=>rfl
 adN:=f48
 adO:=d48
 adP:=F48
 adQ:=F48.binds (ps:=["self"]) λ_ _ _ _ _ _=>Pu.ln1 λ_=>rfl
 adR:=f49
 adS:=d49
 adT:=F49
 adU:=F49.binds (ps:=["self"]) λ_ _ _ _ _ _=>Pu.ln1 λ_=>rfl
 adV:=f50
 adW:=d50
 adX:=F50
 adY:=F50.binds (ps:=["self","text","names"]) λ_ _ _ _ _ _=>Pu.ln3 λ_ _ _=>rfl
 adZ:=f51
 ad0:=d51
 ad1:=F51
 ad2:=F51.binds (ps:=["self"]) λ_ _ _ _ _ _=>Pu.ln1 λ_=>rfl
 ad3:=f52
 ad4:=d52
 ad5:=F52
 ad6:=F52.binds (ps:=["self","word"]) λ_ _ _ _ _ _=>Pu.ln2 λ_ _=>rfl
 ad7:=f53
 ad8:=d53
 ad9:=F53
 aea:=F53.binds (ps:=["self"]) λ_ _ _ _ _ _=>Pu.ln1 λ_=>rfl
 aeb:=f54
 aec:=d54
 aed:=F54
 aee:=F54.binds (ps:=["self","word"]) λ_ _ _ _ _ _=>Pu.ln2 λ_ _=>rfl
 aef:=f55
 aeg:=d55
 aeh:=F55
 aei:=F55.binds (ps:=["self"]) λ_ _ _ _ _ _=>Pu.ln1 λ_=>rfl
 aej:=f56
 aek:=d56
 ael:=F56
 aem:=F56.binds (ps:=["self"]) λ_ _ _ _ _ _=>Pu.ln1 λ_=>rfl
 aen:=f57
 aeo:=d57
 aep:=F57
 aeq:=F57.binds (ps:=["self"]) λ_ _ _ _ _ _=>Pu.ln1 λ_=>rfl
 aer:=f58
 aes:=d58
 aet:=F58
 aeu:=F58.binds (ps:=["self"]) λ_ _ _ _ _ _=>Pu.ln1 λ_=>rfl
 aev:=f59
 aew:=d59
 aex:=F59
 aey:=F59.binds (ps:=["self"]) λ_ _ _ _ _ _=>Pu.ln1 λ_=>rfl
 aez:=f60
 aeA:=d60
 aeB:=F60
 aeC:=F60.binds (ps:=["self"]) λ_ _ _ _ _ _=>Pu.ln1 λ_=>rfl
 aeD:=f61
 aeE:=d61
 aeF:=F61
 aeG:=F61.binds (ps:=["self"]) λ_ _ _ _ _ _=>Pu.ln1 λ_=>rfl
 aeH:=f62
 aeI:=d62
 aeJ:=F62
 aeK:=F62.binds (ps:=["self"]) λ_ _ _ _ _ _=>Pu.ln1 λ_=>rfl
 aeR:=sg_ACROSS
 aeS:=W.mg_of X G sn_ACROSS
 aeT:=⟨_,_,_,so_ACROSS,rfl,rfl,(by show 5<=sizeLine;decide),(.cons ⟨_,rfl⟩ (.cons ⟨_,rfl⟩ (.cons ⟨_,rfl⟩ (.cons ⟨_,rfl⟩ (.cons ⟨_,rfl⟩ .nil)))))⟩
 aeU:=sg_DOWN
 aeV:=W.mg_of X G sn_DOWN
 aeW:=⟨_,_,_,so_DOWN,rfl,rfl,(by show 5<=sizeLine;decide),(.cons ⟨_,rfl⟩ (.cons ⟨_,rfl⟩ (.cons ⟨_,rfl⟩ (.cons ⟨_,rfl⟩ (.cons ⟨_,rfl⟩ .nil)))))⟩
 aeX:=sg_SPANS
 aeY:=W.mg_of X G sn_SPANS
 aeZ:=⟨_,_,_,so_SPANS,rfl,rfl,(by show 2<=sizeLine;decide),(.cons ⟨_,rfl⟩ (.cons ⟨_,rfl⟩ .nil))⟩
 ae0:=sg_STARTS
 ae1:=W.mg_of X G sn_STARTS
 ae2:=⟨_,_,_,so_STARTS,rfl,rfl,(by show 2<=sizeLine;decide),(.cons ⟨_,rfl⟩ (.cons ⟨_,rfl⟩ .nil))⟩
 ae3:=sg_RANKS
 ae4:=W.mg_of X G sn_RANKS
 ae5:=⟨_,_,_,so_RANKS,rfl,rfl,(by show 5<=sizeLine;decide),(.cons ⟨_,rfl⟩ (.cons ⟨_,rfl⟩ (.cons ⟨_,rfl⟩ (.cons ⟨_,rfl⟩ (.cons ⟨_,rfl⟩ .nil)))))⟩
 ae6:=λo h=>by rw[so_RANKS] at h;cases h;rfl
 aeL:=g0
 aeM:=W.mg_of X G n0
 aeN:=⟨_,_,_,o0,rfl,rfl,(by show 2<=sizeLine;decide),(.cons ⟨_,rfl⟩ (.cons ⟨_,rfl⟩ .nil))⟩
 aeO:=g1
 aeP:=W.mg_of X G n1
 aeQ:=⟨_,_,_,o1,rfl,rfl,(by show 2<=sizeLine;decide),(.cons ⟨_,rfl⟩ (.cons ⟨_,rfl⟩ .nil))⟩
 ae7:=yk_FRAME
 ae8:=W.mg_of X G yi_FRAME
 ae9:=yk_FIGURES
 afa:=W.mg_of X G yi_FIGURES
 afb:=yk_LETTERS
 afc:=W.mg_of X G yi_LETTERS
 afd:=yk_MOST_FIGURES
 afe:=W.mg_of X G yi_MOST_FIGURES
 aff:=yk_MOST_WORDS
 afg:=W.mg_of X G yi_MOST_WORDS
 afh:=yk_WEIGHT_FIGURES
 afi:=W.mg_of X G yi_WEIGHT_FIGURES
 afj:=yk_MOST_WEIGHT
 afk:=W.mg_of X G yi_MOST_WEIGHT
 afl:=yk_MOST_LETTERS
 afm:=W.mg_of X G yi_MOST_LETTERS
 afn:=x_NoWish
 afo:=W.mg_of X G xn_NoWish
 afp:=xq_NoWish
 afq:=x_Mixed
 afr:=W.mg_of X G xn_Mixed
 afs:=xq_Mixed
 aft:=x_NoPart
 afu:=W.mg_of X G xn_NoPart
 afv:=xq_NoPart
 afw:=⟨yfg_NoWish,yfn_NoWish,yfc_NoWish,ymo_NoWish,ysb_NoWish⟩
 afx:=xm_NoWish_NoWish
 ahA:=W.mg_none_of X G z0
 ahB:=W.mg_none_of X G z1
 ahC:=W.mg_none_of X G z2
 ahD:=W.mg_none_of X G z3
 ahE:=W.mg_none_of X G z4
 ahF:=W.mg_none_of X G z5
 ahG:=W.mg_none_of X G z6
 ahH:=W.mg_none_of X G z7
 ahI:=W.mg_none_of X G z8
 ahJ:=W.mg_none_of X G z9
 ahK:=W.mg_none_of X G z10
 ahL:=W.mg_none_of X G z11
 }⟩
def tx(L:List Nat):Str:=⟨L.toArray⟩
theorem b'N(x:Str):tx x.cps.toList=x:=by cases x;rfl
theorem a'x(L:List Nat):(tx L).cps.toList=L:=rfl
theorem w'k{L M:List Nat}:tx L=tx M↔L=M:=⟨λh=>by rw[<- a'x L,h,a'x],λh=>by rw[h]⟩
theorem b'U(L M:List Nat):tx L++tx M=tx (L++M):=by
 show (⟨L.toArray++M.toArray⟩:Str)=⟨(L++M).toArray⟩
 rw[List.append_toArray]
theorem a'p(L:List Nat):(tx L).length=L.length:=by show L.toArray.size=_;rw[List.size_toArray]
def dig(L:List Nat):Bool:=L.all λc=>decide (48<=c) && decide (c<=57)
def whole(n:Nat)(L:List Nat):Bool:=!decide (L=[]) && (decide (L.length<=n) && (dig L && (decide (L=[48]) || !decide (L.head?=some 48))))
abbrev vl(L:List Nat):Nat:=NumText.digitsVal L
def dgs(n:Nat):List Nat:=(Nat.toDigits 10 n).map Char.toNat
theorem d'q{L:List Nat}(h:dig L=true):NumText.AllDigits L:=λc m=>by
 have:=List.all_eq_true.mp h c m;simpa using this
theorem m'D{L:List Nat}(h:NumText.AllDigits L):(L.map Char.ofNat).map Char.toNat=L:=by
 rw[List.map_map]
 conv=>rhs;rw[<- List.map_id L]
 refine List.map_congr_left λc m=>?_
 have:=h c m;show (Char.ofNat c).toNat=c;have h4:c=48\/c=49\/c=50\/c=51\/c=52\/c=53\/c=54\/c=55\/c=56\/c=57:=by omega
 rcases h4 with h |h |h |h |h |h |h |h |h |h<;>subst h<;>rfl
theorem b'p{n:Nat}{L:List Nat}(h:whole n L=true):L≠[]/\L.length<=n/\dig L=true/\(L=[48]\/¬ L.head?=some 48):=by
 unfold whole at h;simpa using h
theorem g'k{n:Nat}{L:List Nat}(h:whole n L=true):dgs (vl L)=L:=by
 obtain⟨h1,_,h3,h4⟩:=b'p h;have a:=d'q h3;unfold dgs vl;rw[NumText.toDigits_digitsVal (L.length - 1) L (by have:=List.length_pos_iff.mpr h1;omega) a ?_,m'D a];rcases h4 with h4 |h4
 ·left;rw[h4];rfl
 ·right;cases L with
  |nil=>exact absurd rfl h1
  |cons c r=>
   refine⟨c,r,rfl,?_⟩;have:=a c List.mem_cons_self;have:¬ c=48:=λz=>h4 (by rw[z];rfl)
   omega
theorem c'j(n:Nat):vl (dgs n)=n:=W.KIN.val_back n
theorem b'n(n:Nat):∀ c∈dgs n,48<=c/\c<=57:=λc m=>by
 unfold dgs at m;obtain⟨d,hd,rfl⟩:=List.mem_map.mp m;have:=Nat.isDigit_of_mem_toDigits (by decide) (by decide) hd;unfold Char.isDigit at this;simp at this;have h1:=this.1;have h2:=this.2;constructor
 ·exact h1
 ·exact h2
def dec(a:Int):List Nat:=if a<0 then 45 :: dgs a.natAbs else dgs a.natAbs
theorem l'x(m:Nat):Str.ofString (toString (m:Int))=tx (dgs m):=by
 rw[<- b'N (Str.ofString (toString (m:Int))),W.KIN.signs_num];rfl
theorem p'i(s:String):Str.ofString ("-"++s)=tx (45 :: (Str.ofString s).cps.toList):=by
 unfold Str.ofString;rw[String.toByteArray_append];simp;have e:"-".toByteArray.data.toList=[45]:=by decide
 rw[e];show (⟨(cpsOfBytes 0 0 (45 :: s.toByteArray.data.toList)).toArray⟩:Str)=⟨(45 :: cpsOfBytes 0 0 s.toByteArray.data.toList).toArray⟩;congr 2
theorem l'y(a:Int):Str.ofString (toString a)=tx (dec a):=by
 unfold dec;by_cases h:a<0
 ·rw[if_pos h,PyProof.Rows.toString_neg h,p'i];have e:0 - a=(a.natAbs:Int):=by omega
  rw[e,l'x,a'x]
 ·rw[if_neg h];have e:a=(a.natAbs:Int):=by omega
  conv=>lhs;rw[e]
  exact l'x _
def ahO(c:Nat):List Nat->List (List Nat)
 |[]=>[[]]
 |x :: r=>if x = c then [] :: ahO c r else match ahO c r with |[]=>[[x]] |p :: ps=>(x :: p) :: ps
def aiF(c:Nat):List (List Nat)->List Nat
 |[]=>[]
 |[p]=>p
 |p :: ps=>p ++ c :: aiF c ps
theorem c'k(c:Nat)(L:List Nat):ahO c L≠[]:=by
 cases L with
 |nil=>exact λz=>nomatch z
 |cons x r=>
  unfold ahO;split
  ·exact λz=>nomatch z
  ·split<;>exact λz=>nomatch z
theorem c'u{c:Nat}:∀{p r:List Nat},c ∉ p->ahO c (p++c :: r)=p :: ahO c r
 |[],r,_=>by
  have e:ahO c (c :: r)=if c=c then [] :: ahO c r else match ahO c r with |[]=>[[c]] |p :: ps=>(c :: p) :: ps:=rfl
  show ahO c (c :: r)=_;rw[e,if_pos rfl]
 |x :: p,r,h=>by
  have hx:¬ x=c:=λz=>h (by rw[z];exact List.mem_cons_self)
  have ih:=c'u (p:=p) (r:=r) λz=>h (List.mem_cons_of_mem _ z)
  have e:ahO c (x :: (p++c :: r))=if x=c then [] :: ahO c (p++c :: r) else match ahO c (p++c :: r) with |[]=>[[x]] |p :: ps=>(x :: p) :: ps:=rfl
  show ahO c (x :: (p++c :: r))=_;rw[e,if_neg hx,ih]
theorem b'q{c:Nat}:∀{p:List Nat},c ∉ p->ahO c p=[p]
 |[],_=>rfl
 |x :: p,h=>by
  have hx:¬ x=c:=λz=>h (by rw[z];exact List.mem_cons_self)
  have e:ahO c (x :: p)=if x=c then [] :: ahO c p else match ahO c p with |[]=>[[x]] |p :: ps=>(x :: p) :: ps:=rfl
  rw[e,if_neg hx,b'q (p:=p) λz=>h (List.mem_cons_of_mem _ z)]
theorem c'M{c:Nat}:∀{ps:List (List Nat)},ps≠[]->(∀ p∈ps,c ∉ p)->ahO c (aiF c ps)=ps
 |[],h,_=>absurd rfl h
 |[p],_,h=>b'q (h p List.mem_cons_self)
 |p :: q :: ps,_,h=>by
  show ahO c (p++c :: aiF c (q :: ps))=_;rw[c'u (h p List.mem_cons_self),c'M (ps:=q :: ps) (λz=>nomatch z) λr m=>h r (List.mem_cons_of_mem _ m)]
theorem g'l(c:Nat):∀(ps:List (List Nat))(a:List Nat),(ps.foldl (λacc p=>acc++[c]++p) a)=aiF c (a :: ps)
 |[],a=>rfl
 |p :: ps,a=>by
  rw[List.foldl_cons,g'l c ps (a++[c]++p)];show aiF c ((a++[c]++p) :: ps)=a++c :: aiF c (p :: ps);cases ps with
  |nil=>show a++[c]++p=a++c :: p;simp
  |cons q ps=>show a++[c]++p++c :: aiF c (q :: ps)=a++c :: (p++c :: aiF c (q :: ps));simp
theorem m'E(c:Nat):∀(ps:List Str)(a:Array Nat),(ps.foldl (λacc p=>acc++(tx [c]).cps++p.cps) a).toList=aiF c (a.toList :: ps.map (·.cps.toList)):=by
 intro ps a;rw[<- g'l]
 induction ps generalizing a with
 |nil=>rfl
 |cons p ps ih=>
  rw[List.foldl_cons,List.map_cons,List.foldl_cons,ih];simp[tx]
theorem b'Z(x:Str)(c:Nat):Txt.split x (tx [c])=(ahO c x.cps.toList).map tx:=by
 have ne:Txt.split x (tx [c])≠[]:=by
  unfold Txt.split;split
  ·exact λz=>nomatch z
  ·split
   ·exact λz=>nomatch z
   ·rw[StrLaws.partsBetween_eq];unfold StrLaws.partsFrom;split<;>exact λz=>nomatch z
 have gl:aiF c ((Txt.split x (tx [c])).map (·.cps.toList))=x.cps.toList:=by
  unfold Txt.split;split
  ·rfl
  ·split
   ·rfl
   ·have g:=StrLaws.glued_between_self x (tx [c]) (x.length+1);have hl:(tx [c]).length=1:=rfl;generalize Builtin.Str.partsBetween x (Builtin.Str.occurrences x (tx [c]) 0 x.length (x.length+1)) (tx [c]).length=ps at g;unfold Builtin.Str.glued at g;cases ps with
    |nil=>rw[<- g];rfl
    |cons p ps=>
     have g2:=m'E c ps p.cps;rw[<- g];exact g2.symm
 have fr:∀ p∈(Txt.split x (tx [c])).map (·.cps.toList),c ∉ p:=λp m=>by
  obtain⟨q,hq,rfl⟩:=List.mem_map.mp m;exact StrLaws.split_free x c q hq
 have e:=c'M (by intro z;exact ne (List.map_eq_nil_iff.mp z)) fr;rw[gl] at e;rw[e,List.map_map]
 conv=>lhs;rw[<- List.map_id (Txt.split x (tx [c]))]
 exact List.map_congr_left λq _=>(b'N q).symm
def neg(L:List Nat):Bool:=decide (L.head?=some 45)
def strip(L:List Nat):List Nat:=if L.head?=some 45 then L.tail else L
def sgn(L:List Nat)(n:Nat):Int:=if L.head?=some 45 then -(n:Int) else n
def ajS(L:List Nat):Option (Int×Int):=match ahO 47 (strip L) with
 |[t]=>if whole 6 t = true /\ ¬ (vl t = 0 /\ L.head? = some 45) then some (sgn L (vl t),1) else none
 |[t,b]=>if whole 6 t = true /\ whole 6 b = true /\ 2 <= vl b /\ Nat.gcd (vl t) (vl b) = 1 /\ ¬ (vl t = 0 /\ L.head? = some 45) then some (sgn L (vl t),vl b) else none
 |_=>none
def shw(q:Rat):List Nat:=if q.den=1 then dec q.num else dec q.num++47 :: dgs q.den
theorem d'L(a:Int):47 ∉ dec a:=λm=>by
 unfold dec at m;split at m
 ·rcases List.mem_cons.mp m with h |h
  ·cases h
  ·have:=b'n _ _ h;omega
 ·have:=b'n _ _ m;omega
theorem j'x(n:Nat):47 ∉ dgs n:=λm=>by have:=b'n _ _ m;omega
theorem p'j(n:Nat):dgs n≠[]:=λh=>by
 have e:=c'j n;rw[h] at e;have e:0=n:=e;subst e;exact absurd h (by decide)
theorem q'O(n:Nat):¬ (dgs n).head?=some 45:=λh=>by
 have:=b'n n 45 (List.mem_of_mem_head? h);omega
theorem c'a(a:Int):(dec a).head?=some 45↔a<0:=by
 unfold dec;split
 ·exact⟨λ_=>by assumption,λ_=>rfl⟩
 ·rename_i h;exact⟨λz=>absurd z (q'O _),λz=>absurd z h⟩
theorem e'y(a:Int):strip (dec a)=dgs a.natAbs:=by
 unfold strip;by_cases h:a<0
 ·rw[if_pos ((c'a a).mpr h)];unfold dec;rw[if_pos h];rfl
 ·rw[if_neg (λz=>h ((c'a a).mp z))];unfold dec;rw[if_neg h]
theorem k'a(L:List Nat):∃ p ps,ahO 47 L=p :: ps/\ahO 47 (strip L)=strip p :: ps/\p.head?=L.head?\/(ahO 47 L=p :: ps/\p=[]/\ahO 47 (strip L)=p :: ps/\¬ L.head?=some 45):=by
 cases L with
 |nil=>exact⟨[],[],.inr ⟨rfl,rfl,rfl,λz=>nomatch z⟩⟩
 |cons x r=>
  have e:ahO 47 (x :: r)=if x=47 then [] :: ahO 47 r else match ahO 47 r with |[]=>[[x]] |p :: ps=>(x :: p) :: ps:=rfl
  by_cases h:x=47
  ·rw[if_pos h] at e;refine⟨[],ahO 47 r,.inr ⟨e,rfl,?_,?_⟩⟩
   ·have hn:¬ (x :: r).head?=some 45:=λz=>by rw[h] at z;cases z
    unfold strip;rw[if_neg hn,e]
   ·intro z;rw[h] at z;cases z
  ·rw[if_neg h] at e;cases hs:ahO 47 r with
   |nil=>exact absurd hs (c'k _ _)
   |cons p ps=>
    rw[hs] at e;refine⟨x :: p,ps,.inl ⟨e,?_,rfl⟩⟩;by_cases h5:x=45
    ·subst h5;show ahO 47 r=p :: ps;exact hs
    ·have hn:¬ (x :: r).head?=some 45:=λz=>h5 (by simpa using z)
     have hn':¬ (x :: p).head?=some 45:=λz=>h5 (by simpa using z)
     unfold strip;rw[if_neg hn,if_neg hn'];exact e
theorem fig{L p:List Nat}{ps:List (List Nat)}(h:ahO 47 L=p :: ps):ahO 47 (strip L)=strip p :: ps/\(p.head?=some 45↔L.head?=some 45):=by
 obtain⟨p',ps',h' |h'⟩:=k'a L
 ·rw[h] at h';obtain⟨e,e2,e3⟩:=h';cases e;exact⟨e2,by rw[e3]⟩
 ·rw[h] at h';obtain⟨e,e1,e2,e3⟩:=h';cases e;subst e1;exact⟨e2,⟨(λz=>nomatch z),λz=>absurd z e3⟩⟩
theorem d'e(c:Nat):∀ L:List Nat,aiF c (ahO c L)=L
 |[]=>rfl
 |x :: r=>by
  have ih:=d'e c r;have e:ahO c (x :: r)=if x=c then [] :: ahO c r else match ahO c r with |[]=>[[x]] |p :: ps=>(x :: p) :: ps:=rfl
  rw[e];by_cases h:x=c
  ·rw[if_pos h];cases hs:ahO c r with
   |nil=>exact absurd hs (c'k _ _)
   |cons p ps=>
    rw[hs] at ih;show []++c :: aiF c (p :: ps)=x :: r;rw[ih,h];rfl
  ·rw[if_neg h];cases hs:ahO c r with
   |nil=>exact absurd hs (c'k _ _)
   |cons p ps=>
    rw[hs] at ih;cases ps with
    |nil=>
     have ih:p=r:=ih;show x :: p=x :: r;rw[ih]
    |cons q ps=>
     have ih:p++c :: aiF c (q :: ps)=r:=ih;show (x :: p)++c :: aiF c (q :: ps)=x :: r;rw[<- ih];rfl
theorem f'G{p:List Nat}(h:¬ p.head?=some 45):strip p=p:=if_neg h
theorem j'y{p:List Nat}(h:p.head?=some 45):p=45 :: strip p:=by
 unfold strip;rw[if_pos h];cases p with
 |nil=>cases h
 |cons x r=>cases h; rfl
theorem l'z{L p:List Nat}(e:p.head?=some 45↔L.head?=some 45)(hw:whole 6 (strip p)=true)(h0:¬ (vl (strip p)=0/\L.head?=some 45)):dec (sgn L (vl (strip p)))=p:=by
 unfold sgn;by_cases h:L.head?=some 45
 ·rw[if_pos h];have hv:¬ vl (strip p)=0:=λz=>h0 ⟨z,h⟩
  unfold dec;rw[if_pos (by omega),show (-((vl (strip p):Nat):Int)).natAbs=vl (strip p) by omega,g'k hw];exact (j'y (e.mpr h)).symm
 ·rw[if_neg h];unfold dec;rw[if_neg (by omega),Int.natAbs_natCast,g'k hw];exact f'G (λz=>h (e.mp z))
theorem c'C(L:List Nat)(n:Nat):(sgn L n).natAbs=n:=by unfold sgn;split<;>omega
theorem s'h{L p:List Nat}(hs:ahO 47 L=[p])(hw:whole 6 (strip p)=true):(shw (Rat.divInt (sgn L (vl (strip p))) 1)=L->ajS L=some (sgn L (vl (strip p)),1))/\(¬ shw (Rat.divInt (sgn L (vl (strip p))) 1)=L->ajS L=none):=by
 obtain⟨f1,f2⟩:=fig hs;have eL:L=p:=by have:=d'e 47 L;rw[hs] at this;exact this.symm
 have eq:Rat.divInt (sgn L (vl (strip p))) 1=((sgn L (vl (strip p)):Int):Rat):=by rw[<- Rat.num_divInt_den ((sgn L (vl (strip p)):Int):Rat),Rat.num_intCast,Rat.den_intCast];rfl
 have es:shw (Rat.divInt (sgn L (vl (strip p))) 1)=dec (sgn L (vl (strip p))):=by
  rw[eq];unfold shw;rw[Rat.den_intCast,Rat.num_intCast,if_pos rfl]
 rw[es];unfold ajS;rw[f1];dsimp only;constructor
 ·intro h;refine if_pos ⟨hw,λz=>?_⟩;have e0:sgn L (vl (strip p))=0:=by have:=c'C L (vl (strip p));omega
  rw[e0] at h;have:(dec 0).head?=some 45:=by rw[h];exact z.2
  exact absurd ((c'a 0).mp this) (by decide)
 ·intro h;rw[if_neg];rintro⟨_,z⟩;exact h ((l'z f2 hw z).trans eL.symm)
theorem s'i{L p b:List Nat}(hs:ahO 47 L=[p,b])(hw:whole 6 (strip p)=true)(hb:whole 6 b=true)(h0:¬ vl b=0):(shw (Rat.divInt (sgn L (vl (strip p))) (vl b))=L->ajS L=some ((Rat.divInt (sgn L (vl (strip p))) (vl b)).num,(((Rat.divInt (sgn L (vl (strip p))) (vl b)).den:Nat):Int)))/\(¬ shw (Rat.divInt (sgn L (vl (strip p))) (vl b))=L->ajS L=none):=by
 obtain⟨f1,f2⟩:=fig hs;have eL:p++47 :: b=L:=by have:=d'e 47 L;rw[hs] at this;exact this
 have full:Nat.gcd (vl (strip p)) (vl b)=1->(Rat.divInt (sgn L (vl (strip p))) (vl b)).num=sgn L (vl (strip p))/\(Rat.divInt (sgn L (vl (strip p))) (vl b)).den=vl b:=λg=>by
  have e:Rat.divInt (sgn L (vl (strip p))) (vl b)=⟨sgn L (vl (strip p)),vl b,h0,by rw[c'C];exact g⟩:=by
   conv=>rhs;rw[<- Rat.num_divInt_den (⟨sgn L (vl (strip p)),vl b,h0,by rw[c'C];exact g⟩:Rat)]
  rw[e];exact⟨rfl,rfl⟩
 have hu:ajS L=if whole 6 (strip p)=true/\whole 6 b=true/\2<=vl b/\Nat.gcd (vl (strip p)) (vl b)=1/\¬ (vl (strip p)=0/\L.head?=some 45) then some (sgn L (vl (strip p)),((vl b:Nat):Int)) else none:=by
  unfold ajS;rw[f1]
 rw[hu];constructor
 ·intro h;generalize hq:Rat.divInt (sgn L (vl (strip p))) (vl b)=q at h full;have hsp:ahO 47 (shw q)=[p,b]:=by rw[h];exact hs
  unfold shw at hsp;by_cases hd:q.den=1
  ·rw[if_pos hd,b'q (d'L _)] at hsp;cases hsp
  ·rw[if_neg hd,c'u (d'L _),b'q (j'x _)] at hsp;obtain⟨e1,e2⟩:=List.cons.inj hsp;obtain⟨e2,_⟩:=List.cons.inj e2;have ed:q.den=vl b:=by rw[<- e2,c'j]
   have en:q.num.natAbs=vl (strip p):=by rw[<- e1,e'y,c'j]
   have g:Nat.gcd (vl (strip p)) (vl b)=1:=by rw[<- en,<- ed];exact q.reduced
   have dp:=q.den_pos;obtain⟨f3,f4⟩:=full g;rw[f3,f4];refine if_pos ⟨hw,hb,by omega,g,λz=>?_⟩
   ·have hl:p.head?=some 45:=f2.mpr z.2;rw[<- e1] at hl;have:=(c'a _).mp hl;have:=z.1;omega
 ·intro h;rw[if_neg];rintro⟨_,_,h2,g,z⟩;obtain⟨f3,f4⟩:=full g;apply h;unfold shw;rw[f3,f4,if_neg (by omega),l'z f2 hw z,g'k hb];exact eL
theorem h'E{L p:List Nat}{ps:List (List Nat)}(hs:ahO 47 L=p :: ps)(h:2<(p :: ps).length\/((strip p :: ps).all (whole 6))=false):ajS L=none:=by
 obtain⟨f1,f2⟩:=fig hs;unfold ajS;rw[f1];cases ps with
 |nil=>
  rcases h with h |h
  ·exact absurd h (by show ¬ 2<1;omega)
  ·refine if_neg ?_;rintro⟨z,_⟩;rw[List.all_cons,z] at h;cases h
 |cons b ps=>
  cases ps with
  |nil=>
   rcases h with h |h
   ·exact absurd h (by show ¬ 2<2;omega)
   ·refine if_neg ?_;rintro⟨z,z2,_⟩;rw[List.all_cons,z,List.all_cons,z2] at h;cases h
  |cons c ps=>rfl
theorem p'k{L p b:List Nat}(hs:ahO 47 L=[p,b])(h0:vl b=0):ajS L=none:=by
 obtain⟨f1,f2⟩:=fig hs;unfold ajS;rw[f1];dsimp only;rw[if_neg];rintro⟨_,_,z,_⟩;omega
inductive Tm where
 |num (q:Rat) |edge (w n:Str) |times (q:Rat) (t:Tm) |plus (a b:Tm) |minus (a b:Tm)
def Tm.tag:Tm->Nat
 |.num _=>0 |.edge _ _=>1 |.times _ _=>2 |.plus _ _=>3 |.minus _ _=>4
def Tm.dep:Tm->Nat
 |.num _=>0 |.edge _ _=>0 |.times _ t=>t.dep + 1 |.plus a b=>max a.dep b.dep + 1 |.minus a b=>max a.dep b.dep + 1
def edg:Tm->List (Str×Str)
 |.num _=>[] |.edge w n=>[(w,n)] |.times _ t=>edg t |.plus a b=>edg a ++ edg b |.minus a b=>edg a ++ edg b
section
variable{P:Program}{w:World}{K:W.Frag}{mg:Str->Option Value}{base:Heap}
local macro_rules |`(tactic|walk_at "p")=>do
 let a:=("l'w s'g p'g j't h'D w_i p'e l'n o'Z j'k l'o s'a l'p j'l h'C l'q s'b j'm j'n l'r p'a s'c s'd j'o j'p l's l't s'e j'q l'u j'r i_l i_f i_d m'w m'x q'K m'y m'z w'e i_o w'f i_t w'g s'f p'b j's l'v aiT lendf frzf dnf nolf nltf r'T v'Y o'Q r'U r'V r'W r'X r'Y j'f l'h r'Z o'R v'J v'K v'L n'O k'z n'P n'Q v'M n'R r'o n'S k'A n'T r'p n'U k'B n'V n'W e'p i'S k'C v'N i'T k'D r'q n'X r'r n'Y n'Z k'E k'F r's r't r'u o'a i'U o'b k'G e'R o'c k'H k'I i'V o'd o'e k'J c'z o'f g'D k'K i'W o'g o'h k'L e'S o'i k'M k'N i'X o'j o'k k'O b'm o'l g'E k'P i'Y o'm o'n k'Q e'T o'o g'F k'R i'Z o'p o'q k'S k'T k'U k'V k'W k'X g'G k'Y k'Z o'r j'a g'H g'I m'r g'J l'a l'b g'K l'c o's l'd o'F o'G aj2 Option.getD_some o't e'U r'v v'O r'w r'x r'y r'z r'A r'B r'C o'K o'L List.length_map r'P o'H o'I o'J d'J j'd j'e d'n l'e r'R g'd o'v g'e o'w o'x o'y o'z r'E w_lt v'P r'F r'G v'Q r'H r'I r'J r'K r'L r'M o'A o'B o'C r'N o'D r'O o'E at0 at1 at2 at3 at4 List.map_cons List.map_nil List.getElem?_cons_succ List.getElem?_cons_zero List.set_cons_zero List.set_cons_succ lends frzs dns nols nlts Bool.and_self if_true if_false ite_true ite_false true_and and_true List.cons_append List.nil_append List.replicate Nat.reduceSub List.length_cons List.length_nil Nat.reduceAdd Nat.reduceLeDiff V.int.injEq decide_not decide_true decide_false Bool.not_true Bool.not_false Bool.false_eq_true Bool.true_eq_false j'b j'c o'u r'D r'j r'k v'C e_l e_f e_d e_o e_t q'w v'D g'C m'p m'q i'f n'K i'P i'Q r'm n'L n'M n'N v'E v'F v'G v'H v'I k'x k'y Tr.int.injEq reduceCtorEq".splitOn " ").toArray.map λx=>Lean.mkIdent x.toName
 `(tactic|simp only[$[$a:ident],*])
local macro_rules |`(tactic|walk_at "q")=>do
 let a:=("l'w s'g p'g j't h'D w_i p'e l'n o'Z j'k l'o s'a l'p j'l h'C l'q s'b j'm j'n l'r p'a s'c s'd j'o j'p l's l't s'e j'q l'u j'r i_l i_f i_d m'w m'x q'K m'y m'z w'e i_o w'f i_t w'g s'f p'b j's l'v aiT lendf frzf dnf nolf nltf r'T v'Y o'Q r'U r'V r'W r'X r'Y j'f l'h r'Z o'R v'J v'K v'L n'O k'z n'P n'Q v'M n'R r'o n'S k'A n'T r'p n'U k'B n'V n'W i'S k'C v'N i'T k'D r'q n'X r'r n'Y n'Z k'E k'F r's r't r'u o'a i'U o'b k'G e'R o'c k'H k'I i'V o'd o'e k'J c'z o'f g'D k'K i'W o'g o'h k'L e'S o'i k'M k'N i'X o'j o'k k'O b'm o'l g'E k'P i'Y o'm o'n k'Q e'T o'o g'F k'R i'Z o'p o'q k'S k'T k'U k'V k'W k'X g'G k'Y k'Z o'r j'a g'H g'I m'r g'J l'a l'b g'K l'c o's l'd o'F o'G aj2 Option.getD_some o't e'U r'v v'O r'w r'x r'y r'z r'A r'B r'C o'K o'L List.length_map r'P o'H o'I o'J d'J j'd j'e d'n l'e r'R g'd o'v g'e o'w o'x o'y o'z r'E w_lt v'P r'F r'G v'Q r'H r'I r'J r'K r'L r'M o'A o'B o'C r'N o'D r'O o'E at0 at1 at2 at3 at4 List.map_cons List.map_nil List.getElem?_cons_succ List.getElem?_cons_zero List.set_cons_zero List.set_cons_succ lends frzs dns nols nlts Bool.and_self if_true if_false ite_true ite_false true_and and_true List.cons_append List.nil_append List.replicate Nat.reduceSub List.length_cons List.length_nil Nat.reduceAdd Nat.reduceLeDiff V.int.injEq decide_not decide_true decide_false Bool.not_true Bool.not_false Bool.false_eq_true Bool.true_eq_false j'b j'c o'u r'D r'j r'k v'C e_l e_f e_d e_o e_t q'w v'D g'C m'p m'q i'f n'K i'P i'Q r'm n'L n'M n'N v'E v'F v'G v'H v'I k'x k'y Tr.int.injEq reduceCtorEq".splitOn " ").toArray.map λx=>Lean.mkIdent x.toName
 `(tactic|simp only[$[$a:ident],*])
theorem d'U(T:Tx K mg){z:Bool}:FnOk P w K mg base CX0 1 T.aaf T.aag ["one","other"] (spP K z 0 2 aoC):=by
 refine a'v T.aah ahU rfl (by decide) λ_ _ _ _ _ _ hr=>?_
 have hu:=a'o hr;refine⟨_,(a'b (i'c PassesOwn.never (a'i (d'I hr.units) b'z (qv 1) a'c (by walk_at "u")) (a'b (a'k (i:=2) ahU.nd (by decide) rfl (Or.inl rfl) (a'B (qv 0) (qv 1)))
  (a'b (a'k (i:=0) ahU.nd (by decide) rfl (Or.inl rfl) (qv 1))
  (a'e (a'k (i:=1) ahU.nd (by decide) rfl (Or.inl rfl) (qv 2))))))
  (a'e (a'g (qv 0)))),?_⟩
 rintro xs Q' _ ⟨_,a,b,rfl,ha,hb,q⟩;refine⟨λm ρ=>∃ x y z,ρ=[.int x,.int y,z]/\0<=x/\0<=y/\gd x y=gd a b/\m=y.toNat,⟨_,a,b,.hole,rfl,ha,hb,rfl,rfl⟩,?_⟩;rintro m ρ ⟨x,y,z,rfl,hx,hy,e,rfl⟩;walk_at "p";by_cases h0:y=0
 ·subst h0;walk_at "p";rw[<- e,k'o x hx] at q;exact q _
 ·rw[if_pos (by simp[h0])];refine⟨by omega,?_⟩;refine⟨(x % y).toNat,?_,_,_,_,rfl,hy,Int.emod_nonneg _ h0,?_,rfl⟩
  ·have:=Int.emod_lt_of_pos x (show 0<y by omega);have:=Int.emod_nonneg x h0;omega
  ·rw[n'h hx (by omega)];exact e
theorem t'S(T:Tx K mg){z:Bool}:FnOk P w K mg base CX0 2 T.aaa T.aab ["top","bottom"] (spP K z 0 2 alj):=by
 refine a'v T.aac akg rfl (by decide) λ_ _ _ _ _ _ hr=>?_
 have hu:=a'o hr;refine⟨_,(a'b (a't (a'i (a'y hr.units) a'm (qv 1) a'c (by walk_at "u")) (a'e e'O) a'l)
  (a'b (a'k (i:=2) akg.nd (by decide) rfl (Or.inl rfl) (a'j ((d'U T).mono (by omega)) (by walk_at "z") (λ_ _ h=>h.1) hr rfl T.aaj T.aah.kp T.aai (QA.frz (a'a (a'V d'z e'L rfl T.ahA rfl (a'a (qv 0) a'd)) (a'a (a'V d'z e'L rfl T.ahA rfl (a'a (qv 1) a'd)) a'd)))))
  (a'b (a't (a'i f'u c'G (qv 1) a'c (by walk_at "u")) (a'e (a'k (i:=2) akg.nd (by decide) rfl (Or.inl rfl) (d'G (qv 2)))) a'l)
  (a'e (a'g (c'Y (a'a (a'R (qv 0) (qv 2)) (a'a (a'R (qv 1) (qv 2)) a'd)))))))),?_⟩
 rintro xs Q' _ ⟨_,a,b,rfl,hb,h2,q⟩;walk_at "p";rw[if_neg (by simp[hb])];refine⟨rfl,_,_,rfl,by split<;>omega,by split<;>omega,λρ=>?_⟩;rw[s'D];rw[r'l,<- i'q hb,<- i'r hb] at q;unfold dv at q;by_cases h:b<0
 ·rw[if_pos h] at q;rw[if_pos (decide_eq_true h)];walk_at "p";exact⟨i'R hb h2,i'R hb h2,q _⟩
 ·rw[if_neg h] at q;rw[if_neg (by simp[h])];walk_at "p";exact⟨e'Q hb h2,e'Q hb h2,q _⟩
theorem t'T(c:Nat):alk (Str.ofString "0123456789") ⟨#[c]⟩=(decide (48<=c) && decide (c<=57)):=by
 unfold alk;rw[StrLaws.found_one];have e:(Str.ofString "0123456789").cps.toList=[48,49,50,51,52,53,54,55,56,57]:=by walk_at "k"
 rw[e,Bool.eq_iff_iff];simp;omega
theorem w'l:Str.ofString ""=tx []:=by walk_at "k"
theorem s_0:Str.ofString "0"=tx [48]:=by walk_at "k"
theorem s_m:Str.ofString "-"=tx [45]:=by walk_at "k"
theorem q'P:Str.ofString "/"=tx [47]:=by walk_at "k"
theorem p'l(k:Bool)(x:Str)(Q:Tr->Prop):amb k [.str x] Q=(x.length<=1000000/\Q (.int x.length)):=rfl
theorem e'z(L M:List Nat):decide (tx L=tx M)=decide (L=M):=decide_eq_decide.mpr w'k
theorem w'm{c:Nat}{r:List Nat}{Q:Tr->Prop}(h:(c :: r).length<=1000000)(q:Q (.str (tx [c]))):akw (.str (tx (c :: r))) (.int 0) Q:=by
 refine⟨by rw[a'p];exact h,?_⟩;rw[a'x,at0];exact q
def alV:PSp:=ai6 2 λxs Q=>∃(L:List Nat)(n:Nat),xs=[.str (tx L),.int n]/\L.length<=100000/\Q (.bl (whole n L))
theorem d'f(T:Tx K mg){z:Bool}:FnOk P w K mg base CX0 1 T.aak T.aal ["word","most"] (spP K z 0 2 alV):=by
 refine a'v T.aam j'Y rfl (by decide) λ_ _ _ _ _ _ hr=>?_
 have hu:=a'o hr;refine⟨_,(a'b (a't (QW.t (b's (a'i (a'y hr.units) a'm (qv 0) a'f (by walk_at "u")) (b's (a'i d'F b'S (a'V b'j a'P rfl T.ahB rfl (a'a (qv 0) a'd)) (qv 1) (by walk_at "u")) (b'u (b'r (b'c (a'V (e'g rfl) g'B rfl T.ahK rfl (a'a (e'o (N:=["sign"]) (ix:=[none]) rfl (v'U (qv 0)) (i'K (i:=0) (by decide) rfl) (λ_ _ _ _ _=>d'm) (λ_ _ _ _ _=>(b'f h'g l'g (qv 0) (q'v rfl T.afa) (by walk_at "u"))) True.intro) a'd)))))))) (a'e (a'g b'T)) a'l)
  (a'e (a'g (x'r (b'f (a'y hr.units) a'm (qv 0) a'f (by walk_at "u")) (d'H (b'f (d'I hr.units) b'z (a'n hu (qv 0) a'c (λ_ _=>rfl)) a'f (by walk_at "u"))))))),?_⟩
 rintro xs Q' _ ⟨_,L,n,rfl,h1,q⟩;walk_at "p";rw[w'l,s_0,e'z,e'z];split
 ·rename_i c;have c:L=[]:=of_decide_eq_true c;subst c;exact q _
 rename_i c1;have c1:¬ L=[]:=λz=>c1 (decide_eq_true z)
 rw[p'l];refine⟨by rw[a'p];omega,?_⟩;walk_at "p";rw[a'p];have q0:(¬ L.length<=n\/dig L=false\/(¬ L=[48]/\L.head?=some 48))->∀ ρ,Q' (.bl false) ρ:=λh=>by
  have e:whole n L=false:=by
   cases e:whole n L with
   |false=>rfl
   |true=>
    obtain⟨_,a,b,d⟩:=b'p e;rcases h with h |h |h
    ·exact absurd a h
    ·rw[h] at b;cases b
    ·rcases d with d |d
     ·exact absurd d h.1
     ·exact absurd h.2 d
  rw[e] at q;exact q
 have q1:L.length<=n->dig L=true->(L=[48]\/¬ L.head?=some 48)->∀ ρ,Q' (.bl true) ρ:=λa b d=>by
  have e:whole n L=true:=by unfold whole;rw[decide_eq_false c1,decide_eq_true a,b];simpa using d
  rw[e] at q;exact q
 split
 ·rename_i c;have c:=of_decide_eq_true c;exact q0 (.inl (by omega)) _
 rename_i c2;have c2:L.length<=n:=by
  have:¬ ((n:Int)<L.length):=λz=>c2 (decide_eq_true z)
  omega
 rw[a'x];refine CLoop.map L _ (λc=>decide (48<=c) && decide (c<=57)) (by omega) (λc hc R hR=>?_) ?_
 ·walk_at "p";rw[t'T];exact hR
 refine⟨_,rfl,?_⟩;walk_at "p";have ed:(L.map λc=>decide (48<=c) && decide (c<=57)).all id=dig L:=by unfold dig;rw[List.all_map];rfl
 rw[ed];split
 ·rename_i c;exact q0 (.inr (.inl (by simpa using c))) _
 rename_i c3;have c3:dig L=true:=by simpa using c3
 split
 ·rename_i c;exact q1 c2 c3 (.inl (of_decide_eq_true c)) _
 rename_i c4;have c4:¬ L=[48]:=λz=>c4 (decide_eq_true z)
 cases L with
 |nil=>exact absurd rfl c1
 |cons c r=>
  refine w'm (by omega) ?_;walk_at "p";rw[e'z];by_cases h:c=48
  ·subst h;rw[decide_eq_true rfl];exact q0 (.inr (.inr ⟨c4,rfl⟩)) _
  ·rw[decide_eq_false (λz=>h (by simpa using z))];exact q1 c2 c3 (.inr λz=>h (by simpa using z)) _
theorem p'm{q:Rat}{k:Nat}(h:bs q<=k):bi q.num<=k:=Nat.le_trans (u'S q) h
def alo:PSp:=ai6 1 λxs Q=>∃ q:Rat,xs=[Enc.t q]/\bs q<=400/\Q (.str (tx (shw q)))
theorem t'U{n k:Nat}(h:n<2 ^ k):(dgs n).length<=k+1:=by
 unfold dgs;rw[List.length_map];refine (Nat.length_toDigits_le_iff (by decide) (Nat.succ_pos k)).mpr (Nat.lt_of_lt_of_le h ?_);exact Nat.le_trans (Nat.pow_le_pow_left (by decide) k) (Nat.pow_le_pow_right (by decide) (Nat.le_succ k))
theorem c'b{a:Int}{k:Nat}(h:bi a<=k):(dec a).length<=k+2:=by
 have:=t'U (e'I h);unfold dec;split
 ·rw[List.length_cons];omega
 ·omega
theorem c'N{a:Int}{k:Nat}(h:bi a<=k)(hk:k<=1900):a.natAbs.log2<1920:=by
 unfold bi bl at h;split at h
 ·rename_i z;rw[z];decide
 ·omega
theorem e'Z(i:Int)(Q:Tr->Prop)(h:i.natAbs.log2<1920)(q:Q (.str (tx (dec i)))):anx [.int i] Q:=⟨h,by rw[l'y];exact q⟩
theorem l'A(q:Rat):dec (q.den:Int)=dgs q.den:=by unfold dec;rw[if_neg (by omega),Int.natAbs_natCast]
theorem c'c(T:Tx K mg){z:Bool}:FnOk P w K mg base CX0 1 T.aau T.aav ["number"] (spP K z 0 1 alo):=by
 refine a'v T.aaw aiE rfl (by decide) λ_ _ _ _ _ _ hr=>?_
 have hu:=a'o hr;refine⟨_,(a'b (a'k (i:=1) aiE.nd (by decide) rfl (Or.inl rfl) (b't b'k c'y rfl T.ahL rfl (a'a (a'n hu (qv 0) a'c (λ_ _=>rfl)) a'd)))
  (a'b (a't (a'i (a'y hr.units) a'm (a'n hu (qv 0) a'c (λ_ _=>rfl)) a'c (by walk_at "u")) (a'e (a'g (qv 1))) a'l)
  (a'b (a'k (i:=2) aiE.nd (by decide) rfl (Or.inl rfl) (b't b'k c'y rfl T.ahL rfl (a'a (a'n hu (qv 0) a'c (λ_ _=>rfl)) a'd)))
  (a'e (a'g (b'w (a'L (qv 1) (b'b (a'L (qv 2) b'v))))))))),?_⟩
 rintro xs Q' _ ⟨_,q,rfl,h1,k⟩;walk_at "p";have b1:=p'm h1;have b2:=Nat.le_trans (n'j q) h1;have l1:=c'b b1;have l2:=c'b b2;refine e'Z _ _ (c'N b1 (by decide)) ?_;walk_at "p";unfold shw at k;split
 ·rename_i c;have c:(q.den:Int)=1:=of_decide_eq_true c;rw[if_pos (by omega)] at k;exact k _
 ·rename_i c;have c:¬ (q.den:Int)=1:=λz=>c (decide_eq_true z)
  rw[if_neg (by omega),<- l'A] at k;refine e'Z _ _ (c'N b2 (by decide)) ?_;walk_at "p";have e:Str.empty=tx []:=rfl;rw[e,q'P,b'U,b'U,b'U,a'p,a'p,a'p,a'p,a'p];have k:∀ ρ,Q' (.str (tx ([]++dec q.num++[47]++dec q.den))) ρ:=by rw[show []++dec q.num++[47]++dec (q.den:Int)=dec q.num++47 :: dec (q.den:Int) by simp];exact k
  simp only[List.length_append,List.length_nil,List.length_cons];exact⟨by omega,by omega,by omega,by omega,by omega,by omega,k _⟩
def amG(C:Addr):ajm:=λxs Q q=>xs.length=1/\∃ L:List Nat,xs=[.str (tx L)]/\L.length<=20000/\(∀ a b,ajS L=some (a,b)->∀ ρ,Q (.tup [.int a,.int b]) ρ)/\(ajS L=none->q (.ref C))
theorem d'M(c:Nat):∀ L:List Nat,(ahO c L).length<=L.length+1
 |[]=>Nat.le_refl _
 |x :: r=>by
  have ih:=d'M c r;have e:ahO c (x :: r)=if x=c then [] :: ahO c r else match ahO c r with |[]=>[[x]] |p :: ps=>(x :: p) :: ps:=rfl
  rw[e];split
  ·rw[List.length_cons,List.length_cons];omega
  ·cases hs:ahO c r with
   |nil=>show 1<=_;omega
   |cons p ps=>rw[hs] at ih;show ps.length+1<=_;rw[List.length_cons] at ih ⊢;omega
theorem c'v{c:Nat}:∀{L p:List Nat},p∈ahO c L->p.length<=L.length
 |[],p,m=>by rw[List.mem_singleton.mp m]; exact Nat.le_refl _
 |x :: r,p,m=>by
  have e:ahO c (x :: r)=if x=c then [] :: ahO c r else match ahO c r with |[]=>[[x]] |p :: ps=>(x :: p) :: ps:=rfl
  rw[e] at m;have ih:=λ{p:List Nat}(m:p∈ahO c r)=>c'v m
  split at m
  ·rcases List.mem_cons.mp m with m |m
   ·rw[m];exact Nat.zero_le _
   ·exact Nat.le_succ_of_le (ih m)
  ·cases hs:ahO c r with
   |nil=>exact absurd hs (c'k _ _)
   |cons q ps=>
    rw[hs] at m ih;rcases List.mem_cons.mp m with m |m
    ·rw[m];exact Nat.succ_le_succ (ih List.mem_cons_self)
    ·exact Nat.le_succ_of_le (ih (List.mem_cons_of_mem _ m))
theorem x'v(L:List Nat):stW (tx L) (tx [45])=decide (L.head?=some 45):=by
 unfold stW;cases L with
 |nil=>rfl
 |cons c r=>
  have h:=StrLaws.subAt_one (tx (c :: r)) 45 0;rw[a'x] at h;have h:0+(tx [45]).length<=(tx (c :: r)).length/\Builtin.Str.subAt (tx (c :: r)) (tx [45]) 0=true↔(c :: r)[0]?=some 45:=h;rw[Bool.eq_iff_iff,Bool.and_eq_true,decide_eq_true_eq,decide_eq_true_eq,h];rfl
theorem x'w{L:List Nat}:Txt.slice (tx L) (some 1) none=tx L.tail:=by
 show StrLaws.sliceText (tx L) (some 1) none=_;cases L with
 |nil=>rfl
 |cons c r=>
  rw[StrLaws.sliceText_from ⟨by decide,by rw[a'x,List.length_cons];omega⟩];rw[a'x];show tx (List.take ((((c :: r).length:Nat):Int) - 1).toNat (List.drop 1 (c :: r)))=tx r;rw[List.drop_one,List.tail_cons,List.take_of_length_le (by rw[List.length_cons];omega)]
theorem s'j{L:List Nat}(h:whole 6 L=true):vl L<1000000:=by
 have e:=g'k h;have l:=(b'p h).2.1;rw[<- e] at l;unfold dgs at l;rw[List.length_map] at l;exact (Nat.length_toDigits_le_iff (by decide) (by decide)).mp l
theorem s'k{b:List Nat}(h:whole 6 b=true):intText? (tx b)=some (vl b:Int):=by
 obtain⟨h1,h2,h3,_⟩:=b'p h;exact intText_digits (d'q h3) h1 (by rw[a'p];omega)
theorem x'e{L p:List Nat}(f:p.head?=some 45↔L.head?=some 45)(h:whole 6 (strip p)=true):intText? (tx p)=some (sgn L (vl (strip p))):=by
 obtain⟨h1,h2,h3,_⟩:=b'p h;unfold sgn;by_cases c:L.head?=some 45
 ·rw[if_pos c];have e:=j'y (f.mpr c);exact intText_neg (cs:=strip p) e (d'q h3) h1 (by rw[a'p,e,List.length_cons];omega)
 ·rw[if_neg c];have e:=f'G (λz=>c (f.mp z));rw[e] at h ⊢;exact s'k h
theorem p'n(p:List Nat):(strip p).length<=p.length:=by
 unfold strip;split
 ·rw[List.length_tail];omega
 ·exact Nat.le_refl _
theorem m'F(p:List Nat):p.length<=(strip p).length+1:=by
 unfold strip;split
 ·rw[List.length_tail];omega
 ·omega
theorem h'F(ps:List (List Nat)):((ps.map tx).map λx:Str=>whole 6 x.cps.toList).all id=ps.all (whole 6):=by
 rw[List.map_map,List.all_map];rfl
theorem x'x(x t:Tr)(xs:List Tr)(Q:List Tr->Prop):akI (x :: xs) (.int 0) t Q=Q (t :: xs):=by
 have e:ixN (x :: xs).length 0=some 0:=by unfold ixN;rw[if_pos (by decide),if_pos (by rw[List.length_cons];omega)];rfl
 unfold akI;dsimp only;rw[e];rfl
theorem s'l(x:Str)(l h:Option Int)(Q:Tr->Prop):wSl (.str x) l h Q=(x.length<=1000000/\Q (.str (Txt.slice x l h))):=rfl
theorem f'a{q:Rat}(h:bs q<=400){Q:Tr->List Tr->Prop}(k:∀ ρ,Q (.str (tx (shw q))) ρ):alo [Enc.t q] Q:=⟨rfl,q,rfl,h,k⟩
theorem l'B{a b:Int}(h0:b≠0)(h:bi b<=7990){Q:Tr->List Tr->Prop}(k:∀ ρ,Q (Enc.t (Rat.divInt a b)) ρ):alj [.int a,.int b] Q:=⟨rfl,a,b,rfl,h0,h,k⟩
theorem g'S(T:Tx K mg){z:Bool}:FnOk P w K mg base (CX1 P w) 3 T.aap T.aaq ["word"] (spX K z 0 1 (amG T.afn)):=by
 refine b'g T.aar ahZ rfl (by decide) λ_ _ _ _ _ _ qx hr=>?_
 have hu:=a'o hr;refine⟨_,(a'b (a'k (i:=1) ahZ.nd (by decide) rfl (Or.inl rfl) (e'W (qv 0) a'f ⟨rfl,rfl,rfl,rfl⟩))
  (a'b (i'd (i:=2) ahZ.nd (by decide) rfl (Or.inl rfl) (b't (v'q rfl) q'r rfl T.ahG rfl (a'a (qv 1) a'd)))
  (a'b (a't (b'c (q'z (qv 0) a'f ⟨rfl,rfl,rfl,rfl⟩)) (a'e (v'B (a'Q 2) a'c (i'J (a'n hu (qv 1) a'c (λ_ _=>rfl)) (e'n a'c) m'o))) a'l)
  (a'b (a't (QW.t (b's (a'i d'F b'S (a'V b'j a'P rfl T.ahB rfl (a'a (qv 1) a'd)) a'c (by walk_at "u")) (b'u (b'r (b'c (a'V (e'g rfl) g'B rfl T.ahK rfl (a'a (e'o (N:=["piece"]) (ix:=[none]) rfl (q'u (qv 2)) (i'K (i:=0) (by decide) rfl) (λ_ _ _ _ _=>d'm) (λ_ _ _ _ _=>(a'j ((d'f T).mono (by omega)) (by walk_at "z") (λ_ _ h=>h.1) hr rfl T.aao T.aam.kp T.aan (QA.frz (a'a (qv 0) (a'a (i'O rfl T.afe) a'd))))) True.intro) a'd))))))) (a'e (b'l rfl rfl rfl rfl rfl rfl T.afo PySem.F.excBase_ValueError T.afp a'f)) a'l)
  (a'b (a'k (i:=3) ahZ.nd (by decide) rfl (Or.inl rfl) (m'm (a'i (a'y hr.units) a'm (a'V b'j a'P rfl T.ahB rfl (a'a (qv 1) a'd)) a'c (by walk_at "u")) (b't b'L b'Y rfl T.ahJ rfl (a'a (a'n hu (qv 1) a'c (λ_ _=>rfl)) a'd)) a'c))
  (a'b (a't (a'i (a'y hr.units) a'm (qv 3) a'c (by walk_at "u")) (a'e (b'l rfl rfl rfl rfl rfl rfl T.afo PySem.F.excBase_ValueError T.afp a'f)) a'l)
  (a'b (a'k (i:=4) ahZ.nd (by decide) rfl (Or.inl rfl) (a'j ((t'S T).mono (by omega)) (by walk_at "z") (λ_ _ h=>h.1) hr rfl T.aae T.aac.kp T.aad (QA.frz (a'a (b't b'L b'Y rfl T.ahJ rfl (a'a (a'n hu (qv 1) a'c (λ_ _=>rfl)) a'd)) (a'a (qv 3) a'd)))))
  (a'b (a't (a'i (d'I hr.units) b'z (a'j ((c'c T).mono (by omega)) (by walk_at "z") (λ_ _ h=>h.1) hr rfl T.aay T.aaw.kp T.aax (QA.frz (a'a (qv 4) a'd))) (qv 0) (by walk_at "u")) (a'e (b'l rfl rfl rfl rfl rfl rfl T.afo PySem.F.excBase_ValueError T.afp a'f)) a'l)
  (a'e (a'g (qv 4))))))))))),?_⟩
 rintro xs Q' _ ⟨_,L,rfl,h1,q,q'⟩;walk_at "p";rw[q'P,s_m,x'v,b'Z,a'x];have n1:=d'M 47 L;cases hs:ahO 47 L with
 |nil=>exact absurd hs (c'k _ _)
 |cons p ps=>
  rw[hs] at n1;obtain⟨f1,f2⟩:=fig hs;have pl:=c'v (c:=47) (L:=L) (p:=p) (by rw[hs];exact List.mem_cons_self);have bl:∀ b∈ps,b.length<=20000:=λb m=>Nat.le_trans (c'v (c:=47) (L:=L) (by rw[hs];exact List.mem_cons_of_mem _ m)) h1
  have sl:=p'n p;rw[List.length_map];refine⟨rfl,by rw[a'p];omega,by omega,?_⟩;walk_at "p";simp only[Option.map_some];have e3:¬ ((2:Int)<((ps.length+1:Nat):Int))->ps=[]\/∃ b,ps=[b]:=λh=>by
   cases ps with
   |nil=>exact .inl rfl
   |cons b ps=>cases ps with
    |nil=>exact .inr ⟨b,rfl⟩
    |cons c ps=>exact absurd (by simp only[List.length_cons];omega) h
  have wl:∀ x∈(strip p :: ps).map tx,∃ M:List Nat,x=tx M/\M.length<=20000:=λx m=>by
   obtain⟨M,hM,rfl⟩:=List.mem_map.mp m;refine⟨M,rfl,?_⟩;rcases List.mem_cons.mp hM with rfl |hM
   ·omega
   ·exact bl M hM
  split
  case' isTrue=>
   rename_i c;have c:=of_decide_eq_true c;walk_at "p";rw[s'l];refine⟨by rw[a'p];omega,?_⟩;rw[x'w,show p.tail=strip p by unfold strip;rw[if_pos (f2.mpr c)]];walk_at "p";rw[x'x]
  case' isFalse=>
   rename_i c;have c:¬ L.head?=some 45:=λz=>c (decide_eq_true z)
   have es:strip p=p:=f'G (λz=>c (f2.mp z))
  all_goals
   split
   ·rename_i c2;exact q' (h'E hs (.inl (by have:=of_decide_eq_true c2;rw[List.length_cons];omega)))
   rename_i c2;have c3:=e3 (λz=>c2 (decide_eq_true z));walk_at "p"
  case' isTrue.isFalse=>
   refine CLoop.map ((strip p :: ps).map tx) Enc.t (λx=>whole 6 x.cps.toList) (by rw[List.length_map,List.length_cons];rw[List.length_cons] at n1;omega) (λx hx R hR=>?_) ?_
  case' isFalse.isFalse=>
   refine CLoop.map ((p :: ps).map tx) Enc.t (λx=>whole 6 x.cps.toList) (by rw[List.length_map];omega) (λx hx R hR=>?_) ?_
  case isTrue.isFalse.refine_1=>
   obtain⟨M,rfl,hM⟩:=wl x hx;walk_at "p";exact⟨rfl,M,6,rfl,by omega,λρ=>hR⟩
  case isFalse.isFalse.refine_1=>
   rw[es] at wl;obtain⟨M,rfl,hM⟩:=wl x hx;walk_at "p";exact⟨rfl,M,6,rfl,by omega,λρ=>hR⟩
  case' isTrue.isFalse.refine_2=>
   refine⟨_,rfl,?_⟩;rw[if_pos rfl,h'F]
  case' isFalse.isFalse.refine_2=>
   refine⟨_,rfl,?_⟩;rw[if_pos rfl,h'F,show (p :: ps).all (whole 6)=(strip p :: ps).all (whole 6) by rw[es]]
  all_goals
   walk_at "p";split
   ·rename_i c5;exact q' (h'E hs (.inr (by rw[Bool.not_eq_true'] at c5;exact c5)))
   rename_i c5;have c5:(strip p :: ps).all (whole 6)=true:=by simpa using c5
   rw[List.all_cons,Bool.and_eq_true] at c5;have hw:=c5.1;have hw6:=(b'p hw).2.1;have hs2:=m'F p;have hv:=s'j hw;have ip:=x'e (L:=L) f2 hw;have ba:bi (sgn L (vl (strip p)))<=20:=f'r 20 (by rw[c'C];omega);rcases c3 with rfl |⟨b,rfl⟩
   ·split
    ·rename_i z;exact absurd (of_decide_eq_true z) (show ¬ ((1:Nat):Int)=2 by decide)
    rw[if_neg (by decide)];refine⟨_,ip,by rw[a'p];omega,l'B (by decide) (by walk_at "k") λρ=>?_⟩;obtain⟨r1,r2⟩:=s'h hs hw;walk_at "p";refine f'a (Nat.le_trans (h'q (k:=20) (by decide) ba (by walk_at "k")) (by decide)) λρ=>?_
    walk_at "p";rw[e'z];split
    ·rename_i c6;exact q' (r2 (by simpa using c6))
    ·rename_i c6;have d:=q _ _ (r1 (by simpa using c6));have eq:Rat.divInt (sgn L (vl (strip p))) 1=((sgn L (vl (strip p)):Int):Rat):=by rw[<- Rat.num_divInt_den ((sgn L (vl (strip p)):Int):Rat),Rat.num_intCast,Rat.den_intCast];rfl
     rw[eq];exact d _
   ·have hb:whole 6 b=true:=by simpa using c5.2
    have hbv:=s'j hb;have bb:bi (vl b:Int)<=20:=f'r 20 (by omega);have lb:=(b'p hb).2.1;split;rotate_left
    ·rename_i z;exact absurd (decide_eq_true (show ((2:Nat):Int)=2 by decide)) z
    refine r'Q _ _ (tx b) (at1 _ _ _) ?_;walk_at "p";refine⟨_,s'k hb,by rw[a'p];omega,?_⟩;split
    ·rename_i c6;have c6:((vl b:Nat):Int)=0:=of_decide_eq_true c6;exact q' (p'k hs (by omega))
    rename_i c6;have c6:¬ ((vl b:Nat):Int)=0:=λz=>c6 (decide_eq_true z)
    refine⟨_,ip,by rw[a'p];omega,l'B c6 (by omega) λρ=>?_⟩;obtain⟨r1,r2⟩:=s'i hs hw hb (by omega);walk_at "p";refine f'a (Nat.le_trans (h'q (k:=20) c6 ba bb) (by decide)) λρ=>?_
    walk_at "p";rw[e'z];split
    ·rename_i c7;exact q' (r2 (by simpa using c7))
    ·rename_i c7;exact q _ _ (r1 (by simpa using c7)) _
theorem f'H(x:Str):∀ ns:List Str,inT (.str x) (ns.map Tr.str)=decide (x∈ns)
 |[]=>rfl
 |n :: ns=>by
  have ih:=f'H x ns;unfold inT inV at ih ⊢;rw[List.map_cons,List.map_cons,List.any_cons,ih];by_cases h:x=n
  ·simp[h,amc,eqV]
  ·simp[h,amc,eqV,Ne.symm h]
theorem flat_strs:∀ ns:List Str,(ns.map Tr.str).all akc=true
 |[]=>rfl
 |n :: ns=>by rw[List.map_cons,List.all_cons,flat_strs ns]; rfl
theorem c'O{neg:Bool}{x:Str}{ns:List Str}{Q:Tr->Prop}(q:Q (.bl (if neg=true then !decide (x∈ns) else decide (x∈ns)))):wIn neg (.str x) (.tup (ns.map Tr.str)) Q:=⟨rfl,flat_strs ns,by rw[f'H];exact q⟩
theorem b'O(a:Str):Str.empty++a=a:=by
 cases a with |mk c=>show Str.mk (#[]++c)=_;rw[Array.empty_append]
theorem a'h(a b:Str):(a++b).length=a.length+b.length:=by
 show (a.cps++b.cps).size=_;rw[Array.size_append];rfl
def dwn(x:Str):Bool:=decide (x∈([("top":Str),"height","bottom","centre","drop"]:List Str))
def amH(x:Str):Str:=if dwn x=true then "down" else "across"
def anF:PSp:=ai6 1 λxs Q=>∃ x:Str,xs=[.str x]/\Q (.str (amH x))
theorem p'o(T:Tx K mg){z:Bool}:FnOk P w K mg base CX0 1 T.aaE T.aaF ["word"] (spP K z 0 1 anF):=by
 refine a'v T.aaG p'h rfl (by decide) λ_ _ _ _ _ _ hr=>?_
 have hu:=a'o hr;refine⟨_,(a'e (a'g (m'm (a'i (i'G hu) e'm (qv 0) (e'Y ["top","height","bottom","centre","drop"] rfl T.aeV T.aeW) (by walk_at "u")) a'f a'f))),?_⟩;rintro xs Q' _ ⟨_,x,rfl,q⟩;walk_at "p";refine c'O (ns:=["top","height","bottom","centre","drop"]) ?_;rw[show amH x=(if decide (x∈([("top":Str),"height","bottom","centre","drop"]:List Str))=true then ("down":Str) else "across") from rfl] at q;walk_at "p";by_cases h:x∈([("top":Str),"height","bottom","centre","drop"]:List Str)
 ·rw[if_pos (decide_eq_true h)] at q ⊢;exact q _
 ·rw[if_neg (by rw[decide_eq_true_eq];exact h)] at q ⊢;exact q _
def amI(C:Addr)(f:Str):PSp:=λxs Q=>xs.length=2/\∃ v:Tr,xs=[Tr.ins .o C [],v]/\Cl v=true/\v≠.hole/\∀ ρ:List Tr,ρ[0]?=some (Tr.ins .o C [(f,v)])->Q .non ρ
def akt(C:Addr)(f g:Str):PSp:=λxs Q=>xs.length=3/\∃ v u:Tr,xs=[Tr.ins .o C [],v,u]/\Cl v=true/\v≠.hole/\Cl u=true/\u≠.hole/\∀ ρ:List Tr,ρ[0]?=some (Tr.ins .o C [(f,v),(g,u)])->Q .non ρ
theorem b'A{t:Tr}{Q:Tr->Prop}(h:t≠.hole)(q:Q t):pV (some t) Q:=by
 cases t with
 |hole=>exact absurd rfl h
 |_=>exact q
theorem d'a{f g:Str}{v u:Tr}(h:¬ f=g):aj8 g u [(f,v)]=[(f,v),(g,u)]:=by
 show (if f=g then _ else _)=_;rw[if_neg h];rfl
theorem c'l(T:Tx K mg){z:Bool}:FnOk P w K mg base CX0 1 T.acy T.acz ["self","number"] (spP K z 1 2 (amI T.afy "number")):=by
 refine a'v T.acA e'w rfl (by decide) λ_ _ _ _ _ _ hr=>?_
 have hu:=a'o hr;refine⟨_,(a'e (a'X (a'Q 0) (qv 1))),?_⟩;rintro xs Q' _ ⟨_,v,rfl,h1,h4,q⟩;have c:=clo v h1;walk_at "p";rw[c.l];exact b'A h4 ⟨c.t,⟨T.afA,T.afB⟩,by decide,q _ rfl⟩
theorem c'P(T:Tx K mg){z:Bool}:FnOk P w K mg base CX0 1 T.acO T.acP ["self","word","name"] (spP K z 1 3 (akt T.afG "word" "name")):=by
 refine a'v T.acQ f'A rfl (by decide) λ_ _ _ _ _ _ hr=>?_
 have hu:=a'o hr;refine⟨_,(a'b (a'X (a'Q 0) (qv 1))
  (a'e (a'X (a'Q 0) (qv 2)))),?_⟩
 rintro xs Q' _ ⟨_,v,u,rfl,h1,h2,h3,h4,q⟩;have c:=clo v h1;have d:=clo u h3;walk_at "p";rw[c.l,d.l];exact b'A h2 ⟨c.t,⟨T.afI,T.afJ⟩,by decide,b'A h4 ⟨d.t,⟨T.afI,T.afK⟩,by decide,q _ (by rw[d'a (by walk_at "k")];rfl)⟩⟩
theorem c'r(T:Tx K mg){z:Bool}:FnOk P w K mg base CX0 1 T.ac0 T.ac1 ["self","number","inner"] (spP K z 1 3 (akt T.afP "number" "inner")):=by
 refine a'v T.ac2 f'd rfl (by decide) λ_ _ _ _ _ _ hr=>?_
 have hu:=a'o hr;refine⟨_,(a'b (a'X (a'Q 0) (qv 1))
  (a'e (a'X (a'Q 0) (qv 2)))),?_⟩
 rintro xs Q' _ ⟨_,v,u,rfl,h1,h2,h3,h4,q⟩;have c:=clo v h1;have d:=clo u h3;walk_at "p";rw[c.l,d.l];exact b'A h2 ⟨c.t,⟨T.afR,T.afS⟩,by decide,b'A h4 ⟨d.t,⟨T.afR,T.afT⟩,by decide,q _ (by rw[d'a (by walk_at "k")];rfl)⟩⟩
theorem c'Q(T:Tx K mg){z:Bool}:FnOk P w K mg base CX0 1 T.adc T.add ["self","one","other"] (spP K z 1 3 (akt T.afY "one" "other")):=by
 refine a'v T.ade f'B rfl (by decide) λ_ _ _ _ _ _ hr=>?_
 have hu:=a'o hr;refine⟨_,(a'b (a'X (a'Q 0) (qv 1))
  (a'e (a'X (a'Q 0) (qv 2)))),?_⟩
 rintro xs Q' _ ⟨_,v,u,rfl,h1,h2,h3,h4,q⟩;have c:=clo v h1;have d:=clo u h3;walk_at "p";rw[c.l,d.l];exact b'A h2 ⟨c.t,⟨T.af0,T.af1⟩,by decide,b'A h4 ⟨d.t,⟨T.af0,T.af2⟩,by decide,q _ (by rw[d'a (by walk_at "k")];rfl)⟩⟩
theorem c's(T:Tx K mg){z:Bool}:FnOk P w K mg base CX0 1 T.ado T.adp ["self","one","other"] (spP K z 1 3 (akt T.af7 "one" "other")):=by
 refine a'v T.adq f'e rfl (by decide) λ_ _ _ _ _ _ hr=>?_
 have hu:=a'o hr;refine⟨_,(a'b (a'X (a'Q 0) (qv 1))
  (a'e (a'X (a'Q 0) (qv 2)))),?_⟩
 rintro xs Q' _ ⟨_,v,u,rfl,h1,h2,h3,h4,q⟩;have c:=clo v h1;have d:=clo u h3;walk_at "p";rw[c.l,d.l];exact b'A h2 ⟨c.t,⟨T.af9,T.aga⟩,by decide,b'A h4 ⟨d.t,⟨T.af9,T.agb⟩,by decide,q _ (by rw[d'a (by walk_at "k")];rfl)⟩⟩
def tmT(T:Tx K mg):Tm->Tr
 |.num q=>.ins .f T.afy [("number",Enc.t q)]
 |.edge a n=>.ins .f T.afG [("word",.str a),("name",.str n)]
 |.times q t=>.ins .f T.afP [("number",Enc.t q),("inner",tmT T t)]
 |.plus a b=>.ins .f T.afY [("one",tmT T a),("other",tmT T b)]
 |.minus a b=>.ins .f T.af7 [("one",tmT T a),("other",tmT T b)]
theorem a'W(T:Tx K mg):∀ t:Tm,Cl (tmT T t)=true
 |.num q=>by show (Cl (Enc.t q) && true) = true; rw[Enc.c]; rfl
 |.edge a n=>rfl
 |.times q t=>by show (Cl (Enc.t q) && (Cl (tmT T t) && true)) = true; rw[Enc.c,a'W T t]; rfl
 |.plus a b=>by show (Cl (tmT T a) && (Cl (tmT T b) && true)) = true; rw[a'W T a,a'W T b]; rfl
 |.minus a b=>by show (Cl (tmT T a) && (Cl (tmT T b) && true)) = true; rw[a'W T a,a'W T b]; rfl
theorem c'f(T:Tx K mg)(t:Tm):tmT T t≠.hole:=by cases t<;>exact λz=>by cases z
theorem m_l(T:Tx K mg)(t:Tm):lend (tmT T t)=tmT T t:=(clo _ (a'W T t)).l
theorem m_f(T:Tx K mg)(t:Tm):Pu.frz (tmT T t)=tmT T t:=(clo _ (a'W T t)).f
theorem m_d(T:Tx K mg)(t:Tm):dn (tmT T t)=tmT T t:=(clo _ (a'W T t)).d
theorem m_o(T:Tx K mg)(t:Tm):nol (tmT T t)=true:=(clo _ (a'W T t)).o
theorem m_t(T:Tx K mg)(t:Tm):nlt (tmT T t)=true:=(clo _ (a'W T t)).t
theorem m_v(T:Tx K mg)(t:Tm)(Q:Tr->Prop):pV (some (tmT T t)) Q=Q (tmT T t):=by cases t<;>rfl
def DT(T:Tx K mg)(C:Addr)(g:Nat):Prop:=(C=T.afy/\g=0)\/(C=T.afG/\g=1)\/(C=T.afP/\g=2)\/(C=T.afY/\g=3)\/(C=T.af7/\g=4)
theorem lk1{m f:Str}{v:Tr}(h:(m == f)=false):[(f,v)].lookup m=none:=by simp[List.lookup,h]
theorem lk2{m f g:Str}{v u:Tr}(h:(m == f)=false)(h':(m == g)=false):[(f,v),(g,u)].lookup m=none:=by simp[List.lookup,h,h']
theorem j'z(T:Tx K mg){m:Str}{t:Tm}{Q:Nat->Prop}(h1:(m == ("number":Str))=false)(h2:(m == ("word":Str))=false)(h3:(m == ("name":Str))=false)(h4:(m == ("inner":Str))=false)(h5:(m == ("one":Str))=false)(h6:(m == ("other":Str))=false)(q:Q t.tag):ajP (DT T) m (tmT T t) Q:=by
 cases t with
 |num _=>exact⟨0,.inl ⟨rfl,rfl⟩,lk1 h1,q⟩
 |edge _ _=>exact⟨1,.inr (.inl ⟨rfl,rfl⟩),lk2 h2 h3,q⟩
 |times _ _=>exact⟨2,.inr (.inr (.inl ⟨rfl,rfl⟩)),lk2 h1 h4,q⟩
 |plus _ _=>exact⟨3,.inr (.inr (.inr (.inl ⟨rfl,rfl⟩))),lk2 h5 h6,q⟩
 |minus _ _=>exact⟨4,.inr (.inr (.inr (.inr ⟨rfl,rfl⟩))),lk2 h5 h6,q⟩
theorem b'B{f g:Str}{c:Addr}{k:Fl}{x:Tr}{r:List (Str×Tr)}{Q:Tr->Prop}(h1:Cls K c)(h2:NoAttr K c f)(q:Q x):akl K f (.ins k c ((f,x) :: r)) Q:=by
 refine⟨⟨h1,h2⟩,?_⟩;rw[List.lookup_cons_self];exact q
theorem b'F{f g:Str}{c:Addr}{k:Fl}{x y:Tr}{Q:Tr->Prop}(h1:Cls K c)(h2:NoAttr K c f)(h:(f == g)=false)(q:Q x):akl K f (.ins k c [(g,y),(f,x)]) Q:=by
 refine⟨⟨h1,h2⟩,?_⟩;rw[List.lookup_cons,h,List.lookup_cons_self];exact q
theorem w'n{t:Tm}(h:t.tag=0):∃ q,t=.num q:=by cases t<;>first |exact⟨_,rfl⟩ |cases h
theorem w'o{t:Tm}(h:t.tag=1):∃ a b,t=.edge a b:=by cases t<;>first |exact⟨_,_,rfl⟩ |cases h
theorem m'G{t:Tm}(h:t.tag=2):∃ a b,t=.times a b:=by cases t<;>first |exact⟨_,_,rfl⟩ |cases h
theorem m'H{t:Tm}(h:t.tag=3):∃ a b,t=.plus a b:=by cases t<;>first |exact⟨_,_,rfl⟩ |cases h
theorem m'I{t:Tm}(h:t.tag=4):∃ a b,t=.minus a b:=by cases t<;>first |exact⟨_,_,rfl⟩ |cases h
def aib(T:Tx K mg)(n g:Nat):PSp:=ai6 1 λxs Q=>∃ t:Tm,xs=[tmT T t]/\t.tag=g/\t.dep<=n/\(edg t).length<=1000/\Q (.lst .o ((edg t).map Enc.t))
theorem b'C(T:Tx K mg){n:Nat}{t:Tm}(hd:t.dep<=n)(hl:(edg t).length<=1000){Q:Tr->List Tr->Prop}(q:∀ ρ,Q (.lst .o ((edg t).map Enc.t)) ρ):ajP (DT T) "edges" (tmT T t) λg=>aib T n g [tmT T t] Q:=j'z T (by walk_at "k") (by walk_at "k") (by walk_at "k") (by walk_at "k") (by walk_at "k") (by walk_at "k") ⟨rfl,t,rfl,rfl,hd,hl,q⟩
theorem d'N{α:Type}[Enc α](xs:List α):nols (xs.map Enc.t)=true:=m'p xs
theorem h'P(T:Tx K mg)(n:Nat):FnOk P w K mg base CX0 1 T.acC T.acD ["self"] (spP K true 0 1 (aib T n 0)):=by
 refine a'v T.acE h'N rfl (by decide) λ_ _ _ _ _ _ hr=>?_
 have hu:=a'o hr;refine⟨_,(a'e (a'g (a'U a'd))),?_⟩;rintro xs Q' _ ⟨_,t,rfl,ht,hd,hl,q⟩;obtain⟨a,rfl⟩:=w'n ht;rw[show tmT T (.num a)=.ins .f T.afy [("number",Enc.t a)] from rfl];walk_at "p";exact q _
theorem h'Q(T:Tx K mg)(n:Nat):FnOk P w K mg base CX0 1 T.acS T.acT ["self"] (spP K true 0 1 (aib T n 1)):=by
 refine a'v T.acU h'O rfl (by decide) λ_ _ _ _ _ _ hr=>?_
 have hu:=a'o hr;refine⟨_,(a'e (a'g (a'U (a'a (c'Y (a'a (a'r K rfl (qv 0)) (a'a (a'r K rfl (qv 0)) a'd))) a'd)))),?_⟩;rintro xs Q' _ ⟨_,t,rfl,ht,hd,hl,q⟩;obtain⟨a,b,rfl⟩:=w'o ht;rw[show tmT T (.edge a b)=.ins .f T.afG [("word",.str a),("name",.str b)] from rfl];walk_at "p";refine b'B (g:="name") T.afI T.afJ ?_;walk_at "p";refine b'F T.afI T.afK (by walk_at "k") ?_;walk_at "p";exact q _
theorem g'T(T:Tx K mg)(m:Nat)(ih:∀ C g,DT T C g->MOkA P w K mg base CX0 (m+1) "edges" C ["self"] (spP K true 0 1 (aib T m g))):FnOk P w K mg base CX0 (m+2) T.ac4 T.ac5 ["self"] (spP K true 0 1 (aib T (m+1) 2)):=by
 refine a'v T.ac6 d'o rfl (by decide) λ_ _ _ _ _ _ hr=>?_
 have hu:=a'o hr;refine⟨_,(a'e (a'g (a'D ((λC g d=>MOkA.mono (ih C g d) (by omega))) (by walk_at "z") (λ_ _ _ h=>h.1) hr (a'r K rfl (qv 0))))),?_⟩;rintro xs Q' _ ⟨_,t,rfl,ht,hd,hl,q⟩;obtain⟨b,t,rfl⟩:=m'G ht;rw[show tmT T (.times b t)=.ins .f T.afP [("number",Enc.t b),("inner",tmT T t)] from rfl];walk_at "p";refine b'F T.afR T.afT (by walk_at "k") ?_;simp only[m_l,m_d];exact b'C T (Nat.le_of_succ_le_succ hd) hl λρ=>⟨d'N (edg t),q _⟩
theorem h'R(T:Tx K mg)(m:Nat)(ih:∀ C g,DT T C g->MOkA P w K mg base CX0 (m+1) "edges" C ["self"] (spP K true 0 1 (aib T m g))):FnOk P w K mg base CX0 (m+2) T.adg T.adh ["self"] (spP K true 0 1 (aib T (m+1) 3)):=by
 refine a'v T.adi d'S rfl (by decide) λ_ _ _ _ _ _ hr=>?_
 have hu:=a'o hr;refine⟨_,(a'e (a'g (a'z (a'D ((λC g d=>MOkA.mono (ih C g d) (by omega))) (by walk_at "z") (λ_ _ _ h=>h.1) hr (a'r K rfl (qv 0))) (a'D ((λC g d=>MOkA.mono (ih C g d) (by omega))) (by walk_at "z") (λ_ _ _ h=>h.1) hr (a'r K rfl (qv 0)))))),?_⟩;rintro xs Q' _ ⟨_,t,rfl,ht,hd,hl,q⟩;obtain⟨a,b,rfl⟩:=m'H ht;have hd:max a.dep b.dep+1<=m+1:=hd;have hl:(edg a++edg b).length<=1000:=hl;rw[List.length_append] at hl;rw[show tmT T (.plus a b)=.ins .f T.afY [("one",tmT T a),("other",tmT T b)] from rfl];walk_at "p";refine b'B (g:="other") T.af0 T.af1 ?_;simp only[m_l,m_d];refine b'C T (by omega) (by omega) λρ=>?_
 try walk_at "p"
 refine b'F T.af0 T.af2 (by walk_at "k") ?_;simp only[m_l,m_d];refine b'C T (by omega) (by omega) λρ=>?_
 walk_at "p";rw[<- List.map_append];exact⟨by omega,d'N _,q _⟩
theorem g'U(T:Tx K mg)(m:Nat)(ih:∀ C g,DT T C g->MOkA P w K mg base CX0 (m+1) "edges" C ["self"] (spP K true 0 1 (aib T m g))):FnOk P w K mg base CX0 (m+2) T.ads T.adt ["self"] (spP K true 0 1 (aib T (m+1) 4)):=by
 refine a'v T.adu d'p rfl (by decide) λ_ _ _ _ _ _ hr=>?_
 have hu:=a'o hr;refine⟨_,(a'e (a'g (a'z (a'D ((λC g d=>MOkA.mono (ih C g d) (by omega))) (by walk_at "z") (λ_ _ _ h=>h.1) hr (a'r K rfl (qv 0))) (a'D ((λC g d=>MOkA.mono (ih C g d) (by omega))) (by walk_at "z") (λ_ _ _ h=>h.1) hr (a'r K rfl (qv 0)))))),?_⟩;rintro xs Q' _ ⟨_,t,rfl,ht,hd,hl,q⟩;obtain⟨a,b,rfl⟩:=m'I ht;have hd:max a.dep b.dep+1<=m+1:=hd;have hl:(edg a++edg b).length<=1000:=hl;rw[List.length_append] at hl;rw[show tmT T (.minus a b)=.ins .f T.af7 [("one",tmT T a),("other",tmT T b)] from rfl];walk_at "p";refine b'B (g:="other") T.af9 T.aga ?_;simp only[m_l,m_d];refine b'C T (by omega) (by omega) λρ=>?_
 try walk_at "p"
 refine b'F T.af9 T.agb (by walk_at "k") ?_;simp only[m_l,m_d];refine b'C T (by omega) (by omega) λρ=>?_
 walk_at "p";rw[<- List.map_append];exact⟨by omega,d'N _,q _⟩
theorem g'V(T:Tx K mg):FnOk P w K mg base CX0 1 T.ac4 T.ac5 ["self"] (spP K true 0 1 (aib T 0 2)):=by
 refine a'v T.ac6 d'o rfl (by decide) λcdv A outer s H E hr=>⟨_,a'e e'O,?_⟩
 rintro xs Q' _ ⟨_,t,rfl,ht,hd,_⟩;obtain⟨a,b,rfl⟩:=m'G ht;exact absurd hd (Nat.not_succ_le_zero _)
theorem h'S(T:Tx K mg):FnOk P w K mg base CX0 1 T.adg T.adh ["self"] (spP K true 0 1 (aib T 0 3)):=by
 refine a'v T.adi d'S rfl (by decide) λcdv A outer s H E hr=>⟨_,a'e e'O,?_⟩
 rintro xs Q' _ ⟨_,t,rfl,ht,hd,_⟩;obtain⟨a,b,rfl⟩:=m'H ht;exact absurd hd (Nat.not_succ_le_zero _)
theorem g'W(T:Tx K mg):FnOk P w K mg base CX0 1 T.ads T.adt ["self"] (spP K true 0 1 (aib T 0 4)):=by
 refine a'v T.adu d'p rfl (by decide) λcdv A outer s H E hr=>⟨_,a'e e'O,?_⟩
 rintro xs Q' _ ⟨_,t,rfl,ht,hd,_⟩;obtain⟨a,b,rfl⟩:=m'I ht;exact absurd hd (Nat.not_succ_le_zero _)
theorem q'Q(T:Tx K mg):∀ n,∀ C g,DT T C g->MOkA P w K mg base CX0 (n+1) "edges" C ["self"] (spP K true 0 1 (aib T n g)):=λn=>by
 have leaf:∀ n C g,(C=T.afy/\g=0)\/(C=T.afG/\g=1)->MOkA P w K mg base CX0 1 "edges" C ["self"] (spP K true 0 1 (aib T n g)):=λn C g h=>by
  rcases h with⟨rfl,rfl⟩ |⟨rfl,rfl⟩
  ·exact⟨T.afA,_,_,T.afD,(h'P T n).mono (by decide),T.acF⟩
  ·exact⟨T.afI,_,_,T.afM,(h'Q T n).mono (by decide),T.acV⟩
 induction n with
 |zero=>
  intro C g h;rcases h with h |h |⟨rfl,rfl⟩ |⟨rfl,rfl⟩ |⟨rfl,rfl⟩
  ·exact leaf 0 C g (.inl h)
  ·exact leaf 0 C g (.inr h)
  ·exact⟨T.afR,_,_,T.afV,(g'V T).mono (by decide),T.ac7⟩
  ·exact⟨T.af0,_,_,T.af4,(h'S T).mono (by decide),T.adj⟩
  ·exact⟨T.af9,_,_,T.agd,(g'W T).mono (by decide),T.adw⟩
 |succ m ih=>
  intro C g h;rcases h with h |h |⟨rfl,rfl⟩ |⟨rfl,rfl⟩ |⟨rfl,rfl⟩
  ·exact (leaf (m+1) C g (.inl h)).mono (by omega)
  ·exact (leaf (m+1) C g (.inr h)).mono (by omega)
  ·exact⟨T.afR,_,_,T.afV,(g'T T m ih).mono (by omega),T.ac7⟩
  ·exact⟨T.af0,_,_,T.af4,(h'R T m ih).mono (by omega),T.adj⟩
  ·exact⟨T.af9,_,_,T.agd,(g'U T m ih).mono (by omega),T.adw⟩
noncomputable def wys(t:Tm):List Str:=srt (ajk ((edg t).map λe=>amH e.1))
def akU(T:Tx K mg)(n:Nat):PSp:=ai6 1 λxs Q=>∃ t:Tm,xs=[tmT T t]/\t.dep<=n/\(edg t).length<60/\Q (.lst .o ((wys t).map Enc.t))
theorem b'x(T:Tx K mg)(n:Nat):FnOk P w K mg base CX0 (n+3) T.acG T.acH ["self"] (spP K true 0 1 (akU T n)):=by
 refine a'v T.acI j'v rfl (by decide) λ_ _ _ _ _ _ hr=>?_
 have hu:=a'o hr;refine⟨_,(a'e (a'g (x't rfl rfl T.ahI rfl T.ahH (e'o (N:=["edge"]) (ix:=[none]) rfl (q'u (a'D ((λC g d=>MOkA.mono (q'Q T n C g d) (by omega))) (by walk_at "z") (λ_ _ _ h=>h.1) hr (qv 0))) (i'K (i:=0) (by decide) rfl) (λ_ _ _ _ _=>d'm) (λ_ _ _ _ _=>(a'j ((p'o T).mono (by omega)) (by walk_at "z") (λ_ _ h=>h.1) hr rfl T.aaI T.aaG.kp T.aaH (QA.frz (a'a (a'n hu (qv 0) a'c (λ_ _=>rfl)) a'd)))) True.intro)))),?_⟩;rintro xs Q' _ ⟨_,t,rfl,hd,hl,q⟩;simp only[List.cons_append,List.nil_append];walk_at "p";simp only[m_l,m_d,m_v];refine b'C T hd (by omega) λρ=>?_
 walk_at "p";refine CLoop.map (edg t) Enc.t (λe=>amH e.1) (by omega) (λe he R hR=>?_) ?_
 ·rw[show (Enc.t e:Tr)=.tup [.str e.1,.str e.2] from rfl];walk_at "p";exact⟨rfl,e.1,rfl,λρ=>hR⟩
 ·exact⟨.o,_,rfl,by rw[List.length_map];exact hl,d'N _,q _⟩
theorem l'C(T:Tx K mg)(n:Nat):∀ C g,DT T C g->MOkA P w K mg base CX0 (n+3) "ways" C ["self"] (spP K true 0 1 (akU T n)):=λC g h=>by
 rcases h with⟨rfl,_⟩ |⟨rfl,_⟩ |⟨rfl,_⟩ |⟨rfl,_⟩ |⟨rfl,_⟩
 ·exact⟨T.afA,_,_,T.afE,b'x T n,T.acJ⟩
 ·exact⟨T.afI,_,_,T.afN,b'x T n,T.acJ⟩
 ·exact⟨T.afR,_,_,T.afW,b'x T n,T.acJ⟩
 ·exact⟨T.af0,_,_,T.af5,b'x T n,T.acJ⟩
 ·exact⟨T.af9,_,_,T.age,b'x T n,T.acJ⟩
theorem b'I{X:Cx}{k:Md}{lo:Nat}{sts:List Stmt}:QB X k lo sts akH:=⟨λ_ _ _=>False,λ_ _ _ _ _ _ h=>h.elim,λ_ _ _ _ _ _ _ _ _ _ _ h _=>h⟩
mutual
def txt:Tm->Str
 |.num q=>tx (shw q)
 |.edge a n=>a ++ " of " ++ n
 |.times q t=>tx (shw q) ++ " times " ++ brk t
 |.plus a b=>txt a ++ " and " ++ brk b
 |.minus a b=>txt a ++ " less " ++ brk b
def brk:Tm->Str
 |.plus a b=> "( " ++ (txt a ++ " and " ++ brk b) ++ " )"
 |.minus a b=> "( " ++ (txt a ++ " less " ++ brk b) ++ " )"
 |.num q=>tx (shw q)
 |.edge a n=>a ++ " of " ++ n
 |.times q t=>tx (shw q) ++ " times " ++ brk t
end
theorem t'V(t:Tm):(txt t).length<=(brk t).length:=by
 cases t with
 |plus a b=>show (txt a ++ " and " ++ brk b).length <= ("( " ++ (txt a ++ " and " ++ brk b) ++ " )").length; simp only[a'h]; omega
 |minus a b=>show (txt a ++ " less " ++ brk b).length <= ("( " ++ (txt a ++ " less " ++ brk b) ++ " )").length; simp only[a'h]; omega
 |_=>exact Nat.le_refl _
def Tm.sm:Tm->Prop
 |.num q=>bs q <= 400 |.edge _ _=>True |.times q t=>bs q <= 400 /\ t.sm |.plus a b=>a.sm /\ b.sm |.minus a b=>a.sm /\ b.sm
def aiy(T:Tx K mg)(n g:Nat):PSp:=ai6 1 λxs Q=>∃ t:Tm,xs=[tmT T t]/\t.tag=g/\t.dep<=n/\t.sm/\(txt t).length<=100000/\Q (.str (txt t))
theorem b'P(T:Tx K mg){n:Nat}{t:Tm}(hd:t.dep<=n)(hs:t.sm)(hl:(txt t).length<=100000){Q:Tr->List Tr->Prop}(q:∀ ρ,Q (.str (txt t)) ρ):ajP (DT T) "text" (tmT T t) λg=>aiy T n g [tmT T t] Q:=j'z T (by walk_at "k") (by walk_at "k") (by walk_at "k") (by walk_at "k") (by walk_at "k") (by walk_at "k") ⟨rfl,t,rfl,rfl,hd,hs,hl,q⟩
def amJ(T:Tx K mg)(n:Nat):PSp:=ai6 1 λxs Q=>∃ t:Tm,xs=[tmT T t]/\t.dep<=n/\t.sm/\(brk t).length<=100000/\Q (.str (brk t))
theorem g'X(T:Tx K mg)(n:Nat):FnOk P w K mg base CX0 8 T.acK T.acL ["self"] (spP K true 0 1 (aiy T n 0)):=by
 refine a'v T.acM g'Q rfl (by decide) λ_ _ _ _ _ _ hr=>?_
 have hu:=a'o hr;refine⟨_,(a'e (a'g (a'j ((c'c T).mono (by omega)) (by walk_at "z") (λ_ _ h=>h.1) hr rfl T.aay T.aaw.kp T.aax (QA.frz (a'a (a'r K rfl (qv 0)) a'd))))),?_⟩;rintro xs Q' _ ⟨_,t,rfl,ht,hd,hs,hl,q⟩;obtain⟨a,rfl⟩:=w'n ht;rw[show tmT T (.num a)=.ins .f T.afy [("number",Enc.t a)] from rfl];walk_at "p";refine b'B (g:="name") T.afA T.afB ?_;walk_at "p";exact f'a hs λρ=>⟨rfl,q _⟩
theorem j'A(T:Tx K mg)(n:Nat):FnOk P w K mg base CX0 8 T.acW T.acX ["self"] (spP K true 0 1 (aiy T n 1)):=by
 refine a'v T.acY ai3 rfl (by decide) λ_ _ _ _ _ _ hr=>?_
 have hu:=a'o hr;refine⟨_,(a'b (a'k (i:=1) ai3.nd (by decide) rfl (Or.inl rfl) (a'r K rfl (qv 0)))
  (a'b (a'k (i:=2) ai3.nd (by decide) rfl (Or.inl rfl) (a'r K rfl (qv 0)))
  (a'e (a'g (b'w (a'L (qv 1) (b'b (a'L (qv 2) b'v)))))))),?_⟩
 rintro xs Q' _ ⟨_,t,rfl,ht,hd,hs,hl,q⟩;obtain⟨a,b,rfl⟩:=w'o ht;have hl:(a++" of "++b).length<=100000:=hl;rw[a'h,a'h] at hl;rw[show tmT T (.edge a b)=.ins .f T.afG [("word",.str a),("name",.str b)] from rfl];walk_at "p";refine b'B (g:="name") T.afI T.afJ ?_;walk_at "p";refine b'F T.afI T.afK (by walk_at "k") ?_;walk_at "p";simp only[b'O,a'h];exact⟨by omega,by omega,by omega,by omega,by omega,by omega,q _⟩
theorem c'R(T:Tx K mg){l:Nat}(m:Nat)(ih:∀ C g,DT T C g->MOkA P w K mg base CX0 l "text" C ["self"] (spP K true 0 1 (aiy T m g))):FnOk P w K mg base CX0 (l+1) T.aaJ T.aaK ["term"] (spP K true 0 1 (amJ T m)):=by
 refine a'v T.aaL ajC rfl (by decide) λ_ _ _ _ _ _ hr=>?_
 have hu:=a'o hr;refine⟨_,(a'b (a'k (i:=1) ajC.nd (by decide) rfl (Or.inl rfl) (a'D ((λC g d=>MOkA.mono (ih C g d) (by omega))) (by walk_at "z") (λ_ _ _ h=>h.1) hr (qv 0)))
  (a'b (a't (b'c (w'h K rfl rfl T.ahD rfl (a'a (qv 0) (a'a (c'Y (a'a (d'd rfl T.afZ) (a'a (d'd rfl T.af8) a'd))) a'd)))) (a'e (a'g (b'w (b'b (a'L (qv 1) (b'b b'v)))))) a'l)
  (a'e (a'g (qv 1))))),?_⟩
 rintro xs Q' _ ⟨_,t,rfl,hd,hs,hl,q⟩;have bl:=t'V t;simp only[List.cons_append,List.nil_append];walk_at "p";simp only[m_l,m_d,m_v,m_f];refine b'P T hd hs (by omega) λρ=>?_
 try walk_at "p"
 clear bl;cases t with
 |num a=>
  refine⟨[T.afY,T.af7],false,rfl,T.ag9,T.ahv,?_⟩;dsimp only[wBl];rw[if_neg (by decide)];exact q _
 |edge a b=>
  refine⟨[T.afY,T.af7],false,rfl,T.aha,T.ahw,?_⟩;dsimp only[wBl];rw[if_neg (by decide)];exact q _
 |times a b=>
  refine⟨[T.afY,T.af7],false,rfl,T.ahb,T.ahx,?_⟩;dsimp only[wBl];rw[if_neg (by decide)];exact q _
 |plus a b=>
  refine⟨[T.afY,T.af7],true,rfl,T.ahc,T.ahy,?_⟩;dsimp only[wBl];rw[if_pos rfl];have e:brk (.plus a b)="( "++txt (.plus a b)++" )":=rfl;rw[e] at q;rw[e,a'h,a'h] at hl;simp only[b'O,a'h];exact⟨by omega,by omega,by omega,by omega,by omega,q _⟩
 |minus a b=>
  refine⟨[T.afY,T.af7],true,rfl,T.ahd,T.ahz,?_⟩;dsimp only[wBl];rw[if_pos rfl];have e:brk (.minus a b)="( "++txt (.minus a b)++" )":=rfl;rw[e] at q;rw[e,a'h,a'h] at hl;simp only[b'O,a'h];exact⟨by omega,by omega,by omega,by omega,by omega,q _⟩
theorem f'I(T:Tx K mg){n:Nat}{t:Tm}(hd:t.dep<=n)(hs:t.sm)(hl:(brk t).length<=100000){Q:Tr->List Tr->Prop}(q:∀ ρ,Q (.str (brk t)) ρ):amJ T n [tmT T t] Q:=⟨rfl,t,rfl,hd,hs,hl,q⟩
theorem h'T(T:Tx K mg){l:Nat}(hl8:8<=l)(m:Nat)(ih:∀ C g,DT T C g->MOkA P w K mg base CX0 l "text" C ["self"] (spP K true 0 1 (aiy T m g))):FnOk P w K mg base CX0 (l+2) T.ac8 T.ac9 ["self"] (spP K true 0 1 (aiy T (m+1) 2)):=by
 refine a'v T.ada ail rfl (by decide) λ_ _ _ _ _ _ hr=>?_
 have hu:=a'o hr;refine⟨_,(a'b (a'k (i:=1) ail.nd (by decide) rfl (Or.inl rfl) (a'j ((c'c T).mono (by omega)) (by walk_at "z") (λ_ _ h=>h.1) hr rfl T.aay T.aaw.kp T.aax (QA.frz (a'a (a'r K rfl (qv 0)) a'd))))
  (a'b (a'k (i:=2) ail.nd (by decide) rfl (Or.inl rfl) (a'j ((c'R T m ih).mono (by omega)) (by walk_at "z") (λ_ _ h=>h.1) hr rfl T.aaN T.aaL.kp T.aaM (QA.frz (a'a (a'r K rfl (qv 0)) a'd))))
  (a'e (a'g (b'w (a'L (qv 1) (b'b (a'L (qv 2) b'v)))))))),?_⟩
 rintro xs Q' _ ⟨_,t,rfl,ht,hd,hs,hl,q⟩;obtain⟨a,b,rfl⟩:=m'G ht;have hl:(tx (shw a)++" times "++brk b).length<=100000:=hl;rw[a'h,a'h] at hl;rw[show tmT T (.times a b)=.ins .f T.afP [("number",Enc.t a),("inner",tmT T b)] from rfl];walk_at "p";refine b'B (g:="inner") T.afR T.afS ?_
 try walk_at "p"
 refine f'a hs.1 λρ=>?_
 try walk_at "p"
 refine b'F T.afR T.afT (by walk_at "k") ?_
 try simp only[m_l,m_d,m_f]
 refine f'I T (Nat.le_of_succ_le_succ hd) hs.2 (by omega) λρ=>?_
 try walk_at "p"
 simp only[b'O,a'h];exact⟨by omega,by omega,by omega,by omega,by omega,by omega,q _⟩
theorem j'B(T:Tx K mg){l:Nat}(m:Nat)(ih:∀ C g,DT T C g->MOkA P w K mg base CX0 l "text" C ["self"] (spP K true 0 1 (aiy T m g))):FnOk P w K mg base CX0 (l+2) T.adk T.adl ["self"] (spP K true 0 1 (aiy T (m+1) 3)):=by
 refine a'v T.adm aiz rfl (by decide) λ_ _ _ _ _ _ hr=>?_
 have hu:=a'o hr;refine⟨_,(a'b (a'k (i:=1) aiz.nd (by decide) rfl (Or.inl rfl) (a'D ((λC g d=>MOkA.mono (ih C g d) (by omega))) (by walk_at "z") (λ_ _ _ h=>h.1) hr (a'r K rfl (qv 0))))
  (a'b (a'k (i:=2) aiz.nd (by decide) rfl (Or.inl rfl) (a'j ((c'R T m ih).mono (by omega)) (by walk_at "z") (λ_ _ h=>h.1) hr rfl T.aaN T.aaL.kp T.aaM (QA.frz (a'a (a'r K rfl (qv 0)) a'd))))
  (a'e (a'g (b'w (a'L (qv 1) (b'b (a'L (qv 2) b'v)))))))),?_⟩
 rintro xs Q' _ ⟨_,t,rfl,ht,hd,hs,hl,q⟩;obtain⟨a,b,rfl⟩:=m'H ht;have hd:max a.dep b.dep+1<=m+1:=hd;have hl:(txt a++" and "++brk b).length<=100000:=hl;rw[a'h,a'h] at hl;rw[show tmT T (.plus a b)=.ins .f T.afY [("one",tmT T a),("other",tmT T b)] from rfl];walk_at "p";refine b'B (g:="other") T.af0 T.af1 ?_
 try simp only[m_l,m_d,m_f]
 refine b'P T (by omega) hs.1 (by omega) λρ=>?_
 try walk_at "p"
 refine b'F T.af0 T.af2 (by walk_at "k") ?_
 try simp only[m_l,m_d,m_f]
 refine f'I (n:=m) T (by omega) hs.2 (by omega) λρ=>?_
 try walk_at "p"
 simp only[b'O,a'h];exact⟨by omega,by omega,by omega,by omega,by omega,by omega,q _⟩
theorem h'U(T:Tx K mg){l:Nat}(m:Nat)(ih:∀ C g,DT T C g->MOkA P w K mg base CX0 l "text" C ["self"] (spP K true 0 1 (aiy T m g))):FnOk P w K mg base CX0 (l+2) T.adx T.ady ["self"] (spP K true 0 1 (aiy T (m+1) 4)):=by
 refine a'v T.adz aim rfl (by decide) λ_ _ _ _ _ _ hr=>?_
 have hu:=a'o hr;refine⟨_,(a'b (a'k (i:=1) aim.nd (by decide) rfl (Or.inl rfl) (a'D ((λC g d=>MOkA.mono (ih C g d) (by omega))) (by walk_at "z") (λ_ _ _ h=>h.1) hr (a'r K rfl (qv 0))))
  (a'b (a'k (i:=2) aim.nd (by decide) rfl (Or.inl rfl) (a'j ((c'R T m ih).mono (by omega)) (by walk_at "z") (λ_ _ h=>h.1) hr rfl T.aaN T.aaL.kp T.aaM (QA.frz (a'a (a'r K rfl (qv 0)) a'd))))
  (a'e (a'g (b'w (a'L (qv 1) (b'b (a'L (qv 2) b'v)))))))),?_⟩
 rintro xs Q' _ ⟨_,t,rfl,ht,hd,hs,hl,q⟩;obtain⟨a,b,rfl⟩:=m'I ht;have hd:max a.dep b.dep+1<=m+1:=hd;have hl:(txt a++" less "++brk b).length<=100000:=hl;rw[a'h,a'h] at hl;rw[show tmT T (.minus a b)=.ins .f T.af7 [("one",tmT T a),("other",tmT T b)] from rfl];walk_at "p";refine b'B (g:="other") T.af9 T.aga ?_
 try simp only[m_l,m_d,m_f]
 refine b'P T (by omega) hs.1 (by omega) λρ=>?_
 try walk_at "p"
 refine b'F T.af9 T.agb (by walk_at "k") ?_
 try simp only[m_l,m_d,m_f]
 refine f'I (n:=m) T (by omega) hs.2 (by omega) λρ=>?_
 try walk_at "p"
 simp only[b'O,a'h];exact⟨by omega,by omega,by omega,by omega,by omega,by omega,q _⟩
theorem h'V(T:Tx K mg):FnOk P w K mg base CX0 1 T.ac8 T.ac9 ["self"] (spP K true 0 1 (aiy T 0 2)):=by
 refine a'v T.ada ail rfl (by decide) λ_ _ _ _ _ _ hr=>⟨_,b'I,?_⟩
 rintro xs Q' _ ⟨_,t,rfl,ht,hd,_⟩;obtain⟨a,b,rfl⟩:=m'G ht;exact absurd hd (Nat.not_succ_le_zero _)
theorem j'C(T:Tx K mg):FnOk P w K mg base CX0 1 T.adk T.adl ["self"] (spP K true 0 1 (aiy T 0 3)):=by
 refine a'v T.adm aiz rfl (by decide) λ_ _ _ _ _ _ hr=>⟨_,b'I,?_⟩
 rintro xs Q' _ ⟨_,t,rfl,ht,hd,_⟩;obtain⟨a,b,rfl⟩:=m'H ht;exact absurd hd (Nat.not_succ_le_zero _)
theorem h'W(T:Tx K mg):FnOk P w K mg base CX0 1 T.adx T.ady ["self"] (spP K true 0 1 (aiy T 0 4)):=by
 refine a'v T.adz aim rfl (by decide) λ_ _ _ _ _ _ hr=>⟨_,b'I,?_⟩
 rintro xs Q' _ ⟨_,t,rfl,ht,hd,_⟩;obtain⟨a,b,rfl⟩:=m'I ht;exact absurd hd (Nat.not_succ_le_zero _)
theorem g'Y(T:Tx K mg):∀ n,∀ C g,DT T C g->MOkA P w K mg base CX0 (2*n+8) "text" C ["self"] (spP K true 0 1 (aiy T n g)):=λn=>by
 have leaf:∀ n C g,(C=T.afy/\g=0)\/(C=T.afG/\g=1)->MOkA P w K mg base CX0 8 "text" C ["self"] (spP K true 0 1 (aiy T n g)):=λn C g h=>by
  rcases h with⟨rfl,rfl⟩ |⟨rfl,rfl⟩
  ·exact⟨T.afA,_,_,T.afF,g'X T n,T.acN⟩
  ·exact⟨T.afI,_,_,T.afO,j'A T n,T.acZ⟩
 induction n with
 |zero=>
  intro C g h;rcases h with h |h |⟨rfl,rfl⟩ |⟨rfl,rfl⟩ |⟨rfl,rfl⟩
  ·exact leaf 0 C g (.inl h)
  ·exact leaf 0 C g (.inr h)
  ·exact⟨T.afR,_,_,T.afX,(h'V T).mono (by decide),T.adb⟩
  ·exact⟨T.af0,_,_,T.af6,(j'C T).mono (by decide),T.adn⟩
  ·exact⟨T.af9,_,_,T.agf,(h'W T).mono (by decide),T.adA⟩
 |succ m ih=>
  intro C g h;rcases h with h |h |⟨rfl,rfl⟩ |⟨rfl,rfl⟩ |⟨rfl,rfl⟩
  ·exact (leaf (m+1) C g (.inl h)).mono (by omega)
  ·exact (leaf (m+1) C g (.inr h)).mono (by omega)
  ·exact⟨T.afR,_,_,T.afX,(h'T T (by omega) m ih).mono (by omega),T.adb⟩
  ·exact⟨T.af0,_,_,T.af6,(j'B T m ih).mono (by omega),T.adn⟩
  ·exact⟨T.af9,_,_,T.agf,(h'U T m ih).mono (by omega),T.adA⟩
theorem m'J{f g h:Str}{v u x:Tr}(h1:¬ f=h)(h2:¬ g=h):aj8 h x [(f,v),(g,u)]=[(f,v),(g,u),(h,x)]:=by
 unfold aj8;rw[if_neg h1,d'a h2]
theorem x'f{f g h k:Str}{v u x y:Tr}(h1:¬ f=k)(h2:¬ g=k)(h3:¬ h=k):aj8 k y [(f,v),(g,u),(h,x)]=[(f,v),(g,u),(h,x),(k,y)]:=by
 unfold aj8;rw[if_neg h1,m'J h2 h3]
theorem l'D(t:Tm):(wys t).length<=(edg t).length:=by
 unfold wys;rw[s'O];exact Nat.le_trans (d'E _) (by rw[List.length_map];exact Nat.le_refl _)
theorem h'G(T:Tx K mg){n:Nat}{t:Tm}(hd:t.dep<=n)(hl:(edg t).length<60){Q:Tr->List Tr->Prop}(q:∀ ρ,Q (.lst .o ((wys t).map Enc.t)) ρ):ajP (DT T) "ways" (tmT T t) λg=>akU T n [tmT T t] Q:=j'z T (by walk_at "k") (by walk_at "k") (by walk_at "k") (by walk_at "k") (by walk_at "k") (by walk_at "k") ⟨rfl,t,rfl,hd,hl,q⟩
theorem w_fld(T:Tx K mg){C:Addr}(h:C=T.agg\/C=T.agq\/C=T.agA):Cls K C/\NoAttr K C "near"/\NoAttr K C "far"/\NoAttr K C "rank"/\NoAttr K C "weight":=by
 rcases h with rfl |rfl |rfl
 ·exact⟨T.agi,T.agj,T.agk,T.agl,T.agm⟩
 ·exact⟨T.ags,T.agt,T.agu,T.agv,T.agw⟩
 ·exact⟨T.agC,T.agD,T.agE,T.agF,T.agG⟩
def amK(T:Tx K mg):ajm:=λxs Q q=>xs.length=5/\∃(C:Addr)(a b:Tm)(r v:Int),xs=[.ins .o C [],tmT T a,tmT T b,.int r,.int v]/\(C=T.agg\/C=T.agq\/C=T.agA)/\a.dep<=64/\b.dep<=64/\(edg a).length+(edg b).length<60/\
 (1<(ajk (wys a++wys b)).length->q (.ref T.afq))/\((ajk (wys a++wys b)).length<=1->∀ ρ:List Tr,ρ[0]?=some (Tr.ins .o C [("near",tmT T a),("far",tmT T b),("rank",.int r),("weight",.int v)])->Q .non ρ)
theorem a'S(T:Tx K mg):FnOk P w K mg base (CX1 P w) 70 T.adB T.adC ["self","near","far","rank","weight"] (spX K true 1 5 (amK T)):=by
 refine b'g T.adD f'C rfl (by decide) λ_ _ _ _ _ _ q hr=>?_
 have hu:=a'o hr;refine⟨_,(a'b (a't (a'i d'F b'S (x'u rfl rfl T.ahB rfl T.ahH (a'z (a'D ((λC g d=>MOkA.mono (l'C T 64 C g d) (by omega))) (by walk_at "z") (λ_ _ _ h=>h.1) hr (qv 1)) (a'D ((λC g d=>MOkA.mono (l'C T 64 C g d) (by omega))) (by walk_at "z") (λ_ _ _ h=>h.1) hr (qv 2)))) a'c (by walk_at "u")) (a'e (b'l rfl rfl rfl rfl rfl rfl T.afr PySem.F.excBase_ValueError T.afs a'f)) a'l)
  (a'b (a'X (a'Q 0) (qv 1))
  (a'b (a'X (a'Q 0) (qv 2))
  (a'b (a'X (a'Q 0) (qv 3))
  (a'e (a'X (a'Q 0) (qv 4))))))),?_⟩
 rintro xs Q' _ ⟨_,C,a,b,r,v,rfl,hC,ha,hb,hl,h1,h2⟩;simp only[List.cons_append,List.nil_append];walk_at "p"
 try simp only[m_l,m_d,m_v,m_f,m_t]
 refine h'G T ha (by omega) λρ=>?_
 try walk_at "p"
 try simp only[m_l,m_d,m_v,m_f,m_t]
 refine h'G T hb (by omega) λρ=>?_
 try walk_at "p"
 have la:=l'D a;have lb:=l'D b;obtain⟨w0,w1,w2,w3,w4⟩:=w_fld T hC;rw[<- List.map_append];refine⟨by omega,.o,_,rfl,by rw[List.length_append];omega,?_⟩;walk_at "q";split
 ·rename_i c;exact h1 (by have:=of_decide_eq_true c;omega)
 rename_i c;have c:¬ (1:Int)<_:=λz=>c (decide_eq_true z)
 simp only[d'a (show ¬ ("near":Str)="far" by walk_at "k"),m'J (show ¬ ("near":Str)="rank" by walk_at "k") (show ¬ ("far":Str)="rank" by walk_at "k"),x'f (show ¬ ("near":Str)="weight" by walk_at "k") (show ¬ ("far":Str)="weight" by walk_at "k") (show ¬ ("rank":Str)="weight" by walk_at "k")];exact⟨⟨w0,w1⟩,by decide,⟨w0,w2⟩,by decide,⟨w0,w3⟩,by simp only[List.length_cons,List.length_nil];decide,⟨w0,w4⟩,by simp only[List.length_cons,List.length_nil];decide,h2 (by omega) _ rfl⟩
def DW(T:Tx K mg)(C:Addr)(g:Nat):Prop:=(C=T.agg/\g=0)\/(C=T.agq/\g=1)\/(C=T.agA/\g=2)
structure Wi where
 k:Nat
 a:Tm
 b:Tm
 r:Int
 v:Int
def wCl(T:Tx K mg)(k:Nat):Addr:=if k=0 then T.agg else if k=1 then T.agq else T.agA
def vrb(k:Nat):Str:=if k=0 then "is" else if k=1 then "at least" else "at most"
def wiT(T:Tx K mg)(f:Fl)(x:Wi):Tr:=.ins f (wCl T x.k) [("near",tmT T x.a),("far",tmT T x.b),("rank",.int x.r),("weight",.int x.v)]
theorem dw(T:Tx K mg){k:Nat}(h:k<3):DW T (wCl T k) k:=by
 have:k=0\/k=1\/k=2:=by omega
 rcases this with rfl |rfl |rfl
 ·exact .inl ⟨rfl,rfl⟩
 ·exact .inr (.inl ⟨rfl,rfl⟩)
 ·exact .inr (.inr ⟨rfl,rfl⟩)
def akn(g:Nat):PSp:=ai6 1 λ_ Q=>Q (.str (vrb g))
theorem j'D(T:Tx K mg):FnOk P w K mg base CX0 1 T.adJ T.adK ["self"] (spP K true 0 1 (akn 0)):=by
 refine a'v T.adL j'w rfl (by decide) λ_ _ _ _ _ _ hr=>?_
 have hu:=a'o hr;refine⟨_,(a'e (a'g a'f)),?_⟩;rintro xs Q' _ ⟨_,q⟩;walk_at "p";exact q _
theorem g'm(T:Tx K mg):FnOk P w K mg base CX0 1 T.adN T.adO ["self"] (spP K true 0 1 (akn 1)):=by
 refine a'v T.adP g'i rfl (by decide) λ_ _ _ _ _ _ hr=>?_
 have hu:=a'o hr;refine⟨_,(a'e (a'g a'f)),?_⟩;rintro xs Q' _ ⟨_,q⟩;walk_at "p";exact q _
theorem g'Z(T:Tx K mg):FnOk P w K mg base CX0 1 T.adR T.adS ["self"] (spP K true 0 1 (akn 2)):=by
 refine a'v T.adT g'R rfl (by decide) λ_ _ _ _ _ _ hr=>?_
 have hu:=a'o hr;refine⟨_,(a'e (a'g a'f)),?_⟩;rintro xs Q' _ ⟨_,q⟩;walk_at "p";exact q _
theorem t'W(T:Tx K mg):∀ C g,DW T C g->MOkA P w K mg base CX0 1 "verb" C ["self"] (spP K true 0 1 (akn g)):=λC g h=>by
 rcases h with⟨rfl,rfl⟩ |⟨rfl,rfl⟩ |⟨rfl,rfl⟩
 ·exact⟨T.agi,_,_,T.agp,j'D T,T.adM⟩
 ·exact⟨T.ags,_,_,T.agz,g'm T,T.adQ⟩
 ·exact⟨T.agC,_,_,T.agJ,g'Z T,T.adU⟩
def rnk:List Str:=["must","hand","strong","fair","faint"]
def tal(r v:Int):Str:=if r=0 then "" else if v=1 then " by "++(rnk[r.toNat]?).getD "" else " by "++(rnk[r.toNat]?).getD ""++" "++tx (dec v)
def wtx(x:Wi):Str:=txt x.a++" "++vrb x.k++" "++txt x.b++tal x.r x.v
def Wi.ok(x:Wi):Prop:=x.k<3/\x.a.dep<=64/\x.b.dep<=64/\x.a.sm/\x.b.sm/\(txt x.a).length<=1000/\(txt x.b).length<=1000/\0<=x.r/\x.r<5/\1<=x.v/\x.v<=1000000
def lfl:Fl->Fl |.o=>.l true |.f=>.f |.l b=>.l b
def dfl:Fl->Fl |.o=>.o |.f=>.f |.l _=>.l false
theorem q'R(T:Tx K mg)(f:Fl)(x:Wi):lend (wiT T f x)=wiT T (lfl f) x:=by
 cases f<;>simp only[wiT,lfl,i_l,m'y,m'z,lendf,m_l,e'R]
theorem j'E(T:Tx K mg)(f:Fl)(x:Wi):dn (wiT T f x)=wiT T (dfl f) x:=by
 cases f<;>simp only[wiT,dfl,i_d,m'x,m'w,dnf,m_d,e'S]
theorem q'S(T:Tx K mg)(f:Fl)(x:Wi)(Q:Tr->Prop):pV (some (wiT T f x)) Q=Q (wiT T f x):=rfl
theorem e'A(T:Tx K mg){x:Wi}(h:x.k<3):wCl T x.k=T.agg\/wCl T x.k=T.agq\/wCl T x.k=T.agA:=by
 rcases dw T h with h |h |h
 ·exact .inl h.1
 ·exact .inr (.inl h.1)
 ·exact .inr (.inr h.1)
theorem l'E(T:Tx K mg){f:Fl}{x:Wi}(h:x.k<3){Q:Tr->Prop}(q:Q (tmT T x.a)):akl K "near" (wiT T f x) Q:=⟨⟨(w_fld T (e'A T h)).1,(w_fld T (e'A T h)).2.1⟩,q⟩
theorem p'p(T:Tx K mg){f:Fl}{x:Wi}(h:x.k<3){Q:Tr->Prop}(q:Q (tmT T x.b)):akl K "far" (wiT T f x) Q:=⟨⟨(w_fld T (e'A T h)).1,(w_fld T (e'A T h)).2.2.1⟩,q⟩
theorem h'a(T:Tx K mg){f:Fl}{x:Wi}(h:x.k<3){Q:Tr->Prop}(q:Q (.int x.r)):akl K "rank" (wiT T f x) Q:=⟨⟨(w_fld T (e'A T h)).1,(w_fld T (e'A T h)).2.2.2.1⟩,q⟩
theorem e'B(T:Tx K mg){f:Fl}{x:Wi}(h:x.k<3){Q:Tr->Prop}(q:Q (.int x.v)):akl K "weight" (wiT T f x) Q:=⟨⟨(w_fld T (e'A T h)).1,(w_fld T (e'A T h)).2.2.2.2⟩,q⟩
theorem t'X(T:Tx K mg){f:Fl}{x:Wi}(h:x.k<3){Q:Nat->Prop}(q:Q x.k):ajP (DW T) "verb" (wiT T f x) Q:=⟨x.k,dw T h,by simp only[List.lookup,show (("verb":Str) == "near")=false by walk_at "k",show (("verb":Str) == "far")=false by walk_at "k",show (("verb":Str) == "rank")=false by walk_at "k",show (("verb":Str) == "weight")=false by walk_at "k"],q⟩
def amL(T:Tx K mg):PSp:=ai6 1 λxs Q=>∃(f:Fl)(x:Wi),xs=[wiT T f x]/\x.ok/\Q (.str (wtx x))
theorem l'F(a:Str):a++("":Str)=a:=W.KFm.cat_t
theorem b'd(a b c:Str):a++b++c=a++(b++c):=by
 show (⟨(a.cps++b.cps)++c.cps⟩:Str)=⟨a.cps++(b.cps++c.cps)⟩
 rw[Array.append_assoc]
theorem c'S(T:Tx K mg):FnOk P w K mg base CX0 140 T.adF T.adG ["self"] (spP K true 0 1 (amL T)):=by
 refine a'v T.adH ahX rfl (by decide) λ_ _ _ _ _ _ hr=>?_
 have hu:=a'o hr;refine⟨_,(a'b (a'k (i:=1) ahX.nd (by decide) rfl (Or.inl rfl) (a'D ((λC g d=>MOkA.mono (g'Y T 64 C g d) (by omega))) (by walk_at "z") (λ_ _ _ h=>h.1) hr (a'r K rfl (qv 0))))
  (a'b (a'k (i:=2) ahX.nd (by decide) rfl (Or.inl rfl) (a'D ((λC g d=>MOkA.mono (t'W T C g d) (by omega))) (by walk_at "z") (λ_ _ _ h=>h.1) hr (qv 0)))
  (a'b (a'k (i:=3) ahX.nd (by decide) rfl (Or.inl rfl) (a'D ((λC g d=>MOkA.mono (g'Y T 64 C g d) (by omega))) (by walk_at "z") (λ_ _ _ h=>h.1) hr (a'r K rfl (qv 0))))
  (a'b (a'k (i:=4) ahX.nd (by decide) rfl (Or.inl rfl) (b'w (a'L (qv 1) (b'b (a'L (qv 2) (b'b (a'L (qv 3) b'v)))))))
  (a'b (a't (a'i (a'y hr.units) a'm (a'r K rfl (qv 0)) a'c (by walk_at "u")) (a'e (a'g (qv 4))) a'l)
  (a'b (a'k (i:=5) ahX.nd (by decide) rfl (Or.inl rfl) (a'n hu (e'Y ["must","hand","strong","fair","faint"] rfl T.ae4 T.ae5) (a'r K rfl (qv 0)) (λ_ _=>rfl)))
  (a'b (a't (a'i (a'y hr.units) a'm (a'r K rfl (qv 0)) a'c (by walk_at "u")) (a'e (a'g (b'w (a'L (qv 4) (b'b (a'L (qv 5) b'v)))))) a'l)
  (a'b (a'k (i:=6) ahX.nd (by decide) rfl (Or.inl rfl) (a'r K rfl (qv 0)))
  (a'e (a'g (b'w (a'L (qv 4) (b'b (a'L (qv 5) (b'b (w'j (qv 6) b'v)))))))))))))))),?_⟩
 rintro xs Q' _ ⟨_,f,x,rfl,⟨h1,h2,h3,h4,h5,h6,h7,h8,h9,h10,h11⟩,q⟩;simp only[List.cons_append,List.nil_append];walk_at "p";simp only[q'R,j'E,q'S];refine l'E T h1 ?_;simp only[m_d];refine b'P T h2 h4 (by omega) λρ=>⟨rfl,?_⟩
 refine t'X T h1 ⟨rfl,λρ=>⟨rfl,?_⟩⟩;refine p'p T h1 ?_;simp only[m_d];refine b'P T h3 h5 (by omega) λρ=>⟨rfl,?_⟩
 walk_at "p";have hv:(vrb x.k).length<=8:=by
  unfold vrb;split
  ·decide
  ·split<;>decide
 have hS:(txt x.a++" "++vrb x.k++" "++txt x.b).length<=2020:=by
  simp only[a'h];have:(" ":Str).length=1:=rfl;omega
 have e1:(" ":Str).length=1:=rfl;simp only[b'O];refine⟨by omega,by omega,by simp only[a'h];omega,by omega,by simp only[a'h];omega,by simp only[a'h];omega,by omega,by omega,by omega,?_⟩;obtain⟨k,a,b,r,v⟩:=x;unfold wtx at q;simp only at h1 h2 h3 h4 h5 h6 h7 h8 h9 h10 h11 hv hS q ⊢;generalize txt a++" "++vrb k++" "++txt b=S at hS q ⊢;refine h'a T h1 ?_;walk_at "p";split
 ·rename_i c;have c:=of_decide_eq_true c;subst c;rw[show tal 0 v="" from rfl,l'F] at q;exact q _
 rename_i c;have c:¬ r=0:=λz=>c (decide_eq_true z)
 refine h'a T h1 ?_;have hb:bi v<=20:=e'H (by omega);have lw:(tx (dec v)).length<=30:=by
  rw[a'p];exact Nat.le_trans (c'b hb) (by decide)
 have hr:∃ R:Str,rnk[r.toNat]?=some R/\atI (rnk.map Tr.str) r=some (.str R)/\R.length<=6:=by
  have:r=1\/r=2\/r=3\/r=4:=by omega
  rcases this with rfl |rfl |rfl |rfl
  ·exact⟨"hand",rfl,rfl,by decide⟩
  ·exact⟨"strong",rfl,rfl,by decide⟩
  ·exact⟨"fair",rfl,rfl,by decide⟩
  ·exact⟨"faint",rfl,rfl,by decide⟩
 obtain⟨R,e2,e3,e4⟩:=hr;unfold tal at q;rw[if_neg c,e2] at q;simp only[Option.getD_some] at q;show (match atI (rnk.map Tr.str) r with |some t=>_ |none=>False);rw[e3];walk_at "p";refine e'B T h1 ?_;walk_at "p";have e5:(" by ":Str).length=4:=rfl;split
 ·rename_i d;rw[if_pos (of_decide_eq_true d),<- b'd] at q;simp only[a'h];exact⟨by omega,by omega,by omega,by omega,by omega,by omega,q _⟩
 ·rename_i d;rw[if_neg (λz=>d (decide_eq_true z))] at q;rw[<- b'd,<- b'd,<- b'd] at q;refine e'B T h1 ?_;walk_at "p";rw[l'y];simp only[a'h];exact⟨by omega,by omega,by omega,by omega,by omega,by omega,c'N hb (by decide),by omega,by omega,q _⟩
theorem j'F(T:Tx K mg):∀ C g,DW T C g->MOkA P w K mg base CX0 140 "text" C ["self"] (spP K true 0 1 (amL T)):=λC g h=>by
 rcases h with⟨rfl,rfl⟩ |⟨rfl,rfl⟩ |⟨rfl,rfl⟩
 ·exact⟨T.agi,_,_,T.ago,c'S T,T.adI⟩
 ·exact⟨T.ags,_,_,T.agy,c'S T,T.adI⟩
 ·exact⟨T.agC,_,_,T.agI,c'S T,T.adI⟩
theorem l'G(T:Tx K mg){f:Fl}{x:Wi}(h:x.k<3){Q:Nat->Prop}(q:Q x.k):ajP (DW T) "text" (wiT T f x) Q:=⟨x.k,dw T h,by simp only[List.lookup,show (("text":Str) == "near")=false by walk_at "k",show (("text":Str) == "far")=false by walk_at "k",show (("text":Str) == "rank")=false by walk_at "k",show (("text":Str) == "weight")=false by walk_at "k"],q⟩
def wat(ws:List Str)(p:Nat):Str:=(ws[p]?).getD ""
def rdT(T:Tx K mg)(f:Fl)(ws ns:List Str)(p:Nat):Tr:=.ins f T.agK [("words",.lst f (ws.map Enc.t)),("names",.lst .f (ns.map Enc.t)),("place",.int p)]
def DR(T:Tx K mg)(C:Addr)(g:Nat):Prop:=C=T.agK/\g=0
theorem a'G(T:Tx K mg)(f:Fl)(ws ns:List Str)(p:Nat):lend (rdT T f ws ns p)=rdT T (lfl f) ws ns p:=by
 cases f<;>simp only[rdT,lfl,i_l,m'y,m'z,lendf,g'G,i'f,g'J,j'a,q'w,e'R]
theorem a'I(T:Tx K mg)(f:Fl)(ws ns:List Str)(p:Nat):dn (rdT T f ws ns p)=rdT T (dfl f) ws ns p:=by
 have e:∀ f:Fl,dn (.lst f (ws.map Enc.t))=.lst (dfl f) (ws.map Enc.t):=λf=>by
  cases f with
  |f=>show Tr.lst .f (dns _)=_;rw[g'C];rfl
  |o=>show Tr.lst .o (dns _)=_;rw[g'C];rfl
  |l b=>show Tr.lst (.l false) (dns _)=_;rw[g'C];rfl
 cases f<;>simp only[rdT,dfl,i_d,m'x,m'w,dnf,e,i'P,g'C,e'S]
theorem a'J(T:Tx K mg)(f:Fl)(ws ns:List Str)(p:Nat)(Q:Tr->Prop):pV (some (rdT T f ws ns p)) Q=Q (rdT T f ws ns p):=rfl
theorem w'p(T:Tx K mg)(ws ns:List Str)(p:Nat):nol (rdT T .o ws ns p)=true:=by
 simp only[rdT,i_o,nolf,g'K,g'H,m'r,i'f,m'p,b'm,Bool.and_self]
theorem d'O(T:Tx K mg){f:Fl}{ws ns:List Str}{p:Nat}{Q:Tr->Prop}(q:Q (.lst f (ws.map Enc.t))):akl K "words" (rdT T f ws ns p) Q:=⟨⟨T.agM,T.agN⟩,q⟩
theorem j'G(T:Tx K mg){f:Fl}{ws ns:List Str}{p:Nat}{Q:Tr->Prop}(q:Q (.lst .f (ns.map Enc.t))):akl K "names" (rdT T f ws ns p) Q:=⟨⟨T.agM,T.agO⟩,q⟩
theorem f'J(T:Tx K mg){f:Fl}{ws ns:List Str}{p:Nat}{Q:Tr->Prop}(q:Q (.int p)):akl K "place" (rdT T f ws ns p) Q:=⟨⟨T.agM,T.agP⟩,q⟩
theorem g'n(T:Tx K mg){m:Str}{f:Fl}{ws ns:List Str}{p:Nat}{Q:Nat->Prop}(h1:(m == "words")=false)(h2:(m == "names")=false)(h3:(m == "place")=false)(q:Q 0):ajP (DR T) m (rdT T f ws ns p) Q:=⟨0,⟨rfl,rfl⟩,by simp only[List.lookup,h1,h2,h3],q⟩
def wds(x:Str):List Str:=(ahO 32 x.cps.toList).map tx
theorem j'H:Str.ofString " "=tx [32]:=by walk_at "k"
def rdk(ws:List Str):Prop:=ws.length<=60/\∀ x∈ws,x.length<=20000
theorem d'r{ws:List Str}(h:rdk ws)(p:Nat):(wat ws p).length<=20000:=by
 unfold wat;cases e:ws[p]? with
 |none=>exact Nat.zero_le _
 |some x=>exact h.2 x (List.mem_of_getElem? e)
def ajN(T:Tx K mg)(m:List Str->List Str->Nat->(Tr->Nat->Prop)->(Value->Prop)->Prop):ajm:=λxs Q q=>xs.length=1/\∃(ws ns:List Str)(p:Nat),xs=[rdT T .o ws ns p]/\rdk ws/\m ws ns p (λt p'=>∀ ρ:List Tr,ρ[0]?=some (rdT T .o ws ns p')->Q t ρ) q
def aku(T:Tx K mg)(m:Str->List Str->List Str->Nat->(Tr->Nat->Prop)->(Value->Prop)->Prop):ajm:=λxs Q q=>xs.length=2/\∃(ws ns:List Str)(p:Nat)(x:Str),xs=[rdT T .o ws ns p,.str x]/\rdk ws/\m x ws ns p (λt p'=>∀ ρ:List Tr,ρ[0]?=some (rdT T .o ws ns p')->Q t ρ) q
theorem p'q(T:Tx K mg){ws ns:List Str}{F:Tr->Tr->Prop}:(λ(t:Tr)(p':Nat)=>∀ ρ:List Tr,ρ[0]?=some (rdT T .o ws ns p')->pV ρ[0]? λu=>nol u=true/\F t u)=λt p'=>F t (rdT T .o ws ns p'):=by
 funext t p';refine propext ⟨λh=>(h [rdT T .o ws ns p'] rfl).2,λh ρ e=>?_⟩;rw[e];exact⟨w'p T _ _ _,h⟩
theorem a'H(T:Tx K mg){n:Str}{m:List Str->List Str->Nat->(Tr->Nat->Prop)->(Value->Prop)->Prop}{ws ns:List Str}{p:Nat}{q:Value->Prop}{F:Tr->Tr->Prop}(hw:rdk ws)(h:m ws ns p (λt p'=>F t (rdT T .o ws ns p')) q)(h1:(n == ("words":Str))=false:=by walk_at "k")(h2:(n == ("names":Str))=false:=by walk_at "k")(h3:(n == ("place":Str))=false:=by walk_at "k"):ajP (DR T) n (rdT T .o ws ns p) λ_=>ajN T m [rdT T .o ws ns p] (λt ρ'=>pV ρ'[0]? λu=>nol u=true/\F t u) q:=
 g'n T h1 h2 h3 ⟨rfl,ws,ns,p,rfl,hw,by rw[p'q];exact h⟩
theorem d'P(T:Tx K mg){n x:Str}{m:Str->List Str->List Str->Nat->(Tr->Nat->Prop)->(Value->Prop)->Prop}{ws ns:List Str}{p:Nat}{q:Value->Prop}{F:Tr->Tr->Prop}(hw:rdk ws)(h:m x ws ns p (λt p'=>F t (rdT T .o ws ns p')) q)(h1:(n == ("words":Str))=false:=by walk_at "k")(h2:(n == ("names":Str))=false:=by walk_at "k")(h3:(n == ("place":Str))=false:=by walk_at "k"):ajP (DR T) n (rdT T .o ws ns p) λ_=>aku T m [rdT T .o ws ns p,.str x] (λt ρ'=>pV ρ'[0]? λu=>nol u=true/\F t u) q:=
 g'n T h1 h2 h3 ⟨rfl,ws,ns,p,x,rfl,hw,by rw[p'q];exact h⟩
def anG(T:Tx K mg):ajm:=λxs Q q=>xs.length=3/\∃(x:Str)(ns:List Str),xs=[.ins .o T.agK [],.str x,.lst .f (ns.map Enc.t)]/\x.length<=20000/\(60<(wds x).length->q (.ref T.afn))/\((wds x).length<=60->∀ ρ:List Tr,ρ[0]?=some (rdT T .o (wds x) ns 0)->Q .non ρ)
theorem h'b(x:Str):(wds x).length<=x.length+1:=by
 unfold wds;rw[List.length_map];exact d'M 32 _
theorem l'H{x:Str}(h:(wds x).length<=60)(h2:x.length<=20000):rdk (wds x):=⟨h,λy m=>by
 unfold wds at m;obtain⟨p,hp,rfl⟩:=List.mem_map.mp m;rw[a'p];exact Nat.le_trans (c'v hp) h2⟩
theorem c'm(T:Tx K mg):FnOk P w K mg base (CX1 P w) 1 T.adV T.adW ["self","text","names"] (spX K true 1 3 (anG T)):=by
 refine b'g T.adX e'x rfl (by decide) λ_ _ _ _ _ _ q hr=>?_
 have hu:=a'o hr;refine⟨_,(a'b (a'X (a'Q 0) (e'W (qv 1) a'f ⟨rfl,rfl,rfl,rfl⟩))
  (a'b (a'X (a'Q 0) (qv 2))
  (a'b (a'X (a'Q 0) a'c)
  (a'e (a't (a'i d'F b'S (a'V b'j a'P rfl T.ahB rfl (a'a (a'r K rfl (qv 0)) a'd)) (i'O rfl T.afg) (by walk_at "u")) (a'e (b'l rfl rfl rfl rfl rfl rfl T.afo PySem.F.excBase_ValueError T.afp a'f)) a'l))))),?_⟩
 rintro xs Q' _ ⟨_,x,ns,rfl,hx,h1,h2⟩;have hl:=h'b x;simp only[List.cons_append,List.nil_append];walk_at "p";rw[j'H,b'Z,show (ahO 32 x.cps.toList).map tx=wds x from rfl];refine⟨rfl,by omega,by omega,⟨T.agM,T.agN⟩,by decide,⟨T.agM,T.agO⟩,by decide,⟨T.agM,T.agP⟩,by rw[d'a (show ¬ ("words":Str)="names" by walk_at "k")];simp only[List.length_cons,List.length_nil];decide,?_⟩;rw[d'a (show ¬ ("words":Str)="names" by walk_at "k"),m'J (show ¬ ("words":Str)="place" by walk_at "k") (show ¬ ("names":Str)="place" by walk_at "k")];rw[show (Tr.ins (.l true) T.agK (lendf [((Str.ofString "words"),Tr.lst .o ((wds x).map Enc.t)),((Str.ofString "names"),Tr.lst .f (ns.map Enc.t)),((Str.ofString "place"),Tr.int 0)]))=rdT T (lfl .o) (wds x) ns 0 from (a'G T .o (wds x) ns 0)];refine d'O T ?_;walk_at "q";split
 ·rename_i c;exact h1 (by have:=of_decide_eq_true c;omega)
 ·rename_i c;have c:¬ (60:Int)<_:=λz=>c (decide_eq_true z)
  exact h2 (by omega) _ rfl
def akh(T:Tx K mg):PSp:=ai6 1 λxs Q=>∃(f:Fl)(ws ns:List Str)(p:Nat),xs=[rdT T f ws ns p]/\Q (.str (wat ws p))
theorem g'o(T:Tx K mg):FnOk P w K mg base CX0 1 T.aeD T.aeE ["self"] (spP K true 0 1 (akh T)):=by
 refine a'v T.aeF g'j rfl (by decide) λ_ _ _ _ _ _ hr=>?_
 have hu:=a'o hr;refine⟨_,(a'e (a'g (m'm (a'i f'u c'G (a'r K rfl (qv 0)) (a'V b'j a'P rfl T.ahB rfl (a'a (a'r K rfl (qv 0)) a'd)) (by walk_at "u")) (a'n hu (a'r K rfl (qv 0)) (a'r K rfl (qv 0)) (λ_ _=>rfl)) a'f))),?_⟩;rintro xs Q' _ ⟨_,f,ws,ns,p,rfl,q⟩;simp only[List.cons_append,List.nil_append];walk_at "p";simp only[a'G,a'I,a'J];refine f'J T ?_
 try walk_at "p"
 refine d'O T ?_
 try walk_at "p"
 unfold wat at q;by_cases hp:p<ws.length
 ·rw[if_pos (decide_eq_true (by omega))];refine d'O T (f'J T ?_);rw[g'e,d'n,e'q ws (by omega) (by simpa using hp)];rw[List.getElem?_eq_getElem hp] at q;exact⟨rfl,q _⟩
 ·rw[if_neg (by simpa using (show ws.length<=p by omega))];rw[List.getElem?_eq_none (by omega)] at q;exact q _
def akV(T:Tx K mg):PSp:=ai6 1 λxs Q=>∃(f:Fl)(ws ns:List Str)(p:Nat),xs=[rdT T f ws ns p]/\Q (.bl (decide (ws.length<=p)))
theorem f'K(T:Tx K mg):FnOk P w K mg base CX0 1 T.aeH T.aeI ["self"] (spP K true 0 1 (akV T)):=by
 refine a'v T.aeJ f'F rfl (by decide) λ_ _ _ _ _ _ hr=>?_
 have hu:=a'o hr;refine⟨_,(a'e (a'g (b'f l'U i'D (a'r K rfl (qv 0)) (a'V b'j a'P rfl T.ahB rfl (a'a (a'r K rfl (qv 0)) a'd)) (by walk_at "u")))),?_⟩;rintro xs Q' _ ⟨_,f,ws,ns,p,rfl,q⟩;simp only[List.cons_append,List.nil_append];walk_at "p";simp only[a'G,a'I,a'J];refine f'J T ?_
 try walk_at "p"
 refine d'O T ?_
 try walk_at "p"
 rw[show decide ((ws.length:Int)<=(p:Int))=decide (ws.length<=p) from decide_eq_decide.mpr (by omega)];exact q _
theorem d'Q(T:Tx K mg):∀ C g,DR T C g->MOkA P w K mg base CX0 1 "ahead" C ["self"] (spP K true 0 1 (akh T)):=λC g h=>by
 obtain⟨rfl,rfl⟩:=h;exact⟨T.agM,_,_,T.ag1,g'o T,T.aeG⟩
theorem e'C(T:Tx K mg):∀ C g,DR T C g->MOkA P w K mg base CX0 1 "at_end" C ["self"] (spP K true 0 1 (akV T)):=λC g h=>by
 obtain⟨rfl,rfl⟩:=h;exact⟨T.agM,_,_,T.ag2,f'K T,T.aeK⟩
theorem c'w(T:Tx K mg){f:Fl}{ws ns:List Str}{p:Nat}{Q:Tr->Prop}(h:Q (.str (wat ws p))):ajP (DR T) "ahead" (rdT T f ws ns p) λ_=>akh T [rdT T (dfl f) ws ns p] λt _=>Q t:=g'n T (by walk_at "k") (by walk_at "k") (by walk_at "k") ⟨rfl,dfl f,ws,ns,p,rfl,λ_=>h⟩
theorem e'D(T:Tx K mg){f:Fl}{ws ns:List Str}{p:Nat}{Q:Tr->Prop}(h:Q (.bl (decide (ws.length<=p)))):ajP (DR T) "at_end" (rdT T f ws ns p) λ_=>akV T [rdT T (dfl f) ws ns p] λt _=>Q t:=g'n T (by walk_at "k") (by walk_at "k") (by walk_at "k") ⟨rfl,dfl f,ws,ns,p,rfl,λ_=>h⟩
def ajM(ws _ns:List Str)(p:Nat)(Q:Tr->Nat->Prop)(_q:Value->Prop):Prop:=Q (.str (wat ws p)) (p+1)
theorem w'q(T:Tx K mg){ws ns:List Str}{p:Nat}{Q:Addr->List (Str×Tr)->Prop}(q:Q T.agK [("words",.lst .o (ws.map Enc.t)),("names",.lst .f (ns.map Enc.t)),("place",.int p)]):wP0 (some (rdT T .o ws ns p)) λt=>aj1 K "place" t Q:=⟨⟨T.agM,T.agP⟩,by simp only[List.length_cons,List.length_nil];decide,q⟩
theorem h'c(T:Tx K mg):FnOk P w K mg base (CX1 P w) 2 T.adZ T.ad0 ["self"] (spX K true 1 1 (ajN T ajM)):=by
 refine b'g T.ad1 ai8 rfl (by decide) λ_ _ _ _ _ _ q hr=>?_
 have hu:=a'o hr;refine⟨_,(a'b (a'k (i:=1) ai8.nd (by decide) rfl (Or.inl rfl) (a'D ((λC g d=>MOkA.mono (d'Q T C g d) (by omega))) (by walk_at "z") (λ_ _ _ h=>h.1) hr (qv 0)))
  (a'b (q'M (a'Q 0) a'c)
  (a'e (a'g (qv 1))))),?_⟩
 rintro xs Q' _ ⟨_,ws,ns,p,rfl,hw,h⟩;simp only[List.cons_append,List.nil_append];walk_at "p";simp only[a'G,a'I,a'J];refine c'w T ⟨rfl,?_⟩;refine w'q T ?_;rw[show List.lookup (Str.ofString "place") [((Str.ofString "words"),Tr.lst .o (ws.map Enc.t)),((Str.ofString "names"),Tr.lst .f (ns.map Enc.t)),((Str.ofString "place"),Tr.int p)]=some (.int p) by simp only[List.lookup,show (("place":Str) == "words")=false by walk_at "k",show (("place":Str) == "names")=false by walk_at "k",show (("place":Str) == "place")=true by walk_at "k"]];refine⟨rfl,h _ ?_⟩;show some _=some _;simp only[aj8,if_neg (show ¬ ("words":Str)="place" by walk_at "k"),if_neg (show ¬ ("names":Str)="place" by walk_at "k"),if_true];rfl
theorem b'D(T:Tx K mg):∀ C g,DR T C g->MOkA P w K mg base (CX1 P w) 2 "step" C ["self"] (spX K true 1 1 (ajN T ajM)):=λC g h=>by
 obtain⟨rfl,rfl⟩:=h;exact⟨T.agM,_,_,T.agR,h'c T,T.ad2⟩
def amM(T:Tx K mg)(x:Str)(ws _ns:List Str)(p:Nat)(Q:Tr->Nat->Prop)(q:Value->Prop):Prop:=x.length<=1000/\(if wat ws p=x then Q .non (p+1) else q (.ref T.afn))
theorem f'L(T:Tx K mg):FnOk P w K mg base (CX1 P w) 3 T.ad3 T.ad4 ["self","word"] (spX K true 2 2 (aku T (amM T))):=by
 refine b'g T.ad5 f'D rfl (by decide) λ_ _ _ _ _ _ q hr=>?_
 have hu:=a'o hr;refine⟨_,(a'e (o'X (d'I hr.units) b'z (a'w 0 ((λC g d=>MOkA.mono (b'D T C g d) (by omega))) (a'q (a'A rfl rfl rfl rfl)) (by walk_at "z") (λ_ _ _ _ h=>h.1) hr) (c'L (qv 1)) (by walk_at "u") (a'e (b'l rfl rfl rfl rfl rfl rfl T.afo PySem.F.excBase_ValueError T.afp (b'w (b'b (a'L (qv 1) (b'b b'v)))))) a'l)),?_⟩;rintro xs Q' _ ⟨_,ws,ns,p,x,rfl,hw,hx,h⟩;simp only[List.cons_append,List.nil_append];walk_at "q";simp only[a'G,a'I,a'J];refine a'H T hw ?_;unfold ajM;walk_at "q";by_cases c:wat ws p=x
 ·rw[if_pos c] at h;rw[if_neg (by simp[c])];exact h _ rfl
 ·rw[if_neg c] at h;rw[if_pos (by simp[c])];have e1:(Str.empty:Str).length=0:=rfl;have e2:(Str.ofString "the word ").length=9:=by walk_at "k"
  have e3:(Str.ofString " is missing").length=11:=by walk_at "k"
  simp only[a'h];exact⟨by omega,by omega,by omega,by omega,by omega,h⟩
theorem e'E(T:Tx K mg):∀ C g,DR T C g->MOkA P w K mg base (CX1 P w) 3 "expect" C ["self","word"] (spX K true 2 2 (aku T (amM T))):=λC g h=>by
 obtain⟨rfl,rfl⟩:=h;exact⟨T.agM,_,_,T.agS,f'L T,T.ad6⟩
def alW(T:Tx K mg)(ws _ns:List Str)(p:Nat)(Q:Tr->Nat->Prop)(q:Value->Prop):Prop:=if ws.length<=p then Q .non p else q (.ref T.afn)
theorem f'M(T:Tx K mg):FnOk P w K mg base (CX1 P w) 3 T.aez T.aeA ["self"] (spX K true 1 1 (ajN T (alW T))):=by
 refine b'g T.aeB f'E rfl (by decide) λ_ _ _ _ _ _ q hr=>?_
 have hu:=a'o hr;refine⟨_,(a'e (a't (b'r (b'c (a'D ((λC g d=>MOkA.mono (e'C T C g d) (by omega))) (by walk_at "z") (λ_ _ _ h=>h.1) hr (qv 0)))) (a'e (b'l rfl rfl rfl rfl rfl rfl T.afo PySem.F.excBase_ValueError T.afp a'f)) a'l)),?_⟩;rintro xs Q' _ ⟨_,ws,ns,p,rfl,hw,h⟩;simp only[List.cons_append,List.nil_append];walk_at "p";simp only[a'G,a'I,a'J];refine e'D T ?_;unfold alW at h;walk_at "p";by_cases c:ws.length<=p
 ·rw[if_pos c] at h;rw[if_neg (by simp[c])];exact h _ rfl
 ·rw[if_neg c] at h;rw[if_pos (by simp[c])];exact h
theorem h'H(T:Tx K mg):∀ C g,DR T C g->MOkA P w K mg base (CX1 P w) 3 "finish" C ["self"] (spX K true 1 1 (ajN T (alW T))):=λC g h=>by
 obtain⟨rfl,rfl⟩:=h;exact⟨T.agM,_,_,T.ag0,f'M T,T.aeC⟩
def akx(L:List Nat):Bool:=decide (1<=L.length) && (decide (L.length<=8) && L.all λc=>decide (97<=c) && decide (c<=122))
theorem t'Y(c:Nat):alk (Str.ofString "abcdefghijklmnopqrstuvwxyz") ⟨#[c]⟩=(decide (97<=c) && decide (c<=122)):=by
 unfold alk;rw[StrLaws.found_one];have e:(Str.ofString "abcdefghijklmnopqrstuvwxyz").cps.toList=(List.range 26).map (·+97):=by walk_at "k"
 rw[e,Bool.eq_iff_iff];simp;constructor
 ·rintro⟨a,h,rfl⟩;omega
 ·intro h;exact⟨c - 97,by omega,by omega⟩
def amN:PSp:=ai6 1 λxs Q=>∃ L:List Nat,xs=[.str (tx L)]/\L.length<=100000/\Q (.bl (akx L))
theorem m'K(T:Tx K mg){z:Bool}:FnOk P w K mg base CX0 1 T.aaz T.aaA ["word"] (spP K z 0 1 amN):=by
 refine a'v T.aaB m'C rfl (by decide) λ_ _ _ _ _ _ hr=>?_
 have hu:=a'o hr;refine⟨_,(a'b (a't (QW.t (b's (b'r (b'c (x'b K rfl rfl T.ahD rfl (a'a (qv 0) (a'a (x'c rfl T.ahL rfl) a'd))))) (b'u (b'r (f'z e'G d'k e'G d'k a'c (a'V b'j a'P rfl T.ahB rfl (a'a (qv 0) a'd)) (i'O rfl T.afm)))))) (a'e (a'g b'T)) a'l)
  (a'e (a'g (a'V (e'g rfl) g'B rfl T.ahK rfl (a'a (e'o (N:=["sign"]) (ix:=[none]) rfl (v'U (qv 0)) (i'K (i:=0) (by decide) rfl) (λ_ _ _ _ _=>d'm) (λ_ _ _ _ _=>(b'f h'g l'g (qv 0) (q'v rfl T.afc) (by walk_at "u"))) True.intro) a'd))))),?_⟩
 rintro xs Q' _ ⟨_,L,rfl,h1,q⟩;have hb:∀ X:Str,X=tx L->∀ Q:Tr->Prop,Q (.bl true)->wIs K [Tr.str X,Tr.ty "str"] Q:=λX _ Q h=>⟨true,rfl,h⟩
 walk_at "p";refine hb _ rfl _ ?_;walk_at "p";rw[p'l];refine⟨by rw[a'p];omega,?_⟩;walk_at "p";rw[a'p];unfold akx at q;split;rotate_left
 ·rename_i c;rw[show decide (1<=L.length)=false from decide_eq_false λz=>c (decide_eq_true (by omega))] at q;exact q _
 rename_i c1;rw[show decide (1<=L.length)=true from decide_eq_true (by have:=of_decide_eq_true c1;omega)] at q;split
 ·rename_i c;rw[show decide (L.length<=8)=false from decide_eq_false λz=>by simp at c;omega] at q;exact q _
 rename_i c2;have c2:L.length<=8:=by simp at c2;omega
 rw[show decide (L.length<=8)=true from decide_eq_true c2] at q;rw[a'x];refine CLoop.map L _ (λc=>decide (97<=c) && decide (c<=122)) (by omega) (λc hc R hR=>?_) ?_
 ·walk_at "p";rw[t'Y];exact hR
 refine⟨_,rfl,?_⟩;walk_at "p";rw[List.all_map];exact q _
def hol(ns:List Str)(x:Str):Str:=if whole 1 x.cps.toList=true/\1<=vl x.cps.toList/\vl x.cps.toList<=ns.length then (ns[vl x.cps.toList - 1]?).getD "" else x
def amO(ws ns:List Str)(p:Nat)(Q:Tr->Nat->Prop)(_q:Value->Prop):Prop:=ns.length<=100000/\Q (.str (hol ns (wat ws p))) (p+1)
theorem d'V(T:Tx K mg):FnOk P w K mg base (CX1 P w) 3 T.aef T.aeg ["self"] (spX K true 1 1 (ajN T amO)):=by
 refine b'g T.aeh aiw rfl (by decide) λ_ _ _ _ _ _ q hr=>?_
 have hu:=a'o hr;refine⟨_,(a'b (a'F (i:=1) aiw.nd (by decide) rfl (Or.inl rfl) (a'w 0 ((λC g d=>MOkA.mono (b'D T C g d) (by omega))) (a'q (a'A rfl rfl rfl rfl)) (by walk_at "z") (λ_ _ _ _ h=>h.1) hr))
  (a'b (a't (QW.t (c'h (b'c (a'j ((d'f T).mono (by omega)) (by walk_at "z") (λ_ _ h=>h.1) hr rfl T.aao T.aam.kp T.aan (QA.frz (a'a (qv 1) (a'a a'c a'd))))) (b'K (f'z e'G d'k e'G d'k a'c (b't b'L b'Y rfl T.ahJ rfl (a'a (qv 1) a'd)) (a'V b'j a'P rfl T.ahB rfl (a'a (a'r K rfl (qv 0)) a'd)))))) (a'e (a'g (a'n hu (a'r K rfl (qv 0)) (i'b (b't b'L b'Y rfl T.ahJ rfl (a'a (qv 1) a'd)) a'c) (λ_ _=>rfl)))) a'l)
  (a'e (a'g (qv 1))))),?_⟩
 rintro xs Q' _ ⟨_,ws,ns,p,rfl,hw,hl,h⟩;simp only[List.cons_append,List.nil_append];walk_at "p";simp only[a'G,a'I,a'J];refine a'H T hw ?_;unfold ajM;walk_at "p";have lw:=d'r hw p;unfold hol at h;obtain⟨L,e⟩:∃ L,wat ws p=tx L:=⟨_,(b'N _).symm⟩;rw[e] at lw ⊢;simp only[e,a'x] at h;rw[a'p] at lw;refine⟨rfl,L,1,rfl,by omega,λρ=>?_⟩;walk_at "p";by_cases c1:whole 1 L=true;rotate_left
 ·rw[if_neg c1];rw[if_neg (λz=>c1 z.1)] at h;exact h _ rfl
 rw[if_pos c1];obtain⟨w1,w2,w3,w4⟩:=b'p c1;have hi:intText? (tx L)=some (vl L:Int):=intText_digits (d'q w3) w1 (by rw[a'p];omega);refine⟨_,hi,by rw[a'p];omega,?_⟩;simp only[a'G,a'I,a'J];by_cases c2:1<=vl L;rotate_left
 ·rw[if_neg (λz=>c2 (by have:=of_decide_eq_true z;omega))];rw[if_neg (λz=>c2 z.2.1)] at h;exact h _ rfl
 rw[if_pos (decide_eq_true (by omega))];refine j'G T ?_;walk_at "p";by_cases c3:vl L<=ns.length;rotate_left
 ·rw[if_neg (λz=>c3 (by have:=of_decide_eq_true z;omega))];rw[if_neg (λz=>c3 z.2.2)] at h;exact h _ rfl
 rw[if_pos (decide_eq_true (by omega))];rw[if_pos ⟨c1,c2,c3⟩] at h;refine j'G T ?_;refine⟨_,hi,by rw[a'p];omega,?_⟩;rw[g'e,d'n,e'q ns (by omega) (by omega)];rw[List.getElem?_eq_getElem (show vl L - 1<ns.length by omega)] at h;have e:((vl L:Int) - 1).toNat=vl L - 1:=by omega
 simp only[e];exact⟨rfl,h _ rfl⟩
theorem j'I(T:Tx K mg):∀ C g,DR T C g->MOkA P w K mg base (CX1 P w) 3 "read_name" C ["self"] (spX K true 1 1 (ajN T amO)):=λC g h=>by
 obtain⟨rfl,rfl⟩:=h;exact⟨T.agM,_,_,T.agV,d'V T,T.aei⟩
def tmO(T:Tx K mg):Tm->Tr
 |.num q=>.ins .o T.afy [("number",Enc.t q)]
 |.edge a n=>.ins .o T.afG [("word",.str a),("name",.str n)]
 |.times q t=>.ins .o T.afP [("number",Enc.t q),("inner",tmT T t)]
 |.plus a b=>.ins .o T.afY [("one",tmT T a),("other",tmT T b)]
 |.minus a b=>.ins .o T.af7 [("one",tmT T a),("other",tmT T b)]
theorem o_f(T:Tx K mg)(t:Tm):Pu.frz (tmO T t)=tmT T t:=by
 cases t<;>simp only[tmO,tmT,i_f,frzf,e_f,m_f,g'D]
theorem o_o(T:Tx K mg)(t:Tm):nol (tmO T t)=true:=by
 cases t<;>simp only[tmO,i_o,nolf,e_o,m_o,g'E,Bool.and_self]
theorem o_t(T:Tx K mg)(t:Tm):nlt (tmO T t)=true:=by
 cases t<;>simp only[tmO,i_t,nltf,e_t,m_t,g'F,Bool.and_self]
def tmR(T:Tx K mg)(t:Tm)(v:Tr):Prop:=v=tmT T t\/v=tmO T t
theorem r_f(T:Tx K mg){t:Tm}{v:Tr}(h:tmR T t v):Pu.frz v=tmT T t:=by
 rcases h with rfl |rfl
 ·exact m_f T t
 ·exact o_f T t
theorem r_o(T:Tx K mg){t:Tm}{v:Tr}(h:tmR T t v):nol v=true:=by
 rcases h with rfl |rfl
 ·exact m_o T t
 ·exact o_o T t
theorem r_t(T:Tx K mg){t:Tm}{v:Tr}(h:tmR T t v):nlt v=true:=by
 rcases h with rfl |rfl
 ·exact m_t T t
 ·exact o_t T t
theorem p'r{C:Addr}{f:Str}{v:Tr}{P:Tr->Prop}(h1:Cl v=true)(h2:v≠.hole)(p:P (.ins .o C [(f,v)])):amI C f [Tr.ins .o C [],v] λt ρ'=>t=.non/\aj9 ρ'[0]? P:=
 ⟨rfl,v,rfl,h1,h2,λρ e=>⟨rfl,by rw[e];exact⟨by show (nol v && true)=true;rw[(clo v h1).o];rfl,p⟩⟩⟩
theorem c'n{C:Addr}{f g:Str}{v u:Tr}{P:Tr->Prop}(h1:Cl v=true)(h2:v≠.hole)(h3:Cl u=true)(h4:u≠.hole)(p:P (.ins .o C [(f,v),(g,u)])):akt C f g [Tr.ins .o C [],v,u] λt ρ'=>t=.non/\aj9 ρ'[0]? P:=
 ⟨rfl,v,u,rfl,h1,h2,h3,h4,λρ e=>⟨rfl,by rw[e];exact⟨by show (nol v && (nol u && true))=true;rw[(clo v h1).o,(clo u h3).o];rfl,p⟩⟩⟩
inductive PR where
 |ok (t:Tm) (p:Nat) |er |out
def PR.bind(r:PR)(f:Tm->Nat->PR):PR:=match r with |.ok t p=>f t p |.er=>.er |.out=>.out
def PR.run(T:Tx K mg)(r:PR)(Q:Tr->Nat->Prop)(q:Value->Prop):Prop:=match r with |.ok t p=>∀ v,tmR T t v->Q v p |.er=>q (.ref T.afn) |.out=>False
def acr:List Str:=["left","width","right","middle","gap"]
def akv(ws ns:List Str)(x:Str)(p:Nat):PR:=if wat ws p="of" then (if akx (hol ns (wat ws (p+1))).cps.toList=true/\¬ (hol ns (wat ws (p+1))="frame"/\(x="gap"\/x="drop")) then .ok (.edge x (hol ns (wat ws (p+1)))) (p+2) else .er) else .er
def nsk(ns:List Str):Prop:=ns.length<=100000/\∀ x∈ns,x.length<=20000
theorem t'Z{ns:List Str}(h:nsk ns){x:Str}(hx:x.length<=20000):(hol ns x).length<=20000:=by
 unfold hol;split
 ·cases e:ns[vl x.cps.toList - 1]? with
  |none=>exact Nat.zero_le _
  |some y=>exact h.2 y (List.mem_of_getElem? e)
 ·exact hx
theorem d'W(T:Tx K mg):FnOk P w K mg base (CX1 P w) 4 T.aeb T.aec ["self","word"] (spX K true 2 2 (aku T λx ws ns p Q q=>nsk ns/\(akv ws ns x p).run T Q q)):=by
 refine b'g T.aed aiv rfl (by decide) λ_ _ _ _ _ _ q hr=>?_
 have hu:=a'o hr;refine⟨_,(a'b (c'B (e'X 0 ((λC g d=>MOkA.mono (e'E T C g d) (by omega))) (a'q (a'A rfl rfl rfl rfl)) (by walk_at "z") (λ_ _ _ _ h=>h.1) hr (m'v a'f g'g)))
  (a'b (a'F (i:=2) aiv.nd (by decide) rfl (Or.inl rfl) (a'w 0 ((λC g d=>MOkA.mono (j'I T C g d) (by omega))) (a'q (a'A rfl rfl rfl rfl)) (by walk_at "z") (λ_ _ _ _ h=>h.1) hr))
  (a'b (a't (QW.t (b's (b'r (b'c (a'j ((m'K T).mono (by omega)) (by walk_at "z") (λ_ _ h=>h.1) hr rfl T.aaD T.aaB.kp T.aaC (QA.frz (a'a (qv 2) a'd))))) (b'u (QW.t (c'h (a'i (a'y hr.units) a'm (qv 2) (q'v rfl T.ae8) (by walk_at "u")) (b'K (a'i (i'G hu) e'm (qv 1) (e'Y ["gap","drop"] rfl T.aeY T.aeZ) (by walk_at "u")))))))) (a'e (b'l rfl rfl rfl rfl rfl rfl T.afo PySem.F.excBase_ValueError T.afp a'f)) a'l)
  (a'e (a'g (c'K T.afL ((c'P T).mono (by omega)) (by walk_at "z") (λ_ _ h=>h.1) hr rfl T.afH T.acR (QA.frz (a'a (qv 1) (a'a (qv 2) a'd))))))))),?_⟩
 rintro xs Q' _ ⟨_,ws,ns,p,x,rfl,hw,hn,h⟩;simp only[List.cons_append,List.nil_append];walk_at "p";simp only[a'G,a'I,a'J];refine d'P T hw ⟨by walk_at "k",?_⟩;unfold akv at h;split;rotate_left
 ·rename_i c;rw[if_neg c] at h;exact h
 rename_i c;rw[if_pos c] at h
 try walk_at "p"
 try simp only[a'G,a'I,a'J]
 refine a'H T hw ⟨hn.1,?_⟩
 try walk_at "p"
 have lw:=t'Z hn (d'r hw (p+1));generalize hol ns (wat ws (p+1))=N at h lw ⊢;obtain⟨L,rfl⟩:∃ L,N=tx L:=⟨_,(b'N _).symm⟩
 rw[a'p] at lw;rw[a'x] at h;refine⟨rfl,L,rfl,by omega,λρ=>?_⟩;walk_at "p";by_cases c1:akx L=true;rotate_left
 ·rw[if_pos (by simp[c1])];rw[if_neg (λz=>c1 z.1)] at h;exact h
 rw[if_neg (by simp[c1])];have fin:¬ (tx L="frame"/\(x="gap"\/x="drop"))->akt T.afG (Str.ofString "word") (Str.ofString "name") [Tr.ins Fl.o T.afG [],Tr.str x,Tr.str (tx L)] λt ρ'=>t=Tr.non/\aj9 ρ'[0]? λt=>nol t=true/\Q' t [rdT T Fl.o ws ns (p+1+1),Tr.str x,Tr.str (tx L)]:=λc=>by
  rw[if_pos ⟨c1,c⟩] at h;exact c'n rfl (by intro z;cases z) rfl (by intro z;cases z) ⟨o_o T (.edge x (tx L)),h _ (.inr rfl) _ rfl⟩
 by_cases c2:tx L=Str.ofString "frame";rotate_left
 ·rw[if_neg (λz=>c2 (of_decide_eq_true z))];exact fin λz=>c2 z.1
 rw[if_pos (decide_eq_true c2)];refine c'O (ns:=["gap","drop"]) ?_;walk_at "p";by_cases c3:x∈([("gap":Str),"drop"]:List Str)
 ·rw[if_pos (decide_eq_true c3)];rw[if_neg (λz=>z.2 ⟨c2,by simpa using c3⟩)] at h;exact h
 ·rw[if_neg (λz=>c3 (of_decide_eq_true z))];exact fin λz=>c3 (by simpa using z.2)
theorem j'J(T:Tx K mg):∀ C g,DR T C g->MOkA P w K mg base (CX1 P w) 4 "read_edge" C ["self","word"] (spX K true 2 2 (aku T λx ws ns p Q q=>nsk ns/\(akv ws ns x p).run T Q q)):=λC g h=>by
 obtain⟨rfl,rfl⟩:=h;exact⟨T.agM,_,_,T.agU,d'W T,T.aee⟩
theorem u'a{L:List Nat}{a b:Int}(h:ajS L=some (a,b)):(Rat.divInt a b).num=a/\(((Rat.divInt a b).den:Nat):Int)=b:=by
 unfold ajS at h;split at h
 ·split at h
  ·cases h;have eq:∀ i:Int,Rat.divInt i 1=(i:Rat):=λi=>by rw[<- Rat.num_divInt_den (i:Rat),Rat.num_intCast,Rat.den_intCast];rfl
   rw[eq,Rat.num_intCast,Rat.den_intCast];exact⟨rfl,rfl⟩
  ·cases h
 ·split at h
  ·rename_i t b' _ c;cases h;have h0:¬ vl b'=0:=by omega
   have e:Rat.divInt (sgn L (vl t)) (vl b')=⟨sgn L (vl t),vl b',h0,by rw[c'C];exact c.2.2.2.1⟩:=by
    conv=>rhs;rw[<- Rat.num_divInt_den (⟨sgn L (vl t),vl b',h0,by rw[c'C];exact c.2.2.2.1⟩:Rat)]
   rw[e];exact⟨rfl,rfl⟩
  ·cases h
 ·cases h
def ajj(ws:List Str)(G:Nat->PR):Nat->Tm->Nat->PR
 |0,_,_=>.out
 |k + 1,t,p=>if wat ws p = "and" then (G (p + 1)).bind λu p'=>ajj ws G k (.plus t u) p' else if wat ws p = "less" then (G (p + 1)).bind λu p'=>ajj ws G k (.minus t u) p' else .ok t p
def ajo(ws:List Str)(G:Nat->PR)(p:Nat):PR:=(G p).bind λt p'=>ajj ws G 61 t p'
def ah3(ws ns:List Str):Nat->Nat->PR
 |0,_=>.out
 |n + 1,p=>
  if wat ws p="(" then (ajo ws (ah3 ws ns n) (p+1)).bind λt p'=>if wat ws p'=")" then .ok t (p'+1) else .er
  else if wat ws p∈acr\/dwn (wat ws p)=true then akv ws ns (wat ws p) (p+1)
  else match ajS (wat ws p).cps.toList with
   |none=>.er
   |some (a,b)=>if wat ws (p+1)="times" then (ah3 ws ns n (p+2)).bind λt p'=>.ok (.times (Rat.divInt a b) t) p' else .ok (.num (Rat.divInt a b)) (p+1)
def aj4(T:Tx K mg)(n:Nat)(ws ns:List Str)(p:Nat)(Q:Tr->Nat->Prop)(q:Value->Prop):Prop:=nsk ns/\(ah3 ws ns n p).run T Q q
def aki(T:Tx K mg)(n:Nat)(ws ns:List Str)(p:Nat)(Q:Tr->Nat->Prop)(q:Value->Prop):Prop:=nsk ns/\(ajo ws (ah3 ws ns n) p).run T Q q
theorem c'T(T:Tx K mg){r:PR}{f:Tm->Nat->PR}{Q Q2:Tr->Nat->Prop}{q:Value->Prop}(h:(r.bind f).run T Q q)(k:∀ t p' v,tmR T t v->(f t p').run T Q q->Q2 v p'):r.run T Q2 q:=by
 cases r with
 |ok t p=>exact λv hv=>k t p v hv h
 |er=>exact h
 |out=>exact h
theorem b'Q(T:Tx K mg){ws ns:List Str}{p:Nat}{q:Value->Prop}{F:Tr->Tr->Prop}(hw:rdk ws)(h:F (.str (wat ws p)) (rdT T .o ws ns (p+1))):ajP (DR T) "step" (rdT T .o ws ns p) λ_=>ajN T ajM [rdT T .o ws ns p] (λt ρ'=>pV ρ'[0]? λu=>nol u=true/\F t u) q:=a'H T hw h
theorem j'K(T:Tx K mg){r:PR}{Q Q2:Tr->Nat->Prop}{q:Value->Prop}(h:r.run T Q q)(k:∀ t p' v,tmR T t v->Q v p'->Q2 v p'):r.run T Q2 q:=by
 cases r with
 |ok t p=>exact λv hv=>k t p v hv (h v hv)
 |er=>exact h
 |out=>exact h
theorem d'R(T:Tx K mg)(n:Nat)(ih:∀ C g,DR T C g->MOkA P w K mg base (CX1 P w) (2*n+6) "read_term" C ["self"] (spX K true 1 1 (ajN T (aj4 T n)))):FnOk P w K mg base (CX1 P w) (2*n+7) T.aej T.aek ["self"] (spX K true 1 1 (ajN T (aki T n))):=by
 refine b'g T.ael ahS rfl (by decide) λ_ _ _ _ _ _ q hr=>?_
 have hu:=a'o hr;refine⟨_,(a'b (a'F (i:=1) ahS.nd (by decide) rfl (Or.inl rfl) (a'w 0 ((λC g d=>MOkA.mono (ih C g d) (by omega))) (a'q (a'A rfl rfl rfl rfl)) (by walk_at "z") (λ_ _ _ _ h=>h.1) hr))
  (a'b (i'c (p'f rfl) (QW.t (b's (a'i (a'y hr.units) a'm (a'D ((λC g d=>MOkA.mono (d'Q T C g d) (by omega))) (by walk_at "z") (λ_ _ _ h=>h.1) hr (qv 0)) a'f (by walk_at "u")) (b'u (a'i (a'y hr.units) a'm (a'D ((λC g d=>MOkA.mono (d'Q T C g d) (by omega))) (by walk_at "z") (λ_ _ _ h=>h.1) hr (qv 0)) a'f (by walk_at "u"))))) (a'e (o'X (a'y hr.units) a'm (a'w 0 ((λC g d=>MOkA.mono (b'D T C g d) (by omega))) (a'q (a'A rfl rfl rfl rfl)) (by walk_at "z") (λ_ _ _ _ h=>h.1) hr) (c'L a'f) (by walk_at "u") (a'e (a'F (i:=1) ahS.nd (by decide) rfl (Or.inl rfl) (g'L T.af3 ((c'Q T).mono (by omega)) (by walk_at "z") (λ_ _ h=>h.1) hr rfl T.afZ T.adf (a'K (c'L (qv 1)) (a'K (a'w 0 ((λC g d=>MOkA.mono (ih C g d) (by omega))) (a'q (a'A rfl rfl rfl rfl)) (by walk_at "z") (λ_ _ _ _ h=>h.1) hr) c'A))))) (a'e (a'F (i:=1) ahS.nd (by decide) rfl (Or.inl rfl) (g'L T.agc ((c's T).mono (by omega)) (by walk_at "z") (λ_ _ h=>h.1) hr rfl T.af8 T.adr (a'K (c'L (qv 1)) (a'K (a'w 0 ((λC g d=>MOkA.mono (ih C g d) (by omega))) (a'q (a'A rfl rfl rfl rfl)) (by walk_at "z") (λ_ _ _ _ h=>h.1) hr) c'A))))))))
  (a'e (a'g (qv 1))))),?_⟩
 rintro xs Q' _ ⟨_,ws,ns,p,rfl,hw,hn,h⟩;simp only[List.cons_append,List.nil_append];walk_at "p";simp only[a'G,a'I,a'J];refine a'H T hw ⟨hn,c'T T h λt p' v hv h=>?_⟩;simp only[r_f T hv,r_o T hv,r_t T hv,true_and];refine⟨λm ρ=>∃ t p',ρ=[rdT T .o ws ns p',tmT T t]/\(ajj ws (ah3 ws ns n) m t p').run T (λt p'=>∀(ρ:List Tr),ρ[0]?=some (rdT T Fl.o ws ns p')->Q' t ρ) q,⟨61,t,p',rfl,h⟩,?_⟩;clear h hv v t p';rintro m ρ ⟨t,p1,rfl,h⟩;cases m with
 |zero=>exact h.elim
 |succ k=>
 unfold ajj at h;walk_at "p";simp only[a'G,a'I,a'J];refine c'w T ?_;walk_at "p";by_cases c1:wat ws p1=Str.ofString "and"
 ·rw[if_pos (decide_eq_true c1)];rw[if_pos c1] at h;refine a'H T hw ?_;unfold ajM;walk_at "p";rw[if_pos (decide_eq_true c1)];simp only[a'G,a'I,a'J,m_l,m_v,m_t,m_d,m_f,true_and];refine a'H T hw ⟨hn,c'T T h λu p' v hv h=>?_⟩;simp only[r_f T hv,m_d];refine c'n (a'W T t) (c'f T t) (a'W T u) (c'f T u) ⟨k,by omega,.plus t u,p',?_,h⟩;rw[show Tr.ins .o T.afY [(Str.ofString "one",tmT T t),(Str.ofString "other",tmT T u)]=tmO T (.plus t u) from rfl,o_f]
 ·rw[if_neg (λz=>c1 (of_decide_eq_true z))];rw[if_neg c1] at h;refine c'w T ?_;walk_at "p";by_cases c2:wat ws p1=Str.ofString "less"
  ·rw[if_pos (decide_eq_true c2)];rw[if_pos c2] at h;refine a'H T hw ?_;unfold ajM;walk_at "p";rw[if_neg (λz=>c1 (of_decide_eq_true z))];simp only[a'G,a'I,a'J,m_l,m_v,m_t,m_d,m_f,true_and];refine a'H T hw ⟨hn,c'T T h λu p' v hv h=>?_⟩;simp only[r_f T hv,m_d];refine c'n (a'W T t) (c'f T t) (a'W T u) (c'f T u) ⟨k,by omega,.minus t u,p',?_,h⟩;rw[show Tr.ins .o T.af7 [(Str.ofString "one",tmT T t),(Str.ofString "other",tmT T u)]=tmO T (.minus t u) from rfl,o_f]
  ·rw[if_neg (λz=>c2 (of_decide_eq_true z))];rw[if_neg c2] at h;simp only[m_l,m_v,m_o,true_and];exact h _ (.inl rfl) _ rfl
theorem j'L(T:Tx K mg)(n:Nat)(ih:∀ C g,DR T C g->MOkA P w K mg base (CX1 P w) (2*n+6) "read_term" C ["self"] (spX K true 1 1 (ajN T (aj4 T n)))):∀ C g,DR T C g->MOkA P w K mg base (CX1 P w) (2*n+7) "read_terms" C ["self"] (spX K true 1 1 (ajN T (aki T n))):=λC g h=>by
 obtain⟨rfl,rfl⟩:=h;exact⟨T.agM,_,_,T.agW,d'R T n ih,T.aem⟩
theorem d'X(T:Tx K mg)(n:Nat)(ih:∀ C g,DR T C g->MOkA P w K mg base (CX1 P w) (2*n+6) "read_term" C ["self"] (spX K true 1 1 (ajN T (aj4 T n)))):FnOk P w K mg base (CX1 P w) (2*(n+1)+6) T.ad7 T.ad8 ["self"] (spX K true 1 1 (ajN T (aj4 T (n+1)))):=by
 refine b'g T.ad9 ahQ rfl (by decide) λ_ _ _ _ _ _ q hr=>?_
 have hu:=a'o hr;refine⟨_,(a'b (a'F (i:=1) ahQ.nd (by decide) rfl (Or.inl rfl) (a'w 0 ((λC g d=>MOkA.mono (b'D T C g d) (by omega))) (a'q (a'A rfl rfl rfl rfl)) (by walk_at "z") (λ_ _ _ _ h=>h.1) hr))
  (a'b (a't (a'i (a'y hr.units) a'm (qv 1) a'f (by walk_at "u")) (a'b (a'F (i:=2) ahQ.nd (by decide) rfl (Or.inl rfl) (a'w 0 ((λC g d=>MOkA.mono (j'L T n ih C g d) (by omega))) (a'q (a'A rfl rfl rfl rfl)) (by walk_at "z") (λ_ _ _ _ h=>h.1) hr))
  (a'b (c'B (e'X 0 ((λC g d=>MOkA.mono (e'E T C g d) (by omega))) (a'q (a'A rfl rfl rfl rfl)) (by walk_at "z") (λ_ _ _ _ h=>h.1) hr (m'v a'f g'g)))
  (a'e (a'g (qv 2))))) a'l)
  (a'b (a't (QW.t (b's (a'i (i'G hu) e'm (qv 1) (e'Y ["left","width","right","middle","gap"] rfl T.aeS T.aeT) (by walk_at "u")) (b'u (a'i (i'G hu) e'm (qv 1) (e'Y ["top","height","bottom","centre","drop"] rfl T.aeV T.aeW) (by walk_at "u"))))) (a'e (o'Y (e'X 0 ((λC g d=>MOkA.mono (j'J T C g d) (by omega))) (a'q (a'A rfl rfl rfl rfl)) (by walk_at "z") (λ_ _ _ _ h=>h.1) hr (m'v (qv 1) g'g)))) a'l)
  (a'b (a'k (i:=3) ahQ.nd (by decide) rfl (Or.inl rfl) (e'P ((g'S T).mono (by omega)) (a'q (a'A rfl rfl rfl rfl)) (by walk_at "z") (λ_ _ _ h=>h.1) hr rfl T.aat T.aar.kp T.aas (QA.frz (a'a (qv 1) a'd))))
  (a'b (a't (a'i (d'I hr.units) b'z (a'D ((λC g d=>MOkA.mono (d'Q T C g d) (by omega))) (by walk_at "z") (λ_ _ _ h=>h.1) hr (qv 0)) a'f (by walk_at "u")) (a'e (a'g (c'K T.afC ((c'l T).mono (by omega)) (by walk_at "z") (λ_ _ h=>h.1) hr rfl T.afz T.acB (QA.frz (a'a (qv 3) a'd))))) a'l)
  (a'b (c'B (a'w 0 ((λC g d=>MOkA.mono (b'D T C g d) (by omega))) (a'q (a'A rfl rfl rfl rfl)) (by walk_at "z") (λ_ _ _ _ h=>h.1) hr))
  (a'e (o'Y (g'L T.afU ((c'r T).mono (by omega)) (by walk_at "z") (λ_ _ h=>h.1) hr rfl T.afQ T.ac3 (a'K (c'L (qv 3)) (a'K (a'w 0 ((λC g d=>MOkA.mono (ih C g d) (by omega))) (a'q (a'A rfl rfl rfl rfl)) (by walk_at "z") (λ_ _ _ _ h=>h.1) hr) c'A))))))))))),?_⟩
 rintro xs Q' _ ⟨_,ws,ns,p,rfl,hw,hn,h⟩;simp only[List.cons_append,List.nil_append];walk_at "p";simp only[a'G,a'I,a'J];refine b'Q T hw ?_;walk_at "p";unfold ah3 at h;simp only[a'G,a'I,a'J];by_cases c0:wat ws p=Str.ofString "("
 ·rw[if_pos (decide_eq_true c0)];rw[if_pos c0] at h;refine a'H T hw ⟨hn,c'T T h λt p' v hv h=>?_⟩;simp only[r_f T hv,m_l,m_v,m_o,a'G,a'I,a'J,true_and];refine d'P T hw ⟨by walk_at "k",?_⟩;split
  ·rename_i c;rw[if_pos c] at h;exact h _ (.inl rfl) _ rfl
  ·rename_i c;rw[if_neg c] at h;exact h
 rw[if_neg (λz=>c0 (of_decide_eq_true z))];rw[if_neg c0] at h;have he:wat ws p∈acr\/dwn (wat ws p)=true->ajP (DR T) (Str.ofString "read_edge") (rdT T Fl.o ws ns (p+1)) λc=>aku T (λx ws ns p Q q=>nsk ns/\PR.run T (akv ws ns x p) Q q) [rdT T (dfl .o) ws ns (p+1),Tr.str (wat ws p)] (λt ρ'=>pV ρ'[0]? λt_1=>nol t_1=true/\nol t=true/\Q' t [t_1,Tr.str (wat ws p),Tr.hole,Tr.hole]) q:=λc=>by
  rw[if_pos c] at h;exact d'P T hw ⟨hn,j'K T h λt p' v hv h=>⟨r_o T hv,h _ rfl⟩⟩
 refine c'O (ns:=acr) ?_;walk_at "p";by_cases c1:wat ws p∈acr
 ·rw[if_pos (decide_eq_true c1)];exact he (.inl c1)
 rw[if_neg (λz=>c1 (of_decide_eq_true z))];refine c'O (ns:=["top","height","bottom","centre","drop"]) ?_;walk_at "p";by_cases c2:wat ws p∈([("top":Str),"height","bottom","centre","drop"]:List Str)
 ·rw[if_pos (decide_eq_true c2)];exact he (.inr (decide_eq_true c2))
 rw[if_neg (λz=>c2 (of_decide_eq_true z))];rw[if_neg (λz=>z.elim c1 λz=>c2 (of_decide_eq_true z))] at h;have lw:=d'r hw p;obtain⟨L,e⟩:∃ L,wat ws p=tx L:=⟨_,(b'N _).symm⟩;rw[e,a'x] at h;rw[e,a'p] at lw;rw[e];refine⟨rfl,L,rfl,lw,λa b hd ρ=>?_,λhd=>?_⟩;rotate_left
 ·rw[hd] at h;exact h
 rw[hd] at h;dsimp only at h;obtain⟨d1,d2⟩:=u'a hd;have et:Tr.tup [.int a,.int b]=Enc.t (Rat.divInt a b):=by rw[r'l,d1,d2]
 rw[et];generalize Rat.divInt a b=r at h;walk_at "p"
 try simp only[a'G,a'I,a'J]
 refine c'w T ?_;walk_at "p";by_cases c3:wat ws (p+1)=Str.ofString "times"
 ·rw[if_neg (by simp[c3])];rw[if_pos c3] at h;refine b'Q T hw ?_;simp only[a'G,a'I,a'J,true_and]
  try walk_at "p"
  refine a'H T hw ⟨hn,c'T T h λt p' v hv h=>?_⟩;simp only[r_f T hv,m_d];exact c'n (Enc.c r) (Enc.h r) (a'W T t) (c'f T t) ⟨o_o T (.times r t),h _ (.inr rfl) _ rfl⟩
 ·rw[if_pos (by simp[c3])];rw[if_neg c3] at h;exact p'r (Enc.c r) (Enc.h r) ⟨o_o T (.num r),h _ (.inr rfl) _ rfl⟩
theorem e'F(T:Tx K mg):∀ n,∀ C g,DR T C g->MOkA P w K mg base (CX1 P w) (2*n+6) "read_term" C ["self"] (spX K true 1 1 (ajN T (aj4 T n)))
 |0=>λC g h=>by
  obtain⟨rfl,rfl⟩:=h;refine⟨T.agM,_,_,T.agT,?_,T.aea⟩;refine b'g T.ad9 ahQ rfl (by decide) λ_ _ _ _ _ _ q hr=>⟨_,b'I,?_⟩
  rintro xs Q' _ ⟨_,ws,ns,p,rfl,hw,hn,h⟩;exact h.elim
 |n + 1=>λC g h=>by
  have ih:=e'F T n;obtain⟨rfl,rfl⟩:=h;exact⟨T.agM,_,_,T.agT,d'X T n ih,T.aea⟩
theorem c'p(T:Tx K mg)(n:Nat):∀ C g,DR T C g->MOkA P w K mg base (CX1 P w) (2*n+7) "read_terms" C ["self"] (spX K true 1 1 (ajN T (aki T n))):=j'L T n (e'F T n)
def aj5(ws:List Str)(p:Nat):Str×Nat:=if wat ws p="at" then ("at "++wat ws (p+1),p+2) else (wat ws p,p+1)
def vbs:List Str:=["is","at least","at most"]
def akW(T:Tx K mg)(ws _ns:List Str)(p:Nat)(Q:Tr->Nat->Prop)(q:Value->Prop):Prop:=if (aj5 ws p).1∈vbs then Q (.str (aj5 ws p).1) (aj5 ws p).2 else q (.ref T.afn)
theorem d'Y(T:Tx K mg):FnOk P w K mg base (CX1 P w) 3 T.aen T.aeo ["self"] (spX K true 1 1 (ajN T (akW T))):=by
 refine b'g T.aep ahV rfl (by decide) λ_ _ _ _ _ _ q hr=>?_
 have hu:=a'o hr;refine⟨_,(a'b (a'F (i:=1) ahV.nd (by decide) rfl (Or.inl rfl) (a'w 0 ((λC g d=>MOkA.mono (b'D T C g d) (by omega))) (a'q (a'A rfl rfl rfl rfl)) (by walk_at "z") (λ_ _ _ _ h=>h.1) hr))
  (a'b (a't (a'i (a'y hr.units) a'm (qv 1) a'f (by walk_at "u")) (a'b (a'F (i:=2) ahV.nd (by decide) rfl (Or.inl rfl) (a'w 0 ((λC g d=>MOkA.mono (b'D T C g d) (by omega))) (a'q (a'A rfl rfl rfl rfl)) (by walk_at "z") (λ_ _ _ _ h=>h.1) hr))
  (a'e (a'k (i:=1) ahV.nd (by decide) rfl (Or.inl rfl) (b'w (b'b (a'L (qv 2) b'v)))))) a'l)
  (a'b (a't (a'i (k'u hu) h'y (qv 1) (c'Y (a'a a'f (a'a a'f (a'a a'f a'd)))) (by walk_at "u")) (a'e (b'l rfl rfl rfl rfl rfl rfl T.afo PySem.F.excBase_ValueError T.afp a'f)) a'l)
  (a'e (a'g (qv 1)))))),?_⟩
 rintro xs Q' _ ⟨_,ws,ns,p,rfl,hw,h⟩;simp only[List.cons_append,List.nil_append];walk_at "p";simp only[a'G,a'I,a'J];refine b'Q T hw ?_;walk_at "p";unfold akW aj5 at h;by_cases c:wat ws p=Str.ofString "at"
 ·rw[if_pos (decide_eq_true c)];rw[if_pos c] at h;simp only[a'G,a'I,a'J];refine b'Q T hw ?_;walk_at "p";have lw:=d'r hw (p+1);have e1:(Str.ofString "at ").length=3:=by walk_at "k"
  rw[b'O];refine⟨by omega,by omega,by rw[a'h];omega,by rw[a'h];omega,?_⟩;refine c'O (ns:=vbs) ?_;walk_at "p";split
  ·rename_i d;rw[if_neg (by simpa using d)] at h;exact h
  ·rename_i d;rw[if_pos (by simpa using d)] at h;exact h _ rfl
 ·rw[if_neg (λz=>c (of_decide_eq_true z))];rw[if_neg c] at h;refine c'O (ns:=vbs) ?_;walk_at "p";split
  ·rename_i d;rw[if_neg (by simpa using d)] at h;exact h
  ·rename_i d;rw[if_pos (by simpa using d)] at h;exact h _ rfl
theorem j'M(T:Tx K mg):∀ C g,DR T C g->MOkA P w K mg base (CX1 P w) 3 "read_verb" C ["self"] (spX K true 1 1 (ajN T (akW T))):=λC g h=>by
 obtain⟨rfl,rfl⟩:=h;exact⟨T.agM,_,_,T.agX,d'Y T,T.aeq⟩
def aj6(T:Tx K mg)(ws _ns:List Str)(p:Nat)(Q:Tr->Nat->Prop)(q:Value->Prop):Prop:=if ws.length<=p then Q (.int 0) p else if wat ws p="by"/\wat ws (p+1)∈rnk.tail then (∀ j:Nat,rnk[j]?=some (wat ws (p+1))->Q (.int j) (p+2)) else q (.ref T.afn)
theorem d'Z(T:Tx K mg):FnOk P w K mg base (CX1 P w) 4 T.aer T.aes ["self"] (spX K true 1 1 (ajN T (aj6 T))):=by
 refine b'g T.aet aix rfl (by decide) λ_ _ _ _ _ _ q hr=>?_
 have hu:=a'o hr;refine⟨_,(a'b (a't (b'c (a'D ((λC g d=>MOkA.mono (e'C T C g d) (by omega))) (by walk_at "z") (λ_ _ _ h=>h.1) hr (qv 0))) (a'e (a'g a'c)) a'l)
  (a'b (c'B (e'X 0 ((λC g d=>MOkA.mono (e'E T C g d) (by omega))) (a'q (a'A rfl rfl rfl rfl)) (by walk_at "z") (λ_ _ _ _ h=>h.1) hr (m'v a'f g'g)))
  (a'b (a'F (i:=1) aix.nd (by decide) rfl (Or.inl rfl) (a'w 0 ((λC g d=>MOkA.mono (b'D T C g d) (by omega))) (a'q (a'A rfl rfl rfl rfl)) (by walk_at "z") (λ_ _ _ _ h=>h.1) hr))
  (a'b (a't (a'i (k'u hu) h'y (qv 1) (x'd (e'Y ["must","hand","strong","fair","faint"] rfl T.ae4 T.ae5) (e'n a'c) m'o) (by walk_at "u")) (a'e (b'l rfl rfl rfl rfl rfl rfl T.afo PySem.F.excBase_ValueError T.afp a'f)) a'l)
  (a'e (a'g (q'N ["must","hand","strong","fair","faint"] rfl T.ae4 T.ae5 T.ae6 (qv 1) ⟨rfl,rfl,rfl,rfl⟩))))))),?_⟩
 rintro xs Q' _ ⟨_,ws,ns,p,rfl,hw,h⟩;simp only[List.cons_append,List.nil_append];walk_at "p";simp only[a'G,a'I,a'J];refine e'D T ?_;walk_at "p";unfold aj6 at h;by_cases c:ws.length<=p
 ·rw[if_pos (decide_eq_true c)];rw[if_pos c] at h;exact h _ rfl
 rw[if_neg (λz=>c (of_decide_eq_true z))];rw[if_neg c] at h
 try simp only[a'G,a'I,a'J]
 refine d'P T hw ⟨by walk_at "k",?_⟩;by_cases c1:wat ws p="by";rotate_left
 ·rw[if_neg c1];rw[if_neg (λz=>c1 z.1)] at h;exact h
 rw[if_pos c1]
 try simp only[a'G,a'I,a'J]
 refine b'Q T hw ?_;walk_at "p";refine⟨by decide,rnk,rfl,?_⟩;refine c'O (ns:=rnk.tail) ?_;walk_at "p";split
 ·rename_i d;rw[if_neg (λz=>absurd z.2 (by simpa using d))] at h;exact h
 ·rename_i d;have d:wat ws (p+1)∈rnk.tail:=by simpa using d
  rw[if_pos ⟨c1,d⟩] at h;have d':wat ws (p+1)="hand"\/wat ws (p+1)="strong"\/wat ws (p+1)="fair"\/wat ws (p+1)="faint":=by
   unfold rnk at d;simpa using d
  rcases d' with e |e |e |e
  ·rw[e] at h ⊢;exact⟨1,by walk_at "k",by walk_at "k",h 1 (by walk_at "k") _ rfl⟩
  ·rw[e] at h ⊢;exact⟨2,by walk_at "k",by walk_at "k",h 2 (by walk_at "k") _ rfl⟩
  ·rw[e] at h ⊢;exact⟨3,by walk_at "k",by walk_at "k",h 3 (by walk_at "k") _ rfl⟩
  ·rw[e] at h ⊢;exact⟨4,by walk_at "k",by walk_at "k",h 4 (by walk_at "k") _ rfl⟩
theorem j'N(T:Tx K mg):∀ C g,DR T C g->MOkA P w K mg base (CX1 P w) 4 "read_rank" C ["self"] (spX K true 1 1 (ajN T (aj6 T))):=λC g h=>by
 obtain⟨rfl,rfl⟩:=h;exact⟨T.agM,_,_,T.agY,d'Z T,T.aeu⟩
def akX(T:Tx K mg)(ws _ns:List Str)(p:Nat)(Q:Tr->Nat->Prop)(q:Value->Prop):Prop:=if ws.length<=p then Q (.int 1) p else if whole 7 (wat ws p).cps.toList=true/\2<=vl (wat ws p).cps.toList/\vl (wat ws p).cps.toList<=1000000 then Q (.int (vl (wat ws p).cps.toList)) (p+1) else q (.ref T.afn)
theorem d's(T:Tx K mg):FnOk P w K mg base (CX1 P w) 4 T.aev T.aew ["self"] (spX K true 1 1 (ajN T (akX T))):=by
 refine b'g T.aex aig rfl (by decide) λ_ _ _ _ _ _ q hr=>?_
 have hu:=a'o hr;refine⟨_,(a'b (a't (b'c (a'D ((λC g d=>MOkA.mono (e'C T C g d) (by omega))) (by walk_at "z") (λ_ _ _ h=>h.1) hr (qv 0))) (a'e (a'g a'c)) a'l)
  (a'b (a'F (i:=1) aig.nd (by decide) rfl (Or.inl rfl) (a'w 0 ((λC g d=>MOkA.mono (b'D T C g d) (by omega))) (a'q (a'A rfl rfl rfl rfl)) (by walk_at "z") (λ_ _ _ _ h=>h.1) hr))
  (a'b (a't (QW.t (b's (b'r (b'c (a'j ((d'f T).mono (by omega)) (by walk_at "z") (λ_ _ h=>h.1) hr rfl T.aao T.aam.kp T.aan (QA.frz (a'a (qv 1) (a'a (i'O rfl T.afi) a'd)))))) (b'u (b'r (f'z e'G d'k e'G d'k a'c (b't b'L b'Y rfl T.ahJ rfl (a'a (qv 1) a'd)) (i'O rfl T.afk)))))) (a'e (b'l rfl rfl rfl rfl rfl rfl T.afo PySem.F.excBase_ValueError T.afp a'f)) a'l)
  (a'e (a'g (b't b'L b'Y rfl T.ahJ rfl (a'a (qv 1) a'd))))))),?_⟩
 rintro xs Q' _ ⟨_,ws,ns,p,rfl,hw,h⟩;simp only[List.cons_append,List.nil_append];walk_at "p";simp only[a'G,a'I,a'J];refine e'D T ?_;walk_at "p";unfold akX at h;by_cases c:ws.length<=p
 ·rw[if_pos (decide_eq_true c)];rw[if_pos c] at h;exact h _ rfl
 rw[if_neg (λz=>c (of_decide_eq_true z))];rw[if_neg c] at h
 try simp only[a'G,a'I,a'J]
 refine b'Q T hw ?_;walk_at "p";have lw:=d'r hw p;obtain⟨L,e⟩:∃ L,wat ws p=tx L:=⟨_,(b'N _).symm⟩;rw[e] at lw ⊢;simp only[e,a'x] at h;rw[a'p] at lw;refine⟨rfl,L,7,rfl,by omega,λρ=>?_⟩;walk_at "p";by_cases c1:whole 7 L=true;rotate_left
 ·rw[if_pos (by simp[c1])];rw[if_neg (λz=>c1 z.1)] at h;exact h
 rw[if_neg (by simp[c1])];obtain⟨w1,w2,w3,w4⟩:=b'p c1;have hi:intText? (tx L)=some (vl L:Int):=intText_digits (d'q w3) w1 (by rw[a'p];omega);refine⟨_,hi,by rw[a'p];omega,?_⟩;by_cases c2:2<=vl L;rotate_left
 ·rw[if_neg (λz=>c2 (by have:=of_decide_eq_true z;omega))];rw[if_neg (λz=>c2 z.2.1)] at h;exact h
 rw[if_pos (decide_eq_true (by omega))];by_cases c3:vl L<=1000000;rotate_left
 ·rw[if_pos (by simp;omega)];rw[if_neg (λz=>c3 z.2.2)] at h;exact h
 rw[if_neg (by simp;omega)];rw[if_pos ⟨c1,c2,c3⟩] at h;exact⟨_,hi,by rw[a'p];omega,h _ rfl⟩
theorem h'd(T:Tx K mg):∀ C g,DR T C g->MOkA P w K mg base (CX1 P w) 4 "read_weight" C ["self"] (spX K true 1 1 (ajN T (akX T))):=λC g h=>by
 obtain⟨rfl,rfl⟩:=h;exact⟨T.agM,_,_,T.agZ,d's T,T.aey⟩
theorem w'r(T:Tx K mg)(ws ns:List Str)(p:Nat):nlt (rdT T .o ws ns p)=true:=by
 simp only[rdT,i_t,nltf,g'I,i'Q,m'q,e'T,Bool.and_self]
theorem p's(T:Tx K mg){ws ns:List Str}{p:Nat}{Q:Tr->Prop}(h:Q (rdT T .o ws ns p)):aj9 (some (rdT T .o ws ns p)) Q:=⟨w'p T _ _ _,h⟩
theorem l'I:nsk []:=⟨Nat.zero_le _,λ_ m=>nomatch m⟩
def anH(T:Tx K mg)(ws:List Str)(Q:Tr->Prop)(q:Value->Prop):Prop:=(ajo ws (ah3 ws [] 63) 0).run T (λv p'=>if ws.length<=p' then Q (Pu.frz v) else q (.ref T.afn)) q
def amP(T:Tx K mg):ajm:=λxs Q q=>xs.length=1/\∃ x:Str,xs=[.str x]/\x.length<=20000/\(60<(wds x).length->q (.ref T.afn))/\((wds x).length<=60->anH T (wds x) (λv=>∀ ρ,Q v ρ) q)
theorem k'b(T:Tx K mg):FnOk P w K mg base (CX1 P w) 140 T.aaO T.aaP ["text"] (spX K true 0 1 (amP T)):=by
 refine b'g T.aaQ ajh rfl (by decide) λ_ _ _ _ _ _ q hr=>?_
 have hu:=a'o hr;refine⟨_,(a'b (i'd (i:=1) ajh.nd (by decide) rfl (Or.inl rfl) (b'M T.agQ ((c'm T).mono (by omega)) (a'q (a'A rfl rfl rfl rfl)) (by walk_at "z") (λ_ _ _ h=>h.1) hr rfl T.agL T.adY (QA.frz (a'a (qv 0) (a'a (a'U a'd) a'd)))))
  (a'b (a'F (i:=2) ajh.nd (by decide) rfl (Or.inl rfl) (a'w 1 ((λC g d=>MOkA.mono (c'p T 63 C g d) (by omega))) (a'q (a'A rfl rfl rfl rfl)) (by walk_at "z") (λ_ _ _ _ h=>h.1) hr))
  (a'b (c'B (a'w 1 ((λC g d=>MOkA.mono (h'H T C g d) (by omega))) (a'q (a'A rfl rfl rfl rfl)) (by walk_at "z") (λ_ _ _ _ h=>h.1) hr))
  (a'e (a'g (qv 2)))))),?_⟩
 rintro xs Q' _ ⟨_,x,rfl,hx,h1,h2⟩;simp only[List.cons_append,List.nil_append];walk_at "p";refine⟨rfl,x,[],rfl,hx,h1,λhl ρ e=>⟨rfl,?_⟩⟩;have hw:=l'H hl hx;have h:=h2 hl;rw[e];refine p's T ⟨w'r T _ _ _,?_⟩;simp only[a'G,a'I,a'J];refine a'H T hw ⟨l'I,j'K T h λt p' v hv h=>?_⟩;simp only[r_f T hv,m_l,m_v,m_o,a'G,a'I,a'J,true_and];rw[r_f T hv] at h;refine a'H T hw ?_;show (if _ then _ else _);split
 ·rename_i c;rw[if_pos c] at h;exact h _
 ·rename_i c;rw[if_neg c] at h;exact h
structure Fil(ws ns:List Str)(x:Wi)(p1 p3 p4 p5:Nat):Prop where
 k:x.k<3
 a:ajo ws (ah3 ws ns 63) 0=.ok x.a p1
 v:(aj5 ws p1).1=vrb x.k
 b:ajo ws (ah3 ws ns 63) (aj5 ws p1).2=.ok x.b p3
 r:(ws.length<=p3/\x.r=0/\p4=p3)\/(¬ ws.length<=p3/\wat ws p3="by"/\1<=x.r/\x.r<5/\rnk[x.r.toNat]?=some (wat ws (p3+1))/\p4=p3+2)
 w:(ws.length<=p4/\x.v=1/\p5=p4)\/(¬ ws.length<=p4/\whole 7 (wat ws p4).cps.toList=true/\x.v=vl (wat ws p4).cps.toList/\2<=x.v/\x.v<=1000000/\p5=p4+1)
 e:ws.length<=p5
def Wi.mk'(x:Wi):Prop:=x.a.dep<=64/\x.b.dep<=64/\(edg x.a).length+(edg x.b).length<60/\(ajk (wys x.a++wys x.b)).length<=1
def amQ(T:Tx K mg):ajm:=λxs Q q=>xs.length=2/\∃(x:Str)(ns:List Str),xs=[.str x,.lst .f (ns.map Enc.t)]/\nsk ns/\x.length<=20000/\(60<(wds x).length->q (.ref T.afn))/\((wds x).length<=60->∃(y:Wi)(p1 p3 p4 p5:Nat),Fil (wds x) ns y p1 p3 p4 p5/\y.mk'/\∀ ρ,Q (wiT T .o y) ρ)
theorem u'b{i j:Nat}{x:Str}(h1:rnk[i]?=some x)(h2:rnk[j]?=some x):i=j:=by
 have a:i<5:=by
  rcases Nat.lt_or_ge i 5 with z |z
  ·exact z
  ·rw[List.getElem?_eq_none (by exact z)] at h1;cases h1
 have b:j<5:=by
  rcases Nat.lt_or_ge j 5 with z |z
  ·exact z
  ·rw[List.getElem?_eq_none (by exact z)] at h2;cases h2
 exact (show ∀ i,i<5->∀ j,j<5->rnk[i]?=rnk[j]?->i=j by walk_at "k") i a j b (h1.trans h2.symm)
theorem j'O(T:Tx K mg){r:PR}{t:Tm}{p:Nat}{Q:Tr->Nat->Prop}{q:Value->Prop}(e:r=.ok t p)(h:∀ v,tmR T t v->Q v p):r.run T Q q:=by rw[e];exact h
theorem d't(T:Tx K mg){C:Addr}{a b:Tm}{r v:Int}{Q:Tr->Prop}{q:Value->Prop}(hC:C=T.agg\/C=T.agq\/C=T.agA)(h1:a.dep<=64)(h2:b.dep<=64)(h3:(edg a).length+(edg b).length<60)(h4:(ajk (wys a++wys b)).length<=1)(h:Q (Tr.ins .o C [("near",tmT T a),("far",tmT T b),("rank",.int r),("weight",.int v)])):amK T [.ins .o C [],tmT T a,tmT T b,.int r,.int v] (λt ρ'=>t=.non/\aj9 ρ'[0]? Q) q:=
 ⟨rfl,C,a,b,r,v,rfl,hC,h1,h2,h3,λz=>absurd z (by omega),λ_ ρ e=>⟨rfl,by rw[e];exact⟨by simp only[i_o,nolf,m_o,b'm,Bool.and_self],h⟩⟩⟩
theorem x'g(T:Tx K mg){ws ns:List Str}{x:Wi}{p1 p3 p4 p5:Nat}(hf:Fil ws ns x p1 p3 p4 p5){F:Tr->Nat->Prop}{q:Value->Prop}(h:F (.int x.r) p4):aj6 T ws ns p3 F q:=by
 unfold aj6;rcases hf.r with⟨a,b,c⟩ |⟨a,b,c,d,e,g⟩
 ·rw[if_pos a,<- b,<- c];exact h
 ·have m:wat ws (p3+1)∈rnk.tail:=by
   refine List.mem_of_getElem? (i:=x.r.toNat - 1) ?_;rw[List.getElem?_tail,show x.r.toNat - 1+1=x.r.toNat by omega];exact e
  rw[if_neg a,if_pos ⟨b,m⟩];intro j hj;have ej:=u'b hj e;rw[ej,<- g,show ((x.r.toNat:Nat):Int)=x.r by omega];exact h
theorem x'h(T:Tx K mg){ws ns:List Str}{x:Wi}{p1 p3 p4 p5:Nat}(hf:Fil ws ns x p1 p3 p4 p5){F:Tr->Nat->Prop}{q:Value->Prop}(h:F (.int x.v) p5):akX T ws ns p4 F q:=by
 unfold akX;rcases hf.w with⟨a,b,c⟩ |⟨a,b,c,d,e,g⟩
 ·rw[if_pos a,<- b,<- c];exact h
 ·rw[if_neg a,if_pos ⟨b,by omega,by omega⟩,<- g,<- c];exact h
theorem h'e(T:Tx K mg):FnOk P w K mg base (CX1 P w) 140 T.aaY T.aaZ ["text","names"] (spX K true 0 2 (amQ T)):=by
 refine b'g T.aa0 ahR rfl (by decide) λ_ _ _ _ _ _ q hr=>?_
 have hu:=a'o hr;refine⟨_,(a'b (i'd (i:=2) ahR.nd (by decide) rfl (Or.inl rfl) (b'M T.agQ ((c'm T).mono (by omega)) (a'q (a'A rfl rfl rfl rfl)) (by walk_at "z") (λ_ _ _ h=>h.1) hr rfl T.agL T.adY (QA.frz (a'a (qv 0) (a'a (qv 1) a'd)))))
  (a'b (a'F (i:=3) ahR.nd (by decide) rfl (Or.inl rfl) (a'w 2 ((λC g d=>MOkA.mono (c'p T 63 C g d) (by omega))) (a'q (a'A rfl rfl rfl rfl)) (by walk_at "z") (λ_ _ _ _ h=>h.1) hr))
  (a'b (a'F (i:=4) ahR.nd (by decide) rfl (Or.inl rfl) (a'w 2 ((λC g d=>MOkA.mono (j'M T C g d) (by omega))) (a'q (a'A rfl rfl rfl rfl)) (by walk_at "z") (λ_ _ _ _ h=>h.1) hr))
  (a'b (a'F (i:=5) ahR.nd (by decide) rfl (Or.inl rfl) (a'w 2 ((λC g d=>MOkA.mono (c'p T 63 C g d) (by omega))) (a'q (a'A rfl rfl rfl rfl)) (by walk_at "z") (λ_ _ _ _ h=>h.1) hr))
  (a'b (a'F (i:=6) ahR.nd (by decide) rfl (Or.inl rfl) (a'w 2 ((λC g d=>MOkA.mono (j'N T C g d) (by omega))) (a'q (a'A rfl rfl rfl rfl)) (by walk_at "z") (λ_ _ _ _ h=>h.1) hr))
  (a'b (a'F (i:=7) ahR.nd (by decide) rfl (Or.inl rfl) (a'w 2 ((λC g d=>MOkA.mono (h'd T C g d) (by omega))) (a'q (a'A rfl rfl rfl rfl)) (by walk_at "z") (λ_ _ _ _ h=>h.1) hr))
  (a'b (c'B (a'w 2 ((λC g d=>MOkA.mono (h'H T C g d) (by omega))) (a'q (a'A rfl rfl rfl rfl)) (by walk_at "z") (λ_ _ _ _ h=>h.1) hr))
  (a'b (a't (a'i (a'y hr.units) a'm (qv 4) a'f (by walk_at "u")) (a'e (a'g (b'M T.agx ((a'S T).mono (by omega)) (a'q (a'A rfl rfl rfl rfl)) (by walk_at "z") (λ_ _ _ h=>h.1) hr rfl T.agr T.adE (QA.frz (a'a (qv 3) (a'a (qv 5) (a'a (qv 6) (a'a (qv 7) a'd)))))))) a'l)
  (a'b (a't (a'i (a'y hr.units) a'm (qv 4) a'f (by walk_at "u")) (a'e (a'g (b'M T.agH ((a'S T).mono (by omega)) (a'q (a'A rfl rfl rfl rfl)) (by walk_at "z") (λ_ _ _ h=>h.1) hr rfl T.agB T.adE (QA.frz (a'a (qv 3) (a'a (qv 5) (a'a (qv 6) (a'a (qv 7) a'd)))))))) a'l)
  (a'e (a'g (b'M T.agn ((a'S T).mono (by omega)) (a'q (a'A rfl rfl rfl rfl)) (by walk_at "z") (λ_ _ _ h=>h.1) hr rfl T.agh T.adE (QA.frz (a'a (qv 3) (a'a (qv 5) (a'a (qv 6) (a'a (qv 7) a'd))))))))))))))))),?_⟩
 rintro xs Q' _ ⟨_,x,ns,rfl,hn,hx,h1,h2⟩;simp only[List.cons_append,List.nil_append];walk_at "p";refine⟨rfl,x,ns,rfl,hx,h1,λhl ρ e=>⟨rfl,?_⟩⟩;have hw:=l'H hl hx;obtain⟨y,p1,p3,p4,p5,hf,hm,h⟩:=h2 hl;rw[e];refine p's T ⟨w'r T _ _ _,?_⟩;simp only[a'G,a'I,a'J];refine a'H T hw ⟨hn,j'O T hf.a λv hv=>?_⟩;simp only[r_f T hv,a'G,a'I,a'J,true_and];clear hv v;refine a'H T hw ?_;show (if _ then _ else _);rw[if_pos (by rw[hf.v];unfold vrb vbs;split<;>(try split)<;>simp)];walk_at "p"
 try simp only[a'G,a'I,a'J]
 refine a'H T hw ⟨hn,j'O T hf.b λv hv=>?_⟩;simp only[r_f T hv,a'G,a'I,a'J,true_and];clear hv v;refine a'H T hw (x'g T hf ?_);simp only[c'z,a'G,a'I,a'J];refine a'H T hw (x'h T hf ?_);simp only[c'z,a'G,a'I,a'J];refine a'H T hw ?_;show (if _ then _ else _);rw[if_pos hf.e];obtain⟨g1,g2,g3,g4⟩:=hm;rw[hf.v];obtain⟨k,a,b,r,v⟩:=y;have hk:=hf.k;simp only at g1 g2 g3 g4 hk ⊢;simp only[m_l,m_v,m_d,m_f];have:k=0\/k=1\/k=2:=by omega
 rcases this with rfl |rfl |rfl
 ·rw[show vrb 0=Str.ofString "is" from rfl,if_neg (by walk_at "k"),if_neg (by walk_at "k")];refine d't T (.inl rfl) g1 g2 g3 g4 ⟨by simp only[i_o,nolf,m_o,b'm,Bool.and_self],h _⟩
 ·rw[show vrb 1=Str.ofString "at least" from rfl,if_pos (by walk_at "k")];refine d't T (.inr (.inl rfl)) g1 g2 g3 g4 ⟨by simp only[i_o,nolf,m_o,b'm,Bool.and_self],h _⟩
 ·rw[show vrb 2=Str.ofString "at most" from rfl,if_neg (by walk_at "k"),if_pos (by walk_at "k")];refine d't T (.inr (.inr rfl)) g1 g2 g3 g4 ⟨by simp only[i_o,nolf,m_o,b'm,Bool.and_self],h _⟩
def alX(T:Tx K mg):ajm:=λxs Q q=>xs.length=1/\∃ x:Str,xs=[.str x]/\x.length<=20000/\(60<(wds x).length->q (.ref T.afn))/\((wds x).length<=60->∃(y:Wi)(p1 p3 p4 p5:Nat),Fil (wds x) [] y p1 p3 p4 p5/\y.mk'/\∀ ρ,Q (wiT T .o y) ρ)
theorem j'P(T:Tx K mg):FnOk P w K mg base (CX1 P w) 141 T.aaT T.aaU ["text"] (spX K true 0 1 (alX T)):=by
 refine b'g T.aaV j'u rfl (by decide) λ_ _ _ _ _ _ q hr=>?_
 have hu:=a'o hr;refine⟨_,(a'e (a'g (e'P ((h'e T).mono (by omega)) (a'q (a'A rfl rfl rfl rfl)) (by walk_at "z") (λ_ _ _ h=>h.1) hr rfl T.aa2 T.aa0.kp T.aa1 (QA.frz (a'a (qv 0) (a'a (a'U a'd) a'd)))))),?_⟩;rintro xs Q' _ ⟨_,x,rfl,hx,h1,h2⟩;walk_at "p";refine⟨rfl,x,[],rfl,l'I,hx,h1,λhl=>?_⟩;obtain⟨y,p1,p3,p4,p5,hf,hm,h⟩:=h2 hl;exact⟨y,p1,p3,p4,p5,hf,hm,λρ=>⟨by simp only[wiT,i_o,nolf,m_o,b'm,Bool.and_self],h _⟩⟩
theorem h'I{k n:Nat}(hk:0<k)(h:n<10 ^ k):whole k (dgs n)=true:=by
 have l6:(dgs n).length<=k:=by
  unfold dgs;rw[List.length_map];exact (Nat.length_toDigits_le_iff (by decide) hk).mpr h
 have dg:dig (dgs n)=true:=List.all_eq_true.mpr λc m=>by have:=b'n n c m;simp;omega
 have hd:dgs n=[48]\/¬ (dgs n).head?=some 48:=by
  cases e:dgs n with
  |nil=>exact absurd e (p'j n)
  |cons c r=>
   by_cases h48:c=48
   ·subst h48;cases r with
    |nil=>exact .inl rfl
    |cons d r=>
     exfalso;have v:=c'j n;rw[e] at v;have v2:vl (d :: r)=n:=by rw[<- v];exact NumText.digitsVal_zero.symm
     have al:NumText.AllDigits (d :: r):=λc m=>b'n n c (by rw[e];exact List.mem_cons_of_mem _ m)
     have t:=NumText.toDigits_all (d :: r) al;have e2:dgs n=(Nat.toDigits 10 (vl (d :: r))).map Char.toNat:=by rw[v2];rfl
     have len:(dgs n).length=r.length+2:=by rw[e];rfl
     rw[e2,List.length_map] at len;unfold vl at len;rw[t] at len;have dl:(List.dropWhile (λx=>x == 48) (d :: r)).length<=r.length+1:=by
      have:=(List.dropWhile_sublist (p:=λx=>x == 48) (l:=d :: r)).length_le;exact this
     cases hdw:List.dropWhile (λx=>x == 48) (d :: r) with
     |nil=>rw[hdw] at len;have len:1=r.length+2:=len;omega
     |cons x y=>
      rw[hdw] at len dl;rw[List.length_map] at len;omega
   ·exact .inr λz=>h48 (by simpa using z)
 unfold whole;rw[decide_eq_false (p'j n),decide_eq_true l6,dg];rcases hd with hd |hd
 ·rw[decide_eq_true hd];rfl
 ·rw[decide_eq_false hd];simp
theorem h'J{n:Nat}(h:n<1000000):whole 6 (dgs n)=true:=h'I (by decide) h
theorem l'J{L:List Nat}{a:Int}(h:L.head?=some 45↔a<0):sgn L a.natAbs=a:=by
 unfold sgn;by_cases c:a<0
 ·rw[if_pos (h.mpr c)];omega
 ·rw[if_neg (λz=>c (h.mp z))];omega
theorem l'K{q:Rat}(h1:q.num.natAbs<1000000)(h2:q.den<1000000):ajS (shw q)=some (q.num,(q.den:Int)):=by
 have hst:vl (strip (dec q.num))=q.num.natAbs:=by rw[e'y,c'j]
 have hw:whole 6 (strip (dec q.num))=true:=by rw[e'y];exact h'J h1
 by_cases hd:q.den=1
 ·have e:shw q=dec q.num:=by unfold shw;rw[if_pos hd]
  have hs:ahO 47 (shw q)=[dec q.num]:=by rw[e];exact b'q (d'L _)
  obtain⟨r1,_⟩:=s'h hs hw;have sg:sgn (shw q) (vl (strip (dec q.num)))=q.num:=by rw[hst];exact l'J (by rw[e];exact c'a _)
  rw[sg] at r1;have eq:Rat.divInt q.num 1=q:=by
   have z:=Rat.num_divInt_den q;rw[hd] at z;exact z
  rw[eq] at r1;rw[r1 rfl,hd];rfl
 ·have e:shw q=dec q.num++47 :: dgs q.den:=by unfold shw;rw[if_neg hd]
  have hs:ahO 47 (shw q)=[dec q.num,dgs q.den]:=by rw[e,c'u (d'L _),b'q (j'x _)]
  have dp:=q.den_pos;obtain⟨r1,_⟩:=s'i hs hw (h'J h2) (by rw[c'j];omega);have hh:(shw q).head?=some 45↔q.num<0:=by
   have f:=(fig hs).2;rw[<- f];exact c'a _
  have sg:sgn (shw q) (vl (strip (dec q.num)))=q.num:=by rw[hst];exact l'J hh
  rw[sg,c'j,Rat.num_divInt_den] at r1;exact r1 rfl
def Tm.gd(d:Bool):Tm->Prop
 |.num q=>q.num.natAbs < 1000000 /\ q.den < 1000000
 |.edge a n=>(a ∈ acr \/ dwn a = true) /\ dwn a = d /\ akx n.cps.toList = true /\ ¬ (n = "frame" /\ (a = "gap" \/ a = "drop"))
 |.times q t=>(q.num.natAbs < 1000000 /\ q.den < 1000000) /\ t.gd d
 |.plus a b=>a.gd d /\ b.gd d
 |.minus a b=>a.gd d /\ b.gd d
abbrev wAnd:Str:="and"
abbrev wLess:Str:="less"
abbrev ajE:Str:="times"
abbrev wOf:Str:="of"
abbrev wLp:Str:="("
abbrev wRp:Str:=")"
inductive Wt:Bool->Tm->List Str->Prop
 |num (b:Bool) (q:Rat):Wt b (.num q) [tx (shw q)]
 |edge (b:Bool) (a n:Str):Wt b (.edge a n) [a,wOf,n]
 |times (b:Bool) (q:Rat) {t:Tm} {ws:List Str}:Wt true t ws -> Wt b (.times q t) (tx (shw q) :: ajE :: ws)
 |par (b:Bool) {t:Tm} {ws:List Str}:Wt false t ws -> Wt b t (wLp :: (ws ++ [wRp]))
 |plus {a b:Tm} {x y:List Str}:Wt false a x -> Wt true b y -> Wt false (.plus a b) (x ++ wAnd :: y)
 |minus {a b:Tm} {x y:List Str}:Wt false a x -> Wt true b y -> Wt false (.minus a b) (x ++ wLess :: y)
theorem Wt.low:∀{b:Bool}{t:Tm}{ws:List Str},Wt b t ws->Wt false t ws
 |_,_,_,.num _ q=>.num _ q
 |_,_,_,.edge _ a n=>.edge _ a n
 |_,_,_,.times _ q h=>.times _ q h
 |_,_,_,.par _ h=>.par _ h
 |_,_,_,.plus h g=>.plus h g
 |_,_,_,.minus h g=>.minus h g
theorem a'M{W pre r:List Str}{x:Str}{p:Nat}(h:W=pre++x :: r)(hp:p=pre.length):wat W p=x:=by
 subst h hp;unfold wat;rw[List.getElem?_append_right (Nat.le_refl _),Nat.sub_self];rfl
theorem p't{W pre r:List Str}{p:Nat}(h:W=pre++r)(hp:p=pre.length):wat W p=(r.head?).getD "":=by
 subst h hp;unfold wat;rw[List.getElem?_append_right (Nat.le_refl _),Nat.sub_self,List.head?_eq_getElem?]
theorem p'u{x:Str}{r:Int×Int}(h:ajS x.cps.toList=some r):¬ x="("/\¬ (x∈acr\/dwn x=true):=by
 have key:∀ y∈(["(","left","width","right","middle","gap","top","height","bottom","centre","drop"]:List Str),ajS y.cps.toList=none:=by walk_at "k"
 refine⟨λz=>?_,λz=>?_⟩
 ·rw[z,key "(" (by simp)] at h;cases h
 ·have m:x∈(["(","left","width","right","middle","gap","top","height","bottom","centre","drop"]:List Str):=by
   rcases z with z |z
   ·unfold acr at z;simp only[List.mem_cons,List.not_mem_nil,or_false] at z ⊢;rcases z with z |z |z |z |z<;>simp[z]
   ·have z:x∈([("top":Str),"height","bottom","centre","drop"]:List Str):=of_decide_eq_true z;simp only[List.mem_cons,List.not_mem_nil,or_false] at z ⊢;rcases z with z |z |z |z |z<;>simp[z]
  rw[key x m] at h;cases h
theorem u'c(x:Str):hol [] x=x:=if_neg λz=>by have h1:=z.2.1;have h2:_<=0:=z.2.2;omega
theorem w's{x:Str}(h:x∈acr\/dwn x=true):¬ x="(":=λz=>by
 subst z;exact absurd h (by walk_at "k")
def JP(W:List Str)(n p:Nat)(t:Tm)(p' l:Nat):Prop:=∃ j,j<=l/\∀ k,(ah3 W [] n p).bind (λt p'=>ajj W (ah3 W [] n) (k+j) t p')=ajj W (ah3 W [] n) k t p'
theorem JP.one{W:List Str}{n p:Nat}{t:Tm}{p' l:Nat}(h:ah3 W [] n p=.ok t p'):JP W n p t p' l:=⟨0,Nat.zero_le _,λk=>by rw[h];rfl⟩
theorem w't{d:Bool}:∀{b:Bool}{t:Tm}{ws:List Str},Wt b t ws->t.gd d->∀(n:Nat)(W pre post:List Str),W=pre++ws++post->ws.length<=n->ws.length<=60->¬ post.head?=some ajE->(b=true->ah3 W [] n pre.length=.ok t (pre.length+ws.length))/\JP W n pre.length t (pre.length+ws.length) ws.length:=by
 intro b t ws h
 induction h with
 |num b q=>
  intro hg n W pre post hW hn hl hp;have key:ah3 W [] n pre.length=.ok (.num q) (pre.length+1):=by
   cases n with
   |zero=>exact absurd hn (by simp)
   |succ n=>
    have e1:wat W pre.length=tx (shw q):=a'M (r:=post) (by rw[hW];simp) rfl;have e2:¬ wat W (pre.length+1)="times":=by
     rw[p't (pre:=pre++[tx (shw q)]) (r:=post) hW (by simp)];cases hh:post.head? with
     |none=>decide +kernel
     |some x=>exact λz=>hp (by rw[hh];exact congrArg some z)
    have hd:=l'K hg.1 hg.2;obtain⟨n1,n2⟩:=p'u (x:=tx (shw q)) hd;unfold ah3;rw[e1,if_neg n1,if_neg n2,a'x,hd];dsimp only;rw[if_neg e2,Rat.num_divInt_den]
  exact⟨λ_=>key,.one key⟩
 |edge b a m=>
  intro hg n W pre post hW hn hl hp;obtain⟨g1,g2,g3,g4⟩:=hg;have key:ah3 W [] n pre.length=.ok (.edge a m) (pre.length+3):=by
   cases n with
   |zero=>exact absurd hn (by simp)
   |succ n=>
    have e1:wat W pre.length=a:=a'M (r:=wOf :: m :: post) (by rw[hW];simp) rfl;have e2:wat W (pre.length+1)="of":=a'M (pre:=pre++[a]) (r:=m :: post) (by rw[hW];simp) (by simp);have e3:wat W (pre.length+1+1)=m:=a'M (pre:=pre++[a,wOf]) (r:=post) (by rw[hW];simp) (by simp);unfold ah3;rw[e1,if_neg (w's g1),if_pos g1];unfold akv;rw[e2,if_pos rfl,e3,u'c,if_pos ⟨g3,g4⟩]
  exact⟨λ_=>key,.one key⟩
 |@times b q t ws h ih=>
  intro hg n W pre post hW hn hl hp;simp only[List.length_cons] at hn hl ⊢;have key:ah3 W [] n pre.length=.ok (.times q t) (pre.length+(ws.length+1+1)):=by
   cases n with
   |zero=>exact absurd hn (by simp)
   |succ n=>
    have e1:wat W pre.length=tx (shw q):=a'M (r:=ajE :: (ws++post)) (by rw[hW];simp) rfl;have e2:wat W (pre.length+1)="times":=a'M (pre:=pre++[tx (shw q)]) (r:=ws++post) (by rw[hW];simp) (by simp);have hd:=l'K hg.1.1 hg.1.2;obtain⟨n1,n2⟩:=p'u (x:=tx (shw q)) hd;have i:=(ih hg.2 n W (pre++[tx (shw q),ajE]) post (by rw[hW];simp) (by omega) (by omega) hp).1 rfl;rw[List.length_append] at i;have i:ah3 W [] n (pre.length+2)=.ok t (pre.length+2+ws.length):=i;unfold ah3;rw[e1,if_neg n1,if_neg n2,a'x,hd];dsimp only;rw[if_pos e2,i,Rat.num_divInt_den];show PR.ok _ _=_;congr 1;omega
  exact⟨λ_=>key,.one key⟩
 |@par b t ws h ih=>
  intro hg n W pre post hW hn hl hp;simp only[List.length_cons,List.length_append,List.length_nil] at hn hl ⊢;have key:ah3 W [] n pre.length=.ok t (pre.length+(ws.length+(0+1)+1)):=by
   cases n with
   |zero=>exact absurd hn (by simp)
   |succ n=>
    have e1:wat W pre.length=wLp:=a'M (r:=ws++wRp :: post) (by rw[hW];simp) rfl;have e2:wat W (pre.length+1+ws.length)=")":=a'M (pre:=pre++wLp :: ws) (r:=post) (by rw[hW];simp) (by simp;omega);obtain⟨j,hj,i⟩:=(ih hg n W (pre++[wLp]) (wRp :: post) (by rw[hW];simp) (by omega) (by omega) (by show ¬ some _=some _;decide +kernel)).2;rw[List.length_append] at i;have i:=i (60 - j+1);rw[show 60 - j+1+j=61 by omega] at i;unfold ah3;rw[e1,if_pos rfl];unfold ajo;have i:(ah3 W [] n (pre.length+1)).bind (λt p'=>ajj W (ah3 W [] n) 61 t p')=ajj W (ah3 W [] n) (60 - j+1) t (pre.length+1+ws.length):=i;rw[i];unfold ajj;rw[e2,if_neg (by walk_at "k"),if_neg (by walk_at "k")];show (if wat W (pre.length+1+ws.length)=")" then PR.ok t (pre.length+1+ws.length+1) else PR.er)=_;rw[if_pos e2];congr 1;omega
  exact⟨λ_=>key,.one key⟩
 |@plus a b x y h1 h2 ih1 ih2=>
  intro hg n W pre post hW hn hl hp;simp only[List.length_cons,List.length_append] at hn hl ⊢;refine⟨(λz=>nomatch z),?_⟩;have e1:wat W (pre.length+x.length)="and":=a'M (pre:=pre++x) (r:=y++post) (by rw[hW];simp) (by simp);obtain⟨j,hj,i⟩:=(ih1 hg.1 n W pre (wAnd :: (y++post)) (by rw[hW];simp) (by omega) (by omega) (by show ¬ some _=some _;decide +kernel)).2;have i2:=(ih2 hg.2 n W (pre++x++[wAnd]) post (by rw[hW];simp) (by omega) (by omega) hp).1 rfl;rw[List.length_append,List.length_append] at i2;have i2:ah3 W [] n (pre.length+x.length+1)=.ok b (pre.length+x.length+1+y.length):=i2;refine⟨j+1,by omega,λk=>?_⟩;have i:=i (k+1);rw[show k+1+j=k+(j+1) by omega] at i;rw[i]
  conv=>lhs;unfold ajj
  rw[if_pos e1,i2];show ajj _ _ _ _ _=_;congr 1;omega
 |@minus a b x y h1 h2 ih1 ih2=>
  intro hg n W pre post hW hn hl hp;simp only[List.length_cons,List.length_append] at hn hl ⊢;refine⟨(λz=>nomatch z),?_⟩;have e1:wat W (pre.length+x.length)="less":=a'M (pre:=pre++x) (r:=y++post) (by rw[hW];simp) (by simp);obtain⟨j,hj,i⟩:=(ih1 hg.1 n W pre (wLess :: (y++post)) (by rw[hW];simp) (by omega) (by omega) (by show ¬ some _=some _;decide +kernel)).2;have i2:=(ih2 hg.2 n W (pre++x++[wLess]) post (by rw[hW];simp) (by omega) (by omega) hp).1 rfl;rw[List.length_append,List.length_append] at i2;have i2:ah3 W [] n (pre.length+x.length+1)=.ok b (pre.length+x.length+1+y.length):=i2;refine⟨j+1,by omega,λk=>?_⟩;have i:=i (k+1);rw[show k+1+j=k+(j+1) by omega] at i;rw[i]
  conv=>lhs;unfold ajj
  rw[e1,if_neg (by walk_at "k"),if_pos rfl,i2];show ajj _ _ _ _ _=_;congr 1;omega
theorem j'Q{d:Bool}{t:Tm}{ws W pre post:List Str}(h:Wt false t ws)(hg:t.gd d)(hW:W=pre++ws++post)(hl:W.length<=60)(hp:¬ post.head?=some ajE)(ha:¬ post.head?=some wAnd)(hb:¬ post.head?=some wLess):ajo W (ah3 W [] 63) pre.length=.ok t (pre.length+ws.length):=by
 have l:ws.length<=60:=by rw[hW] at hl;simp only[List.length_append] at hl;omega
 obtain⟨j,hj,i⟩:=(w't h hg 63 W pre post hW (by omega) l hp).2;have i:=i (60 - j+1);rw[show 60 - j+1+j=61 by omega] at i;unfold ajo;rw[i];unfold ajj;have e:=p't (p:=pre.length+ws.length) (pre:=pre++ws) (r:=post) hW (by simp);have ne:∀ x:Str,¬ x=""->¬ post.head?=some x->¬ wat W (pre.length+ws.length)=x:=λx hx h z=>by
  rw[e] at z;cases hh:post.head? with
  |none=>rw[hh] at z;exact hx z.symm
  |some y=>rw[hh] at z h;exact h (congrArg some z)
 rw[if_neg (ne _ (by walk_at "k") ha),if_neg (ne _ (by walk_at "k") hb)]
def jn(ws:List Str):Str:=tx (aiF 32 (ws.map (·.cps.toList)))
theorem h'K(c:Nat):∀(a b:List (List Nat)),a≠[]->b≠[]->aiF c (a++b)=aiF c a++c :: aiF c b
 |[],_,h,_=>absurd rfl h
 |[p],b,_,h=>by
  cases b with
  |nil=>exact absurd rfl h
  |cons q b=>rfl
 |p :: q :: a,b,_,h=>by
  have ih:=h'K c (q :: a) b (λz=>nomatch z) h;show p++c :: aiF c ((q :: a)++b)=(p++c :: aiF c (q :: a))++c :: aiF c b;rw[ih];simp
theorem d'u(x:Str):jn [x]=x:=b'N x
theorem x'i:(" ":Str)=tx [32]:=by walk_at "k"
theorem c'o{a b:List Str}(ha:a≠[])(hb:b≠[]):jn (a++b)=jn a++" "++jn b:=by
 unfold jn;rw[List.map_append,h'K 32 _ _ (by simpa using ha) (by simpa using hb),x'i,b'U,b'U];simp
def fre(ws:List Str):Prop:=∀ y∈ws,32 ∉ y.cps.toList
theorem p'v{ws:List Str}(h:ws≠[])(f:fre ws):wds (jn ws)=ws:=by
 unfold wds jn;rw[a'x,c'M (by simpa using h) (λp m=>by obtain⟨y,hy,rfl⟩:=List.mem_map.mp m;exact f y hy),List.map_map]
 conv=>rhs;rw[<- List.map_id ws]
 exact List.map_congr_left λy _=>b'N y
theorem Wt.ne:∀{b:Bool}{t:Tm}{ws:List Str},Wt b t ws->ws≠[]
 |_,_,_,.num _ _=>λz=>nomatch z
 |_,_,_,.edge _ _ _=>λz=>nomatch z
 |_,_,_,.times _ _ _=>λz=>nomatch z
 |_,_,_,.par _ _=>λz=>nomatch z
 |_,_,_,.plus _ _=>λz=>by simp at z
 |_,_,_,.minus _ _=>λz=>by simp at z
def Wx(b:Bool)(t:Tm)(x:Str):Prop:=∃ ws,Wt b t ws/\fre ws/\x=jn ws
def nq(q:Rat):Prop:=q.num.natAbs<1000000/\q.den<1000000
theorem l'L(q:Rat):32 ∉ shw q:=λm=>by
 have hd:∀ a:Int,32 ∉ dec a:=λa m=>by
  unfold dec at m;split at m
  ·rcases List.mem_cons.mp m with h |h
   ·cases h
   ·have:=b'n _ _ h;omega
  ·have:=b'n _ _ m;omega
 unfold shw at m;split at m
 ·exact hd _ m
 ·rcases List.mem_append.mp m with h |h
  ·exact hd _ h
  ·rcases List.mem_cons.mp h with h |h
   ·cases h
   ·have:=b'n _ _ h;omega
theorem d'v{x:Str}(h:32 ∉ x.cps.toList):fre [x]:=λy m=>by rw[List.mem_singleton.mp m];exact h
theorem b'h{x:Str}{ws:List Str}(h:32 ∉ x.cps.toList)(f:fre ws):fre (x :: ws):=λy m=>(List.mem_cons.mp m).elim (λe=>by rw[e];exact h) (f y)
theorem c'D{a b:List Str}(f:fre a)(g:fre b):fre (a++b):=λy m=>(List.mem_append.mp m).elim (f y) (g y)
theorem w'u(b:Bool)(q:Rat):Wx b (.num q) (tx (shw q)):=⟨_,.num b q,d'v (l'L q),(d'u _).symm⟩
theorem w'v{L:List Nat}(h:akx L=true):32 ∉ L:=λm=>by
 unfold akx at h;simp only[Bool.and_eq_true,List.all_eq_true] at h;have:=h.2.2 32 m;exact absurd this.1 (by decide)
theorem p'w{a:Str}(h:a∈acr\/dwn a=true):32 ∉ a.cps.toList/\a.length<=6:=by
 have k1:∀ a∈acr,32 ∉ a.cps.toList/\a.length<=6:=by walk_at "k"
 have k2:∀ a∈([("top":Str),"height","bottom","centre","drop"]:List Str),32 ∉ a.cps.toList/\a.length<=6:=by walk_at "k"
 rcases h with h |h
 ·exact k1 a h
 ·exact k2 a (of_decide_eq_true h)
theorem jn2(x:Str){ws:List Str}(h:ws≠[]):jn (x :: ws)=x++" "++jn ws:=by
 have e:=c'o (a:=[x]) (b:=ws) (λz=>nomatch z) h;rw[d'u] at e;exact e
theorem x'y:(" of ":Str)=" "++wOf++" ":=by walk_at "k"
theorem u'd:(" times ":Str)=" "++ajE++" ":=by walk_at "k"
theorem x'j:(" and ":Str)=" "++wAnd++" ":=by walk_at "k"
theorem w'w:(" less ":Str)=" "++wLess++" ":=by walk_at "k"
theorem x'z:("( ":Str)=wLp++" ":=by walk_at "k"
theorem x'A:(" )":Str)=" "++wRp:=by walk_at "k"
theorem u'e(b:Bool){d:Bool}{a n:Str}(h:(Tm.edge a n).gd d):Wx b (.edge a n) (a++" of "++n):=by
 refine⟨_,.edge b a n,b'h (p'w h.1).1 (b'h (by walk_at "k") (d'v (w'v h.2.2.1))),?_⟩;rw[jn2 a (List.cons_ne_nil _ _),jn2 wOf (List.cons_ne_nil _ _),d'u,x'y];simp only[b'd]
theorem q'T(b:Bool)(q:Rat){t:Tm}{x:Str}(h:Wx true t x):Wx b (.times q t) (tx (shw q)++" times "++x):=by
 obtain⟨ws,h1,h2,rfl⟩:=h;refine⟨_,.times b q h1,b'h (l'L q) (b'h (by walk_at "k") h2),?_⟩;rw[jn2 _ (List.cons_ne_nil _ _),jn2 ajE h1.ne,u'd];simp only[b'd]
theorem w'x(b:Bool){t:Tm}{x:Str}(h:Wx false t x):Wx b t ("( "++x++" )"):=by
 obtain⟨ws,h1,h2,rfl⟩:=h;refine⟨_,.par b h1,b'h (by walk_at "k") (c'D h2 (d'v (by walk_at "k"))),?_⟩;rw[jn2 _ (by simp),c'o h1.ne (List.cons_ne_nil _ _),d'u,x'z,x'A];simp only[b'd]
theorem u'f{a b:Tm}{x y:Str}(h:Wx false a x)(g:Wx true b y):Wx false (.plus a b) (x++" and "++y):=by
 obtain⟨ws,h1,h2,rfl⟩:=h;obtain⟨us,g1,g2,rfl⟩:=g;refine⟨_,.plus h1 g1,c'D h2 (b'h (by walk_at "k") g2),?_⟩;rw[c'o h1.ne (List.cons_ne_nil _ _),jn2 _ g1.ne,x'j];simp only[b'd]
theorem q'U{a b:Tm}{x y:Str}(h:Wx false a x)(g:Wx true b y):Wx false (.minus a b) (x++" less "++y):=by
 obtain⟨ws,h1,h2,rfl⟩:=h;obtain⟨us,g1,g2,rfl⟩:=g;refine⟨_,.minus h1 g1,c'D h2 (b'h (by walk_at "k") g2),?_⟩;rw[c'o h1.ne (List.cons_ne_nil _ _),jn2 _ g1.ne,w'w];simp only[b'd]
theorem Wx.low{b:Bool}{t:Tm}{x:Str}(h:Wx b t x):Wx false t x:=by
 obtain⟨ws,h1,h2,e⟩:=h;exact⟨ws,h1.low,h2,e⟩
theorem w'y{d:Bool}{t:Tm}{x:Str}(h:Wx false t x)(hg:t.gd d)(hl:(wds x).length<=60):ajo (wds x) (ah3 (wds x) [] 63) 0=.ok t (wds x).length:=by
 obtain⟨ws,h1,h2,rfl⟩:=h;rw[p'v h1.ne h2] at hl ⊢;have:=j'Q (W:=ws) (pre:=[]) (post:=[]) h1 hg (by simp) hl (λz=>nomatch z) (λz=>nomatch z) (λz=>nomatch z);rw[List.length_nil,Nat.zero_add] at this;exact this
def vw(k:Nat):List Str:=if k=0 then ["is"] else if k=1 then ["at","least"] else ["at","most"]
def tw(r v:Int):List Str:=if r=0 then [] else if v=1 then ["by",(rnk[r.toNat]?).getD ""] else ["by",(rnk[r.toNat]?).getD "",tx (dec v)]
theorem x'k{k:Nat}(h:k<3):jn (vw k)=vrb k/\fre (vw k)/\vw k≠[]:=by
 have:k=0\/k=1\/k=2:=by omega
 rcases this with rfl |rfl |rfl
 ·exact⟨by walk_at "k",by unfold fre;decide +kernel,by walk_at "k"⟩
 ·exact⟨by walk_at "k",by unfold fre;decide +kernel,by walk_at "k"⟩
 ·exact⟨by walk_at "k",by unfold fre;decide +kernel,by walk_at "k"⟩
theorem j'R{r:Int}(h0:0<=r)(h1:r<5):∃ R:Str,rnk[r.toNat]?=some R/\32 ∉ R.cps.toList/\R.length<=6:=by
 have:r=0\/r=1\/r=2\/r=3\/r=4:=by omega
 rcases this with rfl |rfl |rfl |rfl |rfl
 ·exact⟨"must",rfl,by walk_at "k",by decide⟩
 ·exact⟨"hand",rfl,by walk_at "k",by decide⟩
 ·exact⟨"strong",rfl,by walk_at "k",by decide⟩
 ·exact⟨"fair",rfl,by walk_at "k",by decide⟩
 ·exact⟨"faint",rfl,by walk_at "k",by decide⟩
theorem u'g(a:Int):32 ∉ dec a:=λm=>by
 unfold dec at m;split at m
 ·rcases List.mem_cons.mp m with h |h
  ·cases h
  ·have:=b'n _ _ h;omega
 ·have:=b'n _ _ m;omega
theorem w'z:(" by ":Str)=" "++Str.ofString "by"++" ":=by walk_at "k"
theorem w'A{r:Int}(v:Int)(h0:0<=r)(h1:r<5):fre (tw r v):=by
 obtain⟨R,e,f,_⟩:=j'R h0 h1;unfold tw;rw[e,Option.getD_some];split
 ·exact λ_ m=>nomatch m
 ·split
  ·exact b'h (by walk_at "k") (d'v f)
  ·exact b'h (by walk_at "k") (b'h f (d'v (u'g v)))
theorem x'l{ws:List Str}(r v:Int)(h:ws≠[]):jn (ws++tw r v)=jn ws++tal r v:=by
 unfold tw tal;split
 ·rw[List.append_nil,l'F]
 ·split
  ·rw[c'o h (List.cons_ne_nil _ _),jn2 _ (List.cons_ne_nil _ _),d'u,w'z];simp only[b'd]
  ·rw[c'o h (List.cons_ne_nil _ _),jn2 _ (List.cons_ne_nil _ _),jn2 _ (List.cons_ne_nil _ _),d'u,w'z];simp only[b'd]
theorem p'x{v:Int}(h:0<=v):dec v=dgs v.toNat:=by
 unfold dec;rw[if_neg (by omega),show v.natAbs=v.toNat by omega]
theorem w'B{d:Bool}{y:Wi}{x z:Str}(hx:Wx false y.a x)(hz:Wx false y.b z)(ga:y.a.gd d)(gb:y.b.gd d)(hk:y.k<3)(h0:0<=y.r)(h1:y.r<5)(v0:1<=y.v)(v1:y.v<=1000000)(hv:y.r=0->y.v=1)(hl:(wds (x++" "++vrb y.k++" "++z++tal y.r y.v)).length<=60):∃ p1 p3 p4 p5,Fil (wds (x++" "++vrb y.k++" "++z++tal y.r y.v)) [] y p1 p3 p4 p5:=by
 obtain⟨k,a,b,r,v⟩:=y;obtain⟨us,h2,h3,rfl⟩:=hx;obtain⟨vs,g2,g3,rfl⟩:=hz;simp only at h2 g2 ga gb hk h0 h1 v0 v1 hv hl ⊢;obtain⟨w1,w2,w3⟩:=x'k hk;have eX:jn us++" "++vrb k++" "++jn vs++tal r v=jn (us++vw k++vs++tw r v):=by
  rw[x'l r v (by simp[h2.ne]),c'o (by simp[h2.ne]) g2.ne,c'o h2.ne w3,w1]
 have eW:wds (jn us++" "++vrb k++" "++jn vs++tal r v)=us++vw k++vs++tw r v:=by
  rw[eX];exact p'v (by simp[h2.ne]) (c'D (c'D (c'D h3 w2) g3) (w'A v h0 h1))
 rw[eW] at hl ⊢;obtain⟨R,eR,fR,_⟩:=j'R h0 h1;have vh:∃ c rest,vw k=c :: rest/\¬ c=ajE/\¬ c=wAnd/\¬ c=wLess:=by
  have:k=0\/k=1\/k=2:=by omega
  rcases this with rfl |rfl |rfl
  ·exact⟨_,_,rfl,by walk_at "k",by walk_at "k",by walk_at "k"⟩
  ·exact⟨_,_,rfl,by walk_at "k",by walk_at "k",by walk_at "k"⟩
  ·exact⟨_,_,rfl,by walk_at "k",by walk_at "k",by walk_at "k"⟩
 obtain⟨c,rest,ec,c1,c2,c3⟩:=vh;have hd:∀ x:Str,¬ c=x->¬ (vw k++vs++tw r v).head?=some x:=λx h z=>by rw[ec] at z;exact h (Option.some.inj z)
 have pa:=j'Q (W:=us++vw k++vs++tw r v) (pre:=[]) (post:=vw k++vs++tw r v) h2 ga (by simp) hl (hd _ c1) (hd _ c2) (hd _ c3);rw[List.length_nil,Nat.zero_add] at pa;have pv:aj5 (us++vw k++vs++tw r v) us.length=(vrb k,us.length+(vw k).length):=by
  have:k=0\/k=1\/k=2:=by omega
  unfold aj5;rcases this with rfl |rfl |rfl
  ·have e1:wat (us++vw 0++vs++tw r v) us.length="is":=a'M (pre:=us) (r:=vs++tw r v) (by simp[vw]) rfl;rw[e1,if_neg (by walk_at "k")];rfl
  ·have e1:wat (us++vw 1++vs++tw r v) us.length="at":=a'M (pre:=us) (r:=Str.ofString "least" :: (vs++tw r v)) (by simp[vw]) rfl;have e2:wat (us++vw 1++vs++tw r v) (us.length+1)="least":=a'M (pre:=us++[Str.ofString "at"]) (r:=vs++tw r v) (by simp[vw]) (by simp);rw[e1,if_pos rfl,e2];show (_,_)=(_,_)
   congr 1
  ·have e1:wat (us++vw 2++vs++tw r v) us.length="at":=a'M (pre:=us) (r:=Str.ofString "most" :: (vs++tw r v)) (by simp[vw]) rfl;have e2:wat (us++vw 2++vs++tw r v) (us.length+1)="most":=a'M (pre:=us++[Str.ofString "at"]) (r:=vs++tw r v) (by simp[vw]) (by simp);rw[e1,if_pos rfl,e2];show (_,_)=(_,_)
   congr 1
 have hd2:∀ x:Str,¬ Str.ofString "by"=x->¬ (tw r v).head?=some x:=λx h z=>by
  unfold tw at z;split at z
  ·cases z
  ·split at z
   ·exact h (Option.some.inj z)
   ·exact h (Option.some.inj z)
 have pb:=j'Q (W:=us++vw k++vs++tw r v) (pre:=us++vw k) (post:=tw r v) g2 gb rfl hl (hd2 _ (by walk_at "k")) (hd2 _ (by walk_at "k")) (hd2 _ (by walk_at "k"));rw[List.length_append] at pb;have lW:(us++vw k++vs++tw r v).length=us.length+(vw k).length+vs.length+(tw r v).length:=by simp only[List.length_append]
 have fin:∀ p4 p5,((us++vw k++vs++tw r v).length<=us.length+(vw k).length+vs.length/\r=0/\p4=us.length+(vw k).length+vs.length\/¬ (us++vw k++vs++tw r v).length<=us.length+(vw k).length+vs.length/\wat (us++vw k++vs++tw r v) (us.length+(vw k).length+vs.length)="by"/\1<=r/\r<5/\rnk[r.toNat]?=some (wat (us++vw k++vs++tw r v) (us.length+(vw k).length+vs.length+1))/\p4=us.length+(vw k).length+vs.length+2)->((us++vw k++vs++tw r v).length<=p4/\v=1/\p5=p4\/¬ (us++vw k++vs++tw r v).length<=p4/\whole 7 (wat (us++vw k++vs++tw r v) p4).cps.toList=true/\v=vl (wat (us++vw k++vs++tw r v) p4).cps.toList/\2<=v/\v<=1000000/\p5=p4+1)->(us++vw k++vs++tw r v).length<=p5->∃ p1 p3 p4 p5,Fil (us++vw k++vs++tw r v) [] ⟨k,a,b,r,v⟩ p1 p3 p4 p5:=λp4 p5 q1 q2 q3=>⟨us.length,us.length+(vw k).length+vs.length,p4,p5,hk,pa,by rw[pv],by rw[pv];exact pb,q1,q2,q3⟩
 by_cases hr:r=0
 ·have et:tw r v=[]:=by unfold tw;rw[if_pos hr]
  have l0:(tw r v).length=0:=by rw[et];rfl
  exact fin _ _ (.inl ⟨by omega,hr,rfl⟩) (.inl ⟨by omega,hv hr,rfl⟩) (by omega)
 ·by_cases hv1:v=1
  ·have et:tw r v=[Str.ofString "by",R]:=by unfold tw;rw[if_neg hr,if_pos hv1,eR];rfl
   have l0:(tw r v).length=2:=by rw[et];rfl
   refine fin _ _ (.inr ⟨by omega,?_,by omega,h1,?_,rfl⟩) (.inl ⟨by omega,hv1,rfl⟩) (by omega)
   ·exact a'M (pre:=us++vw k++vs) (r:=[R]) (by rw[et]) (by first |(simp;done) |(simp;omega))
   ·rw[eR,a'M (x:=R) (pre:=us++vw k++vs++[Str.ofString "by"]) (r:=[]) (by rw[et];simp) (by first |(simp;done) |(simp;omega))]
  ·have et:tw r v=[Str.ofString "by",R,tx (dec v)]:=by unfold tw;rw[if_neg hr,if_neg hv1,eR];rfl
   have l0:(tw r v).length=3:=by rw[et];rfl
   have e3:wat (us++vw k++vs++tw r v) (us.length+(vw k).length+vs.length+2)=tx (dec v):=a'M (pre:=us++vw k++vs++[Str.ofString "by",R]) (r:=[]) (by rw[et];simp) (by first |(simp;done) |(simp;omega));refine fin _ _ (.inr ⟨by omega,?_,by omega,h1,?_,rfl⟩) (.inr ⟨by omega,?_,?_,by omega,by omega,rfl⟩) (by omega)
   ·exact a'M (pre:=us++vw k++vs) (r:=[R,tx (dec v)]) (by rw[et]) (by first |(simp;done) |(simp;omega))
   ·rw[eR,a'M (x:=R) (pre:=us++vw k++vs++[Str.ofString "by"]) (r:=[tx (dec v)]) (by rw[et];simp) (by first |(simp;done) |(simp;omega))]
   ·rw[e3,a'x,p'x (by omega)];exact h'I (by decide) (by omega)
   ·rw[e3,a'x,p'x (by omega),c'j];omega
def akY:PSp:=ai6 2 λxs Q=>∃(f:Fl)(script:List Int)(k:Int),Fp f/\xs=[.lst f (script.map Enc.t),.int k]/\0<=k/\∀ c:Int,Q (.int c)
theorem a'T(T:Tx K mg){z:Bool}:FnOk P w K mg base CX0 1 T.aa3 T.aa4 ["_law_script","_law_k"] (spP K z 0 2 akY):=by
 refine a'v T.aa5 g'O rfl (by decide) λ_ _ _ _ _ _ hr=>?_
 have hu:=a'o hr;refine⟨_,(a'b (a't (a'i f'u c'G (qv 1) (a'V b'j a'P rfl T.ahB rfl (a'a (qv 0) a'd)) (by walk_at "u")) (a'e (a'g (a'n hu (qv 0) (qv 1) (λ_ _=>rfl)))) a'l)
  (a'e (a'g a'c))),?_⟩
 rintro xs Q' _ ⟨_,f,script,k,_,rfl,h0,q⟩;walk_at "p";split
 ·rename_i c;exact r'Q _ _ _ (e'q script h0 (by have:=of_decide_eq_true c;omega)) ⟨e_o _,q _ _⟩
 ·exact q _ _
theorem cml{i j:Int}(h:-(2 ^ 64)<i/\i<2 ^ 64):akq i j:=.inl (.inl h)
theorem cmr{i j:Int}(h:-(2 ^ 64)<j/\j<2 ^ 64):akq i j:=.inl (.inr h)
theorem a'C{j:Int}(h:j.natAbs<2 ^ 100):j.natAbs<2 ^ 8000:=Nat.lt_of_lt_of_le h (Nat.pow_le_pow_right (by decide) (by omega))
def alY:PSp:=ai6 2 λxs Q=>∃(c k:Int),xs=[.int c,.int k]/\∀ r:Int,0<=r->r<2147483647->Q (.int r)
theorem c'U(T:Tx K mg){z:Bool}:FnOk P w K mg base CX0 1 T.aa8 T.aa9 ["_law_cell","_law_k"] (spP K z 0 2 alY):=by
 refine a'v T.aba ajD rfl (by decide) λ_ _ _ _ _ _ hr=>?_
 have hu:=a'o hr;refine⟨_,(a'b (a'k (i:=2) ajD.nd (by decide) rfl (Or.inl rfl) (a'B (e'N (a'z (a'z (qv 0) (e'N a'c (qv 1))) a'c) a'c) a'c))
  (a'e (a'g (a'B (e'N (qv 2) (a'z (a'R (qv 2) a'c) a'c)) a'c)))),?_⟩
 rintro xs Q' _ ⟨_,c,k,rfl,q⟩;walk_at "p";have a0:=Int.emod_nonneg ((c+7919*k+1)*48271) (show (2147483647:Int)≠0 by decide);have a1:=Int.emod_lt_of_pos ((c+7919*k+1)*48271) (show (0:Int)<2147483647 by decide);exact⟨cml (by decide),cmr (by decide),by decide,⟨by decide,a'C (by decide)⟩,cml (by omega),by decide,q _ (Int.emod_nonneg _ (by decide)) (Int.emod_lt_of_pos _ (by decide)) _⟩
def alb:PSp:=ai6 2 λxs Q=>∃ a b:Int,xs=[.int a,.int b]/\Q (.int (gd a b))
theorem h'X(T:Tx K mg){z:Bool}:FnOk P w K mg base CX0 1 T.abd T.abe ["_law_one","_law_other"] (spP K z 0 2 alb):=by
 refine a'v T.abf aij rfl (by decide) λ_ _ _ _ _ _ hr=>?_
 have hu:=a'o hr;refine⟨_,(a'b (a'k (i:=0) aij.nd (by decide) rfl (Or.inl rfl) (a'V d'z e'L rfl T.ahA rfl (a'a (qv 0) a'd)))
  (a'b (a'k (i:=1) aij.nd (by decide) rfl (Or.inl rfl) (a'V d'z e'L rfl T.ahA rfl (a'a (qv 1) a'd)))
  (a'b (i'c PassesOwn.never (a'i (d'I hr.units) b'z (qv 1) a'c (by walk_at "u")) (a'e (w'Z (i:=0) (j:=1) rfl aij.nd (by decide) (by decide) rfl rfl (by decide) rfl rfl (a'a (qv 1) (a'a (a'B (qv 0) (qv 1)) a'd)) rfl)))
  (a'e (a'g (qv 0)))))),?_⟩
 rintro xs Q' _ ⟨_,a,b,rfl,q⟩;walk_at "p";refine⟨λm ρ=>∃ x y,ρ=[.int x,.int y]/\0<=x/\0<=y/\gd x y=gd a b/\m=y.toNat,⟨_,_,_,rfl,by split<;>omega,by split<;>omega,by rw[f'U,f'U];exact f'T a b,rfl⟩,?_⟩;rintro m ρ ⟨x,y,rfl,hx,hy,e,rfl⟩;walk_at "p";by_cases h0:y=0
 ·subst h0;rw[k'o x hx] at e;subst e;walk_at "p";exact q _
 ·rw[if_pos (by simp[h0])];refine⟨by omega,(x % y).toNat,?_,_,_,rfl,hy,Int.emod_nonneg _ h0,?_,rfl⟩
  ·have:=Int.emod_lt_of_pos x (show 0<y by omega);have:=Int.emod_nonneg x h0;omega
  ·rw[n'h hx (by omega)];exact e
theorem s'm{a b:Int}(hb:0<b):a.fdiv (gd a b)=(Rat.divInt a b).num:=by
 have:=i'q (t:=a) (b:=b) (by omega);unfold dv at this;rw[if_neg (by omega)] at this;exact this
theorem s'n{a b:Int}(hb:0<b):b.fdiv (gd a b)=((Rat.divInt a b).den:Int):=by
 have:=i'r (t:=a) (b:=b) (by omega);unfold dv at this;rw[if_neg (by omega)] at this;exact this
theorem w'C{a b:Int}(hb:0<b):(Rat.divInt a b).num.natAbs<=a.natAbs/\((Rat.divInt a b).den:Int)<=b:=by
 have aux:∀ g x:Int,0<g->g ∣ x->(x.fdiv g).natAbs<=x.natAbs:=by
  rintro g _ hg ⟨c,rfl⟩;rw[Int.mul_fdiv_cancel_left _ (by omega),Int.natAbs_mul];exact Nat.le_mul_of_pos_left _ (by omega)
 have g0:0<gd a b:=d'i (by omega);have h1:=aux _ _ g0 (f'q a b);have h2:=aux _ _ g0 (d'B a b);rw[s'm hb] at h1;rw[s'n hb] at h2;exact⟨h1,by omega⟩
def alc:PSp:=ai6 1 λxs Q=>∃ c:Int,xs=[.int c]/\∀ q:Rat,nq q->Q (Enc.t q)
theorem d'T(T:Tx K mg){z:Bool}:FnOk P w K mg base CX0 3 T.abi T.abj ["_law_cell"] (spP K z 0 1 alc):=by
 refine a'v T.abk aik rfl (by decide) λ_ _ _ _ _ _ hr=>?_
 have hu:=a'o hr;refine⟨_,(a'b (a'k (i:=1) aik.nd (by decide) rfl (Or.inl rfl) (a'B (a'j ((c'U T).mono (by omega)) (by walk_at "z") (λ_ _ h=>h.1) hr rfl T.abc T.aba.kp T.abb (QA.frz (a'a (qv 0) (a'a a'c a'd)))) (a'n hu (a'U (a'a a'c (a'a a'c (a'a (i'e a'c a'c) a'd)))) (a'B (qv 0) a'c) (λ_ _=>rfl))))
  (a'b (a'k (i:=2) aik.nd (by decide) rfl (Or.inl rfl) (a'n hu (a'U (a'a a'c (a'a a'c (a'a a'c (a'a a'c a'd))))) (a'B (a'j ((c'U T).mono (by omega)) (by walk_at "z") (λ_ _ h=>h.1) hr rfl T.abc T.aba.kp T.abb (QA.frz (a'a (qv 0) (a'a a'c a'd)))) a'c) (λ_ _=>rfl)))
  (a'b (a'k (i:=3) aik.nd (by decide) rfl (Or.inl rfl) (a'j ((h'X T).mono (by omega)) (by walk_at "z") (λ_ _ h=>h.1) hr rfl T.abh T.abf.kp T.abg (QA.frz (a'a (qv 1) (a'a (qv 2) a'd)))))
  (a'e (a'g (c'Y (a'a (a'R (a'n hu (a'U (a'a (qv 1) (a'a (i'b a'c (qv 1)) a'd))) (a'B (a'R (qv 0) a'c) a'c) (λ_ _=>rfl)) (qv 3)) (a'a (a'R (qv 2) (qv 3)) a'd)))))))),?_⟩
 rintro xs Q' _ ⟨_,c,rfl,q⟩;walk_at "p";have hf:∃ n:Int,atI [Tr.int 7,.int 41,.int (10 ^ Int.toNat 6)] (c % 3)=some (.int n)/\0<n/\n<=1000000:=by
  have h4:c % 3=0\/c % 3=1\/c % 3=2:=by omega
  rcases h4 with h |h |h<;>rw[h]
  ·exact⟨7,at0 _ _,by decide,by decide⟩
  ·exact⟨41,at1 _ _ _,by decide,by decide⟩
  ·exact⟨_,at2 _ _ _ _,by decide,by decide⟩
 obtain⟨n,hn,n0,n1⟩:=hf;refine⟨rfl,_,_,rfl,λr r0 r1 ρ=>?_⟩;walk_at "p";refine⟨⟨by decide,by decide,by decide⟩,by decide,?_⟩;rw[hn];walk_at "p";have t0:=Int.emod_nonneg r (show n≠0 by omega);have t1:=Int.emod_lt_of_pos r n0;generalize r % n=t at t0 t1;refine⟨n0,rfl,_,_,rfl,λr2 r20 r21 ρ=>?_⟩;walk_at "p";have hd:∃ d:Int,atI [Tr.int 1,.int 2,.int 7,.int 999983] (r2 % 4)=some (.int d)/\0<d/\d<=999983:=by
  have h4:r2 % 4=0\/r2 % 4=1\/r2 % 4=2\/r2 % 4=3:=by omega
  rcases h4 with h |h |h |h<;>rw[h]
  ·exact⟨1,at0 _ _,by decide,by decide⟩
  ·exact⟨2,at1 _ _ _,by decide,by decide⟩
  ·exact⟨7,at2 _ _ _ _,by decide,by decide⟩
  ·exact⟨999983,at3 _ _ _ _ _,by decide,by decide⟩
 obtain⟨d,hd,d0,d1⟩:=hd;refine⟨by decide,?_⟩;rw[hd];walk_at "p";refine⟨rfl,t,d,rfl,λρ=>?_⟩;walk_at "p";have hs:∃ m:Int,atI [Tr.int t,Tr.int (0 - t)] (c.fdiv 3 % 2)=some (.int m)/\m.natAbs<1000000/\gd t d=gd m d:=by
  have h4:c.fdiv 3 % 2=0\/c.fdiv 3 % 2=1:=by omega
  rcases h4 with h |h<;>rw[h]
  ·exact⟨t,at0 _ _,by omega,rfl⟩
  ·exact⟨0 - t,at1 _ _ _,by omega,by rw[<- f'T t d,<- f'T (0 - t) d,show (0 - t).natAbs=t.natAbs by omega]⟩
 obtain⟨m,hm,m1,mg⟩:=hs;refine⟨⟨by decide,a'C (by decide)⟩,by decide,?_⟩;rw[hm];walk_at "p";rw[mg,s'm d0,s'n d0];have k2:bi d<=20:=f'r 20 (by omega);have le:=w'C (a:=m) d0;exact⟨e'Q (by omega) (by omega),e'Q (by omega) (by omega),q _ ⟨by omega,by omega⟩ _⟩
theorem w'D{L:List Nat}{k:Int}(h0:0<=k)(h1:k<L.length)(h2:L.length<=1000000){Q:Tr->Prop}(q:∀ c∈L,Q (.str (tx [c]))):akw (.str (tx L)) (.int k) Q:=by
 refine⟨by rw[a'p];exact h2,?_⟩;rw[a'x,e'q L h0 (by omega)];exact q _ (List.getElem_mem _)
theorem w'E{z:Bool}{x:Str}(h:x.length<=1000000){Q:Tr->Prop}(q:Q (.int x.length)):amb z [.str x] Q:=by
 first |exact q |exact⟨h,q⟩ |exact⟨c'd h,q⟩
theorem w'F{L:List Nat}{i:Int}(h0:0<=i)(h:i<=L.length):Txt.slice (tx L) none (some i)=tx (L.take i.toNat):=by
 show StrLaws.sliceText (tx L) none (some i)=_;rw[StrLaws.sliceText_to ⟨by omega,by rw[a'x];omega⟩,a'x,List.drop_zero,show (i - 0).toNat=i.toNat by omega];rfl
theorem q'V{L:List Nat}{i:Int}(h0:0<=i)(h:i<=L.length):Txt.slice (tx L) (some i) none=tx (L.drop i.toNat):=by
 show StrLaws.sliceText (tx L) (some i) none=_;rw[StrLaws.sliceText_from ⟨by omega,by rw[a'x];omega⟩,a'x,List.take_of_length_le (by rw[List.length_drop];omega)];rfl
def ltr(c:Nat):Bool:=decide (97<=c) && decide (c<=122)
theorem x'm:Str.ofString "abcdefghijklmnopqrstuvwxyz"=tx ((List.range 26).map (·+97)):=by walk_at "k"
theorem x'B:Str.ofString "pqxyz"=tx [112,113,120,121,122]:=by walk_at "k"
def nmL:List Str:=["is","at","of","and","by","less","times","left","top","must","most","gap"]
theorem w'G:∀ n∈nmL,akx n.cps.toList=true/\¬ n=Str.ofString "frame":=by walk_at "k"
def amR:PSp:=ai6 2 λxs Q=>∃ c k:Int,xs=[.int c,.int k]/\0<=k/\k<5/\∀ n:Str,akx n.cps.toList=true->¬ n="frame"->Q (.str n)
theorem k'c(T:Tx K mg){z:Bool}:FnOk P w K mg base CX0 2 T.abn T.abo ["_law_first","_law_k"] (spP K z 0 2 amR):=by
 refine a'v T.abp aie rfl (by decide) λ_ _ _ _ _ _ hr=>?_
 have hu:=a'o hr;refine⟨_,(a'b (a'k (i:=2) aie.nd (by decide) rfl (Or.inl rfl) (a'U (a'a a'f (a'a a'f (a'a a'f (a'a a'f (a'a a'f (a'a a'f (a'a a'f (a'a a'f (a'a a'f (a'a a'f (a'a a'f (a'a a'f a'd))))))))))))))
  (a'b (a't (a'i (a'y hr.units) a'm (a'B (qv 0) a'c) a'c (by walk_at "u")) (a'e (a'g (a'n hu (qv 2) (a'B (a'z (a'R (qv 0) a'c) (qv 1)) a'c) (λ_ _=>rfl)))) a'l)
  (a'b (a'k (i:=3) aie.nd (by decide) rfl (Or.inl rfl) a'f)
  (a'b (r'g PassesOwn.never rfl (r'f rfl T.ahC (a'a (a'B (a'R (qv 0) a'c) a'c) a'd)) (v'A (i:=4) aie.nd (by decide) rfl (Or.inl rfl)) (a'e (a'k (i:=3) aie.nd (by decide) rfl (Or.inl rfl) (a'z (qv 3) (a'n hu a'f (a'B (a'j ((c'U T).mono (by omega)) (by walk_at "z") (λ_ _ h=>h.1) hr rfl T.abc T.aba.kp T.abb (QA.frz (a'a (qv 0) (a'a (qv 4) a'd)))) a'c) (λ_ _=>rfl))))))
  (a'b (a'k (i:=5) aie.nd (by decide) rfl (Or.inl rfl) (a'B (a'R (qv 0) a'c) (a'z (a'V b'j a'P rfl T.ahB rfl (a'a (qv 3) a'd)) a'c)))
  (a'e (a'g (a'z (a'z (i'J (qv 3) m'o (e'n (qv 5))) (a'n hu a'f (qv 1) (λ_ _=>rfl))) (i'J (qv 3) (e'n (qv 5)) m'o))))))))),?_⟩
 rintro xs Q' _ ⟨_,c,k,rfl,k0,k1,q⟩;walk_at "p";refine⟨by decide,?_⟩;split
 ·refine⟨⟨by decide,a'C (by decide)⟩,by decide,?_⟩;show oQ (atI (nmL.map Enc.t) _) _;have l0:(0:Int)<=(c.fdiv 5+k) % 12:=by omega
  have l1:((c.fdiv 5+k) % 12).toNat<nmL.length:=by show _<12;omega
  rw[d'n,e'q nmL l0 l1];have hm:=List.getElem_mem l1;obtain⟨n1,n2⟩:=w'G _ hm;exact⟨rfl,q _ n1 n2 _⟩
 refine⟨⟨by decide,a'C (by decide)⟩,by decide,by omega,by omega,Loop.map (List.range (c.fdiv 5 % 8).toNat) (λ(i:Nat)=>Tr.int i) (λi ρ=>∃(L:List Nat)(x:Tr),ρ=[.int c,.int k,Tr.lst .f (nmL.map Enc.t),.str (tx L),x,.hole]/\L.length<=i/\L.all ltr=true) ⟨[],.hole,rfl,by decide,rfl⟩ ?_ ?_⟩
 ·rintro i y ρ hx ⟨L,x,rfl,hl,ha⟩;have il:=(List.getElem?_eq_some_iff.mp hx).1;rw[List.length_range] at il;walk_at "p";refine⟨rfl,_,_,rfl,λr r0 r1 ρ=>?_⟩;walk_at "p";rw[x'm];refine⟨by decide,w'D (by omega) (by rw[List.length_map,List.length_range];omega) (by decide) λy hy=>?_⟩;walk_at "p";refine⟨by rw[a'p,a'p,List.length_singleton];omega,L++[y],_,by rw[b'U],by rw[List.length_append,List.length_singleton];omega,?_⟩;rw[List.all_append,ha,List.all_cons,List.all_nil,Bool.true_and,Bool.and_true];obtain⟨a,ha,rfl⟩:=List.mem_map.mp hy;have:=List.mem_range.mp ha;unfold ltr;rw[decide_eq_true (by omega),decide_eq_true (by omega)];rfl
 ·rintro ρ ⟨L,x,rfl,hl,ha⟩;rw[List.length_range] at hl;have hl:L.length<=7:=by omega
  walk_at "p";simp only[s'l];refine⟨⟨by decide,a'C (by decide)⟩,w'E (by rw[a'p];omega) ?_⟩;walk_at "p";rw[a'p];have m0:0<=c.fdiv 40 % ((L.length:Int)+1):=Int.emod_nonneg _ (by omega);have m1:c.fdiv 40 % ((L.length:Int)+1)<=L.length:=by have:=Int.emod_lt_of_pos (c.fdiv 40) (show 0<(L.length:Int)+1 by omega);omega
  refine⟨by omega,by omega,?_⟩;rw[x'B];refine w'D k0 (by show k<((5:Nat):Int);omega) (by decide) λy hy=>?_
  walk_at "p";rw[w'F m0 m1,q'V m0 m1];generalize (c.fdiv 40 % ((L.length:Int)+1)).toNat=m;have t1:(L.take m).length<=7:=by rw[List.length_take];omega
  have t2:(L.drop m).length<=7:=by rw[List.length_drop];omega
  have t3:(L.take m).length+(L.drop m).length=L.length:=by rw[<- List.length_append,List.take_append_drop]
  have t4:(L.take m).all ltr=true:=List.all_eq_true.mpr λc h=>List.all_eq_true.mp ha c (List.mem_of_mem_take h)
  have t5:(L.drop m).all ltr=true:=List.all_eq_true.mpr λc h=>List.all_eq_true.mp ha c (List.mem_of_mem_drop h)
  simp only[b'U,a'p,List.length_append,List.length_singleton];have y1:ltr y=true:=by
   have:∀ y∈([112,113,120,121,122]:List Nat),ltr y=true:=by decide
   exact this y hy
  have y2:y ∉ (Str.ofString "frame").cps.toList:=by
   have:∀ y∈([112,113,120,121,122]:List Nat),y ∉ (Str.ofString "frame").cps.toList:=by walk_at "k"
   exact this y hy
  refine⟨by omega,by omega,by omega,q _ ?_ ?_ _⟩
  ·rw[a'x];unfold akx;rw[decide_eq_true (by simp only[List.length_append,List.length_singleton];omega),decide_eq_true (by simp only[List.length_append,List.length_singleton];omega)];show (List.all _ ltr)=true;rw[List.all_append,List.all_append,t4,t5,List.all_cons,List.all_nil,y1];rfl
  ·intro z;rw[<- z,a'x] at y2;exact y2 (by simp)
def ltT:Tm->Tr
 |.num q=>.tup [.str "number",Enc.t q]
 |.edge a n=>.tup [.str "edge",.str a,.str n]
 |.times q t=>.tup [.str "times",Enc.t q,ltT t]
 |.plus a b=>.tup [.str "plus",ltT a,ltT b]
 |.minus a b=>.tup [.str "minus",ltT a,ltT b]
theorem f'b:∀ t:Tm,Cl (ltT t)=true
 |.num q=>by show (true && (Cl (Enc.t q) && true)) = true; rw[Enc.c]; rfl
 |.edge a n=>rfl
 |.times q t=>by show (true && (Cl (Enc.t q) && (Cl (ltT t) && true))) = true; rw[Enc.c,f'b t]; rfl
 |.plus a b=>by show (true && (Cl (ltT a) && (Cl (ltT b) && true))) = true; rw[f'b a,f'b b]; rfl
 |.minus a b=>by show (true && (Cl (ltT a) && (Cl (ltT b) && true))) = true; rw[f'b a,f'b b]; rfl
instance:Enc Tm:=⟨ltT,f'b,λt=>by cases t<;>exact λz=>by cases z⟩
def WL:List (List Str):=[["left","width","right","middle","gap"],["top","height","bottom","centre","drop"]]
theorem x'n{way k:Int}(h0:0<=way)(h1:way<2)(k0:0<=k)(k1:k<5):∃(ws:List Str)(x:Str),atI (WL.map λl=>Tr.lst .o (l.map Enc.t)) way=some (.lst .o (ws.map Enc.t))/\atI ws k=some x/\(x∈acr\/dwn x=true)/\dwn x=decide (way=1)/\(k<4->¬ (x="gap"\/x="drop")):=by
 have h:way=0\/way=1:=by omega
 have g:k=0\/k=1\/k=2\/k=3\/k=4:=by omega
 rcases h with rfl |rfl
 ·rcases g with rfl |rfl |rfl |rfl |rfl
  ·exact⟨_,_,at0 _ _,at0 _ _,by walk_at "k",by walk_at "k",λ_=>by walk_at "k"⟩
  ·exact⟨_,_,at0 _ _,at1 _ _ _,by walk_at "k",by walk_at "k",λ_=>by walk_at "k"⟩
  ·exact⟨_,_,at0 _ _,at2 _ _ _ _,by walk_at "k",by walk_at "k",λ_=>by walk_at "k"⟩
  ·exact⟨_,_,at0 _ _,at3 _ _ _ _ _,by walk_at "k",by walk_at "k",λ_=>by walk_at "k"⟩
  ·exact⟨_,_,at0 _ _,at4 _ _ _ _ _ _,by walk_at "k",by walk_at "k",λz=>absurd z (by decide)⟩
 ·rcases g with rfl |rfl |rfl |rfl |rfl
  ·exact⟨_,_,at1 _ _ _,at0 _ _,by walk_at "k",by walk_at "k",λ_=>by walk_at "k"⟩
  ·exact⟨_,_,at1 _ _ _,at1 _ _ _,by walk_at "k",by walk_at "k",λ_=>by walk_at "k"⟩
  ·exact⟨_,_,at1 _ _ _,at2 _ _ _ _,by walk_at "k",by walk_at "k",λ_=>by walk_at "k"⟩
  ·exact⟨_,_,at1 _ _ _,at3 _ _ _ _ _,by walk_at "k",by walk_at "k",λ_=>by walk_at "k"⟩
  ·exact⟨_,_,at1 _ _ _,at4 _ _ _ _ _ _,by walk_at "k",by walk_at "k",λz=>absurd z (by decide)⟩
def amS:PSp:=ai6 2 λxs Q=>∃ c f:Int,xs=[.int c,.int f]/\∀ a n:Str,(Tm.edge a n).gd (decide (f % 2=1))->Q (Enc.t (Tm.edge a n))
theorem f'k(T:Tx K mg){z:Bool}:FnOk P w K mg base CX0 3 T.abt T.abu ["_law_cell","_law_first"] (spP K z 0 2 amS):=by
 refine a'v T.abv ajL rfl (by decide) λ_ _ _ _ _ _ hr=>?_
 have hu:=a'o hr;refine⟨_,(a'b (a'k (i:=2) ajL.nd (by decide) rfl (Or.inl rfl) (a'n hu (a'U (a'a (a'U (a'a a'f (a'a a'f (a'a a'f (a'a a'f (a'a a'f a'd)))))) (a'a (a'U (a'a a'f (a'a a'f (a'a a'f (a'a a'f (a'a a'f a'd)))))) a'd))) (a'B (qv 1) a'c) (λ_ _=>rfl)))
  (a'b (a't (QW.t (c'h (a'i (a'y hr.units) a'm (a'B (a'R (qv 0) a'c) a'c) a'c (by walk_at "u")) (b'K (a'i f'u c'G (a'B (qv 0) a'c) a'c (by walk_at "u"))))) (a'e (a'g (c'Y (a'a a'f (a'a (a'n hu (qv 2) (a'B (qv 0) a'c) (λ_ _=>rfl)) (a'a a'f a'd)))))) a'l)
  (a'e (a'g (c'Y (a'a a'f (a'a (a'n hu (qv 2) (a'B (qv 0) a'c) (λ_ _=>rfl)) (a'a (a'j ((k'c T).mono (by omega)) (by walk_at "z") (λ_ _ h=>h.1) hr rfl T.abr T.abp.kp T.abq (QA.frz (a'a (a'R (qv 1) a'c) (a'a (a'B (a'R (qv 0) a'c) a'c) a'd)))) a'd)))))))),?_⟩
 rintro xs Q' _ ⟨_,c,f,rfl,q⟩;walk_at "p";refine⟨by decide,?_⟩;obtain⟨ws,x,e1,e2,e3,e4,e5⟩:=x'n (way:=f % 2) (k:=c % 5) (by omega) (by omega) (by omega) (by omega);show oQ (atI (WL.map λl=>Tr.lst .o (l.map Enc.t)) (f % 2)) _;rw[e1];show _/\_;walk_at "p";refine⟨⟨by decide,a'C (by decide)⟩,by decide,?_⟩;simp only[e2,Option.map_some];walk_at "p";have d2:CDivB f 2:=⟨by decide,a'C (by decide)⟩;have d25:CDivB c 25:=⟨by decide,a'C (by decide)⟩;have fin:∀ n:Str,akx n.cps.toList=true->¬ n="frame"->∀ ρ,Q' (Tr.tup [Tr.str (Str.ofString "edge"),Tr.str x,.str n]) ρ:=λn n1 n2 ρ=>q x n ⟨e3,e4,n1,λz=>n2 z.1⟩ _
 split
 ·refine⟨by decide,?_⟩;split
  ·rename_i c4;exact⟨by decide,q x "frame" ⟨e3,e4,by walk_at "k",λz=>e5 (of_decide_eq_true c4) z.2⟩ _⟩
  ·exact⟨by decide,d2,d25,by decide,rfl,_,_,rfl,by omega,by omega,λn n1 n2 ρ=>⟨rfl,fin n n1 n2 _⟩⟩
 ·exact⟨by decide,d2,d25,by decide,rfl,_,_,rfl,by omega,by omega,λn n1 n2 ρ=>⟨rfl,fin n n1 n2 _⟩⟩
def tot(f:Tm->Nat):List Tm->Nat
 |[]=>0
 |t :: ts=>f t + tot f ts
theorem a'Z(f:Tm->Nat):∀(a b:List Tm),tot f (a++b)=tot f a+tot f b
 |[],b=>by rw[List.nil_append]; show _ = 0 + _; omega
 |x :: a,b=>by show f x + tot f (a ++ b) = f x + tot f a + tot f b; rw[a'Z f a b]; omega
theorem b'a(f:Tm->Nat)(t:Tm):tot f [t]=f t:=rfl
def mx:Tm->Nat
 |.num _=>50 |.edge _ _=>50 |.times _ t=>mx t + 50 |.plus a b=>mx a + mx b + 50 |.minus a b=>mx a + mx b + 50
structure HI(d:Bool)(ts:List Tm)(b:Nat):Prop where
 ok:∀ t∈ts,t.gd d
 d:tot (λt=>t.dep+1) ts<=b
 w:tot (λt=>mx t+50) ts<=100*b
 e:tot (λt=>(edg t).length) ts<=b
 l:0<ts.length/\ts.length<=b
theorem HI.push{d:Bool}{ts:List Tm}{b:Nat}(h:HI d ts b){t:Tm}(ho:t.gd d)(hd:t.dep=0)(hw:mx t<=50)(he:(edg t).length<=1):HI d (ts++[t]) (b+1):=by
 have:=h.l;refine⟨λx m=>(List.mem_append.mp m).elim (h.ok x) λm=>by rw[List.mem_singleton.mp m];exact ho,?_,?_,?_,?_⟩
 ·rw[a'Z,b'a];have:=h.d;omega
 ·rw[a'Z,b'a];have:=h.w;omega
 ·rw[a'Z,b'a];have:=h.e;omega
 ·rw[List.length_append,List.length_singleton];omega
theorem HI.times{d:Bool}{ts:List Tm}{t:Tm}{b:Nat}(h:HI d (ts++[t]) b){q:Rat}(hq:nq q):HI d (ts++[.times q t]) (b+1):=by
 have hl:=h.l;have hd:=h.d;have hw:=h.w;have he:=h.e;rw[a'Z,b'a] at hd hw he;rw[List.length_append,List.length_singleton] at hl;refine⟨λx m=>(List.mem_append.mp m).elim (λm=>h.ok x (List.mem_append.mpr (.inl m))) λm=>by rw[List.mem_singleton.mp m];exact⟨hq,h.ok t (List.mem_append.mpr (.inr (.head _)))⟩,?_,?_,?_,?_⟩
 ·rw[a'Z,b'a];show _+(t.dep+1+1)<=_;omega
 ·rw[a'Z,b'a];show _+(mx t+50+50)<=_;omega
 ·rw[a'Z,b'a];show _+(edg t).length<=_;omega
 ·rw[List.length_append,List.length_singleton];omega
theorem HI.two{d:Bool}{ts:List Tm}{x y r:Tm}{b:Nat}(h:HI d (ts++[x]++[y]) b)(hr:r=.plus x y\/r=.minus x y):HI d (ts++[r]) b:=by
 have hl:=h.l;have hd:=h.d;have hw:=h.w;have he:=h.e;rw[a'Z,b'a,a'Z,b'a] at hd hw he;rw[List.length_append,List.length_singleton,List.length_append,List.length_singleton] at hl;have o1:=h.ok x (List.mem_append.mpr (.inl (List.mem_append.mpr (.inr (.head _)))));have o2:=h.ok y (List.mem_append.mpr (.inr (.head _)));have r1:r.gd d:=by rcases hr with rfl |rfl<;>exact⟨o1,o2⟩
 have r2:r.dep=max x.dep y.dep+1:=by rcases hr with rfl |rfl<;>rfl
 have r3:mx r=mx x+mx y+50:=by rcases hr with rfl |rfl<;>rfl
 have r4:(edg r).length=(edg x).length+(edg y).length:=by rcases hr with rfl |rfl<;>(show (edg x++edg y).length=_;rw[List.length_append])
 refine⟨λz m=>(List.mem_append.mp m).elim (λm=>h.ok z (List.mem_append.mpr (.inl (List.mem_append.mpr (.inl m))))) λm=>by rw[List.mem_singleton.mp m];exact r1,?_,?_,?_,?_⟩
 ·rw[a'Z,b'a,r2];omega
 ·rw[a'Z,b'a,r3];omega
 ·rw[a'Z,b'a,r4];omega
 ·rw[List.length_append,List.length_singleton];omega
theorem HI.up{d:Bool}{ts:List Tm}{b:Nat}(h:HI d ts b):HI d ts (b+1):=⟨h.ok,Nat.le_succ_of_le h.d,by have:=h.w;omega,Nat.le_succ_of_le h.e,h.l.1,Nat.le_succ_of_le h.l.2⟩
theorem c'E{ts:List Tm}(h:0<ts.length):∃ us u,ts=us++[u]:=by
 have ne:ts≠[]:=λz=>by rw[z] at h;exact Nat.lt_irrefl _ h
 exact⟨ts.dropLast,ts.getLast ne,(List.dropLast_concat_getLast ne).symm⟩
def amT:PSp:=ai6 2 λxs Q=>∃(f:Fl)(cs:List Int)(c:Int),Fp f/\xs=[.lst f (cs.map Enc.t),.int c]/\cs.length<=8/\∀ t:Tm,t.gd (decide (c % 2=1))->t.dep<15->mx t<=900->(edg t).length<=15->Q (Enc.t t)
theorem f'l(T:Tx K mg){z:Bool}:FnOk P w K mg base CX0 5 T.aby T.abz ["_law_cells","_law_first"] (spP K z 0 2 amT):=by
 refine a'v T.abA aif rfl (by decide) λ_ _ _ _ _ _ hr=>?_
 have hu:=a'o hr;refine⟨_,(a'b (i'd (i:=2) aif.nd (by decide) rfl (Or.inl rfl) (a'U (a'a (a'j ((f'k T).mono (by omega)) (by walk_at "z") (λ_ _ h=>h.1) hr rfl T.abx T.abv.kp T.abw (QA.frz (a'a (a'z (a'R (qv 1) a'c) (a'V b'j a'P rfl T.ahB rfl (a'a (qv 0) a'd))) (a'a (qv 1) a'd)))) a'd)))
  (a'b (r'g PassesOwn.never rfl (q'u (qv 0)) (v'A (i:=3) aif.nd (by decide) rfl (Or.inl rfl)) (a'b (a'k (i:=4) aif.nd (by decide) rfl (Or.inl rfl) (a'B (qv 3) a'c))
  (a'e (a't (QW.t (b's (a'i f'u c'G (qv 4) a'c (by walk_at "u")) (b'u (QW.t (c'h (a'i d'F b'S (qv 4) a'c (by walk_at "u")) (b'K (a'i (a'y hr.units) a'm (a'V b'j a'P rfl T.ahB rfl (a'a (qv 2) a'd)) a'c (by walk_at "u")))))))) (a'e (r'h (a'Q 2) (a'j ((f'k T).mono (by omega)) (by walk_at "z") (λ_ _ h=>h.1) hr rfl T.abx T.abv.kp T.abw (QA.frz (a'a (a'R (qv 3) a'c) (a'a (qv 1) a'd)))))) (a'e (a't (a'i f'u c'G (qv 4) a'c (by walk_at "u")) (a'e (r'h (a'Q 2) (c'Y (a'a a'f (a'a (a'j ((d'T T).mono (by omega)) (by walk_at "z") (λ_ _ h=>h.1) hr rfl T.abm T.abk.kp T.abl (QA.frz (a'a (a'R (qv 3) a'c) a'd))) a'd))))) (a'e (a't (a'i f'u c'G (qv 4) a'c (by walk_at "u")) (a'e (j'i (a'Q 2) (j'h (a'K (c'L a'f) (a'K (c'L (a'j ((d'T T).mono (by omega)) (by walk_at "z") (λ_ _ h=>h.1) hr rfl T.abm T.abk.kp T.abl (QA.frz (a'a (a'R (qv 3) a'c) a'd)))) (a'K (e'u (a'Q 2)) c'A)))))) (a'b (a'F (i:=5) aif.nd (by decide) rfl (Or.inl rfl) (e'u (a'Q 2)))
  (a'e (j'i (a'Q 2) (j'h (a'K (c'L (a'n hu (a'U (a'a a'f (a'a a'f a'd))) (i'b (qv 4) a'c) (λ_ _=>rfl))) (a'K (e'u (a'Q 2)) (a'K (c'L (qv 5)) c'A)))))))))))))))
  (a'b (i'c PassesOwn.never (a'i d'F b'S (a'V b'j a'P rfl T.ahB rfl (a'a (qv 2) a'd)) a'c (by walk_at "u")) (a'b (a'F (i:=5) aif.nd (by decide) rfl (Or.inl rfl) (e'u (a'Q 2)))
  (a'e (j'i (a'Q 2) (j'h (a'K (c'L (a'n hu (a'U (a'a a'f (a'a a'f a'd))) (a'B (a'V b'j a'P rfl T.ahB rfl (a'a (qv 2) a'd)) a'c) (λ_ _=>rfl))) (a'K (e'u (a'Q 2)) (a'K (c'L (qv 5)) c'A))))))))
  (a'e (a'g (a'n hu (qv 2) a'c (λ_ _=>rfl))))))),?_⟩
 rintro xs Q' _ ⟨_,f,cells,c,_,rfl,hl,q⟩;walk_at "p";refine⟨⟨by decide,a'C (by decide)⟩,rfl,_,_,rfl,λa n ho ρ=>?_⟩;walk_at "p";refine Loop.map cells Enc.t (λi ρ=>∃(ts:List Tm)(x y z:Tr),ρ=[.lst f (cells.map Enc.t),.int c,.lst .o (ts.map Enc.t),x,y,z]/\HI (decide (c % 2=1)) ts (i+1)) ⟨[.edge a n],.hole,.hole,.hole,rfl,⟨λt m=>by rw[List.mem_singleton.mp m];exact ho,Nat.le_refl _,by show 50+50+0<=100*1;decide,Nat.le_refl _,Nat.zero_lt_one,Nat.le_refl _⟩⟩ ?_ ?_
 ·rintro i cell ρ hx ⟨ts,x,y,z,rfl,hi⟩;have il:=(List.getElem?_eq_some_iff.mp hx).1;have lt:=hi.l;rw[show (Enc.t cell:Tr)=.int cell from rfl];walk_at "p";refine⟨by decide,?_⟩;have wayR:0<=cell % 9/\cell % 9<9:=⟨by omega,by omega⟩;have d9:CDivB cell 9:=⟨by decide,a'C (by decide)⟩;have dt:∀{p:Prop} [Decidable p],¬ decide p=true->¬ p:=λh z=>h (decide_eq_true z)
  split
  ·exact⟨d9,rfl,_,_,rfl,λa' n' ho' ρ=>⟨e_t _,by omega,ts++[.edge a' n'],.int cell,.int (cell % 9),z,by rw[e_f,List.map_append];rfl,hi.push ho' rfl (by show 50<=50;decide) (Nat.le_refl _)⟩⟩
  ·rename_i c0;have c0:=dt c0;split
   ·rename_i c1;have c1:=of_decide_eq_true c1;split
    ·exact⟨d9,rfl,_,_,rfl,λa' n' ho' ρ=>⟨e_t _,by omega,ts++[.edge a' n'],.int cell,.int (cell % 9),z,by rw[e_f,List.map_append];rfl,hi.push ho' rfl (by show 50<=50;decide) (Nat.le_refl _)⟩⟩
    ·rename_i c2;have c2:=dt c2;rw[if_neg (by rw[decide_eq_true_eq];omega),if_neg (by rw[decide_eq_true_eq];omega)];obtain⟨us,y',rfl⟩:=c'E lt.1;rw[List.length_append,List.length_singleton] at lt;obtain⟨vs,x',rfl⟩:=c'E (ts:=us) (by rw[List.length_append,List.length_singleton] at c2;omega);rw[List.length_append,List.length_singleton] at lt;refine⟨(vs++[x']).map Enc.t,Enc.t y',List.map_append,e_f _,?_⟩;have h78:cell % 9=7\/cell % 9=8:=by omega
     rcases h78 with h |h
     ·rw[show cell % 9 - 7=0 by omega,at0];refine⟨rfl,vs.map Enc.t,Enc.t x',List.map_append,e_f _,?_⟩;rw[e_f,e_l,e'U];exact⟨e_t _,by rw[List.length_map];omega,vs++[.plus x' y'],.int cell,.int (cell % 9),Enc.t y',by rw[e_f,e_f,e_f,e_f,List.map_append];rfl,(hi.two (.inl rfl)).up⟩
     ·rw[show cell % 9 - 7=1 by omega,at1];refine⟨rfl,vs.map Enc.t,Enc.t x',List.map_append,e_f _,?_⟩;rw[e_f,e_l,e'U];exact⟨e_t _,by rw[List.length_map];omega,vs++[.minus x' y'],.int cell,.int (cell % 9),Enc.t y',by rw[e_f,e_f,e_f,e_f,List.map_append];rfl,(hi.two (.inr rfl)).up⟩
   ·rename_i c1;have c1:=dt c1;split
    ·exact⟨d9,rfl,_,rfl,λb hb ρ=>⟨by rw[e_t];rfl,by omega,ts++[.num b],.int cell,.int (cell % 9),z,by rw[e_f,List.map_append];rfl,hi.push (show Tm.gd _ (.num b) from hb) rfl (by show 50<=50;decide) (Nat.zero_le _)⟩⟩
    ·rename_i c2;have c2:=dt c2;rw[if_pos (by rw[decide_eq_true_eq];omega)];obtain⟨us,u,rfl⟩:=c'E lt.1;rw[List.length_append,List.length_singleton] at lt;exact⟨d9,rfl,_,rfl,λb hb ρ=>⟨e_t _,us.map Enc.t,Enc.t u,List.map_append,e_f _,by rw[List.length_map];omega,us++[.times b u],.int cell,.int (cell % 9),z,by rw[e_f,e_f,e_f,e_f,List.map_append];rfl,hi.times hb⟩⟩
 ·rintro ρ ⟨ts,x,y,z,rfl,hi⟩;walk_at "p";refine⟨λm ρ=>∃(ts:List Tm)(x y z:Tr),ρ=[.lst f (cells.map Enc.t),.int c,.lst .o (ts.map Enc.t),x,y,z]/\HI (decide (c % 2=1)) ts (cells.length+1)/\m=ts.length,⟨_,ts,x,y,z,rfl,hi,rfl⟩,?_⟩;rintro m ρ ⟨ts,x,y,z,rfl,hi,rfl⟩;have lt:=hi.l;walk_at "p";have dt:∀{p:Prop} [Decidable p],¬ decide p=true->¬ p:=λh z=>h (decide_eq_true z)
  split
  ·rename_i c2;have c2:=of_decide_eq_true c2;obtain⟨us,y',rfl⟩:=c'E lt.1;rw[List.length_append,List.length_singleton] at lt c2;obtain⟨vs,x',rfl⟩:=c'E (ts:=us) (by omega);rw[List.length_append,List.length_singleton] at lt;refine⟨(vs++[x']).map Enc.t,Enc.t y',List.map_append,e_f _,by decide,?_⟩;have h78:((lends ((vs++[x']).map (Enc.t (α:=Tm)))).length:Int) % 2=0\/((lends ((vs++[x']).map (Enc.t (α:=Tm)))).length:Int) % 2=1:=by omega
   rcases h78 with h |h
   ·rw[h,at0];refine⟨rfl,vs.map Enc.t,Enc.t x',List.map_append,e_f _,?_⟩;rw[e_f,e_l,e'U];refine⟨e_t _,by rw[List.length_map];omega,_,?_,vs++[.plus x' y'],x,y,Enc.t y',by rw[e_f,e_f,e_f,e_f,List.map_append];rfl,hi.two (.inl rfl),rfl⟩;rw[List.length_append,List.length_append,List.length_append,List.length_singleton,List.length_singleton,List.length_singleton];omega
   ·rw[h,at1];refine⟨rfl,vs.map Enc.t,Enc.t x',List.map_append,e_f _,?_⟩;rw[e_f,e_l,e'U];refine⟨e_t _,by rw[List.length_map];omega,_,?_,vs++[.minus x' y'],x,y,Enc.t y',by rw[e_f,e_f,e_f,e_f,List.map_append];rfl,hi.two (.inr rfl),rfl⟩;rw[List.length_append,List.length_append,List.length_append,List.length_singleton,List.length_singleton,List.length_singleton];omega
  ·rename_i c2;have c2:=dt c2;obtain⟨us,u,rfl⟩:=c'E lt.1;rw[List.length_append,List.length_singleton] at lt c2;obtain rfl:us=[]:=List.eq_nil_of_length_eq_zero (by omega);rw[List.nil_append];rw[List.nil_append] at hi;have hd:=hi.d;have hw:=hi.w;have he:=hi.e;rw[b'a] at hd hw he
   try walk_at "p"
   show nol (Enc.t u)=true/\_;exact⟨e_o _,q u (hi.ok u (.head _)) (by omega) (by omega) (by omega) _⟩
def amU(T:Tx K mg)(n:Nat):PSp:=ai6 1 λxs Q=>∃ t:Tm,xs=[Enc.t t]/\t.dep<n/\Q (tmO T t)
theorem d'g(T:Tx K mg):∀ n,FnOk P w K mg base CX0 (n+3) T.abS T.abT ["_law_tree_here"] (spP K true 0 1 (amU T n))
 |0=>by
  refine a'v T.abU f'i rfl (by decide) λ_ _ _ _ _ _ hr=>⟨_,b'I,?_⟩
  rintro xs Q' _ ⟨_,t,rfl,hd,_⟩;exact absurd hd (Nat.not_lt_zero _)
 |m + 1=>by
  have ih:=d'g T m;refine a'v T.abU f'i rfl (by decide) λ_ _ _ _ _ _ hr=>?_
  have hu:=a'o hr;refine⟨_,(a'b (a't (a'i (a'y hr.units) a'm (a'n hu (qv 0) a'c (λ_ _=>rfl)) a'f (by walk_at "u")) (a'e (a'g (c'K T.afC ((c'l T).mono (by omega)) (by walk_at "z") (λ_ _ h=>h.1) hr rfl T.afz T.acB (QA.frz (a'a (a'n hu (qv 0) a'c (λ_ _=>rfl)) a'd))))) a'l)
 (a'b (a't (a'i (a'y hr.units) a'm (a'n hu (qv 0) a'c (λ_ _=>rfl)) a'f (by walk_at "u")) (a'e (a'g (c'K T.afL ((c'P T).mono (by omega)) (by walk_at "z") (λ_ _ h=>h.1) hr rfl T.afH T.acR (QA.frz (a'a (a'n hu (qv 0) a'c (λ_ _=>rfl)) (a'a (a'n hu (qv 0) a'c (λ_ _=>rfl)) a'd)))))) a'l)
 (a'b (a't (a'i (a'y hr.units) a'm (a'n hu (qv 0) a'c (λ_ _=>rfl)) a'f (by walk_at "u")) (a'e (a'g (c'K T.afU ((c'r T).mono (by omega)) (by walk_at "z") (λ_ _ h=>h.1) hr rfl T.afQ T.ac3 (QA.frz (a'a (a'n hu (qv 0) a'c (λ_ _=>rfl)) (a'a (a'j ((ih).mono (by omega)) (by walk_at "z") (λ_ _ h=>h.1) hr rfl T.abW T.abU.kp T.abV (QA.frz (a'a (a'n hu (qv 0) a'c (λ_ _=>rfl)) a'd))) a'd)))))) a'l)
 (a'b (a't (a'i (a'y hr.units) a'm (a'n hu (qv 0) a'c (λ_ _=>rfl)) a'f (by walk_at "u")) (a'e (a'g (c'K T.af3 ((c'Q T).mono (by omega)) (by walk_at "z") (λ_ _ h=>h.1) hr rfl T.afZ T.adf (QA.frz (a'a (a'j ((ih).mono (by omega)) (by walk_at "z") (λ_ _ h=>h.1) hr rfl T.abW T.abU.kp T.abV (QA.frz (a'a (a'n hu (qv 0) a'c (λ_ _=>rfl)) a'd))) (a'a (a'j ((ih).mono (by omega)) (by walk_at "z") (λ_ _ h=>h.1) hr rfl T.abW T.abU.kp T.abV (QA.frz (a'a (a'n hu (qv 0) a'c (λ_ _=>rfl)) a'd))) a'd)))))) a'l)
 (a'e (a'g (c'K T.agc ((c's T).mono (by omega)) (by walk_at "z") (λ_ _ h=>h.1) hr rfl T.af8 T.adr (QA.frz (a'a (a'j ((ih).mono (by omega)) (by walk_at "z") (λ_ _ h=>h.1) hr rfl T.abW T.abU.kp T.abV (QA.frz (a'a (a'n hu (qv 0) a'c (λ_ _=>rfl)) a'd))) (a'a (a'j ((ih).mono (by omega)) (by walk_at "z") (λ_ _ h=>h.1) hr rfl T.abW T.abU.kp T.abV (QA.frz (a'a (a'n hu (qv 0) a'c (λ_ _=>rfl)) a'd))) a'd)))))))))),?_⟩
  rintro xs Q' _ ⟨_,t,rfl,hd,q⟩;cases t with
  |num b=>
   rw[show (Enc.t (Tm.num b):Tr)=.tup [.str "number",Enc.t b] from rfl];walk_at "p";exact p'r (Enc.c b) (Enc.h b) ⟨o_o T (.num b),q _⟩
  |edge a n=>
   rw[show (Enc.t (Tm.edge a n):Tr)=.tup [.str "edge",.str a,.str n] from rfl];walk_at "p";rw[if_neg (by walk_at "k")];exact c'n rfl (by intro z;cases z) rfl (by intro z;cases z) ⟨o_o T (.edge a n),q _⟩
  |times b t=>
   rw[show (Enc.t (Tm.times b t):Tr)=.tup [.str "times",Enc.t b,Enc.t t] from rfl];walk_at "p";rw[if_neg (by walk_at "k"),if_neg (by walk_at "k")];refine⟨rfl,t,rfl,Nat.lt_of_succ_lt_succ hd,λρ=>?_⟩;simp only[o_f,m_d];exact c'n (Enc.c b) (Enc.h b) (a'W T t) (c'f T t) ⟨o_o T (.times b t),q _⟩
  |plus a b=>
   have hd:max a.dep b.dep+1<m+1:=hd;rw[show (Enc.t (Tm.plus a b):Tr)=.tup [.str "plus",Enc.t a,Enc.t b] from rfl];walk_at "p";rw[if_neg (by walk_at "k"),if_neg (by walk_at "k"),if_neg (by walk_at "k")];refine⟨rfl,a,rfl,by omega,λρ=>?_⟩;refine⟨rfl,b,rfl,by omega,λρ=>?_⟩;simp only[o_f,m_d];exact c'n (a'W T a) (c'f T a) (a'W T b) (c'f T b) ⟨o_o T (.plus a b),q _⟩
  |minus a b=>
   have hd:max a.dep b.dep+1<m+1:=hd;rw[show (Enc.t (Tm.minus a b):Tr)=.tup [.str "minus",Enc.t a,Enc.t b] from rfl];walk_at "p";rw[if_neg (by walk_at "k"),if_neg (by walk_at "k"),if_neg (by walk_at "k"),if_neg (by walk_at "k")];refine⟨rfl,a,rfl,by omega,λρ=>?_⟩;refine⟨rfl,b,rfl,by omega,λρ=>?_⟩;simp only[o_f,m_d];exact c'n (a'W T a) (c'f T a) (a'W T b) (c'f T b) ⟨o_o T (.minus a b),q _⟩
theorem l'M{q:Rat}(h:nq q):(shw q).length<=14:=by
 have d:∀ n:Nat,n<1000000->(dgs n).length<=6:=λn h=>by
  unfold dgs;rw[List.length_map];exact (Nat.length_toDigits_le_iff (by decide) (by decide)).mpr h
 have d1:=d _ h.1;have d2:=d _ h.2;have d3:(dec q.num).length<=7:=by
  unfold dec;split
  ·rw[List.length_cons];omega
  ·omega
 unfold shw;split
 ·omega
 ·rw[List.length_append,List.length_cons];omega
theorem m'L{q:Rat}(h:nq q):bs q<=20:=by
 have h1:bi q.num<=20:=e'H (by have:=h.1;omega);have h2:bi (q.den:Int)<=20:=e'H (by have:=h.2;omega);unfold bs;exact Nat.max_le.mpr ⟨h1,h2⟩
def amV:PSp:=ai6 1 λxs Q=>∃ q:Rat,xs=[Enc.t q]/\nq q/\Q (.str (tx (shw q)))
theorem d'w(T:Tx K mg){z:Bool}:FnOk P w K mg base CX0 1 T.abD T.abE ["_law_number_here"] (spP K z 0 1 amV):=by
 refine a'v T.abF g'P rfl (by decide) λ_ _ _ _ _ _ hr=>?_
 have hu:=a'o hr;refine⟨_,(a'b (a't (a'i (a'y hr.units) a'm (a'n hu (qv 0) a'c (λ_ _=>rfl)) a'c (by walk_at "u")) (a'e (a'g (b't b'k c'y rfl T.ahL rfl (a'a (a'n hu (qv 0) a'c (λ_ _=>rfl)) a'd)))) a'l)
  (a'e (a'g (a'z (a'z (b't b'k c'y rfl T.ahL rfl (a'a (a'n hu (qv 0) a'c (λ_ _=>rfl)) a'd)) a'f) (b't b'k c'y rfl T.ahL rfl (a'a (a'n hu (qv 0) a'c (λ_ _=>rfl)) a'd)))))),?_⟩
 rintro xs Q' _ ⟨_,q,rfl,h,k⟩;have h1:=m'L h;walk_at "p";have b1:=p'm h1;have b2:=Nat.le_trans (n'j q) h1;have l1:=c'b b1;have l2:=c'b b2;unfold shw at k;split
 ·rename_i c;have c:(q.den:Int)=1:=of_decide_eq_true c;rw[if_pos (by omega)] at k;exact e'Z _ _ (c'N b1 (by decide)) ⟨rfl,k _⟩
 ·rename_i c;have c:¬ (q.den:Int)=1:=λz=>c (decide_eq_true z)
  rw[if_neg (by omega),<- l'A] at k;refine e'Z _ _ (c'N b1 (by decide)) ?_;walk_at "p";rw[q'P,a'p,a'p,b'U];refine⟨by simp only[List.length_singleton];omega,e'Z _ _ (c'N b2 (by decide)) ?_⟩;walk_at "p";rw[b'U,a'p,a'p,List.length_append,List.length_singleton];have k:∀ ρ,Q' (.str (tx (dec q.num++[47]++dec q.den))) ρ:=by rw[show dec q.num++[47]++dec (q.den:Int)=dec q.num++47 :: dec (q.den:Int) by simp];exact k
  exact⟨by omega,k _⟩
def pm:Tm->Bool |.plus _ _=>true |.minus _ _=>true |_=>false
def amW(n:Nat):PSp:=ai6 3 λxs Q=>∃(t:Tm)(d cl:Bool)(e:Int),xs=[Enc.t t,.bl cl,.int e]/\t.dep<n/\t.gd d/\mx t<=2000/\∀ x:Str,Wx cl t x->x.length<=mx t+4->(e<0->x=if cl=true then brk t else txt t)->Q (.str x)
def alp(n:Nat):PSp:=ai6 2 λxs Q=>∃(t:Tm)(d:Bool)(e:Int),xs=[Enc.t t,.int e]/\t.dep<n/\t.gd d/\mx t<=2000/\∀ x:Str,Wx (!pm t) t x->x.length<=mx t->(e<0->x=txt t)->Q (.str x)
def tgs:Tm->Str
 |.num _=> "number" |.edge _ _=> "edge" |.times _ _=> "times" |.plus _ _=> "plus" |.minus _ _=> "minus"
theorem x'C(t:Tm){Q:Tr->Prop}(q:Q (.str (tgs t))):akw (Enc.t t) (.int 0) Q:=by cases t<;>exact q
theorem w'H{neg:Bool}{x:Str}{f:Fl}{ns:List Str}{Q:Tr->Prop}(q:Q (.bl (if neg=true then !decide (x∈ns) else decide (x∈ns)))):wIn neg (.str x) (.lst f (ns.map Tr.str)) Q:=⟨rfl,flat_strs ns,by rw[f'H];exact q⟩
theorem w'I(t:Tm):decide (tgs t∈([("plus":Str),"minus"]:List Str))=pm t:=by
 cases t with
 |num q=>exact (show decide (("number":Str) ∈ ([("plus":Str), "minus"]:List Str)) = false by walk_at "k")
 |edge a n=>exact (show decide (("edge":Str) ∈ ([("plus":Str), "minus"]:List Str)) = false by walk_at "k")
 |times q t=>exact (show decide (("times":Str) ∈ ([("plus":Str), "minus"]:List Str)) = false by walk_at "k")
 |plus a b=>exact (show decide (("plus":Str) ∈ ([("plus":Str), "minus"]:List Str)) = true by walk_at "k")
 |minus a b=>exact (show decide (("minus":Str) ∈ ([("plus":Str), "minus"]:List Str)) = true by walk_at "k")
theorem b'G(T:Tx K mg)(n:Nat)(iht:FnOk P w K mg base CX0 (2*n+3) T.abN T.abO ["_law_tree_here","_law_extra"] (spP K true 0 2 (alp n))):FnOk P w K mg base CX0 (2*n+4) T.abI T.abJ ["_law_tree_here","_law_closing","_law_extra"] (spP K true 0 3 (amW n)):=by
 refine a'v T.abK ajn rfl (by decide) λ_ _ _ _ _ _ hr=>?_
 have hu:=a'o hr;refine⟨_,(a'b (a'k (i:=3) ajn.nd (by decide) rfl (Or.inl rfl) (a'j ((iht).mono (by omega)) (by walk_at "z") (λ_ _ h=>h.1) hr rfl T.abR T.abP.kp T.abQ (QA.frz (a'a (qv 0) (a'a (qv 2) a'd)))))
  (a'b (a't (QW.t (b's (QW.t (c'h (b'c (qv 1)) (b'K (a'i (i'G hu) e'm (a'n hu (qv 0) a'c (λ_ _=>rfl)) (a'U (a'a a'f (a'a a'f a'd))) (by walk_at "u"))))) (b'u (QW.t (c'h (a'i l'U i'D (qv 2) a'c (by walk_at "u")) (b'K (a'i (a'y hr.units) a'm (a'B (qv 2) a'c) a'c (by walk_at "u")))))))) (a'e (a'g (a'z (a'z a'f (qv 3)) a'f))) a'l)
  (a'e (a'g (qv 3))))),?_⟩
 rintro xs Q' _ ⟨_,t,d,cl,e,rfl,hd,hg,hm,q⟩;walk_at "p";refine⟨rfl,t,d,e,rfl,hd,hg,hm,λx hx hl he ρ=>⟨rfl,?_⟩⟩;walk_at "p";have l1:(Str.ofString "( ").length=2:=by walk_at "k"
 have l2:(Str.ofString " )").length=2:=by walk_at "k"
 have par:(e<0->cl=true/\pm t=true)->(Str.ofString "( ").length+x.length<=1000000/\(Str.ofString "( "++x).length+(Str.ofString " )").length<=1000000/\Q' (.str (Str.ofString "( "++x++Str.ofString " )")) [Enc.t t,Tr.bl cl,Tr.int e,.str x]:=λh=>by
  rw[a'h];refine⟨by omega,by omega,q _ (w'x cl hx.low) (by rw[a'h,a'h];omega) (λz=>?_) _⟩;rw[if_pos (h z).1,he z];have:=(h z).2;cases t with
  |plus a b=>rfl
  |minus a b=>rfl
  |_=>cases this
 have pla:(cl=true->pm t=false)->Q' (.str x) [Enc.t t,Tr.bl cl,Tr.int e,.str x]:=λh=>by
  cases cl with
  |false=>exact q _ hx.low (by omega) (λz=>he z) _
  |true=>
   have hp:=h rfl;rw[hp] at hx;refine q _ hx (by omega) (λz=>?_) _;rw[he z,if_pos rfl];cases t with
   |plus a b=>cases hp
   |minus a b=>cases hp
   |_=>rfl
 have rest:(cl=true->pm t=false)->(if decide (0<=e)=true then 0<(5:Int)/\(if decide (e % 5=1)=true then (Str.ofString "( ").length+x.length<=1000000/\(Str.ofString "( "++x).length+(Str.ofString " )").length<=1000000/\Q' (.str (Str.ofString "( "++x++Str.ofString " )")) [Enc.t t,Tr.bl cl,Tr.int e,.str x] else Q' (.str x) [Enc.t t,Tr.bl cl,Tr.int e,.str x]) else Q' (.str x) [Enc.t t,Tr.bl cl,Tr.int e,.str x]):=λh=>by
  split
  ·rename_i c;have c:=of_decide_eq_true c;refine⟨by decide,?_⟩;split
   ·exact par λz=>absurd z (by omega)
   ·exact pla h
  ·exact pla h
 split
 ·rename_i c;refine x'C t (w'H (ns:=["plus","minus"]) ?_);rw[if_neg (by decide),w'I];walk_at "p";split
  ·rename_i c2;exact par λ_=>⟨c,c2⟩
  ·rename_i c2;exact rest λ_=>by simpa using c2
 ·rename_i c;exact rest λz=>absurd z c
theorem a'Y(T:Tx K mg):∀ n,FnOk P w K mg base CX0 (2*n+3) T.abN T.abO ["_law_tree_here","_law_extra"] (spP K true 0 2 (alp n))
 |0=>by
  refine a'v T.abP ah2 rfl (by decide) λ_ _ _ _ _ _ hr=>⟨_,b'I,?_⟩
  rintro xs Q' _ ⟨_,t,d,e,rfl,hd,_⟩;exact absurd hd (Nat.not_lt_zero _)
 |n + 1=>by
  have ihc:=b'G T n (a'Y T n);refine a'v T.abP ah2 rfl (by decide) λ_ _ _ _ _ _ hr=>?_
  have hu:=a'o hr;refine⟨_,(a'b (a'k (i:=2) ah2.nd (by decide) rfl (Or.inl rfl) (d'G a'c))
 (a'b (a'k (i:=3) ah2.nd (by decide) rfl (Or.inl rfl) (d'G a'c))
 (a'b (a't (a'i l'U i'D (qv 1) a'c (by walk_at "u")) (a'b (a'k (i:=2) ah2.nd (by decide) rfl (Or.inl rfl) (a'R (a'B (a'z (e'N (qv 1) a'c) a'c) a'c) a'c))
 (a'e (a'k (i:=3) ah2.nd (by decide) rfl (Or.inl rfl) (a'R (a'B (a'z (e'N (qv 1) a'c) a'c) a'c) a'c)))) a'l)
 (a'b (a't (a'i (a'y hr.units) a'm (a'n hu (qv 0) a'c (λ_ _=>rfl)) a'f (by walk_at "u")) (a'e (a'g (a'j ((d'w T).mono (by omega)) (by walk_at "z") (λ_ _ h=>h.1) hr rfl T.abH T.abF.kp T.abG (QA.frz (a'a (a'n hu (qv 0) a'c (λ_ _=>rfl)) a'd))))) a'l)
 (a'b (a't (a'i (a'y hr.units) a'm (a'n hu (qv 0) a'c (λ_ _=>rfl)) a'f (by walk_at "u")) (a'e (a'g (a'z (a'z (a'n hu (qv 0) a'c (λ_ _=>rfl)) a'f) (a'n hu (qv 0) a'c (λ_ _=>rfl))))) a'l)
 (a'b (a't (a'i (a'y hr.units) a'm (a'n hu (qv 0) a'c (λ_ _=>rfl)) a'f (by walk_at "u")) (a'e (a'g (a'z (a'z (a'j ((d'w T).mono (by omega)) (by walk_at "z") (λ_ _ h=>h.1) hr rfl T.abH T.abF.kp T.abG (QA.frz (a'a (a'n hu (qv 0) a'c (λ_ _=>rfl)) a'd))) a'f) (a'j ((ihc).mono (by omega)) (by walk_at "z") (λ_ _ h=>h.1) hr rfl T.abM T.abK.kp T.abL (QA.frz (a'a (a'n hu (qv 0) a'c (λ_ _=>rfl)) (a'a b'T (a'a (qv 2) a'd)))))))) a'l)
 (a'b (a'k (i:=4) ah2.nd (by decide) rfl (Or.inl rfl) (a'n hu (a'U (a'a a'f (a'a a'f a'd))) (b't n'q q's rfl T.ahJ rfl (a'a (b'f (a'y hr.units) a'm (a'n hu (qv 0) a'c (λ_ _=>rfl)) a'f (by walk_at "u")) a'd)) (λ_ _=>rfl)))
 (a'e (a'g (a'z (a'z (a'j ((ihc).mono (by omega)) (by walk_at "z") (λ_ _ h=>h.1) hr rfl T.abM T.abK.kp T.abL (QA.frz (a'a (a'n hu (qv 0) a'c (λ_ _=>rfl)) (a'a b'T (a'a (qv 2) a'd))))) (qv 4)) (a'j ((ihc).mono (by omega)) (by walk_at "z") (λ_ _ h=>h.1) hr rfl T.abM T.abK.kp T.abL (QA.frz (a'a (a'n hu (qv 0) a'c (λ_ _=>rfl)) (a'a b'T (a'a (qv 3) a'd))))))))))))))),?_⟩
  rintro xs Q' _ ⟨_,t,d,e,rfl,hd,hg,hm,q⟩;walk_at "q";refine v'R (λρ=>∃ o1 o2:Int,ρ=[Enc.t t,.int e,.int o1,.int o2,.hole]/\(e<0->o1<0/\o2<0)) (λN hN=>?_) ?_
  ·walk_at "p";split
   ·rename_i c;have c:=of_decide_eq_true c;exact⟨cmr (by decide),by decide,⟨by decide,a'C (by decide)⟩,cmr (by decide),by decide,⟨by decide,a'C (by decide)⟩,hN _ ⟨_,_,rfl,λz=>absurd z (by omega)⟩⟩
   ·exact hN _ ⟨_,_,rfl,λ_=>⟨by decide,by decide⟩⟩
  rintro ρ ⟨o1,o2,rfl,ho⟩;have l1:(Str.ofString " of ").length=4:=by walk_at "k"
  have l2:(Str.ofString " times ").length=7:=by walk_at "k"
  have l3:(Str.ofString " and ").length=5:=by walk_at "k"
  have l4:(Str.ofString " less ").length=6:=by walk_at "k"
  cases t with
  |num b=>
   rw[show (Enc.t (Tm.num b):Tr)=.tup [.str "number",Enc.t b] from rfl];walk_at "p";have l:=l'M (q:=b) hg;exact⟨rfl,b,rfl,hg,λρ=>⟨rfl,q _ (w'u _ b) (by rw[a'p];show _<=50;omega) (λ_=>rfl) _⟩⟩
  |edge a m=>
   rw[show (Enc.t (Tm.edge a m):Tr)=.tup [.str "edge",.str a,.str m] from rfl];walk_at "p";rw[if_neg (by walk_at "k")];have k1:=(p'w hg.1).2;have k2:m.length<=8:=by
    have h:=hg.2.2.1;unfold akx at h;simp only[Bool.and_eq_true,decide_eq_true_eq] at h;exact h.2.1
   have k3:(a++Str.ofString " of "++m).length<=50:=by rw[a'h,a'h];omega
   exact⟨by omega,by rw[a'h];omega,q _ (u'e _ hg) k3 (λ_=>rfl) _⟩
  |times b t=>
   have hd:t.dep+1<n+1:=hd;have hm:mx t+50<=2000:=hm;rw[show (Enc.t (Tm.times b t):Tr)=.tup [.str "times",Enc.t b,Enc.t t] from rfl];walk_at "p";rw[if_neg (by walk_at "k"),if_neg (by walk_at "k")];have l:=l'M (q:=b) hg.1;refine⟨rfl,b,rfl,hg.1,λρ=>?_⟩;walk_at "p";rw[a'p];refine⟨by omega,rfl,t,d,true,o1,rfl,by omega,hg.2,by omega,λx hx hl he ρ=>?_⟩;walk_at "p";have k:(tx (shw b)++Str.ofString " times "++x).length<=mx t+50:=by rw[a'h,a'h,a'p];omega
   refine⟨by rw[a'h,a'p];omega,q _ (q'T _ b hx) k (λz=>?_) _⟩;rw[he (ho z).1];rfl
  |plus a b=>
   have hd:max a.dep b.dep+1<n+1:=hd;have hm:mx a+mx b+50<=2000:=hm;rw[show (Enc.t (Tm.plus a b):Tr)=.tup [.str "plus",Enc.t a,Enc.t b] from rfl];walk_at "p";rw[if_neg (by walk_at "k"),if_neg (by walk_at "k"),if_neg (by walk_at "k")];rw[if_neg (by walk_at "k"),at0];show _/\_;walk_at "p";refine⟨rfl,a,d,false,o1,rfl,by omega,hg.1,by omega,λx hx hl he ρ=>?_⟩;walk_at "p";refine⟨by omega,rfl,b,d,true,o2,rfl,by omega,hg.2,by omega,λy hy hk hf ρ=>?_⟩;walk_at "p";have k:(x++Str.ofString " and "++y).length<=mx a+mx b+50:=by rw[a'h,a'h];omega
   refine⟨by rw[a'h];omega,q _ (u'f hx hy) k (λz=>?_) _⟩;rw[he (ho z).1,hf (ho z).2];rfl
  |minus a b=>
   have hd:max a.dep b.dep+1<n+1:=hd;have hm:mx a+mx b+50<=2000:=hm;rw[show (Enc.t (Tm.minus a b):Tr)=.tup [.str "minus",Enc.t a,Enc.t b] from rfl];walk_at "p";rw[if_neg (by walk_at "k"),if_neg (by walk_at "k"),if_neg (by walk_at "k")];refine⟨rfl,a,d,false,o1,rfl,by omega,hg.1,by omega,λx hx hl he ρ=>?_⟩;walk_at "p";refine⟨by omega,rfl,b,d,true,o2,rfl,by omega,hg.2,by omega,λy hy hk hf ρ=>?_⟩;walk_at "p";have k:(x++Str.ofString " less "++y).length<=mx a+mx b+50:=by rw[a'h,a'h];omega
   refine⟨by rw[a'h];omega,q _ (q'U hx hy) k (λz=>?_) _⟩;rw[he (ho z).1,hf (ho z).2];rfl
theorem p'y(a:Rat){Q:Tr->Prop}(q:Q (.bl true)):wEq false (Enc.t a) (Enc.t a) Q:=by
 refine .inr ⟨true,?_,show (1:Nat)<=60 by decide,Nat.le_refl 1,q⟩;show (if 2=2 then (some (decide (a.num=a.num))).bind λx=>((some (decide ((a.den:Int)=a.den))).bind λy=>(some true).bind λz=>some (y && z)).bind λy=>some (x && y) else none)=_;rw[if_pos rfl,decide_eq_true rfl,decide_eq_true rfl];rfl
def alZ(T:Tx K mg)(n:Nat):PSp:=ai6 2 λxs Q=>∃ t:Tm,xs=[tmT T t,Enc.t t]/\t.dep<n/\Q (.bl true)
theorem c'g(T:Tx K mg):∀ n,FnOk P w K mg base CX0 (n+3) T.abX T.abY ["_law_term_here","_law_tree_here"] (spP K true 0 2 (alZ T n))
 |0=>by
  refine a'v T.abZ f'j rfl (by decide) λ_ _ _ _ _ _ hr=>⟨_,b'I,?_⟩
  rintro xs Q' _ ⟨_,t,rfl,hd,_⟩;exact absurd hd (Nat.not_lt_zero _)
 |n + 1=>by
  have ih:=c'g T n;refine a'v T.abZ f'j rfl (by decide) λ_ _ _ _ _ _ hr=>?_
  have hu:=a'o hr;refine⟨_,(a'b (a't (a'i (a'y hr.units) a'm (a'n hu (qv 1) a'c (λ_ _=>rfl)) a'f (by walk_at "u")) (a'e (a'g (c'e (c'Z K rfl rfl T.ahD rfl (a'a (qv 0) (a'a (d'd rfl T.afz) a'd))) (d'H (b'f (a'y hr.units) a'm (a'r K rfl (qv 0)) (a'n hu (qv 1) a'c (λ_ _=>rfl)) (by walk_at "u")))))) a'l)
 (a'b (a't (a'i (a'y hr.units) a'm (a'n hu (qv 1) a'c (λ_ _=>rfl)) a'f (by walk_at "u")) (a'e (a'g (c'e (c'Z K rfl rfl T.ahD rfl (a'a (qv 0) (a'a (d'd rfl T.afH) a'd))) (c'e (b'f (a'y hr.units) a'm (a'r K rfl (qv 0)) (a'n hu (qv 1) a'c (λ_ _=>rfl)) (by walk_at "u")) (d'H (b'f (a'y hr.units) a'm (a'r K rfl (qv 0)) (a'n hu (qv 1) a'c (λ_ _=>rfl)) (by walk_at "u"))))))) a'l)
 (a'b (a't (a'i (a'y hr.units) a'm (a'n hu (qv 1) a'c (λ_ _=>rfl)) a'f (by walk_at "u")) (a'e (a'g (c'e (c'Z K rfl rfl T.ahD rfl (a'a (qv 0) (a'a (d'd rfl T.afQ) a'd))) (c'e (b'f (a'y hr.units) a'm (a'r K rfl (qv 0)) (a'n hu (qv 1) a'c (λ_ _=>rfl)) (by walk_at "u")) (d'H (a'j ((ih).mono (by omega)) (by walk_at "z") (λ_ _ h=>h.1) hr rfl T.ab1 T.abZ.kp T.ab0 (QA.frz (a'a (a'r K rfl (qv 0)) (a'a (a'n hu (qv 1) a'c (λ_ _=>rfl)) a'd))))))))) a'l)
 (a'b (a't (QW.t (b's (QW.t (c'h (a'i (a'y hr.units) a'm (a'n hu (qv 1) a'c (λ_ _=>rfl)) a'f (by walk_at "u")) (b'K (b'r (b'c (c'Z K rfl rfl T.ahD rfl (a'a (qv 0) (a'a (d'd rfl T.afZ) a'd)))))))) (b'u (QW.t (c'h (a'i (a'y hr.units) a'm (a'n hu (qv 1) a'c (λ_ _=>rfl)) a'f (by walk_at "u")) (b'K (b'r (b'c (c'Z K rfl rfl T.ahD rfl (a'a (qv 0) (a'a (d'd rfl T.af8) a'd))))))))))) (a'e (a'g b'T)) a'l)
 (a'e (a'g (c'e (a'j ((ih).mono (by omega)) (by walk_at "z") (λ_ _ h=>h.1) hr rfl T.ab1 T.abZ.kp T.ab0 (QA.frz (a'a (a'r K rfl (qv 0)) (a'a (a'n hu (qv 1) a'c (λ_ _=>rfl)) a'd)))) (d'H (a'j ((ih).mono (by omega)) (by walk_at "z") (λ_ _ h=>h.1) hr rfl T.ab1 T.abZ.kp T.ab0 (QA.frz (a'a (a'r K rfl (qv 0)) (a'a (a'n hu (qv 1) a'c (λ_ _=>rfl)) a'd)))))))))))),?_⟩
  rintro xs Q' _ ⟨_,t,rfl,hd,q⟩;cases t with
  |num b=>
   rw[show (Enc.t (Tm.num b):Tr)=.tup [.str "number",Enc.t b] from rfl,show tmT T (.num b)=.ins .f T.afy [("number",Enc.t b)] from rfl];walk_at "p";refine⟨true,T.ag9,T.ahh,?_⟩;rw[if_pos rfl];refine b'B (g:="name") T.afA T.afB ?_;exact p'y b ⟨rfl,q _⟩
  |edge a m=>
   rw[show (Enc.t (Tm.edge a m):Tr)=.tup [.str "edge",.str a,.str m] from rfl,show tmT T (.edge a m)=.ins .f T.afG [("word",.str a),("name",.str m)] from rfl];walk_at "p";rw[if_neg (by walk_at "k")];refine⟨true,T.aha,T.ahi,?_⟩;rw[if_pos rfl];refine b'B (g:="name") T.afI T.afJ ?_;walk_at "p";refine b'F T.afI T.afK (by walk_at "k") ?_;walk_at "p";exact q _
  |times b t=>
   have hd:t.dep+1<n+1:=hd;rw[show (Enc.t (Tm.times b t):Tr)=.tup [.str "times",Enc.t b,Enc.t t] from rfl,show tmT T (.times b t)=.ins .f T.afP [("number",Enc.t b),("inner",tmT T t)] from rfl];walk_at "p";rw[if_neg (by walk_at "k"),if_neg (by walk_at "k")];refine⟨true,T.ahb,T.ahj,?_⟩;rw[if_pos rfl];refine b'B (g:="name") T.afR T.afS (p'y b ?_);walk_at "p";refine b'F T.afR T.afT (by walk_at "k") ?_;simp only[m_f,m_d];exact⟨rfl,t,rfl,by omega,λρ=>⟨rfl,q _⟩⟩
  |plus a b=>
   have hd:max a.dep b.dep+1<n+1:=hd;rw[show (Enc.t (Tm.plus a b):Tr)=.tup [.str "plus",Enc.t a,Enc.t b] from rfl,show tmT T (.plus a b)=.ins .f T.afY [("one",tmT T a),("other",tmT T b)] from rfl];walk_at "p";rw[if_neg (by walk_at "k"),if_neg (by walk_at "k"),if_neg (by walk_at "k")];refine⟨true,T.ahc,T.ahk,?_⟩;rw[if_neg (by decide),if_neg (by walk_at "k")];refine b'B (g:="name") T.af0 T.af1 ?_;simp only[m_f,m_d];refine⟨rfl,a,rfl,by omega,λρ=>?_⟩;walk_at "p";refine b'F T.af0 T.af2 (by walk_at "k") ?_;simp only[m_f,m_d];exact⟨rfl,b,rfl,by omega,λρ=>⟨rfl,q _⟩⟩
  |minus a b=>
   have hd:max a.dep b.dep+1<n+1:=hd;rw[show (Enc.t (Tm.minus a b):Tr)=.tup [.str "minus",Enc.t a,Enc.t b] from rfl,show tmT T (.minus a b)=.ins .f T.af7 [("one",tmT T a),("other",tmT T b)] from rfl];walk_at "p";rw[if_neg (by walk_at "k"),if_neg (by walk_at "k"),if_neg (by walk_at "k")];rw[if_neg (by walk_at "k")];refine⟨true,T.ahd,T.ahl,?_⟩;rw[if_neg (by decide)];refine b'B (g:="name") T.af9 T.aga ?_;simp only[m_f,m_d];refine⟨rfl,a,rfl,by omega,λρ=>?_⟩;walk_at "p";refine b'F T.af9 T.agb (by walk_at "k") ?_;simp only[m_f,m_d];exact⟨rfl,b,rfl,by omega,λρ=>⟨rfl,q _⟩⟩
def al0(T:Tx K mg):PSp:=ai6 5 λxs Q=>∃ x:Wi,xs=[.int x.k,tmT T x.a,tmT T x.b,.int x.r,.int x.v]/\x.k<3/\x.mk'/\Q (wiT T .o x)
theorem k'd(T:Tx K mg):FnOk P w K mg base CX0 80 T.ab2 T.ab3 ["_law_kind","_law_near","_law_far","_law_rank","_law_weight"] (spP K true 0 5 (al0 T)):=by
 refine a'v T.ab4 j'Z rfl (by decide) λ_ _ _ _ _ _ hr=>?_
 have hu:=a'o hr;refine⟨_,(a'b (a't (a'i (a'y hr.units) a'm (qv 0) a'c (by walk_at "u")) (a'e (a'g (b'M T.agn ((a'S T).mono (by omega)) (a'q i'v) (by walk_at "z") (λ_ _ _ h=>h.1) hr rfl T.agh T.adE (QA.frz (a'a (qv 1) (a'a (qv 2) (a'a (qv 3) (a'a (qv 4) a'd)))))))) a'l)
  (a'b (a't (a'i (a'y hr.units) a'm (qv 0) a'c (by walk_at "u")) (a'e (a'g (b'M T.agx ((a'S T).mono (by omega)) (a'q i'v) (by walk_at "z") (λ_ _ _ h=>h.1) hr rfl T.agr T.adE (QA.frz (a'a (qv 1) (a'a (qv 2) (a'a (qv 3) (a'a (qv 4) a'd)))))))) a'l)
  (a'e (a'g (b'M T.agH ((a'S T).mono (by omega)) (a'q i'v) (by walk_at "z") (λ_ _ _ h=>h.1) hr rfl T.agB T.adE (QA.frz (a'a (qv 1) (a'a (qv 2) (a'a (qv 3) (a'a (qv 4) a'd)))))))))),?_⟩
 rintro xs Q' _ ⟨_,x,rfl,hk,⟨g1,g2,g3,g4⟩,q⟩;obtain⟨k,a,b,r,v⟩:=x;simp only at g1 g2 g3 g4 hk q ⊢;walk_at "p"
 try simp only[m_l,m_v,m_d,m_f]
 have:k=0\/k=1\/k=2:=by omega
 rcases this with rfl |rfl |rfl
 ·rw[if_pos (by decide)];exact d't T (.inl rfl) g1 g2 g3 g4 ⟨by simp only[i_o,nolf,m_o,b'm,Bool.and_self],q _⟩
 ·rw[if_neg (by decide),if_pos (by decide)];exact d't T (.inr (.inl rfl)) g1 g2 g3 g4 ⟨by simp only[i_o,nolf,m_o,b'm,Bool.and_self],q _⟩
 ·rw[if_neg (by decide),if_neg (by decide)];exact d't T (.inr (.inr rfl)) g1 g2 g3 g4 ⟨by simp only[i_o,nolf,m_o,b'm,Bool.and_self],q _⟩
def al3(T:Tx K mg):PSp:=ai6 2 λxs Q=>∃(f:Fl)(x:Wi),xs=[wiT T f x,.int x.k]/\x.k<3/\Q (.bl true)
theorem h'f(T:Tx K mg){z:Bool}:FnOk P w K mg base CX0 2 T.ab7 T.ab8 ["_law_wish_here","_law_kind"] (spP K z 0 2 (al3 T)):=by
 refine a'v T.ab9 ai7 rfl (by decide) λ_ _ _ _ _ _ hr=>?_
 have hu:=a'o hr;refine⟨_,(a'b (a'k (i:=2) ai7.nd (by decide) rfl (Or.inl rfl) (a'U (a'a (c'Z K rfl rfl T.ahD rfl (a'a (qv 0) (a'a (d'd rfl T.agh) a'd))) (a'a (c'Z K rfl rfl T.ahD rfl (a'a (qv 0) (a'a (d'd rfl T.agr) a'd))) (a'a (c'Z K rfl rfl T.ahD rfl (a'a (qv 0) (a'a (d'd rfl T.agB) a'd))) a'd)))))
  (a'e (a'g (b'f (a'y hr.units) a'm (qv 2) (e'o (N:=["_law_k","_law_kind"]) (ix:=[none,some 1]) rfl (r'f rfl T.ahC (a'a a'c a'd)) (i'K (i:=0) (by decide) rfl) (λ_ _ _ _ _=>d'm) (λ_ _ _ _ _=>(b'f (a'y hr.units) a'm (qv 1) (qv 0) (by walk_at "u"))) ⟨rfl,rfl,rfl,True.intro⟩) (by walk_at "u"))))),?_⟩
 rintro xs Q' _ ⟨_,f,x,rfl,hk,q⟩;walk_at "p";simp only[q'R,j'E,q'S];obtain⟨k,a,b,r,v⟩:=x;simp only at hk ⊢;have fin:∀(ρ:List Tr)(k:Nat)(x y z:Bool),x=decide ((k:Int)=0)->y=decide ((k:Int)=1)->z=decide ((k:Int)=2)->(nlt (Tr.bl x) && (nlt (Tr.bl y) && (nlt (Tr.bl z) && true)))=true/\-1000000<=(3:Int)/\(3:Int)<=1000000/\CLoop (List.map (λ(i:Nat)=>Tr.int (i:Int)) (List.range (Int.toNat 3))) (pgN 0) amd (p2 (wEq false) (al7 1) (al7 0)) [Tr.hole,Tr.int (k:Int)] λl=>wEq false (Tr.lst Fl.f [Pu.frz (.bl x),Pu.frz (.bl y),Pu.frz (.bl z)]) l λt=>nol t=true/\Q' t ρ:=λρ k x y z hx hy hz=>by
  refine⟨rfl,by decide,by decide,?_⟩;refine CLoop.map (List.range (Int.toNat 3)) _ (λi:Nat=>decide ((k:Int)=i)) (by decide) (λi hi R hR=>?_) ?_
  ·walk_at "p";exact hR
  refine .inr ⟨true,?_,by show (1:Nat)<=60;decide,by show (1:Nat)<=1;decide,rfl,q _⟩;show eqd (.lst .f [.bl x,.bl y,.bl z]) (.lst .o [.bl (decide ((k:Int)=((0:Nat):Int))),.bl (decide ((k:Int)=((1:Nat):Int))),.bl (decide ((k:Int)=((2:Nat):Int)))])=some true;rw[hx,hy,hz];simp[eqd,eqds]
 have:k=0\/k=1\/k=2:=by omega
 rcases this with rfl |rfl |rfl
 ·refine⟨true,T.ahe,T.ahm,false,T.ahe,T.ahn,false,T.ahe,T.aho,?_⟩;exact fin _ 0 true false false rfl rfl rfl
 ·refine⟨false,T.ahf,T.ahp,true,T.ahf,T.ahq,false,T.ahf,T.ahr,?_⟩;exact fin _ 1 false true false rfl rfl rfl
 ·refine⟨false,T.ahg,T.ahs,false,T.ahg,T.aht,true,T.ahg,T.ahu,?_⟩;exact fin _ 2 false false true rfl rfl rfl
def al4:PSp:=ai6 2 λxs Q=>∃ r v:Int,xs=[.int r,.int v]/\0<=r/\r<5/\1<=v/\v<=1000000/\Q (.str (tal r v))
theorem f'm(T:Tx K mg){z:Bool}:FnOk P w K mg base CX0 1 T.acd T.ace ["_law_rank","_law_weight"] (spP K z 0 2 al4):=by
 refine a'v T.acf aji rfl (by decide) λ_ _ _ _ _ _ hr=>?_
 have hu:=a'o hr;refine⟨_,(a'b (a't (a'i (a'y hr.units) a'm (qv 0) a'c (by walk_at "u")) (a'e (a'g a'f)) a'l)
  (a'b (a'k (i:=2) aji.nd (by decide) rfl (Or.inl rfl) (a'z a'f (a'n hu (a'U (a'a a'f (a'a a'f (a'a a'f (a'a a'f a'd))))) (i'b (qv 0) a'c) (λ_ _=>rfl))))
  (a'b (a't (a'i d'F b'S (qv 1) a'c (by walk_at "u")) (a'e (a'k (i:=2) aji.nd (by decide) rfl (Or.inl rfl) (a'z (a'z (qv 2) a'f) (b't b'k c'y rfl T.ahL rfl (a'a (qv 1) a'd))))) a'l)
  (a'e (a'g (qv 2)))))),?_⟩
 rintro xs Q' _ ⟨_,r,v,rfl,r0,r1,v0,v1,q⟩;walk_at "p";by_cases c:r=0
 ·rw[if_pos (decide_eq_true c)];subst c;exact q _
 rw[if_neg (λz=>c (of_decide_eq_true z))];have hr:∃ R:Str,rnk[r.toNat]?=some R/\atI [Tr.str (Str.ofString "hand"),Tr.str (Str.ofString "strong"),Tr.str (Str.ofString "fair"),Tr.str (Str.ofString "faint")] (r - 1)=some (.str R)/\R.length<=6:=by
  have:r=1\/r=2\/r=3\/r=4:=by omega
  rcases this with rfl |rfl |rfl |rfl
  ·exact⟨"hand",rfl,rfl,by decide⟩
  ·exact⟨"strong",rfl,rfl,by decide⟩
  ·exact⟨"fair",rfl,rfl,by decide⟩
  ·exact⟨"faint",rfl,rfl,by decide⟩
 obtain⟨R,e2,e3,e4⟩:=hr;rw[e3,g'd];walk_at "p";have e5:(Str.ofString " by ").length=4:=by walk_at "k"
 have e6:(Str.ofString " ").length=1:=by walk_at "k"
 unfold tal at q;rw[if_neg c,e2] at q;simp only[Option.getD_some] at q;have hb:bi v<=20:=e'H (by omega);have lw:(dec v).length<=30:=Nat.le_trans (c'b hb) (by decide);refine⟨by omega,?_⟩;split
 ·rename_i d;have d:=of_decide_eq_true d;rw[if_neg (by omega)] at q;refine⟨by rw[a'h];omega,e'Z _ _ (c'N hb (by decide)) ?_⟩;walk_at "p";exact⟨by rw[a'h,a'h,a'p];omega,q _⟩
 ·rename_i d;have d:¬ 1<v:=λz=>d (decide_eq_true z)
  rw[if_pos (by omega)] at q;exact q _
structure Rdy(y:Wi)(d:Bool):Prop where
 ok:y.ok
 mk2:y.mk'
 ga:y.a.gd d
 gb:y.b.gd d
 hv:y.r=0->y.v=1
 da:y.a.dep<15
 db:y.b.dep<15
theorem x'D(T:Tx K mg)(x:Wi):nlt (wiT T .o x)=true:=by simp only[wiT,i_t,nltf,m_t,e'T,Bool.and_self]
theorem x'E(T:Tx K mg)(x:Wi):Pu.frz (wiT T .o x)=wiT T .f x:=by simp only[wiT,i_f,frzf,m_f,c'z]
theorem x'o(T:Tx K mg)(x:Wi):Pu.frz (wiT T .f x)=wiT T .f x:=by simp only[wiT,q'K,i_f,frzf,m_f,c'z]
def al5(T:Tx K mg):PSp:=ai6 6 λxs Q=>∃(y:Wi)(d:Bool)(x z:Str),xs=[.str (x++" "++vrb y.k++" "++z++tal y.r y.v),.int y.k,.lst .f [Enc.t y.a,Enc.t y.b],.int y.r,.int y.v,.str (wtx y)]/\Rdy y d/\Wx false y.a x/\Wx false y.b z/\(x++" "++vrb y.k++" "++z++tal y.r y.v).length<=20000/\Q (.bl true)
theorem f'n(T:Tx K mg):FnOk P w K mg base CX0 150 T.aci T.acj ["_law_text_here","_law_kind","_law_trees","_law_rank","_law_weight","_law_own"] (spP K true 0 6 (al5 T)):=by
 refine a'v T.ack aiR rfl (by decide) λ_ _ _ _ _ _ hr=>?_
 have hu:=a'o hr;refine⟨_,(a'b (a'k (i:=6) aiR.nd (by decide) rfl (Or.inl rfl) c'X)
  (a'b (r'i (pe:=λq=>aj0 q _ _) rfl rfl rfl T.afo (i'L (i:=6) (by decide)) (λpn xe te h=>e'b (i:=6) aiR.nd rfl (Or.inl rfl) h) (λpn xe R hx q=>(e'P ((j'P T).mono (by omega)) hx (by walk_at "z") (λ_ _ _ h=>h.1) hr rfl T.aaX T.aaV.kp T.aaW (QA.frz (a'a (qv 0) a'd)))) (λv=>(a'e (a'k (i:=6) aiR.nd (by decide) rfl (Or.inl rfl) c'X))))
  (a'b (a't (a'i d'F b'S (a'V b'j a'P rfl T.ahB rfl (a'a (e'W (qv 0) a'f ⟨rfl,rfl,rfl,rfl⟩) a'd)) a'c (by walk_at "u")) (a'e (a'g (b'f i'M i'N (qv 6) c'X (by walk_at "u")))) a'l)
  (a'b (a't (QW.t (b's (a'i i'M i'N (qv 6) c'X (by walk_at "u")) (b's (b'r (b'c (a'j ((h'f T).mono (by omega)) (by walk_at "z") (λ_ _ h=>h.1) hr rfl T.acb T.ab9.kp T.aca (QA.frz (a'a (qv 6) (a'a (qv 1) a'd)))))) (b's (a'i (d'I hr.units) b'z (a'r K rfl (qv 6)) (qv 3) (by walk_at "u")) (b'u (a'i (d'I hr.units) b'z (a'r K rfl (qv 6)) (qv 4) (by walk_at "u"))))))) (a'e (a'g b'T)) a'l)
  (a'e (a'g (c'e (a'j ((c'g T 15).mono (by omega)) (by walk_at "z") (λ_ _ h=>h.1) hr rfl T.ab1 T.abZ.kp T.ab0 (QA.frz (a'a (a'r K rfl (qv 6)) (a'a (a'n hu (qv 2) a'c (λ_ _=>rfl)) a'd)))) (c'e (a'j ((c'g T 15).mono (by omega)) (by walk_at "z") (λ_ _ h=>h.1) hr rfl T.ab1 T.abZ.kp T.ab0 (QA.frz (a'a (a'r K rfl (qv 6)) (a'a (a'n hu (qv 2) a'c (λ_ _=>rfl)) a'd)))) (d'H (b'f (a'y hr.units) a'm (a'D ((λC g d=>MOkA.mono (j'F T C g d) (by omega))) (by walk_at "z") (λ_ _ _ h=>h.1) hr (qv 6)) (qv 5) (by walk_at "u"))))))))))),?_⟩
 rintro xs Q' _ ⟨_,y,d,x,z,rfl,hy,hx,hz,hl,q⟩;obtain⟨⟨k1,k2,k3,k4,k5,k6,k7,k8,k9,k10,k11⟩,hm,ga,gb,hv,da,db⟩:=hy;have ok:y.ok:=⟨k1,k2,k3,k4,k5,k6,k7,k8,k9,k10,k11⟩;walk_at "q";have fil:=w'B hx hz ga gb k1 k8 k9 k10 k11 hv;generalize x++Str.ofString " "++vrb y.k++Str.ofString " "++z++tal y.r y.v=X at hl fil ⊢;have wl:=h'b X;refine⟨rfl,X,rfl,hl,λh6=>⟨?_,?_⟩,λh6=>?_⟩
 ·exact T.afx
 ·walk_at "p";rw[j'H,b'Z,show (ahO 32 X.cps.toList).map tx=wds X from rfl];refine⟨rfl,by omega,by omega,?_⟩;rw[if_pos (decide_eq_true (by omega))];exact⟨rfl,q _⟩
 ·obtain⟨p1,p3,p4,p5,hf⟩:=fil h6;refine⟨y,p1,p3,p4,p5,hf,hm,λρ=>⟨x'D T y,?_⟩⟩;rw[x'E];walk_at "p";rw[j'H,b'Z,show (ahO 32 X.cps.toList).map tx=wds X from rfl];simp only[q'R,j'E,q'S];refine⟨rfl,by omega,by omega,?_⟩;rw[if_neg (λz=>absurd (of_decide_eq_true z) (by omega))];have no:∀(Q:Tr->Prop),Q (.bl false)->alL false (wiT T (lfl Fl.f) y) Tr.non Q:=λQ h=>h
  refine no _ ?_;walk_at "p";simp only[x'o,j'E,lfl,dfl];refine⟨rfl,.f,y,rfl,k1,λρ=>?_⟩;walk_at "p";refine h'a T k1 ?_;walk_at "p";refine e'B T k1 ?_;walk_at "p";refine l'E T k1 ?_;simp only[m_f,m_d];refine⟨rfl,y.a,rfl,da,λρ=>?_⟩;walk_at "p";refine p'p T k1 ?_;simp only[m_f,m_d];refine⟨rfl,y.b,rfl,db,λρ=>?_⟩;walk_at "p";refine l'G T k1 ⟨rfl,.f,y,rfl,ok,λρ=>?_⟩;walk_at "p";exact q _
theorem d'b{d:Bool}:∀{t:Tm},t.gd d->t.sm
 |.num q,h=>Nat.le_trans (m'L h) (by decide)
 |.edge _ _,_=>trivial
 |.times q t,h=>⟨Nat.le_trans (m'L h.1) (by decide),d'b h.2⟩
 |.plus a b,h=>⟨d'b h.1,d'b h.2⟩
 |.minus a b,h=>⟨d'b h.1,d'b h.2⟩
theorem d'x{d:Bool}:∀{t:Tm},t.gd d->∀ e∈edg t,dwn e.1=d
 |.num q,_,_,m=>nomatch m
 |.edge a n,h,e,m=>by rw[List.mem_singleton.mp m]; exact h.2.1
 |.times q t,h,e,m=>d'x h.2 e m
 |.plus a b,h,e,m=>(List.mem_append.mp m).elim (d'x h.1 e) (d'x h.2 e)
 |.minus a b,h,e,m=>(List.mem_append.mp m).elim (d'x h.1 e) (d'x h.2 e)
theorem u'h(ks:List Str)(x:Str):x∈srt ks↔x∈ks:=(Classical.epsilon_spec (n'o ks)).1.mem_iff
theorem l'N{d:Bool}{t:Tm}(h:t.gd d):∀ x∈wys t,x=if d=true then ("down":Str) else "across":=λx m=>by
 unfold wys at m;rw[u'h,(f'Z _).2] at m;obtain⟨e,he,rfl⟩:=List.mem_map.mp m;have:=d'x h e he;unfold amH;rw[this]
theorem l'O{d:Bool}{a b:Tm}(h:a.gd d)(g:b.gd d):(ajk (wys a++wys b)).length<=1:=by
 obtain⟨n1,n2⟩:=f'Z (wys a++wys b);have al:∀ x∈ajk (wys a++wys b),x=if d=true then ("down":Str) else "across":=λx m=>(List.mem_append.mp ((n2 x).mp m)).elim (l'N h x) (l'N g x)
 generalize ajk (wys a++wys b)=l at n1 al;cases l with
 |nil=>decide
 |cons x l=>cases l with
  |nil=>exact Nat.le_refl _
  |cons y l=>
   have e1:=al x (.head _);have e2:=al y (.tail _ (.head _));rw[e1,e2] at n1;exact absurd n1 (by simp)
def amX(T:Tx K mg):PSp:=ai6 2 λxs Q=>∃(t:Tm)(d:Bool)(x:Str),xs=[.str x,Enc.t t]/\Wx false t x/\t.gd d/\t.dep<15/\mx t<=900/\(txt t).length<=1000/\x.length<=20000/\Q (.bl true)
theorem d'c(T:Tx K mg):FnOk P w K mg base CX0 150 T.acn T.aco ["_law_text_here","_law_tree_here"] (spP K true 0 2 (amX T)):=by
 refine a'v T.acp aia rfl (by decide) λ_ _ _ _ _ _ hr=>?_
 have hu:=a'o hr;refine⟨_,(a'b (a'k (i:=2) aia.nd (by decide) rfl (Or.inl rfl) c'X)
  (a'b (r'i (pe:=λq=>aj0 q _ _) rfl rfl rfl T.afo (i'L (i:=2) (by decide)) (λpn xe te h=>e'b (i:=2) aia.nd rfl (Or.inl rfl) h) (λpn xe R hx q=>(e'P ((k'b T).mono (by omega)) hx (by walk_at "z") (λ_ _ _ h=>h.1) hr rfl T.aaS T.aaQ.kp T.aaR (QA.frz (a'a (qv 0) a'd)))) (λv=>(a'e (a'k (i:=2) aia.nd (by decide) rfl (Or.inl rfl) c'X))))
  (a'b (a't (a'i d'F b'S (a'V b'j a'P rfl T.ahB rfl (a'a (e'W (qv 0) a'f ⟨rfl,rfl,rfl,rfl⟩) a'd)) a'c (by walk_at "u")) (a'e (a'g (b'f i'M i'N (qv 2) c'X (by walk_at "u")))) a'l)
  (a'e (a'g (c'e (b'f t'K n'J (qv 2) c'X (by walk_at "u")) (c'e (a'j ((c'g T 15).mono (by omega)) (by walk_at "z") (λ_ _ h=>h.1) hr rfl T.ab1 T.abZ.kp T.ab0 (QA.frz (a'a (qv 2) (a'a (qv 1) a'd)))) (d'H (b'f (a'y hr.units) a'm (a'D ((λC g d=>MOkA.mono (g'Y T 64 C g d) (by omega))) (by walk_at "z") (λ_ _ _ h=>h.1) hr (qv 2)) (a'j ((a'Y T 15).mono (by omega)) (by walk_at "z") (λ_ _ h=>h.1) hr rfl T.abR T.abP.kp T.abQ (QA.frz (a'a (qv 1) (a'a (d'G a'c) a'd)))) (by walk_at "u")))))))))),?_⟩
 rintro xs Q' _ ⟨_,t,d,X,rfl,hx,hg,hd,hm,ht,hl,q⟩;walk_at "q";have wl:=h'b X;have sm:=d'b hg;refine⟨rfl,X,rfl,hl,λh6=>⟨?_,?_⟩,λh6=>?_⟩
 ·exact T.afx
 ·walk_at "p";rw[j'H,b'Z,show (ahO 32 X.cps.toList).map tx=wds X from rfl];refine⟨rfl,by omega,by omega,?_⟩;rw[if_pos (decide_eq_true (by omega))];exact⟨rfl,q _⟩
 ·refine j'O T (w'y hx hg h6) λv hv=>?_
  rw[if_pos (Nat.le_refl _),r_f T hv];refine λρ=>⟨m_t T t,?_⟩
  rw[m_f];walk_at "p";rw[j'H,b'Z,show (ahO 32 X.cps.toList).map tx=wds X from rfl];refine⟨rfl,by omega,by omega,?_⟩;rw[if_neg (λz=>absurd (of_decide_eq_true z) (by omega))];simp only[m_l,m_v,m_d,m_f];have no:∀(Q:Tr->Prop),Q (.bl true)->alL true (tmT T t) Tr.non Q:=λQ h=>by cases t<;>exact h
  refine no _ ?_;walk_at "p";refine⟨rfl,t,rfl,hd,λρ=>?_⟩
  try walk_at "p"
  refine b'P T (by omega) sm (by omega) λρ=>?_
  try walk_at "p"
  refine⟨rfl,t,d,-1,rfl,hd,hg,by omega,λx _ _ hx ρ=>?_⟩;rw[hx (by decide)];walk_at "p";exact q _
def akZ(K:W.Frag):Sp:=λvs H Q _=>∃(a:Addr)(ns:List Int),vs=[.ref a]/\SqL K H a (ns.map V.int)/\ns.length<=63/\∀ H',Q (.bl true) H'
def amY:PSp:=ai6 1 λxs Q=>∃ ns:List Int,xs=[.lst (.l false) (ns.map Enc.t)]/\ns.length<=63/\Q (.bl true)
theorem l'P{K:W.Frag}{F:Hp}{B:Bool->Hp}:∀ ns:List Int,Rs K F B (ns.map Enc.t) (ns.map V.int) []
 |[]=>⟨rfl,rfl⟩
 |n :: ns=>⟨_,_,[],[],rfl,rfl,⟨rfl,rfl⟩,l'P ns⟩
theorem w'J{K:W.Frag}(vs:List V)(H:Hp)(Q:VK)(E:XK)(h:akZ K vs H Q E):spP K true 0 1 amY vs H Q E:=by
 obtain⟨a,ns,rfl,hS,hl,k⟩:=h;refine⟨rfl,λ_=>none,H,[.lst (.l false) (ns.map Enc.t)],λ_=>[],λt _=>t=.bl true,λ_=>False,⟨?_,(λ_ _ _ _ z=>by cases z),rfl,?_,(λ_=>.nil),(λ_ _ m=>nomatch m),(λ_ _ _ _ m=>nomatch m),(λi h=>absurd h (Nat.not_lt_zero i)),λ_ _ _ _ z=>z.elim⟩,⟨rfl,ns,rfl,hl,λ_=>rfl⟩,?_⟩
 ·exact Gr.refl' (λ_ _ z=>by cases z)
 ·intro i t e;cases i with
  |zero=>cases e;exact .inr ⟨.ref a,rfl,rfl,a,_,rfl,hS,l'P ns⟩
  |succ i=>cases e
 ·intro F' H' σ' ρ' cs' v t c _ r _ _ _ _ e;subst e;rw[r.1];exact k _
theorem p'z(n d:Nat)(k:Int)(h:0<=k):HT.sIx n d (some k)=min k.toNat n:=by unfold HT.sIx;dsimp only;rw[if_neg (by omega)]
theorem s'o{α:Type}(xs:List α)(i:Int)(h:0<=i):(akK xs (some i) (some (i+8))).length<=8:=by
 unfold akK;rw[p'z _ _ i h,p'z _ _ (i+8) (by omega),List.length_take,List.length_drop];omega
theorem u'i{r v:Int}(h0:0<=r)(h1:r<5)(v0:1<=v)(v1:v<=1000000):(tal r v).length<=50:=by
 obtain⟨R,e,_,l⟩:=j'R h0 h1;have hb:bi v<=20:=e'H (by omega);have lw:(dec v).length<=30:=Nat.le_trans (c'b hb) (by decide);have e5:(Str.ofString " by ").length=4:=by walk_at "k"
 have e6:(Str.ofString " ").length=1:=by walk_at "k"
 unfold tal;rw[e,Option.getD_some];split
 ·decide
 ·split
  ·rw[a'h];omega
  ·rw[a'h,a'h,a'h,a'p];omega
theorem l'Q{r v:Int}:tal r (if r=0 then 1 else v)=tal r v:=by
 unfold tal;split
 ·rfl
 ·rfl
theorem u'j{k:Nat}(h:k<3):∃ S:Str,atI [Tr.str (Str.ofString " is "),Tr.str (Str.ofString " at least "),Tr.str (Str.ofString " at most ")] (k:Int)=some (.str S)/\S.length<=11/\S=" "++vrb k++" ":=by
 have:k=0\/k=1\/k=2:=by omega
 rcases this with rfl |rfl |rfl
 ·exact⟨_,rfl,by decide,by walk_at "k"⟩
 ·exact⟨_,rfl,by decide,by walk_at "k"⟩
 ·exact⟨_,rfl,by decide,by walk_at "k"⟩
theorem u'k(T:Tx K mg):FnOk P w K mg base CX0 160 T.act T.acu ["_law_script"] (spP K true 0 1 amY):=by
 refine a'v T.acv ai2 rfl (by decide) λ_ _ _ _ _ _ hr=>?_
 have hu:=a'o hr;refine⟨_,(a'b (a'k (i:=1) ai2.nd (by decide) rfl (Or.inl rfl) (a'z (a'j ((a'T T).mono (by omega)) (by walk_at "z") (λ_ _ h=>h.1) hr rfl T.aa7 T.aa5.kp T.aa6 (QA.frz (a'a (qv 0) (a'a a'c a'd)))) (e'N a'c (a'B (a'j ((a'T T).mono (by omega)) (by walk_at "z") (λ_ _ h=>h.1) hr rfl T.aa7 T.aa5.kp T.aa6 (QA.frz (a'a (qv 0) (a'a a'c a'd)))) (i'e a'c a'c)))))
  (a'b (a'k (i:=2) ai2.nd (by decide) rfl (Or.inl rfl) (a'U (a'a (a'j ((f'l T).mono (by omega)) (by walk_at "z") (λ_ _ h=>h.1) hr rfl T.abC T.abA.kp T.abB (QA.frz (a'a (i'J (qv 0) (e'n a'c) (e'n a'c)) (a'a (qv 1) a'd)))) (a'a (a'j ((f'l T).mono (by omega)) (by walk_at "z") (λ_ _ h=>h.1) hr rfl T.abC T.abA.kp T.abB (QA.frz (a'a (i'J (qv 0) (e'n a'c) (e'n a'c)) (a'a (a'z (qv 1) a'c) a'd)))) a'd))))
  (a'b (a'k (i:=3) ai2.nd (by decide) rfl (Or.inl rfl) (a'B (a'j ((a'T T).mono (by omega)) (by walk_at "z") (λ_ _ h=>h.1) hr rfl T.aa7 T.aa5.kp T.aa6 (QA.frz (a'a (qv 0) (a'a a'c a'd)))) a'c))
  (a'b (a'k (i:=4) ai2.nd (by decide) rfl (Or.inl rfl) (a'B (a'R (a'j ((a'T T).mono (by omega)) (by walk_at "z") (λ_ _ h=>h.1) hr rfl T.aa7 T.aa5.kp T.aa6 (QA.frz (a'a (qv 0) (a'a a'c a'd)))) a'c) a'c))
  (a'b (a'k (i:=5) ai2.nd (by decide) rfl (Or.inl rfl) (a'n hu (a'U (a'a a'c (a'a a'c (a'a (i'e a'c a'c) (a'a (a'z a'c (a'B (a'R (a'j ((a'T T).mono (by omega)) (by walk_at "z") (λ_ _ h=>h.1) hr rfl T.aa7 T.aa5.kp T.aa6 (QA.frz (a'a (qv 0) (a'a a'c a'd)))) a'c) (i'e a'c a'c))) a'd))))) (a'B (a'R (a'j ((a'T T).mono (by omega)) (by walk_at "z") (λ_ _ h=>h.1) hr rfl T.aa7 T.aa5.kp T.aa6 (QA.frz (a'a (qv 0) (a'a a'c a'd)))) a'c) a'c) (λ_ _=>rfl)))
  (a'b (a'k (i:=6) ai2.nd (by decide) rfl (Or.inl rfl) (a'n hu (a'U (a'a a'f (a'a a'f (a'a a'f a'd)))) (qv 3) (λ_ _=>rfl)))
  (a'b (a'k (i:=7) ai2.nd (by decide) rfl (Or.inl rfl) (a'z (a'z (a'z (a'j ((a'Y T 15).mono (by omega)) (by walk_at "z") (λ_ _ h=>h.1) hr rfl T.abR T.abP.kp T.abQ (QA.frz (a'a (a'n hu (qv 2) a'c (λ_ _=>rfl)) (a'a (d'G a'c) a'd)))) (qv 6)) (a'j ((a'Y T 15).mono (by omega)) (by walk_at "z") (λ_ _ h=>h.1) hr rfl T.abR T.abP.kp T.abQ (QA.frz (a'a (a'n hu (qv 2) a'c (λ_ _=>rfl)) (a'a (d'G a'c) a'd))))) (a'j ((f'm T).mono (by omega)) (by walk_at "z") (λ_ _ h=>h.1) hr rfl T.ach T.acf.kp T.acg (QA.frz (a'a (qv 4) (a'a (qv 5) a'd))))))
  (a'b (a't (a'i (d'I hr.units) b'z (a'D ((λC g d=>MOkA.mono (j'F T C g d) (by omega))) (by walk_at "z") (λ_ _ _ h=>h.1) hr (a'j ((k'd T).mono (by omega)) (by walk_at "z") (λ_ _ h=>h.1) hr rfl T.ab6 T.ab4.kp T.ab5 (QA.frz (a'a (qv 3) (a'a (a'j ((d'g T 15).mono (by omega)) (by walk_at "z") (λ_ _ h=>h.1) hr rfl T.abW T.abU.kp T.abV (QA.frz (a'a (a'n hu (qv 2) a'c (λ_ _=>rfl)) a'd))) (a'a (a'j ((d'g T 15).mono (by omega)) (by walk_at "z") (λ_ _ h=>h.1) hr rfl T.abW T.abU.kp T.abV (QA.frz (a'a (a'n hu (qv 2) a'c (λ_ _=>rfl)) a'd))) (a'a (qv 4) (a'a (qv 5) a'd)))))))) (qv 7) (by walk_at "u")) (a'e (a'g b'T)) a'l)
  (a'b (a't (a'i (a'y hr.units) a'm (qv 4) a'c (by walk_at "u")) (a'e (a'k (i:=5) ai2.nd (by decide) rfl (Or.inl rfl) a'c)) a'l)
  (a'b (a'k (i:=8) ai2.nd (by decide) rfl (Or.inl rfl) (a'B (a'j ((a'T T).mono (by omega)) (by walk_at "z") (λ_ _ h=>h.1) hr rfl T.aa7 T.aa5.kp T.aa6 (QA.frz (a'a (qv 0) (a'a a'c a'd)))) a'c))
  (a'b (a'k (i:=9) ai2.nd (by decide) rfl (Or.inl rfl) (a'z (a'z (a'j ((b'G T 15 (a'Y T 15)).mono (by omega)) (by walk_at "z") (λ_ _ h=>h.1) hr rfl T.abM T.abK.kp T.abL (QA.frz (a'a (a'n hu (qv 2) a'c (λ_ _=>rfl)) (a'a b'T (a'a (qv 8) a'd))))) (qv 6)) (a'j ((b'G T 15 (a'Y T 15)).mono (by omega)) (by walk_at "z") (λ_ _ h=>h.1) hr rfl T.abM T.abK.kp T.abL (QA.frz (a'a (a'n hu (qv 2) a'c (λ_ _=>rfl)) (a'a b'T (a'a (a'R (qv 8) a'c) a'd)))))))
  (a'b (a't (b'r (b'c (a'j ((f'n T).mono (by omega)) (by walk_at "z") (λ_ _ h=>h.1) hr rfl T.acm T.ack.kp T.acl (QA.frz (a'a (qv 7) (a'a (qv 3) (a'a (qv 2) (a'a (qv 4) (a'a (qv 5) (a'a (qv 7) a'd)))))))))) (a'e (a'g b'T)) a'l)
  (a'b (a't (b'r (b'c (a'j ((f'n T).mono (by omega)) (by walk_at "z") (λ_ _ h=>h.1) hr rfl T.acm T.ack.kp T.acl (QA.frz (a'a (a'z (qv 9) (a'j ((f'm T).mono (by omega)) (by walk_at "z") (λ_ _ h=>h.1) hr rfl T.ach T.acf.kp T.acg (QA.frz (a'a (qv 4) (a'a (qv 5) a'd))))) (a'a (qv 3) (a'a (qv 2) (a'a (qv 4) (a'a (qv 5) (a'a (qv 7) a'd)))))))))) (a'e (a'g b'T)) a'l)
  (a'b (a't (b'r (b'c (a'j ((d'c T).mono (by omega)) (by walk_at "z") (λ_ _ h=>h.1) hr rfl T.acs T.acp.kp T.acq (QA.frz (a'a (a'j ((b'G T 15 (a'Y T 15)).mono (by omega)) (by walk_at "z") (λ_ _ h=>h.1) hr rfl T.abM T.abK.kp T.abL (QA.frz (a'a (a'n hu (qv 2) a'c (λ_ _=>rfl)) (a'a b'T (a'a (qv 8) a'd))))) (a'a (a'n hu (qv 2) a'c (λ_ _=>rfl)) a'd)))))) (a'e (a'g b'T)) a'l)
  (a'e (a'g (a'j ((d'c T).mono (by omega)) (by walk_at "z") (λ_ _ h=>h.1) hr rfl T.acs T.acp.kp T.acq (QA.frz (a'a (a'j ((a'Y T 15).mono (by omega)) (by walk_at "z") (λ_ _ h=>h.1) hr rfl T.abR T.abP.kp T.abQ (QA.frz (a'a (a'n hu (qv 2) a'c (λ_ _=>rfl)) (a'a (d'G a'c) a'd)))) (a'a (a'n hu (qv 2) a'c (λ_ _=>rfl)) a'd)))))))))))))))))))),?_⟩
 rintro xs Q' _ ⟨_,ns,rfl,hl,q⟩;walk_at "q";refine⟨rfl,_,ns,0,inferInstance,rfl,by decide,λc0 ρ=>?_⟩;walk_at "q";refine⟨rfl,_,ns,1,inferInstance,rfl,by decide,λc1 ρ=>?_⟩;walk_at "q";refine⟨⟨by decide,by decide,by decide⟩,by decide,cml (by decide),?_⟩;generalize c0+7*(c1 % 10 ^ Int.toNat 6)=F;refine⟨rfl,_,_,_,inferInstance,rfl,s'o ns 4 (by decide),λa ga da ma ea ρ=>?_⟩;walk_at "q";refine⟨rfl,_,_,_,inferInstance,rfl,s'o ns 12 (by decide),λb gb db mb eb ρ=>?_⟩;rw[show decide ((F+2) % 2=1)=decide (F % 2=1) from decide_eq_decide.mpr (by omega)] at gb;generalize decide (F % 2=1)=d at ga gb;walk_at "q";refine⟨rfl,_,ns,3,inferInstance,rfl,by decide,λc3 ρ=>?_⟩;walk_at "q";refine⟨by decide,rfl,_,ns,3,inferInstance,rfl,by decide,λc4 ρ=>?_⟩;walk_at "q";refine⟨⟨by decide,a'C (by decide)⟩,by decide,?_⟩;obtain⟨k,ek,hk⟩:∃ k:Nat,c3 % 3=(k:Int)/\k<3:=⟨(c3 % 3).toNat,by omega,by omega⟩;have r0:0<=c4.fdiv 3 % 5:=by omega
 have r1:c4.fdiv 3 % 5<5:=by omega
 rw[ek];generalize c4.fdiv 3 % 5=r at r0 r1;refine⟨⟨by decide,by decide,by decide⟩,rfl,_,ns,3,inferInstance,rfl,by decide,λc5 ρ=>?_⟩;walk_at "q";refine⟨⟨by decide,a'C (by decide)⟩,⟨by decide,by decide,by decide⟩,by decide,rfl,_,ns,3,inferInstance,rfl,by decide,λc6 ρ=>?_⟩;walk_at "q";have hv:∃ v:Int,atI [Tr.int 1,Tr.int 2,Tr.int (10 ^ Int.toNat 6),Tr.int (1+c5.fdiv 60 % 10 ^ Int.toNat 6)] (c6.fdiv 15 % 4)=some (.int v)/\1<=v/\v<=1000000:=by
  have h4:c6.fdiv 15 % 4=0\/c6.fdiv 15 % 4=1\/c6.fdiv 15 % 4=2\/c6.fdiv 15 % 4=3:=by omega
  rcases h4 with h |h |h |h<;>rw[h]
  ·exact⟨1,at0 _ _,by decide,by decide⟩
  ·exact⟨2,at1 _ _ _,by decide,by decide⟩
  ·exact⟨_,at2 _ _ _ _,by decide,by decide⟩
  ·refine⟨_,at3 _ _ _ _ _,?_,?_⟩
   ·have:=Int.emod_nonneg (c5.fdiv 60) (show (10:Int) ^ Int.toNat 6≠0 by decide);omega
   ·have:=Int.emod_lt_of_pos (c5.fdiv 60) (show (0:Int)<10 ^ Int.toNat 6 by decide);have e:(10:Int) ^ Int.toNat 6=1000000:=by decide
    omega
 obtain⟨v,ev,v0,v1⟩:=hv;refine⟨⟨by decide,a'C (by decide)⟩,by decide,?_⟩;rw[ev];walk_at "q";obtain⟨S,eS,lS,hS⟩:=u'j hk;have jS:∀ x:Str,x++S=x++" "++vrb k++" ":=λx=>by rw[hS];simp only[b'd]
 rw[eS,g'd];walk_at "q";have lt:=u'i r0 r1 v0 v1;refine⟨rfl,a,d,-1,rfl,da,ga,by omega,λx wa la ex ρ=>?_⟩;obtain rfl:=ex (by decide);walk_at "q";refine⟨by omega,rfl,b,d,-1,rfl,db,gb,by omega,λx wb lb ex ρ=>?_⟩;obtain rfl:=ex (by decide);walk_at "q";refine⟨by rw[a'h];omega,rfl,r,v,rfl,r0,r1,v0,v1,λρ=>?_⟩;walk_at "q";refine⟨by rw[a'h,a'h];omega,?_⟩;have lo:(txt a++S++txt b++tal r v).length<=3000:=by rw[a'h,a'h,a'h];omega
 have eo:txt a++S++txt b++tal r v=wtx ⟨k,a,b,r,v⟩:=by rw[jS];rfl
 have eo':txt a++S++txt b++tal r v=wtx ⟨k,a,b,r,if r=0 then 1 else v⟩:=by
  rw[jS,<- l'Q];rfl
 have ga1:=d'b ga;have gb1:=d'b gb;have mk:Wi.mk' ⟨k,a,b,r,v⟩:=⟨by show a.dep<=64;omega,by show b.dep<=64;omega,by show (edg a).length+(edg b).length<60;omega,l'O ga gb⟩
 have ok:Wi.ok ⟨k,a,b,r,v⟩:=⟨hk,by show a.dep<=64;omega,by show b.dep<=64;omega,ga1,gb1,by show (txt a).length<=1000;omega,by show (txt b).length<=1000;omega,r0,r1,v0,v1⟩
 rw[e'p];walk_at "q";refine⟨rfl,a,rfl,da,λρ=>?_⟩;walk_at "q";refine⟨rfl,b,rfl,db,λρ=>?_⟩;simp only[o_f,m_d];refine⟨rfl,⟨k,a,b,r,v⟩,rfl,hk,mk,λρ=>?_⟩;simp only[j'E,dfl];refine l'G T hk ⟨rfl,.o,⟨k,a,b,r,v⟩,rfl,ok,λρ=>?_⟩;walk_at "q";rw[<- eo,if_neg (by simp)];refine v'R (λρ=>ρ=[Tr.lst (Fl.l false) (ns.map Enc.t),.int F,.lst .f [Enc.t a,Enc.t b],.int k,.int r,.int (if r=0 then 1 else v),.str S,.str (txt a++S++txt b++tal r v),.hole,.hole]) (λN hN=>?_) ?_
 ·walk_at "p";split
  ·rename_i c;exact hN _ (by rw[if_pos (of_decide_eq_true c)])
  ·rename_i c;exact hN _ (by rw[if_neg (λz=>c (decide_eq_true z))])
 rintro ρ rfl;have hv:r=0->(if r=0 then (1:Int) else v)=1:=λz=>if_pos z
 rw[<- l'Q (r:=r) (v:=v)] at lo eo' lt ⊢;have w0:1<=(if r=0 then (1:Int) else v):=by split<;>omega
 have w1:(if r=0 then (1:Int) else v)<=1000000:=by split<;>omega
 clear eo ok mk ev v0 v1;generalize (if r=0 then (1:Int) else v)=v' at lo eo' lt hv w0 w1 ⊢;have mk:Wi.mk' ⟨k,a,b,r,v'⟩:=⟨by show a.dep<=64;omega,by show b.dep<=64;omega,by show (edg a).length+(edg b).length<60;omega,l'O ga gb⟩;have ok:Wi.ok ⟨k,a,b,r,v'⟩:=⟨hk,by show a.dep<=64;omega,by show b.dep<=64;omega,ga1,gb1,by show (txt a).length<=1000;omega,by show (txt b).length<=1000;omega,r0,r1,w0,w1⟩;have rdy:Rdy ⟨k,a,b,r,v'⟩ d:=⟨ok,mk,ga,gb,hv,da,db⟩;walk_at "q";refine⟨rfl,_,ns,2,inferInstance,rfl,by decide,λc2 ρ=>?_⟩;walk_at "q";refine⟨by decide,rfl,a,d,false,_,rfl,da,ga,by omega,λx hx lx _ ρ=>?_⟩;walk_at "q";refine⟨by omega,⟨by decide,a'C (by decide)⟩,rfl,b,d,false,_,rfl,db,gb,by omega,λz hz lz _ ρ=>?_⟩;walk_at "q";refine⟨by rw[a'h];omega,?_⟩;rw[e'p];walk_at "q";refine⟨rfl,⟨k,a,b,r,v'⟩,d,txt a,txt b,by rw[<- eo',jS],rdy,wa.low,wb.low,?_,λρ=>?_⟩
 ·rw[jS] at lo;exact Nat.le_trans lo (by decide)
 walk_at "q";rw[e'p];walk_at "q";refine⟨rfl,r,v',rfl,r0,r1,w0,w1,λρ=>?_⟩;walk_at "q";have lo2:(x++S++z++tal r v').length<=20000:=by rw[a'h,a'h,a'h];omega
 refine⟨by rw[a'h,a'h];omega,rfl,⟨k,a,b,r,v'⟩,d,x,z,by rw[<- eo',jS],rdy,hx,hz,?_,λρ=>?_⟩
 ·rw[jS] at lo2;exact lo2
 walk_at "q";rw[e'p];walk_at "q";refine⟨rfl,a,d,false,_,rfl,da,ga,by omega,λx2 hx2 lx2 _ ρ=>?_⟩;walk_at "q";refine⟨rfl,a,d,x2,rfl,hx2,ga,da,ma,by omega,by omega,λρ=>?_⟩;walk_at "q";refine⟨rfl,b,d,-1,rfl,db,gb,by omega,λz2 hz2 lz2 _ ρ=>?_⟩;walk_at "q";exact⟨rfl,b,d,z2,rfl,hz2.low,gb,db,mb,by omega,by omega,λρ=>⟨rfl,q _⟩⟩
theorem w'K(T:Tx K mg):FnOk P w K mg base CX0 160 T.act T.acu ["_law_script"] (akZ K):=(u'k T).imp w'J
end
theorem walk{l:W.OpenLaw}{q:Program}{loose:List Str}{XP:(Str->Option Value)->Heap->Prop}{YP:World->Heap->Prop}{d:DefRec}{K:Params->W.Frag}(hn:l.most=some 63)(hdf:d.params.defaults=[])(hnm:d.name="law")(hY:∀(w:World)(h:Heap),YP w h->(K w.params).In h)(F:∀(w:World)(mg:Str->Option Value)(h:Heap),(K w.params).In h->h.Ns mainGlobals mg->Nonempty (Tx (K w.params) mg)):
  W.WalkO q loose XP YP l.row.toRowW d [] (λf vs=>PySem.call f vs):=by
 refine L2.walk_of (n:=63) (k:=160) (x:="_law_script") (CX:=λ_=>CX0) (sp:=λw=>akZ (K w.params)) hn (by decide) hdf ⟨rfl,by decide,by decide⟩ hY ?_ (λ_ _ a ns hl _ hS=>⟨a,ns,rfl,hS,hl,λ_=>rfl⟩) λ_ _ _ _ _ z=>z
 intro w mg fa h KX G hmg;obtain⟨T⟩:=F w mg h KX G;rw[hnm] at hmg;have e:=hmg.symm.trans T.acx;cases e;refine⟨T.acu,λs v=>?_,λbase _ _=>w'K T⟩;obtain⟨oc,od,kV,doc,pm,an,cdv,ct,osl,hfd,lk,hcd⟩:=T.acv.ex;rw[hfd];exact .of_eq rfl
end Sf
structure PySem.W.Fast:Prop where(tw10034557028980549106 tw10107626458937517358 tw10153475050185314168 tw10153826583189961299 tw10174944021938580391 tw10199136900711212339 tw10348165741740084464 tw10387976674759575639 tw10510041014852234839 tw10514556806839327472 tw10526668312847049965 tw10535565705182375990 tw10643166066059778159 tw10693064906339044033 tw10696297030831153503 tw10731875971427517729 tw10839159261746264263 tw10844938244357961537 tw10853168932128170453 tw10866516082526549983 tw1095462972123094064 tw11087593176814564569 tw11343553661967761219 tw11385648319331346312 tw11403019864411713155 tw11434913062534953702 tw11603699995424540617 tw11647712460801012084 tw11688170148580489263 tw11741968463733348596 tw11771925528690298517 tw11795172377059992019 tw11832651879851533196 tw11862615275574595431 tw11894190039488520693 tw11925545788950627115 tw11948171121831201072 tw11966520497307740998 tw12209301475161469650 tw12232098204990907741 tw12394487284762609592 tw12408085491794794359 tw12495494107347384343 tw12615680351026285989 tw12628592299541125986 tw12715401599134600039 tw12752496589887239410 tw12783336064020659928 tw1284106669148949506 tw12907243940349803865 tw12937180622186964235 tw12987438989596538699 tw13118280226748939128 tw13174083250481497047 tw13229258966014009991 tw13270109208779986011 tw13324372237019983775 tw13366960491918161650 tw13383366544033879009 tw13383906083831800323 tw13549787820024476605 tw13748495644923398505 tw13786082865383246197 tw13856471019724627063 tw13975386225378222940 tw13998390134681997956 tw14012178042818162625 tw14111485712961374835 tw14153167371583182335 tw14190702536295948200 tw14298682403288511251 tw14326006965835987965 tw14335414035674597724 tw14348650916227362889 tw14400927355469044678 tw14423502682589080335 tw14436141699097335440 tw14496899456693328172 tw14613801521963786050 tw14676495608807219541 tw14711803360252578482 tw14853426459370770611 tw14872417661350587285 tw14948075708074718542 tw14974266289135777196 tw14987899183635690324 tw15073794966175286115 tw15085557605320511254 tw15094364796897988949 tw15195015899905630571 tw15318002085980533470 tw15352410476585035115 tw15402905123295272188 tw15509659934377281190 tw15621866385431080967 tw15656000229397690361 tw15798747206104617968 tw1592249539611252568 tw15983617156327658034 tw16242244404452340654 tw16315650456409406133 tw16347959962369469514 tw16361901120069721526 tw16466940135775202173 tw1649385884480686893 tw16581059524813903754 tw16668723487177820851 tw1674059345544816987 tw16747800171703784840 tw16815219279763602261 tw16849283049265886262 tw16970239498709218715 tw16975910640761825298 tw17025624083953599222 tw17070155524966702037 tw17092255555313808517 tw17099442954212262258 tw17350672179361996475 tw17502248824751910594 tw17590974945475671309 tw17599949511039899296 tw17625639647000055000 tw17661456455972500928 tw17698231598564559093 tw17728171954729632338 tw17802612375421389847 tw17822581039472426555 tw17916547396877528738 tw17965861971546788112 tw18122552904217351798 tw18253413770292166471 tw1845761554420741360 tw1860471494205291744 tw1881232642708909495 tw2016365333440280523 tw2046188699041664653 tw2055213945732291714 tw2069532303447469250 tw2083295329647639755 tw2170556987681305302 tw2228613497778311177 tw2399002579221664580 tw2426951393787107520 tw2507139480858477432 tw2516464861406465024 tw2570125629876119170 tw259751821533832732 tw2741112906974080696 tw2790931273873669968 tw2836143612979770194 tw2885022825693952487 tw2950707860256776002 tw295520599395159383 tw2987248022264417543 tw3124868063999799672 tw3132724884358763967 tw3264050735794783816 tw3368297919764188214 tw3493638987609946521 tw3586223601455018843 tw3592367070168600790 tw3870392325795935437 tw3873276653302029636 tw3954491618484957628 tw399886410483346623 tw4005520521565062600 tw4209578721359274492 tw4247291911506950440 tw4319040039306550862 tw4324449817795028328 tw4356961897918486396 tw4366900495329690145 tw4425053180469385262 tw4532727825940556898 tw4535106958875369086 tw473214742968769836 tw4734260806818340296 tw4737755393365499378 tw4771713684018032384 tw4805703744632649936 tw4815501325172086014 tw484676995602349363 tw4860535198586592473 tw496256937553365133 tw5107855482719252874 tw5134026532130789630 tw5324414999172740504 tw5352737015448894590 tw5394317674992554878 tw5400616633832278763 tw5442512876489738564 tw546603063613001508 tw5491485854460297875 tw5544482370029045088 tw5658662941434218331 tw5666332501545424624 tw5770428382431902674 tw5901409637493446909 tw5957399687914417377 tw5959341120748802782 tw6005814038478854643 tw6038069735979661699 tw604335504027565006 tw6085857970482200284 tw6108498200271667980 tw6182712859725714714 tw6193559215837704502 tw6242212815483292951 tw6255848418905131561 tw6262072412860222022 tw6269646664170852087 tw6290071426187573277 tw6337206590195014478 tw6378905082522991496 tw6488237196669924681 tw6492975439834156226 tw6601451997474383389 tw6633768225216922385 tw6685647344205164252 tw6707278091477834405 tw6796531178483760008 tw6966914832991644602 tw7004895247617237555 tw7026562583284580743 tw7073515883226168313 tw7094450424004529623 tw7128012795867425113 tw71736583208523599 tw7217000641811842428 tw7232415721549220779 tw7273556291401167982 tw7305942362959228684 tw7342638217156878095 tw7369916161594449238 tw7394726029293395154 tw7507646841481069200 tw7529407682394053754 tw7599219936579863711 tw7714863536296323377 tw7753018004827039601 tw7872018759536296924 tw7917204460626363487 tw7982580058918628048 tw7995809738385193602 tw7997804644467793414 tw8089846002679576781 tw8116956419109923980 tw8312216540914730459 tw8362351910524240056 tw8540423138937580972 tw8595167155218078908 tw8597047333797110918 tw8667216909540729705 tw878430814444695845 tw8806037152920650007 tw8835209702083733717 tw8845789763089187760 tw8897450252001810582 tw8913048497326865538 tw8989789773214661626 tw8995665656222722263 tw9089892370995896322 tw9198891013337800148 tw9201585664702438180 tw923316286435977937 tw9254174860180234102 tw9273496400370044264 tw9353635720670416391 tw9370820646436973621 tw9416982290647902325 tw9418734707888048147 tw9492958491972508723 tw9593425671899361866 tw9640759116231670857 tw9831069905592483983 tw9994304537749295889 tw14080546334114628447 tw1900736953347776168 tw7805419292560034165 tw12941879511396032258 tw6761545581632421257 tw13730288624726570839 tw9069745967377905554 tw8423127261865046763 tw14955104431207407767 tw12124744116245447566 tw8680547109466797360 tw17561740078788699309 tw1437418473764947999 tw7529367898171077102 tw7571680191710538550 tw17849789308160218806 tw16351493330958436540 tw7258123241273341997 tw6746865111248178105 tw11826561505332003159 tw4054280814016956348 tw3689958200998078423 tw3617765656375812806 tw10272931099933831031 tw5047534763034897485 tw4713433768807810207 tw16455720115342500118 tw15446940320079793952 tw11541480978695979341 tw6891390664114979650 tw4743196551234000714 tw8750988863555613760 tw445029079668900951 tw3035476101995701555 tw16703129924611678699 tw16343081635879311602 tw14197158835276771202 tw978434118425779028 tw3169693049509291656 tw1593953920463897972 tw15529531347950213882 tw1263093859739654533 tw4401594176194071328 tw2729727894060404496 tw16455630524305968153 tw15426029496862389418 tw1895903316204027038 tw15131310652693374230 tw17916026862706752920 tw16399198760881445168 tw13527851189725574359 tw12564198157076545950 tw10112063675836283855 tw2427685606413666802 tw17692212177769352139 tw17027455113816871469 tw12239535587657473359 tw10444774379684230334 tw11710610057537268741 tw8578771326708657314 tw16632980488816971070 tw15589550443507427362 tw12339988548291628903 tw1166982914182791660 tw11201557655558707201 tw6637657962183830100 tw2157126721633855866 tw7846696169566475765 tw4440537599400110677 tw14233640597692503980 tw10567324354552003746 tw1833515615002145805 tw11388275326642133020 tw9795453216103612026 tw16676885016417681152 tw15037122661577156274 tw1745608857796885941 tw3888172180312324958 tw1157884882220436035 tw9493569925627048352 tw11692131815320662260 tw5568579138317555183 tw17654592387247656436 tw3719215448938794592 tw9150911860513506501 tw628969854246599999 tw5957465001395016745 tw15733669104971740201 tw10554523049961043915 tw7169581373234766822 tw2140367981367314177 tw16723165526439375842 tw832781090508072134 tw6379438888845851680 tw5380148675384360645 tw14337887043243110268 tw13228453972963103424 tw12198564823567076774 tw12284966652418933040 tw18133459920527469757 tw4606762943572346783 tw4627286428470161377 tw3345256423206339628 tw1164691416267133740 tw3654507380772583305 tw4809059504115974915 tw3028720471055214749 tw16124054439913190958 tw3283090475770541194 tw11210859246207392043 tw2195195846327697149 tw12998880701900639991 tw11242788069750796651 tw394932535920921938 tw7143287240208362699 tw4306739676638831366 tw11108517588457549878 tw17206146571488740624 tw8897146430004816772 tw16912722053443275903 tw12437689081045468663 tw1993616767415763573 tw4407243819324441907 tw3598339108663858453 tw6173888425904051720 tw13532883348318230805 tw5176178485210473263 tw15038769609100428905 tw9902485274093137985 tw2009686406723001579 tw13740971373005887345 tw12792545333358949389 tw12646652765841925936 tw11435874909979729461 tw816981781655748834 tw14135133097015426882 tw12938000860536271658 tw12906441069545475833 tw10180423457277065492 tw2482086838085621101 tw15302446927881392085 tw17292852431253983238 tw10064701809111599194 tw5341947841740909934 tw16713067905051330298 tw10987602944981257357 tw16059404460970692662 tw829005814678366967 tw3792176449661024803 tw4835007936593688409 tw18071244955230894462 tw15580880213747734748 tw17545658194593362867 tw15260062339088183779 tw4246988120551694836 tw6265896428967570765 tw4949476903985489669 tw12714267276231785681 tw11366119050627220416 tw13055049592872041540 tw3875428614657169276 tw10207959032048412855 tw14221429846816605935 tw837894580739585857 tw14571186244255124348 tw12687291406847198775 tw18267289569937778543 tw2210979403886184314 tw14917067304302684898 tw7336510917215517158 tw11923036775467967757 tw7297864183080797318 tw17187874993452004844 tw10645944235954210319 tw6827756827847490058 tw6926812855027108209 tw16954250514531579571 tw4380859151615180033 tw14069103869892755424 tw12081734532995312512 tw1051720664765838817 tw16734945991642270491 tw1320767397105538198 tw12245915974497239591 tw7705676637993869919 tw14801585463336249192 tw9136062812596709307 tw15051792918676702267 tw14197807442417088324 tw1189388189037766153 tw3539888595651595104 tw7416145504511114982 tw16915865609714426135 tw15630790144834763810 tw15169476973282349925 tw15140271976099872555 tw11432282890269819538 tw8793518885832536768 tw6036904328258076230 tw5788064466426926280 tw10241839808520934758 tw6175779912226984416 tw3870833565460588176 tw7651239794977611825 tw6649203046917270318 tw5678208686470726494 tw12471904274269475569 tw2970226808593181041 tw18251256189700870397 tw669086139230948839 tw10488612403700438016 tw17186612600471066716 tw14985553106706501047 tw11975309103348913492 tw750528860246584526 tw9962772345705569254 tw7900715828083330307 tw6982395177808116717 tw6017890694487110355 tw5718232065710643646 tw17155519421245099080 tw15089668787518594497 tw14413517770790668508 tw13578043491670086087 tw12666767500398791498 tw9347236389528656721 tw3783221333672291476 tw18430127886650675652 tw11281737340300671188 tw3357229239023244060 tw16378155772890267698 tw14013777917271708796 tw9811050614099239411 tw8677922135418501290 tw7777963789453858973 tw2631078178055039183 tw2279523020879944921 tw15054456115116121156 tw11585200095037407694 tw14920480952013058438 tw3975608839941522549 tw1815533259113670973 tw1492404698702732832 tw8524042860424583874 tw7150436994677142448 tw5154705849623540408 tw1570949017430721186 tw5599134399569513581 tw16192948124814816011 tw10994772013596679291 tw6602645315557165742 tw5598404192849244361 tw13263204631269074631 tw14444551281471218319 tw6951598220120443590 tw6899378694237300101 tw4421341398319823212 tw11099234705961400340 tw7236166953756379983 tw2236464283644505502 tw17560863528898768234 tw11183678463091156841 tw9854842884839284441 tw8886507116723611045 tw8524346748078040948 tw8198778626002729605 tw7507532852743441708 tw6863106785556509800 tw6335020952668478626 tw5558538417483434426 tw2788999184797516018 tw2064020119500341896 tw17650894681323425742 tw16544270714956031363 tw16348508736032383672 tw16011470934684544449 tw15574087606795034829 tw14779729547799686453 tw14707626244920039019 tw14602496626940623595 tw14519949769912330633 tw14352743391031966786 tw1404634489725542657 tw13583174276895369636 tw13467970016808581134 tw12657227171001751658 tw12066920585159227134 tw13314200599630445291 tw13117021280354051734 tw16059613894291543460 tw9531730269294883423 tw7423848766173265541 tw6172394976635995542 tw5273636541126485936 tw4439519603461488137 tw3737790763064822236 tw3147468227087434673 tw2243130278861481710 tw2022072779467821679 tw15989589810278489201 tw15778941514548496941 tw14232010929577727096 tw13870404730678702849 tw1251263452089539681 tw11478117085565376296 tw11364511593437713296 tw15619169888249632769 tw16478994548905388135 tw11521628717824320897 tw6402190238318555989 tw975308431260973459 tw8064235210984875060 tw478004560710820315 tw3734596713040932350 tw2208549655085202561 tw16923858409221149768 tw16847818984667666047 tw15547355212997715674 tw15192392198596280378 tw10614057373744859432:True)
open PySem PySem.W PyProof.Rows
set_option maxRecDepth 100000 in
set_option maxHeartbeats 0 in
theorem PySem.Challenge.cw_springframe_k15_written_and_read_holds : PySem.Challenge.rw_springframe_k15_written_and_read.Holds := by
 w_on;o_law;k_head;(case hw=>w_witness2)
 k_fill
 refine Sf.walk (l:=PySem.Challenge.rw_springframe_k15_written_and_read) rfl rfl rfl (λw h Y=>PySem.W.kIn_of Y) ?F
 case F=>
  intro w mg h KX G;refine' Sf.tx_mk KX G ?_ ?_ ?_ ?_ ?_ ?_ ?_ ?_ ?_ ?_ ?_ ?_ ?_ ?_ ?_ ?_ ?_ ?_ ?_ ?_ ?_ ?_ ?_ ?_ ?_ ?_ ?_ ?_ ?_ ?_ ?_ ?_ ?_ ?_ ?_ ?_ ?_ ?_ ?_ ?_ ?_ ?_ ?_ ?_ ?_ ?_ ?_ ?_ ?_ ?_ ?_ ?_ ?_ ?_ ?_ ?_ ?_ ?_ ?_ ?_ ?_ ?_ ?_ ?_ ?_ ?_ ?_ ?_ ?_ ?_ ?_ ?_ ?_ ?_ ?_ ?_ ?_ ?_ ?_ ?_ ?_ ?_ ?_ ?_ ?_ ?_ ?_ ?_ ?_ ?_ ?_ ?_ ?_ ?_ ?_ ?_ ?_ ?_ ?_ ?_ ?_ ?_ ?_ ?_ ?_ ?_ ?_ ?_ ?_ ?_ ?_ ?_ ?_ ?_ ?_ ?_ ?_ ?_ ?_ ?_ ?_ ?_ ?_ ?_ ?_ ?_ ?_ ?_ ?_ ?_ ?_ ?_ ?_ ?_ ?_ ?_ ?_ ?_ ?_ ?_ ?_ ?_ ?_ ?_ ?_ ?_ ?_ ?_ ?_ ?_ ?_ ?_ ?_ ?_ ?_ ?_ ?_ ?_ ?_ ?_ ?_ ?_ ?_ ?_ ?_ ?_ ?_ ?_ ?_ ?_ ?_ ?_ ?_ ?_ ?_ ?_ ?_ ?_ ?_ ?_ ?_ ?_ ?_ ?_ ?_ ?_ ?_ ?_ ?_ ?_ ?_ ?_ ?_ ?_ ?_ ?_ ?_ ?_ ?_ ?_ ?_ ?_ ?_ ?_ ?_ ?_ ?_ ?_ ?_ ?_ ?_ ?_ ?_ ?_ ?_ ?_ ?_ ?_ ?_ ?_ ?_ ?_ ?_ ?_ ?_ ?_ ?_ ?_ ?_ ?_ ?_ ?_ ?_ ?_ ?_ ?_ ?_ ?_ ?_ ?_ ?_ ?_ ?_ ?_ ?_ ?_ ?_ ?_ ?_ ?_ ?_ ?_ ?_ ?_ ?_ ?_ ?_ ?_ ?_ ?_ ?_ ?_ ?_ ?_ ?_ ?_ ?_ ?_ ?_ ?_ ?_ ?_ ?_ ?_ ?_ ?_ ?_ ?_ ?_ ?_ ?_ ?_ ?_ ?_ ?_ ?_ ?_ ?_ ?_ ?_ ?_ ?_ ?_ ?_ ?_ ?_ ?_ ?_ ?_ ?_ ?_ ?_ ?_ ?_ ?_ ?_ ?_ ?_ ?_ ?_ ?_ ?_ ?_ ?_ ?_ ?_ ?_ ?_ ?_ ?_ ?_ ?_ ?_ ?_ ?_ ?_ ?_ ?_ ?_ ?_ ?_ ?_ ?_ ?_ ?_ ?_ ?_ ?_ ?_ ?_ ?_ ?_ ?_ ?_ ?_ ?_ ?_ ?_
  all_goals try first |k_is |kit_is |k_exc |kts_exm |exact L2.fnin (by k_is) (by k_is) (by k_is)
#print axioms PySem.Challenge.cw_springframe_k15_written_and_read_holds
