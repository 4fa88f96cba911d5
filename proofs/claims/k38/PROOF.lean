import PyProof.Rows.All
import Wide.All
import OpenK.AllK
import Wide.FinOn
import Lean
import PyProof.EqAt
import PyProof.EqKinds
import PyProof.TupleCall
import PyProof.NeKinds
import OpenK.KOwn
import KE.KTryMore
import KE.RegKTryMore
import PyProof.NsDelKeeps
import KE.KIntText
import PySem.Challenge.RW_lockhouse_k38_shown
set_option Elab.async false
set_option linter.all false
set_option maxRecDepth 100000
namespace L2
open PySem PySem.Spec PyProof.Rows
abbrev kR:=Sum Int Str
def dZ:kR→Value→Bool
 |.inl k,v=>Value.isInt k v
 |.inr x,v=>Value.isStrOf x v
def pM (w:World):kR→Int
 |.inl k=>hashInt k
 |.inr x=>hashStr w x
theorem vO:∀{k:kR} {v:Value},dZ k v=true→(∃i t,k=Sum.inl i∧v=Value.int i t)∨(∃x t,k=Sum.inr x∧v=Value.str x t)
 |.inl i,v,h=>by
  obtain ⟨t,e⟩:=Value.isInt_shape (k:=i) (v:=v) h
  exact .inl ⟨i,t,rfl,e⟩
 |.inr x,v,h=>by
  obtain ⟨t,e⟩:=Value.isStrOf_shape (x:=x) (v:=v) h
  exact .inr ⟨x,t,rfl,e⟩
theorem nW (a b:Int):decide ((Sum.inl a:kR)=Sum.inl b)=(a == b):=by
 by_cases e:a=b
 ·subst e;simp
 ·have h:¬(Sum.inl a:kR)=Sum.inl b:=fun q=>e (Sum.inl.inj q)
  rw [decide_eq_false h]
  exact (beq_eq_false_iff_ne.mpr e).symm
theorem nS (a b:Str):decide ((Sum.inr a:kR)=Sum.inr b)=decide (a=b):=by
 by_cases e:a=b
 ·subst e;simp
 ·have h:¬(Sum.inr a:kR)=Sum.inr b:=fun q=>e (Sum.inr.inj q)
  rw [decide_eq_false h,decide_eq_false e]
theorem nV (a:Int) (b:Str):decide ((Sum.inl a:kR)=Sum.inr b)=false:=decide_eq_false (fun q=>nomatch q)
theorem nU (a:Str) (b:Int):decide ((Sum.inr a:kR)=Sum.inl b)=false:=decide_eq_false (fun q=>nomatch q)
def dB (prog:Program) (w:World):PySem.KeyKind prog w kR where
 is:=dZ
 hash:=pM w
 inj:=fun v a b ha hb=>by
  rcases vO ha with ⟨i,t,rfl,rfl⟩|⟨x,t,rfl,rfl⟩
  ·rcases vO hb with ⟨j,u,rfl,e⟩|⟨y,u,rfl,e⟩
   ·injection e with e1 _;rw [e1]
   ·exact nomatch e
  ·rcases vO hb with ⟨j,u,rfl,e⟩|⟨y,u,rfl,e⟩
   ·exact nomatch e
   ·injection e with e1 _;rw [e1]
 byValue:=fun k v h=>by
  rcases vO h with ⟨i,t,rfl,rfl⟩|⟨x,t,rfl,rfl⟩<;>rfl
 pyHash:=fun hv h=>by
  rcases vO hv with ⟨i,t,rfl,rfl⟩|⟨x,t,rfl,rfl⟩
  ·exact wpAny_pyHash_int h
  ·exact wpAny_pyHash_str h
 eqBool:=fun hu hv h=>by
  rcases vO hu with ⟨i,t,rfl,rfl⟩|⟨x,t,rfl,rfl⟩
  ·rcases vO hv with ⟨j,u,rfl,rfl⟩|⟨y,u,rfl,rfl⟩
   ·rw [nW] at h;exact wpAny_eqBool_int h
   ·rw [nV] at h;exact SeqAt.EqAt.int_str i t y u _ _ _ _ h
  ·rcases vO hv with ⟨j,u,rfl,rfl⟩|⟨y,u,rfl,rfl⟩
   ·rw [nU] at h;exact SeqAt.EqAt.str_int x t j u _ _ _ _ h
   ·rw [nS] at h;exact wpAny_eqBool_str h
 «strs»:=fun k x t v h=>by
  rcases vO h with ⟨i,u,rfl,e⟩|⟨y,u,rfl,e⟩
  ·exact nomatch e
  ·injection e with e1 _
   subst e1
   cases v<;>rfl
end L2
namespace L2
open PySem PySem.Spec PyProof.Rows
inductive V where
 |non|bl (b:Bool)|int (i:Int)|str (x:Str)|byt (b:Array UInt8)|flt (b:UInt64)|ref (a:Addr)|ty (n:String)
 deriving DecidableEq
def RelV:V→Value→Prop
 |.non,u=>u=Value.none
 |.bl b,u=>u=Value.bool b
 |.int i,u=>∃t,u=Value.int i t
 |.str x,u=>∃t,u=Value.str x t
 |.byt b,u=>∃t,u=Value.bytes b t
 |.flt b,u=>∃t,u=Value.float b t
 |.ref a,u=>u=Value.ref a
 |.ty n,u=>u=Value.type n
abbrev Vals:List V→List Value→Prop:=Paired RelV
theorem Vals.length {xs:List V} {us:List Value} (r:Vals xs us):xs.length=us.length:=Paired.length r
theorem Vals.get:∀{xs:List V} {us:List Value} {i:Nat} {x:V},Vals xs us→xs[i]?=some x→∃u,us[i]?=some u∧RelV x u
 |_,_,_,_,.nil,e=>by simp at e
 |_,_,0,_,.cons r _,e=>by simp at e;subst e;exact ⟨_,rfl,r⟩
 |_,_,i+1,x,.cons _ t,e=>by
  obtain ⟨u,h1,h2⟩:=Vals.get (i:=i) (x:=x) t (by simpa using e)
  exact ⟨u,by simpa using h1,h2⟩
theorem Vals.set {x:V} {u:Value} (r:RelV x u):∀{xs:List V} {us:List Value} (i:Nat),Vals xs us→Vals (xs.set i x) (us.set i u)
 |_,_,_,.nil=>.nil
 |_,_,0,.cons _ t=>.cons r t
 |_,_,i+1,.cons q t=>.cons q (Vals.set r i t)
theorem Vals.append:∀{xs ys:List V} {us ws:List Value},Vals xs us→Vals ys ws→Vals (xs++ys) (us++ws)
 |_,_,_,_,.nil,s=>s
 |_,_,_,_,.cons r t,s=>.cons r (Vals.append t s)
theorem Vals.take:∀{xs:List V} {us:List Value} (n:Nat),Vals xs us→Vals (xs.take n) (us.take n)
 |_,_,0,_=>.nil
 |_,_,_+1,.nil=>.nil
 |_,_,n+1,.cons r t=>.cons r (Vals.take n t)
theorem Vals.drop:∀{xs:List V} {us:List Value} (n:Nat),Vals xs us→Vals (xs.drop n) (us.drop n)
 |_,_,0,r=>r
 |_,_,_+1,.nil=>.nil
 |_,_,n+1,.cons _ t=>Vals.drop n t
def RelO:Option V→Option Value→Prop
 |some v,some u=>RelV v u
 |none,none=>True
 |_,_=>False
def KV {κ:Type}:List (κ×V)→List (κ×Value)→Prop:=Paired fun (p:κ×V) (q:κ×Value)=>p.1=q.1∧RelV p.2 q.2
def kV:kR→V
 |.inl i=>.int i
 |.inr x=>.str x
inductive HO where
 /-- a list -/
 |lst (xs:List V)
 /-- a tuple (never changes) -/
 |tup (xs:List V)
 /-- a dict whose keys are ints and texts;one whose keys are tuples of ints and texts (the empty one is both) -/
 |dK (kvs:List (kR×V))|dT (kvs:List (List kR×V))
 /-- a set of ints: its members,its size -/
 |set (S:Int→Bool) (n:Nat)
 /-- an instance of the class at C,its dict at dx,its attributes -/
 |ins (C dx:Addr) (fs:List (Str×V))
 /-- the dict of the instance at x -/
 |own (x:Addr)
 /-- the dict of an exception -/
 |xd (fs:List (Str×V))
 /-- a bound method,f of x -/
 |met (f x:Addr)
 /-- a range object lo,lo+1,.. below hi -/
 |rng (lo hi:Int)
 /-- a thing that is known to the object (the script;a dict while a loop walks it): read,never written while it is so -/
 |frz (o:Obj) (u:HO)
 /-- a code object's table -/
 |tbl (ps:Array Value)
 /-- any other thing,by what is true of its one object (a def of one's own: SetO a S n:=HO.ext fun h=>..) -/
 |ext (φ:Heap→Prop)
abbrev Hp:=Addr→Option HO
def upd (H:Hp) (a:Addr) (o:HO):Hp:=fun b=>if b=a then some o else H b
theorem jE {H:Hp} {a:Addr} {o:HO}:upd H a o a=some o:=by unfold upd;rw [if_pos rfl]
theorem jO {H:Hp} {a b:Addr} {o:HO} (h:b≠a):upd H a o b=H b:=by unfold upd;rw [if_neg h]
theorem zR {H:Hp} {a b:Addr} {o u:HO} (h:H a=some o) (h':H b=some u) (d:o≠u):a≠b:=by
 intro e;subst e;rw [h] at h';exact d (Option.some.inj h')
theorem jY {H:Hp} {a b:Addr} {o:HO} (h:H a=some o) (h':H b=none):a≠b:=by
 intro e;subst e;rw [h] at h';cases h'
section
variable (P:Program) (w:World)
def ObjOk (H:Hp) (h:Heap) (a:Addr):HO→Prop
 |.lst xs=>xs.length≤sizeLine∧∃(its:List Value) (n:Nat),Vals xs its∧h.get? a=some {cls:=.type "list",data:=.seq its.toArray n}
 |.tup xs=>xs.length≤sizeLine∧∃its:List Value,Vals xs its∧IsTup h a its.toArray
 |.dK kvs=>kvs.length≤sizeLine∧(a == sysModules)=false∧∃vs,KV kvs vs∧h.DictOf (dB P w) a vs
 |.dT kvs=>kvs.length≤sizeLine∧(a == sysModules)=false∧∃xs:List (List kR×Addr×Value),
   Paired (fun (p:List kR×V) (q:List kR×Addr×Value)=>p.1=q.1∧H q.2.1=some (.tup (p.1.map kV))∧RelV p.2 q.2.2) kvs xs∧
   ∃o es ep,h.get? a=some o∧o.ExactDict∧o.data=.dict es ep∧es.toList=xs.map (entryOfKey (tupleKind (dB P w)))∧(xs.map (·.1)).Nodup
 |.set S n=>h.SetOf (intKind P w) a S n
 |.ins C dx fs=>H dx=some (.own a)∧fs.length≤1000∧dx≠a∧h.get? a=some (PySem.W.instObj C dx)∧
   ∃mA,h.Ns1 dx mA∧(∀f,RelO (fs.lookup f) (mA f))∧PySem.Within mA (fs.map (·.1))
 |.own _=>∃o,h.get? a=some o
 |.xd fs=>∃mA,h.Ns1 a mA∧∀f,RelO (fs.lookup f) (mA f)
 |.rng lo hi=>∃t u v,h.get? a=some {cls:=.type "range",data:=.fields #[.int lo t,.int hi u,.int 1 v]}
 |.frz o u=>h.get? a=some o∧ObjOk H h a u
 |.tbl ps=>h.get? a=some {cls:=.none,data:=.fields ps}
 |.met f x=>h.get? a=some (PySem.W.methodObj (.ref f) (.ref x))
 |.ext φ=>φ h∧(∃o,h.get? a=some o)∧∀h1 h2:Heap,φ h1→(∀o,h1.get? a=some o→h2.get? a=some o)→φ h2
def HOk (H:Hp) (h:Heap):Prop:=∀a o,H a=some o→ObjOk P w H h a o
end
section
variable {P:Program} {w:World} {H H':Hp} {h h':Heap} {a:Addr} {o:HO}
theorem ObjOk.lt (x:ObjOk P w H h a o):a<h.objs.size:=by
 cases o with
 |lst xs=>obtain ⟨_,_,_,_,e⟩:=x;exact Heap.lt_size e
 |tup xs=>obtain ⟨_,_,_,p⟩:=x;exact p.lt
 |dK kvs=>obtain ⟨_,_,_,_,o,_,_,e,_⟩:=x;exact Heap.lt_size e
 |dT kvs=>obtain ⟨_,_,_,_,o,_,_,e,_⟩:=x;exact Heap.lt_size e
 |set S n=>obtain ⟨o,_,_,_,e,_⟩:=x;exact Heap.lt_size e
 |ins C dx fs=>obtain ⟨_,_,_,e,_⟩:=x;exact Heap.lt_size e
 |own y=>obtain ⟨_,e⟩:=x;exact Heap.lt_size e
 |xd fs=>obtain ⟨_,⟨_,_,_,e,_⟩,_⟩:=x;exact Heap.lt_size e
 |rng lo hi=>obtain ⟨_,_,_,e⟩:=x;exact Heap.lt_size e
 |frz ob u=>obtain ⟨e,_⟩:=x;exact Heap.lt_size e
 |tbl ps=>exact Heap.lt_size (show h.get? a=some _ from x)
 |met f y=>exact Heap.lt_size (show h.get? a=some _ from x)
 |ext φ=>obtain ⟨_,⟨_,e⟩,_⟩:=x;exact Heap.lt_size e
theorem Paired.mapP {α β:Type} {F G:α→β→Prop}:∀{l₁:List α} {l₂:List β},Paired F l₁ l₂→(∀a b,F a b→G a b)→Paired G l₁ l₂
 |_,_,.nil,_=>.nil
 |_,_,.cons r t,f=>.cons (f _ _ r) (Paired.mapP t f)
theorem ObjOk.stay (x:ObjOk P w H h a o) (k:∀b u,(b=a∨H b=some (.own a))→h.get? b=some u→h'.get? b=some u)
  (ho:∀b,H b=some (.own a)→H' b=some (.own a)) (ht:∀b xs,H b=some (.tup xs)→H' b=some (.tup xs)):ObjOk P w H' h' a o:=by
 induction o with
 |lst xs=>obtain ⟨z,its,n,r,e⟩:=x;exact ⟨z,its,n,r,k _ _ (.inl rfl) e⟩
 |tup xs=>obtain ⟨z,its,r,ob,e,c⟩:=x;exact ⟨z,its,r,ob,k _ _ (.inl rfl) e,c⟩
 |dK kvs=>obtain ⟨z,y,vs,r,ob,es,ep,e,c⟩:=x;exact ⟨z,y,vs,r,ob,es,ep,k _ _ (.inl rfl) e,c⟩
 |dT kvs =>
  obtain ⟨z,y,xs,r,ob,es,ep,e,c⟩:=x
  exact ⟨z,y,xs,Paired.mapP r fun p q z=>⟨z.1,ht _ _ z.2.1,z.2.2⟩,ob,es,ep,k _ _ (.inl rfl) e,c⟩
 |set S n=>obtain ⟨ob,es,ep,t,e,c⟩:=x;exact ⟨ob,es,ep,t,k _ _ (.inl rfl) e,c⟩
 |ins C dx fs =>
  obtain ⟨d,z,ne,e,mA,⟨od,es,ep,e2,c⟩,r⟩:=x
  exact ⟨ho _ d,z,ne,k _ _ (.inl rfl) e,mA,⟨od,es,ep,k _ _ (.inr d) e2,c⟩,r⟩
 |own y=>obtain ⟨ob,e⟩:=x;exact ⟨ob,k _ _ (.inl rfl) e⟩
 |xd fs=>obtain ⟨mA,⟨od,es,ep,e,c⟩,r⟩:=x;exact ⟨mA,⟨od,es,ep,k _ _ (.inl rfl) e,c⟩,r⟩
 |rng lo hi=>obtain ⟨t,u,v,e⟩:=x;exact ⟨t,u,v,k _ _ (.inl rfl) e⟩
 |frz ob u ih=>obtain ⟨e,q⟩:=x;exact ⟨k _ _ (.inl rfl) e,ih q⟩
 |tbl ps =>
  have e:h.get? a=some {cls:=.none,data:=.fields ps}:=x
  show h'.get? a=some {cls:=.none,data:=.fields ps}
  exact k a _ (.inl rfl) e
 |met f y =>
  have e:h.get? a=some (PySem.W.methodObj (.ref f) (.ref y)):=x
  show h'.get? a=some (PySem.W.methodObj (.ref f) (.ref y))
  exact k a _ (.inl rfl) e
 |ext φ=>obtain ⟨p,⟨o,e⟩,st⟩:=x;exact ⟨st _ _ p fun o q=>k _ _ (.inl rfl) q,⟨o,k _ _ (.inl rfl) e⟩,st⟩
theorem HOk.lt (x:HOk P w H h) (e:H a=some o):a<h.objs.size:=(x a o e).lt
theorem HOk.fresh (x:HOk P w H h) (e:h.objs.size≤a):H a=none:=by
 cases q:H a with
 |none=>rfl
 |some u=>exact absurd (Nat.lt_of_lt_of_le (x.lt q) e) (Nat.lt_irrefl _)
theorem HOk.kept (x:HOk P w H h) (k:∀b u,h.get? b=some u→h'.get? b=some u):HOk P w H h':=fun a o e =>
 (x a o e).stay (fun b u _ q=>k b u q) (fun _ q=>q) fun _ _ q=>q
theorem HOk.laid (x:HOk P w H h) (k:∀b u,h.get? b=some u→h'.get? b=some u) (hp:h.objs.size≤a) (new:ObjOk P w (upd H a o) h' a o):HOk P w (upd H a o) h':=fun b u e=>by
 have hn:=x.fresh hp
 by_cases hb:b=a
 ·subst hb;rw [jE] at e;cases e;exact new
 ·rw [jO hb] at e
  exact (x b u e).stay (fun c v _ q=>k c v q) (fun c q=>by rw [jO (jY q hn)];exact q) fun c xs q=>by rw [jO (jY q hn)];exact q
end
def Rd (H:Hp) (a:Addr) (u:HO):Prop:=H a=some u∨∃o,H a=some (.frz o u)
theorem Rd.of {H:Hp} {a:Addr} {u:HO} (h:H a=some u):Rd H a u:=.inl h
theorem Rd.ok {P:Program} {w:World} {H:Hp} {h:Heap} {a:Addr} {u:HO} (r:Rd H a u) (x:HOk P w H h):ObjOk P w H h a u:=by
 rcases r with r|⟨o,r⟩
 ·exact x a u r
 ·obtain ⟨_,q⟩:=x a _ r
  exact q
def QL:Option HO→Prop
 |some (.lst _)=>True
 |some (.dK _)=>True
 |some (.dT _)=>True
 |some (.set _ _)=>True
 |some (.ins _ _ _)=>True
 |some (.ext _)=>True
 |_=>False
section
variable {P:Program} {w:World} {H:Hp} {h h':Heap} {x e:Addr} {o':HO}
theorem HOk.write (ok:HOk P w H h) (mu:QL (H x)) (he:e=x∨H e=some (.own x)) (k:∀b u,b≠e→h.get? b=some u→h'.get? b=some u) (heo:∃u,h'.get? e=some u)
  (new:ObjOk P w (upd H x o') h' x o'):HOk P w (upd H x o') h':=fun b u q=>by
 have nown:∀c y,H c=some (.own y)→c≠x:=fun c y r z=>by subst z;rw [r] at mu;exact mu
 have ntup:∀c xs,H c=some (.tup xs)→c≠x:=fun c xs r z=>by subst z;rw [r] at mu;exact mu
 by_cases hb:b=x
 ·subst hb;rw [jE] at q;cases q;exact new
 ·rw [jO hb] at q
  by_cases hbe:b=e
  ·have q':H b=some (.own x):=by
    rcases he with z|z
    ·exact absurd (hbe.trans z) hb
    ·rw [hbe];exact z
   rw [q] at q';cases q'
   obtain ⟨v,hv⟩:=heo
   exact ⟨v,by rw [hbe];exact hv⟩
  ·refine (ok b u q).stay (fun c v hc r=>k c v ?_ r) (fun c r=>by rw [jO (nown c b r)];exact r) fun c xs r=>by rw [jO (ntup c xs r)];exact r
   rcases hc with rfl|hc
   ·exact hbe
   ·rintro rfl
    rcases he with z|z
    ·exact nown c b hc z
    ·rw [hc] at z;cases z;exact hb rfl
end
structure Un (fs ex:List Addr) (H H':Hp) (h h':Heap):Prop where
 keep:∀b o,h.get? b=some o→H b=none→b∉fs→b∉ex→h'.get? b=some o
 slot:∀b o,h.get? b=some o→H b=none→b∈fs→b∉ex→∃sl,h'.get? b=some {o with slots:=sl}
 free:∀b o,h.get? b=some o→H b=none→b∉ex→H' b=none
 there:∀b o,h.get? b=some o→b∉ex→∃o',h'.get? b=some o'
 tups:∀b xs,H b=some (.tup xs)→H' b=some (.tup xs)
 frzs:∀b o u,H b=some (.frz o u)→H' b=some (.frz o u)
 tbls:∀b ps,H b=some (.tbl ps)→∃more,H' b=some (.tbl (ps++more))
section
variable {fs fs' ex ex':List Addr} {H H1 H2:Hp} {h h1 h2 h':Heap} {a x e:Addr} {o:HO}
theorem Un.any (u:Un fs ex H H1 h h1) {b:Addr} {ob:Obj} (q:h.get? b=some ob) (n:H b=none) (hx:b∉ex):∃sl,h1.get? b=some {ob with slots:=sl}:=by
 by_cases hb:b∈fs
 ·exact u.slot b ob q n hb hx
 ·exact ⟨ob.slots,u.keep b ob q n hb hx⟩
theorem Un.kept (k:∀b u,h.get? b=some u→h'.get? b=some u):Un fs ex H H h h' :=
 ⟨fun b ob q _ _ _=>k b ob q,fun b ob q _ _ _=>⟨ob.slots,k b ob q⟩,fun _ _ _ n _=>n,fun b ob q _=>⟨ob,k b ob q⟩,fun _ _ q=>q,fun _ _ _ q=>q,fun _ ps q=>⟨#[],by rw [q];simp⟩⟩
theorem Un.refl:Un fs ex H H h h:=Un.kept fun _ _ q=>q
theorem Un.laid (k:∀b u,h.get? b=some u→h'.get? b=some u) (hp:h.objs.size≤a) (hn:H a=none):Un fs ex H (upd H a o) h h' where
 keep:=fun b u q _ _ _=>k b u q
 slot:=fun b u q _ _ _=>⟨u.slots,k b u q⟩
 free:=fun b u q n _=>by rw [jO (Nat.ne_of_lt (Nat.lt_of_lt_of_le (Heap.lt_size q) hp))];exact n
 there:=fun b u q _=>⟨u,k b u q⟩
 tups:=fun b xs q=>by rw [jO (jY q hn)];exact q
 frzs:=fun b u xs q=>by rw [jO (jY q hn)];exact q
 tbls:=fun b ps q=>⟨#[],by rw [jO (jY q hn),q];simp⟩
theorem Un.write (mu:QL (H x)) (he:e=x∨H e=some (.own x)) (k:∀b u,b≠e→h.get? b=some u→h'.get? b=some u) (heo:∃u,h'.get? e=some u):Un fs ex H (upd H x o) h h':=by
 have hx:∀b,H b=none→b≠x:=fun b n z=>by subst z;rw [n] at mu;exact mu
 have hb:∀b,H b=none→b≠e:=fun b n z=>by
  subst z
  rcases he with r|r
  ·exact hx b n r
  ·rw [n] at r;cases r
 have hm:∀b u,H b=some u→¬QL (some u)→b≠x:=fun b u q nm z=>by subst z;rw [q] at mu;exact nm mu
 refine ⟨fun b u q n _ _=>k b u (hb b n) q,fun b u q n _ _=>⟨u.slots,k b u (hb b n) q⟩,fun b u q n _=>by rw [jO (hx b n)];exact n,fun b u q _=>?_,
  fun b xs q=>by rw [jO (hm b _ q fun z=>z)];exact q,fun b u xs q=>by rw [jO (hm b _ q fun z=>z)];exact q,fun b ps q=>⟨#[],by rw [jO (hm b _ q fun z=>z),q];simp⟩⟩
 by_cases hbe:b=e
 ·subst hbe;exact heo
 ·exact ⟨u,k b u hbe q⟩
end
def QD (h:Heap) (H:Hp):List Addr:=(List.range h.objs.size).filter fun a=>(H a).isSome
def v1 (h:Heap) (H:Hp):Heap:=PySem.W.hideAll h (QD h H)
theorem iX (h:Heap) (H:Hp):(v1 h H).objs.size=h.objs.size:=PySem.W.hideAll_size _ _
theorem lV {h:Heap} {H:Hp} {b:Addr} {o:Obj} (e:h.get? b=some o) (n:H b=none):(v1 h H).get? b=some o :=
 PySem.W.hideAll_get _ e fun hm=>by
  have q:(H b).isSome=true:=(List.mem_filter.mp hm).2
  rw [n] at q;simp at q
theorem mS {h:Heap} {H:Hp} {b:Addr} {o:Obj} (e:(v1 h H).get? b=some o):h.get? b=some o∧H b=none:=by
 have e':h.get? b=some o:=PySem.W.of_hideAll (QD h H) e
 refine ⟨e',?_⟩
 cases q:H b with
 |none=>rfl
 |some x =>
  have hm:b∈QD h H:=List.mem_filter.mpr ⟨List.mem_range.mpr (Heap.lt_size e'),by simp [q]⟩
  have z:(v1 h H).get? b=none:=PySem.W.hideAll_none (QD h H) hm
  rw [z] at e;cases e
def nB (g h:Heap) (L:Addr):List (Addr×Obj):=(List.range h.objs.size).filterMap fun a=>if a=L∨(g.get? a).isSome=true then none else (h.get? a).map fun o=>(a,o)
def rest (g h:Heap) (L d:Addr):List (Addr×Obj):=(nB g h L).filter fun p=>decide (p.1≠d)
end L2
namespace L2
open PySem PySem.Spec PyProof.Rows
structure Mod (K:PySem.W.Frag) (mg:Str→Option Value) (base:Heap):Prop where
 kin:K.In base
 glob:base.Ns mainGlobals mg
 blt:∃mb,base.Ns builtinsNs mb∧∀x:Str,x≠"__name__"→mb x=bootBuiltins x
 nolimit:base.NoLimit
structure Cx where
 prog:Program
 w:World
 K:PySem.W.Frag
 mg:Str→Option Value
 base:Heap
 A:Around
 N:List Str
 s₀:Shared
 H₀:Hp
 env:Env
 outer:List Env
 stack:List Env
 ex:List Addr
 fn:Str→Bool
 calm:Bool
 pn:List (Addr×Obj)
 xe:Value→Shared→Prop
def qW (l:List Env):List Addr:=l.filterMap (·.frame)
abbrev Cx.fs (X:Cx):List Addr:=qW X.outer
def QI (sc:Scope) (x:Str):Prop:=sc.names.lookup x=some .local∨sc.names.lookup x=some .cell∨sc.names.lookup x=some .free
def JM (sc:Scope) (x:Str):Prop:=sc.names.lookup x=some .local∨sc.names.lookup x=some .cell
def pV (env:Env) (h:Heap) (m:Str→Option Value) (x:Str) (u:Value):Prop :=
 (env.kindOf x=some .local∧m x=some u)∨((env.kindOf x=some .cell∨env.kindOf x=some .free)∧∃c,env.cells.lookup x=some c∧h.IsCell c (some u))
structure Cx.Ok (X:Cx):Prop where
 mod:Mod X.K X.mg X.base
 kind:X.env.scope.kind=.function
 glob:X.env.globals=mainGlobals
 blt:X.env.builtins=builtinsNs
 above:X.s₀.heap.objs.size≤X.env.locals
 inj:∀x y c,X.env.cells.lookup x=some c→X.env.cells.lookup y=some c→x=y
 has:∀x,(X.env.kindOf x=some .cell∨X.env.kindOf x=some .free)→∃c,X.env.cells.lookup x=some c
 cab:∀x c,X.fn x=true→X.env.cells.lookup x=some c→X.s₀.heap.objs.size≤c
 hd:X.calm=true→X.A.handled=none
 frames:X.A.frames=some X.stack
 stk:X.stack=X.outer∨(X.stack=X.env::X.outer∧X.env.frame=some X.env.locals)
 exf:∀b∈X.ex,b≠X.env.locals∧∀x c,X.env.cells.lookup x=some c→c≠b
 bs:∀b o,X.base.get? b=some o→X.s₀.heap.get? b=some o∧X.H₀ b=none
 bsz:X.base.objs.size≤X.s₀.heap.objs.size
 noex:∀b o,X.base.get? b=some o→b∉X.ex
 exfs:∀b∈X.ex,b∉X.fs
 funs:X.s₀.heap.FunFrames X.base X.outer
 frf:∀b∈X.fs,X.H₀ b=none
structure Inv (X:Cx) (pins:List (Addr×Obj)) (σ:List (Option V)) (H:Hp) (s:Shared):Prop where
 ok:X.Ok
 os:s.os=X.s₀.os
 bare:AllBare s.gens
 base:Un X.fs X.ex X.H₀ H X.s₀.heap s.heap
 loc:∃m,s.heap.Ns X.env.locals m∧∀(i:Nat) (x:Str) (v:V),X.N[i]?=some x→σ[i]?=some (some v)→QI X.env.scope x→∃u,RelV v u∧pV X.env s.heap m x u
 cell:∀x c,X.env.cells.lookup x=some c→∃v,s.heap.IsCell c v
 free:H X.env.locals=none
 freeC:∀x c,X.env.cells.lookup x=some c→H c=none
 pin:∀p∈X.pn++pins,s.heap.get? p.1=some p.2∧H p.1=none∧p.1≠X.env.locals∧p.1∉X.fs∧∀v,p.2.data≠.cell v
 hok:HOk X.prog X.w H s.heap
 len:σ.length=X.N.length
section
variable {X:Cx} {pins:List (Addr×Obj)} {σ:List (Option V)} {H H':Hp} {s:Shared} {h':Heap}
theorem Cx.Ok.nofr (ok:X.Ok) {b:Addr} {o:Obj} (e:X.base.get? b=some o):b∉X.fs:=fun hb=>by
 have:=(ok.funs.mem hb).1
 rw [e] at this;cases this
theorem Inv.bs (I:Inv X pins σ H s):∀b o,X.base.get? b=some o→s.heap.get? b=some o∧H b=none:=fun b o e =>
 ⟨I.base.keep b o (I.ok.bs b o e).1 (I.ok.bs b o e).2 (I.ok.nofr e) (I.ok.noex b o e),I.base.free b o (I.ok.bs b o e).1 (I.ok.bs b o e).2 (I.ok.noex b o e)⟩
theorem Inv.bk (I:Inv X pins σ H s):∀b o,X.base.get? b=some o→s.heap.get? b=some o:=fun b o e=>(I.bs b o e).1
theorem Inv.mod (I:Inv X pins σ H s):Mod X.K X.mg X.base:=I.ok.mod
theorem Inv.kIn (I:Inv X pins σ H s):X.K.In s.heap:=I.ok.mod.kin.keeps I.bk
theorem Inv.lt (I:Inv X pins σ H s):X.env.locals<s.heap.objs.size:=let ⟨_,hn,_⟩:=I.loc;hn.lt
theorem Inv.sz (I:Inv X pins σ H s):X.s₀.heap.objs.size≤s.heap.objs.size:=Nat.le_trans I.ok.above (Nat.le_of_lt I.lt)
theorem Inv.nofs (I:Inv X pins σ H s) {a:Addr} (h:s.heap.objs.size≤a):a∉X.fs:=fun hb=>by
 obtain ⟨_,o,ho,_⟩:=I.ok.funs.mem hb
 exact absurd (Nat.lt_of_lt_of_le (Heap.lt_size ho) (Nat.le_trans I.sz h)) (Nat.lt_irrefl _)
theorem Inv.cne (I:Inv X pins σ H s):∀x c,X.env.cells.lookup x=some c→c≠X.env.locals:=fun x c e z=>by
 obtain ⟨v,o,ho,hd⟩:=I.cell x c e
 obtain ⟨m,⟨o',es,ep,ho',hd',_⟩,_⟩:=I.loc
 rw [z,ho'] at ho;cases ho;rw [hd'] at hd;cases hd
theorem Inv.funs (I:Inv X pins σ H s):s.heap.FunFrames X.base X.outer:=by
 have all:∀(l:List Env),(∀b∈qW l,b∈X.fs)→X.s₀.heap.FunFrames X.base l→s.heap.FunFrames X.base l:=by
  intro l
  induction l with
  |nil=>intro _ _;trivial
  |cons env r ih =>
   intro hs hl
   obtain ⟨hk,⟨L,o,hf,hn,ho,hd⟩,hr⟩:=hl
   have hL:L∈X.fs:=hs L (by unfold qW;rw [List.filterMap_cons,hf];exact List.mem_cons_self)
   obtain ⟨sl,e⟩:=I.base.slot L o ho (I.ok.frf L hL) hL fun z=>I.ok.exfs L z hL
   exact ⟨hk,⟨L,_,hf,hn,e,hd⟩,ih (fun b hb=>hs b (by unfold qW;rw [List.filterMap_cons,hf];exact List.mem_cons_of_mem _ hb)) hr⟩
 exact all X.outer (fun _ hb=>hb) I.ok.funs
theorem Inv.stack (I:Inv X pins σ H s):s.heap.FunFrames X.base X.stack:=by
 rcases I.ok.stk with e|⟨e,hf⟩
 ·rw [e];exact I.funs
 ·rw [e]
  obtain ⟨m,hn,_⟩:=I.loc
  refine .cons (by rw [I.ok.kind];decide) hf hn ?_ I.funs
  exact Heap.get?_none_of_le (Nat.le_trans I.ok.bsz I.ok.above)
theorem Inv.stkSub (I:Inv X pins σ H s):∀b∈qW X.stack,b∈X.env.locals::X.fs:=fun b hb=>by
 rcases I.ok.stk with e|⟨e,hf⟩
 ·rw [e] at hb;exact List.mem_cons_of_mem _ hb
 ·rw [e] at hb
  unfold qW at hb
  rw [List.filterMap_cons,hf] at hb
  exact hb
theorem Inv.stkFree (I:Inv X pins σ H s):∀b∈qW X.stack,H b=none:=fun b hb=>by
 rcases List.mem_cons.mp (I.stkSub b hb) with e|hb
 ·rw [e];exact I.free
 ·obtain ⟨_,o,ho,_⟩:=I.ok.funs.mem hb
  exact I.base.free b o ho (I.ok.frf b hb) fun z=>I.ok.exfs b z hb
theorem Inv.step {g':Array GenState} {t':Nat} {d':Drawn} {ch:List Addr} (I:Inv X pins σ H s)
  (hch:∀b∈ch,(b∈X.ex∨X.s₀.heap.objs.size≤b)∧b≠X.env.locals∧(∀x c,X.env.cells.lookup x=some c→c≠b)∧∀p∈X.pn++pins,p.1≠b)
  (keep:∀b o,b≠X.env.locals→b∉X.fs→b∉ch→s.heap.get? b=some o→H b=none→h'.get? b=some o)
  (slot:∀b o,b≠X.env.locals→b∈X.fs→b∉ch→s.heap.get? b=some o→H b=none→∃sl,h'.get? b=some {o with slots:=sl}) (free:∀b o,b∉ch→s.heap.get? b=some o→H b=none→H' b=none)
  (there:∀b o,b∉ch→s.heap.get? b=some o→∃o',h'.get? b=some o')
  (tups:∀b xs,H b=some (.tup xs)→H' b=some (.tup xs)) (frzs:∀b o u,H b=some (.frz o u)→H' b=some (.frz o u)) (tbls:∀b ps,H b=some (.tbl ps)→∃more,H' b=some (.tbl (ps++more)))
  (ns:∀m,s.heap.Ns X.env.locals m→h'.Ns X.env.locals m) (hok:HOk X.prog X.w H' h') (hg:AllBare g') :
  Inv X pins σ H' {s with heap:=h',gens:=g',drawn:=d',toks:=t'}:=by
 have neL:∀b o,X.s₀.heap.get? b=some o→b≠X.env.locals:=fun b o e=>Nat.ne_of_lt (Nat.lt_of_lt_of_le (Heap.lt_size e) I.ok.above)
 have neC:∀b o,X.s₀.heap.get? b=some o→b∉X.ex→b∉ch:=fun b o e hx hb=>by
  rcases (hch b hb).1 with z|z
  ·exact hx z
  ·exact absurd (Nat.lt_of_lt_of_le (Heap.lt_size e) z) (Nat.lt_irrefl _)
 have cellK:∀x c,X.env.cells.lookup x=some c→∀v,s.heap.IsCell c v→h'.IsCell c v:=fun x c e v ⟨o,ho,hd⟩=>by
  have nch:c∉ch:=fun z=>(hch c z).2.2.1 x c e rfl
  by_cases hc:c∈X.fs
  ·obtain ⟨sl,q⟩:=slot c o (I.cne x c e) hc nch ho (I.freeC x c e)
   exact ⟨_,q,hd⟩
  ·exact ⟨o,keep c o (I.cne x c e) hc nch ho (I.freeC x c e),hd⟩
 refine ⟨I.ok,I.os,hg,⟨fun b o e n hb hx=>?_,fun b o e n hb hx=>?_,fun b o e n hx=>?_,fun b o e hx=>?_,fun b xs e=>tups b xs (I.base.tups b xs e),fun b o xs e=>frzs b o xs (I.base.frzs b o xs e),fun b ps e=>?_⟩,?_,fun x c e=>?_,?_,fun x c e=>?_,fun p hp=>?_,hok,I.len⟩
 ·exact keep b o (neL b o e) hb (neC b o e hx) (I.base.keep b o e n hb hx) (I.base.free b o e n hx)
 ·obtain ⟨sl,e1⟩:=I.base.slot b o e n hb hx
  obtain ⟨sl',e2⟩:=slot b _ (neL b o e) hb (neC b o e hx) e1 (I.base.free b o e n hx)
  exact ⟨sl',e2⟩
 ·obtain ⟨o',e1⟩:=I.base.there b o e hx
  exact free b o' (neC b o e hx) e1 (I.base.free b o e n hx)
 ·obtain ⟨o',e1⟩:=I.base.there b o e hx
  exact there b o' (neC b o e hx) e1
 ·obtain ⟨m1,e1⟩:=I.base.tbls b ps e
  obtain ⟨m2,e2⟩:=tbls b _ e1
  exact ⟨m1++m2,by rw [e2,Array.append_assoc]⟩
 ·obtain ⟨m,hn,hl⟩:=I.loc
  refine ⟨m,ns m hn,fun i x v e1 e2 e3=>?_⟩
  obtain ⟨u,r,l⟩:=hl i x v e1 e2 e3
  refine ⟨u,r,?_⟩
  rcases l with l|⟨k,c,e,z⟩
  ·exact .inl l
  ·exact .inr ⟨k,c,e,cellK x c e _ z⟩
 ·obtain ⟨v,z⟩:=I.cell x c e
  exact ⟨v,cellK x c e v z⟩
 ·obtain ⟨m,⟨o,_,_,ho,_⟩,_⟩:=I.loc
  exact free _ o (fun z=>(hch _ z).2.1 rfl) ho I.free
 ·obtain ⟨v,o,ho,hd⟩:=I.cell x c e
  exact free c o (fun z=>(hch c z).2.2.1 x c e rfl) ho (I.freeC x c e)
 ·obtain ⟨e,n,ne,nf,d⟩:=I.pin p hp
  have nch:p.1∉ch:=fun z=>(hch p.1 z).2.2.2 p hp rfl
  exact ⟨keep p.1 p.2 ne nf nch e n,free p.1 p.2 nch e n,ne,nf,d⟩
theorem Inv.un {t':Nat} (I:Inv X pins σ H s) (u:Un X.fs [] H H' s.heap h') (hok:HOk X.prog X.w H' h'):Inv X pins σ H' {s with heap:=h',toks:=t'}:=by
  obtain ⟨m,⟨o,es,ep,ho,r⟩,_⟩:=id I.loc
  obtain ⟨sl,hL⟩:=u.any ho I.free (by simp)
  exact I.step (g':=s.gens) (d':=s.drawn) (ch:=[]) (fun _ z=>nomatch z) (fun b o _ hb _ e n=>u.keep b o e n hb (by simp)) (fun b o _ hb _ e n=>u.slot b o e n hb (by simp)) (fun b o _ e n=>u.free b o e n (by simp)) (fun b o _ e=>u.there b o e (by simp)) u.tups u.frzs u.tbls (fun m' hm=>by
    obtain ⟨o',es',ep',ho',r'⟩:=hm
    rw [ho] at ho';cases ho'
    exact ⟨_,es',ep',hL,r'⟩) hok I.bare
theorem Inv.call {g':Array GenState} {t':Nat} {d':Drawn} {ch:List Addr} (I:Inv X pins σ H s) (u:Un (qW X.stack) ch H H' s.heap h') (hok:HOk X.prog X.w H' h') (hg:AllBare g')
  (hch:∀b∈ch,(b∈X.ex∨X.s₀.heap.objs.size≤b)∧b≠X.env.locals∧(∀x c,X.env.cells.lookup x=some c→c≠b)∧∀p∈X.pn++pins,p.1≠b) :
  Inv X pins σ H' {s with heap:=h',gens:=g',drawn:=d',toks:=t'}:=by
 obtain ⟨m,⟨o,es,ep,ho,r⟩,_⟩:=id I.loc
 obtain ⟨sl,hL⟩:=u.any ho I.free fun z=>(hch _ z).2.1 rfl
 exact I.step (ch:=ch) hch (fun b o hL hb hc e n=>u.keep b o e n (fun z=>(List.mem_cons.mp (I.stkSub b z)).elim hL hb) hc) (fun b o _ _ hc e n=>u.any e n hc) (fun b o hc e n=>u.free b o e n hc) (fun b o hc e=>u.there b o e hc) u.tups u.frzs u.tbls (fun m' hm=>by
  obtain ⟨o',es',ep',ho',r'⟩:=hm
  rw [ho] at ho';cases ho'
  exact ⟨_,es',ep',hL,r'⟩) hok hg
theorem Inv.turned {t':Nat} {it:Addr} (I:Inv X pins σ H s) (k:∀b o,b≠it→s.heap.get? b=some o→h'.get? b=some o) (hn:H it=none) (hL:it≠X.env.locals)
    (h1:it∈X.ex∨X.s₀.heap.objs.size≤it) (h2:∀x c,X.env.cells.lookup x=some c→c≠it) (h3:∀p∈X.pn++pins,p.1≠it):Inv X pins σ H {s with heap:=h',toks:=t'}:=by
  have nit:∀b u,H b=some u→b≠it:=fun b u e z=>by rw [z,hn] at e;cases e
  refine I.step (g':=s.gens) (d':=s.drawn) (ch:=[it]) (fun b hb=>?_) (fun b o _ _ hc e _=>k b o (fun z=>hc (by simp [z])) e) (fun b o _ _ hc e _=>⟨o.slots,k b o (fun z=>hc (by simp [z])) e⟩) (fun _ _ _ _ n=>n)
    (fun b o hc e=>⟨o,k b o (fun z=>hc (by simp [z])) e⟩) (fun _ _ e=>e) (fun _ _ _ e=>e) (fun b ps e=>⟨#[],by rw [e];simp⟩) (fun m hm=>?_) (fun b u e=>?_) I.bare
  · have e:b=it:=by simpa using hb
    subst e
    exact ⟨h1,hL,h2,h3⟩
  · obtain ⟨o,es,ep,ho,r⟩:=hm
    exact ⟨o,es,ep,k _ o (Ne.symm hL) ho,r⟩
  · refine (I.hok b u e).stay (fun c v hc q=>k c v ?_ q) (fun _ q=>q) fun _ _ q=>q
    rcases hc with z|z
    · rw [z];exact nit b u e
    · exact nit c _ z
theorem Inv.tok (I:Inv X pins σ H s) (t:Nat):Inv X pins σ H {s with toks:=t}:=I.un (h':=s.heap) (t':=t) Un.refl I.hok
theorem Inv.kept {t':Nat} (I:Inv X pins σ H s) (k:∀b u,s.heap.get? b=some u→h'.get? b=some u):Inv X pins σ H {s with heap:=h',toks:=t'}:=I.un (Un.kept k) (I.hok.kept k)
theorem Inv.laid {a:Addr} {o:HO} {t':Nat} (I:Inv X pins σ H s) (k:∀b u,s.heap.get? b=some u→h'.get? b=some u) (hp:s.heap.objs.size≤a) (new:ObjOk X.prog X.w (upd H a o) h' a o) :
  Inv X pins σ (upd H a o) {s with heap:=h',toks:=t'}:=I.un (Un.laid k hp (I.hok.fresh hp)) (I.hok.laid k hp new)
theorem Inv.write {x e:Addr} {o:HO} {t':Nat} (I:Inv X pins σ H s) (mu:QL (H x)) (he:e=x∨H e=some (.own x)) (k:∀b u,b≠e→s.heap.get? b=some u→h'.get? b=some u) (heo:∃u,h'.get? e=some u)
  (new:ObjOk X.prog X.w (upd H x o) h' x o):Inv X pins σ (upd H x o) {s with heap:=h',toks:=t'}:=I.un (Un.write mu he k heo) (I.hok.write mu he k heo new)
theorem Inv.pins_of {pins':List (Addr×Obj)} (I:Inv X pins σ H s) (h:∀p∈pins',s.heap.get? p.1=some p.2∧H p.1=none∧p.1≠X.env.locals∧p.1∉X.fs∧∀v,p.2.data≠.cell v):Inv X pins' σ H s :=
 ⟨I.ok,I.os,I.bare,I.base,I.loc,I.cell,I.free,I.freeC,fun p hp=>(List.mem_append.mp hp).elim (fun z=>I.pin p (List.mem_append_left _ z)) (h p),I.hok,I.len⟩
theorem cD {N:List Str} (hN:N.Nodup) {i j:Nat} {x:Str} (a:N[i]?=some x) (b:N[j]?=some x):i=j:=by
 obtain ⟨h1,e1⟩:=List.getElem?_eq_some_iff.mp a
 obtain ⟨h2,e2⟩:=List.getElem?_eq_some_iff.mp b
 exact (List.getElem_inj hN).mp (e1.trans e2.symm)
theorem bK {M:Model} {A:Around} {E:Value→Shared→Prop} {i:Nat} {x:Str} {v:V} {u:Value} {Q:Unit→Shared→Prop} (I:Inv X pins σ H s) (hN:X.N.Nodup) (hi:X.N[i]?=some x) (hx:JM X.env.scope x) (r:RelV v u)
  (h:∀s',Inv X pins (σ.set i (some v)) H s'→(∃a,Heap.SameBut a s.heap s'.heap∧(a=X.env.locals∨X.env.cells.lookup x=some a))→Q () s') (hf:X.fn x=true∨X.env.scope.names.lookup x=some .local:=by first|exact .inl rfl|exact .inr rfl|assumption):wpAny M A (storeName X.env x u) Q E s:=by
 obtain ⟨m,hn,hl⟩:=id I.loc
 have hcls:(X.env.scope.kind == .class||(X.env.scope.kind == .module&&X.env.locals != X.env.globals))=false:=by rw [I.ok.kind];rfl
 have hiσ:i<σ.length:=by rw [I.len];exact (List.getElem?_eq_some_iff.mp hi).1
 have cne:=I.cne
 have tracked:∀{a:Addr} {h':Heap},(∃o,s.heap.get? a=some o∧H a=none)→Heap.SameBut a s.heap h'→HOk X.prog X.w H h':=fun {a h'} ha hs b ob e=>by
  obtain ⟨_,_,hfree⟩:=ha
  refine (I.hok b ob e).stay (fun c w' hc q=>(hs.2 c ?_).trans q) (fun _ q=>q) fun _ _ q=>q
  rintro rfl
  rcases hc with rfl|hc
  ·rw [hfree] at e;cases e
  ·rw [hfree] at hc;cases hc
 rcases hx with hk|hk
 ·refine wpAny_storeName_local hk hn (fun h' hn' hs=>?_) hcls
  obtain ⟨oL,_,_,hoL,_⟩:=id hn
  refine h _ ⟨I.ok,I.os,I.bare,⟨fun b o e n hb hx=>?_,fun b o e n hb hx=>?_,I.base.free,fun b o e hx=>?_,I.base.tups,I.base.frzs,I.base.tbls⟩,⟨_,hn',fun j y v' e1 e2 e3=>?_⟩,fun y c e=>?_,I.free,I.freeC,fun p hp=>?_,tracked ⟨oL,hoL,I.free⟩ hs,by simpa using I.len⟩ ⟨_,hs,.inl rfl⟩
  ·exact (hs.2 b (Nat.ne_of_lt (Nat.lt_of_lt_of_le (Heap.lt_size e) I.ok.above))).trans (I.base.keep b o e n hb hx)
  ·obtain ⟨sl,e1⟩:=I.base.slot b o e n hb hx
   exact ⟨sl,(hs.2 b (Nat.ne_of_lt (Nat.lt_of_lt_of_le (Heap.lt_size e) I.ok.above))).trans e1⟩
  ·obtain ⟨o',e1⟩:=I.base.there b o e hx
   exact ⟨o',(hs.2 b (Nat.ne_of_lt (Nat.lt_of_lt_of_le (Heap.lt_size e) I.ok.above))).trans e1⟩
  ·by_cases hj:j=i
   ·subst hj
    rw [hi] at e1;cases e1
    rw [List.getElem?_set_self hiσ] at e2
    cases e2
    exact ⟨u,r,.inl ⟨hk,by simp⟩⟩
   ·rw [List.getElem?_set_ne (Ne.symm hj)] at e2
    obtain ⟨u',r',q⟩:=hl j y v' e1 e2 e3
    refine ⟨u',r',?_⟩
    rcases q with ⟨k,e⟩|⟨k,c,e,z⟩
    ·refine .inl ⟨k,?_⟩
     have:y≠x:=fun e=>hj (cD hN e1 (e▸hi))
     simp [this,e]
    ·exact .inr ⟨k,c,e,z.sameBut hs (cne y c e)⟩
  ·obtain ⟨w',z⟩:=I.cell y c e
   exact ⟨w',z.sameBut hs (cne y c e)⟩
  ·obtain ⟨e,n,ne,nf,d⟩:=I.pin p hp
   exact ⟨(hs.2 p.1 ne).trans e,n,ne,nf,d⟩
 ·have hfn:X.fn x=true:=by
   rcases hf with z|z
   ·exact z
   ·rw [z] at hk;cases hk
  obtain ⟨c,hc⟩:=I.ok.has x (.inl hk)
  obtain ⟨w',z⟩:=I.cell x c hc
  refine wpAny_storeName_cell I.ok.kind hk hc z (fun h' hc' hs=>?_)
  obtain ⟨oc,hoc,hocd⟩:=id z
  refine h {s with heap:=h'} ⟨I.ok,I.os,I.bare,⟨fun b o e n hb hx=>?_,fun b o e n hb hx=>?_,I.base.free,fun b o e hx=>?_,I.base.tups,I.base.frzs,I.base.tbls⟩,⟨m,hn.sameBut hs (Ne.symm (cne x c hc)),fun j y v' e1 e2 e3=>?_⟩,fun y c' e=>?_,I.free,I.freeC,fun p hp=>?_,tracked ⟨oc,hoc,I.freeC x c hc⟩ hs,by simpa using I.len⟩ ⟨c,hs,.inr hc⟩
  ·exact (hs.2 b (Nat.ne_of_lt (Nat.lt_of_lt_of_le (Heap.lt_size e) (I.ok.cab x c hfn hc)))).trans (I.base.keep b o e n hb hx)
  ·obtain ⟨sl,e1⟩:=I.base.slot b o e n hb hx
   exact ⟨sl,(hs.2 b (Nat.ne_of_lt (Nat.lt_of_lt_of_le (Heap.lt_size e) (I.ok.cab x c hfn hc)))).trans e1⟩
  ·obtain ⟨o',e1⟩:=I.base.there b o e hx
   exact ⟨o',(hs.2 b (Nat.ne_of_lt (Nat.lt_of_lt_of_le (Heap.lt_size e) (I.ok.cab x c hfn hc)))).trans e1⟩
  ·by_cases hj:j=i
   ·subst hj
    rw [hi] at e1;cases e1
    rw [List.getElem?_set_self hiσ] at e2
    cases e2
    exact ⟨u,r,.inr ⟨.inl hk,c,hc,hc'⟩⟩
   ·rw [List.getElem?_set_ne (Ne.symm hj)] at e2
    obtain ⟨u',r',q⟩:=hl j y v' e1 e2 e3
    refine ⟨u',r',?_⟩
    rcases q with q|⟨k,c',e,z'⟩
    ·exact .inl q
    ·refine .inr ⟨k,c',e,z'.sameBut hs ?_⟩
     rintro rfl
     exact hj (cD hN e1 (I.ok.inj _ _ _ e hc▸hi))
  ·by_cases hcc:c'=c
   ·subst hcc;exact ⟨_,hc'⟩
   ·obtain ⟨w2,z2⟩:=I.cell y c' e
    exact ⟨w2,z2.sameBut hs hcc⟩
  ·obtain ⟨e,n,ne,nf,d⟩:=I.pin p hp
   refine ⟨(hs.2 p.1 ?_).trans e,n,ne,nf,d⟩
   intro q
   rw [q,hoc] at e
   have q':oc=p.2:=Option.some.inj e
   exact d w' (by rw [← q'];exact hocd)
theorem bW {M:Model} {A:Around} {E:Value→Shared→Prop} {i:Nat} {x:Str} {v:V} {u:Value} {Q:Unit→Shared→Prop} (I:Inv X pins σ H s) (hN:X.N.Nodup) (hi:X.N[i]?=some x) (hx:JM X.env.scope x) (r:RelV v u)
  (h:∀s',Inv X pins (σ.set i (some v)) H s'→Q () s') (hf:X.fn x=true∨X.env.scope.names.lookup x=some .local:=by first|exact .inl rfl|exact .inr rfl|assumption):wpAny M A (storeName X.env x u) Q E s :=
 bK I hN hi hx r (fun s' I' _=>h s' I') hf
theorem Inv.call' {s':Shared} {ch:List Addr} (I:Inv X pins σ H s) (ho:s'.os=s.os) (u:Un (qW X.stack) ch H H' s.heap s'.heap) (hok:HOk X.prog X.w H' s'.heap) (hg:AllBare s'.gens)
  (hch:∀b∈ch,(b∈X.ex∨X.s₀.heap.objs.size≤b)∧b≠X.env.locals∧(∀x c,X.env.cells.lookup x=some c→c≠b)∧∀p∈X.pn++pins,p.1≠b):Inv X pins σ H' s':=by
 obtain ⟨h',g',d',t',o'⟩:=s'
 have e:o'=s.os:=ho
 subst e
 exact I.call (g':=g') (t':=t') (d':=d') u hok hg hch
end
abbrev XK:=Value→Option Addr→Hp→Prop
abbrev St:=List (Option V)
abbrev VK:=V→Hp→Prop
abbrev TE:=St→Hp→VK→Prop
abbrev TT:=St→Hp→(Bool→Hp→Prop)→Prop
abbrev TA:=St→Hp→(List V→Hp→Prop)→Prop
structure Ends where
 nx:St→Hp→Prop
 rt:VK
 bk:St→Hp→Prop:=fun _ _=>False
 ct:St→Hp→Prop:=fun _ _=>False
abbrev TS:=Ends→St→Hp→Prop
def EP (X:Cx) (pins:List (Addr×Obj)) (σ:St) (Q:VK) (u:Value) (s':Shared):Prop:=∃v H',Inv X pins σ H' s'∧RelV v u∧Q v H'
def TP (X:Cx) (pins:List (Addr×Obj)) (σ:St) (Q:Bool→Hp→Prop) (b:Bool) (s':Shared):Prop:=∃H',Inv X pins σ H' s'∧Q b H'
def AP (X:Cx) (pins:List (Addr×Obj)) (σ:St) (Q:List V→Hp→Prop) (us:List Value) (s':Shared):Prop:=∃vs H',Inv X pins σ H' s'∧Vals vs us∧Q vs H'
def SP (X:Cx) (pins:List (Addr×Obj)) (D:Ends) (f:Flow) (s':Shared):Prop :=
 match f with
 |.next=>∃σ' H',Inv X pins σ' H' s'∧D.nx σ' H'
 |.brk=>∃σ' H',Inv X pins σ' H' s'∧D.bk σ' H'
 |.cont=>∃σ' H',Inv X pins σ' H' s'∧D.ct σ' H'
 |.ret u=>∃v σ' H',Inv X pins σ' H' s'∧RelV v u∧D.rt v H'
def PE (X:Cx) (e:Expr) (t:TE):Prop :=
 ∀(pins:List (Addr×Obj)) (s:Shared) (σ:St) (H:Hp) (Q:VK),Inv X pins σ H s→t σ H Q→wpAny (model X.prog X.w) X.A (eval e X.env) (EP X pins σ Q) X.xe s
def PT (X:Cx) (e:Expr) (t:TT):Prop :=
 ∀(pins:List (Addr×Obj)) (s:Shared) (σ:St) (H:Hp) (Q:Bool→Hp→Prop),Inv X pins σ H s→t σ H Q→wpAny (model X.prog X.w) X.A (isTrue e X.env (eval e X.env)) (TP X pins σ Q) X.xe s
def PW (X:Cx) (e:Expr) (t:TT):Prop :=
 ∀(whole:Sem Value) (pins:List (Addr×Obj)) (s:Shared) (σ:St) (H:Hp) (Q:Bool→Hp→Prop),Inv X pins σ H s→t σ H Q→wpAny (model X.prog X.w) X.A (isTrue e X.env whole) (TP X pins σ Q) X.xe s
theorem PW.pt {X:Cx} {e:Expr} {t:TT} (h:PW X e t):PT X e t:=h _
def PA (X:Cx) (es:List Expr) (t:TA):Prop :=
 ∀(pos:Pos) (pins:List (Addr×Obj)) (s:Shared) (σ:St) (H:Hp) (Q:List V→Hp→Prop),Inv X pins σ H s→t σ H Q→wpAny (model X.prog X.w) X.A (spliced (backTo pos (starEach es X.env))) (AP X pins σ Q) X.xe s
def PS (X:Cx) (st:Stmt) (t:TS):Prop :=
 ∀(pins:List (Addr×Obj)) (s:Shared) (σ:St) (H:Hp) (D:Ends),Inv X pins σ H s→t D σ H→wpAny (model X.prog X.w) X.A (exec st X.env) (SP X pins D) X.xe s
def PSs (X:Cx) (st:List Stmt) (t:TS):Prop :=
 ∀(pins:List (Addr×Obj)) (s:Shared) (σ:St) (H:Hp) (D:Ends),Inv X pins σ H s→t D σ H→wpAny (model X.prog X.w) X.A (execs st X.env) (SP X pins D) X.xe s
theorem jK {α:Type} {t:Sem α} {Q Q':α→Shared→Prop} {M:Model} {A:Around} {E:Value→Shared→Prop} {s:Shared} (h:wpAny M A t Q E s) (hQ:∀a s,Q a s→Q' a s):wpAny M A t Q' E s:=wpAny_mono h hQ fun _ _ x=>x
end L2
namespace L2
open PySem PySem.Spec PyProof.Rows
section
variable {X:Cx}
def d8 (i:Nat):TE:=fun σ H Q=>∃v,σ[i]?=some (some v)∧Q v H
def tC (v:V):TE:=fun _ H Q=>Q v H
theorem nL {i:Nat} {x:Str} {pos:Pos} (hN:X.N[i]?=some x) (hv:QI X.env.scope x) (hd:(x == ("__debug__":Str))=false:=by decide) (hcd:(x == ("__classdict__":Str))=false:=by decide):PE X (.Name x pos) (d8 i):=by
 intro pins s σ H Q I h
 obtain ⟨v,e,h⟩:=h
 obtain ⟨m,hn,hl⟩:=I.loc
 obtain ⟨u,r,l⟩:=hl i x v hN e hv
 have fin:EP X pins σ Q u s:=⟨v,H,I,r,h⟩
 rcases l with ⟨hk,hm⟩|⟨hk,c,hc,hcell⟩
 ·exact wpAny_Name (wpAny_loadName_local I.ok.kind hk hn hm fin) hd
 ·rcases hk with hk|hk
  ·exact wpAny_Name (wpAny_loadName_cell I.ok.kind hk hc hcell fin) hd
  ·exact wpAny_Name (wpAny_loadName_free I.ok.kind hk hc hcell fin hcd) hd
theorem jB {i j pos}:PE X (.Constant (.int i) j pos) (tC (.int i)):=fun _ _ _ H _ I h=>wpAny_Constant_int ⟨.int i,H,I.tok _,⟨_,rfl⟩,h⟩
theorem nN {j pos}:PE X (.Constant .none j pos) (tC .non):=fun _ _ _ H _ I h=>Constant_none ⟨.non,H,I,rfl,h⟩
theorem jQ {x j pos}:PE X (.Constant (.str x) j pos) (tC (.str x)):=fun _ _ _ H _ I h=>Calls.Constant_str ⟨.str x,H,I.tok _,⟨_,rfl⟩,h⟩
def Gl (X:Cx) (x:Str):Prop:=X.env.kindOf x=some .globalImplicit
theorem ZE {E:Value→Shared→Prop} {pins:List (Addr×Obj)} {s:Shared} {σ:St} {H:Hp} {x:Str} {u:Value} {pos:Pos} {Q:Value→Shared→Prop} (I:Inv X pins σ H s) (hg:Gl X x) (hm:X.mg x=some u) (h:Q u s)
  (hd:(x == ("__debug__":Str))=false:=by decide):wpAny (model X.prog X.w) X.A (eval (.Name x pos) X.env) Q E s :=
 Calls.Name_function_global I.ok.kind hg (Calls.loadGlobal_global (by rw [I.ok.glob];exact I.mod.glob.keeps I.bk) hm h) hd
theorem zO {E:Value→Shared→Prop} {pins:List (Addr×Obj)} {s:Shared} {σ:St} {H:Hp} {x:Str} {u:Value} {pos:Pos} {Q:Value→Shared→Prop} (I:Inv X pins σ H s) (hg:Gl X x) (hm:X.mg x=none) (hv:bootBuiltins x=some u) (h:Q u s)
  (hn:x≠"__name__":=by decide) (hd:(x == ("__debug__":Str))=false:=by decide):wpAny (model X.prog X.w) X.A (eval (.Name x pos) X.env) Q E s:=by
 obtain ⟨mb,h1,h2⟩:=I.mod.blt
 exact Calls.Name_function_global I.ok.kind hg (Calls.loadGlobal_builtin (by rw [I.ok.glob];exact I.mod.glob.keeps I.bk) hm (by rw [I.ok.blt];exact h1.keeps I.bk) ((h2 x hn).trans hv) h) hd
theorem cZ {x:Str} {v:V} {u:Value} {pos:Pos} (hg:Gl X x) (hm:X.mg x=some u) (r:RelV v u) (hd:(x == ("__debug__":Str))=false:=by decide):PE X (.Name x pos) (tC v) :=
 fun _ _ _ H _ I h=>ZE I hg hm ⟨v,H,I,r,h⟩ hd
theorem mQ {x:Str} {v:V} {u:Value} {pos:Pos} (hg:Gl X x) (hm:X.mg x=none) (hv:bootBuiltins x=some u) (r:RelV v u) (hn:x≠"__name__":=by decide) (hd:(x == ("__debug__":Str))=false:=by decide):PE X (.Name x pos) (tC v) :=
 fun _ _ _ H _ I h=>zO I hg hm hv ⟨v,H,I,r,h⟩ hn hd
variable {a b:Expr} {ta tb:TE} {pos:Pos}
variable {tA tB':TT} {rest:List Expr}
def pE (t u:TT):TT:=fun σ H Q=>t σ H fun c H1=>if c=true then u σ H1 Q else Q false H1
theorem cY (ha:PT X a tA):PW X (.BoolOp .And [a] pos) tA:=by
 intro wh pins s σ H Q I h
 refine isTrue_and (jK (ha pins s σ H Q I h) fun c s1 e=>?_)
 cases c with
 |true=>exact isTrue_and_nil e
 |false=>exact e
theorem ZJ (ha:PT X a tA) (hb:PW X (.BoolOp .And (b::rest) pos) tB'):PW X (.BoolOp .And (a::b::rest) pos) (pE tA tB'):=by
 intro wh pins s σ H Q I h
 refine isTrue_and (jK (ha pins s σ H _ I h) fun c s1 ⟨H1,I1,q1⟩=>?_)
 cases c with
 |true=>exact hb wh pins s1 σ H1 Q I1 q1
 |false=>exact ⟨H1,I1,q1⟩
def oC (ta tb:TE):TE:=fun σ H Q=>ta σ H fun x H1=>∃c,x=.bl c∧if c=true then tb σ H1 Q else Q (.bl false) H1
theorem nM {op} {t:TE} (h:PE X a t):PE X (.BoolOp op [a] pos) t:=fun pins s σ H Q I hw=>BoolOp_one (h pins s σ H Q I hw)
theorem nP (ha:PE X a ta) (hb:PE X (.BoolOp .And (b::rest) pos) tb):PE X (.BoolOp .And (a::b::rest) pos) (oC ta tb):=by
 intro pins s σ H Q I h
 refine BoolOp_and (jK (ha pins s σ H _ I h) fun v s1 ⟨x,H1,I1,r1,q1⟩=>?_)
 obtain ⟨c,rfl,q1⟩:=q1
 cases r1
 refine wpAny_truthy_bool ?_
 cases c with
 |true=>exact hb pins s1 σ H1 Q I1 q1
 |false=>exact ⟨.bl false,H1,I1,rfl,q1⟩
def p6 (t:TT) (ta tb:TE):TE:=fun σ H Q=>t σ H fun c H1=>if c=true then ta σ H1 Q else tb σ H1 Q
theorem J0 {c:Expr} (hc:PT X c tA) (ha:PE X a ta) (hb:PE X b tb):PE X (.IfExp c a b pos) (p6 tA ta tb):=by
 intro pins s σ H Q I h
 refine wpAny_IfExp (jK (hc pins s σ H _ I h) fun d s1 ⟨H1,I1,q1⟩=>?_)
 cases d with
 |true=>exact ha pins s1 σ H1 Q I1 q1
 |false=>exact hb pins s1 σ H1 Q I1 q1
end
end L2
namespace L2
open PySem PySem.Spec PyProof.Rows
def SqL (K:PySem.W.Frag) (H:Hp) (a:Addr) (xs:List V):Prop :=
 Rd H a (.lst xs)∨
  ∃(o:Obj) (its:Array Value) (n:Nat),K.lookup a=some o∧o.cls=.type "list"∧o.dict=none∧o.data=.seq its n∧its.size≤sizeLine∧Vals xs its.toList
def SqT (K:PySem.W.Frag) (H:Hp) (a:Addr) (xs:List V):Prop :=
 Rd H a (.tup xs)∨
  ∃(o:Obj) (its:Array Value) (n:Nat),K.lookup a=some o∧o.cls=.type "tuple"∧o.data=.seq its n∧its.size≤sizeLine∧Vals xs its.toList
def pU:Value→Option V
 |.none=>some .non
 |.bool b=>some (.bl b)
 |.int i _=>some (.int i)
 |.str x _=>some (.str x)
 |.bytes b _=>some (.byt b)
 |.float b _=>some (.flt b)
 |.ref a=>some (.ref a)
 |.type n=>some (.ty n)
 |_=>none
theorem RelV.abs {x:V} {u:Value} (r:RelV x u):pU u=some x:=by
 cases x with
 |non=>cases r;rfl
 |bl _=>cases r;rfl
 |int _=>obtain ⟨t,rfl⟩:=r;rfl
 |str _=>obtain ⟨t,rfl⟩:=r;rfl
 |byt _=>obtain ⟨t,rfl⟩:=r;rfl
 |flt _=>obtain ⟨t,rfl⟩:=r;rfl
 |ref _=>cases r;rfl
 |ty _=>cases r;rfl
theorem RelV.inj {x y:V} {u:Value} (r:RelV x u) (q:RelV y u):x=y:=Option.some.inj (r.abs.symm.trans q.abs)
theorem Vals.inj:∀{xs ys:List V} {us:List Value},Vals xs us→Vals ys us→xs=ys
 |_,_,_,.nil,.nil=>rfl
 |_,_,_,.cons r t,.cons r' t'=>by rw [r.inj r',Vals.inj t t']
section
variable {X:Cx} {pins:List (Addr×Obj)} {σ:St} {H:Hp} {s:Shared} {a:Addr} {xs ys:List V}
theorem SqL.of {K:PySem.W.Frag} (h:H a=some (.lst xs)):SqL K H a xs:=.inl (.inl h)
theorem SqT.of {K:PySem.W.Frag} (h:H a=some (.tup xs)):SqT K H a xs:=.inl (.inl h)
theorem Inv.list (I:Inv X pins σ H s) (h:SqL X.K H a xs):∃its:List Value,Vals xs its∧PlainL s.heap a its.toArray∧xs.length≤sizeLine:=by
 rcases h with h|⟨o,its,n,hk,hc,hd,hs,hz,r⟩
 ·obtain ⟨z,its,n,r,e⟩:=h.ok I.hok
  exact ⟨its,r,⟨_,n,e,rfl,rfl,rfl⟩,z⟩
 ·refine ⟨its.toList,r,⟨o,n,I.kIn a o hk,hc,hd,by simpa using hs⟩,?_⟩
  have e:=r.length
  simp only [Array.length_toList] at e
  omega
theorem Inv.tuple (I:Inv X pins σ H s) (h:SqT X.K H a xs):∃its:List Value,Vals xs its∧IsTup s.heap a its.toArray∧xs.length≤sizeLine:=by
 rcases h with h|⟨o,its,n,hk,hc,hs,hz,r⟩
 ·obtain ⟨z,its,r,p⟩:=h.ok I.hok
  exact ⟨its,r,p,z⟩
 ·refine ⟨its.toList,r,⟨o,I.kIn a o hk,hc,n,by simpa using hs⟩,?_⟩
  have e:=r.length
  simp only [Array.length_toList] at e
  omega
theorem Inv.list_inj (I:Inv X pins σ H s) (h:SqL X.K H a xs) (h':SqL X.K H a ys):xs=ys:=by
 obtain ⟨its,r,⟨o,n,e,_,_,d⟩,_⟩:=I.list h
 obtain ⟨its',r',⟨o',n',e',_,_,d'⟩,_⟩:=I.list h'
 rw [e] at e';cases e'
 rw [d] at d'
 injection d' with d1 _
 have:its=its':=by simpa using congrArg Array.toList d1
 subst this
 exact r.inj r'
theorem Inv.tuple_inj (I:Inv X pins σ H s) (h:SqT X.K H a xs) (h':SqT X.K H a ys):xs=ys:=by
 obtain ⟨its,r,⟨o,e,_,n,d⟩,_⟩:=I.tuple h
 obtain ⟨its',r',⟨o',e',_,n',d'⟩,_⟩:=I.tuple h'
 rw [e] at e';cases e'
 rw [d] at d'
 injection d' with d1 _
 have:its=its':=by simpa using congrArg Array.toList d1
 subst this
 exact r.inj r'
end
abbrev Cx.wish (X:Cx) (E:Value→Shared→Prop):Cx:={X with xe:=E}
abbrev Cx.nox (X:Cx):Cx:=X.wish fun _ _=>False
theorem Cx.Ok.wish {X:Cx} (ok:X.Ok) (E:Value→Shared→Prop):(X.wish E).Ok :=
 ⟨ok.mod,ok.kind,ok.glob,ok.blt,ok.above,ok.inj,ok.has,ok.cab,ok.hd,ok.frames,ok.stk,ok.exf,ok.bs,ok.bsz,ok.noex,ok.exfs,ok.funs,ok.frf⟩
theorem Cx.Ok.unwish {X:Cx} {E:Value→Shared→Prop} (ok:(X.wish E).Ok):X.Ok :=
 ⟨ok.mod,ok.kind,ok.glob,ok.blt,ok.above,ok.inj,ok.has,ok.cab,ok.hd,ok.frames,ok.stk,ok.exf,ok.bs,ok.bsz,ok.noex,ok.exfs,ok.funs,ok.frf⟩
section
variable {X:Cx} {pins:List (Addr×Obj)} {σ:St} {H:Hp} {s:Shared} {E:Value→Shared→Prop}
theorem Inv.wish (I:Inv X pins σ H s) (E:Value→Shared→Prop):Inv (X.wish E) pins σ H s:=⟨I.ok.wish E,I.os,I.bare,I.base,I.loc,I.cell,I.free,I.freeC,I.pin,I.hok,I.len⟩
theorem Inv.unwish (I:Inv (X.wish E) pins σ H s):Inv X pins σ H s:=⟨I.ok.unwish,I.os,I.bare,I.base,I.loc,I.cell,I.free,I.freeC,I.pin,I.hok,I.len⟩
theorem SP.unwish {D:Ends} {f:Flow} {s':Shared} (h:SP (X.wish E) pins D f s'):SP X pins D f s':=by
 cases f with
 |next=>obtain ⟨σ',H',I,q⟩:=h;exact ⟨σ',H',I.unwish,q⟩
 |brk=>obtain ⟨σ',H',I,q⟩:=h;exact ⟨σ',H',I.unwish,q⟩
 |cont=>obtain ⟨σ',H',I,q⟩:=h;exact ⟨σ',H',I.unwish,q⟩
 |ret u=>obtain ⟨v,σ',H',I,r,q⟩:=h;exact ⟨v,σ',H',I.unwish,r,q⟩
theorem PSs.nox {st:List Stmt} {t:TS} (h:PSs X.nox st t):PSs X st t:=fun pins s σ H D I hw =>
 wpAny_mono (h pins s σ H D (I.wish _) hw) (fun _ _ q=>q.unwish) fun _ _ z=>False.elim z
end
section
variable {X:Cx} {st:Stmt} {rest:List Stmt} {t u:TS} {e:Expr} {te:TE} {pos:Pos}
def n4:TS:=fun D σ H=>D.nx σ H
def o6 (t u:TS):TS:=fun D σ H=>t {D with nx:=u D} σ H
theorem kM:PSs X [] n4:=fun _ _ σ H _ I h=>wpAny_execs_nil ⟨σ,H,I,h⟩
theorem jI (h1:PS X st t) (h2:PSs X rest u):PSs X (st::rest) (o6 t u):=by
 intro pins s σ H D I h
 refine wpAny_execs_cons (jK (h1 pins s σ H {D with nx:=u D} I h) fun f s1 q=>?_)
 cases f with
 |next =>
  obtain ⟨σ',H',I',q⟩:=q
  exact h2 pins s1 σ' H' D I' q
 |ret v=>exact q
 |brk=>exact q
 |cont=>exact q
theorem jL (h1:PS X st t):PSs X [st] t:=by
 intro pins s σ H D I h
 refine wpAny_execs_cons (jK (h1 pins s σ H D I h) fun f s1 q=>?_)
 cases f with
 |next=>exact wpAny_execs_nil q
 |ret v=>exact q
 |brk=>exact q
 |cont=>exact q
theorem Inv.quiet {pins:List (Addr×Obj)} {σ:St} {H:Hp} {s:Shared} (I:Inv X pins σ H s):interactive X.env=false:=by simp [interactive,I.ok.kind]
def n5 (te:TE):TS:=fun D σ H=>te σ H fun _ H1=>D.nx σ H1
theorem qO (he:PE X e te) (hs:swapsWith e none pos.line X.env=pure false:=by rfl):PS X (.Expr e pos) (n5 te):=by
 intro pins s σ H D I h
 exact wpAny_Expr_any (jK (he pins s σ H _ I h) fun v s1 ⟨x,H1,I1,r1,q1⟩=>⟨σ,H1,I1,q1⟩) I.quiet hs
def o7 (te:TE):TS:=fun D σ H=>te σ H D.rt
theorem j4 (he:PE X e te):PS X (.Return (some e) pos) (o7 te):=by
 intro pins s σ H D I h
 exact wpAny_Return_some (jK (he pins s σ H _ I h) fun v s1 ⟨x,H1,I1,r1,q1⟩=>⟨x,σ,H1,I1,r1,q1⟩)
def o9 (c:TT) (t u:TS):TS:=fun D σ H=>c σ H fun b H1=>if b=true then t D σ H1 else u D σ H1
theorem kJ {c:Expr} {a b:List Stmt} {tc:TT} (hc:PT X c tc) (ha:PSs X a t) (hb:PSs X b u):PS X (.If c a b pos) (o9 tc t u):=by
 intro pins s σ H D I h
 refine wpAny_If (jK (hc pins s σ H _ I h) fun d s1 ⟨H1,I1,q1⟩=>?_)
 cases d with
 |true=>exact ha pins s1 σ H1 D I1 q1
 |false=>exact hb pins s1 σ H1 D I1 q1
end
abbrev TG:=V→St→Hp→(St→Hp→Prop)→Prop
abbrev yV:=List V→St→Hp→(St→Hp→Prop)→Prop
def PG (X:Cx) (target:Expr) (t:TG):Prop :=
 ∀(pins:List (Addr×Obj)) (s:Shared) (σ:St) (H:Hp) (v:V) (u:Value) (Q:St→Hp→Prop),Inv X pins σ H s→RelV v u→t v σ H Q→
  wpAny (model X.prog X.w) X.A (assign target X.env u) (fun _ s'=>∃σ' H',Inv X pins σ' H' s'∧Q σ' H') X.xe s
def QK (X:Cx) (ts:List Expr) (t:yV):Prop :=
 ∀(pins:List (Addr×Obj)) (s:Shared) (σ:St) (H:Hp) (vs:List V) (us:List Value) (Q:St→Hp→Prop),Inv X pins σ H s→Vals vs us→t vs σ H Q→
  wpAny (model X.prog X.w) X.A (assignInOrder ((assignEach ts X.env).map (·.2)) us) (fun _ s'=>∃σ' H',Inv X pins σ' H' s'∧Q σ' H') X.xe s
abbrev ZT:=V→V→V→Hp→(Hp→Prop)→Prop
def eJ (X:Cx) (t:ZT):Prop :=
 ∀(pins:List (Addr×Obj)) (s:Shared) (σ:St) (H:Hp) (o i v:V) (ov iv u:Value) (Q:Hp→Prop),Inv X pins σ H s→RelV o ov→RelV i iv→RelV v u→t o i v H Q→
  wpAny (model X.prog X.w) X.A (setItem ov iv u) (fun _ s'=>∃H',Inv X pins σ H' s'∧Q H') X.xe s
section
variable {X:Cx} {pos:Pos}
def JG (i:Nat):TG:=fun v σ H Q=>Q (σ.set i (some v)) H
theorem j5 {i:Nat} {x:Str} (hN:X.N.Nodup) (hi:X.N[i]?=some x) (hx:JM X.env.scope x) (hf:X.fn x=true∨X.env.scope.names.lookup x=some .local:=by first|exact .inl rfl|exact .inr rfl|assumption):PG X (.Name x pos) (JG i):=by
 intro pins s σ H v u Q I r h
 exact wpAny_assign_Name (bW I hN hi hx r (fun s' I'=>⟨_,H,I',h⟩) hf)
def pS:yV:=fun vs σ H Q=>vs=[]∧Q σ H
def oX (t:TG) (u:yV):yV:=fun vs σ H Q=>∃v r,vs=v::r∧t v σ H fun σ' H'=>u r σ' H' Q
theorem ZD:QK X [] pS:=by
 intro pins s σ H vs us Q I r h
 obtain ⟨e,h⟩:=h
 subst e
 cases r
 exact assignInOrder_nil ⟨σ,H,I,h⟩
theorem v8 {e:Expr} {es:List Expr} {t:TG} {u:yV} (h1:PG X e t) (h2:QK X es u)
  (hs:(assignEach (e::es) X.env).map (·.2)=assign e X.env::(assignEach es X.env).map (·.2):=by rfl):QK X (e::es) (oX t u):=by
 intro pins s σ H vs us Q I r h
 obtain ⟨v,vr,e1,h⟩:=h
 subst e1
 cases r with
 |cons r rr =>
  rw [hs]
  refine assignInOrder_cons (jK (h1 pins s σ H _ _ _ I r h) fun _ s1 ⟨σ1,H1,I1,q1⟩=>?_)
  exact h2 pins s1 σ1 H1 _ _ Q I1 rr q1
def pQ (K:PySem.W.Frag) (n:Nat) (t:yV):TG:=fun v σ H Q=>∃a xs,v=.ref a∧SqT K H a xs∧xs.length=n∧t xs σ H Q
theorem ZK {es:List Expr} {k:Nat} {t:yV} {n:Nat} (hc:X.calm=true) (h:QK X es t)
  (hn:(assignEach es X.env).length=n:=by rfl) (hst:(assignEach es X.env).findIdx? (·.1)=none:=by rfl):PG X (.Tuple es k pos) (pQ X.K n t):=by
 intro pins s σ H v u Q I r hw
 obtain ⟨a,xs,e1,hq,hl,hw⟩:=hw
 subst e1
 cases r
 obtain ⟨its,rv,ht,hz⟩:=I.tuple hq
 refine assign_Tuple_tuple (I.ok.hd hc) ht (by simp [hn,← hl,rv.length]) hst fun h' hx=>?_
 have I1:Inv X pins σ H {s with heap:=h'}:=I.kept (t':=s.toks) fun b o e=>hx b o (Nat.ne_of_lt (Heap.lt_size e)) e
 exact h pins _ σ H xs _ Q I1 (by simpa using rv) hw
def pR (to ti:TE) (t:ZT):TG:=fun v σ H Q=>to σ H fun o H1=>ti σ H1 fun i H2=>t o i v H2 fun H3=>Q σ H3
theorem J9 {o i:Expr} {to ti:TE} {t:ZT} (ho:PE X o to) (hi:PE X i ti) (hs:eJ X t)
  (ha:∀v,assign (.Subscript o i pos) X.env v=(do
   let ov ← holding [v] (eval o X.env)
   let iv ← holding [v,ov] (eval i X.env)
   standAt pos
   holding [v,ov,iv] (setItem ov iv v)
   release [v,ov,iv] []):=by intro _;rfl):PG X (.Subscript o i pos) (pR to ti t):=by
 intro pins s σ H v u Q I r h
 rw [ha]
 refine wpAny_bind (wpAny_holding (jK (ho pins s σ H _ I h) fun ov s1 ⟨x,H1,I1,r1,q1⟩=>?_))
 refine wpAny_bind (wpAny_holding (jK (hi pins s1 σ H1 _ I1 q1) fun iv s2 ⟨y,H2,I2,r2,q2⟩=>?_))
 refine wpAny_bind (wpAny_standAt (wpAny_bind (wpAny_holding (jK (hs pins s2 σ H2 x y v ov iv u _ I2 r1 r2 r q2) fun _ s3 ⟨H3,I3,q3⟩=>?_))))
 exact wpAny_release ⟨σ,H3,I3,q3⟩
def eA (te:TE) (g:TG):TS:=fun D σ H=>te σ H fun x H1=>g x σ H1 D.nx
theorem J8 {tg e:Expr} {te:TE} {g:TG} (he:PE X e te) (hg:PG X tg g) (hs:swapsWithSole [tg] e pos.line X.env=pure false:=by rfl) (hw:swappedStores [tg] e X.env=pure none:=by rfl)
  (h1:(assignEach [tg] X.env).map (·.2)=[assign tg X.env]:=by rfl):PS X (.Assign [tg] e pos) (eA te g):=by
 intro pins s σ H D I h
 refine wpAny_Assign_stores (jK (he pins s σ H _ I h) fun v s1 ⟨x,H1,I1,r1,q1⟩=>?_) hs hw
 rw [h1]
 exact jK (hg pins s1 σ H1 x v _ I1 r1 q1) fun _ s2 q=>q
theorem jP {i:Nat} {x:Str} {e:Expr} {te:TE} {pos':Pos} (hN:X.N.Nodup) (hi:X.N[i]?=some x) (hx:JM X.env.scope x) (he:PE X e te) (hs:swapsWith e (some (.Name x pos')) pos.line X.env=pure false:=by rfl) (hf:X.fn x=true∨X.env.scope.names.lookup x=some .local:=by first|exact .inl rfl|exact .inr rfl|assumption) :
  PS X (.Assign [.Name x pos'] e pos) (eA te (JG i)):=by
 intro pins s σ H D I h
 refine wpAny_Assign_Name (jK (he pins s σ H _ I h) fun v s1 ⟨y,H1,I1,r1,q1⟩=>?_) hs
 exact bW I1 hN hi hx r1 (fun s2 I2=>⟨_,H1,I2,q1⟩) hf
end
section
variable {X:Cx} {pos:Pos}
end
structure It where
 go:Nat→Hp→Prop
 yld:Nat→Hp→V→Hp→Prop
 stop:Nat→Hp→Prop
def qV (X:Cx) (pins:List (Addr×Obj)) (H:Hp) (b:Addr):Prop :=
 H b=none∧b≠X.env.locals∧b∉X.fs∧(b∈X.ex∨X.s₀.heap.objs.size≤b)∧(∀x c,X.env.cells.lookup x=some c→c≠b)∧∀p∈X.pn++pins,p.1≠b
theorem Inv.fpOk {X:Cx} {pins:List (Addr×Obj)} {σ:St} {H H':Hp} {s:Shared} {b:Addr} (I:Inv X pins σ H s) (hb:s.heap.objs.size≤b) (hn:H' b=none):qV X pins H' b:=by
 refine ⟨hn,Nat.ne_of_gt (Nat.lt_of_lt_of_le I.lt hb),I.nofs hb,.inr (Nat.le_trans I.sz hb),fun x c e z=>?_,fun p hp z=>?_⟩
 ·obtain ⟨v,q⟩:=I.cell x c e
  exact absurd (Nat.lt_of_lt_of_le q.lt (by rw [z];exact hb)) (Nat.lt_irrefl _)
 ·exact absurd (Nat.lt_of_lt_of_le (Heap.lt_size (I.pin p hp).1) (by rw [z];exact hb)) (Nat.lt_irrefl _)
structure Turn (P:Program) (w:World) (K:PySem.W.Frag) (tg:Expr) (J:It) (fp:List Addr) (it:Addr) (tn:Nat→Heap→Prop):Prop where
 mem:it∈fp
 obj:∀i h,tn i h→∀b∈fp,∃o,h.get? b=some o∧∀v,o.data≠.cell v
 keep:∀i h h',tn i h→(∀b∈fp,∀o,h.get? b=some o→h'.get? b=some o)→tn i h'
 item:∀(X:Cx),X.prog=P→X.w=w→X.K=K→X.calm=true→∀(i:Nat) (pins:List (Addr×Obj)) (s:Shared) (σ:St) (H:Hp) (E:Value→Shared→Prop),Inv X pins σ H s→(∀b∈fp,qV X pins H b)→tn i s.heap→J.go i H→
  wpAny (model P w) X.A (pyNext (.ref it)) (fun r s1=>∃u,r=some u∧
   wpAny (model P w) X.A (letOwnedTupleGo tg (.ref it) u) (fun _ s2=>∃x H',Inv X pins σ H' s2∧RelV x u∧J.yld i H x H'∧tn (i+1) s2.heap∧∀b∈fp,H' b=none) E s1) E s
 done:∀(X:Cx),X.prog=P→X.w=w→X.K=K→X.calm=true→∀(i:Nat) (pins:List (Addr×Obj)) (s:Shared) (σ:St) (H:Hp) (E:Value→Shared→Prop),Inv X pins σ H s→(∀b∈fp,qV X pins H b)→tn i s.heap→J.stop i H→
  wpAny (model P w) X.A (pyNext (.ref it)) (fun r s1=>r=none∧Inv X pins σ H s1) E s
 self:∀(A:Around) (i:Nat) (s:Shared) (Q:Value→Shared→Prop) (E:Value→Shared→Prop),tn i s.heap→Q (.ref it) s→wpAny (model P w) A (pyIter (.ref it)) Q E s
abbrev TI:=St→Hp→(It→Hp→Prop)→Prop
def ZZ (X:Cx) (pins:List (Addr×Obj)) (σ:St) (tg:Expr) (R:It→Hp→Prop) (itv:Value) (s2:Shared):Prop :=
 ∃(it:Addr) (fp:List Addr) (tn:Nat→Heap→Prop) (J:It) (H':Hp),itv=.ref it∧Inv X pins σ H' s2∧Turn X.prog X.w X.K tg J fp it tn∧tn 0 s2.heap∧(∀b∈fp,qV X pins H' b)∧R J H'
def PI (X:Cx) (tg iter:Expr) (wi:TI):Prop :=
 ∀(pins:List (Addr×Obj)) (s:Shared) (σ:St) (H:Hp) (R:It→Hp→Prop),Inv X pins σ H s→wi σ H R→
  wpAny (model X.prog X.w) X.A (eval iter X.env) (fun v s1=>wpAny (model X.prog X.w) X.A (pyIter v) (ZZ X pins σ tg R) X.xe s1) X.xe s
theorem QC {M:Model} {A:Around} {E:Value→Shared→Prop} {s:Shared} {tg:Expr} {it:Addr} {u:Value} {o:Obj} {n:String} {vs:Array Value} {Q:Unit→Shared→Prop} (ho:s.heap.get? it=some o) (hc:o.cls=.type n) (hd:o.data=.fields vs)
    (hn:["enumerate","zip","dict_itemiterator","dict_reverseitemiterator","odict_iterator","itertools.zip_longest","itertools.pairwise"].contains n=false) (hQ:Q () s):wpAny M A (letOwnedTupleGo tg (.ref it) u) Q E s:=by
  unfold letOwnedTupleGo
  cases tg<;>first
    |exact wpAny_pure hQ
    | (cases u<;>first
        |exact wpAny_pure hQ
        | (refine wpAny_bind (wpAny_load ho ?_)
           rw [hc,hd]
           show wpAny M A (if (["enumerate","zip","dict_itemiterator","dict_reverseitemiterator","odict_iterator","itertools.zip_longest","itertools.pairwise"].contains n&&vs[0]? == some (rawInt _))=true then _ else _) Q E s
           rw [if_neg (by intro h;rw [hn,Bool.false_and] at h;cases h)]
           exact wpAny_pure hQ))
def yW (K:PySem.W.Frag) (a:Addr):It :=
 ⟨fun i H=>∃xs x,SqL K H a xs∧xs[i]?=some x,fun i H x H'=>H'=H∧∀xs,SqL K H a xs→xs[i]?=some x,fun i H=>∃xs,SqL K H a xs∧xs.length≤i⟩
def QN (K:PySem.W.Frag) (a:Addr):It :=
 ⟨fun i H=>∃xs x,SqT K H a xs∧xs[i]?=some x,fun i H x H'=>H'=H∧∀xs,SqT K H a xs→xs[i]?=some x,fun i H=>∃xs,SqT K H a xs∧xs.length≤i⟩
def yE (lo:Int) (n:Nat):It:=⟨fun i _=>i<n,fun i H x H'=>H'=H∧x=.int (lo+i),fun i _=>n≤i⟩
theorem iG {P:Program} {w:World} {K:PySem.W.Frag} {tg:Expr} (a it:Addr):Turn P w K tg (yW K a) [it] it (fun i h=>h.IsListIter it a i) where
 mem:=by simp
 obj:=fun i h st b hb=>by
  have e:b=it:=by simpa using hb
  subst e
  obtain ⟨o,e,c,d⟩:=st
  exact ⟨o,e,fun v z=>by rw [d] at z;cases z⟩
 keep:=fun i h h' st k=>st.at fun o e=>k it (by simp) o e
 item:=by
  intro X hP hw hK hc i pins s σ H E I hf st hg
  subst hP hw hK
  obtain ⟨xs,x,hq,hx⟩:=hg
  obtain ⟨its,rv,p,hz⟩:=I.list hq
  obtain ⟨u,hu,ru⟩:=rv.get hx
  obtain ⟨f0,f1,f2,f3,f4,f5⟩:=hf it (by simp)
  refine wpAny_pyNext_list_item st p.isList (x:=u) (by simpa using hu) fun h' st' sb=>?_
  have I1:Inv X pins σ H {s with heap:=h'}:=I.turned (t':=s.toks) (fun b o hb e=>(sb.2 b hb).trans e) f0 f1 f3 f4 f5
  obtain ⟨o,e,c,d⟩:=id st'
  exact ⟨u,rfl,QC (s:={s with heap:=h'}) e c d (by decide) ⟨x,H,I1,ru,⟨rfl,fun ys hy=>by rw [I.list_inj hy hq];exact hx⟩,st',fun b hb=>(hf b hb).1⟩⟩
 done:=by
  intro X hP hw hK hc i pins s σ H E I hf st hg
  subst hP hw hK
  obtain ⟨xs,hq,hx⟩:=hg
  obtain ⟨its,rv,p,hz⟩:=I.list hq
  obtain ⟨f0,f1,f2,f3,f4,f5⟩:=hf it (by simp)
  have hl:=rv.length
  exact wpAny_pyNext_list_end (I.ok.hd hc) st p.isList (by simp;omega) fun h' eb=>⟨rfl,I.turned (t':=s.toks) (fun b o hb e=>eb b o hb e) f0 f1 f3 f4 f5⟩
 self:=fun _ _ _ _ _ st h=>wpAny_pyIter_listiter st h
theorem gM {P:Program} {w:World} {K:PySem.W.Frag} {tg:Expr} (a it:Addr):Turn P w K tg (QN K a) [it] it (fun i h=>h.IsTupleIter it a i) where
 mem:=by simp
 obj:=fun i h st b hb=>by
  have e:b=it:=by simpa using hb
  subst e
  obtain ⟨o,e,c,d⟩:=st
  exact ⟨o,e,fun v z=>by rw [d] at z;cases z⟩
 keep:=fun i h h' st k=>st.at fun o e=>k it (by simp) o e
 item:=by
  intro X hP hw hK hc i pins s σ H E I hf st hg
  subst hP hw hK
  obtain ⟨xs,x,hq,hx⟩:=hg
  obtain ⟨its,rv,p,hz⟩:=I.tuple hq
  obtain ⟨u,hu,ru⟩:=rv.get hx
  obtain ⟨f0,f1,f2,f3,f4,f5⟩:=hf it (by simp)
  refine wpAny_pyNext_tuple_item st (show s.heap.IsTuple a its.toArray from p) (x:=u) (by simpa using hu) fun h' st' sb=>?_
  have I1:Inv X pins σ H {s with heap:=h'}:=I.turned (t':=s.toks) (fun b o hb e=>(sb.2 b hb).trans e) f0 f1 f3 f4 f5
  obtain ⟨o,e,c,d⟩:=id st'
  exact ⟨u,rfl,QC (s:={s with heap:=h'}) e c d (by decide) ⟨x,H,I1,ru,⟨rfl,fun ys hy=>by rw [I.tuple_inj hy hq];exact hx⟩,st',fun b hb=>(hf b hb).1⟩⟩
 done:=by
  intro X hP hw hK hc i pins s σ H E I hf st hg
  subst hP hw hK
  obtain ⟨xs,hq,hx⟩:=hg
  obtain ⟨its,rv,p,hz⟩:=I.tuple hq
  obtain ⟨f0,f1,f2,f3,f4,f5⟩:=hf it (by simp)
  have hl:=rv.length
  exact wpAny_pyNext_tuple_end (I.ok.hd hc) st (show s.heap.IsTuple a its.toArray from p) (by simp;omega) fun h' eb=>⟨rfl,I.turned (t':=s.toks) (fun b o hb e=>eb b o hb e) f0 f1 f3 f4 f5⟩
 self:=fun _ _ _ _ _ st h=>wpAny_pyIter_tupleiter st h
theorem gN {P:Program} {w:World} {K:PySem.W.Frag} {tg:Expr} (it:Addr) (lo:Int) (n:Nat):Turn P w K tg (yE lo n) [it] it (fun i h=>IsRangeIter h it (lo+(i:Nat)*1) ((n:Int) - (i:Nat)) 1) where
 mem:=by simp
 obj:=fun i h st b hb=>by
  have e:b=it:=by simpa using hb
  subst e
  exact ⟨_,st,fun v z=>by
   have z':Data.fields _=Data.cell v:=z
   cases z'⟩
 keep:=fun i h h' st k=>k it (by simp) _ st
 item:=by
  intro X hP hw hK hc i pins s σ H E I hf st hg
  subst hP hw hK
  obtain ⟨f0,f1,f2,f3,f4,f5⟩:=hf it (by simp)
  have W:=Walks.range (prog:=X.prog) (w:=X.w) (I.ok.hd hc) it lo 1 n
  refine W.item i s _ _ hg st fun v h' tk hv st' kk=>?_
  obtain ⟨t,rfl⟩:=hv
  have I1:Inv X pins σ H {s with heap:=h',toks:=tk}:=I.turned (fun b o hb e=>kk b o (by simpa using hb) e) f0 f1 f3 f4 f5
  refine ⟨_,rfl,QC (s:={s with heap:=h',toks:=tk}) (n:="range_iterator") st' rfl rfl (by decide) ⟨.int (lo+i),H,I1,⟨t,?_⟩,⟨rfl,rfl⟩,st',fun b hb=>(hf b hb).1⟩⟩
  rw [Int.mul_one]
 done:=by
  intro X hP hw hK hc i pins s σ H E I hf st hg
  subst hP hw hK
  obtain ⟨f0,f1,f2,f3,f4,f5⟩:=hf it (by simp)
  exact wpAny_pyNext_range_end (I.ok.hd hc) st (by have:n≤i:=hg;omega) fun h' eb=>⟨rfl,I.turned (t':=s.toks) (fun b o hb e=>eb b o hb e) f0 f1 f3 f4 f5⟩
 self:=fun _ _ _ _ _ st h=>wpAny_pyIter_rangeiter st h
end L2
namespace L2
open PySem PySem.Spec PyProof.Rows
section
variable {X:Cx} {tg:Expr}
def oV (K:PySem.W.Frag) (tl:TE):TI:=fun σ H R=>tl σ H fun x H1=>∃a,x=.ref a∧(∃xs,SqL K H1 a xs)∧R (yW K a) H1
def pP (K:PySem.W.Frag) (tl:TE):TI:=fun σ H R=>tl σ H fun x H1=>∃a,x=.ref a∧(∃xs,SqT K H1 a xs)∧R (QN K a) H1
theorem kY {l:Expr} {tl:TE} (hl:PE X l tl):PI X tg l (oV X.K tl):=by
 intro pins s σ H R I h
 refine jK (hl pins s σ H _ I h) fun v s1 ⟨x,H1,I1,r1,q1⟩=>?_
 obtain ⟨a,e,⟨xs,hq⟩,q⟩:=q1
 subst e
 cases r1
 obtain ⟨its,rv,p,hz⟩:=I1.list hq
 refine wpAny_pyIter_list p.isList ?_
 refine ⟨s1.heap.objs.size,[s1.heap.objs.size],_,_,H1,rfl,I1.kept (t':=s1.toks) fun b o e=>Heap.get?_push_of_some _ e,iG a _,⟨_,Heap.get?_push_size _ rfl,rfl,rfl⟩,fun b hb=>?_,q⟩
 have e:b=s1.heap.objs.size:=by simpa using hb
 subst e
 exact I1.fpOk (Nat.le_refl _) (I1.hok.fresh (Nat.le_refl _))
theorem dO {l:Expr} {tl:TE} (hl:PE X l tl):PI X tg l (pP X.K tl):=by
 intro pins s σ H R I h
 refine jK (hl pins s σ H _ I h) fun v s1 ⟨x,H1,I1,r1,q1⟩=>?_
 obtain ⟨a,e,⟨xs,hq⟩,q⟩:=q1
 subst e
 cases r1
 obtain ⟨its,rv,p,hz⟩:=I1.tuple hq
 refine wpAny_pyIter_tuple (show s1.heap.IsTuple a its.toArray from p) ?_
 refine ⟨s1.heap.objs.size,[s1.heap.objs.size],_,_,H1,rfl,I1.kept (t':=s1.toks) fun b o e=>Heap.get?_push_of_some _ e,gM a _,⟨_,Heap.get?_push_size _ rfl,rfl,rfl⟩,fun b hb=>?_,q⟩
 have e:b=s1.heap.objs.size:=by simpa using hb
 subst e
 exact I1.fpOk (Nat.le_refl _) (I1.hok.fresh (Nat.le_refl _))
theorem lJ {pins:List (Addr×Obj)} {σ:St} {H:Hp} {s:Shared} {R:It→Hp→Prop} {E:Value→Shared→Prop} {lo hi:Int} {t u v:Tok} {tk:Nat} (I:Inv X pins σ H s) (h1 : -(2 ^ 62)≤lo) (h2:lo<2 ^ 62) (h3 : -(2 ^ 62)≤hi) (h4:hi<2 ^ 62)
    (q:R (yE lo (hi - lo).toNat) H):wpAny (model X.prog X.w) X.A (pyIter (.ref s.heap.objs.size)) (ZZ X pins σ tg R) E {s with heap:=s.heap.push {cls:=.type "range",data:=.fields #[.int lo t,.int hi u,.int 1 v]},toks:=tk}:=by
  refine wpAny_pyIter_range (IsRange.new ..) (small_one h1 h2 h3 h4) ?_
  have I1:Inv X pins σ H {s with heap:=s.heap.push {cls:=.type "range",data:=.fields #[.int lo t,.int hi u,.int 1 v]},toks:=tk}:=I.kept fun b o e=>Heap.get?_push_of_some _ e
  refine ⟨(s.heap.push {cls:=.type "range",data:=.fields #[.int lo t,.int hi u,.int 1 v]}).objs.size,[(s.heap.push {cls:=.type "range",data:=.fields #[.int lo t,.int hi u,.int 1 v]}).objs.size],_,_,H,rfl,
    I1.kept (t':=tk) fun b o e=>Heap.get?_push_of_some _ e,gN _ lo (hi - lo).toNat,?_,fun b hb=>?_,q⟩
  · have e1:lo+((0:Nat):Int)*1=lo:=by simp
    have e2:(((hi - lo).toNat:Nat):Int) - ((0:Nat):Int)=Builtin.Range.rangeSize lo hi 1:=by rw [rangeSize_one];split<;>omega
    show IsRangeIter _ _ (lo+((0:Nat):Int)*1) ((((hi - lo).toNat:Nat):Int) - ((0:Nat):Int)) 1
    rw [e1,e2]
    exact Heap.get?_push_size _ rfl
  · have e:b=(s.heap.push {cls:=.type "range",data:=.fields #[.int lo t,.int hi u,.int 1 v]}).objs.size:=by simpa using hb
    subst e
    exact I1.fpOk (Nat.le_refl _) (I1.hok.fresh (Nat.le_refl _))
def oU (ta:TA):TI:=fun σ H R=>ta σ H fun vs H1=>∃j:Int,vs=[.int j]∧-(2 ^ 62)≤j∧j<2 ^ 62∧R (yE 0 j.toNat) H1
theorem z4 {a:Expr} {ta:TA} {p pos:Pos} (hg:Gl X "range") (hm:X.mg "range"=none) (ha:PA X [a] ta) (hs:starEach [a] X.env=[(false,eval a X.env)]:=by rfl):PI X tg (.Call (.Name "range" p) [a] [] pos) (oU ta):=by
 intro pins s σ H R I h
 refine Call_ (zO I hg hm boot_range (PyProof.Rows.callWith_type1 (jK (ha pos pins s σ H _ I h) fun us s1 ⟨vs,H1,I1,r1,q1⟩=>?_) hs rfl))
 obtain ⟨j,e,q1,q2,q⟩:=q1
 subst e
 cases r1 with
 |cons r rr =>
  cases rr
  obtain ⟨t,rfl⟩:=r
  exact call_range_1 (lJ I1 (by omega) (by omega) q1 q2 (by simpa using q))
def pA (wi:TI) (g:TG) (tb:TS):TS:=fun D σ H=>wi σ H fun J H1=>∃W:Nat→Nat→St→Hp→Prop,(∃m,W 0 m σ H1)∧∀i m σ H,W i m σ H→
 (J.stop i H∧D.nx σ H)∨(J.go i H∧∃N:St→Hp→Prop,(∀σ' H',N σ' H'→∃m',m'<m∧W (i+1) m' σ' H')∧∀x H',J.yld i H x H'→g x σ H' fun σ2 H2=>tb {D with nx:=N,ct:=N,bk:=D.nx} σ2 H2)
def JB (fp:List Addr) (h:Heap):List (Addr×Obj):=fp.filterMap fun b=>(h.get? b).map fun o=>(b,o)
theorem JU {fp:List Addr} {h:Heap} {b:Addr} {o:Obj} (hb:b∈fp) (e:h.get? b=some o):(b,o)∈JB fp h:=List.mem_filterMap.mpr ⟨b,hb,by rw [e];rfl⟩
theorem iP {fp:List Addr} {h:Heap} {p:Addr×Obj} (hp:p∈JB fp h):p.1∈fp∧h.get? p.1=some p.2:=by
 obtain ⟨b,hb,e⟩:=List.mem_filterMap.mp hp
 cases q:h.get? b with
 |none=>rw [q] at e;cases e
 |some o =>
  rw [q] at e
  have e':(b,o)=p:=Option.some.inj e
  subst e'
  exact ⟨hb,q⟩
theorem Inv.pinned {pins:List (Addr×Obj)} {σ:St} {H:Hp} {s:Shared} {fp:List Addr} (I:Inv X pins σ H s) (hf:∀b∈fp,qV X pins H b) (ho:∀b∈fp,∃o,s.heap.get? b=some o∧∀v,o.data≠.cell v):Inv X (pins++JB fp s.heap) σ H s :=
 I.pins_of fun p hp=>(List.mem_append.mp hp).elim (fun z=>I.pin p (List.mem_append_right _ z)) fun z=>by
  obtain ⟨hb,e⟩:=iP z
  obtain ⟨f0,f1,f2,_⟩:=hf p.1 hb
  obtain ⟨o,e',d⟩:=ho p.1 hb
  rw [e] at e';cases e'
  exact ⟨e,f0,f1,f2,d⟩
theorem Inv.unpinned {pins pl:List (Addr×Obj)} {σ:St} {H:Hp} {s:Shared} (I:Inv X (pins++pl) σ H s):Inv X pins σ H s:=I.pins_of fun p hp=>I.pin p (List.mem_append_right _ (List.mem_append_left _ hp))
theorem vR {iter:Expr} {body:List Stmt} {wi:TI} {g:TG} {tb:TS} {pos:Pos} (hp:PassesOwn (model X.prog X.w) X.A X.env X.xe) (hc:X.calm=true) (hi:PI X tg iter wi) (hg:PG X tg g) (hb:PSs X body tb)
  (hs:∀x,foldedSetIterable iter X.env x=pure x:=by intro _;rfl):PS X (.For tg iter body [] pos) (pA wi g tb):=by
 intro pins s σ H D I h
 refine wpAny_For (jK (hi pins s σ H _ I h) fun v s1 h1=>jK h1 fun itv s2 h2=>?_) hs
 obtain ⟨it,fp,tn,J,H2,e,I2,T,st2,f2,W,⟨m0,w0⟩,turn⟩:=h2
 subst e
 have stat:∀{H':Hp},(∀b∈fp,H' b=none)→∀b∈fp,qV X pins H' b:=fun hn b hb=>⟨hn b hb,(f2 b hb).2⟩
 refine codeAny_forLoop_any (fun n s'=>∃i σ' H',Inv X pins σ' H' s'∧tn i s'.heap∧(∀b∈fp,H' b=none)∧W i n σ' H') ?_ m0 ⟨0,σ,H2,I2,st2,fun b hb=>(f2 b hb).1,w0⟩
 rintro n s3 ⟨i,σ3,H3,I3,st3,fr3,w3⟩
 rcases turn i n σ3 H3 w3 with ⟨stop,qn⟩|⟨go,N,hN,step⟩
 ·refine wpAny_passesOwn hp (jK (T.done X rfl rfl rfl hc i pins s3 σ3 H3 X.xe I3 (stat fr3) st3 stop) fun r s4 ⟨hr,I4⟩=>?_)
  subst hr
  exact wpAny_execs_nil ⟨σ3,H3,I4,qn⟩
 ·refine wpAny_passesOwn hp (jK (T.item X rfl rfl rfl hc i pins s3 σ3 H3 X.xe I3 (stat fr3) st3 go) fun r s4 ⟨u,hr,h4⟩=>?_)
  subst hr
  refine wpAny_passesOwn hp (jK h4 fun _ s5 ⟨x,H5,I5,r5,y5,st5,fr5⟩=>?_)
  have I5':=I5.pinned (stat fr5) (T.obj _ _ st5)
  refine wpAny_passesOwn hp (jK (hg _ s5 σ3 H5 x u _ I5' r5 (step x H5 y5)) fun _ s6 ⟨σ6,H6,I6,q6⟩=>?_)
  refine wpAny_passesOwn hp (jK (hb _ s6 σ6 H6 _ I6 q6) fun f s7 q7=>?_)
  have again:∀{σ7:St} {H7:Hp},Inv X (pins++JB fp s5.heap) σ7 H7 s7→N σ7 H7→∃m,m<n∧∃i σ' H',Inv X pins σ' H' s7∧tn i s7.heap∧(∀b∈fp,H' b=none)∧W i m σ' H':=fun {σ7 H7} I7 n7=>by
   obtain ⟨m',hm,w7⟩:=hN σ7 H7 n7
   refine ⟨m',hm,i+1,σ7,H7,I7.unpinned,T.keep _ _ _ st5 fun b hb o e=>(I7.pin (b,o) (List.mem_append_right _ (List.mem_append_right _ (JU hb e)))).1,fun b hb=>?_,w7⟩
   obtain ⟨o,e,d⟩:=T.obj _ _ st5 b hb
   exact (I7.pin (b,o) (List.mem_append_right _ (List.mem_append_right _ (JU hb e)))).2.1
  cases f with
  |next=>obtain ⟨σ7,H7,I7,n7⟩:=q7;exact again I7 n7
  |cont=>obtain ⟨σ7,H7,I7,n7⟩:=q7;exact again I7 n7
  |brk=>obtain ⟨σ7,H7,I7,q7⟩:=q7;exact ⟨σ7,H7,I7.unpinned,q7⟩
  |ret v=>obtain ⟨x7,σ7,H7,I7,r7,q7⟩:=q7;exact ⟨x7,σ7,H7,I7.unpinned,r7,q7⟩
end
theorem J3 {K:PySem.W.Frag} {a:Addr} {xs:List V} {g:TG} {tb:TS} {D:Ends} {σ:St} {H:Hp} (Pv:Nat→St→Hp→Prop) (h0:Pv 0 σ H) (hl:∀i σ H,i≤xs.length→Pv i σ H→SqL K H a xs)
    (hs:∀i x σ H,xs[i]?=some x→Pv i σ H→g x σ H fun σ2 H2=>tb {D with nx:=Pv (i+1),ct:=Pv (i+1),bk:=D.nx} σ2 H2) (hd:∀σ H,Pv xs.length σ H→D.nx σ H) :
    ∃W:Nat→Nat→St→Hp→Prop,(∃m,W 0 m σ H)∧∀i m σ H,W i m σ H→
      ((yW K a).stop i H∧D.nx σ H)∨((yW K a).go i H∧∃N:St→Hp→Prop,(∀σ' H',N σ' H'→∃m',m'<m∧W (i+1) m' σ' H')∧∀x H',(yW K a).yld i H x H'→g x σ H' fun σ2 H2=>tb {D with nx:=N,ct:=N,bk:=D.nx} σ2 H2):=by
  refine ⟨fun i m σ H=>m=xs.length - i∧i≤xs.length∧Pv i σ H,⟨xs.length,by simp,Nat.zero_le _,h0⟩,?_⟩
  rintro i m σ H ⟨rfl,hi,p⟩
  have q:=hl i σ H hi p
  by_cases hlt:i<xs.length
  · refine .inr ⟨⟨xs,xs[i],q,by simp [hlt]⟩,Pv (i+1),fun σ' H' p'=>⟨xs.length - (i+1),by omega,rfl,hlt,p'⟩,fun x H' y=>?_⟩
    obtain ⟨e,y⟩:=y
    subst e
    exact hs i x σ _ (y xs q) p
  · have e:i=xs.length:=by omega
    subst e
    exact .inl ⟨⟨xs,q,Nat.le_refl _⟩,hd σ H p⟩
theorem Q5 {lo:Int} {n:Nat} {g:TG} {tb:TS} {D:Ends} {σ:St} {H:Hp} (Pv:Nat→St→Hp→Prop) (h0:Pv 0 σ H)
  (hs:∀i σ H,i<n→Pv i σ H→g (.int (lo+i)) σ H fun σ2 H2=>tb {D with nx:=Pv (i+1),ct:=Pv (i+1),bk:=D.nx} σ2 H2) (hd:∀σ H,Pv n σ H→D.nx σ H) :
  ∃W:Nat→Nat→St→Hp→Prop,(∃m,W 0 m σ H)∧∀i m σ H,W i m σ H→
   ((yE lo n).stop i H∧D.nx σ H)∨((yE lo n).go i H∧∃N:St→Hp→Prop,(∀σ' H',N σ' H'→∃m',m'<m∧W (i+1) m' σ' H')∧∀x H',(yE lo n).yld i H x H'→g x σ H' fun σ2 H2=>tb {D with nx:=N,ct:=N,bk:=D.nx} σ2 H2):=by
 refine ⟨fun i m σ H=>m=n - i∧i≤n∧Pv i σ H,⟨n,by simp,Nat.zero_le _,h0⟩,?_⟩
 rintro i m σ H ⟨rfl,hi,p⟩
 by_cases hlt:i<n
 ·refine .inr ⟨hlt,Pv (i+1),fun σ' H' p'=>⟨n - (i+1),by omega,rfl,hlt,p'⟩,fun x H' y=>?_⟩
  obtain ⟨e,y⟩:=y
  subst e y
  exact hs i σ _ hlt p
 ·have e:i=n:=by omega
  subst e
  exact .inl ⟨Nat.le_refl _,hd σ H p⟩
end L2
namespace L2
open PySem PySem.Spec PyProof.Rows
abbrev R2:=V→V→Hp→VK→Prop
def kL (X:Cx) (f:Value→Value→Sem Value) (r:R2):Prop :=
 ∀(pins:List (Addr×Obj)) (s:Shared) (σ:St) (H:Hp) (x y:V) (v u:Value) (Q:VK),Inv X pins σ H s→RelV x v→RelV y u→r x y H Q→
  wpAny (model X.prog X.w) X.A (f v u) (EP X pins σ Q) X.xe s
def ZY (X:Cx) (f:Value→Sem Value) (r:V→Hp→VK→Prop):Prop :=
 ∀(pins:List (Addr×Obj)) (s:Shared) (σ:St) (H:Hp) (x:V) (v:Value) (Q:VK),Inv X pins σ H s→RelV x v→r x H Q→
  wpAny (model X.prog X.w) X.A (f v) (EP X pins σ Q) X.xe s
def v0 (X:Cx) (f:Value) (r:List V→Hp→VK→Prop):Prop :=
 ∀(pins:List (Addr×Obj)) (s:Shared) (σ:St) (H:Hp) (xs:List V) (us:List Value) (Q:VK),Inv X pins σ H s→Vals xs us→r xs H Q→
  wpAny (model X.prog X.w) X.A (call f us) (EP X pins σ Q) X.xe s
def QE (r:R2) (ta tb:TE):TE:=fun σ H Q=>ta σ H fun x H1=>tb σ H1 fun y H2=>r x y H2 Q
def pZ (r:V→Hp→VK→Prop) (ta:TE):TE:=fun σ H Q=>ta σ H fun x H1=>r x H1 Q
def rI (C:Int→Int→Prop) (g:Int→Int→V):R2:=fun x y H Q=>∃i j,x=.int i∧y=.int j∧C i j∧Q (g i j) H
def yS (g:Int→Int→V):R2:=fun x y H Q=>∃i j,x=.int i∧y=.int j∧Q (g i j) H
def rU (g:Int→V):V→Hp→VK→Prop:=fun x H Q=>∃i,x=.int i∧Q (g i) H
section
variable {X:Cx} {a b c:Expr} {ta tb tc:TE} {pos:Pos}
theorem ZS (ha:PE X a ta) (hb:PE X b tb) {pins:List (Addr×Obj)} {s:Shared} {σ:St} {H:Hp} {R:V→V→Hp→Prop} (I:Inv X pins σ H s)
  (h:ta σ H fun x H1=>tb σ H1 fun y H2=>R x y H2) {Q:Value→Shared→Prop} {f:Value→Value→Sem Value}
  (hf:∀v u s2 x y H2,Inv X pins σ H2 s2→RelV x v→RelV y u→R x y H2→wpAny (model X.prog X.w) X.A (f v u) Q X.xe s2) :
  wpAny (model X.prog X.w) X.A (eval a X.env) (fun v s₁=>wpAny (model X.prog X.w) X.A (eval b X.env) (fun u s₂=>wpAny (model X.prog X.w) X.A (f v u) Q X.xe s₂) X.xe s₁) X.xe s:=by
 refine jK (ha pins s σ H _ I h) fun v s1 ⟨x,H1,I1,r1,q1⟩=>?_
 refine jK (hb pins s1 σ H1 _ I1 q1) fun u s2 ⟨y,H2,I2,r2,q2⟩=>?_
 exact hf v u s2 x y H2 I2 r1 r2 q2
theorem jC {op:Operator} {r:R2} (ho:kL X (binaryOp op) r) (ha:PE X a ta) (hb:PE X b tb):PE X (.BinOp a op b pos) (QE r ta tb):=by
 intro pins s σ H Q I h
 exact wpAny_BinOp (ZS ha hb I h fun v u s2 x y H2 I2 rx ry q=>ho pins s2 σ H2 x y v u Q I2 rx ry q)
theorem oH {op:UnaryOp} {r:V→Hp→VK→Prop} (ho:ZY X (unaryOp op) r) (ha:PE X a ta):PE X (.UnaryOp op a pos) (pZ r ta):=by
 intro pins s σ H Q I h
 exact UnaryOp_ (jK (ha pins s σ H _ I h) fun v s1 ⟨x,H1,I1,r1,q1⟩=>ho pins s1 σ H1 x v Q I1 r1 q1)
theorem QF {f:Value→Value→Sem Value} {C:Int→Int→Prop} {g:Int→Int→Int}
  (rule:∀(i j:Int) (t u:Tok) (s:Shared) (Q:Value→Shared→Prop) (E:Value→Shared→Prop),C i j→Q (.int (g i j) s.toks) {s with toks:=s.toks+1}→wpAny (model X.prog X.w) X.A (f (.int i t) (.int j u)) Q E s) :
  kL X f (rI C fun i j=>.int (g i j)):=by
 intro pins s σ H x y v u Q I rx ry h
 obtain ⟨i,j,rfl,rfl,hc,q⟩:=h
 obtain ⟨t,rfl⟩:=rx
 obtain ⟨t',rfl⟩:=ry
 exact rule i j t t' s _ _ hc ⟨.int (g i j),H,I.tok _,⟨_,rfl⟩,q⟩
theorem eF {f:Value→Value→Sem Value} {g:Int→Int→Int}
  (rule:∀(i j:Int) (t u:Tok) (s:Shared) (Q:Value→Shared→Prop) (E:Value→Shared→Prop),Q (.int (g i j) s.toks) {s with toks:=s.toks+1}→wpAny (model X.prog X.w) X.A (f (.int i t) (.int j u)) Q E s) :
  kL X f (yS fun i j=>.int (g i j)):=by
 intro pins s σ H x y v u Q I rx ry h
 obtain ⟨i,j,rfl,rfl,q⟩:=h
 obtain ⟨t,rfl⟩:=rx
 obtain ⟨t',rfl⟩:=ry
 exact rule i j t t' s _ _ ⟨.int (g i j),H,I.tok _,⟨_,rfl⟩,q⟩
theorem ZR {f:Value→Value→Sem Value} {g:Int→Int→Bool}
  (rule:∀(i j:Int) (t u:Tok) (s:Shared) (Q:Value→Shared→Prop) (E:Value→Shared→Prop),Q (.bool (g i j)) s→wpAny (model X.prog X.w) X.A (f (.int i t) (.int j u)) Q E s) :
  kL X f (yS fun i j=>.bl (g i j)):=by
 intro pins s σ H x y v u Q I rx ry h
 obtain ⟨i,j,rfl,rfl,q⟩:=h
 obtain ⟨t,rfl⟩:=rx
 obtain ⟨t',rfl⟩:=ry
 exact rule i j t t' s _ _ ⟨.bl (g i j),H,I,rfl,q⟩
def pX (i j:Int):Prop:=0<j∧j<1073741824
def pW (i j:Int):Prop:=0≤j∧j≤1000000∧i.natAbs<2 ^ 64
def CMul (i j:Int):Prop:=(-(2 ^ 64)<i∧i<2 ^ 64)∨(-(2 ^ 64)<j∧j<2 ^ 64)
theorem CMul.ok {i j:Int} (h:CMul i j):IntMulOk i j:=by
 rcases h with ⟨h1,h2⟩|⟨h1,h2⟩
 ·exact .of_left (intBits_le_64 h1 h2)
 ·exact .of_right (intBits_le_64 h1 h2)
theorem kH:kL X (binaryOp .Add) (yS fun i j=>.int (i+j)):=eF fun _ _ _ _ _ _ _ q=>add_int q
theorem vT:kL X (binaryOp .Sub) (yS fun i j=>.int (i - j)):=eF fun _ _ _ _ _ _ _ q=>sub_int q
theorem yO:kL X (binaryOp .Mult) (rI CMul fun i j=>.int (i*j)):=QF fun _ _ _ _ _ _ _ hc q=>mul_int q hc.ok
theorem qD:kL X (binaryOp .FloorDiv) (rI pX fun i j=>.int (i / j)):=QF fun i j _ _ _ _ _ hc q=>by
 have h1:(0:Int)<j:=hc.1
 have h2:j<1073741824:=hc.2
 exact floordiv_int (by omega) (by rw [Int.fdiv_eq_ediv_of_nonneg i (by omega)];exact q) (.inl (PyProof.noPylong_small (by omega)))
theorem jZ:kL X (binaryOp .Mod) (rI (fun _ j=>0<j) fun i j=>.int (i%j)):=QF fun i j _ _ _ _ _ hc q=>by
 have h1:(0:Int)<j:=hc
 exact mod_int' (by omega) (by rw [Int.fmod_eq_emod_of_nonneg i (by omega)];exact q)
theorem qT:kL X (binaryOp .Pow) (rI pW fun i j=>.int (i ^ j.toNat)):=QF fun _ _ _ _ _ _ _ hc q=>pow_int_small hc.1 hc.2.1 hc.2.2 q
theorem pY {f:Value→Sem Value} {g:Int→Int}
  (rule:∀(i:Int) (t:Tok) (s:Shared) (Q:Value→Shared→Prop) (E:Value→Shared→Prop),Q (.int (g i) s.toks) {s with toks:=s.toks+1}→wpAny (model X.prog X.w) X.A (f (.int i t)) Q E s) :
  ZY X f (rU fun i=>.int (g i)):=by
 intro pins s σ H x v Q I rx h
 obtain ⟨i,rfl,q⟩:=h
 obtain ⟨t,rfl⟩:=rx
 exact rule i t s _ _ ⟨.int (g i),H,I.tok _,⟨_,rfl⟩,q⟩
theorem nF:ZY X (unaryOp .USub) (rU fun i=>.int (-i)):=pY fun _ _ _ _ _ q=>neg_int q
end
def eB:V→V→Bool
 |.non,.non=>true|.non,.int _=>true|.int _,.non=>true|.non,.bl _=>true|.bl _,.non=>true|.non,.str _=>true|.str _,.non=>true
 |.int _,.int _=>true|.bl _,.bl _=>true|.str _,.str _=>true|.byt _,.byt _=>true
 |.int _,.str _=>true|.str _,.int _=>true|.bl _,.str _=>true|.str _,.bl _=>true
 |_,_=>false
def p9:R2:=fun x y H Q=>eB x y=true∧Q (.bl (decide (x=y))) H
def p8:R2:=fun x y H Q=>eB x y=true∧Q (.bl (!decide (x=y))) H
theorem dG {i j:Int}:decide (V.int i=V.int j)=(i == j):=by
 rw [Bool.eq_iff_iff]
 simp
theorem dR {i j:Bool}:decide (V.bl i=V.bl j)=(i == j):=by
 rw [Bool.eq_iff_iff]
 simp
theorem dF {i j:Str}:decide (V.str i=V.str j)=(i == j):=by
 rw [Bool.eq_iff_iff]
 simp
theorem dH {i j:Array UInt8}:decide (V.byt i=V.byt j)=(i.toList == j.toList):=by
 rw [Bool.eq_iff_iff]
 cases i
 cases j
 simp
section
variable {X:Cx} {a b c:Expr} {ta tb tc:TE} {pos:Pos}
theorem j6 {pins:List (Addr×Obj)} {σ:St} {H:Hp} {s:Shared} {Q:VK} {k k':Bool} (I:Inv X pins σ H s) (q:Q (.bl k) H) (e:k=k'):EP X pins σ Q (.bool k') s:=by
 subst e
 exact ⟨.bl k,H,I,rfl,q⟩
theorem kK:kL X (compareOp .Eq) p9:=by
 intro pins s σ H x y v u Q I rx ry h
 obtain ⟨hs,q⟩:=h
 cases x with
 |non =>
  cases rx
  cases y with
  |non=>cases ry;exact PySem.EqNone.eq_none_none (j6 I q (by simp))
  |bl j=>cases ry;exact PySem.EqNone.eq_none_bool (j6 I q (by simp))
  |int j=>obtain ⟨t',rfl⟩:=ry;exact PySem.EqNone.eq_none_int (j6 I q (by simp))
  |str j=>obtain ⟨t',rfl⟩:=ry;exact PySem.EqNone.eq_none_str (j6 I q (by simp))
  |_=>exact absurd (show false=true from hs) Bool.false_ne_true
 |bl i =>
  cases rx
  cases y with
  |non=>cases ry;exact PySem.EqNone.eq_bool_none (j6 I q (by simp))
  |bl j=>cases ry;exact eq_bool (j6 I q dR)
  |str j=>obtain ⟨t',rfl⟩:=ry;exact PySem.EqMixed.eq_bool_str (j6 I q (by simp))
  |_=>exact absurd (show false=true from hs) Bool.false_ne_true
 |int i =>
  obtain ⟨t,rfl⟩:=rx
  cases y with
  |non=>cases ry;exact PySem.EqNone.eq_int_none (j6 I q (by simp))
  |int j=>obtain ⟨t',rfl⟩:=ry;exact eq_int (j6 I q dG)
  |str j=>obtain ⟨t',rfl⟩:=ry;exact PySem.EqMixed.eq_int_str (j6 I q (by simp))
  |_=>exact absurd (show false=true from hs) Bool.false_ne_true
 |str i =>
  obtain ⟨t,rfl⟩:=rx
  cases y with
  |non=>cases ry;exact PySem.EqNone.eq_str_none (j6 I q (by simp))
  |bl j=>cases ry;exact PySem.EqMixed.eq_str_bool (j6 I q (by simp))
  |int j=>obtain ⟨t',rfl⟩:=ry;exact PySem.EqMixed.eq_str_int (j6 I q (by simp))
  |str j=>obtain ⟨t',rfl⟩:=ry;exact eq_str (j6 I q dF)
  |_=>exact absurd (show false=true from hs) Bool.false_ne_true
 |byt i =>
  obtain ⟨t,rfl⟩:=rx
  cases y with
  |byt j=>obtain ⟨t',rfl⟩:=ry;exact PySem.W.eq_bytes (j6 I q dH)
  |_=>exact absurd (show false=true from hs) Bool.false_ne_true
 |_=>cases y<;>exact absurd (show false=true from hs) Bool.false_ne_true
theorem oI:kL X (compareOp .NotEq) p8:=by
 intro pins s σ H x y v u Q I rx ry h
 obtain ⟨hs,q⟩:=h
 cases x with
 |non =>
  cases rx
  cases y with
  |non=>cases ry;exact PySem.EqNone.ne_none_none (j6 I q (by simp))
  |bl j=>cases ry;exact PySem.EqNone.ne_none_bool (j6 I q (by simp))
  |int j=>obtain ⟨t',rfl⟩:=ry;exact PySem.EqNone.ne_none_int (j6 I q (by simp))
  |str j=>obtain ⟨t',rfl⟩:=ry;exact PySem.EqNone.ne_none_str (j6 I q (by simp))
  |_=>exact absurd (show false=true from hs) Bool.false_ne_true
 |bl i =>
  cases rx
  cases y with
  |non=>cases ry;exact PySem.EqNone.ne_bool_none (j6 I q (by simp))
  |bl j=>cases ry;exact ne_bool (j6 I q (congrArg not dR))
  |str j=>obtain ⟨t',rfl⟩:=ry;exact PySem.EqMixed.ne_bool_str (j6 I q (by simp))
  |_=>exact absurd (show false=true from hs) Bool.false_ne_true
 |int i =>
  obtain ⟨t,rfl⟩:=rx
  cases y with
  |non=>cases ry;exact PySem.EqNone.ne_int_none (j6 I q (by simp))
  |int j=>obtain ⟨t',rfl⟩:=ry;exact ne_int (j6 I q (congrArg not dG))
  |str j=>obtain ⟨t',rfl⟩:=ry;exact PySem.EqMixed.ne_int_str (j6 I q (by simp))
  |_=>exact absurd (show false=true from hs) Bool.false_ne_true
 |str i =>
  obtain ⟨t,rfl⟩:=rx
  cases y with
  |non=>cases ry;exact PySem.EqNone.ne_str_none (j6 I q (by simp))
  |bl j=>cases ry;exact PySem.EqMixed.ne_str_bool (j6 I q (by simp))
  |int j=>obtain ⟨t',rfl⟩:=ry;exact PySem.EqMixed.ne_str_int (j6 I q (by simp))
  |str j=>obtain ⟨t',rfl⟩:=ry;exact ne_str (j6 I q (congrArg not dF))
  |_=>exact absurd (show false=true from hs) Bool.false_ne_true
 |byt i =>
  obtain ⟨t,rfl⟩:=rx
  cases y with
  |byt j=>obtain ⟨t',rfl⟩:=ry;exact PySem.W.ne_bytes (j6 I q (congrArg not dH))
  |_=>exact absurd (show false=true from hs) Bool.false_ne_true
 |_=>cases y<;>exact absurd (show false=true from hs) Bool.false_ne_true
theorem JF:kL X (compareOp .Lt) (yS fun i j=>.bl (decide (i<j))):=ZR fun _ _ _ _ _ _ _ q=>lt_int q
theorem oJ:kL X (compareOp .Gt) (yS fun i j=>.bl (decide (j<i))):=ZR fun _ _ _ _ _ _ _ q=>gt_int q
theorem oK:kL X (compareOp .GtE) (yS fun i j=>.bl (decide (j≤i))):=ZR fun _ _ _ _ _ _ _ q=>ge_int q
theorem nQ:kL X (compareOp .Is) (fun x y H Q=>y=.non∧Q (.bl (decide (x=.non))) H):=by
 intro pins s σ H x y v u Q I rx ry h
 obtain ⟨rfl,q⟩:=h
 cases ry
 refine is_none_gen (j6 I q ?_)
 cases x<;>first
  | (cases rx;rfl)
  | (obtain ⟨t,rfl⟩:=rx;rfl)
theorem j1 (b:Expr) {op:CmpOp} (h:op≠.In:=by decide) (h2:op≠.NotIn:=by decide):behindInMarks op b=false:=by
 have e1:(op == CmpOp.In)=false:=by cases op<;>first|rfl|exact absurd rfl h
 have e2:(op == CmpOp.NotIn)=false:=by cases op<;>first|rfl|exact absurd rfl h2
 cases b<;>simp [behindInMarks,e1,e2]
theorem mO {op:CmpOp} {r:R2} (ho:kL X (compareOp op) r) (ha:PE X a ta) (hb:PE X b tb) (hm:behindInMarks op b=false):PE X (.Compare a [op] [b] pos) (QE r ta tb):=by
 intro pins s σ H Q I h
 exact wpAny_Compare1 (ZS ha hb I h fun v u s2 x y H2 I2 rx ry q=>ho pins s2 σ H2 x y v u Q I2 rx ry q) hm
def n0 (t:TE):TT:=fun σ H Q=>t σ H fun x H'=>∃k,x=.bl k∧Q k H'
theorem j3 {op:CmpOp} {r:R2} (ho:kL X (compareOp op) r) (ha:PE X a ta) (hb:PE X b tb) (hm:behindInMarks op b=false):PT X (.Compare a [op] [b] pos) (n0 (QE r ta tb)):=by
 intro pins s σ H Q I h
 refine wpAny_isTrue_Compare1 (jK (ha pins s σ H _ I h) fun v s1 ⟨x,H1,I1,r1,q1⟩=>jK (hb pins s1 σ H1 _ I1 q1) fun u s2 ⟨y,H2,I2,r2,q2⟩ =>
  jK (ho pins s2 σ H2 x y v u _ I2 r1 r2 q2) fun c s3 ⟨z,H3,I3,r3,k,e,q3⟩=>?_) hm
 subst e
 cases r3
 exact wpAny_truthy_bool ⟨H3,I3,q3⟩
theorem JC:(sizeLine:Nat)<2 ^ 63:=by rw [sizeLine_eq];decide
theorem zZ:kL X (binaryOp .Add) (fun x y H Q=>∃i j,x=.str i∧y=.str j∧i.length+j.length≤sizeLine∧Q (.str (i++j)) H):=by
 intro pins s σ H x y v u Q I rx ry h
 obtain ⟨i,j,rfl,rfl,hz,q⟩:=h
 obtain ⟨t,rfl⟩:=rx
 obtain ⟨t',rfl⟩:=ry
 exact add_str (fun t' tk=>⟨.str (i++j),H,I.tok _,⟨_,rfl⟩,q⟩) hz
theorem ZN {x:V} {us:List Value} (r:Vals [x] us):∃u,us=[u]∧RelV x u:=by
 cases r with
 |cons r1 r2=>cases r2;exact ⟨_,rfl,r1⟩
theorem ZM {x y:V} {us:List Value} (r:Vals [x,y] us):∃u w',us=[u,w']∧RelV x u∧RelV y w':=by
 cases r with
 |cons r1 r2 =>
  cases r2 with
  |cons r3 r4=>cases r4;exact ⟨_,_,rfl,r1,r3⟩
theorem bQ (hc:X.calm=true):v0 X (.builtin "max") (fun xs H Q=>∃i j,xs=[.int i,.int j]∧Q (.int (if j>i then j else i)) H):=by
 intro pins s σ H xs us Q I r h
 obtain ⟨i,j,rfl,q⟩:=h
 obtain ⟨u,w',rfl,⟨t,rfl⟩,⟨t',rfl⟩⟩:=ZM r
 refine max_two_ints (I.ok.hd hc) fun h' tk k=>⟨_,H,I.kept k,?_,q⟩
 by_cases hj:j>i
 ·rw [if_pos hj,if_pos hj];exact ⟨_,rfl⟩
 ·rw [if_neg hj,if_neg hj];exact ⟨_,rfl⟩
theorem bP (hc:X.calm=true):v0 X (.builtin "min") (fun xs H Q=>∃i j,xs=[.int i,.int j]∧Q (.int (if j<i then j else i)) H):=by
 intro pins s σ H xs us Q I r h
 obtain ⟨i,j,rfl,q⟩:=h
 obtain ⟨u,w',rfl,⟨t,rfl⟩,⟨t',rfl⟩⟩:=ZM r
 refine min_two_ints (I.ok.hd hc) fun h' tk k=>⟨_,H,I.kept k,?_,q⟩
 by_cases hj:j<i
 ·rw [if_pos hj,if_pos hj];exact ⟨_,rfl⟩
 ·rw [if_neg hj,if_neg hj];exact ⟨_,rfl⟩
end
end L2
namespace L2
open PySem PySem.Spec PyProof.Rows
structure ObjM (h:Heap) (x dx C:Addr) (mA:Str→Option Value):Prop where
 obj:h.get? x=some (PySem.W.instObj C dx)
 ns:h.Ns1 dx mA
 ne:dx≠x
theorem iR {h:Heap} {dx:Addr} {mA:Str→Option Value} (n:h.Ns1 dx mA):∃od,h.get? dx=some od∧∀name,PySem.W.lookIn name od=some (mA name):=by
 obtain ⟨o,es,ep,ho,hd,hk,_,hm⟩:=n
 refine ⟨o,ho,fun name=>?_⟩
 have e:=hm name
 unfold nsFind findBy at e
 rw [← Array.find?_toList] at e
 unfold PySem.W.lookIn
 rw [hd]
 dsimp only
 split
 ·rename_i y q
  rw [q] at e
  exact congrArg some e
 ·rename_i q
  rw [q] at e
  have a:es.toList.any (·.refKey)=false:=by
   rw [List.any_eq_false]
   intro y hy
   obtain ⟨z,t,hkey⟩:=hk y (Array.mem_toList_iff.mp hy)
   simp [DictEntry.refKey,hkey]
  have a':¬es.toList.any (·.refKey)=true:=by rw [a];exact Bool.false_ne_true
  rw [if_neg a']
  exact congrArg some e
theorem ObjM.look {h:Heap} {x dx C:Addr} {mA:Str→Option Value} (I:ObjM h x dx C mA):∃od,PySem.W.InstAt h x (PySem.W.instObj C dx) C (some od)∧∀name,PySem.W.lookIn name od=some (mA name) :=
 let ⟨od,ho,hl⟩:=iR I.ns
 ⟨od,⟨I.obj,rfl,rfl,ho⟩,hl⟩
section
variable {prog:Program} {w:World} {A:Around} {E:Value→Shared→Prop} {s:Shared} {K:PySem.W.Frag} {x dx C f:Addr} {mA:Str→Option Value} {name:Str} {v:Value}
theorem m4 {expr:Bool} {Q:Value→Shared→Prop} (X:K.In s.heap) (I:ObjM s.heap x dx C mA) (hg:PySem.W.plainGet K C name=true) (hh:PySem.W.hasDictIn K C=true)
  (ha:PySem.W.findIn K (.ref C) name=some none) (hv:mA name=some v) (hv':PySem.W.handedIn v=true) (h:Q v {s with toks:=s.toks+1}) :
  wpAny (model prog w) A (getAttr (.ref x) name expr) Q E s:=by
 obtain ⟨od,J,hl⟩:=I.look
 exact PySem.W.get_value X J (PySem.W.plainGet_of hg).1 (PySem.W.findObj_own hh ha rfl (by rw [hl,hv])) hv' h
theorem lW {pl:Sem Bool} {Q:Value×List Value→Shared→Prop} (X:K.In s.heap) (I:ObjM s.heap x dx C mA) (hg:PySem.W.plainGet K C name=true)
  (hf:PySem.W.findIn K (.ref C) name=some (some (.ref f))) (ht:PySem.W.isFn K (.ref f)=true) (hv:mA name=none) (h:Q (.ref f,[.ref x]) s) :
  wpAny (model prog w) A (getMethod (.ref x) name pl) Q E s:=by
 obtain ⟨od,J,hl⟩:=I.look
 exact PySem.W.method_fn X J (PySem.W.plainGet_of hg).1 (PySem.W.plainGet_of hg).2 hf (beq_iff_eq.mp ht) (by show (PySem.W.lookIn name od).map (·.isSome)=some false;rw [hl,hv];rfl) h
theorem mJ {ns:List Str} {Q:Unit→Shared→Prop} (X:K.In s.heap) (I:ObjM s.heap x dx C mA)
  (hs:PySem.W.findIn K (.ref C) "__setattr__"=some (some (.builtin "object.__setattr__"))) (hp:PySem.W.plainOver K C=true) (ht:PySem.W.takerIn K C name=some none) (hh:PySem.W.hasDictIn K C=true)
  (hw:PySem.Within mA ns) (hsz:ns.length≤sizeLine)
  (h:∀h',ObjM h' x dx C (fun y=>if y=name then some v else mA y)→Heap.SameBut dx s.heap h'→Q () {s with heap:=h',toks:=s.toks+2}) :
  wpAny (model prog w) A (setAttr (.ref x) name v) Q E s:=by
 obtain ⟨od,J,hl⟩:=I.look
 refine PySem.W.set_plain X J hs (PySem.W.osa_open (s:={s with toks:=s.toks+1}) (r:=none) X J hp ht fun b=>?_)
 obtain ⟨cd,hc,hd'⟩:=PySem.W.any_some hh
 have hx:s.heap.get? x=some ⟨.ref C,some dx,.plain,#[]⟩:=I.obj
 refine wpAny_bind (wpAny_pure (wpAny_bind (wpAny_bind (wpAny_loadPart hx (wpAny_bind (PySem.W.Looks.here (s:={s with toks:=s.toks+1}) (PySem.W.looks_clsIn X hc) ?_))))))
 rw [hd']
 refine wpAny_pure (a:=some dx) (wpAny_bind (wpAny_pure (wpAny_bind ?_)))
 refine wpAny_nsSet1 (s:={s with toks:=s.toks+1}) I.ns fun h' hn2 hs2=>?_
 obtain ⟨oD,esD,epD,hoD,hdD,hcD⟩:=hn2.count (PySem.Within.cons name v hw)
 refine wpAny_bind (wpAny_lookBehind hoD (by rw [hdD];exact pastItsLine_dict (Nat.le_trans hcD (by rw [List.length_cons];omega))) ?_)
 exact wpAny_pure (h _ ⟨(hs2.2 _ (Ne.symm I.ne)).trans I.obj,hn2,I.ne⟩ hs2)
theorem lQ {R:Result→Shared→Prop} {vs:List Value} {kw:List (Str×Value)} (X:K.In s.heap) (hm:PySem.W.makesIn K C=true)
  (hi:PySem.W.findIn K (.ref C) "__init__"=some (some (.ref f))) (hf:PySem.W.typeIn K (.ref f)=some (.type "function"))
  (h:codeAny (model prog w) (A.under (.builtin "type.__call__" ⟨.ref C::vs,kw⟩)) (.call (.ref f) ⟨.ref (s.heap.objs.size+1)::vs,kw⟩) (PySem.W.InitBack (s.heap.objs.size+1) R)
   {s with heap:=(s.heap.push PySem.W.emptyDict).push (PySem.W.instObj C s.heap.objs.size)}) :
  codeAny (model prog w) A (.call (.ref C) ⟨vs,kw⟩) R s:=by
 obtain ⟨hh,g,d,t,os⟩:=s
 exact PySem.W.make_core (PySem.W.makes_of X hm) (PySem.W.looks_findIn X hi) (fun self=>PySem.W.bind_fn X self hf) (.inl rfl) h
end
def jJ (f:Str) (v:V):List (Str×V)→List (Str×V)
 |[]=>[(f,v)]
 | (g,x)::r=>if g=f then (g,v)::r else (g,x)::jJ f v r
theorem kP (f g:Str) (v:V):∀fs:List (Str×V),(jJ f v fs).lookup g=if g=f then some v else fs.lookup g
 |[]=>by
  show List.lookup g [(f,v)]=_
  by_cases h:g=f
  ·have hb:(g == f)=true:=beq_iff_eq.mpr h
   simp only [List.lookup,hb,if_pos h]
  ·have hb:(g == f)=false:=beq_eq_false_iff_ne.mpr h
   simp only [List.lookup,hb,if_neg h]
 | (k,x)::r=>by
  have ih:=kP f g v r
  rw [show jJ f v ((k,x)::r)=(if k=f then (k,v)::r else (k,x)::jJ f v r) from rfl]
  by_cases hk:k=f
  ·rw [if_pos hk]
   by_cases h:g=k
   ·have hb:(g == k)=true:=beq_iff_eq.mpr h
    simp only [List.lookup,hb,if_pos (h.trans hk)]
   ·have hb:(g == k)=false:=beq_eq_false_iff_ne.mpr h
    simp only [List.lookup,hb,if_neg (fun e:g=f=>h (e.trans hk.symm))]
  ·rw [if_neg hk]
   by_cases h:g=k
   ·have hb:(g == k)=true:=beq_iff_eq.mpr h
    simp only [List.lookup,hb,if_neg (fun e:g=f=>hk (h.symm.trans e))]
   ·have hb:(g == k)=false:=beq_eq_false_iff_ne.mpr h
    simp only [List.lookup,hb]
    exact ih
theorem Q4 (f:Str) (v:V):∀fs:List (Str×V),f∈(jJ f v fs).map (·.1)∧∀g,g∈fs.map (·.1)→g∈(jJ f v fs).map (·.1)
 |[]=>⟨by simp [jJ],fun g h=>by simp at h⟩
 | (k,x)::r=>by
  obtain ⟨i1,i2⟩:=Q4 f v r
  rw [show jJ f v ((k,x)::r)=(if k=f then (k,v)::r else (k,x)::jJ f v r) from rfl]
  by_cases hk:k=f
  ·rw [if_pos hk]
   subst hk
   exact ⟨by simp,fun g h=>by simpa using h⟩
  ·rw [if_neg hk]
   refine ⟨?_,fun g h=>?_⟩
   ·rw [List.map_cons]
    exact List.mem_cons_of_mem _ i1
   ·rw [List.map_cons] at h ⊢
    rcases List.mem_cons.mp h with e|e
    ·exact List.mem_cons.mpr (.inl e)
    ·exact List.mem_cons_of_mem _ (i2 g e)
theorem vD (f:Str) (v:V):∀fs:List (Str×V),(jJ f v fs).length≤fs.length+1
 |[]=>by simp [jJ]
 | (k,x)::r=>by
  have ih:=vD f v r
  rw [show jJ f v ((k,x)::r)=(if k=f then (k,v)::r else (k,x)::jJ f v r) from rfl]
  by_cases hk:k=f
  ·rw [if_pos hk,List.length_cons,List.length_cons];omega
  ·rw [if_neg hk,List.length_cons,List.length_cons];omega
theorem RelO.some_of {v:V} {o:Option Value} (r:RelO (some v) o):∃u,o=some u∧RelV v u:=by
 cases o with
 |none=>exact (show False from r).elim
 |some u=>exact ⟨u,rfl,r⟩
theorem RelO.none_of {o:Option Value} (r:RelO none o):o=none:=by
 cases o with
 |none=>rfl
 |some u=>exact (show False from r).elim
theorem iY {v:V} {u:Value} (r:RelV v u):PySem.W.handedIn u=true:=by
 cases v with
 |non=>cases (show u=Value.none from r);rfl
 |bl b=>cases (show u=Value.bool b from r);rfl
 |int i=>obtain ⟨t,e⟩:=(show ∃t,u=Value.int i t from r);cases e;rfl
 |str x=>obtain ⟨t,e⟩:=(show ∃t,u=Value.str x t from r);cases e;rfl
 |byt b=>obtain ⟨t,e⟩:=(show ∃t,u=Value.bytes b t from r);cases e;rfl
 |flt b=>obtain ⟨t,e⟩:=(show ∃t,u=Value.float b t from r);cases e;rfl
 |ref a=>cases (show u=Value.ref a from r);rfl
 |ty n=>cases (show u=Value.type n from r);rfl
section
variable {P:Program} {w:World} {H H':Hp} {h h':Heap} {a C dx:Addr} {fs fs':List (Str×V)}
theorem J6 (hok:HOk P w H h) (e:H a=some (.ins C dx fs)):∃mA,ObjM h a dx C mA∧(∀f,RelO (fs.lookup f) (mA f))∧PySem.Within mA (fs.map (·.1))∧fs.length≤1000∧H dx=some (.own a):=by
 obtain ⟨d,z,ne,ob,mA,n,r,q⟩:=(show ObjOk P w H h a (.ins C dx fs) from hok a _ e)
 exact ⟨mA,⟨ob,n,ne⟩,r,q,z,d⟩
end
structure Cls (K:PySem.W.Frag) (C:Addr):Prop where
 pg:PySem.W.plainGet K C Str.empty=true
 hd:PySem.W.hasDictIn K C=true
 po:PySem.W.plainOver K C=true
 sa:PySem.W.findIn K (.ref C) "__setattr__"=some (some (.builtin "object.__setattr__"))
theorem Cls.get {K:PySem.W.Frag} {C:Addr} (c:Cls K C) (f:Str):PySem.W.plainGet K C f=true:=c.pg
def NoAttr (K:PySem.W.Frag) (C:Addr) (f:Str):Prop:=PySem.W.findIn K (.ref C) f=some none
theorem NoAttr.taker {K:PySem.W.Frag} {C:Addr} {f:Str} (n:NoAttr K C f):PySem.W.takerIn K C f=some none:=by
 unfold PySem.W.takerIn
 rw [show PySem.W.findIn K (.ref C) f=some none from n]
 rfl
structure Meth (K:PySem.W.Frag) (C:Addr) (m:Str) (f:Addr):Prop where
 at_:PySem.W.findIn K (.ref C) m=some (some (.ref f))
 fn:PySem.W.isFn K (.ref f)=true
 kp:PySem.W.keepIn K (.ref f)=true
section
variable {X:Cx} {pins:List (Addr×Obj)} {σ:St} {H:Hp} {s:Shared} {a C dx:Addr} {fs:List (Str×V)} {f:Str} {v:V} {A:Around} {E:Value→Shared→Prop}
theorem g0 {b:Bool} {Q:Value→Shared→Prop} (I:Inv X pins σ H s) (e:H a=some (.ins C dx fs)) (c:Cls X.K C) (n:NoAttr X.K C f) (l:fs.lookup f=some v)
  (h:∀u s',Inv X pins σ H s'→RelV v u→Q u s'):wpAny (model X.prog X.w) A (getAttr (.ref a) f b) Q E s:=by
 obtain ⟨mA,O,r,_,_,_⟩:=J6 I.hok e
 obtain ⟨u,hu,ru⟩:=RelO.some_of (v:=v) (o:=mA f) (by rw [← l];exact r f)
 exact m4 I.kIn O (c.get f) c.hd n hu (iY ru) (h u _ (I.tok _) ru)
theorem gZ {m:Str} {g:Addr} {pl:Sem Bool} {Q:Value×List Value→Shared→Prop} (I:Inv X pins σ H s) (e:H a=some (.ins C dx fs)) (c:Cls X.K C) (k:Meth X.K C m g) (l:fs.lookup m=none)
  (h:Q (.ref g,[.ref a]) s):wpAny (model X.prog X.w) A (getMethod (.ref a) m pl) Q E s:=by
 obtain ⟨mA,O,r,_,_,_⟩:=J6 I.hok e
 have hn:mA m=none:=RelO.none_of (by rw [← l];exact r m)
 exact lW I.kIn O (c.get m) k.at_ k.fn hn h
theorem gR {y:V} {u:Value} {Q:Unit→Shared→Prop} (I:Inv X pins σ H s) (e:H a=some (.ins C dx fs)) (c:Cls X.K C) (n:NoAttr X.K C f) (hl:fs.length<1000) (ry:RelV y u)
  (h:∀s',Inv X pins σ (upd H a (.ins C dx (jJ f y fs))) s'→Q () s'):wpAny (model X.prog X.w) A (setAttr (.ref a) f u) Q E s:=by
 obtain ⟨mA,O,r,wi,_,ho⟩:=J6 I.hok e
 have hz:(fs.map (·.1)).length≤sizeLine:=by rw [List.length_map,sizeLine_eq];omega
 refine mJ I.kIn O c.sa c.po n.taker c.hd wi hz fun h' O' sb=>h _ ?_
 have hd:∃o,h'.get? dx=some o:=let ⟨o,_,_,e',_⟩:=O'.ns;⟨o,e'⟩
 refine I.write (x:=a) (e:=dx) (by rw [e];exact True.intro) (.inr ho) (fun b q hb z=>(sb.2 b hb).trans z) hd ?_
 refine ⟨by rw [jO O.ne];exact ho,?_,O.ne,O'.obj,_,O'.ns,fun g=>?_,fun g hg=>?_⟩
 ·have:=vD f y fs;omega
 ·show RelO ((jJ f y fs).lookup g) (if g=f then some u else mA g)
  rw [kP]
  by_cases q:g=f
  ·rw [if_pos q,if_pos q];exact ry
  ·rw [if_neg q,if_neg q];exact r g
 ·by_cases q:g=f
  ·rw [q];exact (Q4 f y fs).1
  ·refine (Q4 f y fs).2 g (wi g fun z=>hg ?_)
   show (if g=f then some u else mA g)=none
   rw [if_neg q];exact z
theorem Inv.made (I:Inv X pins σ H s):Inv X pins σ (upd (upd H s.heap.objs.size (.own (s.heap.objs.size+1))) (s.heap.objs.size+1) (.ins C s.heap.objs.size []))
  {s with heap:=(s.heap.push PySem.W.emptyDict).push (PySem.W.instObj C s.heap.objs.size)}:=by
 have e1:(s.heap.push PySem.W.emptyDict).get? s.heap.objs.size=some PySem.W.emptyDict:=Heap.get?_push_size s.heap rfl
 have e2:((s.heap.push PySem.W.emptyDict).push (PySem.W.instObj C s.heap.objs.size)).get? (s.heap.objs.size+1)=some (PySem.W.instObj C s.heap.objs.size):=by
  have:=Heap.get?_push_size (s.heap.push PySem.W.emptyDict) (o:=PySem.W.instObj C s.heap.objs.size) rfl
  rwa [Heap.size_push] at this
 have e3:(s.heap.push PySem.W.emptyDict).Ns s.heap.objs.size (fun _=>none):=⟨PySem.W.emptyDict,#[],_,e1,rfl,(fun e he=>absurd he (by simp)),fun _=>rfl⟩
 have I1:=I.laid (a:=s.heap.objs.size) (o:=.own (s.heap.objs.size+1)) (h':=s.heap.push PySem.W.emptyDict) (t':=s.toks) (fun b u q=>Heap.get?_push_of_some _ q) (Nat.le_refl _) ⟨_,e1⟩
 refine I1.laid (a:=s.heap.objs.size+1) (o:=.ins C s.heap.objs.size []) (t':=s.toks) (fun b u q=>Heap.get?_push_of_some _ q) (Nat.le_of_eq (Heap.size_push _ _)) ?_
 have ne:s.heap.objs.size≠s.heap.objs.size+1:=Nat.ne_of_lt (Nat.lt_succ_self _)
 refine ⟨by rw [jO ne,jE],Nat.zero_le _,ne,e2,fun _=>none,(Heap.Ns1.of_empty e3).at fun o q=>Heap.get?_push_of_some _ q,fun _=>True.intro,fun y hy=>absurd rfl hy⟩
theorem nA {prog:Program} {w:World} {env:Env} {e:Expr} {f:Str} {pos:Pos} {s:Shared} {Q:Value→Shared→Prop} (hb:attributeBase e f env (eval e env)=eval e env)
  (h:wpAny (model prog w) A (eval e env) (fun o s₁=>wpAny (model prog w) A (getAttr o f true) Q E s₁) E s):wpAny (model prog w) A (eval (.Attribute e f pos) env) Q E s :=
 Attribute_any_ h (by rw [arm_eval_Attribute,hb])
end
def pB (K:PySem.W.Frag) (ta:TE) (f:Str):TE:=fun σ H Q=>ta σ H fun x H1=>∃a C dx fs v,x=.ref a∧H1 a=some (.ins C dx fs)∧Cls K C∧NoAttr K C f∧fs.lookup f=some v∧Q v H1
def pF (K:PySem.W.Frag) (ta tv:TE) (f:Str):TS:=fun D σ H=>tv σ H fun y H1=>ta σ H1 fun x H2=>∃a C dx fs,x=.ref a∧H2 a=some (.ins C dx fs)∧Cls K C∧NoAttr K C f∧fs.length<1000∧
 D.nx σ (upd H2 a (.ins C dx (jJ f y fs)))
section
variable {X:Cx} {o e value:Expr} {f:Str} {pos pos' tpos:Pos} {ta tv:TE}
theorem kE (he:PE X e ta) (hb:attributeBase e f X.env (eval e X.env)=eval e X.env):PE X (.Attribute e f pos) (pB X.K ta f):=by
 intro pins s σ H Q I h
 refine nA hb (jK (he pins s σ H _ I h) fun u s1 ⟨x,H1,I1,rx,a,C,dx,fs,v,ex,ea,c,n,l,q⟩=>?_)
 subst ex
 obtain rfl:u=Value.ref a:=rx
 exact g0 I1 ea c n l fun u' s2 I2 ru=>⟨v,H1,I2,ru,q⟩
theorem qM (ha:PE X o ta) (hv:PE X value tv) (hs:swapsWith value (some (.Attribute o f pos')) pos.line X.env=pure false):PS X (.Assign [.Attribute o f pos'] value pos) (pF X.K ta tv f):=by
 intro pins s σ H D I h
 refine plainObj_wpAny_Assign_Attribute (jK (hv pins s σ H _ I h) fun u s1 ⟨y,H1,I1,ry,q⟩=>jK (ha pins s1 σ H1 _ I1 q) fun ov s2 ⟨x,H2,I2,rx,a,C,dx,fs,ex,ea,c,n,l,q2⟩=>?_) hs
 subst ex
 obtain rfl:ov=Value.ref a:=rx
 exact gR I2 ea c n l ry fun s3 I3=>⟨σ,_,I3,q2⟩
end
section
variable {X:Cx} {pins:List (Addr×Obj)} {σ:St} {H:Hp} {s:Shared} {A:Around} {E:Value→Shared→Prop} {Q:Value→Shared→Prop} {c:Value} {b:Bool}
inductive TyOf (K:PySem.W.Frag) (H:Hp):V→Value→Prop where
 |non:TyOf K H .non (.type "NoneType")
 |bl (x:Bool):TyOf K H (.bl x) (.type "bool")
 |int (i:Int):TyOf K H (.int i) (.type "int")
 |str (x:Str):TyOf K H (.str x) (.type "str")
 |flt (x:UInt64):TyOf K H (.flt x) (.type "float")
 |lst {a:Addr} {xs:List V} (e:H a=some (.lst xs)):TyOf K H (.ref a) (.type "list")
 |frz {a:Addr} {o:Obj} {xs:List V} (e:H a=some (.frz o (.lst xs))):TyOf K H (.ref a) (.type "list")
 |tup {a:Addr} {xs:List V} (e:H a=some (.tup xs)):TyOf K H (.ref a) (.type "tuple")
 |dK {a:Addr} {kvs:List (kR×V)} (e:H a=some (.dK kvs)):TyOf K H (.ref a) (.type "dict")
 |dT {a:Addr} {kvs:List (List kR×V)} (e:H a=some (.dT kvs)):TyOf K H (.ref a) (.type "dict")
 |ins {a C dx:Addr} {fs:List (Str×V)} (e:H a=some (.ins C dx fs)) (cl:Cls K C) (ha:PySem.W.findIn K (.ref C) "__class__"=some (some (.builtin "object.__class__")))
   (hn:PySem.W.specialIn K (.builtin "object.__class__") "__get__"=some (some (.builtin "getset_descriptor.__get__"))) (htk:PySem.W.takesIn K (.builtin "object.__class__")=some true)
   (hm:PySem.W.mroIn K C (.type "object")=some true):TyOf K H (.ref a) (.ref C)
theorem iV {x:V} {u t:Value} (I:Inv X pins σ H s) (rx:RelV x u) (ty:TyOf X.K H x t) (e:PySem.W.kitOne X.K t c=some b) (h:∀tk,Q (.bool b) {s with toks:=tk}) :
  wpAny (model X.prog X.w) A (call (.builtin "isinstance") [u,c]) Q E s:=by
 cases ty with
 |non=>cases (show u=Value.none from rx);exact PySem.W.kia_one PySem.W.kitx_none I.kIn True.intro e (fun z=>nomatch z) h
 |bl y=>cases (show u=Value.bool y from rx);exact PySem.W.kia_one PySem.W.kitx_bool I.kIn True.intro e (fun z=>nomatch z) h
 |int i=>obtain ⟨t,q⟩:=(show ∃t,u=Value.int i t from rx);cases q;exact PySem.W.kia_one PySem.W.kitx_int I.kIn True.intro e (fun z=>nomatch z) h
 |str y=>obtain ⟨t,q⟩:=(show ∃t,u=Value.str y t from rx);cases q;exact PySem.W.kia_one PySem.W.kitx_str I.kIn True.intro e (fun z=>nomatch z) h
 |flt y=>obtain ⟨t,q⟩:=(show ∃t,u=Value.float y t from rx);cases q;exact PySem.W.kia_one PySem.W.kitx_float I.kIn True.intro e (fun z=>nomatch z) h
 |@lst a xs ea =>
  cases (show u=Value.ref a from rx)
  obtain ⟨_,_,n,_,h1⟩:=(show ObjOk X.prog X.w H s.heap a (.lst xs) from I.hok a _ ea)
  exact PySem.W.kia_one PySem.W.kitx_list I.kIn ⟨_,h1,rfl⟩ e (fun z=>nomatch z) h
 |@frz a ob xs ea =>
  cases (show u=Value.ref a from rx)
  obtain ⟨_,_,_,n,_,h1⟩:=(show ObjOk X.prog X.w H s.heap a (.frz ob (.lst xs)) from I.hok a _ ea)
  exact PySem.W.kia_one PySem.W.kitx_list I.kIn ⟨_,h1,rfl⟩ e (fun z=>nomatch z) h
 |@tup a xs ea =>
  cases (show u=Value.ref a from rx)
  obtain ⟨_,_,_,p⟩:=(show ObjOk X.prog X.w H s.heap a (.tup xs) from I.hok a _ ea)
  obtain ⟨o,h1,h2,_⟩:=p
  exact PySem.W.kia_one PySem.W.kitx_tuple I.kIn ⟨o,h1,h2⟩ e (fun z=>nomatch z) h
 |@dK a kvs ea =>
  cases (show u=Value.ref a from rx)
  obtain ⟨_,_,vs,_,p⟩:=(show ObjOk X.prog X.w H s.heap a (.dK kvs) from I.hok a _ ea)
  obtain ⟨o,es,ep,h1,h2,_⟩:=p
  exact PySem.W.kia_one PySem.W.kitx_dict I.kIn ⟨o,h1,h2.1⟩ e (fun z=>nomatch z) h
 |@dT a kvs ea =>
  cases (show u=Value.ref a from rx)
  obtain ⟨_,_,xs,_,o,es,ep,h1,h2,_⟩:=(show ObjOk X.prog X.w H s.heap a (.dT kvs) from I.hok a _ ea)
  exact PySem.W.kia_one PySem.W.kitx_dict I.kIn ⟨o,h1,h2.1⟩ e (fun z=>nomatch z) h
 |@ins a C dx fs ea cl ha hn htk hm =>
  cases (show u=Value.ref a from rx)
  obtain ⟨mA,O,_⟩:=J6 I.hok ea
  obtain ⟨od,J,_⟩:=O.look
  exact PySem.W.kia_one (PySem.W.kitx_own (cl.get _) cl.hd ha hn htk hm) I.kIn J e (fun z=>nomatch z) h
end
end L2
namespace L2
open PySem PySem.Spec PyProof.Rows
structure Room (k:Nat) (A:Around):Prop where
 hd:A.handled=none
 dp:A.depth+3*k+5<recursionLimit
 un:A.units+16*k+200<cLine
theorem Room.mono {j k:Nat} {A:Around} (r:Room k A) (h:j≤k):Room j A:=⟨r.hd,by have:=r.dp;omega,by have:=r.un;omega⟩
theorem Room.deeper {k:Nat} {A:Around} (r:Room (k+1) A) (env:Env):Room k (A.deeper env) :=
 ⟨r.hd,by have:=r.dp;show A.depth+1+3*k+5<_;omega,by have:=r.un;show A.units+3+16*k+200<_;omega⟩
theorem gY {A:Around} {C:Addr} {us:List Value} {kw:List (Str×Value)}:(A.under (.builtin "type.__call__" ⟨.ref C::us,kw⟩)).depth=A.depth+1:=by
 first|rfl|simp [Around.under,Code.weight,Code.isCreation,Code.isGuard,Code.isCaller,Code.frames,Code.isFrame,guardIds]
theorem gX {A:Around} {C:Addr} {us:List Value} {kw:List (Str×Value)}:(A.under (.builtin "type.__call__" ⟨.ref C::us,kw⟩)).units=A.units+1:=by
 first|rfl|simp [Around.under,Code.cUnits,Code.frames,Code.isFrame]
theorem Room.make {k:Nat} {A:Around} (r:Room (k+1) A) (C:Addr) (us:List Value) (kw:List (Str×Value)):Room k (A.under (.builtin "type.__call__" ⟨.ref C::us,kw⟩)) :=
 ⟨r.hd,by have:=r.dp;rw [gY];omega,by have:=r.un;rw [gX];omega⟩
theorem Room.depth {k:Nat} {A:Around} (r:Room k A):A.depth<recursionLimit:=by have:=r.dp;omega
theorem Room.units {k:Nat} {A:Around} (r:Room k A):A.units+64<cLine:=by have:=r.un;omega
theorem Room.units0 {k:Nat} {A:Around} (r:Room k A):A.units<cLine:=by have:=r.un;omega
def d9:TA:=fun _ H Q=>Q [] H
def oA (ta:TE) (tr:TA):TA:=fun σ H Q=>ta σ H fun x H1=>tr σ H1 fun xs H2=>Q (x::xs) H2
section
variable {X:Cx} {e:Expr} {es:List Expr} {te:TE} {t:TA} {pos:Pos}
theorem jD:PA X [] d9:=fun _ _ _ _ H Q I h=>Calls.spliced_nil ⟨[],H,I,.nil,h⟩
theorem jA (ha:PE X e te) (hr:PA X es t) (hs:starEach (e::es) X.env=(false,eval e X.env)::starEach es X.env:=by rfl):PA X (e::es) (oA te t):=by
 intro pos pins s σ H Q I h
 rw [hs]
 show wpAny _ _ (spliced ((false,eval e X.env)::backTo pos (starEach es X.env))) _ _ s
 refine Calls.spliced_cons (jK (ha pins s σ H _ I h) fun u s1 ⟨x,H1,I1,r1,q1⟩=>?_)
 exact jK (hr pos pins s1 σ H1 _ I1 q1) fun us s2 ⟨xs,H2,I2,r2,q2⟩=>⟨x::xs,H2,I2,.cons r1 r2,q2⟩
def o5 (t:TA):TE:=fun σ H Q=>t σ H fun xs H1=>xs.length≤sizeLine∧∀p,H1 p=none→Q (.ref p) (upd H1 p (.tup xs))
def o8 (t:TA):TE:=fun σ H Q=>t σ H fun xs H1=>xs.length≤sizeLine∧∀p,H1 p=none→Q (.ref p) (upd H1 p (.lst xs))
theorem qS {x1} (h:PA X es t):PE X (.Tuple es x1 pos) (o5 t):=by
 intro pins s σ H Q I hq
 refine wpAny_Tuple_spliced (jK (h pos pins s σ H _ I hq) fun us s1 ⟨xs,H1,I1,r,z,q⟩=>⟨by rw [← r.length];exact z,?_⟩)
 have hf:H1 s1.heap.objs.size=none:=I1.hok.fresh (Nat.le_refl _)
 refine ⟨.ref s1.heap.objs.size,upd H1 s1.heap.objs.size (.tup xs),I1.laid (t':=s1.toks) (fun b u e=>Heap.get?_push_of_some _ e) (Nat.le_refl _) ?_,rfl,q _ hf⟩
 exact ⟨z,us,r,⟨_,Heap.get?_push_size _ rfl,rfl,_,rfl⟩⟩
theorem kF (h:PA X es t):PE X (.List es pos) (o8 t):=by
 intro pins s σ H Q I hq
 refine wpAny_List_spliced (jK (h pos pins s σ H _ I hq) fun us s1 ⟨xs,H1,I1,r,z,q⟩=>⟨by rw [← r.length];exact z,?_⟩)
 have hf:H1 s1.heap.objs.size=none:=I1.hok.fresh (Nat.le_refl _)
 refine ⟨.ref s1.heap.objs.size,upd H1 s1.heap.objs.size (.lst xs),I1.laid (t':=s1.toks) (fun b u e=>Heap.get?_push_of_some _ e) (Nat.le_refl _) ?_,rfl,q _ hf⟩
 exact ⟨z,us,0,r,Heap.get?_push_size _ rfl⟩
end
abbrev Sp:=List V→Hp→VK→XK→Prop
abbrev q9:=List Env→Hp→Shared→XK→Value→Shared→Prop
structure Env0 (P:Program) (w:World) (K:PySem.W.Frag) (mg:Str→Option Value) (base:Heap) (A:Around) (outer:List Env) (s:Shared) (H:Hp):Prop where
 frames:A.frames=some outer
 mod:Mod K mg base
 bs:∀b o,base.get? b=some o→s.heap.get? b=some o∧H b=none
 bsz:base.objs.size≤s.heap.objs.size
 funs:s.heap.FunFrames base outer
 frf:∀b∈qW outer,H b=none
 hok:HOk P w H s.heap
 bare:AllBare s.gens
def CE (outer:List Env) (P:Program) (w:World) (H:Hp) (s:Shared) (Q:VK) (u:Value) (s':Shared):Prop :=
 ∃v H',s'.os=s.os∧AllBare s'.gens∧Un (qW outer) [] H H' s.heap s'.heap∧HOk P w H' s'.heap∧RelV v u∧Q v H'
def CR (CX:q9) (outer:List Env) (P:Program) (w:World) (H:Hp) (s:Shared) (Q:VK) (E:XK) (r:Result) (s':Shared):Prop :=
 match r with
 |.ok (.ret u)=>CE outer P w H s Q u s'
 |.ok _=>False
 |.error e=>CX outer H s E e s'
structure FnOk (P:Program) (w:World) (K:PySem.W.Frag) (mg:Str→Option Value) (base:Heap) (CX:q9) (k:Nat) (f:Addr) (fd:FuncData) (ps:List Str) (sp:Sp):Prop where
 len:∀vs H Q E,sp vs H Q E→vs.length=ps.length
 run:∀(A:Around) (outer:List Env) (s:Shared) (H:Hp) (args:Args) (us:List Value) (vs:List V) (Q:VK) (E:XK),Room k A→Env0 P w K mg base A outer s H→BindsTo s fd args (ps.zip us)→Vals vs us→sp vs H Q E→
  codeAny (model P w) A (.call (.ref f) args) (CR CX outer P w H s Q E) s
theorem Env0.make {P:Program} {w:World} {K:PySem.W.Frag} {mg:Str→Option Value} {base:Heap} {A:Around} {outer:List Env} {s:Shared} {H:Hp} (e:Env0 P w K mg base A outer s H) (C:Addr) (us:List Value) (kw:List (Str×Value)) :
  Env0 P w K mg base (A.under (.builtin "type.__call__" ⟨.ref C::us,kw⟩)) outer s H:=⟨by first|exact e.frames|(simpa [Around.under,Code.envs,Code.isFrame,pushEnvs] using e.frames),e.mod,e.bs,e.bsz,e.funs,e.frf,e.hok,e.bare⟩
section
variable {X:Cx} {pins:List (Addr×Obj)} {σ:St} {H:Hp} {s s':Shared}
theorem Inv.env0 (I:Inv X pins σ H s):Env0 X.prog X.w X.K X.mg X.base X.A X.stack s H :=
 ⟨I.ok.frames,I.ok.mod,I.bs,Nat.le_trans I.ok.bsz I.sz,I.stack,I.stkFree,I.hok,I.bare⟩
theorem Inv.after {Q:VK} {u:Value} (I:Inv X pins σ H s) (h:CE X.stack X.prog X.w H s Q u s'):EP X pins σ Q u s':=by
 obtain ⟨v,H',os,bare,un,hok,r,q⟩:=h
 obtain ⟨hh,g,d,t,os'⟩:=s'
 obtain rfl:os'=s.os:=os
 exact ⟨v,H',I.call (h':=hh) (g':=g) (d':=d) (t':=t) (ch:=[]) un hok bare (fun b z=>absurd z (by simp)),r,q⟩
end
def ZO (sp:Sp) (dvs:List V) (E:XK) (t:TA):TE:=fun σ H Q=>t σ H fun vs H1=>sp (vs++dvs) H1 Q E
def dU (C:Addr) (sp:Sp) (dvs:List V) (E:XK) (t:TA):TE:=fun σ H Q=>t σ H fun vs H1=>∀x dx,H1 x=none→H1 dx=none→dx≠x→
 sp (.ref x::(vs++dvs)) (upd (upd H1 dx (.own x)) x (.ins C dx [])) (fun v H2=>v=.non∧Q (.ref x) H2) E
def Binds (K:PySem.W.Frag) (fd:FuncData) (ps:List Str) (ds:List Value):Prop :=
 ∀(s:Shared) (us:List Value),K.In s.heap→(us++ds).length=ps.length→BindsTo s fd ⟨us,[]⟩ (ps.zip (us++ds))
theorem Binds.all {K:PySem.W.Frag} {fd:FuncData} {ps:List Str} (h:∀us:List Value,us.length=ps.length→bindArgs fd ⟨us,[]⟩=pure (ps.zip us)):Binds K fd ps []:=fun s us _ hl=>by
 rw [List.append_nil] at hl ⊢
 exact .of_eq (h us hl)
def JD (CX:q9) (X:Cx) (E:XK):Prop:=∀(pins:List (Addr×Obj)) (σ:St) (H:Hp) (s:Shared) (e:Value) (s':Shared),Inv X pins σ H s→CX X.stack H s E e s'→X.xe e s'
section
variable {X:Cx} {CX:q9} {k:Nat} {f C:Addr} {fd:FuncData} {ps:List Str} {sp:Sp} {dvs:List V} {ds:List Value} {E:XK} {x m:Str} {p pos apos:Pos} {e o:Expr} {es:List Expr} {ta:TE} {t:TA}
theorem ZH {pins:List (Addr×Obj)} {σ:St} {H:Hp} {s:Shared} {Q:VK} {us:List Value} {vs:List V} (F:FnOk X.prog X.w X.K X.mg X.base CX k f fd ps sp) (hr:Room k X.A) (hb:Binds X.K fd ps ds) (hd:Vals dvs ds) (hx:JD CX X E)
  (I:Inv X pins σ H s) (r:Vals vs us) (h:sp (vs++dvs) H Q E):wpAny (model X.prog X.w) X.A (call (.ref f) us) (EP X pins σ Q) X.xe s:=by
 have r2:Vals (vs++dvs) (us++ds):=r.append hd
 have hl:(us++ds).length=ps.length:=by rw [← r2.length];exact F.len _ _ _ _ h
 refine wpAny_call (codeAny_mono (F.run X.A X.stack s H ⟨us,[]⟩ (us++ds) (vs++dvs) Q E hr I.env0 (hb s us I.kIn hl) r2 h) fun r s' hq=>?_)
 cases r with
 |error e=>exact hx pins σ H s e s' I hq
 |ok fl =>
  cases fl with
  |ret u=>exact I.after hq
  |next=>exact False.elim hq
  |brk=>exact False.elim hq
  |cont=>exact False.elim hq
theorem mP (F:FnOk X.prog X.w X.K X.mg X.base CX k f fd ps sp) (hr:Room k X.A) (hg:Gl X x) (hm:X.mg x=some (.ref f)) (hk:PySem.W.keepIn X.K (.ref f)=true) (hb:Binds X.K fd ps ds) (hd:Vals dvs ds) (hx:JD CX X E)
  (ha:PA X (e::es) t) (hdb:(x == ("__debug__":Str))=false:=by decide) (he:starEach (e::es) X.env=(false,eval e X.env)::starEach es X.env:=by rfl) (hpl:(backTo pos (starEach es X.env)).any (·.1)=false:=by rfl) :
  PE X (.Call (.Name x p) (e::es) [] pos) (ZO sp dvs E t):=by
 intro pins s σ H Q I h
 refine wpAny_Call_Name_kw (ZE I hg hm ?_ hdb)
 refine PySem.W.callWith_K (h₀:=X.base) I.ok.mod.kin hk (jK (ha pos pins s σ H _ I h) fun us s1 ⟨vs,H1,I1,r,q⟩=>⟨I1.kIn,?_⟩) he hpl
 exact ZH F hr hb hd hx I1 r q
structure Mk (K:PySem.W.Frag) (C f:Addr):Prop where
 makes:PySem.W.makesIn K C=true
 init:PySem.W.findIn K (.ref C) "__init__"=some (some (.ref f))
 fn:PySem.W.isFn K (.ref f)=true
 kp:PySem.W.keepIn K (.ref C)=true
theorem lI {pins:List (Addr×Obj)} {σ:St} {H:Hp} {s:Shared} {Q:VK} {us:List Value} {vs:List V} (M:Mk X.K C f) (F:FnOk X.prog X.w X.K X.mg X.base CX k f fd ps sp) (hr:Room (k+1) X.A) (hb:Binds X.K fd ps ds) (hd:Vals dvs ds)
  (hx:JD CX X E) (I:Inv X pins σ H s) (r:Vals vs us)
  (h:∀x dx,H x=none→H dx=none→dx≠x→sp (.ref x::(vs++dvs)) (upd (upd H dx (.own x)) x (.ins C dx [])) (fun v H2=>v=.non∧Q (.ref x) H2) E) :
  wpAny (model X.prog X.w) X.A (call (.ref C) us) (EP X pins σ Q) X.xe s:=by
 have hq:=h (s.heap.objs.size+1) s.heap.objs.size (I.hok.fresh (Nat.le_succ _)) (I.hok.fresh (Nat.le_refl _)) (Nat.ne_of_lt (Nat.lt_succ_self _))
 have I2:=Inv.made (C:=C) I
 have r2:Vals (V.ref (s.heap.objs.size+1)::(vs++dvs)) (Value.ref (s.heap.objs.size+1)::(us++ds)):=.cons rfl (r.append hd)
 have hl:(Value.ref (s.heap.objs.size+1)::us++ds).length=ps.length:=by
  have e:=r2.length
  rw [F.len _ _ _ _ hq] at e
  exact e.symm
 refine wpAny_call (lQ (f:=f) I.kIn M.makes M.init (beq_iff_eq.mp M.fn) (codeAny_mono (F.run _ X.stack _ _ ⟨Value.ref (s.heap.objs.size+1)::us,[]⟩ (Value.ref (s.heap.objs.size+1)::(us++ds)) _ _ E (hr.make C us [])
  (I2.env0.make C us []) (hb _ (Value.ref (s.heap.objs.size+1)::us) I2.kIn hl) r2 hq) fun r s' hq'=>?_))
 cases r with
 |error e=>exact hx pins σ _ _ e s' I2 hq'
 |ok fl =>
  cases fl with
  |ret u =>
   obtain ⟨v,H',I3,rv,ev,q3⟩:=I2.after hq'
   subst ev
   exact ⟨rv,⟨V.ref (s.heap.objs.size+1),H',I3,rfl,q3⟩⟩
  |next=>exact False.elim hq'
  |brk=>exact False.elim hq'
  |cont=>exact False.elim hq'
theorem mN (M:Mk X.K C f) (F:FnOk X.prog X.w X.K X.mg X.base CX k f fd ps sp) (hr:Room (k+1) X.A) (hg:Gl X x) (hm:X.mg x=some (.ref C)) (hb:Binds X.K fd ps ds) (hd:Vals dvs ds) (hx:JD CX X E)
  (ha:PA X (e::es) t) (hdb:(x == ("__debug__":Str))=false:=by decide) (he:starEach (e::es) X.env=(false,eval e X.env)::starEach es X.env:=by rfl) (hpl:(backTo pos (starEach es X.env)).any (·.1)=false:=by rfl) :
  PE X (.Call (.Name x p) (e::es) [] pos) (dU C sp dvs E t):=by
 intro pins s σ H Q I h
 refine wpAny_Call_Name_kw (ZE I hg hm ?_ hdb)
 refine PySem.W.callWith_K (h₀:=X.base) I.ok.mod.kin M.kp (jK (ha pos pins s σ H _ I h) fun us s1 ⟨vs,H1,I1,r,q⟩=>⟨I1.kIn,?_⟩) he hpl
 exact lI M F hr hb hd hx I1 r q
end
section
variable {X:Cx} {CX:q9} {k:Nat} {f C:Addr} {fd:FuncData} {ps ks:List Str} {sp:Sp} {E:XK} {x m:Str} {p pos apos kpos:Pos} {e o:Expr} {es:List Expr} {kws:List Keyword} {te ta:TE} {t tk:TA} {nm:Option Str}
variable {g:List Value→List Value→List Value} {gV:List V→List V→List V}
end
structure FnScope (N P:List Str) (sc:Scope):Prop where
 kind:sc.kind=.function
 co:sc.isCoroutine=false
 gen:sc.isGenerator=false
 nd:N.Nodup
 pre:N.take P.length=P
 par:∀x∈P,sc.names.lookup x=some .local∨sc.names.lookup x=some .cell
 nofree:∀y∈sc.names,y.2≠.free
theorem bR {kindOf:Str→Option NameKind} {x:Str}:∀{binds:List (Str×Value)} {m:Str→Option Value},(∀v,(x,v)∉binds)→bindL kindOf binds m x=m x
 |[],_,_=>rfl
 | (n,v)::r,m,h=>by
  unfold bindL
  rw [bR fun w hw=>h w (List.mem_cons_of_mem _ hw)]
  split
  ·have:x≠n:=by rintro rfl;exact h v List.mem_cons_self
   simp [this]
  ·rfl
theorem bT {kindOf:Str→Option NameKind} {x:Str}:∀{binds:List (Str×Value)} {m:Str→Option Value},(∀v,(x,v)∉binds)→bindC kindOf binds m x=m x
 |[],_,_=>rfl
 | (n,v)::r,m,h=>by
  unfold bindC
  rw [bT fun w hw=>h w (List.mem_cons_of_mem _ hw)]
  split
  ·rfl
  ·have:x≠n:=by rintro rfl;exact h v List.mem_cons_self
   simp [this]
theorem bS {kindOf:Str→Option NameKind} {x:Str} {v:Value}:∀{P:List Str} {vs:List Value} {i:Nat} {m:Str→Option Value},P.Nodup→P[i]?=some x→vs[i]?=some v→kindOf x=some .local→
  bindL kindOf (P.zip vs) m x=some v
 |[],_,_,_,_,h,_,_=>by simp at h
 |_::_,[],_,_,_,_,h,_=>by simp at h
 |p::P,w::vs,0,m,nd,h1,h2,hk=>by
  simp at h1 h2;subst h1;subst h2
  show bindL kindOf ((p,w)::P.zip vs) m p=_
  unfold bindL
  rw [bR fun v hv=>(List.nodup_cons.mp nd).1 (List.of_mem_zip hv).1,if_pos hk]
  simp
 |p::P,w::vs,i+1,m,nd,h1,h2,hk=>by
  show bindL kindOf ((p,w)::P.zip vs) m x=_
  unfold bindL
  exact bS (i:=i) (List.nodup_cons.mp nd).2 (by simpa using h1) (by simpa using h2) hk
theorem bU {kindOf:Str→Option NameKind} {x:Str} {v:Value}:∀{P:List Str} {vs:List Value} {i:Nat} {m:Str→Option Value},P.Nodup→P[i]?=some x→vs[i]?=some v→kindOf x≠some .local→
  bindC kindOf (P.zip vs) m x=some v
 |[],_,_,_,_,h,_,_=>by simp at h
 |_::_,[],_,_,_,_,h,_=>by simp at h
 |p::P,w::vs,0,m,nd,h1,h2,hk=>by
  simp at h1 h2;subst h1;subst h2
  show bindC kindOf ((p,w)::P.zip vs) m p=_
  unfold bindC
  rw [bT fun v hv=>(List.nodup_cons.mp nd).1 (List.of_mem_zip hv).1,if_neg hk]
  simp
 |p::P,w::vs,i+1,m,nd,h1,h2,hk=>by
  show bindC kindOf ((p,w)::P.zip vs) m x=_
  unfold bindC
  exact bU (i:=i) (List.nodup_cons.mp nd).2 (by simpa using h1) (by simpa using h2) hk
def vY (N:List Str) (vs:List V):St:=vs.map some++List.replicate (N.length - vs.length) none
def yQ (CX:q9) (P:Program) (w:World) (K:PySem.W.Frag) (mg:Str→Option Value) (base:Heap) (N:List Str) (qual:Str) (scope:Scope) (f:Addr) (cd:Value) (A:Around) (outer:List Env) (s:Shared) (H:Hp) (E:XK):Cx where
 prog:=P
 w:=w
 K:=K
 mg:=mg
 base:=base
 A:=A.deeper (envOfC qual scope s.heap.objs.size f cd)
 N:=N
 s₀:=s
 H₀:=H
 env:=envOfC qual scope s.heap.objs.size f cd
 outer:=outer
 stack:=envOfC qual scope s.heap.objs.size f cd::outer
 ex:=[]
 calm:=true
 fn:=fun _=>true
 pn:=[]
 xe:=fun e s'=>wpAny (model P w) (A.deeper (envOfC qual scope s.heap.objs.size f cd)) (leaving (envOfC qual scope s.heap.objs.size f cd) e) (fun _ s''=>CX outer H s E e s'') (fun e' s''=>CX outer H s E e' s'') s'
theorem cK {sc:Scope} {n:Nat} {x:Str} (h:sc.names.lookup x=some .cell):∃c,(cellsFrom n sc.names []).lookup x=some c:=by
 have q:=PySem.W.cellsFrom_some sc.names n [] (.inl h)
 exact Option.isSome_iff_exists.mp q
theorem iW {CX:q9} {P:Program} {w:World} {K:PySem.W.Frag} {mg:Str→Option Value} {base:Heap} {N ps:List Str} {qual:Str} {scope:Scope} {f:Addr} {cd:Value} {A:Around} {outer:List Env} {s s1:Shared} {H:Hp} {E:XK} {us:List Value} {vs:List V}
  (S:FnScope N ps scope) (hd:A.handled=none) (e0:Env0 P w K mg base A outer s H) (hl:vs.length=ps.length) (r:Vals vs us)
  (x:InCallC s s.heap.objs.size (bindL (envOfC qual scope s.heap.objs.size f cd).kindOf (ps.zip us) fun _=>none) (cellsFrom (s.heap.objs.size+1) scope.names []) (bindC (envOfC qual scope s.heap.objs.size f cd).kindOf (ps.zip us) fun _=>none) s1) :
  Inv (yQ CX P w K mg base N qual scope f cd A outer s H E) [] (vY N vs) H s1:=by
 have hpl:ps.length≤N.length:=by have:=congrArg List.length S.pre;rw [List.length_take] at this;omega
 obtain ⟨h1,tk,rfl,hk⟩:=x.done
 have noA:∀b:Addr,b∉(yQ CX P w K mg base N qual scope f cd A outer s H E).ex:=fun b z=>absurd (show b∈([]:List Addr) from z) (by simp)
 refine ⟨⟨e0.mod,S.kind,rfl,rfl,Nat.le_refl _,fun y z c h1 h2=>?_,fun y hy=>?_,fun y c _ h=>?_,fun _=>hd,Around.frames_deeper e0.frames,.inr ⟨rfl,rfl⟩,fun b z=>absurd z (noA b),e0.bs,e0.bsz,fun b _ _=>noA b,fun b z=>absurd z (noA b),e0.funs,e0.frf⟩,
  rfl,e0.bare,Un.kept hk,⟨_,x.toInCall.ns,fun i y v h1 h2 h3=>?_⟩,fun y c h=>⟨_,x.cell y c h⟩,e0.hok.fresh (Nat.le_refl _),fun y c h=>?_,fun p hp=>absurd (show p∈([]:List (Addr×Obj)) from hp) (by simp),e0.hok.kept hk,?_⟩
 ·exact name_of_addr x.apart (PySem.mem_of_lookup h1) (PySem.mem_of_lookup h2)
 ·have hy:scope.names.lookup y=some .cell∨scope.names.lookup y=some .free:=hy
  rcases hy with hy|hy
  ·exact cK hy
  ·exact absurd rfl (S.nofree _ (PySem.mem_of_lookup hy))
 ·exact Nat.le_of_lt (x.above y c (PySem.mem_of_lookup h))
 ·have hi:i<vs.length:=by
   unfold vY at h2
   by_cases hi:i<vs.length
   ·exact hi
   ·rw [List.getElem?_append_right (by simpa using hi)] at h2
    rw [List.getElem?_replicate] at h2
    split at h2<;>cases h2
  have ha:vs[i]?=some v:=by
   unfold vY at h2
   rw [List.getElem?_append_left (by simpa using hi),List.getElem?_map] at h2
   cases e:vs[i]? with
   |none=>rw [e] at h2;cases h2
   |some a=>rw [e] at h2;cases h2;rfl
  obtain ⟨u,hu,rv⟩:=r.get ha
  have hp:ps[i]?=some y:=by
   rw [← S.pre,List.getElem?_take_of_lt (by omega)];exact h1
  have ndP:ps.Nodup:=by rw [← S.pre];exact S.nd.sublist (List.take_sublist _ _)
  refine ⟨u,rv,?_⟩
  rcases S.par y (List.mem_of_getElem? hp) with k|k
  ·exact .inl ⟨k,bS ndP hp hu k⟩
  ·obtain ⟨c,e⟩:=cK (n:=s.heap.objs.size+1) k
   refine .inr ⟨.inl k,c,e,?_⟩
   have q:=x.cell y c e
   rw [bU ndP hp hu (by show scope.names.lookup y≠_;rw [k];decide)] at q
   exact q
 ·exact e0.hok.fresh (Nat.le_of_lt (x.above y c (PySem.mem_of_lookup h)))
 ·unfold vY
  show _=N.length
  rw [List.length_append,List.length_map,List.length_replicate]
  omega
theorem d0 {CX:q9} {P:Program} {w:World} {K:PySem.W.Frag} {mg:Str→Option Value} {base:Heap} {k:Nat} {f:Addr} {name qual:Str} {params:Arguments} {body:List Stmt} {scope:Scope} {dV kV doc pm cdv ct oc:Value} {an od:Option Addr}
  {osl:Array (Option Value)} {N ps:List Str} {sp:Sp} (lk:K.lookup f=some ⟨oc,od,.func (PySem.W.fnOf name qual params body scope dV kV doc pm an cdv ct),osl⟩) (hcd:PySem.W.codeIn K cdv qual=true) (S:FnScope N ps scope)
  (len:∀vs H Q E,sp vs H Q E→vs.length=ps.length)
  (hbody:∀(A:Around) (outer:List Env) (s:Shared) (H:Hp) (vs:List V) (Q:VK) (E:XK),Room k (A.deeper (envOfC qual scope s.heap.objs.size f cdv))→sp vs H Q E→
   ∃t,PSs (yQ CX P w K mg base N qual scope f cdv A outer s H E) body t∧t {nx:=fun _ H'=>Q .non H',rt:=Q} (vY N vs) H) :
  FnOk P w K mg base CX (k+1) f (PySem.W.fnOf name qual params body scope dV kV doc pm an cdv ct) ps sp:=by
 refine ⟨len,fun A outer s H args us vs Q E hr e0 hb r hsp=>?_⟩
 have hl:=len _ _ _ _ hsp
 have KX:K.In s.heap:=e0.mod.kin.keeps fun b o e=>(e0.bs b o e).1
 have lim:s.heap.NoLimit:=e0.mod.nolimit.keeps fun b o e=>(e0.bs b o e).1
 have hkind:∀y∈ps.zip us,scope.names.lookup y.1=some .local∨(scope.names.lookup y.1=some .cell∧((cellsFrom (s.heap.objs.size+1) scope.names []).lookup y.1).isSome=true):=fun ⟨n,v⟩ hy=>by
  rcases S.par n (List.of_mem_zip hy).1 with q|q
  ·exact .inl q
  ·exact .inr ⟨q,PySem.W.cellsFrom_some _ _ _ (.inl q)⟩
 refine codeAny_call_function hr.depth (KX _ _ lk) rfl S.co S.gen rfl (PySem.W.codeRec_of KX hcd) (hb _ _ _ _ ?_)
 refine wpAny_newFunctionEnv_cells S.kind hkind fun env he s1 x=>?_
 subst he
 refine ⟨lim.keeps x.toInCall.keep,codeAny_func ?_⟩
 obtain ⟨t,ht,hq⟩:=hbody A outer s H vs Q E (hr.deeper _) hsp
 have I:Inv (yQ CX P w K mg base N qual scope f cdv A outer s H E) [] (vY N vs) H s1:=iW S hr.hd e0 hl r x
 refine wpAny_mono (ht [] s1 (vY N vs) H _ I hq) (fun fl s' hs=>?_) fun e s' hs=>hs
 have fin:∀{σ':St} {H':Hp} {v:V} {u:Value},Inv (yQ CX P w K mg base N qual scope f cdv A outer s H E) [] σ' H' s'→RelV v u→Q v H'→CE outer P w H s Q u s' :=
  fun {σ' H' v u} J rv q=>⟨v,H',J.os,J.bare,J.base,J.hok,rv,q⟩
 cases fl with
 |ret u =>
  obtain ⟨v,σ',H',J,rv,q⟩:=hs
  exact fin J rv q
 |next =>
  obtain ⟨σ',H',J,q⟩:=hs
  exact fin (v:=V.non) (u:=Value.none) J rfl q
 |brk =>
  obtain ⟨_,_,_,q⟩:=hs
  exact False.elim q
 |cont =>
  obtain ⟨_,_,_,q⟩:=hs
  exact False.elim q
end L2
namespace L2
open PySem PySem.Spec PyProof.Rows
section
variable {X:Cx} {x:Str} {p pos:Pos} {e:Expr} {es:List Expr} {t:TA} {id T:String} {r:List V→Hp→VK→Prop}
def eK (r:List V→Hp→VK→Prop) (t:TA):TE:=fun σ H Q=>t σ H fun vs H1=>r vs H1 Q
theorem v4 (hc:v0 X (.builtin id) r) (hg:Gl X x) (hm:X.mg x=none) (hv:bootBuiltins x=some (.builtin id)) (ha:PA X (e::es) t) (hn:x≠"__name__":=by decide) (hdb:(x == ("__debug__":Str))=false:=by decide)
  (he:starEach (e::es) X.env=(false,eval e X.env)::starEach es X.env:=by rfl) (hpl:(backTo pos (starEach es X.env)).any (·.1)=false:=by rfl):PE X (.Call (.Name x p) (e::es) [] pos) (eK r t):=by
 intro pins s σ H Q I h
 refine wpAny_Call_Name_kw (zO I hg hm hv ?_ hn hdb)
 exact PyProof.Rows.callWith_builtin1 (jK (ha pos pins s σ H _ I h) fun us s1 ⟨vs,H1,I1,r1,q1⟩=>hc pins s1 σ H1 vs us Q I1 r1 q1) he hpl
theorem qP (hc:v0 X (.type T) r) (hg:Gl X x) (hm:X.mg x=none) (hv:bootBuiltins x=some (.type T)) (ha:PA X (e::es) t) (hn:x≠"__name__":=by decide) (hdb:(x == ("__debug__":Str))=false:=by decide)
  (he:starEach (e::es) X.env=(false,eval e X.env)::starEach es X.env:=by rfl) (hpl:(backTo pos (starEach es X.env)).any (·.1)=false:=by rfl):PE X (.Call (.Name x p) (e::es) [] pos) (eK r t):=by
 intro pins s σ H Q I h
 refine wpAny_Call_Name_kw (zO I hg hm hv ?_ hn hdb)
 exact PyProof.Rows.callWith_type1 (jK (ha pos pins s σ H _ I h) fun us s1 ⟨vs,H1,I1,r1,q1⟩=>hc pins s1 σ H1 vs us Q I1 r1 q1) he hpl
end
end L2
namespace HT
open PySem PyProof.Rows
section
open PySem.SeqAt
open PySem.AutoSeq1 (wpAny_loadPart')
open PySem.MeetsSeq PySem.MeetsSeq2 PySem.MeetsSeq3
end
section
variable {prog:Program} {w:World} {A:Around} {E:Value→Shared→Prop} {s:Shared}
def sIx (n d:Nat):Option Int→Nat
 |none=>d
 |some v=>if v<0 then (v+(n:Int)).toNat else min v.toNat n
theorem nI (n d:Nat) (hd:d≤n) (o:Option Int):sIx n d o≤n:=by
 cases o with
 |none=>exact hd
 |some v =>
  show (if v<0 then (v+(n:Int)).toNat else min v.toNat n)≤n
  by_cases hv:v<0
  ·rw [if_pos hv];omega
  ·rw [if_neg hv];exact Nat.min_le_right _ _
theorem dI (v:Int) (n d:Nat):(if v<0 then max (v+(n:Int)) 0 else min v (n:Int))=((sIx n d (some v):Nat):Int):=by
 show (if v<0 then max (v+(n:Int)) 0 else min v (n:Int))=(((if v<0 then (v+(n:Int)).toNat else min v.toNat n):Nat):Int)
 by_cases hv:v<0
 ·simp only [if_pos hv];omega
 ·simp only [if_neg hv];omega
theorem iB (lo hi:Option Int) (n:Nat):Builtin.Slice.sliceAdjust lo hi 1 (n:Int)=(((sIx n 0 lo:Nat):Int),((sIx n n hi:Nat):Int)):=by
 have h1:¬((1:Int)<0):=by omega
 unfold Builtin.Slice.sliceAdjust
 simp only [h1,if_false]
 refine Prod.ext ?_ ?_
 ·cases lo with
  |none=>rfl
  |some v=>exact dI v n 0
 ·cases hi with
  |none=>rfl
  |some v=>exact dI v n n
theorem gS (i j:Nat):Builtin.Slice.slicePlaces (i:Int) (j:Int) 1=j - i:=by
 unfold Builtin.Slice.slicePlaces
 have h1:(1:Int)>0:=by omega
 simp only [h1,if_true,Int.ediv_one]
 split<;>omega
theorem bE {v:Value} {o:Option Int} {Q:Option Int→Shared→Prop} (p:IsPart v o) (h:Q o s):wpAny (model prog w) A (Builtin.Slice.slicePartIndex v) Q E s:=by
 cases p with
 |none=>exact slicePart_none h
 |int i t=>exact slicePart_int h
theorem gA {sl:Addr} {vl vu:Value} {lo hi:Option Int} {n:Nat} {Q:Int×Int×Nat→Shared→Prop} (hs:s.heap.IsSliceOf sl vl vu .none) (pl:IsPart vl lo) (pu:IsPart vu hi)
  (h:Q (((sIx n 0 lo:Nat):Int),1,sIx n n hi - sIx n 0 lo) s):wpAny (model prog w) A (Builtin.Slice.sliceApplied (.ref sl) (pure (n:Int))) Q E s:=by
 obtain ⟨os,hos,hcs,hds⟩:=id hs
 unfold Builtin.Slice.sliceApplied Builtin.Slice.sliceFields
 refine wpAny_bind (wpAny_bind (wpAny_field hos hds (x:=vl) rfl (wpAny_bind (wpAny_field hos hds (x:=vu) rfl (wpAny_bind (wpAny_field hos hds (x:=.none) rfl (wpAny_pure ?_)))))))
 refine wpAny_bind (slicePart_none ?_)
 show wpAny _ _ (if ((1:Int) == 0)=true then _ else _) _ _ s
 rw [if_neg (by decide)]
 refine wpAny_bind (bE pl (wpAny_bind (bE pu (wpAny_bind (wpAny_pure ?_)))))
 show wpAny _ _ (match Builtin.Slice.sliceAdjust lo hi 1 (n:Int) with|(lo,hi)=>pure (lo,(1:Int),Builtin.Slice.slicePlaces lo hi 1)) _ _ s
 rw [iB lo hi n]
 show wpAny _ _ (pure (((sIx n 0 lo:Nat):Int),(1:Int),Builtin.Slice.slicePlaces ((sIx n 0 lo:Nat):Int) ((sIx n n hi:Nat):Int) 1)) _ _ s
 rw [gS]
 exact wpAny_pure h
theorem lL (xs:Array Value) (i k:Nat):((List.range k).filterMap fun (m:Nat)=>xs[((i:Int)+(m:Int)*1).toNat]?).toArray=((xs.toList.drop i).take k).toArray:=by
 have e:(fun (m:Nat)=>xs[((i:Int)+(m:Int)*1).toNat]?)=fun m=>xs[i+m]?:=by
  funext m
  have:((i:Int)+(m:Int)*1).toNat=i+m:=by omega
  rw [this]
 rw [e]
 have:=pick_run xs i k
 rw [List.filterMap_map] at this
 have e2:((fun x=>xs[x]?)∘fun x=>i+x)=fun m=>xs[i+m]?:=rfl
 rw [e2] at this
 rw [this]
theorem getItem_tuple_cut {t sl:Addr} {items:Array Value} {vl vu:Value} {lo hi:Option Int} {Q:Value→Shared→Prop} (ht:IsTup s.heap t items) (hs:s.heap.IsSliceOf sl vl vu .none) (pl:IsPart vl lo) (pu:IsPart vu hi)
  (hw:¬(sIx items.size 0 lo=0∧sIx items.size items.size hi=items.size))
  (h:Q (.ref s.heap.objs.size) {s with heap:=s.heap.push {cls:=.type "tuple",data:=.seq ((items.toList.drop (sIx items.size 0 lo)).take (sIx items.size items.size hi - sIx items.size 0 lo)).toArray}})
  (hsz:items.size≤sizeLine):wpAny (model prog w) A (getItem (.ref t) (.ref sl)) Q E s:=by
 have htake:sizeOk (.seq ((items.toList.drop (sIx items.size 0 lo)).take (sIx items.size items.size hi - sIx items.size 0 lo)).toArray):=by
  show ((items.toList.drop (sIx items.size 0 lo)).take (sIx items.size items.size hi - sIx items.size 0 lo)).toArray.size≤sizeLine
  rw [List.size_toArray,List.length_take,List.length_drop,Array.length_toList]
  omega
 have hj:sIx items.size items.size hi≤items.size:=nI _ _ (Nat.le_refl _) hi
 obtain ⟨os,hos,hcs,hds⟩:=id hs
 have hTs:s.TypeIs (.ref sl) "slice":=⟨os,hos,hcs⟩
 unfold getItem
 try with_reducible refine wpAny_holding ?_
 first|refine wpAny_bind (wpAny_pure ?_)|skip
 refine wpAny_bind (wpAny_sequenceKey ht.typeIs (by decide) ?_)
 refine wpAny_bind (wpAny_callSpecial?_slot (name:=Str.ofString "__getitem__") ht.typeIs PyProof.Rows.slot_tuple_getitem
  (wpAny_call_entry PyProof.Rows.slot_tuple_getitem ht.typeIs entry_tuple_getitem ?_ (args_tuple_getitem _ _)))
 show wpAny _ _ (Builtin.Tuple.tupleItemsOf (.ref t) >>= _) _ _ s
 refine wpAny_bind (tupleItemsOf_ ht ?_)
 refine wpAny_bind (wpAny_typeOf hTs ?_)
 rw [if_pos (by decide)]
 refine wpAny_bind (gA hs pl pu ?_)
 have hno:¬((((sIx items.size 0 lo:Nat):Int) == 0&&(1:Int) == 1&&(sIx items.size items.size hi - sIx items.size 0 lo) == items.size)=true):=by
  intro q
  rw [Bool.and_eq_true,Bool.and_eq_true] at q
  have q1:((sIx items.size 0 lo:Nat):Int)=0:=eq_of_beq q.1.1
  have q2:sIx items.size items.size hi - sIx items.size 0 lo=items.size:=eq_of_beq q.2
  exact hw ⟨by omega,by omega⟩
 show wpAny _ _ (if (((sIx items.size 0 lo:Nat):Int) == 0&&(1:Int) == 1&&(sIx items.size items.size hi - sIx items.size 0 lo) == items.size)=true then _ else _) _ _ s
 rw [if_neg hno,lL]
 first
  |exact wpAny_bind (m:=Builtin.Tuple.tupleExact _) (wpAny_newObj_type (wpAny_pure ⟨_,rfl,wpAny_pure h⟩) htake)
  |exact wpAny_bind (m:=Builtin.Tuple.tupleExact _) (wpAny_newObj_type (wpAny_bind (wpAny_pure (wpAny_pure ⟨_,rfl,wpAny_pure h⟩))) htake)
  |exact wpAny_bind (wpAny_bind (m:=Builtin.Tuple.tupleExact _) (wpAny_newObj_type (wpAny_pure (wpAny_pure ⟨_,rfl,wpAny_pure h⟩)) htake))
  |exact wpAny_bind (wpAny_bind (m:=Builtin.Tuple.tupleExact _) (wpAny_newObj_type (wpAny_pure ⟨_,rfl,wpAny_pure h⟩) htake))
end
end HT
namespace L2
open PySem PySem.Spec PyProof.Rows
abbrev TO:=St→Hp→(Option Int→Hp→Prop)→Prop
def PO (X:Cx) (e:Option Expr) (t:TO):Prop :=
 ∀(pins:List (Addr×Obj)) (s:Shared) (σ:St) (H:Hp) (Q:Option Int→Hp→Prop),Inv X pins σ H s→t σ H Q→
  wpAny (model X.prog X.w) X.A (evalPart e X.env) (fun u s'=>∃o H',Inv X pins σ H' s'∧IsPart u o∧Q o H') X.xe s
def mF:TO:=fun _ H Q=>Q none H
def n3 (t:TE):TO:=fun σ H Q=>t σ H fun x H1=>∃i,x=.int i∧Q (some i) H1
section
variable {X:Cx} {e:Expr} {te:TE} {lo hi:Option Expr} {tl th:TO} {pos p2:Pos}
theorem J5:PO X none mF:=by
 intro pins s σ H Q I h
 rw [evalPart_none]
 exact wpAny_pure ⟨none,H,I,.none,h⟩
theorem v5 (h:PE X e te):PO X (some e) (n3 te):=by
 intro pins s σ H Q I hw
 rw [evalPart_some]
 refine jK (h pins s σ H _ I hw) fun u s1 ⟨x,H1,I1,r1,q1⟩=>?_
 obtain ⟨i,rfl,q⟩:=q1
 obtain ⟨t,rfl⟩:=r1
 exact ⟨some i,H1,I1,.int i t,q⟩
def QJ (X:Cx) (r:V→Option Int→Option Int→Hp→VK→Prop):Prop :=
 ∀(pins:List (Addr×Obj)) (s:Shared) (σ:St) (H:Hp) (x:V) (v vl vu:Value) (lo hi:Option Int) (sl:Addr) (Q:VK),Inv X pins σ H s→RelV x v→s.heap.IsSliceOf sl vl vu .none→IsPart vl lo→IsPart vu hi→r x lo hi H Q→
  ∃T id,typeLookup (.type T) "__getitem__"=pure (some (.builtin id))∧s.TypeIs v T∧wpAny (model X.prog X.w) X.A (getItem v (.ref sl)) (EP X pins σ Q) X.xe s
def p0 (r:V→Option Int→Option Int→Hp→VK→Prop) (te:TE) (tl th:TO):TE:=fun σ H Q=>te σ H fun x H1=>tl σ H1 fun l H2=>th σ H2 fun u H3=>r x l u H3 Q
theorem zL {r:V→Option Int→Option Int→Hp→VK→Prop} (hr:QJ X r) (he:PE X e te) (hl:PO X lo tl) (hu:PO X hi th):PE X (.Subscript e (.Slice lo hi none p2) pos) (p0 r te tl th):=by
 intro pins s σ H Q I h
 refine Subscript_ (jK (he pins s σ H _ I h) fun v s1 ⟨x,H1,I1,r1,q1⟩=>?_)
 refine wpAny_Slice (jK (hl pins s1 σ H1 _ I1 q1) fun vl s2 ⟨l,H2,I2,pl,q2⟩=>jK (hu pins s2 σ H2 _ I2 q2) fun vu s3 ⟨u,H3,I3,pu,q3⟩=>?_)
 rw [evalPart_none]
 refine wpAny_pure ?_
 have I4:Inv X pins σ H3 {s3 with heap:=s3.heap.push {cls:=.type "slice",data:=.fields #[vl,vu,.none]}}:=I3.kept (t':=s3.toks) fun b ob q=>Heap.get?_push_of_some _ q
 obtain ⟨T,id,hT,ht,hg⟩:=hr pins {s3 with heap:=s3.heap.push {cls:=.type "slice",data:=.fields #[vl,vu,.none]}} σ H3 x v vl vu l u s3.heap.objs.size Q I4 r1 (Heap.IsSliceOf.new ..) pl pu q3
 show wpAny (model X.prog X.w) X.A (subscriptTail e (.Slice lo hi none p2) v (.ref s3.heap.objs.size)) (EP X pins σ Q) X.xe {s3 with heap:=s3.heap.push {cls:=.type "slice",data:=.fields #[vl,vu,.none]}}
 exact tail_any (ops:=[.ref s3.heap.objs.size,v]) ht hT hg (by with_unfolding_all rfl)
def qU (xs:List V) (lo hi:Option Int):List V:=(xs.drop (HT.sIx xs.length 0 lo)).take (HT.sIx xs.length xs.length hi - HT.sIx xs.length 0 lo)
theorem Z9 (xs:List V) (lo hi:Option Int):(qU xs lo hi).length≤xs.length:=by
 unfold qU
 rw [List.length_take,List.length_drop]
 omega
def pG (K:PySem.W.Frag):V→Option Int→Option Int→Hp→VK→Prop:=fun x lo hi H Q=>∃a xs,x=.ref a∧SqT K H a xs∧
 ¬(HT.sIx xs.length 0 lo=0∧HT.sIx xs.length xs.length hi=xs.length)∧∀p,H p=none→Q (.ref p) (upd H p (.tup (qU xs lo hi)))
theorem nH:QJ X (pG X.K):=by
 intro pins s σ H x v vl vu lo hi sl Q I rx hs pl pu h
 obtain ⟨a,xs,rfl,hx,hw,q⟩:=h
 cases rx
 obtain ⟨its,r,ht,hz⟩:=I.tuple hx
 have hlen:its.toArray.size=xs.length:=by rw [List.size_toArray];exact r.length.symm
 refine ⟨"tuple",_,PyProof.Rows.slot_tuple_getitem.lookup,ht.typeIs,?_⟩
 refine HT.getItem_tuple_cut ht hs pl pu (by rw [hlen];exact hw) ?_ (by rw [hlen];exact hz)
 rw [hlen]
 refine ⟨.ref s.heap.objs.size,_,I.laid (t':=s.toks) (o:=.tup (qU xs lo hi)) (fun b ob q=>Heap.get?_push_of_some _ q) (Nat.le_refl _) ?_,rfl,q _ (I.hok.fresh (Nat.le_refl _))⟩
 exact ⟨Nat.le_trans (Z9 xs lo hi) hz,_,(r.drop (HT.sIx xs.length 0 lo)).take (HT.sIx xs.length xs.length hi - HT.sIx xs.length 0 lo),IsTup.new _ _⟩
end
end L2
namespace L2
open PySem PySem.Spec PyProof.Rows
def v3 (n:Nat) (i:Int):Option Nat:=if 0≤i then (if i<n then some i.toNat else none) else if -(n:Int)≤i then some (i+n).toNat else none
def qG {α:Type} (xs:List α) (i:Int):Option α:=(v3 xs.length i).bind fun j=>xs[j]?
theorem dC {n:Nat} {i:Int} {j:Nat} (h:v3 n i=some j):seqIndex? i n=some j∧j<n∧-(n:Int)≤i∧i<n:=by
 unfold v3 at h
 by_cases h0:0≤i
 ·rw [if_pos h0] at h
  by_cases h1:i<n
  ·rw [if_pos h1] at h
   have e:i.toNat=j:=Option.some.inj h
   exact ⟨by rw [seqIndex_of h0 h1,e],by omega,by omega,h1⟩
  ·rw [if_neg h1] at h;cases h
 ·rw [if_neg h0] at h
  by_cases h1 : -(n:Int)≤i
  ·rw [if_pos h1] at h
   have e:(i+n).toNat=j:=Option.some.inj h
   exact ⟨by rw [seqIndex_neg (by omega) h1,e],by omega,h1,by omega⟩
  ·rw [if_neg h1] at h;cases h
theorem ZF {α:Type} {xs:List α} {i:Int} {v:α} (h:qG xs i=some v):∃j,seqIndex? i xs.length=some j∧xs[j]?=some v∧j<xs.length∧-(xs.length:Int)≤i∧i<xs.length:=by
 unfold qG at h
 cases e:v3 xs.length i with
 |none=>rw [e] at h;cases h
 |some j =>
  rw [e] at h
  obtain ⟨h1,h2,h3,h4⟩:=dC e
  exact ⟨j,h1,h,h2,h3,h4⟩
theorem vG {α:Type} {xs:List α} {j:Nat} {v:α} (h:xs[j]?=some v):qG xs (j:Int)=some v:=by
 have hj:j<xs.length:=(List.getElem?_eq_some_iff.mp h).1
 have e:v3 xs.length (j:Int)=some j:=by
  unfold v3
  rw [if_pos (by omega),if_pos (by omega)];simp
 unfold qG;rw [e];exact h
def nE (b:Expr):Prop:=∀o i,subscripted b false o i=operate [o,i] (getItem o i)
def zV (X:Cx) (r:R2):Prop :=
 ∀(value slice:Expr) (pins:List (Addr×Obj)) (s:Shared) (σ:St) (H:Hp) (x y:V) (v u:Value) (Q:VK),Inv X pins σ H s→RelV x v→RelV y u→r x y H Q→
  subscripted slice false v u=operate [v,u] (getItem v u)→wpAny (model X.prog X.w) X.A (subscriptTail value slice v u) (EP X pins σ Q) X.xe s
def Z0 (X:Cx) (id:String) (r:V→List V→Hp→VK→Prop):Prop :=
 ∀(pins:List (Addr×Obj)) (s:Shared) (σ:St) (H:Hp) (x:V) (xs:List V) (v:Value) (us:List Value) (Q:VK),Inv X pins σ H s→RelV x v→Vals xs us→r x xs H Q→
  wpAny (model X.prog X.w) X.A (call (.builtin id) (v::us)) (EP X pins σ Q) X.xe s
section
variable {X:Cx} {a b:Expr} {ta tb:TE} {pos:Pos}
theorem jH {r:R2} (hr:zV X r) (ha:PE X a ta) (hb:PE X b tb) (hs:nE b):PE X (.Subscript a b pos) (QE r ta tb):=by
 intro pins s σ H Q I h
 exact Subscript_ (ZS ha hb I h fun v u s2 x y H2 I2 rx ry q=>hr a b pins s2 σ H2 x y v u Q I2 rx ry q (hs _ _))
def eD (K:PySem.W.Frag):R2:=fun x y H Q=>∃p xs i v,x=.ref p∧y=.int i∧SqL K H p xs∧qG xs i=some v∧Q v H
def eC (K:PySem.W.Frag):R2:=fun x y H Q=>∃p xs i v,x=.ref p∧y=.int i∧SqT K H p xs∧qG xs i=some v∧Q v H
def pJ:R2:=fun x y H Q=>∃z i c,x=.str z∧y=.int i∧z.length≤sizeLine∧qG z.cps.toList i=some c∧Q (.str ⟨#[c]⟩) H
theorem jV:zV X (eD X.K):=by
 intro value slice pins s σ H x y v u Q I rx ry h hs
 obtain ⟨p,xs,i,z,rfl,rfl,hq,he,q⟩:=h
 cases rx
 obtain ⟨t,rfl⟩:=ry
 obtain ⟨its,r,pl,hz⟩:=I.list hq
 obtain ⟨j,h1,h2,h3,h4,h5⟩:=ZF he
 obtain ⟨w,ew,rw'⟩:=r.get h2
 have hl:=r.length
 have hn:=JC
 have fin:EP X pins σ Q w s:=⟨z,H,I,rw',q⟩
 by_cases h0:0≤i
 ·have hj:i.toNat=j:=by
   rw [seqIndex_of h0 h5] at h1
   exact Option.some.inj h1
  exact item_listR pl.isList h0 (by omega) (by rw [hj];simpa using ew) fin hs
 ·have hj:(i+(its.toArray.size:Int)).toNat=j:=by
   rw [seqIndex_neg (by omega) h4] at h1
   rw [List.size_toArray,← hl]
   exact Option.some.inj h1
  exact subscriptTail_builtinR (x:=w) pl.isList.typeIs slot_list_getitem.lookup
   (wpAny_getItem_list_neg (Q:=fun r s'=>r=w∧EP X pins σ Q r s') pl.isList (by omega) (by rw [List.size_toArray]<;>omega) (by omega) (by rw [hj];simpa using ew) ⟨rfl,fin⟩) hs
theorem jT:zV X (eC X.K):=by
 intro value slice pins s σ H x y v u Q I rx ry h hs
 obtain ⟨p,xs,i,z,rfl,rfl,hq,he,q⟩:=h
 cases rx
 obtain ⟨t,rfl⟩:=ry
 obtain ⟨its,r,pl,hz⟩:=I.tuple hq
 obtain ⟨j,h1,h2,h3,h4,h5⟩:=ZF he
 obtain ⟨w,ew,rw'⟩:=r.get h2
 have hl:=r.length
 have hn:=JC
 have fin:EP X pins σ Q w s:=⟨z,H,I,rw',q⟩
 exact subscriptTail_builtinR (x:=w) pl.typeIs slot_tuple_getitem.lookup
  (getItem_tuple (j:=j) (Q:=fun r s'=>r=w∧EP X pins σ Q r s') pl (by omega) (by omega) (by rw [List.size_toArray,← hl];exact h1) (by simpa using ew) ⟨rfl,fin⟩) hs
theorem dQ:zV X pJ:=by
 intro value slice pins s σ H x y v u Q I rx ry h hs
 obtain ⟨z,i,c,rfl,rfl,hz,he,q⟩:=h
 obtain ⟨t,rfl⟩:=rx
 obtain ⟨t',rfl⟩:=ry
 obtain ⟨j,h1,h2,h3,h4,h5⟩:=ZF he
 have hl:z.cps.toList.length=z.length:=by simp [Str.length]
 rw [hl] at h1 h4 h5
 have hn:=JC
 exact tail_any (typeIs_str s z t) slot_str_getitem.lookup (getItem_str (c:=c) (by
  have e1:decide (i < -(2 ^ 63:Int))=false:=decide_eq_false (by omega)
  have e2:decide (i≥2 ^ 63)=false:=decide_eq_false (by omega)
  rw [e1,e2,Bool.or_false]) (by rw [h1];simpa using h2) ⟨.str ⟨#[c]⟩,H,I.tok _,⟨_,rfl⟩,q⟩) hs
theorem gW (its:List Value) (n j:Nat) (u:Value):Obj.mapSeq (·.setIfInBounds j u) {cls:=.type "list",data:=.seq its.toArray n}={cls:=.type "list",data:=.seq (its.set j u).toArray n}:=by
 simp [Obj.mapSeq]
theorem Inv.lst {pins:List (Addr×Obj)} {σ:St} {H:Hp} {s:Shared} {p:Addr} {xs:List V} (I:Inv X pins σ H s) (h:H p=some (.lst xs)) :
  ∃(its:List Value) (n:Nat),Vals xs its∧s.heap.get? p=some {cls:=.type "list",data:=.seq its.toArray n}∧xs.length≤sizeLine:=by
 obtain ⟨z,its,n,r,e⟩:=I.hok p _ h
 exact ⟨its,n,r,e,z⟩
theorem Inv.lstUpd {pins:List (Addr×Obj)} {σ:St} {H:Hp} {s:Shared} {p:Addr} {xs ys:List V} {its its':List Value} {n n':Nat} {f:Obj→Obj} (I:Inv X pins σ H s) (h:H p=some (.lst xs))
  (ho:s.heap.get? p=some {cls:=.type "list",data:=.seq its.toArray n}) (hf:f {cls:=.type "list",data:=.seq its.toArray n}={cls:=.type "list",data:=.seq its'.toArray n'}) (r:Vals ys its') (hz:ys.length≤sizeLine) (t:Nat) :
  Inv X pins σ (upd H p (.lst ys)) {s with heap:=s.heap.update p f,toks:=t}:=by
 have e:(s.heap.update p f).get? p=some {cls:=.type "list",data:=.seq its'.toArray n'}:=by
  rw [Heap.get?_update_self f ho (by rw [hf]<;>rfl),hf]
 refine I.write (x:=p) (e:=p) (by rw [h];trivial) (.inl rfl) (fun b u hb q=>(Heap.get?_update_other _ _ (Ne.symm hb)).trans q) ⟨_,e⟩ ?_
 exact ⟨hz,its',n',r,e⟩
def oE:V→V→V→Hp→(Hp→Prop)→Prop:=fun o i v H Q=>∃p xs k j,o=.ref p∧i=.int k∧H p=some (.lst xs)∧v3 xs.length k=some j∧Q (upd H p (.lst (xs.set j v)))
theorem JY:eJ X oE:=by
 intro pins s σ H o i v ov iv u Q I ro ri rv h
 obtain ⟨p,xs,k,j,rfl,rfl,hp,hj,q⟩:=h
 cases ro
 obtain ⟨t,rfl⟩:=ri
 obtain ⟨its,n,r,ho,hz⟩:=I.lst hp
 obtain ⟨h1,h2,h3,h4⟩:=dC hj
 have hl:=r.length
 have hn:=JC
 have I':Inv X pins σ (upd H p (.lst (xs.set j v))) {s with heap:=s.heap.update p (Obj.mapSeq (·.setIfInBounds j u))} :=
  I.lstUpd hp ho (gW its n j u) (r.set rv j) (by rw [List.length_set];exact hz) s.toks
 by_cases h0:0≤k
 ·have hk:k.toNat=j:=by
   rw [seqIndex_of h0 h4] at h1
   exact Option.some.inj h1
  exact PySem.W.ki_setAt ho h0 (by omega) (by rw [List.size_toArray,← hl];exact h4) (by rw [hk];exact ⟨_,I',q⟩)
 ·have hk:(k+(its.toArray.size:Int)).toNat=j:=by
   rw [seqIndex_neg (by omega) h3] at h1
   rw [List.size_toArray,← hl]
   exact Option.some.inj h1
  exact PySem.W.ki_setBack ho (by omega) (by rw [List.size_toArray,← hl];exact h3) (by omega) (by rw [hk];exact ⟨_,I',q⟩)
theorem gE (lo hi:Option Int) (n:Nat):(sliceBounds lo hi none n).1=((HT.sIx n 0 lo:Nat):Int)∧(sliceBounds lo hi none n).2.1=((HT.sIx n n hi:Nat):Int)∧(sliceBounds lo hi none n).2.2=1:=by
 refine ⟨?_,?_,rfl⟩
 ·cases lo with
  |none=>simp [sliceBounds,HT.sIx]
  |some i =>
   simp only [sliceBounds,HT.sIx,Option.getD_none,show (1:Int)>0 by decide,if_true]
   by_cases h:i<0
   ·simp only [h,if_true]<;>omega
   ·simp only [h,if_false]<;>omega
 ·cases hi with
  |none=>simp [sliceBounds,HT.sIx]
  |some i =>
   simp only [sliceBounds,HT.sIx,Option.getD_none,show (1:Int)>0 by decide,if_true]
   by_cases h:i<0
   ·simp only [h,if_true]<;>omega
   ·simp only [h,if_false]<;>omega
theorem gC (its:List Value) (lo hi:Option Int):slicePick its.toArray lo hi none=((its.drop (HT.sIx its.length 0 lo)).take (HT.sIx its.length its.length hi - HT.sIx its.length 0 lo)).toArray:=by
 obtain ⟨h1,h2,h3⟩:=gE lo hi its.toArray.size
 unfold slicePick
 rw [h1,h2,h3]
 simp only [sliceRange_one,pick_run,List.size_toArray]<;>rfl
def pI (K:PySem.W.Frag):V→Option Int→Option Int→Hp→VK→Prop:=fun x lo hi H Q=>∃a xs,x=.ref a∧SqL K H a xs∧∀p,H p=none→Q (.ref p) (upd H p (.lst (qU xs lo hi)))
theorem mH:QJ X (pI X.K):=by
 intro pins s σ H x v vl vu lo hi sl Q I rx hs pl pu h
 obtain ⟨a,xs,rfl,hx,q⟩:=h
 cases rx
 obtain ⟨its,r,ht,hz⟩:=I.list hx
 have hlen:=r.length
 refine ⟨"list",_,slot_list_getitem.lookup,ht.isList.typeIs,?_⟩
 refine wpAny_getItem_list_slice ht.isList hs pl pu .none (by simp) ?_ (by rw [List.size_toArray]<;>omega)
 rw [gC,← hlen]
 refine ⟨.ref s.heap.objs.size,_,I.laid (t':=s.toks) (o:=.lst (qU xs lo hi)) (fun b ob q=>Heap.get?_push_of_some _ q) (Nat.le_refl _) ?_,rfl,q _ (I.hok.fresh (Nat.le_refl _))⟩
 exact ⟨Nat.le_trans (Z9 xs lo hi) hz,_,0,(r.drop (HT.sIx xs.length 0 lo)).take (HT.sIx xs.length xs.length hi - HT.sIx xs.length 0 lo),Heap.get?_push_size _ rfl⟩
def zS:V→Bool
 |.non=>true
 |.bl _=>true
 |.int _=>true
 |.str _=>true
 |_=>false
def QH:V→V→Bool
 |.non,.non=>true
 |.bl a,.bl b=>a == b
 |.bl a,.int b=>(if a then 1 else 0) == b
 |.int a,.bl b=>a == (if b then 1 else 0)
 |.int a,.int b=>a == b
 |.str a,.str b=>a == b
 |_,_=>false
theorem nY {A:Around} {s:Shared} {y x:V} {u v:Value} (ry:RelV y u) (rx:RelV x v) (fy:zS y=true) (fx:zS x=true):SeqAt.EqAt A s u v (QH y x):=by
 cases y with
 |non =>
  cases ry
  cases x with
  |non=>cases rx;exact SeqAt.EqAt.same _
  |bl b=>cases rx;exact SeqAt.EqAt.none_bool b
  |int b=>obtain ⟨t,rfl⟩:=rx;exact SeqAt.EqAt.none_int b t
  |str b=>obtain ⟨t,rfl⟩:=rx;exact SeqAt.EqAt.none_str b t
  |_=>exact absurd (show false=true from fx) Bool.false_ne_true
 |bl a =>
  cases ry
  cases x with
  |non=>cases rx;exact SeqAt.EqAt.bool_none a
  |bl b=>cases rx;exact SeqAt.EqAt.bool_bool a b
  |int b=>obtain ⟨t,rfl⟩:=rx;exact SeqAt.EqAt.bool_int a b t
  |str b=>obtain ⟨t,rfl⟩:=rx;exact SeqAt.EqAt.bool_str a b t
  |_=>exact absurd (show false=true from fx) Bool.false_ne_true
 |int a =>
  obtain ⟨t',rfl⟩:=ry
  cases x with
  |non=>cases rx;exact SeqAt.EqAt.int_none a t'
  |bl b=>cases rx;exact SeqAt.EqAt.int_bool a t' b
  |int b=>obtain ⟨t,rfl⟩:=rx;exact SeqAt.EqAt.int_int a t' b t
  |str b=>obtain ⟨t,rfl⟩:=rx;exact SeqAt.EqAt.int_str a t' b t
  |_=>exact absurd (show false=true from fx) Bool.false_ne_true
 |str a =>
  obtain ⟨t',rfl⟩:=ry
  cases x with
  |non=>cases rx;exact SeqAt.EqAt.str_none a t'
  |bl b=>cases rx;exact SeqAt.EqAt.str_bool a t' b
  |int b=>obtain ⟨t,rfl⟩:=rx;exact SeqAt.EqAt.str_int a t' b t
  |str b=>obtain ⟨t,rfl⟩:=rx;exact SeqAt.EqAt.str_str a t' b t
  |_=>exact absurd (show false=true from fx) Bool.false_ne_true
 |_=>exact absurd (show false=true from fy) Bool.false_ne_true
theorem QO:v0 X (.builtin "len") (fun xs H Q=>∃p ys,xs=[.ref p]∧(SqL X.K H p ys∨SqT X.K H p ys)∧Q (.int ys.length) H):=by
 intro pins s σ H xs us Q I r h
 obtain ⟨p,ys,rfl,hq,q⟩:=h
 obtain ⟨u,rfl,rx⟩:=ZN r
 cases rx
 have hn:=JC
 rcases hq with hq|hq
 ·obtain ⟨its,r',pl,hz⟩:=I.list hq
  have hlen:=r'.length
  exact Calls.call_len_list pl.isList (by simp only [List.size_toArray]<;>omega) ⟨.int ys.length,H,I.tok _,⟨s.toks+1,by rw [List.size_toArray,hlen]⟩,q⟩
 ·obtain ⟨its,r',pl,hz⟩:=I.tuple hq
  have hlen:=r'.length
  exact len_tuple pl (by simp only [List.size_toArray]<;>omega) ⟨.int ys.length,H,I.tok _,⟨s.toks+1,by rw [List.size_toArray,hlen]⟩,q⟩
theorem QT:v0 X (.type "list") (fun xs H Q=>∃p ys,xs=[.ref p]∧(SqL X.K H p ys∨SqT X.K H p ys)∧∀l,H l=none→Q (.ref l) (upd H l (.lst ys))):=by
 intro pins s σ H xs us Q I r h
 obtain ⟨p,ys,rfl,hq,q⟩:=h
 obtain ⟨u,rfl,rx⟩:=ZN r
 cases rx
 have fin:∀(its:List Value),Vals ys its→ys.length≤sizeLine→∀(h':Heap) (c':Nat),(∀b o',s.heap.get? b=some o'→h'.get? b=some o')→
   h'.get? s.heap.objs.size=some {cls:=.type "list",dict:=none,data:=.seq its.toArray c',slots := #[]}→EP X pins σ Q (.ref s.heap.objs.size) {s with heap:=h'}:=fun its r' hz h' c' kp e =>
  ⟨.ref s.heap.objs.size,_,I.laid (t':=s.toks) kp (Nat.le_refl _) (show ObjOk X.prog X.w _ h' _ (.lst ys) from ⟨hz,its,c',r',e⟩),rfl,q _ (I.hok.fresh (Nat.le_refl _))⟩
 rcases hq with hq|hq
 ·obtain ⟨its,r',pl,hz⟩:=I.list hq
  have hlen:=r'.length
  obtain ⟨o,ho,hc,n,hd⟩:=pl.isList
  exact call_list_seq p (.inl rfl) ho hc hd (fun h' c' kp e=>fin its r' hz h' c' kp e) (by simp only [List.size_toArray]<;>omega)
 ·obtain ⟨its,r',pl,hz⟩:=I.tuple hq
  have hlen:=r'.length
  obtain ⟨o,ho,hc,n,hd⟩:=pl
  exact call_list_seq p (.inr rfl) ho hc hd (fun h' c' kp e=>fin its r' hz h' c' kp e) (by simp only [List.size_toArray]<;>omega)
def ZV (K:PySem.W.Frag) (T:String) (x:V) (H:Hp):Prop:=match x with
 |.str _=>T="str"
 |.int _=>T="int"
 |.ref p=>(T="list"∧∃xs,SqL K H p xs)∨(T="tuple"∧∃o,K.lookup p=some o∧o.cls=.type "tuple"∧o.dict=none)∨
   (T="dict"∧((∃kvs,H p=some (.dK kvs))∨∃kvs,H p=some (.dT kvs)))∨(T="set"∧∃S n,H p=some (.set S n))
 |_=>False
theorem dJ {pins:List (Addr×Obj)} {σ:St} {H:Hp} {s:Shared} {T:String} {x:V} {v:Value} (I:Inv X pins σ H s) (r:RelV x v) (ty:ZV X.K T x H) :
  s.TypeIs v T∧∀a,v=.ref a→∃ob,s.heap.get? a=some ob∧ob.dict=none:=by
 cases x with
 |str z =>
  obtain ⟨t,rfl⟩:=r
  cases (show T="str" from ty)
  exact ⟨typeIs_str s z t,fun _ e=>nomatch e⟩
 |int i =>
  obtain ⟨t,rfl⟩:=r
  cases (show T="int" from ty)
  exact ⟨typeIs_int s i t,fun _ e=>nomatch e⟩
 |ref p =>
  cases r
  rcases ty with ⟨rfl,xs,hq⟩|⟨rfl,o,hk,hc,hd⟩|⟨rfl,hk⟩|⟨rfl,S,n,hk⟩
  ·obtain ⟨its,_,pl,_⟩:=I.list hq
   refine ⟨pl.isList.typeIs,fun a e=>?_⟩
   cases e
   obtain ⟨o,n,e,c,hd,_⟩:=pl
   exact ⟨o,e,hd⟩
  ·refine ⟨⟨o,I.kIn p o hk,hc⟩,fun a e=>?_⟩
   cases e
   exact ⟨o,I.kIn _ o hk,hd⟩
  ·have z:∃o,s.heap.get? p=some o∧o.ExactDict:=by
    rcases hk with ⟨kvs,hk⟩|⟨kvs,hk⟩
    ·obtain ⟨_,_,_,_,o,_,_,e,ex,_⟩:=I.hok p _ hk
     exact ⟨o,e,ex⟩
    ·obtain ⟨_,_,_,_,o,_,_,e,ex,_⟩:=I.hok p _ hk
     exact ⟨o,e,ex⟩
   obtain ⟨o,e,ex⟩:=z
   refine ⟨⟨o,e,ex.1⟩,fun a e2=>?_⟩
   cases e2
   exact ⟨o,e,ex.2.1⟩
  ·obtain ⟨o,_,_,_,e,ex,_⟩:=I.hok p _ hk
   refine ⟨⟨o,e,ex.1⟩,fun a e2=>?_⟩
   cases e2
   exact ⟨o,e,ex.2.1⟩
 |_=>exact False.elim ty
def pD (K:PySem.W.Frag) (T:String) (r:V→List V→Hp→VK→Prop) (to:TE):TE:=fun σ H Q=>to σ H fun x H1=>ZV K T x H1∧r x [] H1 Q
def p7 (K:PySem.W.Frag) (T:String) (r:V→List V→Hp→VK→Prop) (to:TE) (t:TA):TE:=fun σ H Q=>to σ H fun x H1=>ZV K T x H1∧t σ H1 fun xs H2=>r x xs H2 Q
variable {o e:Expr} {es:List Expr} {to:TE} {t:TA} {name:Str} {apos cpos:Pos} {T id:String} {r:V→List V→Hp→VK→Prop}
theorem nO (pa:PlainAttrs T) (slot:Slot T name id) (hty:typeOf (.builtin id)=pure (.type "method_descriptor")) (hm:Z0 X id r) (ho:PE X o to)
  (hbase:attributeBase o name X.env (eval o X.env)=eval o X.env:=by rfl) (hline:(apos.endLine == cpos.line)=true:=by rfl):PE X (.Call (.Attribute o name apos) [] [] cpos) (pD X.K T r to):=by
 intro pins s σ H Q I h
 refine wpAny_Call_method0_late hbase hline (jK (ho pins s σ H _ I h) fun v s1 ⟨x,H1,I1,r1,ty,q1⟩=>?_)
 obtain ⟨h1,h2⟩:=dJ I1 r1 ty
 exact ⟨T,id,pa,slot,hty,h1,h2,Calls.callWith_builtin rfl (PySem.evalArgs_none (hm pins s1 σ H1 x [] v [] Q I1 r1 .nil q1))⟩
theorem kW (pa:PlainAttrs T) (slot:Slot T name id) (hty:typeOf (.builtin id)=pure (.type "method_descriptor")) (hm:Z0 X id r) (ho:PE X o to) (ha:PA X (e::es) t)
  (hbase:attributeBase o name X.env (eval o X.env)=eval o X.env:=by rfl)
  (hfew:((backTo cpos (starEach (e::es) X.env)).all (fun x => !x.1)&&(backToKw cpos (keywordEach [] X.env)).all (fun x=>x.1.isSome)
   && decide ((e::es).length+([]:List Keyword).length+(if ([]:List Keyword).isEmpty then 0 else 1)<30))=true:=by rfl)
  (hline:(apos.endLine == cpos.line)=true:=by rfl) (hs:starEach (e::es) X.env=(false,eval e X.env)::starEach es X.env:=by rfl) (hplain:(backTo cpos (starEach es X.env)).any (·.1)=false:=by rfl) :
  PE X (.Call (.Attribute o name apos) (e::es) [] cpos) (p7 X.K T r to t):=by
 intro pins s σ H Q I h
 refine wpAny_Call_method_late hbase hfew hline rfl (jK (ho pins s σ H _ I h) fun v s1 ⟨x,H1,I1,r1,ty,q1⟩=>?_)
 obtain ⟨h1,h2⟩:=dJ I1 r1 ty
 refine ⟨T,id,pa,slot,hty,h1,h2,?_⟩
 have hA:=ha cpos pins s1 σ H1 _ I1 q1
 rw [hs] at hA ⊢
 refine Calls.callWith_builtin (by show (false||(backTo cpos (starEach es X.env)).any (·.1))=false;rw [hplain]<;>rfl) (Calls.evalArgs_plain ?_)
 exact jK hA fun us s2 ⟨vs,H2,I2,r2,q2⟩=>hm pins s2 σ H2 x vs v us Q I2 r1 r2 q2
/- xs.append(e),list.index on a module's tuple .. are Z0 facts of 06m -/
end
end L2
namespace L2
open PySem PySem.Spec PyProof.Rows
def QM (X:Cx) (id:String) (r:V→List V→Hp→VK→Prop):Prop :=
 ∀(pins:List (Addr×Obj)) (s:Shared) (σ:St) (H:Hp) (x:V) (xs:List V) (v:Value) (us:List Value) (Q:VK),Inv X pins σ H s→RelV x v→Vals xs us→r x xs H Q→
  wpAny (model X.prog X.w) X.A (call (.builtin id) (v::us)) (EP X pins σ Q) X.xe s
theorem Vals.one:∀{x:V} {us:List Value},Vals [x] us→∃u,us=[u]∧RelV x u
 |_,_,.cons r .nil=>⟨_,rfl,r⟩
theorem Vals.zero:∀{us:List Value},Vals [] us→us=[]
 |_,.nil=>rfl
theorem Vals.reverse {xs:List V} {us:List Value} (h:Vals xs us):Vals xs.reverse us.reverse:=by
 induction h with
 |nil=>exact .nil
 |cons r t ih=>rw [List.reverse_cons,List.reverse_cons];exact Vals.append ih (.cons r .nil)
section
variable {X:Cx} {pins:List (Addr×Obj)} {σ:St} {H:Hp} {s:Shared} {l b:Addr} {xs ys zs:List V}
theorem Inv.lset {its its':List Value} {n:Nat} {f:Array Value→Array Value} {t':Nat} (I:Inv X pins σ H s) (hH:H l=some (.lst xs))
  (e:s.heap.get? l=some {cls:=.type "list",data:=.seq its.toArray n}) (hf:f its.toArray=its'.toArray) (hv:Vals ys its') (hz:ys.length≤sizeLine) :
  Inv X pins σ (upd H l (.lst ys)) {s with heap:=s.heap.update l (Obj.mapSeq f),toks:=t'}:=by
 have q:=PySem.IsL.update e f
 rw [hf] at q
 refine I.write (x:=l) (e:=l) (by rw [hH];exact trivial) (.inl rfl) (fun b' u hb hu=>(Heap.get?_update_other s.heap (Obj.mapSeq f) (Ne.symm hb)).trans hu) ⟨_,q⟩ ?_
 exact ⟨hz,its',_,hv,q⟩
theorem Inv.lnew {its:List Value} {t':Nat} (I:Inv X pins σ H s) (hv:Vals ys its) (hz:ys.length≤sizeLine) :
  Inv X pins σ (upd H s.heap.objs.size (.lst ys)) {s with heap:=s.heap.push {cls:=.type "list",data:=.seq its.toArray},toks:=t'} :=
 I.laid (fun _ _ q=>Heap.get?_push_of_some _ q) (Nat.le_refl _) ⟨hz,its,0,hv,Heap.get?_push_size _ rfl⟩
theorem Inv.fresh (I:Inv X pins σ H s):H s.heap.objs.size=none:=I.hok.fresh (Nat.le_refl _)
theorem Inv.lstM (I:Inv X pins σ H s) (hH:H l=some (.lst xs)):xs.length≤sizeLine∧∃(its:List Value) (n:Nat),Vals xs its∧xs.length=its.length∧s.heap.get? l=some {cls:=.type "list",data:=.seq its.toArray n}:=by
 obtain ⟨z,its,n,r,e⟩:=I.hok l _ hH
 exact ⟨z,its,n,r,r.length,e⟩
theorem lO {n:Nat} (h:n≤sizeLine):Builtin.List.listTooLong n=false:=by
 unfold Builtin.List.listTooLong
 exact decide_eq_false (by omega)
end
section
variable {X:Cx}
def mL:V→List V→Hp→VK→Prop:=fun x vs H Q=>∃l xs y,x=.ref l∧vs=[y]∧H l=some (.lst xs)∧xs.length<sizeLine∧Q .non (upd H l (.lst (xs++[y])))
theorem vP:QM X "list.append" mL:=by
 intro pins s σ H x vs v us Q I rx rv h
 obtain ⟨l,xs,y,rfl,rfl,hH,hz,q⟩:=h
 cases rx
 obtain ⟨u,rfl,ru⟩:=rv.one
 obtain ⟨z,its,n,r,hl,e⟩:=I.lstM hH
 refine call_meets F.slot_list_append ⟨_,e,rfl⟩ F.entry_list_append (F.args_list_append_2 _ _) (PySem.list_append l its.toArray n u (by rw [List.size_toArray];omega)) ⟨e,?_⟩
 refine ⟨.non,_,I.lset (its':=its++[u]) hH e (by simp) (r.append (.cons ru .nil)) ?_,rfl,q⟩
 rw [List.length_append,List.length_singleton]
 omega
def mK:V→List V→Hp→VK→Prop:=fun x vs H Q=>∃l b xs zs,x=.ref l∧vs=[.ref b]∧H l=some (.lst xs)∧H b=some (.lst zs)∧xs.length+zs.length≤sizeLine∧Q .non (upd H l (.lst (xs++zs)))
theorem Q3:QM X "list.extend" mK:=by
 intro pins s σ H x vs v us Q I rx rv h
 obtain ⟨l,b,xs,zs,rfl,rfl,hH,hB,hz,q⟩:=h
 cases rx
 obtain ⟨u,rfl,ru⟩:=rv.one
 cases ru
 obtain ⟨z,its,n,r,hl,e⟩:=I.lstM hH
 obtain ⟨z2,its2,n2,r2,hl2,e2⟩:=I.lstM hB
 have hsz:its.toArray.size+its2.toArray.size≤sizeLine:=by rw [List.size_toArray,List.size_toArray];omega
 have hlong:¬(!its.toArray.isEmpty&&Builtin.List.listTooLong (its.toArray.size+its2.toArray.size))=true:=by
  rw [lO hsz,Bool.and_false]
  exact Bool.false_ne_true
 refine call_meets F.slot_list_extend ⟨_,e,rfl⟩ F.entry_list_extend (F.args_list_extend_2 _ _)
  (AutoSeq1.list_extend_list_list_0 l its.toArray n b its2.toArray n2 hlong (by rw [List.size_toArray];omega) (by omega)) ⟨e,e2,?_⟩
 refine ⟨.non,_,I.lset (its':=its++its2) hH e (by simp) (r.append r2) ?_,rfl,q⟩
 rw [List.length_append]
 omega
def lK:V→List V→Hp→VK→Prop:=fun x vs H Q=>∃l xs,x=.ref l∧vs=[]∧H l=some (.lst xs)∧Q .non (upd H l (.lst xs.reverse))
theorem gU:QM X "list.reverse" lK:=by
 intro pins s σ H x vs v us Q I rx rv h
 obtain ⟨l,xs,rfl,rfl,hH,q⟩:=h
 cases rx
 have hus:=rv.zero
 subst hus
 obtain ⟨z,its,n,r,hl,e⟩:=I.lstM hH
 refine call_meets F.slot_list_reverse ⟨_,e,rfl⟩ F.entry_list_reverse (F.args_list_reverse_1 _) (AutoSeq1.list_reverse_list_0 l its.toArray n (by rw [List.size_toArray];omega)) ⟨e,?_⟩
 refine ⟨.non,_,I.lset (its':=its.reverse) hH e (by simp) r.reverse ?_,rfl,q⟩
 rw [List.length_reverse]
 omega
def pL:R2:=fun x y H Q=>∃l b xs zs,x=.ref l∧y=.ref b∧H l=some (.lst xs)∧H b=some (.lst zs)∧xs.length+zs.length≤sizeLine∧∀p,H p=none→Q (.ref p) (upd H p (.lst (xs++zs)))
theorem vU:kL X (binaryOp .Add) pL:=by
 intro pins s σ H x y v u Q I rx ry h
 obtain ⟨l,b,xs,zs,rfl,rfl,hH,hB,hz,q⟩:=h
 cases rx
 cases ry
 obtain ⟨z,its,n,r,hl,e⟩:=I.lstM hH
 obtain ⟨z2,its2,n2,r2,hl2,e2⟩:=I.lstM hB
 refine PySem.P.add_list e e2 ?_ (by rw [List.size_toArray,List.size_toArray];omega)
 have ea:its.toArray++its2.toArray=(its++its2).toArray:=by simp
 rw [ea]
 exact ⟨.ref _,_,I.lnew (t':=s.toks) (r.append r2) (by rw [List.length_append];omega),rfl,q _ I.fresh⟩
end
section
variable {prog:Program} {w:World} {A:Around} {E:Value→Shared→Prop} {s:Shared}
end
section
variable {X:Cx}
end
end L2
namespace Att
open PySem PySem.W PySem.Calls PyProof.Rows
theorem gB {P:Params} {h:Heap}:∀(ns:List Int) (vs:List Value),WellAll P h vs (ns.map WData.int)→IntsAre vs ns:=by
 intro ns
 induction ns with
 |nil =>
  intro vs w
  rw [List.map_nil] at w
  cases w
  exact .nil
 |cons n ns ih =>
  intro vs w
  rw [List.map_cons] at w
  cases w with
  |cons a b =>
   cases a
   exact .cons _ _ (ih _ b)
theorem iK {l:OpenLaw} {n:Nat} (hn:l.most=some n) {P:Params} {h:Heap} {args:List WData} {vals:List Value}
  (hpre:l.row.toRowW.claim.pre args=true) (hwl:WellAll P h vals args) :
  ∃a vs ns,vals=[Value.ref a]∧args=[WData.list (ns.map WData.int)]∧h.get? a=some {cls:=.type "list",data:=.seq vs.toArray}∧IntsAre vs ns∧ns.length≤n:=by
 have hsh:WShape.hasAll [] args [.list .int]=true:=(pre_splitW hpre).1
 have hc:l.pre.holds [] {args:=args}=true:=(pre_splitW hpre).2
 obtain ⟨d,r,rfl,h1,h2⟩:=hasAllW_cons hsh
 obtain rfl:=hasAllW_nil h2
 obtain ⟨xs,rfl,h3⟩:=hasW_list h1
 obtain ⟨ns,rfl⟩:=items_int h3
 have hlen:ns.length≤n:=by
  unfold OpenLaw.pre at hc
  have h4:(WTm.not (.lt (.lit (.int (n:Int))) (.len (.arg 0)))).holds [] {args:=[.list (ns.map .int)]}=true:=by
   have h4:=(holds_andW hc).1
   rw [hn] at h4
   exact h4
  have h5:=condW_of h4 (w_not (w_lt w_lit (w_len_list (w_arg rfl))))
  rw [List.length_map] at h5
  refine Nat.le_of_not_lt fun q=>?_
  have q':(n:Int)<((ns.length:Nat):Int):=by omega
  first
   | (rw [decide_eq_true q'] at h5;exact absurd h5 (by decide))
   | (simp at h5;omega)
 cases hwl with
 |cons w1 w2 =>
  cases w2
  cases w1 with
  |list ho hall=>exact ⟨_,_,ns,rfl,rfl,ho,gB ns _ hall,hlen⟩
theorem iM (l:OpenLaw) (args:List WData):l.row.toRowW.claim.post args (.bool true) args=true :=
 postW_of (r:=l.row.toRowW) (X:=(true == true))
  (show WShape.has [] (.bool true) .bool=true by first|rfl|decide|simp [WShape.has,WShape.arms,WShape.armsAll])
  (show (WTm.eq .res (.lit (.bool true))).value [] {args:=args,res:=some (.bool true),after:=args}=some (.bool (true == true)) from w_eq_bool (w_res rfl) w_lit) rfl
theorem attach_call {l:OpenLaw} {n:Nat} {q:Program} {loose:List Str} {XP:(Str→Option Value)→Heap→Prop} {YP:World→Heap→Prop} {d:DefRec}
  (hn:l.most=some n) (hdf:d.params.defaults=[])
  (call:∀(w:World) (s₀ s₁:Shared) (mg mb:Str→Option Value) (fa:Addr) (o:Obj) (pm cd doc:Value) (a:Addr) (vs:List Value) (ns:List Int),
   Ground q loose [] XP w s₀ mg mb s₁.heap→YP w s₁.heap→
   s₁.heap.get? fa=some o→o.data=.func (docDef d.name d.params d.body d.scope pm cd doc)→s₁.heap.CodeRec cd d.name→mg d.name=some (.ref fa)→
   s₁.heap.get? a=some {cls:=.type "list",data:=.seq vs.toArray}→IntsAre vs ns→ns.length≤n→s₁.gens = #[]→
   codeAny (model l.prog w) callerA (.call (.ref fa) ⟨[.ref a],[]⟩) (fun r s'=>r=.ok (.ret (.bool true))∧OldK s₁.heap s'.heap∧s'.os=s₁.os∧AllBare s'.gens) s₁) :
  WalkO q loose XP YP l.row.toRowW d [] (fun f vs=>PySem.call f vs):=by
 intro w s₀ s₁ mg mb G Y fa o pm cd doc dV kV ho hd hcd hD hmg hg args vals as hpre hlay hrd hwl hlo
 obtain rfl:dV=.none:=Dflts.none hD hdf
 obtain rfl:kV=.none:=Dflts.noKw hD
 obtain ⟨a,vs,ns,rfl,rfl,hobj,hints,hlen⟩:=iK hn hpre hwl
 refine enter_call (codeAny_mono (call w s₀ s₁ mg mb fa o pm cd doc a vs ns G Y ho (fd_plain hd) hcd hmg hobj hints hlen hg) fun r s' hq=>?_)
 obtain ⟨rfl,h2,h3,h4⟩:=hq
 exact ⟨.inl ⟨.bool true,.bool true,[],rfl,fun _=>rfl,.bool true,iM l _,fun _=>⟨List.Pairwise.nil,fun _ hm=>(nomatch hm)⟩⟩,h2,h3,h4⟩
section
variable {prog:Program} {w:World} {A:Around} {E:Value→Shared→Prop} {s:Shared} {K:Frag}
def rA (h:Heap) (L d:Addr):List (Addr×Obj):=(List.range h.objs.size).filterMap fun a=>if a=L∨a=d then none else (h.get? a).map fun o=>(a,o)
end
end Att
namespace L2
open PySem PySem.Spec PyProof.Rows
theorem bI:∀{vs:List Value} {ns:List Int},IntsAre vs ns→Vals (ns.map V.int) vs
 |_,_,.nil=>.nil
 |_,_,.cons n t h=>.cons ⟨t,rfl⟩ (bI h)
def ZU (H:Hp):Prop:=∀b,H b=none∨∃o xs,H b=some (.frz o (.lst xs))
theorem lS {P:Program} {w:World} {K:PySem.W.Frag} {mg mb:Str→Option Value} {CX:q9} {k:Nat} {fa a:Addr} {fd:FuncData} {x:Str} {sp:Sp} {s₁:Shared} {vs:List Value} {ns:List Int}
  (KX:K.In s₁.heap) (hns:s₁.heap.Ns mainGlobals mg) (hb:s₁.heap.Ns builtinsNs mb) (hbb:∀x:Str,x≠"__name__"→mb x=bootBuiltins x) (hlim:s₁.heap.NoLimit) (hg:s₁.gens = #[])
  (ha:s₁.heap.get? a=some {cls:=.type "list",data:=.seq vs.toArray}) (hi:IntsAre vs ns) (hl:ns.length≤sizeLine) (hr:Room k callerA)
  (F:∀base:Heap,K.In base→base.Ns mainGlobals mg→FnOk P w K mg base CX k fa fd [x] sp) (hbind:∀(s:Shared) (u:Value),BindsTo s fd ⟨[u],[]⟩ [(x,u)])
  (hsp:∀H:Hp,ZU H→SqL K H a (ns.map V.int)→sp [.ref a] H (fun v _=>v=.bl true) fun _ _ _=>False)
  (hCX:∀H e s',CX [] H s₁ (fun _ _ _=>False) e s'→False) :
  codeAny (model P w) callerA (.call (.ref fa) ⟨[.ref a],[]⟩) (fun r s'=>r=.ok (.ret (.bool true))∧OldK s₁.heap s'.heap∧s'.os=s₁.os∧AllBare s'.gens) s₁:=by
 have rv:=bI hi
 have lenV:=hi.length
 have core:∀H:Hp,ZU H→SqL K H a (ns.map V.int)→HOk P w H s₁.heap→(∀b,H b≠none→b=a)→(H a≠none→K.lookup a=none)→
   codeAny (model P w) callerA (.call (.ref fa) ⟨[.ref a],[]⟩) (fun r s'=>r=.ok (.ret (.bool true))∧OldK s₁.heap s'.heap∧s'.os=s₁.os∧AllBare s'.gens) s₁:=by
  intro H hO hS hok hA hK
  have base_of:∀{b:Addr} {o:Obj},s₁.heap.get? b=some o→H b=none→(v1 s₁.heap H).get? b=some o:=fun e n=>lV e n
  have noA:∀{b:Addr} {o:Obj} {es:Array DictEntry} {ep:Nat},s₁.heap.get? b=some o→o.data=.dict es ep→H b=none:=fun {b o es ep} e d=>by
   cases q:H b with
   |none=>rfl
   |some u =>
    have e':b=a:=hA b (by rw [q];simp)
    subst e'
    rw [ha] at e;cases e
    have d':Data.seq vs.toArray _=Data.dict es ep:=d
    cases d'
  have nsK:∀{b:Addr} {m:Str→Option Value},s₁.heap.Ns b m→(v1 s₁.heap H).Ns b m:=fun {b m} ⟨o,es,ep,e,d,r⟩=>⟨o,es,ep,base_of e (noA e d),d,r⟩
  have hKb:K.In (v1 s₁.heap H):=fun b o e=>base_of (KX b o e) (by
   cases q:H b with
   |none=>rfl
   |some u =>
    have e':b=a:=hA b (by rw [q];simp)
    subst e'
    rw [hK (by rw [q];simp)] at e;cases e)
  have hM:Mod K mg (v1 s₁.heap H):=⟨hKb,nsK hns,⟨mb,nsK hb,hbb⟩,let ⟨mc,h1,h2⟩:=hlim;⟨mc,nsK h1,h2⟩⟩
  have e0:Env0 P w K mg (v1 s₁.heap H) callerA [] s₁ H:=⟨rfl,hM,fun b o e=>mS e,Nat.le_of_eq (iX _ _),trivial,fun b hb=>absurd (show b∈([]:List Addr) from hb) (by simp),hok,.of_eq hg⟩
  refine codeAny_mono ((F _ hKb (nsK hns)).run callerA [] s₁ H ⟨[.ref a],[]⟩ [.ref a] [.ref a] _ _ hr e0 (hbind s₁ (.ref a)) (.cons rfl .nil) (hsp H hO hS)) fun r s' h=>?_
  cases r with
  |error e=>exact (hCX H e s' h).elim
  |ok fl =>
   cases fl with
   |next=>exact False.elim h
   |brk=>exact False.elim h
   |cont=>exact False.elim h
   |ret u =>
    obtain ⟨v,H',os,bare,un,hok',r',q⟩:=h
    have q':v=.bl true:=q
    subst q'
    obtain rfl:u=Value.bool true:=r'
    refine ⟨rfl,OldK.of_keep fun b o e=>?_,os,bare⟩
    cases q:H b with
    |none=>exact un.keep b o e q (by intro z;exact absurd (show b∈([]:List Addr) from z) (by simp)) (by simp)
    |some u =>
     rcases hO b with z|⟨ob,xs,z⟩
     ·rw [q] at z;cases z
     ·have z2:=un.frzs b ob _ z
      obtain ⟨e1,_⟩:=hok b _ z
      obtain ⟨e2,_⟩:=hok' b _ z2
      rw [e] at e1;cases e1
      exact e2
 cases hk:K.lookup a with
 |some o =>
  have e:=KX a o hk
  rw [ha] at e
  cases e
  refine core (fun _=>none) (fun _=>.inl rfl) (.inr ⟨_,vs.toArray,_,hk,rfl,rfl,rfl,by rw [List.size_toArray,lenV];exact hl,by simpa using rv⟩) (fun b u z=>by have z':(none:Option HO)=some u:=z;cases z') (fun b z=>absurd rfl z) fun z=>absurd rfl z
 |none =>
  refine core (fun b=>if b=a then some (.frz {cls:=.type "list",data:=.seq vs.toArray} (.lst (ns.map V.int))) else none) (fun b=>?_) (.inl (.inr ⟨{cls:=.type "list",data:=.seq vs.toArray},if_pos rfl⟩)) (fun b u z=>?_) (fun b z=>?_) fun _=>hk
  ·by_cases hb:b=a
   ·exact .inr ⟨_,_,if_pos hb⟩
   ·exact .inl (if_neg hb)
  ·by_cases hb:b=a
   ·have z':=(if_pos hb).symm.trans z
    cases z'
    subst hb
    exact ⟨ha,by rw [List.length_map];exact hl,vs,_,rv,ha⟩
   ·have z':=(if_neg hb).symm.trans z
    cases z'
  ·by_cases hb:b=a
   ·exact hb
   ·exact absurd (if_neg hb) z
end L2
namespace L2
open PySem PySem.Spec PyProof.Rows
abbrev KOf {K:PySem.W.Frag} {h:Heap} (_:K.In h):PySem.W.Frag:=K
theorem walk_of {l:PySem.W.OpenLaw} {n k:Nat} {q:Program} {loose:List Str} {XP:(Str→Option Value)→Heap→Prop} {YP:World→Heap→Prop} {d:DefRec} {K:Params→PySem.W.Frag} {CX:World→q9} {sp:World→Sp} {x:Str}
  (hn:l.most=some n) (hn2:n≤sizeLine) (hdf:d.params.defaults=[]) (hr:Room k callerA)
  (hY:∀(w:World) (h:Heap),YP w h→(K w.params).In h)
  (F:∀(w:World) (mg:Str→Option Value) (fa:Addr) (h:Heap),(K w.params).In h→h.Ns mainGlobals mg→mg d.name=some (.ref fa)→
   ∃fd:FuncData,(∀(s:Shared) (u:Value),BindsTo s fd ⟨[u],[]⟩ [(x,u)])∧
    ∀base:Heap,(K w.params).In base→base.Ns mainGlobals mg→FnOk l.prog w (K w.params) mg base (CX w) k fa fd [x] (sp w))
  (hsp:∀(w:World) (H:Hp) (a:Addr) (ns:List Int),ns.length≤n→ZU H→SqL (K w.params) H a (ns.map V.int)→sp w [.ref a] H (fun v _=>v=.bl true) fun _ _ _=>False)
  (hCX:∀(w:World) (H:Hp) (s:Shared) (e:Value) (s':Shared),CX w [] H s (fun _ _ _=>False) e s'→False) :
  PySem.W.WalkO q loose XP YP l.row.toRowW d [] (fun f vs=>PySem.call f vs):=by
 refine Att.attach_call hn hdf fun w s₀ s₁ mg mb fa o pm cd doc a vs ns G Y ho hd hcd hmg hobj hints hlen hg=>?_
 have KX:=hY w _ Y
 obtain ⟨fd,hb,hF⟩:=F w mg fa _ KX G.T.g hmg
 exact lS KX G.T.g G.T.b G.T.builtins G.T.nolimit hg hobj hints (Nat.le_trans hlen hn2) hr hF hb (fun H hO hS=>hsp w H a ns hlen hO hS) fun H e s'=>hCX w H s₁ e s'
end L2
/- THE LAST THEOREM (shape;LID,My.* are yours):
  My.Adr: a structure of the addresses that your layer names (classes,functions);My.Txt K t: a structure (Prop) of the equations over K;
  My.txt_mk:{K} {implicit addresses ..} (e1:nsIn K mainGlobals "law"=some (some (.ref f))) (e2:K.lookup f=some ⟨oc,od,.func (fnOf "law" "law" params body scope dV kV doc pm an cdv ct),sl⟩) (e3:codeIn K cdv "law"=true) .. : ∃t,My.Txt K t
set_option maxRecDepth 100000 in
set_option maxHeartbeats 0 in
theorem PySem.Challenge.cw_LID_holds : PySem.Challenge.rw_LID.Holds := by
 w_on;o_law;k_head;(case hw=>w_witness2)
 k_fill
 refine L2.walk_of (l:=PySem.Challenge.rw_LID) (n:=63) (k:=40) (x:="script") (CX:=fun w=>..) (sp:=fun _=>My.sp_law) rfl (by decide) rfl ⟨rfl,by decide,by decide⟩ (fun w h Y=>PySem.W.kIn_of Y) ?F ?S ?C
 case F =>
  intro w mg fa h KX G hmg
  have T:∃t,My.Txt (L2.KOf KX) t:=by
   dsimp only [L2.KOf] -- K must stand as «<heap const> w.params» for k_is
   refine' My.txt_mk ?e1 ?e2 ?e3 ..
   (case e1=>PySem.W.k_is) -- in the order: a name -> its address -> its object -> its parts
   (case e2=>PySem.W.k_is)
   ..
  obtain ⟨t,T⟩:=T
  have e0:=hmg.symm.trans (PySem.W.mg_of KX G T.law)
  cases e0 -- fa is the law's own address
  exact ⟨_,fun s u=>.of_eq rfl,fun base kb nb=>My.law_fn T kb nb⟩ -- if «.of_eq rfl» comes too early: refine' ⟨_,?b,fun base kb nb=>My.law_fn T kb nb⟩;exact fun s u=>.of_eq rfl
 case S=>exact fun w H a ns hl hO hS=>..
 case C=>exact ..
(the tactic k_is has no namespace: write k_is) -/
namespace L2
open PySem PySem.Spec PyProof.Rows
def q0 (s:Stmt) (j:Nat):Stmt:=match s with
 |.ClassDef _ _ _ body _ _ _ _ _ _ _=>body.getD j (.Pass ⟨0,0,0,0⟩)
 |_=>.Pass ⟨0,0,0,0⟩
def jW (s:Stmt):Arguments:=match s with
 |.FunctionDef _ a _ _ _ _ _ _ _ _=>a
 |_=>{posonlyargs:=[],args:=[],vararg:=none,kwonlyargs:=[],kw_defaults:=[],kwarg:=none,defaults:=[]}
def jS (s:Stmt):List Stmt:=match s with
 |.FunctionDef _ _ b _ _ _ _ _ _ _=>b
 |_=>[]
def jG (s:Stmt):Scope:=match s with
 |.FunctionDef _ _ _ _ _ _ sc _ _ _=>sc
 |_=>{kind:=.function,names:=[],isGenerator:=false,isCoroutine:=false}
abbrev jR:q9:=fun _ _ _ _ _ _=>False
abbrev E0:XK:=fun _ _ _=>False
theorem QB {X:Cx}:JD jR X E0:=fun _ _ _ _ _ _ _ h=>h.elim
structure Fun (K:PySem.W.Frag) (x qual:Str) (st:Stmt) (f:Addr) (fd:FuncData):Prop where
 ex:∃(oc:Value) (od:Option Addr) (kV doc pm:Value) (an:Option Addr) (cdv ct:Value) (osl:Array (Option Value)),
  fd=PySem.W.fnOf x qual (jW st) (jS st) (jG st) .none kV doc pm an cdv ct∧K.lookup f=some ⟨oc,od,.func fd,osl⟩∧PySem.W.codeIn K cdv qual=true
 kp:PySem.W.keepIn K (.ref f)=true
section
variable {P:Program} {w:World} {K:PySem.W.Frag} {mg:Str→Option Value} {base:Heap}
theorem Fun.ok {x qual:Str} {st:Stmt} {f:Addr} {fd:FuncData} {N ps:List Str} {k:Nat} {sp:Sp} (F:Fun K x qual st f fd) (S:FnScope N ps (jG st)) (len:∀vs H Q E,sp vs H Q E→vs.length=ps.length)
  (hbody:∀(cdv:Value) (A:Around) (outer:List Env) (s:Shared) (H:Hp) (vs:List V) (Q:VK) (E:XK),Room k (A.deeper (envOfC qual (jG st) s.heap.objs.size f cdv))→sp vs H Q E→
   ∃t,PSs (yQ jR P w K mg base N qual (jG st) f cdv A outer s H E).nox (jS st) t∧t {nx:=fun _ H'=>Q .non H',rt:=Q} (vY N vs) H):FnOk P w K mg base jR (k+1) f fd ps sp:=by
 obtain ⟨oc,od,kV,doc,pm,an,cdv,ct,osl,rfl,lk,hcd⟩:=F.ex
 refine d0 lk hcd S len fun A outer s H vs Q E hr hsp=>?_
 obtain ⟨t,h,q⟩:=hbody cdv A outer s H vs Q E hr hsp
 exact ⟨t,h.nox,q⟩
theorem Fun.binds {x qual:Str} {st:Stmt} {f:Addr} {fd:FuncData} {ps:List Str} (F:Fun K x qual st f fd)
  (h:∀(kV doc pm:Value) (an:Option Addr) (cdv ct:Value) (us:List Value),us.length=ps.length→bindArgs (PySem.W.fnOf x qual (jW st) (jS st) (jG st) .none kV doc pm an cdv ct) ⟨us,[]⟩=pure (ps.zip us)):Binds K fd ps []:=by
 obtain ⟨oc,od,kV,doc,pm,an,cdv,ct,osl,rfl,lk,hcd⟩:=F.ex
 exact .all (h kV doc pm an cdv ct)
theorem j9 {x qual:Str} {st:Stmt} {f:Addr} {oc:Value} {od an:Option Addr} {osl:Array (Option Value)} {kV doc pm cdv ct:Value} (l:K.lookup f=some ⟨oc,od,.func (PySem.W.fnOf x qual (jW st) (jS st) (jG st) .none kV doc pm an cdv ct),osl⟩)
  (c:PySem.W.codeIn K cdv qual=true) (k:PySem.W.keepIn K (.ref f)=true):Fun K x qual st f (PySem.W.fnOf x qual (jW st) (jS st) (jG st) .none kV doc pm an cdv ct):=⟨⟨oc,od,kV,doc,pm,an,cdv,ct,osl,rfl,l,c⟩,k⟩
end
theorem j8 {A:Around} {k:Nat} (hr:Room k A):A.units+1<cLine:=Nat.lt_of_le_of_lt (Nat.add_le_add_left (by decide:1≤64) _) hr.units
theorem qJ {n:Nat} (h:n≤1000):n<sizeLine:=Nat.lt_of_le_of_lt h (by decide)
section
variable {X:Cx}
theorem pv (i:Nat) {x:Str} {pos:Pos} (hN:X.N[i]?=some x:=by rfl) (hv:QI X.env.scope x:=by first|exact Or.inl rfl|exact Or.inr (Or.inl rfl)|exact Or.inr (Or.inr rfl)) (hd:(x == ("__debug__":Str))=false:=by decide)
  (hcd:(x == ("__classdict__":Str))=false:=by decide):PE X (.Name x pos) (d8 i):=nL hN hv hd hcd
end
theorem eI {A B:Prop} (h:B):if false=true then A else B:=by
 rw [if_neg Bool.false_ne_true]
 exact h
theorem qC {A B:Prop} (h:A):if true=true then A else B:=by
 rw [if_pos rfl]
 exact h
theorem JH {c A B:Prop} [Decidable c] (h1:c→A) (h2:¬c→B):if c then A else B:=by
 by_cases h:c
 ·rw [if_pos h]
  exact h1 h
 ·rw [if_neg h]
  exact h2 h
theorem ZQ {c A B:Prop} [Decidable c] (hc:c) (h:B):if (!decide c)=true then A else B:=by
 rw [decide_eq_true hc]
 exact eI h
def Same (H H':Hp):Prop:=∀b o,H b=some o→H' b=some o
theorem Same.refl (H:Hp):Same H H:=fun _ _ h=>h
theorem Same.trans {H H1 H2:Hp} (a:Same H H1) (b:Same H1 H2):Same H H2:=fun c o h=>b c o (a c o h)
theorem Same.free {H H':Hp} (e:Same H H') {l:Addr} (h:H' l=Option.none):H l=Option.none:=by
 cases q:H l with
 |none=>rfl
 |some o =>
  rw [e l o q] at h
  cases h
theorem Same.seq {K:PySem.W.Frag} {H H':Hp} {a:Addr} {xs:List V} (e:Same H H') (h:SqL K H a xs):SqL K H' a xs:=by
 rcases h with (h|⟨o,h⟩)|h
 ·exact .inl (.inl (e _ _ h))
 ·exact .inl (.inr ⟨o,e _ _ h⟩)
 ·exact .inr h
end L2
namespace L2
open PySem PySem.Spec PyProof.Rows
def qH (cells:List (Str×Addr)):List (Str×NameKind)→List (Str×Addr)→List (Str×Addr)
 |[],cs=>cs
 | (n,k)::r,cs=>if (k == NameKind.free)=true then qH cells r ((n,(cells.lookup n).getD 0)::cs) else qH cells r cs
theorem Z5 {scope:Scope} {env:Env} (h:∀x∈scope.names,x.2=.free→∃c,env.cells.lookup x.1=some c):closureFor scope env=pure (qH env.cells scope.names []):=by
 simp only [closureFor]
 have go:∀(l:List (Str×NameKind)) (cs:List (Str×Addr)),(∀x∈l,x.2=.free→∃c,env.cells.lookup x.1=some c)→
   (forIn l cs fun x r=>match x with|(name,kind)=>if (kind == NameKind.free)=true then do let a ← cellOf env name;pure (ForInStep.yield ((name,a)::r)) else pure (ForInStep.yield r):Sem (List (Str×Addr)))=pure (qH env.cells l cs):=by
  intro l
  induction l with
  |nil=>intro cs _;rfl
  |cons p r ih =>
   intro cs hp
   obtain ⟨n,k⟩:=p
   rw [List.forIn_cons]
   have hr:=fun cs=>ih cs fun x hx=>hp x (List.mem_cons_of_mem _ hx)
   by_cases hk:(k == NameKind.free)=true
   ·have hk':k=NameKind.free:=by simpa using hk
    obtain ⟨c,hc⟩:=hp (n,k) List.mem_cons_self hk'
    have hc':env.cells.lookup n=some c:=hc
    simp only [hk,if_true,qH,cellOf,hc',Option.getD_some,pure_bind]
    exact hr _
   ·simp only [hk,if_false,qH,pure_bind]
    exact hr _
 rw [go scope.names [] h]
 rfl
theorem JS {cells:List (Str×Addr)}:∀{l:List (Str×NameKind)} {cs:List (Str×Addr)} {x:Str} {c:Addr},(∀y∈l,y.2=.free→∃c,cells.lookup y.1=some c)→(∀y d,cs.lookup y=some d→cells.lookup y=some d)→
  (qH cells l cs).lookup x=some c→cells.lookup x=some c
 |[],cs,x,c,_,hc,e=>hc x c e
 | (n,k)::r,cs,x,c,hl,hc,e=>by
  unfold qH at e
  by_cases hk:(k == NameKind.free)=true
  ·rw [if_pos hk] at e
   obtain ⟨d,hd⟩:=hl (n,k) List.mem_cons_self (by simpa using hk)
   have hd':cells.lookup n=some d:=hd
   refine JS (fun y hy=>hl y (List.mem_cons_of_mem _ hy)) (fun y d' q=>?_) e
   rw [List.lookup_cons] at q
   by_cases hy:(y == n)=true
   ·rw [hy] at q
    have hyn:y=n:=by simpa using hy
    subst hyn
    rw [hd'] at q ⊢
    exact q
   ·rw [Bool.not_eq_true] at hy
    rw [hy] at q
    exact hc y d' q
  ·rw [if_neg hk] at e
   exact JS (fun y hy=>hl y (List.mem_cons_of_mem _ hy)) hc e
theorem QZ {cells:List (Str×Addr)}:∀{l:List (Str×NameKind)} {cs:List (Str×Addr)} {x:Str},(∃c,cs.lookup x=some c)→∃c,(qH cells l cs).lookup x=some c
 |[],_,_,h=>h
 | (n,k)::r,cs,x,h=>by
  unfold qH
  by_cases hk:(k == NameKind.free)=true
  ·rw [if_pos hk]
   refine QZ ?_
   rw [List.lookup_cons]
   by_cases hy:(x == n)=true
   ·rw [hy];exact ⟨_,rfl⟩
   ·rw [Bool.not_eq_true] at hy
    rw [hy];exact h
  ·rw [if_neg hk];exact QZ h
theorem JW {cells:List (Str×Addr)}:∀{l:List (Str×NameKind)} {cs:List (Str×Addr)} {x:Str},(x,NameKind.free)∈l→∃c,(qH cells l cs).lookup x=some c
 | (n,k)::r,cs,x,h=>by
  unfold qH
  rcases List.mem_cons.mp h with e|e
  ·cases e
   rw [if_pos (by rfl)]
   exact QZ (by rw [List.lookup_cons,beq_self_eq_true];exact ⟨_,rfl⟩)
  ·by_cases hk:(k == NameKind.free)=true
   ·rw [if_pos hk];exact JW e
   ·rw [if_neg hk];exact JW e
theorem lB {prog:Program} {w:World} {A:Around} {elt target iter:Expr} {ifs:List Expr} {scope:Scope} {pos:Pos} {it acc:Value} {env:Env} {R:Result→Shared→Prop} {s:Shared} (I:Nat→Shared→Prop)
  (turn:∀n s,I n s→wpAny (model prog w) A (pyNext it) (fun r s₁=>match r with
   |none=>R (.ok .next) s₁
   |some v=>wpAny (model prog w) A (letOwnedTupleGo target it v) (fun _ s₁'=>wpAny (model prog w) A (assign target env v) (fun _ s₂ =>
     wpAny (model prog w) A (forIn ifs true fun c r=>if r=true then do let ok ← isTrue c env (eval c env);pure (ForInStep.yield ok) else pure (ForInStep.yield r)) (fun ok s₃ =>
      if ok=true then wpAny (model prog w) A (eval elt env) (fun x s₄ =>
       wpAny (model prog w) A (call (.builtin "list.append") [acc,x]) (fun _ s₅=>∃m,m<n∧I m s₅) (fun _ _=>False) s₄) (fun _ _=>False) s₃
      else ∃m,m<n∧I m s₃) (fun _ _=>False) s₂) (fun _ _=>False) s₁') (fun _ _=>False) s₁) (fun _ _=>False) s)
  (n:Nat) (h:I n s):codeAny (model prog w) A (.compLoop (.ListComp elt [⟨target,iter,ifs,0⟩] scope pos) 0 it acc env) R s:=by
 refine codeAny_loop rfl I (fun n s hI=>?_) n h
 show wpAny _ A ((compTurn (.ListComp elt [⟨target,iter,ifs,0⟩] scope pos) 0 it acc env).onRaise (fun x=>do noteFrame x env;theTreesLotGoes x)) _ _ s
 refine wpAny_noted ?_
 rw [compTurn_list]
 refine wpAny_bind (wpAny_standAt (wpAny_bind (wpAny_mono (turn n s hI) (fun r s₁ h₁=>?_) fun _ _ h'=>h'.elim)))
 cases r with
 |none=>exact wpAny_pure h₁
 |some v =>
  refine wpAny_bind (wpAny_mono h₁ (fun _ s₁' h₁'=>?_) fun _ _ h'=>h'.elim)
  refine wpAny_bind (wpAny_mono h₁' (fun _ s₂ h₂=>wpAny_bind (wpAny_mono h₂ (fun ok s₃ h₃=>?_) fun _ _ h'=>h'.elim)) fun _ _ h'=>h'.elim)
  cases ok with
  |false=>exact wpAny_pure ⟨rfl,h₃⟩
  |true =>
   exact wpAny_bind (wpAny_bind (wpAny_mono h₃ (fun x s₄ h₄=>wpAny_bind (wpAny_mono h₄ (fun _ s₅ h₅=>wpAny_pure (wpAny_pure ⟨rfl,h₅⟩)) fun _ _ h'=>h'.elim)) fun _ _ h'=>h'.elim))
def kU (X:Cx) (N:List Str) (scope:Scope) (C:Addr) (s:Shared) (H:Hp) (pins:List (Addr×Obj)) (fp:List Addr):Cx where
 prog:=X.prog
 w:=X.w
 K:=X.K
 mg:=X.mg
 base:=X.base
 A:=X.A
 N:=N
 s₀:=s
 H₀:=H
 env:=compEnvC scope (qH X.env.cells scope.names []) C X.env
 outer:=X.stack
 stack:=X.stack
 ex:=fp
 fn:=fun _=>false
 calm:=X.calm
 pn:=X.pn++pins
 xe:=fun _ _=>False
structure CompScope (X:Cx) (scope:Scope):Prop where
 kind:scope.kind=.function
 nocell:∀y∈scope.names,y.2≠.cell
 names:∀y∈scope.names,y.2=.local→scope.names.lookup y.1=some .local
 free:∀y∈scope.names,y.2=.free→X.env.kindOf y.1=some .cell∨X.env.kindOf y.1=some .free
theorem QQ {env:Env} {x:Str}:∀{names:List (Str×NameKind)} {k:NameKind},(names.map fun (n,k)=>if (k == NameKind.free&&env.scope.kind == .function&&env.kindOf n == some .cell) then (n,NameKind.cell) else (n,k)).lookup x=some k→
  ∃k',names.lookup x=some k'∧(k'=k∨(k'=.free∧k=.cell∧env.kindOf x=some .cell))
 |[],k,h=>by simp at h
 | (n,k0)::r,k,h=>by
  have ih:=@QQ env x r k
  have h':List.lookup x ((if (k0 == NameKind.free&&env.scope.kind == .function&&env.kindOf n == some .cell)=true then (n,NameKind.cell) else (n,k0))::r.map fun (n,k)=>if (k == NameKind.free&&env.scope.kind == .function&&env.kindOf n == some .cell)=true then (n,NameKind.cell) else (n,k))=some k:=h
  by_cases hc:(k0 == NameKind.free&&env.scope.kind == .function&&env.kindOf n == some .cell)=true
  ·rw [if_pos hc] at h'
   rw [List.lookup_cons] at h'
   cases hx:x == n with
   |true =>
    rw [hx] at h'
    have hk:NameKind.cell=k:=Option.some.inj h'
    simp only [Bool.and_eq_true,beq_iff_eq] at hc
    have hxn:x=n:=by simpa using hx
    refine ⟨k0,by rw [List.lookup_cons,hx],.inr ⟨hc.1.1,hk.symm,by rw [hxn];exact hc.2⟩⟩
   |false =>
    rw [hx] at h'
    obtain ⟨k',e1,e2⟩:=ih h'
    exact ⟨k',by rw [List.lookup_cons,hx];exact e1,e2⟩
  ·rw [if_neg hc] at h'
   rw [List.lookup_cons] at h'
   cases hx:x == n with
   |true =>
    rw [hx] at h'
    exact ⟨k0,by rw [List.lookup_cons,hx],.inl (Option.some.inj h')⟩
   |false =>
    rw [hx] at h'
    obtain ⟨k',e1,e2⟩:=ih h'
    exact ⟨k',by rw [List.lookup_cons,hx];exact e1,e2⟩
theorem QX {α:Type}:∀{l:List (Str×α)} {x:Str} {k:α},l.lookup x=some k→(x,k)∈l
 |[],_,_,h=>by simp at h
 | (n,a)::r,x,k,h=>by
  rw [List.lookup_cons] at h
  cases hx:x == n with
  |true =>
   rw [hx] at h
   have e:a=k:=Option.some.inj h
   have hxn:x=n:=by simpa using hx
   subst e;subst hxn
   exact List.mem_cons_self
  |false =>
   rw [hx] at h
   exact List.mem_cons_of_mem _ (QX h)
def JL (X:Cx) (ifs:List Expr) (t:TT):Prop :=
 ∀(pins:List (Addr×Obj)) (s:Shared) (σ:St) (H:Hp) (Q:Bool→Hp→Prop),Inv X pins σ H s→t σ H Q→
  wpAny (model X.prog X.w) X.A (forIn ifs true fun c r=>if r=true then do let ok ← isTrue c X.env (eval c X.env);pure (ForInStep.yield ok) else pure (ForInStep.yield r)) (TP X pins σ Q) X.xe s
def d7:TT:=fun _ H Q=>Q true H
theorem qK {X:Cx}:JL X [] d7:=fun _ _ _ H _ I h=>wpAny_tests_nil ⟨H,I,h⟩
theorem ZC {X:Cx} {c:Expr} {t:TT} (hc:PT X c t):JL X [c] t:=fun pins s σ H Q I h=>wpAny_tests_one (hc pins s σ H Q I h)
def vX (D:Addr) (J:It) (g:TG) (tc:TT) (te:TE) (σ₀:St) (H:Hp) (Q:Hp→Prop):Prop :=
 ∃W:Nat→Nat→St→Hp→Prop,(∃m,W 0 m σ₀ (upd H D (.lst [])))∧∀i m σ' H',W i m σ' H'→
  (J.stop i H'∧Q H')∨(J.go i H'∧∃N:St→Hp→Prop,(∀σ'' H'',N σ'' H''→∃m',m'<m∧W (i+1) m' σ'' H'')∧∀x H2,J.yld i H' x H2→g x σ' H2 fun σ2 H3=>tc σ2 H3 fun b H4 =>
   if b=true then te σ2 H4 fun v H5=>∃xs,H5 D=some (.lst xs)∧xs.length<sizeLine∧N σ2 (upd H5 D (.lst (xs++[v]))) else N σ2 H4)
def oB (wi:TI) (cap:St→St) (g:TG) (tc:TT) (te:TE):TE:=fun σ H Q=>wi σ H fun J H1=>∀D,H1 D=none→vX D J g tc te (cap σ) H1 fun H'=>Q (.ref D) H'
def lE (i:Nat) (wi:TI) (cap:St→St) (g:TG) (tc:TT) (te:TE):TS:=fun D σ H=>wi σ H fun J H1=>∀d,H1 d=none→vX d J g tc te (cap σ) H1 fun H'=>D.nx (σ.set i (some (.ref d))) H'
def JJ (X:Cx) (N:List Str) (scope:Scope) (cap:St→St):Prop :=
 ∀σ:St,σ.length=X.N.length→(cap σ).length=N.length∧∀(i:Nat) (x:Str) (v:V),N[i]?=some x→(cap σ)[i]?=some (some v)→scope.names.lookup x=some .free∧∃j:Nat,X.N[j]?=some x∧σ[j]?=some (some v)
def kO (n:Nat) (js:List Nat):St→St:=fun σ=>List.replicate n none++js.map fun j=>(σ[j]?).join
theorem kZ {X:Cx} {N:List Str} {scope:Scope} (n:Nat) (js:List Nat) (h1:N.length=n+js.length) (h2:js.map (fun j=>X.N[j]?)=(N.drop n).map some) (h3:∀x∈N.drop n,scope.names.lookup x=some .free):JJ X N scope (kO n js):=by
 intro σ hσ
 refine ⟨by unfold kO;rw [List.length_append,List.length_replicate,List.length_map,h1],fun i x v e1 e2=>?_⟩
 unfold kO at e2
 by_cases hi:i<n
 ·rw [List.getElem?_append_left (by simpa using hi),List.getElem?_replicate,if_pos hi] at e2
  cases e2
 ·rw [List.getElem?_append_right (by simpa using hi),List.length_replicate,List.getElem?_map] at e2
  cases hj:js[i - n]? with
  |none=>rw [hj] at e2;cases e2
  |some j =>
   rw [hj] at e2
   have e3:(σ[j]?).join=some v:=Option.some.inj e2
   have e4:σ[j]?=some (some v):=by
    cases q:σ[j]? with
    |none=>rw [q] at e3;cases e3
    |some o =>
     rw [q] at e3
     have e5:o=some v:=e3
     rw [e5]
   have hd:(N.drop n)[i - n]?=some x:=by
    rw [List.getElem?_drop,show n+(i - n)=i by omega]
    exact e1
   have e5:=congrArg (fun l=>l[i - n]?) h2
   simp only [List.getElem?_map,hj,hd,Option.map_some] at e5
   exact ⟨h3 x (List.mem_of_getElem? hd),j,Option.some.inj e5,e4⟩
theorem kX {X:Cx} {scope:Scope} (sc:Scope) (hsc:X.env.scope=sc) (kind:scope.kind=.function) (nocell:∀y∈scope.names,y.2≠.cell) (names:∀y∈scope.names,y.2=.local→scope.names.lookup y.1=some .local)
  (free:∀y∈scope.names,y.2=.free→sc.names.lookup y.1=some .cell∨sc.names.lookup y.1=some .free):CompScope X scope:=⟨kind,nocell,names,fun y hy hf=>by
 subst hsc
 exact free y hy hf⟩
section
variable {X:Cx} {N:List Str} {scope:Scope} {pins:List (Addr×Obj)} {σ:St} {H:Hp} {s:Shared} {fp:List Addr}
theorem JV (S:CompScope X scope) (I:Inv X pins σ H s):∀y∈scope.names,y.2=.free→∃c,X.env.cells.lookup y.1=some c:=fun y hy hf=>I.ok.has y.1 (S.free y hy hf)
theorem mB {cap:St→St} {D C:Addr} {h₁:Heap} {t':Nat} {m:Str→Option Value} (S:CompScope X scope) (I:Inv X pins σ H s) (hcap:JJ X N scope cap) (hf:∀b∈fp,qV X pins H b) (hfo:∀b∈fp,∃o,s.heap.get? b=some o)
  (hD:s.heap.objs.size≤D) (hC:s.heap.objs.size≤C) (hDC:D≠C) (old:∀b o,s.heap.get? b=some o→h₁.get? b=some o) (hns:h₁.Ns C m) (hl:h₁.get? D=some {cls:=.type "list",data:=.seq ([]:List Value).toArray}) :
  Inv (kU X N scope C s H pins fp) [] (cap σ) (upd H D (.lst [])) {s with heap:=h₁,toks:=t'}:=by
 have cellsOk:=JV S I
 have look:∀x c,(qH X.env.cells scope.names []).lookup x=some c→X.env.cells.lookup x=some c:=fun x c e=>JS cellsOk (fun y d q=>by simp at q) e
 have lt:∀{b:Addr} {o:Obj},s.heap.get? b=some o→b<s.heap.objs.size:=fun e=>Heap.lt_size e
 have cellLt:∀x c,X.env.cells.lookup x=some c→c<s.heap.objs.size:=fun x c e=>by
  obtain ⟨v,o,ho,_⟩:=I.cell x c e
  exact lt ho
 have nD:H D=none:=I.hok.fresh hD
 have nC:H C=none:=I.hok.fresh hC
 have stkNe:∀b:Addr,b≠X.env.locals→b∉X.fs→b∉qW X.stack:=fun b h1 h2 z=>by
  rcases List.mem_cons.mp (I.stkSub b z) with e|e
  ·exact h1 e
  ·exact h2 e
 refine ⟨⟨I.ok.mod,S.kind,I.ok.glob,I.ok.blt,hC,fun x y c h1 h2=>I.ok.inj x y c (look x c h1) (look y c h2),fun x hx=>?_,fun x c hfn _=>(nomatch hfn),I.ok.hd,I.ok.frames,.inl rfl,fun b hb=>⟨?_,fun x c e=>(hf b hb).2.2.2.2.1 x c (look x c e)⟩,
   I.bs,Nat.le_trans I.ok.bsz I.sz,fun b o e hb=>?_,fun b hb=>stkNe b (hf b hb).2.1 (hf b hb).2.2.1,I.stack,I.stkFree⟩,
  rfl,I.bare,Un.laid old hD nD,⟨m,hns,fun i x v h1 h2 h3=>?_⟩,fun x c e=>?_,?_,fun x c e=>?_,fun p hp=>?_,?_,(hcap σ I.len).1⟩
 ·-- has
  have hx':∃k,(relabel scope X.env).names.lookup x=some k∧(k=.cell∨k=.free):=by
   rcases hx with e|e
   ·exact ⟨_,e,.inl rfl⟩
   ·exact ⟨_,e,.inr rfl⟩
  obtain ⟨k,e,hk⟩:=hx'
  obtain ⟨k',e1,e2⟩:=QQ e
  have hm:=QX e1
  have hfree:k'=.free:=by
   rcases e2 with e2|e2
   ·subst e2
    rcases hk with hk|hk
    ·subst hk
     exact absurd rfl (S.nocell _ hm)
    ·exact hk
   ·exact e2.1
  subst hfree
  exact JW hm
 ·obtain ⟨o,ho⟩:=hfo b hb
  exact Nat.ne_of_lt (Nat.lt_of_lt_of_le (lt ho) hC)
 ·rcases (hf b hb).2.2.2.1 with z|z
  ·exact I.ok.noex b o e z
  ·exact absurd (Nat.lt_of_lt_of_le (Heap.lt_size e) (Nat.le_trans I.ok.bsz z)) (Nat.lt_irrefl _)
 ·-- names
  obtain ⟨hfr,j,hj,hv⟩:=(hcap σ I.len).2 i x v h1 h2
  have hm:=QX hfr
  have hk:=S.free _ hm rfl
  obtain ⟨m0,_,hl0⟩:=I.loc
  have vis:QI X.env.scope x:=by
   rcases hk with k|k
   ·exact .inr (.inl k)
   ·exact .inr (.inr k)
  obtain ⟨u,r,l⟩:=hl0 j x v hj hv vis
  refine ⟨u,r,.inr ⟨?_,?_⟩⟩
  ·have hvis:∃k,(relabel scope X.env).names.lookup x=some k:=by
    rcases h3 with e|e|e<;>exact ⟨_,e⟩
   obtain ⟨k,e⟩:=hvis
   obtain ⟨k',e1,e2⟩:=QQ e
   rw [hfr] at e1
   cases e1
   rcases e2 with e2|e2
   ·subst e2;exact .inr e
   ·rw [e2.2.1] at e;exact .inl e
  ·rcases l with ⟨k,_⟩|⟨_,c,hc,hcell⟩
   ·exfalso
    rcases hk with q|q
    ·have q':X.env.kindOf x=some .cell:=q
     rw [k] at q';cases q'
    ·have q':X.env.kindOf x=some .free:=q
     rw [k] at q';cases q'
   ·obtain ⟨c',e'⟩:=JW (cells:=X.env.cells) (cs:=[]) hm
    have e2:=look x c' e'
    have e2':X.env.cells.lookup x=some c':=e2
    rw [hc] at e2'
    cases e2'
    obtain ⟨o,ho,hd⟩:=hcell
    exact ⟨c,e',o,old _ _ ho,hd⟩
 ·obtain ⟨v,o,ho,hd⟩:=I.cell x c (look x c e)
  exact ⟨v,o,old _ _ ho,hd⟩
 ·show upd H D (.lst []) C=none
  rw [jO (Ne.symm hDC)]
  exact nC
 ·have hc:=look x c e
  rw [jO (Nat.ne_of_lt (Nat.lt_of_lt_of_le (cellLt x c hc) hD))]
  exact I.freeC x c hc
 ·have hp':p∈X.pn++pins:=by
   rcases List.mem_append.mp hp with z|z
   ·exact z
   ·cases z
  obtain ⟨e,n,ne,nf,d⟩:=I.pin p hp'
  refine ⟨old _ _ e,?_,Nat.ne_of_lt (Nat.lt_of_lt_of_le (lt e) hC),stkNe p.1 ne nf,d⟩
  rw [jO (Nat.ne_of_lt (Nat.lt_of_lt_of_le (lt e) hD))]
  exact n
 ·refine I.hok.laid old hD ?_
  exact ⟨Nat.zero_le _,[],0,.nil,hl⟩
theorem bO {σ':St} {H':Hp} {s':Shared} {C:Addr} {σc:St} {Nc:List Str} (I:Inv X pins σ H s) (hf:∀b∈fp,qV X pins H b) (J:Inv (kU X Nc scope C s H pins fp) [] σc H' s'):Inv X pins σ H' s':=by
 refine I.call' (ch:=fp) J.os J.base J.hok J.bare fun b hb=>?_
 obtain ⟨_,h2,_,h4,h5,h6⟩:=hf b hb
 exact ⟨h4,h2,h5,h6⟩
theorem cJ {σ':St} {H':Hp} {s':Shared} {C:Addr} {h':Heap} (I:Inv X pins σ H s) (hC:s.heap.objs.size≤C) (J:Inv X pins σ' H' s') (hn:H' C=none) (sb:Heap.SameBut C s'.heap h'):Inv X pins σ' H' {s' with heap:=h'}:=by
 refine J.turned (t':=s'.toks) (it:=C) (fun b o hb e=>(sb.2 b hb).trans e) hn (Nat.ne_of_gt (Nat.lt_of_lt_of_le I.lt hC)) (.inr (Nat.le_trans I.sz hC)) (fun x c e z=>?_) fun p hp z=>?_
 ·obtain ⟨v,q⟩:=I.cell x c e
  exact absurd (Nat.lt_of_lt_of_le q.lt (by rw [z];exact hC)) (Nat.lt_irrefl _)
 ·exact absurd (Nat.lt_of_lt_of_le (Heap.lt_size (I.pin p hp).1) (by rw [z];exact hC)) (Nat.lt_irrefl _)
theorem cI {tg iter elt:Expr} {ifs:List Expr} {pos:Pos} {cap:St→St} {g:TG} {tc:TT} {te:TE} {J:It} {it:Addr} {tn:Nat→Heap→Prop} {Q:Addr→Hp→Prop} {RR:Value→Addr→Result→Shared→Prop}
  (hcalm:X.calm=true) (S:CompScope X scope) (hcap:JJ X N scope cap) (I:Inv X pins σ H s) (T:Turn X.prog X.w X.K tg J fp it tn) (st:tn 0 s.heap) (hf:∀b∈fp,qV X pins H b)
  (hg:∀C,PG (kU X N scope C s H pins fp) tg g) (hc:∀C,JL (kU X N scope C s H pins fp) ifs tc) (he:∀C,PE (kU X N scope C s H pins fp) elt te)
  (hq:∀D,H D=none→vX D J g tc te (cap σ) H (Q D))
  (hRR:∀D C σc H' s',s.heap.objs.size≤C→Inv (kU X N scope C s H pins fp) [] σc H' s'→Q D H'→RR (.ref D) C (.ok .next) s') :
  wpAny (model X.prog X.w) X.A (newList []) (fun acc s₃=>wpAny (model X.prog X.w) X.A (newFunctionEnv scope X.env.globals (qH X.env.cells scope.names []) [] X.env.qual none .none (some X.env)) (fun cenv s₄ =>
   codeAny (model X.prog X.w) X.A (.compStart (.ListComp elt [⟨tg,iter,ifs,0⟩] scope pos) 0 (.ref it) acc {cenv with scope:=relabel scope X.env}) (RR acc cenv.locals) s₄) X.xe s₃) X.xe s:=by
 refine wpAny_newObj_type (wpAny_newFunctionEnv S.nocell (by intro y hy;simp at hy) (fun h₁ hns₁ hsb₁=>?_) S.kind)
 dsimp only at hns₁ hsb₁ ⊢
 generalize hH2:s.heap.push {cls:=.type "list",dict:=none,data:=.seq ([]:List Value).toArray}=H2 at hns₁ hsb₁ ⊢
 have hC:H2.objs.size=s.heap.objs.size+1:=by rw [← hH2,Heap.size_push]
 have hDC:s.heap.objs.size≠H2.objs.size:=by rw [hC];exact Nat.ne_of_lt (Nat.lt_succ_self _)
 have hCle:s.heap.objs.size≤H2.objs.size:=by rw [hC];exact Nat.le_succ _
 have below:∀b,b<s.heap.objs.size→b≠H2.objs.size:=fun b hb=>by rw [hC];exact Nat.ne_of_lt (Nat.lt_succ_of_lt hb)
 have old:∀b o,s.heap.get? b=some o→h₁.get? b=some o:=fun b o e=>hsb₁.extBut b o (below b (Heap.lt_size e)) (Heap.get?_push_of_some _ (hH2▸Heap.get?_push_of_some _ e))
 have hacc:h₁.get? s.heap.objs.size=some {cls:=.type "list",data:=.seq ([]:List Value).toArray}:=hsb₁.extBut _ _ hDC (Heap.get?_push_of_some _ (hH2▸Heap.get?_push_size _ rfl))
 have obj0:=T.obj 0 s.heap st
 have I1:∀t',Inv (kU X N scope H2.objs.size s H pins fp) [] (cap σ) (upd H s.heap.objs.size (.lst [])) {s with heap:=h₁,toks:=t'}:=fun t' =>
  mB S I hcap hf (fun b hb=>let ⟨o,e,_⟩:=obj0 b hb;⟨o,e⟩) (Nat.le_refl _) hCle hDC old hns₁ hacc
 have st1:tn 0 h₁:=T.keep 0 s.heap h₁ st fun b _ o e=>old b o e
 have stat:∀{H':Hp},(∀b∈fp,H' b=none)→∀b∈fp,qV (kU X N scope H2.objs.size s H pins fp) [] H' b:=fun hn b hb=>by
  obtain ⟨_,h2,h3,h4,h5,h6⟩:=hf b hb
  obtain ⟨o,ho,_⟩:=obj0 b hb
  refine ⟨hn b hb,below b (Heap.lt_size ho),?_,.inl hb,fun x c e=>h5 x c (JS (JV S I) (fun y d q=>by simp at q) e),fun p hp=>?_⟩
  ·intro z
   rcases List.mem_cons.mp (I.stkSub b z) with e|e
   ·exact h2 e
   ·exact h3 e
  ·rcases List.mem_append.mp hp with z|z
   ·exact h6 p z
   ·cases z
 have fr1:∀b∈fp,upd H s.heap.objs.size (.lst []) b=none:=fun b hb=>by
  obtain ⟨o,ho,_⟩:=obj0 b hb
  rw [jO (Nat.ne_of_lt (Heap.lt_size ho))]
  exact (hf b hb).1
 obtain ⟨W,⟨m0,w0⟩,turn⟩:=hq s.heap.objs.size (I.hok.fresh (Nat.le_refl _))
 have loop:∀s₃:Shared,s₃={s with heap:=h₁,toks:=s.toks+([]:List (Str×Value)).length}→
   codeAny (model X.prog X.w) X.A (.compLoop (.ListComp elt [⟨tg,iter,ifs,0⟩] scope pos) 0 (.ref it) (.ref s.heap.objs.size) (compEnvC scope (qH X.env.cells scope.names []) H2.objs.size X.env))
    (RR (.ref s.heap.objs.size) H2.objs.size) s₃:=by
  rintro s₃ rfl
  refine lB (fun n s'=>∃i σ' H',Inv (kU X N scope H2.objs.size s H pins fp) [] σ' H' s'∧tn i s'.heap∧(∀b∈fp,H' b=none)∧W i n σ' H') ?_ m0 ⟨0,cap σ,_,I1 _,st1,fr1,w0⟩
  rintro n s3 ⟨i,σ3,H3,I3,st3,fr3,w3⟩
  rcases turn i n σ3 H3 w3 with ⟨stop,qn⟩|⟨go,Nn,hN,step⟩
  ·refine jK (T.done (kU X N scope H2.objs.size s H pins fp) rfl rfl rfl hcalm i [] s3 σ3 H3 (fun _ _=>False) I3 (stat fr3) st3 stop) fun r s4 ⟨hr,I4⟩=>?_
   subst hr
   exact hRR _ _ σ3 H3 s4 hCle I4 qn
  ·refine jK (T.item (kU X N scope H2.objs.size s H pins fp) rfl rfl rfl hcalm i [] s3 σ3 H3 (fun _ _=>False) I3 (stat fr3) st3 go) fun r s4 ⟨u,hr,h4⟩=>?_
   subst hr
   refine jK h4 fun _ s5 ⟨x,H5,I5,r5,y5,st5,fr5⟩=>?_
   have I5':=I5.pinned (stat fr5) (T.obj _ _ st5)
   have again:∀{σ7:St} {H7:Hp} {s7:Shared},Inv (kU X N scope H2.objs.size s H pins fp) ([]++JB fp s5.heap) σ7 H7 s7→Nn σ7 H7→
     ∃m,m<n∧∃i σ' H',Inv (kU X N scope H2.objs.size s H pins fp) [] σ' H' s7∧tn i s7.heap∧(∀b∈fp,H' b=none)∧W i m σ' H':=fun {σ7 H7 s7} I7 n7=>by
    obtain ⟨m',hm,w7⟩:=hN σ7 H7 n7
    refine ⟨m',hm,i+1,σ7,H7,I7.unpinned,T.keep _ _ _ st5 fun b hb o e=>(I7.pin (b,o) (List.mem_append_right _ (List.mem_append_right _ (JU hb e)))).1,fun b hb=>?_,w7⟩
    obtain ⟨o,e,d⟩:=T.obj _ _ st5 b hb
    exact (I7.pin (b,o) (List.mem_append_right _ (List.mem_append_right _ (JU hb e)))).2.1
   refine jK (hg _ _ s5 σ3 H5 x u _ I5' r5 (step x H5 y5)) fun _ s6 ⟨σ6,H6,I6,q6⟩=>?_
   refine jK (hc _ _ s6 σ6 H6 _ I6 q6) fun ok s7 ⟨H7,I7,q7⟩=>?_
   cases ok with
   |false=>exact again I7 q7
   |true =>
    refine jK (he _ _ s7 σ6 H7 _ I7 q7) fun v s8 ⟨y,H8,I8,r8,xs,hD8,hz8,n8⟩=>?_
    refine jK (vP _ s8 σ6 H8 (.ref s.heap.objs.size) [y] (.ref s.heap.objs.size) [v] (fun _ H9=>Nn σ6 H9) I8 rfl (.cons r8 .nil) ⟨_,_,_,rfl,rfl,hD8,hz8,n8⟩) fun _ s9 ⟨_,H9,I9,_,n9⟩=>?_
    exact again I9 n9
 exact codeAny_compStart_list (loop _ rfl) (wpAny_mono (T.self X.A 0 _ (fun v s'=>v=.ref it∧s'=_) (fun _ _=>False) st1 ⟨rfl,rfl⟩) (fun v s' ⟨e1,e2⟩=>by subst e1;subst e2;exact loop _ rfl) fun _ _ z=>z.elim)
theorem qZ {tg iter elt:Expr} {ifs:List Expr} {pos:Pos} {wi:TI} {g:TG} {tc:TT} {te:TE} (N:List Str) (cap:St→St) (hcalm:X.calm=true) (S:CompScope X scope) (hcap:JJ X N scope cap) (hi:PI X tg iter wi)
  (hg:∀C s H pins fp,PG (kU X N scope C s H pins fp) tg g) (hc:∀C s H pins fp,JL (kU X N scope C s H pins fp) ifs tc) (he:∀C s H pins fp,PE (kU X N scope C s H pins fp) elt te)
  (hs:∀x,foldedSetIterable iter X.env x=pure x:=by intro _;rfl):PE X (.ListComp elt [⟨tg,iter,ifs,0⟩] scope pos) (oB wi cap g tc te):=by
 intro pins s σ H Q I h
 rw [eval_ListComp]
 refine wpAny_comprehension_free (use:=none) rfl hs (Z5 (JV S I)) S.kind S.names (jK (hi pins s σ H _ I h) fun v s1 h1=>jK h1 fun itv s2 h2=>?_)
 obtain ⟨it,fp,tn,J,H2,e,I2,T,st2,f2,q2⟩:=h2
 subst e
 refine cI (RR:=fun acc C=>compPost (model X.prog X.w) X.A X.xe none (EP X pins σ Q) acc C) (Q:=fun D H'=>Q (.ref D) H') hcalm S hcap I2 T st2 f2 (fun C=>hg C _ _ _ _) (fun C=>hc C _ _ _ _) (fun C=>he C _ _ _ _) q2 ?_
 intro D C σc H' s' hC Jc q
 obtain ⟨m,hn,_⟩:=Jc.loc
 refine ⟨m,hn,fun h' hs'=>?_⟩
 exact ⟨.ref D,H',cJ I2 hC (bO (σ':=σ) I2 f2 Jc) Jc.free hs',rfl,q⟩
theorem yM {tg iter elt:Expr} {ifs:List Expr} {pos spos py:Pos} {i:Nat} {y:Str} {wi:TI} {g:TG} {tc:TT} {te:TE} (N:List Str) (cap:St→St) (hN:X.N.Nodup) (hy:X.N[i]?=some y) (hloc:JM X.env.scope y) (hcalm:X.calm=true) (S:CompScope X scope) (hcap:JJ X N scope cap) (hi:PI X tg iter wi)
  (hg:∀C s H pins fp,PG (kU X N scope C s H pins fp) tg g) (hc:∀C s H pins fp,JL (kU X N scope C s H pins fp) ifs tc) (he:∀C s H pins fp,PE (kU X N scope C s H pins fp) elt te)
  (hsw:swapsWith (.ListComp elt [⟨tg,iter,ifs,0⟩] scope pos) (some (.Name y py)) spos.line X.env=pure true:=by rfl)
  (hs:∀x,foldedSetIterable iter X.env x=pure x:=by intro _;rfl) (hfn:X.fn y=true∨X.env.scope.names.lookup y=some .local:=by first|exact .inl rfl|exact .inr rfl|assumption) :
  PS X (.Assign [.Name y py] (.ListComp elt [⟨tg,iter,ifs,0⟩] scope pos) spos) (lE i wi cap g tc te):=by
 intro pins s σ H D I h
 rw [exec_Assign_Name_used _ _ _ _ hsw]
 refine wpAny_bind (wpAny_standAt (wpAny_bind ?_))
 show wpAny _ X.A (do let _ ← comprehension (.ListComp elt [⟨tg,iter,ifs,0⟩] scope pos) scope X.env _ (newList []) false (eval iter X.env) (some (assign (.Name y py) X.env))) _ _ s
 refine wpAny_bind (wpAny_mono (wpAny_comprehension_free (use:=some (assign (.Name y py) X.env)) (Q:=fun _ s'=>SP X pins D .next s') rfl hs (Z5 (JV S I)) S.kind S.names
  (jK (hi pins s σ H _ I h) fun v s1 h1=>jK h1 fun itv s2 h2=>?_)) (fun _ s' hq=>wpAny_pure (wpAny_pure hq)) fun _ _ e=>e)
 obtain ⟨it,fp,tn,J,H2,e,I2,T,st2,f2,q2⟩:=h2
 subst e
 refine cI (RR:=fun acc C=>compPost (model X.prog X.w) X.A X.xe (some (assign (.Name y py) X.env)) (fun _ s'=>SP X pins D .next s') acc C) (Q:=fun d H'=>D.nx (σ.set i (some (.ref d))) H') hcalm S hcap I2 T st2 f2 (fun C=>hg C _ _ _ _) (fun C=>hc C _ _ _ _) (fun C=>he C _ _ _ _) q2 ?_
 intro d C σc H' s' hC Jc q
 obtain ⟨m,hn,_⟩:=Jc.loc
 have J1:Inv X pins σ H' s':=bO (σ':=σ) I2 f2 Jc
 show wpAny _ X.A (assign (.Name y py) X.env (.ref d)) _ _ _
 refine wpAny_assign_Name (bK (v:=.ref d) J1 hN hy hloc rfl (fun s'' J2 hsb=>?_) hfn)
 obtain ⟨a,sb,ha⟩:=hsb
 have haC:C≠a:=by
  rcases ha with e|e
  ·rw [e];exact Nat.ne_of_gt (Nat.lt_of_lt_of_le I2.lt hC)
  ·obtain ⟨v,q'⟩:=I2.cell y a e
   exact Nat.ne_of_gt (Nat.lt_of_lt_of_le q'.lt hC)
 refine ⟨m,hn.sameBut sb haC,fun h' hs'=>?_⟩
 exact ⟨_,H',cJ I2 hC J2 Jc.free hs',q⟩
end
end L2
namespace L2
open PySem PySem.Spec PyProof.Rows
theorem qL {σ:St} {H:Hp} {Q:Bool→Hp→Prop} (h:Q true H):d7 σ H Q:=h
theorem gL {K:PySem.W.Frag} {a D:Addr} {xs:List V} {g:TG} {tc:TT} {te:TE} {σ₀:St} {H:Hp} {Q:Hp→Prop} (Pv:Nat→St→Hp→Prop) (h0:Pv 0 σ₀ (upd H D (.lst []))) (hl:∀i σ H,i≤xs.length→Pv i σ H→SqL K H a xs)
    (hs:∀i x σ H,xs[i]?=some x→Pv i σ H→g x σ H fun σ2 H3=>tc σ2 H3 fun b H4=>if b=true then te σ2 H4 fun v H5=>∃ys,H5 D=some (.lst ys)∧ys.length<sizeLine∧Pv (i+1) σ2 (upd H5 D (.lst (ys++[v]))) else Pv (i+1) σ2 H4)
    (hd:∀σ H,Pv xs.length σ H→Q H):vX D (yW K a) g tc te σ₀ H Q:=by
  refine ⟨fun i m σ H=>m=xs.length - i∧i≤xs.length∧Pv i σ H,⟨xs.length,by simp,Nat.zero_le _,h0⟩,?_⟩
  rintro i m σ H ⟨rfl,hi,p⟩
  have q:=hl i σ H hi p
  by_cases hlt:i<xs.length
  · refine .inr ⟨⟨xs,xs[i],q,by simp [hlt]⟩,Pv (i+1),fun σ' H' p'=>⟨xs.length - (i+1),by omega,rfl,hlt,p'⟩,fun x H' y=>?_⟩
    obtain ⟨e,y⟩:=y
    subst e
    exact hs i x σ _ (y xs q) p
  · have e:i=xs.length:=by omega
    subst e
    exact .inl ⟨⟨xs,q,Nat.le_refl _⟩,hd σ H p⟩
theorem gI {lo:Int} {n:Nat} {D:Addr} {g:TG} {tc:TT} {te:TE} {σ₀:St} {H:Hp} {Q:Hp→Prop} (Pv:Nat→St→Hp→Prop) (h0:Pv 0 σ₀ (upd H D (.lst [])))
  (hs:∀i σ H,i<n→Pv i σ H→g (.int (lo+i)) σ H fun σ2 H3=>tc σ2 H3 fun b H4=>if b=true then te σ2 H4 fun v H5=>∃ys,H5 D=some (.lst ys)∧ys.length<sizeLine∧Pv (i+1) σ2 (upd H5 D (.lst (ys++[v]))) else Pv (i+1) σ2 H4)
  (hd:∀σ H,Pv n σ H→Q H):vX D (yE lo n) g tc te σ₀ H Q:=by
 refine ⟨fun i m σ H=>m=n - i∧i≤n∧Pv i σ H,⟨n,by simp,Nat.zero_le _,h0⟩,?_⟩
 rintro i m σ H ⟨rfl,hi,p⟩
 by_cases hlt:i<n
 ·refine .inr ⟨hlt,Pv (i+1),fun σ' H' p'=>⟨n - (i+1),by omega,rfl,hlt,p'⟩,fun x H' y=>?_⟩
  obtain ⟨e,y⟩:=y
  subst e y
  exact hs i σ _ hlt p
 ·have e:i=n:=by omega
  subst e
  exact .inl ⟨Nat.le_refl _,hd σ H p⟩
theorem kB {H H':Hp} {D:Addr} {o:HO} (hD:H D=none) (s:Same H H'):Same H (upd H' D o):=fun b u q=>by
 rw [jO (jY q hD)]
 exact s b u q
def q5 (H:Hp) (D:Addr) (caps:St) (R:Nat→List V→Hp→Prop) (i:Nat) (σ:St) (Hi:Hp):Prop:=∃ys c,σ=c::caps∧Same H Hi∧Hi D=some (.lst ys)∧ys.length≤i∧R i ys Hi
theorem kS {H Hi H5:Hp} {D:Addr} {caps:St} {R:Nat→List V→Hp→Prop} {i:Nat} {ys:List V} {c:Option V} {v:V} (hD:H D=none) (s:Same H Hi) (hY:Hi D=some (.lst ys)) (hl:ys.length≤i) (hi:i≤999) (s5:Same Hi H5)
  (r:R (i+1) (ys++[v]) (upd H5 D (.lst (ys++[v])))):∃zs,H5 D=some (.lst zs)∧zs.length<sizeLine∧q5 H D caps R (i+1) (c::caps) (upd H5 D (.lst (zs++[v]))):=by
 refine ⟨ys,s5 _ _ hY,qJ (by omega),ys++[v],c,rfl,kB hD (s.trans s5),jE,?_,r⟩
 rw [List.length_append,List.length_singleton];omega
theorem z5 {H Hi H4:Hp} {D:Addr} {caps:St} {R:Nat→List V→Hp→Prop} {i:Nat} {ys:List V} {c:Option V} (s:Same H Hi) (hY:Hi D=some (.lst ys)) (hl:ys.length≤i) (s4:Same Hi H4) (r:R (i+1) ys H4) :
  q5 H D caps R (i+1) (c::caps) H4:=⟨ys,c,rfl,s.trans s4,s4 _ _ hY,by omega,r⟩
theorem qN {K:PySem.W.Frag} {a D:Addr} {xs:List V} {tc:TT} {te:TE} {caps:St} {H:Hp} {Q:Hp→Prop} (R:Nat→List V→Hp→Prop) (hD:H D=none) (hS:SqL K H a xs) (h0:R 0 [] (upd H D (.lst [])))
  (hs:∀i x ys Hi,xs[i]?=some x→i<xs.length→ys.length≤i→Same H Hi→Hi D=some (.lst ys)→R i ys Hi→tc (some x::caps) Hi fun b H4=>if b=true then te (some x::caps) H4 fun v H5=>∃zs,H5 D=some (.lst zs)∧zs.length<sizeLine∧q5 H D caps R (i+1) (some x::caps) (upd H5 D (.lst (zs++[v])))
   else q5 H D caps R (i+1) (some x::caps) H4)
  (hd:∀ys Hf,Same H Hf→Hf D=some (.lst ys)→ys.length≤xs.length→R xs.length ys Hf→Q Hf):vX D (yW K a) (JG 0) tc te (none::caps) H Q:=by
 refine gL (xs:=xs) (q5 H D caps R) ⟨[],none,rfl,kB hD (Same.refl H),jE,Nat.le_refl _,h0⟩ (fun i σ Hi _ ⟨_,_,_,s,_⟩=>s.seq hS) ?_ ?_
 ·rintro i x σ Hi hx ⟨ys,c,rfl,s,hY,hl,r⟩
  exact hs i x ys Hi hx (List.getElem?_eq_some_iff.mp hx).1 hl s hY r
 ·rintro σ Hf ⟨ys,c,rfl,s,hY,hl,r⟩
  exact hd ys Hf s hY hl r
theorem bA {lo:Int} {n:Nat} {D:Addr} {tc:TT} {te:TE} {caps:St} {H:Hp} {Q:Hp→Prop} (R:Nat→List V→Hp→Prop) (hD:H D=none) (h0:R 0 [] (upd H D (.lst [])))
  (hs:∀i ys Hi,i<n→ys.length≤i→Same H Hi→Hi D=some (.lst ys)→R i ys Hi→tc (some (.int (lo+i))::caps) Hi fun b H4=>if b=true then te (some (.int (lo+i))::caps) H4 fun v H5=>∃zs,H5 D=some (.lst zs)∧zs.length<sizeLine∧q5 H D caps R (i+1) (some (.int (lo+i))::caps) (upd H5 D (.lst (zs++[v])))
   else q5 H D caps R (i+1) (some (.int (lo+i))::caps) H4)
  (hd:∀ys Hf,Same H Hf→Hf D=some (.lst ys)→ys.length≤n→R n ys Hf→Q Hf):vX D (yE lo n) (JG 0) tc te (none::caps) H Q:=by
 refine gI (q5 H D caps R) ⟨[],none,rfl,kB hD (Same.refl H),jE,Nat.le_refl _,h0⟩ ?_ ?_
 ·rintro i σ Hi hi ⟨ys,c,rfl,s,hY,hl,r⟩
  exact hs i ys Hi hi hl s hY r
 ·rintro σ Hf ⟨ys,c,rfl,s,hY,hl,r⟩
  exact hd ys Hf s hY hl r
def pT:V→Option Value
 |.ty n=>some (.type n)
 |.ref a=>some (.ref a)
 |_=>none
section
variable {X:Cx}
def pK (K:PySem.W.Frag):List V→Hp→VK→Prop:=fun xs H Q=>∃(x c:V) (t u:Value) (b:Bool),xs=[x,c]∧pT c=some u∧TyOf K H x t∧PySem.W.kitOne K t u=some b∧Q (.bl b) H
theorem mC:v0 X (.builtin "isinstance") (pK X.K):=by
 intro pins s σ H xs us Q I r h
 obtain ⟨x,c,t,u,b,rfl,hc,ty,e,q⟩:=h
 obtain ⟨u1,u2,rfl,r1,r2⟩:=ZM r
 have e2:u2=u:=by
  cases c with
  |ty n=>cases (show u2=Value.type n from r2);exact Option.some.inj hc
  |ref a=>cases (show u2=Value.ref a from r2);exact Option.some.inj hc
  |_=>cases hc
 subst e2
 exact iV I r1 ty e fun tk=>⟨.bl b,H,I.tok _,rfl,q⟩
end
theorem lU {K:PySem.W.Frag} (n:String):PySem.W.kitOne K (.type n) (.type n)=some true:=by
 unfold PySem.W.kitOne
 rw [if_pos (beq_self_eq_true _)]
def yU (xs ys:List V):Bool:=(List.range (min xs.length ys.length)).all (fun j=>QH (xs.getD j .non) (ys.getD j .non))&&xs.length == ys.length
theorem bJ {xs:List V} {us:List Value} (r:Vals xs us) {j:Nat} (h:j<us.toArray.size):RelV (xs.getD j .non) us.toArray[j]:=by
 have hj:j<us.length:=by simpa using h
 have hx:j<xs.length:=by rw [r.length];exact hj
 obtain ⟨u,e,q⟩:=r.get (List.getElem?_eq_getElem hx)
 rw [List.getElem?_eq_getElem hj] at e
 have e':=Option.some.inj e
 rw [List.getD_eq_getElem?_getD,List.getElem?_eq_getElem hx]
 show RelV xs[j] us.toArray[j]
 rw [List.getElem_toArray,e']
 exact q
theorem bM {xs:List V} (h:xs.all zS=true) {j:Nat} (hj:j<xs.length):zS (xs.getD j .non)=true:=by
 rw [List.getD_eq_getElem?_getD,List.getElem?_eq_getElem hj]
 exact List.all_eq_true.mp h _ (List.getElem_mem hj)
section
variable {X:Cx}
def eE (K:PySem.W.Frag) (neg:Bool):R2:=fun x y H Q=>∃a b xs ys,x=.ref a∧y=.ref b∧SqT K H a xs∧SqT K H b ys∧xs.all zS=true∧ys.all zS=true∧Q (.bl (if neg then !yU xs ys else yU xs ys)) H
theorem dP (hu:X.A.units<cLine):kL X (compareOp .NotEq) (eE X.K true):=by
 intro pins s σ H x y v u Q I rx ry h
 obtain ⟨a,b,xs,ys,rfl,rfl,ha,hb,fx,fy,q⟩:=h
 cases rx
 cases ry
 obtain ⟨its,r,pl,hz⟩:=I.tuple ha
 obtain ⟨its2,r2,pl2,hz2⟩:=I.tuple hb
 have hl:=r.length
 have hl2:=r2.length
 refine SeqAt.RcNeAt.tuples (e:=fun j=>QH (xs.getD j .non) (ys.getD j .non)) pl pl2 hu (fun j h1 h2=>?_) X.prog X.w X.xe _ ⟨.bl _,H,I,rfl,?_⟩
 ·exact nY (bJ r h1) (bJ r2 h2) (bM fx (by rw [hl];simpa using h1)) (bM fy (by rw [hl2];simpa using h2))
 ·have e:(!((List.range (min its.toArray.size its2.toArray.size)).all (fun j=>QH (xs.getD j .non) (ys.getD j .non))&&its.toArray.size == its2.toArray.size)) = !yU xs ys:=by
   unfold yU
   rw [List.size_toArray,List.size_toArray,← hl,← hl2]
  rw [e]
  exact q
end
end L2
namespace L2
open PySem PySem.Spec PyProof.Rows
section
variable {X:Cx}
end
end L2
namespace L2
open PySem PySem.Spec PyProof.Rows
section
variable {X:Cx} (K:PySem.W.Frag)
theorem Q9 (h:X.K=K:=by rfl):zV X (eD K):=by subst h;exact jV
theorem vF (h:X.K=K:=by rfl):zV X (eC K):=by subst h;exact jT
end
end L2
namespace L2
open PySem PySem.Spec PyProof.Rows
section
variable {X:Cx}
end
end L2
namespace L2
open PySem PySem.Spec PyProof.Rows
section
variable {X:Cx}
def pC (t u:TS):TS:=fun D σ H=>∃P:St→Hp→Prop,t {D with nx:=P} σ H∧∀σ' H',P σ' H'→u D σ' H'
theorem qR {st:Stmt} {rest:List Stmt} {t u:TS} (h1:PS X st t) (h2:PSs X rest u):PSs X (st::rest) (pC t u):=by
 intro pins s σ H D I h
 obtain ⟨P,hP,hu⟩:=h
 refine wpAny_execs_cons (jK (h1 pins s σ H {D with nx:=P} I hP) fun f s1 q=>?_)
 cases f with
 |next =>
  obtain ⟨σ',H',I',q⟩:=q
  exact h2 pins s1 σ' H' D I' (hu σ' H' q)
 |ret v=>exact q
 |brk=>exact q
 |cont=>exact q
end
end L2
namespace L2
open PySem PySem.Spec PyProof.Rows
structure Def (P:Program) (w:World) (K:PySem.W.Frag) (mg:Str→Option Value) (base:Heap) (k:Nat) (x:Str) (ps:List Str) (dvs:List V) (sp:Sp):Prop where
 ex:∃(f:Addr) (fd:FuncData) (ds:List Value),FnOk P w K mg base jR k f fd ps sp∧mg x=some (.ref f)∧PySem.W.keepIn K (.ref f)=true∧Vals dvs ds∧Binds K fd ps ds
theorem kD {X:Cx} {k k':Nat} {x:Str} {ps:List Str} {dvs:List V} {sp:Sp} {p pos:Pos} {e:Expr} {es:List Expr} {t:TA} (F:Def X.prog X.w X.K X.mg X.base k x ps dvs sp) (hr:Room k' X.A) (hg:Gl X x) (ha:PA X (e::es) t)
  (hk:k≤k':=by decide) (hdb:(x == ("__debug__":Str))=false:=by decide) (he:starEach (e::es) X.env=(false,eval e X.env)::starEach es X.env:=by rfl) (hpl:(backTo pos (starEach es X.env)).any (·.1)=false:=by rfl) :
  PE X (.Call (.Name x p) (e::es) [] pos) (ZO sp dvs E0 t):=by
 obtain ⟨f,fd,ds,G,m,kp,hv,b⟩:=F.ex
 exact mP G (hr.mono hk) hg m kp b hv QB ha hdb he hpl
structure FunD (K:PySem.W.Frag) (x qual:Str) (st:Stmt) (f:Addr) (fd:FuncData) (ds:List Value):Prop where
 ex:∃(oc:Value) (od:Option Addr) (T:Addr) (kV doc pm:Value) (an:Option Addr) (cdv ct:Value) (osl:Array (Option Value)) (oT:Obj) (n:Nat),
  fd=PySem.W.fnOf x qual (jW st) (jS st) (jG st) (.ref T) kV doc pm an cdv ct∧K.lookup f=some ⟨oc,od,.func fd,osl⟩∧PySem.W.codeIn K cdv qual=true∧K.lookup T=some oT∧oT.data=.seq ds.toArray n
 kp:PySem.W.keepIn K (.ref f)=true
section
variable {P:Program} {w:World} {K:PySem.W.Frag} {mg:Str→Option Value} {base:Heap}
theorem FunD.ok {x qual:Str} {st:Stmt} {f:Addr} {fd:FuncData} {ds:List Value} {N ps:List Str} {k:Nat} {sp:Sp} (F:FunD K x qual st f fd ds) (S:FnScope N ps (jG st)) (len:∀vs H Q E,sp vs H Q E→vs.length=ps.length)
  (hbody:∀(cdv:Value) (A:Around) (outer:List Env) (s:Shared) (H:Hp) (vs:List V) (Q:VK) (E:XK),Room k (A.deeper (envOfC qual (jG st) s.heap.objs.size f cdv))→sp vs H Q E→
   ∃t,PSs (yQ jR P w K mg base N qual (jG st) f cdv A outer s H E).nox (jS st) t∧t {nx:=fun _ H'=>Q .non H',rt:=Q} (vY N vs) H):FnOk P w K mg base jR (k+1) f fd ps sp:=by
 obtain ⟨oc,od,T,kV,doc,pm,an,cdv,ct,osl,oT,n,rfl,lk,hcd,_,_⟩:=F.ex
 refine d0 lk hcd S len fun A outer s H vs Q E hr hsp=>?_
 obtain ⟨t,h,q⟩:=hbody cdv A outer s H vs Q E hr hsp
 exact ⟨t,h.nox,q⟩
theorem FunD.binds {x qual:Str} {st:Stmt} {f:Addr} {fd:FuncData} {ds:List Value} {ps:List Str} (ds':List Value) (m:Nat) (hm:m+ds'.length=ps.length) (F:FunD K x qual st f fd ds)
  (h:∀(T:Addr) (kV doc pm:Value) (an:Option Addr) (cdv ct:Value) (us:List Value),us.length=m→∃k,bindArgs (PySem.W.fnOf x qual (jW st) (jS st) (jG st) (.ref T) kV doc pm an cdv ct) ⟨us,[]⟩=seqItems? (.ref T) >>= k∧
   k (some ds.toArray)=pure (ps.zip (us++ds'))):Binds K fd ps ds':=by
 obtain ⟨oc,od,T,kV,doc,pm,an,cdv,ct,osl,oT,n,rfl,lk,hcd,lT,dT⟩:=F.ex
 intro s us hK hl
 obtain ⟨k,h1,h2⟩:=h T kV doc pm an cdv ct us (by rw [List.length_append] at hl;omega)
 exact BindsTo.of_defaults rfl (hK _ _ lT) dT h1 h2
theorem m5 {x qual:Str} {st:Stmt} {f T:Addr} {oc:Value} {od an:Option Addr} {osl:Array (Option Value)} {kV doc pm cdv ct:Value} {oT:Obj} {n:Nat} {ds:List Value}
  (l:K.lookup f=some ⟨oc,od,.func (PySem.W.fnOf x qual (jW st) (jS st) (jG st) (.ref T) kV doc pm an cdv ct),osl⟩)
  (c:PySem.W.codeIn K cdv qual=true) (k:PySem.W.keepIn K (.ref f)=true) (lT:K.lookup T=some oT) (dT:oT.data=.seq ds.toArray n):FunD K x qual st f (PySem.W.fnOf x qual (jW st) (jS st) (jG st) (.ref T) kV doc pm an cdv ct) ds :=
 ⟨⟨oc,od,T,kV,doc,pm,an,cdv,ct,osl,oT,n,rfl,l,c,lT,dT⟩,k⟩
end
section
variable {X:Cx}
end
end L2
namespace L2
open PySem
theorem ZP {c A B:Prop} [Decidable c] (hc:¬c) (h:A):if (!decide c)=true then A else B:=by
 rw [decide_eq_false hc]
 exact qC h
theorem j0 {c A B:Prop} [Decidable c] (hc:¬c) (h:B):if decide c=true then A else B:=by
 rw [decide_eq_false hc]
 exact eI h
theorem kA {c A B:Prop} [Decidable c] (hc:c) (h:A):if decide c=true then A else B:=by
 rw [decide_eq_true hc]
 exact qC h
end L2
namespace L2
open PySem PySem.Spec PyProof.Rows
end L2
namespace L2
open PySem PySem.Spec PyProof.Rows
structure MkD (P:Program) (w:World) (K:PySem.W.Frag) (mg:Str→Option Value) (base:Heap) (k:Nat) (x:Str) (C:Addr) (ps:List Str) (sp:Sp):Prop where
 ex:mg x=some (.ref C)∧∃(f:Addr) (fd:FuncData),Mk K C f∧FnOk P w K mg base jR k f fd ps sp∧Binds K fd ps []
structure MeD (P:Program) (w:World) (K:PySem.W.Frag) (mg:Str→Option Value) (base:Heap) (k:Nat) (C:Addr) (m:Str) (ps:List Str) (sp:Sp):Prop where
 ex:Cls K C∧∃(f:Addr) (fd:FuncData),Meth K C m f∧FnOk P w K mg base jR k f fd ps sp∧Binds K fd ps []
section
variable {X:Cx} {k k':Nat} {x m:Str} {C:Addr} {ps:List Str} {sp:Sp} {p pos apos:Pos} {o e:Expr} {es:List Expr} {ta:TE} {t:TA}
theorem JE (M:MkD X.prog X.w X.K X.mg X.base k x C ps sp) (hr:Room k' X.A) (hg:Gl X x) (ha:PA X (e::es) t)
  (hk:k+1≤k':=by decide) (hdb:(x == ("__debug__":Str))=false:=by decide) (he:starEach (e::es) X.env=(false,eval e X.env)::starEach es X.env:=by rfl) (hpl:(backTo pos (starEach es X.env)).any (·.1)=false:=by rfl) :
  PE X (.Call (.Name x p) (e::es) [] pos) (dU C sp [] E0 t):=by
 obtain ⟨hm,f,fd,M,G,b⟩:=M.ex
 exact mN M G (hr.mono hk) hg hm b .nil QB ha hdb he hpl
end
end L2
namespace L2
open PySem PySem.Spec PyProof.Rows
structure ClsM (K:PySem.W.Frag) (C:Addr) (m:Str) (f:Addr):Prop where
 sp:PySem.W.specialIn K (.ref C) "__getattribute__"=some (some (.builtin "type.__getattribute__"))
 rd:PySem.W.readsIn K C (.type "type")=true
 fc:PySem.W.findCls K (.ref C) (.type "type") m=some (.val (.ref f))
 kp:PySem.W.keepIn K (.ref f)=true
structure CmD (P:Program) (w:World) (K:PySem.W.Frag) (mg:Str→Option Value) (base:Heap) (k:Nat) (x:Str) (C:Addr) (m:Str) (ps:List Str) (sp:Sp):Prop where
 ex:mg x=some (.ref C)∧∃(f:Addr) (fd:FuncData),ClsM K C m f∧FnOk P w K mg base jR k f fd ps sp∧Binds K fd ps []
theorem dA {X:Cx} {k k':Nat} {x m:Str} {C:Addr} {ps:List Str} {sp:Sp} {p pos apos:Pos} {e:Expr} {es:List Expr} {t:TA} {pl:Sem Bool} (M:CmD X.prog X.w X.K X.mg X.base k x C m ps sp) (hr:Room k' X.A) (hg:Gl X x) (ha:PA X (e::es) t) (hk:k≤k':=by decide)
  (hdb:(x == ("__debug__":Str))=false:=by decide) (hst:starEach (e::es) X.env=(false,eval e X.env)::starEach es X.env:=by rfl) (hpl:(backTo pos (starEach es X.env)).any (·.1)=false:=by rfl)
  (ht:eval (.Call (.Attribute (.Name x p) m apos) (e::es) [] pos) X.env=(do
   let ov ← eval (.Name x p) X.env
   standAt apos.atName
   let (f,first) ← holding [ov] (getMethod ov m pl)
   callWith pos f first (backTo pos (starEach (e::es) X.env)) (backToKw pos (keywordEach [] X.env))):=by rfl) :
  PE X (.Call (.Attribute (.Name x p) m apos) (e::es) [] pos) (ZO sp [] E0 t):=by
 obtain ⟨hm,f,fd,c,G,b⟩:=M.ex
 intro pins s σ H Q I h
 refine PySem.W.methodCall_KW (pl:=pl) (jK ((cZ (v:=.ref C) hg hm rfl hdb:PE X (.Name x p) (tC (.ref C))) pins s σ H (fun v H1=>v=.ref C∧H1=H) I ⟨rfl,rfl⟩) fun u s1 ⟨v,H1,I1,rv,e1,e2⟩=>?_) ht
 subst e1 e2
 obtain rfl:u=Value.ref C:=rv
 refine PySem.W.method_cls I1.kIn c.sp (PySem.W.cls_value I1.kIn c.rd c.fc rfl ?_)
 have I2:=I1.tok (s1.toks+1)
 refine PySem.W.callWith_K (first:=[]) (h₀:=X.base) I.ok.mod.kin c.kp (jK (ha pos pins _ σ H1 _ I2 h) fun us s2 ⟨vs,H2,I3,r,q2⟩=>⟨I3.kIn,?_⟩) hst hpl
 exact ZH (us:=us) (vs:=vs) G (hr.mono hk) b .nil QB I3 r q2
end L2
namespace L2
open PySem PySem.Spec PyProof.Rows
section
variable {X:Cx}
end
end L2
namespace L2
open PySem PySem.Spec PyProof.Rows
section
variable {X:Cx}
end
end L2
namespace L2
open PySem PySem.Spec PyProof.Rows
end L2
namespace L2
open PySem PySem.Spec PyProof.Rows
section
variable {P:Program} {w:World} {H:Hp} {h h':Heap} {a:Addr} {o:HO}
end
end L2
namespace L2
open PySem PySem.Spec PyProof.Rows
section
variable {X:Cx} {R:St→Value→Hp→Prop} {x:Str} {C:Addr} {np cpos pos p:Pos} {e:Expr} {es:List Expr} {t:TA}
end
section
variable {X:Cx} {pins pins':List (Addr×Obj)} {σ:St} {H:Hp} {s:Shared} {R:St→Value→Hp→Prop}
end
section
variable {X:Cx} {pins:List (Addr×Obj)} {σ:St} {H:Hp} {s:Shared} {e:Value}
end
end L2
namespace L2
open PySem PySem.Spec PyProof.Rows
section
variable {P:Program} {w:World} {K:PySem.W.Frag} {mg:Str→Option Value} {base:Heap}
end
section
variable {X:Cx}
end
end L2
namespace L2
open PySem PySem.Spec PyProof.Rows
section
variable {X:Cx} {pins:List (Addr×Obj)} {σ:St} {H:Hp} {s:Shared}
end
end L2
namespace L2
open PySem PySem.Spec PySem.Calls PyProof.Rows PySem.W
section
variable {prog:Program} {w:World} {A:Around} {E:Value→Shared→Prop} {h:Heap} {g:Array GenState} {d:Drawn} {t:Nat} {os:OsState} {a C:Addr} {o:Obj} {K:PySem.W.Frag}
end
section
variable {X:Cx}
end
end L2
namespace L2
open PySem PySem.Spec PyProof.Rows
end L2
namespace L2
open PySem PySem.Spec PyProof.Rows
section
variable {X:Cx} {x:Str} {C:Addr} {pos p:Pos} {e:Expr} {es:List Expr} {t:TA}
end
end L2
namespace L2
open PySem PySem.Spec PyProof.Rows
section
variable {X:Cx}
end
end L2
namespace L2
open PySem PySem.Spec PyProof.Rows
section
variable {X:Cx} {R:St→Value→Hp→Prop} {k k':Nat} {x m:Str} {C:Addr} {ps:List Str} {sp:Sp} {p pos apos:Pos} {o e:Expr} {es:List Expr} {ta:TE} {t:TA}
end
end L2
namespace L2
open PySem PySem.Spec PyProof.Rows
section
variable {κ:Type} [DecidableEq κ]
end
section
variable {P:Program} {w:World} {H:Hp} {h:Heap} {a:Addr}
end
section
variable {X:Cx} {pins:List (Addr×Obj)} {σ:St} {H:Hp} {s:Shared} {a:Addr} {y v:V} {u r:Value} {o:Option V} {A:Around} {E:Value→Shared→Prop}
end
section
variable {X:Cx} {pins:List (Addr×Obj)} {σ:St} {H:Hp} {s:Shared} {a:Addr} {kvs:List (kR×V)} {k:kR} {u:Value} {A:Around} {E:Value→Shared→Prop}
end
section
variable {X:Cx} {o i e value:Expr} {pos pos' tpos:Pos} {td ty tv:TE}
end
section
variable {X:Cx} {pos:Pos}
end
end L2
namespace L2
open PySem PySem.Spec PyProof.Rows
section
variable {X:Cx} {tg:Expr}
end
section
variable {X:Cx}
end
end L2
namespace L2
open PySem PySem.Spec PyProof.Rows
inductive Kd where
 |plain|basin|pump
structure MeK (P:Program) (w:World) (K:PySem.W.Frag) (mg:Str→Option Value) (base:Heap) (k:Nat) (cs:Kd→Addr) (m:Str) (ps:List Str) (ss:Kd→Sp):Prop where
 ex:∀kd,MeD P w K mg base k (cs kd) m ps (ss kd)
def nG (cs:Kd→Addr) (m:Str) (ss:Kd→Sp) (ta:TE) (t:TA):TE:=fun σ H Q=>ta σ H fun x H1=>∃(kd:Kd) (a dx:Addr) (fs:List (Str×V)),x=.ref a∧H1 a=some (.ins (cs kd) dx fs)∧fs.lookup m=none∧
 t σ H1 fun vs H2=>ss kd (x::vs) H2 Q E0
section
variable {X:Cx} {k k':Nat} {x m:Str} {cs:Kd→Addr} {ps:List Str} {ss:Kd→Sp} {p pos apos:Pos} {o e:Expr} {es:List Expr} {ta:TE} {t:TA}
theorem ZL {pl:Sem Bool} (M:MeK X.prog X.w X.K X.mg X.base k cs m ps ss) (hr:Room k' X.A) (ho:PE X o ta) (hk:k≤k':=by decide)
  (ht:eval (.Call (.Attribute o m apos) [] [] pos) X.env=(do
   let ov ← eval o X.env
   standAt apos.atName
   let (f,first) ← holding [ov] (getMethod ov m pl)
   callWith pos f first (backTo pos (starEach [] X.env)) (backToKw pos (keywordEach [] X.env))):=by rfl) :
  PE X (.Call (.Attribute o m apos) [] [] pos) (nG cs m ss ta d9):=by
 intro pins s σ H Q I h
 refine PySem.W.methodCall_KW (pl:=pl) (jK (ho pins s σ H _ I h) fun u s1 ⟨x,H1,I1,rx,kd,a,dx,fs,ex,ea,l,q⟩=>?_) ht
 obtain ⟨c,f,fd,hm,G,b⟩:=(M.ex kd).ex
 subst ex
 obtain rfl:u=Value.ref a:=rx
 refine gZ I1 ea c hm l ?_
 exact PySem.W.callWith_K0 (first:=[.ref a]) I1.kIn hm.kp (ZH (us:=[.ref a]) (vs:=[.ref a]) (dvs:=[]) G (hr.mono hk) b .nil QB I1 (.cons rfl .nil) q)
end
end L2
namespace L2
open PySem PySem.Spec PyProof.Rows
section
variable {X:Cx} {tg:Expr}
end
section
variable {X:Cx}
def pH:V→Option Int→Option Int→Hp→VK→Prop:=fun x lo hi H Q=>∃z:Str,x=.str z∧z.length≤sizeLine∧Q (.str (Txt.slice z lo hi)) H
theorem J7:QJ X pH:=by
 intro pins s σ H x v vl vu lo hi sl Q I rx hs pl pu h
 obtain ⟨z,rfl,hz,q⟩:=h
 obtain ⟨t,rfl⟩:=rx
 refine ⟨"str",_,F.slot_str_getitem.lookup,typeIs_str _ _ _,?_⟩
 have fin:∀(l u:Option (Int×Tok)),l.map (·.1)=lo→u.map (·.1)=hi→s.heap.IsSlice sl l u none→wpAny (model X.prog X.w) X.A (getItem (.str z t) (.ref sl)) (EP X pins σ Q) X.xe s:=by
  intro l u e1 e2 hsl
  subst e1 e2
  exact wpAny_getItem_str_slice hsl rfl (post_val_or_str ⟨Nat.le_trans (Txt.slice_le z _ _) hz,fun t' k=>⟨.str (Txt.slice z (l.map (·.1)) (u.map (·.1))),H,I.tok _,⟨t',rfl⟩,q⟩⟩)
 obtain ⟨o,ho,hc,hd⟩:=hs
 cases pl with
 |none =>
  cases pu with
  |none=>exact fin none none rfl rfl ⟨o,ho,hc,hd⟩
  |int j tj=>exact fin none (some (j,tj)) rfl rfl ⟨o,ho,hc,hd⟩
 |int i ti =>
  cases pu with
  |none=>exact fin (some (i,ti)) none rfl rfl ⟨o,ho,hc,hd⟩
  |int j tj=>exact fin (some (i,ti)) (some (j,tj)) rfl rfl ⟨o,ho,hc,hd⟩
end
end L2
namespace L2
open PySem PySem.Spec PyProof.Rows
section
variable {X:Cx} {K:PySem.W.Frag} {w:World} {o i:Expr} {pos:Pos} {td ty:TE}
end
end L2
namespace L2
open PySem PySem.Spec PyProof.Rows
section
variable {X:Cx} {pins:List (Addr×Obj)} {σ:St} {H:Hp} {s:Shared} {A:Around}
end
section
variable {X:Cx}
end
end L2
namespace L2
open PySem PySem.Spec PyProof.Rows
end L2
namespace L2
open PySem PySem.Spec PyProof.Rows
end L2
namespace L2
open PySem PySem.Spec PyProof.Rows
end L2
namespace L2
open PySem PySem.Spec PyProof.Rows
section
variable {X:Cx}
theorem vE:v0 X (.type "str") (fun xs H Q=>∃n:Int,xs=[.int n]∧n.natAbs.log2<1920∧Q (.str (Str.ofString (toString n))) H):=by
 intro pins s σ H xs us Q I r h
 obtain ⟨n,rfl,hl,q⟩:=h
 obtain ⟨u,rfl,t,rfl⟩:=ZN r
 exact P.str_of_int hl ⟨.str (Str.ofString (toString n)),H,I.tok _,⟨_,rfl⟩,q⟩
end
end L2
namespace L2
open PySem PySem.Spec PyProof.Rows
end L2
namespace L2
open PySem PySem.Spec PyProof.Rows
section
variable {X:Cx}
theorem bB:∀{zs:List Str} {us:List Value},Vals (zs.map V.str) us→∃l:List (Str×Tok),us=strValues l∧l.map (·.1)=zs
 |[],us,r=>by rw [List.map_nil] at r;cases r;exact ⟨[],rfl,rfl⟩
 |z::r,us,h=>by
  rw [List.map_cons] at h
  cases h with
  |@cons a b as bs ha ht =>
   obtain ⟨l,rfl,hl⟩:=bB ht
   obtain ⟨t,rfl⟩:=(show ∃t,b=Value.str z t from ha)
   exact ⟨(z,t)::l,rfl,by rw [List.map_cons,hl]⟩
def yN (zs:List Str):Nat:=(zs.map (·.length)).sum
def oF (K:PySem.W.Frag):V→List V→Hp→VK→Prop:=fun x vs H Q=>∃(z:Str) (l:Addr) (zs:List Str),x=.str z∧vs=[.ref l]∧SqL K H l (zs.map V.str)∧z.length≤16∧yN zs+zs.length≤1048576∧Q (.str (Str.join z zs)) H
theorem yB:QM X "str.join" (oF X.K):=by
 intro pins s σ H x vs v us Q I rx rv h
 obtain ⟨z,l,zs,rfl,rfl,hl,hz,hw,q⟩:=h
 obtain ⟨t,rfl⟩:=rx
 obtain ⟨u,rfl,ru⟩:=rv.one
 cases ru
 obtain ⟨its,r,pl,_⟩:=I.list hl
 obtain ⟨l',rfl,hl'⟩:=bB r
 refine SC.join (l:=l') (texts:=zs) pl.isList hl' (joinOk_of_weight hw hz) fun t' k=>⟨.str (Str.join z zs),H,I.tok _,?_,q⟩
 exact ⟨t',by show Value.str (Txt.join z zs) t'=_;unfold Txt.join;rw [StrLaws.glued_eq_join]⟩
end
end L2
namespace L2
open PySem PySem.Spec PyProof.Rows
end L2
namespace L2
open PySem PySem.Spec PyProof.Rows
def zW (a c:Int) (n:Nat):It:=⟨fun i _=>i<n,fun i H x H'=>H'=H∧x=.int (a+(i:Int)*c),fun i _=>n≤i⟩
theorem iF {P:Program} {w:World} {K:PySem.W.Frag} {tg:Expr} (it:Addr) (a c:Int) (n:Nat):Turn P w K tg (zW a c n) [it] it (fun i h=>IsRangeIter h it (a+(i:Nat)*c) ((n:Int) - (i:Nat)) c) where
 mem:=by simp
 obj:=fun i h st b hb=>by
  have e:b=it:=by simpa using hb
  subst e
  exact ⟨_,st,fun v z=>by
   have z':Data.fields _=Data.cell v:=z
   cases z'⟩
 keep:=fun i h h' st k=>k it (by simp) _ st
 item:=by
  intro X hP hw hK hc i pins s σ H E I hf st hg
  subst hP hw hK
  obtain ⟨f0,f1,f2,f3,f4,f5⟩:=hf it (by simp)
  have W:=Walks.range (prog:=X.prog) (w:=X.w) (I.ok.hd hc) it a c n
  refine W.item i s _ _ hg st fun v h' tk hv st' kk=>?_
  obtain ⟨t,rfl⟩:=hv
  have I1:Inv X pins σ H {s with heap:=h',toks:=tk}:=I.turned (fun b o hb e=>kk b o (by simpa using hb) e) f0 f1 f3 f4 f5
  exact ⟨_,rfl,QC (s:={s with heap:=h',toks:=tk}) (n:="range_iterator") st' rfl rfl (by decide) ⟨.int (a+(i:Int)*c),H,I1,⟨t,rfl⟩,⟨rfl,rfl⟩,st',fun b hb=>(hf b hb).1⟩⟩
 done:=by
  intro X hP hw hK hc i pins s σ H E I hf st hg
  subst hP hw hK
  obtain ⟨f0,f1,f2,f3,f4,f5⟩:=hf it (by simp)
  exact wpAny_pyNext_range_end (I.ok.hd hc) st (by have:n≤i:=hg;omega) fun h' eb=>⟨rfl,I.turned (t':=s.toks) (fun b o hb e=>eb b o hb e) f0 f1 f3 f4 f5⟩
 self:=fun _ _ _ _ _ st h=>wpAny_pyIter_rangeiter st h
section
variable {X:Cx} {tg:Expr}
theorem mG {pins:List (Addr×Obj)} {σ:St} {H:Hp} {s:Shared} {R:It→Hp→Prop} {E:Value→Shared→Prop} {n:Nat} {a b c:Int} {t u v:Tok} {tk:Nat} (I:Inv X pins σ H s) (hsm:Builtin.Range.small a b c=true) (hn:Builtin.Range.rangeSize a b c=n)
    (q:R (zW a c n) H):wpAny (model X.prog X.w) X.A (pyIter (.ref s.heap.objs.size)) (ZZ X pins σ tg R) E {s with heap:=s.heap.push {cls:=.type "range",data:=.fields #[.int a t,.int b u,.int c v]},toks:=tk}:=by
  refine wpAny_pyIter_range (IsRange.new ..) hsm ?_
  have I1:Inv X pins σ H {s with heap:=s.heap.push {cls:=.type "range",data:=.fields #[.int a t,.int b u,.int c v]},toks:=tk}:=I.kept fun b o e=>Heap.get?_push_of_some _ e
  refine ⟨(s.heap.push {cls:=.type "range",data:=.fields #[.int a t,.int b u,.int c v]}).objs.size,[(s.heap.push {cls:=.type "range",data:=.fields #[.int a t,.int b u,.int c v]}).objs.size],_,_,H,rfl,
    I1.kept (t':=tk) fun b o e=>Heap.get?_push_of_some _ e,iF _ a c n,?_,fun b' hb=>?_,q⟩
  · have e1:a+((0:Nat):Int)*c=a:=by simp
    have e2:((n:Nat):Int) - ((0:Nat):Int)=Builtin.Range.rangeSize a b c:=by rw [hn];simp
    show IsRangeIter _ _ (a+((0:Nat):Int)*c) (((n:Nat):Int) - ((0:Nat):Int)) c
    rw [e1,e2]
    exact Heap.get?_push_size _ rfl
  · have e:b'=(s.heap.push {cls:=.type "range",data:=.fields #[.int a t,.int b u,.int c v]}).objs.size:=by simpa using hb
    subst e
    exact I1.fpOk (Nat.le_refl _) (I1.hok.fresh (Nat.le_refl _))
def oS (ta:TA):TI:=fun σ H R=>ta σ H fun vs H1=>∃(a b c:Int) (n:Nat),vs=[.int a,.int b,.int c]∧c≠0∧c.natAbs<1073741824∧Builtin.Range.small a b c=true∧Builtin.Range.rangeSize a b c=n∧R (zW a c n) H1
theorem mM {a b c:Expr} {ta:TA} {p pos:Pos} (hg:Gl X "range") (hm:X.mg "range"=none) (ha:PA X [a,b,c] ta) (hs:starEach [a,b,c] X.env=[(false,eval a X.env),(false,eval b X.env),(false,eval c X.env)]:=by rfl) (hs2:starEach [b,c] X.env=[(false,eval b X.env),(false,eval c X.env)]:=by rfl) :
  PI X tg (.Call (.Name "range" p) [a,b,c] [] pos) (oS ta):=by
 intro pins s σ H R I h
 refine Call_ (zO I hg hm boot_range (PyProof.Rows.callWith_type1 (jK (ha pos pins s σ H _ I h) fun us s1 ⟨vs,H1,I1,r1,q1⟩=>?_) (by rw [hs,hs2]) (by rw [hs2];rfl)))
 obtain ⟨x,y,z,n,e,hz,hzs,hsm,hn,q⟩:=q1
 subst e
 cases r1 with
 |cons r rr =>
  cases rr with
  |cons r' rr =>
   cases rr with
   |cons r'' rr =>
    cases rr
    obtain ⟨t,rfl⟩:=r
    obtain ⟨t',rfl⟩:=r'
    obtain ⟨t'',rfl⟩:=r''
    exact call_range_3 hz (mG I1 hsm hn q) (.inl (PyProof.noPylong_small hzs))
end
theorem lX {a c:Int} {n:Nat} {g:TG} {tb:TS} {D:Ends} {σ:St} {H:Hp} (Pv:Nat→St→Hp→Prop) (h0:Pv 0 σ H)
  (hs:∀i σ H,i<n→Pv i σ H→g (.int (a+(i:Int)*c)) σ H fun σ2 H2=>tb {D with nx:=Pv (i+1),ct:=Pv (i+1),bk:=D.nx} σ2 H2) (hd:∀σ H,Pv n σ H→D.nx σ H) :
  ∃W:Nat→Nat→St→Hp→Prop,(∃m,W 0 m σ H)∧∀i m σ H,W i m σ H→
   ((zW a c n).stop i H∧D.nx σ H)∨((zW a c n).go i H∧∃N:St→Hp→Prop,(∀σ' H',N σ' H'→∃m',m'<m∧W (i+1) m' σ' H')∧∀x H',(zW a c n).yld i H x H'→g x σ H' fun σ2 H2=>tb {D with nx:=N,ct:=N,bk:=D.nx} σ2 H2):=by
 refine ⟨fun i m σ H=>m=n - i∧i≤n∧Pv i σ H,⟨n,by simp,Nat.zero_le _,h0⟩,?_⟩
 rintro i m σ H ⟨rfl,hi,p⟩
 by_cases hlt:i<n
 ·refine .inr ⟨hlt,Pv (i+1),fun σ' H' p'=>⟨n - (i+1),by omega,rfl,hlt,p'⟩,fun x H' y=>?_⟩
  obtain ⟨e,y⟩:=y
  subst e y
  exact hs i σ _ hlt p
 ·have e:i=n:=by omega
  subst e
  exact .inl ⟨Nat.le_refl _,hd σ H p⟩
theorem iH {a b c:Int} (hc:0<c):Builtin.Range.rangeSize a b c=if a<b then (b - a - 1) / c+1 else 0:=by
 unfold Builtin.Range.rangeSize
 rw [if_pos hc]
theorem iE {K:PySem.W.Frag} {a D:Addr} {xs:List V} {g:TG} {tc:TT} {te:TE} {σ₀:St} {H:Hp} {Q:Hp→Prop} (Pv:Nat→St→Hp→Prop) (h0:Pv 0 σ₀ (upd H D (.lst []))) (hl:∀i σ H,i≤xs.length→Pv i σ H→SqT K H a xs)
    (hs:∀i x σ H,xs[i]?=some x→Pv i σ H→g x σ H fun σ2 H3=>tc σ2 H3 fun b H4=>if b=true then te σ2 H4 fun v H5=>∃ys,H5 D=some (.lst ys)∧ys.length<sizeLine∧Pv (i+1) σ2 (upd H5 D (.lst (ys++[v]))) else Pv (i+1) σ2 H4)
    (hd:∀σ H,Pv xs.length σ H→Q H):vX D (QN K a) g tc te σ₀ H Q:=by
  refine ⟨fun i m σ H=>m=xs.length - i∧i≤xs.length∧Pv i σ H,⟨xs.length,by simp,Nat.zero_le _,h0⟩,?_⟩
  rintro i m σ H ⟨rfl,hi,p⟩
  have q:=hl i σ H hi p
  by_cases hlt:i<xs.length
  · refine .inr ⟨⟨xs,xs[i],q,by simp [hlt]⟩,Pv (i+1),fun σ' H' p'=>⟨xs.length - (i+1),by omega,rfl,hlt,p'⟩,fun x H' y=>?_⟩
    obtain ⟨e,y⟩:=y
    subst e
    exact hs i x σ _ (y xs q) p
  · have e:i=xs.length:=by omega
    subst e
    exact .inl ⟨⟨xs,q,Nat.le_refl _⟩,hd σ H p⟩
theorem bN {K:PySem.W.Frag} {a D:Addr} {xs:List V} {tc:TT} {te:TE} {caps:St} {H:Hp} {Q:Hp→Prop} (R:Nat→List V→Hp→Prop) (hD:H D=none) (hS:H a=some (.tup xs)) (h0:R 0 [] (upd H D (.lst [])))
  (hs:∀i x ys Hi,xs[i]?=some x→i<xs.length→ys.length≤i→Same H Hi→Hi D=some (.lst ys)→R i ys Hi→tc (some x::caps) Hi fun b H4=>if b=true then te (some x::caps) H4 fun v H5=>∃zs,H5 D=some (.lst zs)∧zs.length<sizeLine∧q5 H D caps R (i+1) (some x::caps) (upd H5 D (.lst (zs++[v])))
   else q5 H D caps R (i+1) (some x::caps) H4)
  (hd:∀ys Hf,Same H Hf→Hf D=some (.lst ys)→ys.length≤xs.length→R xs.length ys Hf→Q Hf):vX D (QN K a) (JG 0) tc te (none::caps) H Q:=by
 refine iE (xs:=xs) (q5 H D caps R) ⟨[],none,rfl,kB hD (Same.refl H),jE,Nat.le_refl _,h0⟩ (fun i σ Hi _ ⟨_,_,_,s,_⟩=>SqT.of (s _ _ hS)) ?_ ?_
 ·rintro i x σ Hi hx ⟨ys,c,rfl,s,hY,hl,r⟩
  exact hs i x ys Hi hx (List.getElem?_eq_some_iff.mp hx).1 hl s hY r
 ·rintro σ Hf ⟨ys,c,rfl,s,hY,hl,r⟩
  exact hd ys Hf s hY hl r
end L2
namespace L2
open PySem PySem.Spec PyProof.Rows
end L2
namespace L2
open PySem PySem.Spec PyProof.Rows
section
variable {X:Cx} {pins:List (Addr×Obj)} {σ:List (Option V)} {H:Hp} {s:Shared} {h':Heap}
theorem Inv.turnedN {t':Nat} {fp:List Addr} (I:Inv X pins σ H s) (k:∀b o,b∉fp→s.heap.get? b=some o→h'.get? b=some o) (hf:∀b∈fp,qV X pins H b):Inv X pins σ H {s with heap:=h',toks:=t'}:=by
 have nit:∀b u,H b=some u→b∉fp:=fun b u e z=>by rw [(hf b z).1] at e;cases e
 have hL:X.env.locals∉fp:=fun z=>(hf _ z).2.1 rfl
 refine I.step (g':=s.gens) (d':=s.drawn) (ch:=fp) (fun b hb=>?_) (fun b o _ _ hc e _=>k b o hc e) (fun b o _ _ hc e _=>⟨o.slots,k b o hc e⟩) (fun _ _ _ _ n=>n)
  (fun b o hc e=>⟨o,k b o hc e⟩) (fun _ _ e=>e) (fun _ _ _ e=>e) (fun b ps e=>⟨#[],by rw [e];simp⟩) (fun m hm=>?_) (fun b u e=>?_) I.bare
 ·obtain ⟨f0,f1,f2,f3,f4,f5⟩:=hf b hb
  exact ⟨f3,f1,f4,f5⟩
 ·obtain ⟨o,es,ep,ho,r⟩:=hm
  exact ⟨o,es,ep,k _ o hL ho,r⟩
 ·refine (I.hok b u e).stay (fun c v hc q=>k c v ?_ q) (fun _ q=>q) fun _ _ q=>q
  rcases hc with z|z
  ·rw [z];exact nit b u e
  ·exact nit c _ z
theorem Inv.laidN {t':Nat} {fp:List Addr} {a:Addr} {o:HO} (I:Inv X pins σ H s) (k:∀b u,b∉fp→s.heap.get? b=some u→h'.get? b=some u) (hf:∀b∈fp,qV X pins H b) (hp:s.heap.objs.size≤a) (new:ObjOk X.prog X.w (upd H a o) h' a o) :
  Inv X pins σ (upd H a o) {s with heap:=h',toks:=t'}:=by
 have hn:=I.hok.fresh hp
 have nit:∀b u,H b=some u→b∉fp:=fun b u e z=>by rw [(hf b z).1] at e;cases e
 have hL:X.env.locals∉fp:=fun z=>(hf _ z).2.1 rfl
 refine I.step (g':=s.gens) (d':=s.drawn) (ch:=fp) (fun b hb=>?_) (fun b o _ _ hc e _=>k b o hc e) (fun b o _ _ hc e _=>⟨o.slots,k b o hc e⟩) (fun b u _ e n=>?_)
  (fun b o hc e=>⟨o,k b o hc e⟩) (fun b xs e=>?_) (fun b u v e=>?_) (fun b ps e=>⟨#[],?_⟩) (fun m hm=>?_) (fun b u e=>?_) I.bare
 ·obtain ⟨f0,f1,f2,f3,f4,f5⟩:=hf b hb
  exact ⟨f3,f1,f4,f5⟩
 ·rw [jO (Nat.ne_of_lt (Nat.lt_of_lt_of_le (Heap.lt_size e) hp))];exact n
 ·rw [jO (jY e hn)];exact e
 ·rw [jO (jY e hn)];exact e
 ·rw [jO (jY e hn),e];simp
 ·obtain ⟨o,es,ep,ho,r⟩:=hm
  exact ⟨o,es,ep,k _ o hL ho,r⟩
 ·by_cases hb:b=a
  ·subst hb;rw [jE] at e;cases e;exact new
  ·rw [jO hb] at e
   refine (I.hok b u e).stay (fun c v hc q=>k c v ?_ q) (fun c q=>by rw [jO (jY q hn)];exact q) fun c xs q=>by rw [jO (jY q hn)];exact q
   rcases hc with z|z
   ·rw [z];exact nit b u e
   ·exact nit c _ z
end
def JN (K:PySem.W.Frag) (a1 a2:Addr):It :=
 ⟨fun i H=>∃xs ys x y,SqL K H a1 xs∧SqL K H a2 ys∧xs[i]?=some x∧ys[i]?=some y,
  fun i H v H'=>∃T x y,v=.ref T∧H T=none∧H'=upd H T (.tup [x,y])∧(∀xs,SqL K H a1 xs→xs[i]?=some x)∧(∀ys,SqL K H a2 ys→ys[i]?=some y),
  fun i H=>∃xs ys,SqL K H a1 xs∧SqL K H a2 ys∧(xs.length≤i∨ys.length≤i)⟩
theorem lD {P:Program} {w:World} {K:PySem.W.Frag} {elts:List Expr} {x1:Nat} {pos:Pos} {a1 a2 z TI TO i1 i2:Addr} (D:ZipApart z TI TO i1 i2 a1 a2) :
  Turn P w K (.Tuple elts x1 pos) (JN K a1 a2) [z,TI,TO,i1,i2] z (fun i h=>IsZip h z TI TO .none∧IsPair h TI (.ref i1) (.ref i2)∧(∃a b,IsPair h TO a b)∧h.IsListIter i1 a1 i∧h.IsListIter i2 a2 i) where
 mem:=by simp
 obj:=fun i h st b hb=>by
  obtain ⟨hz,hTI,⟨p,q,hTO⟩,⟨o1,e1,c1,d1⟩,⟨o2,e2,c2,d2⟩⟩:=st
  simp only [List.mem_cons,List.mem_nil_iff,or_false] at hb
  rcases hb with rfl|rfl|rfl|rfl|rfl
  ·exact ⟨_,hz,fun v y=>by have y':Data.fields _=Data.cell v:=y;cases y'⟩
  ·exact ⟨_,hTI,fun v y=>by have y':Data.seq _ _=Data.cell v:=y;cases y'⟩
  ·exact ⟨_,hTO,fun v y=>by have y':Data.seq _ _=Data.cell v:=y;cases y'⟩
  ·exact ⟨o1,e1,fun v y=>by rw [d1] at y;cases y⟩
  ·exact ⟨o2,e2,fun v y=>by rw [d2] at y;cases y⟩
 keep:=fun i h h' st k=>by
  obtain ⟨hz,hTI,⟨p,q,hTO⟩,h1,h2⟩:=st
  exact ⟨k _ (by simp) _ hz,k _ (by simp) _ hTI,⟨p,q,k _ (by simp) _ hTO⟩,h1.at fun o e=>k _ (by simp) o e,h2.at fun o e=>k _ (by simp) o e⟩
 item:=by
  intro X hP hw hK hc i pins s σ H E I hf st hg
  subst hP hw hK
  obtain ⟨hz,hTI,⟨p,q,hTO⟩,h1,h2⟩:=st
  obtain ⟨xs,ys,x,y,hq1,hq2,hx,hy⟩:=hg
  obtain ⟨its1,rv1,p1,_⟩:=I.list hq1
  obtain ⟨its2,rv2,p2,_⟩:=I.list hq2
  obtain ⟨u,hu,ru⟩:=rv1.get hx
  obtain ⟨v,hv,rv⟩:=rv2.get hy
  refine wpAny_pyNext_zip_item D hz hTI hTO h1 h2 p1.isList p2.isList (x:=u) (y:=v) (by simpa using hu) (by simpa using hv) fun h' hz' hTO' h1' h2' hT' hsz hk=>?_
  refine ⟨_,rfl,?_⟩
  refine wpAny_letOwnedTupleGo_zip hz' fun hp2 hz2 hs2=>?_
  have lt:∀{b:Addr} {o:Obj},s.heap.get? b=some o→b<s.heap.objs.size:=fun e=>Heap.lt_size e
  have nT:s.heap.objs.size≠z:=Nat.ne_of_gt (lt hz)
  have k2:∀b o,b∉[z,TI,TO,i1,i2]→s.heap.get? b=some o→hp2.get? b=some o:=fun b o hb e=>by
   simp only [List.mem_cons,List.mem_nil_iff,or_false,not_or] at hb
   exact (hs2.2 b hb.1).trans (hk b o hb.1 hb.2.2.1 hb.2.2.2.1 hb.2.2.2.2 e)
  have hT2:IsPair hp2 s.heap.objs.size u v:=(hs2.2 _ nT).trans hT'
  refine ⟨.ref s.heap.objs.size,upd H s.heap.objs.size (.tup [x,y]),I.laidN (t':=s.toks) (fp:=[z,TI,TO,i1,i2]) k2 hf (Nat.le_refl _) ⟨(by show 2≤sizeLine;decide),[u,v],.cons ru (.cons rv .nil),⟨_,hT2,rfl,_,rfl⟩⟩,rfl,?_,?_,?_⟩
  ·exact ⟨_,x,y,rfl,I.hok.fresh (Nat.le_refl _),rfl,fun zs hzs=>by rw [I.list_inj hzs hq1];exact hx,fun zs hzs=>by rw [I.list_inj hzs hq2];exact hy⟩
  ·refine ⟨hz2,(hs2.2 _ D.TIz).trans (hk _ _ D.TIz D.TITO D.TIi1 D.TIi2 hTI),⟨_,_,(hs2.2 _ D.TOz).trans hTO'⟩,h1'.at fun o e=>(hs2.2 _ D.i1z).trans e,h2'.at fun o e=>(hs2.2 _ D.i2z).trans e⟩
  ·intro b hb
   have:=(hf b hb).1
   rw [jO]
   ·exact this
   ·intro e
    simp only [List.mem_cons,List.mem_nil_iff,or_false] at hb
    obtain ⟨o1,e1,_⟩:=h1
    obtain ⟨o2,e2,_⟩:=h2
    rcases hb with rfl|rfl|rfl|rfl|rfl
    ·exact nT e.symm
    ·exact Nat.ne_of_lt (lt hTI) e
    ·exact Nat.ne_of_lt (lt hTO) e
    ·exact Nat.ne_of_lt (lt e1) e
    ·exact Nat.ne_of_lt (lt e2) e
 done:=by
  intro X hP hw hK hc i pins s σ H E I hf st hg
  subst hP hw hK
  obtain ⟨hz,hTI,⟨p,q,hTO⟩,h1,h2⟩:=st
  obtain ⟨xs,ys,hq1,hq2,he⟩:=hg
  obtain ⟨its1,rv1,p1,_⟩:=I.list hq1
  obtain ⟨its2,rv2,p2,_⟩:=I.list hq2
  have l1:=rv1.length
  have l2:=rv2.length
  refine wpAny_pyNext_zip_end (I.ok.hd hc) D hz hTI hTO h1 h2 p1.isList p2.isList (he.imp (fun e=>by simp;omega) (fun e=>by simp;omega)) fun h' hk=>⟨rfl,I.turnedN (t':=s.toks) (fp:=[z,TI,TO,i1,i2]) (fun b o hb e=>?_) hf⟩
  simp only [List.mem_cons,List.mem_nil_iff,or_false,not_or] at hb
  exact hk b o hb.1 hb.2.2.1 hb.2.2.2.1 hb.2.2.2.2 e
 self:=fun _ _ _ _ _ st h=>wpAny_pyIter_zip st.1 h
section
variable {X:Cx} {elts:List Expr} {x1:Nat} {tpos:Pos}
def pO (K:PySem.W.Frag) (ta:TA):TI:=fun σ H R=>ta σ H fun vs H1=>∃a1 a2,vs=[.ref a1,.ref a2]∧(∃xs,SqL K H1 a1 xs)∧(∃ys,SqL K H1 a2 ys)∧R (JN K a1 a2) H1
theorem nK {a b:Expr} {ta:TA} {p pos:Pos} (hg:Gl X "zip") (hm:X.mg "zip"=none) (ha:PA X [a,b] ta) (hs:starEach [a,b] X.env=[(false,eval a X.env),(false,eval b X.env)]:=by rfl) (hs2:starEach [b] X.env=[(false,eval b X.env)]:=by rfl) :
  PI X (.Tuple elts x1 tpos) (.Call (.Name "zip" p) [a,b] [] pos) (pO X.K ta):=by
 intro pins s σ H R I h
 refine Call_ (zO I hg hm boot_zip (PyProof.Rows.callWith_type1 (jK (ha pos pins s σ H _ I h) fun us s1 ⟨vs,H1,I1,r1,q1⟩=>?_) (by rw [hs,hs2]) (by rw [hs2];rfl)))
 obtain ⟨a1,a2,e,⟨xs,hq1⟩,⟨ys,hq2⟩,q⟩:=q1
 subst e
 cases r1 with
 |cons r rr =>
  cases rr with
  |cons r' rr =>
   cases rr
   cases r
   cases r'
   obtain ⟨its1,rv1,p1,_⟩:=I1.list hq1
   obtain ⟨its2,rv2,p2,_⟩:=I1.list hq2
   have lt1:a1<s1.heap.objs.size:=by obtain ⟨o,e,_⟩:=p1.isList;exact Heap.lt_size e
   have lt2:a2<s1.heap.objs.size:=by obtain ⟨o,e,_⟩:=p2.isList;exact Heap.lt_size e
   refine call_zip_2 p1.isList p2.isList fun h' hz hTI hTO h1 h2 hsz hk=>?_
   refine wpAny_pyIter_zip hz ?_
   have D:ZipApart (s1.heap.objs.size+4) (s1.heap.objs.size+2) (s1.heap.objs.size+3) s1.heap.objs.size (s1.heap.objs.size+1) a1 a2:=by
    constructor<;>(intro e;simp only [Addr] at *;omega)
   refine ⟨_,_,_,_,H1,rfl,I1.kept (t':=s1.toks) hk,lD D,⟨hz,hTI,⟨_,_,hTO⟩,h1,h2⟩,fun b hb=>?_,q⟩
   simp only [List.mem_cons,List.mem_nil_iff,or_false] at hb
   have hb':s1.heap.objs.size≤b:=by rcases hb with rfl|rfl|rfl|rfl|rfl<;>simp only [Addr] at *<;>omega
   exact I1.fpOk hb' (I1.hok.fresh hb')
theorem m6 {K:PySem.W.Frag} {a1 a2:Addr} {xs ys:List V} {g:TG} {tb:TS} {D:Ends} {σ:St} {H:Hp} (P:Nat→St→Hp→Prop) (h0:P 0 σ H) (hl:∀i σ H,i≤min xs.length ys.length→P i σ H→SqL K H a1 xs∧SqL K H a2 ys)
  (step:∀i x y σ H T,xs[i]?=some x→ys[i]?=some y→P i σ H→H T=none→g (.ref T) σ (upd H T (.tup [x,y])) fun σ2 H2=>tb {D with nx:=P (i+1),ct:=P (i+1),bk:=D.nx} σ2 H2) (done:∀σ H,P (min xs.length ys.length) σ H→D.nx σ H) :
  ∃W:Nat→Nat→St→Hp→Prop,(∃m,W 0 m σ H)∧∀i m σ H,W i m σ H→((JN K a1 a2).stop i H∧D.nx σ H)∨((JN K a1 a2).go i H∧∃N:St→Hp→Prop,(∀σ' H',N σ' H'→∃m',m'<m∧W (i+1) m' σ' H')∧∀x H',(JN K a1 a2).yld i H x H'→g x σ H' fun σ2 H2=>tb {D with nx:=N,ct:=N,bk:=D.nx} σ2 H2):=by
 refine ⟨fun i m σ H=>i≤min xs.length ys.length∧m=min xs.length ys.length - i∧P i σ H,⟨_,Nat.zero_le _,rfl,h0⟩,fun i m σ H w=>?_⟩
 obtain ⟨hi,hm,p⟩:=w
 obtain ⟨q1,q2⟩:=hl i σ H hi p
 by_cases e:i=min xs.length ys.length
 ·refine .inl ⟨⟨xs,ys,q1,q2,by omega⟩,done σ H (e▸p)⟩
 ·have l1:i<xs.length:=by omega
  have l2:i<ys.length:=by omega
  refine .inr ⟨⟨xs,ys,_,_,q1,q2,List.getElem?_eq_getElem l1,List.getElem?_eq_getElem l2⟩,P (i+1),fun σ' H' n=>⟨_,by omega,by omega,rfl,n⟩,fun v H' hy=>?_⟩
  obtain ⟨T,x,y,rfl,hT,rfl,h1,h2⟩:=hy
  exact step i x y σ H T (h1 xs q1) (h2 ys q2) p hT
end
theorem mR {X:Cx} (K:PySem.W.Frag) (hu:X.A.units<cLine) (h:X.K=K:=by rfl):kL X (compareOp .NotEq) (eE K true):=by subst h;exact dP hu
end L2
namespace L2
open PySem PySem.Spec PyProof.Rows
end L2
namespace L2
open PySem PySem.Spec PyProof.Rows
section
variable {X:Cx}
end
end L2
namespace L2
open PySem PySem.Spec PyProof.Rows
section
variable {prog:Program} {w:World} {A:Around} {s:Shared} {E:Value→Shared→Prop}
end
section
variable {X:Cx} {elts:List Expr} {x1:Nat} {tpos:Pos}
end
end L2
namespace L2
open PySem PySem.Spec PyProof.Rows
set_option maxRecDepth 100000
section
variable {X:Cx}
end
end L2
namespace L2
open PySem PySem.Spec PyProof.Rows
section
variable {prog:Program} {w:World} {A:Around} {s:Shared} {E:Value→Shared→Prop}
end
end L2
namespace L2
open PySem PySem.Spec PyProof.Rows
section
variable {X:Cx} {pins:List (Addr×Obj)} {σ:List (Option V)} {H:Hp} {s:Shared} {h':Heap}
end
section
variable {X:Cx}
end
end L2
namespace L2
open PySem PySem.Spec PyProof.Rows
section
variable {prog:Program} {w:World} {A:Around} {s:Shared} {E:Value→Shared→Prop}
end
end L2
namespace L2
open PySem PySem.Spec PyProof.Rows
section
variable {X:Cx} {e se:Expr} {te:TE} {lo hi:Option Expr} {tl th tk:TO} {pos p2:Pos}
end
section
variable {X:Cx}
end
end L2
namespace L2
open PySem PySem.Spec PyProof.Rows
section
end
end L2
namespace L2
open PySem PySem.Spec PyProof.Rows
section
variable {prog:Program} {w:World} {A:Around} {s:Shared} {E:Value→Shared→Prop}
end
section
variable {X:Cx} {elts:List Expr} {x1:Nat} {tpos:Pos}
end
end L2
namespace L2
open PySem PySem.Spec PyProof.Rows
section
variable {X:Cx}
end
end L2
namespace L2
open PySem PySem.Spec PyProof.Rows
end L2
namespace L2
open PySem PySem.Spec PyProof.Rows
section
variable {X:Cx}
end
end L2
namespace L2
end L2
namespace L2
theorem an3 {A0 A1 A2:Prop} (h0:A0) (h1:A1) (h2:A2):A0∧A1∧A2:=⟨h0,h1,h2⟩
theorem an4 {A0 A1 A2 A3:Prop} (h0:A0) (h1:A1) (h2:A2) (h3:A3):A0∧A1∧A2∧A3:=⟨h0,h1,h2,h3⟩
theorem an5 {A0 A1 A2 A3 A4:Prop} (h0:A0) (h1:A1) (h2:A2) (h3:A3) (h4:A4):A0∧A1∧A2∧A3∧A4:=⟨h0,h1,h2,h3,h4⟩
theorem an6 {A0 A1 A2 A3 A4 A5:Prop} (h0:A0) (h1:A1) (h2:A2) (h3:A3) (h4:A4) (h5:A5):A0∧A1∧A2∧A3∧A4∧A5:=⟨h0,h1,h2,h3,h4,h5⟩
theorem an7 {A0 A1 A2 A3 A4 A5 A6:Prop} (h0:A0) (h1:A1) (h2:A2) (h3:A3) (h4:A4) (h5:A5) (h6:A6):A0∧A1∧A2∧A3∧A4∧A5∧A6:=⟨h0,h1,h2,h3,h4,h5,h6⟩
theorem an8 {A0 A1 A2 A3 A4 A5 A6 A7:Prop} (h0:A0) (h1:A1) (h2:A2) (h3:A3) (h4:A4) (h5:A5) (h6:A6) (h7:A7):A0∧A1∧A2∧A3∧A4∧A5∧A6∧A7:=⟨h0,h1,h2,h3,h4,h5,h6,h7⟩
theorem an9 {A0 A1 A2 A3 A4 A5 A6 A7 A8:Prop} (h0:A0) (h1:A1) (h2:A2) (h3:A3) (h4:A4) (h5:A5) (h6:A6) (h7:A7) (h8:A8):A0∧A1∧A2∧A3∧A4∧A5∧A6∧A7∧A8:=⟨h0,h1,h2,h3,h4,h5,h6,h7,h8⟩
theorem an10 {A0 A1 A2 A3 A4 A5 A6 A7 A8 A9:Prop} (h0:A0) (h1:A1) (h2:A2) (h3:A3) (h4:A4) (h5:A5) (h6:A6) (h7:A7) (h8:A8) (h9:A9):A0∧A1∧A2∧A3∧A4∧A5∧A6∧A7∧A8∧A9:=⟨h0,h1,h2,h3,h4,h5,h6,h7,h8,h9⟩
theorem an11 {A0 A1 A2 A3 A4 A5 A6 A7 A8 A9 A10:Prop} (h0:A0) (h1:A1) (h2:A2) (h3:A3) (h4:A4) (h5:A5) (h6:A6) (h7:A7) (h8:A8) (h9:A9) (h10:A10):A0∧A1∧A2∧A3∧A4∧A5∧A6∧A7∧A8∧A9∧A10:=⟨h0,h1,h2,h3,h4,h5,h6,h7,h8,h9,h10⟩
theorem an12 {A0 A1 A2 A3 A4 A5 A6 A7 A8 A9 A10 A11:Prop} (h0:A0) (h1:A1) (h2:A2) (h3:A3) (h4:A4) (h5:A5) (h6:A6) (h7:A7) (h8:A8) (h9:A9) (h10:A10) (h11:A11):A0∧A1∧A2∧A3∧A4∧A5∧A6∧A7∧A8∧A9∧A10∧A11:=⟨h0,h1,h2,h3,h4,h5,h6,h7,h8,h9,h10,h11⟩
theorem an13 {A0 A1 A2 A3 A4 A5 A6 A7 A8 A9 A10 A11 A12:Prop} (h0:A0) (h1:A1) (h2:A2) (h3:A3) (h4:A4) (h5:A5) (h6:A6) (h7:A7) (h8:A8) (h9:A9) (h10:A10) (h11:A11) (h12:A12):A0∧A1∧A2∧A3∧A4∧A5∧A6∧A7∧A8∧A9∧A10∧A11∧A12:=⟨h0,h1,h2,h3,h4,h5,h6,h7,h8,h9,h10,h11,h12⟩
theorem an14 {A0 A1 A2 A3 A4 A5 A6 A7 A8 A9 A10 A11 A12 A13:Prop} (h0:A0) (h1:A1) (h2:A2) (h3:A3) (h4:A4) (h5:A5) (h6:A6) (h7:A7) (h8:A8) (h9:A9) (h10:A10) (h11:A11) (h12:A12) (h13:A13):A0∧A1∧A2∧A3∧A4∧A5∧A6∧A7∧A8∧A9∧A10∧A11∧A12∧A13:=⟨h0,h1,h2,h3,h4,h5,h6,h7,h8,h9,h10,h11,h12,h13⟩
theorem an15 {A0 A1 A2 A3 A4 A5 A6 A7 A8 A9 A10 A11 A12 A13 A14:Prop} (h0:A0) (h1:A1) (h2:A2) (h3:A3) (h4:A4) (h5:A5) (h6:A6) (h7:A7) (h8:A8) (h9:A9) (h10:A10) (h11:A11) (h12:A12) (h13:A13) (h14:A14):A0∧A1∧A2∧A3∧A4∧A5∧A6∧A7∧A8∧A9∧A10∧A11∧A12∧A13∧A14:=⟨h0,h1,h2,h3,h4,h5,h6,h7,h8,h9,h10,h11,h12,h13,h14⟩
end L2
namespace L2
open PySem PySem.Spec PyProof.Rows
section
variable {X:Cx}
end
end L2
namespace L2
open PySem PySem.Spec PyProof.Rows
end L2
namespace L2
open PySem PySem.Spec PyProof.Rows
end L2
namespace L2
open PySem PySem.Spec PyProof.Rows
section
variable {M:Model} {A:Around} {E:Value→Shared→Prop} {s:Shared}
end
section
variable {P:Program} {w:World} {K:PySem.W.Frag} {mg:Str→Option Value} {base:Heap} {N:List Str} {qual:Str} {scope:Scope} {f:Addr} {cd:Value} {A:Around} {outer:List Env} {s:Shared} {H:Hp} {E:XK}
end
section
variable {X:Cx} {N:List Str} {scope:Scope} {pins:List (Addr×Obj)} {σ:St} {H:Hp} {s:Shared} {fp:List Addr}
end
section
variable {P:Program} {w:World} {K:PySem.W.Frag} {mg:Str→Option Value} {base:Heap} {Nf:List Str} {qual:Str} {scf:Scope} {f:Addr} {cd:Value} {A:Around} {outer:List Env} {s₀:Shared} {H₀:Hp} {E:XK}
end
end L2
namespace L2
open PySem PySem.Spec PyProof.Rows
section
variable {X:Cx}
end
end L2
namespace L2
open PySem PySem.Spec PyProof.Rows
section
variable {P:Program} {w:World} {K:PySem.W.Frag} {mg:Str→Option Value} {base:Heap}
end
section
variable {X:Cx} {a b:Expr} {ta tb:TE} {r:R2} {pos:Pos}
end
theorem so {K:PySem.W.Frag} {H:Hp} {a:Addr} {xs:List V} (h:H a=some (.lst xs)):SqL K H a xs:=SqL.of h
end L2
namespace L2
open PySem PySem.Spec PyProof.Rows
section
variable {X:Cx} {N:List Str} {scope:Scope} {pins:List (Addr×Obj)} {σ:St} {H:Hp} {s:Shared} {fp:List Addr}
end
end L2
namespace My
open PySem L2
theorem zz0:0≤sizeLine:=by decide
theorem zz1:1≤sizeLine:=by decide
theorem zz2:2≤sizeLine:=by decide
theorem zz3:3≤sizeLine:=by decide
theorem zz4:4≤sizeLine:=by decide
theorem zz5:5≤sizeLine:=by decide
theorem zz6:6≤sizeLine:=by decide
theorem zz7:7≤sizeLine:=by decide
def top (i:Nat):Stmt:=PySem.Challenge.pw_lockhouse_k38_shown.main.body.getD i (.Pass ⟨0,0,0,0⟩)
abbrev y0:Stmt:=q0 (top 13) 0
abbrev yX:Stmt:=q0 (top 14) 0
abbrev y3:Stmt:=q0 (top 15) 0
abbrev y7:Stmt:=q0 (top 3) 0
abbrev y2:Stmt:=q0 (top 13) 3
abbrev yZ:Stmt:=q0 (top 14) 3
abbrev y6:Stmt:=q0 (top 15) 2
abbrev y1:Stmt:=q0 (top 13) 4
abbrev yY:Stmt:=q0 (top 14) 4
abbrev y4:Stmt:=q0 (top 15) 3
abbrev yF:Stmt:=q0 (top 4) 0
abbrev yK:Stmt:=top 6
abbrev yJ:Stmt:=top 9
abbrev zF:Stmt:=top 10
abbrev zG:Stmt:=top 11
abbrev vN:Stmt:=top 8
abbrev y8:Stmt:=top 17
abbrev zC:Stmt:=top 18
abbrev yH:Stmt:=top 19
abbrev zA:Stmt:=top 20
abbrev zE:Stmt:=top 21
abbrev zB:Stmt:=top 22
abbrev zD:Stmt:=top 23
abbrev yG:Stmt:=top 24
abbrev vL:Stmt:=top 25
abbrev y9:Stmt:=top 26
abbrev v6:Stmt:=top 27
abbrev yI:Stmt:=top 28
abbrev vB:Stmt:=top 29
abbrev vM:Stmt:=top 30
theorem jM {H:Hp} {p:Addr} (h:H p=none) (o:HO):Same H (upd H p o):=fun b u q=>by rw [jO (jY q h)];exact q
theorem small {n:Nat} (h:n≤1000):n≤sizeLine:=Nat.le_of_lt (qJ h)
theorem m3 {n s:Nat} (h:s<n):v3 n (s:Int)=some s:=by
 unfold v3
 rw [if_pos (by omega),if_pos (by omega)]
 simp
theorem mD {ws:List Int} {s:Nat} (h:s<ws.length):qG (ws.map V.int) (s:Int)=some (.int (ws.getD s 0)):=by
 refine vG ?_
 rw [List.getElem?_map,List.getElem?_eq_getElem h,List.getD_eq_getElem?_getD,List.getElem?_eq_getElem h]
 rfl
theorem cF {ms:List Int} {i:Nat} {x:V} (h:(ms.map V.int)[i]?=some x):∃z,x=V.int z∧ms[i]?=some z:=by
 rw [List.getElem?_map] at h
 cases e:ms[i]? with
 |none=>rw [e] at h;cases h
 |some z=>rw [e] at h;exact ⟨z,(Option.some.inj h).symm,rfl⟩
def ZG (K:W.Frag):Sp:=fun vs H Q _=>∃(a:Addr) (ns:List Int) (k:Nat),vs=[.ref a,.int k]∧SqL K H a (ns.map V.int)∧Q (.int (ns.getD k 0)) H
def QA (K:W.Frag):Sp:=fun vs H Q _=>∃(a:Addr) (ns:List Int),vs=[.ref a]∧SqL K H a (ns.map V.int)∧ns.length≤63∧∀H',Q (.bl true) H'
def Keep (d:Addr) (H H':Hp):Prop:=∀b o,b≠d→H b=some o→H' b=some o
theorem Keep.refl (d:Addr) (H:Hp):Keep d H H:=fun _ _ _ q=>q
theorem Keep.of {d:Addr} {H H':Hp} (s:Same H H'):Keep d H H':=fun b o _ q=>s b o q
theorem Keep.trans {d:Addr} {H H1 H2:Hp} (a:Keep d H H1) (b:Keep d H1 H2):Keep d H H2:=fun c o n q=>b c o n (a c o n q)
theorem Keep.upd {d:Addr} {H H':Hp} (k:Keep d H H') (o:HO):Keep d H (upd H' d o):=fun b u n q=>by rw [jO n];exact k b u n q
def lettersS:Str:="abcdefghijklmnopqrstuvwxyz"
theorem gK:lettersS.cps.toList.length=26:=by decide +kernel
theorem Z4:lettersS.length≤sizeLine:=by decide +kernel
def z8 (z:Nat):Nat:=lettersS.cps.toList.getD z 0
theorem iA {z:Int} (h0:0≤z) (h1:z<26):qG lettersS.cps.toList z=some (z8 z.toNat):=by
 have h:=vG (xs:=lettersS.cps.toList) (j:=z.toNat) (v:=z8 z.toNat) (by
  unfold z8
  rw [List.getD_eq_getElem?_getD,List.getElem?_eq_getElem (by rw [gK];omega)]
  rfl)
 have e:((z.toNat:Nat):Int)=z:=by omega
 rwa [e] at h
def qE (n h l r:V):List (Str×V):=jJ "room" r (jJ "low" l (jJ "high" h (jJ "name" n [])))
theorem oO:¬(("name":Str)="high"):=by decide +kernel
theorem oN:¬(("name":Str)="low"):=by decide +kernel
theorem oM:¬(("name":Str)="room"):=by decide +kernel
theorem oR:¬(("high":Str)="low"):=by decide +kernel
theorem oQ:¬(("high":Str)="room"):=by decide +kernel
theorem oP:¬(("low":Str)="room"):=by decide +kernel
theorem mW (n h l r:V):(qE n h l r).lookup ("name":Str)=some n:=by
 unfold qE
 rw [kP,if_neg oM,kP,if_neg oN,kP,if_neg oO,kP,if_pos rfl]
theorem mX (n h l r:V):(qE n h l r).lookup ("high":Str)=some h:=by
 unfold qE
 rw [kP,if_neg oQ,kP,if_neg oR,kP,if_pos rfl]
theorem nR (n h l r:V):(qE n h l r).lookup ("low":Str)=some l:=by
 unfold qE
 rw [kP,if_neg oP,kP,if_pos rfl]
theorem mV (n h l r:V):(qE n h l r).lookup ("room":Str)=some r:=by
 unfold qE
 rw [kP,if_pos rfl]
theorem dY (n h l r:V) {m:Str} (h1:¬m="room") (h2:¬m="low") (h3:¬m="high") (h4:¬m="name"):(qE n h l r).lookup m=none:=by
 unfold qE
 rw [kP,if_neg h1,kP,if_neg h2,kP,if_neg h3,kP,if_neg h4]
 rfl
def zQ (e:Str) (n h l r v:V):List (Str×V):=jJ e v (qE n h l r)
theorem cM (e:Str) (n h l r v:V):(zQ e n h l r v).lookup e=some v:=by
 unfold zQ
 rw [kP,if_pos rfl]
theorem cO {e m:Str} (ne:¬m=e) (n h l r v:V):(zQ e n h l r v).lookup m=(qE n h l r).lookup m:=by
 unfold zQ
 rw [kP,if_neg ne]
theorem bH (n h l r:V):(qE n h l r).length<1000:=by
 have h1:=vD "high" h (jJ "name" n [])
 have h2:=vD "low" l (jJ "high" h (jJ "name" n []))
 have h3:=vD "room" r (jJ "low" l (jJ "high" h (jJ "name" n [])))
 have h4:(jJ ("name":Str) n []).length=1:=rfl
 unfold qE
 omega
def jN (cP cB cU:Addr):Kd→Addr
 |.plain=>cP
 |.basin=>cB
 |.pump=>cU
def vV (kd:Kd) (n h l r v:V):List (Str×V):=match kd with
 |.plain=>qE n h l r
 |.basin=>zQ "side" n h l r v
 |.pump=>zQ "lift" n h l r v
theorem zP (kd:Kd) (n h l r v:V) {m:Str} (h1:¬m="side") (h2:¬m="lift"):(vV kd n h l r v).lookup m=(qE n h l r).lookup m:=by
 cases kd
 ·rfl
 ·exact cO h1 _ _ _ _ _
 ·exact cO h2 _ _ _ _ _
theorem dD (kd:Kd) (n h l r v:V):(vV kd n h l r v).lookup ("name":Str)=some n:=by rw [zP kd _ _ _ _ _ (by decide +kernel) (by decide +kernel)];exact mW ..
theorem m8 (kd:Kd) (n h l r v:V):(vV kd n h l r v).lookup ("high":Str)=some h:=by rw [zP kd _ _ _ _ _ (by decide +kernel) (by decide +kernel)];exact mX ..
theorem nX (kd:Kd) (n h l r v:V):(vV kd n h l r v).lookup ("low":Str)=some l:=by rw [zP kd _ _ _ _ _ (by decide +kernel) (by decide +kernel)];exact nR ..
theorem m7 (kd:Kd) (n h l r v:V):(vV kd n h l r v).lookup ("room":Str)=some r:=by rw [zP kd _ _ _ _ _ (by decide +kernel) (by decide +kernel)];exact mV ..
theorem z9 (kd:Kd) (n h l r v:V):(vV kd n h l r v).lookup ("kind":Str)=none:=by rw [zP kd _ _ _ _ _ (by decide +kernel) (by decide +kernel)];exact dY _ _ _ _ (by decide +kernel) (by decide +kernel) (by decide +kernel) (by decide +kernel)
theorem cG (kd:Kd) (n h l r v:V):(vV kd n h l r v).lookup ("extra":Str)=none:=by rw [zP kd _ _ _ _ _ (by decide +kernel) (by decide +kernel)];exact dY _ _ _ _ (by decide +kernel) (by decide +kernel) (by decide +kernel) (by decide +kernel)
def LockAt (cs:Kd→Addr) (H:Hp) (x:Addr) (kd:Kd) (n h l:V) (room v:Int):Prop:=∃dx:Addr,H x=some (.ins (cs kd) dx (vV kd n h l (.int room) (.int v)))
theorem LockAt.same {cs:Kd→Addr} {H H':Hp} {x:Addr} {kd:Kd} {n h l:V} {room v:Int} (e:Same H H') (a:LockAt cs H x kd n h l room v):LockAt cs H' x kd n h l room v:=by
 obtain ⟨dx,a⟩:=a
 exact ⟨dx,e _ _ a⟩
def zN (cs:Kd→Addr):Sp:=fun vs H Q _=>∃(kd:Kd) (x dx:Addr) (n h l r:V),vs=[.ref x,n,h,l,r]∧H x=some (.ins (cs kd) dx [])∧∀H':Hp,Keep x H H'→H' x=some (.ins (cs kd) dx (qE n h l r))→Q .non H'
def zM (cs:Kd→Addr) (kd:Kd):Sp:=fun vs H Q _=>∃(x dx:Addr) (n h l r v:V),vs=[.ref x,n,h,l,r,v]∧H x=some (.ins (cs kd) dx [])∧∀H':Hp,Keep x H H'→H' x=some (.ins (cs kd) dx (vV kd n h l r v))→Q .non H'
def qI (cs:Kd→Addr) (F:Kd→Int→V) (kd:Kd):Sp:=fun vs H Q _=>∃(x:Addr) (n h l:V) (room v:Int),vs=[.ref x]∧LockAt cs H x kd n h l room v∧Q (F kd v) H
def vI (n:Int):Nat:=97+(n%26).toNat
def kI (c:Int):List Nat:=(List.range 12).map fun (k:Nat)=>vI (c / 4+c / 100*(k:Int)+(k:Int)*(k:Int))
theorem qX (c:Int):(kI c).length=12:=by simp [kI]
def vZ (c:Int):Nat:=(1+c / 16%12).toNat
def JK (c:Int):Nat:=(c / 32%(1+c / 16%12)).toNat
theorem mI (c:Int):1≤vZ c:=by unfold vZ;have:=Int.emod_nonneg (c / 16) (by decide:(12:Int)≠0);omega
theorem cX (c:Int):vZ c≤12:=by unfold vZ;have:=Int.emod_lt_of_pos (c / 16) (by decide:(0:Int)<12);omega
theorem oY (c:Int):JK c<vZ c:=by
 unfold JK vZ
 have h0:=Int.emod_nonneg (c / 16) (by decide:(12:Int)≠0)
 have h1:=Int.emod_lt_of_pos (c / 32) (show (0:Int)<1+c / 16%12 by omega)
 have h2:=Int.emod_nonneg (c / 32) (show (1+c / 16%12:Int)≠0 by omega)
 omega
def zT (c:Int) (k:Nat):List Nat:=(kI c).take (JK c)++[vI (c / 4+3*(k:Int))]++((kI c).take (vZ c)).drop (JK c+1)
def qF (c:Int) (k:Nat):List Nat:=if c%4=0 then (kI c).take (k+1) else if c%4=1 then (kI c).drop (11 - k) else zT c k
theorem mU (c:Int) (k:Nat):(zT c k).length=vZ c:=by
 have h1:=oY c
 have h2:=cX c
 unfold zT
 simp only [List.length_append,List.length_take,List.length_drop,qX,List.length_singleton]
 omega
theorem cE (c:Int) {k:Nat} (hk:k<8):1≤(qF c k).length∧(qF c k).length≤12:=by
 unfold qF
 split
 ·rw [List.length_take,qX];omega
 split
 ·rw [List.length_drop,qX];omega
 rw [mU];exact ⟨mI c,cX c⟩
def yP:List Nat:=[115,101,97]
def vS (c:Int):List Nat:=if c%4<2 then [115,101,98] else [115,101,97,122]
def qB (c:Int) (k:Nat):List Nat:=if qF c k=yP then vS c else qF c k
theorem iO (c:Int):1≤(vS c).length∧(vS c).length≤12:=by unfold vS;split<;>decide
theorem Q1 (c:Int) {k:Nat} (hk:k<8):1≤(qB c k).length∧(qB c k).length≤12:=by
 unfold qB
 split
 ·exact iO c
 ·exact cE c hk
def q4 (r c:Int) (k:Nat):List Nat:=if c%5=0 then qB r k else if c%5=1 then (match k with|0=>yP|k+1=>qB (c / 5*4+3) k) else qF (c / 5) k
theorem iZ (r c:Int) {k:Nat} (hk:k<8):1≤(q4 r c k).length∧(q4 r c k).length≤12:=by
 unfold q4
 split
 ·exact Q1 r hk
 split
 ·split
  ·decide
  ·exact Q1 _ (by omega)
 ·exact cE _ hk
def jF (l:List Nat):Str:=⟨l.toArray⟩
theorem qY (l:List Nat):(jF l).length=l.length:=List.size_toArray
theorem Q6 (a b:List Nat):jF a++jF b=jF (a++b):=by
 show (⟨a.toArray++b.toArray⟩:Str)=⟨(a++b).toArray⟩
 rw [List.append_toArray]
theorem lG {a b:List Nat} (h:jF a=jF b):a=b:=congrArg (fun z:Str=>z.cps.toList) h
theorem cC (l:List Nat) {j:Int} (h0:0≤j) (h1:j≤l.length):Txt.slice (jF l) none (some j)=jF (l.take j.toNat):=by
 have h:=eq_of_beq (PyProof.Rows.slice_closes_to (x:=jF l) (j:=j) ⟨h0,h1⟩)
 rw [h]
 show (⟨((l.drop (0:Int).toNat).take (j - 0).toNat).toArray⟩:Str)=_
 rw [Int.sub_zero]
 rfl
theorem gQ (l:List Nat) {i:Int} (h0:0≤i) (h1:i≤l.length):Txt.slice (jF l) (some i) none=jF (l.drop i.toNat):=by
 have h:=PyProof.Rows.slice_from_eq (x:=jF l) (i:=i) (b:=l.length) h0 (by rw [qY];exact h1) (by rw [qY])
 rw [h]
 show (⟨((l.drop i.toNat).take ((l.length:Int) - i).toNat).toArray⟩:Str)=_
 rw [List.take_of_length_le (by rw [List.length_drop];omega)]
 rfl
theorem iI (l:List Nat) {i j:Int} (h0:0≤i) (h1:i≤j) (h2:j≤l.length):Txt.slice (jF l) (some i) (some j)=jF ((l.take j.toNat).drop i.toNat):=by
 have h:=eq_of_beq (PyProof.Rows.slice_closes (x:=jF l) (i:=i) (j:=j) ⟨h0,h1,h2⟩)
 rw [h,List.drop_take]
 show (⟨((l.drop i.toNat).take (j - i).toNat).toArray⟩:Str)=⟨((l.drop i.toNat).take (j.toNat - i.toNat)).toArray⟩
 rw [show (j - i).toNat=j.toNat - i.toNat by omega]
theorem iS (n:Int):z8 (n%26).toNat=vI n:=by
 have h1:=Int.emod_nonneg n (by decide:(26:Int)≠0)
 have h2:=Int.emod_lt_of_pos n (by decide:(0:Int)<26)
 unfold vI
 generalize hz:(n%26).toNat=z
 have hz26:z<26:=by omega
 have key:∀z,z<26→z8 z=97+z:=by decide +kernel
 exact key z hz26
theorem bV (n:Int):qG lettersS.cps.toList (n%26)=some (vI n):=by
 rw [← iS]
 exact iA (Int.emod_nonneg n (by decide)) (Int.emod_lt_of_pos n (by decide))
theorem lN (c:Nat):(⟨#[c]⟩:Str)=jF [c]:=rfl
theorem lZ:("":Str)=jF []:=by decide +kernel
theorem Q8:("sea":Str)=jF yP:=by decide +kernel
theorem iJ:("seaz":Str)=jF [115,101,97,122]:=by decide +kernel
theorem lH:("seb":Str)=jF [115,101,98]:=by decide +kernel
theorem lC (c:Int) {i:Nat} (h:i<12):(kI c).take i++[vI (c / 4+c / 100*(i:Int)+(i:Int)*(i:Int))]=(kI c).take (i+1):=by
 rw [List.take_add_one]
 congr 1
 unfold kI
 rw [List.getElem?_map,List.getElem?_range h]
 rfl
def j2 (f:Nat→List Nat) (n:Nat):List V:=(List.range n).map fun k=>V.str (jF (f k))
theorem zY (f:Nat→List Nat) (n:Nat):(j2 f n).length=n:=by unfold j2;rw [List.length_map,List.length_range]
theorem QS (f:Nat→List Nat) (n:Nat):j2 f n++[V.str (jF (f n))]=j2 f (n+1):=by
 unfold j2
 rw [List.range_succ,List.map_append]
 rfl
theorem z3 (f:Nat→List Nat) {n k:Nat} (h:k<n):(j2 f n)[k]?=some (V.str (jF (f k))):=by
 unfold j2
 rw [List.getElem?_map,List.getElem?_range h]
 rfl
def Q7:Sp:=fun vs H Q _=>∃c:Int,vs=[.int c,.int 8]∧∀(l:Addr) (H':Hp),Same H H'→H l=none→H' l=some (.lst (j2 (qF c) 8))→Q (.ref l) H'
def QR:Sp:=fun vs H Q _=>∃c:Int,vs=[.int c]∧∀(l:Addr) (H':Hp),Same H H'→H l=none→H' l=some (.lst (j2 (qB c) 8))→Q (.ref l) H'
def cA:Sp:=fun vs H Q _=>∃(c r:Int) (a:Addr),vs=[.int c,.ref a]∧H a=some (.lst (j2 (qB r) 8))∧∀(l:Addr) (H':Hp),Same H H'→H' l=some (.lst (j2 (q4 r c) 8))→Q (.ref l) H'
theorem gG (f:Nat→List Nat) {n m:Nat} (h:m≤n):(j2 f n).take m=j2 f m:=by
 unfold j2
 rw [← List.map_take,List.take_range]
 rw [Nat.min_eq_left h]
theorem dS (f:Nat→List Nat):qU (j2 f 8) none (some 7)=j2 f 7:=by
 unfold qU
 rw [zY]
 show ((j2 f 8).drop 0).take 7=_
 rw [List.drop_zero,gG f (by decide)]
theorem gH (x:List Nat) (f g:Nat→List Nat) (n:Nat) (h0:g 0=x) (hs:∀k,g (k+1)=f k):V.str (jF x)::j2 f n=j2 g (n+1):=by
 unfold j2
 rw [List.range_succ_eq_map,List.map_cons,List.map_map,h0]
 congr 1
 refine List.map_congr_left fun k _=>?_
 show V.str (jF (f k))=V.str (jF (g (k+1)))
 rw [hs]
theorem Z3 {f g:Nat→List Nat} {n:Nat} (h:∀k,f k=g k):j2 f n=j2 g n:=by
 unfold j2
 refine List.map_congr_left fun k _=>?_
 rw [h]
structure RC where
 name:Str
 least:Int
 crest:Int
 berths:Int
 water:Int
 target:Int
def RC.good (r:RC) (n:Nat):Prop:=0≤r.least∧r.least≤r.crest∧r.crest≤999999999999∧1≤r.berths∧r.berths≤9∧0≤r.water∧r.water≤999999999999∧-1≤r.target∧r.target<(n:Int)
def v2 (r:RC):List V:=[.str "reach",.str r.name,.int r.least,.int r.crest,.int r.berths,.int r.water,.int r.target]
def bY:Sp:=fun vs H Q _=>∃(nm:Str) (a b c:Int) (n:Nat),vs=[.str nm,.int a,.int b,.int c,.int (n:Int)]∧∀(r:RC) (t:Addr) (H':Hp),r.name=nm→r.good n→Same H H'→H t=none→H' t=some (.tup (v2 r))→Q (.ref t) H'
theorem ZX:(10:Int) ^ Int.toNat 12=1000000000000:=by decide +kernel
theorem oG {x0 x1 x2 x3 x4 x5 n lo hi:Int} (h0:lo≤x0∧x0≤hi) (h1:lo≤x1∧x1≤hi) (h2:lo≤x2∧x2≤hi) (h3:lo≤x3∧x3≤hi) (h4:lo≤x4∧x4≤hi) (h5:lo≤x5∧x5≤hi) :
  ∃z:Int,qG [V.int x0,V.int x1,V.int x2,V.int x3,V.int x4,V.int x5] (n%6)=some (.int z)∧lo≤z∧z≤hi:=by
 have a:=Int.emod_nonneg n (by decide:(6:Int)≠0)
 have b:=Int.emod_lt_of_pos n (by decide:(0:Int)<6)
 obtain ⟨k,hk⟩:∃k:Nat,n%6=(k:Int):=⟨(n%6).toNat,by omega⟩
 rw [hk]
 have hk6:k<6:=by omega
 rcases k with _|_|_|_|_|_|k
 ·exact ⟨x0,rfl,h0⟩
 ·exact ⟨x1,rfl,h1⟩
 ·exact ⟨x2,rfl,h2⟩
 ·exact ⟨x3,rfl,h3⟩
 ·exact ⟨x4,rfl,h4⟩
 ·exact ⟨x5,rfl,h5⟩
 ·omega
theorem dX {x0 x1 x2 n lo hi:Int} (h0:lo≤x0∧x0≤hi) (h1:lo≤x1∧x1≤hi) (h2:lo≤x2∧x2≤hi) :
  ∃z:Int,qG [V.int x0,V.int x1,V.int x2] (n%3)=some (.int z)∧lo≤z∧z≤hi:=by
 have a:=Int.emod_nonneg n (by decide:(3:Int)≠0)
 have b:=Int.emod_lt_of_pos n (by decide:(0:Int)<3)
 obtain ⟨k,hk⟩:∃k:Nat,n%3=(k:Int):=⟨(n%3).toNat,by omega⟩
 rw [hk]
 have hk3:k<3:=by omega
 rcases k with _|_|_|k
 ·exact ⟨x0,rfl,h0⟩
 ·exact ⟨x1,rfl,h1⟩
 ·exact ⟨x2,rfl,h2⟩
 ·omega
structure LC where
 name:Str
 high:Int
 low:Int
 room:Int
 kd:Kd
 extra:Int
def yD:Kd→Str
 |.plain=>"plain"
 |.basin=>"basin"
 |.pump=>"pump"
def LC.good (l:LC) (n:Nat):Prop:=1≤l.high∧l.high<(n:Int)∧0≤l.low∧l.low<l.high∧1≤l.room∧l.room≤999999999999∧(l.kd=.plain→l.extra=0)∧(l.kd≠.plain→1≤l.extra∧l.extra≤l.room)
def QG (l:LC):List V:=[.str "lock",.str l.name,.int l.high,.int l.low,.int l.room,.str (yD l.kd),.int l.extra]
def cV:Sp:=fun vs H Q _=>∃(nm:Str) (a b c:Int) (n:Nat),vs=[.str nm,.int a,.int b,.int c,.int (n:Int)]∧1<n∧∀(l:LC) (t:Addr) (H':Hp),l.name=nm→l.good n→Same H H'→H t=none→H' t=some (.tup (QG l))→Q (.ref t) H'
theorem nJ (n:Int):∃kd:Kd,qG [V.str "plain",V.str "basin",V.str "pump"] (n%3)=some (.str (yD kd)):=by
 have a:=Int.emod_nonneg n (by decide:(3:Int)≠0)
 have b:=Int.emod_lt_of_pos n (by decide:(0:Int)<3)
 obtain ⟨k,hk⟩:∃k:Nat,n%3=(k:Int):=⟨(n%3).toNat,by omega⟩
 rw [hk]
 have hk3:k<3:=by omega
 rcases k with _|_|_|k
 ·exact ⟨.plain,rfl⟩
 ·exact ⟨.basin,rfl⟩
 ·exact ⟨.pump,rfl⟩
 ·omega
theorem JX (kd:Kd):V.str (yD kd)=V.str "plain"↔kd=.plain:=by
 cases kd
 ·exact ⟨fun _=>rfl,fun _=>rfl⟩
 ·exact ⟨fun h=>absurd (V.str.inj h) (by decide +kernel),fun h=>nomatch h⟩
 ·exact ⟨fun h=>absurd (V.str.inj h) (by decide +kernel),fun h=>nomatch h⟩
def TripsAt (H:Hp) (rs:List V) (ts:List (Nat×Int×Int)):Prop:=rs.length=ts.length∧∀(i:Nat) (r:V),rs[i]?=some r→∃(a:Addr) (k:Nat) (x y:Int),r=.ref a∧ts[i]?=some (k,x,y)∧H a=some (.tup [.int (k:Int),.int x,.int y])
def tripsOk (ts:List (Nat×Int×Int)) (n:Nat):Prop:=(ts.map (·.1)).Nodup∧∀q∈ts,q.1<n∧0≤q.2.1∧q.2.1≤999999999999∧0≤q.2.2∧q.2.2≤999999999999
theorem TripsAt.same {H H':Hp} {rs:List V} {ts:List (Nat×Int×Int)} (e:Same H H') (h:TripsAt H rs ts):TripsAt H' rs ts :=
 ⟨h.1,fun i r hi=>by obtain ⟨a,k,x,y,h1,h2,h3⟩:=h.2 i r hi;exact ⟨a,k,x,y,h1,h2,e _ _ h3⟩⟩
theorem TripsAt.keep {H H':Hp} {d:Addr} {ys rs:List V} {ts:List (Nat×Int×Int)} (k:Keep d H H') (hd:H d=some (.lst ys)) (h:TripsAt H rs ts):TripsAt H' rs ts :=
 ⟨h.1,fun i r hi=>by obtain ⟨a,k',x,y,h1,h2,h3⟩:=h.2 i r hi;exact ⟨a,k',x,y,h1,h2,k _ _ (fun z=>by rw [z,hd] at h3;cases h3) h3⟩⟩
theorem TripsAt.snoc {H:Hp} {rs:List V} {ts:List (Nat×Int×Int)} {a:Addr} {k:Nat} {x y:Int} (h:TripsAt H rs ts) (ha:H a=some (.tup [.int (k:Int),.int x,.int y])):TripsAt H (rs++[.ref a]) (ts++[(k,x,y)]):=by
 refine ⟨by rw [List.length_append,List.length_append,h.1];rfl,fun i r hi=>?_⟩
 by_cases hl:i<rs.length
 ·rw [List.getElem?_append_left hl] at hi
  rw [List.getElem?_append_left (by rw [← h.1];exact hl)]
  exact h.2 i r hi
 ·rw [List.getElem?_append_right (by omega)] at hi
  have e:i=rs.length:=by
   by_cases z:i - rs.length=0
   ·omega
   ·rw [List.getElem?_eq_none (by show 1≤i - rs.length;omega)] at hi;cases hi
  rw [e,Nat.sub_self] at hi
  cases hi
  refine ⟨a,k,x,y,rfl,?_,ha⟩
  rw [e,h.1,List.getElem?_append_right (Nat.le_refl _),Nat.sub_self]
  rfl
theorem TripsAt.rev {H:Hp} {rs:List V} {ts:List (Nat×Int×Int)} (h:TripsAt H rs ts):TripsAt H rs.reverse ts.reverse:=by
 refine ⟨by rw [List.length_reverse,List.length_reverse,h.1],fun i r hi=>?_⟩
 have hl:i<rs.length:=by have:=(List.getElem?_eq_some_iff.mp hi).1;rwa [List.length_reverse] at this
 rw [List.getElem?_reverse hl] at hi
 obtain ⟨a,k,x,y,h1,h2,h3⟩:=h.2 _ r hi
 exact ⟨a,k,x,y,h1,by rw [List.getElem?_reverse (by rw [← h.1];exact hl),← h.1];exact h2,h3⟩
theorem tripsOk.snoc {ts:List (Nat×Int×Int)} {k:Nat} {x y:Int} (h:tripsOk ts k) (hx:0≤x∧x≤999999999999) (hy:0≤y∧y≤999999999999):tripsOk (ts++[(k,x,y)]) (k+1):=by
 refine ⟨?_,fun q hq=>?_⟩
 ·rw [List.map_append,List.nodup_append]
  refine ⟨h.1,by simp,fun a ha b hb=>?_⟩
  obtain ⟨q,hq,rfl⟩:=List.mem_map.mp ha
  have hb:b=k:=by simpa using hb
  have:=(h.2 q hq).1
  omega
 ·rcases List.mem_append.mp hq with hq|hq
  ·obtain ⟨h1,h2⟩:=h.2 q hq;exact ⟨by omega,h2⟩
  ·cases List.mem_singleton.mp hq;exact ⟨by show k<k+1;omega,hx.1,hx.2,hy.1,hy.2⟩
theorem tripsOk.more {ts:List (Nat×Int×Int)} {k n:Nat} (h:tripsOk ts k) (hn:k≤n):tripsOk ts n:=⟨h.1,fun q hq=>by obtain ⟨h1,h2⟩:=h.2 q hq;exact ⟨by omega,h2⟩⟩
theorem tripsOk.rev {ts:List (Nat×Int×Int)} {n:Nat} (h:tripsOk ts n):tripsOk ts.reverse n:=⟨by rw [List.map_reverse];exact (List.reverse_perm _).nodup_iff.mpr h.1,fun q hq=>h.2 q (List.mem_reverse.mp hq)⟩
def bZ:Sp:=fun vs H Q _=>∃(a b c:Int) (n:Nat),vs=[.int a,.int b,.int c,.int (n:Int)]∧n≤8∧∀(ts:List (Nat×Int×Int)) (rs:List V) (t l:Addr) (H':Hp),tripsOk ts n→ts.length≤8→Same H H'→H t=none→H l=none→H' t=some (.tup [.str "night",.ref l])→H' l=some (.lst rs)→TripsAt H' rs ts→Q (.ref t) H'
theorem ZW (z:Int):0≤z%10 ^ Int.toNat 12∧z%10 ^ Int.toNat 12≤999999999999:=by
 rw [ZX]
 have h0:=Int.emod_nonneg z (by decide:(1000000000000:Int)≠0)
 have h1:=Int.emod_lt_of_pos z (by decide:(0:Int)<1000000000000)
 omega
inductive PIt where
 |reach (r:RC)
 |lock (l:LC)
 |night (ts:List (Nat×Int×Int))
def ItAt (D:List Addr) (H:Hp) (v:V):PIt→Prop
 |.reach r=>∃t,v=.ref t∧H t=some (.tup (v2 r))
 |.lock l=>∃t,v=.ref t∧H t=some (.tup (QG l))
 |.night ts=>∃(t l:Addr) (rs:List V),v=.ref t∧H t=some (.tup [.str "night",.ref l])∧H l=some (.lst rs)∧TripsAt H rs ts∧l∉D
theorem ItAt.same {D:List Addr} {H H':Hp} {v:V} {it:PIt} (e:Same H H') (h:ItAt D H v it):ItAt D H' v it:=by
 cases it with
 |reach r=>obtain ⟨t,h1,h2⟩:=h;exact ⟨t,h1,e _ _ h2⟩
 |lock l=>obtain ⟨t,h1,h2⟩:=h;exact ⟨t,h1,e _ _ h2⟩
 |night ts=>obtain ⟨t,l,rs,h1,h2,h3,h4,h5⟩:=h;exact ⟨t,l,rs,h1,e _ _ h2,e _ _ h3,h4.same e,h5⟩
theorem ItAt.keep {D:List Addr} {H H':Hp} {d:Addr} {ys:List V} {v:V} {it:PIt} (k:Keep d H H') (hd:H d=some (.lst ys)) (hD:d∈D) (h:ItAt D H v it):ItAt D H' v it:=by
 have nt:∀{t:Addr} {zs:List V},H t=some (.tup zs)→t≠d:=fun ht z=>by rw [z,hd] at ht;cases ht
 cases it with
 |reach r=>obtain ⟨t,h1,h2⟩:=h;exact ⟨t,h1,k _ _ (nt h2) h2⟩
 |lock l=>obtain ⟨t,h1,h2⟩:=h;exact ⟨t,h1,k _ _ (nt h2) h2⟩
 |night ts=>obtain ⟨t,l,rs,h1,h2,h3,h4,h5⟩:=h;exact ⟨t,l,rs,h1,k _ _ (nt h2) h2,k _ _ (fun z=>h5 (z▸hD)) h3,h4.keep k hd,h5⟩
def PlanAt (D:List Addr) (H:Hp) (vs:List V) (its:List PIt):Prop:=vs.length=its.length∧∀(i:Nat) (v:V),vs[i]?=some v→∃it,its[i]?=some it∧ItAt D H v it
theorem PlanAt.nil {D:List Addr} {H:Hp}:PlanAt D H [] []:=⟨rfl,fun i v h=>by cases h⟩
theorem PlanAt.same {D:List Addr} {H H':Hp} {vs:List V} {its:List PIt} (e:Same H H') (h:PlanAt D H vs its):PlanAt D H' vs its:=⟨h.1,fun i v hv=>by obtain ⟨it,h1,h2⟩:=h.2 i v hv;exact ⟨it,h1,h2.same e⟩⟩
theorem PlanAt.keep {D:List Addr} {H H':Hp} {d:Addr} {ys vs:List V} {its:List PIt} (k:Keep d H H') (hd:H d=some (.lst ys)) (hD:d∈D) (h:PlanAt D H vs its):PlanAt D H' vs its:=⟨h.1,fun i v hv=>by obtain ⟨it,h1,h2⟩:=h.2 i v hv;exact ⟨it,h1,h2.keep k hd hD⟩⟩
theorem PlanAt.snoc {D:List Addr} {H:Hp} {vs:List V} {its:List PIt} {v:V} {it:PIt} (h:PlanAt D H vs its) (hv:ItAt D H v it):PlanAt D H (vs++[v]) (its++[it]):=by
 refine ⟨by rw [List.length_append,List.length_append,h.1];rfl,fun i w hw=>?_⟩
 by_cases hl:i<vs.length
 ·rw [List.getElem?_append_left hl] at hw
  rw [List.getElem?_append_left (by rw [← h.1];exact hl)]
  exact h.2 i w hw
 ·rw [List.getElem?_append_right (by omega)] at hw
  have e:i=vs.length:=by
   by_cases z:i - vs.length=0
   ·omega
   ·rw [List.getElem?_eq_none (by show 1≤i - vs.length;omega)] at hw;cases hw
  rw [e,Nat.sub_self] at hw
  cases hw
  refine ⟨it,?_,hv⟩
  rw [e,h.1,List.getElem?_append_right (Nat.le_refl _),Nat.sub_self]
  rfl
inductive PlanOk (rn gn:Nat→List Nat):List PIt→Nat→Nat→Nat→Prop where
 |nil:PlanOk rn gn [] 0 0 0
 |reach {its:List PIt} {a b c:Nat} {r:RC} (h:PlanOk rn gn its a b c) (ha:a<8) (hn:r.name=jF (rn a)) (hg:r.good a):PlanOk rn gn (its++[.reach r]) (a+1) b c
 |lock {its:List PIt} {a b c:Nat} {l:LC} (h:PlanOk rn gn its a b c) (hb:b<8) (hn:l.name=jF (gn b)) (hg:l.good a):PlanOk rn gn (its++[.lock l]) a (b+1) c
 |night {its:List PIt} {a b c:Nat} {ts:List (Nat×Int×Int)} (h:PlanOk rn gn its a b c) (hc:c<6) (ht:tripsOk ts a) (hl:ts.length≤8):PlanOk rn gn (its++[.night ts]) a b (c+1)
theorem PlanOk.bounds {rn gn:Nat→List Nat} {its:List PIt} {a b c:Nat} (h:PlanOk rn gn its a b c):a≤8∧b≤8∧c≤6∧its.length=a+b+c:=by
 induction h with
 |nil=>exact ⟨by omega,by omega,by omega,rfl⟩
 |reach h ha _ _ ih=>rw [List.length_append];exact ⟨by omega,ih.2.1,ih.2.2.1,by show _+1=_;omega⟩
 |lock h hb _ _ ih=>rw [List.length_append];exact ⟨ih.1,by omega,ih.2.2.1,by show _+1=_;omega⟩
 |night h hc _ _ ih=>rw [List.length_append];exact ⟨ih.1,ih.2.1,by omega,by show _+1=_;omega⟩
def cT (K:W.Frag):Sp:=fun vs H Q _=>∃(s nl gl:Addr) (ns:List Int) (rn gn:Nat→List Nat),vs=[.ref s,.ref nl,.ref gl]∧SqL K H s (ns.map V.int)∧ns.length≤63∧H nl=some (.lst (j2 rn 8))∧H gl=some (.lst (j2 gn 8))∧
 ∀(its:List PIt) (a b c:Nat) (pl:Addr) (vs:List V) (H':Hp),PlanOk rn gn its a b c→1≤a→Same H H'→H pl=none→H' pl=some (.lst vs)→PlanAt [pl] H' vs its→Q (.ref pl) H'
theorem ItAt.less {D D':List Addr} {H:Hp} {v:V} {it:PIt} (hD:∀d∈D',d∈D) (h:ItAt D H v it):ItAt D' H v it:=by
 cases it with
 |reach r=>exact h
 |lock l=>exact h
 |night ts=>obtain ⟨t,l,rs,h1,h2,h3,h4,h5⟩:=h;exact ⟨t,l,rs,h1,h2,h3,h4,fun z=>h5 (hD _ z)⟩
theorem PlanAt.less {D D':List Addr} {H:Hp} {vs:List V} {its:List PIt} (hD:∀d∈D',d∈D) (h:PlanAt D H vs its):PlanAt D' H vs its:=⟨h.1,fun i v hv=>by obtain ⟨it,h1,h2⟩:=h.2 i v hv;exact ⟨it,h1,h2.less hD⟩⟩
theorem z7 (f:Nat→List Nat) {a:Nat} (h:a<8):qG (j2 f 8) ((a:Int)+1 - 1)=some (V.str (jF (f a))):=by
 rw [show (a:Int)+1 - 1=(a:Int) by omega]
 exact vG (z3 f h)
theorem oW (nm:Str):RC.good ⟨nm,0,7,1,9,-1⟩ 0:=⟨(by decide:(0:Int)≤0),(by decide:(0:Int)≤7),(by decide:(7:Int)≤999999999999),(by decide:(1:Int)≤1),(by decide:(1:Int)≤9),(by decide:(0:Int)≤9),(by decide:(9:Int)≤999999999999),(by decide:(-1:Int)≤-1),(by decide:(-1:Int)<((0:Nat):Int))⟩
theorem iQ (f:Nat→List Nat):qG (j2 f 8) (0:Int)=some (V.str (jF (f 0))):=vG (j:=0) (z3 f (by decide))
theorem iL {n:Nat} (h:n≤63):Builtin.Range.small 2 (n:Int) 3=true:=by
 have key:∀m:Nat,m<64→Builtin.Range.small 2 (m:Int) 3=true:=by decide +kernel
 exact key n (by omega)
def AllAt {α:Type} (P:V→α→Prop) (vs:List V) (xs:List α):Prop:=vs.length=xs.length∧∀(i:Nat) (v:V),vs[i]?=some v→∃x,xs[i]?=some x∧P v x
theorem AllAt.nil {α:Type} {P:V→α→Prop}:AllAt P [] ([]:List α):=⟨rfl,fun i v h=>by cases h⟩
theorem AllAt.mono {α:Type} {P P':V→α→Prop} {vs:List V} {xs:List α} (m:∀v x,P v x→P' v x) (h:AllAt P vs xs):AllAt P' vs xs:=⟨h.1,fun i v hv=>by obtain ⟨x,h1,h2⟩:=h.2 i v hv;exact ⟨x,h1,m v x h2⟩⟩
theorem AllAt.snoc {α:Type} {P:V→α→Prop} {vs:List V} {xs:List α} {v:V} {x:α} (h:AllAt P vs xs) (hv:P v x):AllAt P (vs++[v]) (xs++[x]):=by
 refine ⟨by rw [List.length_append,List.length_append,h.1];rfl,fun i w hw=>?_⟩
 by_cases hl:i<vs.length
 ·rw [List.getElem?_append_left hl] at hw
  rw [List.getElem?_append_left (by rw [← h.1];exact hl)]
  exact h.2 i w hw
 ·rw [List.getElem?_append_right (by omega)] at hw
  have e:i=vs.length:=by
   by_cases z:i - vs.length=0
   ·omega
   ·rw [List.getElem?_eq_none (by show 1≤i - vs.length;omega)] at hw;cases hw
  rw [e,Nat.sub_self] at hw
  cases hw
  refine ⟨x,?_,hv⟩
  rw [e,h.1,List.getElem?_append_right (Nat.le_refl _),Nat.sub_self]
  rfl
theorem AllAt.put {α:Type} {P:V→α→Prop} {vs:List V} {xs:List α} {v:V} {x:α} (h:AllAt P vs xs) (k:Nat) (hv:P v x):AllAt P (vs.set k v) (xs.set k x):=by
 refine ⟨by rw [List.length_set,List.length_set,h.1],fun i w hw=>?_⟩
 rw [List.getElem?_set] at hw ⊢
 by_cases e:k=i
 ·rw [if_pos e] at hw ⊢
  rw [← h.1]
  split at hw
  ·cases hw
   rename_i hl
   exact ⟨x,if_pos hl,hv⟩
  ·cases hw
 ·rw [if_neg e] at hw ⊢
  exact h.2 i w hw
theorem AllAt.get {α:Type} {P:V→α→Prop} {vs:List V} {xs:List α} (h:AllAt P vs xs) {i:Nat} {x:α} (hx:xs[i]?=some x):∃v,vs[i]?=some v∧P v x:=by
 have hi:i<vs.length:=by rw [h.1];exact (List.getElem?_eq_some_iff.mp hx).1
 obtain ⟨y,h1,h2⟩:=h.2 i _ (List.getElem?_eq_getElem hi)
 rw [hx] at h1
 cases h1
 exact ⟨_,List.getElem?_eq_getElem hi,h2⟩
def RAt (H:Hp) (v:V) (r:RC):Prop:=∃t,v=.ref t∧H t=some (.tup (v2 r))
def LAt (H:Hp) (v:V) (l:LC):Prop:=∃t,v=.ref t∧H t=some (.tup (QG l))
def QAt (H:Hp) (v:V) (p:Int×Int):Prop:=∃t,v=.ref t∧H t=some (.tup [.int p.1,.int p.2])
def NAt (D:List Addr) (H:Hp) (v:V) (ps:List (Int×Int)):Prop:=∃(l:Addr) (qs:List V),v=.ref l∧H l=some (.lst qs)∧AllAt (QAt H) qs ps∧l∉D
theorem RAt.same {H H':Hp} (e:Same H H') (v:V) (r:RC):RAt H v r→RAt H' v r:=fun ⟨t,h1,h2⟩=>⟨t,h1,e _ _ h2⟩
theorem LAt.same {H H':Hp} (e:Same H H') (v:V) (r:LC):LAt H v r→LAt H' v r:=fun ⟨t,h1,h2⟩=>⟨t,h1,e _ _ h2⟩
theorem QAt.same {H H':Hp} (e:Same H H') (v:V) (r:Int×Int):QAt H v r→QAt H' v r:=fun ⟨t,h1,h2⟩=>⟨t,h1,e _ _ h2⟩
theorem QAt.put {H:Hp} {d:Addr} {ys:List V} {o:HO} (hd:H d=some (.lst ys)) (v:V) (r:Int×Int):QAt H v r→QAt (upd H d o) v r:=fun ⟨t,h1,h2⟩=>⟨t,h1,by rw [jO (fun z=>by rw [z,hd] at h2;cases h2)];exact h2⟩
theorem NAt.same {D:List Addr} {H H':Hp} (e:Same H H') (v:V) (r:List (Int×Int)):NAt D H v r→NAt D H' v r:=fun ⟨l,qs,h1,h2,h3,h4⟩=>⟨l,qs,h1,e _ _ h2,h3.mono (QAt.same e),h4⟩
theorem NAt.put {D:List Addr} {H:Hp} {d:Addr} {ys:List V} {o:HO} (hd:H d=some (.lst ys)) (hD:d∈D) (v:V) (r:List (Int×Int)):NAt D H v r→NAt D (upd H d o) v r:=fun ⟨l,qs,h1,h2,h3,h4⟩=>⟨l,qs,h1,by rw [jO (fun z=>h4 (by rw [z];exact hD))];exact h2,h3.mono (QAt.put hd),h4⟩
theorem NAt.less {D D':List Addr} {H:Hp} (hD:∀d∈D',d∈D) (v:V) (r:List (Int×Int)):NAt D H v r→NAt D' H v r:=fun ⟨l,qs,h1,h2,h3,h4⟩=>⟨l,qs,h1,h2,h3,fun z=>h4 (hD _ z)⟩
def yR:PIt→Option RC
 |.reach r=>some r
 |_=>none
def yT:PIt→Option LC
 |.lock l=>some l
 |_=>none
def vA (n:Nat) (ts:List (Nat×Int×Int)):List (Int×Int):=ts.foldl (fun ps q=>ps.set q.1 (q.2.1,q.2.2)) (List.replicate n (0,0))
theorem Z8 (n:Nat) (ts:List (Nat×Int×Int)):(vA n ts).length=n:=by
 unfold vA
 have key:∀(ts:List (Nat×Int×Int)) (ps:List (Int×Int)),(ts.foldl (fun ps q=>ps.set q.1 (q.2.1,q.2.2)) ps).length=ps.length:=by
  intro ts
  induction ts with
  |nil=>intro ps;rfl
  |cons q r ih=>intro ps;rw [List.foldl_cons,ih,List.length_set]
 rw [key,List.length_replicate]
theorem gF (n:Nat) (ts:List (Nat×Int×Int)) {j:Nat} {q:Nat×Int×Int} (h:ts[j]?=some q):vA n (ts.take (j+1))=(vA n (ts.take j)).set q.1 (q.2.1,q.2.2):=by
 unfold vA
 rw [List.take_add_one,h,List.foldl_append]
 rfl
def vK (n:Nat):PIt→Option (List (Int×Int))
 |.night ts=>some (vA n ts)
 |_=>none
theorem vQ {α:Type} (f:PIt→Option α) (its:List PIt) {i:Nat} {it:PIt} (h:its[i]?=some it):(its.take (i+1)).filterMap f=(its.take i).filterMap f++(f it).toList:=by
 rw [List.take_add_one,h,List.filterMap_append]
 cases e:f it with
 |none=>simp [e]
 |some x=>simp [e]
def kC (its:List PIt):List RC:=its.filterMap yR
def kG (its:List PIt):List LC:=its.filterMap yT
def v9 (its:List PIt):List (List (Int×Int)):=its.filterMap (vK (kC its).length)
theorem d5:¬("lock":Str)="reach":=by decide +kernel
theorem d4:¬("night":Str)="reach":=by decide +kernel
theorem o4:¬("reach":Str)="lock":=by decide +kernel
theorem d6:¬("night":Str)="lock":=by decide +kernel
theorem o0:¬("reach":Str)="night":=by decide +kernel
theorem o3:¬("lock":Str)="night":=by decide +kernel
theorem z6 {rn gn:Nat→List Nat} {its:List PIt} {a b c:Nat} (h:PlanOk rn gn its a b c):(kC its).length=a∧(kG its).length=b∧∀ts,.night ts∈its→tripsOk ts a∧ts.length≤8:=by
 induction h with
 |nil=>exact ⟨rfl,rfl,fun ts h=>by cases h⟩
 |reach h ha hn hg ih =>
  refine ⟨by unfold kC;rw [List.filterMap_append,List.length_append];show (kC _).length+1=_;rw [ih.1],by unfold kG;rw [List.filterMap_append,List.length_append];show (kG _).length+0=_;rw [ih.2.1];rfl,fun ts hts=>?_⟩
  rcases List.mem_append.mp hts with hts|hts
  ·obtain ⟨h1,h2⟩:=ih.2.2 ts hts;exact ⟨h1.more (by omega),h2⟩
  ·cases List.mem_singleton.mp hts
 |lock h hb hn hg ih =>
  refine ⟨by unfold kC;rw [List.filterMap_append,List.length_append];show (kC _).length+0=_;rw [ih.1];rfl,by unfold kG;rw [List.filterMap_append,List.length_append];show (kG _).length+1=_;rw [ih.2.1],fun ts hts=>?_⟩
  rcases List.mem_append.mp hts with hts|hts
  ·exact ih.2.2 ts hts
  ·cases List.mem_singleton.mp hts
 |night h hc ht hl ih =>
  refine ⟨by unfold kC;rw [List.filterMap_append,List.length_append];show (kC _).length+0=_;rw [ih.1];rfl,by unfold kG;rw [List.filterMap_append,List.length_append];show (kG _).length+0=_;rw [ih.2.1];rfl,fun ts hts=>?_⟩
  rcases List.mem_append.mp hts with hts|hts
  ·exact ih.2.2 ts hts
  ·cases List.mem_singleton.mp hts;exact ⟨ht,hl⟩
def dN:Sp:=fun vs H Q _=>∃(pl:Addr) (us:List V) (its:List PIt) (rn gn:Nat→List Nat) (a b c:Nat),vs=[.ref pl]∧H pl=some (.lst us)∧PlanAt [pl] H us its∧PlanOk rn gn its a b c∧
 ∀(t rl ll nl:Addr) (rs ls ns:List V) (H':Hp),Same H H'→H' t=some (.tup [.ref rl,.ref ll,.ref nl])→H' rl=some (.lst rs)→H' ll=some (.lst ls)→H' nl=some (.lst ns)→AllAt (RAt H') rs (kC its)→AllAt (LAt H') ls (kG its)→AllAt (NAt [rl,ll,nl] H') ns (v9 its)→Q (.ref t) H'
def cW (cs:Kd→Addr):Sp:=fun vs H Q _=>∃(t:Addr) (l:LC),vs=[.ref t]∧H t=some (.tup (QG l))∧∀(x:Addr) (H':Hp),Same H H'→H x=none→LockAt cs H' x l.kd (.str l.name) (.int l.high) (.int l.low) l.room l.extra→Q (.ref x) H'
theorem eH:¬("plain":Str)="basin":=by decide +kernel
theorem eG:¬("plain":Str)="pump":=by decide +kernel
theorem pN:¬("pump":Str)="basin":=by decide +kernel
theorem vW {f:Str} {v:V} {fs:List (Str×V)}:(jJ f v fs).lookup f=some v:=by rw [kP,if_pos rfl]
theorem kN {f g:Str} {v:V} {fs:List (Str×V)} (h:¬g=f):(jJ f v fs).lookup g=fs.lookup g:=by rw [kP,if_neg h]
def ZA (fs:List (Str×V)) (v_name v_least v_crest v_berths v_water v_target:V):Prop:=fs.lookup ("name":Str)=some v_name∧fs.lookup ("least":Str)=some v_least∧fs.lookup ("crest":Str)=some v_crest∧fs.lookup ("berths":Str)=some v_berths∧fs.lookup ("water":Str)=some v_water∧fs.lookup ("target":Str)=some v_target
theorem iC (v_name v_least v_crest v_berths v_water v_target:V):ZA (jJ "target" v_target (jJ "water" v_water (jJ "berths" v_berths (jJ "crest" v_crest (jJ "least" v_least (jJ "name" v_name [])))))) v_name v_least v_crest v_berths v_water v_target:=by
 refine ⟨?_,?_,?_,?_,?_,?_⟩
 ·rw [kN (f:="target") (g:="name") (by decide +kernel),kN (f:="water") (g:="name") (by decide +kernel),kN (f:="berths") (g:="name") (by decide +kernel),kN (f:="crest") (g:="name") (by decide +kernel),kN (f:="least") (g:="name") (by decide +kernel),vW]
 ·rw [kN (f:="target") (g:="least") (by decide +kernel),kN (f:="water") (g:="least") (by decide +kernel),kN (f:="berths") (g:="least") (by decide +kernel),kN (f:="crest") (g:="least") (by decide +kernel),vW]
 ·rw [kN (f:="target") (g:="crest") (by decide +kernel),kN (f:="water") (g:="crest") (by decide +kernel),kN (f:="berths") (g:="crest") (by decide +kernel),vW]
 ·rw [kN (f:="target") (g:="berths") (by decide +kernel),kN (f:="water") (g:="berths") (by decide +kernel),vW]
 ·rw [kN (f:="target") (g:="water") (by decide +kernel),vW]
 ·rw [vW]
def QU (c:Addr):Sp:=fun vs H Q _=>∃(x dx:Addr) (v_name v_least v_crest v_berths v_water v_target:V),vs=[.ref x,v_name,v_least,v_crest,v_berths,v_water,v_target]∧H x=some (.ins c dx [])∧∀(H':Hp) (fs:List (Str×V)),Keep x H H'→H' x=some (.ins c dx fs)→ZA fs v_name v_least v_crest v_berths v_water v_target→Q .non H'
def RcAt (cR:Addr) (H:Hp) (x:Addr) (r:RC):Prop:=∃(dx:Addr) (fs:List (Str×V)),H x=some (.ins cR dx fs)∧ZA fs (.str r.name) (.int r.least) (.int r.crest) (.int r.berths) (.int r.water) (.int r.target)
theorem RcAt.same {cR:Addr} {H H':Hp} {x:Addr} {r:RC} (e:Same H H') (h:RcAt cR H x r):RcAt cR H' x r:=by
 obtain ⟨dx,fs,h1,h2⟩:=h
 exact ⟨dx,fs,e _ _ h1,h2⟩
theorem gD {X:Cx} (K:W.Frag) (h:X.K=K:=by rfl):v0 X (.type "list") (fun xs H Q=>∃p ys,xs=[.ref p]∧(SqL K H p ys∨SqT K H p ys)∧∀l,H l=none→Q (.ref l) (upd H l (.lst ys))):=by subst h;exact QT
def cL (fs:List (Str×V)) (r l n:V):Prop:=fs.lookup ("reaches":Str)=some r∧fs.lookup ("locks":Str)=some l∧fs.lookup ("nights":Str)=some n∧∀m:Str,¬m="reaches"→¬m="locks"→¬m="nights"→fs.lookup m=none
theorem iD (r l n:V):cL (jJ "nights" n (jJ "locks" l (jJ "reaches" r []))) r l n:=by
 refine ⟨?_,?_,?_,fun m h1 h2 h3=>?_⟩
 ·rw [kN (f:="nights") (g:="reaches") (by decide +kernel),kN (f:="locks") (g:="reaches") (by decide +kernel),vW]
 ·rw [kN (f:="nights") (g:="locks") (by decide +kernel),vW]
 ·rw [vW]
 ·rw [kN h3,kN h2,kN h1];rfl
def RcO (cR:Addr) (H:Hp) (v:V) (r:RC):Prop:=∃x,v=.ref x∧RcAt cR H x r
def LkO (cs:Kd→Addr) (H:Hp) (v:V) (l:LC):Prop:=∃x,v=.ref x∧LockAt cs H x l.kd (.str l.name) (.int l.high) (.int l.low) l.room l.extra
theorem RcO.same {cR:Addr} {H H':Hp} (e:Same H H') (v:V) (r:RC):RcO cR H v r→RcO cR H' v r:=fun ⟨x,h1,h2⟩=>⟨x,h1,h2.same e⟩
theorem LkO.same {cs:Kd→Addr} {H H':Hp} (e:Same H H') (v:V) (l:LC):LkO cs H v l→LkO cs H' v l:=fun ⟨x,h1,h2⟩=>⟨x,h1,h2.same e⟩
theorem RcO.keep {cR y:Addr} {ys:List V} {H H':Hp} (k:Keep y H H') (hy:H y=some (.lst ys)) (v:V) (r:RC):RcO cR H v r→RcO cR H' v r:=fun ⟨x,h1,dx,fs,h2,h3⟩=>⟨x,h1,dx,fs,k _ _ (zR h2 hy (fun z=>nomatch z)) h2,h3⟩
theorem LkO.keep {cs:Kd→Addr} {y:Addr} {ys:List V} {H H':Hp} (k:Keep y H H') (hy:H y=some (.lst ys)) (v:V) (l:LC):LkO cs H v l→LkO cs H' v l:=fun ⟨x,h1,dx,h2⟩=>⟨x,h1,dx,k _ _ (zR h2 hy (fun z=>nomatch z)) h2⟩
theorem RcO.keepI {cR y c d:Addr} {H H':Hp} (k:Keep y H H') (hy:H y=some (.ins c d [])) (v:V) (r:RC):RcO cR H v r→RcO cR H' v r:=fun ⟨x,h1,dx,fs,h2,h3⟩=>⟨x,h1,dx,fs,k _ _ (fun z=>by rw [z,hy] at h2;cases h2;cases h3.1) h2,h3⟩
theorem LkO.keepI {cs:Kd→Addr} {y c d:Addr} {H H':Hp} (k:Keep y H H') (hy:H y=some (.ins c d [])) (v:V) (l:LC):LkO cs H v l→LkO cs H' v l:=fun ⟨x,h1,dx,h2⟩=>⟨x,h1,dx,k _ _ (fun z=>by
 rw [z,hy] at h2
 have e:=dD l.kd (.str l.name) (.int l.high) (.int l.low) (.int l.room) (.int l.extra)
 injection h2 with h2;injection h2 with h2 h3 h4
 rw [← h4] at e;cases e) h2⟩
theorem QAt.keep {y:Addr} {H H':Hp} (k:Keep y H H') {o:HO} (hy:H y=some o) (ho:∀xs,o≠.tup xs) (v:V) (p:Int×Int):QAt H v p→QAt H' v p:=fun ⟨t,h1,h2⟩=>⟨t,h1,k _ _ (fun z=>by rw [z,hy] at h2;exact ho _ (Option.some.inj h2)) h2⟩
def CnAt (cs:Kd→Addr) (cR cN:Addr) (D:List Addr) (H:Hp) (x:Addr) (R:List RC) (L:List LC) (N:List (List (Int×Int))):Prop:=∃(dx rl ll nl:Addr) (fs:List (Str×V)) (rs ls ns:List V),H x=some (.ins cN dx fs)∧cL fs (.ref rl) (.ref ll) (.ref nl)∧H rl=some (.lst rs)∧H ll=some (.lst ls)∧H nl=some (.lst ns)∧AllAt (RcO cR H) rs R∧AllAt (LkO cs H) ls L∧AllAt (NAt D H) ns N∧rl∉D∧ll∉D∧nl∉D
theorem CnAt.same {cs:Kd→Addr} {cR cN:Addr} {D:List Addr} {H H':Hp} {x:Addr} {R:List RC} {L:List LC} {N:List (List (Int×Int))} (e:Same H H') (h:CnAt cs cR cN D H x R L N):CnAt cs cR cN D H' x R L N:=by
 obtain ⟨dx,rl,ll,nl,fs,rs,ls,ns,h1,h2,h3,h4,h5,h6,h7,h8,h9⟩:=h
 exact ⟨dx,rl,ll,nl,fs,rs,ls,ns,e _ _ h1,h2,e _ _ h3,e _ _ h4,e _ _ h5,h6.mono (RcO.same e),h7.mono (LkO.same e),h8.mono (NAt.same e),h9⟩
def DueAt (D:List Addr) (H:Hp) (t:Addr) (R:List RC) (L:List LC) (N:List (List (Int×Int))):Prop:=∃(rl ll nl:Addr) (rs ls ns:List V),H t=some (.tup [.ref rl,.ref ll,.ref nl])∧H rl=some (.lst rs)∧H ll=some (.lst ls)∧H nl=some (.lst ns)∧AllAt (RAt H) rs R∧AllAt (LAt H) ls L∧AllAt (NAt D H) ns N∧rl∉D∧ll∉D∧nl∉D
theorem DueAt.same {D:List Addr} {H H':Hp} {t:Addr} {R:List RC} {L:List LC} {N:List (List (Int×Int))} (e:Same H H') (h:DueAt D H t R L N):DueAt D H' t R L N:=by
 obtain ⟨rl,ll,nl,rs,ls,ns,h1,h3,h4,h5,h6,h7,h8,h9⟩:=h
 exact ⟨rl,ll,nl,rs,ls,ns,e _ _ h1,e _ _ h3,e _ _ h4,e _ _ h5,h6.mono (RAt.same e),h7.mono (LAt.same e),h8.mono (NAt.same e),h9⟩
def oZ (H:Hp) (nv:V) (N:List (List (Int×Int))):Prop:=(nv=.non∧N=[])∨∃(nl:Addr) (ns:List V),nv=.ref nl∧H nl=some (.lst ns)∧AllAt (NAt [] H) ns N∧ns.length≤100
def QV (cs:Kd→Addr) (cR cN:Addr):Sp:=fun vs H Q _=>∃(x dx rl ll:Addr) (nv:V) (rs ls:List V) (R:List RC) (L:List LC) (N:List (List (Int×Int))),vs=[.ref x,.ref rl,.ref ll,nv]∧H x=some (.ins cN dx [])∧H rl=some (.lst rs)∧H ll=some (.lst ls)∧AllAt (RcO cR H) rs R∧AllAt (LkO cs H) ls L∧oZ H nv N∧
 ∀H',Keep x H H'→(∀D:List Addr,(∀d∈D,H d≠none)→CnAt cs cR cN D H' x R L N)→Q .non H'
theorem bF {rn gn:Nat→List Nat} {its:List PIt} {a b c:Nat} (h:PlanOk rn gn its a b c):(∀i r,(kC its)[i]?=some r→r.good i∧r.name=jF (rn i)∧i<a)∧(∀i l,(kG its)[i]?=some l→l.good a∧l.name=jF (gn i)∧i<b):=by
 induction h with
 |nil=>exact ⟨fun i r h=>(by cases h),fun i r h=>(by cases h)⟩
 |@reach its a b c r0 h ha hn hg ih =>
  have e1:kC (its++[.reach r0])=kC its++[r0]:=by unfold kC;rw [List.filterMap_append];rfl
  have e2:kG (its++[.reach r0])=kG its:=by unfold kG;rw [List.filterMap_append];exact List.append_nil _
  obtain ⟨t1,t2,_⟩:=z6 h
  rw [e1,e2]
  refine ⟨fun i r hr=>?_,fun i l hl=>?_⟩
  ·by_cases hi:i<(kC its).length
   ·rw [List.getElem?_append_left hi] at hr
    obtain ⟨h1,h2,h3⟩:=ih.1 i r hr
    exact ⟨h1,h2,by omega⟩
   ·rw [List.getElem?_append_right (by omega)] at hr
    have hz:i - (kC its).length=0:=by
     have:=(List.getElem?_eq_some_iff.mp hr).1
     rw [List.length_singleton] at this
     omega
    rw [hz] at hr
    cases hr
    have e:i=a:=by omega
    rw [e]
    exact ⟨hg,hn,by omega⟩
  ·obtain ⟨⟨g1,g2,g3,g4,g5,g6,g7,g8⟩,h2,h3⟩:=ih.2 i l hl
   exact ⟨⟨g1,by omega,g3,g4,g5,g6,g7,g8⟩,h2,h3⟩
 |@lock its a b c l0 h hb hn hg ih =>
  have e1:kC (its++[.lock l0])=kC its:=by unfold kC;rw [List.filterMap_append];exact List.append_nil _
  have e2:kG (its++[.lock l0])=kG its++[l0]:=by unfold kG;rw [List.filterMap_append];rfl
  obtain ⟨t1,t2,_⟩:=z6 h
  rw [e1,e2]
  refine ⟨ih.1,fun i l hl=>?_⟩
  by_cases hi:i<(kG its).length
  ·rw [List.getElem?_append_left hi] at hl
   obtain ⟨h1,h2,h3⟩:=ih.2 i l hl
   exact ⟨h1,h2,by omega⟩
  ·rw [List.getElem?_append_right (by omega)] at hl
   have hz:i - (kG its).length=0:=by
    have:=(List.getElem?_eq_some_iff.mp hl).1
    rw [List.length_singleton] at this
    omega
   rw [hz] at hl
   cases hl
   have e:i=b:=by omega
   rw [e]
   exact ⟨hg,hn,by omega⟩
 |@night its a b c ts h hc ht hl ih =>
  have e1:kC (its++[.night ts])=kC its:=by unfold kC;rw [List.filterMap_append];exact List.append_nil _
  have e2:kG (its++[.night ts])=kG its:=by unfold kG;rw [List.filterMap_append];exact List.append_nil _
  rw [e1,e2]
  exact ih
theorem gT {rn gn:Nat→List Nat} {its:List PIt} {a b c:Nat} (h:PlanOk rn gn its a b c) (n:Nat):(its.filterMap (vK n)).length=c:=by
 induction h with
 |nil=>rfl
 |reach h ha hn hg ih=>rw [List.filterMap_append,List.length_append,ih];rfl
 |lock h hb hn hg ih=>rw [List.filterMap_append,List.length_append,ih];rfl
 |night h hc ht hl ih=>rw [List.filterMap_append,List.length_append,ih];rfl
structure Drawn (R:List RC) (L:List LC) (N:List (List (Int×Int))):Prop where
 r8:R.length≤8
 r1:1≤R.length
 l8:L.length≤8
 n6:N.length≤6
 good:∀(i:Nat) (r:RC),R[i]?=some r→r.good i
 lock:∀(i:Nat) (l:LC),L[i]?=some l→l.good R.length
 night:∀p∈N,p.length=R.length
theorem bG {rn gn:Nat→List Nat} {its:List PIt} {a b c:Nat} (h:PlanOk rn gn its a b c) (ha:1≤a):Drawn (kC its) (kG its) (v9 its):=by
 obtain ⟨t1,t2,t3⟩:=z6 h
 obtain ⟨b1,b2,b3,_⟩:=h.bounds
 obtain ⟨f1,f2⟩:=bF h
 refine ⟨by omega,by omega,by omega,by unfold v9;rw [gT h];exact b3,fun i r hr=>(f1 i r hr).1,fun i l hl=>by rw [t1];exact (f2 i l hl).1,fun p hp=>?_⟩
 unfold v9 at hp
 obtain ⟨it,hit,e⟩:=List.mem_filterMap.mp hp
 cases it with
 |reach r=>cases e
 |lock l=>cases e
 |night ts=>cases e;rw [Z8]
theorem mT {H:Hp} {x dx:Addr} {o o':HO} (nx:H x=none) (ndx:H dx=none):Same H (upd (upd H dx o) x o'):=fun b u e=>by rw [jO (jY e nx),jO (jY e ndx)];exact e
theorem lP {H H1 H2:Hp} {x:Addr} (nx:H x=none) (u:Same H H1) (k:Keep x H1 H2):Same H H2:=fun b o e=>k b o (jY e nx) (u b o e)
def dM (cs:Kd→Addr) (cR cN:Addr):Sp:=fun vs H Q _=>∃(t:Addr) (R:List RC) (L:List LC) (N:List (List (Int×Int))),vs=[.ref t]∧DueAt [] H t R L N∧R.length≤100∧L.length≤100∧N.length≤100∧∀(x:Addr) (H':Hp),Same H H'→H x=none→CnAt cs cR cN [] H' x R L N→Q (.ref x) H'
def jU (n:Int):Str:=Str.ofString (toString n)
theorem kT {n:Int} (h0:0≤n) (h1:n≤9999999999999):n.natAbs.log2<1920∧(jU n).length≤14:=by
 have hn:n.natAbs<10 ^ 13:=by
  have:((10 ^ 13:Nat):Int)=10000000000000:=by decide +kernel
  omega
 refine ⟨?_,?_⟩
 ·by_cases hz:n.natAbs=0
  ·rw [hz];decide +kernel
  ·exact (Nat.log2_lt hz).2 (Nat.lt_of_lt_of_le hn (by decide +kernel))
 ·unfold jU
  rw [PySem.ofString_length]
  exact PySem.int_text_length_le10 (k:=13) (by decide) hn
def q8 (rn:Nat→List Nat) (z:Int):Str:=if 0≤z then jF (rn z.toNat) else "sea"
def zU:Kd→Int→List Str
 |.plain,_=>[]
 |.basin,x=>["basin",jU x]
 |.pump,x=>["pump",jU x]
theorem cH {kd:Kd} (h:kd≠.plain) (x:Int):zU kd x=[yD kd,jU x]:=by
 cases kd
 ·exact absurd rfl h
 ·rfl
 ·rfl
def jX (rn:Nat→List Nat):PIt→List Str
 |.reach r=>["reach",r.name,jU r.least,jU r.crest,jU r.berths,jU r.water,q8 rn r.target]
 |.lock l=>(["lock",l.name,jF (rn l.high.toNat),jF (rn l.low.toNat),jU l.room]:List Str)++zU l.kd l.extra
 |.night ts=>"night"::ts.flatMap fun q=>[jF (rn q.1),jU q.2.1,jU q.2.2]
theorem Q0 (rn:Nat→List Nat) (l:LC):jX rn (.lock l)=(["lock",l.name,jF (rn l.high.toNat),jF (rn l.low.toNat),jU l.room]:List Str)++zU l.kd l.extra:=rfl
def vJ (it:PIt) (n:Nat):Prop:=n≤8∧match it with
 |.reach r=>r.good n∧r.name.length≤12
 |.lock l=>l.good n∧l.name.length≤12
 |.night ts=>tripsOk ts n∧ts.length≤8
def blankS:Str:=⟨#[32]⟩
theorem J4:(" ":Str)=blankS:=by decide +kernel
def j7 (rn:Nat→List Nat) (it:PIt):Str:=Str.join blankS (jX rn it)
def dL:Sp:=fun vs H Q _=>∃(t nl:Addr) (it:PIt) (rn:Nat→List Nat) (n:Nat),vs=[.ref t,.ref nl]∧ItAt [] H (.ref t) it∧H nl=some (.lst (j2 rn 8))∧(∀k,k<8→(rn k).length≤12)∧vJ it n∧∀H',Same H H'→Q (.str (j7 rn it)) H'
theorem Q2 (f:Nat→List Nat) {z:Int} (h0:0≤z) (h:z<8):qG (j2 f 8) z=some (V.str (jF (f z.toNat))):=by
 have e:((z.toNat:Nat):Int)=z:=by omega
 have:=vG (z3 f (show z.toNat<8 by omega))
 rwa [e] at this
theorem JA {B:Nat}:∀(zs:List Str),(∀z∈zs,z.length≤B)→yN zs≤zs.length*B
 |[],_=>Nat.zero_le _
 |z::r,h=>by
  have h1:=JA r (fun y hy=>h y (List.mem_cons_of_mem _ hy))
  have h2:=h z List.mem_cons_self
  show z.length+yN r≤(r.length+1)*B
  rw [Nat.add_mul]
  omega
theorem mY:("sea":Str).length=3:=by decide +kernel
theorem iT:("reach":Str).length=5:=by decide +kernel
theorem lR:("lock":Str).length=4:=by decide +kernel
theorem iU:("night":Str).length=5:=by decide +kernel
theorem mZ (kd:Kd):(yD kd).length≤14:=by cases kd<;>decide +kernel
theorem mE {rn:Nat→List Nat} (hrn:∀k,k<8→(rn k).length≤12) {z:Int} (h:z<8):(q8 rn z).length≤14:=by
 unfold q8
 split
 ·rw [qY];have:=hrn z.toNat (by omega);omega
 ·rw [mY];omega
theorem JZ {rn:Nat→List Nat} (hrn:∀k,k<8→(rn k).length≤12) {it:PIt} {n:Nat} (h:vJ it n):(jX rn it).length≤25∧∀z∈jX rn it,z.length≤14:=by
 obtain ⟨hn,h⟩:=h
 cases it with
 |reach r =>
  obtain ⟨⟨g1,g2,g3,g4,g5,g6,g7,g8,g9⟩,hl⟩:=h
  refine ⟨by show 7≤25;decide,?_⟩
  intro z hz
  simp only [jX,List.mem_cons,List.mem_nil_iff,or_false] at hz
  rcases hz with rfl|rfl|rfl|rfl|rfl|rfl|rfl
  ·rw [iT];decide
  ·omega
  ·exact (kT (by omega) (by omega)).2
  ·exact (kT (by omega) (by omega)).2
  ·exact (kT (by omega) (by omega)).2
  ·exact (kT (by omega) (by omega)).2
  ·exact mE hrn (by omega)
 |lock l =>
  obtain ⟨⟨g1,g2,g3,g4,g5,g6,g7,g8⟩,hl⟩:=h
  have hx:(0:Int)≤l.extra∧l.extra≤999999999999:=by
   by_cases hk:l.kd=.plain
   ·rw [g7 hk];omega
   ·have:=g8 hk;omega
  refine ⟨by unfold jX;rw [List.length_append];cases l.kd;(show 5+0≤25;decide);(show 5+2≤25;decide);(show 5+2≤25;decide),?_⟩
  intro z hz
  unfold jX at hz
  rcases List.mem_append.mp hz with hz|hz
  ·simp only [List.mem_cons,List.mem_nil_iff,or_false] at hz
   rcases hz with rfl|rfl|rfl|rfl|rfl
   ·rw [lR];decide
   ·omega
   ·rw [qY];have:=hrn l.high.toNat (by omega);omega
   ·rw [qY];have:=hrn l.low.toNat (by omega);omega
   ·exact (kT (by omega) (by omega)).2
  ·by_cases hk:l.kd=.plain
   ·rw [hk] at hz;cases hz
   ·rw [cH hk] at hz
    simp only [List.mem_cons,List.mem_nil_iff,or_false] at hz
    rcases hz with rfl|rfl
    ·exact mZ _
    ·exact (kT (by omega) (by omega)).2
 |night ts =>
  obtain ⟨⟨_,h2⟩,hl⟩:=h
  have hf:∀ts:List (Nat×Int×Int),(ts.flatMap fun q=>[jF (rn q.1),jU q.2.1,jU q.2.2]).length=3*ts.length:=by
   intro ts
   induction ts with
   |nil=>rfl
   |cons q r ih=>rw [List.flatMap_cons,List.length_append,ih];show 3+3*r.length=3*(r.length+1);omega
  refine ⟨by show (ts.flatMap _).length+1≤25;rw [hf];omega,?_⟩
  intro z hz
  rcases List.mem_cons.mp hz with rfl|hz
  ·rw [iU];decide
  ·obtain ⟨q,hq,hz⟩:=List.mem_flatMap.mp hz
   obtain ⟨k1,k2,k3,k4,k5⟩:=h2 q hq
   simp only [List.mem_cons,List.mem_nil_iff,or_false] at hz
   rcases hz with rfl|rfl|rfl
   ·rw [qY];have:=hrn q.1 (by omega);omega
   ·exact (kT (by omega) (by omega)).2
   ·exact (kT (by omega) (by omega)).2
theorem JT {rn:Nat→List Nat} (hrn:∀k,k<8→(rn k).length≤12) {it:PIt} {n:Nat} (h:vJ it n):yN (jX rn it)+(jX rn it).length≤1048576:=by
 obtain ⟨h1,h2⟩:=JZ hrn h
 have h3:=JA (jX rn it) h2
 have h4:(jX rn it).length*14≤25*14:=Nat.mul_le_mul_right _ h1
 omega
theorem lA (rn:Nat→List Nat) (ts:List (Nat×Int×Int)) {j:Nat} {q:Nat×Int×Int} (h:ts[j]?=some q):jX rn (.night (ts.take (j+1)))=jX rn (.night (ts.take j))++[jF (rn q.1),jU q.2.1,jU q.2.2]:=by
 rw [List.take_add_one,h]
 show ("night":Str)::(ts.take j++[q]).flatMap (fun q=>([jF (rn q.1),jU q.2.1,jU q.2.2]:List Str))=(("night":Str)::(ts.take j).flatMap (fun q=>([jF (rn q.1),jU q.2.1,jU q.2.2]:List Str)))++[jF (rn q.1),jU q.2.1,jU q.2.2]
 rw [List.flatMap_append,List.cons_append]
 rfl
def feedS:Str:=⟨#[10]⟩
theorem m9:("\n":Str)=feedS:=by decide +kernel
theorem ZI {rn:Nat→List Nat} (hrn:∀k,k<8→(rn k).length≤12) {it:PIt} {n:Nat} (h:vJ it n):(j7 rn it).length≤400:=by
 obtain ⟨h1,h2⟩:=JZ hrn h
 have h3:=JA (jX rn it) h2
 have h4:(jX rn it).length*14≤25*14:=Nat.mul_le_mul_right _ h1
 have h5:=StrLaws.join_length_le blankS (jX rn it)
 have h6:(jX rn it).length*blankS.length≤25*1:=Nat.mul_le_mul h1 (Nat.le_refl 1)
 have h7:((jX rn it).map (·.length)).sum=yN (jX rn it):=rfl
 unfold j7
 omega
theorem lF {ws:List Str} {i:Nat} {v:V} (h:(ws.map V.str)[i]?=some v):∃w,ws[i]?=some w∧v=.str w:=by
 rw [List.getElem?_map] at h
 cases hw:ws[i]? with
 |none=>rw [hw] at h;cases h
 |some w=>rw [hw] at h;cases h;exact ⟨w,rfl,rfl⟩
def nZ (zs:List Str):Str:=Str.join "" (zs.map (·++feedS))
def bX (K:W.Frag):Sp:=fun vs H Q _=>∃(a:Addr) (zs:List Str),vs=[.ref a]∧SqL K H a (zs.map V.str)∧zs.length≤999∧(∀z∈zs,z.length≤900)∧∀H',Same H H'→Q (.str (nZ zs)) H'
def JI (rn:Nat→List Nat) (R:List RC):Prop:=∀(i:Nat) (r:RC),R[i]?=some r→r.name=jF (rn i)
theorem QW {cR:Addr} {H:Hp} {rs:List V} {R:List RC} {rn:Nat→List Nat} (h:AllAt (RcO cR H) rs R) (hn:JI rn R) {k:Int} (h0:0≤k) (h1:k<(R.length:Int)):∃(z dz:Addr) (gs:List (Str×V)),qG rs k=some (.ref z)∧H z=some (.ins cR dz gs)∧gs.lookup ("name":Str)=some (.str (jF (rn k.toNat))):=by
 have hk:k.toNat<R.length:=by omega
 obtain ⟨v,hv,z,rfl,dz,gs,hz,hg⟩:=h.get (List.getElem?_eq_getElem hk)
 refine ⟨z,dz,gs,?_,hz,?_⟩
 ·have:=vG hv
  rwa [show ((k.toNat:Nat):Int)=k by omega] at this
 ·rw [hg.1,hn _ _ (List.getElem?_eq_getElem hk)]
def vH (p:List (Int×Int)) (k:Nat):Option (Nat×Int×Int):=match p[k]? with
 |some q=>if q.1=0∧q.2=0 then none else some (k,q.1,q.2)
 |none=>none
def qA (p:List (Int×Int)) (n:Nat):List (Nat×Int×Int):=(List.range n).filterMap (vH p)
def yA (p:List (Int×Int)):List (Nat×Int×Int):=qA p p.length
theorem zX (p:List (Int×Int)) (n:Nat):qA p (n+1)=qA p n++(vH p n).toList:=by
 unfold qA
 rw [List.range_succ,List.filterMap_append]
 cases e:vH p n with
 |none=>simp [e]
 |some x=>simp [e]
theorem Z6 {p:List (Int×Int)} {k:Nat} {q:Int×Int} (h:p[k]?=some q) (hz:¬(q.1=0∧q.2=0)):vH p k=some (k,q.1,q.2):=by unfold vH;rw [h];exact if_neg hz
theorem Z7 {p:List (Int×Int)} {k:Nat} {q:Int×Int} (h:p[k]?=some q) (hz:q.1=0∧q.2=0):vH p k=none:=by unfold vH;rw [h];exact if_pos hz
def yC (p:List (Int×Int)):Prop:=∀q∈p,0≤q.1∧q.1≤999999999999∧0≤q.2∧q.2≤999999999999
theorem gP {p:List (Int×Int)} {k:Nat} {t:Nat×Int×Int} (hp:yC p) (h:vH p k=some t):t.1=k∧k<p.length∧0≤t.2.1∧t.2.1≤999999999999∧0≤t.2.2∧t.2.2≤999999999999:=by
 unfold vH at h
 cases e:p[k]? with
 |none=>rw [e] at h;cases h
 |some q =>
  rw [e] at h
  have h:(if q.1=0∧q.2=0 then none else some (k,q.1,q.2))=some t:=h
  split at h
  ·cases h
  ·cases h
   obtain ⟨h1,h2,h3,h4⟩:=hp q (List.mem_of_getElem? e)
   exact ⟨rfl,(List.getElem?_eq_some_iff.mp e).1,h1,h2,h3,h4⟩
theorem gO {p:List (Int×Int)} (hp:yC p) (n:Nat):(qA p n).length≤n∧((qA p n).map (·.1)).Nodup∧∀t∈qA p n,t.1<n∧t.1<p.length∧0≤t.2.1∧t.2.1≤999999999999∧0≤t.2.2∧t.2.2≤999999999999:=by
 induction n with
 |zero=>exact ⟨Nat.le_refl _,List.nodup_nil,fun t h=>(by cases h)⟩
 |succ n ih =>
  obtain ⟨h1,h2,h3⟩:=ih
  rw [zX]
  cases e:vH p n with
  |none =>
   show (qA p n++[]).length≤n+1∧_
   rw [List.append_nil]
   exact ⟨by omega,by show ((qA p n++[]).map _).Nodup;rw [List.append_nil];exact h2,fun t ht=>by
    have ht:t∈qA p n++[]:=ht
    rw [List.append_nil] at ht
    obtain ⟨a,b⟩:=h3 t ht
    exact ⟨by omega,b⟩⟩
  |some x =>
   obtain ⟨e1,e2⟩:=gP hp e
   refine ⟨by rw [List.length_append];show _+1≤_;omega,?_,fun t ht=>?_⟩
   ·rw [List.map_append,List.nodup_append]
    refine ⟨h2,by simp,fun a ha b hb=>?_⟩
    obtain ⟨t,ht,rfl⟩:=List.mem_map.mp ha
    have:b=n:=by
     have hb:b∈[x.1]:=hb
     rw [List.mem_singleton.mp hb,e1]
    have:=(h3 t ht).1
    omega
   ·rcases List.mem_append.mp ht with ht|ht
    ·obtain ⟨a,b⟩:=h3 t ht
     exact ⟨by omega,b⟩
    ·have ht:t=x:=List.mem_singleton.mp ht
     rw [ht]
     exact ⟨by omega,by omega,e2.2⟩
theorem QY {p:List (Int×Int)} (hp:yC p) {n:Nat} (hn:n≤p.length) (h8:p.length≤8):vJ (.night (qA p n)) p.length:=by
 obtain ⟨h1,h2,h3⟩:=gO hp n
 exact ⟨h8,⟨h2,fun t ht=>(h3 t ht).2⟩,by omega⟩
theorem dE (a b:Int):yU [V.int a,V.int b] [V.int 0,V.int 0]=decide (a=0∧b=0):=by
 show ((decide (a=0)&&(decide (b=0)&&true))&&true)=_
 by_cases ha:a=0<;>by_cases hb:b=0<;>simp [ha,hb]
def kQ (rn:Nat→List Nat) (R:List RC) (L:List LC) (N:List (List (Int×Int))):List Str:=R.map (fun r=>j7 rn (.reach r))++L.map (fun l=>j7 rn (.lock l))++N.map (fun p=>j7 rn (.night (yA p)))
def dW (rn:Nat→List Nat) (R:List RC) (L:List LC) (N:List (List (Int×Int))):Str:=Str.join "" ((kQ rn R L N).map (·++feedS))
structure ShowOk (rn:Nat→List Nat) (R:List RC) (L:List LC) (N:List (List (Int×Int))):Prop where
 r8:R.length≤8
 l8:L.length≤8
 n6:N.length≤6
 rr:∀(i:Nat) (r:RC),R[i]?=some r→r.good i
 nm:JI rn R
 ll:∀l∈L,l.good R.length∧l.name.length≤12
 nn:∀p∈N,p.length=R.length∧yC p
 hrn:∀k,k<8→(rn k).length≤12
theorem ShowOk.reach {rn:Nat→List Nat} {R:List RC} {L:List LC} {N:List (List (Int×Int))} (h:ShowOk rn R L N) {i:Nat} {r:RC} (hr:R[i]?=some r):vJ (.reach r) R.length∧r.target<(R.length:Int):=by
 have hi:i<R.length:=(List.getElem?_eq_some_iff.mp hr).1
 obtain ⟨g1,g2,g3,g4,g5,g6,g7,g8,g9⟩:=h.rr i r hr
 refine ⟨⟨h.r8,⟨g1,g2,g3,g4,g5,g6,g7,g8,by omega⟩,?_⟩,by omega⟩
 rw [h.nm i r hr,qY]
 have:=h.r8
 exact h.hrn i (by omega)
theorem ShowOk.lock {rn:Nat→List Nat} {R:List RC} {L:List LC} {N:List (List (Int×Int))} (h:ShowOk rn R L N) {l:LC} (hl:l∈L):vJ (.lock l) R.length:=⟨h.r8,(h.ll l hl).1,(h.ll l hl).2⟩
theorem ShowOk.night {rn:Nat→List Nat} {R:List RC} {L:List LC} {N:List (List (Int×Int))} (h:ShowOk rn R L N) {p:List (Int×Int)} (hp:p∈N):vJ (.night (yA p)) p.length:=QY (h.nn p hp).2 (Nat.le_refl _) (by rw [(h.nn p hp).1];exact h.r8)
theorem ZB {rn:Nat→List Nat} {R:List RC} {L:List LC} {N:List (List (Int×Int))} (h:ShowOk rn R L N):(kQ rn R L N).length≤22∧∀z∈kQ rn R L N,z.length≤400:=by
 have h1:=h.r8
 have h2:=h.l8
 have h3:=h.n6
 refine ⟨by unfold kQ;rw [List.length_append,List.length_append,List.length_map,List.length_map,List.length_map];omega,fun z hz=>?_⟩
 unfold kQ at hz
 rcases List.mem_append.mp hz with hz|hz
 ·rcases List.mem_append.mp hz with hz|hz
  ·obtain ⟨r,hr,rfl⟩:=List.mem_map.mp hz
   obtain ⟨i,hi,e⟩:=List.mem_iff_getElem.mp hr
   exact ZI h.hrn (h.reach (by rw [List.getElem?_eq_getElem hi,e])).1
  ·obtain ⟨l,hl,rfl⟩:=List.mem_map.mp hz
   exact ZI h.hrn (h.lock hl)
 ·obtain ⟨p,hp,rfl⟩:=List.mem_map.mp hz
  exact ZI h.hrn (h.night hp)
theorem lY:("\n":Str).length=1:=by decide +kernel
theorem gJ {rn:Nat→List Nat} {R:List RC} {L:List LC} {N:List (List (Int×Int))} (h:ShowOk rn R L N):yN ((kQ rn R L N).map (·++feedS))+((kQ rn R L N).map (·++feedS)).length≤1048576:=by
 obtain ⟨h1,h2⟩:=ZB h
 have h3:=JA (B:=401) ((kQ rn R L N).map (·++feedS)) (fun z hz=>by
  obtain ⟨y,hy,rfl⟩:=List.mem_map.mp hz
  have:=h2 y hy
  rw [Str.length_append]
  have:feedS.length=1:=rfl
  omega)
 rw [List.length_map] at h3 ⊢
 have h4:(kQ rn R L N).length*401≤22*401:=Nat.mul_le_mul_right _ h1
 omega
def bC (cs:Kd→Addr) (cR cN:Addr):Sp:=fun vs H Q _=>∃(x y:Addr) (D:List Addr) (R:List RC) (L:List LC) (N:List (List (Int×Int))) (rn:Nat→List Nat) (r:RC),vs=[.ref x,.ref y]∧CnAt cs cR cN D H x R L N∧RcAt cR H y r∧JI rn R∧vJ (.reach r) R.length∧r.target<(R.length:Int)∧(∀k,k<8→(rn k).length≤12)∧∀H',Same H H'→Q (.str (j7 rn (.reach r))) H'
def bL (cs:Kd→Addr) (cR cN:Addr):Sp:=fun vs H Q _=>∃(x y:Addr) (D:List Addr) (R:List RC) (L:List LC) (N:List (List (Int×Int))) (rn:Nat→List Nat) (l:LC),vs=[.ref x,.ref y]∧CnAt cs cR cN D H x R L N∧LockAt cs H y l.kd (.str l.name) (.int l.high) (.int l.low) l.room l.extra∧JI rn R∧vJ (.lock l) R.length∧(∀k,k<8→(rn k).length≤12)∧∀H',Same H H'→Q (.str (j7 rn (.lock l))) H'
def bD (cs:Kd→Addr) (cR cN:Addr):Sp:=fun vs H Q _=>∃(x y:Addr) (D:List Addr) (R:List RC) (L:List LC) (N:List (List (Int×Int))) (rn:Nat→List Nat) (p:List (Int×Int)),vs=[.ref x,.ref y]∧CnAt cs cR cN D H x R L N∧NAt [] H (.ref y) p∧JI rn R∧p.length=R.length∧yC p∧R.length≤8∧(∀k,k<8→(rn k).length≤12)∧∀H',Same H H'→Q (.str (j7 rn (.night (yA p)))) H'
def cS (cs:Kd→Addr) (cR cN:Addr):Sp:=fun vs H Q _=>∃(x:Addr) (D:List Addr) (R:List RC) (L:List LC) (N:List (List (Int×Int))) (rn:Nat→List Nat),vs=[.ref x]∧CnAt cs cR cN D H x R L N∧ShowOk rn R L N∧∀H',Same H H'→Q (.str (dW rn R L N)) H'
theorem lM {n:Nat} {ts:List (Nat×Int×Int)} (h:∀t∈ts,0≤t.2.1∧t.2.1≤999999999999∧0≤t.2.2∧t.2.2≤999999999999):yC (vA n ts):=by
 unfold vA
 have key:∀(ts:List (Nat×Int×Int)) (ps:List (Int×Int)),(∀t∈ts,0≤t.2.1∧t.2.1≤999999999999∧0≤t.2.2∧t.2.2≤999999999999)→yC ps→yC (ts.foldl (fun ps q=>ps.set q.1 (q.2.1,q.2.2)) ps):=by
  intro ts
  induction ts with
  |nil=>intro ps _ h;exact h
  |cons t r ih =>
   intro ps ht hp
   rw [List.foldl_cons]
   refine ih _ (fun u hu=>ht u (List.mem_cons_of_mem _ hu)) fun q hq=>?_
   rcases List.mem_or_eq_of_mem_set hq with hq|hq
   ·exact hp q hq
   ·rw [hq];exact ht t List.mem_cons_self
 refine key ts _ h fun q hq=>?_
 rw [List.eq_of_mem_replicate hq]
 exact ⟨Int.le_refl _,by decide,Int.le_refl _,by decide⟩
theorem iN {rn gn:Nat→List Nat} {its:List PIt} {a b c:Nat} (h:PlanOk rn gn its a b c) (ha:1≤a) (hr:∀k,k<8→(rn k).length≤12) (hg:∀k,k<8→(gn k).length≤12):ShowOk rn (kC its) (kG its) (v9 its):=by
 have d:=bG h ha
 obtain ⟨f1,f2⟩:=bF h
 obtain ⟨t1,t2,t3⟩:=z6 h
 have hb:=h.bounds
 refine ⟨d.r8,d.l8,d.n6,d.good,fun i r hi=>(f1 i r hi).2.1,fun l hl=>?_,fun p hp=>⟨d.night p hp,?_⟩,hr⟩
 ·obtain ⟨i,hi,e⟩:=List.mem_iff_getElem.mp hl
  have hl':(kG its)[i]?=some l:=by rw [List.getElem?_eq_getElem hi,e]
  refine ⟨d.lock i l hl',?_⟩
  rw [(f2 i l hl').2.1,qY]
  exact hg i (by omega)
 ·unfold v9 at hp
  obtain ⟨it,hit,e⟩:=List.mem_filterMap.mp hp
  cases it with
  |reach r=>cases e
  |lock l=>cases e
  |night ts =>
   cases e
   exact lM fun t ht=>((t3 ts hit).1.2 t ht).2
def cQ:Sp:=fun vs H Q _=>∃(t nl:Addr) (R:List RC) (L:List LC) (N:List (List (Int×Int))) (rn:Nat→List Nat),vs=[.ref t,.ref nl]∧DueAt [] H t R L N∧H nl=some (.lst (j2 rn 8))∧ShowOk rn R L N∧∀H',Same H H'→Q (.str (dW rn R L N)) H'
structure Txt (K:W.Frag) (mg:Str→Option Value) (cP cB cU:Addr) (cR:Addr) (cN:Addr) (tkS:Tok):Prop where
 z_list:mg "list"=none
 z_str:mg "str"=none
 z_zip:mg "zip"=none
 z_len:mg "len"=none
 z_range:mg "range"=none
 z_min:mg "min"=none
 z_max:mg "max"=none
 z_isinstance:mg "isinstance"=none
 cl:∀kd,Cls K ((jN cP cB cU) kd)
 n_name:∀kd,NoAttr K ((jN cP cB cU) kd) "name"
 n_high:∀kd,NoAttr K ((jN cP cB cU) kd) "high"
 n_low:∀kd,NoAttr K ((jN cP cB cU) kd) "low"
 n_room:∀kd,NoAttr K ((jN cP cB cU) kd) "room"
 n_side:NoAttr K cB "side"
 n_lift:NoAttr K cU "lift"
 c_PlainLock:mg "PlainLock"=some (.ref cP)
 c_BasinLock:mg "BasinLock"=some (.ref cB)
 c_PumpLock:mg "PumpLock"=some (.ref cU)
 clR:Cls K cR
 nR_name:NoAttr K cR "name"
 nR_least:NoAttr K cR "least"
 nR_crest:NoAttr K cR "crest"
 nR_berths:NoAttr K cR "berths"
 nR_water:NoAttr K cR "water"
 nR_target:NoAttr K cR "target"
 c_Reach:mg "Reach"=some (.ref cR)
 clN:Cls K cN
 nN_reaches:NoAttr K cN "reaches"
 nN_locks:NoAttr K cN "locks"
 nN_nights:NoAttr K cN "nights"
 c_Canal:mg "Canal"=some (.ref cN)
 g_SEA:mg "SEA"=some (.int (-1) tkS)
set_option maxHeartbeats 4000000
section
variable {P:Program} {w:World} {K:W.Frag} {mg:Str→Option Value} {base:Heap} {cP cB cU:Addr} {cR:Addr} {cN:Addr} {tkS:Tok}
theorem fP:FnScope ["self","name","high","low","room"] ["self","name","high","low","room"] (jG y0):=⟨rfl,rfl,rfl,by decide +kernel,rfl,by decide +kernel,by decide +kernel⟩
theorem eP {f:Addr} {fd:FuncData} (F:Fun K "__init__" "PlainLock.__init__" y0 f fd) (T:Txt K mg cP cB cU cR cN tkS) : FnOk P w K mg base jR 1 f fd ["self","name","high","low","room"] (zN (jN cP cB cU)):=by
 refine F.ok fP (fun vs H Q E h=>?_) (fun cdv A outer s H vs Q E hr h=>?_)
 ·obtain ⟨kd,x,dx,n,h₁,l,r,rfl,hx,q⟩:=h
  rfl
 obtain ⟨kd,x,dx,n,h₁,l,r,rfl,hx,q⟩:=h
 have hu:_<cLine:=hr.units0
 have hu1:=j8 hr
 refine ⟨_,(@jI _ _ _ _ _ (qM (pv 0) (pv 1) rfl)
   (@jI _ _ _ _ _ (qM (pv 0) (pv 2) rfl)
   (@jI _ _ _ _ _ (qM (pv 0) (pv 3) rfl)
   (@jL _ _ _ (qM (pv 0) (pv 4) rfl))))),?_⟩
 refine ⟨_,rfl,_,rfl,x,_,dx,_,rfl,hx,T.cl kd,T.n_name kd,(by show 0<1000;decide),?_⟩
 refine ⟨_,rfl,_,rfl,x,_,dx,_,rfl,jE,T.cl kd,T.n_high kd,(by show 1<1000;decide),?_⟩
 refine ⟨_,rfl,_,rfl,x,_,dx,_,rfl,jE,T.cl kd,T.n_low kd,?_,?_⟩
 ·have:=vD "high" h₁ (jJ "name" n [])
  have h2:(jJ ("name":Str) n []).length=1:=rfl
  omega
 refine ⟨_,rfl,_,rfl,x,_,dx,_,rfl,jE,T.cl kd,T.n_room kd,?_,?_⟩
 ·have:=vD "low" l (jJ "high" h₁ (jJ "name" n []))
  have h1:=vD "high" h₁ (jJ "name" n [])
  have h2:(jJ ("name":Str) n []).length=1:=rfl
  omega
 exact q _ (((((Keep.refl x H).upd _).upd _).upd _).upd _) jE
theorem fL:FnScope ["self","name","high","low","room","side"] ["self","name","high","low","room","side"] (jG yX):=⟨rfl,rfl,rfl,by decide +kernel,rfl,by decide +kernel,by decide +kernel⟩
theorem eL {f:Addr} {fd:FuncData} (F:Fun K "__init__" "BasinLock.__init__" yX f fd) (T:Txt K mg cP cB cU cR cN tkS) (CM_PlainLock___init__:CmD P w K mg base 1 "PlainLock" cP "__init__" ["self","name","high","low","room"] (zN (jN cP cB cU))):FnOk P w K mg base jR 2 f fd ["self","name","high","low","room","side"] (zM (jN cP cB cU) .basin):=by
 refine F.ok fL (fun vs H Q E h=>?_) (fun cdv A outer s H vs Q E hr h=>?_)
 ·obtain ⟨x,dx,n,h₁,l,r,v,rfl,hx,q⟩:=h
  rfl
 obtain ⟨x,dx,n,h₁,l,r,v,rfl,hx,q⟩:=h
 have hu:_<cLine:=hr.units0
 have hu1:=j8 hr
 refine ⟨_,(@jI _ _ _ _ _ (qO (dA CM_PlainLock___init__ hr rfl (@jA _ _ _ _ _ (pv 0) (@jA _ _ _ _ _ (pv 1) (@jA _ _ _ _ _ (pv 2) (@jA _ _ _ _ _ (pv 3) (@jA _ _ _ _ _ (pv 4) jD (by rfl)) (by rfl)) (by rfl)) (by rfl)) (by rfl))))
   (@jL _ _ _ (qM (pv 0) (pv 5) rfl))),?_⟩
 refine ⟨_,rfl,_,rfl,_,rfl,_,rfl,_,rfl,.basin,x,dx,n,h₁,l,r,rfl,hx,fun H' kp hx'=>?_⟩
 refine ⟨_,rfl,_,rfl,x,_,dx,_,rfl,hx',T.cl .basin,T.n_side,bH _ _ _ _,?_⟩
 exact q _ (kp.upd _) jE
theorem fS:FnScope ["self","name","high","low","room","lift"] ["self","name","high","low","room","lift"] (jG y3):=⟨rfl,rfl,rfl,by decide +kernel,rfl,by decide +kernel,by decide +kernel⟩
theorem eS {f:Addr} {fd:FuncData} (F:Fun K "__init__" "PumpLock.__init__" y3 f fd) (T:Txt K mg cP cB cU cR cN tkS) (CM_PlainLock___init__:CmD P w K mg base 1 "PlainLock" cP "__init__" ["self","name","high","low","room"] (zN (jN cP cB cU))):FnOk P w K mg base jR 2 f fd ["self","name","high","low","room","lift"] (zM (jN cP cB cU) .pump):=by
 refine F.ok fS (fun vs H Q E h=>?_) (fun cdv A outer s H vs Q E hr h=>?_)
 ·obtain ⟨x,dx,n,h₁,l,r,v,rfl,hx,q⟩:=h
  rfl
 obtain ⟨x,dx,n,h₁,l,r,v,rfl,hx,q⟩:=h
 have hu:_<cLine:=hr.units0
 have hu1:=j8 hr
 refine ⟨_,(@jI _ _ _ _ _ (qO (dA CM_PlainLock___init__ hr rfl (@jA _ _ _ _ _ (pv 0) (@jA _ _ _ _ _ (pv 1) (@jA _ _ _ _ _ (pv 2) (@jA _ _ _ _ _ (pv 3) (@jA _ _ _ _ _ (pv 4) jD (by rfl)) (by rfl)) (by rfl)) (by rfl)) (by rfl))))
   (@jL _ _ _ (qM (pv 0) (pv 5) rfl))),?_⟩
 refine ⟨_,rfl,_,rfl,_,rfl,_,rfl,_,rfl,.pump,x,dx,n,h₁,l,r,rfl,hx,fun H' kp hx'=>?_⟩
 refine ⟨_,rfl,_,rfl,x,_,dx,_,rfl,hx',T.cl .pump,T.n_lift,bH _ _ _ _,?_⟩
 exact q _ (kp.upd _) jE
theorem fV:FnScope ["self","name","least","crest","berths","water","target"] ["self","name","least","crest","berths","water","target"] (jG y7):=⟨rfl,rfl,rfl,by decide +kernel,rfl,by decide +kernel,by decide +kernel⟩
theorem eV {f:Addr} {fd:FuncData} (F:Fun K "__init__" "Reach.__init__" y7 f fd) (T:Txt K mg cP cB cU cR cN tkS) : FnOk P w K mg base jR 1 f fd ["self","name","least","crest","berths","water","target"] (QU cR):=by
 refine F.ok fV (fun vs H Q E h=>?_) (fun cdv A outer s H vs Q E hr h=>?_)
 ·obtain ⟨x,dx,v_name,v_least,v_crest,v_berths,v_water,v_target,rfl,hx,q⟩:=h
  rfl
 obtain ⟨x,dx,v_name,v_least,v_crest,v_berths,v_water,v_target,rfl,hx,q⟩:=h
 have hu:_<cLine:=hr.units0
 have hu1:=j8 hr
 refine ⟨_,(@jI _ _ _ _ _ (qM (pv 0) (pv 1) rfl)
   (@jI _ _ _ _ _ (qM (pv 0) (pv 2) rfl)
   (@jI _ _ _ _ _ (qM (pv 0) (pv 3) rfl)
   (@jI _ _ _ _ _ (qM (pv 0) (pv 4) rfl)
   (@jI _ _ _ _ _ (qM (pv 0) (pv 5) rfl)
   (@jL _ _ _ (qM (pv 0) (pv 6) rfl))))))),?_⟩
 have ln:∀(f:Str) (z:V) (fs:List (Str×V)) (m:Nat),fs.length≤m→(jJ f z fs).length≤m+1:=fun f z fs m h=>Nat.le_trans (vD f z fs) (by omega)
 have l0:([]:List (Str×V)).length≤0:=Nat.le_refl _
 refine ⟨_,rfl,_,rfl,x,cR,dx,_,rfl,hx,T.clR,T.nR_name,by omega,?_⟩
 have l1:=ln "name" v_name _ _ l0
 refine ⟨_,rfl,_,rfl,x,cR,dx,_,rfl,jE,T.clR,T.nR_least,by omega,?_⟩
 have l2:=ln "least" v_least _ _ l1
 refine ⟨_,rfl,_,rfl,x,cR,dx,_,rfl,jE,T.clR,T.nR_crest,by omega,?_⟩
 have l3:=ln "crest" v_crest _ _ l2
 refine ⟨_,rfl,_,rfl,x,cR,dx,_,rfl,jE,T.clR,T.nR_berths,by omega,?_⟩
 have l4:=ln "berths" v_berths _ _ l3
 refine ⟨_,rfl,_,rfl,x,cR,dx,_,rfl,jE,T.clR,T.nR_water,by omega,?_⟩
 have l5:=ln "water" v_water _ _ l4
 refine ⟨_,rfl,_,rfl,x,cR,dx,_,rfl,jE,T.clR,T.nR_target,by omega,?_⟩
 have l6:=ln "target" v_target _ _ l5
 exact q _ _ (((((((Keep.refl x H).upd _).upd _).upd _).upd _).upd _).upd _) jE (iC _ _ _ _ _ _)
theorem fR:FnScope ["self"] ["self"] (jG y2):=⟨rfl,rfl,rfl,by decide +kernel,rfl,by decide +kernel,by decide +kernel⟩
theorem eR {f:Addr} {fd:FuncData} (F:Fun K "kind" "PlainLock.kind" y2 f fd) (T:Txt K mg cP cB cU cR cN tkS) : FnOk P w K mg base jR 1 f fd ["self"] (qI (jN cP cB cU) (fun kd _=>V.str (match kd with|.plain=>"plain"|.basin=>"basin"|.pump=>"pump")) .plain):=by
 refine F.ok fR (fun vs H Q E h=>?_) (fun cdv A outer s H vs Q E hr h=>?_)
 ·obtain ⟨x,n,h₁,l,room,v,rfl,⟨dx,hx⟩,q⟩:=h
  rfl
 obtain ⟨x,n,h₁,l,room,v,rfl,⟨dx,hx⟩,q⟩:=h
 have hu:_<cLine:=hr.units0
 have hu1:=j8 hr
 refine ⟨_,(@jL _ _ _ (@j4 _ _ _ _ jQ)),?_⟩
 exact q
theorem fN:FnScope ["self"] ["self"] (jG yZ):=⟨rfl,rfl,rfl,by decide +kernel,rfl,by decide +kernel,by decide +kernel⟩
theorem eN {f:Addr} {fd:FuncData} (F:Fun K "kind" "BasinLock.kind" yZ f fd) (T:Txt K mg cP cB cU cR cN tkS) : FnOk P w K mg base jR 1 f fd ["self"] (qI (jN cP cB cU) (fun kd _=>V.str (match kd with|.plain=>"plain"|.basin=>"basin"|.pump=>"pump")) .basin):=by
 refine F.ok fN (fun vs H Q E h=>?_) (fun cdv A outer s H vs Q E hr h=>?_)
 ·obtain ⟨x,n,h₁,l,room,v,rfl,⟨dx,hx⟩,q⟩:=h
  rfl
 obtain ⟨x,n,h₁,l,room,v,rfl,⟨dx,hx⟩,q⟩:=h
 have hu:_<cLine:=hr.units0
 have hu1:=j8 hr
 refine ⟨_,(@jL _ _ _ (@j4 _ _ _ _ jQ)),?_⟩
 exact q
theorem fU:FnScope ["self"] ["self"] (jG y6):=⟨rfl,rfl,rfl,by decide +kernel,rfl,by decide +kernel,by decide +kernel⟩
theorem eU {f:Addr} {fd:FuncData} (F:Fun K "kind" "PumpLock.kind" y6 f fd) (T:Txt K mg cP cB cU cR cN tkS) : FnOk P w K mg base jR 1 f fd ["self"] (qI (jN cP cB cU) (fun kd _=>V.str (match kd with|.plain=>"plain"|.basin=>"basin"|.pump=>"pump")) .pump):=by
 refine F.ok fU (fun vs H Q E h=>?_) (fun cdv A outer s H vs Q E hr h=>?_)
 ·obtain ⟨x,n,h₁,l,room,v,rfl,⟨dx,hx⟩,q⟩:=h
  rfl
 obtain ⟨x,n,h₁,l,room,v,rfl,⟨dx,hx⟩,q⟩:=h
 have hu:_<cLine:=hr.units0
 have hu1:=j8 hr
 refine ⟨_,(@jL _ _ _ (@j4 _ _ _ _ jQ)),?_⟩
 exact q
theorem fQ:FnScope ["self"] ["self"] (jG y1):=⟨rfl,rfl,rfl,by decide +kernel,rfl,by decide +kernel,by decide +kernel⟩
theorem eQ {f:Addr} {fd:FuncData} (F:Fun K "extra" "PlainLock.extra" y1 f fd) (T:Txt K mg cP cB cU cR cN tkS) : FnOk P w K mg base jR 1 f fd ["self"] (qI (jN cP cB cU) (fun kd v=>V.int (match kd with|.plain=>0|.basin=>v|.pump=>v)) .plain):=by
 refine F.ok fQ (fun vs H Q E h=>?_) (fun cdv A outer s H vs Q E hr h=>?_)
 ·obtain ⟨x,n,h₁,l,room,v,rfl,⟨dx,hx⟩,q⟩:=h
  rfl
 obtain ⟨x,n,h₁,l,room,v,rfl,⟨dx,hx⟩,q⟩:=h
 have hu:_<cLine:=hr.units0
 have hu1:=j8 hr
 refine ⟨_,(@jL _ _ _ (@j4 _ _ _ _ jB)),?_⟩
 exact q
theorem fM:FnScope ["self"] ["self"] (jG yY):=⟨rfl,rfl,rfl,by decide +kernel,rfl,by decide +kernel,by decide +kernel⟩
theorem eM {f:Addr} {fd:FuncData} (F:Fun K "extra" "BasinLock.extra" yY f fd) (T:Txt K mg cP cB cU cR cN tkS) : FnOk P w K mg base jR 1 f fd ["self"] (qI (jN cP cB cU) (fun kd v=>V.int (match kd with|.plain=>0|.basin=>v|.pump=>v)) .basin):=by
 refine F.ok fM (fun vs H Q E h=>?_) (fun cdv A outer s H vs Q E hr h=>?_)
 ·obtain ⟨x,n,h₁,l,room,v,rfl,⟨dx,hx⟩,q⟩:=h
  rfl
 obtain ⟨x,n,h₁,l,room,v,rfl,⟨dx,hx⟩,q⟩:=h
 have hu:_<cLine:=hr.units0
 have hu1:=j8 hr
 refine ⟨_,(@jL _ _ _ (@j4 _ _ _ _ (kE (pv 0) rfl))),?_⟩
 exact ⟨_,rfl,x,cB,dx,_,_,rfl,hx,T.cl .basin,T.n_side,cM _ _ _ _ _ _,q⟩
theorem fT:FnScope ["self"] ["self"] (jG y4):=⟨rfl,rfl,rfl,by decide +kernel,rfl,by decide +kernel,by decide +kernel⟩
theorem eT {f:Addr} {fd:FuncData} (F:Fun K "extra" "PumpLock.extra" y4 f fd) (T:Txt K mg cP cB cU cR cN tkS) : FnOk P w K mg base jR 1 f fd ["self"] (qI (jN cP cB cU) (fun kd v=>V.int (match kd with|.plain=>0|.basin=>v|.pump=>v)) .pump):=by
 refine F.ok fT (fun vs H Q E h=>?_) (fun cdv A outer s H vs Q E hr h=>?_)
 ·obtain ⟨x,n,h₁,l,room,v,rfl,⟨dx,hx⟩,q⟩:=h
  rfl
 obtain ⟨x,n,h₁,l,room,v,rfl,⟨dx,hx⟩,q⟩:=h
 have hu:_<cLine:=hr.units0
 have hu1:=j8 hr
 refine ⟨_,(@jL _ _ _ (@j4 _ _ _ _ (kE (pv 0) rfl))),?_⟩
 exact ⟨_,rfl,x,cU,dx,_,_,rfl,hx,T.cl .pump,T.n_lift,cM _ _ _ _ _ _,q⟩
theorem fO:FnScope ["self","reaches","locks","nights"] ["self","reaches","locks","nights"] (jG yF):=⟨rfl,rfl,rfl,by decide +kernel,rfl,by decide +kernel,by decide +kernel⟩
theorem eO {f:Addr} {fd:FuncData} {ds:List Value} (F:FunD K "__init__" "Canal.__init__" yF f fd ds) (T:Txt K mg cP cB cU cR cN tkS) : FnOk P w K mg base jR 1 f fd ["self","reaches","locks","nights"] (QV (jN cP cB cU) cR cN):=by
 refine F.ok fO (fun vs H Q E h=>?_) (fun cdv A outer s H vs Q E hr h=>?_)
 ·obtain ⟨x,dx,rl,ll,nv,rs,ls,R,L,N,rfl,hx,hrl,hll,hR,hL,hN,q⟩:=h
  rfl
 obtain ⟨x,dx,rl,ll,nv,rs,ls,R,L,N,rfl,hx,hrl,hll,hR,hL,hN,q⟩:=h
 have hu:_<cLine:=hr.units0
 have hu1:=j8 hr
 refine ⟨_,(@jI _ _ _ _ _ (qM (pv 0) (qP QT (by rfl) T.z_list PyProof.Rows.boot_list (jA (pv 1) jD)) rfl)
   (@jI _ _ _ _ _ (qM (pv 0) (qP QT (by rfl) T.z_list PyProof.Rows.boot_list (jA (pv 2) jD)) rfl)
   (@jL _ _ _ (qM (pv 0) (J0 (j3 nQ (pv 3) nN (j1 _)) (kF jD) (qZ ["night"] (kO 1 []) rfl (kX (jG yF) rfl rfl (by decide +kernel) (by decide +kernel) (by decide +kernel)) (kZ 1 [] rfl rfl (by decide +kernel)) (kY (pv 3)) (fun _ _ _ _ _=>(j5 (i:=0) (show List.Nodup (["night"]:List Str) from by decide +kernel) rfl (by first|exact Or.inl rfl|exact Or.inr rfl))) (fun _ _ _ _ _=>qK) (fun _ _ _ _ _=>(qP (gD K) (by rfl) T.z_list PyProof.Rows.boot_list (jA (pv 0) jD))))) rfl)))),?_⟩
 have ln:∀(f:Str) (z:V) (fs:List (Str×V)) (m:Nat),fs.length≤m→(jJ f z fs).length≤m+1:=fun f z fs m h=>Nat.le_trans (vD f z fs) (by omega)
 have nrx:rl≠x:=zR hrl hx (fun z=>nomatch z)
 have nlx:ll≠x:=zR hll hx (fun z=>nomatch z)
 refine ⟨_,rfl,rl,_,rfl,.inl (SqL.of hrl),fun r2 hr20=>?_⟩
 have s1:=jM hr20 (.lst rs)
 have nr2:r2≠x:=(jY hx hr20).symm
 refine ⟨_,rfl,x,cN,dx,_,rfl,s1 _ _ hx,T.clN,T.nN_reaches,(by show 0<1000;decide),?_⟩
 have k1:Keep x H (upd (upd H r2 (.lst rs)) x (.ins cN dx (jJ "reaches" (.ref r2) []))):=(Keep.of s1).upd _
 have hr2:upd (upd H r2 (.lst rs)) x (.ins cN dx (jJ "reaches" (.ref r2) [])) r2=some (.lst rs):=by rw [jO nr2];exact jE
 have hx1:upd (upd H r2 (.lst rs)) x (.ins cN dx (jJ "reaches" (.ref r2) [])) x=some (.ins cN dx (jJ "reaches" (.ref r2) [])):=jE
 generalize upd (upd H r2 (.lst rs)) x (.ins cN dx (jJ "reaches" (.ref r2) []))=H1 at k1 hr2 hx1 ⊢
 have l1:=ln "reaches" (.ref r2) [] 0 (Nat.le_refl _)
 refine ⟨_,rfl,ll,_,rfl,.inl (SqL.of (k1 _ _ nlx hll)),fun l2 hl20=>?_⟩
 have s2:=jM hl20 (.lst ls)
 have nl2:l2≠x:=(jY hx1 hl20).symm
 refine ⟨_,rfl,x,cN,dx,_,rfl,s2 _ _ hx1,T.clN,T.nN_locks,by omega,?_⟩
 have l2':=ln "locks" (.ref l2) _ _ l1
 have k2:Keep x H (upd (upd H1 l2 (.lst ls)) x (.ins cN dx (jJ "locks" (.ref l2) (jJ "reaches" (.ref r2) [])))):=(k1.trans (Keep.of s2)).upd _
 have hr2b:upd (upd H1 l2 (.lst ls)) x (.ins cN dx (jJ "locks" (.ref l2) (jJ "reaches" (.ref r2) []))) r2=some (.lst rs):=by rw [jO nr2];exact s2 _ _ hr2
 have hl2:upd (upd H1 l2 (.lst ls)) x (.ins cN dx (jJ "locks" (.ref l2) (jJ "reaches" (.ref r2) []))) l2=some (.lst ls):=by rw [jO nl2];exact jE
 have hx2:upd (upd H1 l2 (.lst ls)) x (.ins cN dx (jJ "locks" (.ref l2) (jJ "reaches" (.ref r2) []))) x=some (.ins cN dx (jJ "locks" (.ref l2) (jJ "reaches" (.ref r2) []))):=jE
 generalize upd (upd H1 l2 (.lst ls)) x (.ins cN dx (jJ "locks" (.ref l2) (jJ "reaches" (.ref r2) [])))=H2 at k2 hr2b hl2 hx2 ⊢
 have frR:∀D:List Addr,(∀d∈D,H d≠none)→r2∉D:=fun D hD z=>hD _ z hr20
 have frL:∀D:List Addr,(∀d∈D,H d≠none)→l2∉D:=fun D hD z=>by
  by_cases e:l2=x
  ·exact nl2 e
  ·cases hh:H l2 with
   |none=>exact hD _ z hh
   |some o=>rw [k1 _ _ e hh] at hl20;cases hl20
 have done:∀(n2:Addr) (ns:List V) (H3:Hp),Keep x H2 H3→H2 n2=none→H3 x=some (.ins cN dx (jJ "locks" (.ref l2) (jJ "reaches" (.ref r2) [])))→H3 n2=some (.lst ns)→(∀D:List Addr,(∀d∈D,H2 d≠none)→AllAt (NAt D H3) ns N)→Q .non (upd H3 x (.ins cN dx (jJ "nights" (.ref n2) (jJ "locks" (.ref l2) (jJ "reaches" (.ref r2) []))))):=by
  intro n2 ns H3 k3 hn20 hx3 hn2 hNs
  have kf:Keep x H (upd H3 x (.ins cN dx (jJ "nights" (.ref n2) (jJ "locks" (.ref l2) (jJ "reaches" (.ref r2) []))))):=(k2.trans k3).upd _
  have kl:Keep x H3 (upd H3 x (.ins cN dx (jJ "nights" (.ref n2) (jJ "locks" (.ref l2) (jJ "reaches" (.ref r2) []))))):=(Keep.refl x H3).upd _
  have nn2:n2≠x:=fun z=>by rw [z,hx2] at hn20;cases hn20
  have old:∀d,H d≠none→H2 d≠none:=fun d hd=>by
   by_cases e:d=x
   ·rw [e,hx2];exact fun z=>nomatch z
   ·cases hh:H d with
    |none=>exact absurd hh hd
    |some o=>rw [k2 _ _ e hh];exact fun z=>nomatch z
  refine q _ kf fun D hD=>⟨dx,r2,l2,n2,_,rs,ls,ns,jE,iD _ _ _,?_,?_,?_,hR.mono (RcO.keepI kf hx),hL.mono (LkO.keepI kf hx),?_,frR D hD,frL D hD,fun z=>old _ (hD _ z) hn20⟩
  ·rw [jO nr2];exact k3 _ _ nr2 hr2b
  ·rw [jO nl2];exact k3 _ _ nl2 hl2
  ·rw [jO nn2];exact hn2
  ·refine (hNs D (fun d hd=>old d (hD d hd))).mono ?_
   rintro v p ⟨l,qs,e1,e2,e3,e4⟩
   exact ⟨l,qs,e1,kl _ _ (fun z=>by rw [z,hx3] at e2;cases e2) e2,e3.mono (QAt.keep kl hx3 (fun _ z=>nomatch z)),e4⟩
 refine ⟨_,rfl,rfl,_,rfl,?_⟩
 rcases hN with ⟨rfl,rfl⟩|⟨nl,ns,rfl,hnl,hN,hnl100⟩
 ·refine kA rfl ⟨zz0,fun n2 hn20=>?_⟩
  have s3:=jM hn20 (.lst [])
  refine ⟨_,rfl,x,cN,dx,_,rfl,s3 _ _ hx2,T.clN,T.nN_nights,by omega,?_⟩
  exact done n2 [] _ (Keep.of s3) hn20 (s3 _ _ hx2) jE (fun D _=>AllAt.nil)
 ·have nnx:nl≠x:=zR hnl hx (fun z=>nomatch z)
  have hnl2:=k2 _ _ nnx hnl
  have hN2:AllAt (NAt [] H2) ns N:=hN.mono fun v p=>by
   rintro ⟨l,qs,e1,e2,e3,e4⟩
   exact ⟨l,qs,e1,k2 _ _ (zR e2 hx (fun z=>nomatch z)) e2,e3.mono (QAt.keep k2 hx (fun _ z=>nomatch z)),e4⟩
  refine j0 (fun z=>nomatch z) ⟨_,rfl,nl,rfl,⟨_,SqL.of hnl2⟩,fun n2 hn20=>?_⟩
  refine qN (K:=K) (a:=nl) (xs:=ns) (caps:=[]) (fun i ys Hi=>(∀D:List Addr,n2∈D→(∀d∈D,d≠n2→H2 d≠none)→AllAt (NAt D Hi) ys (N.take i))) hn20 (SqL.of hnl2) (fun D _ _=>AllAt.nil) ?_ ?_
  ·rintro i v ys Hi hv hi hle sm hY hI
   obtain ⟨p,hp,l,qs,rfl,hl,hq,_⟩:=hN2.2 i v hv
   refine qL (qC ?_)
   refine ⟨_,rfl,l,qs,rfl,.inl (SqL.of (sm _ _ hl)),fun c hc0=>?_⟩
   have u:=jM hc0 (.lst qs)
   refine kS hn20 sm hY hle (by omega) u ?_
   intro D hnD hD
   rw [List.take_add_one,hp]
   refine (((hI D hnD hD).mono (NAt.same u)).snoc (v:=.ref c) (x:=p) ⟨c,qs,rfl,jE,(hq.mono (QAt.same sm)).mono (QAt.same u),fun z=>?_⟩).mono (NAt.put (u _ _ hY) hnD)
   by_cases e:c=n2
   ·rw [e,hY] at hc0;cases hc0
   ·cases hh:H2 c with
    |none=>exact hD _ z e hh
    |some o=>rw [sm _ _ hh] at hc0;cases hc0
  rintro ys H3 s3 hY hle hI
  rw [hN2.1,List.take_length] at hI
  refine ⟨_,rfl,x,cN,dx,_,rfl,s3 _ _ hx2,T.clN,T.nN_nights,by omega,?_⟩
  exact done n2 ys H3 (Keep.of s3) hn20 (s3 _ _ hx2) hY (fun D hD=>(hI (n2::D) List.mem_cons_self (fun d hd ne=>(List.mem_cons.mp hd).elim (fun z=>absurd z ne) (hD d))).mono (NAt.less (fun d hd=>List.mem_cons_of_mem _ hd)))
theorem fZ:FnScope ["rows"] ["rows"] (jG yK):=⟨rfl,rfl,rfl,by decide +kernel,rfl,by decide +kernel,by decide +kernel⟩
theorem fK {f:Addr} {fd:FuncData} (F:Fun K "text_of" "text_of" yK f fd) (T:Txt K mg cP cB cU cR cN tkS) : FnOk P w K mg base jR 1 f fd ["rows"] (bX K):=by
 refine F.ok fZ (fun vs H Q E h=>?_) (fun cdv A outer s H vs Q E hr h=>?_)
 ·obtain ⟨a,zs,rfl,hS,hn,hl9,q⟩:=h
  rfl
 obtain ⟨a,zs,rfl,hS,hn,hl9,q⟩:=h
 have hu:_<cLine:=hr.units0
 have hu1:=j8 hr
 refine ⟨_,(@jL _ _ _ (@j4 _ _ _ _ (kW PySem.F.plainAttrs_str PySem.F.slot_str_join PySem.F.type_str_join yB jQ (jA (qZ ["row"] (kO 1 []) rfl (kX (jG yK) rfl rfl (by decide +kernel) (by decide +kernel) (by decide +kernel)) (kZ 1 [] rfl rfl (by decide +kernel)) (kY (pv 0)) (fun _ _ _ _ _=>(j5 (i:=0) (show List.Nodup (["row"]:List Str) from by decide +kernel) rfl (by first|exact Or.inl rfl|exact Or.inr rfl))) (fun _ _ _ _ _=>qK) (fun _ _ _ _ _=>(@jC _ _ _ _ _ _ _ _ zZ (pv 0) jQ))) jD)))),?_⟩
 refine ⟨rfl,_,rfl,a,rfl,⟨_,hS⟩,fun w6 hw60=>?_⟩
 refine qN (K:=K) (a:=a) (xs:=zs.map V.str) (caps:=[]) (fun i ys Hi=>ys=((zs.take i).map (·++feedS)).map V.str) hw60 hS rfl ?_ ?_
 ·rintro i v ys Hi hv hi hle sm hY rfl
  obtain ⟨z,hz,rfl⟩:=lF hv
  have hzl:=hl9 z (List.mem_of_getElem? hz)
  have hi9:i<999:=by have:=(List.getElem?_eq_some_iff.mp hz).1;omega
  refine qL (qC ⟨_,rfl,_,_,rfl,rfl,small (by rw [show ("\n":Str).length=1 by decide +kernel];omega),kS hw60 sm hY hle (by omega) (Same.refl _) ?_⟩)
  rw [List.take_add_one,hz,List.map_append,List.map_append]
  rfl
 ·rintro ys Hf sm hY hle rfl
  rw [List.length_map,List.take_length] at hY
  have hsum:yN (zs.map (·++feedS))+(zs.map (·++feedS)).length≤1048576:=by
   have h3:=JA (B:=901) (zs.map (·++feedS)) (fun y hy=>by
    obtain ⟨x,hx,rfl⟩:=List.mem_map.mp hy
    have:=hl9 x hx
    rw [Str.length_append]
    have:feedS.length=1:=rfl
    omega)
   rw [List.length_map] at h3 ⊢
   have:zs.length*901≤999*901:=Nat.mul_le_mul_right _ hn
   omega
  exact ⟨"",w6,_,rfl,rfl,SqL.of hY,by decide,hsum,q Hf sm⟩
theorem QP:FnScope ["canal","reach","target","numbers"] ["canal","reach"] (jG yJ):=⟨rfl,rfl,rfl,by decide +kernel,rfl,by decide +kernel,by decide +kernel⟩
theorem fI {f:Addr} {fd:FuncData} (F:Fun K "reach_row" "reach_row" yJ f fd) (T:Txt K mg cP cB cU cR cN tkS) : FnOk P w K mg base jR 1 f fd ["canal","reach"] (bC (jN cP cB cU) cR cN):=by
 refine F.ok QP (fun vs H Q E h=>?_) (fun cdv A outer s H vs Q E hr h=>?_)
 ·obtain ⟨x,y,D,R,L,N,rn,r,rfl,⟨dx,rl,ll,nl,fs,rs,ls,ns,hx,hf,hrl,hll,hnl,hR,hL,hN,d1,d2,d3⟩,⟨dy,gs,hy,hg⟩,hnm,hok,htR,hrn,q⟩:=h
  rfl
 obtain ⟨x,y,D,R,L,N,rn,r,rfl,⟨dx,rl,ll,nl,fs,rs,ls,ns,hx,hf,hrl,hll,hnl,hR,hL,hN,d1,d2,d3⟩,⟨dy,gs,hy,hg⟩,hnm,hok,htR,hrn,q⟩:=h
 have hu:_<cLine:=hr.units0
 have hu1:=j8 hr
 refine ⟨_,(qR (jP (i:=2) QP.nd rfl (by first|exact Or.inl rfl|exact Or.inr rfl) (J0 (j3 kK (kE (pv 1) rfl) (cZ (v:=.int (-1)) rfl T.g_SEA ⟨_,rfl⟩) (j1 _)) jQ (kE (jH jV (kE (pv 0) rfl) (kE (pv 1) rfl) (fun _ _=>rfl)) rfl)))
   (@jI _ _ _ _ _ (yM (i:=3) ["number"] (kO 1 []) QP.nd rfl (by first|exact Or.inl rfl|exact Or.inr rfl) rfl (kX (jG yJ) rfl rfl (by decide +kernel) (by decide +kernel) (by decide +kernel)) (kZ 1 [] rfl rfl (by decide +kernel)) (dO (qS (@jA _ _ _ _ _ (kE (pv 1) rfl) (@jA _ _ _ _ _ (kE (pv 1) rfl) (@jA _ _ _ _ _ (kE (pv 1) rfl) (@jA _ _ _ _ _ (kE (pv 1) rfl) jD (by rfl)) (by rfl)) (by rfl)) (by rfl)))) (fun _ _ _ _ _=>(j5 (i:=0) (show List.Nodup (["number"]:List Str) from by decide +kernel) rfl (by first|exact Or.inl rfl|exact Or.inr rfl))) (fun _ _ _ _ _=>qK) (fun _ _ _ _ _=>(qP vE (by rfl) T.z_str PyProof.Rows.boot_str (jA (pv 0) jD))))
   (@jL _ _ _ (@j4 _ _ _ _ (kW PySem.F.plainAttrs_str PySem.F.slot_str_join PySem.F.type_str_join yB jQ (jA (@jC _ _ _ _ _ _ _ _ vU (@jC _ _ _ _ _ _ _ _ vU (kF (jA jQ (jA (kE (pv 1) rfl) jD))) (pv 3)) (kF (jA (pv 2) jD))) jD)))))),?_⟩
 have hw:=JT hrn hok
 have hq:∀H',Same H H'→Q (.str (Str.join " " (jX rn (.reach r)))) H':=fun H' s=>by rw [J4];exact q H' s
 obtain ⟨h8,⟨g1,g2,g3,g4,g5,g6,g7,g8,g9⟩,_⟩:=hok
 refine ⟨fun σ' H'=>σ'=[some (.ref x),some (.ref y),some (.str (q8 rn r.target)),none]∧H'=H,?_,?_⟩
 ·refine ⟨_,rfl,y,cR,dy,_,_,rfl,hy,T.clR,T.nR_target,hg.2.2.2.2.2,rfl,_,rfl,?_⟩
  by_cases ht:r.target = -1
  ·refine kA (congrArg V.int ht) ⟨?_,rfl⟩
   rw [show q8 rn r.target="sea" from if_neg (by omega)]
   rfl
  ·obtain ⟨z,dz,gz,hat,hz,hgz⟩:=QW hR hnm (show 0≤r.target by omega) htR
   refine j0 (fun e=>ht (V.int.inj e)) ⟨_,rfl,x,cN,dx,_,_,rfl,hx,T.clN,T.nN_reaches,hf.1,_,rfl,y,cR,dy,_,_,rfl,hy,T.clR,T.nR_target,hg.2.2.2.2.2,rl,_,_,_,rfl,rfl,SqL.of hrl,hat,z,cR,dz,_,_,rfl,hz,T.clR,T.nR_name,hgz,?_,rfl⟩
   rw [show q8 rn r.target=jF (rn r.target.toNat) from if_pos (by omega)]
   rfl
 rintro σ' H' ⟨rfl,rfl⟩
 refine ⟨_,rfl,y,cR,dy,_,_,rfl,hy,T.clR,T.nR_least,hg.2.1,_,rfl,y,cR,dy,_,_,rfl,hy,T.clR,T.nR_crest,hg.2.2.1,_,rfl,y,cR,dy,_,_,rfl,hy,T.clR,T.nR_berths,hg.2.2.2.1,_,rfl,y,cR,dy,_,_,rfl,hy,T.clR,T.nR_water,hg.2.2.2.2.1,zz4,fun p2 hp2=>?_⟩
 have s2:=jM hp2 (.tup ([r.least,r.crest,r.berths,r.water].map V.int))
 have h2:upd H' p2 (.tup ([r.least,r.crest,r.berths,r.water].map V.int)) p2=some (.tup ([r.least,r.crest,r.berths,r.water].map V.int)):=jE
 refine ⟨p2,rfl,⟨_,SqT.of h2⟩,fun D' hD=>?_⟩
 have hb:∀z∈[r.least,r.crest,r.berths,r.water],0≤z∧z≤9999999999999:=by
  intro z hz
  simp only [List.mem_cons,List.mem_nil_iff,or_false] at hz
  rcases hz with rfl|rfl|rfl|rfl<;>omega
 refine bN (K:=K) (a:=p2) (xs:=[r.least,r.crest,r.berths,r.water].map V.int) (caps:=[]) (fun i ys Hi=>ys=(([r.least,r.crest,r.berths,r.water].take i).map fun z=>V.str (jU z))) hD h2 rfl ?_ ?_
 ·rintro i v ys Hi hx hi hle sm hY rfl
  obtain ⟨z,rfl,hz⟩:=cF hx
  have hzb:=hb z (List.mem_of_getElem? hz)
  refine qL (qC ⟨_,rfl,_,rfl,(kT hzb.1 hzb.2).1,?_⟩)
  refine kS hD sm hY hle (by have:i<4:=hi;omega) (Same.refl _) ?_
  rw [List.take_add_one,hz,List.map_append]
  rfl
 rintro ys H3 s3 hDl hle rfl
 have s23:=s2.trans s3
 have hy3:=s23 _ _ hy
 refine ⟨rfl,_,rfl,y,cR,dy,_,_,rfl,hy3,T.clR,T.nR_name,hg.1,zz2,fun p1 hp1=>?_⟩
 have s4:=jM hp1 (.lst [V.str "reach",V.str r.name])
 refine ⟨_,rfl,p1,D',_,_,rfl,rfl,jE,s4 _ _ hDl,zz6,fun p3 hp3=>?_⟩
 have s5:=jM hp3 (.lst ((jX rn (.reach r)).take 6 |>.map V.str))
 refine ⟨_,rfl,zz1,fun p4 hp4=>?_⟩
 have s6:=jM hp4 (.lst [V.str (q8 rn r.target)])
 refine ⟨p3,p4,_,_,rfl,rfl,s6 _ _ jE,jE,zz7,fun p5 hp5=>?_⟩
 refine ⟨" ",p5,jX rn (.reach r),rfl,rfl,SqL.of jE,by decide +kernel,hw,hq _ ?_⟩
 exact ((((s23.trans s4).trans s5).trans s6).trans (jM hp5 _))
theorem JQ:FnScope ["canal","lock","high","low","behind"] ["canal","lock"] (jG zF):=⟨rfl,rfl,rfl,by decide +kernel,rfl,by decide +kernel,by decide +kernel⟩
theorem fG {f:Addr} {fd:FuncData} (F:Fun K "lock_row" "lock_row" zF f fd) (T:Txt K mg cP cB cU cR cN tkS) (MP_kind:MeK P w K mg base 1 (jN cP cB cU) "kind" ["self"] (qI (jN cP cB cU) (fun kd _=>V.str (match kd with|.plain=>"plain"|.basin=>"basin"|.pump=>"pump")))) (MP_extra:MeK P w K mg base 1 (jN cP cB cU) "extra" ["self"] (qI (jN cP cB cU) (fun kd v=>V.int (match kd with|.plain=>0|.basin=>v|.pump=>v)))):FnOk P w K mg base jR 2 f fd ["canal","lock"] (bL (jN cP cB cU) cR cN):=by
 refine F.ok JQ (fun vs H Q E h=>?_) (fun cdv A outer s H vs Q E hr h=>?_)
 ·obtain ⟨x,y,D,R,L,N,rn,l,rfl,⟨dx,rl,ll,nl,fs,rs,ls,ns,hx,hf,hrl,hll,hnl,hR,hL,hN,d1,d2,d3⟩,⟨dl,hl⟩,hnm,hok,hrn,q⟩:=h
  rfl
 obtain ⟨x,y,D,R,L,N,rn,l,rfl,⟨dx,rl,ll,nl,fs,rs,ls,ns,hx,hf,hrl,hll,hnl,hR,hL,hN,d1,d2,d3⟩,⟨dl,hl⟩,hnm,hok,hrn,q⟩:=h
 have hu:_<cLine:=hr.units0
 have hu1:=j8 hr
 refine ⟨_,(@jI _ _ _ _ _ (jP (i:=2) JQ.nd rfl (by first|exact Or.inl rfl|exact Or.inr rfl) (kE (jH jV (kE (pv 0) rfl) (kE (pv 1) rfl) (fun _ _=>rfl)) rfl))
   (@jI _ _ _ _ _ (jP (i:=3) JQ.nd rfl (by first|exact Or.inl rfl|exact Or.inr rfl) (kE (jH jV (kE (pv 0) rfl) (kE (pv 1) rfl) (fun _ _=>rfl)) rfl))
   (qR (jP (i:=4) JQ.nd rfl (by first|exact Or.inl rfl|exact Or.inr rfl) (J0 (j3 kK (ZL MP_kind hr (pv 1)) jQ (j1 _)) (kF jD) (kF (jA (ZL MP_kind hr (pv 1)) (jA (qP vE (by rfl) T.z_str PyProof.Rows.boot_str (jA (ZL MP_extra hr (pv 1)) jD)) jD)))))
   (@jL _ _ _ (@j4 _ _ _ _ (kW PySem.F.plainAttrs_str PySem.F.slot_str_join PySem.F.type_str_join yB jQ (jA (@jC _ _ _ _ _ _ _ _ vU (kF (@jA _ _ _ _ _ jQ (@jA _ _ _ _ _ (kE (pv 1) rfl) (@jA _ _ _ _ _ (pv 2) (@jA _ _ _ _ _ (pv 3) (@jA _ _ _ _ _ (qP vE (by rfl) T.z_str PyProof.Rows.boot_str (jA (kE (pv 1) rfl) jD)) jD (by rfl)) (by rfl)) (by rfl)) (by rfl)) (by rfl))) (pv 4)) jD))))))),?_⟩
 have hw:=JT hrn hok
 have hq:∀H',Same H H'→Q (.str (Str.join " " (jX rn (.lock l)))) H':=fun H' s=>by rw [J4];exact q H' s
 obtain ⟨h8,⟨g1,g2,g3,g4,g5,g6,g7,g8⟩,_⟩:=hok
 obtain ⟨zh,dzh,gzh,hath,hzh,hgh⟩:=QW hR hnm (show 0≤l.high by omega) g2
 obtain ⟨zl,dzl,gzl,hatl,hzl,hgl⟩:=QW hR hnm (show 0≤l.low by omega) (show l.low<(R.length:Int) by omega)
 refine ⟨_,rfl,x,cN,dx,_,_,rfl,hx,T.clN,T.nN_reaches,hf.1,_,rfl,y,_,dl,_,_,rfl,hl,T.cl l.kd,T.n_high l.kd,m8 l.kd _ _ _ _ _,rl,_,_,_,rfl,rfl,SqL.of hrl,hath,zh,cR,dzh,_,_,rfl,hzh,T.clR,T.nR_name,hgh,?_⟩
 refine ⟨_,rfl,x,cN,dx,_,_,rfl,hx,T.clN,T.nN_reaches,hf.1,_,rfl,y,_,dl,_,_,rfl,hl,T.cl l.kd,T.n_low l.kd,nX l.kd _ _ _ _ _,rl,_,_,_,rfl,rfl,SqL.of hrl,hatl,zl,cR,dzl,_,_,rfl,hzl,T.clR,T.nR_name,hgl,?_⟩
 refine ⟨fun σ' H'=>∃b:Addr,σ'=[some (.ref x),some (.ref y),some (.str (jF (rn l.high.toNat))),some (.str (jF (rn l.low.toNat))),some (.ref b)]∧H' b=some (.lst ((zU l.kd l.extra).map V.str))∧Same H H',?_,?_⟩
 ·obtain ⟨nm,hi,lo,ro,kd,ex⟩:=l
  cases kd with
  |plain=>exact ⟨_,rfl,.plain,y,dl,_,rfl,hl,z9 .plain _ _ _ _ _,y,_,_,_,_,_,rfl,⟨dl,hl⟩,rfl,_,rfl,kA rfl ⟨zz0,fun b hb=>⟨b,rfl,jE,jM hb _⟩⟩⟩
  |basin =>
   have hx:=g8 (by intro z;cases z)
   have hx':1≤ex∧ex≤ro:=hx
   have g6':ro≤999999999999:=g6
   refine ⟨_,rfl,.basin,y,dl,_,rfl,hl,z9 .basin _ _ _ _ _,y,_,_,_,_,_,rfl,⟨dl,hl⟩,rfl,_,rfl,j0 (fun z=>eH (V.str.inj z).symm) ⟨_,rfl,.basin,y,dl,_,rfl,hl,z9 .basin _ _ _ _ _,y,_,_,_,_,_,rfl,⟨dl,hl⟩,_,rfl,.basin,y,dl,_,rfl,hl,cG .basin _ _ _ _ _,y,_,_,_,_,_,rfl,⟨dl,hl⟩,_,rfl,(kT (n:=ex) (by omega) (by omega)).1,zz2,fun b hb=>⟨b,rfl,jE,jM hb _⟩⟩⟩
  |pump =>
   have hx:=g8 (by intro z;cases z)
   have hx':1≤ex∧ex≤ro:=hx
   have g6':ro≤999999999999:=g6
   refine ⟨_,rfl,.pump,y,dl,_,rfl,hl,z9 .pump _ _ _ _ _,y,_,_,_,_,_,rfl,⟨dl,hl⟩,rfl,_,rfl,j0 (fun z=>eG (V.str.inj z).symm) ⟨_,rfl,.pump,y,dl,_,rfl,hl,z9 .pump _ _ _ _ _,y,_,_,_,_,_,rfl,⟨dl,hl⟩,_,rfl,.pump,y,dl,_,rfl,hl,cG .pump _ _ _ _ _,y,_,_,_,_,_,rfl,⟨dl,hl⟩,_,rfl,(kT (n:=ex) (by omega) (by omega)).1,zz2,fun b hb=>⟨b,rfl,jE,jM hb _⟩⟩⟩
 rintro σ' H' ⟨b,rfl,hb,s1⟩
 have hl1:=s1 _ _ hl
 refine ⟨rfl,_,rfl,y,_,dl,_,_,rfl,hl1,T.cl l.kd,T.n_name l.kd,dD l.kd _ _ _ _ _,_,rfl,_,rfl,_,rfl,y,_,dl,_,_,rfl,hl1,T.cl l.kd,T.n_room l.kd,m7 l.kd _ _ _ _ _,_,rfl,(kT (n:=l.room) (by omega) (by omega)).1,zz5,fun wl hwl=>?_⟩
 have s2:=jM hwl (.lst ([("lock":Str),l.name,jF (rn l.high.toNat),jF (rn l.low.toNat),jU l.room].map V.str))
 refine ⟨_,rfl,wl,b,_,_,rfl,rfl,jE,s2 _ _ hb,?_,fun p5 hp5=>?_⟩
 ·have:(zU l.kd l.extra).length≤2:=by cases l.kd<;>(first|exact Nat.zero_le _|exact Nat.le_refl _)
  rw [List.length_map]
  exact small (by show 5+_≤1000;omega)
 have s3:=jM hp5 (.lst ([("lock":Str),l.name,jF (rn l.high.toNat),jF (rn l.low.toNat),jU l.room].map V.str++(zU l.kd l.extra).map V.str))
 refine ⟨" ",p5,jX rn (.lock l),rfl,rfl,?_,by decide +kernel,hw,hq _ ((s1.trans s2).trans s3)⟩
 rw [Q0,List.map_append]
 exact SqL.of jE
theorem JR:FnScope ["canal","night","words","reach","pair"] ["canal","night"] (jG zG):=⟨rfl,rfl,rfl,by decide +kernel,rfl,by decide +kernel,by decide +kernel⟩
theorem fH {f:Addr} {fd:FuncData} (F:Fun K "night_row" "night_row" zG f fd) (T:Txt K mg cP cB cU cR cN tkS) : FnOk P w K mg base jR 1 f fd ["canal","night"] (bD (jN cP cB cU) cR cN):=by
 refine F.ok JR (fun vs H Q E h=>?_) (fun cdv A outer s H vs Q E hr h=>?_)
 ·obtain ⟨x,y,D,R,L,N,rn,p,rfl,⟨dx,rl,ll,nl,fs,rs,ls,ns,hx,hf,hrl,hll,hnl,hR,hL,hN,d1,d2,d3⟩,⟨nl₂,qs,hnv,hny,hQ,_⟩,hnm,hpl,hpo,h8,hrn,q⟩:=h
  rfl
 obtain ⟨x,y,D,R,L,N,rn,p,rfl,⟨dx,rl,ll,nl,fs,rs,ls,ns,hx,hf,hrl,hll,hnl,hR,hL,hN,d1,d2,d3⟩,⟨nl₂,qs,hnv,hny,hQ,_⟩,hnm,hpl,hpo,h8,hrn,q⟩:=h
 have hu:_<cLine:=hr.units0
 have hu1:=j8 hr
 refine ⟨_,(@jI _ _ _ _ _ (jP (i:=2) JR.nd rfl (by first|exact Or.inl rfl|exact Or.inr rfl) (kF (jA jQ jD)))
   (@jI _ _ _ _ _ (vR PassesOwn.never rfl (nK (by rfl) T.z_zip (jA (kE (pv 0) rfl) (jA (pv 1) jD))) (ZK rfl (v8 (j5 (i:=3) JR.nd rfl (by first|exact Or.inl rfl|exact Or.inr rfl)) (v8 (j5 (i:=4) JR.nd rfl (by first|exact Or.inl rfl|exact Or.inr rfl)) ZD)))
    (@jL _ _ _ (kJ (j3 (dP hu) (pv 4) (qS (jA jB (jA jB jD))) (j1 _)) (@jL _ _ _ (qO (kW PySem.F.plainAttrs_list PySem.F.slot_list_extend PySem.F.type_list_extend Q3 (pv 2) (jA (kF (@jA _ _ _ _ _ (kE (pv 3) rfl) (@jA _ _ _ _ _ (qP vE (by rfl) T.z_str PyProof.Rows.boot_str (jA (jH jT (pv 4) jB (fun _ _=>rfl)) jD)) (@jA _ _ _ _ _ (qP vE (by rfl) T.z_str PyProof.Rows.boot_str (jA (jH jT (pv 4) jB (fun _ _=>rfl)) jD)) jD (by rfl)) (by rfl)) (by rfl))) jD)))) kM)))
   (@jL _ _ _ (@j4 _ _ _ _ (kW PySem.F.plainAttrs_str PySem.F.slot_str_join PySem.F.type_str_join yB jQ (jA (pv 2) jD)))))),?_⟩
 cases hnv
 have hok:=QY hpo (Nat.le_refl _) (by omega)
 have hw:=JT hrn hok
 have hq:∀H',Same H H'→Q (.str (Str.join " " (jX rn (.night (qA p p.length))))) H':=fun H' s=>by rw [J4];exact q H' s
 refine ⟨zz1,fun wl hwl=>?_⟩
 have s1:=jM hwl (.lst [V.str "night"])
 refine ⟨_,rfl,x,cN,dx,_,_,rfl,(s1 _ _ hx),T.clN,T.nN_reaches,hf.1,_,rfl,rl,y,rfl,⟨_,SqL.of (s1 _ _ hrl)⟩,⟨_,SqL.of (s1 _ _ hny)⟩,m6 (K:=K) (a1:=rl) (a2:=y) (xs:=rs) (ys:=qs) (fun j σ Hj=>∃(c3 c4:Option V),σ=[some (.ref x),some (.ref y),some (.ref wl),c3,c4]∧Hj wl=some (.lst ((jX rn (.night (qA p j))).map V.str))∧Same H Hj)
  ⟨none,none,rfl,jE,s1⟩ (fun j σ Hj _ ⟨_,_,_,_,s⟩=>⟨SqL.of (s _ _ hrl),SqL.of (s _ _ hny)⟩) ?_ ?_⟩
 ·rintro j v w σ Hj T₁ hv hw' ⟨c3,c4,rfl,hwl2,sj⟩ hT
  obtain ⟨r,hr,z,rfl,dz,gz,hz,hgz⟩:=hR.2 j v hv
  obtain ⟨pq,hpq,tq,rfl,htq⟩:=hQ.2 j w hw'
  have hj8:j<8:=by have:=(List.getElem?_eq_some_iff.mp hr).1;omega
  have hjp:j<p.length:=(List.getElem?_eq_some_iff.mp hpq).1
  obtain ⟨k1,k2,k3,k4⟩:=hpo _ (List.mem_of_getElem? hpq)
  have sT:=jM hT (.tup [V.ref z,V.ref tq])
  have sjT:=sj.trans sT
  have hwl3:=sT _ _ hwl2
  refine ⟨T₁,_,rfl,SqT.of jE,rfl,_,_,rfl,_,_,rfl,rfl,?_⟩
  generalize upd Hj T₁ (.tup [V.ref z,V.ref tq])=Hk at sT sjT hwl3 ⊢
  refine ⟨_,rfl,zz2,fun tz htz=>?_⟩
  have u:=jM htz (.tup [V.int 0,V.int 0])
  have sju:=sjT.trans u
  have hwl4:=u _ _ hwl3
  refine ⟨tq,tz,_,_,rfl,rfl,SqT.of (sju _ _ htq),SqT.of jE,rfl,rfl,_,rfl,?_⟩
  show if (!yU [V.int pq.1,V.int pq.2] [V.int 0,V.int 0])=true then _ else _
  rw [dE]
  by_cases hz0:pq.1=0∧pq.2=0
  ·refine ZQ hz0 ⟨_,_,rfl,?_,sju⟩
   rw [zX,Z7 hpq hz0]
   show _=some (HO.lst ((jX rn (.night (qA p j++[]))).map V.str))
   rw [List.append_nil]
   exact hwl4
  ·refine ZP hz0 ⟨_,rfl,.inl ⟨rfl,_,SqL.of hwl4⟩,_,rfl,z,cR,dz,_,_,rfl,(sju _ _ hz),T.clR,T.nR_name,hgz.1,_,rfl,tq,_,_,_,rfl,rfl,SqT.of (sju _ _ htq),rfl,_,rfl,(kT (n:=pq.1) (by omega) (by omega)).1,_,rfl,tq,_,_,_,rfl,rfl,SqT.of (sju _ _ htq),rfl,_,rfl,(kT (n:=pq.2) (by omega) (by omega)).1,zz3,fun w3 hw3=>?_⟩
   have u2:=jM hw3 (.lst [V.str r.name,V.str (jU pq.1),V.str (jU pq.2)])
   have hlen:((jX rn (.night (qA p j))).map V.str).length≤900:=by
    rw [List.length_map]
    have:=(JZ hrn (QY hpo (n:=j) (by omega) (by omega))).1
    omega
   refine ⟨wl,w3,_,_,rfl,rfl,u2 _ _ hwl4,jE,Nat.le_of_lt (qJ (by show _+3≤1000;omega)),?_⟩
   refine ⟨_,_,rfl,?_,kB hwl (sju.trans u2)⟩
   rw [jE,zX,Z6 hpq hz0,hnm j r hr]
   show _=some (HO.lst ((("night":Str)::(qA p j++[(j,pq.1,pq.2)]).flatMap (fun q=>([jF (rn q.1),jU q.2.1,jU q.2.2]:List Str))).map V.str))
   rw [List.flatMap_append,← List.cons_append,List.map_append]
   rfl
 ·rintro σ Hj ⟨c3,c4,rfl,hwl2,sj⟩
  rw [hR.1,hQ.1,show min R.length p.length=p.length by omega] at hwl2
  exact ⟨rfl,_,rfl," ",wl,_,rfl,rfl,SqL.of hwl2,by decide +kernel,hw,hq _ sj⟩
theorem Z2:FnScope ["canal","rows"] ["canal"] (jG vN):=⟨rfl,rfl,rfl,by decide +kernel,rfl,by decide +kernel,by decide +kernel⟩
theorem fJ {f:Addr} {fd:FuncData} (F:Fun K "shown" "shown" vN f fd) (T:Txt K mg cP cB cU cR cN tkS) (D_reach_row:Def P w K mg base 1 "reach_row" ["canal","reach"] [] (bC (jN cP cB cU) cR cN)) (D_lock_row:Def P w K mg base 2 "lock_row" ["canal","lock"] [] (bL (jN cP cB cU) cR cN)) (D_night_row:Def P w K mg base 1 "night_row" ["canal","night"] [] (bD (jN cP cB cU) cR cN)) (D_text_of:Def P w K mg base 1 "text_of" ["rows"] [] (bX K)):FnOk P w K mg base jR 3 f fd ["canal"] (cS (jN cP cB cU) cR cN):=by
 refine F.ok Z2 (fun vs H Q E h=>?_) (fun cdv A outer s H vs Q E hr h=>?_)
 ·obtain ⟨x,D,R,L,N,rn,rfl,hc,ok,q⟩:=h
  rfl
 obtain ⟨x,D,R,L,N,rn,rfl,hc,ok,q⟩:=h
 have hu:_<cLine:=hr.units0
 have hu1:=j8 hr
 refine ⟨_,(@jI _ _ _ _ _ (yM (i:=1) ["reach","canal"] (kO 1 [0]) Z2.nd rfl (by first|exact Or.inl rfl|exact Or.inr rfl) rfl (kX (jG vN) rfl rfl (by decide +kernel) (by decide +kernel) (by decide +kernel)) (kZ 1 [0] rfl rfl (by decide +kernel)) (kY (kE (pv 0) rfl)) (fun _ _ _ _ _=>(j5 (i:=0) (show List.Nodup (["reach","canal"]:List Str) from by decide +kernel) rfl (by first|exact Or.inl rfl|exact Or.inr rfl))) (fun _ _ _ _ _=>qK) (fun _ _ _ _ _=>(kD D_reach_row hr rfl (jA (pv 1) (jA (pv 0) jD)))))
   (@jI _ _ _ _ _ (qO (kW PySem.F.plainAttrs_list PySem.F.slot_list_extend PySem.F.type_list_extend Q3 (pv 1) (jA (qZ ["lock","canal"] (kO 1 [0]) rfl (kX (jG vN) rfl rfl (by decide +kernel) (by decide +kernel) (by decide +kernel)) (kZ 1 [0] rfl rfl (by decide +kernel)) (kY (kE (pv 0) rfl)) (fun _ _ _ _ _=>(j5 (i:=0) (show List.Nodup (["lock","canal"]:List Str) from by decide +kernel) rfl (by first|exact Or.inl rfl|exact Or.inr rfl))) (fun _ _ _ _ _=>qK) (fun _ _ _ _ _=>(kD D_lock_row hr rfl (jA (pv 1) (jA (pv 0) jD))))) jD)))
   (@jI _ _ _ _ _ (qO (kW PySem.F.plainAttrs_list PySem.F.slot_list_extend PySem.F.type_list_extend Q3 (pv 1) (jA (qZ ["night","canal"] (kO 1 [0]) rfl (kX (jG vN) rfl rfl (by decide +kernel) (by decide +kernel) (by decide +kernel)) (kZ 1 [0] rfl rfl (by decide +kernel)) (kY (kE (pv 0) rfl)) (fun _ _ _ _ _=>(j5 (i:=0) (show List.Nodup (["night","canal"]:List Str) from by decide +kernel) rfl (by first|exact Or.inl rfl|exact Or.inr rfl))) (fun _ _ _ _ _=>qK) (fun _ _ _ _ _=>(kD D_night_row hr rfl (jA (pv 1) (jA (pv 0) jD))))) jD)))
   (@jL _ _ _ (@j4 _ _ _ _ (kD D_text_of hr rfl (jA (pv 1) jD))))))),?_⟩
 have hc0:=hc
 obtain ⟨dx,rl,ll,nl,fs,rs,ls,ns,hx,hf,hrl,hll,hnl,hR,hL,hN,d1,d2,d3⟩:=hc
 have b1:=ok.r8
 have b2:=ok.l8
 have b3:=ok.n6
 have hN0:AllAt (NAt [] H) ns N:=hN.mono (NAt.less (by simp))
 refine ⟨_,rfl,x,cN,dx,_,_,rfl,hx,T.clN,T.nN_reaches,hf.1,rl,rfl,⟨_,SqL.of hrl⟩,fun w1 hw10=>?_⟩
 refine qN (K:=K) (a:=rl) (xs:=rs) (caps:=[some (.ref x)]) (fun i ys Hi=>ys=((R.take i).map fun r=>j7 rn (.reach r)).map V.str) hw10 (SqL.of hrl) rfl ?_ ?_
 ·rintro i v ys Hi hv hi hle sm hY rfl
  obtain ⟨r,hr,y,rfl,hy⟩:=hR.2 i v hv
  obtain ⟨o1,o2⟩:=ok.reach hr
  have hi8:i<8:=by rw [hR.1] at hi;omega
  refine qL (qC ⟨_,rfl,_,rfl,x,y,D,R,L,N,rn,r,rfl,hc0.same sm,hy.same sm,ok.nm,o1,o2,ok.hrn,fun H' s'=>kS hw10 sm hY hle (by omega) s' ?_⟩)
  rw [List.take_add_one,hr,List.map_append,List.map_append]
  rfl
 rintro ys H1 s1 hw1 hle1 rfl
 rw [hR.1,List.take_length] at hw1
 refine ⟨_,rfl,.inl ⟨rfl,_,SqL.of hw1⟩,_,rfl,x,cN,dx,_,_,rfl,(s1 _ _ hx),T.clN,T.nN_locks,hf.2.1,ll,rfl,⟨_,SqL.of (s1 _ _ hll)⟩,fun w2 hw20=>?_⟩
 refine qN (K:=K) (a:=ll) (xs:=ls) (caps:=[some (.ref x)]) (fun i ys Hi=>ys=((L.take i).map fun l=>j7 rn (.lock l)).map V.str) hw20 (SqL.of (s1 _ _ hll)) rfl ?_ ?_
 ·rintro i v ys Hi hv hi hle sm hY rfl
  obtain ⟨l,hl,y,rfl,hy⟩:=hL.2 i v hv
  have hi8:i<8:=by rw [hL.1] at hi;omega
  have sm1:=s1.trans sm
  refine qL (qC ⟨_,rfl,_,rfl,x,y,D,R,L,N,rn,l,rfl,hc0.same sm1,hy.same sm1,ok.nm,ok.lock (List.mem_of_getElem? hl),ok.hrn,fun H' s'=>kS hw20 sm hY hle (by omega) s' ?_⟩)
  rw [List.take_add_one,hl,List.map_append,List.map_append]
  rfl
 rintro ys H2 s2 hw2 hle2 rfl
 rw [hL.1,List.take_length] at hw2
 have hw12:=s2 _ _ hw1
 refine ⟨w1,w2,_,_,rfl,rfl,hw12,hw2,?_,?_⟩
 ·rw [List.length_map,List.length_map,List.length_map,List.length_map];exact small (by omega)
 have s12:Same H (upd H2 w1 (.lst ((R.map fun r=>j7 rn (.reach r)).map V.str++(L.map fun l=>j7 rn (.lock l)).map V.str))):=kB hw10 (s1.trans s2)
 have hw13:upd H2 w1 (.lst ((R.map fun r=>j7 rn (.reach r)).map V.str++(L.map fun l=>j7 rn (.lock l)).map V.str)) w1=_:=jE
 generalize upd H2 w1 (.lst ((R.map fun r=>j7 rn (.reach r)).map V.str++(L.map fun l=>j7 rn (.lock l)).map V.str))=H3 at s12 hw13 ⊢
 refine ⟨_,rfl,.inl ⟨rfl,_,SqL.of hw13⟩,_,rfl,x,cN,dx,_,_,rfl,(s12 _ _ hx),T.clN,T.nN_nights,hf.2.2.1,nl,rfl,⟨_,SqL.of (s12 _ _ hnl)⟩,fun w3 hw30=>?_⟩
 refine qN (K:=K) (a:=nl) (xs:=ns) (caps:=[some (.ref x)]) (fun i ys Hi=>ys=((N.take i).map fun p=>j7 rn (.night (yA p))).map V.str) hw30 (SqL.of (s12 _ _ hnl)) rfl ?_ ?_
 ·rintro i v ys Hi hv hi hle sm hY rfl
  obtain ⟨p,hp,hat⟩:=hN0.2 i v hv
  have hat:=NAt.same (s12.trans sm) _ _ hat
  obtain ⟨y,rfl⟩:∃y,v=.ref y:=by obtain ⟨l,_,e,_⟩:=hat;exact ⟨l,e⟩
  have hi8:i<8:=by rw [hN.1] at hi;omega
  obtain ⟨n1,n2⟩:=ok.nn p (List.mem_of_getElem? hp)
  refine qL (qC ⟨_,rfl,_,rfl,x,y,D,R,L,N,rn,p,rfl,hc0.same (s12.trans sm),hat,ok.nm,n1,n2,b1,ok.hrn,fun H' s'=>kS hw30 sm hY hle (by omega) s' ?_⟩)
  rw [List.take_add_one,hp,List.map_append,List.map_append]
  rfl
 rintro ys H4 s4 hw3 hle4 rfl
 rw [hN.1,List.take_length] at hw3
 have hw14:=s4 _ _ hw13
 refine ⟨w1,w3,_,_,rfl,rfl,hw14,hw3,?_,?_⟩
 ·rw [List.length_append,List.length_map,List.length_map,List.length_map,List.length_map,List.length_map,List.length_map];exact small (by omega)
 have e:(R.map fun r=>j7 rn (.reach r)).map V.str++(L.map fun l=>j7 rn (.lock l)).map V.str++(N.map fun p=>j7 rn (.night (yA p))).map V.str=(kQ rn R L N).map V.str:=by unfold kQ;rw [List.map_append,List.map_append]
 rw [e]
 have s5:Same H (upd H4 w1 (.lst ((kQ rn R L N).map V.str))):=kB hw10 (s12.trans s4)
 have hw15:upd H4 w1 (.lst ((kQ rn R L N).map V.str)) w1=_:=jE
 generalize upd H4 w1 (.lst ((kQ rn R L N).map V.str))=H5 at s5 hw15 ⊢
 obtain ⟨ro1,ro2⟩:=ZB ok
 exact ⟨_,rfl,w1,kQ rn R L N,rfl,SqL.of hw15,by omega,fun z hz=>Nat.le_trans (ro2 z hz) (by decide),fun H6 s6=>q H6 (s5.trans s6)⟩
theorem fW:FnScope ["script","k"] ["script","k"] (jG y8):=⟨rfl,rfl,rfl,by decide +kernel,rfl,by decide +kernel,by decide +kernel⟩
theorem eW {f:Addr} {fd:FuncData} (F:Fun K "_law_cell_at" "_law_cell_at" y8 f fd) (T:Txt K mg cP cB cU cR cN tkS) : FnOk P w K mg base jR 1 f fd ["script","k"] (ZG K):=by
 refine F.ok fW (fun vs H Q E h=>?_) (fun cdv A outer s H vs Q E hr h=>?_)
 ·obtain ⟨a,ns,k,rfl,hS,q⟩:=h
  rfl
 obtain ⟨a,ns,k,rfl,hS,q⟩:=h
 have hu:_<cLine:=hr.units0
 have hu1:=j8 hr
 refine ⟨_,(@jI _ _ _ _ _ (kJ (j3 JF (pv 1) (v4 QO (by rfl) T.z_len PySem.boot_len (jA (pv 0) jD)) (j1 _)) (@jL _ _ _ (@j4 _ _ _ _ (jH jV (pv 0) (pv 1) (fun _ _=>rfl)))) kM)
   (@jL _ _ _ (@j4 _ _ _ _ jB))),?_⟩
 refine ⟨_,rfl,_,rfl,a,_,rfl,.inl hS,_,_,rfl,rfl,_,rfl,?_⟩
 refine JH (fun c=>?_) (fun c=>?_)
 ·have c':(k:Int)<(((ns.map V.int).length:Nat):Int):=of_decide_eq_true c
  rw [List.length_map] at c'
  exact ⟨_,rfl,_,rfl,a,_,_,_,rfl,rfl,hS,mD (by omega),q⟩
 ·have c':¬(k:Int)<(((ns.map V.int).length:Nat):Int):=of_decide_eq_false (Bool.eq_false_iff.mpr c)
  rw [List.length_map] at c'
  have e:ns.getD k 0=0:=by rw [List.getD_eq_getElem?_getD,List.getElem?_eq_none (by omega)];rfl
  rw [e] at q
  exact q
theorem qQ:FnScope ["cell","many","signs","base","k","size","at","names","sign","name"] ["cell","many"] (jG zC):=⟨rfl,rfl,rfl,by decide +kernel,rfl,by decide +kernel,by decide +kernel⟩
theorem e8 {f:Addr} {fd:FuncData} (F:Fun K "_law_names" "_law_names" zC f fd) (T:Txt K mg cP cB cU cR cN tkS) : FnOk P w K mg base jR 1 f fd ["cell","many"] (Q7):=by
 refine F.ok qQ (fun vs H Q E h=>?_) (fun cdv A outer s H vs Q E hr h=>?_)
 ·obtain ⟨c,rfl,q⟩:=h
  rfl
 obtain ⟨c,rfl,q⟩:=h
 have hu:_<cLine:=hr.units0
 have hu1:=j8 hr
 refine ⟨_,(@jI _ _ _ _ _ (jP (i:=2) qQ.nd rfl (by first|exact Or.inl rfl|exact Or.inr rfl) jQ)
   (@jI _ _ _ _ _ (jP (i:=3) qQ.nd rfl (by first|exact Or.inl rfl|exact Or.inr rfl) jQ)
   (@jI _ _ _ _ _ (vR PassesOwn.never rfl (z4 (by rfl) T.z_range (jA jB jD)) (j5 (i:=4) qQ.nd rfl (by first|exact Or.inl rfl|exact Or.inr rfl))
    (@jL _ _ _ (jP (i:=3) qQ.nd rfl (by first|exact Or.inl rfl|exact Or.inr rfl) (@jC _ _ _ _ _ _ _ _ zZ (pv 3) (jH dQ (pv 2) (@jC _ _ _ _ _ _ _ _ jZ (@jC _ _ _ _ _ _ _ _ kH (@jC _ _ _ _ _ _ _ _ kH (@jC _ _ _ _ _ _ _ _ qD (pv 0) jB) (@jC _ _ _ _ _ _ _ _ yO (@jC _ _ _ _ _ _ _ _ qD (pv 0) jB) (pv 4))) (@jC _ _ _ _ _ _ _ _ yO (pv 4) (pv 4))) jB) (fun _ _=>rfl))))))
   (@jI _ _ _ _ _ (jP (i:=5) qQ.nd rfl (by first|exact Or.inl rfl|exact Or.inr rfl) (@jC _ _ _ _ _ _ _ _ kH jB (@jC _ _ _ _ _ _ _ _ jZ (@jC _ _ _ _ _ _ _ _ qD (pv 0) jB) jB)))
   (@jI _ _ _ _ _ (jP (i:=6) qQ.nd rfl (by first|exact Or.inl rfl|exact Or.inr rfl) (@jC _ _ _ _ _ _ _ _ jZ (@jC _ _ _ _ _ _ _ _ qD (pv 0) jB) (pv 5)))
   (@jI _ _ _ _ _ (jP (i:=7) qQ.nd rfl (by first|exact Or.inl rfl|exact Or.inr rfl) (kF jD))
   (@jI _ _ _ _ _ (vR PassesOwn.never rfl (z4 (by rfl) T.z_range (jA (pv 1) jD)) (j5 (i:=4) qQ.nd rfl (by first|exact Or.inl rfl|exact Or.inr rfl))
    (@jI _ _ _ _ _ (jP (i:=8) qQ.nd rfl (by first|exact Or.inl rfl|exact Or.inr rfl) (jH dQ (pv 2) (@jC _ _ _ _ _ _ _ _ jZ (@jC _ _ _ _ _ _ _ _ kH (@jC _ _ _ _ _ _ _ _ qD (pv 0) jB) (@jC _ _ _ _ _ _ _ _ yO jB (pv 4))) jB) (fun _ _=>rfl)))
   (@jI _ _ _ _ _ (jP (i:=9) qQ.nd rfl (by first|exact Or.inl rfl|exact Or.inr rfl) (@jC _ _ _ _ _ _ _ _ zZ (@jC _ _ _ _ _ _ _ _ zZ (zL J7 (pv 3) J5 (v5 (pv 6))) (pv 8)) (zL J7 (pv 3) (v5 (@jC _ _ _ _ _ _ _ _ kH (pv 6) jB)) (v5 (pv 5)))))
   (qR (kJ (j3 kK (@jC _ _ _ _ _ _ _ _ jZ (pv 0) jB) jB (j1 _)) (@jL _ _ _ (jP (i:=9) qQ.nd rfl (by first|exact Or.inl rfl|exact Or.inr rfl) (zL J7 (pv 3) J5 (v5 (@jC _ _ _ _ _ _ _ _ kH (pv 4) jB))))) kM)
   (qR (kJ (j3 kK (@jC _ _ _ _ _ _ _ _ jZ (pv 0) jB) jB (j1 _)) (@jL _ _ _ (jP (i:=9) qQ.nd rfl (by first|exact Or.inl rfl|exact Or.inr rfl) (zL J7 (pv 3) (v5 (@jC _ _ _ _ _ _ _ _ vT jB (pv 4))) J5))) kM)
   (@jL _ _ _ (qO (kW PySem.F.plainAttrs_list PySem.F.slot_list_append PySem.F.type_list_append vP (pv 7) (jA (pv 9) jD)))))))))
   (@jL _ _ _ (@j4 _ _ _ _ (pv 7)))))))))),?_⟩
 refine ⟨_,rfl,by decide,by decide,Q5 (n:=Int.toNat 12) (fun i σ Hi=>∃ck:Option V,σ=[some (.int c),some (.int 8),some (.str lettersS),some (.str (jF ((kI c).take i))),ck,none,none,none,none,none]∧H=Hi) ⟨none,by rw [lZ];rfl,rfl⟩ ?_ ?_⟩
 ·rintro i σ Hi hi ⟨ck,rfl,rfl⟩
  have hi12:i<12:=hi
  rw [Int.zero_add]
  have hbl:(jF ((kI c).take i)).length≤12:=by rw [qY,List.length_take,qX];omega
  refine ⟨_,rfl,_,rfl,_,rfl,_,_,rfl,rfl,⟨by decide,by decide⟩,_,rfl,_,_,rfl,rfl,⟨by decide,by decide⟩,_,rfl,_,_,rfl,rfl,.inr ⟨by omega,by omega⟩,_,_,rfl,rfl,_,rfl,_,rfl,_,_,rfl,rfl,.inr ⟨by omega,by omega⟩,_,_,rfl,rfl,_,_,rfl,rfl,(by show (0:Int)<26;decide),lettersS,_,_,rfl,rfl,Z4,bV _,_,_,rfl,rfl,?_,?_⟩
  ·exact small (by show _+1≤1000;omega)
  ·refine ⟨some (.int (i:Int)),?_,rfl⟩
   show [some (V.int c),some (V.int 8),some (V.str lettersS),some (V.str (jF ((kI c).take i)++jF [vI (c / 4+c / 100*(i:Int)+(i:Int)*(i:Int))])),some (V.int (i:Int)),none,none,none,none,none]=_
   rw [Q6,lC c hi12]
 rintro σ Hi ⟨ck,rfl,rfl⟩
 rw [show (kI c).take (Int.toNat 12)=kI c from List.take_of_length_le (by rw [qX];exact Nat.le_refl 12)]
 have hbs:(jF (kI c)).length≤sizeLine:=small (by rw [qY,qX];decide)
 have hsz0:=Int.emod_nonneg (c / 16) (by decide:(12:Int)≠0)
 have hsz1:=Int.emod_lt_of_pos (c / 16) (by decide:(0:Int)<12)
 have hpos:(0:Int)<1+c / 16%12:=by omega
 have hat0:=Int.emod_nonneg (c / 32) (show (1+c / 16%12:Int)≠0 by omega)
 have hat1:=Int.emod_lt_of_pos (c / 32) hpos
 refine ⟨_,rfl,_,_,rfl,rfl,⟨by decide,by decide⟩,_,_,rfl,rfl,(by show (0:Int)<12;decide),_,_,rfl,rfl,_,rfl,_,_,rfl,rfl,⟨by decide,by decide⟩,_,rfl,_,_,rfl,rfl,hpos,zz0,fun nl hnl=>?_⟩
 refine ⟨_,rfl,_,rfl,by decide,by decide,Q5 (n:=Int.toNat 8) (fun i σ Hi=>∃ck cs cn:Option V,σ=[some (.int c),some (.int 8),some (.str lettersS),some (.str (jF (kI c))),ck,some (.int (1+c / 16%12)),some (.int (c / 32%(1+c / 16%12))),some (.ref nl),cs,cn]∧Hi nl=some (.lst (j2 (qF c) i))∧Same H Hi) ⟨_,none,none,rfl,jE,jM hnl _⟩ ?_ ?_⟩
 ·rintro i σ Hi hi ⟨ck,cs,cn,rfl,hn,sm⟩
  have hi8:i<8:=hi
  rw [Int.zero_add]
  refine ⟨_,rfl,_,rfl,_,_,rfl,rfl,⟨by decide,by decide⟩,_,rfl,_,_,rfl,rfl,.inl ⟨by decide,by decide⟩,_,_,rfl,rfl,_,_,rfl,rfl,(by show (0:Int)<26;decide),lettersS,_,_,rfl,rfl,Z4,bV _,?_⟩
  have l1:=fun a b=>Txt.slice_le (jF (kI c)) a b
  have hb12:(jF (kI c)).length=12:=by rw [qY,qX]
  refine ⟨_,rfl,_,rfl,_,rfl,_,rfl,hbs,_,rfl,_,_,rfl,rfl,?_,_,rfl,_,rfl,_,_,rfl,rfl,_,rfl,_,rfl,_,rfl,_,rfl,hbs,_,_,rfl,rfl,?_,?_⟩
  ·exact small (by have:=l1 none (some (c / 32%(1+c / 16%12)));show _+1≤1000;omega)
  ·exact small (by rw [Str.length_append];have:=l1 none (some (c / 32%(1+c / 16%12)));have:=l1 (some (c / 32%(1+c / 16%12)+1)) (some (1+c / 16%12));show _+1+_≤1000;omega)
  have hmid:Txt.slice (jF (kI c)) none (some (c / 32%(1+c / 16%12)))++⟨#[vI (c / 4+3*(i:Int))]⟩++Txt.slice (jF (kI c)) (some (c / 32%(1+c / 16%12)+1)) (some (1+c / 16%12))=jF (zT c i):=by
   rw [cC _ hat0 (by rw [qX];omega),iI _ (by omega) (by omega) (by rw [qX];omega),lN,Q6,Q6]
   unfold zT JK vZ
   rw [show (c / 32%(1+c / 16%12)+1).toNat=(c / 32%(1+c / 16%12)).toNat+1 by omega]
  rw [hmid]
  refine ⟨fun σ' H'=>σ'=[some (.int c),some (.int 8),some (.str lettersS),some (.str (jF (kI c))),some (.int (i:Int)),some (.int (1+c / 16%12)),some (.int (c / 32%(1+c / 16%12))),some (.ref nl),some (.str ⟨#[vI (c / 4+3*(i:Int))]⟩),some (.str (jF (if c%4=0 then (kI c).take (i+1) else zT c i)))]∧H'=Hi,?_,?_⟩
  ·refine ⟨_,rfl,_,_,rfl,rfl,(by show (0:Int)<4;decide),rfl,_,rfl,?_⟩
   by_cases h4:c%4=0
   ·refine kA (congrArg V.int h4) ⟨_,rfl,_,rfl,_,_,rfl,rfl,_,rfl,_,rfl,hbs,?_,rfl⟩
    rw [cC _ (by omega) (by rw [qX];omega),if_pos h4,show ((i:Int)+1).toNat=i+1 by omega]
    rfl
   ·refine j0 (fun z=>h4 (V.int.inj z)) ⟨?_,rfl⟩
    rw [if_neg h4]
    rfl
  rintro σ' H' ⟨rfl,rfl⟩
  refine ⟨fun σ' H2=>σ'=[some (.int c),some (.int 8),some (.str lettersS),some (.str (jF (kI c))),some (.int (i:Int)),some (.int (1+c / 16%12)),some (.int (c / 32%(1+c / 16%12))),some (.ref nl),some (.str ⟨#[vI (c / 4+3*(i:Int))]⟩),some (.str (jF (qF c i)))]∧H2=H',?_,?_⟩
  ·refine ⟨_,rfl,_,_,rfl,rfl,(by show (0:Int)<4;decide),rfl,_,rfl,?_⟩
   by_cases h4:c%4=1
   ·refine kA (congrArg V.int h4) ⟨_,rfl,_,rfl,_,_,rfl,rfl,_,rfl,_,rfl,hbs,?_,rfl⟩
    rw [gQ _ (by omega) (by rw [qX];omega),show ((11:Int) - (i:Int)).toNat=11 - i by omega]
    have e:qF c i=(kI c).drop (11 - i):=by unfold qF;rw [if_neg (by omega),if_pos h4]
    rw [e]
    rfl
   ·refine j0 (fun z=>h4 (V.int.inj z)) ⟨?_,rfl⟩
    unfold qF
    rw [if_neg h4]
  rintro σ' H2 ⟨rfl,rfl⟩
  refine ⟨_,rfl,.inl ⟨rfl,_,SqL.of hn⟩,_,rfl,nl,_,_,rfl,rfl,hn,qJ (by rw [zY];omega),?_⟩
  refine ⟨_,_,_,rfl,?_,kB hnl sm⟩
  rw [jE,QS]
 ·rintro σ Hi ⟨ck,cs,cn,rfl,hn,sm⟩
  exact ⟨_,rfl,q nl Hi sm hnl hn⟩
theorem JO:FnScope ["cell","names","other"] ["cell"] (jG yH):=⟨rfl,rfl,rfl,by decide +kernel,rfl,by decide +kernel,by decide +kernel⟩
theorem fC {f:Addr} {fd:FuncData} (F:Fun K "_law_reach_names" "_law_reach_names" yH f fd) (T:Txt K mg cP cB cU cR cN tkS) (D__law_names:Def P w K mg base 1 "_law_names" ["cell","many"] [] (Q7)):FnOk P w K mg base jR 2 f fd ["cell"] (QR):=by
 refine F.ok JO (fun vs H Q E h=>?_) (fun cdv A outer s H vs Q E hr h=>?_)
 ·obtain ⟨c,rfl,q⟩:=h
  rfl
 obtain ⟨c,rfl,q⟩:=h
 have hu:_<cLine:=hr.units0
 have hu1:=j8 hr
 refine ⟨_,(@jI _ _ _ _ _ (jP (i:=1) JO.nd rfl (by first|exact Or.inl rfl|exact Or.inr rfl) (kD D__law_names hr rfl (jA (pv 0) (jA jB jD))))
   (@jI _ _ _ _ _ (jP (i:=2) JO.nd rfl (by first|exact Or.inl rfl|exact Or.inr rfl) jQ)
   (qR (kJ (j3 JF (@jC _ _ _ _ _ _ _ _ jZ (pv 0) jB) jB (j1 _)) (@jL _ _ _ (jP (i:=2) JO.nd rfl (by first|exact Or.inl rfl|exact Or.inr rfl) jQ)) kM)
   (@jL _ _ _ (@j4 _ _ _ _ (qZ ["name","other"] (kO 1 [2]) rfl (kX (jG yH) rfl rfl (by decide +kernel) (by decide +kernel) (by decide +kernel)) (kZ 1 [2] rfl rfl (by decide +kernel)) (kY (pv 1)) (fun _ _ _ _ _=>(j5 (i:=0) (show List.Nodup (["name","other"]:List Str) from by decide +kernel) rfl (by first|exact Or.inl rfl|exact Or.inr rfl))) (fun _ _ _ _ _=>qK) (fun _ _ _ _ _=>(J0 (j3 kK (pv 0) jQ (j1 _)) (pv 1) (pv 0))))))))),?_⟩
 refine ⟨_,rfl,c,rfl,fun nl H1 s1 hnl0 hnl=>?_⟩
 refine ⟨fun σ' H'=>σ'=[some (.int c),some (.ref nl),some (.str (jF (vS c)))]∧H1=H',?_,?_⟩
 ·refine ⟨_,rfl,_,_,rfl,rfl,(by show (0:Int)<4;decide),_,_,rfl,rfl,_,rfl,?_⟩
  by_cases h:c%4<2
  ·refine kA h ⟨?_,rfl⟩
   rw [show vS c=[115,101,98] from if_pos h,← lH]
   rfl
  ·refine j0 h ⟨?_,rfl⟩
   rw [show vS c=[115,101,97,122] from if_neg h,← iJ]
   rfl
 rintro σ' H' ⟨rfl,rfl⟩
 refine ⟨_,rfl,nl,rfl,⟨_,SqL.of hnl⟩,fun D hD=>?_⟩
 refine qN (K:=K) (a:=nl) (caps:=[some (.str (jF (vS c)))]) (fun i ys Hi=>ys=j2 (qB c) i) hD (SqL.of hnl) rfl ?_ ?_
 ·rintro i y ys Hi hy hi hle sm hY rfl
  have hi8:i<8:=by rw [zY] at hi;exact hi
  rw [z3 _ hi8] at hy
  cases hy
  refine qL (qC ?_)
  refine ⟨_,rfl,rfl,_,rfl,?_⟩
  have hd:(V.str (jF (qF c i))=V.str "sea")↔qF c i=yP:=⟨fun z=>lG ((V.str.inj z).trans Q8),fun z=>by rw [z,Q8]⟩
  by_cases h:qF c i=yP
  ·refine kA (hd.mpr h) ⟨_,rfl,?_⟩
   refine kS hD sm hY hle (by omega) (Same.refl _) ?_
   rw [show jF (vS c)=jF (qB c i) by unfold qB;rw [if_pos h],QS]
  ·refine j0 (fun z=>h (hd.mp z)) ⟨_,rfl,?_⟩
   refine kS hD sm hY hle (by omega) (Same.refl _) ?_
   rw [show jF (qF c i)=jF (qB c i) by unfold qB;rw [if_neg h],QS]
 ·rintro ys Hf sm hY hle rfl
  rw [zY] at hY
  exact q D Hf (s1.trans sm) (s1.free hD) hY
theorem fY:FnScope ["cell","names"] ["cell","names"] (jG zA):=⟨rfl,rfl,rfl,by decide +kernel,rfl,by decide +kernel,by decide +kernel⟩
theorem eZ {f:Addr} {fd:FuncData} (F:Fun K "_law_gates" "_law_gates" zA f fd) (T:Txt K mg cP cB cU cR cN tkS) (D__law_reach_names:Def P w K mg base 2 "_law_reach_names" ["cell"] [] (QR)) (D__law_names:Def P w K mg base 1 "_law_names" ["cell","many"] [] (Q7)):FnOk P w K mg base jR 3 f fd ["cell","names"] (cA):=by
 refine F.ok fY (fun vs H Q E h=>?_) (fun cdv A outer s H vs Q E hr h=>?_)
 ·obtain ⟨c,r,a,rfl,ha,q⟩:=h
  rfl
 obtain ⟨c,r,a,rfl,ha,q⟩:=h
 have hu:_<cLine:=hr.units0
 have hu1:=j8 hr
 refine ⟨_,(@jI _ _ _ _ _ (kJ (j3 kK (@jC _ _ _ _ _ _ _ _ jZ (pv 0) jB) jB (j1 _)) (@jL _ _ _ (@j4 _ _ _ _ (pv 1))) kM)
   (@jI _ _ _ _ _ (kJ (j3 kK (@jC _ _ _ _ _ _ _ _ jZ (pv 0) jB) jB (j1 _)) (@jL _ _ _ (@j4 _ _ _ _ (@jC _ _ _ _ _ _ _ _ vU (kF (jA jQ jD)) (zL mH (kD D__law_reach_names hr rfl (jA (@jC _ _ _ _ _ _ _ _ kH (@jC _ _ _ _ _ _ _ _ yO (@jC _ _ _ _ _ _ _ _ qD (pv 0) jB) jB) jB) jD)) J5 (v5 jB))))) kM)
   (@jL _ _ _ (@j4 _ _ _ _ (kD D__law_names hr rfl (jA (@jC _ _ _ _ _ _ _ _ qD (pv 0) jB) (jA jB jD))))))),?_⟩
 refine ⟨_,rfl,_,_,rfl,rfl,(by show (0:Int)<5;decide),rfl,_,rfl,?_⟩
 by_cases h0:c%5=0
 ·refine kA (congrArg V.int h0) ⟨_,rfl,q a H (Same.refl _) ?_⟩
  rw [ha]
  exact congrArg (fun z=>some (HO.lst z)) (Z3 fun k=>(if_pos h0:q4 r c k=qB r k).symm)
 refine j0 (fun z=>h0 (V.int.inj z)) ⟨_,rfl,_,_,rfl,rfl,(by show (0:Int)<5;decide),rfl,_,rfl,?_⟩
 by_cases h1:c%5=1
 ·refine kA (congrArg V.int h1) ⟨zz1,fun p hp=>?_⟩
  have s1:=jM hp (.lst [V.str "sea"])
  refine ⟨_,rfl,_,_,rfl,rfl,⟨by decide,by decide⟩,_,_,rfl,rfl,.inr ⟨by decide,by decide⟩,_,_,rfl,rfl,c / 5*4+3,rfl,fun nl H1 s2 hnl0 hnl=>?_⟩
  refine ⟨_,rfl,nl,_,rfl,SqL.of hnl,fun sl hsl=>?_⟩
  have s3:=jM hsl (.lst (qU (j2 (qB (c / 5*4+3)) 8) none (some 7)))
  refine ⟨p,sl,_,_,rfl,rfl,s3 _ _ (s2 _ _ jE),jE,?_,fun l hl=>q l _ (((s1.trans s2).trans s3).trans (jM hl _)) ?_⟩
  ·rw [dS,zY];decide
  rw [jE,dS,Q8]
  show some (HO.lst (V.str (jF yP)::j2 (qB (c / 5*4+3)) 7))=_
  rw [gH yP _ (q4 r c) 7 (by unfold q4;rw [if_neg h0,if_pos h1]) (fun k=>by unfold q4;rw [if_neg h0,if_pos h1])]
 refine j0 (fun z=>h1 (V.int.inj z)) ⟨_,rfl,_,_,rfl,rfl,⟨by decide,by decide⟩,c / 5,rfl,fun nl H1 s2 hnl0 hnl=>q nl H1 s2 ?_⟩
 rw [hnl]
 exact congrArg (fun z=>some (HO.lst z)) (Z3 fun k=>((by unfold q4;rw [if_neg h0,if_neg h1]):q4 r c k=qF (c / 5) k).symm)
theorem zJ:FnScope ["name","a","b","c","many","least","crest","some","water"] ["name","a","b","c","many"] (jG zE):=⟨rfl,rfl,rfl,by decide +kernel,rfl,by decide +kernel,by decide +kernel⟩
theorem fB {f:Addr} {fd:FuncData} (F:Fun K "_law_reach" "_law_reach" zE f fd) (T:Txt K mg cP cB cU cR cN tkS) : FnOk P w K mg base jR 1 f fd ["name","a","b","c","many"] (bY):=by
 refine F.ok zJ (fun vs H Q E h=>?_) (fun cdv A outer s H vs Q E hr h=>?_)
 ·obtain ⟨nm,a,b,c,n,rfl,q⟩:=h
  rfl
 obtain ⟨nm,a,b,c,n,rfl,q⟩:=h
 have hu:_<cLine:=hr.units0
 have hu1:=j8 hr
 refine ⟨_,(@jI _ _ _ _ _ (jP (i:=5) zJ.nd rfl (by first|exact Or.inl rfl|exact Or.inr rfl) (v4 (bP rfl) (by rfl) T.z_min PyProof.Rows.boot_min (jA (@jC _ _ _ _ _ _ _ _ jZ (pv 2) (@jC _ _ _ _ _ _ _ _ qT jB jB)) (jA (@jC _ _ _ _ _ _ _ _ jZ (pv 3) (@jC _ _ _ _ _ _ _ _ qT jB jB)) jD))))
   (@jI _ _ _ _ _ (jP (i:=6) zJ.nd rfl (by first|exact Or.inl rfl|exact Or.inr rfl) (v4 (bQ rfl) (by rfl) T.z_max PyProof.Rows.boot_max (jA (@jC _ _ _ _ _ _ _ _ jZ (pv 2) (@jC _ _ _ _ _ _ _ _ qT jB jB)) (jA (@jC _ _ _ _ _ _ _ _ jZ (pv 3) (@jC _ _ _ _ _ _ _ _ qT jB jB)) jD))))
   (qR (kJ (j3 kK (@jC _ _ _ _ _ _ _ _ jZ (@jC _ _ _ _ _ _ _ _ qD (pv 1) jB) jB) jB (j1 _)) (@jL _ _ _ (jP (i:=5) zJ.nd rfl (by first|exact Or.inl rfl|exact Or.inr rfl) (pv 6))) kM)
   (@jI _ _ _ _ _ (jP (i:=7) zJ.nd rfl (by first|exact Or.inl rfl|exact Or.inr rfl) (kF (@jA _ _ _ _ _ jB (@jA _ _ _ _ _ (pv 5) (@jA _ _ _ _ _ (pv 6) (@jA _ _ _ _ _ (v4 (bP rfl) (by rfl) T.z_min PyProof.Rows.boot_min (jA (@jC _ _ _ _ _ _ _ _ kH (pv 6) jB) (jA (@jC _ _ _ _ _ _ _ _ vT (@jC _ _ _ _ _ _ _ _ qT jB jB) jB) jD))) (@jA _ _ _ _ _ (v4 (bQ rfl) (by rfl) T.z_max PyProof.Rows.boot_max (jA jB (jA (@jC _ _ _ _ _ _ _ _ vT (pv 5) jB) jD))) (@jA _ _ _ _ _ (@jC _ _ _ _ _ _ _ _ jZ (@jC _ _ _ _ _ _ _ _ kH (@jC _ _ _ _ _ _ _ _ yO (pv 2) jB) (pv 3)) (@jC _ _ _ _ _ _ _ _ qT jB jB)) jD (by rfl)) (by rfl)) (by rfl)) (by rfl)) (by rfl)) (by rfl))))
   (@jI _ _ _ _ _ (jP (i:=8) zJ.nd rfl (by first|exact Or.inl rfl|exact Or.inr rfl) (jH jV (pv 7) (@jC _ _ _ _ _ _ _ _ jZ (@jC _ _ _ _ _ _ _ _ qD (pv 1) jB) jB) (fun _ _=>rfl)))
   (@jL _ _ _ (@j4 _ _ _ _ (qS (@jA _ _ _ _ _ jQ (@jA _ _ _ _ _ (pv 0) (@jA _ _ _ _ _ (pv 5) (@jA _ _ _ _ _ (pv 6) (@jA _ _ _ _ _ (@jC _ _ _ _ _ _ _ _ kH jB (@jC _ _ _ _ _ _ _ _ jZ (@jC _ _ _ _ _ _ _ _ qD (pv 3) jB) jB)) (@jA _ _ _ _ _ (pv 8) (@jA _ _ _ _ _ (@jC _ _ _ _ _ _ _ _ vT (@jC _ _ _ _ _ _ _ _ jZ (@jC _ _ _ _ _ _ _ _ qD (pv 1) jB) (@jC _ _ _ _ _ _ _ _ kH (pv 4) jB)) jB) jD (by rfl)) (by rfl)) (by rfl)) (by rfl)) (by rfl)) (by rfl)) (by rfl)))))))))),?_⟩
 have eb0:=Int.emod_nonneg b (show (10:Int) ^ Int.toNat 12≠0 from by decide +kernel)
 have eb1:=Int.emod_lt_of_pos b (show (0:Int)<10 ^ Int.toNat 12 from by decide +kernel)
 have ec0:=Int.emod_nonneg c (show (10:Int) ^ Int.toNat 12≠0 from by decide +kernel)
 have ec1:=Int.emod_lt_of_pos c (show (0:Int)<10 ^ Int.toNat 12 from by decide +kernel)
 have ed0:=Int.emod_nonneg (b*48271+c) (show (10:Int) ^ Int.toNat 12≠0 from by decide +kernel)
 have ed1:=Int.emod_lt_of_pos (b*48271+c) (show (0:Int)<10 ^ Int.toNat 12 from by decide +kernel)
 refine ⟨_,rfl,_,_,rfl,rfl,⟨by decide,by decide,by decide⟩,_,_,rfl,rfl,(show (0:Int)<10 ^ Int.toNat 12 from by decide +kernel),_,rfl,_,_,rfl,rfl,⟨by decide,by decide,by decide⟩,_,_,rfl,rfl,(show (0:Int)<10 ^ Int.toNat 12 from by decide +kernel),_,_,rfl,_,rfl,_,_,rfl,rfl,⟨by decide,by decide,by decide⟩,_,_,rfl,rfl,(show (0:Int)<10 ^ Int.toNat 12 from by decide +kernel),_,rfl,_,_,rfl,rfl,⟨by decide,by decide,by decide⟩,_,_,rfl,rfl,(show (0:Int)<10 ^ Int.toNat 12 from by decide +kernel),_,_,rfl,?_⟩
 try dsimp only
 generalize hB:b%10 ^ Int.toNat 12=B at eb0 eb1 ⊢
 generalize hC:c%10 ^ Int.toNat 12=C at ec0 ec1 ⊢
 generalize hD:(b*48271+c)%10 ^ Int.toNat 12=D at ed0 ed1
 rw [ZX] at eb1 ec1 ed1
 obtain ⟨least,hle⟩:∃z,(if C<B then C else B)=z:=⟨_,rfl⟩
 obtain ⟨crest,hcr⟩:∃z,(if C>B then C else B)=z:=⟨_,rfl⟩
 rw [hle,hcr]
 have f1:0≤least∧least≤crest∧crest≤999999999999:=by
  rw [← hle,← hcr]
  split<;>split<;>omega
 clear hle hcr
 refine ⟨fun σ' H'=>∃le:Int,σ'=[some (.str nm),some (.int a),some (.int b),some (.int c),some (.int (n:Int)),some (.int le),some (.int crest),none,none]∧H=H'∧0≤le∧le≤crest,?_,?_⟩
 ·refine ⟨_,rfl,_,_,rfl,rfl,⟨by decide,by decide⟩,_,_,rfl,rfl,(by show (0:Int)<5;decide),rfl,_,rfl,JH (fun _=>?_) (fun _=>?_)⟩
  ·exact ⟨_,rfl,crest,rfl,rfl,by omega,Int.le_refl _⟩
  ·exact ⟨least,rfl,rfl,f1.1,f1.2.1⟩
 rintro σ' H' ⟨le,rfl,rfl,g1,g2⟩
 refine ⟨_,rfl,_,rfl,_,rfl,_,_,rfl,rfl,_,_,rfl,rfl,⟨by decide,by decide,by decide⟩,_,_,rfl,rfl,_,_,rfl,_,rfl,_,_,rfl,rfl,_,_,rfl,_,rfl,_,_,rfl,rfl,.inr ⟨by decide,by decide⟩,_,rfl,_,_,rfl,rfl,_,_,rfl,rfl,⟨by decide,by decide,by decide⟩,_,_,rfl,rfl,(show (0:Int)<10 ^ Int.toNat 12 from by decide +kernel),zz6,fun p hp=>?_⟩
 have s1:=jM hp (.lst [V.int 0,V.int le,V.int crest,V.int (if 10 ^ Int.toNat 12 - 1<crest+1 then 10 ^ Int.toNat 12 - 1 else crest+1),V.int (if le - 1>0 then le - 1 else 0),V.int ((b*48271+c)%10 ^ Int.toNat 12)])
 have hpl:=jE (H:=H) (a:=p) (o:=.lst [V.int 0,V.int le,V.int crest,V.int (if 10 ^ Int.toNat 12 - 1<crest+1 then 10 ^ Int.toNat 12 - 1 else crest+1),V.int (if le - 1>0 then le - 1 else 0),V.int ((b*48271+c)%10 ^ Int.toNat 12)])
 obtain ⟨wt,hwt,w1,w2⟩:=oG (n:=a / 4) (lo:=0) (hi:=999999999999) (x0:=0) (x1:=le) (x2:=crest) (x3:=if 10 ^ Int.toNat 12 - 1<crest+1 then 10 ^ Int.toNat 12 - 1 else crest+1) (x4:=if le - 1>0 then le - 1 else 0) (x5:=(b*48271+c)%10 ^ Int.toNat 12) ⟨by omega,by omega⟩ ⟨by omega,by omega⟩ ⟨by omega,by omega⟩ (by rw [ZX];split<;>omega) (by split<;>omega) (by rw [hD];omega)
 refine ⟨_,rfl,_,rfl,_,_,rfl,rfl,⟨by decide,by decide⟩,_,_,rfl,rfl,(by show (0:Int)<6;decide),p,_,_,_,rfl,rfl,SqL.of hpl,hwt,?_⟩
 have hn1:(0:Int)<(n:Int)+1:=by omega
 have t0:=Int.emod_nonneg (a / 16) (show ((n:Int)+1)≠0 by omega)
 have t1:=Int.emod_lt_of_pos (a / 16) hn1
 have b0:=Int.emod_nonneg (c / 2) (by decide:(9:Int)≠0)
 have b1:=Int.emod_lt_of_pos (c / 2) (by decide:(0:Int)<9)
 refine ⟨_,rfl,_,rfl,_,rfl,_,rfl,_,_,rfl,rfl,⟨by decide,by decide⟩,_,_,rfl,rfl,(by show (0:Int)<9;decide),_,_,rfl,rfl,_,rfl,_,rfl,_,_,rfl,rfl,⟨by decide,by decide⟩,_,rfl,_,_,rfl,rfl,_,_,rfl,rfl,hn1,_,_,rfl,rfl,zz7,fun t ht=>?_⟩
 exact q ⟨nm,le,crest,1+c / 2%9,wt,a / 16%((n:Int)+1) - 1⟩ t _ rfl ⟨g1,g2,f1.2.2,by show 1≤1+c / 2%9;omega,by show 1+c / 2%9≤9;omega,w1,w2,by show -1≤a / 16%((n:Int)+1) - 1;omega,by show a / 16%((n:Int)+1) - 1<(n:Int);omega⟩ (s1.trans (jM ht _)) (s1.free ht) jE
theorem yL:FnScope ["name","a","b","c","many","high","room","extra","word"] ["name","a","b","c","many"] (jG zB):=⟨rfl,rfl,rfl,by decide +kernel,rfl,by decide +kernel,by decide +kernel⟩
theorem e6 {f:Addr} {fd:FuncData} (F:Fun K "_law_lock" "_law_lock" zB f fd) (T:Txt K mg cP cB cU cR cN tkS) : FnOk P w K mg base jR 1 f fd ["name","a","b","c","many"] (cV):=by
 refine F.ok yL (fun vs H Q E h=>?_) (fun cdv A outer s H vs Q E hr h=>?_)
 ·obtain ⟨nm,a,b,c,n,rfl,hn,q⟩:=h
  rfl
 obtain ⟨nm,a,b,c,n,rfl,hn,q⟩:=h
 have hu:_<cLine:=hr.units0
 have hu1:=j8 hr
 refine ⟨_,(@jI _ _ _ _ _ (jP (i:=5) yL.nd rfl (by first|exact Or.inl rfl|exact Or.inr rfl) (@jC _ _ _ _ _ _ _ _ kH jB (@jC _ _ _ _ _ _ _ _ jZ (@jC _ _ _ _ _ _ _ _ qD (pv 1) jB) (@jC _ _ _ _ _ _ _ _ vT (pv 4) jB))))
   (@jI _ _ _ _ _ (jP (i:=6) yL.nd rfl (by first|exact Or.inl rfl|exact Or.inr rfl) (@jC _ _ _ _ _ _ _ _ kH jB (@jC _ _ _ _ _ _ _ _ jZ (pv 2) (@jC _ _ _ _ _ _ _ _ vT (@jC _ _ _ _ _ _ _ _ qT jB jB) jB))))
   (@jI _ _ _ _ _ (jP (i:=7) yL.nd rfl (by first|exact Or.inl rfl|exact Or.inr rfl) (@jC _ _ _ _ _ _ _ _ kH jB (@jC _ _ _ _ _ _ _ _ jZ (@jC _ _ _ _ _ _ _ _ qD (pv 3) jB) (pv 6))))
   (qR (kJ (j3 kK (@jC _ _ _ _ _ _ _ _ jZ (@jC _ _ _ _ _ _ _ _ qD (pv 3) jB) jB) jB (j1 _)) (@jL _ _ _ (jP (i:=7) yL.nd rfl (by first|exact Or.inl rfl|exact Or.inr rfl) (pv 6))) kM)
   (@jI _ _ _ _ _ (jP (i:=8) yL.nd rfl (by first|exact Or.inl rfl|exact Or.inr rfl) (jH jV (kF (@jA _ _ _ _ _ jQ (@jA _ _ _ _ _ jQ (@jA _ _ _ _ _ jQ jD (by rfl)) (by rfl)) (by rfl))) (@jC _ _ _ _ _ _ _ _ jZ (pv 3) jB) (fun _ _=>rfl)))
   (qR (kJ (j3 kK (pv 8) jQ (j1 _)) (@jL _ _ _ (jP (i:=7) yL.nd rfl (by first|exact Or.inl rfl|exact Or.inr rfl) jB)) kM)
   (@jL _ _ _ (@j4 _ _ _ _ (qS (@jA _ _ _ _ _ jQ (@jA _ _ _ _ _ (pv 0) (@jA _ _ _ _ _ (pv 5) (@jA _ _ _ _ _ (@jC _ _ _ _ _ _ _ _ jZ (@jC _ _ _ _ _ _ _ _ qD (pv 1) jB) (pv 5)) (@jA _ _ _ _ _ (pv 6) (@jA _ _ _ _ _ (pv 8) (@jA _ _ _ _ _ (pv 7) jD (by rfl)) (by rfl)) (by rfl)) (by rfl)) (by rfl)) (by rfl)) (by rfl))))))))))),?_⟩
 have hn1:(0:Int)<(n:Int) - 1:=by omega
 have a0:=Int.emod_nonneg (a / 4) (show (n:Int) - 1≠0 by omega)
 have a1:=Int.emod_lt_of_pos (a / 4) hn1
 have em:(10:Int) ^ Int.toNat 12 - 1=999999999999:=by decide +kernel
 have hr0:=Int.emod_nonneg b (show (10:Int) ^ Int.toNat 12 - 1≠0 from by decide +kernel)
 have hr1:=Int.emod_lt_of_pos b (show (0:Int)<10 ^ Int.toNat 12 - 1 from by decide +kernel)
 refine ⟨_,rfl,_,_,rfl,rfl,⟨by decide,by decide⟩,_,rfl,_,_,rfl,rfl,_,_,rfl,rfl,hn1,_,_,rfl,rfl,_,rfl,_,_,rfl,rfl,⟨by decide,by decide,by decide⟩,_,_,rfl,rfl,_,_,rfl,rfl,(show (0:Int)<10 ^ Int.toNat 12 - 1 from by decide +kernel),_,_,rfl,rfl,?_⟩
 try dsimp only
 generalize hH:1+a / 4%((n:Int) - 1)=high
 generalize hR:1+b%(10 ^ Int.toNat 12 - 1)=room
 rw [em] at hr0 hr1 hR
 have hh1:1≤high:=by omega
 have hh2:high<(n:Int):=by omega
 have hrm1:1≤room:=by omega
 have hrm2:room≤999999999999:=by omega
 have x0:=Int.emod_nonneg (c / 3) (show room≠0 by omega)
 have x1:=Int.emod_lt_of_pos (c / 3) (show 0<room by omega)
 have l0:=Int.emod_nonneg (a / 32) (show high≠0 by omega)
 have l1:=Int.emod_lt_of_pos (a / 32) (show 0<high by omega)
 refine ⟨_,rfl,_,_,rfl,rfl,⟨by decide,by decide⟩,_,rfl,_,_,rfl,rfl,(show (0:Int)<room by omega),_,_,rfl,rfl,?_⟩
 refine ⟨fun σ' H'=>∃ex:Int,σ'=[some (.str nm),some (.int a),some (.int b),some (.int c),some (.int (n:Int)),some (.int high),some (.int room),some (.int ex),none]∧H=H'∧1≤ex∧ex≤room,?_,?_⟩
 ·refine ⟨_,rfl,_,_,rfl,rfl,⟨by decide,by decide⟩,_,_,rfl,rfl,(by show (0:Int)<4;decide),rfl,_,rfl,JH (fun _=>?_) (fun _=>?_)⟩
  ·exact ⟨_,rfl,room,rfl,rfl,hrm1,Int.le_refl _⟩
  ·exact ⟨_,rfl,rfl,by omega,by omega⟩
 rintro σ' H' ⟨ex,rfl,rfl,g1,g2⟩
 obtain ⟨kd,hkd⟩:=nJ c
 refine ⟨zz3,fun p hp=>?_⟩
 have s1:=jM hp (.lst [V.str "plain",V.str "basin",V.str "pump"])
 refine ⟨_,rfl,_,_,rfl,rfl,(by show (0:Int)<3;decide),p,_,_,_,rfl,rfl,SqL.of jE,hkd,?_⟩
 generalize upd H p (.lst [V.str "plain",V.str "basin",V.str "pump"])=H1 at s1 ⊢
 refine ⟨fun σ' H'=>∃ex:Int,σ'=[some (.str nm),some (.int a),some (.int b),some (.int c),some (.int (n:Int)),some (.int high),some (.int room),some (.int ex),some (.str (yD kd))]∧H1=H'∧(kd=.plain→ex=0)∧(kd≠.plain→1≤ex∧ex≤room),?_,?_⟩
 ·refine ⟨_,rfl,rfl,_,rfl,?_⟩
  by_cases hk:kd=.plain
  ·exact kA ((JX kd).mpr hk) ⟨0,rfl,rfl,fun _=>rfl,fun z=>absurd hk z⟩
  ·exact j0 (fun z=>hk ((JX kd).mp z)) ⟨ex,rfl,rfl,fun z=>absurd z hk,fun _=>⟨g1,g2⟩⟩
 rintro σ' H' ⟨ex,rfl,rfl,e1,e2⟩
 refine ⟨_,rfl,_,rfl,_,rfl,_,_,rfl,rfl,⟨by decide,by decide⟩,_,rfl,_,_,rfl,rfl,(show (0:Int)<high by omega),_,rfl,_,rfl,_,rfl,zz7,fun t ht=>?_⟩
 exact q ⟨nm,high,a / 32%high,room,kd,ex⟩ t _ rfl ⟨hh1,hh2,l0,l1,hrm1,hrm2,e1,e2⟩ (s1.trans (jM ht _)) (s1.free ht) jE
theorem zH:FnScope ["a","b","c","many","told","bits","k","comes"] ["a","b","c","many"] (jG zD):=⟨rfl,rfl,rfl,by decide +kernel,rfl,by decide +kernel,by decide +kernel⟩
theorem e9 {f:Addr} {fd:FuncData} (F:Fun K "_law_night" "_law_night" zD f fd) (T:Txt K mg cP cB cU cR cN tkS) : FnOk P w K mg base jR 1 f fd ["a","b","c","many"] (bZ):=by
 refine F.ok zH (fun vs H Q E h=>?_) (fun cdv A outer s H vs Q E hr h=>?_)
 ·obtain ⟨a,b,c,n,rfl,hn,q⟩:=h
  rfl
 obtain ⟨a,b,c,n,rfl,hn,q⟩:=h
 have hu:_<cLine:=hr.units0
 have hu1:=j8 hr
 refine ⟨_,(@jI _ _ _ _ _ (jP (i:=4) zH.nd rfl (by first|exact Or.inl rfl|exact Or.inr rfl) (kF jD))
   (@jI _ _ _ _ _ (jP (i:=5) zH.nd rfl (by first|exact Or.inl rfl|exact Or.inr rfl) (@jC _ _ _ _ _ _ _ _ qD (pv 0) jB))
   (@jI _ _ _ _ _ (vR PassesOwn.never rfl (z4 (by rfl) T.z_range (jA (pv 3) jD)) (j5 (i:=6) zH.nd rfl (by first|exact Or.inl rfl|exact Or.inr rfl))
    (qR (kJ (j3 kK (@jC _ _ _ _ _ _ _ _ jZ (pv 5) jB) jB (j1 _)) (@jI _ _ _ _ _ (jP (i:=7) zH.nd rfl (by first|exact Or.inl rfl|exact Or.inr rfl) (jH jV (kF (@jA _ _ _ _ _ jB (@jA _ _ _ _ _ (@jC _ _ _ _ _ _ _ _ jZ (pv 1) (@jC _ _ _ _ _ _ _ _ qT jB jB)) (@jA _ _ _ _ _ (@jC _ _ _ _ _ _ _ _ jZ (@jC _ _ _ _ _ _ _ _ kH (@jC _ _ _ _ _ _ _ _ yO (pv 1) (@jC _ _ _ _ _ _ _ _ kH (pv 6) jB)) (pv 2)) (@jC _ _ _ _ _ _ _ _ qT jB jB)) jD (by rfl)) (by rfl)) (by rfl))) (@jC _ _ _ _ _ _ _ _ jZ (@jC _ _ _ _ _ _ _ _ kH (pv 1) (pv 6)) jB) (fun _ _=>rfl)))
   (@jL _ _ _ (qO (kW PySem.F.plainAttrs_list PySem.F.slot_list_append PySem.F.type_list_append vP (pv 4) (jA (qS (@jA _ _ _ _ _ (pv 6) (@jA _ _ _ _ _ (pv 7) (@jA _ _ _ _ _ (jH jV (kF (@jA _ _ _ _ _ jB (@jA _ _ _ _ _ (@jC _ _ _ _ _ _ _ _ jZ (pv 2) jB) (@jA _ _ _ _ _ (@jC _ _ _ _ _ _ _ _ jZ (@jC _ _ _ _ _ _ _ _ kH (@jC _ _ _ _ _ _ _ _ yO (pv 2) (@jC _ _ _ _ _ _ _ _ kH (pv 6) jB)) (pv 1)) (@jC _ _ _ _ _ _ _ _ qT jB jB)) jD (by rfl)) (by rfl)) (by rfl))) (@jC _ _ _ _ _ _ _ _ jZ (@jC _ _ _ _ _ _ _ _ kH (pv 2) (pv 6)) jB) (fun _ _=>rfl)) jD (by rfl)) (by rfl)) (by rfl))) jD))))) kM)
   (@jL _ _ _ (jP (i:=5) zH.nd rfl (by first|exact Or.inl rfl|exact Or.inr rfl) (@jC _ _ _ _ _ _ _ _ qD (pv 5) jB)))))
   (qR (kJ (j3 kK (@jC _ _ _ _ _ _ _ _ jZ (pv 2) jB) jB (j1 _)) (@jL _ _ _ (qO (nO PySem.F.plainAttrs_list PySem.F.slot_list_reverse PySem.F.type_list_reverse gU (pv 4)))) kM)
   (@jL _ _ _ (@j4 _ _ _ _ (qS (jA jQ (jA (pv 4) jD))))))))),?_⟩
 refine ⟨zz0,fun l hl=>?_⟩
 have s0:=jM hl (.lst [])
 refine ⟨_,rfl,_,_,rfl,rfl,⟨by decide,by decide⟩,?_⟩
 refine ⟨_,rfl,_,rfl,by omega,by omega,Q5 (n:=Int.toNat (n:Int)) (fun i σ Hi=>∃(bits:Int) (ck cc:Option V) (rs:List V) (ts:List (Nat×Int×Int)),σ=[some (.int a),some (.int b),some (.int c),some (.int (n:Int)),some (.ref l),some (.int bits),ck,cc]∧Hi l=some (.lst rs)∧TripsAt Hi rs ts∧tripsOk ts i∧ts.length≤i∧Same H Hi) ⟨_,none,none,[],[],rfl,jE,⟨rfl,fun i r h=>by cases h⟩,⟨List.nodup_nil,fun q h=>by cases h⟩,Nat.le_refl _,s0⟩ ?_ ?_⟩
 ·rintro i σ Hi hi ⟨bits,ck,cc,rs,ts,rfl,hl1,htr,hok,hlen,sm⟩
  have hi8:i<8:=by have:i<Int.toNat (n:Int):=hi;omega
  rw [Int.zero_add]
  refine ⟨fun σ' H'=>∃(cc:Option V) (rs:List V) (ts:List (Nat×Int×Int)),σ'=[some (.int a),some (.int b),some (.int c),some (.int (n:Int)),some (.ref l),some (.int bits),some (.int (i:Int)),cc]∧H' l=some (.lst rs)∧TripsAt H' rs ts∧tripsOk ts (i+1)∧ts.length≤i+1∧Same H H',?_,?_⟩
  ·refine ⟨_,rfl,_,_,rfl,rfl,(by show (0:Int)<2;decide),rfl,_,rfl,JH (fun _=>?_) (fun _=>⟨cc,rs,ts,rfl,hl1,htr,hok.more (by omega),by omega,sm⟩)⟩
   refine ⟨_,rfl,_,_,rfl,rfl,⟨by decide,by decide,by decide⟩,_,_,rfl,rfl,(show (0:Int)<10 ^ Int.toNat 12 from by decide +kernel),_,rfl,_,rfl,_,_,rfl,rfl,_,_,rfl,rfl,.inr ⟨by omega,by omega⟩,_,rfl,_,_,rfl,rfl,_,_,rfl,rfl,⟨by decide,by decide,by decide⟩,_,_,rfl,rfl,(show (0:Int)<10 ^ Int.toNat 12 from by decide +kernel),zz3,fun p hp=>?_⟩
   obtain ⟨x,hx,hx1,hx2⟩:=dX (n:=b+(i:Int)) (x0:=0) (x1:=b%10 ^ Int.toNat 12) (x2:=(b*((i:Int)+1)+c)%10 ^ Int.toNat 12) (lo:=0) (hi:=999999999999) ⟨by decide,by decide⟩ (ZW _) (ZW _)
   refine ⟨_,rfl,_,rfl,_,_,rfl,rfl,_,_,rfl,rfl,(by show (0:Int)<3;decide),p,_,_,_,rfl,rfl,SqL.of jE,hx,?_⟩
   have u1:=jM hp (.lst [V.int 0,V.int (b%10 ^ Int.toNat 12),V.int ((b*((i:Int)+1)+c)%10 ^ Int.toNat 12)])
   generalize upd Hi p (.lst [V.int 0,V.int (b%10 ^ Int.toNat 12),V.int ((b*((i:Int)+1)+c)%10 ^ Int.toNat 12)])=H1 at u1 ⊢
   have hc7:0≤c%7∧c%7≤999999999999:=by have:=Int.emod_nonneg c (by decide:(7:Int)≠0);have:=Int.emod_lt_of_pos c (by decide:(0:Int)<7);omega
   refine ⟨_,rfl,.inl ⟨rfl,_,SqL.of (u1 _ _ hl1)⟩,_,rfl,_,rfl,_,rfl,_,_,rfl,rfl,(by show (0:Int)<7;decide),_,rfl,_,rfl,_,_,rfl,rfl,_,_,rfl,rfl,.inr ⟨by omega,by omega⟩,_,rfl,_,_,rfl,rfl,_,_,rfl,rfl,⟨by decide,by decide,by decide⟩,_,_,rfl,rfl,(show (0:Int)<10 ^ Int.toNat 12 from by decide +kernel),zz3,fun p2 hp2=>?_⟩
   obtain ⟨y,hy,hy1,hy2⟩:=dX (n:=c+(i:Int)) (x0:=0) (x1:=c%7) (x2:=(c*((i:Int)+3)+b)%10 ^ Int.toNat 12) (lo:=0) (hi:=999999999999) ⟨by decide,by decide⟩ hc7 (ZW _)
   have u2:=jM hp2 (.lst [V.int 0,V.int (c%7),V.int ((c*((i:Int)+3)+b)%10 ^ Int.toNat 12)])
   refine ⟨_,rfl,_,rfl,_,_,rfl,rfl,_,_,rfl,rfl,(by show (0:Int)<3;decide),p2,_,_,_,rfl,rfl,SqL.of jE,hy,?_⟩
   generalize upd H1 p2 (.lst [V.int 0,V.int (c%7),V.int ((c*((i:Int)+3)+b)%10 ^ Int.toNat 12)])=H2 at u2 ⊢
   refine ⟨zz3,fun tp htp=>?_⟩
   have u3:=jM htp (.tup [V.int (i:Int),V.int x,V.int y])
   have htp1:upd H2 tp (.tup [V.int (i:Int),V.int x,V.int y]) tp=some (.tup [V.int (i:Int),V.int x,V.int y]):=jE
   have sHi:=(u1.trans u2).trans u3
   generalize upd H2 tp (.tup [V.int (i:Int),V.int x,V.int y])=H3 at u3 htp1 sHi ⊢
   have hl3:=sHi _ _ hl1
   refine ⟨l,_,_,rfl,rfl,hl3,qJ (by rw [htr.1];omega),?_⟩
   refine ⟨_,rs++[.ref tp],ts++[(i,x,y)],rfl,jE,?_,hok.snoc ⟨hx1,hx2⟩ ⟨hy1,hy2⟩,by rw [List.length_append];show ts.length+1≤i+1;omega,kB hl (sm.trans sHi)⟩
   exact ((htr.same sHi).snoc htp1).keep ((Keep.refl l _).upd _) hl3
  rintro σ' H' ⟨cc,rs,ts,rfl,hl1,htr,hok,hlen,sm⟩
  exact ⟨_,rfl,_,_,rfl,rfl,⟨by decide,by decide⟩,_,_,cc,rs,ts,rfl,hl1,htr,hok,hlen,sm⟩
 rintro σ Hi ⟨bits,ck,cc,rs,ts,rfl,hl1,htr,hok,hlen,sm⟩
 have hok:tripsOk ts n:=hok
 have hlen:ts.length≤8:=by have:ts.length≤Int.toNat (n:Int):=hlen;omega
 refine ⟨fun σ' H'=>∃(rs:List V) (ts:List (Nat×Int×Int)),σ'=[some (.int a),some (.int b),some (.int c),some (.int (n:Int)),some (.ref l),some (.int bits),ck,cc]∧H' l=some (.lst rs)∧TripsAt H' rs ts∧tripsOk ts n∧ts.length≤8∧Same H H',?_,?_⟩
 ·refine ⟨_,rfl,_,_,rfl,rfl,(by show (0:Int)<2;decide),rfl,_,rfl,JH (fun _=>?_) (fun _=>⟨rs,ts,rfl,hl1,htr,hok,hlen,sm⟩)⟩
  refine ⟨_,rfl,.inl ⟨rfl,_,SqL.of hl1⟩,l,_,rfl,rfl,hl1,?_⟩
  exact ⟨rs.reverse,ts.reverse,rfl,jE,htr.rev.keep ((Keep.refl l _).upd _) hl1,hok.rev,by rw [List.length_reverse];exact hlen,kB hl sm⟩
 rintro σ' H' ⟨rs,ts,rfl,hl1,htr,hok,hlen,sm⟩
 refine ⟨_,rfl,zz2,fun t ht=>?_⟩
 have u:=jM ht (.tup [V.str "night",V.ref l])
 exact q ts rs t l _ hok hlen (sm.trans u) (sm.free ht) hl jE (u _ _ hl1) (htr.same u)
theorem zI:FnScope ["script","names","gates","plan","many","at","cells","way"] ["script","names","gates"] (jG yG):=⟨rfl,rfl,rfl,by decide +kernel,rfl,by decide +kernel,by decide +kernel⟩
theorem fA {f:Addr} {fd:FuncData} (F:Fun K "_law_plan" "_law_plan" yG f fd) (T:Txt K mg cP cB cU cR cN tkS) (D__law_cell_at:Def P w K mg base 1 "_law_cell_at" ["script","k"] [] (ZG K)) (D__law_night:Def P w K mg base 1 "_law_night" ["a","b","c","many"] [] (bZ)) (D__law_lock:Def P w K mg base 1 "_law_lock" ["name","a","b","c","many"] [] (cV)) (D__law_reach:Def P w K mg base 1 "_law_reach" ["name","a","b","c","many"] [] (bY)):FnOk P w K mg base jR 2 f fd ["script","names","gates"] (cT K):=by
 refine F.ok zI (fun vs H Q E h=>?_) (fun cdv A outer s H vs Q E hr h=>?_)
 ·obtain ⟨s,nl,gl,ns,rn,gn,rfl,hS,h63,hnl,hgl,q⟩:=h
  rfl
 obtain ⟨s,nl,gl,ns,rn,gn,rfl,hS,h63,hnl,hgl,q⟩:=h
 have hu:_<cLine:=hr.units0
 have hu1:=j8 hr
 refine ⟨_,(@jI _ _ _ _ _ (jP (i:=3) zI.nd rfl (by first|exact Or.inl rfl|exact Or.inr rfl) (kF jD))
   (@jI _ _ _ _ _ (jP (i:=4) zI.nd rfl (by first|exact Or.inl rfl|exact Or.inr rfl) (kF (@jA _ _ _ _ _ jB (@jA _ _ _ _ _ jB (@jA _ _ _ _ _ jB jD (by rfl)) (by rfl)) (by rfl))))
   (@jI _ _ _ _ _ (vR PassesOwn.never rfl (mM (by rfl) T.z_range (@jA _ _ _ _ _ jB (@jA _ _ _ _ _ (v4 QO (by rfl) T.z_len PySem.boot_len (jA (pv 0) jD)) (@jA _ _ _ _ _ jB jD (by rfl)) (by rfl)) (by rfl))) (j5 (i:=5) zI.nd rfl (by first|exact Or.inl rfl|exact Or.inr rfl))
    (@jI _ _ _ _ _ (yM (i:=6) ["k","script","at"] (kO 1 [0,5]) zI.nd rfl (by first|exact Or.inl rfl|exact Or.inr rfl) rfl (kX (jG yG) rfl rfl (by decide +kernel) (by decide +kernel) (by decide +kernel)) (kZ 1 [0,5] rfl rfl (by decide +kernel)) (z4 (by rfl) T.z_range (jA jB jD)) (fun _ _ _ _ _=>(j5 (i:=0) (show List.Nodup (["k","script","at"]:List Str) from by decide +kernel) rfl (by first|exact Or.inl rfl|exact Or.inr rfl))) (fun _ _ _ _ _=>qK) (fun _ _ _ _ _=>(@jC _ _ _ _ _ _ _ _ jZ (kD D__law_cell_at hr rfl (jA (pv 1) (jA (@jC _ _ _ _ _ _ _ _ kH (pv 2) (pv 0)) jD))) (@jC _ _ _ _ _ _ _ _ qT jB jB))))
   (@jI _ _ _ _ _ (jP (i:=7) zI.nd rfl (by first|exact Or.inl rfl|exact Or.inr rfl) (@jC _ _ _ _ _ _ _ _ jZ (jH jV (pv 6) jB (fun _ _=>rfl)) jB))
   (@jL _ _ _ (kJ (PW.pt (ZJ (j3 kK (pv 7) jB (j1 _)) (cY (j3 JF (jH jV (pv 4) jB (fun _ _=>rfl)) jB (j1 _))))) (@jI _ _ _ _ _ (J8 (@jC _ _ _ _ _ _ _ _ kH (jH jV (pv 4) jB (fun _ _=>rfl)) jB) (J9 (pv 4) jB JY))
   (@jL _ _ _ (qO (kW PySem.F.plainAttrs_list PySem.F.slot_list_append PySem.F.type_list_append vP (pv 3) (jA (kD D__law_night hr rfl (@jA _ _ _ _ _ (jH jV (pv 6) jB (fun _ _=>rfl)) (@jA _ _ _ _ _ (jH jV (pv 6) jB (fun _ _=>rfl)) (@jA _ _ _ _ _ (jH jV (pv 6) jB (fun _ _=>rfl)) (@jA _ _ _ _ _ (jH jV (pv 4) jB (fun _ _=>rfl)) jD (by rfl)) (by rfl)) (by rfl)) (by rfl))) jD))))) (@jL _ _ _ (kJ (PW.pt (ZJ (j3 kK (pv 7) jB (j1 _)) (ZJ (j3 oJ (jH jV (pv 4) jB (fun _ _=>rfl)) jB (j1 _)) (cY (j3 JF (jH jV (pv 4) jB (fun _ _=>rfl)) jB (j1 _)))))) (@jI _ _ _ _ _ (J8 (@jC _ _ _ _ _ _ _ _ kH (jH jV (pv 4) jB (fun _ _=>rfl)) jB) (J9 (pv 4) jB JY))
   (@jL _ _ _ (qO (kW PySem.F.plainAttrs_list PySem.F.slot_list_append PySem.F.type_list_append vP (pv 3) (jA (kD D__law_lock hr rfl (@jA _ _ _ _ _ (jH jV (pv 2) (@jC _ _ _ _ _ _ _ _ vT (jH jV (pv 4) jB (fun _ _=>rfl)) jB) (fun _ _=>rfl)) (@jA _ _ _ _ _ (jH jV (pv 6) jB (fun _ _=>rfl)) (@jA _ _ _ _ _ (jH jV (pv 6) jB (fun _ _=>rfl)) (@jA _ _ _ _ _ (jH jV (pv 6) jB (fun _ _=>rfl)) (@jA _ _ _ _ _ (jH jV (pv 4) jB (fun _ _=>rfl)) jD (by rfl)) (by rfl)) (by rfl)) (by rfl)) (by rfl))) jD))))) (@jL _ _ _ (kJ (j3 JF (jH jV (pv 4) jB (fun _ _=>rfl)) jB (j1 _)) (@jI _ _ _ _ _ (J8 (@jC _ _ _ _ _ _ _ _ kH (jH jV (pv 4) jB (fun _ _=>rfl)) jB) (J9 (pv 4) jB JY))
   (@jL _ _ _ (qO (kW PySem.F.plainAttrs_list PySem.F.slot_list_append PySem.F.type_list_append vP (pv 3) (jA (kD D__law_reach hr rfl (@jA _ _ _ _ _ (jH jV (pv 1) (@jC _ _ _ _ _ _ _ _ vT (jH jV (pv 4) jB (fun _ _=>rfl)) jB) (fun _ _=>rfl)) (@jA _ _ _ _ _ (jH jV (pv 6) jB (fun _ _=>rfl)) (@jA _ _ _ _ _ (jH jV (pv 6) jB (fun _ _=>rfl)) (@jA _ _ _ _ _ (jH jV (pv 6) jB (fun _ _=>rfl)) (@jA _ _ _ _ _ (@jC _ _ _ _ _ _ _ _ vT (jH jV (pv 4) jB (fun _ _=>rfl)) jB) jD (by rfl)) (by rfl)) (by rfl)) (by rfl)) (by rfl))) jD))))) kM)))))))))
   (qR (kJ (j3 kK (jH jV (pv 4) jB (fun _ _=>rfl)) jB (j1 _)) (@jL _ _ _ (qO (kW PySem.F.plainAttrs_list PySem.F.slot_list_append PySem.F.type_list_append vP (pv 3) (jA (qS (@jA _ _ _ _ _ jQ (@jA _ _ _ _ _ (jH jV (pv 1) jB (fun _ _=>rfl)) (@jA _ _ _ _ _ jB (@jA _ _ _ _ _ jB (@jA _ _ _ _ _ jB (@jA _ _ _ _ _ jB (@jA _ _ _ _ _ (oH nF jB) jD (by rfl)) (by rfl)) (by rfl)) (by rfl)) (by rfl)) (by rfl)) (by rfl))) jD)))) kM)
   (@jL _ _ _ (@j4 _ _ _ _ (pv 3))))))),?_⟩
 refine ⟨zz0,fun pl hpl0=>?_⟩
 have s1:=jM hpl0 (.lst [])
 refine ⟨zz3,fun mn hmn1=>?_⟩
 have s2:=jM hmn1 (.lst [V.int 0,V.int 0,V.int 0])
 have hmn0:=s1.free hmn1
 have npm:pl≠mn:=jY (jE (H:=H) (a:=pl) (o:=.lst [])) hmn1
 have hml:(ns.map V.int).length=ns.length:=List.length_map _
 obtain ⟨n,hn,hn21⟩:∃n:Nat,Builtin.Range.rangeSize 2 (((ns.map V.int).length:Nat):Int) 3=(n:Int)∧n≤21:=by
  rw [iH (by decide),hml]
  split
  ·exact ⟨(((ns.length:Nat):Int) - 2 - 1).toNat / 3+1,by omega,by omega⟩
  ·exact ⟨0,rfl,by omega⟩
 refine ⟨_,rfl,s,_,rfl,.inl ((s1.trans s2).seq hS),2,_,3,n,rfl,by decide,by decide,(by rw [hml];exact iL h63),hn,?_⟩
 refine lX (a:=2) (c:=3) (n:=n) (fun i σ Hi=>∃(its:List PIt) (a b c:Nat) (vs:List V) (c5 c6 c7:Option V),σ=[some (.ref s),some (.ref nl),some (.ref gl),some (.ref pl),some (.ref mn),c5,c6,c7]∧PlanOk rn gn its a b c∧Hi pl=some (.lst vs)∧Hi mn=some (.lst [V.int (a:Int),V.int (b:Int),V.int (c:Int)])∧PlanAt [pl,mn] Hi vs its∧Same H Hi) ⟨[],0,0,0,[],none,none,none,rfl,.nil,s2 _ _ jE,jE,PlanAt.nil,s1.trans s2⟩ ?_ ?_
 ·rintro i σ Hi hi ⟨its,a,b,c,vs,c5,c6,c7,rfl,ok,hpl,hmn,hpa,sm⟩
  refine ⟨_,rfl,by decide,by decide,fun cl hcl0=>?_⟩
  refine bA (n:=3) (caps:=[some (.ref s),some (.int (2+(i:Int)*3))]) (fun j ys Hj=>∃zs:List Int,ys=zs.map V.int∧zs.length=j) hcl0 ⟨[],rfl,rfl⟩ ?_ ?_
  ·rintro j ys Hj hj hle sm3 hY ⟨zs,rfl,hzl⟩
   rw [Int.zero_add]
   refine qL (qC ?_)
   refine ⟨_,rfl,_,rfl,_,rfl,_,_,rfl,rfl,s,ns,2+i*3+j,(by rw [show ((2+i*3+j:Nat):Int)=2+(i:Int)*3+(j:Int) by omega];rfl),(sm.trans sm3).seq hS,_,_,rfl,rfl,⟨by decide,by decide,by decide⟩,_,_,rfl,rfl,(show (0:Int)<10 ^ Int.toNat 40 from by decide +kernel),?_⟩
   refine kS hcl0 sm3 hY hle (by omega) (Same.refl _) ⟨zs++[ns.getD (2+i*3+j) 0%10 ^ Int.toNat 40],by rw [List.map_append];rfl,by rw [List.length_append,hzl];rfl⟩
  rintro ys Hj sj hcl hle ⟨zs,rfl,hzl⟩
  obtain ⟨z0,z1,z2,rfl⟩:∃z0 z1 z2,zs=[z0,z1,z2]:=by
   match zs,hzl with
   |[z0,z1,z2],_=>exact ⟨z0,z1,z2,rfl⟩
  have ncm:cl≠mn:=(jY hmn hcl0).symm
  have hpl:=sj _ _ hpl
  have hmn:=sj _ _ hmn
  have hpa:=hpa.same sj
  have sm:=sm.trans sj
  clear hcl0
  refine ⟨_,rfl,cl,_,_,_,rfl,rfl,SqL.of hcl,rfl,_,_,rfl,rfl,(by show (0:Int)<4;decide),?_⟩
  try dsimp only
  generalize z0%4=way
  refine ⟨_,rfl,rfl,_,rfl,?_⟩
  by_cases h3:way=3
  ·refine kA (congrArg V.int h3) ⟨_,rfl,mn,_,_,_,rfl,rfl,SqL.of hmn,rfl,_,_,rfl,rfl,_,rfl,?_⟩
   by_cases hc6:c<6
   ·refine kA (by omega) ?_
    refine ⟨_,rfl,mn,_,_,_,rfl,rfl,SqL.of hmn,rfl,_,_,rfl,rfl,_,rfl,mn,_,_,_,rfl,rfl,hmn,rfl,?_⟩
    have km:Keep mn Hj (upd Hj mn (.lst [V.int (a:Int),V.int (b:Int),V.int ((c:Int)+1)])):=(Keep.refl mn _).upd _
    have hmn2:upd Hj mn (.lst [V.int (a:Int),V.int (b:Int),V.int ((c:Int)+1)]) mn=some (.lst [V.int (a:Int),V.int (b:Int),V.int ((c:Int)+1)]):=jE
    have hpl2:=km _ _ npm hpl
    have hpa2:=hpa.keep km hmn (by simp)
    have sm2:Same H (upd Hj mn (.lst [V.int (a:Int),V.int (b:Int),V.int ((c:Int)+1)])):=kB hmn0 sm
    have hcl2:=km _ _ ncm hcl
    have hset:([V.int (a:Int),V.int (b:Int),V.int (c:Int)]:List V).set (Int.toNat 2) (V.int ((c:Int)+1))=[V.int (a:Int),V.int (b:Int),V.int ((c:Int)+1)]:=rfl
    try rw [hset]
    generalize upd Hj mn (.lst [V.int (a:Int),V.int (b:Int),V.int ((c:Int)+1)])=Hk at km hmn2 hpl2 hpa2 sm2 hcl2 ⊢
    refine ⟨_,rfl,.inl ⟨rfl,_,SqL.of hpl2⟩,_,rfl,cl,_,_,_,rfl,rfl,SqL.of hcl2,rfl,_,rfl,cl,_,_,_,rfl,rfl,SqL.of hcl2,rfl,_,rfl,cl,_,_,_,rfl,rfl,SqL.of hcl2,rfl,_,rfl,mn,_,_,_,rfl,rfl,SqL.of hmn2,rfl,z0,z1,z2,a,rfl,ok.bounds.1,fun ts rs t l Hm hts htl sM ht0 hl0 ht hl htr=>?_⟩
    have hpl3:=sM _ _ hpl2
    have kp:Keep pl Hm (upd Hm pl (.lst (vs++[.ref t]))):=(Keep.refl pl _).upd _
    refine ⟨pl,_,_,rfl,rfl,hpl3,qJ (by rw [hpa.1,ok.bounds.2.2.2];have:=ok.bounds;omega),?_⟩
    refine ⟨its++[.night ts],a,b,c+1,_,_,_,_,rfl,ok.night hc6 hts htl,jE,kp _ _ (fun z=>npm z.symm) (sM _ _ hmn2),?_,kB hpl0 (sm2.trans sM)⟩
    exact ((hpa2.same sM).snoc (v:=.ref t) (it:=.night ts) ⟨t,l,rs,rfl,ht,hl,htr,by simp only [List.mem_cons,List.mem_nil_iff,or_false,not_or];exact ⟨fun z=>jY hpl2 (z▸hl0) rfl,fun z=>jY hmn2 (z▸hl0) rfl⟩⟩).keep kp hpl3 (by simp)
   ·refine j0 (by omega) ⟨_,rfl,rfl,_,rfl,j0 (fun z=>absurd (V.int.inj z) (by omega)) ?_⟩
    refine ⟨_,rfl,mn,_,_,_,rfl,rfl,SqL.of hmn,rfl,_,_,rfl,rfl,_,rfl,?_⟩
    by_cases ha8:a<8
    ·refine kA (by omega) ?_
     refine ⟨_,rfl,mn,_,_,_,rfl,rfl,SqL.of hmn,rfl,_,_,rfl,rfl,_,rfl,mn,_,_,_,rfl,rfl,hmn,rfl,?_⟩
     have km:Keep mn Hj (upd Hj mn (.lst [V.int ((a:Int)+1),V.int (b:Int),V.int (c:Int)])):=(Keep.refl mn _).upd _
     have hmn2:upd Hj mn (.lst [V.int ((a:Int)+1),V.int (b:Int),V.int (c:Int)]) mn=some (.lst [V.int ((a:Int)+1),V.int (b:Int),V.int (c:Int)]):=jE
     have hpl2:=km _ _ npm hpl
     have hpa2:=hpa.keep km hmn (by simp)
     have sm2:Same H (upd Hj mn (.lst [V.int ((a:Int)+1),V.int (b:Int),V.int (c:Int)])):=kB hmn0 sm
     have hcl2:=km _ _ ncm hcl
     have hset:([V.int (a:Int),V.int (b:Int),V.int (c:Int)]:List V).set (Int.toNat 0) (V.int ((a:Int)+1))=[V.int ((a:Int)+1),V.int (b:Int),V.int (c:Int)]:=rfl
     try rw [hset]
     generalize upd Hj mn (.lst [V.int ((a:Int)+1),V.int (b:Int),V.int (c:Int)])=Hk at km hmn2 hpl2 hpa2 sm2 hcl2 ⊢
     refine ⟨_,rfl,.inl ⟨rfl,_,SqL.of hpl2⟩,_,rfl,_,rfl,mn,_,_,_,rfl,rfl,SqL.of hmn2,rfl,_,_,rfl,rfl,nl,_,_,_,rfl,rfl,SqL.of (sm2 _ _ hnl),z7 rn ha8,_,rfl,cl,_,_,_,rfl,rfl,SqL.of hcl2,rfl,_,rfl,cl,_,_,_,rfl,rfl,SqL.of hcl2,rfl,_,rfl,cl,_,_,_,rfl,rfl,SqL.of hcl2,rfl,_,rfl,mn,_,_,_,rfl,rfl,SqL.of hmn2,rfl,_,_,rfl,rfl,jF (rn a),z0,z1,z2,a,(by show [V.str (jF (rn a)),V.int z0,V.int z1,V.int z2,V.int ((a:Int)+1 - 1)]=_;rw [show (a:Int)+1 - 1=(a:Int) by omega]),fun r t Hm hnm hg sM ht0 ht=>?_⟩
     have hpl3:=sM _ _ hpl2
     have kp:Keep pl Hm (upd Hm pl (.lst (vs++[.ref t]))):=(Keep.refl pl _).upd _
     refine ⟨pl,_,_,rfl,rfl,hpl3,qJ (by rw [hpa.1,ok.bounds.2.2.2];have:=ok.bounds;omega),?_⟩
     refine ⟨its++[.reach r],a+1,b,c,_,_,_,_,rfl,ok.reach ha8 hnm hg,jE,kp _ _ (fun z=>npm z.symm) (sM _ _ hmn2),?_,kB hpl0 (sm2.trans sM)⟩
     exact ((hpa2.same sM).snoc (v:=.ref t) (it:=.reach r) ⟨t,rfl,ht⟩).keep kp hpl3 (by simp)
    ·exact j0 (by omega) ⟨its,a,b,c,vs,_,_,_,rfl,ok,hpl,hmn,hpa,sm⟩
  ·refine j0 (fun z=>h3 (V.int.inj z)) ⟨_,rfl,rfl,_,rfl,?_⟩
   by_cases h2:way=2
   ·refine kA (congrArg V.int h2) ⟨_,rfl,mn,_,_,_,rfl,rfl,SqL.of hmn,rfl,_,_,rfl,rfl,_,rfl,?_⟩
    by_cases ha1:1<a
    ·refine kA (by omega) ⟨_,rfl,mn,_,_,_,rfl,rfl,SqL.of hmn,rfl,_,_,rfl,rfl,_,rfl,?_⟩
     by_cases hb8:b<8
     ·refine kA (by omega) ?_
      refine ⟨_,rfl,mn,_,_,_,rfl,rfl,SqL.of hmn,rfl,_,_,rfl,rfl,_,rfl,mn,_,_,_,rfl,rfl,hmn,rfl,?_⟩
      have km:Keep mn Hj (upd Hj mn (.lst [V.int (a:Int),V.int ((b:Int)+1),V.int (c:Int)])):=(Keep.refl mn _).upd _
      have hmn2:upd Hj mn (.lst [V.int (a:Int),V.int ((b:Int)+1),V.int (c:Int)]) mn=some (.lst [V.int (a:Int),V.int ((b:Int)+1),V.int (c:Int)]):=jE
      have hpl2:=km _ _ npm hpl
      have hpa2:=hpa.keep km hmn (by simp)
      have sm2:Same H (upd Hj mn (.lst [V.int (a:Int),V.int ((b:Int)+1),V.int (c:Int)])):=kB hmn0 sm
      have hcl2:=km _ _ ncm hcl
      have hset:([V.int (a:Int),V.int (b:Int),V.int (c:Int)]:List V).set (Int.toNat 1) (V.int ((b:Int)+1))=[V.int (a:Int),V.int ((b:Int)+1),V.int (c:Int)]:=rfl
      try rw [hset]
      generalize upd Hj mn (.lst [V.int (a:Int),V.int ((b:Int)+1),V.int (c:Int)])=Hk at km hmn2 hpl2 hpa2 sm2 hcl2 ⊢
      refine ⟨_,rfl,.inl ⟨rfl,_,SqL.of hpl2⟩,_,rfl,_,rfl,mn,_,_,_,rfl,rfl,SqL.of hmn2,rfl,_,_,rfl,rfl,gl,_,_,_,rfl,rfl,SqL.of (sm2 _ _ hgl),z7 gn hb8,_,rfl,cl,_,_,_,rfl,rfl,SqL.of hcl2,rfl,_,rfl,cl,_,_,_,rfl,rfl,SqL.of hcl2,rfl,_,rfl,cl,_,_,_,rfl,rfl,SqL.of hcl2,rfl,_,rfl,mn,_,_,_,rfl,rfl,SqL.of hmn2,rfl,jF (gn b),z0,z1,z2,a,rfl,ha1,fun r t Hm hnm hg sM ht0 ht=>?_⟩
      have hpl3:=sM _ _ hpl2
      have kp:Keep pl Hm (upd Hm pl (.lst (vs++[.ref t]))):=(Keep.refl pl _).upd _
      refine ⟨pl,_,_,rfl,rfl,hpl3,qJ (by rw [hpa.1,ok.bounds.2.2.2];have:=ok.bounds;omega),?_⟩
      refine ⟨its++[.lock r],a,b+1,c,_,_,_,_,rfl,ok.lock hb8 hnm hg,jE,kp _ _ (fun z=>npm z.symm) (sM _ _ hmn2),?_,kB hpl0 (sm2.trans sM)⟩
      exact ((hpa2.same sM).snoc (v:=.ref t) (it:=.lock r) ⟨t,rfl,ht⟩).keep kp hpl3 (by simp)
     ·refine j0 (by omega) ?_
      refine ⟨_,rfl,mn,_,_,_,rfl,rfl,SqL.of hmn,rfl,_,_,rfl,rfl,_,rfl,?_⟩
      by_cases ha8:a<8
      ·refine kA (by omega) ?_
       refine ⟨_,rfl,mn,_,_,_,rfl,rfl,SqL.of hmn,rfl,_,_,rfl,rfl,_,rfl,mn,_,_,_,rfl,rfl,hmn,rfl,?_⟩
       have km:Keep mn Hj (upd Hj mn (.lst [V.int ((a:Int)+1),V.int (b:Int),V.int (c:Int)])):=(Keep.refl mn _).upd _
       have hmn2:upd Hj mn (.lst [V.int ((a:Int)+1),V.int (b:Int),V.int (c:Int)]) mn=some (.lst [V.int ((a:Int)+1),V.int (b:Int),V.int (c:Int)]):=jE
       have hpl2:=km _ _ npm hpl
       have hpa2:=hpa.keep km hmn (by simp)
       have sm2:Same H (upd Hj mn (.lst [V.int ((a:Int)+1),V.int (b:Int),V.int (c:Int)])):=kB hmn0 sm
       have hcl2:=km _ _ ncm hcl
       have hset:([V.int (a:Int),V.int (b:Int),V.int (c:Int)]:List V).set (Int.toNat 0) (V.int ((a:Int)+1))=[V.int ((a:Int)+1),V.int (b:Int),V.int (c:Int)]:=rfl
       try rw [hset]
       generalize upd Hj mn (.lst [V.int ((a:Int)+1),V.int (b:Int),V.int (c:Int)])=Hk at km hmn2 hpl2 hpa2 sm2 hcl2 ⊢
       refine ⟨_,rfl,.inl ⟨rfl,_,SqL.of hpl2⟩,_,rfl,_,rfl,mn,_,_,_,rfl,rfl,SqL.of hmn2,rfl,_,_,rfl,rfl,nl,_,_,_,rfl,rfl,SqL.of (sm2 _ _ hnl),z7 rn ha8,_,rfl,cl,_,_,_,rfl,rfl,SqL.of hcl2,rfl,_,rfl,cl,_,_,_,rfl,rfl,SqL.of hcl2,rfl,_,rfl,cl,_,_,_,rfl,rfl,SqL.of hcl2,rfl,_,rfl,mn,_,_,_,rfl,rfl,SqL.of hmn2,rfl,_,_,rfl,rfl,jF (rn a),z0,z1,z2,a,(by show [V.str (jF (rn a)),V.int z0,V.int z1,V.int z2,V.int ((a:Int)+1 - 1)]=_;rw [show (a:Int)+1 - 1=(a:Int) by omega]),fun r t Hm hnm hg sM ht0 ht=>?_⟩
       have hpl3:=sM _ _ hpl2
       have kp:Keep pl Hm (upd Hm pl (.lst (vs++[.ref t]))):=(Keep.refl pl _).upd _
       refine ⟨pl,_,_,rfl,rfl,hpl3,qJ (by rw [hpa.1,ok.bounds.2.2.2];have:=ok.bounds;omega),?_⟩
       refine ⟨its++[.reach r],a+1,b,c,_,_,_,_,rfl,ok.reach ha8 hnm hg,jE,kp _ _ (fun z=>npm z.symm) (sM _ _ hmn2),?_,kB hpl0 (sm2.trans sM)⟩
       exact ((hpa2.same sM).snoc (v:=.ref t) (it:=.reach r) ⟨t,rfl,ht⟩).keep kp hpl3 (by simp)
      ·exact j0 (by omega) ⟨its,a,b,c,vs,_,_,_,rfl,ok,hpl,hmn,hpa,sm⟩
    ·refine j0 (by omega) ?_
     refine ⟨_,rfl,mn,_,_,_,rfl,rfl,SqL.of hmn,rfl,_,_,rfl,rfl,_,rfl,?_⟩
     by_cases ha8:a<8
     ·refine kA (by omega) ?_
      refine ⟨_,rfl,mn,_,_,_,rfl,rfl,SqL.of hmn,rfl,_,_,rfl,rfl,_,rfl,mn,_,_,_,rfl,rfl,hmn,rfl,?_⟩
      have km:Keep mn Hj (upd Hj mn (.lst [V.int ((a:Int)+1),V.int (b:Int),V.int (c:Int)])):=(Keep.refl mn _).upd _
      have hmn2:upd Hj mn (.lst [V.int ((a:Int)+1),V.int (b:Int),V.int (c:Int)]) mn=some (.lst [V.int ((a:Int)+1),V.int (b:Int),V.int (c:Int)]):=jE
      have hpl2:=km _ _ npm hpl
      have hpa2:=hpa.keep km hmn (by simp)
      have sm2:Same H (upd Hj mn (.lst [V.int ((a:Int)+1),V.int (b:Int),V.int (c:Int)])):=kB hmn0 sm
      have hcl2:=km _ _ ncm hcl
      have hset:([V.int (a:Int),V.int (b:Int),V.int (c:Int)]:List V).set (Int.toNat 0) (V.int ((a:Int)+1))=[V.int ((a:Int)+1),V.int (b:Int),V.int (c:Int)]:=rfl
      try rw [hset]
      generalize upd Hj mn (.lst [V.int ((a:Int)+1),V.int (b:Int),V.int (c:Int)])=Hk at km hmn2 hpl2 hpa2 sm2 hcl2 ⊢
      refine ⟨_,rfl,.inl ⟨rfl,_,SqL.of hpl2⟩,_,rfl,_,rfl,mn,_,_,_,rfl,rfl,SqL.of hmn2,rfl,_,_,rfl,rfl,nl,_,_,_,rfl,rfl,SqL.of (sm2 _ _ hnl),z7 rn ha8,_,rfl,cl,_,_,_,rfl,rfl,SqL.of hcl2,rfl,_,rfl,cl,_,_,_,rfl,rfl,SqL.of hcl2,rfl,_,rfl,cl,_,_,_,rfl,rfl,SqL.of hcl2,rfl,_,rfl,mn,_,_,_,rfl,rfl,SqL.of hmn2,rfl,_,_,rfl,rfl,jF (rn a),z0,z1,z2,a,(by show [V.str (jF (rn a)),V.int z0,V.int z1,V.int z2,V.int ((a:Int)+1 - 1)]=_;rw [show (a:Int)+1 - 1=(a:Int) by omega]),fun r t Hm hnm hg sM ht0 ht=>?_⟩
      have hpl3:=sM _ _ hpl2
      have kp:Keep pl Hm (upd Hm pl (.lst (vs++[.ref t]))):=(Keep.refl pl _).upd _
      refine ⟨pl,_,_,rfl,rfl,hpl3,qJ (by rw [hpa.1,ok.bounds.2.2.2];have:=ok.bounds;omega),?_⟩
      refine ⟨its++[.reach r],a+1,b,c,_,_,_,_,rfl,ok.reach ha8 hnm hg,jE,kp _ _ (fun z=>npm z.symm) (sM _ _ hmn2),?_,kB hpl0 (sm2.trans sM)⟩
      exact ((hpa2.same sM).snoc (v:=.ref t) (it:=.reach r) ⟨t,rfl,ht⟩).keep kp hpl3 (by simp)
     ·exact j0 (by omega) ⟨its,a,b,c,vs,_,_,_,rfl,ok,hpl,hmn,hpa,sm⟩
   ·refine j0 (fun z=>h2 (V.int.inj z)) ?_
    refine ⟨_,rfl,mn,_,_,_,rfl,rfl,SqL.of hmn,rfl,_,_,rfl,rfl,_,rfl,?_⟩
    by_cases ha8:a<8
    ·refine kA (by omega) ?_
     refine ⟨_,rfl,mn,_,_,_,rfl,rfl,SqL.of hmn,rfl,_,_,rfl,rfl,_,rfl,mn,_,_,_,rfl,rfl,hmn,rfl,?_⟩
     have km:Keep mn Hj (upd Hj mn (.lst [V.int ((a:Int)+1),V.int (b:Int),V.int (c:Int)])):=(Keep.refl mn _).upd _
     have hmn2:upd Hj mn (.lst [V.int ((a:Int)+1),V.int (b:Int),V.int (c:Int)]) mn=some (.lst [V.int ((a:Int)+1),V.int (b:Int),V.int (c:Int)]):=jE
     have hpl2:=km _ _ npm hpl
     have hpa2:=hpa.keep km hmn (by simp)
     have sm2:Same H (upd Hj mn (.lst [V.int ((a:Int)+1),V.int (b:Int),V.int (c:Int)])):=kB hmn0 sm
     have hcl2:=km _ _ ncm hcl
     have hset:([V.int (a:Int),V.int (b:Int),V.int (c:Int)]:List V).set (Int.toNat 0) (V.int ((a:Int)+1))=[V.int ((a:Int)+1),V.int (b:Int),V.int (c:Int)]:=rfl
     try rw [hset]
     generalize upd Hj mn (.lst [V.int ((a:Int)+1),V.int (b:Int),V.int (c:Int)])=Hk at km hmn2 hpl2 hpa2 sm2 hcl2 ⊢
     refine ⟨_,rfl,.inl ⟨rfl,_,SqL.of hpl2⟩,_,rfl,_,rfl,mn,_,_,_,rfl,rfl,SqL.of hmn2,rfl,_,_,rfl,rfl,nl,_,_,_,rfl,rfl,SqL.of (sm2 _ _ hnl),z7 rn ha8,_,rfl,cl,_,_,_,rfl,rfl,SqL.of hcl2,rfl,_,rfl,cl,_,_,_,rfl,rfl,SqL.of hcl2,rfl,_,rfl,cl,_,_,_,rfl,rfl,SqL.of hcl2,rfl,_,rfl,mn,_,_,_,rfl,rfl,SqL.of hmn2,rfl,_,_,rfl,rfl,jF (rn a),z0,z1,z2,a,(by show [V.str (jF (rn a)),V.int z0,V.int z1,V.int z2,V.int ((a:Int)+1 - 1)]=_;rw [show (a:Int)+1 - 1=(a:Int) by omega]),fun r t Hm hnm hg sM ht0 ht=>?_⟩
     have hpl3:=sM _ _ hpl2
     have kp:Keep pl Hm (upd Hm pl (.lst (vs++[.ref t]))):=(Keep.refl pl _).upd _
     refine ⟨pl,_,_,rfl,rfl,hpl3,qJ (by rw [hpa.1,ok.bounds.2.2.2];have:=ok.bounds;omega),?_⟩
     refine ⟨its++[.reach r],a+1,b,c,_,_,_,_,rfl,ok.reach ha8 hnm hg,jE,kp _ _ (fun z=>npm z.symm) (sM _ _ hmn2),?_,kB hpl0 (sm2.trans sM)⟩
     exact ((hpa2.same sM).snoc (v:=.ref t) (it:=.reach r) ⟨t,rfl,ht⟩).keep kp hpl3 (by simp)
    ·exact j0 (by omega) ⟨its,a,b,c,vs,_,_,_,rfl,ok,hpl,hmn,hpa,sm⟩
 rintro σ Hi ⟨its,a,b,c,vs,c5,c6,c7,rfl,ok,hpl,hmn,hpa,sm⟩
 refine ⟨fun σ' H'=>∃(its:List PIt) (a b c:Nat) (vs:List V),σ'=[some (.ref s),some (.ref nl),some (.ref gl),some (.ref pl),some (.ref mn),c5,c6,c7]∧1≤a∧PlanOk rn gn its a b c∧H' pl=some (.lst vs)∧PlanAt [pl,mn] H' vs its∧Same H H',?_,?_⟩
 ·refine ⟨_,rfl,mn,_,_,_,rfl,rfl,SqL.of hmn,rfl,rfl,_,rfl,?_⟩
  by_cases ha:a=0
  ·subst ha
   refine kA rfl ⟨_,rfl,.inl ⟨rfl,_,SqL.of hpl⟩,_,rfl,nl,_,_,_,rfl,rfl,SqL.of (sm _ _ hnl),iQ rn,_,rfl,zz7,fun t ht=>?_⟩
   have u:=jM ht (.tup (v2 ⟨jF (rn 0),0,7,1,9,-1⟩))
   have hpl3:=u _ _ hpl
   have kp:Keep pl (upd Hi t (.tup (v2 ⟨jF (rn 0),0,7,1,9,-1⟩))) (upd (upd Hi t (.tup (v2 ⟨jF (rn 0),0,7,1,9,-1⟩))) pl (.lst (vs++[.ref t]))):=(Keep.refl pl _).upd _
   refine ⟨pl,_,_,rfl,rfl,hpl3,qJ (by rw [hpa.1,ok.bounds.2.2.2];have:=ok.bounds;omega),?_⟩
   refine ⟨its++[.reach ⟨jF (rn 0),0,7,1,9,-1⟩],1,b,c,vs++[.ref t],rfl,by decide,ok.reach (by decide) rfl (oW _),jE,?_,kB hpl0 (sm.trans u)⟩
   exact ((hpa.same u).snoc (v:=.ref t) (it:=.reach ⟨jF (rn 0),0,7,1,9,-1⟩) ⟨t,rfl,jE⟩).keep kp hpl3 (by simp)
  ·exact j0 (fun z=>ha (by have:=V.int.inj z;omega)) ⟨its,a,b,c,vs,rfl,by omega,ok,hpl,hpa,sm⟩
 rintro σ' H' ⟨its,a,b,c,vs,rfl,ha,ok,hpl,hpa,sm⟩
 exact ⟨_,rfl,q its a b c pl vs H' ok ha sm hpl0 hpl (hpa.less (by simp))⟩
theorem v7:FnScope ["plan","reaches","nights","one","pairs","k","comes","goes"] ["plan"] (jG vL):=⟨rfl,rfl,rfl,by decide +kernel,rfl,by decide +kernel,by decide +kernel⟩
theorem eX {f:Addr} {fd:FuncData} (F:Fun K "_law_due" "_law_due" vL f fd) (T:Txt K mg cP cB cU cR cN tkS) : FnOk P w K mg base jR 1 f fd ["plan"] (dN):=by
 refine F.ok v7 (fun vs H Q E h=>?_) (fun cdv A outer s H vs Q E hr h=>?_)
 ·obtain ⟨pl,us,its,rn,gn,a,b,c,rfl,hpl,hpa,ok,q⟩:=h
  rfl
 obtain ⟨pl,us,its,rn,gn,a,b,c,rfl,hpl,hpa,ok,q⟩:=h
 have hu:_<cLine:=hr.units0
 have hu1:=j8 hr
 refine ⟨_,(@jI _ _ _ _ _ (yM (i:=1) ["one"] (kO 1 []) v7.nd rfl (by first|exact Or.inl rfl|exact Or.inr rfl) rfl (kX (jG vL) rfl rfl (by decide +kernel) (by decide +kernel) (by decide +kernel)) (kZ 1 [] rfl rfl (by decide +kernel)) (kY (pv 0)) (fun _ _ _ _ _=>(j5 (i:=0) (show List.Nodup (["one"]:List Str) from by decide +kernel) rfl (by first|exact Or.inl rfl|exact Or.inr rfl))) (fun _ _ _ _ _=>(ZC (j3 kK (jH (vF K) (pv 0) jB (fun _ _=>rfl)) jQ (j1 _)))) (fun _ _ _ _ _=>(pv 0)))
   (@jI _ _ _ _ _ (jP (i:=2) v7.nd rfl (by first|exact Or.inl rfl|exact Or.inr rfl) (kF jD))
   (@jI _ _ _ _ _ (vR PassesOwn.never rfl (kY (pv 0)) (j5 (i:=3) v7.nd rfl (by first|exact Or.inl rfl|exact Or.inr rfl))
    (@jL _ _ _ (kJ (j3 kK (jH jT (pv 3) jB (fun _ _=>rfl)) jQ (j1 _)) (@jI _ _ _ _ _ (yM (i:=4) ["reach"] (kO 1 []) v7.nd rfl (by first|exact Or.inl rfl|exact Or.inr rfl) rfl (kX (jG vL) rfl rfl (by decide +kernel) (by decide +kernel) (by decide +kernel)) (kZ 1 [] rfl rfl (by decide +kernel)) (kY (pv 1)) (fun _ _ _ _ _=>(j5 (i:=0) (show List.Nodup (["reach"]:List Str) from by decide +kernel) rfl (by first|exact Or.inl rfl|exact Or.inr rfl))) (fun _ _ _ _ _=>qK) (fun _ _ _ _ _=>(qS (jA jB (jA jB jD)))))
   (@jI _ _ _ _ _ (vR PassesOwn.never rfl (kY (jH jT (pv 3) jB (fun _ _=>rfl))) (ZK rfl (v8 (j5 (i:=5) v7.nd rfl (by first|exact Or.inl rfl|exact Or.inr rfl)) (v8 (j5 (i:=6) v7.nd rfl (by first|exact Or.inl rfl|exact Or.inr rfl)) (v8 (j5 (i:=7) v7.nd rfl (by first|exact Or.inl rfl|exact Or.inr rfl)) ZD))))
    (@jL _ _ _ (J8 (qS (jA (pv 6) (jA (pv 7) jD))) (J9 (pv 4) (pv 5) JY))))
   (@jL _ _ _ (qO (kW PySem.F.plainAttrs_list PySem.F.slot_list_append PySem.F.type_list_append vP (pv 2) (jA (pv 4) jD)))))) kM)))
   (@jL _ _ _ (@j4 _ _ _ _ (qS (@jA _ _ _ _ _ (pv 1) (@jA _ _ _ _ _ (qZ ["one"] (kO 1 []) rfl (kX (jG vL) rfl rfl (by decide +kernel) (by decide +kernel) (by decide +kernel)) (kZ 1 [] rfl rfl (by decide +kernel)) (kY (pv 0)) (fun _ _ _ _ _=>(j5 (i:=0) (show List.Nodup (["one"]:List Str) from by decide +kernel) rfl (by first|exact Or.inl rfl|exact Or.inr rfl))) (fun _ _ _ _ _=>(ZC (j3 kK (jH (vF K) (pv 0) jB (fun _ _=>rfl)) jQ (j1 _)))) (fun _ _ _ _ _=>(pv 0))) (@jA _ _ _ _ _ (pv 2) jD (by rfl)) (by rfl)) (by rfl)))))))),?_⟩
 refine ⟨_,rfl,pl,rfl,⟨_,SqL.of hpl⟩,fun rl hrl0=>?_⟩
 refine qN (K:=K) (a:=pl) (xs:=us) (caps:=[]) (fun i ys Hi=>AllAt (RAt H) ys ((its.take i).filterMap yR)) hrl0 (SqL.of hpl) AllAt.nil ?_ ?_
 ·rintro i v ys Hi hv hi hle sm hY hR
  obtain ⟨it,hit,hat⟩:=hpa.2 i v hv
  have hi30:i<30:=by have:=(List.getElem?_eq_some_iff.mp hit).1;have:=ok.bounds;omega
  cases it with
  |reach r =>
   obtain ⟨t,rfl,ht⟩:=hat
   refine ⟨_,rfl,t,_,_,_,rfl,rfl,SqT.of (sm _ _ ht),rfl,rfl,_,rfl,kA rfl ⟨_,rfl,kS hrl0 sm hY hle (by omega) (Same.refl _) ?_⟩⟩
   rw [vQ yR its hit]
   exact hR.snoc ⟨t,rfl,ht⟩
  |lock r =>
   obtain ⟨t,rfl,ht⟩:=hat
   refine ⟨_,rfl,t,_,_,_,rfl,rfl,SqT.of (sm _ _ ht),rfl,rfl,_,rfl,j0 (fun z=>d5 (V.str.inj z)) (z5 sm hY hle (Same.refl _) ?_)⟩
   rw [vQ yR its hit,show (yR (.lock r)).toList=[] from rfl,List.append_nil]
   exact hR
  |night ts =>
   obtain ⟨t,_,_,rfl,ht,_⟩:=hat
   refine ⟨_,rfl,t,_,_,_,rfl,rfl,SqT.of (sm _ _ ht),rfl,rfl,_,rfl,j0 (fun z=>d4 (V.str.inj z)) (z5 sm hY hle (Same.refl _) ?_)⟩
   rw [vQ yR its hit,show (yR (.night ts)).toList=[] from rfl,List.append_nil]
   exact hR
 rintro rs H1 s1 hrl hle1 hR
 rw [hpa.1,List.take_length] at hR
 have hR:AllAt (RAt H) rs (kC its):=hR
 refine ⟨zz0,fun nl hnl0=>?_⟩
 have s2:=jM hnl0 (.lst [])
 have s12:=s1.trans s2
 have nrl:rl≠nl:=jY hrl hnl0
 obtain ⟨tr1,tr2,tr3⟩:=z6 ok
 have hrl2:=s2 _ _ hrl
 have hrs:rs.length=a:=by rw [hR.1,tr1]
 generalize hH2:upd H1 nl (.lst [])=H2 at s2 s12 hrl2 ⊢
 have hnl2:H2 nl=some (.lst []):=by rw [← hH2];exact jE
 clear hH2
 refine ⟨_,rfl,pl,rfl,⟨_,SqL.of (s12 _ _ hpl)⟩,J3 (K:=K) (a:=pl) (xs:=us) (fun i σ Hi=>∃(ns:List V) (c3 c4 c5 c6 c7:Option V),σ=[some (.ref pl),some (.ref rl),some (.ref nl),c3,c4,c5,c6,c7]∧Hi nl=some (.lst ns)∧AllAt (NAt [rl,nl] Hi) ns ((its.take i).filterMap (vK a))∧Hi rl=some (.lst rs)∧Same H Hi)
  ⟨[],none,none,none,none,none,rfl,hnl2,AllAt.nil,hrl2,s12⟩ (fun i σ Hi _ ⟨_,_,_,_,_,_,_,_,_,_,s⟩=>SqL.of (s _ _ hpl)) ?_ ?_⟩
 ·rintro i v σ Hi hv ⟨ns,c3,c4,c5,c6,c7,rfl,hnl,hN,hrl,sm⟩
  obtain ⟨it,hit,hat⟩:=hpa.2 i v hv
  have hi30:i<30:=by have:=(List.getElem?_eq_some_iff.mp hit).1;have:=ok.bounds;omega
  cases it with
  |reach r =>
   obtain ⟨t,rfl,ht⟩:=hat
   refine ⟨_,rfl,t,_,_,_,rfl,rfl,SqT.of (sm _ _ ht),rfl,rfl,_,rfl,j0 (fun z=>o0 (V.str.inj z)) ⟨ns,_,c4,c5,c6,c7,rfl,hnl,?_,hrl,sm⟩⟩
   rw [vQ (vK a) its hit,show (vK a (.reach r)).toList=[] from rfl,List.append_nil]
   exact hN
  |lock r =>
   obtain ⟨t,rfl,ht⟩:=hat
   refine ⟨_,rfl,t,_,_,_,rfl,rfl,SqT.of (sm _ _ ht),rfl,rfl,_,rfl,j0 (fun z=>o3 (V.str.inj z)) ⟨ns,_,c4,c5,c6,c7,rfl,hnl,?_,hrl,sm⟩⟩
   rw [vQ (vK a) its hit,show (vK a (.lock r)).toList=[] from rfl,List.append_nil]
   exact hN
  |night ts =>
   obtain ⟨t,l,trs,rfl,ht,hl,htr,hlD⟩:=hat
   obtain ⟨tok,tlen⟩:=tr3 ts (List.mem_of_getElem? hit)
   refine ⟨_,rfl,t,_,_,_,rfl,rfl,SqT.of (sm _ _ ht),rfl,rfl,_,rfl,kA rfl ?_⟩
   refine ⟨_,rfl,rl,rfl,⟨_,SqL.of hrl⟩,fun pr hpr0=>?_⟩
   refine qN (K:=K) (a:=rl) (xs:=rs) (caps:=[]) (fun j ys Hj=>AllAt (QAt Hj) ys (List.replicate j ((0:Int),(0:Int)))) hpr0 (SqL.of hrl) AllAt.nil ?_ ?_
   ·rintro j y ys Hj hy hj hle sj hY hQ
    have hj8:j<30:=by rw [hrs] at hj;have:=ok.bounds;omega
    refine qL (qC ⟨zz2,fun tp htp=>?_⟩)
    have u:=jM htp (.tup [V.int 0,V.int 0])
    refine kS hpr0 sj hY hle (by omega) u ?_
    rw [List.replicate_succ']
    exact ((hQ.mono (QAt.same u)).snoc (v:=.ref tp) (x:=((0:Int),(0:Int))) ⟨tp,rfl,jE⟩).mono (QAt.put (u _ _ hY))
   rintro qs Hj sj hpr hle hQ
   rw [hrs] at hQ
   have sm1:=sm.trans sj
   refine ⟨_,rfl,t,_,_,_,rfl,rfl,SqT.of (sm1 _ _ ht),rfl,l,rfl,⟨trs,SqL.of (sm1 _ _ hl)⟩,J3 (K:=K) (a:=l) (xs:=trs) (fun j σ Hm=>∃(qs:List V) (c5 c6 c7:Option V),σ=[some (.ref pl),some (.ref rl),some (.ref nl),some (.ref t),some (.ref pr),c5,c6,c7]∧Hm pr=some (.lst qs)∧AllAt (QAt Hm) qs (vA a (ts.take j))∧Same Hi Hm)
    ⟨qs,c5,c6,c7,rfl,hpr,hQ,sj⟩ (fun j σ Hm _ ⟨_,_,_,_,_,_,_,s⟩=>SqL.of ((sm.trans s) _ _ hl)) ?_ ?_⟩
   ·rintro j y σ Hm hy ⟨qs,c5,c6,c7,rfl,hpr,hQ,sM⟩
    obtain ⟨ta,k,x,z,rfl,htk,hta⟩:=htr.2 j y hy
    have hk:=(tok.2 _ (List.mem_of_getElem? htk)).1
    have hk:k<a:=hk
    refine ⟨ta,_,rfl,SqT.of ((sm.trans sM) _ _ hta),rfl,_,_,rfl,_,_,rfl,_,_,rfl,rfl,?_⟩
    refine ⟨_,rfl,_,rfl,zz2,fun tp htp=>?_⟩
    have u:=jM htp (.tup [V.int x,V.int z])
    have hpr2:=u _ _ hpr
    refine ⟨_,rfl,_,rfl,pr,_,_,_,rfl,rfl,hpr2,m3 (by rw [hQ.1,Z8];exact hk),?_⟩
    refine ⟨_,_,_,_,rfl,jE,?_,?_⟩
    ·rw [gF a ts htk]
     exact ((hQ.mono (QAt.same u)).put k (v:=.ref tp) (x:=(x,z)) ⟨tp,rfl,jE⟩).mono (QAt.put hpr2)
    ·exact kB hpr0 (sM.trans u)
   ·rintro σ Hm ⟨qs,c5,c6,c7,rfl,hpr,hQ,sM⟩
    rw [htr.1,List.take_length] at hQ
    have hnl3:=sM _ _ hnl
    refine ⟨_,rfl,.inl ⟨rfl,_,SqL.of hnl3⟩,_,rfl,nl,_,_,rfl,rfl,hnl3,qJ (by rw [hN.1];have:=List.length_filterMap_le (vK a) (its.take i);rw [List.length_take] at this;omega),?_⟩
    have npn:pr≠nl:=(jY hnl hpr0).symm
    have npr:pr≠rl:=(jY hrl hpr0).symm
    refine ⟨ns++[.ref pr],_,_,_,_,_,rfl,jE,?_,by rw [jO nrl];exact sM _ _ hrl,kB (s1.free hnl0) (sm.trans sM)⟩
    rw [vQ (vK a) its hit]
    refine ((hN.mono (NAt.same sM)).snoc (v:=.ref pr) (x:=vA a ts) ⟨pr,qs,rfl,hpr,hQ,?_⟩).mono (NAt.put hnl3 (by simp))
    simp only [List.mem_cons,List.mem_nil_iff,or_false,not_or]
    exact ⟨npr,npn⟩
 rintro σ Hi ⟨ns,c3,c4,c5,c6,c7,rfl,hnl,hN,hrl,sm⟩
 rw [hpa.1,List.take_length] at hN
 refine ⟨_,rfl,_,rfl,pl,rfl,⟨_,SqL.of (sm _ _ hpl)⟩,fun ll hll0=>?_⟩
 have smO:=sm
 have hN2:AllAt (NAt [rl,ll,nl] Hi) ns (its.filterMap (vK a)):=hN.mono fun v ps=>by
  rintro ⟨l,qs,h1,h2,h3,h4⟩
  refine ⟨l,qs,h1,h2,h3,?_⟩
  simp only [List.mem_cons,List.mem_nil_iff,or_false,not_or] at h4 ⊢
  exact ⟨h4.1,jY h2 hll0,h4.2⟩
 refine qN (K:=K) (a:=pl) (xs:=us) (caps:=[]) (fun i ys Hj=>AllAt (LAt H) ys ((its.take i).filterMap yT)) hll0 (SqL.of (sm _ _ hpl)) AllAt.nil ?_ ?_
 ·rintro i v ys Hi hv hi hle sm hY hR
  obtain ⟨it,hit,hat⟩:=hpa.2 i v hv
  have hi30:i<30:=by have:=(List.getElem?_eq_some_iff.mp hit).1;have:=ok.bounds;omega
  cases it with
  |reach r =>
   obtain ⟨t,rfl,ht⟩:=hat
   refine ⟨_,rfl,t,_,_,_,rfl,rfl,SqT.of (sm _ _ (smO _ _ ht)),rfl,rfl,_,rfl,j0 (fun z=>o4 (V.str.inj z)) (z5 sm hY hle (Same.refl _) ?_)⟩
   rw [vQ yT its hit,show (yT (.reach r)).toList=[] from rfl,List.append_nil]
   exact hR
  |lock r =>
   obtain ⟨t,rfl,ht⟩:=hat
   refine ⟨_,rfl,t,_,_,_,rfl,rfl,SqT.of (sm _ _ (smO _ _ ht)),rfl,rfl,_,rfl,kA rfl ⟨_,rfl,kS hll0 sm hY hle (by omega) (Same.refl _) ?_⟩⟩
   rw [vQ yT its hit]
   exact hR.snoc ⟨t,rfl,ht⟩
  |night ts =>
   obtain ⟨t,_,_,rfl,ht,_⟩:=hat
   refine ⟨_,rfl,t,_,_,_,rfl,rfl,SqT.of (sm _ _ (smO _ _ ht)),rfl,rfl,_,rfl,j0 (fun z=>d6 (V.str.inj z)) (z5 sm hY hle (Same.refl _) ?_)⟩
   rw [vQ yT its hit,show (yT (.night ts)).toList=[] from rfl,List.append_nil]
   exact hR
 rintro ls H3 s3 hll hle hL
 rw [hpa.1,List.take_length] at hL
 refine ⟨_,rfl,zz3,fun t ht=>?_⟩
 have u:=jM ht (.tup [V.ref rl,V.ref ll,V.ref nl])
 have sF:=(sm.trans s3).trans u
 refine q t rl ll nl rs ls ns _ sF jE (u _ _ (s3 _ _ hrl)) (u _ _ hll) (u _ _ (s3 _ _ hnl)) (hR.mono (RAt.same sF)) (hL.mono (LAt.same sF)) ?_
 unfold v9
 rw [tr1]
 exact hN2.mono (NAt.same (s3.trans u))
theorem fX:FnScope ["one"] ["one"] (jG y9):=⟨rfl,rfl,rfl,by decide +kernel,rfl,by decide +kernel,by decide +kernel⟩
theorem eY {f:Addr} {fd:FuncData} (F:Fun K "_law_gate" "_law_gate" y9 f fd) (T:Txt K mg cP cB cU cR cN tkS) (M_BasinLock:MkD P w K mg base 2 "BasinLock" cB ["self","name","high","low","room","side"] (zM (jN cP cB cU) .basin)) (M_PumpLock:MkD P w K mg base 2 "PumpLock" cU ["self","name","high","low","room","lift"] (zM (jN cP cB cU) .pump)) (M_PlainLock:MkD P w K mg base 1 "PlainLock" cP ["self","name","high","low","room"] (zN (jN cP cB cU))):FnOk P w K mg base jR 4 f fd ["one"] (cW (jN cP cB cU)):=by
 refine F.ok fX (fun vs H Q E h=>?_) (fun cdv A outer s H vs Q E hr h=>?_)
 ·obtain ⟨t,l,rfl,ht,q⟩:=h
  rfl
 obtain ⟨t,l,rfl,ht,q⟩:=h
 have hu:_<cLine:=hr.units0
 have hu1:=j8 hr
 refine ⟨_,(@jI _ _ _ _ _ (kJ (j3 kK (jH jT (pv 0) jB (fun _ _=>rfl)) jQ (j1 _)) (@jL _ _ _ (@j4 _ _ _ _ (JE M_BasinLock hr rfl (@jA _ _ _ _ _ (jH jT (pv 0) jB (fun _ _=>rfl)) (@jA _ _ _ _ _ (jH jT (pv 0) jB (fun _ _=>rfl)) (@jA _ _ _ _ _ (jH jT (pv 0) jB (fun _ _=>rfl)) (@jA _ _ _ _ _ (jH jT (pv 0) jB (fun _ _=>rfl)) (@jA _ _ _ _ _ (jH jT (pv 0) jB (fun _ _=>rfl)) jD (by rfl)) (by rfl)) (by rfl)) (by rfl)) (by rfl))))) kM)
   (@jI _ _ _ _ _ (kJ (j3 kK (jH jT (pv 0) jB (fun _ _=>rfl)) jQ (j1 _)) (@jL _ _ _ (@j4 _ _ _ _ (JE M_PumpLock hr rfl (@jA _ _ _ _ _ (jH jT (pv 0) jB (fun _ _=>rfl)) (@jA _ _ _ _ _ (jH jT (pv 0) jB (fun _ _=>rfl)) (@jA _ _ _ _ _ (jH jT (pv 0) jB (fun _ _=>rfl)) (@jA _ _ _ _ _ (jH jT (pv 0) jB (fun _ _=>rfl)) (@jA _ _ _ _ _ (jH jT (pv 0) jB (fun _ _=>rfl)) jD (by rfl)) (by rfl)) (by rfl)) (by rfl)) (by rfl))))) kM)
   (@jL _ _ _ (@j4 _ _ _ _ (JE M_PlainLock hr rfl (@jA _ _ _ _ _ (jH jT (pv 0) jB (fun _ _=>rfl)) (@jA _ _ _ _ _ (jH jT (pv 0) jB (fun _ _=>rfl)) (@jA _ _ _ _ _ (jH jT (pv 0) jB (fun _ _=>rfl)) (@jA _ _ _ _ _ (jH jT (pv 0) jB (fun _ _=>rfl)) jD (by rfl)) (by rfl)) (by rfl)) (by rfl))))))),?_⟩
 obtain ⟨nm,hi,lo,ro,kd,ex⟩:=l
 cases kd with
 |plain =>
  refine ⟨_,rfl,t,_,_,_,rfl,rfl,SqT.of ht,rfl,rfl,_,rfl,j0 (fun z=>eH (V.str.inj z)) ⟨_,rfl,t,_,_,_,rfl,rfl,SqT.of ht,rfl,rfl,_,rfl,j0 (fun z=>eG (V.str.inj z)) ⟨_,rfl,t,_,_,_,rfl,rfl,SqT.of ht,rfl,_,rfl,t,_,_,_,rfl,rfl,SqT.of ht,rfl,_,rfl,t,_,_,_,rfl,rfl,SqT.of ht,rfl,_,rfl,t,_,_,_,rfl,rfl,SqT.of ht,rfl,?_⟩⟩⟩
  intro x dx nx ndx nex
  refine ⟨.plain,x,dx,_,_,_,_,rfl,jE,fun H' kp hx=>⟨rfl,?_⟩⟩
  refine q x H' (fun b o e=>?_) nx ⟨dx,hx⟩
  refine kp b o (jY e nx) ?_
  rw [jO (jY e nx),jO (jY e ndx)]
  exact e
 |basin =>
  refine ⟨_,rfl,t,_,_,_,rfl,rfl,SqT.of ht,rfl,rfl,_,rfl,kA rfl ⟨_,rfl,t,_,_,_,rfl,rfl,SqT.of ht,rfl,_,rfl,t,_,_,_,rfl,rfl,SqT.of ht,rfl,_,rfl,t,_,_,_,rfl,rfl,SqT.of ht,rfl,_,rfl,t,_,_,_,rfl,rfl,SqT.of ht,rfl,_,rfl,t,_,_,_,rfl,rfl,SqT.of ht,rfl,?_⟩⟩
  intro x dx nx ndx nex
  refine ⟨x,dx,_,_,_,_,_,rfl,jE,fun H' kp hx=>⟨rfl,?_⟩⟩
  refine q x H' (fun b o e=>?_) nx ⟨dx,hx⟩
  refine kp b o (jY e nx) ?_
  rw [jO (jY e nx),jO (jY e ndx)]
  exact e
 |pump =>
  refine ⟨_,rfl,t,_,_,_,rfl,rfl,SqT.of ht,rfl,rfl,_,rfl,j0 (fun z=>pN (V.str.inj z)) ⟨_,rfl,t,_,_,_,rfl,rfl,SqT.of ht,rfl,rfl,_,rfl,kA rfl ⟨_,rfl,t,_,_,_,rfl,rfl,SqT.of ht,rfl,_,rfl,t,_,_,_,rfl,rfl,SqT.of ht,rfl,_,rfl,t,_,_,_,rfl,rfl,SqT.of ht,rfl,_,rfl,t,_,_,_,rfl,rfl,SqT.of ht,rfl,_,rfl,t,_,_,_,rfl,rfl,SqT.of ht,rfl,?_⟩⟩⟩
  intro x dx nx ndx nex
  refine ⟨x,dx,_,_,_,_,_,rfl,jE,fun H' kp hx=>⟨rfl,?_⟩⟩
  refine q x H' (fun b o e=>?_) nx ⟨dx,hx⟩
  refine kp b o (jY e nx) ?_
  rw [jO (jY e nx),jO (jY e ndx)]
  exact e
theorem Z1:FnScope ["due","reaches"] ["due"] (jG v6):=⟨rfl,rfl,rfl,by decide +kernel,rfl,by decide +kernel,by decide +kernel⟩
theorem e7 {f:Addr} {fd:FuncData} (F:Fun K "_law_made" "_law_made" v6 f fd) (T:Txt K mg cP cB cU cR cN tkS) (M_Reach:MkD P w K mg base 1 "Reach" cR ["self","name","least","crest","berths","water","target"] (QU cR)) (M_Canal:MkD P w K mg base 1 "Canal" cN ["self","reaches","locks","nights"] (QV (jN cP cB cU) cR cN)) (D__law_gate:Def P w K mg base 4 "_law_gate" ["one"] [] (cW (jN cP cB cU))):FnOk P w K mg base jR 5 f fd ["due"] (dM (jN cP cB cU) cR cN):=by
 refine F.ok Z1 (fun vs H Q E h=>?_) (fun cdv A outer s H vs Q E hr h=>?_)
 ·obtain ⟨t,R,L,N,rfl,⟨rl,ll,nl,rs,ls,ns,ht,hrl,hll,hnl,hR,hL,hN,_⟩,hR100,hL100,hN100,q⟩:=h
  rfl
 obtain ⟨t,R,L,N,rfl,⟨rl,ll,nl,rs,ls,ns,ht,hrl,hll,hnl,hR,hL,hN,_⟩,hR100,hL100,hN100,q⟩:=h
 have hu:_<cLine:=hr.units0
 have hu1:=j8 hr
 refine ⟨_,(@jI _ _ _ _ _ (yM (i:=1) ["one"] (kO 1 []) Z1.nd rfl (by first|exact Or.inl rfl|exact Or.inr rfl) rfl (kX (jG v6) rfl rfl (by decide +kernel) (by decide +kernel) (by decide +kernel)) (kZ 1 [] rfl rfl (by decide +kernel)) (kY (jH jT (pv 0) jB (fun _ _=>rfl))) (fun _ _ _ _ _=>(j5 (i:=0) (show List.Nodup (["one"]:List Str) from by decide +kernel) rfl (by first|exact Or.inl rfl|exact Or.inr rfl))) (fun _ _ _ _ _=>qK) (fun _ _ _ _ _=>(JE M_Reach hr rfl (@jA _ _ _ _ _ (jH (vF K) (pv 0) jB (fun _ _=>rfl)) (@jA _ _ _ _ _ (jH (vF K) (pv 0) jB (fun _ _=>rfl)) (@jA _ _ _ _ _ (jH (vF K) (pv 0) jB (fun _ _=>rfl)) (@jA _ _ _ _ _ (jH (vF K) (pv 0) jB (fun _ _=>rfl)) (@jA _ _ _ _ _ (jH (vF K) (pv 0) jB (fun _ _=>rfl)) (@jA _ _ _ _ _ (jH (vF K) (pv 0) jB (fun _ _=>rfl)) jD (by rfl)) (by rfl)) (by rfl)) (by rfl)) (by rfl)) (by rfl)))))
   (@jL _ _ _ (@j4 _ _ _ _ (JE M_Canal hr rfl (@jA _ _ _ _ _ (pv 1) (@jA _ _ _ _ _ (qZ ["one"] (kO 1 []) rfl (kX (jG v6) rfl rfl (by decide +kernel) (by decide +kernel) (by decide +kernel)) (kZ 1 [] rfl rfl (by decide +kernel)) (kY (jH jT (pv 0) jB (fun _ _=>rfl))) (fun _ _ _ _ _=>(j5 (i:=0) (show List.Nodup (["one"]:List Str) from by decide +kernel) rfl (by first|exact Or.inl rfl|exact Or.inr rfl))) (fun _ _ _ _ _=>qK) (fun _ _ _ _ _=>(kD D__law_gate hr rfl (jA (pv 0) jD)))) (@jA _ _ _ _ _ (jH jT (pv 0) jB (fun _ _=>rfl)) jD (by rfl)) (by rfl)) (by rfl)))))),?_⟩
 refine ⟨_,rfl,t,_,_,_,rfl,rfl,SqT.of ht,rfl,rl,rfl,⟨_,SqL.of hrl⟩,fun ol hol0=>?_⟩
 refine qN (K:=K) (a:=rl) (xs:=rs) (caps:=[]) (fun i ys Hi=>AllAt (RcO cR Hi) ys (R.take i)) hol0 (SqL.of hrl) AllAt.nil ?_ ?_
 ·rintro i v ys Hi hv hi hle sm hY hI
  obtain ⟨r,hr,y,rfl,hy⟩:=hR.2 i v hv
  have hi100:i<100:=by rw [hR.1] at hi;omega
  refine qL (qC ?_)
  refine ⟨_,rfl,y,_,_,_,rfl,rfl,SqT.of (sm _ _ hy),rfl,_,rfl,y,_,_,_,rfl,rfl,SqT.of (sm _ _ hy),rfl,_,rfl,y,_,_,_,rfl,rfl,SqT.of (sm _ _ hy),rfl,_,rfl,y,_,_,_,rfl,rfl,SqT.of (sm _ _ hy),rfl,_,rfl,y,_,_,_,rfl,rfl,SqT.of (sm _ _ hy),rfl,_,rfl,y,_,_,_,rfl,rfl,SqT.of (sm _ _ hy),rfl,?_⟩
  intro x dx nx ndx nex
  refine ⟨x,dx,_,_,_,_,_,_,rfl,jE,fun H' fs kp hx hfl=>⟨rfl,?_⟩⟩
  have u:Same Hi H':=fun b o e=>kp b o (jY e nx) (by rw [jO (jY e nx),jO (jY e ndx)];exact e)
  refine kS hol0 sm hY hle (by omega) u ?_
  rw [List.take_add_one,hr]
  exact ((hI.mono (RcO.same u)).snoc (v:=.ref x) (x:=r) ⟨x,rfl,dx,fs,hx,hfl⟩).mono (RcO.keep ((Keep.refl ol H').upd _) (u _ _ hY))
 rintro os H2 s2 hol hle2 hO
 rw [hR.1,List.take_length] at hO
 refine ⟨_,rfl,?_⟩
 have hL:AllAt (LAt H2) ls L:=hL.mono (LAt.same s2)
 refine ⟨_,rfl,t,_,_,_,rfl,rfl,SqT.of (s2 _ _ ht),rfl,ll,rfl,⟨_,SqL.of (s2 _ _ hll)⟩,fun ol2 hol20=>?_⟩
 refine qN (K:=K) (a:=ll) (xs:=ls) (caps:=[]) (fun i ys Hi=>AllAt (LkO (jN cP cB cU) Hi) ys (L.take i)) hol20 (SqL.of (s2 _ _ hll)) AllAt.nil ?_ ?_
 ·rintro i v ys Hi hv hi hle sm hY hI
  obtain ⟨l,hl,y,rfl,hy⟩:=hL.2 i v hv
  have hi100:i<100:=by rw [hL.1] at hi;omega
  refine qL (qC ?_)
  refine ⟨_,rfl,y,l,rfl,sm _ _ hy,fun x H' u hx0 hlk=>?_⟩
  refine kS hol20 sm hY hle (by omega) u ?_
  rw [List.take_add_one,hl]
  exact ((hI.mono (LkO.same u)).snoc (v:=.ref x) (x:=l) ⟨x,rfl,hlk⟩).mono (LkO.keep ((Keep.refl ol2 H').upd _) (u _ _ hY))
 rintro gs H3 s3 hol2 hle3 hG
 rw [hL.1,List.take_length] at hG
 have s23:=s2.trans s3
 refine ⟨_,rfl,t,_,_,_,rfl,rfl,SqT.of (s23 _ _ ht),rfl,?_⟩
 intro x dx nx ndx nex
 have u:=fun o o'=>mT (o:=o) (o':=o') nx ndx
 have hO3:=(hO.mono (RcO.same s3))
 refine ⟨x,dx,ol,ol2,_,os,gs,R,L,N,rfl,jE,u _ _ _ _ (s3 _ _ hol),u _ _ _ _ hol2,hO3.mono (RcO.same (u _ _)),hG.mono (LkO.same (u _ _)),.inr ⟨nl,ns,rfl,u _ _ _ _ (s23 _ _ hnl),hN.mono (NAt.same (s23.trans (u _ _))),by rw [hN.1];exact hN100⟩,fun H' kp hC=>⟨rfl,?_⟩⟩
 exact q x H' (s23.trans (lP nx (u _ _) kp)) (s23.free nx) (hC [] (fun d hd=>nomatch hd))
theorem vC:FnScope ["one","names","target","words","k","comes","goes"] ["one","names"] (jG yI):=⟨rfl,rfl,rfl,by decide +kernel,rfl,by decide +kernel,by decide +kernel⟩
theorem fD {f:Addr} {fd:FuncData} (F:Fun K "_law_row" "_law_row" yI f fd) (T:Txt K mg cP cB cU cR cN tkS) : FnOk P w K mg base jR 1 f fd ["one","names"] (dL):=by
 refine F.ok vC (fun vs H Q E h=>?_) (fun cdv A outer s H vs Q E hr h=>?_)
 ·obtain ⟨t,nl,it,rn,n,rfl,hat,hnl,hrn,hok,q⟩:=h
  rfl
 obtain ⟨t,nl,it,rn,n,rfl,hat,hnl,hrn,hok,q⟩:=h
 have hu:_<cLine:=hr.units0
 have hu1:=j8 hr
 refine ⟨_,(@jI _ _ _ _ _ (kJ (j3 kK (jH jT (pv 0) jB (fun _ _=>rfl)) jQ (j1 _)) (@jI _ _ _ _ _ (jP (i:=2) vC.nd rfl (by first|exact Or.inl rfl|exact Or.inr rfl) jQ)
   (qR (kJ (j3 oK (jH jT (pv 0) jB (fun _ _=>rfl)) jB (j1 _)) (@jL _ _ _ (jP (i:=2) vC.nd rfl (by first|exact Or.inl rfl|exact Or.inr rfl) (jH jV (pv 1) (jH jT (pv 0) jB (fun _ _=>rfl)) (fun _ _=>rfl)))) kM)
   (@jL _ _ _ (@j4 _ _ _ _ (kW PySem.F.plainAttrs_str PySem.F.slot_str_join PySem.F.type_str_join yB jQ (jA (@jC _ _ _ _ _ _ _ _ vU (@jC _ _ _ _ _ _ _ _ vU (kF (jA jQ (jA (jH jT (pv 0) jB (fun _ _=>rfl)) jD))) (qZ ["number"] (kO 1 []) rfl (kX (jG yI) rfl rfl (by decide +kernel) (by decide +kernel) (by decide +kernel)) (kZ 1 [] rfl rfl (by decide +kernel)) (dO (zL nH (pv 0) (v5 jB) (v5 jB))) (fun _ _ _ _ _=>(j5 (i:=0) (show List.Nodup (["number"]:List Str) from by decide +kernel) rfl (by first|exact Or.inl rfl|exact Or.inr rfl))) (fun _ _ _ _ _=>qK) (fun _ _ _ _ _=>(qP vE (by rfl) T.z_str PyProof.Rows.boot_str (jA (pv 0) jD))))) (kF (jA (pv 2) jD))) jD)))))) kM)
   (@jI _ _ _ _ _ (kJ (j3 kK (jH jT (pv 0) jB (fun _ _=>rfl)) jQ (j1 _)) (@jI _ _ _ _ _ (jP (i:=3) vC.nd rfl (by first|exact Or.inl rfl|exact Or.inr rfl) (kF (@jA _ _ _ _ _ jQ (@jA _ _ _ _ _ (jH jT (pv 0) jB (fun _ _=>rfl)) (@jA _ _ _ _ _ (jH jV (pv 1) (jH jT (pv 0) jB (fun _ _=>rfl)) (fun _ _=>rfl)) (@jA _ _ _ _ _ (jH jV (pv 1) (jH jT (pv 0) jB (fun _ _=>rfl)) (fun _ _=>rfl)) (@jA _ _ _ _ _ (qP vE (by rfl) T.z_str PyProof.Rows.boot_str (jA (jH jT (pv 0) jB (fun _ _=>rfl)) jD)) jD (by rfl)) (by rfl)) (by rfl)) (by rfl)) (by rfl))))
   (qR (kJ (j3 oI (jH jT (pv 0) jB (fun _ _=>rfl)) jQ (j1 _)) (@jL _ _ _ (jP (i:=3) vC.nd rfl (by first|exact Or.inl rfl|exact Or.inr rfl) (@jC _ _ _ _ _ _ _ _ vU (pv 3) (kF (jA (jH jT (pv 0) jB (fun _ _=>rfl)) (jA (qP vE (by rfl) T.z_str PyProof.Rows.boot_str (jA (jH jT (pv 0) jB (fun _ _=>rfl)) jD)) jD)))))) kM)
   (@jL _ _ _ (@j4 _ _ _ _ (kW PySem.F.plainAttrs_str PySem.F.slot_str_join PySem.F.type_str_join yB jQ (jA (pv 3) jD)))))) kM)
   (@jI _ _ _ _ _ (jP (i:=3) vC.nd rfl (by first|exact Or.inl rfl|exact Or.inr rfl) (kF (jA jQ jD)))
   (@jI _ _ _ _ _ (vR PassesOwn.never rfl (kY (jH jT (pv 0) jB (fun _ _=>rfl))) (ZK rfl (v8 (j5 (i:=4) vC.nd rfl (by first|exact Or.inl rfl|exact Or.inr rfl)) (v8 (j5 (i:=5) vC.nd rfl (by first|exact Or.inl rfl|exact Or.inr rfl)) (v8 (j5 (i:=6) vC.nd rfl (by first|exact Or.inl rfl|exact Or.inr rfl)) ZD))))
    (@jL _ _ _ (jP (i:=3) vC.nd rfl (by first|exact Or.inl rfl|exact Or.inr rfl) (@jC _ _ _ _ _ _ _ _ vU (pv 3) (kF (@jA _ _ _ _ _ (jH jV (pv 1) (pv 4) (fun _ _=>rfl)) (@jA _ _ _ _ _ (qP vE (by rfl) T.z_str PyProof.Rows.boot_str (jA (pv 5) jD)) (@jA _ _ _ _ _ (qP vE (by rfl) T.z_str PyProof.Rows.boot_str (jA (pv 6) jD)) jD (by rfl)) (by rfl)) (by rfl)))))))
   (@jL _ _ _ (@j4 _ _ _ _ (kW PySem.F.plainAttrs_str PySem.F.slot_str_join PySem.F.type_str_join yB jQ (jA (pv 3) jD)))))))),?_⟩
 have hw:=JT hrn hok
 have hq:∀H',Same H H'→Q (.str (Str.join " " (jX rn it))) H':=fun H' s=>by rw [J4];exact q H' s
 obtain ⟨hn8,hok⟩:=hok
 cases it with
 |reach r =>
  obtain ⟨t',h',ht⟩:=hat
  cases h'
  obtain ⟨⟨g1,g2,g3,g4,g5,g6,g7,g8,g9⟩,hl⟩:=hok
  refine ⟨_,rfl,t,_,_,_,rfl,rfl,SqT.of ht,rfl,rfl,_,rfl,kA rfl ?_⟩
  refine ⟨fun σ' H'=>σ'=[some (.ref t),some (.ref nl),some (.str (q8 rn r.target)),none,none,none,none]∧H=H',?_,?_⟩
  ·refine ⟨_,rfl,t,_,_,_,rfl,rfl,SqT.of ht,rfl,_,_,rfl,rfl,_,rfl,?_⟩
   by_cases hz:0≤r.target
   ·refine kA hz ⟨_,rfl,_,rfl,t,_,_,_,rfl,rfl,SqT.of ht,rfl,nl,_,_,_,rfl,rfl,SqL.of hnl,Q2 rn hz (by omega),?_,rfl⟩
    rw [show q8 rn r.target=jF (rn r.target.toNat) from if_pos hz]
    rfl
   ·refine j0 hz ⟨?_,rfl⟩
    rw [show q8 rn r.target="sea" from if_neg hz]
    rfl
  rintro σ' H' ⟨rfl,rfl⟩
  refine ⟨rfl,_,rfl,t,_,_,_,rfl,rfl,SqT.of ht,rfl,zz2,fun p1 hp1=>?_⟩
  have s1:=jM hp1 (.lst [V.str "reach",V.str r.name])
  have h1:upd H p1 (.lst [V.str "reach",V.str r.name]) p1=some (.lst [V.str "reach",V.str r.name]):=jE
  generalize upd H p1 (.lst [V.str "reach",V.str r.name])=H1 at s1 h1 ⊢
  refine ⟨_,rfl,_,rfl,_,rfl,t,_,rfl,SqT.of (s1 _ _ ht),(by show ¬(HT.sIx 7 0 (some 2)=0∧HT.sIx 7 7 (some 6)=7);decide),fun p2 hp2=>?_⟩
  have s2:=jM hp2 (.tup (qU (v2 r) (some 2) (some 6)))
  have h2:upd H1 p2 (.tup (qU (v2 r) (some 2) (some 6))) p2=some (.tup ([r.least,r.crest,r.berths,r.water].map V.int)):=jE
  generalize upd H1 p2 (.tup (qU (v2 r) (some 2) (some 6)))=H2 at s2 h2 ⊢
  refine ⟨p2,rfl,⟨_,SqT.of h2⟩,fun D hD=>?_⟩
  have hb:∀z∈[r.least,r.crest,r.berths,r.water],0≤z∧z≤9999999999999:=by
   intro z hz
   simp only [List.mem_cons,List.mem_nil_iff,or_false] at hz
   rcases hz with rfl|rfl|rfl|rfl<;>omega
  refine bN (K:=K) (a:=p2) (xs:=[r.least,r.crest,r.berths,r.water].map V.int) (caps:=[]) (fun i ys Hi=>ys=(([r.least,r.crest,r.berths,r.water].take i).map fun z=>V.str (jU z))) hD h2 rfl ?_ ?_
  ·rintro i x ys Hi hx hi hle sm hY rfl
   obtain ⟨z,rfl,hz⟩:=cF hx
   have hzb:=hb z (List.mem_of_getElem? hz)
   refine qL (qC ⟨_,rfl,_,rfl,(kT hzb.1 hzb.2).1,?_⟩)
   refine kS hD sm hY hle (by have:i<4:=hi;omega) (Same.refl _) ?_
   rw [List.take_add_one,hz,List.map_append]
   rfl
  rintro ys H3 s3 hDl hle rfl
  have s13:=s2.trans s3
  refine ⟨p1,D,_,_,rfl,rfl,s13 _ _ h1,hDl,zz6,fun p3 hp3=>?_⟩
  have s4:=jM hp3 (.lst ((jX rn (.reach r)).take 6 |>.map V.str))
  have h3:upd H3 p3 (.lst ((jX rn (.reach r)).take 6 |>.map V.str)) p3=some (.lst ((jX rn (.reach r)).take 6 |>.map V.str)):=jE
  refine ⟨_,rfl,zz1,fun p4 hp4=>?_⟩
  have s5:=jM hp4 (.lst [V.str (q8 rn r.target)])
  refine ⟨p3,p4,_,_,rfl,rfl,s5 _ _ h3,jE,zz7,fun p5 hp5=>?_⟩
  refine ⟨" ",p5,jX rn (.reach r),rfl,rfl,SqL.of jE,by decide +kernel,hw,hq _ ?_⟩
  exact ((((s1.trans s13).trans s4).trans s5).trans (jM hp5 _))
 |lock l =>
  obtain ⟨t',h',ht⟩:=hat
  cases h'
  obtain ⟨⟨g1,g2,g3,g4,g5,g6,g7,g8⟩,hl⟩:=hok
  refine ⟨_,rfl,t,_,_,_,rfl,rfl,SqT.of ht,rfl,rfl,_,rfl,j0 (fun z=>d5 (V.str.inj z)) ⟨_,rfl,t,_,_,_,rfl,rfl,SqT.of ht,rfl,rfl,_,rfl,kA rfl ?_⟩⟩
  refine ⟨_,rfl,t,_,_,_,rfl,rfl,SqT.of ht,rfl,_,rfl,_,rfl,t,_,_,_,rfl,rfl,SqT.of ht,rfl,nl,_,_,_,rfl,rfl,SqL.of hnl,Q2 rn (by show 0≤l.high;omega) (by show l.high<8;omega),_,rfl,_,rfl,t,_,_,_,rfl,rfl,SqT.of ht,rfl,nl,_,_,_,rfl,rfl,SqL.of hnl,Q2 rn (by show 0≤l.low;omega) (by show l.low<8;omega),_,rfl,t,_,_,_,rfl,rfl,SqT.of ht,rfl,_,rfl,(kT (n:=l.room) (by omega) (by omega)).1,zz5,fun wl hwl=>?_⟩
  have s1:=jM hwl (.lst ([("lock":Str),l.name,jF (rn l.high.toNat),jF (rn l.low.toNat),jU l.room].map V.str))
  have h1:upd H wl (.lst ([("lock":Str),l.name,jF (rn l.high.toNat),jF (rn l.low.toNat),jU l.room].map V.str)) wl=some (.lst ([("lock":Str),l.name,jF (rn l.high.toNat),jF (rn l.low.toNat),jU l.room].map V.str)):=jE
  refine ⟨fun σ' H'=>∃w2:Addr,σ'=[some (.ref t),some (.ref nl),none,some (.ref w2),none,none,none]∧H' w2=some (.lst ((jX rn (.lock l)).map V.str))∧Same H H',?_,?_⟩
  ·refine ⟨_,rfl,t,_,_,_,rfl,rfl,SqT.of (s1 _ _ ht),rfl,rfl,_,rfl,?_⟩
   by_cases hk:l.kd=.plain
   ·refine ZQ ((JX l.kd).mpr hk) ⟨wl,rfl,?_,s1⟩
    rw [show jX rn (.lock l)=([("lock":Str),l.name,jF (rn l.high.toNat),jF (rn l.low.toNat),jU l.room]:List Str) by rw [Q0,hk];rfl]
    exact h1
   ·have hx:=g8 hk
    refine ZP (fun z=>hk ((JX l.kd).mp z)) ⟨_,rfl,_,rfl,t,_,_,_,rfl,rfl,SqT.of (s1 _ _ ht),rfl,_,rfl,t,_,_,_,rfl,rfl,SqT.of (s1 _ _ ht),rfl,_,rfl,(kT (n:=l.extra) (by omega) (by omega)).1,zz2,fun w2 hw2=>?_⟩
    have s2:=jM hw2 (.lst [V.str (yD l.kd),V.str (jU l.extra)])
    refine ⟨wl,w2,_,_,rfl,rfl,s2 _ _ h1,jE,zz7,fun w3 hw3=>⟨w3,rfl,?_,(s1.trans s2).trans (jM hw3 _)⟩⟩
    rw [show jX rn (.lock l)=([("lock":Str),l.name,jF (rn l.high.toNat),jF (rn l.low.toNat),jU l.room]:List Str)++[yD l.kd,jU l.extra] by rw [Q0,cH hk]]
    exact jE
  rintro σ' H' ⟨w2,rfl,h2,s2⟩
  exact ⟨rfl,_,rfl," ",w2,_,rfl,rfl,SqL.of h2,by decide +kernel,hw,hq _ s2⟩
 |night ts =>
  obtain ⟨t',l,trs,h',ht,hl,htr,_⟩:=hat
  cases h'
  obtain ⟨⟨hnd,hts⟩,htl⟩:=hok
  refine ⟨_,rfl,t,_,_,_,rfl,rfl,SqT.of ht,rfl,rfl,_,rfl,j0 (fun z=>d4 (V.str.inj z)) ⟨_,rfl,t,_,_,_,rfl,rfl,SqT.of ht,rfl,rfl,_,rfl,j0 (fun z=>d6 (V.str.inj z)) ?_⟩⟩
  refine ⟨zz1,fun wl hwl=>?_⟩
  have s1:=jM hwl (.lst [V.str "night"])
  refine ⟨_,rfl,t,_,_,_,rfl,rfl,SqT.of (s1 _ _ ht),rfl,l,rfl,⟨_,SqL.of (s1 _ _ hl)⟩,J3 (K:=K) (a:=l) (xs:=trs) (fun j σ Hj=>∃(w2:Addr) (c4 c5 c6:Option V),σ=[some (.ref t),some (.ref nl),none,some (.ref w2),c4,c5,c6]∧Hj w2=some (.lst ((jX rn (.night (ts.take j))).map V.str))∧Same H Hj)
   ⟨wl,none,none,none,rfl,jE,s1⟩ (fun j σ Hj _ ⟨_,_,_,_,_,_,s⟩=>SqL.of (s _ _ hl)) ?_ ?_⟩
  ·rintro j y σ Hj hy ⟨w2,c4,c5,c6,rfl,hw2,sj⟩
   obtain ⟨ta,k,x,z,rfl,htk,hta⟩:=htr.2 j y hy
   obtain ⟨k1,k2,k3,k4,k5⟩:=hts _ (List.mem_of_getElem? htk)
   have k1:k<n:=k1
   have hj8:j<8:=by have:=(List.getElem?_eq_some_iff.mp htk).1;omega
   refine ⟨ta,_,rfl,SqT.of (sj _ _ hta),rfl,_,_,rfl,_,_,rfl,_,_,rfl,rfl,?_⟩
   refine ⟨_,rfl,_,rfl,_,rfl,nl,_,_,_,rfl,rfl,SqL.of (sj _ _ hnl),vG (z3 rn (show k<8 by omega)),_,rfl,_,rfl,(kT (n:=x) k2 (by have:x≤999999999999:=k3;omega)).1,_,rfl,_,rfl,(kT (n:=z) k4 (by have:z≤999999999999:=k5;omega)).1,zz3,fun w3 hw3=>?_⟩
   have u:=jM hw3 (.lst [V.str (jF (rn k)),V.str (jU x),V.str (jU z)])
   have hlen:((jX rn (.night (ts.take j))).map V.str).length≤900:=by
    rw [List.length_map]
    have:=(JZ (it:=.night (ts.take j)) (n:=n) hrn ⟨hn8,⟨by rw [List.map_take];exact hnd.sublist (List.take_sublist _ _),fun q hq=>hts q (List.mem_of_mem_take hq)⟩,by rw [List.length_take];omega⟩).1
    omega
   refine ⟨w2,w3,_,_,rfl,rfl,u _ _ hw2,jE,Nat.le_of_lt (qJ (by show _+3≤1000;omega)),fun w4 hw4=>⟨w4,_,_,_,rfl,?_,(sj.trans u).trans (jM hw4 _)⟩⟩
   rw [jE,lA rn ts htk,List.map_append]
   rfl
  ·rintro σ Hj ⟨w2,c4,c5,c6,rfl,hw2,sj⟩
   rw [htr.1,List.take_length] at hw2
   exact ⟨rfl,_,rfl," ",w2,_,rfl,rfl,SqL.of hw2,by decide +kernel,hw,hq _ sj⟩
theorem JP:FnScope ["due","names","rows","night","triples"] ["due","names"] (jG vB):=⟨rfl,rfl,rfl,by decide +kernel,rfl,by decide +kernel,by decide +kernel⟩
theorem fE {f:Addr} {fd:FuncData} (F:Fun K "_law_told" "_law_told" vB f fd) (T:Txt K mg cP cB cU cR cN tkS) (D__law_row:Def P w K mg base 1 "_law_row" ["one","names"] [] (dL)):FnOk P w K mg base jR 2 f fd ["due","names"] (cQ):=by
 refine F.ok JP (fun vs H Q E h=>?_) (fun cdv A outer s H vs Q E hr h=>?_)
 ·obtain ⟨t,nl,R,L,N,rn,rfl,⟨rl,ll,nl2,rs,ls,ns,ht,hrl,hll,hnl2,hR,hL,hN,_⟩,hnl,ok,q⟩:=h
  rfl
 obtain ⟨t,nl,R,L,N,rn,rfl,⟨rl,ll,nl2,rs,ls,ns,ht,hrl,hll,hnl2,hR,hL,hN,_⟩,hnl,ok,q⟩:=h
 have hu:_<cLine:=hr.units0
 have hu1:=j8 hr
 refine ⟨_,(@jI _ _ _ _ _ (jP (i:=2) JP.nd rfl (by first|exact Or.inl rfl|exact Or.inr rfl) (@jC _ _ _ _ _ _ _ _ vU (qZ ["one","names"] (kO 1 [1]) rfl (kX (jG vB) rfl rfl (by decide +kernel) (by decide +kernel) (by decide +kernel)) (kZ 1 [1] rfl rfl (by decide +kernel)) (kY (jH jT (pv 0) jB (fun _ _=>rfl))) (fun _ _ _ _ _=>(j5 (i:=0) (show List.Nodup (["one","names"]:List Str) from by decide +kernel) rfl (by first|exact Or.inl rfl|exact Or.inr rfl))) (fun _ _ _ _ _=>qK) (fun _ _ _ _ _=>(kD D__law_row hr rfl (jA (pv 0) (jA (pv 1) jD))))) (qZ ["one","names"] (kO 1 [1]) rfl (kX (jG vB) rfl rfl (by decide +kernel) (by decide +kernel) (by decide +kernel)) (kZ 1 [1] rfl rfl (by decide +kernel)) (kY (jH jT (pv 0) jB (fun _ _=>rfl))) (fun _ _ _ _ _=>(j5 (i:=0) (show List.Nodup (["one","names"]:List Str) from by decide +kernel) rfl (by first|exact Or.inl rfl|exact Or.inr rfl))) (fun _ _ _ _ _=>qK) (fun _ _ _ _ _=>(kD D__law_row hr rfl (jA (pv 0) (jA (pv 1) jD)))))))
   (@jI _ _ _ _ _ (vR PassesOwn.never rfl (kY (jH jT (pv 0) jB (fun _ _=>rfl))) (j5 (i:=3) JP.nd rfl (by first|exact Or.inl rfl|exact Or.inr rfl))
    (@jI _ _ _ _ _ (yM (i:=4) ["k","night"] (kO 1 [3]) JP.nd rfl (by first|exact Or.inl rfl|exact Or.inr rfl) rfl (kX (jG vB) rfl rfl (by decide +kernel) (by decide +kernel) (by decide +kernel)) (kZ 1 [3] rfl rfl (by decide +kernel)) (z4 (by rfl) T.z_range (jA (v4 QO (by rfl) T.z_len PySem.boot_len (jA (pv 3) jD)) jD)) (fun _ _ _ _ _=>(j5 (i:=0) (show List.Nodup (["k","night"]:List Str) from by decide +kernel) rfl (by first|exact Or.inl rfl|exact Or.inr rfl))) (fun _ _ _ _ _=>(ZC (j3 (mR K hu) (jH (Q9 K) (pv 1) (pv 0) (fun _ _=>rfl)) (qS (jA jB (jA jB jD))) (j1 _)))) (fun _ _ _ _ _=>(qS (@jA _ _ _ _ _ (pv 0) (@jA _ _ _ _ _ (jH (vF K) (jH (Q9 K) (pv 1) (pv 0) (fun _ _=>rfl)) jB (fun _ _=>rfl)) (@jA _ _ _ _ _ (jH (vF K) (jH (Q9 K) (pv 1) (pv 0) (fun _ _=>rfl)) jB (fun _ _=>rfl)) jD (by rfl)) (by rfl)) (by rfl)))))
   (@jL _ _ _ (qO (kW PySem.F.plainAttrs_list PySem.F.slot_list_append PySem.F.type_list_append vP (pv 2) (jA (kD D__law_row hr rfl (jA (qS (jA jQ (jA (pv 4) jD))) (jA (pv 1) jD))) jD))))))
   (@jL _ _ _ (@j4 _ _ _ _ (kW PySem.F.plainAttrs_str PySem.F.slot_str_join PySem.F.type_str_join yB jQ (jA (qZ ["row"] (kO 1 []) rfl (kX (jG vB) rfl rfl (by decide +kernel) (by decide +kernel) (by decide +kernel)) (kZ 1 [] rfl rfl (by decide +kernel)) (kY (pv 2)) (fun _ _ _ _ _=>(j5 (i:=0) (show List.Nodup (["row"]:List Str) from by decide +kernel) rfl (by first|exact Or.inl rfl|exact Or.inr rfl))) (fun _ _ _ _ _=>qK) (fun _ _ _ _ _=>(@jC _ _ _ _ _ _ _ _ zZ (pv 0) jQ))) jD)))))),?_⟩
 have b1:=ok.r8
 have b2:=ok.l8
 have b3:=ok.n6
 refine ⟨_,rfl,t,_,_,_,rfl,rfl,SqT.of ht,rfl,rl,rfl,⟨_,SqL.of hrl⟩,fun w1 hw10=>?_⟩
 refine qN (K:=K) (a:=rl) (xs:=rs) (caps:=[some (.ref nl)]) (fun i ys Hi=>ys=((R.take i).map fun r=>j7 rn (.reach r)).map V.str) hw10 (SqL.of hrl) rfl ?_ ?_
 ·rintro i v ys Hi hv hi hle sm hY rfl
  obtain ⟨r,hr,y,rfl,hy⟩:=hR.2 i v hv
  have hi8:i<8:=by rw [hR.1] at hi;omega
  refine qL (qC ⟨_,rfl,_,rfl,y,nl,.reach r,rn,R.length,rfl,⟨y,rfl,sm _ _ hy⟩,sm _ _ hnl,ok.hrn,(ok.reach hr).1,fun H' s'=>kS hw10 sm hY hle (by omega) s' ?_⟩)
  rw [List.take_add_one,hr,List.map_append,List.map_append]
  rfl
 rintro ys H1 s1 hw1 hle1 rfl
 rw [hR.1,List.take_length] at hw1
 refine ⟨_,rfl,t,_,_,_,rfl,rfl,SqT.of (s1 _ _ ht),rfl,ll,rfl,⟨_,SqL.of (s1 _ _ hll)⟩,fun w2 hw20=>?_⟩
 refine qN (K:=K) (a:=ll) (xs:=ls) (caps:=[some (.ref nl)]) (fun i ys Hi=>ys=((L.take i).map fun r=>j7 rn (.lock r)).map V.str) hw20 (SqL.of (s1 _ _ hll)) rfl ?_ ?_
 ·rintro i v ys Hi hv hi hle sm hY rfl
  obtain ⟨r,hr,y,rfl,hy⟩:=hL.2 i v hv
  have hi8:i<8:=by rw [hL.1] at hi;omega
  have sm1:=s1.trans sm
  refine qL (qC ⟨_,rfl,_,rfl,y,nl,.lock r,rn,R.length,rfl,⟨y,rfl,sm1 _ _ hy⟩,sm1 _ _ hnl,ok.hrn,ok.lock (List.mem_of_getElem? hr),fun H' s'=>kS hw20 sm hY hle (by omega) s' ?_⟩)
  rw [List.take_add_one,hr,List.map_append,List.map_append]
  rfl
 rintro ys H2 s2 hw2 hle2 rfl
 rw [hL.1,List.take_length] at hw2
 have s12:=s1.trans s2
 refine ⟨w1,w2,_,_,rfl,rfl,s2 _ _ hw1,hw2,?_,fun rw hrw0=>?_⟩
 ·rw [List.length_map,List.length_map,List.length_map,List.length_map];exact small (by omega)
 have s3:=jM hrw0 (.lst ((R.map fun r=>j7 rn (.reach r)).map V.str++(L.map fun l=>j7 rn (.lock l)).map V.str))
 have hfree:=s12.free hrw0
 have s13:=s12.trans s3
 refine ⟨_,rfl,t,_,_,_,rfl,rfl,SqT.of (s13 _ _ ht),rfl,nl2,rfl,⟨_,SqL.of (s13 _ _ hnl2)⟩,J3 (K:=K) (a:=nl2) (xs:=ns) (fun i σ Hi=>∃(c3 c4:Option V),σ=[some (.ref t),some (.ref nl),some (.ref rw),c3,c4]∧Hi rw=some (.lst ((R.map fun r=>j7 rn (.reach r)).map V.str++(L.map fun l=>j7 rn (.lock l)).map V.str++((N.take i).map fun p=>j7 rn (.night (yA p))).map V.str))∧Same H Hi)
  ⟨none,none,rfl,by rw [jE,List.take_zero,List.map_nil,List.map_nil,List.append_nil],s13⟩ (fun i σ Hi _ ⟨_,_,_,_,s⟩=>SqL.of (s _ _ hnl2)) ?_ ?_⟩
 ·rintro i v σ Hi hv ⟨c3,c4,rfl,hrw,sm⟩
  obtain ⟨p,hp,l,qs,rfl,hl,hQ,_⟩:=hN.2 i v hv
  have hi8:i<8:=by have:=(List.getElem?_eq_some_iff.mp hp).1;omega
  obtain ⟨n1,n2⟩:=ok.nn p (List.mem_of_getElem? hp)
  have hl2:=sm _ _ hl
  refine ⟨_,rfl,l,_,rfl,.inl (SqL.of hl2),_,rfl,by omega,by rw [hQ.1];omega,fun tl htl0=>?_⟩
  refine bA (n:=((qs.length:Nat):Int).toNat) (caps:=[some (.ref l)]) (fun j ys Hj=>TripsAt Hj ys (qA p j)) htl0 ⟨rfl,fun i r hi=>by cases hi⟩ ?_ ?_
  ·rintro j ys Hj hj hle sj hY hTr
   rw [Int.toNat_natCast,hQ.1] at hj
   rw [Int.zero_add]
   obtain ⟨pq,hpq⟩:∃pq,p[j]?=some pq:=⟨_,List.getElem?_eq_getElem hj⟩
   obtain ⟨v,hv2,tq,rfl,htq⟩:=hQ.get hpq
   have hl3:=sj _ _ hl2
   have htq3:=sj _ _ (sm _ _ htq)
   refine ⟨_,rfl,_,rfl,l,_,_,_,rfl,rfl,SqL.of hl3,vG hv2,zz2,fun tz htz=>?_⟩
   have u:=jM htz (.tup [V.int 0,V.int 0])
   refine ⟨tq,tz,_,_,rfl,rfl,SqT.of (u _ _ htq3),SqT.of jE,rfl,rfl,_,rfl,?_⟩
   show if (!yU [V.int pq.1,V.int pq.2] [V.int 0,V.int 0])=true then _ else _
   rw [dE]
   by_cases hz0:pq.1=0∧pq.2=0
   ·refine ZQ hz0 (z5 sj hY hle u ?_)
    rw [zX,Z7 hpq hz0]
    show TripsAt _ ys (qA p j++[])
    rw [List.append_nil]
    exact hTr.same u
   ·refine ZP hz0 ⟨_,rfl,_,rfl,_,rfl,l,_,_,_,rfl,rfl,SqL.of (u _ _ hl3),vG hv2,tq,_,_,_,rfl,rfl,SqT.of (u _ _ htq3),rfl,_,rfl,_,rfl,l,_,_,_,rfl,rfl,SqL.of (u _ _ hl3),vG hv2,tq,_,_,_,rfl,rfl,SqT.of (u _ _ htq3),rfl,zz3,fun tp htp=>?_⟩
    have u2:=jM htp (.tup [V.int (j:Int),V.int pq.1,V.int pq.2])
    refine kS htl0 sj hY hle (by omega) (u.trans u2) ?_
    rw [zX,Z6 hpq hz0]
    exact (((hTr.same u).same u2).snoc (k:=j) (x:=pq.1) (y:=pq.2) jE).keep ((Keep.refl tl _).upd _) (u2 _ _ (u _ _ hY))
  rintro ys Hj sj hY hle hTr
  rw [Int.toNat_natCast,hQ.1] at hTr
  have smj:=sm.trans sj
  have hrwj:=sj _ _ hrw
  refine ⟨_,rfl,.inl ⟨rfl,_,SqL.of hrwj⟩,_,rfl,zz2,fun ta hta=>?_⟩
  have u:=jM hta (.tup [V.str "night",V.ref tl])
  refine ⟨_,rfl,ta,nl,.night (yA p),rn,p.length,rfl,⟨ta,tl,ys,rfl,jE,u _ _ hY,hTr.same u,by simp⟩,u _ _ (smj _ _ hnl),ok.hrn,ok.night (List.mem_of_getElem? hp),fun H' s'=>?_⟩
  have hrwk:=s' _ _ (u _ _ hrwj)
  refine ⟨rw,_,_,rfl,rfl,hrwk,qJ ?_,_,_,rfl,?_,kB hfree ((smj.trans u).trans s')⟩
  ·rw [List.length_append,List.length_append,List.length_map,List.length_map,List.length_map,List.length_map,List.length_map,List.length_map,List.length_take];omega
  ·rw [jE,List.take_add_one,hp,List.map_append,List.map_append,← List.append_assoc]
   rfl
 rintro σ Hi ⟨c3,c4,rfl,hrw,sm⟩
 rw [hN.1,List.take_length,show (R.map fun r=>j7 rn (.reach r)).map V.str++(L.map fun l=>j7 rn (.lock l)).map V.str++(N.map fun p=>j7 rn (.night (yA p))).map V.str=(kQ rn R L N).map V.str by unfold kQ;rw [List.map_append,List.map_append]] at hrw
 obtain ⟨ro1,ro2⟩:=ZB ok
 refine ⟨rfl,_,rfl,rw,rfl,⟨_,SqL.of hrw⟩,fun w6 hw60=>?_⟩
 refine qN (K:=K) (a:=rw) (xs:=(kQ rn R L N).map V.str) (caps:=[]) (fun i ys Hi=>ys=(((kQ rn R L N).take i).map (·++feedS)).map V.str) hw60 (SqL.of hrw) rfl ?_ ?_
 ·rintro i v ys Hi hv hi hle sm hY rfl
  rw [List.getElem?_map] at hv
  cases hz:(kQ rn R L N)[i]? with
  |none=>rw [hz] at hv;cases hv
  |some z =>
   rw [hz] at hv
   cases hv
   have hzl:=ro2 z (List.mem_of_getElem? hz)
   have hi22:i<22:=by have:=(List.getElem?_eq_some_iff.mp hz).1;omega
   refine qL (qC ⟨_,rfl,_,_,rfl,rfl,small (by rw [lY];omega),kS hw60 sm hY hle (by omega) (Same.refl _) ?_⟩)
   rw [List.take_add_one,hz,List.map_append,List.map_append,m9]
   rfl
 rintro ys H6 s6 hw6 hle6 rfl
 rw [List.length_map,List.take_length] at hw6
 refine ⟨"",w6,_,rfl,rfl,SqL.of hw6,by decide +kernel,gJ ok,?_⟩
 exact q H6 (sm.trans s6)
theorem zK:FnScope ["script","names","gates","plan","due","found"] ["script"] (jG vM):=⟨rfl,rfl,rfl,by decide +kernel,rfl,by decide +kernel,by decide +kernel⟩
theorem fF {f:Addr} {fd:FuncData} (F:Fun K "law" "law" vM f fd) (T:Txt K mg cP cB cU cR cN tkS) (D__law_reach_names:Def P w K mg base 2 "_law_reach_names" ["cell"] [] (QR)) (D__law_cell_at:Def P w K mg base 1 "_law_cell_at" ["script","k"] [] (ZG K)) (D__law_gates:Def P w K mg base 3 "_law_gates" ["cell","names"] [] (cA)) (D__law_plan:Def P w K mg base 2 "_law_plan" ["script","names","gates"] [] (cT K)) (D__law_due:Def P w K mg base 1 "_law_due" ["plan"] [] (dN)) (D_shown:Def P w K mg base 3 "shown" ["canal"] [] (cS (jN cP cB cU) cR cN)) (D__law_made:Def P w K mg base 5 "_law_made" ["due"] [] (dM (jN cP cB cU) cR cN)) (D__law_told:Def P w K mg base 2 "_law_told" ["due","names"] [] (cQ)):FnOk P w K mg base jR 7 f fd ["script"] (QA K):=by
 refine F.ok zK (fun vs H Q E h=>?_) (fun cdv A outer s H vs Q E hr h=>?_)
 ·obtain ⟨a,ns,rfl,hS,h63,q⟩:=h
  rfl
 obtain ⟨a,ns,rfl,hS,h63,q⟩:=h
 have hu:_<cLine:=hr.units0
 have hu1:=j8 hr
 refine ⟨_,(@jI _ _ _ _ _ (jP (i:=1) zK.nd rfl (by first|exact Or.inl rfl|exact Or.inr rfl) (kD D__law_reach_names hr rfl (jA (@jC _ _ _ _ _ _ _ _ jZ (kD D__law_cell_at hr rfl (jA (pv 0) (jA jB jD))) (@jC _ _ _ _ _ _ _ _ qT jB jB)) jD)))
   (@jI _ _ _ _ _ (jP (i:=2) zK.nd rfl (by first|exact Or.inl rfl|exact Or.inr rfl) (kD D__law_gates hr rfl (jA (@jC _ _ _ _ _ _ _ _ jZ (kD D__law_cell_at hr rfl (jA (pv 0) (jA jB jD))) (@jC _ _ _ _ _ _ _ _ qT jB jB)) (jA (pv 1) jD))))
   (@jI _ _ _ _ _ (jP (i:=3) zK.nd rfl (by first|exact Or.inl rfl|exact Or.inr rfl) (kD D__law_plan hr rfl (@jA _ _ _ _ _ (pv 0) (@jA _ _ _ _ _ (pv 1) (@jA _ _ _ _ _ (pv 2) jD (by rfl)) (by rfl)) (by rfl))))
   (@jI _ _ _ _ _ (jP (i:=4) zK.nd rfl (by first|exact Or.inl rfl|exact Or.inr rfl) (kD D__law_due hr rfl (jA (pv 3) jD)))
   (@jI _ _ _ _ _ (jP (i:=5) zK.nd rfl (by first|exact Or.inl rfl|exact Or.inr rfl) (kD D_shown hr rfl (jA (kD D__law_made hr rfl (jA (pv 4) jD)) jD)))
   (@jL _ _ _ (@j4 _ _ _ _ (nP (v4 mC (by rfl) T.z_isinstance PyProof.Rows.boot_isinstance (jA (pv 5) (jA (mQ (v:=.ty "str") rfl T.z_str PyProof.Rows.boot_str rfl) jD))) (nM (mO kK (pv 5) (kD D__law_told hr rfl (jA (pv 4) (jA (pv 1) jD))) (j1 _))))))))))),?_⟩
 refine ⟨_,rfl,a,ns,0,rfl,hS,_,_,rfl,rfl,⟨by decide,by decide,by decide⟩,_,_,rfl,rfl,(show (0:Int)<10 ^ Int.toNat 40 from by decide +kernel),_,rfl,fun nl H1 s1 hnl0 hnl=>?_⟩
 generalize ns.getD 0 0%10 ^ Int.toNat 40=c0 at hnl
 refine ⟨_,rfl,a,ns,1,rfl,s1.seq hS,_,_,rfl,rfl,⟨by decide,by decide,by decide⟩,_,_,rfl,rfl,(show (0:Int)<10 ^ Int.toNat 40 from by decide +kernel),_,rfl,_,c0,nl,rfl,hnl,fun gl H2 s2 hgl=>?_⟩
 generalize ns.getD 1 0%10 ^ Int.toNat 40=c1 at hgl
 have s12:=s1.trans s2
 refine ⟨_,rfl,_,rfl,_,rfl,a,nl,gl,ns,qB c0,q4 c0 c1,rfl,s12.seq hS,h63,s2 _ _ hnl,hgl,fun its a₁ b₁ c₁ pl us H3 ok ha1 s3 hpl0 hpl hpa=>?_⟩
 have s13:=s12.trans s3
 have hdr:=bG ok ha1
 refine ⟨_,rfl,pl,us,its,_,_,a₁,b₁,c₁,rfl,hpl,hpa,ok,fun t rl ll nl2 rs ls ns2 H4 s4 ht hrl hll hnl2 hR hL hN=>?_⟩
 have s14:=s13.trans s4
 have hsh:=iN ok ha1 (fun k hk=>(Q1 c0 hk).2) (fun k hk=>(iZ c0 c1 hk).2)
 generalize kC its=R at hR hdr hsh
 generalize kG its=L at hL hdr hsh
 generalize v9 its=N at hN hdr hsh
 have b1:=hdr.r8
 have b2:=hdr.l8
 have b3:=hdr.n6
 have hdue:DueAt [] H4 t R L N:=⟨rl,ll,nl2,rs,ls,ns2,ht,hrl,hll,hnl2,hR,hL,hN.mono (NAt.less (by simp)),by simp,by simp,by simp⟩
 refine ⟨_,rfl,t,R,L,N,rfl,hdue,by omega,by omega,by omega,fun x H5 s5 hx0 hcn=>?_⟩
 refine ⟨x,[],R,L,N,qB c0,rfl,hcn,hsh,fun H6 s6=>?_⟩
 have s56:=s5.trans s6
 refine ⟨_,rfl,_,_,_,_,_,rfl,rfl,TyOf.str _,lU "str",_,rfl,qC ?_⟩
 refine ⟨_,rfl,_,rfl,_,rfl,t,nl,R,L,N,qB c0,rfl,hdue.same s56,s56 _ _ (s4 _ _ (s3 _ _ (s2 _ _ hnl))),hsh,fun H7 s7=>⟨rfl,?_⟩⟩
 rw [decide_eq_true rfl]
 exact q _
end
theorem all_mk {l:W.OpenLaw} {w:World} {K:W.Frag} {h:Heap} {mg:Str→Option Value} {fa f0 f1 f2 f3 f4 f5 f6 f7 f8 f9 f10 f11 f12 f13 f14 f15 f16 f17 f18 f19 f20 f21 f22 f23 f24 f25 f26 f27 f28 f29:Addr} {cP cB cU:Addr} {cR:Addr} {cN:Addr} {dn0:Nat} {tkS:Tok} (X:K.In h) (G:h.Ns mainGlobals mg) (hfa:mg "law"=some (.ref fa))
 {od0 an0 od1 an1 od2 an2 od3 an3 od4 an4 od5 an5 od6 an6 od7 an7 od8 an8 od9 an9 od10 an10 od11 an11 od12 an12 od13 an13 od14 an14 od15 an15 od16 an16 od17 an17 od18 an18 od19 an19 od20 an20 od21 an21 od22 an22 od23 an23 od24 an24 od25 an25 od26 an26 od27 an27 od28 an28 od29 an29:Option Addr} {sl0 sl1 sl2 sl3 sl4 sl5 sl6 sl7 sl8 sl9 sl10 sl11 sl12 sl13 sl14 sl15 sl16 sl17 sl18 sl19 sl20 sl21 sl22 sl23 sl24 sl25 sl26 sl27 sl28 sl29:Array (Option Value)} {oc0 kV0 dc0 pm0 cd0 ct0 oc1 kV1 dc1 pm1 cd1 ct1 oc2 kV2 dc2 pm2 cd2 ct2 oc3 kV3 dc3 pm3 cd3 ct3 oc4 kV4 dc4 pm4 cd4 ct4 oc5 kV5 dc5 pm5 cd5 ct5 oc6 kV6 dc6 pm6 cd6 ct6 oc7 kV7 dc7 pm7 cd7 ct7 oc8 kV8 dc8 pm8 cd8 ct8 oc9 kV9 dc9 pm9 cd9 ct9 oc10 kV10 dc10 pm10 cd10 ct10 oc11 kV11 dc11 pm11 cd11 ct11 oc12 kV12 dc12 pm12 cd12 ct12 oc13 kV13 dc13 pm13 cd13 ct13 oc14 kV14 dc14 pm14 cd14 ct14 oc15 kV15 dc15 pm15 cd15 ct15 oc16 kV16 dc16 pm16 cd16 ct16 oc17 kV17 dc17 pm17 cd17 ct17 oc18 kV18 dc18 pm18 cd18 ct18 oc19 kV19 dc19 pm19 cd19 ct19 oc20 kV20 dc20 pm20 cd20 ct20 oc21 kV21 dc21 pm21 cd21 ct21 oc22 kV22 dc22 pm22 cd22 ct22 oc23 kV23 dc23 pm23 cd23 ct23 oc24 kV24 dc24 pm24 cd24 ct24 oc25 kV25 dc25 pm25 cd25 ct25 oc26 kV26 dc26 pm26 cd26 ct26 oc27 kV27 dc27 pm27 cd27 ct27 oc28 kV28 dc28 pm28 cd28 ct28 oc29 kV29 dc29 pm29 cd29 ct29:Value}
 {T10:Addr} {oT10:Obj}
  (aC_P:W.nsIn K mainGlobals "PlainLock"=some (some (.ref cP)))
  (aC_B:W.nsIn K mainGlobals "BasinLock"=some (some (.ref cB)))
  (aC_U:W.nsIn K mainGlobals "PumpLock"=some (some (.ref cU)))
  (aC_R:W.nsIn K mainGlobals "Reach"=some (some (.ref cR)))
  (aC_N:W.nsIn K mainGlobals "Canal"=some (some (.ref cN)))
  (a0:W.findIn K (.ref cP) "__init__"=some (some (.ref f0)))
  (i0:W.isFn K (.ref f0)=true)
  (ac0:W.findCls K (.ref cP) (.type "type") "__init__"=some (.val (.ref f0)))
  (l0:K.lookup f0=some ⟨oc0,od0,.func (W.fnOf "__init__" "PlainLock.__init__" (jW y0) (jS y0) (jG y0) .none kV0 dc0 pm0 an0 cd0 ct0),sl0⟩)
  (c0:W.codeIn K cd0 "PlainLock.__init__"=true)
  (k0:W.keepIn K (.ref f0)=true)
  (a1:W.findIn K (.ref cB) "__init__"=some (some (.ref f1)))
  (i1:W.isFn K (.ref f1)=true)
  (l1:K.lookup f1=some ⟨oc1,od1,.func (W.fnOf "__init__" "BasinLock.__init__" (jW yX) (jS yX) (jG yX) .none kV1 dc1 pm1 an1 cd1 ct1),sl1⟩)
  (c1:W.codeIn K cd1 "BasinLock.__init__"=true)
  (k1:W.keepIn K (.ref f1)=true)
  (a2:W.findIn K (.ref cU) "__init__"=some (some (.ref f2)))
  (i2:W.isFn K (.ref f2)=true)
  (l2:K.lookup f2=some ⟨oc2,od2,.func (W.fnOf "__init__" "PumpLock.__init__" (jW y3) (jS y3) (jG y3) .none kV2 dc2 pm2 an2 cd2 ct2),sl2⟩)
  (c2:W.codeIn K cd2 "PumpLock.__init__"=true)
  (k2:W.keepIn K (.ref f2)=true)
  (a3:W.findIn K (.ref cR) "__init__"=some (some (.ref f3)))
  (i3:W.isFn K (.ref f3)=true)
  (l3:K.lookup f3=some ⟨oc3,od3,.func (W.fnOf "__init__" "Reach.__init__" (jW y7) (jS y7) (jG y7) .none kV3 dc3 pm3 an3 cd3 ct3),sl3⟩)
  (c3:W.codeIn K cd3 "Reach.__init__"=true)
  (k3:W.keepIn K (.ref f3)=true)
  (a4:W.findIn K (.ref cP) "kind"=some (some (.ref f4)))
  (i4:W.isFn K (.ref f4)=true)
  (l4:K.lookup f4=some ⟨oc4,od4,.func (W.fnOf "kind" "PlainLock.kind" (jW y2) (jS y2) (jG y2) .none kV4 dc4 pm4 an4 cd4 ct4),sl4⟩)
  (c4:W.codeIn K cd4 "PlainLock.kind"=true)
  (k4:W.keepIn K (.ref f4)=true)
  (a5:W.findIn K (.ref cB) "kind"=some (some (.ref f5)))
  (i5:W.isFn K (.ref f5)=true)
  (l5:K.lookup f5=some ⟨oc5,od5,.func (W.fnOf "kind" "BasinLock.kind" (jW yZ) (jS yZ) (jG yZ) .none kV5 dc5 pm5 an5 cd5 ct5),sl5⟩)
  (c5:W.codeIn K cd5 "BasinLock.kind"=true)
  (k5:W.keepIn K (.ref f5)=true)
  (a6:W.findIn K (.ref cU) "kind"=some (some (.ref f6)))
  (i6:W.isFn K (.ref f6)=true)
  (l6:K.lookup f6=some ⟨oc6,od6,.func (W.fnOf "kind" "PumpLock.kind" (jW y6) (jS y6) (jG y6) .none kV6 dc6 pm6 an6 cd6 ct6),sl6⟩)
  (c6:W.codeIn K cd6 "PumpLock.kind"=true)
  (k6:W.keepIn K (.ref f6)=true)
  (a7:W.findIn K (.ref cP) "extra"=some (some (.ref f7)))
  (i7:W.isFn K (.ref f7)=true)
  (l7:K.lookup f7=some ⟨oc7,od7,.func (W.fnOf "extra" "PlainLock.extra" (jW y1) (jS y1) (jG y1) .none kV7 dc7 pm7 an7 cd7 ct7),sl7⟩)
  (c7:W.codeIn K cd7 "PlainLock.extra"=true)
  (k7:W.keepIn K (.ref f7)=true)
  (a8:W.findIn K (.ref cB) "extra"=some (some (.ref f8)))
  (i8:W.isFn K (.ref f8)=true)
  (l8:K.lookup f8=some ⟨oc8,od8,.func (W.fnOf "extra" "BasinLock.extra" (jW yY) (jS yY) (jG yY) .none kV8 dc8 pm8 an8 cd8 ct8),sl8⟩)
  (c8:W.codeIn K cd8 "BasinLock.extra"=true)
  (k8:W.keepIn K (.ref f8)=true)
  (a9:W.findIn K (.ref cU) "extra"=some (some (.ref f9)))
  (i9:W.isFn K (.ref f9)=true)
  (l9:K.lookup f9=some ⟨oc9,od9,.func (W.fnOf "extra" "PumpLock.extra" (jW y4) (jS y4) (jG y4) .none kV9 dc9 pm9 an9 cd9 ct9),sl9⟩)
  (c9:W.codeIn K cd9 "PumpLock.extra"=true)
  (k9:W.keepIn K (.ref f9)=true)
  (a10:W.findIn K (.ref cN) "__init__"=some (some (.ref f10)))
  (i10:W.isFn K (.ref f10)=true)
  (l10:K.lookup f10=some ⟨oc10,od10,.func (W.fnOf "__init__" "Canal.__init__" (jW yF) (jS yF) (jG yF) (.ref T10) kV10 dc10 pm10 an10 cd10 ct10),sl10⟩)
  (c10:W.codeIn K cd10 "Canal.__init__"=true)
  (k10:W.keepIn K (.ref f10)=true)
  (lT10:K.lookup T10=some oT10)
  (dT10:oT10.data=.seq ([.none]:List Value).toArray dn0)
  (a11:W.nsIn K mainGlobals "text_of"=some (some (.ref f11)))
  (l11:K.lookup f11=some ⟨oc11,od11,.func (W.fnOf "text_of" "text_of" (jW yK) (jS yK) (jG yK) .none kV11 dc11 pm11 an11 cd11 ct11),sl11⟩)
  (c11:W.codeIn K cd11 "text_of"=true)
  (k11:W.keepIn K (.ref f11)=true)
  (a12:W.nsIn K mainGlobals "reach_row"=some (some (.ref f12)))
  (l12:K.lookup f12=some ⟨oc12,od12,.func (W.fnOf "reach_row" "reach_row" (jW yJ) (jS yJ) (jG yJ) .none kV12 dc12 pm12 an12 cd12 ct12),sl12⟩)
  (c12:W.codeIn K cd12 "reach_row"=true)
  (k12:W.keepIn K (.ref f12)=true)
  (a13:W.nsIn K mainGlobals "lock_row"=some (some (.ref f13)))
  (l13:K.lookup f13=some ⟨oc13,od13,.func (W.fnOf "lock_row" "lock_row" (jW zF) (jS zF) (jG zF) .none kV13 dc13 pm13 an13 cd13 ct13),sl13⟩)
  (c13:W.codeIn K cd13 "lock_row"=true)
  (k13:W.keepIn K (.ref f13)=true)
  (a14:W.nsIn K mainGlobals "night_row"=some (some (.ref f14)))
  (l14:K.lookup f14=some ⟨oc14,od14,.func (W.fnOf "night_row" "night_row" (jW zG) (jS zG) (jG zG) .none kV14 dc14 pm14 an14 cd14 ct14),sl14⟩)
  (c14:W.codeIn K cd14 "night_row"=true)
  (k14:W.keepIn K (.ref f14)=true)
  (a15:W.nsIn K mainGlobals "shown"=some (some (.ref f15)))
  (l15:K.lookup f15=some ⟨oc15,od15,.func (W.fnOf "shown" "shown" (jW vN) (jS vN) (jG vN) .none kV15 dc15 pm15 an15 cd15 ct15),sl15⟩)
  (c15:W.codeIn K cd15 "shown"=true)
  (k15:W.keepIn K (.ref f15)=true)
  (a16:W.nsIn K mainGlobals "_law_cell_at"=some (some (.ref f16)))
  (l16:K.lookup f16=some ⟨oc16,od16,.func (W.fnOf "_law_cell_at" "_law_cell_at" (jW y8) (jS y8) (jG y8) .none kV16 dc16 pm16 an16 cd16 ct16),sl16⟩)
  (c16:W.codeIn K cd16 "_law_cell_at"=true)
  (k16:W.keepIn K (.ref f16)=true)
  (a17:W.nsIn K mainGlobals "_law_names"=some (some (.ref f17)))
  (l17:K.lookup f17=some ⟨oc17,od17,.func (W.fnOf "_law_names" "_law_names" (jW zC) (jS zC) (jG zC) .none kV17 dc17 pm17 an17 cd17 ct17),sl17⟩)
  (c17:W.codeIn K cd17 "_law_names"=true)
  (k17:W.keepIn K (.ref f17)=true)
  (a18:W.nsIn K mainGlobals "_law_reach_names"=some (some (.ref f18)))
  (l18:K.lookup f18=some ⟨oc18,od18,.func (W.fnOf "_law_reach_names" "_law_reach_names" (jW yH) (jS yH) (jG yH) .none kV18 dc18 pm18 an18 cd18 ct18),sl18⟩)
  (c18:W.codeIn K cd18 "_law_reach_names"=true)
  (k18:W.keepIn K (.ref f18)=true)
  (a19:W.nsIn K mainGlobals "_law_gates"=some (some (.ref f19)))
  (l19:K.lookup f19=some ⟨oc19,od19,.func (W.fnOf "_law_gates" "_law_gates" (jW zA) (jS zA) (jG zA) .none kV19 dc19 pm19 an19 cd19 ct19),sl19⟩)
  (c19:W.codeIn K cd19 "_law_gates"=true)
  (k19:W.keepIn K (.ref f19)=true)
  (a20:W.nsIn K mainGlobals "_law_reach"=some (some (.ref f20)))
  (l20:K.lookup f20=some ⟨oc20,od20,.func (W.fnOf "_law_reach" "_law_reach" (jW zE) (jS zE) (jG zE) .none kV20 dc20 pm20 an20 cd20 ct20),sl20⟩)
  (c20:W.codeIn K cd20 "_law_reach"=true)
  (k20:W.keepIn K (.ref f20)=true)
  (a21:W.nsIn K mainGlobals "_law_lock"=some (some (.ref f21)))
  (l21:K.lookup f21=some ⟨oc21,od21,.func (W.fnOf "_law_lock" "_law_lock" (jW zB) (jS zB) (jG zB) .none kV21 dc21 pm21 an21 cd21 ct21),sl21⟩)
  (c21:W.codeIn K cd21 "_law_lock"=true)
  (k21:W.keepIn K (.ref f21)=true)
  (a22:W.nsIn K mainGlobals "_law_night"=some (some (.ref f22)))
  (l22:K.lookup f22=some ⟨oc22,od22,.func (W.fnOf "_law_night" "_law_night" (jW zD) (jS zD) (jG zD) .none kV22 dc22 pm22 an22 cd22 ct22),sl22⟩)
  (c22:W.codeIn K cd22 "_law_night"=true)
  (k22:W.keepIn K (.ref f22)=true)
  (a23:W.nsIn K mainGlobals "_law_plan"=some (some (.ref f23)))
  (l23:K.lookup f23=some ⟨oc23,od23,.func (W.fnOf "_law_plan" "_law_plan" (jW yG) (jS yG) (jG yG) .none kV23 dc23 pm23 an23 cd23 ct23),sl23⟩)
  (c23:W.codeIn K cd23 "_law_plan"=true)
  (k23:W.keepIn K (.ref f23)=true)
  (a24:W.nsIn K mainGlobals "_law_due"=some (some (.ref f24)))
  (l24:K.lookup f24=some ⟨oc24,od24,.func (W.fnOf "_law_due" "_law_due" (jW vL) (jS vL) (jG vL) .none kV24 dc24 pm24 an24 cd24 ct24),sl24⟩)
  (c24:W.codeIn K cd24 "_law_due"=true)
  (k24:W.keepIn K (.ref f24)=true)
  (a25:W.nsIn K mainGlobals "_law_gate"=some (some (.ref f25)))
  (l25:K.lookup f25=some ⟨oc25,od25,.func (W.fnOf "_law_gate" "_law_gate" (jW y9) (jS y9) (jG y9) .none kV25 dc25 pm25 an25 cd25 ct25),sl25⟩)
  (c25:W.codeIn K cd25 "_law_gate"=true)
  (k25:W.keepIn K (.ref f25)=true)
  (a26:W.nsIn K mainGlobals "_law_made"=some (some (.ref f26)))
  (l26:K.lookup f26=some ⟨oc26,od26,.func (W.fnOf "_law_made" "_law_made" (jW v6) (jS v6) (jG v6) .none kV26 dc26 pm26 an26 cd26 ct26),sl26⟩)
  (c26:W.codeIn K cd26 "_law_made"=true)
  (k26:W.keepIn K (.ref f26)=true)
  (a27:W.nsIn K mainGlobals "_law_row"=some (some (.ref f27)))
  (l27:K.lookup f27=some ⟨oc27,od27,.func (W.fnOf "_law_row" "_law_row" (jW yI) (jS yI) (jG yI) .none kV27 dc27 pm27 an27 cd27 ct27),sl27⟩)
  (c27:W.codeIn K cd27 "_law_row"=true)
  (k27:W.keepIn K (.ref f27)=true)
  (a28:W.nsIn K mainGlobals "_law_told"=some (some (.ref f28)))
  (l28:K.lookup f28=some ⟨oc28,od28,.func (W.fnOf "_law_told" "_law_told" (jW vB) (jS vB) (jG vB) .none kV28 dc28 pm28 an28 cd28 ct28),sl28⟩)
  (c28:W.codeIn K cd28 "_law_told"=true)
  (k28:W.keepIn K (.ref f28)=true)
  (a29:W.nsIn K mainGlobals "law"=some (some (.ref f29)))
  (l29:K.lookup f29=some ⟨oc29,od29,.func (W.fnOf "law" "law" (jW vM) (jS vM) (jG vM) .none kV29 dc29 pm29 an29 cd29 ct29),sl29⟩)
  (c29:W.codeIn K cd29 "law"=true)
  (k29:W.keepIn K (.ref f29)=true)
  (z_list:W.nsIn K mainGlobals "list"=some none)
  (z_str:W.nsIn K mainGlobals "str"=some none)
  (z_zip:W.nsIn K mainGlobals "zip"=some none)
  (z_len:W.nsIn K mainGlobals "len"=some none)
  (z_range:W.nsIn K mainGlobals "range"=some none)
  (z_min:W.nsIn K mainGlobals "min"=some none)
  (z_max:W.nsIn K mainGlobals "max"=some none)
  (z_isinstance:W.nsIn K mainGlobals "isinstance"=some none)
  (pg_P:W.plainGet K cP Str.empty=true)
  (hdd_P:W.hasDictIn K cP=true)
  (po_P:W.plainOver K cP=true)
  (sa_P:W.findIn K (.ref cP) "__setattr__"=some (some (.builtin "object.__setattr__")))
  (mk_P:W.makesIn K cP=true)
  (kc_P:W.keepIn K (.ref cP)=true)
  (n_name_P:W.findIn K (.ref cP) "name"=some none)
  (n_high_P:W.findIn K (.ref cP) "high"=some none)
  (n_low_P:W.findIn K (.ref cP) "low"=some none)
  (n_room_P:W.findIn K (.ref cP) "room"=some none)
  (pg_B:W.plainGet K cB Str.empty=true)
  (hdd_B:W.hasDictIn K cB=true)
  (po_B:W.plainOver K cB=true)
  (sa_B:W.findIn K (.ref cB) "__setattr__"=some (some (.builtin "object.__setattr__")))
  (mk_B:W.makesIn K cB=true)
  (kc_B:W.keepIn K (.ref cB)=true)
  (n_name_B:W.findIn K (.ref cB) "name"=some none)
  (n_high_B:W.findIn K (.ref cB) "high"=some none)
  (n_low_B:W.findIn K (.ref cB) "low"=some none)
  (n_room_B:W.findIn K (.ref cB) "room"=some none)
  (n_side_B:W.findIn K (.ref cB) "side"=some none)
  (pg_U:W.plainGet K cU Str.empty=true)
  (hdd_U:W.hasDictIn K cU=true)
  (po_U:W.plainOver K cU=true)
  (sa_U:W.findIn K (.ref cU) "__setattr__"=some (some (.builtin "object.__setattr__")))
  (mk_U:W.makesIn K cU=true)
  (kc_U:W.keepIn K (.ref cU)=true)
  (n_name_U:W.findIn K (.ref cU) "name"=some none)
  (n_high_U:W.findIn K (.ref cU) "high"=some none)
  (n_low_U:W.findIn K (.ref cU) "low"=some none)
  (n_room_U:W.findIn K (.ref cU) "room"=some none)
  (n_lift_U:W.findIn K (.ref cU) "lift"=some none)
  (g1:W.specialIn K (.ref cP) "__getattribute__"=some (some (.builtin "type.__getattribute__")))
  (g2:W.readsIn K cP (.type "type")=true)
  (pg_R:W.plainGet K cR Str.empty=true)
  (hdd_R:W.hasDictIn K cR=true)
  (po_R:W.plainOver K cR=true)
  (sa_R:W.findIn K (.ref cR) "__setattr__"=some (some (.builtin "object.__setattr__")))
  (mk_R:W.makesIn K cR=true)
  (kc_R:W.keepIn K (.ref cR)=true)
  (nR_name:W.findIn K (.ref cR) "name"=some none)
  (nR_least:W.findIn K (.ref cR) "least"=some none)
  (nR_crest:W.findIn K (.ref cR) "crest"=some none)
  (nR_berths:W.findIn K (.ref cR) "berths"=some none)
  (nR_water:W.findIn K (.ref cR) "water"=some none)
  (nR_target:W.findIn K (.ref cR) "target"=some none)
  (pg_N:W.plainGet K cN Str.empty=true)
  (hdd_N:W.hasDictIn K cN=true)
  (po_N:W.plainOver K cN=true)
  (sa_N:W.findIn K (.ref cN) "__setattr__"=some (some (.builtin "object.__setattr__")))
  (mk_N:W.makesIn K cN=true)
  (kc_N:W.keepIn K (.ref cN)=true)
  (nN_reaches:W.findIn K (.ref cN) "reaches"=some none)
  (nN_locks:W.findIn K (.ref cN) "locks"=some none)
  (nN_nights:W.findIn K (.ref cN) "nights"=some none)
  (gSEA:W.nsIn K mainGlobals "SEA"=some (some (.int (-1) tkS))) :
  ∃fd:FuncData,(∀(s:Shared) (v:Value),BindsTo s fd ⟨[v],[]⟩ [("script",v)])∧∀base:Heap,K.In base→base.Ns mainGlobals mg→FnOk l.prog w K mg base jR 7 fa fd ["script"] (QA K):=by
 have e:=hfa.symm.trans (W.mg_of X G a29)
 cases e
 have F0:=j9 (st:=y0) l0 c0 k0
 have b0:=F0.binds (ps:=["self","name","high","low","room"]) fun _ _ _ _ _ _ us hl=>match us,hl with|[_,_,_,_,_],_=>rfl
 have F1:=j9 (st:=yX) l1 c1 k1
 have b1:=F1.binds (ps:=["self","name","high","low","room","side"]) fun _ _ _ _ _ _ us hl=>match us,hl with|[_,_,_,_,_,_],_=>rfl
 have F2:=j9 (st:=y3) l2 c2 k2
 have b2:=F2.binds (ps:=["self","name","high","low","room","lift"]) fun _ _ _ _ _ _ us hl=>match us,hl with|[_,_,_,_,_,_],_=>rfl
 have F3:=j9 (st:=y7) l3 c3 k3
 have b3:=F3.binds (ps:=["self","name","least","crest","berths","water","target"]) fun _ _ _ _ _ _ us hl=>match us,hl with|[_,_,_,_,_,_,_],_=>rfl
 have F4:=j9 (st:=y2) l4 c4 k4
 have b4:=F4.binds (ps:=["self"]) fun _ _ _ _ _ _ us hl=>match us,hl with|[_],_=>rfl
 have F5:=j9 (st:=yZ) l5 c5 k5
 have b5:=F5.binds (ps:=["self"]) fun _ _ _ _ _ _ us hl=>match us,hl with|[_],_=>rfl
 have F6:=j9 (st:=y6) l6 c6 k6
 have b6:=F6.binds (ps:=["self"]) fun _ _ _ _ _ _ us hl=>match us,hl with|[_],_=>rfl
 have F7:=j9 (st:=y1) l7 c7 k7
 have b7:=F7.binds (ps:=["self"]) fun _ _ _ _ _ _ us hl=>match us,hl with|[_],_=>rfl
 have F8:=j9 (st:=yY) l8 c8 k8
 have b8:=F8.binds (ps:=["self"]) fun _ _ _ _ _ _ us hl=>match us,hl with|[_],_=>rfl
 have F9:=j9 (st:=y4) l9 c9 k9
 have b9:=F9.binds (ps:=["self"]) fun _ _ _ _ _ _ us hl=>match us,hl with|[_],_=>rfl
 have F10:=m5 (st:=yF) (ds:=[.none]) (n:=dn0) l10 c10 k10 lT10 (by first|exact dT10|rfl)
 have b10:Binds K _ ["self","reaches","locks","nights"] []:=F10.binds [] 4 rfl fun _ _ _ _ _ _ _ us hl=>match us,hl with|[_,_,_,_],_=>⟨_,rfl,rfl⟩
 have b10_1:Binds K _ ["self","reaches","locks","nights"] [.none]:=F10.binds [.none] 3 rfl fun _ _ _ _ _ _ _ us hl=>match us,hl with|[_,_,_],_=>⟨_,rfl,rfl⟩
 have F11:=j9 (st:=yK) l11 c11 k11
 have b11:=F11.binds (ps:=["rows"]) fun _ _ _ _ _ _ us hl=>match us,hl with|[_],_=>rfl
 have F12:=j9 (st:=yJ) l12 c12 k12
 have b12:=F12.binds (ps:=["canal","reach"]) fun _ _ _ _ _ _ us hl=>match us,hl with|[_,_],_=>rfl
 have F13:=j9 (st:=zF) l13 c13 k13
 have b13:=F13.binds (ps:=["canal","lock"]) fun _ _ _ _ _ _ us hl=>match us,hl with|[_,_],_=>rfl
 have F14:=j9 (st:=zG) l14 c14 k14
 have b14:=F14.binds (ps:=["canal","night"]) fun _ _ _ _ _ _ us hl=>match us,hl with|[_,_],_=>rfl
 have F15:=j9 (st:=vN) l15 c15 k15
 have b15:=F15.binds (ps:=["canal"]) fun _ _ _ _ _ _ us hl=>match us,hl with|[_],_=>rfl
 have F16:=j9 (st:=y8) l16 c16 k16
 have b16:=F16.binds (ps:=["script","k"]) fun _ _ _ _ _ _ us hl=>match us,hl with|[_,_],_=>rfl
 have F17:=j9 (st:=zC) l17 c17 k17
 have b17:=F17.binds (ps:=["cell","many"]) fun _ _ _ _ _ _ us hl=>match us,hl with|[_,_],_=>rfl
 have F18:=j9 (st:=yH) l18 c18 k18
 have b18:=F18.binds (ps:=["cell"]) fun _ _ _ _ _ _ us hl=>match us,hl with|[_],_=>rfl
 have F19:=j9 (st:=zA) l19 c19 k19
 have b19:=F19.binds (ps:=["cell","names"]) fun _ _ _ _ _ _ us hl=>match us,hl with|[_,_],_=>rfl
 have F20:=j9 (st:=zE) l20 c20 k20
 have b20:=F20.binds (ps:=["name","a","b","c","many"]) fun _ _ _ _ _ _ us hl=>match us,hl with|[_,_,_,_,_],_=>rfl
 have F21:=j9 (st:=zB) l21 c21 k21
 have b21:=F21.binds (ps:=["name","a","b","c","many"]) fun _ _ _ _ _ _ us hl=>match us,hl with|[_,_,_,_,_],_=>rfl
 have F22:=j9 (st:=zD) l22 c22 k22
 have b22:=F22.binds (ps:=["a","b","c","many"]) fun _ _ _ _ _ _ us hl=>match us,hl with|[_,_,_,_],_=>rfl
 have F23:=j9 (st:=yG) l23 c23 k23
 have b23:=F23.binds (ps:=["script","names","gates"]) fun _ _ _ _ _ _ us hl=>match us,hl with|[_,_,_],_=>rfl
 have F24:=j9 (st:=vL) l24 c24 k24
 have b24:=F24.binds (ps:=["plan"]) fun _ _ _ _ _ _ us hl=>match us,hl with|[_],_=>rfl
 have F25:=j9 (st:=y9) l25 c25 k25
 have b25:=F25.binds (ps:=["one"]) fun _ _ _ _ _ _ us hl=>match us,hl with|[_],_=>rfl
 have F26:=j9 (st:=v6) l26 c26 k26
 have b26:=F26.binds (ps:=["due"]) fun _ _ _ _ _ _ us hl=>match us,hl with|[_],_=>rfl
 have F27:=j9 (st:=yI) l27 c27 k27
 have b27:=F27.binds (ps:=["one","names"]) fun _ _ _ _ _ _ us hl=>match us,hl with|[_,_],_=>rfl
 have F28:=j9 (st:=vB) l28 c28 k28
 have b28:=F28.binds (ps:=["due","names"]) fun _ _ _ _ _ _ us hl=>match us,hl with|[_,_],_=>rfl
 have F29:=j9 (st:=vM) l29 c29 k29
 have b29:=F29.binds (ps:=["script"]) fun _ _ _ _ _ _ us hl=>match us,hl with|[_],_=>rfl
 have T:Txt K mg cP cB cU cR cN tkS:={z_list:=W.mg_none_of X G z_list,z_str:=W.mg_none_of X G z_str,z_zip:=W.mg_none_of X G z_zip,z_len:=W.mg_none_of X G z_len,z_range:=W.mg_none_of X G z_range,z_min:=W.mg_none_of X G z_min,z_max:=W.mg_none_of X G z_max,z_isinstance:=W.mg_none_of X G z_isinstance,cl:=fun kd=>match kd with|.plain=>⟨pg_P,hdd_P,po_P,sa_P⟩|.basin=>⟨pg_B,hdd_B,po_B,sa_B⟩|.pump=>⟨pg_U,hdd_U,po_U,sa_U⟩,n_name:=fun kd=>match kd with|.plain=>n_name_P|.basin=>n_name_B|.pump=>n_name_U,n_high:=fun kd=>match kd with|.plain=>n_high_P|.basin=>n_high_B|.pump=>n_high_U,n_low:=fun kd=>match kd with|.plain=>n_low_P|.basin=>n_low_B|.pump=>n_low_U,n_room:=fun kd=>match kd with|.plain=>n_room_P|.basin=>n_room_B|.pump=>n_room_U,n_side:=n_side_B,n_lift:=n_lift_U,c_PlainLock:=W.mg_of X G aC_P,c_BasinLock:=W.mg_of X G aC_B,c_PumpLock:=W.mg_of X G aC_U,clR:=⟨pg_R,hdd_R,po_R,sa_R⟩,nR_name:=nR_name,nR_least:=nR_least,nR_crest:=nR_crest,nR_berths:=nR_berths,nR_water:=nR_water,nR_target:=nR_target,c_Reach:=W.mg_of X G aC_R,clN:=⟨pg_N,hdd_N,po_N,sa_N⟩,nN_reaches:=nN_reaches,nN_locks:=nN_locks,nN_nights:=nN_nights,c_Canal:=W.mg_of X G aC_N,g_SEA:=W.mg_of X G gSEA}
 refine ⟨W.fnOf "law" "law" (jW vM) (jS vM) (jG vM) .none kV29 dc29 pm29 an29 cd29 ct29,fun s v=>.of_eq rfl,fun base _ _=>?_⟩
 have G0:=eP (P:=l.prog) (w:=w) (base:=base) F0 T
 have MK_PlainLock:MkD l.prog w K mg base 1 "PlainLock" cP ["self","name","high","low","room"] (zN (jN cP cB cU)):=⟨T.c_PlainLock,_,_,⟨mk_P,a0,i0,kc_P⟩,G0,b0⟩
 have CM0:CmD l.prog w K mg base 1 "PlainLock" cP "__init__" ["self","name","high","low","room"] (zN (jN cP cB cU)):=⟨T.c_PlainLock,_,_,⟨g1,g2,ac0,k0⟩,G0,b0⟩
 have G1:=eL (P:=l.prog) (w:=w) (base:=base) F1 T CM0
 have MK_BasinLock:MkD l.prog w K mg base 2 "BasinLock" cB ["self","name","high","low","room","side"] (zM (jN cP cB cU) .basin):=⟨T.c_BasinLock,_,_,⟨mk_B,a1,i1,kc_B⟩,G1,b1⟩
 have G2:=eS (P:=l.prog) (w:=w) (base:=base) F2 T CM0
 have MK_PumpLock:MkD l.prog w K mg base 2 "PumpLock" cU ["self","name","high","low","room","lift"] (zM (jN cP cB cU) .pump):=⟨T.c_PumpLock,_,_,⟨mk_U,a2,i2,kc_U⟩,G2,b2⟩
 have G3:=eV (P:=l.prog) (w:=w) (base:=base) F3 T
 have MK_Reach:MkD l.prog w K mg base 1 "Reach" cR ["self","name","least","crest","berths","water","target"] (QU cR):=⟨T.c_Reach,_,_,⟨mk_R,a3,i3,kc_R⟩,G3,b3⟩
 have G4:=eR (P:=l.prog) (w:=w) (base:=base) F4 T
 have ME_kind_P:MeD l.prog w K mg base 1 cP "kind" ["self"] (qI (jN cP cB cU) (fun kd _=>V.str (match kd with|.plain=>"plain"|.basin=>"basin"|.pump=>"pump")) .plain):=⟨T.cl .plain,_,_,⟨a4,i4,k4⟩,G4,b4⟩
 have G5:=eN (P:=l.prog) (w:=w) (base:=base) F5 T
 have ME_kind_B:MeD l.prog w K mg base 1 cB "kind" ["self"] (qI (jN cP cB cU) (fun kd _=>V.str (match kd with|.plain=>"plain"|.basin=>"basin"|.pump=>"pump")) .basin):=⟨T.cl .basin,_,_,⟨a5,i5,k5⟩,G5,b5⟩
 have G6:=eU (P:=l.prog) (w:=w) (base:=base) F6 T
 have ME_kind_U:MeD l.prog w K mg base 1 cU "kind" ["self"] (qI (jN cP cB cU) (fun kd _=>V.str (match kd with|.plain=>"plain"|.basin=>"basin"|.pump=>"pump")) .pump):=⟨T.cl .pump,_,_,⟨a6,i6,k6⟩,G6,b6⟩
 have MP_kind:MeK l.prog w K mg base 1 (jN cP cB cU) "kind" ["self"] (qI (jN cP cB cU) (fun kd _=>V.str (match kd with|.plain=>"plain"|.basin=>"basin"|.pump=>"pump"))):=⟨fun kd=>match kd with|.plain=>ME_kind_P|.basin=>ME_kind_B|.pump=>ME_kind_U⟩
 have G7:=eQ (P:=l.prog) (w:=w) (base:=base) F7 T
 have ME_extra_P:MeD l.prog w K mg base 1 cP "extra" ["self"] (qI (jN cP cB cU) (fun kd v=>V.int (match kd with|.plain=>0|.basin=>v|.pump=>v)) .plain):=⟨T.cl .plain,_,_,⟨a7,i7,k7⟩,G7,b7⟩
 have G8:=eM (P:=l.prog) (w:=w) (base:=base) F8 T
 have ME_extra_B:MeD l.prog w K mg base 1 cB "extra" ["self"] (qI (jN cP cB cU) (fun kd v=>V.int (match kd with|.plain=>0|.basin=>v|.pump=>v)) .basin):=⟨T.cl .basin,_,_,⟨a8,i8,k8⟩,G8,b8⟩
 have G9:=eT (P:=l.prog) (w:=w) (base:=base) F9 T
 have ME_extra_U:MeD l.prog w K mg base 1 cU "extra" ["self"] (qI (jN cP cB cU) (fun kd v=>V.int (match kd with|.plain=>0|.basin=>v|.pump=>v)) .pump):=⟨T.cl .pump,_,_,⟨a9,i9,k9⟩,G9,b9⟩
 have MP_extra:MeK l.prog w K mg base 1 (jN cP cB cU) "extra" ["self"] (qI (jN cP cB cU) (fun kd v=>V.int (match kd with|.plain=>0|.basin=>v|.pump=>v))):=⟨fun kd=>match kd with|.plain=>ME_extra_P|.basin=>ME_extra_B|.pump=>ME_extra_U⟩
 have G10:=eO (P:=l.prog) (w:=w) (base:=base) F10 T
 have MK_Canal:MkD l.prog w K mg base 1 "Canal" cN ["self","reaches","locks","nights"] (QV (jN cP cB cU) cR cN):=⟨T.c_Canal,_,_,⟨mk_N,a10,i10,kc_N⟩,G10,b10⟩
 have D11:Def l.prog w K mg base 1 "text_of" _ [] _:=⟨_,_,[],fK F11 T,W.mg_of X G a11,k11,.nil,b11⟩
 have D12:Def l.prog w K mg base 1 "reach_row" _ [] _:=⟨_,_,[],fI F12 T,W.mg_of X G a12,k12,.nil,b12⟩
 have D13:Def l.prog w K mg base 2 "lock_row" _ [] _:=⟨_,_,[],fG F13 T MP_kind MP_extra,W.mg_of X G a13,k13,.nil,b13⟩
 have D14:Def l.prog w K mg base 1 "night_row" _ [] _:=⟨_,_,[],fH F14 T,W.mg_of X G a14,k14,.nil,b14⟩
 have D15:Def l.prog w K mg base 3 "shown" _ [] _:=⟨_,_,[],fJ F15 T D12 D13 D14 D11,W.mg_of X G a15,k15,.nil,b15⟩
 have D16:Def l.prog w K mg base 1 "_law_cell_at" _ [] _:=⟨_,_,[],eW F16 T,W.mg_of X G a16,k16,.nil,b16⟩
 have D17:Def l.prog w K mg base 1 "_law_names" _ [] _:=⟨_,_,[],e8 F17 T,W.mg_of X G a17,k17,.nil,b17⟩
 have D18:Def l.prog w K mg base 2 "_law_reach_names" _ [] _:=⟨_,_,[],fC F18 T D17,W.mg_of X G a18,k18,.nil,b18⟩
 have D19:Def l.prog w K mg base 3 "_law_gates" _ [] _:=⟨_,_,[],eZ F19 T D18 D17,W.mg_of X G a19,k19,.nil,b19⟩
 have D20:Def l.prog w K mg base 1 "_law_reach" _ [] _:=⟨_,_,[],fB F20 T,W.mg_of X G a20,k20,.nil,b20⟩
 have D21:Def l.prog w K mg base 1 "_law_lock" _ [] _:=⟨_,_,[],e6 F21 T,W.mg_of X G a21,k21,.nil,b21⟩
 have D22:Def l.prog w K mg base 1 "_law_night" _ [] _:=⟨_,_,[],e9 F22 T,W.mg_of X G a22,k22,.nil,b22⟩
 have D23:Def l.prog w K mg base 2 "_law_plan" _ [] _:=⟨_,_,[],fA F23 T D16 D22 D21 D20,W.mg_of X G a23,k23,.nil,b23⟩
 have D24:Def l.prog w K mg base 1 "_law_due" _ [] _:=⟨_,_,[],eX F24 T,W.mg_of X G a24,k24,.nil,b24⟩
 have D25:Def l.prog w K mg base 4 "_law_gate" _ [] _:=⟨_,_,[],eY F25 T MK_BasinLock MK_PumpLock MK_PlainLock,W.mg_of X G a25,k25,.nil,b25⟩
 have D26:Def l.prog w K mg base 5 "_law_made" _ [] _:=⟨_,_,[],e7 F26 T MK_Reach MK_Canal D25,W.mg_of X G a26,k26,.nil,b26⟩
 have D27:Def l.prog w K mg base 1 "_law_row" _ [] _:=⟨_,_,[],fD F27 T,W.mg_of X G a27,k27,.nil,b27⟩
 have D28:Def l.prog w K mg base 2 "_law_told" _ [] _:=⟨_,_,[],fE F28 T D27,W.mg_of X G a28,k28,.nil,b28⟩
 have G29:=fF (P:=l.prog) (w:=w) (base:=base) F29 T D18 D16 D19 D23 D24 D15 D26 D28
 exact G29
theorem walk {l:W.OpenLaw} {q:Program} {loose:List Str} {XP:(Str→Option Value)→Heap→Prop} {YP:World→Heap→Prop} {d:DefRec} {K:Params→W.Frag} (hn:l.most=some 63) (hdf:d.params.defaults=[])
  (hY:∀(w:World) (h:Heap),YP w h→(K w.params).In h)
  (F:∀(w:World) (mg:Str→Option Value) (fa:Addr) (h:Heap),(K w.params).In h→h.Ns mainGlobals mg→mg d.name=some (.ref fa)→
   ∃fd:FuncData,(∀(s:Shared) (u:Value),BindsTo s fd ⟨[u],[]⟩ [("script",u)])∧∀base:Heap,(K w.params).In base→base.Ns mainGlobals mg→FnOk l.prog w (K w.params) mg base jR 7 fa fd ["script"] (QA (K w.params))) :
  W.WalkO q loose XP YP l.row.toRowW d [] (fun f vs=>PySem.call f vs) :=
 L2.walk_of (n:=63) (k:=7) (x:="script") (CX:=fun _=>jR) (sp:=fun w=>QA (K w.params)) hn (by decide) hdf ⟨rfl,by decide,by decide⟩ hY F (fun _ _ a ns hl _ hS=>⟨a,ns,rfl,hS,hl,fun _=>rfl⟩) fun _ _ _ _ _ z=>z
end My
/- These names are taken here so that the head below leaves out its twins of whole states (they are not needed,and make the compiled file larger than a hand-in may be). -/
def PySem.W.Fast.tw13587664191274793137:Nat:=0
def PySem.W.Fast.tw4793494606509736463:Nat:=0
def PySem.W.Fast.tw576797451996259073:Nat:=0
def PySem.W.Fast.tw2795113906581222742:Nat:=0
def PySem.W.Fast.tw13384229113308621503:Nat:=0
def PySem.W.Fast.tw3617082019868071514:Nat:=0
def PySem.W.Fast.tw6569699148009264987:Nat:=0
def PySem.W.Fast.tw10626604786767502052:Nat:=0
def PySem.W.Fast.tw18042184630542232926:Nat:=0
def PySem.W.Fast.tw13935176377249030638:Nat:=0
def PySem.W.Fast.tw11865301531557699191:Nat:=0
def PySem.W.Fast.tw3827579646655942897:Nat:=0
def PySem.W.Fast.tw16730449978934140570:Nat:=0
def PySem.W.Fast.tw1880998145363963467:Nat:=0
def PySem.W.Fast.tw6502804696405897904:Nat:=0
def PySem.W.Fast.tw11416104113188071310:Nat:=0
def PySem.W.Fast.tw15368671205448151923:Nat:=0
def PySem.W.Fast.tw6334317877649887026:Nat:=0
def PySem.W.Fast.tw16708052552590745511:Nat:=0
def PySem.W.Fast.tw8744357449489470893:Nat:=0
def PySem.W.Fast.tw8324347934879900221:Nat:=0
def PySem.W.Fast.tw8270594808127970632:Nat:=0
def PySem.W.Fast.tw12358247506708934510:Nat:=0
def PySem.W.Fast.tw4831202972606168235:Nat:=0
def PySem.W.Fast.tw11043627029269269460:Nat:=0
def PySem.W.Fast.tw7201915550217223053:Nat:=0
def PySem.W.Fast.tw11957691295465427274:Nat:=0
def PySem.W.Fast.tw7024389487729511250:Nat:=0
def PySem.W.Fast.tw11861347040887557313:Nat:=0
def PySem.W.Fast.tw10163517558740112688:Nat:=0
def PySem.W.Fast.tw4240013596333234367:Nat:=0
def PySem.W.Fast.tw8306583934950874165:Nat:=0
def PySem.W.Fast.tw5846282967280946881:Nat:=0
def PySem.W.Fast.tw16580148933507983270:Nat:=0
def PySem.W.Fast.tw16420597538386668640:Nat:=0
def PySem.W.Fast.tw8794719787380646137:Nat:=0
def PySem.W.Fast.tw6817439577432998835:Nat:=0
def PySem.W.Fast.tw16465367811427890134:Nat:=0
def PySem.W.Fast.tw8681854055879412446:Nat:=0
def PySem.W.Fast.tw5864830949696670693:Nat:=0
def PySem.W.Fast.tw15370077048512886289:Nat:=0
def PySem.W.Fast.tw6642518098048439366:Nat:=0
def PySem.W.Fast.tw4162933729629435293:Nat:=0
def PySem.W.Fast.tw7350608487554195810:Nat:=0
def PySem.W.Fast.tw16393686028295425263:Nat:=0
def PySem.W.Fast.tw997237356747298903:Nat:=0
def PySem.W.Fast.tw11061173008744350320:Nat:=0
def PySem.W.Fast.tw17633223509819257607:Nat:=0
def PySem.W.Fast.tw4052516268454186461:Nat:=0
def PySem.W.Fast.tw15070807846360294604:Nat:=0
def PySem.W.Fast.tw2740829150433068898:Nat:=0
def PySem.W.Fast.tw16617165509032964927:Nat:=0
def PySem.W.Fast.tw5146723148180899312:Nat:=0
def PySem.W.Fast.tw12939956560952341431:Nat:=0
def PySem.W.Fast.tw9731460137432931003:Nat:=0
def PySem.W.Fast.tw2203099414459095114:Nat:=0
def PySem.W.Fast.tw1994538068865243511:Nat:=0
def PySem.W.Fast.tw576249156740303871:Nat:=0
def PySem.W.Fast.tw9293804562003088339:Nat:=0
def PySem.W.Fast.tw262780844595771013:Nat:=0
def PySem.W.Fast.tw4249028509973714646:Nat:=0
def PySem.W.Fast.tw17261621607775143739:Nat:=0
def PySem.W.Fast.tw2620799066411626958:Nat:=0
def PySem.W.Fast.tw8035352988661890322:Nat:=0
def PySem.W.Fast.tw5925490769287667535:Nat:=0
def PySem.W.Fast.tw15073734486330609059:Nat:=0
def PySem.W.Fast.tw12817855851573402080:Nat:=0
def PySem.W.Fast.tw14762457580961990768:Nat:=0
def PySem.W.Fast.tw16016256059946898859:Nat:=0
def PySem.W.Fast.tw133755365409992071:Nat:=0
def PySem.W.Fast.tw17692363088898368377:Nat:=0
def PySem.W.Fast.tw13451963922746576010:Nat:=0
def PySem.W.Fast.tw568928424401408810:Nat:=0
def PySem.W.Fast.tw12049570004210428558:Nat:=0
def PySem.W.Fast.tw1626159933883960237:Nat:=0
def PySem.W.Fast.tw8855309792331980362:Nat:=0
def PySem.W.Fast.tw5319340104130225013:Nat:=0
def PySem.W.Fast.tw5606695538115714846:Nat:=0
def PySem.W.Fast.tw6613552699039170017:Nat:=0
def PySem.W.Fast.tw4079414108086921992:Nat:=0
def PySem.W.Fast.tw4412449597136044497:Nat:=0
def PySem.W.Fast.tw16209158099089816144:Nat:=0
def PySem.W.Fast.tw6296037999275108359:Nat:=0
def PySem.W.Fast.tw18214928879843081185:Nat:=0
def PySem.W.Fast.tw14506996834422423331:Nat:=0
def PySem.W.Fast.tw13802152553107408862:Nat:=0
def PySem.W.Fast.tw17142889142675958558:Nat:=0
def PySem.W.Fast.tw6347342265041314869:Nat:=0
open PySem PySem.W PyProof.Rows
set_option maxRecDepth 100000 in
set_option maxHeartbeats 0 in
theorem PySem.Challenge.cw_lockhouse_k38_shown_holds : PySem.Challenge.rw_lockhouse_k38_shown.Holds := by
 w_on;o_law;k_head;(case hw=>w_witness2)
 k_fill
 refine My.walk (l:=PySem.Challenge.rw_lockhouse_k38_shown) rfl rfl (fun w h Y=>PySem.W.kIn_of Y) ?F
 case F =>
  intro w mg fa h KX G hmg
  refine' My.all_mk KX G hmg ?aC_P ?aC_B ?aC_U ?aC_R ?aC_N ?a0 ?i0 ?ac0 ?l0 ?c0 ?k0 ?a1 ?i1 ?l1 ?c1 ?k1 ?a2 ?i2 ?l2 ?c2 ?k2 ?a3 ?i3 ?l3 ?c3 ?k3 ?a4 ?i4 ?l4 ?c4 ?k4 ?a5 ?i5 ?l5 ?c5 ?k5 ?a6 ?i6 ?l6 ?c6 ?k6 ?a7 ?i7 ?l7 ?c7 ?k7 ?a8 ?i8 ?l8 ?c8 ?k8 ?a9 ?i9 ?l9 ?c9 ?k9 ?a10 ?i10 ?l10 ?c10 ?k10 ?lT10 ?dT10 ?a11 ?l11 ?c11 ?k11 ?a12 ?l12 ?c12 ?k12 ?a13 ?l13 ?c13 ?k13 ?a14 ?l14 ?c14 ?k14 ?a15 ?l15 ?c15 ?k15 ?a16 ?l16 ?c16 ?k16 ?a17 ?l17 ?c17 ?k17 ?a18 ?l18 ?c18 ?k18 ?a19 ?l19 ?c19 ?k19 ?a20 ?l20 ?c20 ?k20 ?a21 ?l21 ?c21 ?k21 ?a22 ?l22 ?c22 ?k22 ?a23 ?l23 ?c23 ?k23 ?a24 ?l24 ?c24 ?k24 ?a25 ?l25 ?c25 ?k25 ?a26 ?l26 ?c26 ?k26 ?a27 ?l27 ?c27 ?k27 ?a28 ?l28 ?c28 ?k28 ?a29 ?l29 ?c29 ?k29 ?z_list ?z_str ?z_zip ?z_len ?z_range ?z_min ?z_max ?z_isinstance ?pg_P ?hdd_P ?po_P ?sa_P ?mk_P ?kc_P ?n_name_P ?n_high_P ?n_low_P ?n_room_P ?pg_B ?hdd_B ?po_B ?sa_B ?mk_B ?kc_B ?n_name_B ?n_high_B ?n_low_B ?n_room_B ?n_side_B ?pg_U ?hdd_U ?po_U ?sa_U ?mk_U ?kc_U ?n_name_U ?n_high_U ?n_low_U ?n_room_U ?n_lift_U ?g1 ?g2 ?pg_R ?hdd_R ?po_R ?sa_R ?mk_R ?kc_R ?nR_name ?nR_least ?nR_crest ?nR_berths ?nR_water ?nR_target ?pg_N ?hdd_N ?po_N ?sa_N ?mk_N ?kc_N ?nN_reaches ?nN_locks ?nN_nights ?gSEA
  (case aC_P=>first|k_is|rfl)
  (case aC_B=>first|k_is|rfl)
  (case aC_U=>first|k_is|rfl)
  (case aC_R=>first|k_is|rfl)
  (case aC_N=>first|k_is|rfl)
  (case a0=>first|k_is|rfl)
  (case i0=>first|k_is|rfl)
  (case ac0=>first|k_is|rfl)
  (case l0=>first|k_is|rfl)
  (case c0=>first|k_is|rfl)
  (case k0=>first|k_is|rfl)
  (case a1=>first|k_is|rfl)
  (case i1=>first|k_is|rfl)
  (case l1=>first|k_is|rfl)
  (case c1=>first|k_is|rfl)
  (case k1=>first|k_is|rfl)
  (case a2=>first|k_is|rfl)
  (case i2=>first|k_is|rfl)
  (case l2=>first|k_is|rfl)
  (case c2=>first|k_is|rfl)
  (case k2=>first|k_is|rfl)
  (case a3=>first|k_is|rfl)
  (case i3=>first|k_is|rfl)
  (case l3=>first|k_is|rfl)
  (case c3=>first|k_is|rfl)
  (case k3=>first|k_is|rfl)
  (case a4=>first|k_is|rfl)
  (case i4=>first|k_is|rfl)
  (case l4=>first|k_is|rfl)
  (case c4=>first|k_is|rfl)
  (case k4=>first|k_is|rfl)
  (case a5=>first|k_is|rfl)
  (case i5=>first|k_is|rfl)
  (case l5=>first|k_is|rfl)
  (case c5=>first|k_is|rfl)
  (case k5=>first|k_is|rfl)
  (case a6=>first|k_is|rfl)
  (case i6=>first|k_is|rfl)
  (case l6=>first|k_is|rfl)
  (case c6=>first|k_is|rfl)
  (case k6=>first|k_is|rfl)
  (case a7=>first|k_is|rfl)
  (case i7=>first|k_is|rfl)
  (case l7=>first|k_is|rfl)
  (case c7=>first|k_is|rfl)
  (case k7=>first|k_is|rfl)
  (case a8=>first|k_is|rfl)
  (case i8=>first|k_is|rfl)
  (case l8=>first|k_is|rfl)
  (case c8=>first|k_is|rfl)
  (case k8=>first|k_is|rfl)
  (case a9=>first|k_is|rfl)
  (case i9=>first|k_is|rfl)
  (case l9=>first|k_is|rfl)
  (case c9=>first|k_is|rfl)
  (case k9=>first|k_is|rfl)
  (case a10=>first|k_is|rfl)
  (case i10=>first|k_is|rfl)
  (case l10=>first|k_is|rfl)
  (case c10=>first|k_is|rfl)
  (case k10=>first|k_is|rfl)
  (case lT10=>first|k_is|rfl)
  (case dT10=>first|k_is|rfl)
  (case a11=>first|k_is|rfl)
  (case l11=>first|k_is|rfl)
  (case c11=>first|k_is|rfl)
  (case k11=>first|k_is|rfl)
  (case a12=>first|k_is|rfl)
  (case l12=>first|k_is|rfl)
  (case c12=>first|k_is|rfl)
  (case k12=>first|k_is|rfl)
  (case a13=>first|k_is|rfl)
  (case l13=>first|k_is|rfl)
  (case c13=>first|k_is|rfl)
  (case k13=>first|k_is|rfl)
  (case a14=>first|k_is|rfl)
  (case l14=>first|k_is|rfl)
  (case c14=>first|k_is|rfl)
  (case k14=>first|k_is|rfl)
  (case a15=>first|k_is|rfl)
  (case l15=>first|k_is|rfl)
  (case c15=>first|k_is|rfl)
  (case k15=>first|k_is|rfl)
  (case a16=>first|k_is|rfl)
  (case l16=>first|k_is|rfl)
  (case c16=>first|k_is|rfl)
  (case k16=>first|k_is|rfl)
  (case a17=>first|k_is|rfl)
  (case l17=>first|k_is|rfl)
  (case c17=>first|k_is|rfl)
  (case k17=>first|k_is|rfl)
  (case a18=>first|k_is|rfl)
  (case l18=>first|k_is|rfl)
  (case c18=>first|k_is|rfl)
  (case k18=>first|k_is|rfl)
  (case a19=>first|k_is|rfl)
  (case l19=>first|k_is|rfl)
  (case c19=>first|k_is|rfl)
  (case k19=>first|k_is|rfl)
  (case a20=>first|k_is|rfl)
  (case l20=>first|k_is|rfl)
  (case c20=>first|k_is|rfl)
  (case k20=>first|k_is|rfl)
  (case a21=>first|k_is|rfl)
  (case l21=>first|k_is|rfl)
  (case c21=>first|k_is|rfl)
  (case k21=>first|k_is|rfl)
  (case a22=>first|k_is|rfl)
  (case l22=>first|k_is|rfl)
  (case c22=>first|k_is|rfl)
  (case k22=>first|k_is|rfl)
  (case a23=>first|k_is|rfl)
  (case l23=>first|k_is|rfl)
  (case c23=>first|k_is|rfl)
  (case k23=>first|k_is|rfl)
  (case a24=>first|k_is|rfl)
  (case l24=>first|k_is|rfl)
  (case c24=>first|k_is|rfl)
  (case k24=>first|k_is|rfl)
  (case a25=>first|k_is|rfl)
  (case l25=>first|k_is|rfl)
  (case c25=>first|k_is|rfl)
  (case k25=>first|k_is|rfl)
  (case a26=>first|k_is|rfl)
  (case l26=>first|k_is|rfl)
  (case c26=>first|k_is|rfl)
  (case k26=>first|k_is|rfl)
  (case a27=>first|k_is|rfl)
  (case l27=>first|k_is|rfl)
  (case c27=>first|k_is|rfl)
  (case k27=>first|k_is|rfl)
  (case a28=>first|k_is|rfl)
  (case l28=>first|k_is|rfl)
  (case c28=>first|k_is|rfl)
  (case k28=>first|k_is|rfl)
  (case a29=>first|k_is|rfl)
  (case l29=>first|k_is|rfl)
  (case c29=>first|k_is|rfl)
  (case k29=>first|k_is|rfl)
  (case z_list=>first|k_is|rfl)
  (case z_str=>first|k_is|rfl)
  (case z_zip=>first|k_is|rfl)
  (case z_len=>first|k_is|rfl)
  (case z_range=>first|k_is|rfl)
  (case z_min=>first|k_is|rfl)
  (case z_max=>first|k_is|rfl)
  (case z_isinstance=>first|k_is|rfl)
  (case pg_P=>first|k_is|rfl)
  (case hdd_P=>first|k_is|rfl)
  (case po_P=>first|k_is|rfl)
  (case sa_P=>first|k_is|rfl)
  (case mk_P=>first|k_is|rfl)
  (case kc_P=>first|k_is|rfl)
  (case n_name_P=>first|k_is|rfl)
  (case n_high_P=>first|k_is|rfl)
  (case n_low_P=>first|k_is|rfl)
  (case n_room_P=>first|k_is|rfl)
  (case pg_B=>first|k_is|rfl)
  (case hdd_B=>first|k_is|rfl)
  (case po_B=>first|k_is|rfl)
  (case sa_B=>first|k_is|rfl)
  (case mk_B=>first|k_is|rfl)
  (case kc_B=>first|k_is|rfl)
  (case n_name_B=>first|k_is|rfl)
  (case n_high_B=>first|k_is|rfl)
  (case n_low_B=>first|k_is|rfl)
  (case n_room_B=>first|k_is|rfl)
  (case n_side_B=>first|k_is|rfl)
  (case pg_U=>first|k_is|rfl)
  (case hdd_U=>first|k_is|rfl)
  (case po_U=>first|k_is|rfl)
  (case sa_U=>first|k_is|rfl)
  (case mk_U=>first|k_is|rfl)
  (case kc_U=>first|k_is|rfl)
  (case n_name_U=>first|k_is|rfl)
  (case n_high_U=>first|k_is|rfl)
  (case n_low_U=>first|k_is|rfl)
  (case n_room_U=>first|k_is|rfl)
  (case n_lift_U=>first|k_is|rfl)
  (case g1=>first|k_is|rfl)
  (case g2=>first|k_is|rfl)
  (case pg_R=>first|k_is|rfl)
  (case hdd_R=>first|k_is|rfl)
  (case po_R=>first|k_is|rfl)
  (case sa_R=>first|k_is|rfl)
  (case mk_R=>first|k_is|rfl)
  (case kc_R=>first|k_is|rfl)
  (case nR_name=>first|k_is|rfl)
  (case nR_least=>first|k_is|rfl)
  (case nR_crest=>first|k_is|rfl)
  (case nR_berths=>first|k_is|rfl)
  (case nR_water=>first|k_is|rfl)
  (case nR_target=>first|k_is|rfl)
  (case pg_N=>first|k_is|rfl)
  (case hdd_N=>first|k_is|rfl)
  (case po_N=>first|k_is|rfl)
  (case sa_N=>first|k_is|rfl)
  (case mk_N=>first|k_is|rfl)
  (case kc_N=>first|k_is|rfl)
  (case nN_reaches=>first|k_is|rfl)
  (case nN_locks=>first|k_is|rfl)
  (case nN_nights=>first|k_is|rfl)
  (case gSEA=>first|k_is|rfl)
