import PyProof.Rows.All
import Wide.All
import OpenK.AllK
import Wide.FinOn
import Lean
import PyProof.EqAt
import PyProof.EqKinds
import PyProof.TupleCall
import PyProof.NeKinds
import OpenK.KOwn
import KE.KTryMore
import KE.RegKTryMore
import PyProof.NsDelKeeps
import KE.KIntText
import PySem.Challenge.RW_lockhouse_k55_too_wide
set_option Elab.async false
set_option linter.all false
set_option maxRecDepth 100000
namespace L2
open PySem PySem.Spec PyProof.Rows
abbrev jS:=Sum Int Str
def dW:jS→Value→Bool
 |.inl k,v=>Value.isInt k v
 |.inr x,v=>Value.isStrOf x v
def pE (w:World):jS→Int
 |.inl k=>hashInt k
 |.inr x=>hashStr w x
theorem vI:∀{k:jS} {v:Value},dW k v=true→(∃i t,k=Sum.inl i∧v=Value.int i t)∨(∃x t,k=Sum.inr x∧v=Value.str x t)
 |.inl i,v,h=>by
  obtain ⟨t,e⟩:=Value.isInt_shape (k:=i) (v:=v) h
  exact .inl ⟨i,t,rfl,e⟩
 |.inr x,v,h=>by
  obtain ⟨t,e⟩:=Value.isStrOf_shape (x:=x) (v:=v) h
  exact .inr ⟨x,t,rfl,e⟩
theorem nL (a b:Int):decide ((Sum.inl a:jS)=Sum.inl b)=(a == b):=by
 by_cases e:a=b
 ·subst e;simp
 ·have h:¬(Sum.inl a:jS)=Sum.inl b:=fun q=>e (Sum.inl.inj q)
  rw [decide_eq_false h]
  exact (beq_eq_false_iff_ne.mpr e).symm
theorem nI (a b:Str):decide ((Sum.inr a:jS)=Sum.inr b)=decide (a=b):=by
 by_cases e:a=b
 ·subst e;simp
 ·have h:¬(Sum.inr a:jS)=Sum.inr b:=fun q=>e (Sum.inr.inj q)
  rw [decide_eq_false h,decide_eq_false e]
theorem nK (a:Int) (b:Str):decide ((Sum.inl a:jS)=Sum.inr b)=false:=decide_eq_false (fun q=>nomatch q)
theorem nJ (a:Str) (b:Int):decide ((Sum.inr a:jS)=Sum.inl b)=false:=decide_eq_false (fun q=>nomatch q)
def Q8 (prog:Program) (w:World):PySem.KeyKind prog w jS where
 is:=dW
 hash:=pE w
 inj:=fun v a b ha hb=>by
  rcases vI ha with ⟨i,t,rfl,rfl⟩|⟨x,t,rfl,rfl⟩
  ·rcases vI hb with ⟨j,u,rfl,e⟩|⟨y,u,rfl,e⟩
   ·injection e with e1 _;rw [e1]
   ·exact nomatch e
  ·rcases vI hb with ⟨j,u,rfl,e⟩|⟨y,u,rfl,e⟩
   ·exact nomatch e
   ·injection e with e1 _;rw [e1]
 byValue:=fun k v h=>by
  rcases vI h with ⟨i,t,rfl,rfl⟩|⟨x,t,rfl,rfl⟩<;>rfl
 pyHash:=fun hv h=>by
  rcases vI hv with ⟨i,t,rfl,rfl⟩|⟨x,t,rfl,rfl⟩
  ·exact wpAny_pyHash_int h
  ·exact wpAny_pyHash_str h
 eqBool:=fun hu hv h=>by
  rcases vI hu with ⟨i,t,rfl,rfl⟩|⟨x,t,rfl,rfl⟩
  ·rcases vI hv with ⟨j,u,rfl,rfl⟩|⟨y,u,rfl,rfl⟩
   ·rw [nL] at h;exact wpAny_eqBool_int h
   ·rw [nK] at h;exact SeqAt.EqAt.int_str i t y u _ _ _ _ h
  ·rcases vI hv with ⟨j,u,rfl,rfl⟩|⟨y,u,rfl,rfl⟩
   ·rw [nJ] at h;exact SeqAt.EqAt.str_int x t j u _ _ _ _ h
   ·rw [nI] at h;exact wpAny_eqBool_str h
 «strs»:=fun k x t v h=>by
  rcases vI h with ⟨i,u,rfl,e⟩|⟨y,u,rfl,e⟩
  ·exact nomatch e
  ·injection e with e1 _
   subst e1
   cases v<;>rfl
end L2
namespace L2
open PySem PySem.Spec PyProof.Rows
inductive V where
 |non|bl (b:Bool)|int (i:Int)|str (x:Str)|byt (b:Array UInt8)|flt (b:UInt64)|ref (a:Addr)|ty (n:String)
 deriving DecidableEq
def RelV:V→Value→Prop
 |.non,u=>u=Value.none
 |.bl b,u=>u=Value.bool b
 |.int i,u=>∃t,u=Value.int i t
 |.str x,u=>∃t,u=Value.str x t
 |.byt b,u=>∃t,u=Value.bytes b t
 |.flt b,u=>∃t,u=Value.float b t
 |.ref a,u=>u=Value.ref a
 |.ty n,u=>u=Value.type n
abbrev Vals:List V→List Value→Prop:=Paired RelV
theorem Vals.length {xs:List V} {us:List Value} (r:Vals xs us):xs.length=us.length:=Paired.length r
theorem Vals.get:∀{xs:List V} {us:List Value} {i:Nat} {x:V},Vals xs us→xs[i]?=some x→∃u,us[i]?=some u∧RelV x u
 |_,_,_,_,.nil,e=>by simp at e
 |_,_,0,_,.cons r _,e=>by simp at e;subst e;exact ⟨_,rfl,r⟩
 |_,_,i+1,x,.cons _ t,e=>by
  obtain ⟨u,h1,h2⟩:=Vals.get (i:=i) (x:=x) t (by simpa using e)
  exact ⟨u,by simpa using h1,h2⟩
theorem Vals.set {x:V} {u:Value} (r:RelV x u):∀{xs:List V} {us:List Value} (i:Nat),Vals xs us→Vals (xs.set i x) (us.set i u)
 |_,_,_,.nil=>.nil
 |_,_,0,.cons _ t=>.cons r t
 |_,_,i+1,.cons q t=>.cons q (Vals.set r i t)
theorem Vals.append:∀{xs ys:List V} {us ws:List Value},Vals xs us→Vals ys ws→Vals (xs++ys) (us++ws)
 |_,_,_,_,.nil,s=>s
 |_,_,_,_,.cons r t,s=>.cons r (Vals.append t s)
theorem Vals.take:∀{xs:List V} {us:List Value} (n:Nat),Vals xs us→Vals (xs.take n) (us.take n)
 |_,_,0,_=>.nil
 |_,_,_+1,.nil=>.nil
 |_,_,n+1,.cons r t=>.cons r (Vals.take n t)
theorem Vals.drop:∀{xs:List V} {us:List Value} (n:Nat),Vals xs us→Vals (xs.drop n) (us.drop n)
 |_,_,0,r=>r
 |_,_,_+1,.nil=>.nil
 |_,_,n+1,.cons _ t=>Vals.drop n t
def RelO:Option V→Option Value→Prop
 |some v,some u=>RelV v u
 |none,none=>True
 |_,_=>False
def KV {κ:Type}:List (κ×V)→List (κ×Value)→Prop:=Paired fun (p:κ×V) (q:κ×Value)=>p.1=q.1∧RelV p.2 q.2
def kV:jS→V
 |.inl i=>.int i
 |.inr x=>.str x
inductive HO where
 /-- a list -/
 |lst (xs:List V)
 /-- a tuple (never changes) -/
 |tup (xs:List V)
 /-- a dict whose keys are ints and texts;one whose keys are tuples of ints and texts (the empty one is both) -/
 |dK (kvs:List (jS×V))|dT (kvs:List (List jS×V))
 /-- a set of ints: its members,its size -/
 |set (S:Int→Bool) (n:Nat)
 /-- an instance of the class at C,its dict at dx,its attributes -/
 |ins (C dx:Addr) (fs:List (Str×V))
 /-- the dict of the instance at x -/
 |own (x:Addr)
 /-- the dict of an exception -/
 |xd (fs:List (Str×V))
 /-- a bound method,f of x -/
 |met (f x:Addr)
 /-- a range object lo,lo+1,.. below hi -/
 |rng (lo hi:Int)
 /-- a thing that is known to the object (the script;a dict while a loop walks it): read,never written while it is so -/
 |frz (o:Obj) (u:HO)
 /-- a code object's table -/
 |tbl (ps:Array Value)
 /-- any other thing,by what is true of its one object (a def of one's own: SetO a S n:=HO.ext fun h=>..) -/
 |ext (φ:Heap→Prop)
abbrev Hp:=Addr→Option HO
def jB (H:Hp) (a:Addr) (o:HO):Hp:=fun b=>if b=a then some o else H b
theorem jE {H:Hp} {a:Addr} {o:HO}:jB H a o a=some o:=by unfold jB;rw [if_pos rfl]
theorem jC {H:Hp} {a b:Addr} {o:HO} (h:b≠a):jB H a o b=H b:=by unfold jB;rw [if_neg h]
theorem kM {H:Hp} {a b:Addr} {o:HO} (h:H a=some o) (h':H b=none):a≠b:=by
 intro e;subst e;rw [h] at h';cases h'
section
variable (P:Program) (w:World)
def ObjOk (H:Hp) (h:Heap) (a:Addr):HO→Prop
 |.lst xs=>xs.length≤sizeLine∧∃(its:List Value) (n:Nat),Vals xs its∧h.get? a=some {cls:=.type "list",data:=.seq its.toArray n}
 |.tup xs=>xs.length≤sizeLine∧∃its:List Value,Vals xs its∧IsTup h a its.toArray
 |.dK kvs=>kvs.length≤sizeLine∧(a == sysModules)=false∧∃vs,KV kvs vs∧h.DictOf (Q8 P w) a vs
 |.dT kvs=>kvs.length≤sizeLine∧(a == sysModules)=false∧∃xs:List (List jS×Addr×Value),
   Paired (fun (p:List jS×V) (q:List jS×Addr×Value)=>p.1=q.1∧H q.2.1=some (.tup (p.1.map kV))∧RelV p.2 q.2.2) kvs xs∧
   ∃o es ep,h.get? a=some o∧o.ExactDict∧o.data=.dict es ep∧es.toList=xs.map (entryOfKey (tupleKind (Q8 P w)))∧(xs.map (·.1)).Nodup
 |.set S n=>h.SetOf (intKind P w) a S n
 |.ins C dx fs=>H dx=some (.own a)∧fs.length≤1000∧dx≠a∧h.get? a=some (PySem.W.instObj C dx)∧
   ∃mA,h.Ns1 dx mA∧(∀f,RelO (fs.lookup f) (mA f))∧PySem.Within mA (fs.map (·.1))
 |.own _=>∃o,h.get? a=some o
 |.xd fs=>∃mA,h.Ns1 a mA∧∀f,RelO (fs.lookup f) (mA f)
 |.rng lo hi=>∃t u v,h.get? a=some {cls:=.type "range",data:=.fields #[.int lo t,.int hi u,.int 1 v]}
 |.frz o u=>h.get? a=some o∧ObjOk H h a u
 |.tbl ps=>h.get? a=some {cls:=.none,data:=.fields ps}
 |.met f x=>h.get? a=some (PySem.W.methodObj (.ref f) (.ref x))
 |.ext φ=>φ h∧(∃o,h.get? a=some o)∧∀h1 h2:Heap,φ h1→(∀o,h1.get? a=some o→h2.get? a=some o)→φ h2
def HOk (H:Hp) (h:Heap):Prop:=∀a o,H a=some o→ObjOk P w H h a o
end
section
variable {P:Program} {w:World} {H H':Hp} {h h':Heap} {a:Addr} {o:HO}
theorem ObjOk.lt (x:ObjOk P w H h a o):a<h.objs.size:=by
 cases o with
 |lst xs=>obtain ⟨_,_,_,_,e⟩:=x;exact Heap.lt_size e
 |tup xs=>obtain ⟨_,_,_,p⟩:=x;exact p.lt
 |dK kvs=>obtain ⟨_,_,_,_,o,_,_,e,_⟩:=x;exact Heap.lt_size e
 |dT kvs=>obtain ⟨_,_,_,_,o,_,_,e,_⟩:=x;exact Heap.lt_size e
 |set S n=>obtain ⟨o,_,_,_,e,_⟩:=x;exact Heap.lt_size e
 |ins C dx fs=>obtain ⟨_,_,_,e,_⟩:=x;exact Heap.lt_size e
 |own y=>obtain ⟨_,e⟩:=x;exact Heap.lt_size e
 |xd fs=>obtain ⟨_,⟨_,_,_,e,_⟩,_⟩:=x;exact Heap.lt_size e
 |rng lo hi=>obtain ⟨_,_,_,e⟩:=x;exact Heap.lt_size e
 |frz ob u=>obtain ⟨e,_⟩:=x;exact Heap.lt_size e
 |tbl ps=>exact Heap.lt_size (show h.get? a=some _ from x)
 |met f y=>exact Heap.lt_size (show h.get? a=some _ from x)
 |ext φ=>obtain ⟨_,⟨_,e⟩,_⟩:=x;exact Heap.lt_size e
theorem Paired.mapP {α β:Type} {F G:α→β→Prop}:∀{l₁:List α} {l₂:List β},Paired F l₁ l₂→(∀a b,F a b→G a b)→Paired G l₁ l₂
 |_,_,.nil,_=>.nil
 |_,_,.cons r t,f=>.cons (f _ _ r) (Paired.mapP t f)
theorem ObjOk.stay (x:ObjOk P w H h a o) (k:∀b u,(b=a∨H b=some (.own a))→h.get? b=some u→h'.get? b=some u)
  (ho:∀b,H b=some (.own a)→H' b=some (.own a)) (ht:∀b xs,H b=some (.tup xs)→H' b=some (.tup xs)):ObjOk P w H' h' a o:=by
 induction o with
 |lst xs=>obtain ⟨z,its,n,r,e⟩:=x;exact ⟨z,its,n,r,k _ _ (.inl rfl) e⟩
 |tup xs=>obtain ⟨z,its,r,ob,e,c⟩:=x;exact ⟨z,its,r,ob,k _ _ (.inl rfl) e,c⟩
 |dK kvs=>obtain ⟨z,y,vs,r,ob,es,ep,e,c⟩:=x;exact ⟨z,y,vs,r,ob,es,ep,k _ _ (.inl rfl) e,c⟩
 |dT kvs =>
  obtain ⟨z,y,xs,r,ob,es,ep,e,c⟩:=x
  exact ⟨z,y,xs,Paired.mapP r fun p q z=>⟨z.1,ht _ _ z.2.1,z.2.2⟩,ob,es,ep,k _ _ (.inl rfl) e,c⟩
 |set S n=>obtain ⟨ob,es,ep,t,e,c⟩:=x;exact ⟨ob,es,ep,t,k _ _ (.inl rfl) e,c⟩
 |ins C dx fs =>
  obtain ⟨d,z,ne,e,mA,⟨od,es,ep,e2,c⟩,r⟩:=x
  exact ⟨ho _ d,z,ne,k _ _ (.inl rfl) e,mA,⟨od,es,ep,k _ _ (.inr d) e2,c⟩,r⟩
 |own y=>obtain ⟨ob,e⟩:=x;exact ⟨ob,k _ _ (.inl rfl) e⟩
 |xd fs=>obtain ⟨mA,⟨od,es,ep,e,c⟩,r⟩:=x;exact ⟨mA,⟨od,es,ep,k _ _ (.inl rfl) e,c⟩,r⟩
 |rng lo hi=>obtain ⟨t,u,v,e⟩:=x;exact ⟨t,u,v,k _ _ (.inl rfl) e⟩
 |frz ob u ih=>obtain ⟨e,q⟩:=x;exact ⟨k _ _ (.inl rfl) e,ih q⟩
 |tbl ps =>
  have e:h.get? a=some {cls:=.none,data:=.fields ps}:=x
  show h'.get? a=some {cls:=.none,data:=.fields ps}
  exact k a _ (.inl rfl) e
 |met f y =>
  have e:h.get? a=some (PySem.W.methodObj (.ref f) (.ref y)):=x
  show h'.get? a=some (PySem.W.methodObj (.ref f) (.ref y))
  exact k a _ (.inl rfl) e
 |ext φ=>obtain ⟨p,⟨o,e⟩,st⟩:=x;exact ⟨st _ _ p fun o q=>k _ _ (.inl rfl) q,⟨o,k _ _ (.inl rfl) e⟩,st⟩
theorem HOk.lt (x:HOk P w H h) (e:H a=some o):a<h.objs.size:=(x a o e).lt
theorem HOk.fresh (x:HOk P w H h) (e:h.objs.size≤a):H a=none:=by
 cases q:H a with
 |none=>rfl
 |some u=>exact absurd (Nat.lt_of_lt_of_le (x.lt q) e) (Nat.lt_irrefl _)
theorem HOk.kept (x:HOk P w H h) (k:∀b u,h.get? b=some u→h'.get? b=some u):HOk P w H h':=fun a o e =>
 (x a o e).stay (fun b u _ q=>k b u q) (fun _ q=>q) fun _ _ q=>q
theorem HOk.laid (x:HOk P w H h) (k:∀b u,h.get? b=some u→h'.get? b=some u) (hp:h.objs.size≤a) (new:ObjOk P w (jB H a o) h' a o):HOk P w (jB H a o) h':=fun b u e=>by
 have hn:=x.fresh hp
 by_cases hb:b=a
 ·subst hb;rw [jE] at e;cases e;exact new
 ·rw [jC hb] at e
  exact (x b u e).stay (fun c v _ q=>k c v q) (fun c q=>by rw [jC (kM q hn)];exact q) fun c xs q=>by rw [jC (kM q hn)];exact q
end
def Rd (H:Hp) (a:Addr) (u:HO):Prop:=H a=some u∨∃o,H a=some (.frz o u)
theorem Rd.of {H:Hp} {a:Addr} {u:HO} (h:H a=some u):Rd H a u:=.inl h
theorem Rd.ok {P:Program} {w:World} {H:Hp} {h:Heap} {a:Addr} {u:HO} (r:Rd H a u) (x:HOk P w H h):ObjOk P w H h a u:=by
 rcases r with r|⟨o,r⟩
 ·exact x a u r
 ·obtain ⟨_,q⟩:=x a _ r
  exact q
def z9:Option HO→Prop
 |some (.lst _)=>True
 |some (.dK _)=>True
 |some (.dT _)=>True
 |some (.set _ _)=>True
 |some (.ins _ _ _)=>True
 |some (.ext _)=>True
 |_=>False
section
variable {P:Program} {w:World} {H:Hp} {h h':Heap} {x e:Addr} {o':HO}
theorem HOk.write (ok:HOk P w H h) (mu:z9 (H x)) (he:e=x∨H e=some (.own x)) (k:∀b u,b≠e→h.get? b=some u→h'.get? b=some u) (heo:∃u,h'.get? e=some u)
  (new:ObjOk P w (jB H x o') h' x o'):HOk P w (jB H x o') h':=fun b u q=>by
 have nown:∀c y,H c=some (.own y)→c≠x:=fun c y r z=>by subst z;rw [r] at mu;exact mu
 have ntup:∀c xs,H c=some (.tup xs)→c≠x:=fun c xs r z=>by subst z;rw [r] at mu;exact mu
 by_cases hb:b=x
 ·subst hb;rw [jE] at q;cases q;exact new
 ·rw [jC hb] at q
  by_cases hbe:b=e
  ·have q':H b=some (.own x):=by
    rcases he with z|z
    ·exact absurd (hbe.trans z) hb
    ·rw [hbe];exact z
   rw [q] at q';cases q'
   obtain ⟨v,hv⟩:=heo
   exact ⟨v,by rw [hbe];exact hv⟩
  ·refine (ok b u q).stay (fun c v hc r=>k c v ?_ r) (fun c r=>by rw [jC (nown c b r)];exact r) fun c xs r=>by rw [jC (ntup c xs r)];exact r
   rcases hc with rfl|hc
   ·exact hbe
   ·rintro rfl
    rcases he with z|z
    ·exact nown c b hc z
    ·rw [hc] at z;cases z;exact hb rfl
end
structure Un (fs ex:List Addr) (H H':Hp) (h h':Heap):Prop where
 keep:∀b o,h.get? b=some o→H b=none→b∉fs→b∉ex→h'.get? b=some o
 slot:∀b o,h.get? b=some o→H b=none→b∈fs→b∉ex→∃sl,h'.get? b=some {o with slots:=sl}
 free:∀b o,h.get? b=some o→H b=none→b∉ex→H' b=none
 there:∀b o,h.get? b=some o→b∉ex→∃o',h'.get? b=some o'
 tups:∀b xs,H b=some (.tup xs)→H' b=some (.tup xs)
 frzs:∀b o u,H b=some (.frz o u)→H' b=some (.frz o u)
 tbls:∀b ps,H b=some (.tbl ps)→∃more,H' b=some (.tbl (ps++more))
section
variable {fs fs' ex ex':List Addr} {H H1 H2:Hp} {h h1 h2 h':Heap} {a x e:Addr} {o:HO}
theorem Un.any (u:Un fs ex H H1 h h1) {b:Addr} {ob:Obj} (q:h.get? b=some ob) (n:H b=none) (hx:b∉ex):∃sl,h1.get? b=some {ob with slots:=sl}:=by
 by_cases hb:b∈fs
 ·exact u.slot b ob q n hb hx
 ·exact ⟨ob.slots,u.keep b ob q n hb hx⟩
theorem Un.trans (a:Un fs ex H H1 h h1) (b:Un fs ex H1 H2 h1 h2):Un fs ex H H2 h h2 where
 keep:=fun c ob q n hc hx=>b.keep c ob (a.keep c ob q n hc hx) (a.free c ob q n hx) hc hx
 slot:=fun c ob q n hc hx=>by
  obtain ⟨sl,e1⟩:=a.slot c ob q n hc hx
  obtain ⟨sl',e2⟩:=b.slot c _ e1 (a.free c ob q n hx) hc hx
  exact ⟨sl',e2⟩
 free:=fun c ob q n hx=>by
  obtain ⟨o',e1⟩:=a.there c ob q hx
  exact b.free c o' e1 (a.free c ob q n hx) hx
 there:=fun c ob q hx=>by
  obtain ⟨o',e1⟩:=a.there c ob q hx
  exact b.there c o' e1 hx
 tups:=fun c xs q=>b.tups c xs (a.tups c xs q)
 frzs:=fun c ob xs q=>b.frzs c ob xs (a.frzs c ob xs q)
 tbls:=fun c ps q=>by
  obtain ⟨m1,e1⟩:=a.tbls c ps q
  obtain ⟨m2,e2⟩:=b.tbls c _ e1
  exact ⟨m1++m2,by rw [e2,Array.append_assoc]⟩
theorem Un.kept (k:∀b u,h.get? b=some u→h'.get? b=some u):Un fs ex H H h h' :=
 ⟨fun b ob q _ _ _=>k b ob q,fun b ob q _ _ _=>⟨ob.slots,k b ob q⟩,fun _ _ _ n _=>n,fun b ob q _=>⟨ob,k b ob q⟩,fun _ _ q=>q,fun _ _ _ q=>q,fun _ ps q=>⟨#[],by rw [q];simp⟩⟩
theorem Un.refl:Un fs ex H H h h:=Un.kept fun _ _ q=>q
theorem Un.laid (k:∀b u,h.get? b=some u→h'.get? b=some u) (hp:h.objs.size≤a) (hn:H a=none):Un fs ex H (jB H a o) h h' where
 keep:=fun b u q _ _ _=>k b u q
 slot:=fun b u q _ _ _=>⟨u.slots,k b u q⟩
 free:=fun b u q n _=>by rw [jC (Nat.ne_of_lt (Nat.lt_of_lt_of_le (Heap.lt_size q) hp))];exact n
 there:=fun b u q _=>⟨u,k b u q⟩
 tups:=fun b xs q=>by rw [jC (kM q hn)];exact q
 frzs:=fun b u xs q=>by rw [jC (kM q hn)];exact q
 tbls:=fun b ps q=>⟨#[],by rw [jC (kM q hn),q];simp⟩
theorem Un.write (mu:z9 (H x)) (he:e=x∨H e=some (.own x)) (k:∀b u,b≠e→h.get? b=some u→h'.get? b=some u) (heo:∃u,h'.get? e=some u):Un fs ex H (jB H x o) h h':=by
 have hx:∀b,H b=none→b≠x:=fun b n z=>by subst z;rw [n] at mu;exact mu
 have hb:∀b,H b=none→b≠e:=fun b n z=>by
  subst z
  rcases he with r|r
  ·exact hx b n r
  ·rw [n] at r;cases r
 have hm:∀b u,H b=some u→¬z9 (some u)→b≠x:=fun b u q nm z=>by subst z;rw [q] at mu;exact nm mu
 refine ⟨fun b u q n _ _=>k b u (hb b n) q,fun b u q n _ _=>⟨u.slots,k b u (hb b n) q⟩,fun b u q n _=>by rw [jC (hx b n)];exact n,fun b u q _=>?_,
  fun b xs q=>by rw [jC (hm b _ q fun z=>z)];exact q,fun b u xs q=>by rw [jC (hm b _ q fun z=>z)];exact q,fun b ps q=>⟨#[],by rw [jC (hm b _ q fun z=>z),q];simp⟩⟩
 by_cases hbe:b=e
 ·subst hbe;exact heo
 ·exact ⟨u,k b u hbe q⟩
theorem Un.mono (u:Un fs ex H H1 h h1) (hs:∀b∈fs,b∈fs') (hx:∀b∈ex,b∈ex'):Un fs' ex' H H1 h h1 :=
 ⟨fun b ob q n hb he=>u.keep b ob q n (fun z=>hb (hs b z)) fun z=>he (hx b z),fun _ _ q n _ he=>u.any q n fun z=>he (hx _ z),fun b ob q n he=>u.free b ob q n fun z=>he (hx b z),fun b ob q he=>u.there b ob q fun z=>he (hx b z),u.tups,u.frzs,u.tbls⟩
end
def trk (h:Heap) (H:Hp):List Addr:=(List.range h.objs.size).filter fun a=>(H a).isSome
def qD (h:Heap) (H:Hp):Heap:=PySem.W.hideAll h (trk h H)
theorem bD (h:Heap) (H:Hp):(qD h H).objs.size=h.objs.size:=PySem.W.hideAll_size _ _
theorem zM {h:Heap} {H:Hp} {b:Addr} {o:Obj} (e:h.get? b=some o) (n:H b=none):(qD h H).get? b=some o :=
 PySem.W.hideAll_get _ e fun hm=>by
  have q:(H b).isSome=true:=(List.mem_filter.mp hm).2
  rw [n] at q;simp at q
theorem cW {h:Heap} {H:Hp} {b:Addr} {o:Obj} (e:(qD h H).get? b=some o):h.get? b=some o∧H b=none:=by
 have e':h.get? b=some o:=PySem.W.of_hideAll (trk h H) e
 refine ⟨e',?_⟩
 cases q:H b with
 |none=>rfl
 |some x =>
  have hm:b∈trk h H:=List.mem_filter.mpr ⟨List.mem_range.mpr (Heap.lt_size e'),by simp [q]⟩
  have z:(qD h H).get? b=none:=PySem.W.hideAll_none (trk h H) hm
  rw [z] at e;cases e
def mP (g h:Heap) (L:Addr):List (Addr×Obj):=(List.range h.objs.size).filterMap fun a=>if a=L∨(g.get? a).isSome=true then none else (h.get? a).map fun o=>(a,o)
def rest (g h:Heap) (L d:Addr):List (Addr×Obj):=(mP g h L).filter fun p=>decide (p.1≠d)
end L2
namespace L2
open PySem PySem.Spec PyProof.Rows
structure Mod (K:PySem.W.Frag) (mg:Str→Option Value) (base:Heap):Prop where
 kin:K.In base
 glob:base.Ns mainGlobals mg
 blt:∃mb,base.Ns builtinsNs mb∧∀x:Str,x≠"__name__"→mb x=bootBuiltins x
 nolimit:base.NoLimit
structure Cx where
 prog:Program
 w:World
 K:PySem.W.Frag
 mg:Str→Option Value
 base:Heap
 A:Around
 N:List Str
 s₀:Shared
 H₀:Hp
 env:Env
 outer:List Env
 stack:List Env
 ex:List Addr
 fn:Str→Bool
 calm:Bool
 pn:List (Addr×Obj)
 xe:Value→Shared→Prop
def jV (l:List Env):List Addr:=l.filterMap (·.frame)
abbrev Cx.fs (X:Cx):List Addr:=jV X.outer
def z7 (sc:Scope) (x:Str):Prop:=sc.names.lookup x=some .local∨sc.names.lookup x=some .cell∨sc.names.lookup x=some .free
def zA (sc:Scope) (x:Str):Prop:=sc.names.lookup x=some .local∨sc.names.lookup x=some .cell
def pL (env:Env) (h:Heap) (m:Str→Option Value) (x:Str) (u:Value):Prop :=
 (env.kindOf x=some .local∧m x=some u)∨((env.kindOf x=some .cell∨env.kindOf x=some .free)∧∃c,env.cells.lookup x=some c∧h.IsCell c (some u))
structure Cx.Ok (X:Cx):Prop where
 mod:Mod X.K X.mg X.base
 kind:X.env.scope.kind=.function
 glob:X.env.globals=mainGlobals
 blt:X.env.builtins=builtinsNs
 above:X.s₀.heap.objs.size≤X.env.locals
 inj:∀x y c,X.env.cells.lookup x=some c→X.env.cells.lookup y=some c→x=y
 has:∀x,(X.env.kindOf x=some .cell∨X.env.kindOf x=some .free)→∃c,X.env.cells.lookup x=some c
 cab:∀x c,X.fn x=true→X.env.cells.lookup x=some c→X.s₀.heap.objs.size≤c
 hd:X.calm=true→X.A.handled=none
 frames:X.A.frames=some X.stack
 stk:X.stack=X.outer∨(X.stack=X.env::X.outer∧X.env.frame=some X.env.locals)
 exf:∀b∈X.ex,b≠X.env.locals∧∀x c,X.env.cells.lookup x=some c→c≠b
 bs:∀b o,X.base.get? b=some o→X.s₀.heap.get? b=some o∧X.H₀ b=none
 bsz:X.base.objs.size≤X.s₀.heap.objs.size
 noex:∀b o,X.base.get? b=some o→b∉X.ex
 exfs:∀b∈X.ex,b∉X.fs
 funs:X.s₀.heap.FunFrames X.base X.outer
 frf:∀b∈X.fs,X.H₀ b=none
structure Inv (X:Cx) (pins:List (Addr×Obj)) (σ:List (Option V)) (H:Hp) (s:Shared):Prop where
 ok:X.Ok
 os:s.os=X.s₀.os
 bare:AllBare s.gens
 base:Un X.fs X.ex X.H₀ H X.s₀.heap s.heap
 loc:∃m,s.heap.Ns X.env.locals m∧∀(i:Nat) (x:Str) (v:V),X.N[i]?=some x→σ[i]?=some (some v)→z7 X.env.scope x→∃u,RelV v u∧pL X.env s.heap m x u
 cell:∀x c,X.env.cells.lookup x=some c→∃v,s.heap.IsCell c v
 free:H X.env.locals=none
 freeC:∀x c,X.env.cells.lookup x=some c→H c=none
 pin:∀p∈X.pn++pins,s.heap.get? p.1=some p.2∧H p.1=none∧p.1≠X.env.locals∧p.1∉X.fs∧∀v,p.2.data≠.cell v
 hok:HOk X.prog X.w H s.heap
 len:σ.length=X.N.length
section
variable {X:Cx} {pins:List (Addr×Obj)} {σ:List (Option V)} {H H':Hp} {s:Shared} {h':Heap}
theorem Cx.Ok.nofr (ok:X.Ok) {b:Addr} {o:Obj} (e:X.base.get? b=some o):b∉X.fs:=fun hb=>by
 have:=(ok.funs.mem hb).1
 rw [e] at this;cases this
theorem Inv.bs (I:Inv X pins σ H s):∀b o,X.base.get? b=some o→s.heap.get? b=some o∧H b=none:=fun b o e =>
 ⟨I.base.keep b o (I.ok.bs b o e).1 (I.ok.bs b o e).2 (I.ok.nofr e) (I.ok.noex b o e),I.base.free b o (I.ok.bs b o e).1 (I.ok.bs b o e).2 (I.ok.noex b o e)⟩
theorem Inv.bk (I:Inv X pins σ H s):∀b o,X.base.get? b=some o→s.heap.get? b=some o:=fun b o e=>(I.bs b o e).1
theorem Inv.mod (I:Inv X pins σ H s):Mod X.K X.mg X.base:=I.ok.mod
theorem Inv.kIn (I:Inv X pins σ H s):X.K.In s.heap:=I.ok.mod.kin.keeps I.bk
theorem Inv.nolimit (I:Inv X pins σ H s):s.heap.NoLimit:=I.ok.mod.nolimit.keeps I.bk
theorem Inv.fr (I:Inv X pins σ H s):∃m,Fr X.base X.env.locals s.heap m :=
 let ⟨m,hn,_⟩:=I.loc
 ⟨m,hn,I.bk,Nat.le_trans I.ok.bsz I.ok.above⟩
theorem Inv.lt (I:Inv X pins σ H s):X.env.locals<s.heap.objs.size:=let ⟨_,hn,_⟩:=I.loc;hn.lt
theorem Inv.sz (I:Inv X pins σ H s):X.s₀.heap.objs.size≤s.heap.objs.size:=Nat.le_trans I.ok.above (Nat.le_of_lt I.lt)
theorem Inv.nofs (I:Inv X pins σ H s) {a:Addr} (h:s.heap.objs.size≤a):a∉X.fs:=fun hb=>by
 obtain ⟨_,o,ho,_⟩:=I.ok.funs.mem hb
 exact absurd (Nat.lt_of_lt_of_le (Heap.lt_size ho) (Nat.le_trans I.sz h)) (Nat.lt_irrefl _)
theorem Inv.cne (I:Inv X pins σ H s):∀x c,X.env.cells.lookup x=some c→c≠X.env.locals:=fun x c e z=>by
 obtain ⟨v,o,ho,hd⟩:=I.cell x c e
 obtain ⟨m,⟨o',es,ep,ho',hd',_⟩,_⟩:=I.loc
 rw [z,ho'] at ho;cases ho;rw [hd'] at hd;cases hd
theorem Inv.funs (I:Inv X pins σ H s):s.heap.FunFrames X.base X.outer:=by
 have all:∀(l:List Env),(∀b∈jV l,b∈X.fs)→X.s₀.heap.FunFrames X.base l→s.heap.FunFrames X.base l:=by
  intro l
  induction l with
  |nil=>intro _ _;trivial
  |cons env r ih =>
   intro hs hl
   obtain ⟨hk,⟨L,o,hf,hn,ho,hd⟩,hr⟩:=hl
   have hL:L∈X.fs:=hs L (by unfold jV;rw [List.filterMap_cons,hf];exact List.mem_cons_self)
   obtain ⟨sl,e⟩:=I.base.slot L o ho (I.ok.frf L hL) hL fun z=>I.ok.exfs L z hL
   exact ⟨hk,⟨L,_,hf,hn,e,hd⟩,ih (fun b hb=>hs b (by unfold jV;rw [List.filterMap_cons,hf];exact List.mem_cons_of_mem _ hb)) hr⟩
 exact all X.outer (fun _ hb=>hb) I.ok.funs
theorem Inv.stack (I:Inv X pins σ H s):s.heap.FunFrames X.base X.stack:=by
 rcases I.ok.stk with e|⟨e,hf⟩
 ·rw [e];exact I.funs
 ·rw [e]
  obtain ⟨m,hn,_⟩:=I.loc
  refine .cons (by rw [I.ok.kind];decide) hf hn ?_ I.funs
  exact Heap.get?_none_of_le (Nat.le_trans I.ok.bsz I.ok.above)
theorem Inv.stkSub (I:Inv X pins σ H s):∀b∈jV X.stack,b∈X.env.locals::X.fs:=fun b hb=>by
 rcases I.ok.stk with e|⟨e,hf⟩
 ·rw [e] at hb;exact List.mem_cons_of_mem _ hb
 ·rw [e] at hb
  unfold jV at hb
  rw [List.filterMap_cons,hf] at hb
  exact hb
theorem Inv.stkFree (I:Inv X pins σ H s):∀b∈jV X.stack,H b=none:=fun b hb=>by
 rcases List.mem_cons.mp (I.stkSub b hb) with e|hb
 ·rw [e];exact I.free
 ·obtain ⟨_,o,ho,_⟩:=I.ok.funs.mem hb
  exact I.base.free b o ho (I.ok.frf b hb) fun z=>I.ok.exfs b z hb
theorem Inv.step {g':Array GenState} {t':Nat} {d':Drawn} {ch:List Addr} (I:Inv X pins σ H s)
  (hch:∀b∈ch,(b∈X.ex∨X.s₀.heap.objs.size≤b)∧b≠X.env.locals∧(∀x c,X.env.cells.lookup x=some c→c≠b)∧∀p∈X.pn++pins,p.1≠b)
  (keep:∀b o,b≠X.env.locals→b∉X.fs→b∉ch→s.heap.get? b=some o→H b=none→h'.get? b=some o)
  (slot:∀b o,b≠X.env.locals→b∈X.fs→b∉ch→s.heap.get? b=some o→H b=none→∃sl,h'.get? b=some {o with slots:=sl}) (free:∀b o,b∉ch→s.heap.get? b=some o→H b=none→H' b=none)
  (there:∀b o,b∉ch→s.heap.get? b=some o→∃o',h'.get? b=some o')
  (tups:∀b xs,H b=some (.tup xs)→H' b=some (.tup xs)) (frzs:∀b o u,H b=some (.frz o u)→H' b=some (.frz o u)) (tbls:∀b ps,H b=some (.tbl ps)→∃more,H' b=some (.tbl (ps++more)))
  (ns:∀m,s.heap.Ns X.env.locals m→h'.Ns X.env.locals m) (hok:HOk X.prog X.w H' h') (hg:AllBare g') :
  Inv X pins σ H' {s with heap:=h',gens:=g',drawn:=d',toks:=t'}:=by
 have neL:∀b o,X.s₀.heap.get? b=some o→b≠X.env.locals:=fun b o e=>Nat.ne_of_lt (Nat.lt_of_lt_of_le (Heap.lt_size e) I.ok.above)
 have neC:∀b o,X.s₀.heap.get? b=some o→b∉X.ex→b∉ch:=fun b o e hx hb=>by
  rcases (hch b hb).1 with z|z
  ·exact hx z
  ·exact absurd (Nat.lt_of_lt_of_le (Heap.lt_size e) z) (Nat.lt_irrefl _)
 have cellK:∀x c,X.env.cells.lookup x=some c→∀v,s.heap.IsCell c v→h'.IsCell c v:=fun x c e v ⟨o,ho,hd⟩=>by
  have nch:c∉ch:=fun z=>(hch c z).2.2.1 x c e rfl
  by_cases hc:c∈X.fs
  ·obtain ⟨sl,q⟩:=slot c o (I.cne x c e) hc nch ho (I.freeC x c e)
   exact ⟨_,q,hd⟩
  ·exact ⟨o,keep c o (I.cne x c e) hc nch ho (I.freeC x c e),hd⟩
 refine ⟨I.ok,I.os,hg,⟨fun b o e n hb hx=>?_,fun b o e n hb hx=>?_,fun b o e n hx=>?_,fun b o e hx=>?_,fun b xs e=>tups b xs (I.base.tups b xs e),fun b o xs e=>frzs b o xs (I.base.frzs b o xs e),fun b ps e=>?_⟩,?_,fun x c e=>?_,?_,fun x c e=>?_,fun p hp=>?_,hok,I.len⟩
 ·exact keep b o (neL b o e) hb (neC b o e hx) (I.base.keep b o e n hb hx) (I.base.free b o e n hx)
 ·obtain ⟨sl,e1⟩:=I.base.slot b o e n hb hx
  obtain ⟨sl',e2⟩:=slot b _ (neL b o e) hb (neC b o e hx) e1 (I.base.free b o e n hx)
  exact ⟨sl',e2⟩
 ·obtain ⟨o',e1⟩:=I.base.there b o e hx
  exact free b o' (neC b o e hx) e1 (I.base.free b o e n hx)
 ·obtain ⟨o',e1⟩:=I.base.there b o e hx
  exact there b o' (neC b o e hx) e1
 ·obtain ⟨m1,e1⟩:=I.base.tbls b ps e
  obtain ⟨m2,e2⟩:=tbls b _ e1
  exact ⟨m1++m2,by rw [e2,Array.append_assoc]⟩
 ·obtain ⟨m,hn,hl⟩:=I.loc
  refine ⟨m,ns m hn,fun i x v e1 e2 e3=>?_⟩
  obtain ⟨u,r,l⟩:=hl i x v e1 e2 e3
  refine ⟨u,r,?_⟩
  rcases l with l|⟨k,c,e,z⟩
  ·exact .inl l
  ·exact .inr ⟨k,c,e,cellK x c e _ z⟩
 ·obtain ⟨v,z⟩:=I.cell x c e
  exact ⟨v,cellK x c e v z⟩
 ·obtain ⟨m,⟨o,_,_,ho,_⟩,_⟩:=I.loc
  exact free _ o (fun z=>(hch _ z).2.1 rfl) ho I.free
 ·obtain ⟨v,o,ho,hd⟩:=I.cell x c e
  exact free c o (fun z=>(hch c z).2.2.1 x c e rfl) ho (I.freeC x c e)
 ·obtain ⟨e,n,ne,nf,d⟩:=I.pin p hp
  have nch:p.1∉ch:=fun z=>(hch p.1 z).2.2.2 p hp rfl
  exact ⟨keep p.1 p.2 ne nf nch e n,free p.1 p.2 nch e n,ne,nf,d⟩
theorem Inv.un {t':Nat} (I:Inv X pins σ H s) (u:Un X.fs [] H H' s.heap h') (hok:HOk X.prog X.w H' h'):Inv X pins σ H' {s with heap:=h',toks:=t'}:=by
  obtain ⟨m,⟨o,es,ep,ho,r⟩,_⟩:=id I.loc
  obtain ⟨sl,hL⟩:=u.any ho I.free (by simp)
  exact I.step (g':=s.gens) (d':=s.drawn) (ch:=[]) (fun _ z=>nomatch z) (fun b o _ hb _ e n=>u.keep b o e n hb (by simp)) (fun b o _ hb _ e n=>u.slot b o e n hb (by simp)) (fun b o _ e n=>u.free b o e n (by simp)) (fun b o _ e=>u.there b o e (by simp)) u.tups u.frzs u.tbls (fun m' hm=>by
    obtain ⟨o',es',ep',ho',r'⟩:=hm
    rw [ho] at ho';cases ho'
    exact ⟨_,es',ep',hL,r'⟩) hok I.bare
theorem Inv.call {g':Array GenState} {t':Nat} {d':Drawn} {ch:List Addr} (I:Inv X pins σ H s) (u:Un (jV X.stack) ch H H' s.heap h') (hok:HOk X.prog X.w H' h') (hg:AllBare g')
  (hch:∀b∈ch,(b∈X.ex∨X.s₀.heap.objs.size≤b)∧b≠X.env.locals∧(∀x c,X.env.cells.lookup x=some c→c≠b)∧∀p∈X.pn++pins,p.1≠b) :
  Inv X pins σ H' {s with heap:=h',gens:=g',drawn:=d',toks:=t'}:=by
 obtain ⟨m,⟨o,es,ep,ho,r⟩,_⟩:=id I.loc
 obtain ⟨sl,hL⟩:=u.any ho I.free fun z=>(hch _ z).2.1 rfl
 exact I.step (ch:=ch) hch (fun b o hL hb hc e n=>u.keep b o e n (fun z=>(List.mem_cons.mp (I.stkSub b z)).elim hL hb) hc) (fun b o _ _ hc e n=>u.any e n hc) (fun b o hc e n=>u.free b o e n hc) (fun b o hc e=>u.there b o e hc) u.tups u.frzs u.tbls (fun m' hm=>by
  obtain ⟨o',es',ep',ho',r'⟩:=hm
  rw [ho] at ho';cases ho'
  exact ⟨_,es',ep',hL,r'⟩) hok hg
theorem Inv.turned {t':Nat} {it:Addr} (I:Inv X pins σ H s) (k:∀b o,b≠it→s.heap.get? b=some o→h'.get? b=some o) (hn:H it=none) (hL:it≠X.env.locals)
    (h1:it∈X.ex∨X.s₀.heap.objs.size≤it) (h2:∀x c,X.env.cells.lookup x=some c→c≠it) (h3:∀p∈X.pn++pins,p.1≠it):Inv X pins σ H {s with heap:=h',toks:=t'}:=by
  have nit:∀b u,H b=some u→b≠it:=fun b u e z=>by rw [z,hn] at e;cases e
  refine I.step (g':=s.gens) (d':=s.drawn) (ch:=[it]) (fun b hb=>?_) (fun b o _ _ hc e _=>k b o (fun z=>hc (by simp [z])) e) (fun b o _ _ hc e _=>⟨o.slots,k b o (fun z=>hc (by simp [z])) e⟩) (fun _ _ _ _ n=>n)
    (fun b o hc e=>⟨o,k b o (fun z=>hc (by simp [z])) e⟩) (fun _ _ e=>e) (fun _ _ _ e=>e) (fun b ps e=>⟨#[],by rw [e];simp⟩) (fun m hm=>?_) (fun b u e=>?_) I.bare
  · have e:b=it:=by simpa using hb
    subst e
    exact ⟨h1,hL,h2,h3⟩
  · obtain ⟨o,es,ep,ho,r⟩:=hm
    exact ⟨o,es,ep,k _ o (Ne.symm hL) ho,r⟩
  · refine (I.hok b u e).stay (fun c v hc q=>k c v ?_ q) (fun _ q=>q) fun _ _ q=>q
    rcases hc with z|z
    · rw [z];exact nit b u e
    · exact nit c _ z
theorem Inv.tok (I:Inv X pins σ H s) (t:Nat):Inv X pins σ H {s with toks:=t}:=I.un (h':=s.heap) (t':=t) Un.refl I.hok
theorem Inv.kept {t':Nat} (I:Inv X pins σ H s) (k:∀b u,s.heap.get? b=some u→h'.get? b=some u):Inv X pins σ H {s with heap:=h',toks:=t'}:=I.un (Un.kept k) (I.hok.kept k)
theorem Inv.laid {a:Addr} {o:HO} {t':Nat} (I:Inv X pins σ H s) (k:∀b u,s.heap.get? b=some u→h'.get? b=some u) (hp:s.heap.objs.size≤a) (new:ObjOk X.prog X.w (jB H a o) h' a o) :
  Inv X pins σ (jB H a o) {s with heap:=h',toks:=t'}:=I.un (Un.laid k hp (I.hok.fresh hp)) (I.hok.laid k hp new)
theorem Inv.write {x e:Addr} {o:HO} {t':Nat} (I:Inv X pins σ H s) (mu:z9 (H x)) (he:e=x∨H e=some (.own x)) (k:∀b u,b≠e→s.heap.get? b=some u→h'.get? b=some u) (heo:∃u,h'.get? e=some u)
  (new:ObjOk X.prog X.w (jB H x o) h' x o):Inv X pins σ (jB H x o) {s with heap:=h',toks:=t'}:=I.un (Un.write mu he k heo) (I.hok.write mu he k heo new)
theorem Inv.pins_of {pins':List (Addr×Obj)} (I:Inv X pins σ H s) (h:∀p∈pins',s.heap.get? p.1=some p.2∧H p.1=none∧p.1≠X.env.locals∧p.1∉X.fs∧∀v,p.2.data≠.cell v):Inv X pins' σ H s :=
 ⟨I.ok,I.os,I.bare,I.base,I.loc,I.cell,I.free,I.freeC,fun p hp=>(List.mem_append.mp hp).elim (fun z=>I.pin p (List.mem_append_left _ z)) (h p),I.hok,I.len⟩
theorem Q2 {N:List Str} (hN:N.Nodup) {i j:Nat} {x:Str} (a:N[i]?=some x) (b:N[j]?=some x):i=j:=by
 obtain ⟨h1,e1⟩:=List.getElem?_eq_some_iff.mp a
 obtain ⟨h2,e2⟩:=List.getElem?_eq_some_iff.mp b
 exact (List.getElem_inj hN).mp (e1.trans e2.symm)
theorem Z5 {M:Model} {A:Around} {E:Value→Shared→Prop} {i:Nat} {x:Str} {v:V} {u:Value} {Q:Unit→Shared→Prop} (I:Inv X pins σ H s) (hN:X.N.Nodup) (hi:X.N[i]?=some x) (hx:zA X.env.scope x) (r:RelV v u)
  (h:∀s',Inv X pins (σ.set i (some v)) H s'→(∃a,Heap.SameBut a s.heap s'.heap∧(a=X.env.locals∨X.env.cells.lookup x=some a))→Q () s') (hf:X.fn x=true∨X.env.scope.names.lookup x=some .local:=by first|exact .inl rfl|exact .inr rfl|assumption):wpAny M A (storeName X.env x u) Q E s:=by
 obtain ⟨m,hn,hl⟩:=id I.loc
 have hcls:(X.env.scope.kind == .class||(X.env.scope.kind == .module&&X.env.locals != X.env.globals))=false:=by rw [I.ok.kind];rfl
 have hiσ:i<σ.length:=by rw [I.len];exact (List.getElem?_eq_some_iff.mp hi).1
 have cne:=I.cne
 have tracked:∀{a:Addr} {h':Heap},(∃o,s.heap.get? a=some o∧H a=none)→Heap.SameBut a s.heap h'→HOk X.prog X.w H h':=fun {a h'} ha hs b ob e=>by
  obtain ⟨_,_,hfree⟩:=ha
  refine (I.hok b ob e).stay (fun c w' hc q=>(hs.2 c ?_).trans q) (fun _ q=>q) fun _ _ q=>q
  rintro rfl
  rcases hc with rfl|hc
  ·rw [hfree] at e;cases e
  ·rw [hfree] at hc;cases hc
 rcases hx with hk|hk
 ·refine wpAny_storeName_local hk hn (fun h' hn' hs=>?_) hcls
  obtain ⟨oL,_,_,hoL,_⟩:=id hn
  refine h _ ⟨I.ok,I.os,I.bare,⟨fun b o e n hb hx=>?_,fun b o e n hb hx=>?_,I.base.free,fun b o e hx=>?_,I.base.tups,I.base.frzs,I.base.tbls⟩,⟨_,hn',fun j y v' e1 e2 e3=>?_⟩,fun y c e=>?_,I.free,I.freeC,fun p hp=>?_,tracked ⟨oL,hoL,I.free⟩ hs,by simpa using I.len⟩ ⟨_,hs,.inl rfl⟩
  ·exact (hs.2 b (Nat.ne_of_lt (Nat.lt_of_lt_of_le (Heap.lt_size e) I.ok.above))).trans (I.base.keep b o e n hb hx)
  ·obtain ⟨sl,e1⟩:=I.base.slot b o e n hb hx
   exact ⟨sl,(hs.2 b (Nat.ne_of_lt (Nat.lt_of_lt_of_le (Heap.lt_size e) I.ok.above))).trans e1⟩
  ·obtain ⟨o',e1⟩:=I.base.there b o e hx
   exact ⟨o',(hs.2 b (Nat.ne_of_lt (Nat.lt_of_lt_of_le (Heap.lt_size e) I.ok.above))).trans e1⟩
  ·by_cases hj:j=i
   ·subst hj
    rw [hi] at e1;cases e1
    rw [List.getElem?_set_self hiσ] at e2
    cases e2
    exact ⟨u,r,.inl ⟨hk,by simp⟩⟩
   ·rw [List.getElem?_set_ne (Ne.symm hj)] at e2
    obtain ⟨u',r',q⟩:=hl j y v' e1 e2 e3
    refine ⟨u',r',?_⟩
    rcases q with ⟨k,e⟩|⟨k,c,e,z⟩
    ·refine .inl ⟨k,?_⟩
     have:y≠x:=fun e=>hj (Q2 hN e1 (e▸hi))
     simp [this,e]
    ·exact .inr ⟨k,c,e,z.sameBut hs (cne y c e)⟩
  ·obtain ⟨w',z⟩:=I.cell y c e
   exact ⟨w',z.sameBut hs (cne y c e)⟩
  ·obtain ⟨e,n,ne,nf,d⟩:=I.pin p hp
   exact ⟨(hs.2 p.1 ne).trans e,n,ne,nf,d⟩
 ·have hfn:X.fn x=true:=by
   rcases hf with z|z
   ·exact z
   ·rw [z] at hk;cases hk
  obtain ⟨c,hc⟩:=I.ok.has x (.inl hk)
  obtain ⟨w',z⟩:=I.cell x c hc
  refine wpAny_storeName_cell I.ok.kind hk hc z (fun h' hc' hs=>?_)
  obtain ⟨oc,hoc,hocd⟩:=id z
  refine h {s with heap:=h'} ⟨I.ok,I.os,I.bare,⟨fun b o e n hb hx=>?_,fun b o e n hb hx=>?_,I.base.free,fun b o e hx=>?_,I.base.tups,I.base.frzs,I.base.tbls⟩,⟨m,hn.sameBut hs (Ne.symm (cne x c hc)),fun j y v' e1 e2 e3=>?_⟩,fun y c' e=>?_,I.free,I.freeC,fun p hp=>?_,tracked ⟨oc,hoc,I.freeC x c hc⟩ hs,by simpa using I.len⟩ ⟨c,hs,.inr hc⟩
  ·exact (hs.2 b (Nat.ne_of_lt (Nat.lt_of_lt_of_le (Heap.lt_size e) (I.ok.cab x c hfn hc)))).trans (I.base.keep b o e n hb hx)
  ·obtain ⟨sl,e1⟩:=I.base.slot b o e n hb hx
   exact ⟨sl,(hs.2 b (Nat.ne_of_lt (Nat.lt_of_lt_of_le (Heap.lt_size e) (I.ok.cab x c hfn hc)))).trans e1⟩
  ·obtain ⟨o',e1⟩:=I.base.there b o e hx
   exact ⟨o',(hs.2 b (Nat.ne_of_lt (Nat.lt_of_lt_of_le (Heap.lt_size e) (I.ok.cab x c hfn hc)))).trans e1⟩
  ·by_cases hj:j=i
   ·subst hj
    rw [hi] at e1;cases e1
    rw [List.getElem?_set_self hiσ] at e2
    cases e2
    exact ⟨u,r,.inr ⟨.inl hk,c,hc,hc'⟩⟩
   ·rw [List.getElem?_set_ne (Ne.symm hj)] at e2
    obtain ⟨u',r',q⟩:=hl j y v' e1 e2 e3
    refine ⟨u',r',?_⟩
    rcases q with q|⟨k,c',e,z'⟩
    ·exact .inl q
    ·refine .inr ⟨k,c',e,z'.sameBut hs ?_⟩
     rintro rfl
     exact hj (Q2 hN e1 (I.ok.inj _ _ _ e hc▸hi))
  ·by_cases hcc:c'=c
   ·subst hcc;exact ⟨_,hc'⟩
   ·obtain ⟨w2,z2⟩:=I.cell y c' e
    exact ⟨w2,z2.sameBut hs hcc⟩
  ·obtain ⟨e,n,ne,nf,d⟩:=I.pin p hp
   refine ⟨(hs.2 p.1 ?_).trans e,n,ne,nf,d⟩
   intro q
   rw [q,hoc] at e
   have q':oc=p.2:=Option.some.inj e
   exact d w' (by rw [← q'];exact hocd)
theorem JR {M:Model} {A:Around} {E:Value→Shared→Prop} {i:Nat} {x:Str} {v:V} {u:Value} {Q:Unit→Shared→Prop} (I:Inv X pins σ H s) (hN:X.N.Nodup) (hi:X.N[i]?=some x) (hx:zA X.env.scope x) (r:RelV v u)
  (h:∀s',Inv X pins (σ.set i (some v)) H s'→Q () s') (hf:X.fn x=true∨X.env.scope.names.lookup x=some .local:=by first|exact .inl rfl|exact .inr rfl|assumption):wpAny M A (storeName X.env x u) Q E s :=
 Z5 I hN hi hx r (fun s' I' _=>h s' I') hf
theorem Inv.call' {s':Shared} {ch:List Addr} (I:Inv X pins σ H s) (ho:s'.os=s.os) (u:Un (jV X.stack) ch H H' s.heap s'.heap) (hok:HOk X.prog X.w H' s'.heap) (hg:AllBare s'.gens)
  (hch:∀b∈ch,(b∈X.ex∨X.s₀.heap.objs.size≤b)∧b≠X.env.locals∧(∀x c,X.env.cells.lookup x=some c→c≠b)∧∀p∈X.pn++pins,p.1≠b):Inv X pins σ H' s':=by
 obtain ⟨h',g',d',t',o'⟩:=s'
 have e:o'=s.os:=ho
 subst e
 exact I.call (g':=g') (t':=t') (d':=d') u hok hg hch
end
abbrev XK:=Value→Option Addr→Hp→Prop
abbrev St:=List (Option V)
abbrev VK:=V→Hp→Prop
abbrev TE:=St→Hp→VK→Prop
abbrev TT:=St→Hp→(Bool→Hp→Prop)→Prop
abbrev TA:=St→Hp→(List V→Hp→Prop)→Prop
structure Ends where
 nx:St→Hp→Prop
 rt:VK
 bk:St→Hp→Prop:=fun _ _=>False
 ct:St→Hp→Prop:=fun _ _=>False
abbrev TS:=Ends→St→Hp→Prop
def EP (X:Cx) (pins:List (Addr×Obj)) (σ:St) (Q:VK) (u:Value) (s':Shared):Prop:=∃v H',Inv X pins σ H' s'∧RelV v u∧Q v H'
def TP (X:Cx) (pins:List (Addr×Obj)) (σ:St) (Q:Bool→Hp→Prop) (b:Bool) (s':Shared):Prop:=∃H',Inv X pins σ H' s'∧Q b H'
def AP (X:Cx) (pins:List (Addr×Obj)) (σ:St) (Q:List V→Hp→Prop) (us:List Value) (s':Shared):Prop:=∃vs H',Inv X pins σ H' s'∧Vals vs us∧Q vs H'
def SP (X:Cx) (pins:List (Addr×Obj)) (D:Ends) (f:Flow) (s':Shared):Prop :=
 match f with
 |.next=>∃σ' H',Inv X pins σ' H' s'∧D.nx σ' H'
 |.brk=>∃σ' H',Inv X pins σ' H' s'∧D.bk σ' H'
 |.cont=>∃σ' H',Inv X pins σ' H' s'∧D.ct σ' H'
 |.ret u=>∃v σ' H',Inv X pins σ' H' s'∧RelV v u∧D.rt v H'
def PE (X:Cx) (e:Expr) (t:TE):Prop :=
 ∀(pins:List (Addr×Obj)) (s:Shared) (σ:St) (H:Hp) (Q:VK),Inv X pins σ H s→t σ H Q→wpAny (model X.prog X.w) X.A (eval e X.env) (EP X pins σ Q) X.xe s
def PT (X:Cx) (e:Expr) (t:TT):Prop :=
 ∀(pins:List (Addr×Obj)) (s:Shared) (σ:St) (H:Hp) (Q:Bool→Hp→Prop),Inv X pins σ H s→t σ H Q→wpAny (model X.prog X.w) X.A (isTrue e X.env (eval e X.env)) (TP X pins σ Q) X.xe s
def PW (X:Cx) (e:Expr) (t:TT):Prop :=
 ∀(whole:Sem Value) (pins:List (Addr×Obj)) (s:Shared) (σ:St) (H:Hp) (Q:Bool→Hp→Prop),Inv X pins σ H s→t σ H Q→wpAny (model X.prog X.w) X.A (isTrue e X.env whole) (TP X pins σ Q) X.xe s
theorem PW.pt {X:Cx} {e:Expr} {t:TT} (h:PW X e t):PT X e t:=h _
def PA (X:Cx) (es:List Expr) (t:TA):Prop :=
 ∀(pos:Pos) (pins:List (Addr×Obj)) (s:Shared) (σ:St) (H:Hp) (Q:List V→Hp→Prop),Inv X pins σ H s→t σ H Q→wpAny (model X.prog X.w) X.A (spliced (backTo pos (starEach es X.env))) (AP X pins σ Q) X.xe s
def PS (X:Cx) (st:Stmt) (t:TS):Prop :=
 ∀(pins:List (Addr×Obj)) (s:Shared) (σ:St) (H:Hp) (D:Ends),Inv X pins σ H s→t D σ H→wpAny (model X.prog X.w) X.A (exec st X.env) (SP X pins D) X.xe s
def PSs (X:Cx) (st:List Stmt) (t:TS):Prop :=
 ∀(pins:List (Addr×Obj)) (s:Shared) (σ:St) (H:Hp) (D:Ends),Inv X pins σ H s→t D σ H→wpAny (model X.prog X.w) X.A (execs st X.env) (SP X pins D) X.xe s
theorem jI {α:Type} {t:Sem α} {Q Q':α→Shared→Prop} {M:Model} {A:Around} {E:Value→Shared→Prop} {s:Shared} (h:wpAny M A t Q E s) (hQ:∀a s,Q a s→Q' a s):wpAny M A t Q' E s:=wpAny_mono h hQ fun _ _ x=>x
end L2
namespace L2
open PySem PySem.Spec PyProof.Rows
section
variable {X:Cx}
def d7 (i:Nat):TE:=fun σ H Q=>∃v,σ[i]?=some (some v)∧Q v H
def tC (v:V):TE:=fun _ H Q=>Q v H
theorem dF {i:Nat} {x:Str} {pos:Pos} (hN:X.N[i]?=some x) (hv:z7 X.env.scope x) (hd:(x == ("__debug__":Str))=false:=by decide) (hcd:(x == ("__classdict__":Str))=false:=by decide):PE X (.Name x pos) (d7 i):=by
 intro pins s σ H Q I h
 obtain ⟨v,e,h⟩:=h
 obtain ⟨m,hn,hl⟩:=I.loc
 obtain ⟨u,r,l⟩:=hl i x v hN e hv
 have fin:EP X pins σ Q u s:=⟨v,H,I,r,h⟩
 rcases l with ⟨hk,hm⟩|⟨hk,c,hc,hcell⟩
 ·exact wpAny_Name (wpAny_loadName_local I.ok.kind hk hn hm fin) hd
 ·rcases hk with hk|hk
  ·exact wpAny_Name (wpAny_loadName_cell I.ok.kind hk hc hcell fin) hd
  ·exact wpAny_Name (wpAny_loadName_free I.ok.kind hk hc hcell fin hcd) hd
theorem jG {i j pos}:PE X (.Constant (.int i) j pos) (tC (.int i)):=fun _ _ _ H _ I h=>wpAny_Constant_int ⟨.int i,H,I.tok _,⟨_,rfl⟩,h⟩
theorem qV {b j pos}:PE X (.Constant (.bool b) j pos) (tC (.bl b)):=fun _ _ _ H _ I h=>Constant_bool ⟨.bl b,H,I,rfl,h⟩
theorem dG {j pos}:PE X (.Constant .none j pos) (tC .non):=fun _ _ _ H _ I h=>Constant_none ⟨.non,H,I,rfl,h⟩
theorem qL {x j pos}:PE X (.Constant (.str x) j pos) (tC (.str x)):=fun _ _ _ H _ I h=>Calls.Constant_str ⟨.str x,H,I.tok _,⟨_,rfl⟩,h⟩
def Gl (X:Cx) (x:Str):Prop:=X.env.kindOf x=some .globalImplicit
theorem yY {E:Value→Shared→Prop} {pins:List (Addr×Obj)} {s:Shared} {σ:St} {H:Hp} {x:Str} {u:Value} {pos:Pos} {Q:Value→Shared→Prop} (I:Inv X pins σ H s) (hg:Gl X x) (hm:X.mg x=some u) (h:Q u s)
  (hd:(x == ("__debug__":Str))=false:=by decide):wpAny (model X.prog X.w) X.A (eval (.Name x pos) X.env) Q E s :=
 Calls.Name_function_global I.ok.kind hg (Calls.loadGlobal_global (by rw [I.ok.glob];exact I.mod.glob.keeps I.bk) hm h) hd
theorem y6 {E:Value→Shared→Prop} {pins:List (Addr×Obj)} {s:Shared} {σ:St} {H:Hp} {x:Str} {u:Value} {pos:Pos} {Q:Value→Shared→Prop} (I:Inv X pins σ H s) (hg:Gl X x) (hm:X.mg x=none) (hv:bootBuiltins x=some u) (h:Q u s)
  (hn:x≠"__name__":=by decide) (hd:(x == ("__debug__":Str))=false:=by decide):wpAny (model X.prog X.w) X.A (eval (.Name x pos) X.env) Q E s:=by
 obtain ⟨mb,h1,h2⟩:=I.mod.blt
 exact Calls.Name_function_global I.ok.kind hg (Calls.loadGlobal_builtin (by rw [I.ok.glob];exact I.mod.glob.keeps I.bk) hm (by rw [I.ok.blt];exact h1.keeps I.bk) ((h2 x hn).trans hv) h) hd
theorem yX {x:Str} {v:V} {u:Value} {pos:Pos} (hg:Gl X x) (hm:X.mg x=some u) (r:RelV v u) (hd:(x == ("__debug__":Str))=false:=by decide):PE X (.Name x pos) (tC v) :=
 fun _ _ _ H _ I h=>yY I hg hm ⟨v,H,I,r,h⟩ hd
theorem lU {x:Str} {v:V} {u:Value} {pos:Pos} (hg:Gl X x) (hm:X.mg x=none) (hv:bootBuiltins x=some u) (r:RelV v u) (hn:x≠"__name__":=by decide) (hd:(x == ("__debug__":Str))=false:=by decide):PE X (.Name x pos) (tC v) :=
 fun _ _ _ H _ I h=>y6 I hg hm hv ⟨v,H,I,r,h⟩ hn hd
variable {a b:Expr} {ta tb:TE} {pos:Pos}
def PC (X:Cx) (op:CmpOp) (a b:Expr) (t:TE):Prop :=
 ∀(pins:List (Addr×Obj)) (s:Shared) (σ:St) (H:Hp) (Q:VK),Inv X pins σ H s→t σ H Q→
  wpAny (model X.prog X.w) X.A (eval a X.env) (fun v s₁=>wpAny (model X.prog X.w) X.A (eval b X.env) (fun u s₂=>wpAny (model X.prog X.w) X.A (compareOp op v u) (EP X pins σ Q) X.xe s₂) X.xe s₁) X.xe s
theorem i3 (b:Expr) {op:CmpOp} (h:op≠.In) (h2:op≠.NotIn):behindInMarks op b=false:=by
 have e1:(op == CmpOp.In)=false:=by cases op<;>first|rfl|exact absurd rfl h
 have e2:(op == CmpOp.NotIn)=false:=by cases op<;>first|rfl|exact absurd rfl h2
 cases b<;>simp [behindInMarks,e1,e2]
def tB (t:TE):TT:=fun σ H Q=>t σ H fun x H1=>∃c,x=.bl c∧Q c H1
theorem dE {op:CmpOp} {t:TE} (h:PC X op a b t) (h1:behindInMarks op b=false:=by first|exact i3 _ (by decide) (by decide)|rfl):PT X (.Compare a [op] [b] pos) (tB t):=by
 intro pins s σ H Q I hw
 refine wpAny_isTrue_Compare1 (jI (h pins s σ H _ I hw) fun v s1 h1=>jI h1 fun u s2 h2=>jI h2 fun c s3 ⟨x,H1,I1,r1,q1⟩=>?_) h1
 obtain ⟨d,rfl,q⟩:=q1
 cases r1
 exact wpAny_truthy_bool ⟨H1,I1,q⟩
theorem QA {e:Expr} {t:TE} (h:PE X e t) (he:∀whole,isTrue e X.env whole=(do let v ← whole;standAt e.pos;holding [v] (truthy v)):=by intro _;rfl):PT X e (tB t):=by
 intro pins s σ H Q I hw
 refine isTrue_plain (jI (h pins s σ H _ I hw) fun v s1 ⟨x,H1,I1,r1,q1⟩=>?_) (he _)
 obtain ⟨d,rfl,q⟩:=q1
 cases r1
 exact wpAny_truthy_bool ⟨H1,I1,q⟩
variable {tA tB':TT} {rest:List Expr}
def pR (t u:TT):TT:=fun σ H Q=>t σ H fun c H1=>if c=true then Q true H1 else u σ H1 Q
def oW (t:TT):TT:=fun σ H Q=>t σ H fun c H1=>Q (!c) H1
theorem m7 (ha:PT X a tA):PW X (.BoolOp .Or [a] pos) tA:=by
 intro wh pins s σ H Q I h
 refine isTrue_or (jI (ha pins s σ H Q I h) fun c s1 e=>?_)
 cases c with
 |false=>exact isTrue_or_nil e
 |true=>exact e
theorem oC (ha:PT X a tA) (hb:PW X (.BoolOp .Or (b::rest) pos) tB'):PW X (.BoolOp .Or (a::b::rest) pos) (pR tA tB'):=by
 intro wh pins s σ H Q I h
 refine isTrue_or (jI (ha pins s σ H _ I h) fun c s1 ⟨H1,I1,q1⟩=>?_)
 cases c with
 |true=>exact ⟨H1,I1,q1⟩
 |false=>exact hb wh pins s1 σ H1 Q I1 q1
theorem m8 (ha:PT X a tA):PT X (.UnaryOp .Not a pos) (oW tA):=by
 intro pins s σ H Q I h
 exact isTrue_not (ha pins s σ H (fun c H1=>Q (!c) H1) I h)
def n6 (ta tb:TE):TE:=fun σ H Q=>ta σ H fun x H1=>∃c,x=.bl c∧if c=true then tb σ H1 Q else Q (.bl false) H1
def oV (ta tb:TE):TE:=fun σ H Q=>ta σ H fun x H1=>∃c,x=.bl c∧if c=true then Q (.bl true) H1 else tb σ H1 Q
theorem zV {op} {t:TE} (h:PE X a t):PE X (.BoolOp op [a] pos) t:=fun pins s σ H Q I hw=>BoolOp_one (h pins s σ H Q I hw)
theorem ZE (ha:PE X a ta) (hb:PE X (.BoolOp .And (b::rest) pos) tb):PE X (.BoolOp .And (a::b::rest) pos) (n6 ta tb):=by
 intro pins s σ H Q I h
 refine BoolOp_and (jI (ha pins s σ H _ I h) fun v s1 ⟨x,H1,I1,r1,q1⟩=>?_)
 obtain ⟨c,rfl,q1⟩:=q1
 cases r1
 refine wpAny_truthy_bool ?_
 cases c with
 |true=>exact hb pins s1 σ H1 Q I1 q1
 |false=>exact ⟨.bl false,H1,I1,rfl,q1⟩
theorem dU (ha:PE X a ta) (hb:PE X (.BoolOp .Or (b::rest) pos) tb):PE X (.BoolOp .Or (a::b::rest) pos) (oV ta tb):=by
 intro pins s σ H Q I h
 refine BoolOp_or (jI (ha pins s σ H _ I h) fun v s1 ⟨x,H1,I1,r1,q1⟩=>?_)
 obtain ⟨c,rfl,q1⟩:=q1
 cases r1
 refine wpAny_truthy_bool ?_
 cases c with
 |false=>exact hb pins s1 σ H1 Q I1 q1
 |true=>exact ⟨.bl true,H1,I1,rfl,q1⟩
end
end L2
namespace L2
open PySem PySem.Spec PyProof.Rows
def SqL (K:PySem.W.Frag) (H:Hp) (a:Addr) (xs:List V):Prop :=
 Rd H a (.lst xs)∨
  ∃(o:Obj) (its:Array Value) (n:Nat),K.lookup a=some o∧o.cls=.type "list"∧o.dict=none∧o.data=.seq its n∧its.size≤sizeLine∧Vals xs its.toList
def SqT (K:PySem.W.Frag) (H:Hp) (a:Addr) (xs:List V):Prop :=
 Rd H a (.tup xs)∨
  ∃(o:Obj) (its:Array Value) (n:Nat),K.lookup a=some o∧o.cls=.type "tuple"∧o.data=.seq its n∧its.size≤sizeLine∧Vals xs its.toList
def pI:Value→Option V
 |.none=>some .non
 |.bool b=>some (.bl b)
 |.int i _=>some (.int i)
 |.str x _=>some (.str x)
 |.bytes b _=>some (.byt b)
 |.float b _=>some (.flt b)
 |.ref a=>some (.ref a)
 |.type n=>some (.ty n)
 |_=>none
theorem RelV.abs {x:V} {u:Value} (r:RelV x u):pI u=some x:=by
 cases x with
 |non=>cases r;rfl
 |bl _=>cases r;rfl
 |int _=>obtain ⟨t,rfl⟩:=r;rfl
 |str _=>obtain ⟨t,rfl⟩:=r;rfl
 |byt _=>obtain ⟨t,rfl⟩:=r;rfl
 |flt _=>obtain ⟨t,rfl⟩:=r;rfl
 |ref _=>cases r;rfl
 |ty _=>cases r;rfl
theorem RelV.inj {x y:V} {u:Value} (r:RelV x u) (q:RelV y u):x=y:=Option.some.inj (r.abs.symm.trans q.abs)
theorem Vals.inj:∀{xs ys:List V} {us:List Value},Vals xs us→Vals ys us→xs=ys
 |_,_,_,.nil,.nil=>rfl
 |_,_,_,.cons r t,.cons r' t'=>by rw [r.inj r',Vals.inj t t']
section
variable {X:Cx} {pins:List (Addr×Obj)} {σ:St} {H:Hp} {s:Shared} {a:Addr} {xs ys:List V}
theorem SqL.of {K:PySem.W.Frag} (h:H a=some (.lst xs)):SqL K H a xs:=.inl (.inl h)
theorem SqT.of {K:PySem.W.Frag} (h:H a=some (.tup xs)):SqT K H a xs:=.inl (.inl h)
theorem Inv.list (I:Inv X pins σ H s) (h:SqL X.K H a xs):∃its:List Value,Vals xs its∧PlainL s.heap a its.toArray∧xs.length≤sizeLine:=by
 rcases h with h|⟨o,its,n,hk,hc,hd,hs,hz,r⟩
 ·obtain ⟨z,its,n,r,e⟩:=h.ok I.hok
  exact ⟨its,r,⟨_,n,e,rfl,rfl,rfl⟩,z⟩
 ·refine ⟨its.toList,r,⟨o,n,I.kIn a o hk,hc,hd,by simpa using hs⟩,?_⟩
  have e:=r.length
  simp only [Array.length_toList] at e
  omega
theorem Inv.tuple (I:Inv X pins σ H s) (h:SqT X.K H a xs):∃its:List Value,Vals xs its∧IsTup s.heap a its.toArray∧xs.length≤sizeLine:=by
 rcases h with h|⟨o,its,n,hk,hc,hs,hz,r⟩
 ·obtain ⟨z,its,r,p⟩:=h.ok I.hok
  exact ⟨its,r,p,z⟩
 ·refine ⟨its.toList,r,⟨o,I.kIn a o hk,hc,n,by simpa using hs⟩,?_⟩
  have e:=r.length
  simp only [Array.length_toList] at e
  omega
theorem Inv.list_inj (I:Inv X pins σ H s) (h:SqL X.K H a xs) (h':SqL X.K H a ys):xs=ys:=by
 obtain ⟨its,r,⟨o,n,e,_,_,d⟩,_⟩:=I.list h
 obtain ⟨its',r',⟨o',n',e',_,_,d'⟩,_⟩:=I.list h'
 rw [e] at e';cases e'
 rw [d] at d'
 injection d' with d1 _
 have:its=its':=by simpa using congrArg Array.toList d1
 subst this
 exact r.inj r'
end
abbrev Cx.wish (X:Cx) (E:Value→Shared→Prop):Cx:={X with xe:=E}
abbrev Cx.nox (X:Cx):Cx:=X.wish fun _ _=>False
theorem Cx.Ok.wish {X:Cx} (ok:X.Ok) (E:Value→Shared→Prop):(X.wish E).Ok :=
 ⟨ok.mod,ok.kind,ok.glob,ok.blt,ok.above,ok.inj,ok.has,ok.cab,ok.hd,ok.frames,ok.stk,ok.exf,ok.bs,ok.bsz,ok.noex,ok.exfs,ok.funs,ok.frf⟩
theorem Cx.Ok.unwish {X:Cx} {E:Value→Shared→Prop} (ok:(X.wish E).Ok):X.Ok :=
 ⟨ok.mod,ok.kind,ok.glob,ok.blt,ok.above,ok.inj,ok.has,ok.cab,ok.hd,ok.frames,ok.stk,ok.exf,ok.bs,ok.bsz,ok.noex,ok.exfs,ok.funs,ok.frf⟩
section
variable {X:Cx} {pins:List (Addr×Obj)} {σ:St} {H:Hp} {s:Shared} {E:Value→Shared→Prop}
theorem Inv.wish (I:Inv X pins σ H s) (E:Value→Shared→Prop):Inv (X.wish E) pins σ H s:=⟨I.ok.wish E,I.os,I.bare,I.base,I.loc,I.cell,I.free,I.freeC,I.pin,I.hok,I.len⟩
theorem Inv.unwish (I:Inv (X.wish E) pins σ H s):Inv X pins σ H s:=⟨I.ok.unwish,I.os,I.bare,I.base,I.loc,I.cell,I.free,I.freeC,I.pin,I.hok,I.len⟩
theorem SP.unwish {D:Ends} {f:Flow} {s':Shared} (h:SP (X.wish E) pins D f s'):SP X pins D f s':=by
 cases f with
 |next=>obtain ⟨σ',H',I,q⟩:=h;exact ⟨σ',H',I.unwish,q⟩
 |brk=>obtain ⟨σ',H',I,q⟩:=h;exact ⟨σ',H',I.unwish,q⟩
 |cont=>obtain ⟨σ',H',I,q⟩:=h;exact ⟨σ',H',I.unwish,q⟩
 |ret u=>obtain ⟨v,σ',H',I,r,q⟩:=h;exact ⟨v,σ',H',I.unwish,r,q⟩
theorem PE.nox {e:Expr} {t:TE} (h:PE X.nox e t):PE X e t:=fun pins s σ H Q I hw =>
 wpAny_mono (h pins s σ H Q (I.wish _) hw) (fun _ _ ⟨v,H',I',r,q⟩=>⟨v,H',I'.unwish,r,q⟩) fun _ _ z=>False.elim z
theorem PT.nox {e:Expr} {t:TT} (h:PT X.nox e t):PT X e t:=fun pins s σ H Q I hw =>
 wpAny_mono (h pins s σ H Q (I.wish _) hw) (fun _ _ ⟨H',I',q⟩=>⟨H',I'.unwish,q⟩) fun _ _ z=>False.elim z
theorem PSs.nox {st:List Stmt} {t:TS} (h:PSs X.nox st t):PSs X st t:=fun pins s σ H D I hw =>
 wpAny_mono (h pins s σ H D (I.wish _) hw) (fun _ _ q=>q.unwish) fun _ _ z=>False.elim z
end
section
variable {X:Cx} {st:Stmt} {rest:List Stmt} {t u:TS} {e:Expr} {te:TE} {pos:Pos}
def nW:TS:=fun D σ H=>D.nx σ H
def oS (t u:TS):TS:=fun D σ H=>t {D with nx:=u D} σ H
theorem kI:PSs X [] nW:=fun _ _ σ H _ I h=>wpAny_execs_nil ⟨σ,H,I,h⟩
theorem jL (h1:PS X st t) (h2:PSs X rest u):PSs X (st::rest) (oS t u):=by
 intro pins s σ H D I h
 refine wpAny_execs_cons (jI (h1 pins s σ H {D with nx:=u D} I h) fun f s1 q=>?_)
 cases f with
 |next =>
  obtain ⟨σ',H',I',q⟩:=q
  exact h2 pins s1 σ' H' D I' q
 |ret v=>exact q
 |brk=>exact q
 |cont=>exact q
theorem jO (h1:PS X st t):PSs X [st] t:=by
 intro pins s σ H D I h
 refine wpAny_execs_cons (jI (h1 pins s σ H D I h) fun f s1 q=>?_)
 cases f with
 |next=>exact wpAny_execs_nil q
 |ret v=>exact q
 |brk=>exact q
 |cont=>exact q
theorem Inv.quiet {pins:List (Addr×Obj)} {σ:St} {H:Hp} {s:Shared} (I:Inv X pins σ H s):interactive X.env=false:=by simp [interactive,I.ok.kind]
def nY (te:TE):TS:=fun D σ H=>te σ H fun _ H1=>D.nx σ H1
theorem vD (he:PE X e te) (hs:swapsWith e none pos.line X.env=pure false:=by rfl):PS X (.Expr e pos) (nY te):=by
 intro pins s σ H D I h
 exact wpAny_Expr_any (jI (he pins s σ H _ I h) fun v s1 ⟨x,H1,I1,r1,q1⟩=>⟨σ,H1,I1,q1⟩) I.quiet hs
def oU (te:TE):TS:=fun D σ H=>te σ H D.rt
theorem j5 (he:PE X e te):PS X (.Return (some e) pos) (oU te):=by
 intro pins s σ H D I h
 exact wpAny_Return_some (jI (he pins s σ H _ I h) fun v s1 ⟨x,H1,I1,r1,q1⟩=>⟨x,σ,H1,I1,r1,q1⟩)
def oZ (c:TT) (t u:TS):TS:=fun D σ H=>c σ H fun b H1=>if b=true then t D σ H1 else u D σ H1
theorem kJ {c:Expr} {a b:List Stmt} {tc:TT} (hc:PT X c tc) (ha:PSs X a t) (hb:PSs X b u):PS X (.If c a b pos) (oZ tc t u):=by
 intro pins s σ H D I h
 refine wpAny_If (jI (hc pins s σ H _ I h) fun d s1 ⟨H1,I1,q1⟩=>?_)
 cases d with
 |true=>exact ha pins s1 σ H1 D I1 q1
 |false=>exact hb pins s1 σ H1 D I1 q1
end
abbrev TG:=V→St→Hp→(St→Hp→Prop)→Prop
abbrev yF:=List V→St→Hp→(St→Hp→Prop)→Prop
def PG (X:Cx) (target:Expr) (t:TG):Prop :=
 ∀(pins:List (Addr×Obj)) (s:Shared) (σ:St) (H:Hp) (v:V) (u:Value) (Q:St→Hp→Prop),Inv X pins σ H s→RelV v u→t v σ H Q→
  wpAny (model X.prog X.w) X.A (assign target X.env u) (fun _ s'=>∃σ' H',Inv X pins σ' H' s'∧Q σ' H') X.xe s
def QK (X:Cx) (ts:List Expr) (t:yF):Prop :=
 ∀(pins:List (Addr×Obj)) (s:Shared) (σ:St) (H:Hp) (vs:List V) (us:List Value) (Q:St→Hp→Prop),Inv X pins σ H s→Vals vs us→t vs σ H Q→
  wpAny (model X.prog X.w) X.A (assignInOrder ((assignEach ts X.env).map (·.2)) us) (fun _ s'=>∃σ' H',Inv X pins σ' H' s'∧Q σ' H') X.xe s
section
variable {X:Cx} {pos:Pos}
def ZI (i:Nat):TG:=fun v σ H Q=>Q (σ.set i (some v)) H
theorem kP {i:Nat} {x:Str} (hN:X.N.Nodup) (hi:X.N[i]?=some x) (hx:zA X.env.scope x) (hf:X.fn x=true∨X.env.scope.names.lookup x=some .local:=by first|exact .inl rfl|exact .inr rfl|assumption):PG X (.Name x pos) (ZI i):=by
 intro pins s σ H v u Q I r h
 exact wpAny_assign_Name (JR I hN hi hx r (fun s' I'=>⟨_,H,I',h⟩) hf)
def pG:yF:=fun vs σ H Q=>vs=[]∧Q σ H
def oQ (t:TG) (u:yF):yF:=fun vs σ H Q=>∃v r,vs=v::r∧t v σ H fun σ' H'=>u r σ' H' Q
theorem lR:QK X [] pG:=by
 intro pins s σ H vs us Q I r h
 obtain ⟨e,h⟩:=h
 subst e
 cases r
 exact assignInOrder_nil ⟨σ,H,I,h⟩
theorem bV {e:Expr} {es:List Expr} {t:TG} {u:yF} (h1:PG X e t) (h2:QK X es u)
  (hs:(assignEach (e::es) X.env).map (·.2)=assign e X.env::(assignEach es X.env).map (·.2):=by rfl):QK X (e::es) (oQ t u):=by
 intro pins s σ H vs us Q I r h
 obtain ⟨v,vr,e1,h⟩:=h
 subst e1
 cases r with
 |cons r rr =>
  rw [hs]
  refine assignInOrder_cons (jI (h1 pins s σ H _ _ _ I r h) fun _ s1 ⟨σ1,H1,I1,q1⟩=>?_)
  exact h2 pins s1 σ1 H1 _ _ Q I1 rr q1
def pF (K:PySem.W.Frag) (n:Nat) (t:yF):TG:=fun v σ H Q=>∃a xs,v=.ref a∧SqT K H a xs∧xs.length=n∧t xs σ H Q
theorem m9 {es:List Expr} {k:Nat} {t:yF} {n:Nat} (hc:X.calm=true) (h:QK X es t)
  (hn:(assignEach es X.env).length=n:=by rfl) (hst:(assignEach es X.env).findIdx? (·.1)=none:=by rfl):PG X (.Tuple es k pos) (pF X.K n t):=by
 intro pins s σ H v u Q I r hw
 obtain ⟨a,xs,e1,hq,hl,hw⟩:=hw
 subst e1
 cases r
 obtain ⟨its,rv,ht,hz⟩:=I.tuple hq
 refine assign_Tuple_tuple (I.ok.hd hc) ht (by simp [hn,← hl,rv.length]) hst fun h' hx=>?_
 have I1:Inv X pins σ H {s with heap:=h'}:=I.kept (t':=s.toks) fun b o e=>hx b o (Nat.ne_of_lt (Heap.lt_size e)) e
 exact h pins _ σ H xs _ Q I1 (by simpa using rv) hw
def o6 (te:TE) (g:TG):TS:=fun D σ H=>te σ H fun x H1=>g x σ H1 D.nx
theorem jT {i:Nat} {x:Str} {e:Expr} {te:TE} {pos':Pos} (hN:X.N.Nodup) (hi:X.N[i]?=some x) (hx:zA X.env.scope x) (he:PE X e te) (hs:swapsWith e (some (.Name x pos')) pos.line X.env=pure false:=by rfl) (hf:X.fn x=true∨X.env.scope.names.lookup x=some .local:=by first|exact .inl rfl|exact .inr rfl|assumption) :
  PS X (.Assign [.Name x pos'] e pos) (o6 te (ZI i)):=by
 intro pins s σ H D I h
 refine wpAny_Assign_Name (jI (he pins s σ H _ I h) fun v s1 ⟨y,H1,I1,r1,q1⟩=>?_) hs
 exact JR I1 hN hi hx r1 (fun s2 I2=>⟨_,H1,I2,q1⟩) hf
end
section
variable {X:Cx} {pos:Pos}
def mS (c:TT) (tb:TS):TS:=fun D σ H=>∃W:Nat→St→Hp→Prop,(∃m,W m σ H)∧∀m σ H,W m σ H→
 c σ H fun b H1=>if b=true then ∃N:St→Hp→Prop,(∀σ' H',N σ' H'→∃m',m'<m∧W m' σ' H')∧tb {D with nx:=N,ct:=N,bk:=D.nx} σ H1 else D.nx σ H1
theorem Q0 {c:Expr} {body:List Stmt} {tc:TT} {tb:TS} (hp:PassesOwn (model X.prog X.w) X.A X.env X.xe) (hc:PT X c tc) (hb:PSs X body tb):PS X (.While c body [] pos) (mS tc tb):=by
 intro pins s σ H D I h
 obtain ⟨W,⟨m0,w0⟩,turn⟩:=h
 refine wpAny_While (codeAny_whileLoop (fun n s'=>∃σ' H',Inv X pins σ' H' s'∧W n σ' H') ?_ m0 ⟨σ,H,I,w0⟩)
 rintro n s1 ⟨σ1,H1,I1,w1⟩
 refine wpAny_passesOwn hp (jI (hc pins s1 σ1 H1 _ I1 (turn n σ1 H1 w1)) fun b s2 ⟨H2,I2,q2⟩=>?_)
 cases b with
 |true =>
  obtain ⟨N,hN,q2⟩:=q2
  rw [if_pos rfl]
  refine wpAny_passesOwn hp (jI (hb pins s2 σ1 H2 _ I2 q2) fun f s3 q3=>?_)
  cases f with
  |next =>
   obtain ⟨σ3,H3,I3,n3⟩:=q3
   obtain ⟨m',hm,w3⟩:=hN σ3 H3 n3
   exact ⟨m',hm,σ3,H3,I3,w3⟩
  |cont =>
   obtain ⟨σ3,H3,I3,n3⟩:=q3
   obtain ⟨m',hm,w3⟩:=hN σ3 H3 n3
   exact ⟨m',hm,σ3,H3,I3,w3⟩
  |brk=>exact q3
  |ret v=>exact q3
 |false =>
  rw [if_neg Bool.false_ne_true]
  exact wpAny_execs_nil ⟨σ1,H2,I2,q2⟩
end
structure It where
 go:Nat→Hp→Prop
 yld:Nat→Hp→V→Hp→Prop
 stop:Nat→Hp→Prop
def vF (X:Cx) (pins:List (Addr×Obj)) (H:Hp) (b:Addr):Prop :=
 H b=none∧b≠X.env.locals∧b∉X.fs∧(b∈X.ex∨X.s₀.heap.objs.size≤b)∧(∀x c,X.env.cells.lookup x=some c→c≠b)∧∀p∈X.pn++pins,p.1≠b
theorem Inv.fpOk {X:Cx} {pins:List (Addr×Obj)} {σ:St} {H H':Hp} {s:Shared} {b:Addr} (I:Inv X pins σ H s) (hb:s.heap.objs.size≤b) (hn:H' b=none):vF X pins H' b:=by
 refine ⟨hn,Nat.ne_of_gt (Nat.lt_of_lt_of_le I.lt hb),I.nofs hb,.inr (Nat.le_trans I.sz hb),fun x c e z=>?_,fun p hp z=>?_⟩
 ·obtain ⟨v,q⟩:=I.cell x c e
  exact absurd (Nat.lt_of_lt_of_le q.lt (by rw [z];exact hb)) (Nat.lt_irrefl _)
 ·exact absurd (Nat.lt_of_lt_of_le (Heap.lt_size (I.pin p hp).1) (by rw [z];exact hb)) (Nat.lt_irrefl _)
structure Turn (P:Program) (w:World) (K:PySem.W.Frag) (tg:Expr) (J:It) (fp:List Addr) (it:Addr) (tn:Nat→Heap→Prop):Prop where
 mem:it∈fp
 obj:∀i h,tn i h→∀b∈fp,∃o,h.get? b=some o∧∀v,o.data≠.cell v
 keep:∀i h h',tn i h→(∀b∈fp,∀o,h.get? b=some o→h'.get? b=some o)→tn i h'
 item:∀(X:Cx),X.prog=P→X.w=w→X.K=K→X.calm=true→∀(i:Nat) (pins:List (Addr×Obj)) (s:Shared) (σ:St) (H:Hp) (E:Value→Shared→Prop),Inv X pins σ H s→(∀b∈fp,vF X pins H b)→tn i s.heap→J.go i H→
  wpAny (model P w) X.A (pyNext (.ref it)) (fun r s1=>∃u,r=some u∧
   wpAny (model P w) X.A (letOwnedTupleGo tg (.ref it) u) (fun _ s2=>∃x H',Inv X pins σ H' s2∧RelV x u∧J.yld i H x H'∧tn (i+1) s2.heap∧∀b∈fp,H' b=none) E s1) E s
 done:∀(X:Cx),X.prog=P→X.w=w→X.K=K→X.calm=true→∀(i:Nat) (pins:List (Addr×Obj)) (s:Shared) (σ:St) (H:Hp) (E:Value→Shared→Prop),Inv X pins σ H s→(∀b∈fp,vF X pins H b)→tn i s.heap→J.stop i H→
  wpAny (model P w) X.A (pyNext (.ref it)) (fun r s1=>r=none∧Inv X pins σ H s1) E s
 self:∀(A:Around) (i:Nat) (s:Shared) (Q:Value→Shared→Prop) (E:Value→Shared→Prop),tn i s.heap→Q (.ref it) s→wpAny (model P w) A (pyIter (.ref it)) Q E s
abbrev TI:=St→Hp→(It→Hp→Prop)→Prop
def eK (X:Cx) (pins:List (Addr×Obj)) (σ:St) (tg:Expr) (R:It→Hp→Prop) (itv:Value) (s2:Shared):Prop :=
 ∃(it:Addr) (fp:List Addr) (tn:Nat→Heap→Prop) (J:It) (H':Hp),itv=.ref it∧Inv X pins σ H' s2∧Turn X.prog X.w X.K tg J fp it tn∧tn 0 s2.heap∧(∀b∈fp,vF X pins H' b)∧R J H'
def PI (X:Cx) (tg iter:Expr) (wi:TI):Prop :=
 ∀(pins:List (Addr×Obj)) (s:Shared) (σ:St) (H:Hp) (R:It→Hp→Prop),Inv X pins σ H s→wi σ H R→
  wpAny (model X.prog X.w) X.A (eval iter X.env) (fun v s1=>wpAny (model X.prog X.w) X.A (pyIter v) (eK X pins σ tg R) X.xe s1) X.xe s
theorem dY {M:Model} {A:Around} {E:Value→Shared→Prop} {s:Shared} {tg:Expr} {it:Addr} {u:Value} {o:Obj} {n:String} {vs:Array Value} {Q:Unit→Shared→Prop} (ho:s.heap.get? it=some o) (hc:o.cls=.type n) (hd:o.data=.fields vs)
    (hn:["enumerate","zip","dict_itemiterator","dict_reverseitemiterator","odict_iterator","itertools.zip_longest","itertools.pairwise"].contains n=false) (hQ:Q () s):wpAny M A (letOwnedTupleGo tg (.ref it) u) Q E s:=by
  unfold letOwnedTupleGo
  cases tg<;>first
    |exact wpAny_pure hQ
    | (cases u<;>first
        |exact wpAny_pure hQ
        | (refine wpAny_bind (wpAny_load ho ?_)
           rw [hc,hd]
           show wpAny M A (if (["enumerate","zip","dict_itemiterator","dict_reverseitemiterator","odict_iterator","itertools.zip_longest","itertools.pairwise"].contains n&&vs[0]? == some (rawInt _))=true then _ else _) Q E s
           rw [if_neg (by intro h;rw [hn,Bool.false_and] at h;cases h)]
           exact wpAny_pure hQ))
def yG (K:PySem.W.Frag) (a:Addr):It :=
 ⟨fun i H=>∃xs x,SqL K H a xs∧xs[i]?=some x,fun i H x H'=>H'=H∧∀xs,SqL K H a xs→xs[i]?=some x,fun i H=>∃xs,SqL K H a xs∧xs.length≤i⟩
def zB (lo:Int) (n:Nat):It:=⟨fun i _=>i<n,fun i H x H'=>H'=H∧x=.int (lo+i),fun i _=>n≤i⟩
theorem gW {P:Program} {w:World} {K:PySem.W.Frag} {tg:Expr} (a it:Addr):Turn P w K tg (yG K a) [it] it (fun i h=>h.IsListIter it a i) where
 mem:=by simp
 obj:=fun i h st b hb=>by
  have e:b=it:=by simpa using hb
  subst e
  obtain ⟨o,e,c,d⟩:=st
  exact ⟨o,e,fun v z=>by rw [d] at z;cases z⟩
 keep:=fun i h h' st k=>st.at fun o e=>k it (by simp) o e
 item:=by
  intro X hP hw hK hc i pins s σ H E I hf st hg
  subst hP hw hK
  obtain ⟨xs,x,hq,hx⟩:=hg
  obtain ⟨its,rv,p,hz⟩:=I.list hq
  obtain ⟨u,hu,ru⟩:=rv.get hx
  obtain ⟨f0,f1,f2,f3,f4,f5⟩:=hf it (by simp)
  refine wpAny_pyNext_list_item st p.isList (x:=u) (by simpa using hu) fun h' st' sb=>?_
  have I1:Inv X pins σ H {s with heap:=h'}:=I.turned (t':=s.toks) (fun b o hb e=>(sb.2 b hb).trans e) f0 f1 f3 f4 f5
  obtain ⟨o,e,c,d⟩:=id st'
  exact ⟨u,rfl,dY (s:={s with heap:=h'}) e c d (by decide) ⟨x,H,I1,ru,⟨rfl,fun ys hy=>by rw [I.list_inj hy hq];exact hx⟩,st',fun b hb=>(hf b hb).1⟩⟩
 done:=by
  intro X hP hw hK hc i pins s σ H E I hf st hg
  subst hP hw hK
  obtain ⟨xs,hq,hx⟩:=hg
  obtain ⟨its,rv,p,hz⟩:=I.list hq
  obtain ⟨f0,f1,f2,f3,f4,f5⟩:=hf it (by simp)
  have hl:=rv.length
  exact wpAny_pyNext_list_end (I.ok.hd hc) st p.isList (by simp;omega) fun h' eb=>⟨rfl,I.turned (t':=s.toks) (fun b o hb e=>eb b o hb e) f0 f1 f3 f4 f5⟩
 self:=fun _ _ _ _ _ st h=>wpAny_pyIter_listiter st h
theorem gJ {P:Program} {w:World} {K:PySem.W.Frag} {tg:Expr} (it:Addr) (lo:Int) (n:Nat):Turn P w K tg (zB lo n) [it] it (fun i h=>IsRangeIter h it (lo+(i:Nat)*1) ((n:Int) - (i:Nat)) 1) where
 mem:=by simp
 obj:=fun i h st b hb=>by
  have e:b=it:=by simpa using hb
  subst e
  exact ⟨_,st,fun v z=>by
   have z':Data.fields _=Data.cell v:=z
   cases z'⟩
 keep:=fun i h h' st k=>k it (by simp) _ st
 item:=by
  intro X hP hw hK hc i pins s σ H E I hf st hg
  subst hP hw hK
  obtain ⟨f0,f1,f2,f3,f4,f5⟩:=hf it (by simp)
  have W:=Walks.range (prog:=X.prog) (w:=X.w) (I.ok.hd hc) it lo 1 n
  refine W.item i s _ _ hg st fun v h' tk hv st' kk=>?_
  obtain ⟨t,rfl⟩:=hv
  have I1:Inv X pins σ H {s with heap:=h',toks:=tk}:=I.turned (fun b o hb e=>kk b o (by simpa using hb) e) f0 f1 f3 f4 f5
  refine ⟨_,rfl,dY (s:={s with heap:=h',toks:=tk}) (n:="range_iterator") st' rfl rfl (by decide) ⟨.int (lo+i),H,I1,⟨t,?_⟩,⟨rfl,rfl⟩,st',fun b hb=>(hf b hb).1⟩⟩
  rw [Int.mul_one]
 done:=by
  intro X hP hw hK hc i pins s σ H E I hf st hg
  subst hP hw hK
  obtain ⟨f0,f1,f2,f3,f4,f5⟩:=hf it (by simp)
  exact wpAny_pyNext_range_end (I.ok.hd hc) st (by have:n≤i:=hg;omega) fun h' eb=>⟨rfl,I.turned (t':=s.toks) (fun b o hb e=>eb b o hb e) f0 f1 f3 f4 f5⟩
 self:=fun _ _ _ _ _ st h=>wpAny_pyIter_rangeiter st h
end L2
namespace L2
open PySem PySem.Spec PyProof.Rows
section
variable {X:Cx} {tg:Expr}
def oO (K:PySem.W.Frag) (tl:TE):TI:=fun σ H R=>tl σ H fun x H1=>∃a,x=.ref a∧(∃xs,SqL K H1 a xs)∧R (yG K a) H1
theorem qM {l:Expr} {tl:TE} (hl:PE X l tl):PI X tg l (oO X.K tl):=by
 intro pins s σ H R I h
 refine jI (hl pins s σ H _ I h) fun v s1 ⟨x,H1,I1,r1,q1⟩=>?_
 obtain ⟨a,e,⟨xs,hq⟩,q⟩:=q1
 subst e
 cases r1
 obtain ⟨its,rv,p,hz⟩:=I1.list hq
 refine wpAny_pyIter_list p.isList ?_
 refine ⟨s1.heap.objs.size,[s1.heap.objs.size],_,_,H1,rfl,I1.kept (t':=s1.toks) fun b o e=>Heap.get?_push_of_some _ e,gW a _,⟨_,Heap.get?_push_size _ rfl,rfl,rfl⟩,fun b hb=>?_,q⟩
 have e:b=s1.heap.objs.size:=by simpa using hb
 subst e
 exact I1.fpOk (Nat.le_refl _) (I1.hok.fresh (Nat.le_refl _))
theorem iU {pins:List (Addr×Obj)} {σ:St} {H:Hp} {s:Shared} {R:It→Hp→Prop} {E:Value→Shared→Prop} {lo hi:Int} {t u v:Tok} {tk:Nat} (I:Inv X pins σ H s) (h1 : -(2 ^ 62)≤lo) (h2:lo<2 ^ 62) (h3 : -(2 ^ 62)≤hi) (h4:hi<2 ^ 62)
    (q:R (zB lo (hi - lo).toNat) H):wpAny (model X.prog X.w) X.A (pyIter (.ref s.heap.objs.size)) (eK X pins σ tg R) E {s with heap:=s.heap.push {cls:=.type "range",data:=.fields #[.int lo t,.int hi u,.int 1 v]},toks:=tk}:=by
  refine wpAny_pyIter_range (IsRange.new ..) (small_one h1 h2 h3 h4) ?_
  have I1:Inv X pins σ H {s with heap:=s.heap.push {cls:=.type "range",data:=.fields #[.int lo t,.int hi u,.int 1 v]},toks:=tk}:=I.kept fun b o e=>Heap.get?_push_of_some _ e
  refine ⟨(s.heap.push {cls:=.type "range",data:=.fields #[.int lo t,.int hi u,.int 1 v]}).objs.size,[(s.heap.push {cls:=.type "range",data:=.fields #[.int lo t,.int hi u,.int 1 v]}).objs.size],_,_,H,rfl,
    I1.kept (t':=tk) fun b o e=>Heap.get?_push_of_some _ e,gJ _ lo (hi - lo).toNat,?_,fun b hb=>?_,q⟩
  · have e1:lo+((0:Nat):Int)*1=lo:=by simp
    have e2:(((hi - lo).toNat:Nat):Int) - ((0:Nat):Int)=Builtin.Range.rangeSize lo hi 1:=by rw [rangeSize_one];split<;>omega
    show IsRangeIter _ _ (lo+((0:Nat):Int)*1) ((((hi - lo).toNat:Nat):Int) - ((0:Nat):Int)) 1
    rw [e1,e2]
    exact Heap.get?_push_size _ rfl
  · have e:b=(s.heap.push {cls:=.type "range",data:=.fields #[.int lo t,.int hi u,.int 1 v]}).objs.size:=by simpa using hb
    subst e
    exact I1.fpOk (Nat.le_refl _) (I1.hok.fresh (Nat.le_refl _))
def oN (ta:TA):TI:=fun σ H R=>ta σ H fun vs H1=>∃j:Int,vs=[.int j]∧-(2 ^ 62)≤j∧j<2 ^ 62∧R (zB 0 j.toNat) H1
theorem QT {a:Expr} {ta:TA} {p pos:Pos} (hg:Gl X "range") (hm:X.mg "range"=none) (ha:PA X [a] ta) (hs:starEach [a] X.env=[(false,eval a X.env)]:=by rfl):PI X tg (.Call (.Name "range" p) [a] [] pos) (oN ta):=by
 intro pins s σ H R I h
 refine Call_ (y6 I hg hm boot_range (PyProof.Rows.callWith_type1 (jI (ha pos pins s σ H _ I h) fun us s1 ⟨vs,H1,I1,r1,q1⟩=>?_) hs rfl))
 obtain ⟨j,e,q1,q2,q⟩:=q1
 subst e
 cases r1 with
 |cons r rr =>
  cases rr
  obtain ⟨t,rfl⟩:=r
  exact call_range_1 (iU I1 (by omega) (by omega) q1 q2 (by simpa using q))
def o0 (wi:TI) (g:TG) (tb:TS):TS:=fun D σ H=>wi σ H fun J H1=>∃W:Nat→Nat→St→Hp→Prop,(∃m,W 0 m σ H1)∧∀i m σ H,W i m σ H→
 (J.stop i H∧D.nx σ H)∨(J.go i H∧∃N:St→Hp→Prop,(∀σ' H',N σ' H'→∃m',m'<m∧W (i+1) m' σ' H')∧∀x H',J.yld i H x H'→g x σ H' fun σ2 H2=>tb {D with nx:=N,ct:=N,bk:=D.nx} σ2 H2)
def zU (fp:List Addr) (h:Heap):List (Addr×Obj):=fp.filterMap fun b=>(h.get? b).map fun o=>(b,o)
theorem JJ {fp:List Addr} {h:Heap} {b:Addr} {o:Obj} (hb:b∈fp) (e:h.get? b=some o):(b,o)∈zU fp h:=List.mem_filterMap.mpr ⟨b,hb,by rw [e];rfl⟩
theorem iA {fp:List Addr} {h:Heap} {p:Addr×Obj} (hp:p∈zU fp h):p.1∈fp∧h.get? p.1=some p.2:=by
 obtain ⟨b,hb,e⟩:=List.mem_filterMap.mp hp
 cases q:h.get? b with
 |none=>rw [q] at e;cases e
 |some o =>
  rw [q] at e
  have e':(b,o)=p:=Option.some.inj e
  subst e'
  exact ⟨hb,q⟩
theorem Inv.pinned {pins:List (Addr×Obj)} {σ:St} {H:Hp} {s:Shared} {fp:List Addr} (I:Inv X pins σ H s) (hf:∀b∈fp,vF X pins H b) (ho:∀b∈fp,∃o,s.heap.get? b=some o∧∀v,o.data≠.cell v):Inv X (pins++zU fp s.heap) σ H s :=
 I.pins_of fun p hp=>(List.mem_append.mp hp).elim (fun z=>I.pin p (List.mem_append_right _ z)) fun z=>by
  obtain ⟨hb,e⟩:=iA z
  obtain ⟨f0,f1,f2,_⟩:=hf p.1 hb
  obtain ⟨o,e',d⟩:=ho p.1 hb
  rw [e] at e';cases e'
  exact ⟨e,f0,f1,f2,d⟩
theorem Inv.unpinned {pins pl:List (Addr×Obj)} {σ:St} {H:Hp} {s:Shared} (I:Inv X (pins++pl) σ H s):Inv X pins σ H s:=I.pins_of fun p hp=>I.pin p (List.mem_append_right _ (List.mem_append_left _ hp))
theorem qS {iter:Expr} {body:List Stmt} {wi:TI} {g:TG} {tb:TS} {pos:Pos} (hp:PassesOwn (model X.prog X.w) X.A X.env X.xe) (hc:X.calm=true) (hi:PI X tg iter wi) (hg:PG X tg g) (hb:PSs X body tb)
  (hs:∀x,foldedSetIterable iter X.env x=pure x:=by intro _;rfl):PS X (.For tg iter body [] pos) (o0 wi g tb):=by
 intro pins s σ H D I h
 refine wpAny_For (jI (hi pins s σ H _ I h) fun v s1 h1=>jI h1 fun itv s2 h2=>?_) hs
 obtain ⟨it,fp,tn,J,H2,e,I2,T,st2,f2,W,⟨m0,w0⟩,turn⟩:=h2
 subst e
 have stat:∀{H':Hp},(∀b∈fp,H' b=none)→∀b∈fp,vF X pins H' b:=fun hn b hb=>⟨hn b hb,(f2 b hb).2⟩
 refine codeAny_forLoop_any (fun n s'=>∃i σ' H',Inv X pins σ' H' s'∧tn i s'.heap∧(∀b∈fp,H' b=none)∧W i n σ' H') ?_ m0 ⟨0,σ,H2,I2,st2,fun b hb=>(f2 b hb).1,w0⟩
 rintro n s3 ⟨i,σ3,H3,I3,st3,fr3,w3⟩
 rcases turn i n σ3 H3 w3 with ⟨stop,qn⟩|⟨go,N,hN,step⟩
 ·refine wpAny_passesOwn hp (jI (T.done X rfl rfl rfl hc i pins s3 σ3 H3 X.xe I3 (stat fr3) st3 stop) fun r s4 ⟨hr,I4⟩=>?_)
  subst hr
  exact wpAny_execs_nil ⟨σ3,H3,I4,qn⟩
 ·refine wpAny_passesOwn hp (jI (T.item X rfl rfl rfl hc i pins s3 σ3 H3 X.xe I3 (stat fr3) st3 go) fun r s4 ⟨u,hr,h4⟩=>?_)
  subst hr
  refine wpAny_passesOwn hp (jI h4 fun _ s5 ⟨x,H5,I5,r5,y5,st5,fr5⟩=>?_)
  have I5':=I5.pinned (stat fr5) (T.obj _ _ st5)
  refine wpAny_passesOwn hp (jI (hg _ s5 σ3 H5 x u _ I5' r5 (step x H5 y5)) fun _ s6 ⟨σ6,H6,I6,q6⟩=>?_)
  refine wpAny_passesOwn hp (jI (hb _ s6 σ6 H6 _ I6 q6) fun f s7 q7=>?_)
  have again:∀{σ7:St} {H7:Hp},Inv X (pins++zU fp s5.heap) σ7 H7 s7→N σ7 H7→∃m,m<n∧∃i σ' H',Inv X pins σ' H' s7∧tn i s7.heap∧(∀b∈fp,H' b=none)∧W i m σ' H':=fun {σ7 H7} I7 n7=>by
   obtain ⟨m',hm,w7⟩:=hN σ7 H7 n7
   refine ⟨m',hm,i+1,σ7,H7,I7.unpinned,T.keep _ _ _ st5 fun b hb o e=>(I7.pin (b,o) (List.mem_append_right _ (List.mem_append_right _ (JJ hb e)))).1,fun b hb=>?_,w7⟩
   obtain ⟨o,e,d⟩:=T.obj _ _ st5 b hb
   exact (I7.pin (b,o) (List.mem_append_right _ (List.mem_append_right _ (JJ hb e)))).2.1
  cases f with
  |next=>obtain ⟨σ7,H7,I7,n7⟩:=q7;exact again I7 n7
  |cont=>obtain ⟨σ7,H7,I7,n7⟩:=q7;exact again I7 n7
  |brk=>obtain ⟨σ7,H7,I7,q7⟩:=q7;exact ⟨σ7,H7,I7.unpinned,q7⟩
  |ret v=>obtain ⟨x7,σ7,H7,I7,r7,q7⟩:=q7;exact ⟨x7,σ7,H7,I7.unpinned,r7,q7⟩
end
theorem vJ {K:PySem.W.Frag} {a:Addr} {xs:List V} {g:TG} {tb:TS} {D:Ends} {σ:St} {H:Hp} (Pv:Nat→St→Hp→Prop) (h0:Pv 0 σ H) (hl:∀i σ H,i≤xs.length→Pv i σ H→SqL K H a xs)
    (hs:∀i x σ H,xs[i]?=some x→Pv i σ H→g x σ H fun σ2 H2=>tb {D with nx:=Pv (i+1),ct:=Pv (i+1),bk:=D.nx} σ2 H2) (hd:∀σ H,Pv xs.length σ H→D.nx σ H) :
    ∃W:Nat→Nat→St→Hp→Prop,(∃m,W 0 m σ H)∧∀i m σ H,W i m σ H→
      ((yG K a).stop i H∧D.nx σ H)∨((yG K a).go i H∧∃N:St→Hp→Prop,(∀σ' H',N σ' H'→∃m',m'<m∧W (i+1) m' σ' H')∧∀x H',(yG K a).yld i H x H'→g x σ H' fun σ2 H2=>tb {D with nx:=N,ct:=N,bk:=D.nx} σ2 H2):=by
  refine ⟨fun i m σ H=>m=xs.length - i∧i≤xs.length∧Pv i σ H,⟨xs.length,by simp,Nat.zero_le _,h0⟩,?_⟩
  rintro i m σ H ⟨rfl,hi,p⟩
  have q:=hl i σ H hi p
  by_cases hlt:i<xs.length
  · refine .inr ⟨⟨xs,xs[i],q,by simp [hlt]⟩,Pv (i+1),fun σ' H' p'=>⟨xs.length - (i+1),by omega,rfl,hlt,p'⟩,fun x H' y=>?_⟩
    obtain ⟨e,y⟩:=y
    subst e
    exact hs i x σ _ (y xs q) p
  · have e:i=xs.length:=by omega
    subst e
    exact .inl ⟨⟨xs,q,Nat.le_refl _⟩,hd σ H p⟩
theorem JP {lo:Int} {n:Nat} {g:TG} {tb:TS} {D:Ends} {σ:St} {H:Hp} (Pv:Nat→St→Hp→Prop) (h0:Pv 0 σ H)
  (hs:∀i σ H,i<n→Pv i σ H→g (.int (lo+i)) σ H fun σ2 H2=>tb {D with nx:=Pv (i+1),ct:=Pv (i+1),bk:=D.nx} σ2 H2) (hd:∀σ H,Pv n σ H→D.nx σ H) :
  ∃W:Nat→Nat→St→Hp→Prop,(∃m,W 0 m σ H)∧∀i m σ H,W i m σ H→
   ((zB lo n).stop i H∧D.nx σ H)∨((zB lo n).go i H∧∃N:St→Hp→Prop,(∀σ' H',N σ' H'→∃m',m'<m∧W (i+1) m' σ' H')∧∀x H',(zB lo n).yld i H x H'→g x σ H' fun σ2 H2=>tb {D with nx:=N,ct:=N,bk:=D.nx} σ2 H2):=by
 refine ⟨fun i m σ H=>m=n - i∧i≤n∧Pv i σ H,⟨n,by simp,Nat.zero_le _,h0⟩,?_⟩
 rintro i m σ H ⟨rfl,hi,p⟩
 by_cases hlt:i<n
 ·refine .inr ⟨hlt,Pv (i+1),fun σ' H' p'=>⟨n - (i+1),by omega,rfl,hlt,p'⟩,fun x H' y=>?_⟩
  obtain ⟨e,y⟩:=y
  subst e y
  exact hs i σ _ hlt p
 ·have e:i=n:=by omega
  subst e
  exact .inl ⟨Nat.le_refl _,hd σ H p⟩
end L2
namespace L2
open PySem PySem.Spec PyProof.Rows
abbrev R2:=V→V→Hp→VK→Prop
def OpR (X:Cx) (f:Value→Value→Sem Value) (r:R2):Prop :=
 ∀(pins:List (Addr×Obj)) (s:Shared) (σ:St) (H:Hp) (x y:V) (v u:Value) (Q:VK),Inv X pins σ H s→RelV x v→RelV y u→r x y H Q→
  wpAny (model X.prog X.w) X.A (f v u) (EP X pins σ Q) X.xe s
def ZP (X:Cx) (f:Value→Sem Value) (r:V→Hp→VK→Prop):Prop :=
 ∀(pins:List (Addr×Obj)) (s:Shared) (σ:St) (H:Hp) (x:V) (v:Value) (Q:VK),Inv X pins σ H s→RelV x v→r x H Q→
  wpAny (model X.prog X.w) X.A (f v) (EP X pins σ Q) X.xe s
def CallR (X:Cx) (f:Value) (r:List V→Hp→VK→Prop):Prop :=
 ∀(pins:List (Addr×Obj)) (s:Shared) (σ:St) (H:Hp) (xs:List V) (us:List Value) (Q:VK),Inv X pins σ H s→Vals xs us→r xs H Q→
  wpAny (model X.prog X.w) X.A (call f us) (EP X pins σ Q) X.xe s
def pK (X:Cx) (r:V→Hp→(Bool→Hp→Prop)→Prop):Prop :=
 ∀(pins:List (Addr×Obj)) (s:Shared) (σ:St) (H:Hp) (x:V) (v:Value) (Q:Bool→Hp→Prop),Inv X pins σ H s→RelV x v→r x H Q→
  wpAny (model X.prog X.w) X.A (truthy v) (TP X pins σ Q) X.xe s
def QH (r:R2) (ta tb:TE):TE:=fun σ H Q=>ta σ H fun x H1=>tb σ H1 fun y H2=>r x y H2 Q
def pP (r:V→Hp→VK→Prop) (ta:TE):TE:=fun σ H Q=>ta σ H fun x H1=>r x H1 Q
def rI (C:Int→Int→Prop) (g:Int→Int→V):R2:=fun x y H Q=>∃i j,x=.int i∧y=.int j∧C i j∧Q (g i j) H
def v6 (g:Int→Int→V):R2:=fun x y H Q=>∃i j,x=.int i∧y=.int j∧Q (g i j) H
def rU (g:Int→V):V→Hp→VK→Prop:=fun x H Q=>∃i,x=.int i∧Q (g i) H
section
variable {X:Cx} {a b c:Expr} {ta tb tc:TE} {pos:Pos}
theorem ZK (ha:PE X a ta) (hb:PE X b tb) {pins:List (Addr×Obj)} {s:Shared} {σ:St} {H:Hp} {R:V→V→Hp→Prop} (I:Inv X pins σ H s)
  (h:ta σ H fun x H1=>tb σ H1 fun y H2=>R x y H2) {Q:Value→Shared→Prop} {f:Value→Value→Sem Value}
  (hf:∀v u s2 x y H2,Inv X pins σ H2 s2→RelV x v→RelV y u→R x y H2→wpAny (model X.prog X.w) X.A (f v u) Q X.xe s2) :
  wpAny (model X.prog X.w) X.A (eval a X.env) (fun v s₁=>wpAny (model X.prog X.w) X.A (eval b X.env) (fun u s₂=>wpAny (model X.prog X.w) X.A (f v u) Q X.xe s₂) X.xe s₁) X.xe s:=by
 refine jI (ha pins s σ H _ I h) fun v s1 ⟨x,H1,I1,r1,q1⟩=>?_
 refine jI (hb pins s1 σ H1 _ I1 q1) fun u s2 ⟨y,H2,I2,r2,q2⟩=>?_
 exact hf v u s2 x y H2 I2 r1 r2 q2
theorem jK {op:Operator} {r:R2} (ho:OpR X (binaryOp op) r) (ha:PE X a ta) (hb:PE X b tb):PE X (.BinOp a op b pos) (QH r ta tb):=by
 intro pins s σ H Q I h
 exact wpAny_BinOp (ZK ha hb I h fun v u s2 x y H2 I2 rx ry q=>ho pins s2 σ H2 x y v u Q I2 rx ry q)
theorem z4 {op:UnaryOp} {r:V→Hp→VK→Prop} (ho:ZP X (unaryOp op) r) (ha:PE X a ta):PE X (.UnaryOp op a pos) (pP r ta):=by
 intro pins s σ H Q I h
 exact UnaryOp_ (jI (ha pins s σ H _ I h) fun v s1 ⟨x,H1,I1,r1,q1⟩=>ho pins s1 σ H1 x v Q I1 r1 q1)
theorem QI {f:Value→Value→Sem Value} {C:Int→Int→Prop} {g:Int→Int→Int}
  (rule:∀(i j:Int) (t u:Tok) (s:Shared) (Q:Value→Shared→Prop) (E:Value→Shared→Prop),C i j→Q (.int (g i j) s.toks) {s with toks:=s.toks+1}→wpAny (model X.prog X.w) X.A (f (.int i t) (.int j u)) Q E s) :
  OpR X f (rI C fun i j=>.int (g i j)):=by
 intro pins s σ H x y v u Q I rx ry h
 obtain ⟨i,j,rfl,rfl,hc,q⟩:=h
 obtain ⟨t,rfl⟩:=rx
 obtain ⟨t',rfl⟩:=ry
 exact rule i j t t' s _ _ hc ⟨.int (g i j),H,I.tok _,⟨_,rfl⟩,q⟩
theorem eB {f:Value→Value→Sem Value} {g:Int→Int→Int}
  (rule:∀(i j:Int) (t u:Tok) (s:Shared) (Q:Value→Shared→Prop) (E:Value→Shared→Prop),Q (.int (g i j) s.toks) {s with toks:=s.toks+1}→wpAny (model X.prog X.w) X.A (f (.int i t) (.int j u)) Q E s) :
  OpR X f (v6 fun i j=>.int (g i j)):=by
 intro pins s σ H x y v u Q I rx ry h
 obtain ⟨i,j,rfl,rfl,q⟩:=h
 obtain ⟨t,rfl⟩:=rx
 obtain ⟨t',rfl⟩:=ry
 exact rule i j t t' s _ _ ⟨.int (g i j),H,I.tok _,⟨_,rfl⟩,q⟩
theorem QF {f:Value→Value→Sem Value} {g:Int→Int→Bool}
  (rule:∀(i j:Int) (t u:Tok) (s:Shared) (Q:Value→Shared→Prop) (E:Value→Shared→Prop),Q (.bool (g i j)) s→wpAny (model X.prog X.w) X.A (f (.int i t) (.int j u)) Q E s) :
  OpR X f (v6 fun i j=>.bl (g i j)):=by
 intro pins s σ H x y v u Q I rx ry h
 obtain ⟨i,j,rfl,rfl,q⟩:=h
 obtain ⟨t,rfl⟩:=rx
 obtain ⟨t',rfl⟩:=ry
 exact rule i j t t' s _ _ ⟨.bl (g i j),H,I,rfl,q⟩
def pN (i j:Int):Prop:=0<j∧j<1073741824
def pM (i j:Int):Prop:=0≤j∧j≤1000000∧i.natAbs<2 ^ 64
def CMul (i j:Int):Prop:=(-(2 ^ 64)<i∧i<2 ^ 64)∨(-(2 ^ 64)<j∧j<2 ^ 64)
theorem CMul.ok {i j:Int} (h:CMul i j):IntMulOk i j:=by
 rcases h with ⟨h1,h2⟩|⟨h1,h2⟩
 ·exact .of_left (intBits_le_64 h1 h2)
 ·exact .of_right (intBits_le_64 h1 h2)
theorem q8:OpR X (binaryOp .Add) (v6 fun i j=>.int (i+j)):=eB fun _ _ _ _ _ _ _ q=>add_int q
theorem zW:OpR X (binaryOp .Sub) (v6 fun i j=>.int (i - j)):=eB fun _ _ _ _ _ _ _ q=>sub_int q
theorem dH:OpR X (binaryOp .Mult) (rI CMul fun i j=>.int (i*j)):=QI fun _ _ _ _ _ _ _ hc q=>mul_int q hc.ok
theorem qJ:OpR X (binaryOp .FloorDiv) (rI pN fun i j=>.int (i / j)):=QI fun i j _ _ _ _ _ hc q=>by
 have h1:(0:Int)<j:=hc.1
 have h2:j<1073741824:=hc.2
 exact floordiv_int (by omega) (by rw [Int.fdiv_eq_ediv_of_nonneg i (by omega)];exact q) (.inl (PyProof.noPylong_small (by omega)))
theorem kC:OpR X (binaryOp .Mod) (rI (fun _ j=>0<j) fun i j=>.int (i%j)):=QI fun i j _ _ _ _ _ hc q=>by
 have h1:(0:Int)<j:=hc
 exact mod_int' (by omega) (by rw [Int.fmod_eq_emod_of_nonneg i (by omega)];exact q)
theorem nE:OpR X (binaryOp .Pow) (rI pM fun i j=>.int (i ^ j.toNat)):=QI fun _ _ _ _ _ _ _ hc q=>pow_int_small hc.1 hc.2.1 hc.2.2 q
theorem pO {f:Value→Sem Value} {g:Int→Int}
  (rule:∀(i:Int) (t:Tok) (s:Shared) (Q:Value→Shared→Prop) (E:Value→Shared→Prop),Q (.int (g i) s.toks) {s with toks:=s.toks+1}→wpAny (model X.prog X.w) X.A (f (.int i t)) Q E s) :
  ZP X f (rU fun i=>.int (g i)):=by
 intro pins s σ H x v Q I rx h
 obtain ⟨i,rfl,q⟩:=h
 obtain ⟨t,rfl⟩:=rx
 exact rule i t s _ _ ⟨.int (g i),H,I.tok _,⟨_,rfl⟩,q⟩
theorem zT:ZP X (unaryOp .USub) (rU fun i=>.int (-i)):=pO fun _ _ _ _ _ q=>neg_int q
end
def o7:V→V→Bool
 |.non,.non=>true|.non,.int _=>true|.int _,.non=>true|.non,.bl _=>true|.bl _,.non=>true|.non,.str _=>true|.str _,.non=>true
 |.int _,.int _=>true|.bl _,.bl _=>true|.str _,.str _=>true|.byt _,.byt _=>true
 |.int _,.str _=>true|.str _,.int _=>true|.bl _,.str _=>true|.str _,.bl _=>true
 |_,_=>false
def pU:R2:=fun x y H Q=>o7 x y=true∧Q (.bl (decide (x=y))) H
theorem mJ {i j:Int}:decide (V.int i=V.int j)=(i == j):=by
 rw [Bool.eq_iff_iff]
 simp
theorem nP {i j:Bool}:decide (V.bl i=V.bl j)=(i == j):=by
 rw [Bool.eq_iff_iff]
 simp
theorem mI {i j:Str}:decide (V.str i=V.str j)=(i == j):=by
 rw [Bool.eq_iff_iff]
 simp
theorem mK {i j:Array UInt8}:decide (V.byt i=V.byt j)=(i.toList == j.toList):=by
 rw [Bool.eq_iff_iff]
 cases i
 cases j
 simp
section
variable {X:Cx} {a b c:Expr} {ta tb tc:TE} {pos:Pos}
theorem kW {pins:List (Addr×Obj)} {σ:St} {H:Hp} {s:Shared} {Q:VK} {k k':Bool} (I:Inv X pins σ H s) (q:Q (.bl k) H) (e:k=k'):EP X pins σ Q (.bool k') s:=by
 subst e
 exact ⟨.bl k,H,I,rfl,q⟩
theorem qB:OpR X (compareOp .Eq) pU:=by
 intro pins s σ H x y v u Q I rx ry h
 obtain ⟨hs,q⟩:=h
 cases x with
 |non =>
  cases rx
  cases y with
  |non=>cases ry;exact PySem.EqNone.eq_none_none (kW I q (by simp))
  |bl j=>cases ry;exact PySem.EqNone.eq_none_bool (kW I q (by simp))
  |int j=>obtain ⟨t',rfl⟩:=ry;exact PySem.EqNone.eq_none_int (kW I q (by simp))
  |str j=>obtain ⟨t',rfl⟩:=ry;exact PySem.EqNone.eq_none_str (kW I q (by simp))
  |_=>exact absurd (show false=true from hs) Bool.false_ne_true
 |bl i =>
  cases rx
  cases y with
  |non=>cases ry;exact PySem.EqNone.eq_bool_none (kW I q (by simp))
  |bl j=>cases ry;exact eq_bool (kW I q nP)
  |str j=>obtain ⟨t',rfl⟩:=ry;exact PySem.EqMixed.eq_bool_str (kW I q (by simp))
  |_=>exact absurd (show false=true from hs) Bool.false_ne_true
 |int i =>
  obtain ⟨t,rfl⟩:=rx
  cases y with
  |non=>cases ry;exact PySem.EqNone.eq_int_none (kW I q (by simp))
  |int j=>obtain ⟨t',rfl⟩:=ry;exact eq_int (kW I q mJ)
  |str j=>obtain ⟨t',rfl⟩:=ry;exact PySem.EqMixed.eq_int_str (kW I q (by simp))
  |_=>exact absurd (show false=true from hs) Bool.false_ne_true
 |str i =>
  obtain ⟨t,rfl⟩:=rx
  cases y with
  |non=>cases ry;exact PySem.EqNone.eq_str_none (kW I q (by simp))
  |bl j=>cases ry;exact PySem.EqMixed.eq_str_bool (kW I q (by simp))
  |int j=>obtain ⟨t',rfl⟩:=ry;exact PySem.EqMixed.eq_str_int (kW I q (by simp))
  |str j=>obtain ⟨t',rfl⟩:=ry;exact eq_str (kW I q mI)
  |_=>exact absurd (show false=true from hs) Bool.false_ne_true
 |byt i =>
  obtain ⟨t,rfl⟩:=rx
  cases y with
  |byt j=>obtain ⟨t',rfl⟩:=ry;exact PySem.W.eq_bytes (kW I q mK)
  |_=>exact absurd (show false=true from hs) Bool.false_ne_true
 |_=>cases y<;>exact absurd (show false=true from hs) Bool.false_ne_true
theorem oD:OpR X (compareOp .Lt) (v6 fun i j=>.bl (decide (i<j))):=QF fun _ _ _ _ _ _ _ q=>lt_int q
theorem oE:OpR X (compareOp .LtE) (v6 fun i j=>.bl (decide (i≤j))):=QF fun _ _ _ _ _ _ _ q=>le_int q
theorem QC:OpR X (compareOp .Gt) (v6 fun i j=>.bl (decide (j<i))):=QF fun _ _ _ _ _ _ _ q=>gt_int q
theorem oF:OpR X (compareOp .GtE) (v6 fun i j=>.bl (decide (j≤i))):=QF fun _ _ _ _ _ _ _ q=>ge_int q
theorem lV:OpR X (compareOp .IsNot) (fun x y H Q=>y=.non∧Q (.bl (!decide (x=.non))) H):=by
 intro pins s σ H x y v u Q I rx ry h
 obtain ⟨rfl,q⟩:=h
 cases ry
 refine isnot_none_gen (kW I q ?_)
 cases x<;>first
  | (cases rx;rfl)
  | (obtain ⟨t,rfl⟩:=rx;rfl)
theorem OpR.or {f:Value→Value→Sem Value} {r r':R2} (h:OpR X f r) (h':OpR X f r'):OpR X f (fun x y H Q=>r x y H Q∨r' x y H Q):=by
 intro pins s σ H x y v u Q I rx ry q
 rcases q with q|q
 ·exact h pins s σ H x y v u Q I rx ry q
 ·exact h' pins s σ H x y v u Q I rx ry q
theorem j6 (b:Expr) {op:CmpOp} (h:op≠.In:=by decide) (h2:op≠.NotIn:=by decide):behindInMarks op b=false:=by
 have e1:(op == CmpOp.In)=false:=by cases op<;>first|rfl|exact absurd rfl h
 have e2:(op == CmpOp.NotIn)=false:=by cases op<;>first|rfl|exact absurd rfl h2
 cases b<;>simp [behindInMarks,e1,e2]
theorem yC {op:CmpOp} {r:R2} (ho:OpR X (compareOp op) r) (ha:PE X a ta) (hb:PE X b tb) (hm:behindInMarks op b=false):PE X (.Compare a [op] [b] pos) (QH r ta tb):=by
 intro pins s σ H Q I h
 exact wpAny_Compare1 (ZK ha hb I h fun v u s2 x y H2 I2 rx ry q=>ho pins s2 σ H2 x y v u Q I2 rx ry q) hm
def nU (t:TE):TT:=fun σ H Q=>t σ H fun x H'=>∃k,x=.bl k∧Q k H'
theorem kN {op:CmpOp} {r:R2} (ho:OpR X (compareOp op) r) (ha:PE X a ta) (hb:PE X b tb) (hm:behindInMarks op b=false):PT X (.Compare a [op] [b] pos) (nU (QH r ta tb)):=by
 intro pins s σ H Q I h
 refine wpAny_isTrue_Compare1 (jI (ha pins s σ H _ I h) fun v s1 ⟨x,H1,I1,r1,q1⟩=>jI (hb pins s1 σ H1 _ I1 q1) fun u s2 ⟨y,H2,I2,r2,q2⟩ =>
  jI (ho pins s2 σ H2 x y v u _ I2 r1 r2 q2) fun c s3 ⟨z,H3,I3,r3,k,e,q3⟩=>?_) hm
 subst e
 cases r3
 exact wpAny_truthy_bool ⟨H3,I3,q3⟩
def eF (K:PySem.W.Frag) (x:V) (H:Hp) (k:Bool):Prop :=
 match x with
 |.non=>k=false
 |.bl b=>k=b
 |.int i=>k=(i != 0)
 |.str y=>y.length≤sizeLine∧k=((y.length:Int) != 0)
 |.byt y=>y.size≤sizeLine∧k=((y.size:Int) != 0)
 |.ref p=>(∃xs,SqL K H p xs∧k = !xs.isEmpty)∨(∃xs,SqT K H p xs∧k = !xs.isEmpty)∨∃kvs,H p=some (.dK kvs)∧k = !kvs.isEmpty
 |_=>False
theorem gR {κ:Type} {kvs:List (κ×V)} {vs:List (κ×Value)} (r:KV kvs vs):(!vs.isEmpty) = !kvs.isEmpty:=by
 cases r<;>rfl
theorem Z1 {xs:List V} {its:List Value} (r:Vals xs its):(!its.toArray.isEmpty) = !xs.isEmpty:=by
 cases r<;>simp
theorem y0:(sizeLine:Nat)<2 ^ 63:=by rw [sizeLine_eq];decide
theorem mR:pK X (fun x H Q=>∃k,eF X.K x H k∧Q k H):=by
 intro pins s σ H x v Q I rx h
 obtain ⟨k,e,q⟩:=h
 have hl:=y0
 have hs:sizeLine=16777216:=sizeLine_eq
 cases x with
 |non =>
  cases rx
  have e':k=false:=e
  subst e'
  exact truthy_none ⟨H,I,q⟩
 |bl b =>
  cases rx
  have e':k=b:=e
  subst e'
  exact wpAny_truthy_bool ⟨H,I,q⟩
 |int i =>
  obtain ⟨t,rfl⟩:=rx
  have e':k=(i != 0):=e
  subst e'
  exact PySem.P.truthy_int ⟨H,I,q⟩
 |str y =>
  obtain ⟨t,rfl⟩:=rx
  obtain ⟨hy,e'⟩:y.length≤sizeLine∧k=((y.length:Int) != 0):=e
  subst e'
  exact PySem.P.truthy_str (by omega) ⟨H,I.tok _,q⟩
 |byt y =>
  obtain ⟨t,rfl⟩:=rx
  obtain ⟨hy,e'⟩:y.size≤sizeLine∧k=((y.size:Int) != 0):=e
  subst e'
  exact PySem.W.truthy_bytes (by omega) ⟨H,I.tok _,q⟩
 |ref p =>
  cases rx
  have e':(∃xs,SqL X.K H p xs∧k = !xs.isEmpty)∨(∃xs,SqT X.K H p xs∧k = !xs.isEmpty)∨∃kvs,H p=some (.dK kvs)∧k = !kvs.isEmpty:=e
  rcases e' with ⟨xs,hx,e'⟩|⟨xs,hx,e'⟩|⟨kvs,hx,e'⟩
  ·subst e'
   obtain ⟨its,r,pl,hz⟩:=I.list hx
   have hlen:=r.length
   exact wpAny_truthy_list pl.isList (by simp only [List.size_toArray];omega) ⟨H,I.tok _,by rw [Z1 r];exact q⟩
  ·subst e'
   obtain ⟨its,r,pl,hz⟩:=I.tuple hx
   have hlen:=r.length
   exact truthy_tuple pl (by simp only [List.size_toArray];omega) ⟨H,I.tok _,by rw [Z1 r];exact q⟩
  ·subst e'
   obtain ⟨hz,hS,vs,r,m⟩:kvs.length≤sizeLine∧(p == sysModules)=false∧∃vs,KV kvs vs∧s.heap.DictOf (Q8 X.prog X.w) p vs:=I.hok p _ hx
   have hlen:kvs.length=vs.length:=Paired.length r
   exact wpAny_truthy_dict hS m (by omega) ⟨H,I.tok _,by rw [gR r];exact q⟩
 |_=>exact (show False from e).elim
theorem bU (ha:PE X a ta) (he:∀whole,isTrue a X.env whole=(do let v ← whole;standAt a.pos;holding [v] (truthy v))) :
  PT X a (fun σ H Q=>ta σ H fun x H'=>∃k,eF X.K x H' k∧Q k H'):=by
 intro pins s σ H Q I h
 exact isTrue_plain (jI (ha pins s σ H _ I h) fun v s1 ⟨x,H1,I1,r1,q1⟩=>mR pins s1 σ H1 x v Q I1 r1 q1) (he _)
theorem ZZ:OpR X (binaryOp .Add) (fun x y H Q=>∃i j,x=.str i∧y=.str j∧i.length+j.length≤sizeLine∧Q (.str (i++j)) H):=by
 intro pins s σ H x y v u Q I rx ry h
 obtain ⟨i,j,rfl,rfl,hz,q⟩:=h
 obtain ⟨t,rfl⟩:=rx
 obtain ⟨t',rfl⟩:=ry
 exact add_str (fun t' tk=>⟨.str (i++j),H,I.tok _,⟨_,rfl⟩,q⟩) hz
theorem vV {x:V} {us:List Value} (r:Vals [x] us):∃u,us=[u]∧RelV x u:=by
 cases r with
 |cons r1 r2=>cases r2;exact ⟨_,rfl,r1⟩
theorem dQ {x y:V} {us:List Value} (r:Vals [x,y] us):∃u w',us=[u,w']∧RelV x u∧RelV y w':=by
 cases r with
 |cons r1 r2 =>
  cases r2 with
  |cons r3 r4=>cases r4;exact ⟨_,_,rfl,r1,r3⟩
theorem iM (hc:X.calm=true):CallR X (.builtin "max") (fun xs H Q=>∃i j,xs=[.int i,.int j]∧Q (.int (if j>i then j else i)) H):=by
 intro pins s σ H xs us Q I r h
 obtain ⟨i,j,rfl,q⟩:=h
 obtain ⟨u,w',rfl,⟨t,rfl⟩,⟨t',rfl⟩⟩:=dQ r
 refine max_two_ints (I.ok.hd hc) fun h' tk k=>⟨_,H,I.kept k,?_,q⟩
 by_cases hj:j>i
 ·rw [if_pos hj,if_pos hj];exact ⟨_,rfl⟩
 ·rw [if_neg hj,if_neg hj];exact ⟨_,rfl⟩
theorem iN:CallR X (.type "int") (fun xs H Q=>(∃i,xs=[.int i]∧Q (.int i) H)∨∃k,xs=[.bl k]∧Q (.int (if k then 1 else 0)) H):=by
 intro pins s σ H xs us Q I r h
 rcases h with ⟨i,rfl,q⟩|⟨k,rfl,q⟩
 ·obtain ⟨u,rfl,t,rfl⟩:=vV r
  exact call_int_int ⟨.int i,H,I,⟨_,rfl⟩,q⟩
 ·obtain ⟨u,rfl,r1⟩:=vV r
  cases r1
  exact call_int_bool ⟨.int (if k then 1 else 0),H,I.tok _,⟨_,rfl⟩,q⟩
end
end L2
namespace L2
open PySem PySem.Spec PyProof.Rows
section
variable {prog:Program} {w:World} {A:Around} {E:Value→Shared→Prop} {s:Shared} {K:PySem.W.Frag} {x dx C f:Addr} {mA:Str→Option Value} {name:Str} {v:Value}
end
section
variable {P:Program} {w:World} {H H':Hp} {h h':Heap} {a C dx:Addr} {fs fs':List (Str×V)}
end
structure Cls (K:PySem.W.Frag) (C:Addr):Prop where
 pg:PySem.W.plainGet K C Str.empty=true
 hd:PySem.W.hasDictIn K C=true
 po:PySem.W.plainOver K C=true
 sa:PySem.W.findIn K (.ref C) "__setattr__"=some (some (.builtin "object.__setattr__"))
theorem Cls.get {K:PySem.W.Frag} {C:Addr} (c:Cls K C) (f:Str):PySem.W.plainGet K C f=true:=c.pg
section
variable {X:Cx} {pins:List (Addr×Obj)} {σ:St} {H:Hp} {s:Shared} {a C dx:Addr} {fs:List (Str×V)} {f:Str} {v:V} {A:Around} {E:Value→Shared→Prop}
theorem Inv.made (I:Inv X pins σ H s):Inv X pins σ (jB (jB H s.heap.objs.size (.own (s.heap.objs.size+1))) (s.heap.objs.size+1) (.ins C s.heap.objs.size []))
  {s with heap:=(s.heap.push PySem.W.emptyDict).push (PySem.W.instObj C s.heap.objs.size)}:=by
 have e1:(s.heap.push PySem.W.emptyDict).get? s.heap.objs.size=some PySem.W.emptyDict:=Heap.get?_push_size s.heap rfl
 have e2:((s.heap.push PySem.W.emptyDict).push (PySem.W.instObj C s.heap.objs.size)).get? (s.heap.objs.size+1)=some (PySem.W.instObj C s.heap.objs.size):=by
  have:=Heap.get?_push_size (s.heap.push PySem.W.emptyDict) (o:=PySem.W.instObj C s.heap.objs.size) rfl
  rwa [Heap.size_push] at this
 have e3:(s.heap.push PySem.W.emptyDict).Ns s.heap.objs.size (fun _=>none):=⟨PySem.W.emptyDict,#[],_,e1,rfl,(fun e he=>absurd he (by simp)),fun _=>rfl⟩
 have I1:=I.laid (a:=s.heap.objs.size) (o:=.own (s.heap.objs.size+1)) (h':=s.heap.push PySem.W.emptyDict) (t':=s.toks) (fun b u q=>Heap.get?_push_of_some _ q) (Nat.le_refl _) ⟨_,e1⟩
 refine I1.laid (a:=s.heap.objs.size+1) (o:=.ins C s.heap.objs.size []) (t':=s.toks) (fun b u q=>Heap.get?_push_of_some _ q) (Nat.le_of_eq (Heap.size_push _ _)) ?_
 have ne:s.heap.objs.size≠s.heap.objs.size+1:=Nat.ne_of_lt (Nat.lt_succ_self _)
 refine ⟨by rw [jC ne,jE],Nat.zero_le _,ne,e2,fun _=>none,(Heap.Ns1.of_empty e3).at fun o q=>Heap.get?_push_of_some _ q,fun _=>True.intro,fun y hy=>absurd rfl hy⟩
end
section
variable {X:Cx} {o e value:Expr} {f:Str} {pos pos' tpos:Pos} {ta tv:TE}
end
section
variable {X:Cx} {pins:List (Addr×Obj)} {σ:St} {H:Hp} {s:Shared} {A:Around} {E:Value→Shared→Prop} {Q:Value→Shared→Prop} {c:Value} {b:Bool}
end
end L2
namespace L2
open PySem PySem.Spec PyProof.Rows
structure Room (k:Nat) (A:Around):Prop where
 hd:A.handled=none
 dp:A.depth+3*k+5<recursionLimit
 un:A.units+16*k+200<cLine
theorem Room.mono {j k:Nat} {A:Around} (r:Room k A) (h:j≤k):Room j A:=⟨r.hd,by have:=r.dp;omega,by have:=r.un;omega⟩
theorem Room.deeper {k:Nat} {A:Around} (r:Room (k+1) A) (env:Env):Room k (A.deeper env) :=
 ⟨r.hd,by have:=r.dp;show A.depth+1+3*k+5<_;omega,by have:=r.un;show A.units+3+16*k+200<_;omega⟩
theorem Room.depth {k:Nat} {A:Around} (r:Room k A):A.depth<recursionLimit:=by have:=r.dp;omega
theorem Room.units {k:Nat} {A:Around} (r:Room k A):A.units+64<cLine:=by have:=r.un;omega
theorem Room.units0 {k:Nat} {A:Around} (r:Room k A):A.units<cLine:=by have:=r.un;omega
def oX:TA:=fun _ H Q=>Q [] H
def n4 (ta:TE) (tr:TA):TA:=fun σ H Q=>ta σ H fun x H1=>tr σ H1 fun xs H2=>Q (x::xs) H2
section
variable {X:Cx} {e:Expr} {es:List Expr} {te:TE} {t:TA} {pos:Pos}
theorem jD:PA X [] oX:=fun _ _ _ _ H Q I h=>Calls.spliced_nil ⟨[],H,I,.nil,h⟩
theorem jA (ha:PE X e te) (hr:PA X es t) (hs:starEach (e::es) X.env=(false,eval e X.env)::starEach es X.env:=by rfl):PA X (e::es) (n4 te t):=by
 intro pos pins s σ H Q I h
 rw [hs]
 show wpAny _ _ (spliced ((false,eval e X.env)::backTo pos (starEach es X.env))) _ _ s
 refine Calls.spliced_cons (jI (ha pins s σ H _ I h) fun u s1 ⟨x,H1,I1,r1,q1⟩=>?_)
 exact jI (hr pos pins s1 σ H1 _ I1 q1) fun us s2 ⟨xs,H2,I2,r2,q2⟩=>⟨x::xs,H2,I2,.cons r1 r2,q2⟩
def oR (t:TA):TE:=fun σ H Q=>t σ H fun xs H1=>xs.length≤sizeLine∧∀p,H1 p=none→Q (.ref p) (jB H1 p (.tup xs))
def oY (t:TA):TE:=fun σ H Q=>t σ H fun xs H1=>xs.length≤sizeLine∧∀p,H1 p=none→Q (.ref p) (jB H1 p (.lst xs))
theorem vU {x1} (h:PA X es t):PE X (.Tuple es x1 pos) (oR t):=by
 intro pins s σ H Q I hq
 refine wpAny_Tuple_spliced (jI (h pos pins s σ H _ I hq) fun us s1 ⟨xs,H1,I1,r,z,q⟩=>⟨by rw [← r.length];exact z,?_⟩)
 have hf:H1 s1.heap.objs.size=none:=I1.hok.fresh (Nat.le_refl _)
 refine ⟨.ref s1.heap.objs.size,jB H1 s1.heap.objs.size (.tup xs),I1.laid (t':=s1.toks) (fun b u e=>Heap.get?_push_of_some _ e) (Nat.le_refl _) ?_,rfl,q _ hf⟩
 exact ⟨z,us,r,⟨_,Heap.get?_push_size _ rfl,rfl,_,rfl⟩⟩
theorem j8 (h:PA X es t):PE X (.List es pos) (oY t):=by
 intro pins s σ H Q I hq
 refine wpAny_List_spliced (jI (h pos pins s σ H _ I hq) fun us s1 ⟨xs,H1,I1,r,z,q⟩=>⟨by rw [← r.length];exact z,?_⟩)
 have hf:H1 s1.heap.objs.size=none:=I1.hok.fresh (Nat.le_refl _)
 refine ⟨.ref s1.heap.objs.size,jB H1 s1.heap.objs.size (.lst xs),I1.laid (t':=s1.toks) (fun b u e=>Heap.get?_push_of_some _ e) (Nat.le_refl _) ?_,rfl,q _ hf⟩
 exact ⟨z,us,0,r,Heap.get?_push_size _ rfl⟩
end
abbrev Sp:=List V→Hp→VK→XK→Prop
abbrev kE:=List Env→Hp→Shared→XK→Value→Shared→Prop
structure Env0 (P:Program) (w:World) (K:PySem.W.Frag) (mg:Str→Option Value) (base:Heap) (A:Around) (outer:List Env) (s:Shared) (H:Hp):Prop where
 frames:A.frames=some outer
 mod:Mod K mg base
 bs:∀b o,base.get? b=some o→s.heap.get? b=some o∧H b=none
 bsz:base.objs.size≤s.heap.objs.size
 funs:s.heap.FunFrames base outer
 frf:∀b∈jV outer,H b=none
 hok:HOk P w H s.heap
 bare:AllBare s.gens
def CE (outer:List Env) (P:Program) (w:World) (H:Hp) (s:Shared) (Q:VK) (u:Value) (s':Shared):Prop :=
 ∃v H',s'.os=s.os∧AllBare s'.gens∧Un (jV outer) [] H H' s.heap s'.heap∧HOk P w H' s'.heap∧RelV v u∧Q v H'
def CR (CX:kE) (outer:List Env) (P:Program) (w:World) (H:Hp) (s:Shared) (Q:VK) (E:XK) (r:Result) (s':Shared):Prop :=
 match r with
 |.ok (.ret u)=>CE outer P w H s Q u s'
 |.ok _=>False
 |.error e=>CX outer H s E e s'
structure FnOk (P:Program) (w:World) (K:PySem.W.Frag) (mg:Str→Option Value) (base:Heap) (CX:kE) (k:Nat) (f:Addr) (fd:FuncData) (ps:List Str) (sp:Sp):Prop where
 len:∀vs H Q E,sp vs H Q E→vs.length=ps.length
 run:∀(A:Around) (outer:List Env) (s:Shared) (H:Hp) (args:Args) (us:List Value) (vs:List V) (Q:VK) (E:XK),Room k A→Env0 P w K mg base A outer s H→BindsTo s fd args (ps.zip us)→Vals vs us→sp vs H Q E→
  codeAny (model P w) A (.call (.ref f) args) (CR CX outer P w H s Q E) s
theorem FnOk.mono {P:Program} {w:World} {K:PySem.W.Frag} {mg:Str→Option Value} {base:Heap} {CX:kE} {j k:Nat} {f:Addr} {fd:FuncData} {ps:List Str} {sp:Sp} (F:FnOk P w K mg base CX j f fd ps sp) (h:j≤k) :
  FnOk P w K mg base CX k f fd ps sp:=⟨F.len,fun A outer s H args us vs Q E hr=>F.run A outer s H args us vs Q E (hr.mono h)⟩
theorem FnOk.imp {P:Program} {w:World} {K:PySem.W.Frag} {mg:Str→Option Value} {base:Heap} {CX:kE} {k:Nat} {f:Addr} {fd:FuncData} {ps:List Str} {sp sp':Sp} (F:FnOk P w K mg base CX k f fd ps sp)
  (h:∀vs H Q E,sp' vs H Q E→sp vs H Q E):FnOk P w K mg base CX k f fd ps sp' :=
 ⟨fun vs H Q E q=>F.len vs H Q E (h _ _ _ _ q),fun A outer s H args us vs Q E hr he hb hv hs=>F.run A outer s H args us vs Q E hr he hb hv (h _ _ _ _ hs)⟩
section
variable {X:Cx} {pins:List (Addr×Obj)} {σ:St} {H:Hp} {s s':Shared}
theorem Inv.env0 (I:Inv X pins σ H s):Env0 X.prog X.w X.K X.mg X.base X.A X.stack s H :=
 ⟨I.ok.frames,I.ok.mod,I.bs,Nat.le_trans I.ok.bsz I.sz,I.stack,I.stkFree,I.hok,I.bare⟩
theorem Inv.after {Q:VK} {u:Value} (I:Inv X pins σ H s) (h:CE X.stack X.prog X.w H s Q u s'):EP X pins σ Q u s':=by
 obtain ⟨v,H',os,bare,un,hok,r,q⟩:=h
 obtain ⟨hh,g,d,t,os'⟩:=s'
 obtain rfl:os'=s.os:=os
 exact ⟨v,H',I.call (h':=hh) (g':=g) (d':=d) (t':=t) (ch:=[]) un hok bare (fun b z=>absurd z (by simp)),r,q⟩
end
def dS (sp:Sp) (dvs:List V) (E:XK) (t:TA):TE:=fun σ H Q=>t σ H fun vs H1=>sp (vs++dvs) H1 Q E
def Binds (K:PySem.W.Frag) (fd:FuncData) (ps:List Str) (ds:List Value):Prop :=
 ∀(s:Shared) (us:List Value),K.In s.heap→(us++ds).length=ps.length→BindsTo s fd ⟨us,[]⟩ (ps.zip (us++ds))
theorem Binds.all {K:PySem.W.Frag} {fd:FuncData} {ps:List Str} (h:∀us:List Value,us.length=ps.length→bindArgs fd ⟨us,[]⟩=pure (ps.zip us)):Binds K fd ps []:=fun s us _ hl=>by
 rw [List.append_nil] at hl ⊢
 exact .of_eq (h us hl)
def QB (CX:kE) (X:Cx) (E:XK):Prop:=∀(pins:List (Addr×Obj)) (σ:St) (H:Hp) (s:Shared) (e:Value) (s':Shared),Inv X pins σ H s→CX X.stack H s E e s'→X.xe e s'
section
variable {X:Cx} {CX:kE} {k:Nat} {f C:Addr} {fd:FuncData} {ps:List Str} {sp:Sp} {dvs:List V} {ds:List Value} {E:XK} {x m:Str} {p pos apos:Pos} {e o:Expr} {es:List Expr} {ta:TE} {t:TA}
theorem mY {pins:List (Addr×Obj)} {σ:St} {H:Hp} {s:Shared} {Q:VK} {us:List Value} {vs:List V} (F:FnOk X.prog X.w X.K X.mg X.base CX k f fd ps sp) (hr:Room k X.A) (hb:Binds X.K fd ps ds) (hd:Vals dvs ds) (hx:QB CX X E)
  (I:Inv X pins σ H s) (r:Vals vs us) (h:sp (vs++dvs) H Q E):wpAny (model X.prog X.w) X.A (call (.ref f) us) (EP X pins σ Q) X.xe s:=by
 have r2:Vals (vs++dvs) (us++ds):=r.append hd
 have hl:(us++ds).length=ps.length:=by rw [← r2.length];exact F.len _ _ _ _ h
 refine wpAny_call (codeAny_mono (F.run X.A X.stack s H ⟨us,[]⟩ (us++ds) (vs++dvs) Q E hr I.env0 (hb s us I.kIn hl) r2 h) fun r s' hq=>?_)
 cases r with
 |error e=>exact hx pins σ H s e s' I hq
 |ok fl =>
  cases fl with
  |ret u=>exact I.after hq
  |next=>exact False.elim hq
  |brk=>exact False.elim hq
  |cont=>exact False.elim hq
theorem lT (F:FnOk X.prog X.w X.K X.mg X.base CX k f fd ps sp) (hr:Room k X.A) (hg:Gl X x) (hm:X.mg x=some (.ref f)) (hk:PySem.W.keepIn X.K (.ref f)=true) (hb:Binds X.K fd ps ds) (hd:Vals dvs ds) (hx:QB CX X E)
  (ha:PA X (e::es) t) (hdb:(x == ("__debug__":Str))=false:=by decide) (he:starEach (e::es) X.env=(false,eval e X.env)::starEach es X.env:=by rfl) (hpl:(backTo pos (starEach es X.env)).any (·.1)=false:=by rfl) :
  PE X (.Call (.Name x p) (e::es) [] pos) (dS sp dvs E t):=by
 intro pins s σ H Q I h
 refine wpAny_Call_Name_kw (yY I hg hm ?_ hdb)
 refine PySem.W.callWith_K (h₀:=X.base) I.ok.mod.kin hk (jI (ha pos pins s σ H _ I h) fun us s1 ⟨vs,H1,I1,r,q⟩=>⟨I1.kIn,?_⟩) he hpl
 exact mY F hr hb hd hx I1 r q
end
section
variable {X:Cx} {CX:kE} {k:Nat} {f C:Addr} {fd:FuncData} {ps ks:List Str} {sp:Sp} {E:XK} {x m:Str} {p pos apos kpos:Pos} {e o:Expr} {es:List Expr} {kws:List Keyword} {te ta:TE} {t tk:TA} {nm:Option Str}
variable {g:List Value→List Value→List Value} {gV:List V→List V→List V}
end
structure FnScope (N P:List Str) (sc:Scope):Prop where
 kind:sc.kind=.function
 co:sc.isCoroutine=false
 gen:sc.isGenerator=false
 nd:N.Nodup
 pre:N.take P.length=P
 par:∀x∈P,sc.names.lookup x=some .local∨sc.names.lookup x=some .cell
 nofree:∀y∈sc.names,y.2≠.free
theorem bK {kindOf:Str→Option NameKind} {x:Str}:∀{binds:List (Str×Value)} {m:Str→Option Value},(∀v,(x,v)∉binds)→bindL kindOf binds m x=m x
 |[],_,_=>rfl
 | (n,v)::r,m,h=>by
  unfold bindL
  rw [bK fun w hw=>h w (List.mem_cons_of_mem _ hw)]
  split
  ·have:x≠n:=by rintro rfl;exact h v List.mem_cons_self
   simp [this]
  ·rfl
theorem bM {kindOf:Str→Option NameKind} {x:Str}:∀{binds:List (Str×Value)} {m:Str→Option Value},(∀v,(x,v)∉binds)→bindC kindOf binds m x=m x
 |[],_,_=>rfl
 | (n,v)::r,m,h=>by
  unfold bindC
  rw [bM fun w hw=>h w (List.mem_cons_of_mem _ hw)]
  split
  ·rfl
  ·have:x≠n:=by rintro rfl;exact h v List.mem_cons_self
   simp [this]
theorem bL {kindOf:Str→Option NameKind} {x:Str} {v:Value}:∀{P:List Str} {vs:List Value} {i:Nat} {m:Str→Option Value},P.Nodup→P[i]?=some x→vs[i]?=some v→kindOf x=some .local→
  bindL kindOf (P.zip vs) m x=some v
 |[],_,_,_,_,h,_,_=>by simp at h
 |_::_,[],_,_,_,_,h,_=>by simp at h
 |p::P,w::vs,0,m,nd,h1,h2,hk=>by
  simp at h1 h2;subst h1;subst h2
  show bindL kindOf ((p,w)::P.zip vs) m p=_
  unfold bindL
  rw [bK fun v hv=>(List.nodup_cons.mp nd).1 (List.of_mem_zip hv).1,if_pos hk]
  simp
 |p::P,w::vs,i+1,m,nd,h1,h2,hk=>by
  show bindL kindOf ((p,w)::P.zip vs) m x=_
  unfold bindL
  exact bL (i:=i) (List.nodup_cons.mp nd).2 (by simpa using h1) (by simpa using h2) hk
theorem bN {kindOf:Str→Option NameKind} {x:Str} {v:Value}:∀{P:List Str} {vs:List Value} {i:Nat} {m:Str→Option Value},P.Nodup→P[i]?=some x→vs[i]?=some v→kindOf x≠some .local→
  bindC kindOf (P.zip vs) m x=some v
 |[],_,_,_,_,h,_,_=>by simp at h
 |_::_,[],_,_,_,_,h,_=>by simp at h
 |p::P,w::vs,0,m,nd,h1,h2,hk=>by
  simp at h1 h2;subst h1;subst h2
  show bindC kindOf ((p,w)::P.zip vs) m p=_
  unfold bindC
  rw [bM fun v hv=>(List.nodup_cons.mp nd).1 (List.of_mem_zip hv).1,if_neg hk]
  simp
 |p::P,w::vs,i+1,m,nd,h1,h2,hk=>by
  show bindC kindOf ((p,w)::P.zip vs) m x=_
  unfold bindC
  exact bN (i:=i) (List.nodup_cons.mp nd).2 (by simpa using h1) (by simpa using h2) hk
def kL (N:List Str) (vs:List V):St:=vs.map some++List.replicate (N.length - vs.length) none
def kY (CX:kE) (P:Program) (w:World) (K:PySem.W.Frag) (mg:Str→Option Value) (base:Heap) (N:List Str) (qual:Str) (scope:Scope) (f:Addr) (cd:Value) (A:Around) (outer:List Env) (s:Shared) (H:Hp) (E:XK):Cx where
 prog:=P
 w:=w
 K:=K
 mg:=mg
 base:=base
 A:=A.deeper (envOfC qual scope s.heap.objs.size f cd)
 N:=N
 s₀:=s
 H₀:=H
 env:=envOfC qual scope s.heap.objs.size f cd
 outer:=outer
 stack:=envOfC qual scope s.heap.objs.size f cd::outer
 ex:=[]
 calm:=true
 fn:=fun _=>true
 pn:=[]
 xe:=fun e s'=>wpAny (model P w) (A.deeper (envOfC qual scope s.heap.objs.size f cd)) (leaving (envOfC qual scope s.heap.objs.size f cd) e) (fun _ s''=>CX outer H s E e s'') (fun e' s''=>CX outer H s E e' s'') s'
theorem cF {sc:Scope} {n:Nat} {x:Str} (h:sc.names.lookup x=some .cell):∃c,(cellsFrom n sc.names []).lookup x=some c:=by
 have q:=PySem.W.cellsFrom_some sc.names n [] (.inl h)
 exact Option.isSome_iff_exists.mp q
theorem iE {CX:kE} {P:Program} {w:World} {K:PySem.W.Frag} {mg:Str→Option Value} {base:Heap} {N ps:List Str} {qual:Str} {scope:Scope} {f:Addr} {cd:Value} {A:Around} {outer:List Env} {s s1:Shared} {H:Hp} {E:XK} {us:List Value} {vs:List V}
  (S:FnScope N ps scope) (hd:A.handled=none) (e0:Env0 P w K mg base A outer s H) (hl:vs.length=ps.length) (r:Vals vs us)
  (x:InCallC s s.heap.objs.size (bindL (envOfC qual scope s.heap.objs.size f cd).kindOf (ps.zip us) fun _=>none) (cellsFrom (s.heap.objs.size+1) scope.names []) (bindC (envOfC qual scope s.heap.objs.size f cd).kindOf (ps.zip us) fun _=>none) s1) :
  Inv (kY CX P w K mg base N qual scope f cd A outer s H E) [] (kL N vs) H s1:=by
 have hpl:ps.length≤N.length:=by have:=congrArg List.length S.pre;rw [List.length_take] at this;omega
 obtain ⟨h1,tk,rfl,hk⟩:=x.done
 have noA:∀b:Addr,b∉(kY CX P w K mg base N qual scope f cd A outer s H E).ex:=fun b z=>absurd (show b∈([]:List Addr) from z) (by simp)
 refine ⟨⟨e0.mod,S.kind,rfl,rfl,Nat.le_refl _,fun y z c h1 h2=>?_,fun y hy=>?_,fun y c _ h=>?_,fun _=>hd,Around.frames_deeper e0.frames,.inr ⟨rfl,rfl⟩,fun b z=>absurd z (noA b),e0.bs,e0.bsz,fun b _ _=>noA b,fun b z=>absurd z (noA b),e0.funs,e0.frf⟩,
  rfl,e0.bare,Un.kept hk,⟨_,x.toInCall.ns,fun i y v h1 h2 h3=>?_⟩,fun y c h=>⟨_,x.cell y c h⟩,e0.hok.fresh (Nat.le_refl _),fun y c h=>?_,fun p hp=>absurd (show p∈([]:List (Addr×Obj)) from hp) (by simp),e0.hok.kept hk,?_⟩
 ·exact name_of_addr x.apart (PySem.mem_of_lookup h1) (PySem.mem_of_lookup h2)
 ·have hy:scope.names.lookup y=some .cell∨scope.names.lookup y=some .free:=hy
  rcases hy with hy|hy
  ·exact cF hy
  ·exact absurd rfl (S.nofree _ (PySem.mem_of_lookup hy))
 ·exact Nat.le_of_lt (x.above y c (PySem.mem_of_lookup h))
 ·have hi:i<vs.length:=by
   unfold kL at h2
   by_cases hi:i<vs.length
   ·exact hi
   ·rw [List.getElem?_append_right (by simpa using hi)] at h2
    rw [List.getElem?_replicate] at h2
    split at h2<;>cases h2
  have ha:vs[i]?=some v:=by
   unfold kL at h2
   rw [List.getElem?_append_left (by simpa using hi),List.getElem?_map] at h2
   cases e:vs[i]? with
   |none=>rw [e] at h2;cases h2
   |some a=>rw [e] at h2;cases h2;rfl
  obtain ⟨u,hu,rv⟩:=r.get ha
  have hp:ps[i]?=some y:=by
   rw [← S.pre,List.getElem?_take_of_lt (by omega)];exact h1
  have ndP:ps.Nodup:=by rw [← S.pre];exact S.nd.sublist (List.take_sublist _ _)
  refine ⟨u,rv,?_⟩
  rcases S.par y (List.mem_of_getElem? hp) with k|k
  ·exact .inl ⟨k,bL ndP hp hu k⟩
  ·obtain ⟨c,e⟩:=cF (n:=s.heap.objs.size+1) k
   refine .inr ⟨.inl k,c,e,?_⟩
   have q:=x.cell y c e
   rw [bN ndP hp hu (by show scope.names.lookup y≠_;rw [k];decide)] at q
   exact q
 ·exact e0.hok.fresh (Nat.le_of_lt (x.above y c (PySem.mem_of_lookup h)))
 ·unfold kL
  show _=N.length
  rw [List.length_append,List.length_map,List.length_replicate]
  omega
theorem z5 {CX:kE} {P:Program} {w:World} {K:PySem.W.Frag} {mg:Str→Option Value} {base:Heap} {k:Nat} {f:Addr} {name qual:Str} {params:Arguments} {body:List Stmt} {scope:Scope} {dV kV doc pm cdv ct oc:Value} {an od:Option Addr}
  {osl:Array (Option Value)} {N ps:List Str} {sp:Sp} (lk:K.lookup f=some ⟨oc,od,.func (PySem.W.fnOf name qual params body scope dV kV doc pm an cdv ct),osl⟩) (hcd:PySem.W.codeIn K cdv qual=true) (S:FnScope N ps scope)
  (len:∀vs H Q E,sp vs H Q E→vs.length=ps.length)
  (hbody:∀(A:Around) (outer:List Env) (s:Shared) (H:Hp) (vs:List V) (Q:VK) (E:XK),Room k (A.deeper (envOfC qual scope s.heap.objs.size f cdv))→sp vs H Q E→
   ∃t,PSs (kY CX P w K mg base N qual scope f cdv A outer s H E) body t∧t {nx:=fun _ H'=>Q .non H',rt:=Q} (kL N vs) H) :
  FnOk P w K mg base CX (k+1) f (PySem.W.fnOf name qual params body scope dV kV doc pm an cdv ct) ps sp:=by
 refine ⟨len,fun A outer s H args us vs Q E hr e0 hb r hsp=>?_⟩
 have hl:=len _ _ _ _ hsp
 have KX:K.In s.heap:=e0.mod.kin.keeps fun b o e=>(e0.bs b o e).1
 have lim:s.heap.NoLimit:=e0.mod.nolimit.keeps fun b o e=>(e0.bs b o e).1
 have hkind:∀y∈ps.zip us,scope.names.lookup y.1=some .local∨(scope.names.lookup y.1=some .cell∧((cellsFrom (s.heap.objs.size+1) scope.names []).lookup y.1).isSome=true):=fun ⟨n,v⟩ hy=>by
  rcases S.par n (List.of_mem_zip hy).1 with q|q
  ·exact .inl q
  ·exact .inr ⟨q,PySem.W.cellsFrom_some _ _ _ (.inl q)⟩
 refine codeAny_call_function hr.depth (KX _ _ lk) rfl S.co S.gen rfl (PySem.W.codeRec_of KX hcd) (hb _ _ _ _ ?_)
 refine wpAny_newFunctionEnv_cells S.kind hkind fun env he s1 x=>?_
 subst he
 refine ⟨lim.keeps x.toInCall.keep,codeAny_func ?_⟩
 obtain ⟨t,ht,hq⟩:=hbody A outer s H vs Q E (hr.deeper _) hsp
 have I:Inv (kY CX P w K mg base N qual scope f cdv A outer s H E) [] (kL N vs) H s1:=iE S hr.hd e0 hl r x
 refine wpAny_mono (ht [] s1 (kL N vs) H _ I hq) (fun fl s' hs=>?_) fun e s' hs=>hs
 have fin:∀{σ':St} {H':Hp} {v:V} {u:Value},Inv (kY CX P w K mg base N qual scope f cdv A outer s H E) [] σ' H' s'→RelV v u→Q v H'→CE outer P w H s Q u s' :=
  fun {σ' H' v u} J rv q=>⟨v,H',J.os,J.bare,J.base,J.hok,rv,q⟩
 cases fl with
 |ret u =>
  obtain ⟨v,σ',H',J,rv,q⟩:=hs
  exact fin J rv q
 |next =>
  obtain ⟨σ',H',J,q⟩:=hs
  exact fin (v:=V.non) (u:=Value.none) J rfl q
 |brk =>
  obtain ⟨_,_,_,q⟩:=hs
  exact False.elim q
 |cont =>
  obtain ⟨_,_,_,q⟩:=hs
  exact False.elim q
end L2
namespace L2
open PySem PySem.Spec PyProof.Rows
section
variable {X:Cx} {x:Str} {p pos:Pos} {e:Expr} {es:List Expr} {t:TA} {id T:String} {r:List V→Hp→VK→Prop}
def eJ (r:List V→Hp→VK→Prop) (t:TA):TE:=fun σ H Q=>t σ H fun vs H1=>r vs H1 Q
theorem qA (hc:CallR X (.builtin id) r) (hg:Gl X x) (hm:X.mg x=none) (hv:bootBuiltins x=some (.builtin id)) (ha:PA X (e::es) t) (hn:x≠"__name__":=by decide) (hdb:(x == ("__debug__":Str))=false:=by decide)
  (he:starEach (e::es) X.env=(false,eval e X.env)::starEach es X.env:=by rfl) (hpl:(backTo pos (starEach es X.env)).any (·.1)=false:=by rfl):PE X (.Call (.Name x p) (e::es) [] pos) (eJ r t):=by
 intro pins s σ H Q I h
 refine wpAny_Call_Name_kw (y6 I hg hm hv ?_ hn hdb)
 exact PyProof.Rows.callWith_builtin1 (jI (ha pos pins s σ H _ I h) fun us s1 ⟨vs,H1,I1,r1,q1⟩=>hc pins s1 σ H1 vs us Q I1 r1 q1) he hpl
theorem JD (hc:CallR X (.type T) r) (hg:Gl X x) (hm:X.mg x=none) (hv:bootBuiltins x=some (.type T)) (ha:PA X (e::es) t) (hn:x≠"__name__":=by decide) (hdb:(x == ("__debug__":Str))=false:=by decide)
  (he:starEach (e::es) X.env=(false,eval e X.env)::starEach es X.env:=by rfl) (hpl:(backTo pos (starEach es X.env)).any (·.1)=false:=by rfl):PE X (.Call (.Name x p) (e::es) [] pos) (eJ r t):=by
 intro pins s σ H Q I h
 refine wpAny_Call_Name_kw (y6 I hg hm hv ?_ hn hdb)
 exact PyProof.Rows.callWith_type1 (jI (ha pos pins s σ H _ I h) fun us s1 ⟨vs,H1,I1,r1,q1⟩=>hc pins s1 σ H1 vs us Q I1 r1 q1) he hpl
end
end L2
namespace HT
open PySem PyProof.Rows
section
open PySem.SeqAt
open PySem.AutoSeq1 (wpAny_loadPart')
open PySem.MeetsSeq PySem.MeetsSeq2 PySem.MeetsSeq3
end
section
variable {prog:Program} {w:World} {A:Around} {E:Value→Shared→Prop} {s:Shared}
def sIx (n d:Nat):Option Int→Nat
 |none=>d
 |some v=>if v<0 then (v+(n:Int)).toNat else min v.toNat n
end
end HT
namespace L2
open PySem PySem.Spec PyProof.Rows
abbrev TO:=St→Hp→(Option Int→Hp→Prop)→Prop
def PO (X:Cx) (e:Option Expr) (t:TO):Prop :=
 ∀(pins:List (Addr×Obj)) (s:Shared) (σ:St) (H:Hp) (Q:Option Int→Hp→Prop),Inv X pins σ H s→t σ H Q→
  wpAny (model X.prog X.w) X.A (evalPart e X.env) (fun u s'=>∃o H',Inv X pins σ H' s'∧IsPart u o∧Q o H') X.xe s
def lL:TO:=fun _ H Q=>Q none H
def nV (t:TE):TO:=fun σ H Q=>t σ H fun x H1=>∃i,x=.int i∧Q (some i) H1
section
variable {X:Cx} {e:Expr} {te:TE} {lo hi:Option Expr} {tl th:TO} {pos p2:Pos}
theorem Q7:PO X none lL:=by
 intro pins s σ H Q I h
 rw [evalPart_none]
 exact wpAny_pure ⟨none,H,I,.none,h⟩
theorem QM (h:PE X e te):PO X (some e) (nV te):=by
 intro pins s σ H Q I hw
 rw [evalPart_some]
 refine jI (h pins s σ H _ I hw) fun u s1 ⟨x,H1,I1,r1,q1⟩=>?_
 obtain ⟨i,rfl,q⟩:=q1
 obtain ⟨t,rfl⟩:=r1
 exact ⟨some i,H1,I1,.int i t,q⟩
def SlR (X:Cx) (r:V→Option Int→Option Int→Hp→VK→Prop):Prop :=
 ∀(pins:List (Addr×Obj)) (s:Shared) (σ:St) (H:Hp) (x:V) (v vl vu:Value) (lo hi:Option Int) (sl:Addr) (Q:VK),Inv X pins σ H s→RelV x v→s.heap.IsSliceOf sl vl vu .none→IsPart vl lo→IsPart vu hi→r x lo hi H Q→
  ∃T id,typeLookup (.type T) "__getitem__"=pure (some (.builtin id))∧s.TypeIs v T∧wpAny (model X.prog X.w) X.A (getItem v (.ref sl)) (EP X pins σ Q) X.xe s
theorem SlR.or {r r':V→Option Int→Option Int→Hp→VK→Prop} (h:SlR X r) (h':SlR X r'):SlR X (fun x lo hi H Q=>r x lo hi H Q∨r' x lo hi H Q):=by
 intro pins s σ H x v vl vu lo hi sl Q I rx hs pl pu q
 rcases q with q|q
 ·exact h pins s σ H x v vl vu lo hi sl Q I rx hs pl pu q
 ·exact h' pins s σ H x v vl vu lo hi sl Q I rx hs pl pu q
def pQ (r:V→Option Int→Option Int→Hp→VK→Prop) (te:TE) (tl th:TO):TE:=fun σ H Q=>te σ H fun x H1=>tl σ H1 fun l H2=>th σ H2 fun u H3=>r x l u H3 Q
theorem Q1 {r:V→Option Int→Option Int→Hp→VK→Prop} (hr:SlR X r) (he:PE X e te) (hl:PO X lo tl) (hu:PO X hi th):PE X (.Subscript e (.Slice lo hi none p2) pos) (pQ r te tl th):=by
 intro pins s σ H Q I h
 refine Subscript_ (jI (he pins s σ H _ I h) fun v s1 ⟨x,H1,I1,r1,q1⟩=>?_)
 refine wpAny_Slice (jI (hl pins s1 σ H1 _ I1 q1) fun vl s2 ⟨l,H2,I2,pl,q2⟩=>jI (hu pins s2 σ H2 _ I2 q2) fun vu s3 ⟨u,H3,I3,pu,q3⟩=>?_)
 rw [evalPart_none]
 refine wpAny_pure ?_
 have I4:Inv X pins σ H3 {s3 with heap:=s3.heap.push {cls:=.type "slice",data:=.fields #[vl,vu,.none]}}:=I3.kept (t':=s3.toks) fun b ob q=>Heap.get?_push_of_some _ q
 obtain ⟨T,id,hT,ht,hg⟩:=hr pins {s3 with heap:=s3.heap.push {cls:=.type "slice",data:=.fields #[vl,vu,.none]}} σ H3 x v vl vu l u s3.heap.objs.size Q I4 r1 (Heap.IsSliceOf.new ..) pl pu q3
 show wpAny (model X.prog X.w) X.A (subscriptTail e (.Slice lo hi none p2) v (.ref s3.heap.objs.size)) (EP X pins σ Q) X.xe {s3 with heap:=s3.heap.push {cls:=.type "slice",data:=.fields #[vl,vu,.none]}}
 exact tail_any (ops:=[.ref s3.heap.objs.size,v]) ht hT hg (by with_unfolding_all rfl)
def vE (xs:List V) (lo hi:Option Int):List V:=(xs.drop (HT.sIx xs.length 0 lo)).take (HT.sIx xs.length xs.length hi - HT.sIx xs.length 0 lo)
theorem gF (xs:List V) (lo hi:Option Int):(vE xs lo hi).length≤xs.length:=by
 unfold vE
 rw [List.length_take,List.length_drop]
 omega
end
end L2
namespace L2
open PySem PySem.Spec PyProof.Rows
def vG (n:Nat) (i:Int):Option Nat:=if 0≤i then (if i<n then some i.toNat else none) else if -(n:Int)≤i then some (i+n).toNat else none
def qK {α:Type} (xs:List α) (i:Int):Option α:=(vG xs.length i).bind fun j=>xs[j]?
theorem mC {n:Nat} {i:Int} {j:Nat} (h:vG n i=some j):seqIndex? i n=some j∧j<n∧-(n:Int)≤i∧i<n:=by
 unfold vG at h
 by_cases h0:0≤i
 ·rw [if_pos h0] at h
  by_cases h1:i<n
  ·rw [if_pos h1] at h
   have e:i.toNat=j:=Option.some.inj h
   exact ⟨by rw [seqIndex_of h0 h1,e],by omega,by omega,h1⟩
  ·rw [if_neg h1] at h;cases h
 ·rw [if_neg h0] at h
  by_cases h1 : -(n:Int)≤i
  ·rw [if_pos h1] at h
   have e:(i+n).toNat=j:=Option.some.inj h
   exact ⟨by rw [seqIndex_neg (by omega) h1,e],by omega,h1,by omega⟩
  ·rw [if_neg h1] at h;cases h
theorem ZA {α:Type} {xs:List α} {i:Int} {v:α} (h:qK xs i=some v):∃j,seqIndex? i xs.length=some j∧xs[j]?=some v∧j<xs.length∧-(xs.length:Int)≤i∧i<xs.length:=by
 unfold qK at h
 cases e:vG xs.length i with
 |none=>rw [e] at h;cases h
 |some j =>
  rw [e] at h
  obtain ⟨h1,h2,h3,h4⟩:=mC e
  exact ⟨j,h1,h,h2,h3,h4⟩
theorem zS {α:Type} {xs:List α} {j:Nat} {v:α} (h:xs[j]?=some v):qK xs (j:Int)=some v:=by
 have hj:j<xs.length:=(List.getElem?_eq_some_iff.mp h).1
 have e:vG xs.length (j:Int)=some j:=by
  unfold vG
  rw [if_pos (by omega),if_pos (by omega)];simp
 unfold qK;rw [e];exact h
theorem atI_last {α:Type} (xs:List α) (v:α):qK (xs++[v]) (-1)=some v:=by
 have hl:(xs++[v]).length=xs.length+1:=by simp
 have e:vG (xs++[v]).length (-1)=some xs.length:=by
  unfold vG
  rw [hl,if_neg (by decide),if_pos (by omega)]
  congr 1
  omega
 unfold qK
 rw [e]
 show (xs++[v])[xs.length]?=some v
 simp
def mQ (b:Expr):Prop:=∀o i,subscripted b false o i=operate [o,i] (getItem o i)
def IxR (X:Cx) (r:R2):Prop :=
 ∀(value slice:Expr) (pins:List (Addr×Obj)) (s:Shared) (σ:St) (H:Hp) (x y:V) (v u:Value) (Q:VK),Inv X pins σ H s→RelV x v→RelV y u→r x y H Q→
  subscripted slice false v u=operate [v,u] (getItem v u)→wpAny (model X.prog X.w) X.A (subscriptTail value slice v u) (EP X pins σ Q) X.xe s
def MtR (X:Cx) (id:String) (r:V→List V→Hp→VK→Prop):Prop :=
 ∀(pins:List (Addr×Obj)) (s:Shared) (σ:St) (H:Hp) (x:V) (xs:List V) (v:Value) (us:List Value) (Q:VK),Inv X pins σ H s→RelV x v→Vals xs us→r x xs H Q→
  wpAny (model X.prog X.w) X.A (call (.builtin id) (v::us)) (EP X pins σ Q) X.xe s
section
variable {X:Cx} {a b:Expr} {ta tb:TE} {pos:Pos}
theorem IxR.or {r r':R2} (h:IxR X r) (h':IxR X r'):IxR X (fun x y H Q=>r x y H Q∨r' x y H Q):=by
 intro value slice pins s σ H x y v u Q I rx ry q hs
 rcases q with q|q
 ·exact h value slice pins s σ H x y v u Q I rx ry q hs
 ·exact h' value slice pins s σ H x y v u Q I rx ry q hs
theorem MtR.or {id:String} {r r':V→List V→Hp→VK→Prop} (h:MtR X id r) (h':MtR X id r'):MtR X id (fun x xs H Q=>r x xs H Q∨r' x xs H Q):=by
 intro pins s σ H x xs v us Q I rx rs q
 rcases q with q|q
 ·exact h pins s σ H x xs v us Q I rx rs q
 ·exact h' pins s σ H x xs v us Q I rx rs q
theorem kT {r:R2} (hr:IxR X r) (ha:PE X a ta) (hb:PE X b tb) (hs:mQ b):PE X (.Subscript a b pos) (QH r ta tb):=by
 intro pins s σ H Q I h
 exact Subscript_ (ZK ha hb I h fun v u s2 x y H2 I2 rx ry q=>hr a b pins s2 σ H2 x y v u Q I2 rx ry q (hs _ _))
def eA (K:PySem.W.Frag):R2:=fun x y H Q=>∃p xs i v,x=.ref p∧y=.int i∧SqL K H p xs∧qK xs i=some v∧Q v H
def d8 (K:PySem.W.Frag):R2:=fun x y H Q=>∃p xs i v,x=.ref p∧y=.int i∧SqT K H p xs∧qK xs i=some v∧Q v H
def d9:R2:=fun x y H Q=>∃z i c,x=.str z∧y=.int i∧z.length≤sizeLine∧qK z.cps.toList i=some c∧Q (.str ⟨#[c]⟩) H
theorem q0:IxR X (eA X.K):=by
 intro value slice pins s σ H x y v u Q I rx ry h hs
 obtain ⟨p,xs,i,z,rfl,rfl,hq,he,q⟩:=h
 cases rx
 obtain ⟨t,rfl⟩:=ry
 obtain ⟨its,r,pl,hz⟩:=I.list hq
 obtain ⟨j,h1,h2,h3,h4,h5⟩:=ZA he
 obtain ⟨w,ew,rw'⟩:=r.get h2
 have hl:=r.length
 have hn:=y0
 have fin:EP X pins σ Q w s:=⟨z,H,I,rw',q⟩
 by_cases h0:0≤i
 ·have hj:i.toNat=j:=by
   rw [seqIndex_of h0 h5] at h1
   exact Option.some.inj h1
  exact item_listR pl.isList h0 (by omega) (by rw [hj];simpa using ew) fin hs
 ·have hj:(i+(its.toArray.size:Int)).toNat=j:=by
   rw [seqIndex_neg (by omega) h4] at h1
   rw [List.size_toArray,← hl]
   exact Option.some.inj h1
  exact subscriptTail_builtinR (x:=w) pl.isList.typeIs slot_list_getitem.lookup
   (wpAny_getItem_list_neg (Q:=fun r s'=>r=w∧EP X pins σ Q r s') pl.isList (by omega) (by rw [List.size_toArray]<;>omega) (by omega) (by rw [hj];simpa using ew) ⟨rfl,fin⟩) hs
theorem ix_tup:IxR X (d8 X.K):=by
 intro value slice pins s σ H x y v u Q I rx ry h hs
 obtain ⟨p,xs,i,z,rfl,rfl,hq,he,q⟩:=h
 cases rx
 obtain ⟨t,rfl⟩:=ry
 obtain ⟨its,r,pl,hz⟩:=I.tuple hq
 obtain ⟨j,h1,h2,h3,h4,h5⟩:=ZA he
 obtain ⟨w,ew,rw'⟩:=r.get h2
 have hl:=r.length
 have hn:=y0
 have fin:EP X pins σ Q w s:=⟨z,H,I,rw',q⟩
 exact subscriptTail_builtinR (x:=w) pl.typeIs slot_tuple_getitem.lookup
  (getItem_tuple (j:=j) (Q:=fun r s'=>r=w∧EP X pins σ Q r s') pl (by omega) (by omega) (by rw [List.size_toArray,← hl];exact h1) (by simpa using ew) ⟨rfl,fin⟩) hs
theorem dL:IxR X d9:=by
 intro value slice pins s σ H x y v u Q I rx ry h hs
 obtain ⟨z,i,c,rfl,rfl,hz,he,q⟩:=h
 obtain ⟨t,rfl⟩:=rx
 obtain ⟨t',rfl⟩:=ry
 obtain ⟨j,h1,h2,h3,h4,h5⟩:=ZA he
 have hl:z.cps.toList.length=z.length:=by simp [Str.length]
 rw [hl] at h1 h4 h5
 have hn:=y0
 exact tail_any (typeIs_str s z t) slot_str_getitem.lookup (getItem_str (c:=c) (by
  have e1:decide (i < -(2 ^ 63:Int))=false:=decide_eq_false (by omega)
  have e2:decide (i≥2 ^ 63)=false:=decide_eq_false (by omega)
  rw [e1,e2,Bool.or_false]) (by rw [h1];simpa using h2) ⟨.str ⟨#[c]⟩,H,I.tok _,⟨_,rfl⟩,q⟩) hs
def pT (K:PySem.W.Frag):R2:=fun x y H Q=>eA K x y H Q∨d8 K x y H Q∨d9 x y H Q
theorem nM:IxR X (pT X.K):=q0.or (ix_tup.or dL)
theorem Inv.lst {pins:List (Addr×Obj)} {σ:St} {H:Hp} {s:Shared} {p:Addr} {xs:List V} (I:Inv X pins σ H s) (h:H p=some (.lst xs)) :
  ∃(its:List Value) (n:Nat),Vals xs its∧s.heap.get? p=some {cls:=.type "list",data:=.seq its.toArray n}∧xs.length≤sizeLine:=by
 obtain ⟨z,its,n,r,e⟩:=I.hok p _ h
 exact ⟨its,n,r,e,z⟩
theorem gA (lo hi:Option Int) (n:Nat):(sliceBounds lo hi none n).1=((HT.sIx n 0 lo:Nat):Int)∧(sliceBounds lo hi none n).2.1=((HT.sIx n n hi:Nat):Int)∧(sliceBounds lo hi none n).2.2=1:=by
 refine ⟨?_,?_,rfl⟩
 ·cases lo with
  |none=>simp [sliceBounds,HT.sIx]
  |some i =>
   simp only [sliceBounds,HT.sIx,Option.getD_none,show (1:Int)>0 by decide,if_true]
   by_cases h:i<0
   ·simp only [h,if_true]<;>omega
   ·simp only [h,if_false]<;>omega
 ·cases hi with
  |none=>simp [sliceBounds,HT.sIx]
  |some i =>
   simp only [sliceBounds,HT.sIx,Option.getD_none,show (1:Int)>0 by decide,if_true]
   by_cases h:i<0
   ·simp only [h,if_true]<;>omega
   ·simp only [h,if_false]<;>omega
theorem fW (its:List Value) (lo hi:Option Int):slicePick its.toArray lo hi none=((its.drop (HT.sIx its.length 0 lo)).take (HT.sIx its.length its.length hi - HT.sIx its.length 0 lo)).toArray:=by
 obtain ⟨h1,h2,h3⟩:=gA lo hi its.toArray.size
 unfold slicePick
 rw [h1,h2,h3]
 simp only [sliceRange_one,pick_run,List.size_toArray]<;>rfl
def o8 (K:PySem.W.Frag):V→Option Int→Option Int→Hp→VK→Prop:=fun x lo hi H Q=>∃a xs,x=.ref a∧SqL K H a xs∧∀p,H p=none→Q (.ref p) (jB H p (.lst (vE xs lo hi)))
theorem Q5:SlR X (o8 X.K):=by
 intro pins s σ H x v vl vu lo hi sl Q I rx hs pl pu h
 obtain ⟨a,xs,rfl,hx,q⟩:=h
 cases rx
 obtain ⟨its,r,ht,hz⟩:=I.list hx
 have hlen:=r.length
 refine ⟨"list",_,slot_list_getitem.lookup,ht.isList.typeIs,?_⟩
 refine wpAny_getItem_list_slice ht.isList hs pl pu .none (by simp) ?_ (by rw [List.size_toArray]<;>omega)
 rw [fW,← hlen]
 refine ⟨.ref s.heap.objs.size,_,I.laid (t':=s.toks) (o:=.lst (vE xs lo hi)) (fun b ob q=>Heap.get?_push_of_some _ q) (Nat.le_refl _) ?_,rfl,q _ (I.hok.fresh (Nat.le_refl _))⟩
 exact ⟨Nat.le_trans (gF xs lo hi) hz,_,0,(r.drop (HT.sIx xs.length 0 lo)).take (HT.sIx xs.length xs.length hi - HT.sIx xs.length 0 lo),Heap.get?_push_size _ rfl⟩
def qO:V→Bool
 |.non=>true
 |.bl _=>true
 |.int _=>true
 |.str _=>true
 |_=>false
def v7:V→V→Bool
 |.non,.non=>true
 |.bl a,.bl b=>a == b
 |.bl a,.int b=>(if a then 1 else 0) == b
 |.int a,.bl b=>a == (if b then 1 else 0)
 |.int a,.int b=>a == b
 |.str a,.str b=>a == b
 |_,_=>false
theorem ZG {A:Around} {s:Shared} {y x:V} {u v:Value} (ry:RelV y u) (rx:RelV x v) (fy:qO y=true) (fx:qO x=true):SeqAt.EqAt A s u v (v7 y x):=by
 cases y with
 |non =>
  cases ry
  cases x with
  |non=>cases rx;exact SeqAt.EqAt.same _
  |bl b=>cases rx;exact SeqAt.EqAt.none_bool b
  |int b=>obtain ⟨t,rfl⟩:=rx;exact SeqAt.EqAt.none_int b t
  |str b=>obtain ⟨t,rfl⟩:=rx;exact SeqAt.EqAt.none_str b t
  |_=>exact absurd (show false=true from fx) Bool.false_ne_true
 |bl a =>
  cases ry
  cases x with
  |non=>cases rx;exact SeqAt.EqAt.bool_none a
  |bl b=>cases rx;exact SeqAt.EqAt.bool_bool a b
  |int b=>obtain ⟨t,rfl⟩:=rx;exact SeqAt.EqAt.bool_int a b t
  |str b=>obtain ⟨t,rfl⟩:=rx;exact SeqAt.EqAt.bool_str a b t
  |_=>exact absurd (show false=true from fx) Bool.false_ne_true
 |int a =>
  obtain ⟨t',rfl⟩:=ry
  cases x with
  |non=>cases rx;exact SeqAt.EqAt.int_none a t'
  |bl b=>cases rx;exact SeqAt.EqAt.int_bool a t' b
  |int b=>obtain ⟨t,rfl⟩:=rx;exact SeqAt.EqAt.int_int a t' b t
  |str b=>obtain ⟨t,rfl⟩:=rx;exact SeqAt.EqAt.int_str a t' b t
  |_=>exact absurd (show false=true from fx) Bool.false_ne_true
 |str a =>
  obtain ⟨t',rfl⟩:=ry
  cases x with
  |non=>cases rx;exact SeqAt.EqAt.str_none a t'
  |bl b=>cases rx;exact SeqAt.EqAt.str_bool a t' b
  |int b=>obtain ⟨t,rfl⟩:=rx;exact SeqAt.EqAt.str_int a t' b t
  |str b=>obtain ⟨t,rfl⟩:=rx;exact SeqAt.EqAt.str_str a t' b t
  |_=>exact absurd (show false=true from fx) Bool.false_ne_true
 |_=>exact absurd (show false=true from fy) Bool.false_ne_true
theorem zD:CallR X (.builtin "len") (fun xs H Q=>∃p ys,xs=[.ref p]∧(SqL X.K H p ys∨SqT X.K H p ys)∧Q (.int ys.length) H):=by
 intro pins s σ H xs us Q I r h
 obtain ⟨p,ys,rfl,hq,q⟩:=h
 obtain ⟨u,rfl,rx⟩:=vV r
 cases rx
 have hn:=y0
 rcases hq with hq|hq
 ·obtain ⟨its,r',pl,hz⟩:=I.list hq
  have hlen:=r'.length
  exact Calls.call_len_list pl.isList (by simp only [List.size_toArray]<;>omega) ⟨.int ys.length,H,I.tok _,⟨s.toks+1,by rw [List.size_toArray,hlen]⟩,q⟩
 ·obtain ⟨its,r',pl,hz⟩:=I.tuple hq
  have hlen:=r'.length
  exact len_tuple pl (by simp only [List.size_toArray]<;>omega) ⟨.int ys.length,H,I.tok _,⟨s.toks+1,by rw [List.size_toArray,hlen]⟩,q⟩
theorem CallR.or {f:Value} {r r':List V→Hp→VK→Prop} (h:CallR X f r) (h':CallR X f r'):CallR X f (fun xs H Q=>r xs H Q∨r' xs H Q):=by
 intro pins s σ H xs us Q I rs q
 rcases q with q|q
 ·exact h pins s σ H xs us Q I rs q
 ·exact h' pins s σ H xs us Q I rs q
theorem gB:CallR X (.type "list") (fun xs H Q=>∃p ys,xs=[.ref p]∧(SqL X.K H p ys∨SqT X.K H p ys)∧∀l,H l=none→Q (.ref l) (jB H l (.lst ys))):=by
 intro pins s σ H xs us Q I r h
 obtain ⟨p,ys,rfl,hq,q⟩:=h
 obtain ⟨u,rfl,rx⟩:=vV r
 cases rx
 have fin:∀(its:List Value),Vals ys its→ys.length≤sizeLine→∀(h':Heap) (c':Nat),(∀b o',s.heap.get? b=some o'→h'.get? b=some o')→
   h'.get? s.heap.objs.size=some {cls:=.type "list",dict:=none,data:=.seq its.toArray c',slots := #[]}→EP X pins σ Q (.ref s.heap.objs.size) {s with heap:=h'}:=fun its r' hz h' c' kp e =>
  ⟨.ref s.heap.objs.size,_,I.laid (t':=s.toks) kp (Nat.le_refl _) (show ObjOk X.prog X.w _ h' _ (.lst ys) from ⟨hz,its,c',r',e⟩),rfl,q _ (I.hok.fresh (Nat.le_refl _))⟩
 rcases hq with hq|hq
 ·obtain ⟨its,r',pl,hz⟩:=I.list hq
  have hlen:=r'.length
  obtain ⟨o,ho,hc,n,hd⟩:=pl.isList
  exact call_list_seq p (.inl rfl) ho hc hd (fun h' c' kp e=>fin its r' hz h' c' kp e) (by simp only [List.size_toArray]<;>omega)
 ·obtain ⟨its,r',pl,hz⟩:=I.tuple hq
  have hlen:=r'.length
  obtain ⟨o,ho,hc,n,hd⟩:=pl
  exact call_list_seq p (.inr rfl) ho hc hd (fun h' c' kp e=>fin its r' hz h' c' kp e) (by simp only [List.size_toArray]<;>omega)
def ZO (K:PySem.W.Frag) (T:String) (x:V) (H:Hp):Prop:=match x with
 |.str _=>T="str"
 |.int _=>T="int"
 |.ref p=>(T="list"∧∃xs,SqL K H p xs)∨(T="tuple"∧∃o,K.lookup p=some o∧o.cls=.type "tuple"∧o.dict=none)∨
   (T="dict"∧((∃kvs,H p=some (.dK kvs))∨∃kvs,H p=some (.dT kvs)))∨(T="set"∧∃S n,H p=some (.set S n))
 |_=>False
theorem dA {pins:List (Addr×Obj)} {σ:St} {H:Hp} {s:Shared} {T:String} {x:V} {v:Value} (I:Inv X pins σ H s) (r:RelV x v) (ty:ZO X.K T x H) :
  s.TypeIs v T∧∀a,v=.ref a→∃ob,s.heap.get? a=some ob∧ob.dict=none:=by
 cases x with
 |str z =>
  obtain ⟨t,rfl⟩:=r
  cases (show T="str" from ty)
  exact ⟨typeIs_str s z t,fun _ e=>nomatch e⟩
 |int i =>
  obtain ⟨t,rfl⟩:=r
  cases (show T="int" from ty)
  exact ⟨typeIs_int s i t,fun _ e=>nomatch e⟩
 |ref p =>
  cases r
  rcases ty with ⟨rfl,xs,hq⟩|⟨rfl,o,hk,hc,hd⟩|⟨rfl,hk⟩|⟨rfl,S,n,hk⟩
  ·obtain ⟨its,_,pl,_⟩:=I.list hq
   refine ⟨pl.isList.typeIs,fun a e=>?_⟩
   cases e
   obtain ⟨o,n,e,c,hd,_⟩:=pl
   exact ⟨o,e,hd⟩
  ·refine ⟨⟨o,I.kIn p o hk,hc⟩,fun a e=>?_⟩
   cases e
   exact ⟨o,I.kIn _ o hk,hd⟩
  ·have z:∃o,s.heap.get? p=some o∧o.ExactDict:=by
    rcases hk with ⟨kvs,hk⟩|⟨kvs,hk⟩
    ·obtain ⟨_,_,_,_,o,_,_,e,ex,_⟩:=I.hok p _ hk
     exact ⟨o,e,ex⟩
    ·obtain ⟨_,_,_,_,o,_,_,e,ex,_⟩:=I.hok p _ hk
     exact ⟨o,e,ex⟩
   obtain ⟨o,e,ex⟩:=z
   refine ⟨⟨o,e,ex.1⟩,fun a e2=>?_⟩
   cases e2
   exact ⟨o,e,ex.2.1⟩
  ·obtain ⟨o,_,_,_,e,ex,_⟩:=I.hok p _ hk
   refine ⟨⟨o,e,ex.1⟩,fun a e2=>?_⟩
   cases e2
   exact ⟨o,e,ex.2.1⟩
 |_=>exact False.elim ty
def o5 (K:PySem.W.Frag) (T:String) (r:V→List V→Hp→VK→Prop) (to:TE):TE:=fun σ H Q=>to σ H fun x H1=>ZO K T x H1∧r x [] H1 Q
def pS (K:PySem.W.Frag) (T:String) (r:V→List V→Hp→VK→Prop) (to:TE) (t:TA):TE:=fun σ H Q=>to σ H fun x H1=>ZO K T x H1∧t σ H1 fun xs H2=>r x xs H2 Q
variable {o e:Expr} {es:List Expr} {to:TE} {t:TA} {name:Str} {apos cpos:Pos} {T id:String} {r:V→List V→Hp→VK→Prop}
theorem nA (pa:PlainAttrs T) (slot:Slot T name id) (hty:typeOf (.builtin id)=pure (.type "method_descriptor")) (hm:MtR X id r) (ho:PE X o to)
  (hbase:attributeBase o name X.env (eval o X.env)=eval o X.env:=by rfl) (hline:(apos.endLine == cpos.line)=true:=by rfl):PE X (.Call (.Attribute o name apos) [] [] cpos) (o5 X.K T r to):=by
 intro pins s σ H Q I h
 refine wpAny_Call_method0_late hbase hline (jI (ho pins s σ H _ I h) fun v s1 ⟨x,H1,I1,r1,ty,q1⟩=>?_)
 obtain ⟨h1,h2⟩:=dA I1 r1 ty
 exact ⟨T,id,pa,slot,hty,h1,h2,Calls.callWith_builtin rfl (PySem.evalArgs_none (hm pins s1 σ H1 x [] v [] Q I1 r1 .nil q1))⟩
theorem yD (pa:PlainAttrs T) (slot:Slot T name id) (hty:typeOf (.builtin id)=pure (.type "method_descriptor")) (hm:MtR X id r) (ho:PE X o to) (ha:PA X (e::es) t)
  (hbase:attributeBase o name X.env (eval o X.env)=eval o X.env:=by rfl)
  (hfew:((backTo cpos (starEach (e::es) X.env)).all (fun x => !x.1)&&(backToKw cpos (keywordEach [] X.env)).all (fun x=>x.1.isSome)
   && decide ((e::es).length+([]:List Keyword).length+(if ([]:List Keyword).isEmpty then 0 else 1)<30))=true:=by rfl)
  (hline:(apos.endLine == cpos.line)=true:=by rfl) (hs:starEach (e::es) X.env=(false,eval e X.env)::starEach es X.env:=by rfl) (hplain:(backTo cpos (starEach es X.env)).any (·.1)=false:=by rfl) :
  PE X (.Call (.Attribute o name apos) (e::es) [] cpos) (pS X.K T r to t):=by
 intro pins s σ H Q I h
 refine wpAny_Call_method_late hbase hfew hline rfl (jI (ho pins s σ H _ I h) fun v s1 ⟨x,H1,I1,r1,ty,q1⟩=>?_)
 obtain ⟨h1,h2⟩:=dA I1 r1 ty
 refine ⟨T,id,pa,slot,hty,h1,h2,?_⟩
 have hA:=ha cpos pins s1 σ H1 _ I1 q1
 rw [hs] at hA ⊢
 refine Calls.callWith_builtin (by show (false||(backTo cpos (starEach es X.env)).any (·.1))=false;rw [hplain]<;>rfl) (Calls.evalArgs_plain ?_)
 exact jI hA fun us s2 ⟨vs,H2,I2,r2,q2⟩=>hm pins s2 σ H2 x vs v us Q I2 r1 r2 q2
/- xs.append(e),list.index on a module's tuple .. are MtR facts of 06m -/
end
end L2
namespace L2
open PySem PySem.Spec PyProof.Rows
def eL (X:Cx) (id:String) (r:V→List V→Hp→VK→Prop):Prop :=
 ∀(pins:List (Addr×Obj)) (s:Shared) (σ:St) (H:Hp) (x:V) (xs:List V) (v:Value) (us:List Value) (Q:VK),Inv X pins σ H s→RelV x v→Vals xs us→r x xs H Q→
  wpAny (model X.prog X.w) X.A (call (.builtin id) (v::us)) (EP X pins σ Q) X.xe s
theorem Vals.one:∀{x:V} {us:List Value},Vals [x] us→∃u,us=[u]∧RelV x u
 |_,_,.cons r .nil=>⟨_,rfl,r⟩
theorem Vals.two:∀{x y:V} {us:List Value},Vals [x,y] us→∃u v,us=[u,v]∧RelV x u∧RelV y v
 |_,_,_,.cons r (.cons q .nil)=>⟨_,_,rfl,r,q⟩
theorem Vals.zero:∀{us:List Value},Vals [] us→us=[]
 |_,.nil=>rfl
theorem Vals.reverse {xs:List V} {us:List Value} (h:Vals xs us):Vals xs.reverse us.reverse:=by
 induction h with
 |nil=>exact .nil
 |cons r t ih=>rw [List.reverse_cons,List.reverse_cons];exact Vals.append ih (.cons r .nil)
section
variable {X:Cx} {pins:List (Addr×Obj)} {σ:St} {H:Hp} {s:Shared} {l b:Addr} {xs ys zs:List V}
theorem Inv.lset {its its':List Value} {n:Nat} {f:Array Value→Array Value} {t':Nat} (I:Inv X pins σ H s) (hH:H l=some (.lst xs))
  (e:s.heap.get? l=some {cls:=.type "list",data:=.seq its.toArray n}) (hf:f its.toArray=its'.toArray) (hv:Vals ys its') (hz:ys.length≤sizeLine) :
  Inv X pins σ (jB H l (.lst ys)) {s with heap:=s.heap.update l (Obj.mapSeq f),toks:=t'}:=by
 have q:=PySem.IsL.update e f
 rw [hf] at q
 refine I.write (x:=l) (e:=l) (by rw [hH];exact trivial) (.inl rfl) (fun b' u hb hu=>(Heap.get?_update_other s.heap (Obj.mapSeq f) (Ne.symm hb)).trans hu) ⟨_,q⟩ ?_
 exact ⟨hz,its',_,hv,q⟩
theorem Inv.lnew {its:List Value} {t':Nat} (I:Inv X pins σ H s) (hv:Vals ys its) (hz:ys.length≤sizeLine) :
  Inv X pins σ (jB H s.heap.objs.size (.lst ys)) {s with heap:=s.heap.push {cls:=.type "list",data:=.seq its.toArray},toks:=t'} :=
 I.laid (fun _ _ q=>Heap.get?_push_of_some _ q) (Nat.le_refl _) ⟨hz,its,0,hv,Heap.get?_push_size _ rfl⟩
theorem Inv.fresh (I:Inv X pins σ H s):H s.heap.objs.size=none:=I.hok.fresh (Nat.le_refl _)
theorem Inv.lstM (I:Inv X pins σ H s) (hH:H l=some (.lst xs)):xs.length≤sizeLine∧∃(its:List Value) (n:Nat),Vals xs its∧xs.length=its.length∧s.heap.get? l=some {cls:=.type "list",data:=.seq its.toArray n}:=by
 obtain ⟨z,its,n,r,e⟩:=I.hok l _ hH
 exact ⟨z,its,n,r,r.length,e⟩
end
section
variable {X:Cx}
def lP:V→List V→Hp→VK→Prop:=fun x vs H Q=>∃l xs y,x=.ref l∧vs=[y]∧H l=some (.lst xs)∧xs.length<sizeLine∧Q .non (jB H l (.lst (xs++[y])))
theorem vQ:eL X "list.append" lP:=by
 intro pins s σ H x vs v us Q I rx rv h
 obtain ⟨l,xs,y,rfl,rfl,hH,hz,q⟩:=h
 cases rx
 obtain ⟨u,rfl,ru⟩:=rv.one
 obtain ⟨z,its,n,r,hl,e⟩:=I.lstM hH
 refine call_meets F.slot_list_append ⟨_,e,rfl⟩ F.entry_list_append (F.args_list_append_2 _ _) (PySem.list_append l its.toArray n u (by rw [List.size_toArray];omega)) ⟨e,?_⟩
 refine ⟨.non,_,I.lset (its':=its++[u]) hH e (by simp) (r.append (.cons ru .nil)) ?_,rfl,q⟩
 rw [List.length_append,List.length_singleton]
 omega
def iV:V→List V→Hp→VK→Prop:=fun x vs H Q=>∃l xs,x=.ref l∧vs=[]∧H l=some (.lst xs)∧Q .non (jB H l (.lst xs.reverse))
theorem gQ:eL X "list.reverse" iV:=by
 intro pins s σ H x vs v us Q I rx rv h
 obtain ⟨l,xs,rfl,rfl,hH,q⟩:=h
 cases rx
 have hus:=rv.zero
 subst hus
 obtain ⟨z,its,n,r,hl,e⟩:=I.lstM hH
 refine call_meets F.slot_list_reverse ⟨_,e,rfl⟩ F.entry_list_reverse (F.args_list_reverse_1 _) (AutoSeq1.list_reverse_list_0 l its.toArray n (by rw [List.size_toArray];omega)) ⟨e,?_⟩
 refine ⟨.non,_,I.lset (its':=its.reverse) hH e (by simp) r.reverse ?_,rfl,q⟩
 rw [List.length_reverse]
 omega
def pC:R2:=fun x y H Q=>∃l b xs zs,x=.ref l∧y=.ref b∧H l=some (.lst xs)∧H b=some (.lst zs)∧xs.length+zs.length≤sizeLine∧∀p,H p=none→Q (.ref p) (jB H p (.lst (xs++zs)))
theorem dI:OpR X (binaryOp .Add) pC:=by
 intro pins s σ H x y v u Q I rx ry h
 obtain ⟨l,b,xs,zs,rfl,rfl,hH,hB,hz,q⟩:=h
 cases rx
 cases ry
 obtain ⟨z,its,n,r,hl,e⟩:=I.lstM hH
 obtain ⟨z2,its2,n2,r2,hl2,e2⟩:=I.lstM hB
 refine PySem.P.add_list e e2 ?_ (by rw [List.size_toArray,List.size_toArray];omega)
 have ea:its.toArray++its2.toArray=(its++its2).toArray:=by simp
 rw [ea]
 exact ⟨.ref _,_,I.lnew (t':=s.toks) (r.append r2) (by rw [List.length_append];omega),rfl,q _ I.fresh⟩
theorem mB {α:Type} (xs:List α) (k:Nat):(List.replicate k xs).flatten.length=k*xs.length:=by
 induction k with
 |zero=>simp
 |succ k ih=>rw [List.replicate_succ,List.flatten_cons,List.length_append,ih,Nat.succ_mul,Nat.add_comm]
end
section
variable {prog:Program} {w:World} {A:Around} {E:Value→Shared→Prop} {s:Shared}
end
section
variable {X:Cx}
end
end L2
namespace Att
open PySem PySem.W PySem.Calls PyProof.Rows
theorem fQ {P:Params} {h:Heap}:∀(ns:List Int) (vs:List Value),WellAll P h vs (ns.map WData.int)→IntsAre vs ns:=by
 intro ns
 induction ns with
 |nil =>
  intro vs w
  rw [List.map_nil] at w
  cases w
  exact .nil
 |cons n ns ih =>
  intro vs w
  rw [List.map_cons] at w
  cases w with
  |cons a b =>
   cases a
   exact .cons _ _ (ih _ b)
theorem g7 {l:OpenLaw} {n:Nat} (hn:l.most=some n) {P:Params} {h:Heap} {args:List WData} {vals:List Value}
  (hpre:l.row.toRowW.claim.pre args=true) (hwl:WellAll P h vals args) :
  ∃a vs ns,vals=[Value.ref a]∧args=[WData.list (ns.map WData.int)]∧h.get? a=some {cls:=.type "list",data:=.seq vs.toArray}∧IntsAre vs ns∧ns.length≤n:=by
 have hsh:WShape.hasAll [] args [.list .int]=true:=(pre_splitW hpre).1
 have hc:l.pre.holds [] {args:=args}=true:=(pre_splitW hpre).2
 obtain ⟨d,r,rfl,h1,h2⟩:=hasAllW_cons hsh
 obtain rfl:=hasAllW_nil h2
 obtain ⟨xs,rfl,h3⟩:=hasW_list h1
 obtain ⟨ns,rfl⟩:=items_int h3
 have hlen:ns.length≤n:=by
  unfold OpenLaw.pre at hc
  have h4:(WTm.not (.lt (.lit (.int (n:Int))) (.len (.arg 0)))).holds [] {args:=[.list (ns.map .int)]}=true:=by
   have h4:=(holds_andW hc).1
   rw [hn] at h4
   exact h4
  have h5:=condW_of h4 (w_not (w_lt w_lit (w_len_list (w_arg rfl))))
  rw [List.length_map] at h5
  refine Nat.le_of_not_lt fun q=>?_
  have q':(n:Int)<((ns.length:Nat):Int):=by omega
  first
   | (rw [decide_eq_true q'] at h5;exact absurd h5 (by decide))
   | (simp at h5;omega)
 cases hwl with
 |cons w1 w2 =>
  cases w2
  cases w1 with
  |list ho hall=>exact ⟨_,_,ns,rfl,rfl,ho,fQ ns _ hall,hlen⟩
theorem g8 (l:OpenLaw) (args:List WData):l.row.toRowW.claim.post args (.bool true) args=true :=
 postW_of (r:=l.row.toRowW) (X:=(true == true))
  (show WShape.has [] (.bool true) .bool=true by first|rfl|decide|simp [WShape.has,WShape.arms,WShape.armsAll])
  (show (WTm.eq .res (.lit (.bool true))).value [] {args:=args,res:=some (.bool true),after:=args}=some (.bool (true == true)) from w_eq_bool (w_res rfl) w_lit) rfl
theorem attach_call {l:OpenLaw} {n:Nat} {q:Program} {loose:List Str} {XP:(Str→Option Value)→Heap→Prop} {YP:World→Heap→Prop} {d:DefRec}
  (hn:l.most=some n) (hdf:d.params.defaults=[])
  (call:∀(w:World) (s₀ s₁:Shared) (mg mb:Str→Option Value) (fa:Addr) (o:Obj) (pm cd doc:Value) (a:Addr) (vs:List Value) (ns:List Int),
   Ground q loose [] XP w s₀ mg mb s₁.heap→YP w s₁.heap→
   s₁.heap.get? fa=some o→o.data=.func (docDef d.name d.params d.body d.scope pm cd doc)→s₁.heap.CodeRec cd d.name→mg d.name=some (.ref fa)→
   s₁.heap.get? a=some {cls:=.type "list",data:=.seq vs.toArray}→IntsAre vs ns→ns.length≤n→s₁.gens = #[]→
   codeAny (model l.prog w) callerA (.call (.ref fa) ⟨[.ref a],[]⟩) (fun r s'=>r=.ok (.ret (.bool true))∧OldK s₁.heap s'.heap∧s'.os=s₁.os∧AllBare s'.gens) s₁) :
  WalkO q loose XP YP l.row.toRowW d [] (fun f vs=>PySem.call f vs):=by
 intro w s₀ s₁ mg mb G Y fa o pm cd doc dV kV ho hd hcd hD hmg hg args vals as hpre hlay hrd hwl hlo
 obtain rfl:dV=.none:=Dflts.none hD hdf
 obtain rfl:kV=.none:=Dflts.noKw hD
 obtain ⟨a,vs,ns,rfl,rfl,hobj,hints,hlen⟩:=g7 hn hpre hwl
 refine enter_call (codeAny_mono (call w s₀ s₁ mg mb fa o pm cd doc a vs ns G Y ho (fd_plain hd) hcd hmg hobj hints hlen hg) fun r s' hq=>?_)
 obtain ⟨rfl,h2,h3,h4⟩:=hq
 exact ⟨.inl ⟨.bool true,.bool true,[],rfl,fun _=>rfl,.bool true,g8 l _,fun _=>⟨List.Pairwise.nil,fun _ hm=>(nomatch hm)⟩⟩,h2,h3,h4⟩
section
variable {prog:Program} {w:World} {A:Around} {E:Value→Shared→Prop} {s:Shared} {K:Frag}
def pV (h:Heap) (L d:Addr):List (Addr×Obj):=(List.range h.objs.size).filterMap fun a=>if a=L∨a=d then none else (h.get? a).map fun o=>(a,o)
end
end Att
namespace L2
open PySem PySem.Spec PyProof.Rows
theorem QS:∀{vs:List Value} {ns:List Int},IntsAre vs ns→Vals (ns.map V.int) vs
 |_,_,.nil=>.nil
 |_,_,.cons n t h=>.cons ⟨t,rfl⟩ (QS h)
def ZM (H:Hp):Prop:=∀b,H b=none∨∃o xs,H b=some (.frz o (.lst xs))
theorem i4 {P:Program} {w:World} {K:PySem.W.Frag} {mg mb:Str→Option Value} {CX:kE} {k:Nat} {fa a:Addr} {fd:FuncData} {x:Str} {sp:Sp} {s₁:Shared} {vs:List Value} {ns:List Int}
  (KX:K.In s₁.heap) (hns:s₁.heap.Ns mainGlobals mg) (hb:s₁.heap.Ns builtinsNs mb) (hbb:∀x:Str,x≠"__name__"→mb x=bootBuiltins x) (hlim:s₁.heap.NoLimit) (hg:s₁.gens = #[])
  (ha:s₁.heap.get? a=some {cls:=.type "list",data:=.seq vs.toArray}) (hi:IntsAre vs ns) (hl:ns.length≤sizeLine) (hr:Room k callerA)
  (F:∀base:Heap,K.In base→base.Ns mainGlobals mg→FnOk P w K mg base CX k fa fd [x] sp) (hbind:∀(s:Shared) (u:Value),BindsTo s fd ⟨[u],[]⟩ [(x,u)])
  (hsp:∀H:Hp,ZM H→SqL K H a (ns.map V.int)→sp [.ref a] H (fun v _=>v=.bl true) fun _ _ _=>False)
  (hCX:∀H e s',CX [] H s₁ (fun _ _ _=>False) e s'→False) :
  codeAny (model P w) callerA (.call (.ref fa) ⟨[.ref a],[]⟩) (fun r s'=>r=.ok (.ret (.bool true))∧OldK s₁.heap s'.heap∧s'.os=s₁.os∧AllBare s'.gens) s₁:=by
 have rv:=QS hi
 have lenV:=hi.length
 have core:∀H:Hp,ZM H→SqL K H a (ns.map V.int)→HOk P w H s₁.heap→(∀b,H b≠none→b=a)→(H a≠none→K.lookup a=none)→
   codeAny (model P w) callerA (.call (.ref fa) ⟨[.ref a],[]⟩) (fun r s'=>r=.ok (.ret (.bool true))∧OldK s₁.heap s'.heap∧s'.os=s₁.os∧AllBare s'.gens) s₁:=by
  intro H hO hS hok hA hK
  have base_of:∀{b:Addr} {o:Obj},s₁.heap.get? b=some o→H b=none→(qD s₁.heap H).get? b=some o:=fun e n=>zM e n
  have noA:∀{b:Addr} {o:Obj} {es:Array DictEntry} {ep:Nat},s₁.heap.get? b=some o→o.data=.dict es ep→H b=none:=fun {b o es ep} e d=>by
   cases q:H b with
   |none=>rfl
   |some u =>
    have e':b=a:=hA b (by rw [q];simp)
    subst e'
    rw [ha] at e;cases e
    have d':Data.seq vs.toArray _=Data.dict es ep:=d
    cases d'
  have nsK:∀{b:Addr} {m:Str→Option Value},s₁.heap.Ns b m→(qD s₁.heap H).Ns b m:=fun {b m} ⟨o,es,ep,e,d,r⟩=>⟨o,es,ep,base_of e (noA e d),d,r⟩
  have hKb:K.In (qD s₁.heap H):=fun b o e=>base_of (KX b o e) (by
   cases q:H b with
   |none=>rfl
   |some u =>
    have e':b=a:=hA b (by rw [q];simp)
    subst e'
    rw [hK (by rw [q];simp)] at e;cases e)
  have hM:Mod K mg (qD s₁.heap H):=⟨hKb,nsK hns,⟨mb,nsK hb,hbb⟩,let ⟨mc,h1,h2⟩:=hlim;⟨mc,nsK h1,h2⟩⟩
  have e0:Env0 P w K mg (qD s₁.heap H) callerA [] s₁ H:=⟨rfl,hM,fun b o e=>cW e,Nat.le_of_eq (bD _ _),trivial,fun b hb=>absurd (show b∈([]:List Addr) from hb) (by simp),hok,.of_eq hg⟩
  refine codeAny_mono ((F _ hKb (nsK hns)).run callerA [] s₁ H ⟨[.ref a],[]⟩ [.ref a] [.ref a] _ _ hr e0 (hbind s₁ (.ref a)) (.cons rfl .nil) (hsp H hO hS)) fun r s' h=>?_
  cases r with
  |error e=>exact (hCX H e s' h).elim
  |ok fl =>
   cases fl with
   |next=>exact False.elim h
   |brk=>exact False.elim h
   |cont=>exact False.elim h
   |ret u =>
    obtain ⟨v,H',os,bare,un,hok',r',q⟩:=h
    have q':v=.bl true:=q
    subst q'
    obtain rfl:u=Value.bool true:=r'
    refine ⟨rfl,OldK.of_keep fun b o e=>?_,os,bare⟩
    cases q:H b with
    |none=>exact un.keep b o e q (by intro z;exact absurd (show b∈([]:List Addr) from z) (by simp)) (by simp)
    |some u =>
     rcases hO b with z|⟨ob,xs,z⟩
     ·rw [q] at z;cases z
     ·have z2:=un.frzs b ob _ z
      obtain ⟨e1,_⟩:=hok b _ z
      obtain ⟨e2,_⟩:=hok' b _ z2
      rw [e] at e1;cases e1
      exact e2
 cases hk:K.lookup a with
 |some o =>
  have e:=KX a o hk
  rw [ha] at e
  cases e
  refine core (fun _=>none) (fun _=>.inl rfl) (.inr ⟨_,vs.toArray,_,hk,rfl,rfl,rfl,by rw [List.size_toArray,lenV];exact hl,by simpa using rv⟩) (fun b u z=>by have z':(none:Option HO)=some u:=z;cases z') (fun b z=>absurd rfl z) fun z=>absurd rfl z
 |none =>
  refine core (fun b=>if b=a then some (.frz {cls:=.type "list",data:=.seq vs.toArray} (.lst (ns.map V.int))) else none) (fun b=>?_) (.inl (.inr ⟨{cls:=.type "list",data:=.seq vs.toArray},if_pos rfl⟩)) (fun b u z=>?_) (fun b z=>?_) fun _=>hk
  ·by_cases hb:b=a
   ·exact .inr ⟨_,_,if_pos hb⟩
   ·exact .inl (if_neg hb)
  ·by_cases hb:b=a
   ·have z':=(if_pos hb).symm.trans z
    cases z'
    subst hb
    exact ⟨ha,by rw [List.length_map];exact hl,vs,_,rv,ha⟩
   ·have z':=(if_neg hb).symm.trans z
    cases z'
  ·by_cases hb:b=a
   ·exact hb
   ·exact absurd (if_neg hb) z
end L2
namespace L2
open PySem PySem.Spec PyProof.Rows
abbrev KOf {K:PySem.W.Frag} {h:Heap} (_:K.In h):PySem.W.Frag:=K
theorem walk_of {l:PySem.W.OpenLaw} {n k:Nat} {q:Program} {loose:List Str} {XP:(Str→Option Value)→Heap→Prop} {YP:World→Heap→Prop} {d:DefRec} {K:Params→PySem.W.Frag} {CX:World→kE} {sp:World→Sp} {x:Str}
  (hn:l.most=some n) (hn2:n≤sizeLine) (hdf:d.params.defaults=[]) (hr:Room k callerA)
  (hY:∀(w:World) (h:Heap),YP w h→(K w.params).In h)
  (F:∀(w:World) (mg:Str→Option Value) (fa:Addr) (h:Heap),(K w.params).In h→h.Ns mainGlobals mg→mg d.name=some (.ref fa)→
   ∃fd:FuncData,(∀(s:Shared) (u:Value),BindsTo s fd ⟨[u],[]⟩ [(x,u)])∧
    ∀base:Heap,(K w.params).In base→base.Ns mainGlobals mg→FnOk l.prog w (K w.params) mg base (CX w) k fa fd [x] (sp w))
  (hsp:∀(w:World) (H:Hp) (a:Addr) (ns:List Int),ns.length≤n→ZM H→SqL (K w.params) H a (ns.map V.int)→sp w [.ref a] H (fun v _=>v=.bl true) fun _ _ _=>False)
  (hCX:∀(w:World) (H:Hp) (s:Shared) (e:Value) (s':Shared),CX w [] H s (fun _ _ _=>False) e s'→False) :
  PySem.W.WalkO q loose XP YP l.row.toRowW d [] (fun f vs=>PySem.call f vs):=by
 refine Att.attach_call hn hdf fun w s₀ s₁ mg mb fa o pm cd doc a vs ns G Y ho hd hcd hmg hobj hints hlen hg=>?_
 have KX:=hY w _ Y
 obtain ⟨fd,hb,hF⟩:=F w mg fa _ KX G.T.g hmg
 exact i4 KX G.T.g G.T.b G.T.builtins G.T.nolimit hg hobj hints (Nat.le_trans hlen hn2) hr hF hb (fun H hO hS=>hsp w H a ns hlen hO hS) fun H e s'=>hCX w H s₁ e s'
end L2
/- THE LAST THEOREM (shape;LID,My.* are yours):
  My.Adr: a structure of the addresses that your layer names (classes,functions);My.Txt K t: a structure (Prop) of the equations over K;
  My.txt_mk:{K} {implicit addresses ..} (e1:nsIn K mainGlobals "law"=some (some (.ref f))) (e2:K.lookup f=some ⟨oc,od,.func (fnOf "law" "law" params body scope dV kV doc pm an cdv ct),sl⟩) (e3:codeIn K cdv "law"=true) .. : ∃t,My.Txt K t
set_option maxRecDepth 100000 in
set_option maxHeartbeats 0 in
theorem PySem.Challenge.cw_LID_holds : PySem.Challenge.rw_LID.Holds := by
 w_on;o_law;k_head;(case hw=>w_witness2)
 k_fill
 refine L2.walk_of (l:=PySem.Challenge.rw_LID) (n:=63) (k:=40) (x:="script") (CX:=fun w=>..) (sp:=fun _=>My.sp_law) rfl (by decide) rfl ⟨rfl,by decide,by decide⟩ (fun w h Y=>PySem.W.kIn_of Y) ?F ?S ?C
 case F =>
  intro w mg fa h KX G hmg
  have T:∃t,My.Txt (L2.KOf KX) t:=by
   dsimp only [L2.KOf] -- K must stand as «<heap const> w.params» for k_is
   refine' My.txt_mk ?e1 ?e2 ?e3 ..
   (case e1=>PySem.W.k_is) -- in the order: a name -> its address -> its object -> its parts
   (case e2=>PySem.W.k_is)
   ..
  obtain ⟨t,T⟩:=T
  have e0:=hmg.symm.trans (PySem.W.mg_of KX G T.law)
  cases e0 -- fa is the law's own address
  exact ⟨_,fun s u=>.of_eq rfl,fun base kb nb=>My.law_fn T kb nb⟩ -- if «.of_eq rfl» comes too early: refine' ⟨_,?b,fun base kb nb=>My.law_fn T kb nb⟩;exact fun s u=>.of_eq rfl
 case S=>exact fun w H a ns hl hO hS=>..
 case C=>exact ..
(the tactic k_is has no namespace: write k_is) -/
namespace L2
open PySem PySem.Spec PyProof.Rows
def j4 (s:Stmt):Arguments:=match s with
 |.FunctionDef _ a _ _ _ _ _ _ _ _=>a
 |_=>{posonlyargs:=[],args:=[],vararg:=none,kwonlyargs:=[],kw_defaults:=[],kwarg:=none,defaults:=[]}
def jW (s:Stmt):List Stmt:=match s with
 |.FunctionDef _ _ b _ _ _ _ _ _ _=>b
 |_=>[]
def jJ (s:Stmt):Scope:=match s with
 |.FunctionDef _ _ _ _ _ _ sc _ _ _=>sc
 |_=>{kind:=.function,names:=[],isGenerator:=false,isCoroutine:=false}
abbrev j0:kE:=fun _ _ _ _ _ _=>False
abbrev E0:XK:=fun _ _ _=>False
theorem ZH {X:Cx}:QB j0 X E0:=fun _ _ _ _ _ _ _ h=>h.elim
structure Fun (K:PySem.W.Frag) (x qual:Str) (st:Stmt) (f:Addr) (fd:FuncData):Prop where
 ex:∃(oc:Value) (od:Option Addr) (kV doc pm:Value) (an:Option Addr) (cdv ct:Value) (osl:Array (Option Value)),
  fd=PySem.W.fnOf x qual (j4 st) (jW st) (jJ st) .none kV doc pm an cdv ct∧K.lookup f=some ⟨oc,od,.func fd,osl⟩∧PySem.W.codeIn K cdv qual=true
 kp:PySem.W.keepIn K (.ref f)=true
section
variable {P:Program} {w:World} {K:PySem.W.Frag} {mg:Str→Option Value} {base:Heap}
theorem Fun.ok {x qual:Str} {st:Stmt} {f:Addr} {fd:FuncData} {N ps:List Str} {k:Nat} {sp:Sp} (F:Fun K x qual st f fd) (S:FnScope N ps (jJ st)) (len:∀vs H Q E,sp vs H Q E→vs.length=ps.length)
  (hbody:∀(cdv:Value) (A:Around) (outer:List Env) (s:Shared) (H:Hp) (vs:List V) (Q:VK) (E:XK),Room k (A.deeper (envOfC qual (jJ st) s.heap.objs.size f cdv))→sp vs H Q E→
   ∃t,PSs (kY j0 P w K mg base N qual (jJ st) f cdv A outer s H E).nox (jW st) t∧t {nx:=fun _ H'=>Q .non H',rt:=Q} (kL N vs) H):FnOk P w K mg base j0 (k+1) f fd ps sp:=by
 obtain ⟨oc,od,kV,doc,pm,an,cdv,ct,osl,rfl,lk,hcd⟩:=F.ex
 refine z5 lk hcd S len fun A outer s H vs Q E hr hsp=>?_
 obtain ⟨t,h,q⟩:=hbody cdv A outer s H vs Q E hr hsp
 exact ⟨t,h.nox,q⟩
theorem Fun.binds {x qual:Str} {st:Stmt} {f:Addr} {fd:FuncData} {ps:List Str} (F:Fun K x qual st f fd)
  (h:∀(kV doc pm:Value) (an:Option Addr) (cdv ct:Value) (us:List Value),us.length=ps.length→bindArgs (PySem.W.fnOf x qual (j4 st) (jW st) (jJ st) .none kV doc pm an cdv ct) ⟨us,[]⟩=pure (ps.zip us)):Binds K fd ps []:=by
 obtain ⟨oc,od,kV,doc,pm,an,cdv,ct,osl,rfl,lk,hcd⟩:=F.ex
 exact .all (h kV doc pm an cdv ct)
theorem qH {x qual:Str} {st:Stmt} {f:Addr} {oc:Value} {od an:Option Addr} {osl:Array (Option Value)} {kV doc pm cdv ct:Value} (l:K.lookup f=some ⟨oc,od,.func (PySem.W.fnOf x qual (j4 st) (jW st) (jJ st) .none kV doc pm an cdv ct),osl⟩)
  (c:PySem.W.codeIn K cdv qual=true) (k:PySem.W.keepIn K (.ref f)=true):Fun K x qual st f (PySem.W.fnOf x qual (j4 st) (jW st) (jJ st) .none kV doc pm an cdv ct):=⟨⟨oc,od,kV,doc,pm,an,cdv,ct,osl,rfl,l,c⟩,k⟩
end
theorem kX {A:Around} {k:Nat} (hr:Room k A):A.units+1<cLine:=Nat.lt_of_le_of_lt (Nat.add_le_add_left (by decide:1≤64) _) hr.units
theorem QL {n:Nat} (h:n≤1000):n<sizeLine:=Nat.lt_of_le_of_lt h (by decide)
section
variable {X:Cx}
theorem pv (i:Nat) {x:Str} {pos:Pos} (hN:X.N[i]?=some x:=by rfl) (hv:z7 X.env.scope x:=by first|exact Or.inl rfl|exact Or.inr (Or.inl rfl)|exact Or.inr (Or.inr rfl)) (hd:(x == ("__debug__":Str))=false:=by decide)
  (hcd:(x == ("__classdict__":Str))=false:=by decide):PE X (.Name x pos) (d7 i):=dF hN hv hd hcd
end
theorem vB {A B:Prop} (h:B):if false=true then A else B:=by
 rw [if_neg Bool.false_ne_true]
 exact h
theorem qY {A B:Prop} (h:A):if true=true then A else B:=by
 rw [if_pos rfl]
 exact h
theorem kF {c A B:Prop} [Decidable c] (h1:c→A) (h2:¬c→B):if c then A else B:=by
 by_cases h:c
 ·rw [if_pos h]
  exact h1 h
 ·rw [if_neg h]
  exact h2 h
theorem oK {c A B:Prop} [Decidable c] (hc:c) (h:B):if (!decide c)=true then A else B:=by
 rw [decide_eq_true hc]
 exact vB h
def Same (H H':Hp):Prop:=∀b o,H b=some o→H' b=some o
theorem Same.refl (H:Hp):Same H H:=fun _ _ h=>h
theorem Same.trans {H H1 H2:Hp} (a:Same H H1) (b:Same H1 H2):Same H H2:=fun c o h=>b c o (a c o h)
theorem Same.free {H H':Hp} (e:Same H H') {l:Addr} (h:H' l=Option.none):H l=Option.none:=by
 cases q:H l with
 |none=>rfl
 |some o =>
  rw [e l o q] at h
  cases h
theorem Same.seq {K:PySem.W.Frag} {H H':Hp} {a:Addr} {xs:List V} (e:Same H H') (h:SqL K H a xs):SqL K H' a xs:=by
 rcases h with (h|⟨o,h⟩)|h
 ·exact .inl (.inl (e _ _ h))
 ·exact .inl (.inr ⟨o,e _ _ h⟩)
 ·exact .inr h
end L2
namespace L2
open PySem PySem.Spec PyProof.Rows
def kU (cells:List (Str×Addr)):List (Str×NameKind)→List (Str×Addr)→List (Str×Addr)
 |[],cs=>cs
 | (n,k)::r,cs=>if (k == NameKind.free)=true then kU cells r ((n,(cells.lookup n).getD 0)::cs) else kU cells r cs
theorem ZT {scope:Scope} {env:Env} (h:∀x∈scope.names,x.2=.free→∃c,env.cells.lookup x.1=some c):closureFor scope env=pure (kU env.cells scope.names []):=by
 simp only [closureFor]
 have go:∀(l:List (Str×NameKind)) (cs:List (Str×Addr)),(∀x∈l,x.2=.free→∃c,env.cells.lookup x.1=some c)→
   (forIn l cs fun x r=>match x with|(name,kind)=>if (kind == NameKind.free)=true then do let a ← cellOf env name;pure (ForInStep.yield ((name,a)::r)) else pure (ForInStep.yield r):Sem (List (Str×Addr)))=pure (kU env.cells l cs):=by
  intro l
  induction l with
  |nil=>intro cs _;rfl
  |cons p r ih =>
   intro cs hp
   obtain ⟨n,k⟩:=p
   rw [List.forIn_cons]
   have hr:=fun cs=>ih cs fun x hx=>hp x (List.mem_cons_of_mem _ hx)
   by_cases hk:(k == NameKind.free)=true
   ·have hk':k=NameKind.free:=by simpa using hk
    obtain ⟨c,hc⟩:=hp (n,k) List.mem_cons_self hk'
    have hc':env.cells.lookup n=some c:=hc
    simp only [hk,if_true,kU,cellOf,hc',Option.getD_some,pure_bind]
    exact hr _
   ·simp only [hk,if_false,kU,pure_bind]
    exact hr _
 rw [go scope.names [] h]
 rfl
theorem JH {cells:List (Str×Addr)}:∀{l:List (Str×NameKind)} {cs:List (Str×Addr)} {x:Str} {c:Addr},(∀y∈l,y.2=.free→∃c,cells.lookup y.1=some c)→(∀y d,cs.lookup y=some d→cells.lookup y=some d)→
  (kU cells l cs).lookup x=some c→cells.lookup x=some c
 |[],cs,x,c,_,hc,e=>hc x c e
 | (n,k)::r,cs,x,c,hl,hc,e=>by
  unfold kU at e
  by_cases hk:(k == NameKind.free)=true
  ·rw [if_pos hk] at e
   obtain ⟨d,hd⟩:=hl (n,k) List.mem_cons_self (by simpa using hk)
   have hd':cells.lookup n=some d:=hd
   refine JH (fun y hy=>hl y (List.mem_cons_of_mem _ hy)) (fun y d' q=>?_) e
   rw [List.lookup_cons] at q
   by_cases hy:(y == n)=true
   ·rw [hy] at q
    have hyn:y=n:=by simpa using hy
    subst hyn
    rw [hd'] at q ⊢
    exact q
   ·rw [Bool.not_eq_true] at hy
    rw [hy] at q
    exact hc y d' q
  ·rw [if_neg hk] at e
   exact JH (fun y hy=>hl y (List.mem_cons_of_mem _ hy)) hc e
theorem QR {cells:List (Str×Addr)}:∀{l:List (Str×NameKind)} {cs:List (Str×Addr)} {x:Str},(∃c,cs.lookup x=some c)→∃c,(kU cells l cs).lookup x=some c
 |[],_,_,h=>h
 | (n,k)::r,cs,x,h=>by
  unfold kU
  by_cases hk:(k == NameKind.free)=true
  ·rw [if_pos hk]
   refine QR ?_
   rw [List.lookup_cons]
   by_cases hy:(x == n)=true
   ·rw [hy];exact ⟨_,rfl⟩
   ·rw [Bool.not_eq_true] at hy
    rw [hy];exact h
  ·rw [if_neg hk];exact QR h
theorem JL {cells:List (Str×Addr)}:∀{l:List (Str×NameKind)} {cs:List (Str×Addr)} {x:Str},(x,NameKind.free)∈l→∃c,(kU cells l cs).lookup x=some c
 | (n,k)::r,cs,x,h=>by
  unfold kU
  rcases List.mem_cons.mp h with e|e
  ·cases e
   rw [if_pos (by rfl)]
   exact QR (by rw [List.lookup_cons,beq_self_eq_true];exact ⟨_,rfl⟩)
  ·by_cases hk:(k == NameKind.free)=true
   ·rw [if_pos hk];exact JL e
   ·rw [if_neg hk];exact JL e
theorem iJ {prog:Program} {w:World} {A:Around} {elt target iter:Expr} {ifs:List Expr} {scope:Scope} {pos:Pos} {it acc:Value} {env:Env} {R:Result→Shared→Prop} {s:Shared} (I:Nat→Shared→Prop)
  (turn:∀n s,I n s→wpAny (model prog w) A (pyNext it) (fun r s₁=>match r with
   |none=>R (.ok .next) s₁
   |some v=>wpAny (model prog w) A (letOwnedTupleGo target it v) (fun _ s₁'=>wpAny (model prog w) A (assign target env v) (fun _ s₂ =>
     wpAny (model prog w) A (forIn ifs true fun c r=>if r=true then do let ok ← isTrue c env (eval c env);pure (ForInStep.yield ok) else pure (ForInStep.yield r)) (fun ok s₃ =>
      if ok=true then wpAny (model prog w) A (eval elt env) (fun x s₄ =>
       wpAny (model prog w) A (call (.builtin "list.append") [acc,x]) (fun _ s₅=>∃m,m<n∧I m s₅) (fun _ _=>False) s₄) (fun _ _=>False) s₃
      else ∃m,m<n∧I m s₃) (fun _ _=>False) s₂) (fun _ _=>False) s₁') (fun _ _=>False) s₁) (fun _ _=>False) s)
  (n:Nat) (h:I n s):codeAny (model prog w) A (.compLoop (.ListComp elt [⟨target,iter,ifs,0⟩] scope pos) 0 it acc env) R s:=by
 refine codeAny_loop rfl I (fun n s hI=>?_) n h
 show wpAny _ A ((compTurn (.ListComp elt [⟨target,iter,ifs,0⟩] scope pos) 0 it acc env).onRaise (fun x=>do noteFrame x env;theTreesLotGoes x)) _ _ s
 refine wpAny_noted ?_
 rw [compTurn_list]
 refine wpAny_bind (wpAny_standAt (wpAny_bind (wpAny_mono (turn n s hI) (fun r s₁ h₁=>?_) fun _ _ h'=>h'.elim)))
 cases r with
 |none=>exact wpAny_pure h₁
 |some v =>
  refine wpAny_bind (wpAny_mono h₁ (fun _ s₁' h₁'=>?_) fun _ _ h'=>h'.elim)
  refine wpAny_bind (wpAny_mono h₁' (fun _ s₂ h₂=>wpAny_bind (wpAny_mono h₂ (fun ok s₃ h₃=>?_) fun _ _ h'=>h'.elim)) fun _ _ h'=>h'.elim)
  cases ok with
  |false=>exact wpAny_pure ⟨rfl,h₃⟩
  |true =>
   exact wpAny_bind (wpAny_bind (wpAny_mono h₃ (fun x s₄ h₄=>wpAny_bind (wpAny_mono h₄ (fun _ s₅ h₅=>wpAny_pure (wpAny_pure ⟨rfl,h₅⟩)) fun _ _ h'=>h'.elim)) fun _ _ h'=>h'.elim))
def kK (X:Cx) (N:List Str) (scope:Scope) (C:Addr) (s:Shared) (H:Hp) (pins:List (Addr×Obj)) (fp:List Addr):Cx where
 prog:=X.prog
 w:=X.w
 K:=X.K
 mg:=X.mg
 base:=X.base
 A:=X.A
 N:=N
 s₀:=s
 H₀:=H
 env:=compEnvC scope (kU X.env.cells scope.names []) C X.env
 outer:=X.stack
 stack:=X.stack
 ex:=fp
 fn:=fun _=>false
 calm:=X.calm
 pn:=X.pn++pins
 xe:=fun _ _=>False
structure CompScope (X:Cx) (scope:Scope):Prop where
 kind:scope.kind=.function
 nocell:∀y∈scope.names,y.2≠.cell
 names:∀y∈scope.names,y.2=.local→scope.names.lookup y.1=some .local
 free:∀y∈scope.names,y.2=.free→X.env.kindOf y.1=some .cell∨X.env.kindOf y.1=some .free
theorem QO {env:Env} {x:Str}:∀{names:List (Str×NameKind)} {k:NameKind},(names.map fun (n,k)=>if (k == NameKind.free&&env.scope.kind == .function&&env.kindOf n == some .cell) then (n,NameKind.cell) else (n,k)).lookup x=some k→
  ∃k',names.lookup x=some k'∧(k'=k∨(k'=.free∧k=.cell∧env.kindOf x=some .cell))
 |[],k,h=>by simp at h
 | (n,k0)::r,k,h=>by
  have ih:=@QO env x r k
  have h':List.lookup x ((if (k0 == NameKind.free&&env.scope.kind == .function&&env.kindOf n == some .cell)=true then (n,NameKind.cell) else (n,k0))::r.map fun (n,k)=>if (k == NameKind.free&&env.scope.kind == .function&&env.kindOf n == some .cell)=true then (n,NameKind.cell) else (n,k))=some k:=h
  by_cases hc:(k0 == NameKind.free&&env.scope.kind == .function&&env.kindOf n == some .cell)=true
  ·rw [if_pos hc] at h'
   rw [List.lookup_cons] at h'
   cases hx:x == n with
   |true =>
    rw [hx] at h'
    have hk:NameKind.cell=k:=Option.some.inj h'
    simp only [Bool.and_eq_true,beq_iff_eq] at hc
    have hxn:x=n:=by simpa using hx
    refine ⟨k0,by rw [List.lookup_cons,hx],.inr ⟨hc.1.1,hk.symm,by rw [hxn];exact hc.2⟩⟩
   |false =>
    rw [hx] at h'
    obtain ⟨k',e1,e2⟩:=ih h'
    exact ⟨k',by rw [List.lookup_cons,hx];exact e1,e2⟩
  ·rw [if_neg hc] at h'
   rw [List.lookup_cons] at h'
   cases hx:x == n with
   |true =>
    rw [hx] at h'
    exact ⟨k0,by rw [List.lookup_cons,hx],.inl (Option.some.inj h')⟩
   |false =>
    rw [hx] at h'
    obtain ⟨k',e1,e2⟩:=ih h'
    exact ⟨k',by rw [List.lookup_cons,hx];exact e1,e2⟩
theorem QQ {α:Type}:∀{l:List (Str×α)} {x:Str} {k:α},l.lookup x=some k→(x,k)∈l
 |[],_,_,h=>by simp at h
 | (n,a)::r,x,k,h=>by
  rw [List.lookup_cons] at h
  cases hx:x == n with
  |true =>
   rw [hx] at h
   have e:a=k:=Option.some.inj h
   have hxn:x=n:=by simpa using hx
   subst e;subst hxn
   exact List.mem_cons_self
  |false =>
   rw [hx] at h
   exact List.mem_cons_of_mem _ (QQ h)
def z8 (X:Cx) (ifs:List Expr) (t:TT):Prop :=
 ∀(pins:List (Addr×Obj)) (s:Shared) (σ:St) (H:Hp) (Q:Bool→Hp→Prop),Inv X pins σ H s→t σ H Q→
  wpAny (model X.prog X.w) X.A (forIn ifs true fun c r=>if r=true then do let ok ← isTrue c X.env (eval c X.env);pure (ForInStep.yield ok) else pure (ForInStep.yield r)) (TP X pins σ Q) X.xe s
def d6:TT:=fun _ H Q=>Q true H
theorem eQ {X:Cx}:z8 X [] d6:=fun _ _ _ H _ I h=>wpAny_tests_nil ⟨H,I,h⟩
theorem Q6 {X:Cx} {c:Expr} {t:TT} (hc:PT X c t):z8 X [c] t:=fun pins s σ H Q I h=>wpAny_tests_one (hc pins s σ H Q I h)
def zX (D:Addr) (J:It) (g:TG) (tc:TT) (te:TE) (σ₀:St) (H:Hp) (Q:Hp→Prop):Prop :=
 ∃W:Nat→Nat→St→Hp→Prop,(∃m,W 0 m σ₀ (jB H D (.lst [])))∧∀i m σ' H',W i m σ' H'→
  (J.stop i H'∧Q H')∨(J.go i H'∧∃N:St→Hp→Prop,(∀σ'' H'',N σ'' H''→∃m',m'<m∧W (i+1) m' σ'' H'')∧∀x H2,J.yld i H' x H2→g x σ' H2 fun σ2 H3=>tc σ2 H3 fun b H4 =>
   if b=true then te σ2 H4 fun v H5=>∃xs,H5 D=some (.lst xs)∧xs.length<sizeLine∧N σ2 (jB H5 D (.lst (xs++[v]))) else N σ2 H4)
def n5 (wi:TI) (cap:St→St) (g:TG) (tc:TT) (te:TE):TE:=fun σ H Q=>wi σ H fun J H1=>∀D,H1 D=none→zX D J g tc te (cap σ) H1 fun H'=>Q (.ref D) H'
def iQ (i:Nat) (wi:TI) (cap:St→St) (g:TG) (tc:TT) (te:TE):TS:=fun D σ H=>wi σ H fun J H1=>∀d,H1 d=none→zX d J g tc te (cap σ) H1 fun H'=>D.nx (σ.set i (some (.ref d))) H'
def y9 (X:Cx) (N:List Str) (scope:Scope) (cap:St→St):Prop :=
 ∀σ:St,σ.length=X.N.length→(cap σ).length=N.length∧∀(i:Nat) (x:Str) (v:V),N[i]?=some x→(cap σ)[i]?=some (some v)→scope.names.lookup x=some .free∧∃j:Nat,X.N[j]?=some x∧σ[j]?=some (some v)
def v5 (n:Nat) (js:List Nat):St→St:=fun σ=>List.replicate n none++js.map fun j=>(σ[j]?).join
theorem zC {X:Cx} {N:List Str} {scope:Scope} (n:Nat) (js:List Nat) (h1:N.length=n+js.length) (h2:js.map (fun j=>X.N[j]?)=(N.drop n).map some) (h3:∀x∈N.drop n,scope.names.lookup x=some .free):y9 X N scope (v5 n js):=by
 intro σ hσ
 refine ⟨by unfold v5;rw [List.length_append,List.length_replicate,List.length_map,h1],fun i x v e1 e2=>?_⟩
 unfold v5 at e2
 by_cases hi:i<n
 ·rw [List.getElem?_append_left (by simpa using hi),List.getElem?_replicate,if_pos hi] at e2
  cases e2
 ·rw [List.getElem?_append_right (by simpa using hi),List.length_replicate,List.getElem?_map] at e2
  cases hj:js[i - n]? with
  |none=>rw [hj] at e2;cases e2
  |some j =>
   rw [hj] at e2
   have e3:(σ[j]?).join=some v:=Option.some.inj e2
   have e4:σ[j]?=some (some v):=by
    cases q:σ[j]? with
    |none=>rw [q] at e3;cases e3
    |some o =>
     rw [q] at e3
     have e5:o=some v:=e3
     rw [e5]
   have hd:(N.drop n)[i - n]?=some x:=by
    rw [List.getElem?_drop,show n+(i - n)=i by omega]
    exact e1
   have e5:=congrArg (fun l=>l[i - n]?) h2
   simp only [List.getElem?_map,hj,hd,Option.map_some] at e5
   exact ⟨h3 x (List.mem_of_getElem? hd),j,Option.some.inj e5,e4⟩
theorem JA {X:Cx} {scope:Scope} (sc:Scope) (hsc:X.env.scope=sc) (kind:scope.kind=.function) (nocell:∀y∈scope.names,y.2≠.cell) (names:∀y∈scope.names,y.2=.local→scope.names.lookup y.1=some .local)
  (free:∀y∈scope.names,y.2=.free→sc.names.lookup y.1=some .cell∨sc.names.lookup y.1=some .free):CompScope X scope:=⟨kind,nocell,names,fun y hy hf=>by
 subst hsc
 exact free y hy hf⟩
section
variable {X:Cx} {N:List Str} {scope:Scope} {pins:List (Addr×Obj)} {σ:St} {H:Hp} {s:Shared} {fp:List Addr}
theorem JK (S:CompScope X scope) (I:Inv X pins σ H s):∀y∈scope.names,y.2=.free→∃c,X.env.cells.lookup y.1=some c:=fun y hy hf=>I.ok.has y.1 (S.free y hy hf)
theorem lA {cap:St→St} {D C:Addr} {h₁:Heap} {t':Nat} {m:Str→Option Value} (S:CompScope X scope) (I:Inv X pins σ H s) (hcap:y9 X N scope cap) (hf:∀b∈fp,vF X pins H b) (hfo:∀b∈fp,∃o,s.heap.get? b=some o)
  (hD:s.heap.objs.size≤D) (hC:s.heap.objs.size≤C) (hDC:D≠C) (old:∀b o,s.heap.get? b=some o→h₁.get? b=some o) (hns:h₁.Ns C m) (hl:h₁.get? D=some {cls:=.type "list",data:=.seq ([]:List Value).toArray}) :
  Inv (kK X N scope C s H pins fp) [] (cap σ) (jB H D (.lst [])) {s with heap:=h₁,toks:=t'}:=by
 have cellsOk:=JK S I
 have look:∀x c,(kU X.env.cells scope.names []).lookup x=some c→X.env.cells.lookup x=some c:=fun x c e=>JH cellsOk (fun y d q=>by simp at q) e
 have lt:∀{b:Addr} {o:Obj},s.heap.get? b=some o→b<s.heap.objs.size:=fun e=>Heap.lt_size e
 have cellLt:∀x c,X.env.cells.lookup x=some c→c<s.heap.objs.size:=fun x c e=>by
  obtain ⟨v,o,ho,_⟩:=I.cell x c e
  exact lt ho
 have nD:H D=none:=I.hok.fresh hD
 have nC:H C=none:=I.hok.fresh hC
 have stkNe:∀b:Addr,b≠X.env.locals→b∉X.fs→b∉jV X.stack:=fun b h1 h2 z=>by
  rcases List.mem_cons.mp (I.stkSub b z) with e|e
  ·exact h1 e
  ·exact h2 e
 refine ⟨⟨I.ok.mod,S.kind,I.ok.glob,I.ok.blt,hC,fun x y c h1 h2=>I.ok.inj x y c (look x c h1) (look y c h2),fun x hx=>?_,fun x c hfn _=>(nomatch hfn),I.ok.hd,I.ok.frames,.inl rfl,fun b hb=>⟨?_,fun x c e=>(hf b hb).2.2.2.2.1 x c (look x c e)⟩,
   I.bs,Nat.le_trans I.ok.bsz I.sz,fun b o e hb=>?_,fun b hb=>stkNe b (hf b hb).2.1 (hf b hb).2.2.1,I.stack,I.stkFree⟩,
  rfl,I.bare,Un.laid old hD nD,⟨m,hns,fun i x v h1 h2 h3=>?_⟩,fun x c e=>?_,?_,fun x c e=>?_,fun p hp=>?_,?_,(hcap σ I.len).1⟩
 ·-- has
  have hx':∃k,(relabel scope X.env).names.lookup x=some k∧(k=.cell∨k=.free):=by
   rcases hx with e|e
   ·exact ⟨_,e,.inl rfl⟩
   ·exact ⟨_,e,.inr rfl⟩
  obtain ⟨k,e,hk⟩:=hx'
  obtain ⟨k',e1,e2⟩:=QO e
  have hm:=QQ e1
  have hfree:k'=.free:=by
   rcases e2 with e2|e2
   ·subst e2
    rcases hk with hk|hk
    ·subst hk
     exact absurd rfl (S.nocell _ hm)
    ·exact hk
   ·exact e2.1
  subst hfree
  exact JL hm
 ·obtain ⟨o,ho⟩:=hfo b hb
  exact Nat.ne_of_lt (Nat.lt_of_lt_of_le (lt ho) hC)
 ·rcases (hf b hb).2.2.2.1 with z|z
  ·exact I.ok.noex b o e z
  ·exact absurd (Nat.lt_of_lt_of_le (Heap.lt_size e) (Nat.le_trans I.ok.bsz z)) (Nat.lt_irrefl _)
 ·-- names
  obtain ⟨hfr,j,hj,hv⟩:=(hcap σ I.len).2 i x v h1 h2
  have hm:=QQ hfr
  have hk:=S.free _ hm rfl
  obtain ⟨m0,_,hl0⟩:=I.loc
  have vis:z7 X.env.scope x:=by
   rcases hk with k|k
   ·exact .inr (.inl k)
   ·exact .inr (.inr k)
  obtain ⟨u,r,l⟩:=hl0 j x v hj hv vis
  refine ⟨u,r,.inr ⟨?_,?_⟩⟩
  ·have hvis:∃k,(relabel scope X.env).names.lookup x=some k:=by
    rcases h3 with e|e|e<;>exact ⟨_,e⟩
   obtain ⟨k,e⟩:=hvis
   obtain ⟨k',e1,e2⟩:=QO e
   rw [hfr] at e1
   cases e1
   rcases e2 with e2|e2
   ·subst e2;exact .inr e
   ·rw [e2.2.1] at e;exact .inl e
  ·rcases l with ⟨k,_⟩|⟨_,c,hc,hcell⟩
   ·exfalso
    rcases hk with q|q
    ·have q':X.env.kindOf x=some .cell:=q
     rw [k] at q';cases q'
    ·have q':X.env.kindOf x=some .free:=q
     rw [k] at q';cases q'
   ·obtain ⟨c',e'⟩:=JL (cells:=X.env.cells) (cs:=[]) hm
    have e2:=look x c' e'
    have e2':X.env.cells.lookup x=some c':=e2
    rw [hc] at e2'
    cases e2'
    obtain ⟨o,ho,hd⟩:=hcell
    exact ⟨c,e',o,old _ _ ho,hd⟩
 ·obtain ⟨v,o,ho,hd⟩:=I.cell x c (look x c e)
  exact ⟨v,o,old _ _ ho,hd⟩
 ·show jB H D (.lst []) C=none
  rw [jC (Ne.symm hDC)]
  exact nC
 ·have hc:=look x c e
  rw [jC (Nat.ne_of_lt (Nat.lt_of_lt_of_le (cellLt x c hc) hD))]
  exact I.freeC x c hc
 ·have hp':p∈X.pn++pins:=by
   rcases List.mem_append.mp hp with z|z
   ·exact z
   ·cases z
  obtain ⟨e,n,ne,nf,d⟩:=I.pin p hp'
  refine ⟨old _ _ e,?_,Nat.ne_of_lt (Nat.lt_of_lt_of_le (lt e) hC),stkNe p.1 ne nf,d⟩
  rw [jC (Nat.ne_of_lt (Nat.lt_of_lt_of_le (lt e) hD))]
  exact n
 ·refine I.hok.laid old hD ?_
  exact ⟨Nat.zero_le _,[],0,.nil,hl⟩
theorem bI {σ':St} {H':Hp} {s':Shared} {C:Addr} {σc:St} {Nc:List Str} (I:Inv X pins σ H s) (hf:∀b∈fp,vF X pins H b) (J:Inv (kK X Nc scope C s H pins fp) [] σc H' s'):Inv X pins σ H' s':=by
 refine I.call' (ch:=fp) J.os J.base J.hok J.bare fun b hb=>?_
 obtain ⟨_,h2,_,h4,h5,h6⟩:=hf b hb
 exact ⟨h4,h2,h5,h6⟩
theorem cE {σ':St} {H':Hp} {s':Shared} {C:Addr} {h':Heap} (I:Inv X pins σ H s) (hC:s.heap.objs.size≤C) (J:Inv X pins σ' H' s') (hn:H' C=none) (sb:Heap.SameBut C s'.heap h'):Inv X pins σ' H' {s' with heap:=h'}:=by
 refine J.turned (t':=s'.toks) (it:=C) (fun b o hb e=>(sb.2 b hb).trans e) hn (Nat.ne_of_gt (Nat.lt_of_lt_of_le I.lt hC)) (.inr (Nat.le_trans I.sz hC)) (fun x c e z=>?_) fun p hp z=>?_
 ·obtain ⟨v,q⟩:=I.cell x c e
  exact absurd (Nat.lt_of_lt_of_le q.lt (by rw [z];exact hC)) (Nat.lt_irrefl _)
 ·exact absurd (Nat.lt_of_lt_of_le (Heap.lt_size (I.pin p hp).1) (by rw [z];exact hC)) (Nat.lt_irrefl _)
theorem cD {tg iter elt:Expr} {ifs:List Expr} {pos:Pos} {cap:St→St} {g:TG} {tc:TT} {te:TE} {J:It} {it:Addr} {tn:Nat→Heap→Prop} {Q:Addr→Hp→Prop} {RR:Value→Addr→Result→Shared→Prop}
  (hcalm:X.calm=true) (S:CompScope X scope) (hcap:y9 X N scope cap) (I:Inv X pins σ H s) (T:Turn X.prog X.w X.K tg J fp it tn) (st:tn 0 s.heap) (hf:∀b∈fp,vF X pins H b)
  (hg:∀C,PG (kK X N scope C s H pins fp) tg g) (hc:∀C,z8 (kK X N scope C s H pins fp) ifs tc) (he:∀C,PE (kK X N scope C s H pins fp) elt te)
  (hq:∀D,H D=none→zX D J g tc te (cap σ) H (Q D))
  (hRR:∀D C σc H' s',s.heap.objs.size≤C→Inv (kK X N scope C s H pins fp) [] σc H' s'→Q D H'→RR (.ref D) C (.ok .next) s') :
  wpAny (model X.prog X.w) X.A (newList []) (fun acc s₃=>wpAny (model X.prog X.w) X.A (newFunctionEnv scope X.env.globals (kU X.env.cells scope.names []) [] X.env.qual none .none (some X.env)) (fun cenv s₄ =>
   codeAny (model X.prog X.w) X.A (.compStart (.ListComp elt [⟨tg,iter,ifs,0⟩] scope pos) 0 (.ref it) acc {cenv with scope:=relabel scope X.env}) (RR acc cenv.locals) s₄) X.xe s₃) X.xe s:=by
 refine wpAny_newObj_type (wpAny_newFunctionEnv S.nocell (by intro y hy;simp at hy) (fun h₁ hns₁ hsb₁=>?_) S.kind)
 dsimp only at hns₁ hsb₁ ⊢
 generalize hH2:s.heap.push {cls:=.type "list",dict:=none,data:=.seq ([]:List Value).toArray}=H2 at hns₁ hsb₁ ⊢
 have hC:H2.objs.size=s.heap.objs.size+1:=by rw [← hH2,Heap.size_push]
 have hDC:s.heap.objs.size≠H2.objs.size:=by rw [hC];exact Nat.ne_of_lt (Nat.lt_succ_self _)
 have hCle:s.heap.objs.size≤H2.objs.size:=by rw [hC];exact Nat.le_succ _
 have below:∀b,b<s.heap.objs.size→b≠H2.objs.size:=fun b hb=>by rw [hC];exact Nat.ne_of_lt (Nat.lt_succ_of_lt hb)
 have old:∀b o,s.heap.get? b=some o→h₁.get? b=some o:=fun b o e=>hsb₁.extBut b o (below b (Heap.lt_size e)) (Heap.get?_push_of_some _ (hH2▸Heap.get?_push_of_some _ e))
 have hacc:h₁.get? s.heap.objs.size=some {cls:=.type "list",data:=.seq ([]:List Value).toArray}:=hsb₁.extBut _ _ hDC (Heap.get?_push_of_some _ (hH2▸Heap.get?_push_size _ rfl))
 have obj0:=T.obj 0 s.heap st
 have I1:∀t',Inv (kK X N scope H2.objs.size s H pins fp) [] (cap σ) (jB H s.heap.objs.size (.lst [])) {s with heap:=h₁,toks:=t'}:=fun t' =>
  lA S I hcap hf (fun b hb=>let ⟨o,e,_⟩:=obj0 b hb;⟨o,e⟩) (Nat.le_refl _) hCle hDC old hns₁ hacc
 have st1:tn 0 h₁:=T.keep 0 s.heap h₁ st fun b _ o e=>old b o e
 have stat:∀{H':Hp},(∀b∈fp,H' b=none)→∀b∈fp,vF (kK X N scope H2.objs.size s H pins fp) [] H' b:=fun hn b hb=>by
  obtain ⟨_,h2,h3,h4,h5,h6⟩:=hf b hb
  obtain ⟨o,ho,_⟩:=obj0 b hb
  refine ⟨hn b hb,below b (Heap.lt_size ho),?_,.inl hb,fun x c e=>h5 x c (JH (JK S I) (fun y d q=>by simp at q) e),fun p hp=>?_⟩
  ·intro z
   rcases List.mem_cons.mp (I.stkSub b z) with e|e
   ·exact h2 e
   ·exact h3 e
  ·rcases List.mem_append.mp hp with z|z
   ·exact h6 p z
   ·cases z
 have fr1:∀b∈fp,jB H s.heap.objs.size (.lst []) b=none:=fun b hb=>by
  obtain ⟨o,ho,_⟩:=obj0 b hb
  rw [jC (Nat.ne_of_lt (Heap.lt_size ho))]
  exact (hf b hb).1
 obtain ⟨W,⟨m0,w0⟩,turn⟩:=hq s.heap.objs.size (I.hok.fresh (Nat.le_refl _))
 have loop:∀s₃:Shared,s₃={s with heap:=h₁,toks:=s.toks+([]:List (Str×Value)).length}→
   codeAny (model X.prog X.w) X.A (.compLoop (.ListComp elt [⟨tg,iter,ifs,0⟩] scope pos) 0 (.ref it) (.ref s.heap.objs.size) (compEnvC scope (kU X.env.cells scope.names []) H2.objs.size X.env))
    (RR (.ref s.heap.objs.size) H2.objs.size) s₃:=by
  rintro s₃ rfl
  refine iJ (fun n s'=>∃i σ' H',Inv (kK X N scope H2.objs.size s H pins fp) [] σ' H' s'∧tn i s'.heap∧(∀b∈fp,H' b=none)∧W i n σ' H') ?_ m0 ⟨0,cap σ,_,I1 _,st1,fr1,w0⟩
  rintro n s3 ⟨i,σ3,H3,I3,st3,fr3,w3⟩
  rcases turn i n σ3 H3 w3 with ⟨stop,qn⟩|⟨go,Nn,hN,step⟩
  ·refine jI (T.done (kK X N scope H2.objs.size s H pins fp) rfl rfl rfl hcalm i [] s3 σ3 H3 (fun _ _=>False) I3 (stat fr3) st3 stop) fun r s4 ⟨hr,I4⟩=>?_
   subst hr
   exact hRR _ _ σ3 H3 s4 hCle I4 qn
  ·refine jI (T.item (kK X N scope H2.objs.size s H pins fp) rfl rfl rfl hcalm i [] s3 σ3 H3 (fun _ _=>False) I3 (stat fr3) st3 go) fun r s4 ⟨u,hr,h4⟩=>?_
   subst hr
   refine jI h4 fun _ s5 ⟨x,H5,I5,r5,y5,st5,fr5⟩=>?_
   have I5':=I5.pinned (stat fr5) (T.obj _ _ st5)
   have again:∀{σ7:St} {H7:Hp} {s7:Shared},Inv (kK X N scope H2.objs.size s H pins fp) ([]++zU fp s5.heap) σ7 H7 s7→Nn σ7 H7→
     ∃m,m<n∧∃i σ' H',Inv (kK X N scope H2.objs.size s H pins fp) [] σ' H' s7∧tn i s7.heap∧(∀b∈fp,H' b=none)∧W i m σ' H':=fun {σ7 H7 s7} I7 n7=>by
    obtain ⟨m',hm,w7⟩:=hN σ7 H7 n7
    refine ⟨m',hm,i+1,σ7,H7,I7.unpinned,T.keep _ _ _ st5 fun b hb o e=>(I7.pin (b,o) (List.mem_append_right _ (List.mem_append_right _ (JJ hb e)))).1,fun b hb=>?_,w7⟩
    obtain ⟨o,e,d⟩:=T.obj _ _ st5 b hb
    exact (I7.pin (b,o) (List.mem_append_right _ (List.mem_append_right _ (JJ hb e)))).2.1
   refine jI (hg _ _ s5 σ3 H5 x u _ I5' r5 (step x H5 y5)) fun _ s6 ⟨σ6,H6,I6,q6⟩=>?_
   refine jI (hc _ _ s6 σ6 H6 _ I6 q6) fun ok s7 ⟨H7,I7,q7⟩=>?_
   cases ok with
   |false=>exact again I7 q7
   |true =>
    refine jI (he _ _ s7 σ6 H7 _ I7 q7) fun v s8 ⟨y,H8,I8,r8,xs,hD8,hz8,n8⟩=>?_
    refine jI (vQ _ s8 σ6 H8 (.ref s.heap.objs.size) [y] (.ref s.heap.objs.size) [v] (fun _ H9=>Nn σ6 H9) I8 rfl (.cons r8 .nil) ⟨_,_,_,rfl,rfl,hD8,hz8,n8⟩) fun _ s9 ⟨_,H9,I9,_,n9⟩=>?_
    exact again I9 n9
 exact codeAny_compStart_list (loop _ rfl) (wpAny_mono (T.self X.A 0 _ (fun v s'=>v=.ref it∧s'=_) (fun _ _=>False) st1 ⟨rfl,rfl⟩) (fun v s' ⟨e1,e2⟩=>by subst e1;subst e2;exact loop _ rfl) fun _ _ z=>z.elim)
theorem cV {tg iter elt:Expr} {ifs:List Expr} {pos:Pos} {wi:TI} {g:TG} {tc:TT} {te:TE} (N:List Str) (cap:St→St) (hcalm:X.calm=true) (S:CompScope X scope) (hcap:y9 X N scope cap) (hi:PI X tg iter wi)
  (hg:∀C s H pins fp,PG (kK X N scope C s H pins fp) tg g) (hc:∀C s H pins fp,z8 (kK X N scope C s H pins fp) ifs tc) (he:∀C s H pins fp,PE (kK X N scope C s H pins fp) elt te)
  (hs:∀x,foldedSetIterable iter X.env x=pure x:=by intro _;rfl):PE X (.ListComp elt [⟨tg,iter,ifs,0⟩] scope pos) (n5 wi cap g tc te):=by
 intro pins s σ H Q I h
 rw [eval_ListComp]
 refine wpAny_comprehension_free (use:=none) rfl hs (ZT (JK S I)) S.kind S.names (jI (hi pins s σ H _ I h) fun v s1 h1=>jI h1 fun itv s2 h2=>?_)
 obtain ⟨it,fp,tn,J,H2,e,I2,T,st2,f2,q2⟩:=h2
 subst e
 refine cD (RR:=fun acc C=>compPost (model X.prog X.w) X.A X.xe none (EP X pins σ Q) acc C) (Q:=fun D H'=>Q (.ref D) H') hcalm S hcap I2 T st2 f2 (fun C=>hg C _ _ _ _) (fun C=>hc C _ _ _ _) (fun C=>he C _ _ _ _) q2 ?_
 intro D C σc H' s' hC Jc q
 obtain ⟨m,hn,_⟩:=Jc.loc
 refine ⟨m,hn,fun h' hs'=>?_⟩
 exact ⟨.ref D,H',cE I2 hC (bI (σ':=σ) I2 f2 Jc) Jc.free hs',rfl,q⟩
theorem ZY {tg iter elt:Expr} {ifs:List Expr} {pos spos py:Pos} {i:Nat} {y:Str} {wi:TI} {g:TG} {tc:TT} {te:TE} (N:List Str) (cap:St→St) (hN:X.N.Nodup) (hy:X.N[i]?=some y) (hloc:zA X.env.scope y) (hcalm:X.calm=true) (S:CompScope X scope) (hcap:y9 X N scope cap) (hi:PI X tg iter wi)
  (hg:∀C s H pins fp,PG (kK X N scope C s H pins fp) tg g) (hc:∀C s H pins fp,z8 (kK X N scope C s H pins fp) ifs tc) (he:∀C s H pins fp,PE (kK X N scope C s H pins fp) elt te)
  (hsw:swapsWith (.ListComp elt [⟨tg,iter,ifs,0⟩] scope pos) (some (.Name y py)) spos.line X.env=pure true:=by rfl)
  (hs:∀x,foldedSetIterable iter X.env x=pure x:=by intro _;rfl) (hfn:X.fn y=true∨X.env.scope.names.lookup y=some .local:=by first|exact .inl rfl|exact .inr rfl|assumption) :
  PS X (.Assign [.Name y py] (.ListComp elt [⟨tg,iter,ifs,0⟩] scope pos) spos) (iQ i wi cap g tc te):=by
 intro pins s σ H D I h
 rw [exec_Assign_Name_used _ _ _ _ hsw]
 refine wpAny_bind (wpAny_standAt (wpAny_bind ?_))
 show wpAny _ X.A (do let _ ← comprehension (.ListComp elt [⟨tg,iter,ifs,0⟩] scope pos) scope X.env _ (newList []) false (eval iter X.env) (some (assign (.Name y py) X.env))) _ _ s
 refine wpAny_bind (wpAny_mono (wpAny_comprehension_free (use:=some (assign (.Name y py) X.env)) (Q:=fun _ s'=>SP X pins D .next s') rfl hs (ZT (JK S I)) S.kind S.names
  (jI (hi pins s σ H _ I h) fun v s1 h1=>jI h1 fun itv s2 h2=>?_)) (fun _ s' hq=>wpAny_pure (wpAny_pure hq)) fun _ _ e=>e)
 obtain ⟨it,fp,tn,J,H2,e,I2,T,st2,f2,q2⟩:=h2
 subst e
 refine cD (RR:=fun acc C=>compPost (model X.prog X.w) X.A X.xe (some (assign (.Name y py) X.env)) (fun _ s'=>SP X pins D .next s') acc C) (Q:=fun d H'=>D.nx (σ.set i (some (.ref d))) H') hcalm S hcap I2 T st2 f2 (fun C=>hg C _ _ _ _) (fun C=>hc C _ _ _ _) (fun C=>he C _ _ _ _) q2 ?_
 intro d C σc H' s' hC Jc q
 obtain ⟨m,hn,_⟩:=Jc.loc
 have J1:Inv X pins σ H' s':=bI (σ':=σ) I2 f2 Jc
 show wpAny _ X.A (assign (.Name y py) X.env (.ref d)) _ _ _
 refine wpAny_assign_Name (Z5 (v:=.ref d) J1 hN hy hloc rfl (fun s'' J2 hsb=>?_) hfn)
 obtain ⟨a,sb,ha⟩:=hsb
 have haC:C≠a:=by
  rcases ha with e|e
  ·rw [e];exact Nat.ne_of_gt (Nat.lt_of_lt_of_le I2.lt hC)
  ·obtain ⟨v,q'⟩:=I2.cell y a e
   exact Nat.ne_of_gt (Nat.lt_of_lt_of_le q'.lt hC)
 refine ⟨m,hn.sameBut sb haC,fun h' hs'=>?_⟩
 exact ⟨_,H',cE I2 hC J2 Jc.free hs',q⟩
end
end L2
namespace L2
open PySem PySem.Spec PyProof.Rows
theorem mZ {σ:St} {H:Hp} {Q:Bool→Hp→Prop} (h:Q true H):d6 σ H Q:=h
theorem gI {K:PySem.W.Frag} {a D:Addr} {xs:List V} {g:TG} {tc:TT} {te:TE} {σ₀:St} {H:Hp} {Q:Hp→Prop} (Pv:Nat→St→Hp→Prop) (h0:Pv 0 σ₀ (jB H D (.lst []))) (hl:∀i σ H,i≤xs.length→Pv i σ H→SqL K H a xs)
    (hs:∀i x σ H,xs[i]?=some x→Pv i σ H→g x σ H fun σ2 H3=>tc σ2 H3 fun b H4=>if b=true then te σ2 H4 fun v H5=>∃ys,H5 D=some (.lst ys)∧ys.length<sizeLine∧Pv (i+1) σ2 (jB H5 D (.lst (ys++[v]))) else Pv (i+1) σ2 H4)
    (hd:∀σ H,Pv xs.length σ H→Q H):zX D (yG K a) g tc te σ₀ H Q:=by
  refine ⟨fun i m σ H=>m=xs.length - i∧i≤xs.length∧Pv i σ H,⟨xs.length,by simp,Nat.zero_le _,h0⟩,?_⟩
  rintro i m σ H ⟨rfl,hi,p⟩
  have q:=hl i σ H hi p
  by_cases hlt:i<xs.length
  · refine .inr ⟨⟨xs,xs[i],q,by simp [hlt]⟩,Pv (i+1),fun σ' H' p'=>⟨xs.length - (i+1),by omega,rfl,hlt,p'⟩,fun x H' y=>?_⟩
    obtain ⟨e,y⟩:=y
    subst e
    exact hs i x σ _ (y xs q) p
  · have e:i=xs.length:=by omega
    subst e
    exact .inl ⟨⟨xs,q,Nat.le_refl _⟩,hd σ H p⟩
theorem qP {H H':Hp} {D:Addr} {o:HO} (hD:H D=none) (s:Same H H'):Same H (jB H' D o):=fun b u q=>by
 rw [jC (kM q hD)]
 exact s b u q
def zZ (H:Hp) (D:Addr) (caps:St) (R:Nat→List V→Hp→Prop) (i:Nat) (σ:St) (Hi:Hp):Prop:=∃ys c,σ=c::caps∧Same H Hi∧Hi D=some (.lst ys)∧ys.length≤i∧R i ys Hi
theorem JC {H Hi H5:Hp} {D:Addr} {caps:St} {R:Nat→List V→Hp→Prop} {i:Nat} {ys:List V} {c:Option V} {v:V} (hD:H D=none) (s:Same H Hi) (hY:Hi D=some (.lst ys)) (hl:ys.length≤i) (hi:i≤999) (s5:Same Hi H5)
  (r:R (i+1) (ys++[v]) (jB H5 D (.lst (ys++[v])))):∃zs,H5 D=some (.lst zs)∧zs.length<sizeLine∧zZ H D caps R (i+1) (c::caps) (jB H5 D (.lst (zs++[v]))):=by
 refine ⟨ys,s5 _ _ hY,QL (by omega),ys++[v],c,rfl,qP hD (s.trans s5),jE,?_,r⟩
 rw [List.length_append,List.length_singleton];omega
theorem QW {H Hi H4:Hp} {D:Addr} {caps:St} {R:Nat→List V→Hp→Prop} {i:Nat} {ys:List V} {c:Option V} (s:Same H Hi) (hY:Hi D=some (.lst ys)) (hl:ys.length≤i) (s4:Same Hi H4) (r:R (i+1) ys H4) :
  zZ H D caps R (i+1) (c::caps) H4:=⟨ys,c,rfl,s.trans s4,s4 _ _ hY,by omega,r⟩
theorem JB {K:PySem.W.Frag} {a D:Addr} {xs:List V} {tc:TT} {te:TE} {caps:St} {H:Hp} {Q:Hp→Prop} (R:Nat→List V→Hp→Prop) (hD:H D=none) (hS:SqL K H a xs) (h0:R 0 [] (jB H D (.lst [])))
  (hs:∀i x ys Hi,xs[i]?=some x→i<xs.length→ys.length≤i→Same H Hi→Hi D=some (.lst ys)→R i ys Hi→tc (some x::caps) Hi fun b H4=>if b=true then te (some x::caps) H4 fun v H5=>∃zs,H5 D=some (.lst zs)∧zs.length<sizeLine∧zZ H D caps R (i+1) (some x::caps) (jB H5 D (.lst (zs++[v])))
   else zZ H D caps R (i+1) (some x::caps) H4)
  (hd:∀ys Hf,Same H Hf→Hf D=some (.lst ys)→ys.length≤xs.length→R xs.length ys Hf→Q Hf):zX D (yG K a) (ZI 0) tc te (none::caps) H Q:=by
 refine gI (xs:=xs) (zZ H D caps R) ⟨[],none,rfl,qP hD (Same.refl H),jE,Nat.le_refl _,h0⟩ (fun i σ Hi _ ⟨_,_,_,s,_⟩=>s.seq hS) ?_ ?_
 ·rintro i x σ Hi hx ⟨ys,c,rfl,s,hY,hl,r⟩
  exact hs i x ys Hi hx (List.getElem?_eq_some_iff.mp hx).1 hl s hY r
 ·rintro σ Hf ⟨ys,c,rfl,s,hY,hl,r⟩
  exact hd ys Hf s hY hl r
def pH:V→Option Value
 |.ty n=>some (.type n)
 |.ref a=>some (.ref a)
 |_=>none
section
variable {X:Cx}
end
def vH (xs ys:List V):Bool:=(List.range (min xs.length ys.length)).all (fun j=>v7 (xs.getD j .non) (ys.getD j .non))&&xs.length == ys.length
theorem cC {x:V} (h:qO x=true):v7 x x=true:=by
 cases x with
 |non=>rfl
 |bl b=>show (b == b)=true;simp
 |int i=>show (i == i)=true;simp
 |str z=>show (z == z)=true;simp
 |_=>exact absurd (show false=true from h) Bool.false_ne_true
theorem i9 {xs:List V} (h:xs.all qO=true):vH xs xs=true:=by
 unfold vH
 rw [Bool.and_eq_true]
 refine ⟨?_,by simp⟩
 rw [List.all_eq_true]
 intro j hj
 have hj':j<xs.length:=by simpa using hj
 refine cC ?_
 rw [List.getD_eq_getElem?_getD,List.getElem?_eq_getElem hj']
 exact List.all_eq_true.mp h _ (List.getElem_mem hj')
theorem yU {xs:List V} {us:List Value} (r:Vals xs us) {j:Nat} (h:j<us.toArray.size):RelV (xs.getD j .non) us.toArray[j]:=by
 have hj:j<us.length:=by simpa using h
 have hx:j<xs.length:=by rw [r.length];exact hj
 obtain ⟨u,e,q⟩:=r.get (List.getElem?_eq_getElem hx)
 rw [List.getElem?_eq_getElem hj] at e
 have e':=Option.some.inj e
 rw [List.getD_eq_getElem?_getD,List.getElem?_eq_getElem hx]
 show RelV xs[j] us.toArray[j]
 rw [List.getElem_toArray,e']
 exact q
theorem JQ {xs:List V} (h:xs.all qO=true) {j:Nat} (hj:j<xs.length):qO (xs.getD j .non)=true:=by
 rw [List.getD_eq_getElem?_getD,List.getElem?_eq_getElem hj]
 exact List.all_eq_true.mp h _ (List.getElem_mem hj)
section
variable {X:Cx}
end
end L2
namespace L2
open PySem PySem.Spec PyProof.Rows
section
variable {X:Cx}
end
end L2
namespace L2
open PySem PySem.Spec PyProof.Rows
section
variable {X:Cx} (K:PySem.W.Frag)
theorem fY (h:X.K=K:=by rfl):CallR X (.builtin "len") (fun xs H Q=>∃p ys,xs=[.ref p]∧(SqL K H p ys∨SqT K H p ys)∧Q (.int ys.length) H):=by subst h;exact zD
end
end L2
namespace L2
open PySem PySem.Spec PyProof.Rows
section
variable {X:Cx}
end
end L2
namespace L2
open PySem PySem.Spec PyProof.Rows
section
variable {X:Cx}
def o4 (t u:TS):TS:=fun D σ H=>∃P:St→Hp→Prop,t {D with nx:=P} σ H∧∀σ' H',P σ' H'→u D σ' H'
theorem vK {st:Stmt} {rest:List Stmt} {t u:TS} (h1:PS X st t) (h2:PSs X rest u):PSs X (st::rest) (o4 t u):=by
 intro pins s σ H D I h
 obtain ⟨P,hP,hu⟩:=h
 refine wpAny_execs_cons (jI (h1 pins s σ H {D with nx:=P} I hP) fun f s1 q=>?_)
 cases f with
 |next =>
  obtain ⟨σ',H',I',q⟩:=q
  exact h2 pins s1 σ' H' D I' (hu σ' H' q)
 |ret v=>exact q
 |brk=>exact q
 |cont=>exact q
end
end L2
namespace L2
open PySem PySem.Spec PyProof.Rows
structure Def (P:Program) (w:World) (K:PySem.W.Frag) (mg:Str→Option Value) (base:Heap) (k:Nat) (x:Str) (ps:List Str) (dvs:List V) (sp:Sp):Prop where
 ex:∃(f:Addr) (fd:FuncData) (ds:List Value),FnOk P w K mg base j0 k f fd ps sp∧mg x=some (.ref f)∧PySem.W.keepIn K (.ref f)=true∧Vals dvs ds∧Binds K fd ps ds
theorem j7 {X:Cx} {k k':Nat} {x:Str} {ps:List Str} {dvs:List V} {sp:Sp} {p pos:Pos} {e:Expr} {es:List Expr} {t:TA} (F:Def X.prog X.w X.K X.mg X.base k x ps dvs sp) (hr:Room k' X.A) (hg:Gl X x) (ha:PA X (e::es) t)
  (hk:k≤k':=by decide) (hdb:(x == ("__debug__":Str))=false:=by decide) (he:starEach (e::es) X.env=(false,eval e X.env)::starEach es X.env:=by rfl) (hpl:(backTo pos (starEach es X.env)).any (·.1)=false:=by rfl) :
  PE X (.Call (.Name x p) (e::es) [] pos) (dS sp dvs E0 t):=by
 obtain ⟨f,fd,ds,G,m,kp,hv,b⟩:=F.ex
 exact lT G (hr.mono hk) hg m kp b hv ZH ha hdb he hpl
structure FunD (K:PySem.W.Frag) (x qual:Str) (st:Stmt) (f:Addr) (fd:FuncData) (ds:List Value):Prop where
 ex:∃(oc:Value) (od:Option Addr) (T:Addr) (kV doc pm:Value) (an:Option Addr) (cdv ct:Value) (osl:Array (Option Value)) (oT:Obj) (n:Nat),
  fd=PySem.W.fnOf x qual (j4 st) (jW st) (jJ st) (.ref T) kV doc pm an cdv ct∧K.lookup f=some ⟨oc,od,.func fd,osl⟩∧PySem.W.codeIn K cdv qual=true∧K.lookup T=some oT∧oT.data=.seq ds.toArray n
 kp:PySem.W.keepIn K (.ref f)=true
section
variable {P:Program} {w:World} {K:PySem.W.Frag} {mg:Str→Option Value} {base:Heap}
theorem FunD.ok {x qual:Str} {st:Stmt} {f:Addr} {fd:FuncData} {ds:List Value} {N ps:List Str} {k:Nat} {sp:Sp} (F:FunD K x qual st f fd ds) (S:FnScope N ps (jJ st)) (len:∀vs H Q E,sp vs H Q E→vs.length=ps.length)
  (hbody:∀(cdv:Value) (A:Around) (outer:List Env) (s:Shared) (H:Hp) (vs:List V) (Q:VK) (E:XK),Room k (A.deeper (envOfC qual (jJ st) s.heap.objs.size f cdv))→sp vs H Q E→
   ∃t,PSs (kY j0 P w K mg base N qual (jJ st) f cdv A outer s H E).nox (jW st) t∧t {nx:=fun _ H'=>Q .non H',rt:=Q} (kL N vs) H):FnOk P w K mg base j0 (k+1) f fd ps sp:=by
 obtain ⟨oc,od,T,kV,doc,pm,an,cdv,ct,osl,oT,n,rfl,lk,hcd,_,_⟩:=F.ex
 refine z5 lk hcd S len fun A outer s H vs Q E hr hsp=>?_
 obtain ⟨t,h,q⟩:=hbody cdv A outer s H vs Q E hr hsp
 exact ⟨t,h.nox,q⟩
end
section
variable {X:Cx}
end
end L2
namespace L2
open PySem
theorem oJ {c A B:Prop} [Decidable c] (hc:¬c) (h:A):if (!decide c)=true then A else B:=by
 rw [decide_eq_false hc]
 exact qY h
end L2
namespace L2
open PySem PySem.Spec PyProof.Rows
end L2
namespace L2
open PySem PySem.Spec PyProof.Rows
section
variable {X:Cx} {k k':Nat} {x m:Str} {C:Addr} {ps:List Str} {sp:Sp} {p pos apos:Pos} {o e:Expr} {es:List Expr} {ta:TE} {t:TA}
end
end L2
namespace L2
open PySem PySem.Spec PyProof.Rows
end L2
namespace L2
open PySem PySem.Spec PyProof.Rows
section
variable {X:Cx}
theorem gC {ns:List Int} {its:List Value} (rv:Vals (ns.map V.int) its) {i:Nat} {v:Value} (h:its.toArray[i]?=some v):∃t,v=Value.int (ns.getD i 0) t:=by
 have h':its[i]?=some v:=by simpa using h
 have hi:i<its.length:=(List.getElem?_eq_some_iff.mp h').1
 have hn:i<ns.length:=by have:=rv.length;rw [List.length_map] at this;omega
 obtain ⟨u,e,q⟩:=rv.get (x:=V.int (ns.getD i 0)) (i:=i) (by rw [List.getElem?_map,List.getElem?_eq_getElem hn,List.getD_eq_getElem?_getD,List.getElem?_eq_getElem hn];rfl)
 rw [h'] at e
 cases e
 exact q
theorem fS (bs:List Bool):(List.range bs.length).all (fun i=>bs.getD i true)=bs.all id:=by
 rw [Bool.eq_iff_iff,List.all_eq_true,List.all_eq_true]
 constructor
 ·intro h x hx
  obtain ⟨i,hi,e⟩:=List.mem_iff_getElem.mp hx
  have:=h i (by simpa using hi)
  rw [List.getD_eq_getElem?_getD,List.getElem?_eq_getElem hi,e] at this
  exact this
 ·intro h i hi
  have hi':i<bs.length:=by simpa using hi
  rw [List.getD_eq_getElem?_getD,List.getElem?_eq_getElem hi']
  exact h _ (List.getElem_mem hi')
theorem iL (hc:X.calm=true):CallR X (.builtin "sum") (fun xs H Q=>∃(p:Addr) (ns:List Int),xs=[.ref p]∧SqL X.K H p (ns.map V.int)∧Q (.int ns.sum) H):=by
 intro pins s σ H xs us Q I r h
 obtain ⟨p,ns,rfl,hq,q⟩:=h
 obtain ⟨u,rfl,rx⟩:=vV r
 cases rx
 obtain ⟨its,rv,pl,hz⟩:=I.list hq
 have hlen:=rv.length
 rw [List.length_map] at hlen
 have hp:p<s.heap.objs.size:=by obtain ⟨o,n,e,_⟩:=pl;exact Heap.lt_size e
 refine call_sum_walkAnyS (wpAny_pyIter_list pl.isList ?_)
 refine ⟨s.heap.objs.size,_,_,_,_,_,_,fun i=>ns.getD i 0,rfl,(Walks.list (A:=X.A.in1) (I.ok.hd hc) s.heap.objs.size p (Nat.ne_of_lt hp) its.toArray).toS,⟨⟨_,Heap.get?_push_size _ rfl,rfl,rfl⟩,pl.isList.at fun o e=>Heap.get?_push_of_some _ e⟩,fun b hb=>?_,fun i v h=>gC rv h,fun s' t' m=>?_⟩
 ·rw [Heap.size_push]
  rcases List.mem_cons.mp hb with e|e
  ·rw [e];exact Nat.lt_succ_self _
  ·have e':b=p:=by simpa using e
   rw [e'];exact Nat.lt_succ_of_lt hp
 ·obtain ⟨hh,g,d,t,os⟩:=s'
  obtain ⟨m1,m2,m3,m4,m5⟩:=m
  have m2':g=s.gens:=m2
  have m3':d=s.drawn:=m3
  have m4':os=s.os:=m4
  subst m2' m3' m4'
  have e:preSum (fun i=>ns.getD i 0) its.toArray.size=ns.sum:=by rw [preSum_getD,List.size_toArray,← hlen,List.take_length]
  rw [e]
  refine ⟨.int ns.sum,H,I.kept (t':=t) fun b o e=>m1 b o (fun hb=>?_) (Heap.get?_push_of_some _ e),⟨_,rfl⟩,q⟩
  have e':b=s.heap.objs.size:=by simpa using hb
  exact absurd (Heap.lt_size e) (by rw [e'];exact Nat.lt_irrefl _)
end
end L2
namespace L2
open PySem PySem.Spec PyProof.Rows
section
variable {X:Cx}
end
end L2
namespace L2
open PySem PySem.Spec PyProof.Rows
end L2
namespace L2
open PySem PySem.Spec PyProof.Rows
section
variable {P:Program} {w:World} {H:Hp} {h h':Heap} {a:Addr} {o:HO}
theorem ObjOk.there (x:ObjOk P w H h a o):∃u,h.get? a=some u:=by
 cases o with
 |lst xs=>obtain ⟨_,_,_,_,e⟩:=x;exact ⟨_,e⟩
 |tup xs=>obtain ⟨_,_,_,o,e,_⟩:=x;exact ⟨_,e⟩
 |dK kvs=>obtain ⟨_,_,_,_,o,_,_,e,_⟩:=x;exact ⟨_,e⟩
 |dT kvs=>obtain ⟨_,_,_,_,o,_,_,e,_⟩:=x;exact ⟨_,e⟩
 |set S n=>obtain ⟨o,_,_,_,e,_⟩:=x;exact ⟨_,e⟩
 |ins C dx fs=>obtain ⟨_,_,_,e,_⟩:=x;exact ⟨_,e⟩
 |own y=>obtain ⟨_,e⟩:=x;exact ⟨_,e⟩
 |xd fs=>obtain ⟨_,⟨_,_,_,e,_⟩,_⟩:=x;exact ⟨_,e⟩
 |rng lo hi=>obtain ⟨_,_,_,e⟩:=x;exact ⟨_,e⟩
 |frz ob u=>obtain ⟨e,_⟩:=x;exact ⟨_,e⟩
 |tbl ps=>exact ⟨_,(show h.get? a=some _ from x)⟩
 |met f y=>exact ⟨_,(show h.get? a=some _ from x)⟩
 |ext φ=>obtain ⟨_,e,_⟩:=x;exact e
theorem HOk.there (x:HOk P w H h) (e:H a=some o):∃u,h.get? a=some u:=(x a o e).there
theorem HOk.keepT (x:HOk P w H h) (k:∀b u,H b≠none→h.get? b=some u→h'.get? b=some u):HOk P w H h':=fun a o e =>
 (x a o e).stay (fun b u hb q=>k b u (by
  rcases hb with rfl|hb
  ·rw [e];exact fun z=>nomatch z
  ·rw [hb];exact fun z=>nomatch z) q) (fun _ q=>q) fun _ _ q=>q
end
theorem Un.go {fs ex:List Addr} {H H1:Hp} {h0 h h':Heap} (u:Un fs ex H H1 h0 h) (k:∀b o,h.get? b=some o→b∉fs→b∉ex→(∃o',h0.get? b=some o')→h'.get? b=some o)
  (ks:∀b o,h.get? b=some o→b∈fs→(∃o',h0.get? b=some o')→∃sl,h'.get? b=some {o with slots:=sl}):Un fs ex H H1 h0 h' where
 keep:=fun b o q n hb hx=>k b o (u.keep b o q n hb hx) hb hx ⟨o,q⟩
 slot:=fun b o q n hb hx=>by
  obtain ⟨sl,e⟩:=u.slot b o q n hb hx
  obtain ⟨sl',e'⟩:=ks b _ e hb ⟨o,q⟩
  exact ⟨sl',e'⟩
 free:=u.free
 there:=fun b o q hx=>by
  obtain ⟨o',e⟩:=u.there b o q hx
  by_cases hb:b∈fs
  ·obtain ⟨sl,e'⟩:=ks b o' e hb ⟨o,q⟩
   exact ⟨_,e'⟩
  ·exact ⟨o',k b o' e hb hx ⟨o,q⟩⟩
 tups:=u.tups
 frzs:=u.frzs
 tbls:=u.tbls
def eP (fr:List Env) (Z:Addr→Prop) (h:Heap) (a C:Addr):Prop :=
 ∃(B:Heap) (a0:Value),Heap.FlyingW B fr a (.ref C) a0 h∧∀b o,h.get? b=some o→b∉jV fr→Z b→B.get? b=some o
def vC (P:Program) (w:World):kE:=fun outer H s E e s'=>∃(a C:Addr) (H':Hp),e=.ref a∧s'.os=s.os∧AllBare s'.gens∧Un (jV outer) [] H H' s.heap s'.heap∧HOk P w H' s'.heap∧
 eP outer (fun b=>H' b≠none∨∃o',s.heap.get? b=some o') s'.heap a C∧H' a=none∧s.heap.get? a=none∧E (.ref C) none H'
def dO (X:Cx) (R:St→Value→Hp→Prop):Prop:=∀pins σ H s e h' C vs,Inv X pins σ H s→Heap.MadeExcOf s.heap h' e (.ref C) vs→R σ (.ref C) H→X.xe (.ref e) {s with heap:=h'}
def QE (X:Cx) (R:St→Value→Hp→Prop):Prop:=∀pins σ H s e s',Inv X pins σ H s→vC X.prog X.w X.stack H s (fun c _ H'=>R σ c H') e s'→X.xe e s'
theorem gX {P:Program} {w:World} {K:PySem.W.Frag} {mg:Str→Option Value} {base:Heap} {N:List Str} {qual:Str} {scope:Scope} {f:Addr} {cd:Value} {A:Around} {outer:List Env} {s:Shared} {H:Hp} {E:XK} :
  dO (kY (vC P w) P w K mg base N qual scope f cd A outer s H E) (fun _ c H'=>E c none H'):=by
 intro pins σ H1 s1 e h' C vs I hx q
 have hin:∀env∈(envOfC qual scope s.heap.objs.size f cd::outer),∀b,env.frame=some b→b∈jV (envOfC qual scope s.heap.objs.size f cd::outer):=fun env he b hb=>List.mem_filterMap.mpr ⟨env,he,hb⟩
 have hst:s1.heap.FunFrames base (envOfC qual scope s.heap.objs.size f cd::outer):=I.stack
 have hfrees:∀b∈jV (envOfC qual scope s.heap.objs.size f cd::outer),H1 b=none:=I.stkFree
 have hfs:jV (envOfC qual scope s.heap.objs.size f cd::outer)=s.heap.objs.size::jV outer:=rfl
 have ub:Un (jV outer) [] H H1 s.heap s1.heap:=I.base
 have hno:s1.heap.get? e=none:=hx.new
 show wpAny (model P w) (A.deeper (envOfC qual scope s.heap.objs.size f cd)) (leaving (envOfC qual scope s.heap.objs.size f cd) (.ref e)) (fun _ s''=>vC P w outer H s E (.ref e) s'') (fun e' s''=>vC P w outer H s E e' s'') {s1 with heap:=h'}
 refine wpAny_leaves_madeW (base:=PySem.W.hideAll s1.heap (jV (envOfC qual scope s.heap.objs.size f cd::outer))) I.ok.frames rfl (fun b o q=>PySem.W.of_hideAll _ q) (PySem.W.funFrames_hide hst hin) hx fun h2 t fl _ _ up=>?_
 dsimp only at up
 have keep:∀b o,s1.heap.get? b=some o→b∉jV (envOfC qual scope s.heap.objs.size f cd::outer)→(PySem.W.hideAll s1.heap (jV (envOfC qual scope s.heap.objs.size f cd::outer))).get? b=some o:=fun b o q n=>PySem.W.hideAll_get _ q n
 have old:∀b,(∃o',s.heap.get? b=some o')→b∉jV outer→b∉jV (envOfC qual scope s.heap.objs.size f cd::outer):=fun b ⟨o',q⟩ n z=>by
  rw [hfs] at z
  rcases List.mem_cons.mp z with z|z
  ·exact absurd (Heap.lt_size q) (by rw [z];exact Nat.lt_irrefl _)
  ·exact n z
 have trk:∀b,H1 b≠none→b∉jV (envOfC qual scope s.heap.objs.size f cd::outer):=fun b hb z=>hb (hfrees b z)
 refine ⟨e,C,H1,rfl,I.os,I.bare,ub.go (fun b o q n _ z=>fl.1 b o (keep b o q (old b z n))) (fun b o q n _=>?_),I.hok.keepT fun b u hb q=>fl.1 b u (keep b u q (trk b hb)),?_,?_,?_,q⟩
 ·obtain ⟨_,o',ho',hd⟩:=hst.mem (show b∈jV (envOfC qual scope s.heap.objs.size f cd::outer) from by rw [hfs];exact List.mem_cons_of_mem _ n)
  rw [q] at ho';cases ho'
  exact up b o (hx.keeps b o q) hd
 ·refine ⟨_,_,fl,fun b o q n z=>?_⟩
  have hn:b∉jV (envOfC qual scope s.heap.objs.size f cd::outer):=by
   rcases z with z|z
   ·exact trk b z
   ·exact old b z n
  have h1:∃u,s1.heap.get? b=some u:=by
   rcases z with z|⟨o',z⟩
   ·cases r:H1 b with
    |none=>exact absurd r z
    |some v=>exact I.hok.there r
   ·exact ub.there b o' z (by simp)
  obtain ⟨u,hu⟩:=h1
  have hB:=keep b u hu hn
  have:=fl.1 b u hB
  have q':h2.get? b=some o:=q
  rw [q'] at this
  cases this
  exact hB
 ·cases r:H1 e with
  |none=>rfl
  |some v =>
   obtain ⟨u,hu⟩:=I.hok.there r
   rw [hno] at hu;cases hu
 ·cases r:s.heap.get? e with
  |none=>rfl
  |some v =>
   obtain ⟨u,hu⟩:=ub.there e v r (by simp)
   rw [hno] at hu;cases hu
end L2
namespace L2
open PySem PySem.Spec PyProof.Rows
theorem mF {K:PySem.W.Frag} {h:Heap} {C:Addr} {bmB:List Value} {newId:String} (X:K.In h) (q:PySem.W.excIn K C bmB newId=true) :
  ∃bm N nm qn bs hdct sn sub ab col dd k0 k1 k2 k3 k5 mN,K.lookup C=some (excClassObj nm qn C N bs bm hdct sn sub ab col dd k0 k1 k2 k3 k5 newId)∧h.get? C=some (excClassObj nm qn C N bs bm hdct sn sub ab col dd k0 k1 k2 k3 k5 newId)∧h.Ns N mN∧mN "__init__"=none∧OwnTail h bmB bm:=by
 unfold PySem.W.excIn at q
 split at q
 ·rename_i dd cd sl ho
  split at q
  ·rename_i C' bm k0 k1 k2 k3 n k5 hm hs
   simp only [Bool.and_eq_true,beq_iff_eq,Bool.not_eq_true'] at q
   obtain ⟨⟨⟨⟨⟨rfl,rfl⟩,hdel⟩,ht⟩,hok⟩,hni⟩:=q
   obtain ⟨nm,bs,mro,ns,qn,hd,sn,sub,ab,col,del⟩:=cd
   dsimp only at hm hdel hok hni
   subst hm hdel
   have hsl:sl = #[k0,k1,k2,k3,some (.builtin n),k5]:=by
    obtain ⟨l⟩:=sl
    simp only at hs
    rw [hs]
   subst hsl
   exact ⟨bm,ns,nm,qn,bs,hd,sn,sub,ab,col,dd,k0,k1,k2,k3,k5,_,ho,X _ _ ho,.of_isNs (PySem.W.isNs_of_in X hok),PySem.W.nsMap_none_of_in X hok hni,PySem.W.tail_of_in X ht⟩
  ·cases q
 ·cases q
abbrev pD:List Value:=[.type "ValueError",.type "Exception",.type "BaseException",.type "object"]
def eI (K:PySem.W.Frag) (C:Addr):Prop:=PySem.W.excIn K C pD "ValueError.__new__"=true
section
variable {X:Cx} {R:St→Value→Hp→Prop} {x:Str} {C:Addr} {np cpos pos p:Pos} {e:Expr} {es:List Expr} {t:TA}
theorem iX (hx:dO X R) (hcalm:X.calm=true) (hg:Gl X x) (hm:X.mg x=some (.ref C)) (hc:eI X.K C) (ha:PA X (e::es) t) (hdb:(x == ("__debug__":Str))=false:=by decide)
  (he:starEach (e::es) X.env=(false,eval e X.env)::starEach es X.env:=by rfl) (hpl:(backTo cpos (starEach es X.env)).any (·.1)=false:=by rfl) :
  PS X (.Raise (some (.Call (.Name x np) (e::es) [] cpos)) none pos) (fun _ σ H=>t σ H fun vs H1=>vs.length≤sizeLine∧R σ (.ref C) H1):=by
 intro pins s σ H D I h
 obtain ⟨tl,N,nm,q,bs,hdct,sn,sub,ab,col,dd,k0,k1,k2,k3,k5,mN,_,hC,hN,hni,T⟩:=mF I.ok.mod.kin hc
 refine wpAny_Raise_call_subT (C:=C) (nm:=nm) (q:=q) (N:=N) (bs:=bs) (bm:=tl) (hdct:=hdct) (sn:=sn) (sub:=sub) (ab:=ab) (col:=col) (dd:=dd) (k0:=k0) (k1:=k1) (k2:=k2) (k3:=k3) (k5:=k5)
  PySem.F.excBase_ValueError (mN:=mN) (T.hasType PySem.F.excBase_ValueError.hasBase) (I.ok.hd hcalm) (by rw [he];show (false||(backTo cpos (starEach es X.env)).any (·.1))=false;rw [hpl];rfl) hni (yY I hg hm ⟨rfl,?_⟩ hdb)
 have h1:=ha cpos pins s σ H _ I h
 rw [he] at h1 ⊢
 refine Calls.evalArgs_plain (wpAny_mono h1 (fun us s2 ⟨vs,H2,I2,r2,hl,q2⟩=>⟨rfl,by rw [← r2.length];exact hl,I2.bk _ _ hC,hN.keeps I2.bk,T.keeps I2.bk,fun h' a hm=>hx pins σ H2 s2 a h' C us I2 hm q2⟩) fun _ _ y=>y)
def mV (sp:Sp) (dvs:List V) (R:St→Value→Hp→Prop) (t:TA):TE:=fun σ H Q=>t σ H fun vs H1=>sp (vs++dvs) H1 Q (fun c _ H'=>R σ c H')
theorem lN {k:Nat} {f:Addr} {fd:FuncData} {ps:List Str} {sp:Sp} {dvs:List V} {ds:List Value} {pins:List (Addr×Obj)} {σ:St} {H:Hp} {s:Shared} {Q:VK} {us:List Value} {vs:List V} (F:FnOk X.prog X.w X.K X.mg X.base (vC X.prog X.w) k f fd ps sp) (hr:Room k X.A) (hb:Binds X.K fd ps ds) (hd:Vals dvs ds) (hx:QE X R)
  (I:Inv X pins σ H s) (r:Vals vs us) (h:sp (vs++dvs) H Q (fun c _ H'=>R σ c H')):wpAny (model X.prog X.w) X.A (call (.ref f) us) (EP X pins σ Q) X.xe s:=by
 have r2:Vals (vs++dvs) (us++ds):=r.append hd
 have hl:(us++ds).length=ps.length:=by rw [← r2.length];exact F.len _ _ _ _ h
 refine wpAny_call (codeAny_mono (F.run X.A X.stack s H ⟨us,[]⟩ (us++ds) (vs++dvs) Q _ hr I.env0 (hb s us I.kIn hl) r2 h) fun r s' hq=>?_)
 cases r with
 |error e=>exact hx pins σ H s e s' I hq
 |ok fl =>
  cases fl with
  |ret u=>exact I.after hq
  |next=>exact False.elim hq
  |brk=>exact False.elim hq
  |cont=>exact False.elim hq
end
structure DefX (P:Program) (w:World) (K:PySem.W.Frag) (mg:Str→Option Value) (base:Heap) (k:Nat) (x:Str) (ps:List Str) (dvs:List V) (sp:Sp):Prop where
 ex:∃(f:Addr) (fd:FuncData) (ds:List Value),FnOk P w K mg base (vC P w) k f fd ps sp∧mg x=some (.ref f)∧PySem.W.keepIn K (.ref f)=true∧Vals dvs ds∧Binds K fd ps ds
theorem lS {X:Cx} {R:St→Value→Hp→Prop} {k k':Nat} {x:Str} {ps:List Str} {dvs:List V} {sp:Sp} {p pos:Pos} {e:Expr} {es:List Expr} {t:TA} (F:DefX X.prog X.w X.K X.mg X.base k x ps dvs sp) (hx:QE X R) (hr:Room k' X.A) (hg:Gl X x) (ha:PA X (e::es) t)
  (hk:k≤k':=by decide) (hdb:(x == ("__debug__":Str))=false:=by decide) (he:starEach (e::es) X.env=(false,eval e X.env)::starEach es X.env:=by rfl) (hpl:(backTo pos (starEach es X.env)).any (·.1)=false:=by rfl) :
  PE X (.Call (.Name x p) (e::es) [] pos) (mV sp dvs R t):=by
 obtain ⟨f,fd,ds,G,m,kp,hv,b⟩:=F.ex
 intro pins s σ H Q I h
 refine wpAny_Call_Name_kw (yY I hg m ?_ hdb)
 refine PySem.W.callWith_K (h₀:=X.base) I.ok.mod.kin kp (jI (ha pos pins s σ H _ I h) fun us s1 ⟨vs,H1,I1,r,q⟩=>⟨I1.kIn,?_⟩) he hpl
 exact lN G (hr.mono hk) b hv hx I1 r q
def d5 (X:Cx) (pins:List (Addr×Obj)) (a:Addr):Prop:=X.s₀.heap.get? a=none∧a≠X.env.locals∧(∀x c,X.env.cells.lookup x=some c→c≠a)∧∀p∈X.pn++pins,p.1≠a
def vW (X:Cx) (pins:List (Addr×Obj)) (R:St→Value→Hp→Prop):Cx:={X with
 pn:=X.pn++pins
 xe:=fun e s'=>∃(a C:Addr) (σ':St) (H':Hp),e=.ref a∧Inv X pins σ' H' s'∧eP X.stack (fun b=>H' b≠none∨(∃o,X.s₀.heap.get? b=some o)∨∃p∈X.pn++pins,p.1=b) s'.heap a C∧H' a=none∧d5 X pins a∧R σ' (.ref C) H'}
theorem Cx.Ok.intoTry {X:Cx} {pins:List (Addr×Obj)} {R:St→Value→Hp→Prop} (ok:X.Ok):(vW X pins R).Ok :=
 ⟨ok.mod,ok.kind,ok.glob,ok.blt,ok.above,ok.inj,ok.has,ok.cab,ok.hd,ok.frames,ok.stk,ok.exf,ok.bs,ok.bsz,ok.noex,ok.exfs,ok.funs,ok.frf⟩
theorem Cx.Ok.outTry {X:Cx} {pins:List (Addr×Obj)} {R:St→Value→Hp→Prop} (ok:(vW X pins R).Ok):X.Ok :=
 ⟨ok.mod,ok.kind,ok.glob,ok.blt,ok.above,ok.inj,ok.has,ok.cab,ok.hd,ok.frames,ok.stk,ok.exf,ok.bs,ok.bsz,ok.noex,ok.exfs,ok.funs,ok.frf⟩
section
variable {X:Cx} {pins pins':List (Addr×Obj)} {σ:St} {H:Hp} {s:Shared} {R:St→Value→Hp→Prop}
theorem Inv.intoTry (I:Inv X pins σ H s):Inv (vW X pins R) [] σ H s :=
 ⟨I.ok.intoTry,I.os,I.bare,I.base,I.loc,I.cell,I.free,I.freeC,fun p hp=>I.pin p (by have hp':p∈(X.pn++pins)++[]:=hp;rw [List.append_nil] at hp';exact hp'),I.hok,I.len⟩
theorem Inv.outTry (I:Inv (vW X pins R) pins' σ H s):Inv X pins σ H s :=
 ⟨I.ok.outTry,I.os,I.bare,I.base,I.loc,I.cell,I.free,I.freeC,fun p hp=>I.pin p (List.mem_append_left _ hp),I.hok,I.len⟩
theorem SP.outTry {D:Ends} {f:Flow} {s':Shared} (h:SP (vW X pins R) [] D f s'):SP X pins D f s':=by
 cases f with
 |next=>obtain ⟨σ',H',I,q⟩:=h;exact ⟨σ',H',I.outTry,q⟩
 |brk=>obtain ⟨σ',H',I,q⟩:=h;exact ⟨σ',H',I.outTry,q⟩
 |cont=>obtain ⟨σ',H',I,q⟩:=h;exact ⟨σ',H',I.outTry,q⟩
 |ret u=>obtain ⟨v,σ',H',I,r,q⟩:=h;exact ⟨v,σ',H',I.outTry,r,q⟩
theorem iF (hex:X.ex=[]):QE (vW X pins R) R:=by
 intro pins' σ H1 s1 e s2 I hx
 obtain ⟨a,C,H2,rfl,os,bare,un,hok,⟨B,a0,fl,ground⟩,ha,hs,q⟩:=hx
 have I0:Inv X pins σ H1 s1:=I.outTry
 have J:Inv X pins σ H2 s2:=I0.call' (ch:=[]) os un hok bare fun b z=>absurd z (by simp)
 refine ⟨a,C,σ,H2,rfl,J,⟨B,a0,fl,fun b o q n z=>ground b o q n ?_⟩,ha,⟨?_,fun z=>?_,fun x c e z=>?_,fun p hp z=>?_⟩,q⟩
 ·rcases z with z|⟨o',z⟩|⟨p,hp,rfl⟩
  ·exact .inl z
  ·exact .inr (I0.base.there b o' z (by rw [hex];simp))
  ·exact .inr ⟨_,(I0.pin p hp).1⟩
 ·cases r:X.s₀.heap.get? a with
  |none=>rfl
  |some v =>
   obtain ⟨u,hu⟩:=I0.base.there a v r (by rw [hex];simp)
   rw [hs] at hu;cases hu
 ·obtain ⟨m,⟨o,_,_,ho,_⟩,_⟩:=I0.loc
  rw [← z,hs] at ho;cases ho
 ·obtain ⟨v,o,ho,_⟩:=I0.cell x c e
  rw [z,hs] at ho;cases ho
 ·have ho:=(I0.pin p hp).1
  rw [z,hs] at ho;cases ho
theorem Inv.fly {h':Heap} (I:Inv X pins σ H s) (hstk:X.stack=X.env::X.outer) (hf:X.env.frame=some X.env.locals)
  (k:∀b o,s.heap.get? b=some o→b∉jV X.stack→(H b≠none∨(∃o,X.s₀.heap.get? b=some o)∨∃p∈X.pn++pins,p.1=b)→h'.get? b=some o) (up:s.heap.UpToSlots h'):Inv X pins σ H {s with heap:=h'}:=by
 have hfs:jV X.stack=X.env.locals::X.fs:=by rw [hstk];unfold jV;rw [List.filterMap_cons,hf];rfl
 have cellK:∀c v,s.heap.IsCell c v→h'.IsCell c v:=fun c v ⟨o,ho,hd⟩=>by
  obtain ⟨sl,e⟩:=up c o ho (fun vs q=>by rw [hd] at q;cases q)
  exact ⟨_,e,hd⟩
 have trk:∀b,H b≠none→b∉jV X.stack:=fun b hb z=>hb (I.stkFree b z)
 refine ⟨I.ok,I.os,I.bare,I.base.go (fun b o q n _ z=>k b o q (fun m=>?_) (.inr (.inl z))) (fun b o q n z=>?_),?_,fun x c e=>?_,I.free,I.freeC,fun p hp=>?_,I.hok.keepT fun b u hb q=>k b u q (trk b hb) (.inl hb),I.len⟩
 ·rw [hfs] at m
  rcases List.mem_cons.mp m with m|m
  ·obtain ⟨o',z⟩:=z
   exact absurd (Nat.lt_of_lt_of_le (Heap.lt_size z) I.ok.above) (by rw [m];exact Nat.lt_irrefl _)
  ·exact n m
 ·obtain ⟨_,o',ho',hd⟩:=I.stack.mem (show b∈jV X.stack from by rw [hfs];exact List.mem_cons_of_mem _ n)
  rw [q] at ho';cases ho'
  exact up b o q hd
 ·obtain ⟨m,hn,hl⟩:=I.loc
  refine ⟨m,up.ns hn,fun i x v h1 h2 h3=>?_⟩
  obtain ⟨u,r,l⟩:=hl i x v h1 h2 h3
  refine ⟨u,r,?_⟩
  rcases l with l|⟨l1,c,l2,l3⟩
  ·exact .inl l
  ·exact .inr ⟨l1,c,l2,cellK c _ l3⟩
 ·obtain ⟨v,q⟩:=I.cell x c e
  exact ⟨v,cellK c v q⟩
 ·obtain ⟨h1,h2,h3,h4,h5⟩:=I.pin p hp
  refine ⟨k p.1 p.2 h1 (fun m=>?_) (.inr (.inr ⟨p,hp,rfl⟩)),h2,h3,h4,h5⟩
  rw [hfs] at m
  rcases List.mem_cons.mp m with m|m
  ·exact h3 m
  ·exact h4 m
end
def zO (X:Cx) (e:Value):Cx:={X with A:=X.A.mark (some e),calm:=false,xe:=fun _ _=>False}
section
variable {X:Cx} {pins:List (Addr×Obj)} {σ:St} {H:Hp} {s:Shared} {e:Value}
theorem Inv.intoSuite (I:Inv X pins σ H s) (e:Value):Inv (zO X e) pins σ H s :=
 ⟨⟨I.ok.mod,I.ok.kind,I.ok.glob,I.ok.blt,I.ok.above,I.ok.inj,I.ok.has,I.ok.cab,fun z=>absurd (show false=true from z) (by decide),I.ok.frames,I.ok.stk,I.ok.exf,I.ok.bs,I.ok.bsz,I.ok.noex,I.ok.exfs,I.ok.funs,I.ok.frf⟩,I.os,I.bare,I.base,I.loc,I.cell,I.free,I.freeC,I.pin,I.hok,I.len⟩
theorem Inv.outSuite (ok:X.Ok) (I:Inv (zO X e) pins σ H s):Inv X pins σ H s:=⟨ok,I.os,I.bare,I.base,I.loc,I.cell,I.free,I.freeC,I.pin,I.hok,I.len⟩
theorem SP.outSuite (ok:X.Ok) {D:Ends} {f:Flow} {s':Shared} (h:SP (zO X e) pins D f s'):SP X pins D f s':=by
 cases f with
 |next=>obtain ⟨σ',H',I,q⟩:=h;exact ⟨σ',H',I.outSuite ok,q⟩
 |brk=>obtain ⟨σ',H',I,q⟩:=h;exact ⟨σ',H',I.outSuite ok,q⟩
 |cont=>obtain ⟨σ',H',I,q⟩:=h;exact ⟨σ',H',I.outSuite ok,q⟩
 |ret u=>obtain ⟨v,σ',H',I,r,q⟩:=h;exact ⟨v,σ',H',I.outSuite ok,r,q⟩
end
end L2
namespace L2
open PySem PySem.Spec PyProof.Rows
section
variable {P:Program} {w:World} {K:PySem.W.Frag} {mg:Str→Option Value} {base:Heap}
theorem Fun.okX {x qual:Str} {st:Stmt} {f:Addr} {fd:FuncData} {N ps:List Str} {k:Nat} {sp:Sp} (F:Fun K x qual st f fd) (S:FnScope N ps (jJ st)) (len:∀vs H Q E,sp vs H Q E→vs.length=ps.length)
  (hbody:∀(cdv:Value) (A:Around) (outer:List Env) (s:Shared) (H:Hp) (vs:List V) (Q:VK) (E:XK),Room k (A.deeper (envOfC qual (jJ st) s.heap.objs.size f cdv))→sp vs H Q E→
   ∃t,PSs (kY (vC P w) P w K mg base N qual (jJ st) f cdv A outer s H E) (jW st) t∧t {nx:=fun _ H'=>Q .non H',rt:=Q} (kL N vs) H):FnOk P w K mg base (vC P w) (k+1) f fd ps sp:=by
 obtain ⟨oc,od,kV,doc,pm,an,cdv,ct,osl,rfl,lk,hcd⟩:=F.ex
 exact z5 lk hcd S len fun A outer s H vs Q E hr hsp=>hbody cdv A outer s H vs Q E hr hsp
theorem FunD.okX {x qual:Str} {st:Stmt} {f:Addr} {fd:FuncData} {ds:List Value} {N ps:List Str} {k:Nat} {sp:Sp} (F:FunD K x qual st f fd ds) (S:FnScope N ps (jJ st)) (len:∀vs H Q E,sp vs H Q E→vs.length=ps.length)
  (hbody:∀(cdv:Value) (A:Around) (outer:List Env) (s:Shared) (H:Hp) (vs:List V) (Q:VK) (E:XK),Room k (A.deeper (envOfC qual (jJ st) s.heap.objs.size f cdv))→sp vs H Q E→
   ∃t,PSs (kY (vC P w) P w K mg base N qual (jJ st) f cdv A outer s H E) (jW st) t∧t {nx:=fun _ H'=>Q .non H',rt:=Q} (kL N vs) H):FnOk P w K mg base (vC P w) (k+1) f fd ps sp:=by
 obtain ⟨oc,od,T,kV,doc,pm,an,cdv,ct,osl,oT,n,rfl,lk,hcd,_,_⟩:=F.ex
 exact z5 lk hcd S len fun A outer s H vs Q E hr hsp=>hbody cdv A outer s H vs Q E hr hsp
end
section
variable {X:Cx}
end
end L2
namespace L2
open PySem PySem.Spec PyProof.Rows
section
variable {X:Cx} {pins:List (Addr×Obj)} {σ:St} {H:Hp} {s:Shared}
theorem Inv.unset {i:Nat} {x:Str} {m':Str→Option Value} {h':Heap} {t':Nat} (I:Inv X pins σ H s) (hN:X.N.Nodup) (hi:X.N[i]?=some x)
  (hm:∀m,s.heap.Ns X.env.locals m→∀y,y≠x→m' y=m y) (hn:h'.Ns X.env.locals m') (hs:Heap.SameBut X.env.locals s.heap h'):Inv X pins (σ.set i none) H {s with heap:=h',toks:=t'}:=by
 obtain ⟨m,hn0,hl⟩:=id I.loc
 obtain ⟨oL,_,_,hoL,_⟩:=id hn0
 have hiσ:i<σ.length:=by rw [I.len];exact (List.getElem?_eq_some_iff.mp hi).1
 refine ⟨I.ok,I.os,I.bare,⟨fun b o e n hb hx=>?_,fun b o e n hb hx=>?_,I.base.free,fun b o e hx=>?_,I.base.tups,I.base.frzs,I.base.tbls⟩,⟨_,hn,fun j y v' e1 e2 e3=>?_⟩,fun y c e=>?_,I.free,I.freeC,fun p hp=>?_,?_,by simpa using I.len⟩
 ·exact (hs.2 b (Nat.ne_of_lt (Nat.lt_of_lt_of_le (Heap.lt_size e) I.ok.above))).trans (I.base.keep b o e n hb hx)
 ·obtain ⟨sl,e1⟩:=I.base.slot b o e n hb hx
  exact ⟨sl,(hs.2 b (Nat.ne_of_lt (Nat.lt_of_lt_of_le (Heap.lt_size e) I.ok.above))).trans e1⟩
 ·obtain ⟨o',e1⟩:=I.base.there b o e hx
  exact ⟨o',(hs.2 b (Nat.ne_of_lt (Nat.lt_of_lt_of_le (Heap.lt_size e) I.ok.above))).trans e1⟩
 ·by_cases hj:j=i
  ·subst hj
   rw [List.getElem?_set_self hiσ] at e2
   cases e2
  ·rw [List.getElem?_set_ne (Ne.symm hj)] at e2
   obtain ⟨u',r',q⟩:=hl j y v' e1 e2 e3
   refine ⟨u',r',?_⟩
   rcases q with ⟨k,e⟩|⟨k,c,e,z⟩
   ·refine .inl ⟨k,?_⟩
    have:y≠x:=fun e=>hj (Q2 hN e1 (e▸hi))
    rw [hm m hn0 y this]
    exact e
   ·exact .inr ⟨k,c,e,z.sameBut hs (I.cne y c e)⟩
 ·obtain ⟨w',z⟩:=I.cell y c e
  exact ⟨w',z.sameBut hs (I.cne y c e)⟩
 ·obtain ⟨e,n,ne,nf,d⟩:=I.pin p hp
  exact ⟨(hs.2 p.1 ne).trans e,n,ne,nf,d⟩
 ·refine I.hok.keepT fun b u hb q=>(hs.2 b fun z=>?_).trans q
  rw [z] at hb
  exact hb I.free
theorem lX {h:Heap} {a:Addr} {m m':Str→Option Value} (x:h.Ns a m) (y:h.Ns a m'):m=m':=by
 obtain ⟨o,es,ep,ho,hd,_,hf⟩:=x
 obtain ⟨o',es',ep',ho',hd',_,hf'⟩:=y
 rw [ho] at ho';cases ho'
 rw [hd] at hd';cases hd'
 funext n
 rw [← hf n,← hf' n]
theorem JO {A:Around} {E:Value→Shared→Prop} {i:Nat} {x:Str} {pos:Pos} {Q:Unit→Shared→Prop} (I:Inv X pins σ H s) (hN:X.N.Nodup) (hi:X.N[i]?=some x) (hx:X.env.scope.names.lookup x=some .local)
  (h:∀s',Inv X pins (σ.set i none) H s'→Q () s'):wpAny (model X.prog X.w) A (do bindName X.env x .none;unbindBehindTheSuite X.env x pos) Q E s:=by
 have hp:(X.env.scope.kind == .class||(X.env.scope.kind == .module&&X.env.locals != X.env.globals))=false:=by rw [I.ok.kind];rfl
 obtain ⟨m,hn,_⟩:=id I.loc
 refine wpAny_bind (wpAny_bindName (wpAny_storeName_local hx hn (fun h₁ hn₁ hs₁=>?_) hp))
 unfold unbindBehindTheSuite
 refine wpAny_onRaise ?_
 unfold unbindName
 refine wpAny_bind (wpAny_point (wpAny_bind ?_))
 unfold deleteName
 have hl:X.env.kindOf x=some .local:=hx
 simp only [hl,hp]
 rw [if_neg (by decide)]
 refine wpAny_bind (wpAny_nsDel_keeps hn₁ fun h₂ v hn₂ hs₂=>?_)
 simp only [if_true,Option.isSome_some,Bool.not_true,Bool.false_eq_true,if_false]
 refine wpAny_pure (wpAny_point (h _ ?_))
 exact I.unset hN hi (fun m0 h0 y hy=>by rw [lX h0 hn];simp [hy]) hn₂ (hs₁.trans hs₂)
theorem Inv.track {a:Addr} {o:HO} (I:Inv X pins σ H s) (ha:H a=none) (ap:d5 X pins a) (new:ObjOk X.prog X.w (jB H a o) s.heap a o):Inv X pins σ (jB H a o) s:=by
 obtain ⟨n0,nl,nc,np⟩:=ap
 refine ⟨I.ok,I.os,I.bare,⟨I.base.keep,I.base.slot,fun b u q n hx=>?_,I.base.there,fun b xs q=>?_,fun b u xs q=>?_,fun b ps q=>?_⟩,I.loc,I.cell,?_,fun x c e=>?_,fun p hp=>?_,fun b u e=>?_,I.len⟩
 ·rw [jC (fun z=>by rw [z,n0] at q;cases q)]
  exact I.base.free b u q n hx
 ·have:=I.base.tups b xs q
  rw [jC (kM this ha)];exact this
 ·have:=I.base.frzs b u xs q
  rw [jC (kM this ha)];exact this
 ·obtain ⟨more,e⟩:=I.base.tbls b ps q
  exact ⟨more,by rw [jC (kM e ha)];exact e⟩
 ·rw [jC (Ne.symm nl)];exact I.free
 ·rw [jC (nc x c e)];exact I.freeC x c e
 ·obtain ⟨h1,h2,h3⟩:=I.pin p hp
  exact ⟨h1,by rw [jC (np p hp)];exact h2,h3⟩
 ·by_cases hb:b=a
  ·subst hb;rw [jE] at e;cases e;exact new
  ·rw [jC hb] at e
   exact (I.hok b u e).stay (fun c v _ q=>q) (fun c q=>by rw [jC (kM q ha)];exact q) fun c xs q=>by rw [jC (kM q ha)];exact q
end
def vO (a C:Addr):HO:=.ext fun h=>∃o vs,h.get? a=some o∧o.cls=.ref C∧o.data=.fields vs
def mT (K:PySem.W.Frag) (C0:Addr) (i:Nat) (tb:(St→Value→Hp→Prop)→TS) (ts:TS):TS:=fun D σ H=>∃R:St→Value→Hp→Prop,tb R D σ H∧∀σ' c H',R σ' c H'→∃C,c=.ref C∧PySem.W.exmOne K (.ref C) (.ref C0)=some true∧
 ∀a,H' a=none→ts {nx:=fun σ2 H2=>D.nx (σ2.set i none) H2,rt:=D.rt,bk:=fun σ2 H2=>D.bk (σ2.set i none) H2,ct:=fun σ2 H2=>D.ct (σ2.set i none) H2} (σ'.set i (some (.ref a))) (jB H' a (vO a C))
theorem iW {X:Cx} {body:List Stmt} {x n:Str} {C0:Addr} {i:Nat} {np hpos pos:Pos} {b₀:Stmt} {suite:List Stmt} {tb:(St→Value→Hp→Prop)→TS} {ts:TS} (hex:X.ex=[]) (hstk:X.stack=X.env::X.outer) (hf:X.env.frame=some X.env.locals)
  (hN:X.N.Nodup) (hi:X.N[i]?=some n) (hl:X.env.scope.names.lookup n=some .local)
  (hg:Gl X x) (hm:X.mg x=some (.ref C0)) (hb:∀pins R,QE (vW X pins R) R→PSs (vW X pins R) body (tb R)) (hs:∀e,PSs (zO X e) (b₀::suite) ts) (hdb:(x == ("__debug__":Str))=false:=by decide) :
  PS X (.Try body [.ExceptHandler (some (.Name x np)) (some n) (b₀::suite) hpos] [] [] pos) (mT X.K C0 i tb ts):=by
 intro pins s σ H D I h
 obtain ⟨R,h1,h2⟩:=h
 refine wpAny_Try_except (wpAny_mono (hb pins R (iF hex) [] s σ H D I.intoTry h1) (fun f s1 q=>?_) (fun v s1 q=>?_))
 ·have q':=q.outTry
  cases f with
  |next=>exact wpAny_execs_nil q'
  |brk=>exact q'
  |cont=>exact q'
  |ret u=>exact q'
 ·obtain ⟨a,C',σ',H',rfl,J,⟨B,a0,fl,ground⟩,ha,ap,r⟩:=q
  obtain ⟨C,e1,hexm,h3⟩:=h2 σ' (.ref C') H' r
  cases e1
  have fl0:Heap.FlyingW B (X.env::X.outer) a (.ref C') a0 s1.heap:=by rw [hstk] at fl;exact fl
  have hfr:X.A.frames=some (X.env::X.outer):=by rw [← hstk];exact J.ok.frames
  refine wpAny_looks_onW hfr hf fl0 fun h4 held4 up4=>?_
  refine wpAny_landsW held4 fun h5 fl5 up5=>?_
  have J5:Inv X pins σ' H' {s1 with heap:=h5}:=J.fly hstk hf (fun b o q n z=>fl5.1 b o (ground b o q n z)) (up4.trans up5)
  obtain ⟨ob,hob,hobc⟩:=fl5.there
  have LT:PySem.W.Looks (model X.prog X.w) h5 (typeOf (.ref a)) (.ref C'):=by
   have:PySem.W.Looks (model X.prog X.w) h5 (typeOf (.ref a)) ob.cls:=(PySem.W.Looks.ld hob).andThen .now
   rw [hobc] at this
   exact this
  refine wpAny_handleBy_cons (codeAny_handlers_test (yY (J5.intoSuite (.ref a)) hg hm ?_ hdb)) (by intro q;cases q)
  have KI:X.K.In h5:=J5.kIn
  refine (PySem.W.exm_one KI LT hexm).here ?_
  refine codeAny_handlers_suite_as ?_
  refine lands_againW fl5 fun h6 fl6 up6=>?_
  have J6:Inv X pins σ' H' {s1 with heap:=h6}:=J.fly hstk hf (fun b o q n z=>fl6.1 b o (ground b o q n z)) ((up4.trans up5).trans up6)
  obtain ⟨oe,vs,hoe,hoec,hoed,_⟩:=fl6.first
  have new:ObjOk X.prog X.w (jB H' a (vO a C')) h6 a (vO a C') :=
   ⟨⟨oe,vs,hoe,hoec,hoed⟩,⟨oe,hoe⟩,fun h1 h2 ⟨o,vs,e1,e2,e3⟩ k=>⟨o,vs,k o e1,e2,e3⟩⟩
  have J7:Inv X pins σ' (jB H' a (vO a C')) {s1 with heap:=h6}:=J6.track ha ap new
  refine JR (X:=zO X (.ref a)) (i:=i) (v:=.ref a) (J7.intoSuite (.ref a)) hN hi (.inl hl) rfl (fun s7 J8=>?_) (.inr hl)
  refine wpAny_mono (hs (.ref a) pins _ _ _ _ J8 (h3 a ha)) (fun f s' q=>?_) fun _ _ z=>False.elim z
  have q':=q.outSuite J6.ok
  cases f with
  |next=>obtain ⟨σ2,H2,I2,q2⟩:=q';exact JO I2 hN hi hl fun s'' I3=>⟨_,_,I3,q2⟩
  |brk=>obtain ⟨σ2,H2,I2,q2⟩:=q';exact JO I2 hN hi hl fun s'' I3=>⟨_,_,I3,q2⟩
  |cont=>obtain ⟨σ2,H2,I2,q2⟩:=q';exact JO I2 hN hi hl fun s'' I3=>⟨_,_,I3,q2⟩
  |ret u=>obtain ⟨v,σ2,H2,I2,r2,q2⟩:=q';exact JO I2 hN hi hl fun s'' I3=>⟨_,_,_,I3,r2,q2⟩
end L2
namespace L2
open PySem PySem.Spec PySem.Calls PyProof.Rows PySem.W
structure ExcAttr (K:PySem.W.Frag) (C:Addr):Prop where
 ga:PySem.W.findIn K (.ref C) "__getattribute__"=some (some (.builtin "BaseException.__getattribute__"))
 gn:PySem.W.findIn K (.ref C) "__getattr__"=some none
 ca:PySem.W.findIn K (.ref C) "__class__"=some (some (.builtin "object.__class__"))
 mo:PySem.W.mroIn K C (.type "object")=some true
 mb:PySem.W.subIn K (.ref C) (.type "BaseException")=some true
section
variable {prog:Program} {w:World} {A:Around} {E:Value→Shared→Prop} {h:Heap} {g:Array GenState} {d:Drawn} {t:Nat} {os:OsState} {a C:Addr} {o:Obj} {K:PySem.W.Frag}
open PySem.Builtin PySem.Builtin.ObjectAttr PySem.Builtin.Getset_descriptor in
theorem mG {R:Result→Shared→Prop} {tp:Value} (X:K.In h) (Z:ExcAttr K C) (hx:h.get? a=some o) (hc:o.cls=.ref C) (hq:R (.ok (.ret (.ref C))) ⟨h,g,d,t,os⟩) :
  codeAny (model prog w) A (.call (.builtin "getset_descriptor.__get__") ⟨[.builtin "object.__class__",.ref a,tp],[]⟩) R ⟨h,g,d,t,os⟩:=by
 have L0:PySem.W.Looks (model prog w) h (typeOf (.ref a)) (.ref C):=hc▸(PySem.W.Looks.ld hx).andThen .now
 have L1:=PySem.W.looks_mroIn (M:=model prog w) X Z.mo
 refine codeAny_call_builtin KF.slot_gs.plain KF.entry_gs (KF.slot_gs.check _ _ _ _ _ _ _ _ KF.type_class (KF.args_gs _ _ _) ?_)
 unfold Builtin.«getset_descriptor.__get__» descrGet
 rw [dga_obj]
 refine wpAny_bind (wpAny_pure ?_)
 unfold descrGetter descrCheckInstance descrNameAndClass isInstance
 simp only [KF.owner_class]
 repeat lk
 refine ⟨Code.quiet_builtin _ (by decide +kernel),codeAny_builtin KF.entry_class ?_⟩
 unfold Builtin.«object.__class__» shownTypeOf
 repeat lk
 exact hq
theorem iH {tk:Tok} {Q:Fin→Shared→Prop} (X:K.In h) (Z:ExcAttr K C) (hx:h.get? a=some o) (hc:o.cls=.ref C) (hq:Q (.done (.ret (.ref C))) ⟨h,g,d,t,os⟩) :
  wpAny (model prog w) A (Builtin.«object.__getattribute__» ⟨[.ref a,.str "__class__" tk],[]⟩) Q E ⟨h,g,d,t,os⟩:=by
 have hT5:(⟨h,g,d,t,os⟩:Shared).TypeIs (.builtin "object.__class__") "getset_descriptor":=F.typeOf_object_class
 have f5:=F.typeOf_object_class
 have f6:=F.slot_gs_get.lookup
 have f7:=F.slot_gs_set.lookup
 have L1:=PySem.W.looks_findIn (M:=model prog w) X Z.ca
 repeat (any_goals (first|assumption|(with_reducible refine wpAny_loadPart_at hx ?_;rw [hc])|with_reducible refine L1.at ?_|wp_step))
 refine mG X Z hx hc ?_
 repeat (any_goals (first|assumption|wp_step))
theorem iI {M:Model} {nameV:Value} {Q:Unit→Shared→Prop} (X:K.In h) (Z:ExcAttr K C) (hx:h.get? a=some o) (hc:o.cls=.ref C) (hq:Q () ⟨h,g,d,t,os⟩) :
  wpAny M A (checkBuiltinCall "BaseException.__getattribute__" ⟨[.ref a,nameV],[]⟩) Q E ⟨h,g,d,t,os⟩:=by
 have hk:builtinKind "BaseException.__getattribute__"=some .slot:=by decide +kernel
 have hsplit:splitId "BaseException.__getattribute__"=some ("BaseException","__getattribute__"):=by decide +kernel
 have L1:PySem.W.Looks M h (isSubtype (.ref C) (.type "BaseException")) true:=PySem.W.looks_subIn X Z.mb
 have ha:=F.args_bexc_ga (.ref a) nameV
 simp only [checkBuiltinCall,hk,hsplit]
 refine wpAny_bind ?_
 ·unfold isInstance
  repeat (first|(with_reducible refine wpAny_loadPart_at hx ?_;rw [hc])|with_reducible refine L1.at ?_|wp_step)
  exact hq
theorem i7 {tk:Tok} {R:Result→Shared→Prop} (X:K.In h) (Z:ExcAttr K C) (hx:h.get? a=some o) (hc:o.cls=.ref C) (hq:R (.ok (.ret (.ref C))) ⟨h,g,d,t,os⟩) :
  codeAny (model prog w) A (.call (.builtin "BaseException.__getattribute__") ⟨[.ref a,.str "__class__" tk],[]⟩) R ⟨h,g,d,t,os⟩ :=
 codeAny_call_builtin PySem.F.attr_ValueError.ga.plain F.entry_bexc_ga (iI X Z hx hc (iH X Z hx hc hq))
theorem nO {tk:Tok} {fill expr:Bool} {Q:Value→Shared→Prop} (X:K.In h) (Z:ExcAttr K C) (hx:h.get? a=some o) (hc:o.cls=.ref C) (hq:Q (.ref C) ⟨h,g,d,t,os⟩) :
  wpAny (model prog w) A (getAttrBy (.ref a) (.str "__class__" tk) fill expr) Q E ⟨h,g,d,t,os⟩:=by
 have f3:=PySem.F.attr_ValueError.ga.bind (.ref a)
 have hx0:(expr&&onTheHeap (Value.builtin "BaseException.__getattribute__"))=false:=by cases expr<;>rfl
 have hx2:(Value.builtin "BaseException.__getattribute__" == Value.builtin "object.__getattribute__")=false:=by decide +kernel
 have hx1:(onTheHeap (Value.ref C)&&Value.builtin "BaseException.__getattribute__" == Value.builtin "object.__getattribute__")=false:=by rw [hx2];rfl
 have L1:=PySem.W.looks_findIn (M:=model prog w) X Z.ga
 have L2:=PySem.W.looks_findIn (M:=model prog w) X Z.gn
 repeat (any_goals (first|assumption|(with_reducible refine wpAny_loadPart_at hx ?_;rw [hc])|with_reducible refine L1.at ?_|with_reducible refine L2.at ?_|wp_step))
 refine i7 X Z hx hc ?_
 repeat (any_goals (first|assumption|wp_step))
theorem i8 {Q:Option Value→Shared→Prop} (X:K.In h) (Z:ExcAttr K C) (hx:h.get? a=some o) (hc:o.cls=.ref C) (hq:Q (some (.ref C)) ⟨h,g,d,t+1,os⟩) :
  wpAny (model prog w) A (getAttr? (.ref a) "__class__") Q E ⟨h,g,d,t,os⟩:=by
 unfold getAttr? getAttrBy?
 repeat (any_goals (first|assumption|with_reducible apply nO X Z hx hc|wp_step))
end
theorem bZ {K:PySem.W.Frag} {a C:Addr} (Z:ExcAttr K C) (hcl:(PySem.W.clsIn K C).isSome=true):PySem.W.KitX K (.ref a) (.ref C) (fun h=>∃o vs,h.get? a=some o∧o.cls=.ref C∧o.data=.fields vs) where
 ty:=fun M h _ ⟨o,_,h1,h2,_⟩=>h2▸(PySem.W.Looks.ld h1).andThen .now
 it:=fun _ _ X _=>by
  unfold PySem.W.clsIn at hcl
  split at hcl
  ·rename_i c' d' cd' sl' ho
   intro A' Q' E' s' k q
   unfold isType loadHead
   exact wpAny_bind (wpAny_loadPart (k _ _ (X _ _ ho)) (wpAny_pure q))
  ·cases hcl
 ne:=fun h tp dd its n sl X htp=>by
  refine Bool.eq_false_iff.mpr fun q=>?_
  have e:C=tp:=Value.ref.inj (beq_iff_eq.mp q)
  subst e
  unfold PySem.W.clsIn at hcl
  split at hcl
  ·rename_i c' d' cd' sl' ho
   have z:=(X _ _ ho).symm.trans htp
   cases z
  ·cases hcl
 ca:=fun {_ _ _ _ _ s} X ⟨o,_,h1,h2,_⟩ k=>by
  obtain ⟨h,g,d,t,os⟩:=s
  exact i8 X Z h1 h2 k
section
variable {X:Cx}
def o9 (K:PySem.W.Frag):List V→Hp→VK→Prop:=fun xs H Q=>∃(a C:Addr) (c:V) (b:Bool),xs=[.ref a,c]∧H a=some (vO a C)∧ExcAttr K C∧(PySem.W.clsIn K C).isSome=true∧
 ((∃u,pH c=some u∧PySem.W.kitOne K (.ref C) u=some b)∨∃(p:Addr) (ds:List Addr),c=.ref p∧H p=some (.tup (ds.map V.ref))∧PySem.W.kitAny K (.ref C) (ds.map Value.ref)=some b)∧Q (.bl b) H
theorem Z4:∀{ds:List Addr} {us:List Value},Vals (ds.map V.ref) us→us=ds.map Value.ref
 |[],_,r=>by cases r;rfl
 |d::ds,_,r=>by
  cases r with
  |cons h t =>
   cases (show _=Value.ref d from h)
   rw [Z4 t]
   rfl
theorem yB {K:PySem.W.Frag} (hK:X.K=K:=by rfl):CallR X (.builtin "isinstance") (o9 K):=by
 subst hK
 intro pins s σ H xs us Q I r h
 obtain ⟨a,C,c,b,rfl,ha,Z,hcl,hc,q⟩:=h
 obtain ⟨u1,u2,rfl,r1,r2⟩:=dQ r
 cases (show u1=Value.ref a from r1)
 obtain ⟨p,_,_⟩:=(show ObjOk X.prog X.w H s.heap a (vO a C) from I.hok a _ ha)
 rcases hc with ⟨u,hu,e⟩|⟨tp,ds,rfl,ht,e⟩
 ·have e2:u2=u:=by
   cases c with
   |ty n=>cases (show u2=Value.type n from r2);exact Option.some.inj hu
   |ref a=>cases (show u2=Value.ref a from r2);exact Option.some.inj hu
   |_=>cases hu
  subst e2
  exact PySem.W.kia_one (bZ Z hcl) I.kIn p e (fun z=>nomatch z) fun tk=>⟨.bl b,H,I.tok _,rfl,q⟩
 ·cases (show u2=Value.ref tp from r2)
  obtain ⟨_,its,rv,ob,h1,h2,n,h3⟩:=(show ObjOk X.prog X.w H s.heap tp (.tup (ds.map V.ref)) from I.hok tp _ ht)
  have hi:=Z4 rv
  subst hi
  obtain ⟨oc,od,odt,osl⟩:=ob
  dsimp only at h2 h3
  subst h2 h3
  exact PySem.W.kia_tup (bZ Z hcl) I.kIn p h1 e (fun z=>nomatch z) fun tk=>⟨.bl b,H,I.tok _,rfl,q⟩
end
end L2
namespace L2
open PySem PySem.Spec PyProof.Rows
end L2
namespace L2
open PySem PySem.Spec PyProof.Rows
section
variable {X:Cx} {x:Str} {C:Addr} {pos p:Pos} {e:Expr} {es:List Expr} {t:TA}
end
end L2
namespace L2
open PySem PySem.Spec PyProof.Rows
section
variable {X:Cx}
end
end L2
namespace L2
open PySem PySem.Spec PyProof.Rows
section
variable {X:Cx} {R:St→Value→Hp→Prop} {k k':Nat} {x m:Str} {C:Addr} {ps:List Str} {sp:Sp} {p pos apos:Pos} {o e:Expr} {es:List Expr} {ta:TE} {t:TA}
theorem nB {CX:kE} {P:Program} {w:World} {K:PySem.W.Frag} {mg:Str→Option Value} {base:Heap} {N:List Str} {qual:Str} {scope:Scope} {f:Addr} {cd:Value} {A:Around} {outer:List Env} {s:Shared} {H:Hp} {E:XK} :
  PassesOwn (model (kY CX P w K mg base N qual scope f cd A outer s H E).prog (kY CX P w K mg base N qual scope f cd A outer s H E).w) (kY CX P w K mg base N qual scope f cd A outer s H E).A (kY CX P w K mg base N qual scope f cd A outer s H E).env (kY CX P w K mg base N qual scope f cd A outer s H E).xe:=by
 intro e s' h
 exact PassesOwn.leaving (Q₁:=fun e s''=>CX outer H s E e s'') (E₁:=fun e' s''=>CX outer H s E e' s'') e s' h
end
end L2
namespace L2
open PySem PySem.Spec PyProof.Rows
section
variable {κ:Type} [DecidableEq κ]
def qW (kvs:List (κ×V)) (k:κ):Option V:=(kvs.find? fun kv=>decide (kv.1=k)).map (·.2)
def v4 (kvs:List (κ×V)) (k:κ) (v:V):List (κ×V) :=
 if (kvs.any fun kv=>decide (kv.1=k))=true then kvs.map (fun kv=>if kv.1=k then (kv.1,v) else kv) else kvs++[(k,v)]
def dZ (kvs:List (κ×V)) (k:κ):List (κ×V):=kvs.filter fun kv=>decide (kv.1≠k)
theorem QY {p:κ×V} {r:List (κ×V)} {k:κ} (e:p.1=k):qW (p::r) k=some p.2:=by simp [qW,List.find?_cons,e]
theorem QZ {p:κ×V} {r:List (κ×V)} {k:κ} (e:¬p.1=k):qW (p::r) k=qW r k:=by simp [qW,List.find?_cons,e]
theorem bO (k:κ):∀kvs:List (κ×V),(kvs.any fun kv=>decide (kv.1=k))=(qW kvs k).isSome
 |[]=>rfl
 |p::r=>by
  rw [List.any_cons]
  by_cases e:p.1=k
  ·simp only [QY e,decide_eq_true e,Bool.true_or,Option.isSome_some]
  ·rw [QZ e,decide_eq_false e,Bool.false_or];exact bO k r
theorem RelO.isSome_eq {o:Option V} {u:Option Value} (r:RelO o u):o.isSome=u.isSome:=by
 cases o with
 |none=>cases u with
  |none=>rfl
  |some _=>exact (show False from r).elim
 |some _=>cases u with
  |none=>exact (show False from r).elim
  |some _=>rfl
theorem RelO.getD {o:Option V} {u:Option Value} {d:V} {d':Value} (r:RelO o u) (rd:RelV d d'):RelV (o.getD d) (u.getD d'):=by
 cases o with
 |none=>cases u with
  |none=>exact rd
  |some _=>exact (show False from r).elim
 |some _=>cases u with
  |none=>exact (show False from r).elim
  |some _=>exact r
theorem KV.val {kvs:List (κ×V)} {vs:List (κ×Value)} (r:KV kvs vs) (k:κ):RelO (qW kvs k) (valueAt vs k):=by
 unfold KV at r
 induction r with
 |nil=>exact True.intro
 |@cons p q ps qs h t ih =>
  obtain ⟨h1,h2⟩:=h
  by_cases e:p.1=k
  ·have e':q.1=k:=h1.symm.trans e
   have b:valueAt (q::qs) k=some q.2:=by simp [valueAt,List.find?_cons,e']
   rw [QY e,b];exact h2
  ·have e':¬q.1=k:=fun z=>e (h1.trans z)
   have b:valueAt (q::qs) k=valueAt qs k:=by simp [valueAt,List.find?_cons,e']
   rw [QZ e,b];exact ih
theorem KV.any {kvs:List (κ×V)} {vs:List (κ×Value)} (r:KV kvs vs) (k:κ):(kvs.any fun kv=>decide (kv.1=k))=vs.any fun kv=>decide (kv.1=k):=by
 unfold KV at r
 induction r with
 |nil=>rfl
 |cons h t ih=>rw [List.any_cons,List.any_cons,ih,h.1]
theorem KV.repl {kvs:List (κ×V)} {vs:List (κ×Value)} (r:KV kvs vs) (k:κ) {y:V} {u:Value} (ry:RelV y u) :
  KV (kvs.map fun kv=>if kv.1=k then (kv.1,y) else kv) (vs.map fun kv=>if kv.1=k then (kv.1,u) else kv):=by
 unfold KV at r ⊢
 induction r with
 |nil=>exact .nil
 |@cons p q ps qs h t ih =>
  rw [List.map_cons,List.map_cons]
  refine .cons ?_ ih
  obtain ⟨h1,h2⟩:=h
  by_cases e:p.1=k
  ·rw [if_pos e,if_pos (h1.symm.trans e)];exact ⟨h1,ry⟩
  ·rw [if_neg e,if_neg (fun z=>e (h1.trans z))];exact ⟨h1,h2⟩
theorem KV.put {kvs:List (κ×V)} {vs:List (κ×Value)} (r:KV kvs vs) (k:κ) {y:V} {u:Value} (ry:RelV y u):KV (v4 kvs k y) (stored vs k u):=by
 unfold v4 stored
 rw [r.any k]
 by_cases e:(vs.any fun kv=>decide (kv.1=k))=true
 ·rw [if_pos e,if_pos e];exact r.repl k ry
 ·rw [if_neg e,if_neg e];exact Paired.snoc r ⟨rfl,ry⟩
theorem KV.drop {kvs:List (κ×V)} {vs:List (κ×Value)} (r:KV kvs vs) (k:κ):KV (dZ kvs k) (without vs k):=by
  unfold KV at r ⊢
  unfold dZ without
  induction r with
  |nil=>exact .nil
  |@cons p q ps qs h t ih =>
    obtain ⟨h1,h2⟩:=h
    rw [List.filter_cons,List.filter_cons]
    by_cases e:p.1=k
    · have a:¬decide (p.1≠k)=true:=by simp [e]
      have b:¬decide (q.1≠k)=true:=by simp [h1.symm.trans e]
      rw [if_neg a,if_neg b];exact ih
    · have e':¬q.1=k:=fun z=>e (h1.trans z)
      have a:decide (p.1≠k)=true:=by simp [e]
      have b:decide (q.1≠k)=true:=by simp [e']
      rw [if_pos a,if_pos b];exact .cons ⟨h1,h2⟩ ih
theorem KV.keys {kvs:List (κ×V)} {vs:List (κ×Value)} (r:KV kvs vs):kvs.map (·.1)=vs.map (·.1):=by
 unfold KV at r
 induction r with
 |nil=>rfl
 |cons h t ih=>rw [List.map_cons,List.map_cons,ih,h.1]
theorem KV.length {kvs:List (κ×V)} {vs:List (κ×Value)} (r:KV kvs vs):kvs.length=vs.length:=Paired.length r
end
abbrev KT (H:Hp):List (List jS×V)→List (List jS×Addr×Value)→Prop:=Paired fun p q=>p.1=q.1∧H q.2.1=some (.tup (p.1.map kV))∧RelV p.2 q.2.2
theorem KT.val {H:Hp} {kvs:List (List jS×V)} {xs:List (List jS×Addr×Value)} (r:KT H kvs xs) (k:List jS):RelO (qW kvs k) ((atKey xs k).map (·.2)):=by
 induction r with
 |nil=>exact True.intro
 |@cons p q ps qs h t ih =>
  obtain ⟨h1,_,h2⟩:=h
  by_cases e:p.1=k
  ·have e':q.1=k:=h1.symm.trans e
   have b:atKey (q::qs) k=some q.2:=by simp [atKey,List.find?_cons,e']
   rw [QY e,b];exact h2
  ·have e':¬q.1=k:=fun z=>e (h1.trans z)
   have b:atKey (q::qs) k=atKey qs k:=by simp [atKey,List.find?_cons,e']
   rw [QZ e,b];exact ih
theorem KT.repl {H:Hp} {kvs:List (List jS×V)} {xs:List (List jS×Addr×Value)} (r:KT H kvs xs) (k:List jS) {y:V} {u:Value} (ry:RelV y u) :
  KT H (kvs.map fun kv=>if kv.1=k then (kv.1,y) else kv) (xs.map (putAt k u)):=by
 induction r with
 |nil=>exact .nil
 |@cons p q ps qs h t ih =>
  rw [List.map_cons,List.map_cons]
  refine .cons ?_ ih
  obtain ⟨h1,h2,h3⟩:=h
  unfold putAt
  by_cases e:p.1=k
  ·rw [if_pos e,if_pos (h1.symm.trans e)];exact ⟨h1,h2,ry⟩
  ·rw [if_neg e,if_neg (fun z=>e (h1.trans z))];exact ⟨h1,h2,h3⟩
theorem KT.put {H:Hp} {kvs:List (List jS×V)} {xs:List (List jS×Addr×Value)} (r:KT H kvs xs) (k:List jS) {b:Addr} {y:V} {u:Value} (hb:H b=some (.tup (k.map kV))) (ry:RelV y u) :
  KT H (v4 kvs k y) (storedH xs k b u):=by
 have e:(kvs.any fun kv=>decide (kv.1=k))=(atKey xs k).isSome:=by
  rw [bO,(r.val k).isSome_eq,Option.isSome_map]
 unfold v4 storedH
 rw [e]
 by_cases q:(atKey xs k).isSome=true
 ·rw [if_pos q,if_pos q];exact r.repl k ry
 ·rw [if_neg q,if_neg q];exact Paired.snoc r ⟨rfl,hb,ry⟩
theorem KT.keeps {H H':Hp} {kvs:List (List jS×V)} {xs:List (List jS×Addr×Value)} (r:KT H kvs xs) (ht:∀b ys,H b=some (.tup ys)→H' b=some (.tup ys)):KT H' kvs xs :=
 Paired.mapP r fun _ _ z=>⟨z.1,ht _ _ z.2.1,z.2.2⟩
section
variable {P:Program} {w:World} {H:Hp} {h:Heap} {a:Addr}
end
def DGet (H:Hp) (a:Addr) (y:V) (r:Option V):Prop :=
 (∃kvs k,Rd H a (.dK kvs)∧y=kV k∧r=qW kvs k)∨∃kvs k b,Rd H a (.dT kvs)∧y=.ref b∧H b=some (.tup (k.map kV))∧r=qW kvs k
def DPut (H:Hp) (a:Addr) (y v:V) (H':Hp):Prop :=
 (∃kvs k,H a=some (.dK kvs)∧y=kV k∧kvs.length<sizeLine∧H'=jB H a (.dK (v4 kvs k v)))∨
 ∃kvs k b,H a=some (.dT kvs)∧y=.ref b∧H b=some (.tup (k.map kV))∧kvs.length<sizeLine∧H'=jB H a (.dT (v4 kvs k v))
theorem DGet.k {H:Hp} {a:Addr} {kvs:List (jS×V)} {k:jS} (e:H a=some (.dK kvs)):DGet H a (kV k) (qW kvs k):=.inl ⟨kvs,k,.inl e,rfl,rfl⟩
theorem DGet.t {H:Hp} {a b:Addr} {kvs:List (List jS×V)} {k:List jS} (e:H a=some (.dT kvs)) (eb:H b=some (.tup (k.map kV))):DGet H a (.ref b) (qW kvs k):=.inr ⟨kvs,k,b,.inl e,rfl,eb,rfl⟩
theorem DPut.k {H:Hp} {a:Addr} {kvs:List (jS×V)} {k:jS} {v:V} (e:H a=some (.dK kvs)) (hl:kvs.length<sizeLine):DPut H a (kV k) v (jB H a (.dK (v4 kvs k v))):=.inl ⟨kvs,k,e,rfl,hl,rfl⟩
theorem DPut.t {H:Hp} {a b:Addr} {kvs:List (List jS×V)} {k:List jS} {v:V} (e:H a=some (.dT kvs)) (eb:H b=some (.tup (k.map kV))) (hl:kvs.length<sizeLine) :
  DPut H a (.ref b) v (jB H a (.dT (v4 kvs k v))):=.inr ⟨kvs,k,b,e,rfl,eb,hl,rfl⟩
section
variable {X:Cx} {pins:List (Addr×Obj)} {σ:St} {H:Hp} {s:Shared} {a:Addr} {y v:V} {u r:Value} {o:Option V} {A:Around} {E:Value→Shared→Prop}
theorem Inv.big (I:Inv X pins σ H s):sysModules<s.heap.objs.size:=by
 have h:mainGlobals<s.heap.objs.size:=(I.mod.glob.keeps I.bk).lt
 exact Nat.lt_trans (by decide) h
theorem cZ {h':Heap} {t':Nat} {ob:HO} (I:Inv X pins σ H s) (mu:z9 (H a)) (hs:Heap.SameBut a s.heap h') (he:∃q,h'.get? a=some q) (new:ObjOk X.prog X.w (jB H a ob) h' a ob) :
  Inv X pins σ (jB H a ob) {s with heap:=h',toks:=t'} :=
 I.write (x:=a) (e:=a) mu (.inl rfl) (fun b q hb z=>(hs.2 b hb).trans z) he new
end
section
variable {X:Cx} {pins:List (Addr×Obj)} {σ:St} {H:Hp} {s:Shared} {a:Addr} {kvs:List (jS×V)} {k:jS} {u:Value} {A:Around} {E:Value→Shared→Prop}
end
def ZN (i:Expr):Prop:=∀ov iv,subscripted i false ov iv=operate [ov,iv] (getItem ov iv)
theorem lM {prog:Program} {w:World} {A:Around} {E:Value→Shared→Prop} {s:Shared} {env:Env} {value slice:Expr} {pos:Pos} {T id:String} {Q:Value→Shared→Prop}
  (hl:typeLookup (.type T) "__getitem__"=pure (some (.builtin id))) (hs:ZN slice)
  (h:wpAny (model prog w) A (eval value env) (fun o s₁=>wpAny (model prog w) A (eval slice env) (fun i s₂=>s₂.TypeIs o T∧wpAny (model prog w) A (getItem o i) Q E s₂) E s₁) E s) :
  wpAny (model prog w) A (eval (.Subscript value slice pos) env) Q E s:=by
 refine Subscript_ (wpAny_mono h (fun o s₁ h₁=>wpAny_mono h₁ (fun i s₂ h₂=>?_) fun _ _ x=>x) fun _ _ x=>x)
 obtain ⟨hT,h₂⟩:=h₂
 unfold subscriptTail
 refine wpAny_bind ?_
 rw [getitemInPython_of_ne hT.not_modules]
 refine wpAny_bind (wpAny_specialOf hT hl ?_)
 have fin:wpAny (model prog w) A (subscripted slice false o i) (fun r s₃=>wpAny (model prog w) A (letTemporaryGo value o r >>= fun _=>pure r) Q E s₃) E s₂:=by
  rw [hs o i]
  exact wpAny_operating (wpAny_mono h₂ (fun r s₃ h₃=>wpAny_bind (wpAny_letTemporaryGo (wpAny_pure h₃))) fun _ _ x=>x)
 first
  |exact wpAny_pure (wpAny_bind fin)
  |exact wpAny_bind (wpAny_pure (wpAny_bind fin))
  |exact wpAny_bind fin
section
variable {X:Cx} {o i e value:Expr} {pos pos' tpos:Pos} {td ty tv:TE}
end
section
variable {X:Cx} {pos:Pos}
end
def dB:List (TE×TE)→St→Hp→(List (V×V)→Hp→Prop)→Prop
 |[],_,H,Q=>Q [] H
 | (tk,tv)::r,σ,H,Q=>tk σ H fun x H1=>tv σ H1 fun y H2=>dB r σ H2 fun ps H3=>Q ((x,y)::ps) H3
abbrev VV:List (V×V)→List (Value×Value)→Prop:=Paired fun p q=>RelV p.1 q.1∧RelV p.2 q.2
def ZQ (X:Cx) (pos:Pos) (keys:List (Option Expr)) (values:List Expr) (trs:List (TE×TE)):Prop :=
 ∀(pins:List (Addr×Obj)) (s:Shared) (σ:St) (H:Hp) (Q:List (V×V)→Hp→Prop),Inv X pins σ H s→dB trs σ H Q→
  wpAny (model X.prog X.w) X.A (evalPairs (pairTrees keys values X.env pos)) (fun vs s'=>∃ps H',Inv X pins σ H' s'∧VV ps vs∧Q ps H') X.xe s
theorem lQ {X:Cx} {pos:Pos}:ZQ X pos [] [] []:=fun pins s σ H Q I h=>pairTrees_nil_walk ⟨[],H,I,.nil,h⟩
theorem iY {X:Cx} {pos:Pos} {k v:Expr} {ks:List (Option Expr)} {vs:List Expr} {tk tv:TE} {trs:List (TE×TE)} (hk:PE X k tk) (hv:PE X v tv) (hr:ZQ X pos ks vs trs) :
  ZQ X pos (some k::ks) (v::vs) ((tk,tv)::trs):=fun pins s σ H Q I h =>
 pairTrees_cons_walk (jI (hk pins s σ H _ I h) fun u s1 ⟨x,H1,I1,rx,q1⟩=>jI (hv pins s1 σ H1 _ I1 q1) fun w2 s2 ⟨y,H2,I2,ry,q2⟩ =>
  jI (hr pins s2 σ H2 _ I2 q2) fun ws s3 ⟨ps,H3,I3,rel,q3⟩=>⟨(x,y)::ps,H3,I3,.cons ⟨rx,ry⟩ rel,q3⟩)
end L2
namespace L2
open PySem PySem.Spec PyProof.Rows
section
variable {X:Cx} {tg:Expr}
end
section
variable {X:Cx}
end
end L2
namespace L2
open PySem PySem.Spec PyProof.Rows
inductive Kd where
 |plain|basin|pump
section
variable {X:Cx} {k k':Nat} {x m:Str} {cs:Kd→Addr} {ps:List Str} {ss:Kd→Sp} {p pos apos:Pos} {o e:Expr} {es:List Expr} {ta:TE} {t:TA}
end
end L2
namespace L2
open PySem PySem.Spec PyProof.Rows
section
variable {X:Cx} {tg:Expr}
end
section
variable {X:Cx}
end
end L2
namespace L2
open PySem PySem.Spec PyProof.Rows
section
variable {X:Cx} {K:PySem.W.Frag} {w:World} {o i:Expr} {pos:Pos} {td ty:TE}
end
end L2
namespace L2
open PySem PySem.Spec PyProof.Rows
inductive DEq (K:PySem.W.Frag) (H:Hp):V→V→Bool→Prop where
 |flat {x y:V} (hx:qO x=true) (hy:qO y=true):DEq K H x y (v7 x y)
 |same (a:Addr):DEq K H (.ref a) (.ref a) true
 |tup {a b:Addr} {xs ys:List V} (ne:a≠b) (ha:SqT K H a xs) (hb:SqT K H b ys) (fx:xs.all qO=true) (fy:ys.all qO=true):DEq K H (.ref a) (.ref b) (vH xs ys)
 |lst {a b:Addr} {xs ys:List V} (ne:a≠b) (ha:SqL K H a xs) (hb:SqL K H b ys) (fx:xs.all qO=true) (fy:ys.all qO=true):DEq K H (.ref a) (.ref b) (vH xs ys)
section
variable {X:Cx} {pins:List (Addr×Obj)} {σ:St} {H:Hp} {s:Shared} {A:Around}
theorem DEq.at {x y:V} {u v:Value} {e:Bool} (I:Inv X pins σ H s) (d:DEq X.K H x y e) (rx:RelV x u) (ry:RelV y v) (hu:A.units<cLine):SeqAt.EqAt A s u v e:=by
 cases d with
 |flat hx hy=>exact ZG rx ry hx hy
 |same a=>cases rx;cases ry;exact SeqAt.EqAt.same _
 |@tup a b xs ys ne ha hb fx fy =>
  cases rx;cases ry
  obtain ⟨its,r,pl,hz⟩:=I.tuple ha
  obtain ⟨its2,r2,pl2,hz2⟩:=I.tuple hb
  have hl:=r.length
  have hl2:=r2.length
  have h:=SeqAt.RcAt.tuples (A:=A) (e:=fun j=>v7 (xs.getD j .non) (ys.getD j .non)) pl pl2 hu (fun j h1 h2=>ZG (yU r h1) (yU r2 h2) (JQ fx (by rw [hl];simpa using h1)) (JQ fy (by rw [hl2];simpa using h2)))
  have e:((List.range (min its.toArray.size its2.toArray.size)).all (fun j=>v7 (xs.getD j .non) (ys.getD j .non))&&its.toArray.size == its2.toArray.size)=vH xs ys:=by
   unfold vH
   rw [List.size_toArray,List.size_toArray,← hl,← hl2]
  rw [e] at h
  exact SeqAt.EqAt.of_refs ne h
 |@lst a b xs ys ne ha hb fx fy =>
  cases rx;cases ry
  obtain ⟨its,r,pl,hz⟩:=I.list ha
  obtain ⟨its2,r2,pl2,hz2⟩:=I.list hb
  have hl:=r.length
  have hl2:=r2.length
  by_cases he:xs.length=ys.length
  ·have h:=SeqAt.RcAt.lists (A:=A) (e:=fun j=>v7 (xs.getD j .non) (ys.getD j .non)) pl.isList pl2.isList (by rw [List.size_toArray,List.size_toArray,← hl,← hl2,he]) hu (fun j h1 h2=>ZG (yU r h1) (yU r2 h2) (JQ fx (by rw [hl];simpa using h1)) (JQ fy (by rw [hl2];simpa using h2)))
   have e:((List.range its.toArray.size).all (fun j=>v7 (xs.getD j .non) (ys.getD j .non)))=vH xs ys:=by
    unfold vH
    rw [List.size_toArray,← hl,← he,Nat.min_self,beq_self_eq_true,Bool.and_true]
   rw [e] at h
   exact SeqAt.EqAt.of_refs ne h
  ·have hf:vH xs ys=false:=by
    unfold vH
    rw [show (xs.length == ys.length)=false from beq_eq_false_iff_ne.mpr he,Bool.and_false]
   rw [hf]
   exact SeqAt.EqAt.of_refs ne (SeqAt.RcAt.lists_lengths pl.isList pl2.isList (by rw [List.size_toArray,List.size_toArray,← hl,← hl2];exact bne_iff_ne.mpr he) hu)
end
section
variable {X:Cx}
def pB (K:PySem.W.Frag) (neg:Bool):R2:=fun x y H Q=>∃(a b:Addr) (xs ys:List V) (es:List Bool),x=.ref a∧y=.ref b∧SqL K H a xs∧SqL K H b ys∧xs.length=ys.length∧es.length=xs.length∧(∀j,j<xs.length→DEq K H (xs.getD j .non) (ys.getD j .non) (es.getD j true))∧Q (.bl (if neg then !es.all id else es.all id)) H
theorem nF (hu:X.A.units+1<cLine):OpR X (compareOp .NotEq) (pB X.K true):=by
 intro pins s σ H x y v u Q I rx ry h
 obtain ⟨a,b,xs,ys,es,rfl,rfl,ha,hb,hlen,hes,hd,q⟩:=h
 cases rx
 cases ry
 obtain ⟨its,r,pl,hz⟩:=I.list ha
 obtain ⟨its2,r2,pl2,hz2⟩:=I.list hb
 have hl:=r.length
 have hl2:=r2.length
 refine SeqAt.RcNeAt.lists (e:=fun j=>es.getD j true) pl.isList pl2.isList (by rw [List.size_toArray,List.size_toArray,← hl,← hl2,hlen]) (by omega) (fun j h1 h2=>?_) X.prog X.w X.xe _ ⟨.bl _,H,I,rfl,?_⟩
 ·exact (hd j (by rw [hl];simpa using h1)).at I (yU r h1) (yU r2 h2) hu
 ·rw [List.size_toArray,← hl,← hes,fS]
  exact q
end
end L2
namespace L2
open PySem PySem.Spec PyProof.Rows
end L2
namespace L2
open PySem PySem.Spec PyProof.Rows
end L2
namespace L2
open PySem PySem.Spec PyProof.Rows
end L2
namespace L2
open PySem PySem.Spec PyProof.Rows
section
variable {X:Cx}
theorem bJ:CallR X (.type "str") (fun xs H Q=>∃n:Int,xs=[.int n]∧n.natAbs.log2<1920∧Q (.str (Str.ofString (toString n))) H):=by
 intro pins s σ H xs us Q I r h
 obtain ⟨n,rfl,hl,q⟩:=h
 obtain ⟨u,rfl,t,rfl⟩:=vV r
 exact P.str_of_int hl ⟨.str (Str.ofString (toString n)),H,I.tok _,⟨_,rfl⟩,q⟩
end
end L2
namespace L2
open PySem PySem.Spec PyProof.Rows
end L2
namespace L2
open PySem PySem.Spec PyProof.Rows
section
variable {X:Cx}
end
end L2
namespace L2
open PySem PySem.Spec PyProof.Rows
end L2
namespace L2
open PySem PySem.Spec PyProof.Rows
section
variable {X:Cx} {tg:Expr}
end
end L2
namespace L2
open PySem PySem.Spec PyProof.Rows
end L2
namespace L2
open PySem PySem.Spec PyProof.Rows
section
variable {X:Cx} {pins:List (Addr×Obj)} {σ:List (Option V)} {H:Hp} {s:Shared} {h':Heap}
end
section
variable {X:Cx} {elts:List Expr} {x1:Nat} {tpos:Pos}
end
end L2
namespace L2
open PySem PySem.Spec PyProof.Rows
end L2
namespace L2
open PySem PySem.Spec PyProof.Rows
section
variable {X:Cx}
end
end L2
namespace L2
open PySem PySem.Spec PyProof.Rows
section
variable {prog:Program} {w:World} {A:Around} {s:Shared} {E:Value→Shared→Prop}
end
section
variable {X:Cx} {elts:List Expr} {x1:Nat} {tpos:Pos}
end
end L2
namespace L2
open PySem PySem.Spec PyProof.Rows
set_option maxRecDepth 100000
section
variable {X:Cx}
end
end L2
namespace L2
open PySem PySem.Spec PyProof.Rows
section
variable {prog:Program} {w:World} {A:Around} {s:Shared} {E:Value→Shared→Prop}
abbrev pJ (h:Heap) (z P1 P2:Addr) (f0:Value) (f1:Bool):Prop:=h.get? z=some {cls:=.type "zip",dict:=none,data:=.fields #[f0,.bool f1,.bool false,.ref P1,.ref P2],slots := #[]}
def ZStands (h:Heap) (N z P1 P2 j1 j2 a b:Addr) (us vs:Array Value) (k:Nat):Prop :=
 ((IsZip h z P1 P2 .none∧∃g g',IsPair h P2 g g')∨∃(T:Addr) (f1:Bool) (o:Obj),pJ h z P1 P2 (rawInt T) f1∧N≤T∧h.get? T=some o)∧IsPair h P1 (.ref j1) (.ref j2)∧h.IsListIter j1 a k∧h.IsListIter j2 b k∧h.IsList a us∧h.IsList b vs
theorem ZStands.keep {h h':Heap} {N z P1 P2 j1 j2 a b S:Addr} {us vs:Array Value} {k:Nat} (hs:ZStands h N z P1 P2 j1 j2 a b us vs k) (bS:S<N) (nS:∀c∈[z,P1,P2,j1,j2,a,b],c≠S) (kp:∀c o,c≠S→h.get? c=some o→h'.get? c=some o):ZStands h' N z P1 P2 j1 j2 a b us vs k:=by
 obtain ⟨hz,hP1,n1,n2,la,lb⟩:=hs
 have nS':∀c,c∈[z,P1,P2,j1,j2,a,b]→∀o,h.get? c=some o→h'.get? c=some o:=fun c hc o e=>kp c o (nS c hc) e
 refine ⟨?_,nS' _ (by simp) _ hP1,n1.at fun o e=>nS' _ (by simp) o e,n2.at fun o e=>nS' _ (by simp) o e,la.at fun o e=>nS' _ (by simp) o e,lb.at fun o e=>nS' _ (by simp) o e⟩
 rcases hz with ⟨hz,g,g',hP2⟩|⟨T,f1,o,hz,t0,hT⟩
 ·exact .inl ⟨nS' _ (by simp) _ hz,g,g',nS' _ (by simp) _ hP2⟩
 ·exact .inr ⟨T,f1,o,nS' _ (by simp) _ hz,t0,kp _ _ (Nat.ne_of_gt (Nat.lt_of_lt_of_le bS t0)) hT⟩
def Pairs (h:Heap) (N:Addr) (us vs acc:Array Value) (k:Nat):Prop:=acc.size=k∧(∀(j:Nat) (v:Value),acc[j]?=some v→∃(T:Addr) (x y:Value),v=.ref T∧N≤T∧T<h.objs.size∧IsPair h T x y∧us[j]?=some x∧vs[j]?=some y)∧∀(i j:Nat) (v:Value),acc[i]?=some v→acc[j]?=some v→i=j
theorem Pairs.keep {h h':Heap} {N:Addr} {us vs acc:Array Value} {k:Nat} (p:Pairs h N us vs acc k) (kp:∀c o,N≤c→h.get? c=some o→h'.get? c=some o) (sz:h.objs.size≤h'.objs.size):Pairs h' N us vs acc k:=⟨p.1,fun j v hv=>by
 obtain ⟨T,x,y,e1,e2,e3,e4,e5⟩:=p.2.1 j v hv
 exact ⟨T,x,y,e1,e2,Nat.lt_of_lt_of_le e3 sz,kp _ _ e2 e4,e5⟩,p.2.2⟩
theorem Pairs.push {h:Heap} {N T:Addr} {us vs acc:Array Value} {k:Nat} {x y:Value} (p:Pairs h N us vs acc k) (tn:∀(j:Nat),acc[j]?≠some (.ref T)) (t0:N≤T) (t1:T<h.objs.size) (t2:IsPair h T x y) (hx:us[k]?=some x) (hy:vs[k]?=some y):Pairs h N us vs (acc.push (.ref T)) (k+1):=by
 refine ⟨by rw [Array.size_push,p.1],fun j v hj=>?_,fun i j v hi hj=>?_⟩
 ·rw [Array.getElem?_push] at hj
  split at hj
  ·rename_i e;rw [p.1] at e;cases hj;rw [e];exact ⟨T,x,y,rfl,t0,t1,t2,hx,hy⟩
  ·exact p.2.1 j v hj
 ·rw [Array.getElem?_push] at hi hj
  split at hi<;>split at hj
  ·omega
  ·cases hi;exact absurd hj (tn j)
  ·cases hj;exact absurd hi (tn i)
  ·exact p.2.2 i j v hi hj
end
end L2
namespace L2
open PySem PySem.Spec PyProof.Rows
section
variable {X:Cx} {pins:List (Addr×Obj)} {σ:List (Option V)} {H:Hp} {s:Shared} {h':Heap}
end
section
variable {X:Cx}
end
end L2
namespace L2
open PySem PySem.Spec PyProof.Rows
section
variable {prog:Program} {w:World} {A:Around} {s:Shared} {E:Value→Shared→Prop}
end
end L2
namespace L2
open PySem PySem.Spec PyProof.Rows
section
variable {X:Cx} {e se:Expr} {te:TE} {lo hi:Option Expr} {tl th tk:TO} {pos p2:Pos}
end
section
variable {X:Cx}
end
end L2
namespace L2
open PySem PySem.Spec PyProof.Rows
section
end
end L2
namespace L2
open PySem PySem.Spec PyProof.Rows
section
variable {prog:Program} {w:World} {A:Around} {s:Shared} {E:Value→Shared→Prop}
end
section
variable {X:Cx} {elts:List Expr} {x1:Nat} {tpos:Pos}
end
end L2
namespace L2
open PySem PySem.Spec PyProof.Rows
section
variable {X:Cx}
end
end L2
namespace L2
open PySem PySem.Spec PyProof.Rows
end L2
namespace L2
open PySem PySem.Spec PyProof.Rows
section
variable {X:Cx}
end
end L2
namespace L2
end L2
namespace L2
theorem an3 {A0 A1 A2:Prop} (h0:A0) (h1:A1) (h2:A2):A0∧A1∧A2:=⟨h0,h1,h2⟩
theorem an4 {A0 A1 A2 A3:Prop} (h0:A0) (h1:A1) (h2:A2) (h3:A3):A0∧A1∧A2∧A3:=⟨h0,h1,h2,h3⟩
theorem an5 {A0 A1 A2 A3 A4:Prop} (h0:A0) (h1:A1) (h2:A2) (h3:A3) (h4:A4):A0∧A1∧A2∧A3∧A4:=⟨h0,h1,h2,h3,h4⟩
theorem an6 {A0 A1 A2 A3 A4 A5:Prop} (h0:A0) (h1:A1) (h2:A2) (h3:A3) (h4:A4) (h5:A5):A0∧A1∧A2∧A3∧A4∧A5:=⟨h0,h1,h2,h3,h4,h5⟩
theorem an7 {A0 A1 A2 A3 A4 A5 A6:Prop} (h0:A0) (h1:A1) (h2:A2) (h3:A3) (h4:A4) (h5:A5) (h6:A6):A0∧A1∧A2∧A3∧A4∧A5∧A6:=⟨h0,h1,h2,h3,h4,h5,h6⟩
theorem an8 {A0 A1 A2 A3 A4 A5 A6 A7:Prop} (h0:A0) (h1:A1) (h2:A2) (h3:A3) (h4:A4) (h5:A5) (h6:A6) (h7:A7):A0∧A1∧A2∧A3∧A4∧A5∧A6∧A7:=⟨h0,h1,h2,h3,h4,h5,h6,h7⟩
theorem an9 {A0 A1 A2 A3 A4 A5 A6 A7 A8:Prop} (h0:A0) (h1:A1) (h2:A2) (h3:A3) (h4:A4) (h5:A5) (h6:A6) (h7:A7) (h8:A8):A0∧A1∧A2∧A3∧A4∧A5∧A6∧A7∧A8:=⟨h0,h1,h2,h3,h4,h5,h6,h7,h8⟩
theorem an10 {A0 A1 A2 A3 A4 A5 A6 A7 A8 A9:Prop} (h0:A0) (h1:A1) (h2:A2) (h3:A3) (h4:A4) (h5:A5) (h6:A6) (h7:A7) (h8:A8) (h9:A9):A0∧A1∧A2∧A3∧A4∧A5∧A6∧A7∧A8∧A9:=⟨h0,h1,h2,h3,h4,h5,h6,h7,h8,h9⟩
theorem an11 {A0 A1 A2 A3 A4 A5 A6 A7 A8 A9 A10:Prop} (h0:A0) (h1:A1) (h2:A2) (h3:A3) (h4:A4) (h5:A5) (h6:A6) (h7:A7) (h8:A8) (h9:A9) (h10:A10):A0∧A1∧A2∧A3∧A4∧A5∧A6∧A7∧A8∧A9∧A10:=⟨h0,h1,h2,h3,h4,h5,h6,h7,h8,h9,h10⟩
theorem an12 {A0 A1 A2 A3 A4 A5 A6 A7 A8 A9 A10 A11:Prop} (h0:A0) (h1:A1) (h2:A2) (h3:A3) (h4:A4) (h5:A5) (h6:A6) (h7:A7) (h8:A8) (h9:A9) (h10:A10) (h11:A11):A0∧A1∧A2∧A3∧A4∧A5∧A6∧A7∧A8∧A9∧A10∧A11:=⟨h0,h1,h2,h3,h4,h5,h6,h7,h8,h9,h10,h11⟩
theorem an13 {A0 A1 A2 A3 A4 A5 A6 A7 A8 A9 A10 A11 A12:Prop} (h0:A0) (h1:A1) (h2:A2) (h3:A3) (h4:A4) (h5:A5) (h6:A6) (h7:A7) (h8:A8) (h9:A9) (h10:A10) (h11:A11) (h12:A12):A0∧A1∧A2∧A3∧A4∧A5∧A6∧A7∧A8∧A9∧A10∧A11∧A12:=⟨h0,h1,h2,h3,h4,h5,h6,h7,h8,h9,h10,h11,h12⟩
theorem an14 {A0 A1 A2 A3 A4 A5 A6 A7 A8 A9 A10 A11 A12 A13:Prop} (h0:A0) (h1:A1) (h2:A2) (h3:A3) (h4:A4) (h5:A5) (h6:A6) (h7:A7) (h8:A8) (h9:A9) (h10:A10) (h11:A11) (h12:A12) (h13:A13):A0∧A1∧A2∧A3∧A4∧A5∧A6∧A7∧A8∧A9∧A10∧A11∧A12∧A13:=⟨h0,h1,h2,h3,h4,h5,h6,h7,h8,h9,h10,h11,h12,h13⟩
theorem an15 {A0 A1 A2 A3 A4 A5 A6 A7 A8 A9 A10 A11 A12 A13 A14:Prop} (h0:A0) (h1:A1) (h2:A2) (h3:A3) (h4:A4) (h5:A5) (h6:A6) (h7:A7) (h8:A8) (h9:A9) (h10:A10) (h11:A11) (h12:A12) (h13:A13) (h14:A14):A0∧A1∧A2∧A3∧A4∧A5∧A6∧A7∧A8∧A9∧A10∧A11∧A12∧A13∧A14:=⟨h0,h1,h2,h3,h4,h5,h6,h7,h8,h9,h10,h11,h12,h13,h14⟩
end L2
namespace L2
open PySem PySem.Spec PyProof.Rows
section
variable {X:Cx}
end
end L2
namespace L2
open PySem PySem.Spec PyProof.Rows
end L2
namespace L2
open PySem PySem.Spec PyProof.Rows
end L2
namespace L2
open PySem PySem.Spec PyProof.Rows
section
variable {prog:Program} {w:World} {A:Around} {E:Value→Shared→Prop} {s:Shared}
end
section
variable {X:Cx}
end
end L2
namespace L2
open PySem PySem.Spec PyProof.Rows
section
variable {X:Cx} {pins:List (Addr×Obj)} {σ:St} {H:Hp} {s:Shared} {a:Addr} {y d:V} {u r:Value} {o:Option V} {A:Around} {E:Value→Shared→Prop}
end
section
variable {X:Cx} {o e f:Expr} {apos cpos:Pos} {td ty tx:TE}
end
end L2
namespace L2
open PySem PySem.Spec PyProof.Rows
end L2
namespace L2
open PySem PySem.Spec PyProof.Rows
section
variable {M:Model} {A:Around} {E:Value→Shared→Prop} {s:Shared}
end
section
variable {P:Program} {w:World} {K:PySem.W.Frag} {mg:Str→Option Value} {base:Heap} {N:List Str} {qual:Str} {scope:Scope} {f:Addr} {cd:Value} {A:Around} {outer:List Env} {s:Shared} {H:Hp} {E:XK}
end
section
variable {X:Cx} {N:List Str} {scope:Scope} {pins:List (Addr×Obj)} {σ:St} {H:Hp} {s:Shared} {fp:List Addr}
end
section
variable {P:Program} {w:World} {K:PySem.W.Frag} {mg:Str→Option Value} {base:Heap} {Nf:List Str} {qual:Str} {scf:Scope} {f:Addr} {cd:Value} {A:Around} {outer:List Env} {s₀:Shared} {H₀:Hp} {E:XK}
end
end L2
namespace L2
open PySem PySem.Spec PyProof.Rows
section
variable {X:Cx}
def qX (z:Str) (k:Nat):Str:=⟨(List.replicate k z.cps).foldl (·++·) #[]⟩
theorem cA (a:Array Nat):∀(k:Nat) (acc:Array Nat),((List.replicate k a).foldl (·++·) acc).toList=acc.toList++(List.replicate k a.toList).flatten
 |0,acc=>by simp
 |k+1,acc=>by rw [List.replicate_succ,List.foldl_cons,cA a k,List.replicate_succ,List.flatten_cons,Array.toList_append,List.append_assoc]
theorem bT (z:Str) (k:Nat):(qX z k).cps.toList=(List.replicate k z.cps.toList).flatten:=by
 unfold qX
 rw [cA]
 rfl
theorem iT (z:Str) (k:Nat):(qX z k).length=k*z.length:=by
 show (qX z k).cps.size=k*z.cps.size
 rw [← Array.length_toList,bT,mB,Array.length_toList]
end
end L2
namespace L2
open PySem PySem.Spec PyProof.Rows
section
variable {P:Program} {w:World} {K:PySem.W.Frag} {mg:Str→Option Value} {base:Heap}
end
section
variable {X:Cx} {a b:Expr} {ta tb:TE} {r:R2} {pos:Pos}
end
theorem so {K:PySem.W.Frag} {H:Hp} {a:Addr} {xs:List V} (h:H a=some (.lst xs)):SqL K H a xs:=SqL.of h
end L2
namespace L2
open PySem PySem.Spec PyProof.Rows
section
variable {X:Cx} {N:List Str} {scope:Scope} {pins:List (Addr×Obj)} {σ:St} {H:Hp} {s:Shared} {fp:List Addr}
end
theorem cps {X:Cx} {N:List Str} {scope:Scope} (n:Nat) (js:List Nat) (a:N.length=n+js.length:=by rfl) (b:js.map (fun j=>X.N[j]?)=(N.drop n).map some:=by rfl) (c:∀x∈N.drop n,scope.names.lookup x=some .free:=by decide +kernel):y9 X N scope (v5 n js):=zC n js a b c
end L2
namespace L2
open PySem PySem.Spec PyProof.Rows
inductive GK where
 |i (n:Int)
 |s (t:Str)
 |nil
 |cons (a b:GK)
 deriving DecidableEq
def TupOf (h:Heap) (v:Value) (P:List Value→Prop):Prop :=
 ∃(a:Addr) (o:Obj) (its:Array Value) (n:Nat),v=.ref a∧h.get? a=some o∧o.cls=.type "tuple"∧o.data=.seq its n∧P its.toList
def GR (h:Heap):GK→(Value→Prop)×(List Value→Prop)
 |.i n=>(fun v=>∃t,v=.int n t,fun _=>False)
 |.s x=>(fun v=>∃t,v=.str x t,fun _=>False)
 |.nil=>(fun v=>TupOf h v (fun l=>l=[]),fun l=>l=[])
 |.cons a b=>(fun v=>TupOf h v (fun l=>∃u us,l=u::us∧(GR h a).1 u∧(GR h b).2 us),fun l=>∃u us,l=u::us∧(GR h a).1 u∧(GR h b).2 us)
def gh (w:World):GK→Int×List Int
 |.i n=>(hashInt n,[])
 |.s x=>(hashStr w x,[])
 |.nil=>(reduceHash (Builtin.Tuple.tupleHashOf []),[])
 |.cons a b=>(reduceHash (Builtin.Tuple.tupleHashOf ((gh w a).1::(gh w b).2)),(gh w a).1::(gh w b).2)
def gd:GK→Nat
 |.i _=>1
 |.s _=>1
 |.nil=>1
 |.cons a b=>max (gd a+1) (gd b)
theorem TupOf.mono {h h':Heap} {v:Value} {P P':List Value→Prop} (x:TupOf h v P) (hk:∀a o its n,h.get? a=some o→o.data=.seq its n→h'.get? a=some o) (hp:∀l,P l→P' l):TupOf h' v P' :=
 let ⟨a,o,its,n,e,ho,hc,hd,p⟩:=x
 ⟨a,o,its,n,e,hk a o its n ho hd,hc,hd,hp _ p⟩
def QJ:GK→Bool
 |.nil=>true
 |.cons _ _=>true
 |_=>false
theorem GR.tup {h:Heap} {k:GK} (ht:QJ k=true) {v:Value}:(GR h k).1 v↔TupOf h v (GR h k).2:=by
 cases k<;>first|exact Iff.rfl|cases ht
theorem GR.keep {h h':Heap} (hk:∀a o its n,h.get? a=some o→o.data=.seq its n→h'.get? a=some o):∀k,(∀v,(GR h k).1 v→(GR h' k).1 v)∧(∀l,(GR h k).2 l→(GR h' k).2 l)
 |.i _=>⟨fun _ p=>p,fun _ p=>p⟩
 |.s _=>⟨fun _ p=>p,fun _ p=>p⟩
 |.nil=>⟨fun _ p=>(GR.tup rfl).2 (((GR.tup rfl).1 p).mono hk fun _ q=>q),fun _ p=>p⟩
 |.cons a b=>by
  have c:∀l,(∃u us,l=u::us∧(GR h a).1 u∧(GR h b).2 us)→∃u us,l=u::us∧(GR h' a).1 u∧(GR h' b).2 us :=
   fun l ⟨u,us,e,p,q⟩=>⟨u,us,e,(GR.keep hk a).1 _ p,(GR.keep hk b).2 _ q⟩
  exact ⟨fun _ p=>(GR.tup rfl).2 (((GR.tup rfl).1 p).mono hk c),c⟩
theorem TupOf.typeIs {s:Shared} {v:Value} {P:List Value→Prop} (x:TupOf s.heap v P):s.TypeIs v "tuple":=by
 obtain ⟨a,o,its,n,rfl,ho,hc,_⟩:=x
 exact ⟨o,ho,hc⟩
theorem GR.inj {h:Heap}:∀x y,(∀v,(GR h x).1 v→(GR h y).1 v→x=y)∧(∀l,(GR h x).2 l→(GR h y).2 l→x=y):=by
 have tt:∀{v:Value} {P P':List Value→Prop},TupOf h v P→TupOf h v P'→∃l,P l∧P' l:=by
  rintro v P P' ⟨a,o,its,n,rfl,ho,_,hd,p⟩ ⟨a',o',its',n',e,ho',_,hd',p'⟩
  cases e
  obtain rfl:o=o':=Option.some.inj (ho.symm.trans ho')
  rw [hd] at hd'
  injection hd' with e1 _
  subst e1
  exact ⟨_,p,p'⟩
 intro x
 induction x with
 |i n =>
  intro y
  refine ⟨fun v p q=>?_,fun l p=>p.elim⟩
  obtain ⟨t,rfl⟩:=p
  cases y with
  |i m=>obtain ⟨u,e⟩:=q;cases e;rfl
  |s z=>obtain ⟨u,e⟩:=q;cases e
  |nil=>obtain ⟨a,_,_,_,e,_⟩:=q;cases e
  |cons a b=>obtain ⟨a,_,_,_,e,_⟩:=q;cases e
 |s z =>
  intro y
  refine ⟨fun v p q=>?_,fun l p=>p.elim⟩
  obtain ⟨t,rfl⟩:=p
  cases y with
  |i m=>obtain ⟨u,e⟩:=q;cases e
  |s z=>obtain ⟨u,e⟩:=q;cases e;rfl
  |nil=>obtain ⟨a,_,_,_,e,_⟩:=q;cases e
  |cons a b=>obtain ⟨a,_,_,_,e,_⟩:=q;cases e
 |nil =>
  intro y
  have c:∀l,(GR h .nil).2 l→(GR h y).2 l→GK.nil=y:=by
   intro l p q
   cases p
   cases y with
   |i m=>exact q.elim
   |s z=>exact q.elim
   |nil=>rfl
   |cons a b=>obtain ⟨u,us,e,_⟩:=q;cases e
  refine ⟨fun v p q=>?_,c⟩
  cases y with
  |i m=>obtain ⟨u,rfl⟩:=q;obtain ⟨a,_,_,_,e,_⟩:=p;cases e
  |s z=>obtain ⟨u,rfl⟩:=q;obtain ⟨a,_,_,_,e,_⟩:=p;cases e
  |nil=>rfl
  |cons a b=>obtain ⟨l,p,q⟩:=tt ((GR.tup rfl).1 p) ((GR.tup rfl).1 q);exact c l p q
 |cons a b iha ihb =>
  intro y
  have c:∀l,(GR h (.cons a b)).2 l→(GR h y).2 l→GK.cons a b=y:=by
   rintro l ⟨u,us,rfl,p1,p2⟩ q
   cases y with
   |i m=>exact q.elim
   |s z=>exact q.elim
   |nil=>cases q
   |cons a' b' =>
    obtain ⟨u',us',e,q1,q2⟩:=q
    cases e
    rw [(iha a').1 _ p1 q1,(ihb b').2 _ p2 q2]
  refine ⟨fun v p q=>?_,c⟩
  cases y with
  |i m=>obtain ⟨u,rfl⟩:=q;obtain ⟨a,_,_,_,e,_⟩:=p;cases e
  |s z=>obtain ⟨u,rfl⟩:=q;obtain ⟨a,_,_,_,e,_⟩:=p;cases e
  |nil=>obtain ⟨l,p,q⟩:=tt ((GR.tup rfl).1 p) ((GR.tup rfl).1 q);exact c l p q
  |cons a b=>obtain ⟨l,p,q⟩:=tt ((GR.tup rfl).1 p) ((GR.tup rfl).1 q);exact c l p q
section
variable {prog:Program} {w:World} {E:Value→Shared→Prop}
abbrev JV (prog:Program) (w:World) (E:Value→Shared→Prop) (k:GK):Prop :=
 ∀(l:List Value) (A:Around) (s:Shared) (b:Array Int) (Q:Array Int→Shared→Prop),(GR s.heap k).2 l→A.units+gd k≤cLine→(∀n b',b'.toList=b.toList++(gh w k).2→Q b' {s with toks:=n})→
  wpAny (model prog w) A (forIn l b fun x r=>do let h ← pyHash x;pure (ForInStep.yield (r.push h))) Q E s
theorem b0 {k:GK} (ht:QJ k=true) (hs:(gh w k).1=reduceHash (Builtin.Tuple.tupleHashOf (gh w k).2))
  (lp:JV prog w E k)
  {v:Value} {A:Around} {s:Shared} {Q:Int→Shared→Prop} (hv:(GR s.heap k).1 v) (hu:A.units+gd k<cLine) (hq:∀n,Q (gh w k).1 {s with toks:=n}):wpAny (model prog w) A (pyHash v) Q E s:=by
 have hv':=(GR.tup ht).1 hv
 have hT:=hv'.typeIs
 obtain ⟨a,o,its,n,rfl,ho,hc,hd,hl⟩:=hv'
 refine PySem.W.pyHash_slot (T:="tuple") hT F.slot_tuple_hash F.entry_tuple_hash (F.args_tuple_hash_1 _) (beq_builtin_none _) (.inr (by omega)) ?_
 show wpAny _ A.in1 (Builtin.Tuple.tupleItemsOf _ >>= _) _ E s
 refine wpAny_bind (wpAny_tupleItemsOf ho hd (wpAny_bind ?_))
 rw [← Array.forIn_toList]
 refine lp its.toList _ s #[] _ hl (by simp only [Around.in1_units];omega) fun m b' hb=>?_
 have e:b'.toList=(gh w k).2:=by rw [hb];rfl
 show wpAny _ _ (retInt (Builtin.Tuple.tupleHashOf b'.toList)) _ _ _
 rw [e]
 exact wpAny_bind (wpAny_mkInt (wpAny_pure ⟨_,_,rfl,hs▸hq _⟩))
theorem JU:∀k:GK,(∀(v:Value) (A:Around) (s:Shared) (Q:Int→Shared→Prop),(GR s.heap k).1 v→A.units+gd k<cLine→(∀n,Q (gh w k).1 {s with toks:=n})→wpAny (model prog w) A (pyHash v) Q E s)∧JV prog w E k
 |.i n=>⟨fun v A s Q p _ q=>by obtain ⟨t,rfl⟩:=p;exact wpAny_pyHash_int (q _),fun _ _ _ _ _ p=>p.elim⟩
 |.s z=>⟨fun v A s Q p _ q=>by obtain ⟨t,rfl⟩:=p;exact wpAny_pyHash_str (q _),fun _ _ _ _ _ p=>p.elim⟩
 |.nil=>by
  have lp:JV prog w E .nil:=fun l A s b Q p _ q=>by
   cases p
   exact wpAny_pure (q s.toks b (by simp [gh]))
  exact ⟨fun v A s Q p hu q=>b0 rfl (by simp only [gh]) lp p hu q,lp⟩
 |.cons x y=>by
  have lp:JV prog w E (.cons x y):=fun l A s b Q p hu q=>by
   obtain ⟨u,us,rfl,p1,p2⟩:=p
   simp only [gd] at hu
   rw [List.forIn_cons]
   refine wpAny_bind (wpAny_bind ((JU x).1 u A s _ p1 (by omega) fun m=>wpAny_pure ?_))
   exact (JU y).2 us A _ _ Q p2 (by omega) fun m' b' hb=>q m' b' (by simp [hb,gh])
  exact ⟨fun v A s Q p hu q=>b0 rfl (by simp only [gh]) lp p hu q,lp⟩
end
section
variable {s:Shared}
theorem fR (n:Nat) (e:Nat→Bool):(List.range (n+1)).all e=(e 0&&(List.range n).all fun j=>e (j+1)):=by
 rw [List.range_succ_eq_map,List.all_cons,List.all_map]
 rfl
abbrev J4 (s:Shared) (x y:GK):Prop :=
 ∀(A:Around) (l m:List Value),(GR s.heap x).2 l→(GR s.heap y).2 m→A.units+gd x≤cLine→∃e:Nat→Bool,(∀j (h1:j<l.length) (h2:j<m.length),SeqAt.EqAt A s l[j] m[j] (e j))∧((List.range (min l.length m.length)).all e&&l.length == m.length)=decide (x=y)
theorem JZ {x y:GK} (hx:QJ x=true) (hy:QJ y=true) (lp:J4 s x y) {v u:Value} {A:Around} (p:(GR s.heap x).1 v) (q:(GR s.heap y).1 u) (hu:A.units+gd x<cLine):SeqAt.EqAt A s v u (decide (x=y)):=by
 obtain ⟨a,o,its,n,rfl,ho,hc,hd,hl⟩:=(GR.tup hx).1 p
 obtain ⟨a',o',its',n',rfl,ho',hc',hd',hl'⟩:=(GR.tup hy).1 q
 by_cases ea:a=a'
 ·subst ea
  rw [decide_eq_true ((GR.inj x y).1 _ p q)]
  exact SeqAt.EqAt.same _
 ·obtain ⟨e,he,hr⟩:=lp A.in1 _ _ hl hl' (by simp only [Around.in1_units];omega)
  have r:=SeqAt.RcAt.tuples (A:=A) (s:=s) (e:=e) (items:=its) (items2:=its') ⟨o,ho,hc,n,hd⟩ ⟨o',ho',hc',n',hd'⟩ (by omega) (fun j h1 h2=>by have:=he j (by simpa using h1) (by simpa using h2);rwa [Array.getElem_toList,Array.getElem_toList] at this)
  rw [Array.length_toList,Array.length_toList] at hr
  rw [hr] at r
  exact SeqAt.EqAt.of_refs ea r
theorem ZF:∀x y:GK,(∀(A:Around) (v u:Value),(GR s.heap x).1 v→(GR s.heap y).1 u→A.units+gd x<cLine→SeqAt.EqAt A s v u (decide (x=y)))∧J4 s x y:=by
 intro x
 induction x with
 |i n =>
  intro y
  refine ⟨fun A v u p q hu=>?_,fun _ _ _ p=>p.elim⟩
  obtain ⟨t,rfl⟩:=p
  cases y with
  |i m=>obtain ⟨t',rfl⟩:=q;rw [show decide (GK.i n=GK.i m)=(n == m) by by_cases e:n=m<;>simp [e]];exact SeqAt.EqAt.int_int n t m t'
  |s z=>obtain ⟨t',rfl⟩:=q;exact SeqAt.EqAt.int_str _ _ _ _
  |nil=>obtain ⟨a,o,its,n,rfl,ho,hc,hd,_⟩:=(GR.tup rfl).1 q;exact SeqAt.EqAt.int_tuple _ _ ⟨o,ho,hc,_,hd⟩ (by omega)
  |cons a b=>obtain ⟨a,o,its,n,rfl,ho,hc,hd,_⟩:=(GR.tup rfl).1 q;exact SeqAt.EqAt.int_tuple _ _ ⟨o,ho,hc,_,hd⟩ (by omega)
 |s n =>
  intro y
  refine ⟨fun A v u p q hu=>?_,fun _ _ _ p=>p.elim⟩
  obtain ⟨t,rfl⟩:=p
  cases y with
  |i m=>obtain ⟨t',rfl⟩:=q;exact SeqAt.EqAt.str_int _ _ _ _
  |s z=>obtain ⟨t',rfl⟩:=q;rw [show decide (GK.s n=GK.s z)=(n == z) by by_cases e:n=z<;>simp [e]];exact SeqAt.EqAt.str_str n t z t'
  |nil=>obtain ⟨a,o,its,n,rfl,ho,hc,hd,_⟩:=(GR.tup rfl).1 q;exact SeqAt.EqAt.str_tuple _ _ ⟨o,ho,hc,_,hd⟩ (by omega)
  |cons a b=>obtain ⟨a,o,its,n,rfl,ho,hc,hd,_⟩:=(GR.tup rfl).1 q;exact SeqAt.EqAt.str_tuple _ _ ⟨o,ho,hc,_,hd⟩ (by omega)
 |nil =>
  intro y
  have lp:J4 s .nil y:=by
   intro A l m p q _
   cases p
   cases y with
   |i m=>exact q.elim
   |s m=>exact q.elim
   |nil=>cases q;exact ⟨fun _=>true,fun j h1=>absurd h1 (Nat.not_lt_zero j),rfl⟩
   |cons a b=>obtain ⟨u,us,rfl,_⟩:=q;exact ⟨fun _=>true,fun j h1=>absurd h1 (Nat.not_lt_zero j),by simp⟩
  refine ⟨fun A v u p q hu=>?_,lp⟩
  cases y with
  |i m=>obtain ⟨t',rfl⟩:=q;obtain ⟨a,o,its,n,rfl,ho,hc,hd,_⟩:=(GR.tup rfl).1 p;exact SeqAt.EqAt.tuple_int _ _ ⟨o,ho,hc,_,hd⟩ (by omega)
  |s m=>obtain ⟨t',rfl⟩:=q;obtain ⟨a,o,its,n,rfl,ho,hc,hd,_⟩:=(GR.tup rfl).1 p;exact SeqAt.EqAt.tuple_str _ _ ⟨o,ho,hc,_,hd⟩ (by omega)
  |nil=>exact JZ rfl rfl lp p q hu
  |cons a b=>exact JZ rfl rfl lp p q hu
 |cons x1 x2 ih1 ih2 =>
  intro y
  have lp:J4 s (.cons x1 x2) y:=by
   intro A l m p q hu
   simp only [gd] at hu
   obtain ⟨u,us,rfl,p1,p2⟩:=p
   cases y with
   |i m=>exact q.elim
   |s m=>exact q.elim
   |nil=>cases q;exact ⟨fun _=>true,fun j _ h1=>absurd h1 (Nat.not_lt_zero j),by simp⟩
   |cons a b =>
    obtain ⟨u',us',rfl,q1,q2⟩:=q
    obtain ⟨e,he,hr⟩:=(ih2 b).2 A us us' p2 q2 (by omega)
    have h0:=(ih1 a).1 A u u' p1 q1 (by omega)
    refine ⟨fun j=>match j with|0=>decide (x1=a)|j+1=>e j,fun j h1 h2=>?_,?_⟩
    ·cases j with
     |zero=>exact h0
     |succ j=>exact he j (by simpa using h1) (by simpa using h2)
    ·rw [List.length_cons,List.length_cons,Nat.succ_min_succ,fR,Bool.and_assoc]
     have e2:(us.length+1 == us'.length+1)=(us.length == us'.length):=by by_cases e:us.length=us'.length<;>simp [e]
     rw [e2,hr]
     by_cases e1:x1=a<;>by_cases e3:x2=b<;>simp [e1,e3]
  refine ⟨fun A v u p q hu=>?_,lp⟩
  cases y with
  |i m=>obtain ⟨t',rfl⟩:=q;obtain ⟨a,o,its,n,rfl,ho,hc,hd,_⟩:=(GR.tup rfl).1 p;exact SeqAt.EqAt.tuple_int _ _ ⟨o,ho,hc,_,hd⟩ (by omega)
  |s m=>obtain ⟨t',rfl⟩:=q;obtain ⟨a,o,its,n,rfl,ho,hc,hd,_⟩:=(GR.tup rfl).1 p;exact SeqAt.EqAt.tuple_str _ _ ⟨o,ho,hc,_,hd⟩ (by omega)
  |nil=>exact JZ rfl rfl lp p q hu
  |cons a b=>exact JZ rfl rfl lp p q hu
end
end L2
namespace L2
open PySem PySem.Spec PyProof.Rows
section
variable {prog:Program} {w:World} {E:Value→Shared→Prop} {s:Shared}
abbrev qT (prog:Program) (w:World) (E:Value→Shared→Prop) (s:Shared) (m:Nat) (v:Value):Prop :=
 ∀(A:Around) (Q:Bool→Shared→Prop),Q true s→wpAny (model prog w) A (eqIsQuiet m v) Q E s
theorem Z9 {v:Value} {P:List Value→Prop} {m:Nat} (x:TupOf s.heap v P) (hp:∀l,P l→∀y∈l,qT prog w E s m y):qT prog w E s (m+1) v:=by
 intro A Q q
 have hT:=x.typeIs
 obtain ⟨a,o,its,n,rfl,ho,hc,hd,hl⟩:=x
 unfold eqIsQuiet
 refine wpAny_bind (wpAny_specialOf hT F.slot_tuple_eq.lookup ?_)
 show wpAny _ A (isInstance _ (.type "tuple") >>= _) _ E s
 refine wpAny_bind (wpAny_isInstance hT isSubtype_tuple_tuple ?_)
 rw [if_neg (by decide)]
 refine wpAny_bind (wpAny_seqItems ho hd (wpAny_bind ?_))
 show wpAny _ A (forIn its _ _) _ E s
 rw [← Array.forIn_toList]
 refine wpAny_forIn_list _ (fun left r s1=>r.1=none∧s1=s∧∀y∈left,qT prog w E s m y) _ ?_ ?_ _ _ ⟨rfl,rfl,hp _ hl⟩
 ·rintro y left r s1 ⟨hr,rfl,hall⟩
  refine wpAny_bind (hall y List.mem_cons_self A _ ?_)
  rw [if_neg (by decide)]
  exact wpAny_pure ⟨rfl,rfl,fun z hz=>hall z (List.mem_cons_of_mem y hz)⟩
 ·rintro ⟨r1,r2⟩ s1 ⟨hr,rfl,_⟩
  cases hr
  exact wpAny_pure q
theorem JN:∀(k:GK) (m:Nat),gd k≤m→(∀v,(GR s.heap k).1 v→qT prog w E s m v)∧(∀l,(GR s.heap k).2 l→∀y∈l,qT prog w E s (m - 1) y)
 |.i n,m,_=>⟨fun v p A Q q=>by obtain ⟨t,rfl⟩:=p;rw [eqIsQuiet_byValue m rfl];exact wpAny_pure q,fun _ p=>p.elim⟩
 |.s n,m,_=>⟨fun v p A Q q=>by obtain ⟨t,rfl⟩:=p;rw [eqIsQuiet_byValue m rfl];exact wpAny_pure q,fun _ p=>p.elim⟩
 |.nil,m,hm=>by
  have lp:∀l,(GR s.heap .nil).2 l→∀y∈l,qT prog w E s (m - 1) y:=fun l p y hy=>by cases p;cases hy
  refine ⟨fun v p=>?_,lp⟩
  obtain ⟨m',rfl⟩:∃m',m=m'+1:=⟨m - 1,by simp only [gd] at hm;omega⟩
  exact Z9 ((GR.tup rfl).1 p) lp
 |.cons x y,m,hm=>by
  have hm':=hm
  simp only [gd] at hm'
  have lp:∀l,(GR s.heap (.cons x y)).2 l→∀z∈l,qT prog w E s (m - 1) z:=by
   rintro l ⟨u,us,rfl,p1,p2⟩ z hz
   rcases List.mem_cons.mp hz with rfl|hz
   ·exact (JN x (m - 1) (by omega)).1 _ p1
   ·exact (JN y m (by omega)).2 us p2 z hz
  refine ⟨fun v p=>?_,lp⟩
  obtain ⟨m',rfl⟩:∃m',m=m'+1:=⟨m - 1,by omega⟩
  exact Z9 ((GR.tup rfl).1 p) lp
abbrev jX:=GK×Value×Value
def qZ (w:World) (x:jX):DictEntry:=⟨(gh w x.1).1,x.2.1,x.2.2⟩
structure KEnt (w:World) (h:Heap) (es:Array DictEntry) (xs:List jX):Prop where
 es:es.toList=xs.map (qZ w)
 is:∀x∈xs,(GR h x.1).1 x.2.1
 deep:∀x∈xs,gd x.1≤8
 once:(xs.map (·.1)).Nodup
theorem KEnt.at {h:Heap} {es:Array DictEntry} {xs:List jX} (x:KEnt w h es xs) (j:Nat):es[j]?=(xs[j]?).map (qZ w):=by
 rw [← Array.getElem?_toList,x.es,List.getElem?_map]
theorem lW {xs:List jX} (hn:(xs.map (·.1)).Nodup) {i j:Nat} {k:GK} {p q:Value×Value} (hi:xs[i]?=some (k,p)) (hj:xs[j]?=some (k,q)):i=j:=by
 have a:(xs.map (·.1))[i]?=some k:=by rw [List.getElem?_map,hi];rfl
 have b:(xs.map (·.1))[j]?=some k:=by rw [List.getElem?_map,hj];rfl
 exact (List.getElem?_inj (List.getElem?_eq_some_iff.mp a).1 hn).mp (a.trans b.symm)
def yE (xs:List jX) (k:GK):Option Nat→Prop
 |none=>∀(j:Nat) (p:Value×Value),xs[j]?≠some (k,p)
 |some j=>∃p,xs[j]?=some (k,p)
theorem gD {A:Around} {key:Value} {st:List Value} {Q:Bool→Shared→Prop} (hk:qT prog w E s 8 key) (hs:∀v∈st,qT prog w E s 8 v) (q:Q false s):wpAny (model prog w) A (tableMayTell key st) Q E s:=by
 unfold tableMayTell
 by_cases he:st.isEmpty=true
 ·rw [if_pos he];exact wpAny_pure q
 ·rw [if_neg he]
  refine wpAny_bind (hk A _ ?_)
  rw [if_neg (by decide)]
  refine wpAny_bind (wpAny_forIn_list _ (fun left r s1=>s1=s∧r=(none,())∧∀v∈left,qT prog w E s 8 v) _ ?_ ?_ _ _ ⟨rfl,rfl,hs⟩)
  ·rintro v left r s1 ⟨rfl,rfl,hl⟩
   refine wpAny_bind (hl v List.mem_cons_self A _ ?_)
   rw [if_neg (by decide)]
   exact wpAny_pure ⟨rfl,rfl,fun z hz=>hl z (List.mem_cons_of_mem v hz)⟩
  ·rintro r s1 ⟨rfl,rfl,_⟩
   exact wpAny_pure q
theorem gH {A:Around} {d:Addr} {o:Obj} {es:Array DictEntry} {ep:Nat} {xs:List jX} {k:GK} {key:Value} {pl:List Nat} {Q:Option Nat→Shared→Prop} (hu:∀x∈xs,A.units+gd x.1<cLine) (hkey:(GR s.heap k).1 key)
  (ho:s.heap.get? d=some o) (hd:o.data=.dict es ep) (he:KEnt w s.heap es xs) (hpl:∀j p,xs[j]?=some (k,p)→j∈pl) (q:∀r,yE xs k r→Q r s) :
  wpAny (model prog w) A (dictWalkPlain d key (gh w k).1 es pl) Q E s:=by
 unfold dictWalkPlain
 refine wpAny_bind (wpAny_forIn_list _ (fun left r s1=>s1=s∧r=(none,())∧∀j p,xs[j]?=some (k,p)→j∈left) _ ?_ ?_ _ _ ⟨rfl,rfl,hpl⟩)
 ·rintro x left r s1 ⟨rfl,rfl,hl⟩
  have next:(∀p,xs[x]?≠some (k,p))→∀j p,xs[j]?=some (k,p)→j∈left:=fun hno j p hj=>by
   rcases List.mem_cons.mp (hl j p hj) with rfl|h
   ·exact absurd hj (hno p)
   ·exact h
  rw [he.at x]
  cases hx:xs[x]? with
  |none=>exact wpAny_pure ⟨rfl,rfl,next fun p h=>by rw [hx] at h;cases h⟩
  |some y =>
   obtain ⟨k',v',u'⟩:=y
   have hm:=List.mem_of_getElem? hx
   show wpAny _ A (if ((gh w k').1 == (gh w k).1)=true then _ else _) _ E _
   by_cases hh:((gh w k').1 == (gh w k).1)=true
   ·rw [if_pos hh]
    refine wpAny_bind (wpAny_dictEpoch ho hd (wpAny_bind ((ZF k' k).1 A v' key (he.is _ hm) hkey (hu _ hm) prog w E _ (wpAny_bind (wpAny_dictEpoch ho hd ?_)))))
    rw [if_neg (by simp)]
    by_cases hkk:k'=k
    ·rw [decide_eq_true hkk,if_pos rfl]
     exact wpAny_bind (wpAny_rule (wpAny_pure (wpAny_pure (q _ ⟨_,hkk▸hx⟩))))
    ·rw [decide_eq_false hkk,if_neg (by decide)]
     exact wpAny_bind (wpAny_rule (wpAny_pure ⟨rfl,rfl,next fun p h=>by rw [hx] at h;injection h with h;injection h with h _;exact hkk h⟩))
   ·rw [if_neg hh]
    exact wpAny_pure ⟨rfl,rfl,next fun p h=>by rw [hx] at h;injection h with h;injection h with h _;rw [h] at hh;simp at hh⟩
 ·rintro r s1 ⟨rfl,rfl,hl⟩
  exact wpAny_pure (q none (show yE xs k none from fun j p h=>nomatch hl j p h))
theorem gM {es:Array DictEntry} {h:Int} {j:Nat}:j∈placesWithHash es.size (fun i=>es[i]?.map (·.hash)) h↔j<es.size∧(es[j]?.map (·.hash) == some h)=true:=by
 unfold placesWithHash
 rw [List.mem_filter,List.mem_range]
theorem cB {A:Around} {d:Addr} {o:Obj} {es:Array DictEntry} {ep:Nat} {xs:List jX} {k:GK} {key:Value} {Q:Option Nat→Shared→Prop} (hu:A.units+8<cLine) (hkey:(GR s.heap k).1 key) (hk8:gd k≤8)
    (ho:s.heap.get? d=some o) (hd:o.data=.dict es ep) (he:KEnt w s.heap es xs) (q:∀r,yE xs k r→Q r s) :
    wpAny (model prog w) A (dictFind d key (gh w k).1) Q E s:=by
  have hu':∀x∈xs,A.units+gd x.1<cLine:=fun x hx=>by have:=he.deep x hx;omega
  have hsz:es.size=xs.length:=by rw [← Array.length_toList,he.es,List.length_map]
  have hpl:∀j p,xs[j]?=some (k,p)→j∈placesWithHash es.size (fun i=>es[i]?.map (·.hash)) (gh w k).1:=fun j p hj=>by
    rw [gM,he.at j,hj]
    refine ⟨?_,by simp [qZ]⟩
    rw [hsz]
    exact (List.getElem?_eq_some_iff.mp hj).1
  have hof:∀e∈es,∃x∈xs,e=qZ w x:=fun e hin=>by
    have:e∈xs.map (qZ w):=he.es▸Array.mem_toList_iff.mpr hin
    obtain ⟨x,hx,rfl⟩:=List.mem_map.mp this
    exact ⟨x,hx,rfl⟩
  have plain:wpAny (model prog w) A (dictWalkPlain d key (gh w k).1 es (placesWithHash es.size (fun i=>es[i]?.map (·.hash)) (gh w k).1)) Q E s:=gH hu' hkey ho hd he hpl q
  have hst:∀v∈(placesWithHash es.size (fun i=>es[i]?.map (·.hash)) (gh w k).1).filterMap (fun i=>es[i]?.map (·.key)),qT prog w E s 8 v:=fun v hv=>by
    obtain ⟨i,_,hi⟩:=List.mem_filterMap.mp hv
    obtain ⟨e,h1,h2⟩:=Option.map_eq_some_iff.mp hi
    obtain ⟨x,hx,rfl⟩:=hof e (Array.mem_of_getElem? h1)
    subst h2
    exact (JN x.1 8 (he.deep x hx)).1 _ (he.is x hx)
  have hchg:∀a,key=.ref a→¬(es.any fun e=>e.key == key&&e.hash != (gh w k).1)=true:=fun a ha hany=>by
    rw [← Array.any_toList,List.any_eq_true] at hany
    obtain ⟨e,hin,hc⟩:=hany
    obtain ⟨x,hx,rfl⟩:=hof e (Array.mem_toList_iff.mp hin)
    rw [Bool.and_eq_true] at hc
    have e1:x.2.1=key:=eq_of_beq hc.1
    have e2:=(GR.inj x.1 k).1 key (e1▸he.is x hx) hkey
    have:=hc.2
    simp [qZ,e2] at this
  have hkey':=hkey
  have hkind:(∃n t,key=.int n t)∨(∃z t,key=.str z t∧k=.s z)∨∃a,key=.ref a:=by
    cases k with
    |i n=>exact .inl ⟨n,hkey⟩
    |s z=>obtain ⟨t,rfl⟩:=hkey;exact .inr (.inl ⟨z,t,rfl,rfl⟩)
    |nil=>obtain ⟨a,o,its,n,e,_⟩:=(GR.tup rfl).1 hkey;exact .inr (.inr ⟨a,e⟩)
    |cons x y=>obtain ⟨a,o,its,n,e,_⟩:=(GR.tup rfl).1 hkey;exact .inr (.inr ⟨a,e⟩)
  have hnd:(placesWithHash es.size (fun i=>es[i]?.map (·.hash)) (gh w k).1).Nodup:=by
    unfold placesWithHash
    exact List.Pairwise.filter _ List.nodup_range
  have hquiet:qT prog w E s 8 key:=(JN k 8 hk8).1 key hkey
  have texts:∀z t,key=.str z t→k=.s z→(es.all fun e=>isExactStrKey e.key)=true→Q (es.findIdx? fun e=>e.key.isStr z) s:=by
    rintro z t rfl rfl _
    cases hf:es.findIdx? fun e=>e.key.isStr z with
    |none =>
      refine q none (show yE xs (.s z) none from fun j p hj=>?_)
      obtain ⟨u,hu⟩:∃u,p.1=.str z u:=he.is _ (List.mem_of_getElem? hj)
      have e2:es[j]?=some (qZ w (.s z,p)):=by rw [he.at j,hj];rfl
      have:=Array.findIdx?_eq_none_iff.mp hf _ (Array.mem_of_getElem? e2)
      simp [qZ,hu,Value.isStr] at this
    |some j =>
      obtain ⟨hlt,hj,_⟩:=Array.findIdx?_eq_some_iff_getElem.mp hf
      refine q (some j) ?_
      obtain ⟨u,hu⟩:=KTD.kt_isStr hj
      have e2:=he.at j
      rw [Array.getElem?_eq_getElem hlt] at e2
      cases hx:xs[j]? with
      |none=>rw [hx] at e2;cases e2
      |some x =>
        rw [hx] at e2
        injection e2 with e2
        have hx1:=he.is x (List.mem_of_getElem? hx)
        have e3:x.2.1=.str z u:=by rw [← hu,e2];rfl
        have e4:=(GR.inj x.1 (.s z)).1 x.2.1 hx1 ⟨u,e3⟩
        exact ⟨x.2,by rw [hx,← e4]⟩
  by_cases htx:(∃z t,key=.str z t∧k=.s z)∧(es.all fun e=>isExactStrKey e.key)=true
  · obtain ⟨⟨z,t,rfl,rfl⟩,hall⟩:=htx
    exact KTD.kt_dictFind_strs ho hd hall (texts z t rfl rfl hall)
  unfold dictFind
  refine wpAny_holding (wpAny_bind (wpAny_dictEntries ho hd ?_))
  generalize hpl0:placesWithHash es.size (fun i=>es[i]?.map (·.hash)) (gh w k).1=pl at *
  rcases hkind with ⟨n,t,rfl⟩|⟨z,t,rfl,hz⟩|⟨a,rfl⟩<;>dsimp only
  case' inr.inl=>rw [if_neg fun hall=>htx ⟨⟨z,t,rfl,hz⟩,hall⟩]
  all_goals refine wpAny_ite_split (fun _=>plain) fun _=>?_
  case' inr.inr=>rw [if_neg (hchg a rfl)]
  all_goals refine wpAny_ite_split (fun _=>wpAny_bind (wpAny_pure ?_)) fun _=>wpAny_bind (gD hquiet hst ?_)
  all_goals
    rw [if_neg (by simp)]
    refine wpAny_bind (wpAny_forIn_list _ (fun left b s1=>s1=s∧left.Nodup∧∃hit,b=(none,hit)∧
      ((hit=none∧∀j p,xs[j]?=some (k,p)→j∈left)∨∃j p,hit=some j∧xs[j]?=some (k,p)∧j∉left)) _ ?_ ?_ _ _ ⟨rfl,hnd,none,rfl,.inl ⟨rfl,hpl⟩⟩)
    · rintro x left b s1 ⟨rfl,hno,hit,rfl,hH⟩
      rw [List.nodup_cons] at hno
      rw [he.at x]
      cases hx:xs[x]? with
      |none =>
        refine wpAny_pure ⟨rfl,hno.2,hit,rfl,?_⟩
        rcases hH with ⟨h0,hl⟩|⟨j,p,h1,h2,h3⟩
        · refine .inl ⟨h0,fun j p hj=>?_⟩
          rcases List.mem_cons.mp (hl j p hj) with rfl|h
          · rw [hx] at hj;cases hj
          · exact h
        · exact .inr ⟨j,p,h1,h2,fun h=>h3 (List.mem_cons_of_mem x h)⟩
      |some y =>
        obtain ⟨k',v',u'⟩:=y
        have hm:=List.mem_of_getElem? hx
        have other:k'≠k→(hit=none∧∀j p,xs[j]?=some (k,p)→j∈left)∨∃j p,hit=some j∧xs[j]?=some (k,p)∧j∉left:=fun hne=>by
          rcases hH with ⟨h0,hl⟩|⟨j,p,h1,h2,h3⟩
          · refine .inl ⟨h0,fun j p hj=>?_⟩
            rcases List.mem_cons.mp (hl j p hj) with rfl|h
            · rw [hx] at hj;injection hj with hj;injection hj with hj _;exact absurd hj hne
            · exact h
          · exact .inr ⟨j,p,h1,h2,fun h=>h3 (List.mem_cons_of_mem x h)⟩
        show wpAny _ A (if ((gh w k').1 == (gh w k).1)=true then _ else _) _ E _
        refine wpAny_ite_split (fun hh=>?_) fun hh=>wpAny_pure ⟨rfl,hno.2,hit,rfl,other fun e=>hh (by rw [e];exact beq_self_eq_true _)⟩
        refine wpAny_bind (wpAny_dictEpoch ho hd (wpAny_bind ((ZF k' k).1 A v' _ (he.is _ hm) hkey' (hu' _ hm) prog w E _ (wpAny_bind (wpAny_dictEpoch ho hd ?_)))))
        rw [if_neg (by simp)]
        by_cases hkk:k'=k
        · rw [decide_eq_true hkk,if_pos rfl]
          subst hkk
          rcases hH with ⟨rfl,hl⟩|⟨j,p,rfl,h2,h3⟩
          · rw [if_neg (by simp)]
            refine wpAny_bind (wpAny_rule (wpAny_ite_split (fun _=>wpAny_pure (wpAny_pure (q (some x) ⟨_,hx⟩))) fun _=>wpAny_pure ⟨rfl,hno.2,some x,rfl,.inr ⟨x,_,rfl,hx,hno.1⟩⟩))
          · exact absurd (lW he.once h2 hx▸List.mem_cons_self) h3
        · rw [decide_eq_false hkk,if_neg (by decide)]
          refine wpAny_bind (wpAny_rule ?_)
          rw [if_neg (by simp)]
          exact wpAny_pure ⟨rfl,hno.2,hit,rfl,other hkk⟩
    · rintro b s1 ⟨rfl,_,hit,rfl,hH⟩
      rcases hH with ⟨rfl,hl⟩|⟨j,p,rfl,h2,_⟩
      · exact wpAny_pure (q none (show yE xs _ none from fun j p h=>nomatch hl j p h))
      · exact wpAny_pure (q (some j) ⟨p,h2⟩)
end
end L2
namespace L2
open PySem PySem.Spec PyProof.Rows
section
variable {prog:Program} {w:World} {A:Around} {E:Value→Shared→Prop} {s:Shared}
def DictG (w:World) (h:Heap) (d:Addr) (xs:List jX):Prop:=∃o es ep,h.get? d=some o∧o.ExactDict∧o.data=.dict es ep∧KEnt w h es xs
theorem DictG.typeIs {d:Addr} {xs:List jX} (x:DictG w s.heap d xs):s.TypeIs (.ref d) "dict":=let ⟨o,_,_,ho,hc,_⟩:=x;⟨o,ho,hc.1⟩
def qG (xs:List jX) (k:GK):Option Value:=(xs.find? fun x=>decide (x.1=k)).map (·.2.2)
def vZ (xs:List jX) (k:GK) (key v:Value):List jX:=if (xs.any fun x=>decide (x.1=k)) then xs.map (fun x=>if x.1=k then (x.1,x.2.1,v) else x) else xs++[(k,key,v)]
theorem bF {k:GK}:∀{xs:List jX} (_:(xs.map (·.1)).Nodup) {j:Nat} {p:Value×Value} (_:xs[j]?=some (k,p)),qG xs k=some p.2
 |[],_,j,p,h=>by cases j<;>cases h
 |x::xs,hn,0,p,h=>by cases h;simp [qG]
 |x::xs,hn,j+1,p,h=>by
  rw [List.map_cons,List.nodup_cons] at hn
  have h':xs[j]?=some (k,p):=h
  have hne:¬x.1=k:=fun e=>hn.1 (e▸List.mem_map.mpr ⟨_,List.mem_of_getElem? h',rfl⟩)
  have:=bF hn.2 h'
  simpa [qG,List.find?_cons,hne] using this
theorem lE {xs:List jX} {k:GK} (h:yE xs k none):(xs.any fun x=>decide (x.1=k))=false:=by
 rw [Bool.eq_false_iff]
 intro hx
 rw [List.any_eq_true] at hx
 obtain ⟨x,hm,hk⟩:=hx
 obtain ⟨j,hj⟩:=List.mem_iff_getElem?.mp hm
 exact h j x.2 (by rw [hj,← of_decide_eq_true hk])
theorem iG {xs:List jX} {k:GK} (h:yE xs k none):qG xs k=none:=by
 have:xs.find? (fun x=>decide (x.1=k))=none:=by
  rw [List.find?_eq_none]
  intro x hm hk
  obtain ⟨j,hj⟩:=List.mem_iff_getElem?.mp hm
  exact h j x.2 (by rw [hj,← of_decide_eq_true hk])
 rw [qG,this]
 rfl
theorem cX {d:Addr} {xs:List jX} {k:GK} {key:Value} {Q:Option Value→Shared→Prop} (hu:A.units+8<cLine) (hkey:(GR s.heap k).1 key) (hk8:gd k≤8) (hm:DictG w s.heap d xs)
  (q:∀n,Q (qG xs k) {s with toks:=n}):wpAny (model prog w) A (dictGet d key) Q E s:=by
 obtain ⟨o,es,ep,ho,hc,hd,he⟩:=hm
 unfold dictGet
 refine wpAny_holding (wpAny_bind ((JU k).1 key A s _ hkey (by omega) fun n=>wpAny_bind (cB (s:={s with toks:=n}) hu hkey hk8 ho hd he fun r hr=>?_)))
 cases r with
 |none=>rw [← iG hr];exact wpAny_pure (q n)
 |some j =>
  obtain ⟨p,hj⟩:=hr
  refine wpAny_bind (wpAny_dictEntries (s:={s with toks:=n}) ho hd ?_)
  rw [he.at j,hj]
  refine wpAny_pure ?_
  have:=q n
  rw [bF he.once hj] at this
  exact this
theorem ZV {h h':Heap} {d:Addr} {o:Obj} {es:Array DictEntry} {ep:Nat} (ho:h.get? d=some o) (hd:o.data=.dict es ep) (hs:Heap.SameBut d h h'):∀a o its n,h.get? a=some o→o.data=.seq its n→h'.get? a=some o:=by
 intro a o' its n ho' hd'
 have hne:a≠d:=by
  rintro rfl
  obtain rfl:o'=o:=Option.some.inj (ho'.symm.trans ho)
  rw [hd] at hd'
  cases hd'
 exact (hs.2 a hne).trans ho'
theorem g6 {xs:List jX} {k:GK} {v:Value}:(xs.map (fun x=>if x.1=k then (x.1,x.2.1,v) else x)).map (·.1)=xs.map (·.1):=by
 rw [List.map_map]
 refine List.map_congr_left fun x _=>?_
 show (if x.1=k then (x.1,x.2.1,v) else x).1=x.1
 split<;>rfl
theorem bB {k:GK} {v:Value}:∀{xs:List jX} (_:(xs.map (·.1)).Nodup) {j:Nat} {p:Value×Value} (_:xs[j]?=some (k,p)),
  (xs.map (qZ w)).modify j (fun e=>{e with val:=v})=(xs.map (fun x=>if x.1=k then (x.1,x.2.1,v) else x)).map (qZ w)
 |[],_,j,p,h=>by cases j<;>cases h
 |x::xs,hn,0,p,h=>by
  cases h
  rw [List.map_cons,List.nodup_cons] at hn
  have e:xs.map (fun x=>if x.1=k then (x.1,x.2.1,v) else x)=xs:=by
   refine (List.map_congr_left fun x hx=>?_).trans (List.map_id xs)
   have hne:¬x.1=k:=fun e=>hn.1 (List.mem_map.mpr ⟨x,hx,e⟩)
   show (if x.1=k then (x.1,x.2.1,v) else x)=x
   rw [if_neg hne]
  rw [List.map_cons,List.map_cons,e]
  simp [qZ]
 |x::xs,hn,j+1,p,h=>by
  rw [List.map_cons,List.nodup_cons] at hn
  have h':xs[j]?=some (k,p):=h
  have hne:¬x.1=k:=fun e=>hn.1 (e▸List.mem_map.mpr ⟨_,List.mem_of_getElem? h',rfl⟩)
  rw [List.map_cons,List.map_cons,if_neg hne,List.map_cons,← bB hn.2 h']
  rfl
theorem cR {d:Addr} {xs:List jX} {k:GK} {key v:Value} {Q:Unit→Shared→Prop} (hu:A.units+8<cLine) (hkey:(GR s.heap k).1 key) (hk8:gd k≤8) (hm:DictG w s.heap d xs) (hsz:xs.length≤sizeLine)
  (q:∀n h',DictG w h' d (vZ xs k key v)→Heap.SameBut d s.heap h'→Q () {s with heap:=h',toks:=n}):wpAny (model prog w) A (dictSet d key v) Q E s:=by
 obtain ⟨o,es,ep,ho,hc,hd,he⟩:=hm
 have hz:es.size=xs.length:=by rw [← Array.length_toList,he.es,List.length_map]
 unfold dictSet
 refine wpAny_holding (wpAny_bind ((JU k).1 key A s _ hkey (by omega) fun n=>?_))
 unfold dictSetHashed
 refine wpAny_holding (wpAny_bind (cB (s:={s with toks:=n}) hu hkey hk8 ho hd he fun r hr=>?_))
 cases r with
 |none =>
  have e0:vZ xs k key v=xs++[(k,key,v)]:=by rw [vZ,lE hr];rfl
  refine wpAny_bind (wpAny_rule (wpAny_updateDictKeys (hz:=by omega) (s:={s with toks:=n}) ho hd (q n _ ?_ (Heap.SameBut.update ..))))
  rw [e0]
  have kp:=ZV ho hd (Heap.SameBut.update (h:=s.heap) (a:=d) (f:=fun o=>o.mapDictKeys fun es=>es.push ⟨(gh w k).1,key,v⟩))
  refine ⟨_,_,ep+1,Heap.get?_update_self _ ho (Obj.isFreed_of_dict (Obj.data_mapDictKeys hd _)),hc.mapDictKeys _,Obj.data_mapDictKeys hd _,?_,?_,?_,?_⟩
  ·rw [Array.toList_push,he.es,List.map_append];rfl
  ·intro x hx
   rcases List.mem_append.mp hx with hx|hx
   ·exact (GR.keep kp x.1).1 _ (he.is x hx)
   ·cases List.mem_singleton.mp hx;exact (GR.keep kp k).1 _ hkey
  ·intro x hx
   rcases List.mem_append.mp hx with hx|hx
   ·exact he.deep x hx
   ·cases List.mem_singleton.mp hx;exact hk8
  ·rw [List.map_append,List.nodup_append]
   refine ⟨he.once,by simp,fun a ha b hb e=>?_⟩
   cases List.mem_singleton.mp hb
   obtain ⟨x,hx,rfl⟩:=List.mem_map.mp ha
   obtain ⟨j,hj⟩:=List.mem_iff_getElem?.mp hx
   have e':x.1=k:=e
   exact hr j x.2 (by rw [hj,← e'])
 |some j =>
  obtain ⟨p,hj⟩:=hr
  have e0:vZ xs k key v=xs.map (fun x=>if x.1=k then (x.1,x.2.1,v) else x):=by
   rw [vZ,if_pos]
   rw [List.any_eq_true]
   exact ⟨_,List.mem_of_getElem? hj,decide_eq_true rfl⟩
  refine wpAny_bind (wpAny_rule (wpAny_bind (wpAny_updateDict (s:={s with toks:=n}) ho hd (wpAny_point (q n _ ?_ (Heap.SameBut.update ..))))))
  rw [e0]
  have kp:=ZV ho hd (Heap.SameBut.update (h:=s.heap) (a:=d) (f:=fun o=>o.mapDict fun es=>es.modify j fun e=>{e with val:=v}))
  refine ⟨_,_,ep,Heap.get?_update_self _ ho (Obj.isFreed_of_dict (Obj.data_mapDict hd _)),hc.mapDict _,Obj.data_mapDict hd _,?_,?_,?_,?_⟩
  ·rw [← bB he.once hj,← he.es]
   simp
  ·intro x hx
   obtain ⟨y,hy,rfl⟩:=List.mem_map.mp hx
   have:=(GR.keep kp y.1).1 _ (he.is y hy)
   split<;>exact this
  ·intro x hx
   obtain ⟨y,hy,rfl⟩:=List.mem_map.mp hx
   have:=he.deep y hy
   split<;>exact this
  ·rw [g6];exact he.once
end
end L2
namespace L2
open PySem PySem.Spec PyProof.Rows
section
variable {prog:Program} {w:World} {A:Around} {E:Value→Shared→Prop} {s:Shared} {d:Addr} {xs:List jX} {k:GK} {key v:Value}
theorem i5 {Q:Value→Shared→Prop} (hu:A.units+9<cLine) (hkey:(GR s.heap k).1 key) (hk8:gd k≤8) (hm:DictG w s.heap d xs) (hv:qG xs k=some v) (q:∀n,Q v {s with toks:=n}) :
  wpAny (model prog w) A (getItem (.ref d) key) Q E s:=by
 have T:=hm.typeIs
 unfold getItem
 refine wpAny_holding (wpAny_bind (wpAny_sequenceKey T (by decide) (wpAny_bind (wpAny_callSpecial?_slot (name:=Str.ofString "__getitem__") T slot_dict_getitem (wpAny_call_entry slot_dict_getitem T entry_dict_getitem ?_ (args_dict_getitem _ _))))))
 show wpAny _ A.in1 (dictGet d key >>= _) _ E s
 refine wpAny_bind (cX (by simp only [Around.in1_units];omega) hkey hk8 hm fun n=>?_)
 rw [hv]
 exact wpAny_pure ⟨v,rfl,wpAny_pure (q n)⟩
theorem gZ {Q:Unit→Shared→Prop} (hu:A.units+9<cLine) (hkey:(GR s.heap k).1 key) (hk8:gd k≤8) (hm:DictG w s.heap d xs) (hsz:xs.length≤sizeLine)
  (q:∀n h',DictG w h' d (vZ xs k key v)→Heap.SameBut d s.heap h'→Q () {s with heap:=h',toks:=n}):wpAny (model prog w) A (setItem (.ref d) key v) Q E s:=by
 have T:=hm.typeIs
 unfold setItem
 refine wpAny_holding (wpAny_bind (wpAny_sequenceKey T (by decide) (wpAny_bind (wpAny_callSpecial?_slot (name:=Str.ofString "__setitem__") T slot_dict_setitem (wpAny_call_entry slot_dict_setitem T entry_dict_setitem ?_ (args_dict_setitem _ _ _))))))
 show wpAny _ A.in1 (Builtin.Dict.notOrdered "__setitem__" _ >>= _) _ E s
 refine wpAny_bind (wpAny_notOrdered_dict T ?_)
 show wpAny _ A.in1 (dictSet d key v >>= _) _ E s
 exact wpAny_bind (cR (by simp only [Around.in1_units];omega) hkey hk8 hm hsz fun n h' m sb=>wpAny_pure ⟨.none,rfl,wpAny_pure (q n h' m sb)⟩)
end
end L2
namespace L2
open PySem PySem.Spec PyProof.Rows
def GV (H:Hp):GK→(V→Prop)×(List V→Prop)
 |.i n=>(fun v=>v=.int n,fun _=>False)
 |.s x=>(fun v=>v=.str x,fun _=>False)
 |.nil=>(fun v=>∃a,v=.ref a∧H a=some (.tup []),fun l=>l=[])
 |.cons x y=>(fun v=>∃a l,v=.ref a∧H a=some (.tup l)∧∃u us,l=u::us∧(GV H x).1 u∧(GV H y).2 us,fun l=>∃u us,l=u::us∧(GV H x).1 u∧(GV H y).2 us)
theorem GV.keep {H H':Hp} (hk:∀a l,H a=some (.tup l)→H' a=some (.tup l)):∀k,(∀v,(GV H k).1 v→(GV H' k).1 v)∧(∀l,(GV H k).2 l→(GV H' k).2 l)
 |.i _=>⟨fun _ p=>p,fun _ p=>p⟩
 |.s _=>⟨fun _ p=>p,fun _ p=>p⟩
 |.nil=>⟨fun _ p=>by obtain ⟨a,e,q⟩:=p;exact ⟨a,e,hk _ _ q⟩,fun _ p=>p⟩
 |.cons x y=>by
  have c:∀l,(∃u us,l=u::us∧(GV H x).1 u∧(GV H y).2 us)→∃u us,l=u::us∧(GV H' x).1 u∧(GV H' y).2 us :=
   fun l ⟨u,us,e,p,q⟩=>⟨u,us,e,(GV.keep hk x).1 _ p,(GV.keep hk y).2 _ q⟩
  exact ⟨fun _ p=>by obtain ⟨a,l,e,q,r⟩:=p;exact ⟨a,l,e,hk _ _ q,c l r⟩,c⟩
section
variable {P:Program} {w:World} {H:Hp} {h:Heap}
theorem GV.rel (hok:HOk P w H h):∀k,(∀v u,(GV H k).1 v→RelV v u→(GR h k).1 u)∧(∀l us,(GV H k).2 l→Vals l us→(GR h k).2 us)
 |.i _=>⟨fun v u p r=>by cases p;exact r,fun _ _ p=>p.elim⟩
 |.s _=>⟨fun v u p r=>by cases p;exact r,fun _ _ p=>p.elim⟩
 |.nil=>by
  refine ⟨fun v u p r=>?_,fun l us p r=>by cases p;cases r;exact rfl⟩
  obtain ⟨a,rfl,q⟩:=p
  cases r
  obtain ⟨_,its,r2,o,ho,hc,n,hd⟩:=hok a _ q
  cases r2
  exact ⟨a,o,_,n,rfl,ho,hc,hd,rfl⟩
 |.cons x y=>by
  have c:∀l us,(∃u vs,l=u::vs∧(GV H x).1 u∧(GV H y).2 vs)→Vals l us→∃u vs,us=u::vs∧(GR h x).1 u∧(GR h y).2 vs:=by
   rintro l us ⟨u,vs,rfl,p1,p2⟩ r
   cases r with
   |cons r1 r2=>exact ⟨_,_,rfl,(GV.rel hok x).1 _ _ p1 r1,(GV.rel hok y).2 _ _ p2 r2⟩
  refine ⟨fun v u p r=>?_,c⟩
  obtain ⟨a,l,rfl,q,p'⟩:=p
  cases r
  obtain ⟨_,its,r2,o,ho,hc,n,hd⟩:=hok a _ q
  exact ⟨a,o,_,n,rfl,ho,hc,hd,c l its p' r2⟩
end
abbrev jR:=GK×V×V
def RelG (p:jR) (q:jX):Prop:=p.1=q.1∧RelV p.2.1 q.2.1∧RelV p.2.2 q.2.2
def GO (w:World) (d:Addr) (kvs:List jR):HO:=.ext fun h=>kvs.length≤sizeLine∧(d == sysModules)=false∧∃xs:List jX,Paired RelG kvs xs∧∃o es ep,h.get? d=some o∧o.ExactDict∧o.data=.dict es ep∧es.toList=xs.map (qZ w)
structure GOk (H:Hp) (kvs:List jR):Prop where
 key:∀p∈kvs,(GV H p.1).1 p.2.1
 deep:∀p∈kvs,gd p.1≤8
 once:(kvs.map (·.1)).Nodup
def jQ (kvs:List jR) (k:GK):Option V:=(kvs.find? fun x=>decide (x.1=k)).map (·.2.2)
def kA (kvs:List jR) (k:GK) (y v:V):List jR:=if (kvs.any fun x=>decide (x.1=k)) then kvs.map (fun x=>if x.1=k then (x.1,x.2.1,v) else x) else kvs++[(k,y,v)]
theorem RelG.keys:∀{kvs:List jR} {xs:List jX},Paired RelG kvs xs→kvs.map (·.1)=xs.map (·.1)
 |_,_,.nil=>rfl
 |_,_,.cons r t=>by rw [List.map_cons,List.map_cons,r.1,RelG.keys t]
theorem RelG.mem {q:jX}:∀{kvs:List jR} {xs:List jX},Paired RelG kvs xs→q∈xs→∃p∈kvs,RelG p q
 |_,_,.nil,h=>nomatch h
 |_,_,.cons r t,h=>by
  rcases List.mem_cons.mp h with rfl|h
  ·exact ⟨_,List.mem_cons_self,r⟩
  ·obtain ⟨p,hp,rp⟩:=RelG.mem t h
   exact ⟨p,List.mem_cons_of_mem _ hp,rp⟩
theorem RelG.get {k:GK} {v:V}:∀{kvs:List jR} {xs:List jX},Paired RelG kvs xs→jQ kvs k=some v→∃u,qG xs k=some u∧RelV v u
 |_,_,.nil,e=>by cases e
 |p::kvs,q::xs,.cons r t,e=>by
  by_cases h:p.1=k
  ·have h':q.1=k:=r.1▸h
   simp only [jQ,List.find?_cons,h,decide_true,Option.map_some,Option.some.injEq] at e
   exact ⟨q.2.2,by simp [qG,h'],e▸r.2.2⟩
  ·have h':¬q.1=k:=r.1▸h
   simp only [jQ,List.find?_cons,h,decide_false] at e
   obtain ⟨u,e1,e2⟩:=RelG.get t e
   exact ⟨u,by simpa [qG,List.find?_cons,h'] using e1,e2⟩
theorem RelG.none {k:GK}:∀{kvs:List jR} {xs:List jX},Paired RelG kvs xs→(qG xs k).isSome=(jQ kvs k).isSome
 |_,_,.nil=>rfl
 |p::kvs,q::xs,.cons r t=>by
  have ih:=RelG.none (k:=k) t
  by_cases h:p.1=k
  ·have h':q.1=k:=r.1▸h
   simp [qG,jQ,h,h']
  ·have h':¬q.1=k:=r.1▸h
   simpa [qG,jQ,List.find?_cons,h,h'] using ih
theorem RelG.any {k:GK}:∀{kvs:List jR} {xs:List jX},Paired RelG kvs xs→(xs.any fun x=>decide (x.1=k))=(kvs.any fun x=>decide (x.1=k))
 |_,_,.nil=>rfl
 |_,_,.cons r t=>by rw [List.any_cons,List.any_cons,RelG.any t,r.1]
theorem RelG.put {k:GK} {v:V} {u:Value} (rv:RelV v u):∀{kvs:List jR} {xs:List jX},Paired RelG kvs xs→
  Paired RelG (kvs.map (fun x=>if x.1=k then (x.1,x.2.1,v) else x)) (xs.map (fun x=>if x.1=k then (x.1,x.2.1,u) else x))
 |_,_,.nil=>.nil
 |p::kvs,q::xs,.cons r t=>by
  refine .cons ?_ (RelG.put rv t)
  by_cases h:p.1=k
  ·have h':q.1=k:=r.1▸h
   dsimp only;rw [if_pos h,if_pos h'];exact ⟨r.1,r.2.1,rv⟩
  ·have h':¬q.1=k:=r.1▸h
   dsimp only;rw [if_neg h,if_neg h'];exact r
theorem RelG.app:∀{kvs kvs':List jR} {xs xs':List jX},Paired RelG kvs xs→Paired RelG kvs' xs'→Paired RelG (kvs++kvs') (xs++xs')
 |_,_,_,_,.nil,t=>t
 |_,_,_,_,.cons r t,t'=>.cons r (RelG.app t t')
theorem RelG.set {k:GK} {y v:V} {key u:Value} (ry:RelV y key) (rv:RelV v u) {kvs:List jR} {xs:List jX} (r:Paired RelG kvs xs):Paired RelG (kA kvs k y v) (vZ xs k key u):=by
 unfold kA vZ
 rw [RelG.any r]
 split
 ·exact RelG.put rv r
 ·exact RelG.app r (.cons ⟨rfl,ry,rv⟩ .nil)
theorem JS (kvs:List jR) (k:GK) (y v:V):(kA kvs k y v).length≤kvs.length+1:=by
 unfold kA
 split
 ·rw [List.length_map];omega
 ·rw [List.length_append];exact Nat.le_refl _
section
variable {X:Cx} {pins:List (Addr×Obj)} {σ:St} {H:Hp} {s:Shared} {d:Addr} {k:GK} {y v:V} {u r:Value} {A:Around} {E:Value→Shared→Prop} {kvs:List jR}
theorem Inv.gdict (I:Inv X pins σ H s) (e:Rd H d (GO X.w d kvs)) (g:GOk H kvs):kvs.length≤sizeLine∧(d == sysModules)=false∧∃xs,Paired RelG kvs xs∧DictG X.w s.heap d xs:=by
 obtain ⟨⟨hl,hm,xs,rel,o,es,ep,ho,hc,hd,he⟩,_,_⟩:=e.ok I.hok
 refine ⟨hl,hm,xs,rel,o,es,ep,ho,hc,hd,he,?_,?_,by rw [← RelG.keys rel];exact g.once⟩
 ·intro q hq
  obtain ⟨p,hp,rp⟩:=RelG.mem rel hq
  exact rp.1▸(GV.rel I.hok p.1).1 _ _ (g.key p hp) rp.2.1
 ·intro q hq
  obtain ⟨p,hp,rp⟩:=RelG.mem rel hq
  exact rp.1▸g.deep p hp
theorem nN {Q:Value→Shared→Prop} (hu:A.units+9<cLine) (I:Inv X pins σ H s) (e:Rd H d (GO X.w d kvs)) (g:GOk H kvs) (hy:(GV H k).1 y) (h8:gd k≤8) (hv:jQ kvs k=some v) (ry:RelV y u)
  (h:∀w' s',Inv X pins σ H s'→RelV v w'→Q w' s'):wpAny (model X.prog X.w) A (getItem (.ref d) u) Q E s:=by
 obtain ⟨_,_,xs,rel,dd⟩:=I.gdict e g
 obtain ⟨w',hw,rw'⟩:=RelG.get rel hv
 exact i5 hu ((GV.rel I.hok k).1 y u hy ry) h8 dd hw fun n=>h w' _ (I.tok n) rw'
theorem mE {Q:Unit→Shared→Prop} (hu:A.units+9<cLine) (I:Inv X pins σ H s) (e:H d=some (GO X.w d kvs)) (g:GOk H kvs) (hy:(GV H k).1 y) (h8:gd k≤8) (hl:kvs.length<sizeLine) (ry:RelV y u) (rv:RelV v r)
  (h:∀s',Inv X pins σ (jB H d (GO X.w d (kA kvs k y v))) s'→Q () s'):wpAny (model X.prog X.w) A (setItem (.ref d) u r) Q E s:=by
 obtain ⟨_,hm,xs,rel,dd⟩:=I.gdict (.of e) g
 refine gZ hu ((GV.rel I.hok k).1 y u hy ry) h8 dd (by rw [← Paired.length rel];omega) fun n h' dd' sb=>h _ ?_
 obtain ⟨o,es,ep,ho,hc,hd,he,_⟩:=dd'
 refine cZ I (by rw [e];exact True.intro) sb ⟨o,ho⟩ ⟨⟨by have:=JS kvs k y v;omega,hm,_,RelG.set ry rv rel,o,es,ep,ho,hc,hd,he⟩,⟨o,ho⟩,?_⟩
 rintro h1 h2 ⟨a1,a2,xs',a3,o',es',ep',a4,a5⟩ kp
 exact ⟨a1,a2,xs',a3,o',es',ep',kp _ a4,a5⟩
end
end L2
namespace L2
open PySem PySem.Spec PyProof.Rows
theorem GOk.keep {H H':Hp} {kvs:List jR} (g:GOk H kvs) (hk:∀a l,H a=some (.tup l)→H' a=some (.tup l)):GOk H' kvs:=⟨fun p hp=>(GV.keep hk p.1).1 _ (g.key p hp),g.deep,g.once⟩
theorem GOk.nil {H:Hp}:GOk H []:=⟨fun _ h=>(nomatch h),fun _ h=>(nomatch h),List.nodup_nil⟩
theorem GOk.set {H:Hp} {kvs:List jR} {k:GK} {y v:V} (g:GOk H kvs) (hy:(GV H k).1 y) (h8:gd k≤8):GOk H (kA kvs k y v):=by
 unfold kA
 by_cases ha:(kvs.any fun x=>decide (x.1=k))=true
 ·rw [if_pos ha]
  refine ⟨fun p hp=>?_,fun p hp=>?_,?_⟩
  ·obtain ⟨q,hq,rfl⟩:=List.mem_map.mp hp
   have:=g.key q hq
   split<;>exact this
  ·obtain ⟨q,hq,rfl⟩:=List.mem_map.mp hp
   have:=g.deep q hq
   split<;>exact this
  ·rw [List.map_map,show ((fun x:jR=>x.1)∘fun x=>if x.1=k then (x.1,x.2.1,v) else x)=(·.1) from funext fun x=>by show (if x.1=k then (x.1,x.2.1,v) else x).1=x.1;split<;>rfl]
   exact g.once
 ·rw [if_neg ha]
  refine ⟨fun p hp=>?_,fun p hp=>?_,?_⟩
  ·rcases List.mem_append.mp hp with hp|hp
   ·exact g.key p hp
   ·cases List.mem_singleton.mp hp;exact hy
  ·rcases List.mem_append.mp hp with hp|hp
   ·exact g.deep p hp
   ·cases List.mem_singleton.mp hp;exact h8
  ·rw [List.map_append,List.nodup_append]
   refine ⟨g.once,by simp,fun a h1 b h2 e=>ha ?_⟩
   cases List.mem_singleton.mp h2
   obtain ⟨q,hq,rfl⟩:=List.mem_map.mp h1
   rw [List.any_eq_true]
   exact ⟨q,hq,decide_eq_true e⟩
theorem zN {kvs:List jR} {k k':GK} {y v:V}:jQ (kA kvs k y v) k'=if k'=k then some v else jQ kvs k':=by
 unfold kA
 by_cases ha:(kvs.any fun x=>decide (x.1=k))=true
 ·rw [if_pos ha]
  induction kvs with
  |nil=>cases ha
  |cons p t ih =>
   by_cases hp:p.1=k
   ·by_cases hk:k'=k
    ·subst hk;simp [jQ,hp]
    ·have ne:¬p.1=k':=fun e=>hk (e▸hp)
     have ne2:¬k=k':=fun e=>hk e.symm
     rw [if_neg hk]
     have tl:∀l:List jR,jQ (l.map fun x=>if x.1=k then (x.1,x.2.1,v) else x) k'=jQ l k':=by
      intro l
      induction l with
      |nil=>rfl
      |cons q l ihl =>
       rw [List.map_cons]
       by_cases hq:q.1=k
       ·have n3:¬q.1=k':=fun e=>ne2 (hq▸e)
        rw [if_pos hq]
        unfold jQ at ihl ⊢
        rw [List.find?_cons_of_neg (by simpa using n3),List.find?_cons_of_neg (by simpa using n3)]
        exact ihl
       ·rw [if_neg hq]
        unfold jQ at ihl ⊢
        by_cases hq':q.1=k'
        ·rw [List.find?_cons_of_pos (by simpa using hq'),List.find?_cons_of_pos (by simpa using hq')]
        ·rw [List.find?_cons_of_neg (by simpa using hq'),List.find?_cons_of_neg (by simpa using hq')]
         exact ihl
     exact tl (p::t)
   ·have ha':(t.any fun x=>decide (x.1=k))=true:=by simpa [hp] using ha
    have:=ih ha'
    unfold jQ at this ⊢
    by_cases hq:p.1=k'
    ·have:¬k'=k:=fun e=>hp (hq.trans e)
     simp [List.find?_cons,hp,hq,this]
    ·simpa [List.find?_cons,hp,hq] using this
 ·rw [if_neg ha]
  unfold jQ
  rw [List.find?_append]
  by_cases hk:k'=k
  ·subst hk
   have:kvs.find? (fun x=>decide (x.1=k'))=none:=by
    rw [List.find?_eq_none]
    intro x hx e
    exact ha (List.any_eq_true.mpr ⟨x,hx,e⟩)
   simp [this]
  ·have n2:¬k=k':=fun e=>hk e.symm
   rw [if_neg hk]
   cases hf:kvs.find? (fun x=>decide (x.1=k'))<;>simp [n2]
def dR (w:World) (td ty:TE):TE:=fun σ H Q=>td σ H fun x H1=>ty σ H1 fun y H2=>∃(d:Addr) (kvs:List jR) (k:GK) (v:V),x=.ref d∧Rd H2 d (GO w d kvs)∧GOk H2 kvs∧(GV H2 k).1 y∧gd k≤8∧jQ kvs k=some v∧Q v H2
def oB (w:World) (td ty tv:TE):TS:=fun D σ H=>tv σ H fun v H1=>td σ H1 fun x H2=>ty σ H2 fun y H3=>∃(d:Addr) (kvs:List jR) (k:GK),x=.ref d∧H3 d=some (GO w d kvs)∧GOk H3 kvs∧(GV H3 k).1 y∧gd k≤8∧kvs.length<sizeLine∧D.nx σ (jB H3 d (GO w d (kA kvs k y v)))
def nX (w:World):TE:=fun _ H Q=>∀p,H p=none→Q (.ref p) (jB H p (GO w p []))
section
variable {X:Cx} {o i e value:Expr} {pos pos':Pos} {td ty tv:TE}
theorem vL (hu:X.A.units+9<cLine) (ho:PE X o td) (hi:PE X i ty) (hs:ZN i):PE X (.Subscript o i pos) (dR X.w td ty):=by
 intro pins s σ H Q I h
 refine lM PySem.F.slot_dict_getitem.lookup hs (jI (ho pins s σ H _ I h) fun u s1 ⟨x,H1,I1,rx,q1⟩=>jI (hi pins s1 σ H1 _ I1 q1) fun iv s2 ⟨y,H2,I2,ry,d,kvs,k,v,ex,hd,g,hy,h8,hv,q2⟩=>?_)
 subst ex
 obtain rfl:u=Value.ref d:=rx
 obtain ⟨_,_,xs,_,dd⟩:=I2.gdict hd g
 exact ⟨dd.typeIs,nN hu I2 hd g hy h8 hv ry fun w' s3 I3 rw'=>⟨v,H2,I3,rw',q2⟩⟩
theorem JY (hu:X.A.units+9<cLine) (ho:PE X o td) (hi:PE X i ty) (hv:PE X value tv) (hs:swapsWith value (some (.Subscript o i pos')) pos.line X.env=pure false) :
  PS X (.Assign [.Subscript o i pos'] value pos) (oB X.w td ty tv):=by
 intro pins s σ H D I h
 refine wpAny_Assign_Subscript (jI (hv pins s σ H _ I h) fun r s1 ⟨v,H1,I1,rv,q1⟩=>jI (ho pins s1 σ H1 _ I1 q1) fun u s2 ⟨x,H2,I2,rx,q2⟩=>jI (hi pins s2 σ H2 _ I2 q2) fun iv s3 ⟨y,H3,I3,ry,d,kvs,k,ex,hd,g,hy,h8,hl,q3⟩=>?_) hs
 subst ex
 obtain rfl:u=Value.ref d:=rx
 exact mE hu I3 hd g hy h8 hl ry rv fun s4 I4=>⟨σ,_,I4,q3⟩
theorem cU:PE X (.Dict [] [] pos) (nX X.w):=fun pins s σ H Q I h =>
 wpAny_Dict_empty ⟨.ref s.heap.objs.size,_,I.laid (a:=s.heap.objs.size) (o:=GO X.w s.heap.objs.size []) (t':=s.toks) (fun _ _ q=>Heap.get?_push_of_some _ q) (Nat.le_refl _)
  ⟨⟨Nat.zero_le _,beq_eq_false_iff_ne.mpr (Ne.symm (Nat.ne_of_lt I.big)),[],.nil,_,#[],0,Heap.get?_push_size _ rfl,⟨rfl,rfl,rfl⟩,rfl,rfl⟩,⟨_,Heap.get?_push_size _ rfl⟩,
   fun h1 h2 ⟨a1,a2,xs',a3,o',es',ep',a4,a5⟩ kp=>⟨a1,a2,xs',a3,o',es',ep',kp _ a4,a5⟩⟩,rfl,h _ (I.hok.fresh (Nat.le_refl _))⟩
end
end L2
namespace L2
open PySem PySem.Spec PyProof.Rows
section
variable {X:Cx} {pins:List (Addr×Obj)} {σ:List (Option V)} {H:Hp} {s:Shared}
def FnO (f:Addr) (o:Obj):HO:=.ext fun h=>h.get? f=some o
theorem Inv.fnMade {P:Addr} {ps more:Array Value} {h':Heap} {o:Obj} {t':Nat} (I:Inv X pins σ H s) (hP:H P=some (.tbl ps)) (hx:Heap.ExtBut P s.heap h') (hsz:s.heap.objs.size≤h'.objs.size) (hP':h'.get? P=some {cls:=.none,data:=.fields (ps++more)}) (hfr:o.isFreed=false) :
  Inv X pins σ (jB (jB H P (.tbl (ps++more))) h'.objs.size (FnO h'.objs.size o)) {s with heap:=h'.push o,toks:=t'}:=by
 have hPs:ObjOk X.prog X.w H s.heap P (.tbl ps):=I.hok P _ hP
 have key:∀b u,b≠P→s.heap.get? b=some u→(h'.push o).get? b=some u:=fun b u hb e=>Heap.get?_push_of_some _ (hx b u hb e)
 have hlt:∀b,b<s.heap.objs.size→b≠h'.objs.size:=fun b e=>Nat.ne_of_lt (Nat.lt_of_lt_of_le e hsz)
 have hf:∀b u,s.heap.get? b=some u→b≠h'.objs.size:=fun b u e=>hlt b (Heap.lt_size e)
 have ht:∀b u,H b=some u→b≠h'.objs.size:=fun b u e=>hlt b (I.hok b u e).lt
 have hfP:P≠h'.objs.size:=ht P _ hP
 have hnP:∀b,H b=none→b≠P:=fun b n z=>by rw [z,hP] at n;cases n
 have hoP:∀b u,H b=some u→u≠.tbl ps→b≠P:=fun b u e n z=>by rw [z,hP] at e;cases e;exact n rfl
 refine I.un ⟨fun b ob e n _ _=>key b ob (hnP b n) e,fun b ob e n _ _=>⟨ob.slots,key b ob (hnP b n) e⟩,fun b ob e n _=>?_,fun b ob e _=>?_,fun b xs e=>?_,fun b ob u e=>?_,fun b qs e=>?_⟩ fun b u e=>?_
 ·rw [jC (hf b ob e),jC (hnP b n)];exact n
 ·by_cases z:b=P
  ·subst z;exact ⟨_,Heap.get?_push_of_some _ hP'⟩
  ·exact ⟨ob,key b ob z e⟩
 ·rw [jC (ht b _ e),jC (hoP b _ e (fun z=>nomatch z))];exact e
 ·rw [jC (ht b _ e),jC (hoP b _ e (fun z=>nomatch z))];exact e
 ·by_cases z:b=P
  ·subst z
   rw [hP] at e;cases e
   exact ⟨more,by rw [jC hfP,jE]⟩
  ·exact ⟨#[],by rw [jC (ht b _ e),jC z,e];simp⟩
 ·by_cases z:b=h'.objs.size
  ·subst z
   rw [jE] at e;cases e
   exact ⟨Heap.get?_push_size _ hfr,⟨_,Heap.get?_push_size _ hfr⟩,fun h1 h2 q k=>k _ q⟩
  rw [jC z] at e
  by_cases zP:b=P
  ·subst zP
   rw [jE] at e;cases e
   exact Heap.get?_push_of_some _ hP'
  rw [jC zP] at e
  refine (I.hok b u e).stay (fun c v hc r=>key c v ?_ r) (fun c r=>?_) fun c xs r=>?_
  ·rcases hc with rfl|hc
   ·exact zP
   ·exact hoP c _ hc (fun z=>nomatch z)
  ·rw [jC (ht c _ r),jC (hoP c _ r (fun z=>nomatch z))];exact r
  ·rw [jC (ht c _ r),jC (hoP c _ r (fun z=>nomatch z))];exact r
end
end L2
namespace L2
open PySem PySem.Spec PyProof.Rows
def kD (H:Hp) (cs:List Addr):Hp:=fun b=>if b∈cs then none else H b
def kH (H' H:Hp) (cs:List Addr):Hp:=fun b=>if b∈cs then H b else H' b
theorem J0 {H:Hp} {cs:List Addr} {b:Addr} (h:b∈cs):kD H cs b=none:=if_pos h
theorem j9 {H:Hp} {cs:List Addr} {b:Addr} (h:b∉cs):kD H cs b=H b:=if_neg h
theorem yZ {H H':Hp} {cs:List Addr} {b:Addr} (h:b∈cs):kH H' H cs b=H b:=if_pos h
theorem kG {H H':Hp} {cs:List Addr} {b:Addr} (h:b∉cs):kH H' H cs b=H' b:=if_neg h
section
variable {P:Program} {w:World} {H H' HC:Hp} {h h':Heap} {cs fs:List Addr}
theorem FnO.ok {c:Addr} {o:Obj} (e:h.get? c=some o):ObjOk P w H h c (FnO c o):=⟨e,⟨o,e⟩,fun _ _ q k=>k _ q⟩
theorem FnO.get {c:Addr} {o:Obj} (x:HOk P w H h) (e:H c=some (FnO c o)):h.get? c=some o:=(x c _ e).1
def y8 (H:Hp) (cs:List Addr):Prop:=∀c∈cs,∃o,H c=some (FnO c o)
theorem HOk.hide (x:HOk P w H h) (hc:y8 H cs):HOk P w (kD H cs) h:=fun b u e=>by
 by_cases hb:b∈cs
 ·rw [J0 hb] at e;cases e
 ·rw [j9 hb] at e
  refine (x b u e).stay (fun _ _ _ q=>q) (fun c q=>?_) fun c xs q=>?_
  ·rw [j9];exact q
   intro hin;obtain ⟨o,e2⟩:=hc c hin;rw [q] at e2;cases e2
  ·rw [j9];exact q
   intro hin;obtain ⟨o,e2⟩:=hc c hin;rw [q] at e2;cases e2
theorem HOk.unhide (x:HOk P w H' h) (hn:∀c∈cs,H' c=none) (hc:∀c∈cs,∃o,H c=some (FnO c o)∧h.get? c=some o):HOk P w (kH H' H cs) h:=fun b u e=>by
 by_cases hb:b∈cs
 ·rw [yZ hb] at e
  obtain ⟨o,e2,g⟩:=hc b hb
  rw [e2] at e;cases e
  exact FnO.ok g
 ·rw [kG hb] at e
  refine (x b u e).stay (fun _ _ _ q=>q) (fun c q=>?_) fun c xs q=>?_
  ·rw [kG];exact q
   intro hin;rw [hn c hin] at q;cases q
  ·rw [kG];exact q
   intro hin;rw [hn c hin] at q;cases q
theorem Un.unhide (u:Un fs [] (kD H cs) H' h h') (hc:y8 H cs):Un fs [] H (kH H' H cs) h h':=by
 have no:∀b,H b=none→b∉cs:=fun b n hin=>by obtain ⟨o,e⟩:=hc b hin;rw [n] at e;cases e
 have nt:∀b v,H b=some v→(∀o,v≠FnO b o)→b∉cs:=fun b v e n hin=>by obtain ⟨o,e2⟩:=hc b hin;rw [e] at e2;cases e2;exact n o rfl
 refine ⟨fun b o e n=>u.keep b o e (by rw [j9 (no b n)];exact n),fun b o e n=>u.slot b o e (by rw [j9 (no b n)];exact n),fun b o e n hx=>?_,fun b o e hx=>u.there b o e hx,fun b xs e=>?_,fun b o v e=>?_,fun b ps e=>?_⟩
 ·rw [kG (no b n)];exact u.free b o e (by rw [j9 (no b n)];exact n) hx
 ·have:=nt b _ e (fun _ z=>nomatch z)
  rw [kG this];exact u.tups b xs (by rw [j9 this];exact e)
 ·have:=nt b _ e (fun _ z=>nomatch z)
  rw [kG this];exact u.frzs b o v (by rw [j9 this];exact e)
 ·have:=nt b _ e (fun _ z=>nomatch z)
  rw [kG this];exact u.tbls b ps (by rw [j9 this];exact e)
theorem Un.hide (u:Un fs [] (kH H HC cs) H' h h') (hn:∀c∈cs,H c=none) (hc:∀c∈cs,∃o,HC c=some (FnO c o)∧h.get? c=some o) (he:∀c∈cs,H' c=HC c) (hf:∀c∈cs,c∉fs) (x:HOk P w H' h'):Un fs [] H (kD H' cs) h h':=by
 have nt:∀b v,H b=some v→b∉cs:=fun b v e hin=>by rw [hn b hin] at e;cases e
 refine ⟨fun b o e n h1 h2=>?_,fun b o e n h1 h2=>?_,fun b o e n hx=>?_,fun b o e hx=>u.there b o e hx,fun b xs e=>?_,fun b o v e=>?_,fun b ps e=>?_⟩
 ·by_cases hb:b∈cs
  ·obtain ⟨o',e1,e2⟩:=hc b hb
   rw [e] at e2;cases e2
   exact FnO.get x ((he b hb).trans e1)
  ·exact u.keep b o e (by rw [kG hb];exact n) h1 h2
 ·exact u.slot b o e (by rw [kG fun hb=>hf b hb h1];exact n) h1 h2
 ·by_cases hb:b∈cs
  ·exact J0 hb
  ·rw [j9 hb];exact u.free b o e (by rw [kG hb];exact n) hx
 ·have:=nt b _ e
  rw [j9 this];exact u.tups b xs (by rw [kG this];exact e)
 ·have:=nt b _ e
  rw [j9 this];exact u.frzs b o v (by rw [kG this];exact e)
 ·have:=nt b _ e
  rw [j9 this];exact u.tbls b ps (by rw [kG this];exact e)
end
structure CloScope (N ps fr:List Str) (sc:Scope):Prop where
 kind:sc.kind=.function
 co:sc.isCoroutine=false
 gen:sc.isGenerator=false
 nd:N.Nodup
 pre:N.take (ps++fr).length=ps++fr
 par:∀x∈ps,sc.names.lookup x=some .local
 fre:∀x∈fr,sc.names.lookup x=some .free
 onl:∀x,sc.names.lookup x=some .free→x∈fr
 noc:∀y∈sc.names,y.2≠.cell
def y7 (CX:kE) (P:Program) (w:World) (K:PySem.W.Frag) (mg:Str→Option Value) (base:Heap) (N:List Str) (qual:Str) (scope:Scope) (f:Addr) (cd:Value) (cl:List (Str×Addr)) (A:Around) (outer:List Env) (s:Shared) (H:Hp) (E:XK):Cx where
 prog:=P
 w:=w
 K:=K
 mg:=mg
 base:=base
 A:=A.deeper (PySem.W.envX qual scope s.heap.objs.size f cd cl)
 N:=N
 s₀:=s
 H₀:=kD H (cl.map (·.2))
 env:=PySem.W.envX qual scope s.heap.objs.size f cd cl
 outer:=outer
 stack:=PySem.W.envX qual scope s.heap.objs.size f cd cl::outer
 ex:=[]
 calm:=true
 fn:=fun _=>false
 pn:=[]
 xe:=fun e s'=>wpAny (model P w) (A.deeper (PySem.W.envX qual scope s.heap.objs.size f cd cl)) (leaving (PySem.W.envX qual scope s.heap.objs.size f cd cl) e) (fun _ s''=>CX outer H s E e s'') (fun e' s''=>CX outer H s E e' s'') s'
end L2
namespace L2
open PySem PySem.Spec PyProof.Rows
structure CloAt (H:Hp) (f:Addr) (qual:Str) (params:Arguments) (body:List Stmt) (scope:Scope) (cl:List (Str×Addr)) (fvs:List V) (cdv:Value) (fd:FuncData):Prop where
 fn:∃fo name doc pm an ct,H f=some (FnO f fo)∧fo.data=.func fd∧fd=PySem.W.fnX name qual params body scope cl .none .none doc pm an cdv ct
 code:∃c oc vs t,cdv=.ref c∧H c=some (FnO c oc)∧oc.data=.fields vs∧vs[1]?=some (.str qual t)
 once:(cl.map (·.2)).Nodup
 len:fvs.length=cl.length
 cell:∀(i:Nat) (x:Str) (c:Addr) (v:V),cl[i]?=some (x,c)→fvs[i]?=some v→∃o u,H c=some (FnO c o)∧o.data=.cell (some u)∧RelV v u
theorem CloAt.cells {H:Hp} {f:Addr} {qual:Str} {params:Arguments} {body:List Stmt} {scope:Scope} {cl:List (Str×Addr)} {fvs:List V} {cdv:Value} {fd:FuncData} (C:CloAt H f qual params body scope cl fvs cdv fd):y8 H (cl.map (·.2)):=fun c hc=>by
 obtain ⟨⟨x,c'⟩,hm,rfl⟩:=List.mem_map.mp hc
 obtain ⟨i,hi⟩:=List.mem_iff_getElem?.mp hm
 have hlt:i<fvs.length:=by rw [C.len];exact (List.getElem?_eq_some_iff.mp hi).1
 obtain ⟨o,u,e,_⟩:=C.cell i x c' _ hi (List.getElem?_eq_getElem hlt)
 exact ⟨o,e⟩
theorem ZW {β:Type} {n:Str} {c:β}:∀{cs:List (Str×β)},(cs.map (·.1)).Nodup→(n,c)∈cs→cs.lookup n=some c
 |[],_,hm=>nomatch hm
 | (m,d)::cs,hn,hm=>by
  rw [List.map_cons,List.nodup_cons] at hn
  rw [List.lookup_cons]
  rcases List.mem_cons.mp hm with e|hm
  ·cases e;rw [beq_self_eq_true]
  ·have ne:(n == m)=false:=beq_eq_false_iff_ne.mpr fun e=>hn.1 (e▸List.mem_map.mpr ⟨_,hm,rfl⟩)
   rw [ne]
   exact ZW hn.2 hm
theorem i2 {cl:List (Str×Addr)} (hn:(cl.map (·.2)).Nodup) {x y:Str} {c:Addr} (h1:cl.lookup x=some c) (h2:cl.lookup y=some c):x=y:=by
 obtain ⟨i,hi⟩:=List.mem_iff_getElem?.mp (PySem.mem_of_lookup h1)
 obtain ⟨j,hj⟩:=List.mem_iff_getElem?.mp (PySem.mem_of_lookup h2)
 have a:(cl.map (·.2))[i]?=some c:=by rw [List.getElem?_map,hi];rfl
 have b:(cl.map (·.2))[j]?=some c:=by rw [List.getElem?_map,hj];rfl
 obtain rfl:=(List.getElem?_inj (List.getElem?_eq_some_iff.mp a).1 hn).mp (a.trans b.symm)
 rw [hi] at hj
 cases hj
 rfl
section
variable {CX:kE} {P:Program} {w:World} {K:PySem.W.Frag} {mg:Str→Option Value} {base:Heap} {N ps fr:List Str} {qual:Str} {params:Arguments} {body:List Stmt} {scope:Scope} {f:Addr} {cdv:Value} {fd:FuncData} {cl:List (Str×Addr)} {A:Around} {outer:List Env} {s:Shared} {H:Hp} {E:XK} {Q:VK} {us:List Value} {vs fvs:List V} {k:Nat} {args:Args}
theorem mD {h1:Heap} {tk:Nat} (S:CloScope N ps fr scope) (hd:A.handled=none) (e0:Env0 P w K mg base A outer s H) (hl:vs.length=ps.length) (r:Vals vs us) (C:CloAt H f qual params body scope cl fvs cdv fd) (hcl:cl.map (·.1)=fr)
  (hns:h1.Ns s.heap.objs.size fun x=>(ps.zip us).reverse.lookup x) (hk:∀b o,s.heap.get? b=some o→h1.get? b=some o) :
  Inv (y7 CX P w K mg base N qual scope f cdv cl A outer s H E) [] (kL N (vs++fvs)) (kD H (cl.map (·.2))) {s with heap:=h1,toks:=tk}:=by
 have hlen:cl.length=fr.length:=by rw [← hcl,List.length_map]
 have hpl:ps.length+fr.length≤N.length:=by have:=congrArg List.length S.pre;rw [List.length_take,List.length_append] at this;omega
 have hfl:fvs.length=fr.length:=C.len.trans hlen
 have ndF:(ps++fr).Nodup:=by rw [← S.pre];exact S.nd.sublist (List.take_sublist _ _)
 have ndP:ps.Nodup:=(List.nodup_append.mp ndF).1
 have ndC:(cl.map (·.1)).Nodup:=by rw [hcl];exact (List.nodup_append.mp ndF).2.1
 have del0:∀b,H b=none→kD H (cl.map (·.2)) b=none:=fun b n=>by unfold kD;split;rfl;exact n
 have noA:∀b:Addr,b∉(y7 CX P w K mg base N qual scope f cdv cl A outer s H E).ex:=fun b z=>absurd (show b∈([]:List Addr) from z) (by simp)
 have cellOf:∀x c,cl.lookup x=some c→∃o,H c=some (FnO c o)∧∃u,o.data=.cell (some u):=fun x c h=>by
  obtain ⟨i,hi⟩:=List.mem_iff_getElem?.mp (PySem.mem_of_lookup h)
  have hlt:i<fvs.length:=by rw [C.len];exact (List.getElem?_eq_some_iff.mp hi).1
  obtain ⟨o,u,e,e2,_⟩:=C.cell i x c _ hi (List.getElem?_eq_getElem hlt)
  exact ⟨o,e,u,e2⟩
 refine ⟨⟨e0.mod,S.kind,rfl,rfl,Nat.le_refl _,fun y z c h1 h2=>i2 C.once h1 h2,fun y hy=>?_,fun y c q=>(nomatch q),fun _=>hd,Around.frames_deeper e0.frames,.inr ⟨rfl,rfl⟩,fun b z=>absurd z (noA b),fun b o e=>⟨(e0.bs b o e).1,del0 b (e0.bs b o e).2⟩,e0.bsz,fun b _ _=>noA b,fun b z=>absurd z (noA b),e0.funs,fun b hb=>del0 b (e0.frf b hb)⟩,
  rfl,e0.bare,Un.kept hk,⟨_,hns,fun i y v h1 h2 h3=>?_⟩,fun y c h=>?_,del0 _ (e0.hok.fresh (Nat.le_refl _)),fun y c h=>J0 (List.mem_map.mpr ⟨_,PySem.mem_of_lookup h,rfl⟩),fun p hp=>absurd (show p∈([]:List (Addr×Obj)) from hp) (by simp),(e0.hok.hide C.cells).kept hk,?_⟩
 ·have hy:scope.names.lookup y=some .cell∨scope.names.lookup y=some .free:=hy
  rcases hy with hy|hy
  ·exact absurd rfl (S.noc _ (PySem.mem_of_lookup hy))
  ·have:=S.onl y hy
   rw [← hcl] at this
   obtain ⟨⟨x,c⟩,hm,rfl⟩:=List.mem_map.mp this
   exact ⟨c,lookup_of_mem_nodup ndC hm⟩
 ·have hi:i<(vs++fvs).length:=by
   unfold kL at h2
   by_cases hi:i<(vs++fvs).length
   ·exact hi
   ·rw [List.getElem?_append_right (by simpa using hi),List.getElem?_replicate] at h2
    split at h2<;>cases h2
  have ha:(vs++fvs)[i]?=some v:=by
   unfold kL at h2
   rw [List.getElem?_append_left (by simpa using hi),List.getElem?_map] at h2
   cases e:(vs++fvs)[i]? with
   |none=>rw [e] at h2;cases h2
   |some a=>rw [e] at h2;cases h2;rfl
  have hp:(ps++fr)[i]?=some y:=by
   rw [← S.pre,List.getElem?_take_of_lt (by rw [List.length_append] at hi ⊢;omega)];exact h1
  by_cases hv:i<ps.length
  ·rw [List.getElem?_append_left hv] at hp
   rw [List.getElem?_append_left (by omega)] at ha
   obtain ⟨u,hu,rv⟩:=r.get ha
   refine ⟨u,rv,.inl ⟨S.par y (List.mem_of_getElem? hp),?_⟩⟩
   refine ZW ?_ (List.mem_reverse.mpr ?_)
   ·rw [List.map_reverse]
    refine List.pairwise_reverse.mpr (List.Pairwise.imp (fun h=>Ne.symm h) ?_)
    rw [List.map_fst_zip (by rw [← r.length,hl];exact Nat.le_refl _)]
    exact ndP
   ·refine List.mem_iff_getElem?.mpr ⟨i,?_⟩
    rw [List.getElem?_zip_eq_some]
    exact ⟨hp,hu⟩
  ·rw [List.getElem?_append_right (by omega)] at hp
   rw [List.getElem?_append_right (by omega),hl] at ha
   rw [← hcl,List.getElem?_map] at hp
   obtain ⟨⟨x,c⟩,hc,rfl⟩:=Option.map_eq_some_iff.mp hp
   obtain ⟨o,u,e,e2,rv⟩:=C.cell _ x c v hc ha
   refine ⟨u,rv,.inr ⟨.inr (S.fre x ?_),c,lookup_of_mem_nodup ndC (List.mem_of_getElem? hc),o,hk _ _ (FnO.get e0.hok e),e2⟩⟩
   rw [← hcl]
   exact List.mem_map.mpr ⟨_,List.mem_of_getElem? hc,rfl⟩
 ·obtain ⟨o,e,u,e2⟩:=cellOf y c h
  exact ⟨some u,o,hk _ _ (FnO.get e0.hok e),e2⟩
 ·unfold kL
  show _=N.length
  rw [List.length_append,List.length_map,List.length_replicate,List.length_append]
  omega
theorem mL (S:CloScope N ps fr scope) (hr:Room (k+1) A) (e0:Env0 P w K mg base A outer s H) (hl:vs.length=ps.length) (r:Vals vs us) (C:CloAt H f qual params body scope cl fvs cdv fd) (hcl:cl.map (·.1)=fr) (hb:BindsTo s fd args (ps.zip us))
  (hbody:Room k (A.deeper (PySem.W.envX qual scope s.heap.objs.size f cdv cl))→
   ∃t,PSs (y7 CX P w K mg base N qual scope f cdv cl A outer s H E) body t∧t {nx:=fun _ H'=>(∀c∈cl.map (·.2),H' c=none)→Q .non (kH H' H (cl.map (·.2))),rt:=fun v H'=>(∀c∈cl.map (·.2),H' c=none)→Q v (kH H' H (cl.map (·.2)))} (kL N (vs++fvs)) (kD H (cl.map (·.2)))) :
  codeAny (model P w) A (.call (.ref f) args) (CR CX outer P w H s Q E) s:=by
 obtain ⟨fo,name,doc,pm,an,ct,hf,hd,rfl⟩:=C.fn
 have hcode:s.heap.CodeRec cdv qual:=by
  obtain ⟨c,oc,vs',t,e,e1,e2,e3⟩:=C.code
  exact ⟨c,oc,vs',t,e,FnO.get e0.hok e1,e2,e3⟩
 have lim:s.heap.NoLimit:=e0.mod.nolimit.keeps fun b o e=>(e0.bs b o e).1
 refine codeAny_call_def hr.depth (FnO.get e0.hok hf) hd lim hcode rfl hb S.noc (fun x hx=>S.par x.1 (List.of_mem_zip hx).1) (fun h1 hns hk=>?_) S.co S.gen S.kind
 obtain ⟨t,ht,hq⟩:=hbody (hr.deeper _)
 have I:Inv (y7 CX P w K mg base N qual scope f cdv cl A outer s H E) [] (kL N (vs++fvs)) (kD H (cl.map (·.2))) {s with heap:=h1,toks:=s.toks+(ps.zip us).length}:=mD S hr.hd e0 hl r C hcl hns hk
 refine wpAny_mono (ht [] _ _ _ _ I hq) (fun fl s' hs=>?_) fun e s' hs=>hs
 have fin:∀{σ':St} {H':Hp} {v:V} {u:Value},Inv (y7 CX P w K mg base N qual scope f cdv cl A outer s H E) [] σ' H' s'→RelV v u→((∀c∈cl.map (·.2),H' c=none)→Q v (kH H' H (cl.map (·.2))))→CE outer P w H s Q u s':=fun {σ' H' v u} J rv q=>by
  have hn:∀c∈cl.map (·.2),H' c=none:=fun c hc=>by
   obtain ⟨⟨x,c'⟩,hm,rfl⟩:=List.mem_map.mp hc
   have ndC:(cl.map (·.1)).Nodup:=by
    have ndF:(ps++fr).Nodup:=by rw [← S.pre];exact S.nd.sublist (List.take_sublist _ _)
    rw [hcl];exact (List.nodup_append.mp ndF).2.1
   exact J.freeC x c' (lookup_of_mem_nodup ndC hm)
  refine ⟨v,_,J.os,J.bare,Un.unhide J.base C.cells,HOk.unhide J.hok hn fun c hc=>?_,rv,q hn⟩
  ·obtain ⟨o,e⟩:=C.cells c hc
   refine ⟨o,e,J.base.keep c o (FnO.get e0.hok e) (J0 hc) (fun hin=>?_) (by intro z;cases z)⟩
   have:=e0.frf c hin
   rw [e] at this;cases this
 cases fl with
 |ret u =>
  obtain ⟨v,σ',H',J,rv,q⟩:=hs
  exact fin J rv q
 |next =>
  obtain ⟨σ',H',J,q⟩:=hs
  exact fin (v:=V.non) (u:=Value.none) J rfl q
 |brk =>
  obtain ⟨_,_,_,q⟩:=hs
  exact False.elim q
 |cont =>
  obtain ⟨_,_,_,q⟩:=hs
  exact False.elim q
end
end L2
namespace L2
open PySem PySem.Spec PyProof.Rows
structure FnV (P:Program) (w:World) (K:PySem.W.Frag) (mg:Str→Option Value) (base:Heap) (CX:kE) (k:Nat) (sp:Addr→Sp):Prop where
 fn:∀f vs H Q E,sp f vs H Q E→∃fo fd,H f=some (FnO f fo)∧fo.data=.func fd
 run:∀(A:Around) (outer:List Env) (s:Shared) (H:Hp) (f:Addr) (us:List Value) (vs:List V) (Q:VK) (E:XK),Room k A→Env0 P w K mg base A outer s H→Vals vs us→sp f vs H Q E→
  codeAny (model P w) A (.call (.ref f) ⟨us,[]⟩) (CR CX outer P w H s Q E) s
def z3 (qual:Str) (params:Arguments) (body:List Stmt) (scope:Scope) (ps fr:List Str) (sp:List Addr→List V→Sp) (f:Addr):Sp:=fun vs H Q E=>vs.length=ps.length∧
 ∃cl fvs cdv fd,CloAt H f qual params body scope cl fvs cdv fd∧cl.map (·.1)=fr∧sp (cl.map (·.2)) fvs vs H Q E
theorem dN {CX:kE} {P:Program} {w:World} {K:PySem.W.Frag} {mg:Str→Option Value} {base:Heap} {N ps fr:List Str} {qual:Str} {params:Arguments} {body:List Stmt} {scope:Scope} {k:Nat} {sp:List Addr→List V→Sp} (S:CloScope N ps fr scope)
  (hb:∀(name:Str) (cl:List (Str×Addr)) (doc pm:Value) (an:Option Addr) (cdv ct:Value) (us:List Value),us.length=ps.length→bindArgs (PySem.W.fnX name qual params body scope cl .none .none doc pm an cdv ct) ⟨us,[]⟩=pure (ps.zip us))
  (hbody:∀(A:Around) (outer:List Env) (s:Shared) (H:Hp) (f:Addr) (cdv:Value) (cl:List (Str×Addr)) (fvs vs:List V) (Q:VK) (E:XK),cl.map (·.1)=fr→Room k (A.deeper (PySem.W.envX qual scope s.heap.objs.size f cdv cl))→y8 H (cl.map (·.2))→sp (cl.map (·.2)) fvs vs H Q E→
   ∃t,PSs (y7 CX P w K mg base N qual scope f cdv cl A outer s H E) body t∧t {nx:=fun _ H'=>(∀c∈cl.map (·.2),H' c=none)→Q .non (kH H' H (cl.map (·.2))),rt:=fun v H'=>(∀c∈cl.map (·.2),H' c=none)→Q v (kH H' H (cl.map (·.2)))} (kL N (vs++fvs)) (kD H (cl.map (·.2)))) :
  FnV P w K mg base CX (k+1) (z3 qual params body scope ps fr sp):=by
 refine ⟨fun f vs H Q E h=>?_,fun A outer s H f us vs Q E hr e0 r h=>?_⟩
 ·obtain ⟨_,cl,fvs,cdv,fd,C,_⟩:=h
  obtain ⟨fo,_,_,_,_,_,h1,h2,_⟩:=C.fn
  exact ⟨fo,fd,h1,h2⟩
 ·obtain ⟨hl,cl,fvs,cdv,fd,C,hcl,hs⟩:=h
  obtain ⟨fo,name,doc,pm,an,ct,_,_,hfd⟩:=C.fn
  refine mL S hr e0 hl r C hcl (.of_eq ?_) fun hr'=>hbody A outer s H f cdv cl fvs vs Q E hcl hr' C.cells hs
  rw [hfd]
  exact hb name cl doc pm an cdv ct us (r.length▸hl)
theorem fV {M:Model} {A:Around} {E:Value→Shared→Prop} {s:Shared} {env:Env} {pos:Pos} {f:Addr} {e:Expr} {rest:List Expr} {Q:Value→Shared→Prop}
  (h:wpAny M A (spliced (backTo pos (starEach (e::rest) env))) (fun vs s1=>∃fo fd,s1.heap.get? f=some fo∧fo.data=.func fd∧wpAny M A (call (.ref f) vs) Q E s1) E s)
  (he:starEach (e::rest) env=(false,eval e env)::starEach rest env) (hpl:(backTo pos (starEach rest env)).any (·.1)=false):wpAny M A (callWith pos (.ref f) [] (backTo pos (starEach (e::rest) env)) []) Q E s:=by
 rw [he] at h ⊢
 refine PySem.W.callWith_of (P:=fun g=>∃fo fd,g.get? f=some fo∧fo.data=.func fd) (by show ((false||(backTo pos (starEach rest env)).any (·.1))||false)=false;rw [hpl];rfl) (fun g hg=>?_) (PySem.Calls.evalArgs_plain (wpAny_mono h (fun vs s1 h1=>?_) fun _ _ y=>y))
 ·obtain ⟨⟨cls,dict,data,slots⟩,fd,ho,hd⟩:=hg
  cases hd
  exact ⟨.frame,.inl rfl,(PySem.W.Looks.ld (part:=none) ho).andThen .now⟩
 ·obtain ⟨fo,fd,ho,hd,q⟩:=h1
  exact ⟨⟨fo,fd,ho,hd⟩,q⟩
section
variable {X:Cx} {CX:kE} {k:Nat} {sp:Addr→Sp} {E:XK} {x:Str} {p pos:Pos} {e:Expr} {es:List Expr} {t:TA} {i:Nat}
def mW (i:Nat) (sp:Addr→Sp) (E:XK) (t:TA):TE:=fun σ H Q=>∃f,σ[i]?=some (some (.ref f))∧t σ H fun vs H1=>sp f vs H1 Q E
theorem bX (F:FnV X.prog X.w X.K X.mg X.base CX k sp) (hr:Room k X.A) (hx:QB CX X E) (hN:X.N[i]?=some x) (hv:z7 X.env.scope x) (ha:PA X (e::es) t) (hd:(x == ("__debug__":Str))=false:=by decide) (hcd:(x == ("__classdict__":Str))=false:=by decide)
  (he:starEach (e::es) X.env=(false,eval e X.env)::starEach es X.env:=by rfl) (hpl:(backTo pos (starEach es X.env)).any (·.1)=false:=by rfl):PE X (.Call (.Name x p) (e::es) [] pos) (mW i sp E t):=by
 intro pins s σ H Q I h
 obtain ⟨f,e1,h⟩:=h
 refine wpAny_Call_Name_kw (jI (dF hN hv hd hcd pins s σ H (fun v H'=>v=V.ref f∧t σ H' fun vs H1=>sp f vs H1 Q E) I ⟨.ref f,e1,rfl,h⟩) fun u s1 ⟨x',H1,I1,rx,ex,q1⟩=>?_)
 subst ex
 obtain rfl:u=Value.ref f:=rx
 refine fV (jI (ha pos pins s1 σ H1 _ I1 q1) fun us s2 ⟨vs,H2,I2,r,q2⟩=>?_) he hpl
 obtain ⟨fo,fd,g1,g2⟩:=F.fn _ _ _ _ _ q2
 refine ⟨fo,fd,FnO.get I2.hok g1,g2,wpAny_call (codeAny_mono (F.run X.A X.stack s2 H2 f us vs Q E hr I2.env0 r q2) fun r s' hq=>?_)⟩
 cases r with
 |error e=>exact hx pins σ H2 s2 e s' I2 hq
 |ok fl =>
  cases fl with
  |ret u=>exact I2.after hq
  |next=>exact False.elim hq
  |brk=>exact False.elim hq
  |cont=>exact False.elim hq
end
end L2
namespace L2
open PySem PySem.Spec PyProof.Rows
def mX (cs:List (Nat×Addr)) (sp:Sp) (dvs:List V) (t:TA):TE:=fun σ H Q=>t σ H fun vs H1=>(∀p∈cs,∃v,σ[p.1]?=some (some v))∧
 ∀HC:Hp,(∀p∈cs,∃v o u,σ[p.1]?=some (some v)∧HC p.2=some (FnO p.2 o)∧o.data=.cell (some u)∧RelV v u)→(∀p∈cs,H1 p.2=none)→
  sp (vs++dvs) (kH H1 HC (cs.map (·.2))) (fun v H'=>(∀p∈cs,H' p.2=HC p.2)∧Q v (kD H' (cs.map (·.2)))) E0
section
variable {X:Cx} {k k':Nat} {f:Addr} {fd:FuncData} {ps:List Str} {sp:Sp} {dvs:List V} {ds:List Value} {x:Str} {p pos:Pos} {e:Expr} {es:List Expr} {t:TA} {cs:List (Nat×Addr)}
def ZB (X:Cx) (cs:List (Nat×Addr)):Prop:=∀q∈cs,∃y,X.N[q.1]?=some y∧X.env.scope.names.lookup y=some .cell∧X.env.cells.lookup y=some q.2∧X.fn y=true
theorem lO {pins:List (Addr×Obj)} {σ:St} {H:Hp} {s:Shared} {Q:VK} {us:List Value} {vs:List V} (F:FnOk X.prog X.w X.K X.mg X.base j0 k f fd ps sp) (hr:Room k X.A) (hb:Binds X.K fd ps ds) (hd:Vals dvs ds) (hcs:ZB X cs)
  (I:Inv X pins σ H s) (r:Vals vs us) (hv:∀q∈cs,∃v,σ[q.1]?=some (some v))
  (h:∀HC:Hp,(∀q∈cs,∃v o u,σ[q.1]?=some (some v)∧HC q.2=some (FnO q.2 o)∧o.data=.cell (some u)∧RelV v u)→(∀q∈cs,H q.2=none)→
   sp (vs++dvs) (kH H HC (cs.map (·.2))) (fun v H'=>(∀q∈cs,H' q.2=HC q.2)∧Q v (kD H' (cs.map (·.2)))) E0):wpAny (model X.prog X.w) X.A (call (.ref f) us) (EP X pins σ Q) X.xe s:=by
 let HC:Hp:=fun b=>(s.heap.get? b).map fun o=>FnO b o
 have hn:∀q∈cs,H q.2=none:=fun q hq=>by
  obtain ⟨y,_,_,e3,_⟩:=hcs q hq
  exact I.freeC y q.2 e3
 have hc:∀q∈cs,∃v o u,σ[q.1]?=some (some v)∧HC q.2=some (FnO q.2 o)∧s.heap.get? q.2=some o∧o.data=.cell (some u)∧RelV v u:=fun q hq=>by
  obtain ⟨y,e1,e2,e3,_⟩:=hcs q hq
  obtain ⟨v,ev⟩:=hv q hq
  obtain ⟨m,_,hl⟩:=I.loc
  obtain ⟨u,ru,lk⟩:=hl q.1 y v e1 ev (.inr (.inl e2))
  rcases lk with ⟨hk,_⟩|⟨_,c,hc,o,ho,hd⟩
  ·have hk':X.env.scope.names.lookup y=some .local:=hk
   rw [e2] at hk';cases hk'
  ·rw [e3] at hc;cases hc
   exact ⟨v,o,u,ev,by show (s.heap.get? q.2).map _=_;rw [ho];rfl,ho,hd,ru⟩
 have hin:∀c∈cs.map (·.2),∃q∈cs,q.2=c:=fun c hm=>by
  obtain ⟨q,hq,e⟩:=List.mem_map.mp hm
  exact ⟨q,hq,e⟩
 have hn':∀c∈cs.map (·.2),H c=none:=fun c hm=>by obtain ⟨q,hq,rfl⟩:=hin c hm;exact hn q hq
 have hc':∀c∈cs.map (·.2),∃o,HC c=some (FnO c o)∧s.heap.get? c=some o:=fun c hm=>by
  obtain ⟨q,hq,rfl⟩:=hin c hm
  obtain ⟨_,o,_,_,e1,e2,_⟩:=hc q hq
  exact ⟨o,e1,e2⟩
 have hab:∀c∈cs.map (·.2),X.s₀.heap.objs.size≤c:=fun c hm=>by
  obtain ⟨q,hq,rfl⟩:=hin c hm
  obtain ⟨y,_,_,e3,e4⟩:=hcs q hq
  exact I.ok.cab y q.2 e4 e3
 have hfs:∀c∈cs.map (·.2),c∉jV X.stack:=fun c hm hf=>by
  have hcl:c≠X.env.locals:=by
   obtain ⟨q,hq,rfl⟩:=hin c hm
   obtain ⟨y,_,_,e3,_⟩:=hcs q hq
   exact I.cne y q.2 e3
  rcases List.mem_cons.mp (I.stkSub c hf) with z|z
  ·exact hcl z
  ·have lt:c<X.s₀.heap.objs.size:=by obtain ⟨_,o,ho,_⟩:=I.ok.funs.mem z;exact Heap.lt_size ho
   have:=hab c hm
   exact absurd (Nat.lt_of_lt_of_le lt this) (Nat.lt_irrefl _)
 have e0:=I.env0
 have e1:Env0 X.prog X.w X.K X.mg X.base X.A X.stack s (kH H HC (cs.map (·.2))):=by
  refine ⟨e0.frames,e0.mod,fun b o eb=>⟨(e0.bs b o eb).1,?_⟩,e0.bsz,e0.funs,fun b hb'=>?_,HOk.unhide e0.hok hn' hc',e0.bare⟩
  ·rw [kG fun hm=>?_];exact (e0.bs b o eb).2
   have h1:b<X.base.objs.size:=Heap.lt_size eb
   have h2:=I.ok.bsz
   have h3:=hab b hm
   exact absurd (Nat.lt_of_lt_of_le h1 (Nat.le_trans h2 h3)) (Nat.lt_irrefl _)
  ·rw [kG fun hm=>hfs b hm hb'];exact e0.frf b hb'
 have r2:Vals (vs++dvs) (us++ds):=r.append hd
 have hs:=h HC (fun q hq=>by obtain ⟨v,o,u,a,b,_,d,g⟩:=hc q hq;exact ⟨v,o,u,a,b,d,g⟩) hn
 have hl:(us++ds).length=ps.length:=by rw [← r2.length];exact F.len _ _ _ _ hs
 refine wpAny_call (codeAny_mono (F.run X.A X.stack s _ ⟨us,[]⟩ (us++ds) (vs++dvs) _ E0 hr e1 (hb s us I.kIn hl) r2 hs) fun rr s' hq=>?_)
 cases rr with
 |error e=>exact hq.elim
 |ok fl =>
  cases fl with
  |ret u =>
   obtain ⟨v,H',os,bare,un,hok,rv,he,q⟩:=hq
   have he':∀c∈cs.map (·.2),H' c=HC c:=fun c hm=>by obtain ⟨q,hq,rfl⟩:=hin c hm;exact he q hq
   exact I.after ⟨v,_,os,bare,Un.hide un hn' hc' he' hfs hok,HOk.hide hok (fun c hm=>by obtain ⟨o,e2,_⟩:=hc' c hm;exact ⟨o,(he' c hm).trans e2⟩),rv,q⟩
  |next=>exact False.elim hq
  |brk=>exact False.elim hq
  |cont=>exact False.elim hq
theorem i0 (F:Def X.prog X.w X.K X.mg X.base k x ps dvs sp) (hr:Room k' X.A) (hg:Gl X x) (hcs:ZB X cs) (ha:PA X (e::es) t)
  (hk:k≤k':=by decide) (hdb:(x == ("__debug__":Str))=false:=by decide) (he:starEach (e::es) X.env=(false,eval e X.env)::starEach es X.env:=by rfl) (hpl:(backTo pos (starEach es X.env)).any (·.1)=false:=by rfl) :
  PE X (.Call (.Name x p) (e::es) [] pos) (mX cs sp dvs t):=by
 obtain ⟨f,fd,ds,G,m,kp,hv,b⟩:=F.ex
 intro pins s σ H Q I h
 refine wpAny_Call_Name_kw (yY I hg m ?_ hdb)
 refine PySem.W.callWith_K (h₀:=X.base) I.ok.mod.kin kp (jI (ha pos pins s σ H _ I h) fun us s1 ⟨vs,H1,I1,r,q1,q2⟩=>⟨I1.kIn,?_⟩) he hpl
 exact lO G (hr.mono hk) b hv hcs I1 r q1 q2
end
section
variable {X:Cx} {pins:List (Addr×Obj)} {σ:List (Option V)} {H:Hp} {s:Shared}
theorem Inv.fnMade2 {P c:Addr} {ps more:Array Value} {h':Heap} {o oc:Obj} {t':Nat} (I:Inv X pins σ H s) (hP:H P=some (.tbl ps)) (hx:Heap.ExtBut P s.heap h') (hsz:s.heap.objs.size≤h'.objs.size) (hP':h'.get? P=some {cls:=.none,data:=.fields (ps++more)}) (hfr:o.isFreed=false)
  (hc1:s.heap.objs.size≤c) (hc2:h'.get? c=some oc) :
  Inv X pins σ (jB (jB (jB H P (.tbl (ps++more))) h'.objs.size (FnO h'.objs.size o)) c (FnO c oc)) {s with heap:=h'.push o,toks:=t'}:=by
 have J:=I.fnMade (o:=o) (t':=t') hP hx hsz hP' hfr
 have hcP:c≠P:=fun z=>by have:=(I.hok P _ hP).lt;exact absurd (Nat.lt_of_lt_of_le (z▸this) hc1) (Nat.lt_irrefl _)
 have hcf:c≠h'.objs.size:=fun z=>absurd (Heap.lt_size hc2) (by rw [z];exact Nat.lt_irrefl _)
 have hg:(h'.push o).get? c=some oc:=Heap.get?_push_of_some _ hc2
 have hHc:jB (jB H P (.tbl (ps++more))) h'.objs.size (FnO h'.objs.size o) c=none:=by
  rw [jC hcf,jC hcP];exact I.hok.fresh hc1
 have hns:∀b u,s.heap.get? b=some u→b≠c:=fun b u e z=>absurd (Nat.lt_of_lt_of_le (z▸Heap.lt_size e) hc1) (Nat.lt_irrefl _)
 have hks:∀b u,X.s₀.heap.get? b=some u→b≠c:=fun b u e z=>by
  have h1:=Heap.lt_size e
  have h2:=I.sz
  exact absurd (Nat.lt_of_lt_of_le (Nat.lt_of_lt_of_le (z▸h1) h2) hc1) (Nat.lt_irrefl _)
 refine ⟨J.ok,J.os,J.bare,?_,J.loc,J.cell,?_,fun y d e=>?_,fun p hp=>?_,fun b u e=>?_,J.len⟩
 ·obtain ⟨k1,k2,k3,k4,k5,k6,k7⟩:=J.base
  have ne:∀b v,H b=some v→b≠c:=fun b v e z=>absurd (Nat.lt_of_lt_of_le (z▸(I.hok b v e).lt) hc1) (Nat.lt_irrefl _)
  refine ⟨k1,k2,fun b ob e n hx'=>?_,k4,fun b xs e=>?_,fun b ob u e=>?_,fun b qs e=>?_⟩
  ·rw [jC (hks b ob e)];exact k3 b ob e n hx'
  ·rw [jC (ne b _ (I.base.tups b xs e))];exact k5 b xs e
  ·rw [jC (ne b _ (I.base.frzs b ob u e))];exact k6 b ob u e
  ·obtain ⟨more',e'⟩:=I.base.tbls b qs e
   rw [jC (ne b _ e')];exact k7 b qs e
 ·rw [jC fun z=>?_];exact J.free
  have:=I.lt
  exact absurd (Nat.lt_of_lt_of_le (z▸this) hc1) (Nat.lt_irrefl _)
 ·rw [jC fun z=>?_];exact J.freeC y d e
  obtain ⟨v,o',ho',_⟩:=I.cell y d e
  exact hns d o' ho' z
 ·obtain ⟨a1,a2,a3,a4,a5⟩:=J.pin p hp
  refine ⟨a1,?_,a3,a4,a5⟩
  rw [jC fun z=>?_];exact a2
  exact hns p.1 _ (I.pin p hp).1 z
 ·by_cases z:b=c
  ·subst z;rw [jE] at e;cases e;exact FnO.ok hg
  ·rw [jC z] at e
   refine (J.hok b u e).stay (fun _ _ _ q=>q) (fun d q=>?_) fun d xs q=>?_
   ·rw [jC fun z=>?_];exact q
    rw [z,hHc] at q;cases q
   ·rw [jC fun z=>?_];exact q
    rw [z,hHc] at q;cases q
def nZ (i:Nat) (P:Addr) (pos:Pos) (qual:Str) (mk:Addr→Value→Value→Obj):TS:=fun D σ H=>∃ps,H P=some (.tbl ps)∧TriplesOk ps.toList∧codeAmong pos ps.toList=none∧
 ∀(f c':Addr) (ctv doc:Value) (oc:Obj),f≠P→c'≠P→c'≠f→H f=none→H c'=none→(∃vs t,oc.data=.fields vs∧vs[1]?=some (.str qual t))→
  D.nx (σ.set i (some (.ref f))) (jB (jB (jB H P (.tbl (ps++#[rawInt pos.line,rawInt pos.col,.ref c']))) f (FnO f (mk c' ctv doc))) c' (FnO c' oc))
theorem cS {i:Nat} {x qual:Str} {params:Arguments} {body:List Stmt} {scope:Scope} {pos:Pos} {c P:Addr} {clos:List (Str×Addr)} (hN:X.N.Nodup) (hi:X.N[i]?=some x) (hx:zA X.env.scope x)
  (hf:X.fn x=true∨X.env.scope.names.lookup x=some .local) (hd:defaultsOf params X.env=([],[])) (ha:annTrees params none X.env=[]) (hcl:closureFor scope X.env=pure clos) (hge:X.env.globals=mainGlobals)
  (hcode:X.env.code=.ref c) (hC:PySem.W.CodeHd X.base c P) (hgP:mainGlobals≠P) (hb:X.base.BuiltinsAt X.mg P) (hq:qualnameIn X.env x x=qual) :
  PS X (.FunctionDef x params body [] none [] scope none x pos) (nZ i P pos qual fun c' ctv doc=>PySem.W.fnMade x qual params body scope clos doc ((X.mg "__name__").getD .none) c' ctv):=by
 intro pins s σ H D I h
 obtain ⟨ps,hP,ht,hnf,q⟩:=h
 have hPs:s.heap.get? P=some (PySem.W.tabObj ps):=I.hok P _ hP
 rw [exec_def,hd,ha,hq]
 refine wpAny_bind (wpAny_standAt (wpAny_bind (wpAny_holding ?_)))
 refine wpAny_bind (wpAny_pure ?_)
 refine wpAny_bind (wpAny_holding (wpAny_pure ?_))
 refine wpAny_holding ?_
 refine wpAny_bind (wpAny_pure ?_)
 refine PySem.W.makeFunction_K (mg:=X.mg) hcl hge (I.mod.glob.keeps I.bk) hcode (hC.keeps I.bk) hPs ht hnf hgP (hb.keeps I.bk) fun c' ctv doc h' tk hx' hge' hlt hrec htb=>?_
 have hsz:s.heap.objs.size≤h'.objs.size:=Nat.le_trans hge' (Nat.le_of_lt hlt)
 obtain ⟨c'',oc,fs,t,e,hoc,hoc2⟩:=hrec
 cases e
 refine wpAny_bind (wpAny_standAt (wpAny_bind (wpAny_bindName ?_)))
 have J:=I.fnMade2 (o:=PySem.W.fnMade x qual params body scope clos doc ((X.mg "__name__").getD .none) c' ctv) (t':=tk) hP hx' hsz htb rfl hge' hoc
 have hPl:=Heap.lt_size hPs
 refine JR J hN hi hx (v:=.ref h'.objs.size) rfl (fun s2 I2=>wpAny_pure ?_) hf
 exact ⟨_,_,I2,q _ c' ctv doc oc (fun z=>Nat.lt_irrefl _ (z▸Nat.lt_of_lt_of_le hPl hsz)) (fun z=>Nat.lt_irrefl _ (Nat.lt_of_lt_of_le (z▸hPl) hge')) (Nat.ne_of_lt hlt) (I.hok.fresh hsz) (I.hok.fresh hge') ⟨fs,t,hoc2⟩⟩
end
end L2
namespace L2
open PySem PySem.Spec PyProof.Rows
def ZJ (T:Addr) (H:Hp):Prop:=H T=some (.tbl #[])∧∀b,b≠T→H b=none∨∃o xs,H b=some (.frz o (.lst xs))
theorem iD {prog:Program} {w:World} {K:PySem.W.Frag} {mg mb:Str→Option Value} {CX:kE} {k:Nat} {fa a c T:Addr} {fd:FuncData} {x:Str} {sp:Sp} {s₁:Shared} {vs:List Value} {ns:List Int}
  (KX:K.In s₁.heap) (hns:s₁.heap.Ns mainGlobals mg) (hb:s₁.heap.Ns builtinsNs mb) (hbb:∀x:Str,x≠"__name__"→mb x=bootBuiltins x) (hlim:s₁.heap.NoLimit) (hg:s₁.gens = #[])
  (ha:s₁.heap.get? a=some {cls:=.type "list",data:=.seq vs.toArray}) (hi:IntsAre vs ns) (hl:ns.length≤sizeLine) (hr:Room k callerA)
  (hC:PySem.W.CodeHd s₁.heap c T) (hT:s₁.heap.TableAt c T #[]) (hKT:PySem.W.noTabs K=true) (hB:s₁.heap.BuiltinsAt mg T)
  (F:∀base:Heap,K.In base→base.Ns mainGlobals mg→PySem.W.CodeHd base c T→base.BuiltinsAt mg T→mainGlobals≠T→FnOk prog w K mg base CX k fa fd [x] sp) (hbind:∀(s:Shared) (u:Value),BindsTo s fd ⟨[u],[]⟩ [(x,u)])
  (hsp:∀H:Hp,ZJ T H→SqL K H a (ns.map V.int)→sp [.ref a] H (fun v _=>v=.bl true) fun _ _ _=>False)
  (hCX:∀H e s',CX [] H s₁ (fun _ _ _=>False) e s'→False) :
  codeAny (model prog w) callerA (.call (.ref fa) ⟨[.ref a],[]⟩) (fun r s'=>r=.ok (.ret (.bool true))∧OldK s₁.heap s'.heap∧s'.os=s₁.os∧AllBare s'.gens) s₁:=by
 have rv:=QS hi
 have lenV:=hi.length
 have hTo:=hT.2
 have hKT':K.lookup T=none:=by
  cases q:K.lookup T with
  |none=>rfl
  |some o =>
   have e:=KX T o q
   rw [hTo] at e;cases e
   have z:=List.all_eq_true.mp hKT _ (PySem.W.mem_of_lookupK q)
   exact absurd (show false=true from z) Bool.false_ne_true
 have haT:a≠T:=fun z=>by rw [z,hTo] at ha;cases ha
 have hgT:mainGlobals≠T:=fun z=>by
  obtain ⟨o,es,ep,e,d,_⟩:=hns
  rw [z,hTo] at e;cases e;cases d
 have core:∀H:Hp,ZJ T H→SqL K H a (ns.map V.int)→HOk prog w H s₁.heap→(∀b,H b≠none→b=a∨b=T)→(H a≠none→K.lookup a=none)→
   codeAny (model prog w) callerA (.call (.ref fa) ⟨[.ref a],[]⟩) (fun r s'=>r=.ok (.ret (.bool true))∧OldK s₁.heap s'.heap∧s'.os=s₁.os∧AllBare s'.gens) s₁:=by
  intro H hO hS hok hA hK
  have free:∀{b:Addr} {o:Obj},s₁.heap.get? b=some o→o≠{cls:=.type "list",data:=.seq vs.toArray}→o≠{cls:=.none,data:=.fields #[]}→H b=none:=fun {b o} e n1 n2=>by
   cases q:H b with
   |none=>rfl
   |some u =>
    rcases hA b (by rw [q];simp) with z|z
    ·subst z;rw [ha] at e;cases e;exact absurd rfl n1
    ·subst z;rw [hTo] at e;cases e;exact absurd rfl n2
  have nsK:∀{b:Addr} {m:Str→Option Value},s₁.heap.Ns b m→(qD s₁.heap H).Ns b m:=fun {b m} ⟨o,es,ep,e,d,r⟩=>⟨o,es,ep,zM e (free e (fun z=>by subst z;cases d) fun z=>by subst z;cases d),d,r⟩
  have hKb:K.In (qD s₁.heap H):=fun b o e=>zM (KX b o e) (by
   cases q:H b with
   |none=>rfl
   |some u =>
    rcases hA b (by rw [q];simp) with z|z
    ·subst z;rw [hK (by rw [q];simp)] at e;cases e
    ·subst z;rw [hKT'] at e;cases e)
  have hCb:PySem.W.CodeHd (qD s₁.heap H) c T:=by
   obtain ⟨o,fs,file,tf,flags,tg,inF,text,tt,e1,e2,rest⟩:=hC
   exact ⟨o,fs,file,tf,flags,tg,inF,text,tt,zM e1 (free e1 (fun z=>by subst z;injection e2 with z;exact absurd z (by decide)) fun z=>by subst z;cases e2),e2,rest⟩
  have hBb:(qD s₁.heap H).BuiltinsAt mg T:=by
   obtain ⟨bm,o,b1,b2,b3,b4,e1,e2,e3,e4⟩:=hB
   exact ⟨bm,o,b1,b2,b3,b4,zM e1 (free e1 (fun z=>by subst z;injection e2 with z;exact absurd z (by decide)) fun z=>by subst z;cases e2),e2,e3,e4⟩
  have hM:Mod K mg (qD s₁.heap H):=⟨hKb,nsK hns,⟨mb,nsK hb,hbb⟩,let ⟨mc,h1,h2⟩:=hlim;⟨mc,nsK h1,h2⟩⟩
  have e0:Env0 prog w K mg (qD s₁.heap H) callerA [] s₁ H:=⟨rfl,hM,fun b o e=>cW e,Nat.le_of_eq (bD _ _),trivial,fun b hb=>absurd (show b∈([]:List Addr) from hb) (by simp),hok,.of_eq hg⟩
  refine codeAny_mono ((F _ hKb (nsK hns) hCb hBb hgT).run callerA [] s₁ H ⟨[.ref a],[]⟩ [.ref a] [.ref a] _ _ hr e0 (hbind s₁ (.ref a)) (.cons rfl .nil) (hsp H hO hS)) fun r s' h=>?_
  cases r with
  |error e=>exact (hCX H e s' h).elim
  |ok fl =>
   cases fl with
   |next=>exact False.elim h
   |brk=>exact False.elim h
   |cont=>exact False.elim h
   |ret u =>
    obtain ⟨v,H',os,bare,un,hok',r',q⟩:=h
    obtain rfl:v=.bl true:=q
    obtain rfl:u=Value.bool true:=r'
    have nofs:∀b:Addr,b∉jV ([]:List Env):=fun b z=>absurd (show b∈([]:List Addr) from z) (by simp)
    refine ⟨rfl,⟨fun b o e=>?_,fun b o e=>un.there b o e (by simp)⟩,os,bare⟩
    by_cases z:b=T
    ·subst z
     rw [hTo] at e;cases e
     obtain ⟨more,e2⟩:=un.tbls b #[] hO.1
     exact .inr (.inl ⟨hT.isCodeTable,rfl,#[],more,rfl,hok' b _ e2⟩)
    ·refine .inl ?_
     rcases hO.2 b z with q|⟨ob,xs,q⟩
     ·exact un.keep b o e q (nofs b) (by simp)
     ·have z2:=un.frzs b ob _ q
      obtain ⟨e1,_⟩:=hok b _ q
      obtain ⟨e2,_⟩:=hok' b _ z2
      rw [e] at e1;cases e1
      exact e2
 cases hk:K.lookup a with
 |some o =>
  have e:=KX a o hk
  rw [ha] at e
  cases e
  refine core (fun b=>if b=T then some (.tbl #[]) else none) ⟨if_pos rfl,fun b n=>.inl (if_neg n)⟩ (.inr ⟨_,vs.toArray,_,hk,rfl,rfl,rfl,by rw [List.size_toArray,lenV];exact hl,by simpa using rv⟩) (fun b u z=>?_) (fun b z=>?_) fun z=>absurd (if_neg haT) z
  ·by_cases hb:b=T
   ·have z':=(if_pos hb).symm.trans z
    cases z';subst hb;exact hTo
   ·have z':=(if_neg hb).symm.trans z
    cases z'
  ·by_cases hb:b=T
   ·exact .inr hb
   ·exact absurd (if_neg hb) z
 |none =>
  refine core (fun b=>if b=T then some (.tbl #[]) else if b=a then some (.frz {cls:=.type "list",data:=.seq vs.toArray} (.lst (ns.map V.int))) else none) ⟨if_pos rfl,fun b n=>?_⟩ (.inl (.inr ⟨{cls:=.type "list",data:=.seq vs.toArray},(if_neg haT).trans (if_pos rfl)⟩)) (fun b u z=>?_) (fun b z=>?_) fun _=>hk
  ·by_cases hb:b=a
   ·exact .inr ⟨_,_,(if_neg n).trans (if_pos hb)⟩
   ·exact .inl ((if_neg n).trans (if_neg hb))
  ·by_cases hb:b=T
   ·have z':=(if_pos hb).symm.trans z
    cases z';subst hb;exact hTo
   ·have z1:=(if_neg hb).symm.trans z
    by_cases hb':b=a
    ·have z':=(if_pos hb').symm.trans z1
     cases z'
     subst hb'
     exact ⟨ha,by rw [List.length_map];exact hl,vs,_,rv,ha⟩
    ·have z':=(if_neg hb').symm.trans z1
     cases z'
  ·by_cases hb:b=T
   ·exact .inr hb
   ·by_cases hb':b=a
    ·exact .inl hb'
    ·exact absurd ((if_neg hb).trans (if_neg hb')) z
theorem walk_ofT {l:PySem.W.OpenLaw} {n k:Nat} {q:Program} {loose:List Str} {XP:(Str→Option Value)→Heap→Prop} {YP:World→Heap→Prop} {d:DefRec} {K:Params→PySem.W.Frag} {CX:World→kE} {sp:World→Addr→Sp} {x:Str} {c T:Addr}
  (hn:l.most=some n) (hn2:n≤sizeLine) (hdf:d.params.defaults=[]) (hr:Room k callerA) (hrec:(recsOf q).find? (fun e=>e.name == d.name)=some d) (htab:∀P:Params,PySem.W.tabIn (K P) d.name=some (c,T)) (hno:∀P:Params,PySem.W.noTabs (K P)=true)
  (hY:∀(w:World) (h:Heap),YP w h→(K w.params).In h)
  (F:∀(w:World) (mg:Str→Option Value) (fa:Addr) (h:Heap),(K w.params).In h→h.Ns mainGlobals mg→mg d.name=some (.ref fa)→
   ∃fd:FuncData,(∀(s:Shared) (u:Value),BindsTo s fd ⟨[u],[]⟩ [(x,u)])∧
    ∀base:Heap,(K w.params).In base→base.Ns mainGlobals mg→PySem.W.CodeHd base c T→base.BuiltinsAt mg T→mainGlobals≠T→FnOk l.prog w (K w.params) mg base (CX w) k fa fd [x] (sp w T))
  (hsp:∀(w:World) (H:Hp) (a:Addr) (ns:List Int),ns.length≤n→ZJ T H→SqL (K w.params) H a (ns.map V.int)→sp w T [.ref a] H (fun v _=>v=.bl true) fun _ _ _=>False)
  (hCX:∀(w:World) (H:Hp) (s:Shared) (e:Value) (s':Shared),CX w [] H s (fun _ _ _=>False) e s'→False) :
  PySem.W.WalkO q loose XP YP l.row.toRowW d [] (fun f vs=>PySem.call f vs):=by
 refine Att.attach_call hn hdf fun w s₀ s₁ mg mb fa o pm cd doc a vs ns G Y ho hd hcd hmg hobj hints hlen hg=>?_
 have KX:=hY w _ Y
 obtain ⟨fd,hb,hF⟩:=F w mg fa _ KX G.T.g hmg
 obtain ⟨hC,hTo⟩:=PySem.W.tab_of G.T KX hrec (htab w.params)
 have hT:s₁.heap.TableAt c T #[]:=by
  obtain ⟨o,fs,file,tf,flags,tg,inF,text,tt,e1,e2,e3,e4,_⟩:=hC
  exact ⟨⟨o,fs,e1,e2,e3,e4⟩,hTo⟩
 have hB:s₁.heap.BuiltinsAt mg T:=by
  obtain ⟨bm,ob,b1,b2,b3,b4,b5,b6⟩:=G.T.bmain
  refine ⟨bm,ob,b1,b2,fun z=>?_,fun z=>?_,b3,b4,b5,b6⟩
  ·obtain ⟨o,es,ep,e,hd,_⟩:=G.T.g
   rw [z,e] at b3;cases b3;rw [hd] at b6;cases b6
  ·rw [z,hTo] at b3;cases b3;cases b4
 exact iD KX G.T.g G.T.b G.T.builtins G.T.nolimit hg hobj hints (Nat.le_trans hlen hn2) hr hC hT (hno w.params) hB hF hb (fun H hO hS=>hsp w H a ns hlen hO hS) fun H e s'=>hCX w H s₁ e s'
end L2
namespace L2
open PySem PySem.Spec PyProof.Rows
def dX (s:Stmt) (j:Nat):Stmt:=(jW s).getD j (.Pass ⟨0,0,0,0⟩)
theorem dJ {sc:Scope} {fr:List Str} (h:∀y∈sc.names,y.2=.free→y.1∈fr):∀x,sc.names.lookup x=some .free→x∈fr:=fun x e=>h _ (PySem.mem_of_lookup e) rfl
theorem q9 {A:Around} {k:Nat} (hr:Room k A):A.units+9<cLine:=by have:=hr.units;omega
theorem q5 {A:Around} {k:Nat} (hr:Room k A):A.units+10<cLine:=by have:=hr.units;omega
theorem JW {H:Hp} {cs:List Addr} (hc:y8 H cs):∀a l,H a=some (.tup l)→kD H cs a=some (.tup l):=fun a l e=>by
 rw [j9];exact e
 intro hin;obtain ⟨o,e2⟩:=hc a hin;rw [e] at e2;cases e2
theorem mM {H:Hp} {cs:List Addr} {p:Addr} {o:HO} (hp:p∉cs):kH (jB (kD H cs) p o) H cs=jB H p o:=by
 funext b
 by_cases hb:b∈cs
 ·have:b≠p:=fun z=>hp (z▸hb)
  rw [yZ hb,jC this]
 ·rw [kG hb]
  by_cases z:b=p
  ·subst z;rw [jE,jE]
  ·rw [jC z,jC z,j9 hb]
theorem mO {H:Hp} {cs:List Addr}:kH (kD H cs) H cs=H:=by
 funext b
 by_cases hb:b∈cs
 ·rw [yZ hb]
 ·rw [kG hb,j9 hb]
theorem nR {X:Cx} {i j:Nat} {c d:Addr} (h:∃y,X.N[i]?=some y∧X.env.scope.names.lookup y=some .cell∧X.env.cells.lookup y=some c∧X.fn y=true) (h2:∃y,X.N[j]?=some y∧X.env.scope.names.lookup y=some .cell∧X.env.cells.lookup y=some d∧X.fn y=true):ZB X [(i,c),(j,d)]:=fun q hq=>by
 rcases List.mem_cons.mp hq with rfl|hq
 ·exact h
 ·cases List.mem_singleton.mp hq;exact h2
section
variable {P:Program} {w:World} {K:PySem.W.Frag} {mg:Str→Option Value} {base:Heap}
theorem Fun.okC {x qual:Str} {st:Stmt} {f cL:Addr} {fd:FuncData} {N ps:List Str} {k:Nat} {sp:Sp} (F:Fun K x qual st f fd) (hcL:fd.code=.ref cL) (S:FnScope N ps (jJ st)) (len:∀vs H Q E,sp vs H Q E→vs.length=ps.length)
  (hbody:∀(A:Around) (outer:List Env) (s:Shared) (H:Hp) (vs:List V) (Q:VK) (E:XK),Room k (A.deeper (envOfC qual (jJ st) s.heap.objs.size f (.ref cL)))→sp vs H Q E→
   ∃t,PSs (kY j0 P w K mg base N qual (jJ st) f (.ref cL) A outer s H E).nox (jW st) t∧t {nx:=fun _ H'=>Q .non H',rt:=Q} (kL N vs) H):FnOk P w K mg base j0 (k+1) f fd ps sp:=by
 obtain ⟨oc,od,kV,doc,pm,an,cdv,ct,osl,rfl,lk,hcd⟩:=F.ex
 obtain rfl:cdv=.ref cL:=hcL
 refine z5 lk hcd S len fun A outer s H vs Q E hr hsp=>?_
 obtain ⟨t,h,q⟩:=hbody A outer s H vs Q E hr hsp
 exact ⟨t,h.nox,q⟩
end
end L2
namespace L2
open PySem PySem.Spec PyProof.Rows
section
variable {prog:Program} {w:World} {A:Around} {E:Value→Shared→Prop} {s:Shared} {d:Addr} {xs:List jX} {k:GK} {key v:Value}
theorem iB {Q:Value→Shared→Prop} (hu:A.units+9<cLine) (hkey:(GR s.heap k).1 key) (hk8:gd k≤8) (hd:(d == sysModules)=false) (hm:DictG w s.heap d xs) (q:∀n,Q (.bool (!(qG xs k).isSome)) {s with toks:=n}) :
  wpAny (model prog w) A (compareOp .NotIn key (.ref d)) Q E s:=by
 have T:=hm.typeIs
 show wpAny _ A (do return .bool (!(← contains (.ref d) key))) Q E s
 refine wpAny_bind ?_
 unfold contains
 refine wpAny_holding (wpAny_bind (wpAny_specialOf T slot_dict_contains.lookup ?_))
 show wpAny _ A (if (some (Value.builtin "dict.__contains__") == some Value.none)=true then _ else _) _ E s
 rw [if_neg (by rw [beq_builtin_none];decide)]
 refine wpAny_bind (wpAny_callSpecialUnlessNone?_slot (name:=Str.ofString "__contains__") T slot_dict_contains (wpAny_call_entry slot_dict_contains T entry_dict_contains ?_ (args_dict_contains _ _)))
 show wpAny _ A.in1 (dictGet d key >>= _) _ E s
 refine wpAny_bind (cX (by simp only [Around.in1_units];omega) hkey hk8 hm fun n=>?_)
 have q':=q n
 cases hg:qG xs k with
 |some u =>
  rw [hg] at q'
  show wpAny _ A.in1 (ret (.bool true)) _ E _
  exact wpAny_pure ⟨_,rfl,wpAny_truthy_bool (wpAny_pure q')⟩
 |none =>
  rw [hg] at q'
  show wpAny _ A.in1 (Builtin.Dict.pendingKey? d key >>= _) _ E _
  exact wpAny_bind (wpAny_pendingKey_other hd (wpAny_pure ⟨_,rfl,wpAny_truthy_bool (wpAny_pure q')⟩))
theorem gE (d:Addr) (hd:(d == sysModules)=false) :
  MeetsIn prog w (Builtin.«dict.__len__» ⟨[.ref d],[]⟩) (fun _ R s=>∃xs,DictG w s.heap d xs∧R (.ok (.ret (.int xs.length s.toks))) {s with toks:=s.toks+1}) :=
 .of_wp fun A R s ⟨xs,hm,h⟩=>by
  obtain ⟨o,es,ep,ho,hc,hdat,he⟩:=hm
  show wpAny _ _ (dictSize d >>= _) _ _ s
  unfold dictSize
  refine wpAny_bind (wpAny_bind (wpAny_dictEntries ho hdat (wpAny_pure ?_)))
  show wpAny _ _ (Builtin.Dict.pendingCount d >>= _) _ _ s
  refine wpAny_bind (wpAny_pendingCount_other hd ?_)
  refine wpAny_ret_mkInt ?_
  have:es.size=xs.length:=by rw [← Array.length_toList,he.es,List.length_map]
  rw [Nat.add_zero,this];exact h
theorem oH {Q:Value→Shared→Prop} (hd:(d == sysModules)=false) (hm:DictG w s.heap d xs) (hfit:(xs.length:Int)<2 ^ 63)
  (h:Q (.int xs.length (s.toks+1)) {s with toks:=s.toks+1+1}):wpAny (model prog w) A (call (.builtin "len") [.ref d]) Q E s:=by
 refine Calls.call_function_entry kind_len plain_len entry_len (args_len1 _) ?_
 unfold Builtin.«len»
 refine wpAny_bind (m:=oneArg "len" _) (wpAny_pure ?_)
 refine wpAny_bind (m:=callSpecial? (.ref d) (Str.ofString "__len__")) (wpAny_callSpecial?_slot (name:=Str.ofString "__len__") hm.typeIs PySem.F.slot_dict_len
  (call_meetsIn PySem.F.slot_dict_len hm.typeIs PySem.F.entry_dict_len (PySem.F.args_dict_len_1 _) (gE d hd) ⟨xs,hm,?_⟩))
 show wpAny _ _ _ _ _ {s with toks:=s.toks+1}
 refine wpAny_bind (wpAny_holding (wpAny_pure ?_))
 refine wpAny_bind (wpAny_letGo ?_)
 show wpAny _ _ (if ((xs.length:Nat):Int)<0 then _ else _) _ _ _
 rw [if_neg (by omega)]
 show wpAny _ _ (if ((xs.length:Nat):Int)≥2 ^ 63 then _ else _) _ _ _
 rw [if_neg (by omega)]
 exact wpAny_bind (wpAny_mkInt (wpAny_pure ⟨_,rfl,h⟩))
end
section
variable {X:Cx} {pins:List (Addr×Obj)} {σ:St} {H:Hp} {s:Shared} {d:Addr} {k:GK} {y v:V} {u r:Value} {A:Around} {E:Value→Shared→Prop} {kvs:List jR}
theorem oP {Q:Unit→Shared→Prop} (hu:A.units+8<cLine) (I:Inv X pins σ H s) (e:H d=some (GO X.w d kvs)) (g:GOk H kvs) (hy:(GV H k).1 y) (h8:gd k≤8) (hl:kvs.length<sizeLine) (ry:RelV y u) (rv:RelV v r)
  (h:∀s',Inv X pins σ (jB H d (GO X.w d (kA kvs k y v))) s'→Q () s'):wpAny (model X.prog X.w) A (dictSet d u r) Q E s:=by
 obtain ⟨_,hm,xs,rel,dd⟩:=I.gdict (.of e) g
 refine cR hu ((GV.rel I.hok k).1 y u hy ry) h8 dd (by rw [← Paired.length rel];omega) fun n h' dd' sb=>h _ ?_
 obtain ⟨o,es,ep,ho,hc,hd,he,_⟩:=dd'
 refine cZ I (by rw [e];exact True.intro) sb ⟨o,ho⟩ ⟨⟨by have:=JS kvs k y v;omega,hm,_,RelG.set ry rv rel,o,es,ep,ho,hc,hd,he⟩,⟨o,ho⟩,?_⟩
 rintro h1 h2 ⟨a1,a2,xs',a3,o',es',ep',a4,a5⟩ kp
 exact ⟨a1,a2,xs',a3,o',es',ep',kp _ a4,a5⟩
end
def cH (w:World) (ty td:TE):TE:=fun σ H Q=>ty σ H fun y H1=>td σ H1 fun x H2=>∃(d:Addr) (kvs:List jR) (k:GK),x=.ref d∧Rd H2 d (GO w d kvs)∧GOk H2 kvs∧(GV H2 k).1 y∧gd k≤8∧Q (.bl (!(jQ kvs k).isSome)) H2
def mU (w:World) (tk tv:TE):TE:=fun σ H Q=>∀p,H p=none→tk σ (jB H p (GO w p [])) fun y H1=>tv σ H1 fun v H2=>H2 p=some (GO w p [])∧∃k,(GV H2 k).1 y∧gd k≤8∧Q (.ref p) (jB H2 p (GO w p [(k,y,v)]))
section
variable {X:Cx} {o i e value:Expr} {pos pos':Pos} {td ty tv:TE}
theorem bA (hu:X.A.units+9<cLine) (hi:PE X i ty) (ho:PE X o td):PC X .NotIn i o (cH X.w ty td):=by
 intro pins s σ H Q I h
 refine jI (hi pins s σ H _ I h) fun iv s1 ⟨y,H1,I1,ry,q1⟩=>jI (ho pins s1 σ H1 _ I1 q1) fun u s2 ⟨x,H2,I2,rx,d,kvs,k,ex,hd,g,hy,h8,q2⟩=>?_
 subst ex
 obtain rfl:u=Value.ref d:=rx
 obtain ⟨_,hm,xs,rel,dd⟩:=I2.gdict hd g
 exact iB hu ((GV.rel I2.hok k).1 y iv hy ry) h8 hm dd fun n=>⟨.bl (!(jQ kvs k).isSome),H2,I2.tok n,by rw [RelG.none rel];rfl,q2⟩
theorem gT:CallR X (.builtin "len") (fun xs H Q=>∃p kvs,xs=[.ref p]∧Rd H p (GO X.w p kvs)∧GOk H kvs∧Q (.int kvs.length) H):=by
 intro pins s σ H xs us Q I r h
 obtain ⟨p,kvs,rfl,hd,g,q⟩:=h
 obtain ⟨u,rfl,rx⟩:=vV r
 cases rx
 obtain ⟨hz,hm,xs,rel,dd⟩:=I.gdict hd g
 have hl:=Paired.length rel
 have hn:=y0
 exact oH hm dd (by omega) ⟨.int kvs.length,H,I.tok _,⟨s.toks+1,by rw [hl]⟩,q⟩
theorem bW {a b:Expr} {tk tv:TE} (hu:X.A.units+9<cLine) (hk:PE X a tk) (hv:PE X b tv):PE X (.Dict [some a] [b] pos) (mU X.w tk tv):=by
 intro pins s σ H Q I h
 have hn:=I.hok.fresh (Nat.le_refl s.heap.objs.size)
 have I1:=I.laid (a:=s.heap.objs.size) (o:=GO X.w s.heap.objs.size []) (h':=s.heap.push {cls:=.type "dict",data:=.dict #[]}) (t':=s.toks) (fun _ _ q=>Heap.get?_push_of_some _ q) (Nat.le_refl _)
  ⟨⟨Nat.zero_le _,beq_eq_false_iff_ne.mpr (Ne.symm (Nat.ne_of_lt I.big)),[],.nil,_,#[],0,Heap.get?_push_size _ rfl,⟨rfl,rfl,rfl⟩,rfl,rfl⟩,⟨_,Heap.get?_push_size _ rfl⟩,
   fun h1 h2 ⟨a1,a2,xs',a3,o',es',ep',a4,a5⟩ kp=>⟨a1,a2,xs',a3,o',es',ep',kp _ a4,a5⟩⟩
 refine wpAny_Dict_any rfl rfl (List.cons_ne_nil _ _) (show 1≤15 by decide) (jI (iY (pos:=pos) hk hv lQ pins _ σ _ (fun ps H2=>match ps with|[(y,v)]=>H2 s.heap.objs.size=some (GO X.w s.heap.objs.size [])∧∃k,(GV H2 k).1 y∧gd k≤8∧Q (.ref s.heap.objs.size) (jB H2 s.heap.objs.size (GO X.w s.heap.objs.size [(k,y,v)]))|_=>False) I1 ?_) fun ws s2 ⟨ps,H2,I2,rel,hq⟩=>?_)
 ·have h1:=h _ hn
  exact h1
 match ps,rel,hq with
 |[(y,v)],.cons (b:=b) r .nil,⟨e,k,hy,h8,q2⟩ =>
  show wpAny _ _ (storeAll s.heap.objs.size [b]) _ _ _
  unfold storeAll
  simp only [List.forIn_cons,List.forIn_nil]
  refine wpAny_bind (wpAny_bind (oP (by omega) I2 e GOk.nil hy h8 (by rw [sizeLine_eq];decide) r.1 r.2 fun s3 I3=>wpAny_pure ?_))
  exact wpAny_pure ⟨.ref s.heap.objs.size,_,I3,rfl,q2⟩
end
section
variable {X:Cx} {o i:Expr} {pos:Pos} {td ty:TE}
theorem gO (w:World) (hu:X.A.units+9<cLine) (hi:PE X i ty) (ho:PE X o td) (hw:X.w=w:=by rfl):PC X .NotIn i o (cH w ty td):=by subst hw;exact bA hu hi ho
theorem iZ (w:World) (hu:X.A.units+9<cLine) (ho:PE X o td) (hi:PE X i ty) (hs:ZN i) (hw:X.w=w:=by rfl):PE X (.Subscript o i pos) (dR w td ty):=by subst hw;exact vL hu ho hi hs
end
def pA (K:PySem.W.Frag) (neg:Bool):R2:=fun x y H Q=>∃(p:Addr) (xs:List V) (k:GK) (ks:List GK),y=.ref p∧SqL K H p xs∧(GV H k).1 x∧gd k≤8∧(xs.length=ks.length∧∀(i:Nat) z,xs[i]?=some z→∃k',ks[i]?=some k'∧(GV H k').1 z∧gd k'≤8)∧Q (.bl (if neg then !decide (k∈ks) else decide (k∈ks))) H
section
variable {X:Cx} {pins:List (Addr×Obj)} {σ:St} {H:Hp} {s:Shared}
open Classical in
theorem lF {k:GK} {xs:List V} {ks:List GK} {its:List Value} (I:Inv X pins σ H s) (r:Vals xs its) (hk:xs.length=ks.length∧∀(i:Nat) z,xs[i]?=some z→∃k',ks[i]?=some k'∧(GV H k').1 z∧gd k'≤8) :
  its.any (fun y=>decide ((GR s.heap k).1 y))=decide (k∈ks):=by
 have hl:=r.length
 rw [Bool.eq_iff_iff]
 simp only [List.any_eq_true,decide_eq_true_eq]
 constructor
 ·rintro ⟨w,hw,he⟩
  obtain ⟨i,hi⟩:=List.mem_iff_getElem?.mp hw
  have hlt:i<xs.length:=by rw [hl];exact (List.getElem?_eq_some_iff.mp hi).1
  obtain ⟨k',e1,e2,_⟩:=hk.2 i _ (List.getElem?_eq_getElem hlt)
  obtain ⟨u,hu,rv⟩:=r.get (List.getElem?_eq_getElem hlt)
  rw [hi] at hu;cases hu
  rw [← (GR.inj k' k).1 w ((GV.rel I.hok k').1 _ _ e2 rv) he]
  exact List.mem_of_getElem? e1
 ·intro hm
  obtain ⟨i,hi⟩:=List.mem_iff_getElem?.mp hm
  have hlt:i<xs.length:=by rw [hk.1];exact (List.getElem?_eq_some_iff.mp hi).1
  obtain ⟨k',e1,e2,_⟩:=hk.2 i _ (List.getElem?_eq_getElem hlt)
  rw [hi] at e1;cases e1
  obtain ⟨u,hu,rv⟩:=r.get (List.getElem?_eq_getElem hlt)
  exact ⟨u,List.mem_of_getElem? hu,(GV.rel I.hok k).1 _ _ e2 rv⟩
open Classical in
theorem mH {k:GK} {x:V} {v:Value} {xs:List V} {ks:List GK} {its:List Value} {A:Around} (hu:A.units+9<cLine) (I:Inv X pins σ H s) (r:Vals xs its) (hx:(GV H k).1 x) (rx:RelV x v) (hk:xs.length=ks.length∧∀(i:Nat) z,xs[i]?=some z→∃k',ks[i]?=some k'∧(GV H k').1 z∧gd k'≤8) :
  ∀y,y∈its.toArray→SeqAt.EqAt A s y v (decide ((GR s.heap k).1 y)):=by
 intro y hy
 have hl:=r.length
 obtain ⟨i,hi⟩:=List.mem_iff_getElem?.mp (by simpa using hy:y∈its)
 have hlt:i<xs.length:=by rw [hl];exact (List.getElem?_eq_some_iff.mp hi).1
 obtain ⟨k',e1,e2,e3⟩:=hk.2 i _ (List.getElem?_eq_getElem hlt)
 obtain ⟨u,hu',rv⟩:=r.get (List.getElem?_eq_getElem hlt)
 rw [hi] at hu';cases hu'
 have g1:=(GV.rel I.hok k').1 _ _ e2 rv
 have g2:=(GV.rel I.hok k).1 _ _ hx rx
 have:=(ZF k' k).1 A _ _ g1 g2 (by omega)
 have e:decide ((GR s.heap k).1 y)=decide (k'=k):=by
  by_cases h:k'=k
  ·subst h;simp [g1]
  ·have:¬(GR s.heap k).1 y:=fun z=>h ((GR.inj k' k).1 y g1 z)
   simp [h,this]
 rw [e]
 exact this
open Classical in
theorem g9 (hu:X.A.units+10<cLine):OpR X (compareOp .NotIn) (pA X.K true):=by
 intro pins s σ H x y v u Q I rx ry h
 obtain ⟨p,xs,k,ks,rfl,hq,hx,h8,hk,q⟩:=h
 cases ry
 obtain ⟨its,r,pl,hz⟩:=I.list hq
 refine SeqAt.notIn_listAt (fun y=>decide ((GR s.heap k).1 y)) pl.isList (mH (by simp only [Around.in1_units];omega) I r hx rx hk) ⟨.bl _,H,I,rfl,?_⟩
 rw [show its.toArray.any (fun y=>decide ((GR s.heap k).1 y))=its.any (fun y=>decide ((GR s.heap k).1 y)) by simp,lF I r hk]
 exact q
end
end L2
namespace L2
open PySem PySem.Spec PyProof.Rows
theorem iC:typeLookup (.type "list_reverseiterator") "__len__"=pure none:=by rw [typeLookup_type,builtinLookup_eq_fast];kernel_rfl
theorem i6:typeLookup (.type "list_reverseiterator") "__length_hint__"=pure (some (.builtin "list_reverseiterator.__length_hint__")):=by rw [typeLookup_type,builtinLookup_eq_fast];kernel_rfl
section
variable {prog:Program} {w:World} {A:Around} {s:Shared} {E:Value→Shared→Prop}
theorem gL {R:Result→Shared→Prop} (hh:A.handled=none) {I l S:Addr} {items:Array Value} (hne:l≠I) (hSI:S≠I) (hSl:S≠l) (hn:items.size≤sizeLine) (res:Value) (c₀:Nat) (hit:s.heap.IsRevIter I l ((items.size:Int) - 1)) (hl:s.heap.IsList l items)
  (hS:s.heap.get? S=some {cls:=.type "list",data:=.seq #[] c₀})
  (q:∀s' acc' c',Moved [S,I] (fun a b=>b=a) s s'→s'.heap.get? S=some {cls:=.type "list",dict:=none,data:=.seq acc' c',slots := #[]}→ItemsOf (fun i v=>items[items.size - 1 - i]?=some v) acc' items.size→R (.ok (.ret res)) s') :
  wpAny (model prog w) A.in1 (Builtin.List.listExtendWith (.ref S) (.ref I) res)
   (fun fin s'=>match fin with|.done f=>R (.ok f) s'|.again c'=>c'.quiet=true∧codeAny (model prog w) A c' R s') (fun e s'=>R (.error e) s') s:=by
 have W:=(Walks.listRev (prog:=prog) (w:=w) (A:=A.in1) (by simp [hh]) I l hne items).toS
 have hT:s.TypeIs (.ref I) "list_reverseiterator":=hit.typeIs
 have h1:Builtin.List.listSameRef (.ref S) (.ref I)=false:=by simp [Builtin.List.listSameRef,hSI]
 have e:(items.size:Int) - 1 - ((0:Nat):Int)=(items.size:Int) - 1:=by omega
 have hst:0≤items.size∧s.heap.IsRevIter I l ((items.size:Int) - 1 - ((0:Nat):Int))∧s.heap.IsList l items:=⟨Nat.zero_le _,by rw [e];exact hit,hl⟩
 unfold Builtin.List.listExtendWith
 refine wpAny_bind (wpAny_typeOf hT ?_)
 rw [if_neg (by rw [h1];decide)]
 refine wpAny_bind (W.self 0 _ _ _ hst ?_)
 refine wpAny_bind (wpAny_holding ?_)
 unfold Builtin.List.listLengthHint
 refine wpAny_bind (wpAny_specialOf hT iC ?_)
 show wpAny _ A.in1 (specialOf (Value.ref I) (Str.ofString "__length_hint__") >>= _) _ _ _
 refine wpAny_bind (wpAny_specialOf hT i6 ?_)
 (generalize hid:("list_reverseiterator.__length_hint__":String)=id0;(fail_if_success (clear hid id0));wp_delta;rw [show splitId id0=some ("list_reverseiterator","__length_hint__") from by subst hid;decide +kernel];subst hid)
 refine wpAny_bind (wpAny_isInstance (b:=true) hT (by rw [isSubtype_type];kernel_rfl) ?_)
 refine wpAny_pure ?_
 rw [if_neg (by decide)]
 refine wpAny_pure ⟨plainId_quiet F.plain_extend_loop _,codeAny_extend_loopS W hn S (by simp [hSI,hSl]) res items.size 0 _ #[] c₀ rfl (Nat.zero_le _) hst hS (ItemsOf.nil _) fun s' acc' c' hm hS' hacc=>q s' acc' c' hm hS' hacc⟩
theorem fX {Q:Value→Shared→Prop} (hh:A.handled=none) {I l:Addr} {items:Array Value} (hne:l≠I) (hn:items.size≤sizeLine) (hit:s.heap.IsRevIter I l ((items.size:Int) - 1)) (hl:s.heap.IsList l items)
  (q:∀s' acc' c',Moved [s.heap.objs.size,I] (fun a b=>b=a) s s'→s'.heap.get? s.heap.objs.size=some {cls:=.type "list",dict:=none,data:=.seq acc' c',slots := #[]}→ItemsOf (fun i v=>items[items.size - 1 - i]?=some v) acc' items.size→Q (.ref s.heap.objs.size) s') :
  wpAny (model prog w) A (call (.type "list") [.ref I]) Q E s:=by
 have lI:I<s.heap.objs.size:=by obtain ⟨o,ho,_⟩:=hit;exact Heap.lt_size ho
 have ll:l<s.heap.objs.size:=by obtain ⟨o,ho,_⟩:=hl;exact Heap.lt_size ho
 refine callType_codes (Q₁:=fun obj s₁=>obj=.ref s.heap.objs.size∧s₁={s with heap:=s.heap.push {cls:=.type "list",data:=.seq #[]}}) F.called_list (F.typeCall_list_1 _) F.entry_list_init (code_list_new _ ⟨rfl,rfl⟩) fun obj s₁ e₁=>?_
 obtain ⟨rfl,rfl⟩:=e₁
 have g1:(s.heap.push {cls:=.type "list",data:=.seq #[]}).get? s.heap.objs.size=some {cls:=.type "list",data:=.seq #[]}:=Heap.get?_push_size _ rfl
 have kp0:∀d o,s.heap.get? d=some o→(s.heap.push {cls:=.type "list",data:=.seq #[]}).get? d=some o:=fun d o e=>Heap.get?_push_of_some _ e
 refine ⟨⟨_,g1,rfl⟩,F.args_list_init_2 _ _,?_⟩
 show wpAny _ _ (do let old ← Builtin.List.listItems (.ref s.heap.objs.size);Builtin.List.listUpdate (.ref s.heap.objs.size) (fun _ => #[]);letGo old.toList.reverse;Builtin.List.listExtendWith (.ref s.heap.objs.size) (.ref I) .none) _ _ _
 refine wpAny_bind ?_
 unfold Builtin.List.listItems
 refine wpAny_bind (wpAny_seqItems g1 rfl (wpAny_pure ?_))
 show wpAny _ _ (updateSeq s.heap.objs.size (fun _ => #[]) >>= fun _=>letGo (#[]:Array Value).toList.reverse >>= fun _=>Builtin.List.listExtendWith (.ref s.heap.objs.size) (.ref I) .none) _ _ _
 refine wpAny_bind (wpAny_updateSeq g1 rfl ?_)
 have g2:=Heap.get?_update_self (Obj.mapSeq (fun _=>(#[]:Array Value))) g1 rfl
 have kq:∀d o,d≠s.heap.objs.size→s.heap.get? d=some o→((s.heap.push {cls:=.type "list",data:=.seq #[]}).update s.heap.objs.size (Obj.mapSeq (fun _=>(#[]:Array Value)))).get? d=some o:=fun d o hd e=>(Heap.get?_update_other _ _ (Ne.symm hd)).trans (kp0 d o e)
 refine wpAny_bind (wpAny_letGo ?_)
 refine gL (A:=A.in1) (by simp [hh]) hne (Nat.ne_of_gt lI) (Nat.ne_of_gt ll) hn .none _ (hit.at fun o e=>kq _ o (Nat.ne_of_lt lI) e) (hl.at fun o e=>kq _ o (Nat.ne_of_lt ll) e) g2 fun s' acc' c' hm hS' hp=>⟨rfl,q s' acc' c' ⟨fun b o hb e=>hm.heap b o hb (kq b o (fun z=>hb (by rw [z];simp)) e),hm.gens,hm.drawn,hm.os,hm.toks⟩ hS' hp⟩
end
section
variable {X:Cx}
def iR (K:PySem.W.Frag) (ta:TA):TE:=fun σ H Q=>ta σ H fun vs H1=>∃(a:Addr) (xs:List V),vs=[.ref a]∧SqL K H1 a xs∧∀l,H1 l=none→Q (.ref l) (jB H1 l (.lst xs.reverse))
theorem fZ:bootBuiltins "reversed"=some (.type "reversed"):=by kernel_rfl
theorem gN {a:Expr} {ta:TA} {p p1 pos pos1:Pos} (hc:X.calm=true) (hgl:Gl X "list") (hml:X.mg "list"=none) (hg:Gl X "reversed") (hm:X.mg "reversed"=none) (ha:PA X [a] ta) (hs:starEach [a] X.env=[(false,eval a X.env)]:=by rfl)
  (hs3:starEach [.Call (.Name "reversed" p1) [a] [] pos1] X.env=[(false,eval (.Call (.Name "reversed" p1) [a] [] pos1) X.env)]:=by rfl) :
  PE X (.Call (.Name "list" p) [.Call (.Name "reversed" p1) [a] [] pos1] [] pos) (iR X.K ta):=by
 intro pins s σ H Q I h
 refine wpAny_Call_Name_kw (y6 I hgl hml PyProof.Rows.boot_list ?_)
 refine PyProof.Rows.callWith_type1 ?_ hs3 rfl
 rw [hs3]
 show wpAny _ _ (spliced [(false,eval (.Call (.Name "reversed" p1) [a] [] pos1) X.env)]) _ _ s
 refine Calls.spliced_cons ?_
 refine Call_ (y6 I hg hm fZ (PyProof.Rows.callWith_type1 (jI (ha pos1 pins s σ H _ I h) fun us s1 ⟨vs,H1,I1,r1,q1⟩=>?_) (by rw [hs];rfl) rfl))
 obtain ⟨a1,xs,e,hq1,q⟩:=q1
 subst e
 obtain ⟨u,rfl,rx⟩:=vV r1
 cases rx
 obtain ⟨its,rv,pl,z1⟩:=I1.list hq1
 have hlen:=rv.length
 have lt1:a1<s1.heap.objs.size:=by obtain ⟨o,e,_⟩:=pl.isList;exact Heap.lt_size e
 refine call_reversed_list pl.isList ?_
 refine Calls.spliced_nil ?_
 refine fX (items:=its.toArray) (I.ok.hd hc) (Nat.ne_of_lt lt1) (by rw [List.size_toArray];omega) ⟨_,Heap.get?_push_size _ rfl,rfl,rfl⟩ (pl.isList.at fun o e=>Heap.get?_push_of_some _ e) fun s' acc c hmv hS hit=>?_
 have e8:s'={s1 with heap:=s'.heap,toks:=s'.toks}:=by
  have hg:=hmv.gens
  have hd:=hmv.drawn
  have ho:=hmv.os
  cases s'
  cases s1
  simp only at hg hd ho
  subst hg hd ho
  rfl
 have ea:acc.toList=its.reverse:=by
  refine List.ext_getElem? fun j=>?_
  have hsz:acc.size=its.length:=by rw [hit.1,List.size_toArray]
  by_cases hj:j<its.length
  ·have hja:j<acc.size:=by rw [hsz];exact hj
   have h1:=hit.2 j _ (Array.getElem?_eq_getElem hja)
   rw [List.size_toArray] at h1
   rw [List.getElem?_reverse hj,Array.getElem?_toList,Array.getElem?_eq_getElem hja,← h1]
   simp
  ·rw [List.getElem?_eq_none (by rw [Array.length_toList,hsz];omega),List.getElem?_eq_none (by rw [List.length_reverse];omega)]
 have kp:∀b u,s1.heap.get? b=some u→s'.heap.get? b=some u:=fun b u e=>by
  refine hmv.heap b u (fun hb=>?_) (Heap.get?_push_of_some _ e)
  have:=Heap.lt_size e
  simp only [List.mem_cons,List.mem_nil_iff,or_false,Heap.size_push] at hb
  rcases hb with rfl|rfl
  ·exact absurd this (by simp only [Addr] at *;omega)
  ·exact absurd this (Nat.lt_irrefl _)
 rw [e8]
 have hle:s1.heap.objs.size≤(s1.heap.push (revObj a1 ((its.toArray.size:Int) - 1))).objs.size:=by rw [Heap.size_push];exact Nat.le_succ _
 refine ⟨.ref _,_,I1.laid (o:=.lst xs.reverse) kp hle ⟨by rw [List.length_reverse];exact z1,its.reverse,c,rv.reverse,?_⟩,rfl,q _ (I1.hok.fresh hle)⟩
 rw [← ea]
 exact hS
end
section
variable {X:Cx}
def m6:R2:=fun x y H Q=>∃(z:Str) (k:Int),x=.str z∧y=.int k∧0≤k∧k≤1000∧z.length≤100∧Q (.str (qX z k.toNat)) H
theorem i1:OpR X (binaryOp .Mult) m6:=by
 intro pins s σ H x y v u Q I rx ry h
 obtain ⟨z,k,rfl,rfl,h0,h1,hz,q⟩:=h
 obtain ⟨t,rfl⟩:=rx
 obtain ⟨t',rfl⟩:=ry
 have hm:z.length*k.toNat≤100000:=Nat.le_trans (Nat.mul_le_mul hz (show k.toNat≤1000 by omega)) (Nat.le_refl _)
 refine P.mul_str ?_ (fun h2 _=>?_) (fun _ _=>?_) ?_
 ·rw [decide_eq_false (by omega),decide_eq_false (by omega)];rfl
 ·have:(100:Int)≤(2 ^ 63 - 1) / k:=by
   rw [Int.le_ediv_iff_mul_le (by omega)]
   omega
  omega
 ·exact decide_eq_false (Nat.not_lt.mpr (Nat.le_trans hm (by decide)))
 ·by_cases h2:k<1
  ·rw [if_pos h2]
   have e:k.toNat=0:=by omega
   rw [e] at q
   exact ⟨by decide,.str (qX z 0),H,I.tok _,⟨_,rfl⟩,q⟩
  ·rw [if_neg h2]
   by_cases h3:(k == 1||z.length == 0)=true
   ·rw [if_pos h3]
    have e:qX z k.toNat=z:=by
     have:(qX z k.toNat).cps.toList=z.cps.toList:=by
      rw [bT]
      rcases Bool.or_eq_true_iff.mp h3 with h|h
      ·rw [show k.toNat=1 by have:=eq_of_beq h;omega];simp
      ·have h:z.cps.size=0:=eq_of_beq h
       rw [Array.eq_empty_of_size_eq_zero h]
       simp
     cases hr:qX z k.toNat with
     |mk a=>rw [hr] at this;obtain ⟨b⟩:=z;exact congrArg Str.mk (Array.toList_inj.mp this)
    rw [e] at q
    exact ⟨.str z,H,I,⟨_,rfl⟩,q⟩
   ·rw [if_neg h3]
    exact ⟨by show (qX z k.toNat).length≤sizeLine;rw [iT,Nat.mul_comm];exact Nat.le_trans hm (by decide),.str (qX z k.toNat),H,I.tok _,⟨_,rfl⟩,q⟩
end
end L2
namespace My
open PySem L2
def top (i:Nat):Stmt:=PySem.Challenge.pw_lockhouse_k55_too_wide.main.body.getD i (.Pass ⟨0,0,0,0⟩)
abbrev qQ:Stmt:=dX (top 23) 5
abbrev q4:Stmt:=dX (top 23) 6
abbrev yQ:Stmt:=top 10
abbrev yR:Stmt:=top 11
abbrev v9:Stmt:=top 9
abbrev yI:Stmt:=top 13
abbrev yL:Stmt:=top 14
abbrev yJ:Stmt:=top 15
abbrev yK:Stmt:=top 16
abbrev yM:Stmt:=top 17
abbrev yO:Stmt:=top 18
abbrev yN:Stmt:=top 19
abbrev yH:Stmt:=top 20
abbrev v8:Stmt:=top 21
abbrev yP:Stmt:=top 22
abbrev qN:Stmt:=top 23
theorem oA {K:W.Frag} {H H':Hp} {a:Addr} {xs:List V} (e:Same H H') (h:SqT K H a xs):SqT K H' a xs:=by
 rcases h with (h|⟨o,h⟩)|h
 ·exact .inl (.inl (e _ _ h))
 ·exact .inl (.inr ⟨o,e _ _ h⟩)
 ·exact .inr h
theorem jN {H:Hp} {p:Addr} (h:H p=none) (o:HO):Same H (jB H p o):=fun b u q=>by rw [jC (kM q h)];exact q
theorem jY {n:Nat} (h:n≤1000):n≤sizeLine:=Nat.le_of_lt (QL h)
def Ints (K:W.Frag) (H:Hp) (a:Addr) (ws:List Int):Prop:=SqL K H a (ws.map V.int)∨SqT K H a (ws.map V.int)
theorem Ints.same {K:W.Frag} {H H':Hp} {a:Addr} {ws:List Int} (e:Same H H') (h:Ints K H a ws):Ints K H' a ws:=by
 rcases h with h|h
 ·exact .inl (e.seq h)
 ·exact .inr (oA e h)
theorem lD {ws:List Int} {s:Nat} (h:s<ws.length):qK (ws.map V.int) (s:Int)=some (.int (ws.getD s 0)):=by
 refine zS ?_
 rw [List.getElem?_map,List.getElem?_eq_getElem h,List.getD_eq_getElem?_getD,List.getElem?_eq_getElem h]
 rfl
theorem QV (ns:List Int) (lo hi:Option Int):∃ms:List Int,vE (ns.map V.int) lo hi=ms.map V.int∧ms.length≤ns.length:=by
 refine ⟨(ns.drop (HT.sIx ns.length 0 lo)).take (HT.sIx ns.length ns.length hi - HT.sIx ns.length 0 lo),?_,?_⟩
 ·unfold vE
  rw [List.length_map,List.map_take,List.map_drop]
 ·rw [List.length_take,List.length_drop]
  omega
theorem Q4 {ms:List Int} {i:Nat} {x:V} (h:(ms.map V.int)[i]?=some x):∃z,x=V.int z∧ms[i]?=some z:=by
 rw [List.getElem?_map] at h
 cases e:ms[i]? with
 |none=>rw [e] at h;cases h
 |some z=>rw [e] at h;exact ⟨z,(Option.some.inj h).symm,rfl⟩
theorem g0 (ms:List Int) (z:Int):ms.map V.int++[V.int z]=(ms++[z]).map V.int:=by simp
def ZD (K:W.Frag):Sp:=fun vs H Q _=>∃(a:Addr) (ns:List Int) (k:Nat),vs=[.ref a,.int k]∧SqL K H a (ns.map V.int)∧Q (.int (ns.getD k 0)) H
theorem qR {n:Nat} (h:n≤4000):n<sizeLine:=by rw [sizeLine_eq];omega
abbrev jF:=List (GK×List (GK×GK))
def jM (T:jF) (k:GK):Option (List (GK×GK)):=(T.find? fun p=>decide (p.1=k)).map (·.2)
def PairsAt (H:Hp) (xs:List V) (ps:List (GK×GK)):Prop:=xs.length=ps.length∧∀(i:Nat) (x:V),xs[i]?=some x→∃(p:GK×GK) (a:Addr) (b c:V),ps[i]?=some p∧x=.ref a∧H a=some (.tup [b,c])∧(GV H p.1).1 b∧(GV H p.2).1 c∧gd p.1≤8∧gd p.2≤8
theorem jZ {H H':Hp} {k:GK} {v:V} (s:Same H H') (h:(GV H k).1 v):(GV H' k).1 v:=(GV.keep (fun a l e=>s _ _ e) k).1 v h
theorem qI {H H':Hp} {kvs:List jR} (s:Same H H') (h:GOk H kvs):GOk H' kvs:=h.keep fun a l e=>s _ _ e
theorem PairsAt.same {H H':Hp} {xs:List V} {ps:List (GK×GK)} (s:Same H H') (h:PairsAt H xs ps):PairsAt H' xs ps:=⟨h.1,fun i x e=>by
 obtain ⟨p,a,b,c,e1,e2,e3,e4,e5,e6⟩:=h.2 i x e
 exact ⟨p,a,b,c,e1,e2,s _ _ e3,jZ s e4,jZ s e5,e6⟩⟩
structure TabAt (w:World) (H:Hp) (d:Addr) (T:jF) (ls:List Addr):Prop where
 ex:∃kvs,H d=some (GO w d kvs)∧GOk H kvs∧((∀k k' l,jQ kvs k=some (.ref l)→jQ kvs k'=some (.ref l)→k=k')∧(∀k l,jQ kvs k=some (.ref l)→l∈ls)∧kvs.length≤ls.length)∧∀k ps,jM T k=some ps→∃l xs,jQ kvs k=some (.ref l)∧H l=some (.lst xs)∧PairsAt H xs ps
 few:∀k ps,jM T k=some ps→ps.length≤1200
 shut:∀k ps p,jM T k=some ps→p∈ps→(jM T p.2).isSome=true
 deep:∀k ps,jM T k=some ps→gd k≤8
theorem TabAt.same {w:World} {H H':Hp} {d:Addr} {T:jF} {ls:List Addr} (s:Same H H') (h:TabAt w H d T ls):TabAt w H' d T ls:=by
 obtain ⟨⟨kvs,e1,e2,ap,e3⟩,e4,e5,e6⟩:=h
 refine ⟨⟨kvs,s _ _ e1,qI s e2,ap,fun k ps hk=>?_⟩,e4,e5,e6⟩
 obtain ⟨l,xs,f1,f2,f3⟩:=e3 k ps hk
 exact ⟨l,xs,f1,s _ _ f2,f3.same s⟩
structure MarkAt (w:World) (H:Hp) (d:Addr) (T:jF) (M:GK→Bool):Prop where
 ex:∃kvs,H d=some (GO w d kvs)∧GOk H kvs∧∀k,(jM T k).isSome=true→jQ kvs k=some (.bl (M k))
theorem MarkAt.same {w:World} {H H':Hp} {d:Addr} {T:jF} {M:GK→Bool} (s:Same H H') (h:MarkAt w H d T M):MarkAt w H' d T M:=by
 obtain ⟨kvs,e1,e2,e3⟩:=h.ex
 exact ⟨kvs,s _ _ e1,qI s e2,e3⟩
theorem lY {H:Hp} {cs:List Addr} {l:Addr} {xs:List V} (hc:y8 H cs) (e:H l=some (.lst xs)):l∉cs:=fun hin=>by
 obtain ⟨o,e2⟩:=hc l hin
 rw [e] at e2;cases e2
theorem lB {H H':Hp} {f:Addr} {qual:Str} {params:Arguments} {body:List Stmt} {scope:Scope} {cl:List (Str×Addr)} {fvs:List V} {cdv:Value} {fd:FuncData} (s:Same H H') (C:CloAt H f qual params body scope cl fvs cdv fd):CloAt H' f qual params body scope cl fvs cdv fd:=by
 obtain ⟨⟨fo,name,doc,pm,an,ct,a1,a2⟩,⟨c,oc,vs,t,b1,b2,b3⟩,c1,c2,c3⟩:=C
 refine ⟨⟨fo,name,doc,pm,an,ct,s _ _ a1,a2⟩,⟨c,oc,vs,t,b1,s _ _ b2,b3⟩,c1,c2,fun i x c v h1 h2=>?_⟩
 obtain ⟨o,u,d1,d2⟩:=c3 i x c v h1 h2
 exact ⟨o,u,s _ _ d1,d2⟩
def cQ (w:World):List Addr→List V→Sp:=fun cs fvs vs H Q _=>∃(y:V) (d:Addr) (T:jF) (ls:List Addr) (k:GK) (ps:List (GK×GK)),fvs=[.ref d]∧vs=[y]∧d∉cs∧TabAt w H d T ls∧(GV H k).1 y∧jM T k=some ps∧
 ∀p xs,H p=none→PairsAt H xs ps→Q (.ref p) (jB H p (.lst xs))
def cP (w:World):List Addr→List V→Sp:=fun cs fvs vs H Q _=>∃(y:V) (d:Addr) (T:jF) (M:GK→Bool) (k:GK),fvs=[.ref d]∧vs=[y]∧d∉cs∧MarkAt w H d T M∧(GV H k).1 y∧gd k≤8∧(jM T k).isSome=true∧Q (.bl (M k)) H
def behind (T:jF) (k de:GK):List GK:=(((jM T k).getD []).filter fun p=>decide (p.1=de)).map (·.2)
def dP (T:jF):GK→List GK→Option GK
 |k,[]=>some k
 |k,de::r=>match behind T k de with
  |[]=>none
  |k'::_=>dP T k' r
def pW (T:jF) (M:GK→Bool) (k:GK) (r:List GK):Bool:=match dP T k r with
 |none=>false
 |some k'=>M k'
def KeysAt (H:Hp) (xs:List V) (ks:List GK):Prop:=xs.length=ks.length∧∀(i:Nat) x,xs[i]?=some x→∃k,ks[i]?=some k∧(GV H k).1 x∧gd k≤8
theorem KeysAt.same {H H':Hp} {xs:List V} {ks:List GK} (s:Same H H') (h:KeysAt H xs ks):KeysAt H' xs ks:=⟨h.1,fun i x e=>by
 obtain ⟨k,e1,e2,e3⟩:=h.2 i x e
 exact ⟨k,e1,jZ s e2,e3⟩⟩
theorem KeysAt.snoc {H H':Hp} {xs:List V} {ks:List GK} {v:V} {k:GK} (h:KeysAt H xs ks) (hk:∀a l,H a=some (.tup l)→H' a=some (.tup l)) (hv:(GV H k).1 v) (h8:gd k≤8):KeysAt H' (xs++[v]) (ks++[k]):=by
 refine ⟨by rw [List.length_append,List.length_append,h.1];rfl,fun i x e=>?_⟩
 by_cases hi:i<xs.length
 ·rw [List.getElem?_append_left hi] at e
  obtain ⟨k',e1,e2,e3⟩:=h.2 i x e
  exact ⟨k',by rw [List.getElem?_append_left (by rw [← h.1];exact hi)];exact e1,(GV.keep hk k').1 _ e2,e3⟩
 ·rw [List.getElem?_append_right (by omega)] at e
  obtain ⟨h1,h2⟩:=List.getElem?_eq_some_iff.mp e
  have hz:i - xs.length=0:=by rw [List.length_singleton] at h1;omega
  rw [List.getElem?_append_right (by rw [← h.1];omega),← h.1,hz]
  rw [hz] at e
  cases e
  exact ⟨k,rfl,(GV.keep hk k).1 _ hv,h8⟩
def jU (m v:Nat):GK :=
 if m=0 then .i v
 else if m=1 then .i (((v:Int) - 5)*10 ^ 30+v)
 else if m=2 then .s (qX ⟨#[("abc":Str).cps.getD (v%3) 0]⟩ (1+v / 3))
 else if m=3 then .cons (.i ((v / 5:Nat):Int)) (.cons (.cons (.i ((v%5:Nat):Int)) (.cons (.s "x") .nil)) .nil)
 else if v%3=0 then .i v
 else if v%3=1 then .s ("s"++Str.ofString (toString (v:Int)))
 else .cons (.i v) (.cons (.s "") .nil)
theorem oG:∀v:Nat,v<1000→(v:Int).natAbs.log2<1920:=by decide +kernel
theorem oI:∀v:Nat,v<1000→("s":Str).length+(Str.ofString (toString (v:Int))).length≤1000:=by decide +kernel
theorem nQ {v:Nat} (h:v≤999):CMul ((v:Int) - 5) (10 ^ (30:Int).toNat):=.inl ⟨by omega,by omega⟩
theorem nT (v:Nat):qK ("abc":Str).cps.toList ((v:Int)%3)=some (("abc":Str).cps.getD (v%3) 0):=by
 have e:((v:Int)%3)=((v%3:Nat):Int):=by omega
 rw [e]
 have h:v%3<3:=Nat.mod_lt _ (by decide)
 generalize v%3=n at h
 match n,h with
 |0,_=>decide +kernel
 |1,_=>decide +kernel
 |2,_=>decide +kernel
def zQ:Sp:=fun vs H Q _=>∃m v:Nat,vs=[.int m,.int v]∧m≤4∧v≤999∧∀y H',Same H H'→(GV H' (jU m v)).1 y→gd (jU m v)≤8→Q y H'
theorem zG (m v:Nat):gd (jU m v)≤8:=by
 unfold jU
 repeat' split
 all_goals (simp only [gd];omega)
def kindD (m j:Nat):Nat:=if m=4 then j%3 else m%3
def vN (m j:Nat):GK:=if kindD m j=0 then .i j else if kindD m j=1 then .s ("d"++Str.ofString (toString (j:Int))) else .cons (.s "go") (.cons (.i j) .nil)
theorem gS (m j:Nat):gd (vN m j)≤8:=by
 unfold vN
 repeat' split
 all_goals (simp only [gd];omega)
theorem nG:∀v:Nat,v<1201→(v:Int).natAbs.log2<1920:=by decide +kernel
theorem nH:∀v:Nat,v<1201→("d":Str).length+(Str.ofString (toString (v:Int))).length≤1000:=by decide +kernel
def dD:Sp:=fun vs H Q _=>∃m j:Nat,vs=[.int m,.int j]∧m≤4∧j≤1200∧∀y H',Same H H'→(GV H' (vN m j)).1 y→Q y H'
def vX (T:jF) (k:GK) (p:GK×GK):jF:=T.map fun q=>if q.1=k then (q.1,q.2++[p]) else q
theorem zL {T:jF} {k k':GK} {p:GK×GK}:jM (vX T k p) k'=(jM T k').map fun ps=>if k'=k then ps++[p] else ps:=by
 unfold jM vX
 induction T with
 |nil=>rfl
 |cons q T ih =>
  rw [List.map_cons]
  by_cases h:q.1=k'
  ·have h':(if q.1=k then (q.1,q.2++[p]) else q).1=k':=by split<;>exact h
   rw [List.find?_cons_of_pos (by simpa using h'),List.find?_cons_of_pos (by simpa using h)]
   subst h
   by_cases hk:q.1=k
   ·simp [hk]
   ·simp [hk]
  ·have h':¬(if q.1=k then (q.1,q.2++[p]) else q).1=k':=by split<;>exact h
   rw [List.find?_cons_of_neg (by simpa using h'),List.find?_cons_of_neg (by simpa using h)]
   exact ih
def d4 (ls:List Addr) (H H':Hp):Prop:=(∀a o,a∉ls→H a=some o→H' a=some o)∧∀l xs,H l=some (.lst xs)→∃ys,H' l=some (.lst ys)
theorem JI {H H':Hp} {xs:List V} {ps:List (GK×GK)} (hk:∀a l,H a=some (.tup l)→H' a=some (.tup l)) (h:PairsAt H xs ps):PairsAt H' xs ps:=⟨h.1,fun i x e=>by
 obtain ⟨p,a,b,c,e1,e2,e3,e4,e5,e6⟩:=h.2 i x e
 exact ⟨p,a,b,c,e1,e2,hk _ _ e3,(GV.keep hk _).1 _ e4,(GV.keep hk _).1 _ e5,e6⟩⟩
theorem gP {H:Hp} {xs:List V} {ps:List (GK×GK)} {p:GK×GK} {t:Addr} {b c:V} (h:PairsAt H xs ps) (ht:H t=some (.tup [b,c])) (h1:(GV H p.1).1 b) (h2:(GV H p.2).1 c) (g1:gd p.1≤8) (g2:gd p.2≤8):PairsAt H (xs++[.ref t]) (ps++[p]):=by
 refine ⟨by rw [List.length_append,List.length_append,h.1];rfl,fun i x e=>?_⟩
 by_cases hi:i<xs.length
 ·rw [List.getElem?_append_left hi] at e
  obtain ⟨q,a,b',c',e1,e2⟩:=h.2 i x e
  exact ⟨q,a,b',c',by rw [List.getElem?_append_left (by rw [← h.1];exact hi)];exact e1,e2⟩
 ·rw [List.getElem?_append_right (by omega)] at e
  have hz:i - xs.length=0:=by have:=(List.getElem?_eq_some_iff.mp e).1;rw [List.length_singleton] at this;omega
  rw [hz] at e
  cases e
  exact ⟨p,t,b,c,by rw [List.getElem?_append_right (by rw [← h.1];omega),← h.1,hz];rfl,rfl,ht,h1,h2,g1,g2⟩
theorem iP {w:World} {H H':Hp} {d l t:Addr} {T:jF} {kvs:List jR} {k:GK} {p:GK×GK} {ps:List (GK×GK)} {xs:List V} {b c:V} {ls:List Addr} (hT:TabAt w H d T ls) (e1:H d=some (GO w d kvs)) (g:GOk H kvs) (ap:(∀k k' l,jQ kvs k=some (.ref l)→jQ kvs k'=some (.ref l)→k=k')∧(∀k l,jQ kvs k=some (.ref l)→l∈ls)∧kvs.length≤ls.length)
  (e3:∀k ps,jM T k=some ps→∃l xs,jQ kvs k=some (.ref l)∧H l=some (.lst xs)∧PairsAt H xs ps) (hps:jM T k=some ps) (f1:jQ kvs k=some (.ref l)) (f2:H l=some (.lst xs)) (f3:PairsAt H xs ps) (h190:ps.length≤1100) (hsh:(jM T p.2).isSome=true)
  (kp:∀a o,a≠l→H a=some o→H' a=some o) (hl:H' l=some (.lst (xs++[.ref t]))) (ht:H' t=some (.tup [b,c])) (h1:(GV H' p.1).1 b) (h2:(GV H' p.2).1 c) (g1:gd p.1≤8) (g2:gd p.2≤8):TabAt w H' d (vX T k p) ls:=by
 have hk:∀a l,H a=some (.tup l)→H' a=some (.tup l):=fun a z e=>kp a _ (fun y=>by subst y;rw [f2] at e;cases e) e
 have hsome:∀k',(jM (vX T k p) k').isSome=(jM T k').isSome:=fun k'=>by rw [zL,Option.isSome_map]
 refine ⟨⟨kvs,kp d _ (fun y=>by subst y;rw [f2] at e1;cases e1) e1,g.keep hk,ap,fun k' ps' h=>?_⟩,fun k' ps' h=>?_,fun k' ps' q h hq=>?_,fun k' ps' h=>?_⟩
 all_goals
  rw [zL] at h
  obtain ⟨ps0,h0,rfl⟩:=Option.map_eq_some_iff.mp h
 ·obtain ⟨l',xs',f1',f2',f3'⟩:=e3 k' ps0 h0
  by_cases hkk:k'=k
  ·subst hkk
   rw [hps] at h0;cases h0
   rw [f1] at f1';cases f1'
   rw [if_pos rfl]
   exact ⟨l,_,f1,hl,gP (JI hk f3) ht h1 h2 g1 g2⟩
  ·rw [if_neg hkk]
   exact ⟨l',xs',f1',kp l' _ (fun y=>by subst y;exact hkk (ap.1 _ _ _ f1' f1)) f2',JI hk f3'⟩
 ·have:=hT.few k' ps0 h0
  by_cases hkk:k'=k
  ·subst hkk
   rw [hps] at h0;cases h0
   rw [if_pos rfl,List.length_append,List.length_singleton];omega
  ·rw [if_neg hkk];exact this
 ·rw [hsome]
  by_cases hkk:k'=k
  ·subst hkk
   rw [if_pos rfl] at hq
   rcases List.mem_append.mp hq with hq|hq
   ·exact hT.shut _ ps0 q h0 hq
   ·cases List.mem_singleton.mp hq;exact hsh
  ·rw [if_neg hkk] at hq
   exact hT.shut _ ps0 q h0 hq
 ·exact hT.deep k' ps0 h0
def bP (w:World):Sp:=fun vs H Q _=>∃(d:Addr) (m v u:Nat) (T:jF) (ls:List Addr) (ps:List (GK×GK)),vs=[.ref d,.int m,.int v,.int u]∧m≤4∧v≤999∧u≤999∧TabAt w H d T ls∧jM T (jU m v)=some ps∧(jM T (jU m u)).isSome=true∧ps.length≤1100∧
 ∀H',TabAt w H' d (vX T (jU m v) (vN m ps.length,jU m u)) ls→d4 ls H H'→Q .non H'
def z6 (T:jF) (k:GK):jF:=(T.filter fun q => !decide (q.1=k))++[(k,[])]
theorem zR {T:jF} {k k':GK}:jM (z6 T k) k'=if k'=k then some [] else jM T k':=by
 unfold jM z6
 rw [List.find?_append,List.find?_filter]
 by_cases h:k'=k
 ·subst h
  have:T.find? (fun a=>decide ((!decide (a.1=k'))=true∧decide (a.1=k')=true))=none:=by
   rw [List.find?_eq_none]
   intro x _
   by_cases hx:x.1=k'<;>simp [hx]
  rw [this,if_pos rfl]
  simp
 ·have e:(fun a:GK×List (GK×GK)=>decide ((!decide (a.1=k))=true∧decide (a.1=k')=true))=fun a=>decide (a.1=k'):=by
   funext a
   by_cases hx:a.1=k'
   ·have:¬a.1=k:=fun z=>h (hx▸z)
    simp [hx,h]
   ·simp [hx]
  have n:¬k=k':=fun z=>h z.symm
  rw [e,if_neg h]
  cases T.find? (fun a=>decide (a.1=k'))<;>simp [n]
theorem lK {w:World} {H H':Hp} {d l:Addr} {T:jF} {kvs:List jR} {k:GK} {y:V} {ls:List Addr} (hT:TabAt w H d T ls) (g:GOk H kvs) (ap:(∀k k' l,jQ kvs k=some (.ref l)→jQ kvs k'=some (.ref l)→k=k')∧(∀k l,jQ kvs k=some (.ref l)→l∈ls)∧kvs.length≤ls.length)
  (e3:∀k ps,jM T k=some ps→∃l xs,jQ kvs k=some (.ref l)∧H l=some (.lst xs)∧PairsAt H xs ps) (hd:∀xs,H d≠some (.lst xs)) (hdt:∀xs,H d≠some (.tup xs)) (hnew:∀k',jQ kvs k'≠some (.ref l)) (hy:(GV H k).1 y) (h8:gd k≤8)
  (kp:∀a o,a≠d→H a=some o→H' a=some o) (hl:H' l=some (.lst [])) (hd':H' d=some (GO w d (kA kvs k y (.ref l)))):TabAt w H' d (z6 T k) (l::ls):=by
 have hk:∀a z,H a=some (.tup z)→H' a=some (.tup z):=fun a z e=>kp a _ (fun y=>by subst y;exact hdt _ e) e
 have hso:∀k',(jM T k').isSome=true→(jM (z6 T k) k').isSome=true:=fun k' h=>by rw [zR];split;rfl;exact h
 refine ⟨⟨_,hd',(g.set hy h8).keep hk,⟨fun k1 k2 l' a b=>?_,fun k1 l' a=>?_,by have h1:=JS kvs k y (.ref l);have h2:=ap.2.2;rw [List.length_cons];omega⟩,fun k' ps' h=>?_⟩,fun k' ps' h=>?_,fun k' ps' q h hq=>?_,fun k' ps' h=>?_⟩
 ·rw [zN] at a b
  by_cases h1:k1=k<;>by_cases h2:k2=k
  ·rw [h1,h2]
  ·rw [if_pos h1] at a;rw [if_neg h2] at b;cases a;exact absurd b (hnew k2)
  ·rw [if_neg h1] at a;rw [if_pos h2] at b;cases b;exact absurd a (hnew k1)
  ·rw [if_neg h1] at a;rw [if_neg h2] at b;exact ap.1 _ _ _ a b
 ·rw [zN] at a
  by_cases h1:k1=k
  ·rw [if_pos h1] at a;cases a;exact List.mem_cons_self
  ·rw [if_neg h1] at a;exact List.mem_cons_of_mem _ (ap.2.1 _ _ a)
 all_goals rw [zR] at h
 ·by_cases h1:k'=k
  ·rw [if_pos h1] at h;cases h
   exact ⟨l,[],by rw [zN,if_pos h1],hl,rfl,fun i x e=>by cases e⟩
  ·rw [if_neg h1] at h
   obtain ⟨l',xs',f1,f2,f3⟩:=e3 k' ps' h
   exact ⟨l',xs',by rw [zN,if_neg h1];exact f1,kp l' _ (fun z=>by subst z;exact hd _ f2) f2,JI hk f3⟩
 ·by_cases h1:k'=k
  ·rw [if_pos h1] at h;cases h;exact Nat.zero_le _
  ·rw [if_neg h1] at h;exact hT.few k' ps' h
 ·by_cases h1:k'=k
  ·rw [if_pos h1] at h;cases h;cases hq
  ·rw [if_neg h1] at h;exact hso _ (hT.shut k' ps' q h hq)
 ·by_cases h1:k'=k
  ·rw [h1];exact h8
  ·rw [if_neg h1] at h;exact hT.deep k' ps' h
structure TabOk (m n c:Nat) (T:jF):Prop where
 dom:∀v,v<n→(jM T (jU m v)).isSome=true
 row:∀k ps,jM T k=some ps→ps.length≤c∧∀(i:Nat) p,ps[i]?=some p→p.1=vN m i
 cod:∀k ps,jM T k=some ps→∃v,v<n∧k=jU m v
theorem gK {m n c v u:Nat} {T:jF} {ps:List (GK×GK)} (h:TabOk m n c T) (hps:jM T (jU m v)=some ps):TabOk m n (c+1) (vX T (jU m v) (vN m ps.length,jU m u)):=by
 refine ⟨fun v' hv=>by rw [zL,Option.isSome_map];exact h.dom v' hv,fun k ps' hk=>?_,fun k ps' hk=>by rw [zL] at hk;obtain ⟨ps0,h0,_⟩:=Option.map_eq_some_iff.mp hk;exact h.cod k ps0 h0⟩
 rw [zL] at hk
 obtain ⟨ps0,h0,rfl⟩:=Option.map_eq_some_iff.mp hk
 obtain ⟨a,b⟩:=h.row k ps0 h0
 by_cases hkk:k=jU m v
 ·subst hkk
  rw [hps] at h0;cases h0
  rw [if_pos rfl]
  refine ⟨by rw [List.length_append,List.length_singleton];omega,fun i p e=>?_⟩
  by_cases hi:i<ps.length
  ·rw [List.getElem?_append_left hi] at e;exact b i p e
  ·rw [List.getElem?_append_right (by omega)] at e
   have hz:i - ps.length=0:=by have:=(List.getElem?_eq_some_iff.mp e).1;rw [List.length_singleton] at this;omega
   rw [hz] at e;cases e
   rw [show i=ps.length by omega]
 ·rw [if_neg hkk];exact ⟨by omega,b⟩
def cJ (w:World) (K:W.Frag):Sp:=fun vs H Q _=>∃(a:Addr) (ns:List Int) (m n:Nat),vs=[.ref a,.int m,.int n]∧SqL K H a (ns.map V.int)∧ns.length≤63∧m≤4∧1≤n∧n≤999∧
 ∀d T ls H',TabAt w H' d T ls→TabOk m n 1100 T→Same H H'→(∀l∈ls,H l=none)→H d=none→Q (.ref d) H'
structure TabIn (w:World) (H Hi:Hp) (d:Addr) (m n c:Nat) (T:jF) (ls:List Addr):Prop where
 tab:TabAt w Hi d T ls
 ok:TabOk m n c T
 sm:Same H Hi
 new:∀l∈ls,H l=none
 dn:H d=none
 trk:∀l∈ls,∃xs,Hi l=some (.lst xs)
theorem TabIn.join {w:World} {H Hi H':Hp} {d:Addr} {m n c v u:Nat} {T:jF} {ls:List Addr} {ps:List (GK×GK)} (h:TabIn w H Hi d m n c T ls) (hps:jM T (jU m v)=some ps) (hT:TabAt w H' d (vX T (jU m v) (vN m ps.length,jU m u)) ls) (hk:d4 ls Hi H') :
  TabIn w H H' d m n (c+1) (vX T (jU m v) (vN m ps.length,jU m u)) ls :=
 ⟨hT,gK h.ok hps,fun a o e=>hk.1 a o (fun hin=>by rw [h.new a hin] at e;cases e) (h.sm _ _ e),h.new,h.dn,fun l hl=>let ⟨xs,e⟩:=h.trk l hl;hk.2 l xs e⟩
theorem TabIn.same {w:World} {H Hi Hj:Hp} {d:Addr} {m n c:Nat} {T:jF} {ls:List Addr} (h:TabIn w H Hi d m n c T ls) (s:Same Hi Hj):TabIn w H Hj d m n c T ls:=⟨h.tab.same s,h.ok,h.sm.trans s,h.new,h.dn,fun l hl=>let ⟨xs,e⟩:=h.trk l hl;⟨xs,s _ _ e⟩⟩
theorem TabIn.mono {w:World} {H Hi:Hp} {d:Addr} {m n c c':Nat} {T:jF} {ls:List Addr} (h:TabIn w H Hi d m n c T ls) (hc:c≤c'):TabIn w H Hi d m n c' T ls :=
 ⟨h.tab,⟨h.ok.dom,fun k ps hk=>⟨Nat.le_trans (h.ok.row k ps hk).1 hc,(h.ok.row k ps hk).2⟩,h.ok.cod⟩,h.sm,h.new,h.dn,h.trk⟩
theorem gY {w:World} {H:Hp} {d:Addr} (h:H d=some (GO w d [])):TabAt w H d [] [] :=
 ⟨⟨[],h,GOk.nil,⟨fun _ _ _ e=>absurd e (by simp [jQ]),fun _ _ e=>absurd e (by simp [jQ]),Nat.le_refl _⟩,fun _ _ e=>absurd e (by simp [jM])⟩,fun _ _ e=>absurd e (by simp [jM]),fun _ _ _ e=>absurd e (by simp [jM]),fun _ _ e=>absurd e (by simp [jM])⟩
structure MarkIn (w:World) (H Hi:Hp) (d:Addr) (m i:Nat) (M:GK→Bool):Prop where
 ex:∃kvs,Hi d=some (GO w d kvs)∧GOk Hi kvs∧kvs.length≤i∧∀v,v<i→jQ kvs (jU m v)=some (.bl (M (jU m v)))
 sm:Same H Hi
 dn:H d=none
def cN (w:World):Sp:=fun vs H Q _=>∃(c:Int) (m n:Nat),vs=[.int c,.int m,.int n]∧m≤4∧1≤n∧n≤999∧∀d M H',MarkIn w H H' d m n M→Q (.ref d) H'
theorem QU {w:World} {H Hi H1:Hp} {d:Addr} {m i:Nat} {M:GK→Bool} {y:V} (hI:MarkIn w H Hi d m i M) (s1:Same Hi H1) (hy:(GV H1 (jU m i)).1 y) (b:Bool) :
  ∃kvs,H1 d=some (GO w d kvs)∧GOk H1 kvs∧kvs.length≤i∧MarkIn w H (jB H1 d (GO w d (kA kvs (jU m i) y (.bl b)))) d m (i+1) (fun k=>if k=jU m i then b else M k):=by
 obtain ⟨kvs,e1,g,hl,hg⟩:=hI.ex
 have g1:=qI s1 g
 refine ⟨kvs,s1 _ _ e1,g1,hl,⟨_,jE,(g1.set hy (zG m i)).keep fun a l e=>?_,?_,fun v hv=>?_⟩,qP hI.dn (hI.sm.trans s1),hI.dn⟩
 ·rw [jC fun z=>by subst z;rw [s1 _ _ e1] at e;cases e];exact e
 ·have:=JS kvs (jU m i) y (.bl b);omega
 ·rw [zN]
  by_cases h:jU m v=jU m i
  ·rw [if_pos h,if_pos h]
  ·rw [if_neg h,if_neg h]
   exact hg v (by have:v≠i:=fun z=>h (by rw [z]);omega)
theorem QG {a b:Int} (h:0<b):∃k:Nat,a%b=(k:Int)∧(k:Int)<b:=by
 have h1:=Int.emod_nonneg a (by omega:b≠0)
 have h2:=Int.emod_lt_of_pos a h
 exact ⟨(a%b).toNat,by omega,by omega⟩
def Clo1 (H:Hp) (f:Addr) (st:Stmt) (qual:Str) (x:Str) (d:Addr):Prop:=∃c cdv fd,c≠d∧CloAt H f qual (j4 st) (jW st) (jJ st) [(x,c)] [.ref d] cdv fd
theorem Clo1.same {H H':Hp} {f:Addr} {st:Stmt} {qual x:Str} {d:Addr} (s:Same H H') (h:Clo1 H f st qual x d):Clo1 H' f st qual x d:=let ⟨c,cdv,fd,n,C⟩:=h;⟨c,cdv,fd,n,lB s C⟩
theorem eE {α:Type} {P:α→Prop} {a b:α} (h1:P a) (h2:P b):∀q∈[a,b],P q:=fun q hq=>by
 rcases List.mem_cons.mp hq with rfl|hq
 ·exact h1
 ·cases List.mem_singleton.mp hq;exact h2
def vY (tL:Addr) (H H':Hp):Prop:=∀a o,a≠tL→H a=some o→H' a=some o
theorem vS {H H':Hp} {tL a:Addr} {tp:Array Value} {o:HO} (k:vY tL H H') (ht:H tL=some (.tbl tp)) (e:H a=some o) (hn:o≠.tbl tp):H' a=some o:=k a o (fun z=>hn (by subst z;rw [ht] at e;cases e;rfl)) e
theorem Q3 {H H':Hp} {tL:Addr} {tp:Array Value} (k:vY tL H H') (ht:H tL=some (.tbl tp)):∀a l,H a=some (.tup l)→H' a=some (.tup l):=fun a l e=>vS k ht e (fun z=>by cases z)
theorem TabAt.keepT {w:World} {H H':Hp} {tL d:Addr} {tp:Array Value} {T:jF} {ls:List Addr} (k:vY tL H H') (ht:H tL=some (.tbl tp)) (h:TabAt w H d T ls):TabAt w H' d T ls:=by
 have tk:=Q3 k ht
 obtain ⟨⟨kvs,e1,e2,ap,e3⟩,e4,e5,e6⟩:=h
 refine ⟨⟨kvs,vS k ht e1 (fun z=>by cases z),e2.keep tk,ap,fun k' ps hk=>?_⟩,e4,e5,e6⟩
 obtain ⟨l,xs,f1,f2,f3⟩:=e3 k' ps hk
 exact ⟨l,xs,f1,vS k ht f2 (fun z=>by cases z),JI tk f3⟩
theorem l0 {w:World} {H0 H:Hp} {d:Addr} {m n c:Nat} {T:jF} {M:GK→Bool} (hI:MarkIn w H0 H d m n M) (hO:TabOk m n c T):MarkAt w H d T M:=by
 obtain ⟨kvs,e1,g,_,hg⟩:=hI.ex
 refine ⟨kvs,e1,g,fun k hk=>?_⟩
 obtain ⟨ps,hps⟩:=Option.isSome_iff_exists.mp hk
 obtain ⟨v,hv,rfl⟩:=hO.cod k ps hps
 exact hg v hv
theorem MarkAt.keepT {w:World} {H H':Hp} {tL d:Addr} {tp:Array Value} {T:jF} {M:GK→Bool} (k:vY tL H H') (ht:H tL=some (.tbl tp)) (h:MarkAt w H d T M):MarkAt w H' d T M:=by
 obtain ⟨kvs,e1,e2,e3⟩:=h.ex
 exact ⟨kvs,vS k ht e1 (fun z=>by cases z),e2.keep (Q3 k ht),e3⟩
theorem KeysAt.keep {H H':Hp} {xs:List V} {ks:List GK} (tk:∀a l,H a=some (.tup l)→H' a=some (.tup l)) (h:KeysAt H xs ks):KeysAt H' xs ks:=⟨h.1,fun i x e=>by
 obtain ⟨k,e1,e2,e3⟩:=h.2 i x e
 exact ⟨k,e1,(GV.keep tk k).1 _ e2,e3⟩⟩
theorem KeysAt.take {H:Hp} {xs:List V} {ks:List GK} (h:KeysAt H xs ks) (j:Nat):KeysAt H (xs.take j) (ks.take j):=⟨by rw [List.length_take,List.length_take,h.1],fun i x e=>by
  have hi:i<j:=by have:=(List.getElem?_eq_some_iff.mp e).1;rw [List.length_take] at this;omega
  rw [List.getElem?_take_of_lt hi] at e ⊢
  exact h.2 i x e⟩
def FnIs (H:Hp) (f:Addr) (st:Stmt) (qual x:Str) (c:Addr):Prop:=∃(fo:Obj) (name:Str) (doc pm:Value) (an:Option Addr) (ct:Value) (c':Addr) (oc:Obj),H f=some (FnO f fo)∧fo.data=.func (W.fnX name qual (j4 st) (jW st) (jJ st) [(x,c)] .none .none doc pm an (.ref c') ct)∧H c'=some (FnO c' oc)∧∃vs t,oc.data=.fields vs∧vs[1]?=some (.str qual t)
theorem FnIs.same {H H':Hp} {f c:Addr} {st:Stmt} {qual x:Str} (s:Same H H') (h:FnIs H f st qual x c):FnIs H' f st qual x c:=by
 obtain ⟨fo,name,doc,pm,an,ct,c',oc,e1,e2,e3,e4⟩:=h
 exact ⟨fo,name,doc,pm,an,ct,c',oc,s _ _ e1,e2,s _ _ e3,e4⟩
theorem FnIs.keepT {H H':Hp} {f c tL:Addr} {tp:Array Value} {st:Stmt} {qual x:Str} (k:vY tL H H') (ht:H tL=some (.tbl tp)) (h:FnIs H f st qual x c):FnIs H' f st qual x c:=by
 obtain ⟨fo,name,doc,pm,an,ct,c',oc,e1,e2,e3,e4⟩:=h
 exact ⟨fo,name,doc,pm,an,ct,c',oc,vS k ht e1 (fun z=>by cases z),e2,vS k ht e3 (fun z=>by cases z),e4⟩
theorem FnIs.clo {H HC:Hp} {cs:List Addr} {f c d:Addr} {st:Stmt} {qual x:Str} {o:Obj} {u:Value} (h:FnIs H f st qual x c) (hn:∀c∈cs,H c=none) (hc:c∈cs) (e1:HC c=some (FnO c o)) (e2:o.data=.cell (some u)) (rv:RelV (.ref d) u) (hd:H d≠none):Clo1 (kH H HC cs) f st qual x d:=by
 obtain ⟨fo,name,doc,pm,an,ct,c',oc,f1,f2,f3,vs,t,f4,f5⟩:=h
 have out:∀b v,H b=some v→kH H HC cs b=some v:=fun b v e=>by rw [kG fun z=>by rw [hn b z] at e;cases e];exact e
 refine ⟨c,.ref c',_,fun z=>hd (z▸hn c hc),⟨fo,name,doc,pm,an,ct,out _ _ f1,f2,rfl⟩,⟨c',oc,vs,t,rfl,out _ _ f3,f4,f5⟩,by simp,rfl,fun i y c2 v h1 h2=>?_⟩
 match i,h1,h2 with
 |0,h1,h2=>cases h1;cases h2;exact ⟨o,u,by rw [yZ hc];exact e1,e2,rv⟩
 |i+1,h1,_=>cases h1
theorem bC {H HC:Hp} {cs:List Addr} (hn:∀c∈cs,H c=none):Same H (kH H HC cs):=fun b v e=>by rw [kG fun z=>by rw [hn b z] at e;cases e];exact e
theorem iO {H H' HC:Hp} {cs:List Addr} (hn:∀c∈cs,H c=none) (s:Same (kH H HC cs) H'):Same H (kD H' cs):=fun b v e=>by
 rw [j9 fun z=>by rw [hn b z] at e;cases e]
 exact s _ _ (bC hn _ _ e)
def J9 (tL:Addr) (K:W.Frag):Sp:=fun vs H Q _=>∃(a:Addr) (ns:List Int),vs=[.ref a]∧SqL K H a (ns.map V.int)∧ns.length≤63∧H tL=some (.tbl #[])∧∀H',Q (.bl true) H'
theorem J3 {H:Hp} {P f c:Addr} {o2 o3:HO} {tp:Array Value} (n1:f≠P) (n2:c≠P):jB (jB (jB H P (.tbl tp)) f o2) c o3 P=some (.tbl tp):=by rw [jC n2.symm,jC n1.symm,jE]
theorem zK {H:Hp} {P f c:Addr} {o1 o2 o3:HO} (h1:H f=none) (h2:H c=none):vY P H (jB (jB (jB H P o1) f o2) c o3):=fun a o n e=>by
 rw [jC (kM e h2),jC (kM e h1),jC n];exact e
def kR (T:jF) (k:GK):List (GK×GK):=(jM T k).getD []
def kZ (met acc:List GK) (p:GK×GK):List GK:=if p.2∈met++acc then acc else acc++[p.2]
def kQ (met acc:List GK) (ps:List (GK×GK)):List GK:=ps.foldl (kZ met) acc
def j3 (T:jF) (met acc lay:List GK):List GK:=lay.foldl (fun a k=>kQ met a (kR T k)) acc
theorem JG {met acc:List GK} {ps:List (GK×GK)} {p:GK×GK}:kQ met acc (ps++[p])=kZ met (kQ met acc ps) p:=by
 unfold kQ;rw [List.foldl_append];rfl
theorem ZX {T:jF} {met acc lay:List GK} {k:GK}:j3 T met acc (lay++[k])=kQ met (j3 T met acc lay) (kR T k):=by
 unfold j3;rw [List.foldl_append];rfl
theorem gG {met acc:List GK} {p:GK×GK}:kZ met (acc.filter fun k => !decide (k∈met)) p=(kZ [] acc p).filter fun k => !decide (k∈met):=by
 unfold kZ
 by_cases h1:p.2∈met
 ·rw [if_pos (List.mem_append_left _ h1)]
  by_cases h2:p.2∈acc
  ·rw [if_pos (by simpa using h2)]
  ·rw [if_neg (by simpa using h2),List.filter_append,List.filter_cons,if_neg (by simpa using h1)];simp
 ·by_cases h2:p.2∈acc
  ·rw [if_pos (List.mem_append_right _ (List.mem_filter.mpr ⟨h2,by simpa using h1⟩)),if_pos (by simpa using h2)]
  ·rw [if_neg (by simp [h1,h2]),if_neg (by simpa using h2),List.filter_append,List.filter_cons,if_pos (by simpa using h1)];simp
theorem ZR {met:List GK}:∀(ps:List (GK×GK)) (acc:List GK),kQ met (acc.filter fun k => !decide (k∈met)) ps=(kQ [] acc ps).filter fun k => !decide (k∈met)
 |[],acc=>rfl
 |p::ps,acc=>by
  show kQ met (kZ met (acc.filter fun k => !decide (k∈met)) p) ps=(kQ [] (kZ [] acc p) ps).filter _
  rw [gG]
  exact ZR ps _
theorem ZS {T:jF} {met:List GK}:∀(lay acc:List GK),j3 T met (acc.filter fun k => !decide (k∈met)) lay=(j3 T [] acc lay).filter fun k => !decide (k∈met)
 |[],acc=>rfl
 |k::lay,acc=>by
  show j3 T met (kQ met (acc.filter fun k => !decide (k∈met)) (kR T k)) lay=(j3 T [] (kQ [] acc (kR T k)) lay).filter _
  rw [ZR]
  exact ZS lay _
def jH (T:jF) (k0:GK):Nat→List (List GK)
 |0=>[[k0]]
 |i+1=>jH T k0 i++[j3 T (jH T k0 i).flatten [] ((jH T k0 i).getLast?.getD [])]
def jP (T:jF) (k0:GK) (i:Nat):List GK:=(jH T k0 i).getLast?.getD []
def kS (T:jF) (k0:GK) (i:Nat):List GK:=j3 T (jH T k0 i).flatten [] (jP T k0 i)
def qU (T:jF) (M:GK→Bool) (k0:GK) (i:Nat):Prop:=(jP T k0 i).any M=true∨kS T k0 i=[]
theorem JM {T:jF} {k0:GK} {i:Nat}:jH T k0 (i+1)=jH T k0 i++[kS T k0 i]:=rfl
theorem zI {T:jF} {k0:GK}:∀i,(jH T k0 i).length=i+1
 |0=>rfl
 |i+1=>by rw [JM,List.length_append,zI i];rfl
theorem vR {T:jF} {k0:GK} {i:Nat}:(jH T k0 (i+1)).flatten=(jH T k0 i).flatten++kS T k0 i:=by
 rw [JM,List.flatten_append];simp
theorem bH {T:jF} {k0:GK} {i:Nat}:∀d,(jH T k0 i).flatten.length≤(jH T k0 (i+d)).flatten.length
 |0=>Nat.le_refl _
 |d+1=>by
  have h1:=bH (T:=T) (k0:=k0) (i:=i) d
  have h2:(jH T k0 (i+(d+1))).flatten=(jH T k0 (i+d)).flatten++kS T k0 (i+d):=vR
  rw [h2,List.length_append];omega
theorem zJ {T:jF} {k0:GK} (i:Nat):(jH T k0 i)[i]?=some (jP T k0 i):=by
 unfold jP
 have hl:=zI (T:=T) (k0:=k0) i
 rw [List.getLast?_eq_getElem?,hl,Nat.add_sub_cancel,List.getElem?_eq_getElem (by omega)];rfl
theorem lG {met acc:List GK} {p:GK×GK} {x:GK} (h:x∈kZ met acc p):x∈acc∨x=p.2:=by
 unfold kZ at h
 split at h
 ·exact .inl h
 ·rcases List.mem_append.mp h with h|h
  ·exact .inl h
  ·exact .inr (List.mem_singleton.mp h)
theorem Z2 {met:List GK} {x:GK}:∀(ps:List (GK×GK)) (acc:List GK),x∈kQ met acc ps→x∈acc∨∃p∈ps,x=p.2
 |[],acc,h=>.inl h
 |p::ps,acc,h=>by
  rcases Z2 ps _ (show x∈kQ met (kZ met acc p) ps from h) with h|⟨q,hq,e⟩
  ·rcases lG h with h|h
   ·exact .inl h
   ·exact .inr ⟨p,List.mem_cons_self,h⟩
  ·exact .inr ⟨q,List.mem_cons_of_mem _ hq,e⟩
theorem Z3 {T:jF} {met:List GK} {x:GK}:∀(lay acc:List GK),x∈j3 T met acc lay→x∈acc∨∃k∈lay,∃p∈kR T k,x=p.2
 |[],acc,h=>.inl h
 |k::lay,acc,h=>by
  rcases Z3 lay _ (show x∈j3 T met (kQ met acc (kR T k)) lay from h) with h|⟨q,hq,e⟩
  ·rcases Z2 _ _ h with h|⟨p,hp,e⟩
   ·exact .inl h
   ·exact .inr ⟨k,List.mem_cons_self,p,hp,e⟩
  ·exact .inr ⟨q,List.mem_cons_of_mem _ hq,e⟩
def ZL (T:jF):Prop:=∀k ps p,jM T k=some ps→p∈ps→(jM T p.2).isSome=true
theorem QX {T:jF} (h:ZL T) {k:GK} {p:GK×GK} (hp:p∈kR T k):(jM T p.2).isSome=true:=by
 unfold kR at hp
 cases e:jM T k with
 |none=>rw [e] at hp;cases hp
 |some ps=>rw [e] at hp;exact h k ps p e hp
theorem bG {T:jF} (h:ZL T) {met lay:List GK} {x:GK} (hx:x∈j3 T met [] lay):(jM T x).isSome=true:=by
 rcases Z3 lay [] hx with hx|⟨k,_,p,hp,rfl⟩
 ·cases hx
 ·exact QX h hp
theorem JX {T:jF} (h:ZL T) {k0:GK} (h0:(jM T k0).isSome=true):∀(i:Nat) (x:GK),x∈(jH T k0 i).flatten→(jM T x).isSome=true
 |0,x,hx=>by
  have:x=k0:=by simpa [jH] using hx
  rw [this];exact h0
 |i+1,x,hx=>by
  rw [vR] at hx
  rcases List.mem_append.mp hx with hx|hx
  ·exact JX h h0 i x hx
  ·exact bG h hx
theorem yW {T:jF} {k0 x:GK} {i:Nat} (hx:x∈jP T k0 i):x∈(jH T k0 i).flatten :=
 List.mem_flatten.mpr ⟨_,List.mem_of_getElem? (zJ i),hx⟩
theorem bY {α:Type} [DecidableEq α]:∀{l m:List α},l.Nodup→(∀x∈l,x∈m)→l.length≤m.length
 |[],_,_,_=>Nat.zero_le _
 |a::l,m,hn,hs=>by
  rw [List.nodup_cons] at hn
  have h1:=hs a List.mem_cons_self
  have ih:=bY (l:=l) (m:=m.erase a) hn.2 (fun x hx=>(List.mem_erase_of_ne (fun e:x=a=>hn.1 (by rw [← e];exact hx))).mpr (hs x (List.mem_cons_of_mem _ hx)))
  rw [List.length_erase_of_mem h1] at ih
  have:0<m.length:=List.length_pos_of_mem h1
  rw [List.length_cons];omega
theorem yV {m n c:Nat} {T:jF} (hO:TabOk m n c T) {l:List GK} (hn:l.Nodup) (hd:∀x∈l,(jM T x).isSome=true):l.length≤n:=by
 have:=bY (m:=(List.range n).map (jU m)) hn fun x hx=>by
  obtain ⟨ps,hps⟩:=Option.isSome_iff_exists.mp (hd x hx)
  obtain ⟨v,hv,rfl⟩:=hO.cod x ps hps
  exact List.mem_map.mpr ⟨v,List.mem_range.mpr hv,rfl⟩
 rwa [List.length_map,List.length_range] at this
theorem gU {met acc:List GK} {p:GK×GK} (h:(met++acc).Nodup):(met++kZ met acc p).Nodup:=by
 unfold kZ
 split
 ·exact h
 ·rename_i hp
  rw [← List.append_assoc,List.nodup_append]
  exact ⟨h,by simp,fun a ha b hb e=>by cases List.mem_singleton.mp hb;subst e;exact hp ha⟩
theorem ZU {met:List GK}:∀(ps:List (GK×GK)) (acc:List GK),(met++acc).Nodup→(met++kQ met acc ps).Nodup
 |[],_,h=>h
 |p::ps,acc,h=>ZU ps _ (gU h)
theorem QP {T:jF} {met:List GK}:∀(lay acc:List GK),(met++acc).Nodup→(met++j3 T met acc lay).Nodup
 |[],_,h=>h
 |k::lay,acc,h=>QP lay _ (ZU _ _ h)
theorem zH {T:jF} {k0:GK}:∀i,(jH T k0 i).flatten.Nodup
 |0=>by simp [jH]
 |i+1=>by
  rw [vR]
  exact QP _ [] (by rw [List.append_nil];exact zH i)
theorem bE {kvs:List jR} {k:GK}:(jQ kvs k).isSome=decide (k∈kvs.map (·.1)):=by
 unfold jQ
 rw [Option.isSome_map,Bool.eq_iff_iff]
 simp only [List.find?_isSome,decide_eq_true_eq,List.mem_map]
theorem bR {kvs:List jR} {k:GK} {y v:V} (h:k∉kvs.map (·.1)):kA kvs k y v=kvs++[(k,y,v)]:=by
 unfold kA
 rw [if_neg]
 rw [List.any_eq_true]
 rintro ⟨x,hx,e⟩
 exact h (List.mem_map.mpr ⟨x,hx,of_decide_eq_true e⟩)
theorem cY {kvs:List jR} (hn:(kvs.map (·.1)).Nodup) {i:Nat} {p:jR} (h:kvs[i]?=some p):jQ kvs p.1=some p.2.2:=by
 unfold jQ
 have:kvs.find? (fun x=>decide (x.1=p.1))=some p:=by
  induction kvs generalizing i with
  |nil=>cases h
  |cons q t ih =>
   rw [List.map_cons,List.nodup_cons] at hn
   cases i with
   |zero=>cases h;simp
   |succ i =>
    have h':t[i]?=some p:=h
    have hne:¬q.1=p.1:=fun e=>hn.1 (e▸List.mem_map.mpr ⟨p,List.mem_of_getElem? h',rfl⟩)
    rw [List.find?_cons_of_neg (by simpa using hne)]
    exact ih hn.2 h'
 rw [this];rfl
def CameV (H:Hp) (T:jF) (met:List GK) (i:Nat) (p:jR):Prop:=p.2.2=.non∨∃(t:Addr) (yp dv:V) (kp de:GK) (j:Nat),p.2.2=.ref t∧H t=some (.tup [yp,dv])∧(GV H kp).1 yp∧gd kp≤8∧(GV H de).1 dv∧gd de≤8∧j<i∧met[j]?=some kp∧(de,p.1)∈kR T kp
structure CameAt (w:World) (H:Hp) (d:Addr) (T:jF) (met:List GK):Prop where
 ex:∃kvs,H d=some (GO w d kvs)∧GOk H kvs∧kvs.map (·.1)=met∧∀(i:Nat) p,kvs[i]?=some p→CameV H T met i p
def QD (b:Addr) (H H':Hp):Prop:=∀a o,a≠b→H a=some o→H' a=some o
theorem CameV.keep {H H':Hp} {T:jF} {met met':List GK} {i:Nat} {p:jR} (h:CameV H T met i p) (hk:∀a l,H a=some (.tup l)→H' a=some (.tup l)) (hm:∀(j:Nat) x,met[j]?=some x→met'[j]?=some x):CameV H' T met' i p:=by
 rcases h with h|⟨t,yp,dv,kp,de,j,e1,e2,e3,e4,e5,e6,e7,e8,e9⟩
 ·exact .inl h
 ·exact .inr ⟨t,yp,dv,kp,de,j,e1,hk _ _ e2,(GV.keep hk kp).1 _ e3,e4,(GV.keep hk de).1 _ e5,e6,e7,hm _ _ e8,e9⟩
theorem CameAt.same {w:World} {H H':Hp} {d:Addr} {T:jF} {met:List GK} (s:Same H H') (h:CameAt w H d T met):CameAt w H' d T met:=by
 obtain ⟨kvs,e1,g,e2,e3⟩:=h.ex
 exact ⟨kvs,s _ _ e1,qI s g,e2,fun i p hp=>(e3 i p hp).keep (fun a l e=>s _ _ e) fun _ _ e=>e⟩
theorem Q9 {α:Type} {l m:List α} {j:Nat} {x:α} (h:l[j]?=some x):(l++m)[j]?=some x:=by rw [List.getElem?_append_left (List.getElem?_eq_some_iff.mp h).1];exact h
theorem CameAt.put {w:World} {H1 H':Hp} {d t:Addr} {T:jF} {met:List GK} {kvs:List jR} {k kp de:GK} {y yp dv:V} (e1:H1 d=some (GO w d kvs)) (g:GOk H1 kvs) (e2:kvs.map (·.1)=met) (e3:∀(i:Nat) p,kvs[i]?=some p→CameV H1 T met i p) (hk:k∉met) (hy:(GV H1 k).1 y) (h8:gd k≤8) (ht:H1 t=some (.tup [yp,dv])) (hp:(GV H1 kp).1 yp) (hp8:gd kp≤8) (hd:(GV H1 de).1 dv) (hd8:gd de≤8) (hm:kp∈met) (ha:(de,k)∈kR T kp)
  (tk:∀a l,H1 a=some (.tup l)→H' a=some (.tup l)) (hd':H' d=some (GO w d (kA kvs k y (.ref t)))):CameAt w H' d T (met++[k]):=by
 have g2:=(g.set (v:=.ref t) hy h8).keep tk
 rw [bR (by rw [e2];exact hk)] at hd' g2
 refine ⟨_,hd',g2,by rw [List.map_append,e2];rfl,fun i p hp'=>?_⟩
 by_cases hi:i<kvs.length
 ·rw [List.getElem?_append_left hi] at hp'
  exact (e3 i p hp').keep tk fun _ _ e=>Q9 e
 ·rw [List.getElem?_append_right (by omega)] at hp'
  have hz:i - kvs.length=0:=by have:=(List.getElem?_eq_some_iff.mp hp').1;rw [List.length_singleton] at this;omega
  rw [hz] at hp'
  cases hp'
  obtain ⟨j,hj⟩:=List.mem_iff_getElem?.mp hm
  have hlt:=(List.getElem?_eq_some_iff.mp hj).1
  have hl:kvs.length=met.length:=by rw [← e2,List.length_map]
  exact .inr ⟨t,yp,dv,kp,de,j,rfl,tk _ _ ht,(GV.keep tk kp).1 _ hp,hp8,(GV.keep tk de).1 _ hd,hd8,by omega,Q9 hj,ha⟩
structure NextIn (w:World) (H Hi:Hp) (dc r:Addr) (T:jF) (met acc:List GK):Prop where
 keep:QD dc H Hi
 rn:H r=none
 nr:r≠dc
 row:∃ys,Hi r=some (.lst ys)∧KeysAt Hi ys acc
 came:CameAt w Hi dc T (met++acc)
 dom:∀x∈acc,(jM T x).isSome=true
theorem NextIn.put {w:World} {H Hj:Hp} {dc r t2:Addr} {T:jF} {met acc:List GK} {kvs:List jR} {ys:List V} {k:GK} {pr:GK×GK} {x b c:V} (h:NextIn w H Hj dc r T met acc) (e1:Hj dc=some (GO w dc kvs)) (g:GOk Hj kvs) (e2:kvs.map (·.1)=met++acc) (e3:∀(i:Nat) p,kvs[i]?=some p→CameV Hj T (met++acc) i p) (er:Hj r=some (.lst ys)) (hks:KeysAt Hj ys acc)
  (hn:pr.2∉met++acc) (ht:Hj t2=none) (hx:(GV Hj k).1 x) (hx8:gd k≤8) (hm:k∈met) (hb:(GV Hj pr.1).1 b) (hb8:gd pr.1≤8) (hc:(GV Hj pr.2).1 c) (hc8:gd pr.2≤8) (ha:pr∈kR T k) (hd:(jM T pr.2).isSome=true) :
  NextIn w H (jB (jB (jB Hj t2 (.tup [x,b])) dc (GO w dc (kA kvs pr.2 c (.ref t2)))) r (.lst (ys++[c]))) dc r T met (acc++[pr.2]):=by
 have u:=jN ht (.tup [x,b])
 have tk1:∀a l,jB Hj t2 (.tup [x,b]) a=some (.tup l)→jB (jB (jB Hj t2 (.tup [x,b])) dc (GO w dc (kA kvs pr.2 c (.ref t2)))) r (.lst (ys++[c])) a=some (.tup l):=fun a l e=>by
  rw [jC (fun z=>by rw [z,u _ _ er] at e;cases e),jC (fun z=>by rw [z,u _ _ e1] at e;cases e)];exact e
 have tk:∀a l,Hj a=some (.tup l)→jB (jB (jB Hj t2 (.tup [x,b])) dc (GO w dc (kA kvs pr.2 c (.ref t2)))) r (.lst (ys++[c])) a=some (.tup l):=fun a l e=>tk1 a l (u _ _ e)
 refine ⟨fun a o n e=>?_,h.rn,h.nr,⟨_,jE,hks.snoc tk hc hc8⟩,?_,fun y hy=>?_⟩
 ·rw [jC (kM e h.rn),jC n];exact u _ _ (h.keep a o n e)
 ·have:=CameAt.put (H':=jB (jB (jB Hj t2 (.tup [x,b])) dc (GO w dc (kA kvs pr.2 c (.ref t2)))) r (.lst (ys++[c]))) (u _ _ e1) (qI u g) e2 (fun i p hp=>(e3 i p hp).keep (fun a l e=>u _ _ e) fun _ _ e=>e) hn (jZ u hc) hc8 (show jB Hj t2 (.tup [x,b]) t2=_ from jE) (jZ u hx) hx8 (jZ u hb) hb8 (List.mem_append_left _ hm) ha
   tk1 (by rw [jC h.nr.symm,jE])
  rwa [List.append_assoc] at this
 ·rcases List.mem_append.mp hy with hy|hy
  ·exact h.dom y hy
  ·rw [List.mem_singleton.mp hy];exact hd
theorem atI_last {xs:List V} {v:V} {n:Nat} (hn:xs.length=n+1) (h:xs[n]?=some v):qK xs (-1)=some v:=by
 have e:vG xs.length (-1)=some n:=by
  unfold vG
  rw [if_neg (by decide),if_pos (by omega)]
  congr 1
  omega
 unfold qK
 rw [e]
 exact h
structure LayersAt (H:Hp) (lr:Addr) (L:List (List GK)):Prop where
 ex:∃xs,H lr=some (.lst xs)∧xs.length=L.length∧∀(j:Nat) x,xs[j]?=some x→∃a ys lay,x=.ref a∧a≠lr∧L[j]?=some lay∧H a=some (.lst ys)∧KeysAt H ys lay
theorem LayersAt.same {H H':Hp} {lr:Addr} {L:List (List GK)} (s:Same H H') (h:LayersAt H lr L):LayersAt H' lr L:=by
 obtain ⟨xs,e1,e2,e3⟩:=h.ex
 refine ⟨xs,s _ _ e1,e2,fun j x hx=>?_⟩
 obtain ⟨a,ys,lay,f1,f2,f3,f4,f5⟩:=e3 j x hx
 exact ⟨a,ys,lay,f1,f2,f3,s _ _ f4,f5.same s⟩
theorem LayersAt.keepB {w:World} {H H':Hp} {lr dc:Addr} {kvs:List jR} {L:List (List GK)} (s:QD dc H H') (hd:H dc=some (GO w dc kvs)) (h:LayersAt H lr L):LayersAt H' lr L:=by
 have any:∀a o,H a=some o→o≠GO w dc kvs→H' a=some o:=fun a o e n=>s a o (fun z=>n (by rw [z,hd] at e;cases e;rfl)) e
 obtain ⟨xs,e1,e2,e3⟩:=h.ex
 refine ⟨xs,any _ _ e1 (fun z=>by cases z),e2,fun j x hx=>?_⟩
 obtain ⟨a,ys,lay,f1,f2,f3,f4,f5⟩:=e3 j x hx
 exact ⟨a,ys,lay,f1,f2,f3,any _ _ f4 (fun z=>by cases z),f5.keep fun a l e=>any _ _ e (fun z=>by cases z)⟩
theorem LayersAt.put {H:Hp} {lr r:Addr} {L:List (List GK)} {xs ys:List V} {lay:List GK} (h:LayersAt H lr L) (e:H lr=some (.lst xs)) (hr:H r=some (.lst ys)) (hk:KeysAt H ys lay) (n:r≠lr):LayersAt (jB H lr (.lst (xs++[.ref r]))) lr (L++[lay]):=by
 obtain ⟨xs',e1,e2,e3⟩:=h.ex
 rw [e] at e1;cases e1
 have tk:∀a l,H a=some (.tup l)→jB H lr (.lst (xs++[.ref r])) a=some (.tup l):=fun a l e'=>by rw [jC (fun z=>by rw [z,e] at e';cases e')];exact e'
 refine ⟨_,jE,by rw [List.length_append,List.length_append,e2];rfl,fun j x hx=>?_⟩
 by_cases hj:j<xs.length
 ·rw [List.getElem?_append_left hj] at hx
  obtain ⟨a,zs,l2,f1,f2,f3,f4,f5⟩:=e3 j x hx
  exact ⟨a,zs,l2,f1,f2,Q9 f3,by rw [jC f2];exact f4,f5.keep tk⟩
 ·rw [List.getElem?_append_right (by omega)] at hx
  have hz:j - xs.length=0:=by have:=(List.getElem?_eq_some_iff.mp hx).1;rw [List.length_singleton] at this;omega
  rw [hz] at hx
  cases hx
  exact ⟨r,ys,lay,rfl,n,by rw [List.getElem?_append_right (by omega),← e2,hz];rfl,by rw [jC n];exact hr,hk.keep tk⟩
theorem LayersAt.last {H:Hp} {lr:Addr} {T:jF} {k0:GK} {i:Nat} (h:LayersAt H lr (jH T k0 i)):∃xs a ys,H lr=some (.lst xs)∧qK xs (-1)=some (.ref a)∧a≠lr∧H a=some (.lst ys)∧KeysAt H ys (jP T k0 i)∧xs.length=i+1:=by
 obtain ⟨xs,e1,e2,e3⟩:=h.ex
 rw [zI] at e2
 have hx:xs[i]?=some (xs[i]'(by omega)):=List.getElem?_eq_getElem (by omega)
 obtain ⟨a,ys,lay,f1,f2,f3,f4,f5⟩:=e3 i _ hx
 rw [zJ] at f3;cases f3
 exact ⟨xs,a,ys,e1,atI_last e2 (by rw [hx,f1]),f2,f4,f5,e2⟩
theorem lC {w:World} {H:Hp} {d:Addr} {T:jF} {k:GK} {y:V} (e:H d=some (GO w d [(k,y,.non)])) (hy:(GV H k).1 y) (h8:gd k≤8):CameAt w H d T [k]:=by
 refine ⟨_,e,⟨fun p hp=>?_,fun p hp=>?_,by simp⟩,rfl,fun i p hp=>?_⟩
 ·cases List.mem_singleton.mp hp;exact hy
 ·cases List.mem_singleton.mp hp;exact h8
 ·cases i with
  |zero=>cases hp;exact .inl rfl
  |succ i=>cases hp
theorem Z0 {H:Hp} {lr l1:Addr} {k:GK} {y:V} (e:H lr=some (.lst [.ref l1])) (e1:H l1=some (.lst [y])) (n:l1≠lr) (hy:(GV H k).1 y) (h8:gd k≤8):LayersAt H lr [[k]]:=by
 refine ⟨_,e,rfl,fun j x hx=>?_⟩
 cases j with
 |zero =>
  cases hx
  refine ⟨l1,[y],[k],rfl,n,rfl,e1,rfl,fun i z hz=>?_⟩
  cases i with
  |zero=>cases hz;exact ⟨k,rfl,hy,h8⟩
  |succ i=>cases hz
 |succ j=>cases hx
theorem iK {w:World} {H:Hp} {d lr:Addr} {T:jF} {met:List GK} {xs:List V} {o:HO} (h:CameAt w H d T met) (e:H lr=some (.lst xs)):CameAt w (jB H lr o) d T met:=by
 obtain ⟨kvs,e1,g,e2,e3⟩:=h.ex
 have tk:∀a l,H a=some (.tup l)→jB H lr o a=some (.tup l):=fun a l e'=>by rw [jC (fun z=>by rw [z,e] at e';cases e')];exact e'
 exact ⟨kvs,by rw [jC (fun z=>by rw [z,e] at e1;cases e1)];exact e1,g.keep tk,e2,fun i p hp=>(e3 i p hp).keep tk fun _ _ e=>e⟩
theorem cI {T:jF} {M:GK→Bool} {k0:GK} {i N m:Nat} (hN:∀j,j<N→¬qU T M k0 j) (hm:m+i=N) (h:qU T M k0 i):i=N:=by
 by_cases hi:i<N
 ·exact absurd h (hN i hi)
 ·omega
theorem JT {T:jF} {M:GK→Bool} {k0:GK}:∀i,(∀j,j<i→¬qU T M k0 j)→i+1≤(jH T k0 i).flatten.length
 |0,_=>by simp [jH]
 |i+1,h=>by
  have ih:=JT i (fun j hj=>h j (by omega))
  rw [vR,List.length_append]
  have:0<(kS T k0 i).length:=List.length_pos_iff.mpr fun z=>h i (by omega) (.inr z)
  omega
theorem cG {M:GK→Bool} {l:List GK}:l.any M = !(l.filter M).isEmpty:=by
 induction l with
 |nil=>rfl
 |cons a l ih =>
  rw [List.any_cons,List.filter_cons]
  cases M a with
  |true=>rfl
  |false=>simpa using ih
def cO:Sp:=fun vs H Q _=>∃c:Int,vs=[.int c]∧∀n:Nat,1≤n→n≤999→Q (.int n) H
structure ReachIn (H Hi:Hp) (r:Addr) (T:jF) (acc:List GK):Prop where
 sm:Same H Hi
 rn:H r=none
 row:∃ys,Hi r=some (.lst ys)∧KeysAt Hi ys acc
 nd:acc.Nodup
 dom:∀x∈acc,(jM T x).isSome=true
theorem ReachIn.put {H Hj:Hp} {r:Addr} {T:jF} {acc:List GK} {ys:List V} {k:GK} {c:V} (h:ReachIn H Hj r T acc) (er:Hj r=some (.lst ys)) (hks:KeysAt Hj ys acc) (hn:k∉acc) (hc:(GV Hj k).1 c) (hc8:gd k≤8) (hd:(jM T k).isSome=true):ReachIn H (jB Hj r (.lst (ys++[c]))) r T (acc++[k]):=by
 have tk:∀a l,Hj a=some (.tup l)→jB Hj r (.lst (ys++[c])) a=some (.tup l):=fun a l e=>by rw [jC (fun z=>by rw [z,er] at e;cases e)];exact e
 refine ⟨qP h.rn h.sm,h.rn,⟨_,jE,hks.snoc tk hc hc8⟩,?_,fun y hy=>?_⟩
 ·rw [List.nodup_append]
  exact ⟨h.nd,by simp,fun a ha b hb e=>by cases List.mem_singleton.mp hb;subst e;exact hn ha⟩
 ·rcases List.mem_append.mp hy with hy|hy
  ·exact h.dom y hy
  ·rw [List.mem_singleton.mp hy];exact hd
def bQ (w:World):Sp:=fun vs H Q _=>∃(l dT:Addr) (T:jF) (ls:List Addr) (m n c:Nat) (xs:List V) (lay:List GK),vs=[.ref l,.ref dT]∧TabAt w H dT T ls∧TabOk m n c T∧n≤1000∧H l=some (.lst xs)∧KeysAt H xs lay∧(∀k∈lay,(jM T k).isSome=true)∧
 ∀r ys H',Same H H'→H r=none→H' r=some (.lst ys)→KeysAt H' ys (j3 T [] [] lay)→Q (.ref r) H'
structure MetAt (w:World) (H:Hp) (d:Addr) (met:List GK):Prop where
 ex:∃kvs,H d=some (GO w d kvs)∧GOk H kvs∧kvs.map (·.1)=met
theorem MetAt.same {w:World} {H H':Hp} {d:Addr} {met:List GK} (s:Same H H') (h:MetAt w H d met):MetAt w H' d met:=by
 obtain ⟨kvs,e1,g,e2⟩:=h.ex
 exact ⟨kvs,s _ _ e1,qI s g,e2⟩
theorem lZ {w:World} {H:Hp} {d:Addr} {k:GK} {y v:V} (e:H d=some (GO w d [(k,y,v)])) (hy:(GV H k).1 y) (h8:gd k≤8):MetAt w H d [k]:=by
 refine ⟨_,e,⟨fun p hp=>?_,fun p hp=>?_,by simp⟩,rfl⟩
 ·cases List.mem_singleton.mp hp;exact hy
 ·cases List.mem_singleton.mp hp;exact h8
theorem MetAt.put {w:World} {H:Hp} {d:Addr} {met:List GK} {kvs:List jR} {k:GK} {y v:V} (e1:H d=some (GO w d kvs)) (g:GOk H kvs) (e2:kvs.map (·.1)=met) (hk:k∉met) (hy:(GV H k).1 y) (h8:gd k≤8):MetAt w (jB H d (GO w d (kA kvs k y v))) d (met++[k]):=by
 have tk:∀a l,H a=some (.tup l)→jB H d (GO w d (kA kvs k y v)) a=some (.tup l):=fun a l e=>by rw [jC (fun z=>by rw [z,e1] at e;cases e)];exact e
 refine ⟨_,jE,(g.set hy h8).keep tk,?_⟩
 rw [bR (by rw [e2];exact hk),List.map_append,e2];rfl
theorem MetAt.keep {w:World} {H:Hp} {d lr:Addr} {met:List GK} {xs:List V} {o:HO} (h:MetAt w H d met) (e:H lr=some (.lst xs)):MetAt w (jB H lr o) d met:=by
 obtain ⟨kvs,e1,g,e2⟩:=h.ex
 have tk:∀a l,H a=some (.tup l)→jB H lr o a=some (.tup l):=fun a l e'=>by rw [jC (fun z=>by rw [z,e] at e';cases e')];exact e'
 exact ⟨kvs,by rw [jC (fun z=>by rw [z,e] at e1;cases e1)];exact e1,g.keep tk,e2⟩
def Z6 (w:World):Sp:=fun vs H Q _=>∃(y:V) (dT dM:Addr) (T:jF) (ls:List Addr) (M:GK→Bool) (m n c:Nat) (k0:GK),vs=[y,.ref dT,.ref dM]∧TabAt w H dT T ls∧TabOk m n c T∧n≤1000∧MarkAt w H dM T M∧(GV H k0).1 y∧(jM T k0).isSome=true∧
 ∀N lr H',(∀j,j<N→¬qU T M k0 j)→qU T M k0 N→Same H H'→LayersAt H' lr (jH T k0 N)→Q (.ref lr) H'
def eO (w:World) (H:Hp) (y:V) (dT dM lr dm:Addr) (T:jF) (M:GK→Bool) (k0:GK) (m:Nat) (σ:St) (Hi:Hp):Prop:=∃i c5 c6,σ=[some y,some (.ref dT),some (.ref dM),some (.ref lr),some (.ref dm),c5,c6]∧m+(jH T k0 i).flatten.length=1000∧(∀j,j<i→¬qU T M k0 j)∧Same H Hi∧MetAt w Hi dm (jH T k0 i).flatten∧LayersAt Hi lr (jH T k0 i)
def dC (w:World):Sp:=fun vs H Q _=>∃(l fa dc dT:Addr) (H0:Hp) (T:jF) (ls:List Addr) (m n c:Nat) (xs:List V) (lay met:List GK),vs=[.ref l,.ref fa,.ref dc]∧Same H0 H∧H0 dc=none∧Clo1 H0 fa qQ "law.<locals>._law_ahead" "_law_table_here" dT∧TabAt w H0 dT T ls∧TabOk m n c T∧n≤1000∧
 H l=some (.lst xs)∧KeysAt H xs lay∧(∀k∈lay,k∈met)∧(∀k∈met,(jM T k).isSome=true)∧CameAt w H dc T met∧
 ∀r ys H',H r=none→r≠dc→QD dc H H'→H' r=some (.lst ys)→KeysAt H' ys (j3 T met [] lay)→CameAt w H' dc T (met++j3 T met [] lay)→Q (.ref r) H'
def cK (w:World):Sp:=fun vs H Q _=>∃(d:Addr) (y:V) (T:jF) (met:List GK) (k:GK),vs=[.ref d,y]∧CameAt w H d T met∧met.length≤1000∧(GV H k).1 y∧gd k≤8∧k∈met∧∀r xs H',Same H H'→H' r=some (.lst xs)→Q (.ref r) H'
def eG (H:Hp) (d:Addr) (y:V) (r:Addr) (met:List GK) (m:Nat) (σ:St) (Hi:Hp):Prop:=∃sv xs,σ=[some (.ref d),some y,some (.ref r),some sv]∧Same H Hi∧Hi r=some (.lst xs)∧xs.length+m≤1000∧(sv=.non∨∃t yp dv kp j,sv=.ref t∧Hi t=some (.tup [yp,dv])∧(GV Hi kp).1 yp∧gd kp≤8∧met[j]?=some kp∧j<m)
def Z7 (w:World) (eW:Addr):Sp:=fun vs H Q E=>∃(y:V) (fa fe dT dM:Addr) (most:Int) (T:jF) (ls:List Addr) (M:GK→Bool) (m n c:Nat) (k0:GK) (N:Nat),vs=[y,.ref fa,.ref fe,.int most]∧
 Clo1 H fa qQ "law.<locals>._law_ahead" "_law_table_here" dT∧Clo1 H fe q4 "law.<locals>._law_ended" "_law_marks_here" dM∧TabAt w H dT T ls∧TabOk m n c T∧n≤1000∧MarkAt w H dM T M∧(GV H k0).1 y∧(jM T k0).isSome=true∧(∀j,j<N→¬qU T M k0 j)∧qU T M k0 N∧
 ((((jH T k0 N).flatten.length:Nat):Int)≤most→(jP T k0 N).any M=true→∀t rr lr xs H',Same H H'→H' t=some (.tup [.str "found",.ref rr,.ref lr])→H' rr=some (.lst xs)→LayersAt H' lr (jH T k0 N)→Q (.ref t) H')∧
 ((((jH T k0 N).flatten.length:Nat):Int)≤most→(jP T k0 N).any M=false→∀t lr H',Same H H'→H' t=some (.tup [.str "closed",.ref lr])→LayersAt H' lr (jH T k0 N)→Q (.ref t) H')∧
 (most<(((jH T k0 N).flatten.length:Nat):Int)→∀H',Same H H'→E (.ref eW) none H')
def eH (w:World) (H:Hp) (y:V) (fa fe:Addr) (most:Int) (dc lr:Addr) (T:jF) (k0:GK) (N m:Nat) (σ:St) (Hi:Hp):Prop:=∃i c6 c7,σ=[some y,some (.ref fa),some (.ref fe),some (.int most),some (.ref dc),some (.ref lr),c6,c7]∧m+i=N∧Same H Hi∧CameAt w Hi dc T (jH T k0 i).flatten∧LayersAt Hi lr (jH T k0 i)
def vA (T:jF) (M:GK→Bool) (k0:GK) (N:Nat):Str:=if (jP T k0 N).any M=true then "found" else "closed"
def zY (T:jF) (M:GK→Bool) (k0:GK) (N:Nat) (most:Int) (nm:List V) (wd:Str):Prop:=((((jH T k0 N).flatten.length:Nat):Int)≤most∧nm=[]∧wd=vA T M k0 N)∨(most<(((jH T k0 N).flatten.length:Nat):Int)∧nm=[.bl true,.bl true,.bl false,.bl false,.bl false,.bl false,.bl false]∧wd="")
def ZC (w:World):Sp:=fun vs H Q _=>∃(y:V) (fa fe dT dM:Addr) (most:Int) (T:jF) (ls:List Addr) (M:GK→Bool) (m n c:Nat) (k0:GK) (N:Nat),vs=[y,.ref fa,.ref fe,.int most]∧
 Clo1 H fa qQ "law.<locals>._law_ahead" "_law_table_here" dT∧Clo1 H fe q4 "law.<locals>._law_ended" "_law_marks_here" dM∧TabAt w H dT T ls∧TabOk m n c T∧n≤1000∧MarkAt w H dM T M∧(GV H k0).1 y∧(jM T k0).isSome=true∧(∀j,j<N→¬qU T M k0 j)∧qU T M k0 N∧
 ∀p n0 nm wd H',Same H H'→H' p=some (.lst [.ref n0,.str wd])→H' n0=some (.lst nm)→H n0=none→zY T M k0 N most nm wd→Q (.ref p) H'
theorem lJ {T:jF} {M:GK→Bool} {k0:GK} {N:Nat} {most:Int} {nm nm':List V} {wd wd':Str} (h:zY T M k0 N most nm wd) (h':zY T M k0 N most nm' wd'):nm'=nm∧wd'=wd:=by
 rcases h with ⟨a,rfl,rfl⟩|⟨a,rfl,rfl⟩<;>rcases h' with ⟨b,rfl,rfl⟩|⟨b,rfl,rfl⟩
 ·exact ⟨rfl,rfl⟩
 ·omega
 ·omega
 ·exact ⟨rfl,rfl⟩
theorem iS (L:List (List GK)):(L.map fun l=>((l.length:Nat):Int)).sum=((L.flatten.length:Nat):Int):=by
 induction L with
 |nil=>rfl
 |cons a L ih=>rw [List.map_cons,List.sum_cons,ih,List.flatten_cons,List.length_append];omega
theorem Z8 {K:W.Frag} {H H':Hp} {tL a:Addr} {tp:Array Value} {xs:List V} (k:vY tL H H') (ht:H tL=some (.tbl tp)) (h:SqL K H a xs):SqL K H' a xs:=by
 rcases h with (h|⟨o,h⟩)|h
 ·exact .inl (.inl (vS k ht h (fun z=>by cases z)))
 ·exact .inl (.inr ⟨o,vS k ht h (fun z=>by cases z)⟩)
 ·exact .inr h
structure Lay55 (w:World) (H:Hp) (dT dM:Addr) (T:jF) (ls:List Addr) (M:GK→Bool) (m n:Nat) (k:GK) (y:V):Prop where
 tab:TabAt w H dT T ls
 ok:TabOk m n 1100 T
 mrk:MarkAt w H dM T M
 key:(GV H k).1 y
 at_:(jM T k).isSome=true
theorem Lay55.same {w:World} {H H':Hp} {dT dM:Addr} {T:jF} {ls:List Addr} {M:GK→Bool} {m n:Nat} {k:GK} {y:V} (h:Lay55 w H dT dM T ls M m n k y) (s:Same H H'):Lay55 w H' dT dM T ls M m n k y :=
 ⟨h.tab.same s,h.ok,h.mrk.same s,jZ s h.key,h.at_⟩
theorem Lay55.keepT {w:World} {H H':Hp} {tL dT dM:Addr} {tp:Array Value} {T:jF} {ls:List Addr} {M:GK→Bool} {m n:Nat} {k:GK} {y:V} (h:Lay55 w H dT dM T ls M m n k y) (s:vY tL H H') (ht:H tL=some (.tbl tp)):Lay55 w H' dT dM T ls M m n k y :=
 ⟨h.tab.keepT s ht,h.ok,h.mrk.keepT s ht,(GV.keep (Q3 s ht) k).1 _ h.key,h.at_⟩
structure Ready55 (w:World) (H:Hp) (fa fe cT cM dT dM:Addr) (T:jF) (ls:List Addr) (M:GK→Bool) (m n:Nat) (k:GK) (y:V):Prop where
 lay:Lay55 w H dT dM T ls M m n k y
 fa:FnIs H fa qQ "law.<locals>._law_ahead" "_law_table_here" cT
 fe:FnIs H fe q4 "law.<locals>._law_ended" "_law_marks_here" cM
theorem Ready55.same {w:World} {H H':Hp} {fa fe cT cM dT dM:Addr} {T:jF} {ls:List Addr} {M:GK→Bool} {m n:Nat} {k:GK} {y:V} (h:Ready55 w H fa fe cT cM dT dM T ls M m n k y) (s:Same H H'):Ready55 w H' fa fe cT cM dT dM T ls M m n k y :=
 ⟨h.lay.same s,h.fa.same s,h.fe.same s⟩
theorem lH {w:World} {H HC:Hp} {fa fe cT cM dT dM:Addr} {T:jF} {ls:List Addr} {M:GK→Bool} {m n N:Nat} {k:GK} {y:V} {most:Int} {σ:St} {P:VK} (h:Ready55 w H fa fe cT cM dT dM T ls M m n k y) (hn1:n≤1000) (hN:∀j,j<N→¬qU T M k j) (hSt:qU T M k N)
  (e5:σ[5]?=some (some (.ref dM))) (e4:σ[4]?=some (some (.ref dT)))
  (hHC:∀q∈[(5,cM),(4,cT)],∃v o u,σ[q.1]?=some (some v)∧HC q.2=some (FnO q.2 o)∧o.data=.cell (some u)∧RelV v u) (hn:∀q∈[(5,cM),(4,cT)],H q.2=none)
  (hP:∀p n0 nm wd H',(∀p∈[(5,cM),(4,cT)],H' p.2=HC p.2)→Same H (kD H' ([(5,cM),(4,cT)].map (·.2)))→kD H' ([(5,cM),(4,cT)].map (·.2)) p=some (.lst [.ref n0,.str wd])→kD H' ([(5,cM),(4,cT)].map (·.2)) n0=some (.lst nm)→H n0=none→zY T M k N most nm wd→P (.ref p) H') :
  ZC w [y,.ref fa,.ref fe,.int most] (kH H HC ([(5,cM),(4,cT)].map (·.2))) P E0:=by
 have hn':∀c∈([(5,cM),(4,cT)]:List (Nat×Addr)).map (·.2),H c=none:=fun c hc=>by
  obtain ⟨q,hq,rfl⟩:=List.mem_map.mp hc
  exact hn q hq
 obtain ⟨vM,oM,uM,a1,a2,a3,a4⟩:=hHC (5,cM) (by simp)
 obtain ⟨vT,oT,uT,b1,b2,b3,b4⟩:=hHC (4,cT) (by simp)
 rw [e5] at a1;cases a1
 rw [e4] at b1;cases b1
 have s:=bC (HC:=HC) hn'
 have dd:H dT≠none:=fun z=>by obtain ⟨_,e,_⟩:=h.lay.tab.ex;rw [z] at e;cases e
 have dm:H dM≠none:=fun z=>by obtain ⟨_,e,_⟩:=h.lay.mrk.ex;rw [z] at e;cases e
 refine ⟨y,fa,fe,dT,dM,most,T,ls,M,m,n,1100,k,N,rfl,h.fa.clo hn' (by simp) b2 b3 b4 dd,h.fe.clo hn' (by simp) a2 a3 a4 dm,h.lay.tab.same s,h.lay.ok,hn1,h.lay.mrk.same s,jZ s h.lay.key,h.lay.at_,hN,hSt,fun p n0 nm wd H' s' g1 g2 g3 g4=>?_⟩
 have c1:=s' cM _ (by rw [yZ (by simp)];exact a2)
 have c2:=s' cT _ (by rw [yZ (by simp)];exact b2)
 have out:∀b xs,H' b=some (.lst xs)→b∉([(5,cM),(4,cT)]:List (Nat×Addr)).map (·.2):=fun b xs e hb=>by
  simp only [List.map_cons,List.map_nil,List.mem_cons,List.mem_nil_iff,or_false] at hb
  rcases hb with rfl|rfl
  ·rw [c1] at e;cases e
  ·rw [c2] at e;cases e
 have hn0:H n0=none:=by
  have:=g3
  rw [kG (out _ _ g2)] at this
  exact this
 refine hP p n0 nm wd H' (eE ?_ ?_) (iO hn' s') (by rw [j9 (out _ _ g1)];exact g1) (by rw [j9 (out _ _ g2)];exact g2) hn0 g4
 ·rw [c1,a2]
 ·rw [c2,b2]
theorem fU (L f:Addr) (cd:Value):closureFor (jJ qQ) (PyProof.Rows.envOfC "law" (jJ qN) L f cd)=pure [(("_law_table_here":Str),L+2)]:=rfl
theorem fT (L f:Addr) (cd:Value):closureFor (jJ q4) (PyProof.Rows.envOfC "law" (jJ qN) L f cd)=pure [(("_law_marks_here":Str),L+1)]:=rfl
structure Txt (K:W.Frag) (mg:Str→Option Value) (eC eW eM eD eT eS eN:Addr):Prop where
 z_list:mg "list"=none
 z_reversed:mg "reversed"=none
 z_len:mg "len"=none
 z_str:mg "str"=none
 z_range:mg "range"=none
 z_isinstance:mg "isinstance"=none
 z_ValueError:mg "ValueError"=none
 z_sum:mg "sum"=none
 z_int:mg "int"=none
 z_max:mg "max"=none
 c_CanalError:mg "CanalError"=some (.ref eC)
 c_TooWide:mg "TooWide"=some (.ref eW)
 c_TooMany:mg "TooMany"=some (.ref eM)
 c_TooDry:mg "TooDry"=some (.ref eD)
 c_Torn:mg "Torn"=some (.ref eT)
 c_Short:mg "Short"=some (.ref eS)
 c_NotNow:mg "NotNow"=some (.ref eN)
 x_TooWide:eI K eW
 at_:ExcAttr K eW
 cl:(W.clsIn K eW).isSome=true
 exm:W.exmOne K (.ref eW) (.ref eC)=some true
 k_M:W.kitOne K (.ref eW) (.ref eM)=some false
 k_D:W.kitOne K (.ref eW) (.ref eD)=some false
 k_T:W.kitOne K (.ref eW) (.ref eT)=some false
 k_S:W.kitOne K (.ref eW) (.ref eS)=some false
 k_N:W.kitOne K (.ref eW) (.ref eN)=some false
 k_W:W.kitOne K (.ref eW) (.ref eW)=some true
 k_V:W.kitOne K (.ref eW) (.type "ValueError")=some true
set_option maxHeartbeats 4000000
section
variable {P:Program} {w:World} {K:W.Frag} {mg:Str→Option Value} {base:Heap} {eC eW eM eD eT eS eN:Addr}
theorem fK:CloScope ["_law_state","_law_table_here"] ["_law_state"] ["_law_table_here"] (jJ qQ):=⟨rfl,rfl,rfl,by decide +kernel,rfl,by decide +kernel,by decide +kernel,dJ (by decide +kernel),by decide +kernel⟩
theorem eR (T:Txt K mg eC eW eM eD eT eS eN) : FnV P w K mg base j0 3 (z3 "law.<locals>._law_ahead" (j4 qQ) (jW qQ) (jJ qQ) ["_law_state"] ["_law_table_here"] (cQ w)):=by
 refine dN fK (fun _ _ _ _ _ _ _ us hl=>match us,hl with|[_],_=>rfl) fun A outer s H f cdv cl fvs vs Q E hcl hr hc h=>?_
 obtain ⟨y,d,T0,ls,k,ps,rfl,rfl,hd,hT,hy,hk,q⟩:=h
 have hu:_<cLine:=hr.units0
 have hu1:=kX hr
 have hu9:=q9 hr
 have hu10:=q5 hr
 refine ⟨_,(jO (j5 (JD gB (by rfl) T.z_list PyProof.Rows.boot_list (jA (vL hu9 (pv 1) (pv 0) (fun _ _=>rfl)) jD)))),?_⟩
 obtain ⟨kvs,e1,g,_,e3⟩:=hT.ex
 obtain ⟨l,xs,f1,f2,f3⟩:=e3 k ps hk
 refine ⟨_,rfl,_,rfl,d,kvs,k,_,rfl,.of (by rw [j9 hd];exact e1),g.keep (JW hc),(GV.keep (JW hc) k).1 _ hy,hT.deep k ps hk,f1,?_⟩
 refine ⟨l,xs,rfl,.inl (.of (by rw [j9 (lY hc f2)];exact f2)),fun p hp hn=>?_⟩
 have hp':p∉cl.map (·.2):=fun hin=>by have:=hn p hin;rw [jE] at this;cases this
 rw [mM hp']
 exact q p xs (by rw [j9 hp'] at hp;exact hp) f3
theorem fL:CloScope ["_law_state","_law_marks_here"] ["_law_state"] ["_law_marks_here"] (jJ q4):=⟨rfl,rfl,rfl,by decide +kernel,rfl,by decide +kernel,by decide +kernel,dJ (by decide +kernel),by decide +kernel⟩
theorem eU (T:Txt K mg eC eW eM eD eT eS eN) : FnV P w K mg base j0 3 (z3 "law.<locals>._law_ended" (j4 q4) (jW q4) (jJ q4) ["_law_state"] ["_law_marks_here"] (cP w)):=by
 refine dN fL (fun _ _ _ _ _ _ _ us hl=>match us,hl with|[_],_=>rfl) fun A outer s H f cdv cl fvs vs Q E hcl hr hc h=>?_
 obtain ⟨y,d,T0,M,k,rfl,rfl,hd,hM,hy,h8,hk,q⟩:=h
 have hu:_<cLine:=hr.units0
 have hu1:=kX hr
 have hu9:=q9 hr
 have hu10:=q5 hr
 refine ⟨_,(jO (j5 (vL hu9 (pv 1) (pv 0) (fun _ _=>rfl)))),?_⟩
 obtain ⟨kvs,e1,g,e3⟩:=hM.ex
 refine ⟨_,rfl,_,rfl,d,kvs,k,_,rfl,.of (by rw [j9 hd];exact e1),g.keep (JW hc),(GV.keep (JW hc) k).1 _ hy,h8,e3 k hk,fun _=>?_⟩
 rw [mO]
 exact q
theorem zF:FnScope ["layer","ahead","came","fresh","state","deed","behind"] ["layer","ahead","came"] (jJ yQ):=⟨rfl,rfl,rfl,by decide +kernel,rfl,by decide +kernel,by decide +kernel⟩
theorem fI {f:Addr} {fd:FuncData} (F:Fun K "next_layer" "next_layer" yQ f fd) (T:Txt K mg eC eW eM eD eT eS eN) (V__law_ahead:FnV P w K mg base j0 3 (z3 "law.<locals>._law_ahead" (j4 qQ) (jW qQ) (jJ qQ) ["_law_state"] ["_law_table_here"] (cQ w))):FnOk P w K mg base j0 5 f fd ["layer","ahead","came"] (dC w):=by
 refine F.ok zF (fun vs H Q E h=>?_) (fun cdv A outer s H vs Q E hr h=>?_)
 ·obtain ⟨l,fa,dc,dT,H0,T0,ls,m,n,c0,xs,lay,met,rfl,s0,hdc,hA,hT,hO,hn,hl,hks,hsub,hdom,hC,q⟩:=h
  rfl
 obtain ⟨l,fa,dc,dT,H0,T0,ls,m,n,c0,xs,lay,met,rfl,s0,hdc,hA,hT,hO,hn,hl,hks,hsub,hdom,hC,q⟩:=h
 have hu:_<cLine:=hr.units0
 have hu1:=kX hr
 have hu9:=q9 hr
 have hu10:=q5 hr
 refine ⟨_,(jL (jT (i:=3) zF.nd rfl (by first|exact Or.inl rfl|exact Or.inr rfl) (j8 jD))
   (jL (qS PassesOwn.never rfl (qM (pv 0)) (kP (i:=4) zF.nd rfl (by first|exact Or.inl rfl|exact Or.inr rfl))
    (jO (qS PassesOwn.never rfl (qM (bX (i:=1) V__law_ahead (hr.mono (by decide)) ZH rfl (by first|exact .inl rfl|exact .inr rfl|exact .inr (.inl rfl)|exact .inr (.inr rfl)) (jA (pv 4) jD))) (m9 rfl (bV (kP (i:=5) zF.nd rfl (by first|exact Or.inl rfl|exact Or.inr rfl)) (bV (kP (i:=6) zF.nd rfl (by first|exact Or.inl rfl|exact Or.inr rfl)) lR)))
    (jO (kJ (dE (bA hu9 (pv 6) (pv 2))) (jL (JY hu9 (pv 2) (pv 6) (vU (jA (pv 4) (jA (pv 5) jD))) rfl)
   (jO (vD (yD PySem.F.plainAttrs_list PySem.F.slot_list_append PySem.F.type_list_append vQ (pv 3) (jA (pv 6) jD))))) kI)))))
   (jO (j5 (pv 3))))),?_⟩
 refine ⟨Nat.zero_le _,fun r hr0=>?_⟩
 have u0:=jN hr0 (.lst [])
 obtain ⟨kvs0,c1,_⟩:=hC.ex
 have hne:r≠dc:=fun z=>by rw [z,c1] at hr0;cases hr0
 have lne:l≠dc:=fun z=>by rw [z,c1] at hl;cases hl
 refine ⟨_,rfl,l,rfl,⟨_,SqL.of (u0 _ _ hl)⟩,?_⟩
 refine vJ (K:=K) (xs:=xs) (fun i σ Hi=>∃acc c4 c5 c6,σ=[some (.ref l),some (.ref fa),some (.ref dc),some (.ref r),c4,c5,c6]∧NextIn w H Hi dc r T0 met acc∧acc=j3 T0 met [] (lay.take i)) ⟨[],none,none,none,rfl,⟨fun a o _ e=>u0 _ _ e,hr0,hne,⟨[],jE,rfl,fun i x e=>by cases e⟩,by rw [List.append_nil];exact hC.same u0,fun x hx=>by cases hx⟩,rfl⟩ (fun i σ Hi _ ⟨_,_,_,_,_,hI,_⟩=>SqL.of (hI.keep l _ lne hl)) ?_ ?_
 ·rintro i x σ Hi hx ⟨acc,c4,c5,c6,rfl,hI,hacc⟩
  obtain ⟨k,hk,hyk,h8⟩:=hks.2 i x hx
  have hkm:=hsub k (List.mem_of_getElem? hk)
  obtain ⟨ps,hps⟩:=Option.isSome_iff_exists.mp (hdom k hkm)
  have tkI:∀a z,H a=some (.tup z)→Hi a=some (.tup z):=fun a z e=>hI.keep a _ (fun y=>by rw [y,c1] at e;cases e) e
  have sI:Same H0 Hi:=fun a o e=>hI.keep a o (kM e hdc) (s0 _ _ e)
  obtain ⟨cc,cdv,fd,hcn,C⟩:=hA.same sI
  have hyk':=(GV.keep tkI k).1 _ hyk
  refine ⟨fa,rfl,_,rfl,⟨rfl,_,_,cdv,fd,C,rfl,x,dT,T0,ls,k,ps,rfl,rfl,by intro hin;exact hcn (List.mem_singleton.mp hin).symm,hT.same sI,hyk',hps,fun p zs hp hP=>⟨p,rfl,⟨_,SqL.of jE⟩,?_⟩⟩⟩
  have up:=jN hp (.lst zs)
  obtain ⟨kvsI,d1,_⟩:=hI.came.ex
  obtain ⟨ysI,r1,_⟩:=hI.row
  have pne:p≠dc:=fun z=>by rw [z,d1] at hp;cases hp
  have pnr:p≠r:=fun z=>by rw [z,r1] at hp;cases hp
  have hPP:=hP.same up
  have hah:kR T0 k=ps:=by unfold kR;rw [hps];rfl
  refine vJ (K:=K) (a:=p) (xs:=zs) (fun j σ Hj=>∃acc' c5 c6,σ=[some (.ref l),some (.ref fa),some (.ref dc),some (.ref r),some x,c5,c6]∧NextIn w H Hj dc r T0 met acc'∧(∀a o,a≠dc→a≠r→jB Hi p (.lst zs) a=some o→Hj a=some o)∧acc'=kQ met acc (ps.take j)) ⟨acc,c5,c6,rfl,⟨fun a o n e=>up _ _ (hI.keep a o n e),hI.rn,hI.nr,⟨ysI,up _ _ r1,?_⟩,hI.came.same up,hI.dom⟩,fun _ _ _ _ e=>e,rfl⟩ (fun j σ Hj _ ⟨_,_,_,_,_,kp,_⟩=>SqL.of (kp p _ pne pnr jE)) ?_ ?_
  ·obtain ⟨ys',r1',r2'⟩:=hI.row
   rw [r1] at r1';cases r1'
   exact r2'.same up
  ·rintro j z σ Hj hz ⟨acc',c5,c6,rfl,hJ,kp,hacc'⟩
   obtain ⟨pr,t,b,c,p1,rfl,p3,p4,p5,p6,p7⟩:=hPP.2 j z hz
   have tkJ:∀a z,jB Hi p (.lst zs) a=some (.tup z)→Hj a=some (.tup z):=fun a z e=>kp a _ (fun y=>by rw [y,up _ _ d1] at e;cases e) (fun y=>by rw [y,up _ _ r1] at e;cases e) e
   have p3':=tkJ _ _ p3
   have p4':=(GV.keep tkJ _).1 _ p4
   have p5':=(GV.keep tkJ _).1 _ p5
   have hxJ:=(GV.keep tkJ _).1 _ (jZ up hyk')
   have hin:pr∈kR T0 k:=by rw [hah];exact List.mem_of_getElem? p1
   have ht:(ps.take (j+1))=ps.take j++[pr]:=by rw [List.take_add_one,p1];rfl
   obtain ⟨kvs,e1,g,e2,e3⟩:=hJ.came.ex
   refine ⟨t,[b,c],rfl,.inl (.inl p3'),rfl,_,_,rfl,_,_,rfl,rfl,_,rfl,_,rfl,dc,kvs,pr.2,rfl,.of e1,g,p5',p7,_,rfl,?_⟩
   rw [bE,e2]
   by_cases hm:pr.2∈met++acc'
   ·rw [decide_eq_true hm]
    refine vB ⟨acc',_,_,rfl,hJ,kp,?_⟩
    rw [ht,JG,← hacc',kZ,if_pos hm]
   ·rw [decide_eq_false hm]
    obtain ⟨ys,er,hky⟩:=hJ.row
    have hlen:(met++acc').length≤1000:=by
     have:=yV hO (l:=met++acc') (by rw [← e2];exact g.once) (fun x hx=>(List.mem_append.mp hx).elim (hdom x) (hJ.dom x))
     omega
    have hkl:kvs.length=(met++acc').length:=by rw [← e2,List.length_map]
    refine qY ⟨_,rfl,_,rfl,jY (by show 2≤1000;decide),fun t2 ht2=>⟨_,rfl,_,rfl,dc,kvs,pr.2,rfl,jN ht2 _ _ _ e1,qI (jN ht2 _) g,jZ (jN ht2 _) p5',p7,qR (by omega),?_⟩⟩
    have er3:jB (jB Hj t2 (.tup [x,b])) dc (GO w dc (kA kvs pr.2 c (.ref t2))) r=some (.lst ys):=by rw [jC hJ.nr];exact jN ht2 _ _ _ er
    refine ⟨_,rfl,.inl ⟨rfl,_,SqL.of er3⟩,_,rfl,r,_,_,rfl,rfl,er3,qR (by have:=hky.1;rw [List.length_append] at hlen;omega),?_⟩
    refine ⟨acc'++[pr.2],_,_,rfl,hJ.put e1 g e2 e3 er hky hm ht2 hxJ h8 hkm p4' p6 p5' p7 hin (QX hT.shut hin),fun a o n1 n2 e=>?_,?_⟩
    ·rw [jC n2,jC n1];exact jN ht2 _ _ _ (kp a o n1 n2 e)
    ·rw [ht,JG,← hacc',kZ,if_neg hm]
  ·rintro σ Hj ⟨acc',c5,c6,rfl,hJ,kp,hacc'⟩
   refine ⟨acc',_,_,_,rfl,hJ,?_⟩
   rw [hP.1,List.take_length] at hacc'
   rw [hacc',List.take_add_one,hk]
   show _=j3 T0 met [] (lay.take i++[k])
   rw [ZX,hah,← hacc]
 ·rintro σ Hf ⟨acc,c4,c5,c6,rfl,hI,hacc⟩
  rw [hks.1,List.take_length] at hacc
  subst hacc
  obtain ⟨ys,er,hky⟩:=hI.row
  exact ⟨_,rfl,q r ys Hf hI.rn hI.nr hI.keep er hky hI.came⟩
theorem JF:FnScope ["came","state","row","step"] ["came","state"] (jJ yR):=⟨rfl,rfl,rfl,by decide +kernel,rfl,by decide +kernel,by decide +kernel⟩
theorem fJ {f:Addr} {fd:FuncData} (F:Fun K "row_to" "row_to" yR f fd) (T:Txt K mg eC eW eM eD eT eS eN) : FnOk P w K mg base j0 2 f fd ["came","state"] (cK w):=by
  refine F.ok JF (fun vs H Q E h=>?_) (fun cdv A outer s H vs Q E hr h=>?_)
  · obtain ⟨d,y,T0,met,k,rfl,hC,hl,hy,h8,hk,q⟩:=h
    rfl
  obtain ⟨d,y,T0,met,k,rfl,hC,hl,hy,h8,hk,q⟩:=h
  have hu:_<cLine:=hr.units0
  have hu1:=kX hr
  have hu9:=q9 hr
  have hu10:=q5 hr
  refine ⟨_,(jL (jT (i:=2) JF.nd rfl (by first|exact Or.inl rfl|exact Or.inr rfl) (j8 jD))
      (jL (jT (i:=3) JF.nd rfl (by first|exact Or.inl rfl|exact Or.inr rfl) (vL hu9 (pv 0) (pv 1) (fun _ _=>rfl)))
      (jL (Q0 PassesOwn.never (kN lV (pv 3) dG (j6 _)) (jL (vD (yD PySem.F.plainAttrs_list PySem.F.slot_list_append PySem.F.type_list_append vQ (pv 2) (jA (kT ix_tup (pv 3) jG (fun _ _=>rfl)) jD)))
      (jO (jT (i:=3) JF.nd rfl (by first|exact Or.inl rfl|exact Or.inr rfl) (vL hu9 (pv 0) (kT ix_tup (pv 3) jG (fun _ _=>rfl)) (fun _ _=>rfl))))))
      (jO (j5 (gN rfl (by rfl) T.z_list (by rfl) T.z_reversed (jA (pv 2) jD))))))),?_⟩
  refine ⟨Nat.zero_le _,fun r hr0=>?_⟩
  have u0:=jN hr0 (.lst [])
  obtain ⟨kvs,e1,g,e2,e3⟩:=hC.ex
  obtain ⟨i,hi⟩:=List.mem_iff_getElem?.mp hk
  have hil:=(List.getElem?_eq_some_iff.mp hi).1
  have at_:∀(i:Nat) (k:GK),met[i]?=some k→∃p:jR,kvs[i]?=some p∧p.1=k:=fun i k h=>by
    rw [← e2,List.getElem?_map] at h
    exact Option.map_eq_some_iff.mp h
  obtain ⟨p,hp,hpk⟩:=at_ i k hi
  refine ⟨_,rfl,_,rfl,d,kvs,k,_,rfl,.of (u0 _ _ e1),qI u0 g,jZ u0 hy,h8,by rw [← hpk];exact cY g.once hp,?_⟩
  have step:∀(Hi:Hp) (i:Nat) (p:jR),Same H Hi→kvs[i]?=some p→(p.2.2=.non∨∃t yp dv kp j,p.2.2=.ref t∧Hi t=some (.tup [yp,dv])∧(GV Hi kp).1 yp∧gd kp≤8∧met[j]?=some kp∧j<i):=fun Hi i p s hp=>by
    rcases e3 i p hp with h|⟨t,yp,dv,kp,de,j,a1,a2,a3,a4,a5,a6,a7,a8,a9⟩
    · exact .inl h
    · exact .inr ⟨t,yp,dv,kp,j,a1,s _ _ a2,jZ s a3,a4,a8,a7⟩
  refine ⟨eG H d y r met,⟨i,p.2.2,[],rfl,u0,jE,by show 0+i≤1000;omega,step _ i p u0 hp⟩,?_⟩
  rintro m σ Hi ⟨sv,xs,rfl,s,hr,hlm,hs⟩
  refine ⟨_,rfl,rfl,_,rfl,?_⟩
  rcases hs with rfl|⟨t,yp,dv,kp,j,rfl,ht,hyp,hp8,hj,hjm⟩
  · refine oK rfl ?_
    exact ⟨_,rfl,r,xs,rfl,SqL.of hr,fun l hl=>q l _ _ (s.trans (jN hl _)) jE⟩
  · refine oJ (fun z=>by cases z) ⟨fun σ' H'=>∃m',m'<m∧eG H d y r met m' σ' H',fun _ _ h=>h,?_⟩
    obtain ⟨p',hp',hpk'⟩:=at_ j kp hj
    refine ⟨_,rfl,.inl ⟨rfl,_,SqL.of hr⟩,_,rfl,t,_,_,dv,rfl,rfl,SqT.of ht,rfl,r,_,_,rfl,rfl,hr,qR (by omega),?_⟩
    have tk:∀a l,Hi a=some (.tup l)→jB Hi r (.lst (xs++[dv])) a=some (.tup l):=fun a l e=>by rw [jC (fun z=>by rw [z,hr] at e;cases e)];exact e
    have s2:Same H (jB Hi r (.lst (xs++[dv]))):=qP hr0 s
    refine ⟨_,rfl,_,rfl,t,_,_,yp,rfl,rfl,SqT.of (tk _ _ ht),rfl,d,kvs,kp,_,rfl,.of (s2 _ _ e1),qI s2 g,(GV.keep tk _).1 _ hyp,hp8,by rw [← hpk'];exact cY g.once hp',?_⟩
    exact ⟨j,hjm,p'.2.2,xs++[dv],rfl,s2,jE,by rw [List.length_append,List.length_singleton];omega,step _ j p' s2 hp'⟩
theorem zE:FnScope ["first","ahead","ended","most","came","layers","ended_ones","layer"] ["first","ahead","ended","most"] (jJ v9):=⟨rfl,rfl,rfl,by decide +kernel,rfl,by decide +kernel,by decide +kernel⟩
theorem fH {f:Addr} {fd:FuncData} (F:Fun K "layered" "layered" v9 f fd) (T:Txt K mg eC eW eM eD eT eS eN) (V__law_ended:FnV P w K mg base j0 3 (z3 "law.<locals>._law_ended" (j4 q4) (jW q4) (jJ q4) ["_law_state"] ["_law_marks_here"] (cP w))) (D_row_to:Def P w K mg base 2 "row_to" ["came","state"] [] (cK w)) (D_next_layer:Def P w K mg base 5 "next_layer" ["layer","ahead","came"] [] (dC w)):FnOk P w K mg base (vC P w) 7 f fd ["first","ahead","ended","most"] (Z7 w eW):=by
 refine F.okX zE (fun vs H Q E h=>?_) (fun cdv A outer s H vs Q E hr h=>?_)
 ·obtain ⟨y,fa,fe,dT,dM,most,T0,ls,M,m0,n,c0,k0,N,rfl,hA,hE,hT,hO,hn,hM,hy,hk0,hN,hSt,qF,qC,qE⟩:=h
  rfl
 obtain ⟨y,fa,fe,dT,dM,most,T0,ls,M,m0,n,c0,k0,N,rfl,hA,hE,hT,hO,hn,hM,hy,hk0,hN,hSt,qF,qC,qE⟩:=h
 have hu:_<cLine:=hr.units0
 have hu1:=kX hr
 have hu9:=q9 hr
 have hu10:=q5 hr
 refine ⟨_,(jL (jT (i:=4) zE.nd rfl (by first|exact Or.inl rfl|exact Or.inr rfl) (bW hu9 (pv 0) dG))
   (jL (jT (i:=5) zE.nd rfl (by first|exact Or.inl rfl|exact Or.inr rfl) (j8 (jA (j8 (jA (pv 0) jD)) jD)))
   (jL (Q0 nB (kN oE (qA gT (by rfl) T.z_len PySem.boot_len (jA (pv 4) jD)) (pv 3) (j6 _)) (jL (ZY (i:=6) ["state","ended"] (v5 1 [2]) zE.nd rfl (by first|exact Or.inl rfl|exact Or.inr rfl) rfl (JA (jJ v9) rfl rfl (by decide +kernel) (by decide +kernel) (by decide +kernel)) (zC 1 [2] rfl rfl (by decide +kernel)) (qM (kT q0 (pv 5) (z4 zT jG) (fun _ _=>rfl))) (fun _ _ _ _ _=>(kP (i:=0) (show List.Nodup (["state","ended"]:List Str) from by decide +kernel) rfl (by first|exact Or.inl rfl|exact Or.inr rfl))) (fun _ _ _ _ _=>(Q6 (QA (bX (i:=1) V__law_ended (hr.mono (by decide)) ZH rfl (by first|exact .inl rfl|exact .inr rfl|exact .inr (.inl rfl)|exact .inr (.inr rfl)) (jA (pv 0) jD))))) (fun _ _ _ _ _=>(pv 0)))
   (jL (kJ (bU (pv 6) (fun _=>rfl)) (jO (j5 (vU (jA qL (jA (j7 D_row_to hr rfl (jA (pv 4) (jA (kT q0 (pv 6) jG (fun _ _=>rfl)) jD))) (jA (pv 5) jD)))))) kI)
   (jL (jT (i:=7) zE.nd rfl (by first|exact Or.inl rfl|exact Or.inr rfl) (j7 D_next_layer hr rfl (jA (kT q0 (pv 5) (z4 zT jG) (fun _ _=>rfl)) (jA (pv 1) (jA (pv 4) jD)))))
   (jL (kJ (m8 (bU (pv 7) (fun _=>rfl))) (jO (j5 (vU (jA qL (jA (pv 5) jD))))) kI)
   (jO (vD (yD PySem.F.plainAttrs_list PySem.F.slot_list_append PySem.F.type_list_append vQ (pv 5) (jA (pv 7) jD)))))))))
   (jO (iX gX rfl rfl T.c_TooWide T.x_TooWide (jA qL jD)))))),?_⟩
 have h8:gd k0≤8:=by obtain ⟨ps,hps⟩:=Option.isSome_iff_exists.mp hk0;exact hT.deep k0 ps hps
 have dom:=fun i x (h:x∈(jH T0 k0 i).flatten)=>JX hT.shut hk0 i x h
 have fit:∀i,(jH T0 k0 i).flatten.length≤1000:=fun i=>Nat.le_trans (yV hO (zH i) (dom i)) hn
 refine fun dc hdc=>⟨_,rfl,jE,k0,jZ (jN hdc _) hy,h8,?_⟩
 have s1:Same H (jB (jB H dc (GO w dc [])) dc (GO w dc [(k0,y,.non)])):=qP hdc (jN hdc _)
 have d1:jB (jB H dc (GO w dc [])) dc (GO w dc [(k0,y,.non)]) dc=some (GO w dc [(k0,y,.non)]):=jE
 refine ⟨_,rfl,jY (by show 1≤1000;decide),fun l1 hl1=>⟨jY (by show 1≤1000;decide),fun lr hlr=>?_⟩⟩
 have u1:=jN hl1 (.lst [y])
 have u2:=jN hlr (.lst [.ref l1])
 have s2:=(s1.trans u1).trans u2
 have ne1:l1≠lr:=fun z=>by rw [← z,jE] at hlr;cases hlr
 have hlr0:H lr=none:=by
  cases e:H lr with
  |none=>rfl
  |some o=>have:=(s1.trans u1) _ _ e;rw [hlr] at this;cases this
 refine ⟨eH w H y fa fe most dc lr T0 k0 N,⟨N,0,none,none,rfl,Nat.add_zero N,s2,lC (u2 _ _ (u1 _ _ d1)) (jZ s2 hy) h8,Z0 jE (u2 _ _ jE) ne1 (jZ s2 hy) h8⟩,?_⟩
 rintro m σ Hi ⟨i,c6,c7,rfl,hm,s,hC,hL⟩
 obtain ⟨kvs,e1,g,e2,e3⟩:=hC.ex
 have hkl:kvs.length=(jH T0 k0 i).flatten.length:=by rw [← e2,List.length_map]
 refine ⟨_,rfl,dc,kvs,rfl,.of e1,g,_,rfl,_,_,rfl,rfl,_,rfl,kF (fun c=>?_) (fun c=>?_)⟩
 case refine_2 =>
  have c':¬((kvs.length:Nat):Int)≤most:=of_decide_eq_false (Bool.eq_false_iff.mpr c)
  have:=bH (T:=T0) (k0:=k0) (i:=i) m
  rw [show i+m=N by omega] at this
  exact ⟨by show 1≤sizeLine;decide,qE (by omega) _ s⟩
 have c':((kvs.length:Nat):Int)≤most:=of_decide_eq_true c
 refine ⟨fun σ' H'=>∃m',m'<m∧eH w H y fa fe most dc lr T0 k0 N m' σ' H',fun _ _ h=>h,?_⟩
 obtain ⟨xs,la,ys,f1,f2,f3,f4,f5,f6⟩:=hL.last
 have hyl:ys.length≤1000:=by
  rw [f5.1]
  have:=fit i
  have h2:(jP T0 k0 i).length≤(jH T0 k0 i).flatten.length:=(List.sublist_flatten_of_mem (List.mem_of_getElem? (zJ i))).length_le
  omega
 refine ⟨_,rfl,_,rfl,lr,xs,_,_,rfl,rfl,SqL.of f1,f2,la,rfl,⟨_,SqL.of f4⟩,fun bt hbt=>?_⟩
 refine JB (K:=K) (a:=la) (xs:=ys) (caps:=[some (.ref fe)]) (fun j zs Hj=>KeysAt Hj zs (((jP T0 k0 i).take j).filter M)) hbt (SqL.of f4) ⟨rfl,fun i x e=>by cases e⟩ ?_ ?_
 ·rintro j x zs Hj hx hj hle sm hY hR
  obtain ⟨kj,hkj,hgj,h8j⟩:=f5.2 j x hx
  obtain ⟨cc,cdv,fd,hcn,C⟩:=hE.same (s.trans sm)
  have hdj:=dom i kj (yW (List.mem_of_getElem? hkj))
  refine ⟨fe,rfl,_,rfl,⟨rfl,_,_,cdv,fd,C,rfl,x,dM,T0,M,kj,rfl,rfl,by intro hin;exact hcn (List.mem_singleton.mp hin).symm,hM.same (s.trans sm),jZ sm hgj,h8j,hdj,_,rfl,?_⟩⟩
  have ht:((jP T0 k0 i).take (j+1))=(jP T0 k0 i).take j++[kj]:=by rw [List.take_add_one,hkj];rfl
  cases hMk:M kj with
  |true =>
   refine qY ⟨_,rfl,JC hbt sm hY hle (by omega) (Same.refl _) ?_⟩
   show KeysAt _ _ (((jP T0 k0 i).take (j+1)).filter M)
   rw [ht,List.filter_append,List.filter_cons,if_pos hMk]
   exact hR.snoc (k:=kj) (fun a l e=>by rw [jC fun z=>by subst z;rw [hY] at e;cases e];exact e) (jZ sm hgj) h8j
  |false =>
   refine vB (QW sm hY hle (Same.refl _) ?_)
   show KeysAt _ _ (((jP T0 k0 i).take (j+1)).filter M)
   rw [ht,List.filter_append,List.filter_cons,if_neg (by rw [hMk];decide)]
   simpa using hR
 rintro zs Hg sg hbtg hleg hR
 rw [f5.1,List.take_length] at hR
 have hany:=cG (M:=M) (l:=jP T0 k0 i)
 have sG:=s.trans sg
 cases hf:(jP T0 k0 i).filter M with
 |cons kf rest =>
  rw [hf] at hR hany
  have hi:i=N:=cI hN hm (.inl hany)
  subst hi
  match zs,hR with
  |[],hR=>exact absurd hR.1 (by simp)
  |z0::zs',hR =>
   obtain ⟨k',a1,a2,a3⟩:=hR.2 0 z0 rfl
   cases a1
   have hkf:kf∈jP T0 k0 i:=(List.mem_filter.mp (by rw [hf];exact List.mem_cons_self:kf∈(jP T0 k0 i).filter M)).1
   refine ⟨_,rfl,true,.inl ⟨_,SqL.of hbtg,rfl⟩,qY ?_⟩
   refine ⟨_,rfl,_,rfl,bt,_,0,z0,rfl,rfl,SqL.of hbtg,zS (j:=0) rfl,dc,z0,T0,_,kf,rfl,hC.same sg,fit i,a2,a3,yW hkf,fun rr xs' H' s' hrr=>⟨_,rfl,jY (by show 3≤1000;decide),fun t ht=>?_⟩⟩
   have ut:=jN ht (.tup [.str "found",.ref rr,.ref lr])
   exact qF (by omega) hany t rr lr xs' _ ((sG.trans s').trans ut) jE (ut _ _ hrr) (hL.same ((sg.trans s').trans ut))
 |nil =>
  rw [hf] at hR hany
  obtain rfl:zs=[]:=List.eq_nil_of_length_eq_zero hR.1
  refine ⟨_,rfl,false,.inl ⟨_,SqL.of hbtg,rfl⟩,vB ?_⟩
  refine ⟨_,rfl,_,rfl,lr,xs,_,_,rfl,rfl,SqL.of (sg _ _ f1),f2,_,rfl,_,rfl,la,fa,dc,dT,H,T0,ls,m0,n,c0,ys,jP T0 k0 i,(jH T0 k0 i).flatten,rfl,sG,hdc,hA,hT,hO,hn,sg _ _ f4,f5.same sg,fun k hk=>yW hk,dom i,hC.same sg,fun r zs2 H' hr0 hrn kB hr2 hk2 hc2=>?_⟩
  have hL':=hL.same sg |>.keepB kB (sg _ _ e1)
  have sH':Same H H':=fun a o e=>kB a o (kM e hdc) (sG _ _ e)
  have rlr:r≠lr:=fun z=>by rw [z,sg _ _ f1] at hr0;cases hr0
  cases hnx:kS T0 k0 i with
  |nil =>
   have hi:i=N:=cI hN hm (.inr hnx)
   subst hi
   rw [show j3 T0 (jH T0 k0 i).flatten [] (jP T0 k0 i)=[] from hnx] at hk2
   obtain rfl:zs2=[]:=List.eq_nil_of_length_eq_zero hk2.1
   refine ⟨_,rfl,false,.inl ⟨_,SqL.of hr2,rfl⟩,qY ⟨_,rfl,jY (by show 2≤1000;decide),fun t ht=>?_⟩⟩
   have ut:=jN ht (.tup [.str "closed",.ref lr])
   exact qC (by omega) hany t lr _ (sH'.trans ut) jE (hL'.same ut)
  |cons kx rest =>
   have hk2':=hk2
   rw [show j3 T0 (jH T0 k0 i).flatten [] (jP T0 k0 i)=kx::rest from hnx] at hk2'
   have hlt:m≠0:=fun z=>by
    have hi:i=N:=by omega
    rw [← hi] at hSt
    rcases hSt with h|h
    ·rw [hany] at h;cases h
    ·rw [hnx] at h;cases h
   match zs2,hk2',hr2,hk2 with
   |[],hk2',_,_=>exact absurd hk2'.1 (by simp)
   |z1::zs3,_,hr2,hk2 =>
    obtain ⟨xs2,g1,g2,_⟩:=hL'.ex
    rw [zI] at g2
    refine ⟨_,rfl,true,.inl ⟨_,SqL.of hr2,rfl⟩,vB ⟨_,rfl,.inl ⟨rfl,_,SqL.of g1⟩,_,rfl,lr,_,_,rfl,rfl,g1,qR ?_,?_⟩⟩
    ·have h2:=JT (T:=T0) (M:=M) (k0:=k0) i (fun j hj=>hN j (by omega))
     have:=fit i
     omega
    ·refine ⟨m - 1,by omega,i+1,_,_,rfl,by omega,qP hlr0 sH',?_,?_⟩
     ·rw [vR]
      exact iK hc2 g1
     ·rw [JM]
      exact hL'.put g1 hr2 hk2 rlr
theorem fM:FnScope ["_law_script","_law_k"] ["_law_script","_law_k"] (jJ yI):=⟨rfl,rfl,rfl,by decide +kernel,rfl,by decide +kernel,by decide +kernel⟩
theorem eX {f:Addr} {fd:FuncData} (F:Fun K "_law_cell_at" "_law_cell_at" yI f fd) (T:Txt K mg eC eW eM eD eT eS eN) : FnOk P w K mg base j0 1 f fd ["_law_script","_law_k"] (ZD K):=by
 refine F.ok fM (fun vs H Q E h=>?_) (fun cdv A outer s H vs Q E hr h=>?_)
 ·obtain ⟨a,ns,k,rfl,hS,q⟩:=h
  rfl
 obtain ⟨a,ns,k,rfl,hS,q⟩:=h
 have hu:_<cLine:=hr.units0
 have hu1:=kX hr
 refine ⟨_,(jL (kJ (kN oD (pv 1) (qA zD (by rfl) T.z_len PySem.boot_len (jA (pv 0) jD)) (j6 _)) (jO (j5 (kT q0 (pv 0) (pv 1) (fun _ _=>rfl)))) kI)
   (jO (j5 jG))),?_⟩
 refine ⟨_,rfl,_,rfl,a,_,rfl,.inl hS,_,_,rfl,rfl,_,rfl,?_⟩
 refine kF (fun c=>?_) (fun c=>?_)
 ·have c':(k:Int)<(((ns.map V.int).length:Nat):Int):=of_decide_eq_true c
  rw [List.length_map] at c'
  exact ⟨_,rfl,_,rfl,a,_,_,_,rfl,rfl,hS,lD (by omega),q⟩
 ·have c':¬(k:Int)<(((ns.map V.int).length:Nat):Int):=of_decide_eq_false (Bool.eq_false_iff.mpr c)
  rw [List.length_map] at c'
  have e:ns.getD k 0=0:=by rw [List.getD_eq_getElem?_getD,List.getElem?_eq_none (by omega)];rfl
  rw [e] at q
  exact q
theorem fO:FnScope ["_law_mode","_law_v"] ["_law_mode","_law_v"] (jJ yL):=⟨rfl,rfl,rfl,by decide +kernel,rfl,by decide +kernel,by decide +kernel⟩
theorem fA {f:Addr} {fd:FuncData} (F:Fun K "_law_label" "_law_label" yL f fd) (T:Txt K mg eC eW eM eD eT eS eN) : FnOk P w K mg base j0 2 f fd ["_law_mode","_law_v"] (zQ):=by
 refine F.ok fO (fun vs H Q E h=>?_) (fun cdv A outer s H vs Q E hr h=>?_)
 ·obtain ⟨m,v,rfl,hm,hv,q⟩:=h
  rfl
 obtain ⟨m,v,rfl,hm,hv,q⟩:=h
 have hu:_<cLine:=hr.units0
 have hu1:=kX hr
 refine ⟨_,(jL (kJ (kN qB (pv 0) jG (j6 _)) (jO (j5 (pv 1))) kI)
   (jL (kJ (kN qB (pv 0) jG (j6 _)) (jO (j5 (jK q8 (jK dH (jK zW (pv 1) jG) (jK nE jG jG)) (pv 1)))) kI)
   (jL (kJ (kN qB (pv 0) jG (j6 _)) (jO (j5 (jK i1 (kT dL qL (jK kC (pv 1) jG) (fun _ _=>rfl)) (jK q8 jG (jK qJ (pv 1) jG))))) kI)
   (jL (kJ (kN qB (pv 0) jG (j6 _)) (jO (j5 (vU (jA (jK qJ (pv 1) jG) (jA (vU (jA (jK kC (pv 1) jG) (jA qL jD))) jD))))) kI)
   (jO (j5 (kT q0 (j8 (jA (pv 1) (jA (jK ZZ qL (JD bJ (by rfl) T.z_str PyProof.Rows.boot_str (jA (pv 1) jD))) (jA (vU (jA (pv 1) (jA qL jD))) jD)))) (jK kC (pv 1) jG) (fun _ _=>rfl)))))))),?_⟩
 have q':=fun y H' s g=>q y H' s g (zG m v)
 refine ⟨_,rfl,rfl,_,rfl,kF (fun c=>?_) (fun c=>?_)⟩
 ·have c0:m=0:=by have e:=of_decide_eq_true c;injection e with e;omega
  subst c0
  exact ⟨_,rfl,q' _ _ (Same.refl _) rfl⟩
 have h0:m≠0:=fun z=>c (by subst z;rfl)
 refine ⟨_,rfl,rfl,_,rfl,kF (fun c=>?_) (fun c=>?_)⟩
 ·have c0:m=1:=by have e:=of_decide_eq_true c;injection e with e;omega
  subst c0
  exact ⟨_,rfl,_,_,rfl,rfl,_,_,rfl,rfl,⟨by decide,by decide,by decide⟩,_,_,rfl,rfl,nQ hv,_,rfl,_,_,rfl,rfl,q' _ _ (Same.refl _) rfl⟩
 have h1:m≠1:=fun z=>c (by subst z;rfl)
 refine ⟨_,rfl,rfl,_,rfl,kF (fun c=>?_) (fun c=>?_)⟩
 ·have c0:m=2:=by have e:=of_decide_eq_true c;injection e with e;omega
  subst c0
  refine ⟨_,rfl,_,_,rfl,rfl,(show (0:Int)<3 by decide),("abc":Str),_,("abc":Str).cps.getD (v%3) 0,rfl,rfl,jY (by decide +kernel),nT v,_,rfl,_,_,rfl,rfl,⟨by decide,by decide⟩,_,_,rfl,rfl,_,_,rfl,rfl,by omega,by omega,by show 1≤100;decide,?_⟩
  have e:((1:Int)+(v:Int) / 3).toNat=1+v / 3:=by omega
  rw [e]
  exact q' _ _ (Same.refl _) rfl
 have h2:m≠2:=fun z=>c (by subst z;rfl)
 refine ⟨_,rfl,rfl,_,rfl,kF (fun c=>?_) (fun c=>?_)⟩
 ·have c0:m=3:=by have e:=of_decide_eq_true c;injection e with e;omega
  subst c0
  refine ⟨_,rfl,_,_,rfl,rfl,⟨by decide,by decide⟩,_,rfl,_,_,rfl,rfl,(show (0:Int)<5 by decide),jY (by show 2≤1000;decide),fun t1 ht1=>⟨jY (by show 2≤1000;decide),fun t2 ht2=>?_⟩⟩
  have u1:=jN ht1 (.tup [V.int ((v:Int)%5),.str "x"])
  have u2:=jN ht2 (.tup [V.int ((v:Int) / 5),.ref t1])
  refine q' _ _ (u1.trans u2) ⟨t2,_,rfl,jE,_,_,rfl,(congrArg V.int (by omega)),_,_,rfl,⟨t1,_,rfl,u2 _ _ jE,_,_,rfl,(congrArg V.int (by omega)),_,_,rfl,rfl,rfl⟩,rfl⟩
 have h3:m≠3:=fun z=>c (by subst z;rfl)
 have e4:jU m v=if v%3=0 then .i v else if v%3=1 then .s ("s"++Str.ofString (toString (v:Int))) else .cons (.i v) (.cons (.s "") .nil):=by
  unfold jU
  rw [if_neg h0,if_neg h1,if_neg h2,if_neg h3]
 rw [e4] at q'
 refine ⟨_,rfl,_,rfl,_,rfl,oG v (by omega),_,_,rfl,rfl,jY (oI v (by omega)),_,rfl,jY (by show 2≤1000;decide),fun t1 ht1=>⟨jY (by show 3≤1000;decide),fun l1 hl1=>?_⟩⟩
 have u1:=jN ht1 (.tup [V.int (v:Int),.str ""])
 have u2:=jN hl1 (.lst [V.int (v:Int),.str ("s"++Str.ofString (toString (v:Int))),.ref t1])
 have hlt:v%3<3:=Nat.mod_lt _ (by decide)
 have ei:(v:Int)%3=((v%3:Nat):Int):=by omega
 refine ⟨_,rfl,_,_,rfl,rfl,(show (0:Int)<3 by decide),l1,_,_,([V.int (v:Int),.str ("s"++Str.ofString (toString (v:Int))),.ref t1].getD (v%3) .non),rfl,rfl,SqL.of jE,?_,q' _ _ (u1.trans u2) ?_⟩
 ·rw [ei]
  refine zS ?_
  rw [List.getD_eq_getElem?_getD]
  generalize v%3=n at hlt
  match n,hlt with
  |0,_=>rfl
  |1,_=>rfl
  |2,_=>rfl
 ·generalize v%3=n at hlt
  match n,hlt with
  |0,_=>exact rfl
  |1,_=>exact rfl
  |2,_=>exact ⟨t1,_,rfl,u2 _ _ jE,_,_,rfl,rfl,_,_,rfl,rfl,rfl⟩
theorem QN:FnScope ["_law_mode","_law_j","_law_kind"] ["_law_mode","_law_j"] (jJ yJ):=⟨rfl,rfl,rfl,by decide +kernel,rfl,by decide +kernel,by decide +kernel⟩
theorem eY {f:Addr} {fd:FuncData} (F:Fun K "_law_deed" "_law_deed" yJ f fd) (T:Txt K mg eC eW eM eD eT eS eN) : FnOk P w K mg base j0 2 f fd ["_law_mode","_law_j"] (dD):=by
 refine F.ok QN (fun vs H Q E h=>?_) (fun cdv A outer s H vs Q E hr h=>?_)
 ·obtain ⟨m,j,rfl,hm,hj,q⟩:=h
  rfl
 obtain ⟨m,j,rfl,hm,hj,q⟩:=h
 have hu:_<cLine:=hr.units0
 have hu1:=kX hr
 refine ⟨_,(jL (jT (i:=2) QN.nd rfl (by first|exact Or.inl rfl|exact Or.inr rfl) (jK kC (pv 0) jG))
   (vK (kJ (kN qB (pv 0) jG (j6 _)) (jO (jT (i:=2) QN.nd rfl (by first|exact Or.inl rfl|exact Or.inr rfl) (jK kC (pv 1) jG))) kI)
   (jO (j5 (kT q0 (j8 (jA (pv 1) (jA (jK ZZ qL (JD bJ (by rfl) T.z_str PyProof.Rows.boot_str (jA (pv 1) jD))) (jA (vU (jA qL (jA (pv 1) jD))) jD)))) (pv 2) (fun _ _=>rfl)))))),?_⟩
 refine ⟨_,rfl,_,_,rfl,rfl,(show (0:Int)<3 by decide),?_⟩
 refine ⟨fun σ Hi=>σ=[some (.int m),some (.int j),some (.int (kindD m j))]∧Hi=H,?_,?_⟩
 ·refine ⟨_,rfl,rfl,_,rfl,kF (fun c=>?_) (fun c=>?_)⟩
  ·have c0:m=4:=by have e:=of_decide_eq_true c;injection e with e;omega
   subst c0
   refine ⟨_,rfl,_,_,rfl,rfl,(show (0:Int)<3 by decide),?_,rfl⟩
   rw [show ((kindD 4 j:Nat):Int)=(j:Int)%3 by rw [kindD,if_pos rfl];omega]
   rfl
  ·have h4:m≠4:=fun z=>c (by subst z;rfl)
   refine ⟨?_,rfl⟩
   rw [show ((kindD m j:Nat):Int)=(m:Int)%3 by rw [kindD,if_neg h4];omega]
   rfl
 rintro σ Hi ⟨rfl,rfl⟩
 have hk:kindD m j<3:=by unfold kindD;split<;>exact Nat.mod_lt _ (by decide)
 refine ⟨_,rfl,_,rfl,_,rfl,nG j (by omega),_,_,rfl,rfl,jY (nH j (by omega)),_,rfl,jY (by show 2≤1000;decide),fun t1 ht1=>⟨jY (by show 3≤1000;decide),fun l1 hl1=>?_⟩⟩
 have u1:=jN ht1 (.tup [V.str "go",.int (j:Int)])
 have u2:=jN hl1 (.lst [V.int (j:Int),.str ("d"++Str.ofString (toString (j:Int))),.ref t1])
 refine ⟨_,rfl,l1,_,_,([V.int (j:Int),.str ("d"++Str.ofString (toString (j:Int))),.ref t1].getD (kindD m j) .non),rfl,rfl,SqL.of jE,zS ?_,q _ _ (u1.trans u2) ?_⟩
 ·rw [List.getD_eq_getElem?_getD]
  generalize kindD m j=n at hk
  match n,hk with
  |0,_=>rfl
  |1,_=>rfl
  |2,_=>rfl
 ·unfold vN
  generalize kindD m j=n at hk
  match n,hk with
  |0,_=>exact rfl
  |1,_=>exact rfl
  |2,_=>exact ⟨t1,_,rfl,u2 _ _ jE,_,_,rfl,rfl,_,_,rfl,rfl,rfl⟩
theorem fN:FnScope ["_law_table_here","_law_mode","_law_v","_law_w"] ["_law_table_here","_law_mode","_law_v","_law_w"] (jJ yK):=⟨rfl,rfl,rfl,by decide +kernel,rfl,by decide +kernel,by decide +kernel⟩
theorem eZ {f:Addr} {fd:FuncData} (F:Fun K "_law_joined" "_law_joined" yK f fd) (T:Txt K mg eC eW eM eD eT eS eN) (D__law_label:Def P w K mg base 2 "_law_label" ["_law_mode","_law_v"] [] (zQ)) (D__law_deed:Def P w K mg base 2 "_law_deed" ["_law_mode","_law_j"] [] (dD)):FnOk P w K mg base j0 4 f fd ["_law_table_here","_law_mode","_law_v","_law_w"] (bP w):=by
 refine F.ok fN (fun vs H Q E h=>?_) (fun cdv A outer s H vs Q E hr h=>?_)
 ·obtain ⟨d,m,v,u,T0,ls,ps,rfl,hm,hv,hw,hT,hps,hu0,h190,q⟩:=h
  rfl
 obtain ⟨d,m,v,u,T0,ls,ps,rfl,hm,hv,hw,hT,hps,hu0,h190,q⟩:=h
 have hu:_<cLine:=hr.units0
 have hu1:=kX hr
 have hu9:=q9 hr
 have hu10:=q5 hr
 refine ⟨_,(jO (vD (yD PySem.F.plainAttrs_list PySem.F.slot_list_append PySem.F.type_list_append vQ (vL hu9 (pv 0) (j7 D__law_label hr rfl (jA (pv 1) (jA (pv 2) jD))) (fun _ _=>rfl)) (jA (vU (jA (j7 D__law_deed hr rfl (jA (pv 1) (jA (qA zD (by rfl) T.z_len PySem.boot_len (jA (vL hu9 (pv 0) (j7 D__law_label hr rfl (jA (pv 1) (jA (pv 2) jD))) (fun _ _=>rfl)) jD)) jD))) (jA (j7 D__law_label hr rfl (jA (pv 1) (jA (pv 3) jD))) jD))) jD)))),?_⟩
 obtain ⟨kvs,e1,g,ap,e3⟩:=hT.ex
 obtain ⟨l,xs,f1,f2,f3⟩:=e3 _ ps hps
 have hxl:=f3.1
 refine ⟨_,rfl,_,rfl,_,rfl,m,v,rfl,hm,hv,fun y1 H1 s1 hy1 _=>⟨d,kvs,_,_,rfl,.of (s1 _ _ e1),qI s1 g,hy1,zG m v,f1,.inl ⟨rfl,_,SqL.of (s1 _ _ f2)⟩,?_⟩⟩
 refine ⟨_,rfl,_,rfl,_,rfl,_,rfl,m,v,rfl,hm,hv,fun y2 H2 s2 hy2 _=>⟨d,kvs,_,_,rfl,.of (s2 _ _ (s1 _ _ e1)),qI (s1.trans s2) g,hy2,zG m v,f1,l,_,rfl,.inl (SqL.of ((s1.trans s2) _ _ f2)),?_⟩⟩
 refine ⟨m,xs.length,rfl,hm,by omega,fun y3 H3 s3 hy3=>⟨_,rfl,_,rfl,m,u,rfl,hm,hw,fun y4 H4 s4 hy4 _=>⟨jY (by show 2≤1000;decide),fun t ht=>?_⟩⟩⟩
 have s14:=((s1.trans s2).trans s3).trans s4
 have ut:=jN ht (.tup [y3,y4])
 have hl5:=ut _ _ (s14 _ _ f2)
 refine ⟨l,_,_,rfl,rfl,hl5,qR (by omega),?_⟩
 have sA:=s14.trans ut
 have ntl:t≠l:=fun z=>by subst z;rw [s14 _ _ f2] at ht;cases ht
 have tk:∀a z,jB H4 t (.tup [y3,y4]) a=some (.tup z)→jB (jB H4 t (.tup [y3,y4])) l (.lst (xs++[.ref t])) a=some (.tup z):=fun a z e=>by
  rw [jC fun y=>by subst y;rw [hl5] at e;cases e];exact e
 have kp:∀a o,a≠l→H a=some o→jB (jB H4 t (.tup [y3,y4])) l (.lst (xs++[.ref t])) a=some o:=fun a o n e=>by rw [jC n];exact sA _ _ e
 refine q _ (iP hT e1 g ap e3 hps f1 f2 f3 h190 hu0 kp jE (by rw [jC ntl,jE]) ?_ ?_ (gS _ _) (zG _ _)) ⟨fun a o n e=>kp a o (fun y=>by subst y;exact n (ap.2.1 _ _ f1)) e,fun a zs e=>?_⟩
 ·rw [hxl] at hy3
  exact (GV.keep tk _).1 _ (jZ (s4.trans ut) hy3)
 ·exact (GV.keep tk _).1 _ (jZ ut hy4)
 ·by_cases z:a=l
  ·subst z;exact ⟨_,jE⟩
  ·exact ⟨zs,kp a _ z e⟩
theorem fP:FnScope ["_law_cell"] ["_law_cell"] (jJ yM):=⟨rfl,rfl,rfl,by decide +kernel,rfl,by decide +kernel,by decide +kernel⟩
theorem fC {f:Addr} {fd:FuncData} (F:Fun K "_law_many" "_law_many" yM f fd) (T:Txt K mg eC eW eM eD eT eS eN) : FnOk P w K mg base j0 1 f fd ["_law_cell"] (cO):=by
 refine F.ok fP (fun vs H Q E h=>?_) (fun cdv A outer s H vs Q E hr h=>?_)
 ·obtain ⟨c,rfl,q⟩:=h
  rfl
 obtain ⟨c,rfl,q⟩:=h
 have hu:_<cLine:=hr.units0
 have hu1:=kX hr
 refine ⟨_,(jL (kJ (kN qB (jK kC (jK qJ (pv 0) jG) jG) jG (j6 _)) (jO (j5 (jK q8 jG (jK kC (jK qJ (pv 0) jG) jG)))) kI)
   (jO (j5 (jK q8 jG (jK kC (pv 0) jG))))),?_⟩
 refine ⟨_,rfl,_,_,rfl,rfl,⟨by decide,by decide⟩,_,_,rfl,rfl,(show (0:Int)<8 by decide),rfl,_,rfl,kF (fun _=>?_) (fun _=>?_)⟩
 ·obtain ⟨k,ek,hk⟩:=QG (a:=c / 576) (b:=975) (by decide)
  refine ⟨_,rfl,_,_,rfl,rfl,⟨by decide,by decide⟩,_,_,rfl,rfl,(show (0:Int)<975 by decide),_,_,rfl,rfl,?_⟩
  have:=q (25+k) (by omega) (by omega)
  rw [show ((25+k:Nat):Int)=25+c / 576%975 by omega] at this
  exact this
 ·obtain ⟨k,ek,hk⟩:=QG (a:=c) (b:=24) (by decide)
  refine ⟨_,rfl,_,_,rfl,rfl,(show (0:Int)<24 by decide),_,_,rfl,rfl,?_⟩
  have:=q (1+k) (by omega) (by omega)
  rw [show ((1+k:Nat):Int)=1+c%24 by omega] at this
  exact this
theorem vP:FnScope ["_law_script","_law_mode","_law_many_here","_law_table_here","_law_v","_law_cell","_law_w"] ["_law_script","_law_mode","_law_many_here"] (jJ yO):=⟨rfl,rfl,rfl,by decide +kernel,rfl,by decide +kernel,by decide +kernel⟩
theorem fE {f:Addr} {fd:FuncData} (F:Fun K "_law_table" "_law_table" yO f fd) (T:Txt K mg eC eW eM eD eT eS eN) (D__law_label:Def P w K mg base 2 "_law_label" ["_law_mode","_law_v"] [] (zQ)) (D__law_cell_at:Def P w K mg base 1 "_law_cell_at" ["_law_script","_law_k"] [] (ZD K)) (D__law_joined:Def P w K mg base 4 "_law_joined" ["_law_table_here","_law_mode","_law_v","_law_w"] [] (bP w)):FnOk P w K mg base j0 6 f fd ["_law_script","_law_mode","_law_many_here"] (cJ w K):=by
 refine F.ok vP (fun vs H Q E h=>?_) (fun cdv A outer s H vs Q E hr h=>?_)
 ·obtain ⟨a,ns,m,n,rfl,hS,h63,hm,hn1,hn,q⟩:=h
  rfl
 obtain ⟨a,ns,m,n,rfl,hS,h63,hm,hn1,hn,q⟩:=h
 have hu:_<cLine:=hr.units0
 have hu1:=kX hr
 have hu9:=q9 hr
 have hu10:=q5 hr
 refine ⟨_,(jL (jT (i:=3) vP.nd rfl (by first|exact Or.inl rfl|exact Or.inr rfl) cU)
   (jL (qS PassesOwn.never rfl (QT (by rfl) T.z_range (jA (pv 2) jD)) (kP (i:=4) vP.nd rfl (by first|exact Or.inl rfl|exact Or.inr rfl))
    (jO (JY hu9 (pv 3) (j7 D__law_label hr rfl (jA (pv 1) (jA (pv 4) jD))) (j8 jD) rfl)))
   (vK (kJ (PW.pt (oC (kN qB (jK kC (jK qJ (j7 D__law_cell_at hr rfl (jA (pv 0) (jA jG jD))) jG) jG) jG (j6 _)) (m7 (kN QC (pv 2) jG (j6 _))))) (jO (qS PassesOwn.never rfl (QT (by rfl) T.z_range (jA (jK zW (pv 2) jG) jD)) (kP (i:=4) vP.nd rfl (by first|exact Or.inl rfl|exact Or.inr rfl))
    (jO (vD (j7 D__law_joined hr rfl (jA (pv 3) (jA (pv 1) (jA (pv 4) (jA (jK q8 (pv 4) jG) jD))))))))) kI)
   (jL (qS PassesOwn.never rfl (qM (Q1 Q5 (pv 0) (QM jG) Q7)) (kP (i:=5) vP.nd rfl (by first|exact Or.inl rfl|exact Or.inr rfl))
    (jL (jT (i:=4) vP.nd rfl (by first|exact Or.inl rfl|exact Or.inr rfl) (jK kC (pv 5) (pv 2)))
   (jL (jT (i:=6) vP.nd rfl (by first|exact Or.inl rfl|exact Or.inr rfl) (jK kC (jK qJ (pv 5) (pv 2)) (pv 2)))
   (vK (kJ (kN qB (jK kC (jK qJ (jK qJ (pv 5) (pv 2)) (pv 2)) jG) jG (j6 _)) (jO (jT (i:=6) vP.nd rfl (by first|exact Or.inl rfl|exact Or.inr rfl) (jK kC (jK q8 (pv 4) jG) (pv 2)))) kI)
   (jO (vD (j7 D__law_joined hr rfl (jA (pv 3) (jA (pv 1) (jA (pv 4) (jA (pv 6) jD)))))))))))
   (jO (j5 (pv 3))))))),?_⟩
 intro d hd0
 have u0:=jN hd0 (GO w d [])
 refine ⟨_,rfl,_,rfl,by omega,by omega,JP (n:=((n:Nat):Int).toNat) (fun i σ Hi=>∃T ls c4,σ=[some (.ref a),some (.int m),some (.int n),some (.ref d),c4,none,none]∧TabIn w H Hi d m i 0 T ls∧ls.length≤i) ⟨[],[],none,rfl,⟨gY jE,⟨fun v h=>absurd h (Nat.not_lt_zero v),fun _ _ e=>absurd e (by simp [jM]),fun _ _ e=>absurd e (by simp [jM])⟩,u0,fun l h=>(nomatch h),hd0,fun l h=>(nomatch h)⟩,Nat.le_refl _⟩ ?_ ?_⟩
 ·rintro i σ Hi hi ⟨T,ls,c4,rfl,hI,hle⟩
  rw [Int.zero_add]
  obtain ⟨kvs,e1,g,ap,e3⟩:=hI.tab.ex
  refine ⟨Nat.zero_le _,fun l hl0=>?_⟩
  have u1:=jN hl0 (.lst [])
  refine ⟨_,rfl,_,rfl,_,rfl,m,i,rfl,hm,by omega,fun y H1 s1 hy h8=>?_⟩
  have s2:=u1.trans s1
  refine ⟨d,kvs,_,rfl,s2 _ _ e1,qI s2 g,hy,h8,QL (by have:=ap.2.2;omega),?_⟩
  have hl1:=s1 _ _ (show jB Hi l (.lst []) l=some (.lst []) from jE)
  have hd1:=s2 _ _ e1
  have nld:l≠d:=fun z=>by subst z;rw [hl1] at hd1;cases hd1
  have hls:∀l'∈ls,l'≠l:=fun l' h z=>by subst z;obtain ⟨xs,e⟩:=hI.trk l' h;rw [hl0] at e;cases e
  refine ⟨z6 T (jU m i),l::ls,_,rfl,?_,by rw [List.length_cons];omega⟩
  ·refine ⟨lK (hI.tab.same s2) (qI s2 g) ap (fun k ps h=>?_) (fun xs e=>by rw [hd1] at e;cases e) (fun xs e=>by rw [hd1] at e;cases e) (fun k' e=>hls l (ap.2.1 _ _ e) rfl) hy h8 (fun a o n e=>by rw [jC n];exact e) (by rw [jC nld];exact hl1) jE,⟨fun v hv=>?_,fun k ps h=>?_,fun k ps h=>?_⟩,qP hI.dn (hI.sm.trans s2),fun l' h=>?_,hI.dn,fun l' h=>?_⟩
   ·obtain ⟨l',xs,f1,f2,f3⟩:=e3 k ps h
    exact ⟨l',xs,f1,s2 _ _ f2,f3.same s2⟩
   ·rw [zR]
    split
    ·rfl
    ·rename_i hne
     exact hI.ok.dom v (by have:v≠i:=fun z=>hne (by rw [z]);omega)
   ·rw [zR] at h
    by_cases hk:k=jU m i
    ·rw [if_pos hk] at h;cases h;exact ⟨Nat.le_refl _,fun i p e=>by cases e⟩
    ·rw [if_neg hk] at h;exact hI.ok.row k ps h
   ·rw [zR] at h
    by_cases hk:k=jU m i
    ·exact ⟨i,Nat.lt_succ_self i,hk⟩
    ·rw [if_neg hk] at h
     obtain ⟨v,hv,e⟩:=hI.ok.cod k ps h
     exact ⟨v,by omega,e⟩
   ·rcases List.mem_cons.mp h with rfl|h
    ·cases hz:H l' with
     |none=>rfl
     |some o=>have:=hI.sm _ _ hz;rw [hl0] at this;cases this
    ·exact hI.new l' h
   ·rcases List.mem_cons.mp h with rfl|h
    ·exact ⟨[],by rw [jC nld];exact hl1⟩
    ·obtain ⟨xs,e⟩:=hI.trk l' h
     exact ⟨xs,by rw [jC fun z=>by subst z;have:=s2 _ _ e;rw [hd1] at this;cases this];exact s2 _ _ e⟩
 rintro σ Hi ⟨T,ls,c4,rfl,hI,hle⟩
 rw [Int.toNat_natCast] at hI
 clear hle
 refine ⟨fun σ Hj=>∃T ls c4,σ=[some (.ref a),some (.int m),some (.int n),some (.ref d),c4,none,none]∧TabIn w H Hj d m n 999 T ls,?_,?_⟩
 ·refine ⟨_,rfl,a,ns,0,rfl,hI.sm.seq hS,_,_,rfl,rfl,⟨by decide,by decide⟩,_,_,rfl,rfl,(show (0:Int)<3 by decide),rfl,_,rfl,kF (fun _=>qY ?_) (fun _=>⟨_,rfl,_,_,rfl,rfl,_,rfl,kF (fun _=>?_) (fun _=>⟨T,ls,c4,rfl,hI.mono (by omega)⟩)⟩)⟩
  ·refine ⟨_,rfl,_,_,rfl,rfl,_,rfl,by omega,by omega,JP (n:=((n:Int) - 1).toNat) (fun i σ Hj=>∃T ls c4,σ=[some (.ref a),some (.int m),some (.int n),some (.ref d),c4,none,none]∧TabIn w H Hj d m n i T ls) ⟨T,ls,c4,rfl,hI⟩ ?_ ?_⟩
   ·rintro i σ Hj hi ⟨T,ls,c4,rfl,hI⟩
    rw [Int.zero_add]
    have hi':i+1<n:=by omega
    obtain ⟨ps,hps⟩:=Option.isSome_iff_exists.mp (hI.ok.dom i (by omega))
    have h24:=(hI.ok.row _ ps hps).1
    refine ⟨_,rfl,_,rfl,_,rfl,_,rfl,_,_,rfl,rfl,d,m,i,i+1,T,ls,ps,rfl,hm,by omega,by omega,hI.tab,hps,hI.ok.dom (i+1) (by omega),by omega,fun H' hT hk=>⟨_,ls,_,rfl,hI.join hps hT hk⟩⟩
   ·rintro σ Hj ⟨T,ls,c4,rfl,hI⟩
    refine ⟨T,ls,c4,rfl,hI.mono (by omega)⟩
  ·refine ⟨_,rfl,_,_,rfl,rfl,_,rfl,by omega,by omega,JP (n:=((n:Int) - 1).toNat) (fun i σ Hj=>∃T ls c4,σ=[some (.ref a),some (.int m),some (.int n),some (.ref d),c4,none,none]∧TabIn w H Hj d m n i T ls) ⟨T,ls,c4,rfl,hI⟩ ?_ ?_⟩
   ·rintro i σ Hj hi ⟨T,ls,c4,rfl,hI⟩
    rw [Int.zero_add]
    have hi':i+1<n:=by omega
    obtain ⟨ps,hps⟩:=Option.isSome_iff_exists.mp (hI.ok.dom i (by omega))
    have h24:=(hI.ok.row _ ps hps).1
    refine ⟨_,rfl,_,rfl,_,rfl,_,rfl,_,_,rfl,rfl,d,m,i,i+1,T,ls,ps,rfl,hm,by omega,by omega,hI.tab,hps,hI.ok.dom (i+1) (by omega),by omega,fun H' hT hk=>⟨_,ls,_,rfl,hI.join hps hT hk⟩⟩
   ·rintro σ Hj ⟨T,ls,c4,rfl,hI⟩
    refine ⟨T,ls,c4,rfl,hI.mono (by omega)⟩
 rintro σ Hj ⟨T,ls,c4,rfl,hI⟩
 obtain ⟨cs,hcs,hlc⟩:=QV ns (some 3) none
 have modN:∀z:Int,∃v:Nat,z%(n:Int)=v∧v<n:=fun z=>⟨(z%(n:Int)).toNat,by have:=Int.emod_nonneg z (show (n:Int)≠0 by omega);omega,by have:=Int.emod_nonneg z (show (n:Int)≠0 by omega);have:=Int.emod_lt_of_pos z (show (0:Int)<n by omega);omega⟩
 refine ⟨_,rfl,_,rfl,a,_,rfl,hI.sm.seq hS,fun p hp=>⟨p,rfl,⟨_,SqL.of jE⟩,vJ (K:=K) (a:=p) (xs:=vE (ns.map V.int) (some 3) none) (fun i σ Hk=>∃T ls c4 c5 c6,σ=[some (.ref a),some (.int m),some (.int n),some (.ref d),c4,c5,c6]∧TabIn w H Hk d m n (999+i) T ls∧Hk p=some (.lst (vE (ns.map V.int) (some 3) none))∧p∉ls)
  ⟨T,ls,c4,none,none,rfl,hI.same (jN hp _),jE,fun hin=>by obtain ⟨xs,e⟩:=hI.trk p hin;rw [hp] at e;cases e⟩ (fun i σ Hk _ ⟨_,_,_,_,_,_,_,e,_⟩=>SqL.of e) ?_ ?_⟩⟩
 ·rintro i x σ Hk hx ⟨T,ls,c4,c5,c6,rfl,hI,hpk,hpl⟩
  have hi:=(List.getElem?_eq_some_iff.mp hx).1
  rw [hcs] at hx hi
  rw [List.length_map] at hi
  obtain ⟨z,rfl,_⟩:=Q4 hx
  obtain ⟨v,ev,hv⟩:=modN z
  obtain ⟨u,eu,hu⟩:=modN (z / (n:Int))
  refine ⟨_,rfl,_,rfl,_,_,rfl,rfl,(show (0:Int)<n by omega),?_⟩
  refine ⟨_,rfl,_,rfl,_,_,rfl,rfl,⟨by omega,by omega⟩,_,rfl,_,_,rfl,rfl,(show (0:Int)<n by omega),?_⟩
  refine ⟨fun σ Hl=>∃u:Nat,u<n∧σ=[some (.ref a),some (.int m),some (.int n),some (.ref d),some (.int v),some (.int z),some (.int u)]∧Hl=Hk,?_,?_⟩
  ·refine ⟨_,rfl,_,rfl,_,_,rfl,rfl,⟨by omega,by omega⟩,_,rfl,_,_,rfl,rfl,⟨by omega,by omega⟩,_,_,rfl,rfl,(show (0:Int)<3 by decide),rfl,_,rfl,kF (fun _=>?_) (fun _=>?_)⟩
   ·obtain ⟨u',e',h'⟩:=modN (z%(n:Int)+1)
    exact ⟨_,rfl,_,_,rfl,rfl,_,rfl,_,_,rfl,rfl,(show (0:Int)<n by omega),u',h',by rw [← ev,← e'];rfl,rfl⟩
   ·exact ⟨u,hu,by rw [← ev,← eu];rfl,rfl⟩
  rintro σ Hl ⟨u,hu,rfl,rfl⟩
  obtain ⟨ps,hps⟩:=Option.isSome_iff_exists.mp (hI.ok.dom v hv)
  have hc:=(hI.ok.row _ ps hps).1
  refine ⟨_,rfl,_,rfl,_,rfl,_,rfl,d,m,v,u,T,ls,ps,rfl,hm,by omega,by omega,hI.tab,hps,hI.ok.dom u hu,by omega,fun H' hT hk=>⟨_,ls,_,_,_,rfl,hI.join hps hT hk,hk.1 p _ hpl hpk,hpl⟩⟩
 ·rintro σ Hk ⟨T,ls,c4,c5,c6,rfl,hI,hpk,hpl⟩
  rw [hcs,List.length_map] at hI
  exact ⟨_,rfl,q d T ls Hk hI.tab (hI.mono (by omega)).ok hI.sm hI.new hI.dn⟩
theorem yT:FnScope ["_law_cell","_law_mode","_law_many_here","_law_way","_law_rest","_law_marks_here","_law_v","_law_marked"] ["_law_cell","_law_mode","_law_many_here"] (jJ yN):=⟨rfl,rfl,rfl,by decide +kernel,rfl,by decide +kernel,by decide +kernel⟩
theorem fD {f:Addr} {fd:FuncData} (F:Fun K "_law_marks" "_law_marks" yN f fd) (T:Txt K mg eC eW eM eD eT eS eN) (D__law_label:Def P w K mg base 2 "_law_label" ["_law_mode","_law_v"] [] (zQ)):FnOk P w K mg base j0 4 f fd ["_law_cell","_law_mode","_law_many_here"] (cN w):=by
 refine F.ok yT (fun vs H Q E h=>?_) (fun cdv A outer s H vs Q E hr h=>?_)
 ·obtain ⟨c,m,n,rfl,hm,hn1,hn,q⟩:=h
  rfl
 obtain ⟨c,m,n,rfl,hm,hn1,hn,q⟩:=h
 have hu:_<cLine:=hr.units0
 have hu1:=kX hr
 have hu9:=q9 hr
 have hu10:=q5 hr
 refine ⟨_,(jL (jT (i:=3) yT.nd rfl (by first|exact Or.inl rfl|exact Or.inr rfl) (jK kC (pv 0) jG))
   (jL (jT (i:=4) yT.nd rfl (by first|exact Or.inl rfl|exact Or.inr rfl) (jK qJ (pv 0) jG))
   (jL (jT (i:=5) yT.nd rfl (by first|exact Or.inl rfl|exact Or.inr rfl) cU)
   (jL (qS PassesOwn.never rfl (QT (by rfl) T.z_range (jA (pv 2) jD)) (kP (i:=6) yT.nd rfl (by first|exact Or.inl rfl|exact Or.inr rfl))
    (vK (jT (i:=7) yT.nd rfl (by first|exact Or.inl rfl|exact Or.inr rfl) (dU (ZE (yC qB (pv 3) jG (j6 _)) (zV (yC qB (pv 6) (jK kC (pv 4) (pv 2)) (j6 _)))) (zV (ZE (yC qB (pv 3) jG (j6 _)) (zV (yC qB (jK kC (jK q8 (jK q8 (jK dH (pv 6) (pv 6)) (jK qJ (pv 6) jG)) (pv 4)) jG) jG (j6 _)))))))
   (jO (JY hu9 (pv 5) (j7 D__law_label hr rfl (jA (pv 1) (jA (pv 6) jD))) (dU (pv 7) (zV (ZE (yC qB (pv 3) jG (j6 _)) (zV (yC oF (pv 6) (jK zW (jK zW (pv 2) jG) (jK kC (pv 4) jG)) (j6 _)))))) rfl))))
   (jO (j5 (pv 5))))))),?_⟩
 refine ⟨_,rfl,_,_,rfl,rfl,(show (0:Int)<4 by decide),_,rfl,_,_,rfl,rfl,⟨by decide,by decide⟩,fun d hd0=>?_⟩
 have u0:=jN hd0 (GO w d [])
 refine ⟨_,rfl,_,rfl,by omega,by omega,JP (n:=((n:Nat):Int).toNat) (fun i σ Hi=>∃M c6 c7,σ=[some (.int c),some (.int m),some (.int n),some (.int (c%4)),some (.int (c / 4)),some (.ref d),c6,c7]∧MarkIn w H Hi d m i M) ⟨fun _=>false,none,none,rfl,⟨⟨[],jE,GOk.nil,Nat.le_refl _,fun v h=>absurd h (Nat.not_lt_zero v)⟩,u0,hd0⟩⟩ ?_ ?_⟩
 ·rintro i σ Hi hi ⟨M,c6,c7,rfl,hI⟩
  rw [Int.zero_add]
  have hn0:(0:Int)<n:=by omega
  refine ⟨fun σ Hj=>∃b,σ=[some (.int c),some (.int m),some (.int n),some (.int (c%4)),some (.int (c / 4)),some (.ref d),some (.int i),some (.bl b)]∧Hj=Hi,?_,?_⟩
  ·refine ⟨_,rfl,rfl,_,rfl,kF (fun _=>?_) (fun _=>?_)⟩
   ·refine ⟨_,rfl,_,rfl,_,rfl,_,_,rfl,rfl,hn0,rfl,_,rfl,kF (fun _=>⟨true,rfl,rfl⟩) (fun _=>?_)⟩
    exact ⟨_,rfl,rfl,_,rfl,kF (fun _=>⟨_,rfl,_,rfl,_,_,rfl,rfl,.inl ⟨by omega,by omega⟩,_,rfl,_,_,rfl,rfl,⟨by decide,by decide⟩,_,_,rfl,rfl,_,rfl,_,_,rfl,rfl,_,_,rfl,rfl,(show (0:Int)<5 by decide),rfl,_,rfl,rfl⟩) (fun _=>⟨false,rfl,rfl⟩)⟩
   ·refine ⟨_,rfl,vB ?_⟩
    exact ⟨_,rfl,rfl,_,rfl,kF (fun _=>⟨_,rfl,_,rfl,_,_,rfl,rfl,.inl ⟨by omega,by omega⟩,_,rfl,_,_,rfl,rfl,⟨by decide,by decide⟩,_,_,rfl,rfl,_,rfl,_,_,rfl,rfl,_,_,rfl,rfl,(show (0:Int)<5 by decide),rfl,_,rfl,rfl⟩) (fun _=>⟨false,rfl,rfl⟩)⟩
  rintro σ Hj ⟨b,rfl,rfl⟩
  refine ⟨_,rfl,_,rfl,kF (fun _=>?_) (fun _=>?_)⟩
  ·exact ⟨_,rfl,_,rfl,_,rfl,m,i,rfl,hm,by omega,fun y H1 s1 hy h8=>by
   obtain ⟨kvs,e1,g,hle,J⟩:=QU hI s1 hy true
   exact ⟨d,kvs,_,rfl,e1,g,hy,h8,qR (by omega),_,_,_,rfl,J⟩⟩
  refine ⟨_,rfl,rfl,_,rfl,kF (fun _=>?_) (fun _=>?_)⟩
  ·refine ⟨_,rfl,_,rfl,_,_,rfl,rfl,_,rfl,_,_,rfl,rfl,(show (0:Int)<3 by decide),_,_,rfl,rfl,_,_,rfl,rfl,?_⟩
   exact ⟨_,rfl,_,rfl,_,rfl,m,i,rfl,hm,by omega,fun y H1 s1 hy h8=>by
   obtain ⟨kvs,e1,g,hle,J⟩:=QU hI s1 hy _
   exact ⟨d,kvs,_,rfl,e1,g,hy,h8,qR (by omega),_,_,_,rfl,J⟩⟩
  ·exact ⟨_,rfl,_,rfl,_,rfl,m,i,rfl,hm,by omega,fun y H1 s1 hy h8=>by
   obtain ⟨kvs,e1,g,hle,J⟩:=QU hI s1 hy false
   exact ⟨d,kvs,_,rfl,e1,g,hy,h8,qR (by omega),_,_,_,rfl,J⟩⟩
 rintro σ Hi ⟨M,c6,c7,rfl,hI⟩
 rw [Int.toNat_natCast] at hI
 exact ⟨_,rfl,q d M Hi hI⟩
theorem JE:FnScope ["_law_layer","_law_table_here","_law_reached","_law_state","_law_pair"] ["_law_layer","_law_table_here"] (jJ yH):=⟨rfl,rfl,rfl,by decide +kernel,rfl,by decide +kernel,by decide +kernel⟩
theorem eV {f:Addr} {fd:FuncData} (F:Fun K "_law_behind" "_law_behind" yH f fd) (T:Txt K mg eC eW eM eD eT eS eN) : FnOk P w K mg base j0 2 f fd ["_law_layer","_law_table_here"] (bQ w):=by
 refine F.ok JE (fun vs H Q E h=>?_) (fun cdv A outer s H vs Q E hr h=>?_)
 ·obtain ⟨l,dT,T0,ls,m,n,c0,xs,lay,rfl,hT,hO,hn,hl,hks,hdom,q⟩:=h
  rfl
 obtain ⟨l,dT,T0,ls,m,n,c0,xs,lay,rfl,hT,hO,hn,hl,hks,hdom,q⟩:=h
 have hu:_<cLine:=hr.units0
 have hu1:=kX hr
 have hu9:=q9 hr
 have hu10:=q5 hr
 refine ⟨_,(jL (jT (i:=2) JE.nd rfl (by first|exact Or.inl rfl|exact Or.inr rfl) (j8 jD))
   (jL (qS PassesOwn.never rfl (qM (pv 0)) (kP (i:=3) JE.nd rfl (by first|exact Or.inl rfl|exact Or.inr rfl))
    (jO (qS PassesOwn.never rfl (qM (vL hu9 (pv 1) (pv 3) (fun _ _=>rfl))) (kP (i:=4) JE.nd rfl (by first|exact Or.inl rfl|exact Or.inr rfl))
    (jO (kJ (kN (g9 hu10) (kT ix_tup (pv 4) jG (fun _ _=>rfl)) (pv 2) (by with_unfolding_all rfl)) (jO (vD (yD PySem.F.plainAttrs_list PySem.F.slot_list_append PySem.F.type_list_append vQ (pv 2) (jA (kT ix_tup (pv 4) jG (fun _ _=>rfl)) jD)))) kI)))))
   (jO (j5 (pv 2))))),?_⟩
 refine ⟨Nat.zero_le _,fun r hr0=>?_⟩
 have u0:=jN hr0 (.lst [])
 refine ⟨_,rfl,l,rfl,⟨_,SqL.of (u0 _ _ hl)⟩,?_⟩
 refine vJ (K:=K) (xs:=xs) (fun i σ Hi=>∃acc c3 c4,σ=[some (.ref l),some (.ref dT),some (.ref r),c3,c4]∧ReachIn H Hi r T0 acc∧acc=j3 T0 [] [] (lay.take i)) ⟨[],none,none,rfl,⟨u0,hr0,⟨[],jE,rfl,fun i x e=>by cases e⟩,List.nodup_nil,fun x hx=>by cases hx⟩,rfl⟩ (fun i σ Hi _ ⟨_,_,_,_,hI,_⟩=>SqL.of (hI.sm _ _ hl)) ?_ ?_
 ·rintro i x σ Hi hx ⟨acc,c3,c4,rfl,hI,hacc⟩
  obtain ⟨k,hk,hyk,h8⟩:=hks.2 i x hx
  obtain ⟨ps,hps⟩:=Option.isSome_iff_exists.mp (hdom k (List.mem_of_getElem? hk))
  obtain ⟨kvs,e1,g,ap,e3⟩:=hT.ex
  obtain ⟨l2,zs,f1,f2,f3⟩:=e3 k ps hps
  have hah:kR T0 k=ps:=by unfold kR;rw [hps];rfl
  refine ⟨_,rfl,_,rfl,dT,kvs,k,_,rfl,.of (hI.sm _ _ e1),qI hI.sm g,jZ hI.sm hyk,h8,f1,l2,rfl,⟨_,SqL.of (hI.sm _ _ f2)⟩,?_⟩
  refine vJ (K:=K) (a:=l2) (xs:=zs) (fun j σ Hj=>∃acc' c4,σ=[some (.ref l),some (.ref dT),some (.ref r),some x,c4]∧ReachIn H Hj r T0 acc'∧acc'=kQ [] acc (ps.take j)) ⟨acc,c4,rfl,hI,rfl⟩ (fun j σ Hj _ ⟨_,_,_,hJ,_⟩=>SqL.of (hJ.sm _ _ f2)) ?_ ?_
  ·rintro j z σ Hj hz ⟨acc',c4,rfl,hJ,hacc'⟩
   obtain ⟨pr,t,b,c,p1,rfl,p3,p4,p5,p6,p7⟩:=f3.2 j z hz
   have hin:pr∈kR T0 k:=by rw [hah];exact List.mem_of_getElem? p1
   have ht:(ps.take (j+1))=ps.take j++[pr]:=by rw [List.take_add_one,p1];rfl
   obtain ⟨ys,er,hky⟩:=hJ.row
   have p3':=hJ.sm _ _ p3
   have p5':=jZ hJ.sm p5
   refine ⟨_,rfl,t,_,_,c,rfl,rfl,SqT.of p3',rfl,_,rfl,r,ys,pr.2,acc',rfl,SqL.of er,p5',p7,hky,_,rfl,?_⟩
   by_cases hm:pr.2∈acc'
   ·rw [decide_eq_true hm]
    refine vB ⟨acc',_,rfl,hJ,?_⟩
    rw [ht,JG,← hacc',kZ,if_pos (by simpa using hm)]
   ·rw [decide_eq_false hm]
    have hlen:=yV hO hJ.nd hJ.dom
    refine qY ⟨_,rfl,.inl ⟨rfl,_,SqL.of er⟩,_,rfl,t,_,_,c,rfl,rfl,SqT.of p3',rfl,r,_,_,rfl,rfl,er,qR (by have:=hky.1;omega),?_⟩
    refine ⟨acc'++[pr.2],_,rfl,hJ.put er hky hm p5' p7 (QX hT.shut hin),?_⟩
    rw [ht,JG,← hacc',kZ,if_neg (by simpa using hm)]
  ·rintro σ Hj ⟨acc',c4,rfl,hJ,hacc'⟩
   refine ⟨acc',_,_,rfl,hJ,?_⟩
   rw [f3.1,List.take_length] at hacc'
   rw [hacc',List.take_add_one,hk]
   show _=j3 T0 [] [] (lay.take i++[k])
   rw [ZX,hah,← hacc]
 ·rintro σ Hf ⟨acc,c3,c4,rfl,hI,hacc⟩
  rw [hks.1,List.take_length] at hacc
  subst hacc
  obtain ⟨ys,er,hky⟩:=hI.row
  exact ⟨_,rfl,q r ys Hf hI.sm hI.rn er hky⟩
theorem yS:FnScope ["_law_first","_law_table_here","_law_marks_here","_law_layers_here","_law_met","_law_state","_law_following"] ["_law_first","_law_table_here","_law_marks_here"] (jJ v8):=⟨rfl,rfl,rfl,by decide +kernel,rfl,by decide +kernel,by decide +kernel⟩
theorem fB {f:Addr} {fd:FuncData} (F:Fun K "_law_layers" "_law_layers" v8 f fd) (T:Txt K mg eC eW eM eD eT eS eN) (D__law_behind:Def P w K mg base 2 "_law_behind" ["_law_layer","_law_table_here"] [] (bQ w)):FnOk P w K mg base j0 4 f fd ["_law_first","_law_table_here","_law_marks_here"] (Z6 w):=by
 refine F.ok yS (fun vs H Q E h=>?_) (fun cdv A outer s H vs Q E hr h=>?_)
 ·obtain ⟨y,dT,dM,T0,ls,M,m0,n,c0,k0,rfl,hT,hO,hn,hM,hy,hk0,q⟩:=h
  rfl
 obtain ⟨y,dT,dM,T0,ls,M,m0,n,c0,k0,rfl,hT,hO,hn,hM,hy,hk0,q⟩:=h
 have hu:_<cLine:=hr.units0
 have hu1:=kX hr
 have hu9:=q9 hr
 have hu10:=q5 hr
 refine ⟨_,(jL (jT (i:=3) yS.nd rfl (by first|exact Or.inl rfl|exact Or.inr rfl) (j8 (jA (j8 (jA (pv 0) jD)) jD)))
   (jL (jT (i:=4) yS.nd rfl (by first|exact Or.inl rfl|exact Or.inr rfl) (bW hu9 (pv 0) qV))
   (jO (Q0 PassesOwn.never (QA qV) (jL (qS PassesOwn.never rfl (qM (kT q0 (pv 3) (z4 zT jG) (fun _ _=>rfl))) (kP (i:=5) yS.nd rfl (by first|exact Or.inl rfl|exact Or.inr rfl))
    (jO (kJ (QA (vL hu9 (pv 2) (pv 5) (fun _ _=>rfl))) (jO (j5 (pv 3))) kI)))
   (jL (ZY (i:=6) ["_law_state","_law_met"] (v5 1 [4]) yS.nd rfl (by first|exact Or.inl rfl|exact Or.inr rfl) rfl (JA (jJ v8) rfl rfl (by decide +kernel) (by decide +kernel) (by decide +kernel)) (zC 1 [4] rfl rfl (by decide +kernel)) (qM (j7 D__law_behind hr rfl (jA (kT q0 (pv 3) (z4 zT jG) (fun _ _=>rfl)) (jA (pv 1) jD)))) (fun _ _ _ _ _=>(kP (i:=0) (show List.Nodup (["_law_state","_law_met"]:List Str) from by decide +kernel) rfl (by first|exact Or.inl rfl|exact Or.inr rfl))) (fun _ _ _ _ _=>(Q6 (dE (gO w hu9 (pv 0) (pv 1))))) (fun _ _ _ _ _=>(pv 0)))
   (jL (kJ (kN qB (qA zD (by rfl) T.z_len PySem.boot_len (jA (pv 6) jD)) jG (j6 _)) (jO (j5 (pv 3))) kI)
   (jL (qS PassesOwn.never rfl (qM (pv 6)) (kP (i:=5) yS.nd rfl (by first|exact Or.inl rfl|exact Or.inr rfl))
    (jO (JY hu9 (pv 4) (pv 5) qV rfl)))
   (jO (vD (yD PySem.F.plainAttrs_list PySem.F.slot_list_append PySem.F.type_list_append vQ (pv 3) (jA (pv 6) jD)))))))))))),?_⟩
 have h8:gd k0≤8:=by obtain ⟨ps,hps⟩:=Option.isSome_iff_exists.mp hk0;exact hT.deep k0 ps hps
 have dom:=fun i x (h:x∈(jH T0 k0 i).flatten)=>JX hT.shut hk0 i x h
 have fit:∀i,(jH T0 k0 i).flatten.length≤1000:=fun i=>Nat.le_trans (yV hO (zH i) (dom i)) hn
 refine ⟨_,rfl,jY (by show 1≤1000;decide),fun l1 hl1=>⟨jY (by show 1≤1000;decide),fun lr hlr=>?_⟩⟩
 have u1:=jN hl1 (.lst [y])
 have u2:=jN hlr (.lst [.ref l1])
 have ne1:l1≠lr:=fun z=>by rw [← z,jE] at hlr;cases hlr
 refine fun dm hdm=>⟨_,rfl,jE,k0,jZ ((u1.trans u2).trans (jN hdm _)) hy,h8,?_⟩
 have u3:Same (jB (jB H l1 (.lst [y])) lr (.lst [.ref l1])) (jB (jB (jB (jB H l1 (.lst [y])) lr (.lst [.ref l1])) dm (GO w dm [])) dm (GO w dm [(k0,y,.bl true)])):=qP hdm (jN hdm _)
 have s3:=(u1.trans u2).trans u3
 have hn0:∀b,H b≠none→jB (jB H l1 (.lst [y])) lr (.lst [.ref l1]) b≠none:=fun b hb z=>by
  cases e:H b with
  |none=>exact hb e
  |some o=>have:=(u1.trans u2) _ _ e;rw [z] at this;cases this
 have hlr0:H lr=none:=by
  cases e:H lr with
  |none=>rfl
  |some o=>have:=u1 _ _ e;rw [hlr] at this;cases this
 have hdm0:H dm=none:=by
  cases e:H dm with
  |none=>rfl
  |some o=>exact absurd hdm (hn0 dm (by rw [e];simp))
 have hl0:(jH T0 k0 0).flatten.length=1:=rfl
 refine ⟨eO w H y dT dM lr dm T0 M k0,⟨999,0,none,none,rfl,by rw [hl0],fun j hj=>absurd hj (Nat.not_lt_zero j),s3,lZ jE (jZ s3 hy) h8,Z0 (u3 _ _ jE) (u3 _ _ (u2 _ _ jE)) ne1 (jZ s3 hy) h8⟩,?_⟩
 rintro m σ Hi ⟨i,c5,c6,rfl,hm,hnst,s,hMt,hL⟩
 refine ⟨_,rfl,qY ⟨fun σ' H'=>∃m',m'<m∧eO w H y dT dM lr dm T0 M k0 m' σ' H',fun _ _ h=>h,?_⟩⟩
 obtain ⟨xs,la,ys,f1,f2,f3,f4,f5,f6⟩:=hL.last
 have hyl:ys.length≤1000:=by
  rw [f5.1]
  have:=fit i
  have h2:(jP T0 k0 i).length≤(jH T0 k0 i).flatten.length:=(List.sublist_flatten_of_mem (List.mem_of_getElem? (zJ i))).length_le
  omega
 refine ⟨_,rfl,_,rfl,lr,xs,_,_,rfl,rfl,SqL.of f1,f2,la,rfl,⟨_,SqL.of f4⟩,?_⟩
 refine vJ (K:=K) (a:=la) (xs:=ys) (fun j σ Hj=>∃c5,σ=[some y,some (.ref dT),some (.ref dM),some (.ref lr),some (.ref dm),c5,c6]∧Hj=Hi∧((jP T0 k0 i).take j).any M=false) ⟨c5,rfl,rfl,rfl⟩ (fun j σ Hj _ ⟨_,_,e,_⟩=>by subst e;exact SqL.of f4) ?_ ?_
 ·rintro j x σ Hj hx ⟨c5,rfl,rfl,hany⟩
  obtain ⟨kj,hkj,hgj,h8j⟩:=f5.2 j x hx
  have hdj:=dom i kj (yW (List.mem_of_getElem? hkj))
  obtain ⟨kvsM,a1,a2,a3⟩:=(hM.same s).ex
  refine ⟨_,rfl,_,rfl,dM,kvsM,kj,_,rfl,.of a1,a2,hgj,h8j,a3 kj hdj,_,rfl,?_⟩
  cases hMk:M kj with
  |true=>exact qY ⟨_,rfl,q i lr Hj hnst (.inl (List.any_eq_true.mpr ⟨kj,List.mem_of_getElem? hkj,hMk⟩)) s hL⟩
  |false =>
   refine vB ⟨_,rfl,rfl,?_⟩
   rw [List.take_add_one,hkj,List.any_append,hany]
   simp [hMk]
 rintro σ Hj ⟨c5,rfl,rfl,hany⟩
 rw [f5.1,List.take_length] at hany
 refine ⟨_,rfl,_,rfl,lr,xs,_,_,rfl,rfl,SqL.of f1,f2,_,rfl,la,dT,T0,ls,m0,n,c0,ys,jP T0 k0 i,rfl,hT.same s,hO,hn,f4,f5,fun k hk=>dom i k (yW hk),fun rb zs H1 sB hrb0 hrb hkb=>⟨rb,rfl,⟨_,SqL.of hrb⟩,fun bt hbt=>?_⟩⟩
 have hfr:=ZS (T:=T0) (met:=(jH T0 k0 i).flatten) (jP T0 k0 i) []
 have hzl:zs.length≤1000:=by
  rw [hkb.1]
  refine Nat.le_trans (yV hO ?_ fun x hx=>bG hT.shut hx) hn
  have:=QP (T:=T0) (met:=[]) (jP T0 k0 i) [] List.nodup_nil
  exact this
 refine JB (K:=K) (a:=rb) (xs:=zs) (caps:=[some (.ref dm)]) (fun j ws Hk=>KeysAt Hk ws (((j3 T0 [] [] (jP T0 k0 i)).take j).filter fun k => !decide (k∈(jH T0 k0 i).flatten))) hbt (SqL.of hrb) ⟨rfl,fun i x e=>by cases e⟩ ?_ ?_
 ·rintro j x ws Hk hx hj hle sm hY hR
  obtain ⟨kj,hkj,hgj,h8j⟩:=hkb.2 j x hx
  obtain ⟨kvs,e1,g,e2⟩:=((hMt.same sB).same sm).ex
  refine ⟨_,rfl,_,rfl,dm,kvs,kj,rfl,.of e1,g,jZ sm hgj,h8j,_,rfl,?_⟩
  rw [bE,e2]
  have ht:((j3 T0 [] [] (jP T0 k0 i)).take (j+1))=(j3 T0 [] [] (jP T0 k0 i)).take j++[kj]:=by rw [List.take_add_one,hkj];rfl
  by_cases hin:kj∈(jH T0 k0 i).flatten
  ·rw [decide_eq_true hin]
   refine vB (QW sm hY hle (Same.refl _) ?_)
   show KeysAt _ _ (((j3 T0 [] [] (jP T0 k0 i)).take (j+1)).filter fun k => !decide (k∈(jH T0 k0 i).flatten))
   rw [ht,List.filter_append,List.filter_cons,if_neg (by simpa using hin)]
   simpa using hR
  ·rw [decide_eq_false hin]
   refine qY ⟨_,rfl,JC hbt sm hY hle (by omega) (Same.refl _) ?_⟩
   show KeysAt _ _ (((j3 T0 [] [] (jP T0 k0 i)).take (j+1)).filter fun k => !decide (k∈(jH T0 k0 i).flatten))
   rw [ht,List.filter_append,List.filter_cons,if_pos (by simpa using hin)]
   exact hR.snoc (k:=kj) (fun a l e=>by rw [jC fun z=>by subst z;rw [hY] at e;cases e];exact e) (jZ sm hgj) h8j
 rintro ws Hg sg hbtg hleg hR
 rw [hkb.1,List.take_length,← hfr] at hR
 have hR':KeysAt Hg ws (kS T0 k0 i):=hR
 have sI:=sB.trans sg
 have sG:=s.trans sI
 refine ⟨_,rfl,bt,_,rfl,.inl (SqL.of hbtg),rfl,_,rfl,kF (fun c=>?_) (fun c=>?_)⟩
 ·have hz:ws.length=0:=by have e:=of_decide_eq_true c;injection e with e;omega
  have hnx:kS T0 k0 i=[]:=List.eq_nil_of_length_eq_zero (by rw [← hR'.1,hz])
  exact ⟨_,rfl,q i lr Hg hnst (.inr hnx) sG (hL.same sI)⟩
 have hnx:kS T0 k0 i≠[]:=fun z=>c (by have h:=hR'.1;rw [z] at h;rw [h];rfl)
 have hnd:=zH (T:=T0) (k0:=k0) (i+1)
 have hft:=fit (i+1)
 rw [vR] at hnd hft
 have btn:H bt=none:=by
  cases e:H bt with
  |none=>rfl
  |some o=>have:=(s.trans sB) _ _ e;rw [hbt] at this;cases this
 have btd:bt≠dm:=fun z=>by
  obtain ⟨kvs,e1,_⟩:=(hMt.same sB).ex
  rw [← z,hbt] at e1;cases e1
 have lrd:lr≠dm:=fun z=>by
  obtain ⟨kvs,e1,_⟩:=hMt.ex
  rw [← z,f1] at e1;cases e1
 have btl:bt≠lr:=fun z=>by rw [z,sB _ _ f1] at hbt;cases hbt
 refine ⟨_,rfl,bt,rfl,⟨_,SqL.of hbtg⟩,vJ (K:=K) (a:=bt) (xs:=ws) (fun j σ Hj=>∃c5,σ=[some y,some (.ref dT),some (.ref dM),some (.ref lr),some (.ref dm),c5,some (.ref bt)]∧QD dm Hg Hj∧MetAt w Hj dm ((jH T0 k0 i).flatten++(kS T0 k0 i).take j)) ⟨c5,rfl,fun _ _ _ e=>e,by rw [List.take_zero,List.append_nil];exact (hMt.same sI)⟩ (fun j σ Hj _ ⟨_,_,kp,_⟩=>SqL.of (kp bt _ btd hbtg)) ?_ ?_⟩
 ·rintro j x σ Hj hx ⟨c5,rfl,kp,hMj⟩
  obtain ⟨kj,hkj,hgj,h8j⟩:=hR'.2 j x hx
  obtain ⟨kvs0,d1,_⟩:=(hMt.same sI).ex
  obtain ⟨kvs,e1,g,e2⟩:=hMj.ex
  have tk:∀a l,Hg a=some (.tup l)→Hj a=some (.tup l):=fun a l e=>kp a _ (fun z=>by rw [z,d1] at e;cases e) e
  have ht:((kS T0 k0 i).take (j+1))=(kS T0 k0 i).take j++[kj]:=by rw [List.take_add_one,hkj];rfl
  have hkl:kvs.length≤1000:=by
   have:kvs.length=((jH T0 k0 i).flatten++(kS T0 k0 i).take j).length:=by rw [← e2,List.length_map]
   rw [this,List.length_append,List.length_take]
   rw [List.length_append] at hft
   omega
  have hni:kj∉(jH T0 k0 i).flatten++(kS T0 k0 i).take j:=by
   have hs:((jH T0 k0 i).flatten++(kS T0 k0 i).take j++[kj]).Nodup:=by
    rw [List.append_assoc,← ht]
    exact hnd.sublist ((List.Sublist.refl _).append (List.take_sublist _ _))
   rw [List.nodup_append] at hs
   exact fun h=>hs.2.2 kj h kj (by simp) rfl
  refine ⟨_,rfl,_,rfl,dm,kvs,kj,rfl,e1,g,(GV.keep tk _).1 _ hgj,h8j,qR (by omega),?_⟩
  refine ⟨_,rfl,fun a o n e=>by rw [jC n];exact kp a o n e,?_⟩
  rw [ht,← List.append_assoc]
  exact MetAt.put e1 g e2 hni ((GV.keep tk _).1 _ hgj) h8j
 rintro σ Hj ⟨c5,rfl,kp,hMj⟩
 rw [hR'.1,List.take_length] at hMj
 obtain ⟨kvs0,d1,_⟩:=(hMt.same sI).ex
 have hLj:=(hL.same sI).keepB kp d1
 have tk:∀a l,Hg a=some (.tup l)→Hj a=some (.tup l):=fun a l e=>kp a _ (fun z=>by rw [z,d1] at e;cases e) e
 have f1j:=kp lr _ lrd (sI _ _ f1)
 have sJ:Same H Hj:=fun a o e=>kp a o (kM e hdm0) (sG _ _ e)
 have hlg:=JT (T:=T0) (M:=M) (k0:=k0) i hnst
 refine ⟨_,rfl,.inl ⟨rfl,_,SqL.of f1j⟩,_,rfl,lr,_,_,rfl,rfl,f1j,qR (by have:=fit i;omega),?_⟩
 have hpos:0<(kS T0 k0 i).length:=List.length_pos_iff.mpr hnx
 rw [List.length_append] at hft
 refine ⟨m - (kS T0 k0 i).length,by omega,i+1,_,_,rfl,by rw [vR,List.length_append];omega,fun j hj=>?_,qP hlr0 sJ,?_,?_⟩
 ·rcases Nat.lt_succ_iff_lt_or_eq.mp hj with h|h
  ·exact hnst j h
  ·subst h
   rintro (h|h)
   ·rw [hany] at h;cases h
   ·exact hnx h
 ·rw [vR];exact hMj.keep f1j
 ·rw [JM]
  exact hLj.put f1j (kp bt _ btd hbtg) (hR'.keep tk) btl
theorem yA:FnScope ["_law_first","_law_ahead","_law_ended","_law_most","_law_names","_law_told_here","e"] ["_law_first","_law_ahead","_law_ended","_law_most"] (jJ yP):=⟨rfl,rfl,rfl,by decide +kernel,rfl,by decide +kernel,by decide +kernel⟩
theorem fF {f:Addr} {fd:FuncData} (F:Fun K "_law_told" "_law_told" yP f fd) (T:Txt K mg eC eW eM eD eT eS eN) (DX_layered:DefX P w K mg base 7 "layered" ["first","ahead","ended","most"] [] (Z7 w eW)):FnOk P w K mg base j0 8 f fd ["_law_first","_law_ahead","_law_ended","_law_most"] (ZC w):=by
 refine F.ok yA (fun vs H Q E h=>?_) (fun cdv A outer s H vs Q E hr h=>?_)
 ·obtain ⟨y,fa,fe,dT,dM,most,T0,ls,M,m0,n,c0,k0,N,rfl,hA,hE,hT,hO,hn,hM,hy,hk0,hN,hSt,q⟩:=h
  rfl
 obtain ⟨y,fa,fe,dT,dM,most,T0,ls,M,m0,n,c0,k0,N,rfl,hA,hE,hT,hO,hn,hM,hy,hk0,hN,hSt,q⟩:=h
 have hu:_<cLine:=hr.units0
 have hu1:=kX hr
 refine ⟨_,(jL (jT (i:=4) yA.nd rfl (by first|exact Or.inl rfl|exact Or.inr rfl) (j8 jD))
   (jL (jT (i:=5) yA.nd rfl (by first|exact Or.inl rfl|exact Or.inr rfl) (j8 (jA qL (jA (j8 jD) jD))))
   (jL (iW (i:=6) rfl rfl rfl yA.nd rfl rfl rfl T.c_CanalError (fun _ _ hx=>(jO (jT (i:=5) yA.nd rfl (by first|exact Or.inl rfl|exact Or.inr rfl) (lS DX_layered hx hr rfl (jA (pv 0) (jA (pv 1) (jA (pv 2) (jA (pv 3) jD)))))))) (fun _=>(jL (jT (i:=4) yA.nd rfl (by first|exact Or.inl rfl|exact Or.inr rfl) (j8 (jA (qA (yB (K:=K)) (by rfl) T.z_isinstance PyProof.Rows.boot_isinstance (jA (pv 6) (jA (yX (v:=.ref eW) rfl T.c_TooWide rfl) jD))) (jA (qA (yB (K:=K)) (by rfl) T.z_isinstance PyProof.Rows.boot_isinstance (jA (pv 6) (jA (lU (v:=.ty "ValueError") rfl T.z_ValueError PyProof.Rows.Boot.«ValueError» rfl) jD))) (jA (qA (yB (K:=K)) (by rfl) T.z_isinstance PyProof.Rows.boot_isinstance (jA (pv 6) (jA (yX (v:=.ref eM) rfl T.c_TooMany rfl) jD))) (jA (qA (yB (K:=K)) (by rfl) T.z_isinstance PyProof.Rows.boot_isinstance (jA (pv 6) (jA (yX (v:=.ref eD) rfl T.c_TooDry rfl) jD))) jD))))))
   (jO (jT (i:=4) yA.nd rfl (by first|exact Or.inl rfl|exact Or.inr rfl) (jK dI (pv 4) (j8 (jA (qA (yB (K:=K)) (by rfl) T.z_isinstance PyProof.Rows.boot_isinstance (jA (pv 6) (jA (yX (v:=.ref eT) rfl T.c_Torn rfl) jD))) (jA (qA (yB (K:=K)) (by rfl) T.z_isinstance PyProof.Rows.boot_isinstance (jA (pv 6) (jA (yX (v:=.ref eS) rfl T.c_Short rfl) jD))) (jA (qA (yB (K:=K)) (by rfl) T.z_isinstance PyProof.Rows.boot_isinstance (jA (pv 6) (jA (yX (v:=.ref eN) rfl T.c_NotNow rfl) jD))) jD))))))))))
   (jO (j5 (j8 (jA (pv 4) (jA (kT nM (pv 5) jG (fun _ _=>rfl)) jD)))))))),?_⟩
 refine ⟨Nat.zero_le _,fun n0 hn0=>⟨Nat.zero_le _,fun l2 hl2=>⟨jY (by show 2≤1000;decide),fun l3 hl3=>?_⟩⟩⟩
 have u1:=jN hn0 (.lst [])
 have u2:=jN hl2 (.lst [])
 have u3:=jN hl3 (.lst [.str "",.ref l2])
 have s3:=(u1.trans u2).trans u3
 have en0:=u3 _ _ (u2 _ _ (show jB H n0 (.lst []) n0=some (.lst []) from jE))
 refine ⟨fun σ' c H'=>σ'=[some y,some (.ref fa),some (.ref fe),some (.int most),some (.ref n0),some (.ref l3),none]∧c=.ref eW∧Same (jB (jB (jB H n0 (.lst [])) l2 (.lst [])) l3 (.lst [.str "",.ref l2])) H'∧most<(((jH T0 k0 N).flatten.length:Nat):Int),?_,?_⟩
 ·refine ⟨_,rfl,_,rfl,_,rfl,_,rfl,y,fa,fe,dT,dM,most,T0,ls,M,m0,n,c0,k0,N,rfl,hA.same s3,hE.same s3,hT.same s3,hO,hn,hM.same s3,jZ s3 hy,hk0,hN,hSt,fun hle ha t rr lr xs H' s' et _ _=>?_,fun hle ha t lr H' s' et _=>?_,fun hlt H' s'=>⟨rfl,rfl,s',hlt⟩⟩
  ·refine ⟨_,rfl,_,rfl,.inr (.inl ⟨t,_,0,.str "found",rfl,rfl,SqT.of et,rfl,jY (by show 2≤1000;decide),fun p hp=>?_⟩)⟩
   have up:=jN hp (.lst [.ref n0,.str "found"])
   exact q p n0 [] "found" _ ((s3.trans s').trans up) jE (up _ _ (s' _ _ en0)) hn0 (.inl ⟨hle,rfl,by unfold vA;rw [if_pos ha]⟩)
  ·refine ⟨_,rfl,_,rfl,.inr (.inl ⟨t,_,0,.str "closed",rfl,rfl,SqT.of et,rfl,jY (by show 2≤1000;decide),fun p hp=>?_⟩)⟩
   have up:=jN hp (.lst [.ref n0,.str "closed"])
   exact q p n0 [] "closed" _ ((s3.trans s').trans up) jE (up _ _ (s' _ _ en0)) hn0 (.inl ⟨hle,rfl,by unfold vA;rw [if_neg (by rw [ha];decide)]⟩)
 rintro σ' c H' ⟨rfl,rfl,sm,hlt⟩
 refine ⟨eW,rfl,T.exm,fun x hx=>?_⟩
 have ux:=jN hx (vO x eW)
 have ex0:jB H' x (vO x eW) x=some (vO x eW):=jE
 refine ⟨_,rfl,x,eW,.ref eW,true,rfl,ex0,T.at_,T.cl,.inl ⟨_,rfl,T.k_W⟩,_,rfl,x,eW,.ty "ValueError",true,rfl,ex0,T.at_,T.cl,.inl ⟨_,rfl,T.k_V⟩,_,rfl,x,eW,.ref eM,false,rfl,ex0,T.at_,T.cl,.inl ⟨_,rfl,T.k_M⟩,_,rfl,x,eW,.ref eD,false,rfl,ex0,T.at_,T.cl,.inl ⟨_,rfl,T.k_D⟩,jY (by show 4≤1000;decide),fun n1 hn1=>?_⟩
 have v1:=jN hn1 (.lst [.bl true,.bl true,.bl false,.bl false])
 have ex1:=v1 _ _ ex0
 refine ⟨_,rfl,_,rfl,x,eW,.ref eT,false,rfl,ex1,T.at_,T.cl,.inl ⟨_,rfl,T.k_T⟩,_,rfl,x,eW,.ref eS,false,rfl,ex1,T.at_,T.cl,.inl ⟨_,rfl,T.k_S⟩,_,rfl,x,eW,.ref eN,false,rfl,ex1,T.at_,T.cl,.inl ⟨_,rfl,T.k_N⟩,jY (by show 3≤1000;decide),fun n2 hn2=>?_⟩
 have v2:=jN hn2 (.lst [.bl false,.bl false,.bl false])
 refine ⟨n1,n2,_,_,rfl,rfl,v2 _ _ jE,jE,jY (by show 7≤1000;decide),fun n3 hn3=>?_⟩
 have v3:=jN hn3 (.lst ([.bl true,.bl true,.bl false,.bl false]++[.bl false,.bl false,.bl false]))
 have sAll:=((((s3.trans sm).trans ux).trans v1).trans v2).trans v3
 have e3:=v3 _ _ (v2 _ _ (v1 _ _ (ux _ _ (sm _ _ (show jB (jB (jB H n0 (.lst [])) l2 (.lst [])) l3 (.lst [.str "",.ref l2]) l3=some (.lst [.str "",.ref l2]) from jE)))))
 have hn30:H n3=none:=by
  cases e:H n3 with
  |none=>rfl
  |some o=>have:=(((((s3.trans sm).trans ux).trans v1).trans v2)) _ _ e;rw [hn3] at this;cases this
 refine ⟨_,rfl,_,rfl,.inl ⟨l3,_,0,.str "",rfl,rfl,SqL.of e3,zS (j:=0) rfl,jY (by show 2≤1000;decide),fun p hp=>?_⟩⟩
 have up:=jN hp (.lst [.ref n3,.str ""])
 exact q p n3 _ "" _ (sAll.trans up) jE (up _ _ jE) hn30 (.inr ⟨hlt,rfl,rfl⟩)
theorem kO:FnScope ["_law_script","_law_many_here","_law_mode","_law_first","_law_table_here","_law_marks_here","_law_ahead","_law_ended","_law_layers_here","_law_held","_law_word","_law_bounds","_law_further","_law_cell","_law_most","_law_due"] ["_law_script"] (jJ qN):=⟨rfl,rfl,rfl,by decide +kernel,rfl,by decide +kernel,by decide +kernel⟩
theorem fG {f:Addr} {fd:FuncData} (F:Fun K "law" "law" qN f fd) (T:Txt K mg eC eW eM eD eT eS eN) {cL tL:Addr} (hcL:fd.code=.ref cL) (hC:W.CodeHd base cL tL) (hB:base.BuiltinsAt mg tL) (hgT:PySem.mainGlobals≠tL) (D__law_many:Def P w K mg base 1 "_law_many" ["_law_cell"] [] (cO)) (D__law_cell_at:Def P w K mg base 1 "_law_cell_at" ["_law_script","_law_k"] [] (ZD K)) (D__law_label:Def P w K mg base 2 "_law_label" ["_law_mode","_law_v"] [] (zQ)) (D__law_table:Def P w K mg base 6 "_law_table" ["_law_script","_law_mode","_law_many_here"] [] (cJ w K)) (D__law_marks:Def P w K mg base 4 "_law_marks" ["_law_cell","_law_mode","_law_many_here"] [] (cN w)) (D__law_layers:Def P w K mg base 4 "_law_layers" ["_law_first","_law_table_here","_law_marks_here"] [] (Z6 w)) (D__law_told:Def P w K mg base 8 "_law_told" ["_law_first","_law_ahead","_law_ended","_law_most"] [] (ZC w)):FnOk P w K mg base j0 10 f fd ["_law_script"] (J9 tL K):=by
 refine F.okC hcL kO (fun vs H Q E h=>?_) (fun A outer s H vs Q E hr h=>?_)
 ·obtain ⟨a,ns,rfl,hS,h63,htL,q⟩:=h
  rfl
 obtain ⟨a,ns,rfl,hS,h63,htL,q⟩:=h
 have hu:_<cLine:=hr.units0
 have hu1:=kX hr
 have hu9:=q9 hr
 have hu10:=q5 hr
 refine ⟨_,(jL (jT (i:=1) kO.nd rfl (by first|exact Or.inl rfl|exact Or.inr rfl) (j7 D__law_many hr rfl (jA (j7 D__law_cell_at hr rfl (jA (pv 0) (jA jG jD))) jD)))
   (vK (jT (i:=2) kO.nd rfl (by first|exact Or.inl rfl|exact Or.inr rfl) (jK kC (j7 D__law_cell_at hr rfl (jA (pv 0) (jA jG jD))) jG))
   (jL (jT (i:=3) kO.nd rfl (by first|exact Or.inl rfl|exact Or.inr rfl) (j7 D__law_label hr rfl (jA (pv 2) (jA (jK kC (jK qJ (j7 D__law_cell_at hr rfl (jA (pv 0) (jA jG jD))) jG) (pv 1)) jD))))
   (jL (jT (i:=4) kO.nd rfl (by first|exact Or.inl rfl|exact Or.inr rfl) (j7 D__law_table hr rfl (jA (pv 0) (jA (pv 2) (jA (pv 1) jD)))))
   (jL (jT (i:=5) kO.nd rfl (by first|exact Or.inl rfl|exact Or.inr rfl) (j7 D__law_marks hr rfl (jA (j7 D__law_cell_at hr rfl (jA (pv 0) (jA jG jD))) (jA (pv 2) (jA (pv 1) jD)))))
   (jL (cS (i:=6) (c:=cL) (P:=tL) kO.nd rfl (.inl rfl) (.inr rfl) rfl rfl (fU _ _ _) rfl rfl hC hgT hB rfl)
   (vK (cS (i:=7) (c:=cL) (P:=tL) kO.nd rfl (.inl rfl) (.inr rfl) rfl rfl (fT _ _ _) rfl rfl hC hgT hB rfl)
   (jL (jT (i:=8) kO.nd rfl (by first|exact Or.inl rfl|exact Or.inr rfl) (j7 D__law_layers hr rfl (jA (pv 3) (jA (pv 4) (jA (pv 5) jD)))))
   (jL (jT (i:=9) kO.nd rfl (by first|exact Or.inl rfl|exact Or.inr rfl) (qA (iL rfl) (by rfl) T.z_sum PyProof.Rows.boot_sum (jA (cV ["_law_layer"] (v5 1 []) rfl (JA (jJ qN) rfl rfl (by decide +kernel) (by decide +kernel) (by decide +kernel)) (zC 1 [] rfl rfl (by decide +kernel)) (qM (pv 8)) (fun _ _ _ _ _=>(kP (i:=0) (show List.Nodup (["_law_layer"]:List Str) from by decide +kernel) rfl (by first|exact Or.inl rfl|exact Or.inr rfl))) (fun _ _ _ _ _=>eQ) (fun _ _ _ _ _=>(qA (fY K) (by rfl) T.z_len PySem.boot_len (jA (pv 0) jD)))) jD)))
   (jL (jT (i:=10) kO.nd rfl (by first|exact Or.inl rfl|exact Or.inr rfl) (kT q0 (j8 (jA qL (jA qL jD))) (JD iN (by rfl) T.z_int PyProof.Rows.boot_int (jA (yC QC (qA zD (by rfl) T.z_len PySem.boot_len (jA (cV ["_law_state","_law_marks_here"] (v5 1 [5]) rfl (JA (jJ qN) rfl rfl (by decide +kernel) (by decide +kernel) (by decide +kernel)) (zC 1 [5] rfl rfl (by decide +kernel)) (qM (kT q0 (pv 8) (z4 zT jG) (fun _ _=>rfl))) (fun _ _ _ _ _=>(kP (i:=0) (show List.Nodup (["_law_state","_law_marks_here"]:List Str) from by decide +kernel) rfl (by first|exact Or.inl rfl|exact Or.inr rfl))) (fun _ _ _ _ _=>(Q6 (QA (iZ w hu9 (pv 1) (pv 0) (fun _ _=>rfl))))) (fun _ _ _ _ _=>(pv 0))) jD)) jG (j6 _)) jD)) (fun _ _=>rfl)))
   (jL (jT (i:=11) kO.nd rfl (by first|exact Or.inl rfl|exact Or.inr rfl) (j8 (jA (pv 9) (jA (qA (iM rfl) (by rfl) T.z_max PyProof.Rows.boot_max (jA jG (jA (jK zW (pv 9) jG) jD))) (jA (jK q8 jG (jK kC (jK qJ (j7 D__law_cell_at hr rfl (jA (pv 0) (jA jG jD))) jG) (pv 9))) jD)))))
   (vK (kJ (kN qB (jK kC (jK qJ (j7 D__law_cell_at hr rfl (jA (pv 0) (jA jG jD))) jG) jG) jG (j6 _)) (jO (vD (nA PySem.F.plainAttrs_list PySem.F.slot_list_reverse PySem.F.type_list_reverse gQ (pv 11)))) kI)
   (jL (jT (i:=12) kO.nd rfl (by first|exact Or.inl rfl|exact Or.inr rfl) (Q1 Q5 (pv 0) Q7 (QM jG)))
   (vK (kJ (kN QC (pv 1) jG (j6 _)) (jO (jT (i:=12) kO.nd rfl (by first|exact Or.inl rfl|exact Or.inr rfl) (Q1 Q5 (pv 0) Q7 (QM jG)))) kI)
   (jL (qS PassesOwn.never rfl (qM (pv 12)) (kP (i:=13) kO.nd rfl (by first|exact Or.inl rfl|exact Or.inr rfl))
    (jO (vD (yD PySem.F.plainAttrs_list PySem.F.slot_list_append PySem.F.type_list_append vQ (pv 11) (jA (jK q8 jG (jK kC (jK qJ (pv 13) jG) (jK q8 (pv 9) jG))) jD)))))
   (jL (qS PassesOwn.never rfl (qM (jK dI (pv 11) (j8 (jA (pv 9) jD)))) (kP (i:=14) kO.nd rfl (by first|exact Or.inl rfl|exact Or.inr rfl))
    (jL (jT (i:=15) kO.nd rfl (by first|exact Or.inl rfl|exact Or.inr rfl) (j8 (jA (j8 jD) (jA (pv 10) jD))))
   (vK (kJ (kN QC (pv 9) (pv 14) (j6 _)) (@jO _ _ _ (@jT _ _ 15 _ _ _ _ kO.nd rfl (by first|exact Or.inl rfl|exact Or.inr rfl) (j8 (jA (j8 (jA qV (jA qV (jA qV (jA qV (jA qV (jA qV (jA qV jD)))))))) (jA qL jD))) (by rfl) (by first|exact .inl rfl|exact .inr rfl|assumption))) kI)
   (jO (kJ (kN (nF hu1) (i0 (cs:=[(5,s.heap.objs.size+1),(4,s.heap.objs.size+2)]) D__law_told hr rfl (nR ⟨"_law_marks_here",rfl,rfl,rfl,rfl⟩ ⟨"_law_table_here",rfl,rfl,rfl,rfl⟩) (jA (pv 3) (jA (pv 6) (jA (pv 7) (jA (pv 14) jD))))) (pv 15) (j6 _)) (jO (j5 qV)) kI)))))
   (jO (j5 qV)))))))))))))))))),?_⟩
 obtain ⟨m,em,hm0⟩:=QG (a:=ns.getD 1 0) (b:=5) (by decide)
 have hm:m≤4:=by omega
 refine ⟨_,rfl,a,ns,0,rfl,hS,_,rfl,fun n hn1 hn9=>?_⟩
 refine ⟨fun σ Hi=>σ=[some (.ref a),some (.int n),some (.int m),none,none,none,none,none,none,none,none,none,none,none,none,none]∧Hi=H,⟨_,rfl,a,ns,1,rfl,hS,_,_,rfl,rfl,(show (0:Int)<5 by decide),by rw [← em];rfl,rfl⟩,?_⟩
 rintro σ Hi ⟨rfl,rfl⟩
 obtain ⟨v,ev,hv⟩:=QG (a:=ns.getD 1 0 / 5) (b:=(n:Int)) (by omega)
 have hv':v<n:=by omega
 refine ⟨_,rfl,_,rfl,a,ns,1,rfl,hS,_,_,rfl,rfl,⟨by decide,by decide⟩,_,rfl,_,_,rfl,rfl,(show (0:Int)<n by omega),m,v,by rw [← ev];rfl,hm,by omega,fun y H1 s1 hy h8=>?_⟩
 refine ⟨_,rfl,_,rfl,_,rfl,a,ns,m,n,rfl,s1.seq hS,h63,hm,hn1,hn9,fun dT T0 ls H2 hT hO s2 hls hd0=>?_⟩
 have s12:=s1.trans s2
 refine ⟨_,rfl,a,ns,2,rfl,s12.seq hS,_,rfl,_,rfl,_,m,n,rfl,hm,hn1,hn9,fun dM M H3 hI=>?_⟩
 have s13:=s12.trans hI.sm
 obtain ⟨k0,hk0⟩:∃k,k=jU m v:=⟨_,rfl⟩
 have R4:Lay55 w H3 dT dM T0 ls M m n k0 y:=⟨hT.same hI.sm,hO,l0 hI hO,by rw [hk0];exact jZ (s2.trans hI.sm) hy,by rw [hk0];exact hO.dom v hv'⟩
 have ht4:H3 tL=some (.tbl #[]):=s13 _ _ htL
 have hS3:=s13.seq hS
 clear hT hI hls hk0
 refine ⟨_,ht4,trivial,rfl,fun fa ca cta doca oca n1 n2 n3 hfa hca hoc=>?_⟩
 refine ⟨fun σ Hi=>∃fa fe,σ=[some (.ref a),some (.int n),some (.int m),some y,some (.ref dT),some (.ref dM),some (.ref fa),some (.ref fe),none,none,none,none,none,none,none,none]∧SqL K Hi a (ns.map V.int)∧Ready55 w Hi fa fe (s.heap.objs.size+2) (s.heap.objs.size+1) dT dM T0 ls M m n k0 y,?_,?_⟩
 ·refine ⟨_,J3 n1 n2,trivial,rfl,fun fe ce cte doce oce m1 m2 m3 hfe hce hoce=>⟨fa,fe,rfl,Z8 (zK hfe hce) (J3 n1 n2) (Z8 (zK hfa hca) ht4 hS3),?_⟩⟩
  refine ⟨(R4.keepT (zK hfa hca) ht4).keepT (zK hfe hce) (J3 n1 n2),FnIs.keepT (zK hfe hce) (J3 n1 n2) ⟨_,_,_,_,_,_,ca,oca,by rw [jC n3.symm,jE],rfl,jE,hoc⟩,⟨_,_,_,_,_,_,ce,oce,by rw [jC m3.symm,jE],rfl,jE,hoce⟩⟩
 rintro σ H6 ⟨fa,fe,rfl,hS6,R⟩
 refine ⟨_,rfl,_,rfl,_,rfl,y,dT,dM,T0,ls,M,m,n,1100,k0,rfl,R.lay.tab,R.lay.ok,by omega,R.lay.mrk,R.lay.key,R.lay.at_,fun N lr H7 hN hSt s7 hL=>?_⟩
 have dom:=fun i x (h:x∈(jH T0 k0 i).flatten)=>JX R.lay.tab.shut R.lay.at_ i x h
 have fit:∀i,(jH T0 k0 i).flatten.length≤1000:=fun i=>Nat.le_trans (yV R.lay.ok (zH i) (dom i)) (by omega)
 have hlong:=JT (T:=T0) (M:=M) (k0:=k0) N hN
 have hfN:=fit N
 have R7:=R.same s7
 obtain ⟨xs,f1,f2,f3⟩:=hL.ex
 have f2':=f2
 rw [zI] at f2'
 refine ⟨_,rfl,lr,rfl,⟨_,SqL.of f1⟩,fun bt hbt=>?_⟩
 refine JB (K:=K) (a:=lr) (xs:=xs) (caps:=[]) (fun j ys Hj=>ys=((jH T0 k0 N).take j).map fun l=>V.int ((l.length:Nat):Int)) hbt (SqL.of f1) rfl ?_ ?_
 ·rintro j x ys Hj hx hj hle sm hY hR
  obtain ⟨la,zs,lay,g1,g2,g3,g4,g5⟩:=f3 j x hx
  subst g1
  refine mZ (qY ⟨_,rfl,la,zs,rfl,.inl (SqL.of (sm _ _ g4)),JC hbt sm hY hle (by omega) (Same.refl _) ?_⟩)
  show _=((jH T0 k0 N).take (j+1)).map _
  rw [hR,List.take_add_one,g3,List.map_append,g5.1]
  rfl
 rintro ys H8 s8 hbt8 hle8 hR
 rw [f2,List.take_length] at hR
 subst hR
 refine ⟨bt,(jH T0 k0 N).map fun l=>((l.length:Nat):Int),rfl,SqL.of (by rw [List.map_map];exact hbt8),?_⟩
 rw [iS]
 have s78:=s7.trans s8
 refine ⟨jY (by show 2≤1000;decide),fun lw hlw=>?_⟩
 have uw:=jN hlw (.lst [.str "closed",.str "found"])
 have hL9:=hL.same (s8.trans uw)
 have s9:=s78.trans uw
 have R9:=R.same s9
 obtain ⟨xs9,la,zs,k1,k2,k3,k4,k5,k6⟩:=hL9.last
 have hzl:zs.length≤1000:=by
  rw [k5.1]
  have h2:(jP T0 k0 N).length≤(jH T0 k0 N).flatten.length:=(List.sublist_flatten_of_mem (List.mem_of_getElem? (zJ N))).length_le
  omega
 refine ⟨_,rfl,_,rfl,lr,xs9,_,_,rfl,rfl,SqL.of k1,k2,la,rfl,⟨_,SqL.of k4⟩,fun bu hbu=>?_⟩
 refine JB (K:=K) (a:=la) (xs:=zs) (caps:=[some (.ref dM)]) (fun j ws Hj=>ws.length=(((jP T0 k0 N).take j).filter M).length) hbu (SqL.of k4) rfl ?_ ?_
 ·rintro j x ws Hj hx hj hle sm hY hR
  obtain ⟨kj,hkj,hgj,h8j⟩:=k5.2 j x hx
  have hdj:=dom N kj (yW (List.mem_of_getElem? hkj))
  obtain ⟨kvsM,a1,a2,a3⟩:=(R9.lay.mrk.same sm).ex
  refine ⟨_,rfl,_,rfl,dM,kvsM,kj,_,rfl,.of a1,a2,jZ sm hgj,h8j,a3 kj hdj,_,rfl,?_⟩
  have ht:((jP T0 k0 N).take (j+1))=(jP T0 k0 N).take j++[kj]:=by rw [List.take_add_one,hkj];rfl
  cases hMk:M kj with
  |true =>
   refine qY ⟨_,rfl,JC hbu sm hY hle (by omega) (Same.refl _) ?_⟩
   show _=(((jP T0 k0 N).take (j+1)).filter M).length
   rw [ht,List.filter_append,List.filter_cons,if_pos hMk,List.length_append,List.length_append,hR]
   rfl
  |false =>
   refine vB (QW sm hY hle (Same.refl _) ?_)
   show _=(((jP T0 k0 N).take (j+1)).filter M).length
   rw [ht,List.filter_append,List.filter_cons,if_neg (by rw [hMk];decide),List.length_append,hR]
   rfl
 rintro ws HA sA hbuA hleA hR
 rw [k5.1,List.take_length] at hR
 have sA6:=s9.trans sA
 refine ⟨bu,ws,rfl,.inl (SqL.of hbuA),_,_,rfl,rfl,.inr ⟨_,rfl,lw,_,_,.str (vA T0 M k0 N),rfl,rfl,SqL.of (sA _ _ jE),?_,?_⟩⟩
 ·have hany:=cG (M:=M) (l:=jP T0 k0 N)
  unfold vA
  cases hf:(jP T0 k0 N).filter M with
  |nil =>
   rw [hf] at hany hR
   have e1:decide ((0:Int)<((ws.length:Nat):Int))=false:=decide_eq_false (by rw [hR];decide)
   have e2:¬(jP T0 k0 N).any M=true:=by rw [hany];decide
   rw [e1,if_neg e2]
   rfl
  |cons k r =>
   rw [hf] at hany hR
   have e1:decide ((0:Int)<((ws.length:Nat):Int))=true:=decide_eq_true (by rw [hR,List.length_cons];omega)
   have e2:(jP T0 k0 N).any M=true:=by rw [hany];rfl
   rw [e1,if_pos e2]
   rfl
 obtain ⟨tot,htot⟩:∃t:Nat,t=(jH T0 k0 N).flatten.length:=⟨_,rfl⟩
 have hpos:0<(((jH T0 k0 N).flatten.length:Nat):Int):=by omega
 have hpos1:0<(((jH T0 k0 N).flatten.length:Nat):Int)+1:=by omega
 have RA:=R.same sA6
 refine ⟨_,rfl,_,rfl,_,_,rfl,rfl,_,_,rfl,_,rfl,a,ns,2,rfl,sA6.seq hS6,_,_,rfl,rfl,⟨by decide,by decide⟩,_,rfl,_,_,rfl,rfl,hpos,_,_,rfl,rfl,jY (by show 3≤1000;decide),fun bl hbl=>?_⟩
 have hbl0:H6 bl=none:=by
  cases e:H6 bl with
  |none=>rfl
  |some o=>have:=sA6 _ _ e;rw [hbl] at this;cases this
 refine ⟨fun σ Hj=>∃bs:List Int,bs.length≤3∧σ=[some (.ref a),some (.int n),some (.int m),some y,some (.ref dT),some (.ref dM),some (.ref fa),some (.ref fe),some (.ref lr),some (.int ((jH T0 k0 N).flatten.length:Nat)),some (.str (vA T0 M k0 N)),some (.ref bl),none,none,none,none]∧Same H6 Hj∧Hj bl=some (.lst (bs.map V.int)),?_,?_⟩
 ·have e0:∀z:HO,jB HA bl z bl=some z:=fun z=>jE
  refine ⟨_,rfl,a,ns,1,rfl,(sA6.trans (jN hbl _)).seq hS6,_,_,rfl,rfl,⟨by decide,by decide⟩,_,_,rfl,rfl,(show (0:Int)<2 by decide),rfl,_,rfl,kF (fun _=>?_) (fun _=>?_)⟩
  ·refine ⟨_,rfl,.inl ⟨rfl,_,SqL.of jE⟩,bl,_,rfl,rfl,jE,?_⟩
   exact ⟨[_,_,_],Nat.le_refl 3,rfl,qP hbl0 (sA6.trans (jN hbl _)),jE⟩
  ·exact ⟨[_,_,_],Nat.le_refl 3,rfl,sA6.trans (jN hbl _),jE⟩
 rintro σ HB ⟨bs,hbs,rfl,sB,hblB⟩
 refine ⟨_,rfl,_,rfl,a,_,rfl,sB.seq hS6,fun fp hfp=>?_⟩
 refine ⟨fun σ Hj=>∃(fp:Addr) (cs:List Int),σ=[some (.ref a),some (.int n),some (.int m),some y,some (.ref dT),some (.ref dM),some (.ref fa),some (.ref fe),some (.ref lr),some (.int ((jH T0 k0 N).flatten.length:Nat)),some (.str (vA T0 M k0 N)),some (.ref bl),some (.ref fp),none,none,none]∧Same H6 Hj∧Hj bl=some (.lst (bs.map V.int))∧Hj fp=some (.lst (cs.map V.int))∧cs.length≤63∧fp≠bl,?_,?_⟩
 ·obtain ⟨cs,hcs,hlc⟩:=QV ns none (some 30)
  have uf:=jN hfp (.lst (vE (ns.map V.int) none (some 30)))
  have nf:fp≠bl:=fun z=>by rw [z,hblB] at hfp;cases hfp
  refine ⟨_,rfl,_,_,rfl,rfl,_,rfl,kF (fun _=>?_) (fun _=>?_)⟩
  ·refine ⟨_,rfl,_,rfl,a,_,rfl,(sB.trans uf).seq hS6,fun fp2 hfp2=>?_⟩
   obtain ⟨cs2,hcs2,hlc2⟩:=QV ns none (some 3)
   have uf2:=jN hfp2 (.lst (vE (ns.map V.int) none (some 3)))
   exact ⟨fp2,cs2,rfl,(sB.trans uf).trans uf2,uf2 _ _ (uf _ _ hblB),by rw [jE,hcs2],by omega,fun z=>by rw [z,uf _ _ hblB] at hfp2;cases hfp2⟩
  ·exact ⟨fp,cs,rfl,sB.trans uf,uf _ _ hblB,by rw [jE,hcs],by omega,nf⟩
 rintro σ HC0 ⟨fp,cs,rfl,sC,hblC,hfpC,hcl,nf⟩
 have hfp0:fp≠bl:=nf
 refine ⟨_,rfl,fp,rfl,⟨_,SqL.of hfpC⟩,vJ (K:=K) (a:=fp) (xs:=cs.map V.int) (fun i σ Hj=>∃(bs:List Int) (c13:Option V),σ=[some (.ref a),some (.int n),some (.int m),some y,some (.ref dT),some (.ref dM),some (.ref fa),some (.ref fe),some (.ref lr),some (.int ((jH T0 k0 N).flatten.length:Nat)),some (.str (vA T0 M k0 N)),some (.ref bl),some (.ref fp),c13,none,none]∧bs.length≤3+i∧Same H6 Hj∧Hj bl=some (.lst (bs.map V.int))∧Hj fp=some (.lst (cs.map V.int))) ⟨bs,none,rfl,by omega,sC,hblC,hfpC⟩ (fun i σ Hj _ ⟨_,_,_,_,_,_,e⟩=>SqL.of e) ?_ ?_⟩
 ·rintro i x σ Hj hx ⟨bs,c13,rfl,hbl3,sj,hb,hf⟩
  have hi:=(List.getElem?_eq_some_iff.mp hx).1
  rw [List.length_map] at hi
  obtain ⟨z,rfl,_⟩:=Q4 hx
  refine ⟨_,rfl,.inl ⟨rfl,_,SqL.of hb⟩,_,rfl,_,_,rfl,rfl,⟨by decide,by decide⟩,_,rfl,_,_,rfl,rfl,_,_,rfl,rfl,hpos1,_,_,rfl,rfl,bl,_,_,rfl,rfl,hb,qR (by rw [List.length_map];omega),?_⟩
  exact ⟨bs++[1+z / 3%((((jH T0 k0 N).flatten.length:Nat):Int)+1)],_,rfl,by rw [List.length_append,List.length_singleton];omega,qP hbl0 sj,by rw [jE,← g0],by rw [jC nf];exact hf⟩
 rintro σ HD ⟨bs,c13,rfl,hb66,sD,hblD,hfD⟩
 rw [List.length_map] at hb66
 refine ⟨_,rfl,_,rfl,jY (by show 1≤1000;decide),fun lh hlh=>?_⟩
 have uh:=jN hlh (.lst [.int ((jH T0 k0 N).flatten.length:Nat)])
 refine ⟨bl,lh,_,_,rfl,rfl,uh _ _ hblD,jE,jY (by rw [List.length_map];show bs.length+1≤1000;omega),fun lp hlp=>⟨lp,rfl,⟨_,SqL.of jE⟩,?_⟩⟩
 have hms:bs.map V.int++[V.int ((jH T0 k0 N).flatten.length:Nat)]=(bs++[(((jH T0 k0 N).flatten.length:Nat):Int)]).map V.int:=by simp
 have uP:=jN hlp (.lst (bs.map V.int++[V.int ((jH T0 k0 N).flatten.length:Nat)]))
 have sE:=(sD.trans uh).trans uP
 refine vJ (K:=K) (a:=lp) (xs:=bs.map V.int++[V.int ((jH T0 k0 N).flatten.length:Nat)]) (fun i σ Hi=>∃c13 c14 c15,σ=[some (.ref a),some (.int n),some (.int m),some y,some (.ref dT),some (.ref dM),some (.ref fa),some (.ref fe),some (.ref lr),some (.int ((jH T0 k0 N).flatten.length:Nat)),some (.str (vA T0 M k0 N)),some (.ref bl),some (.ref fp),c13,c14,c15]∧Same H6 Hi∧Hi lp=some (.lst (bs.map V.int++[V.int ((jH T0 k0 N).flatten.length:Nat)]))) ⟨_,_,_,rfl,sE,jE⟩ (fun i σ Hi _ ⟨_,_,_,_,_,e⟩=>SqL.of e) ?_ ?_
 ·rintro i x σ Hi hx ⟨c13,c14,c15,rfl,si,hlpi⟩
  rw [hms] at hx
  obtain ⟨most,rfl,_⟩:=Q4 hx
  refine ⟨Nat.zero_le _,fun d0 hd0=>⟨_,rfl,jY (by show 2≤1000;decide),fun d1 hd1=>?_⟩⟩
  have v0:=jN hd0 (.lst [])
  have v1:=jN hd1 (.lst [.ref d0,.str (vA T0 M k0 N)])
  refine ⟨fun σ Hj=>∃dl dn nm wd,σ=[some (.ref a),some (.int n),some (.int m),some y,some (.ref dT),some (.ref dM),some (.ref fa),some (.ref fe),some (.ref lr),some (.int ((jH T0 k0 N).flatten.length:Nat)),some (.str (vA T0 M k0 N)),some (.ref bl),some (.ref fp),c13,some (.int most),some (.ref dl)]∧Same Hi Hj∧Hj dl=some (.lst [.ref dn,.str wd])∧Hj dn=some (.lst nm)∧zY T0 M k0 N most nm wd,?_,?_⟩
  ·refine ⟨_,rfl,_,rfl,_,_,rfl,rfl,_,rfl,kF (fun c=>?_) (fun c=>?_)⟩
   ·have c':most<(((jH T0 k0 N).flatten.length:Nat):Int):=of_decide_eq_true c
    refine ⟨jY (by show 7≤1000;decide),fun d2 hd2=>⟨jY (by show 2≤1000;decide),fun d3 hd3=>?_⟩⟩
    have v2:=jN hd2 (.lst [.bl true,.bl true,.bl false,.bl false,.bl false,.bl false,.bl false])
    have v3:=jN hd3 (.lst [.ref d2,.str ""])
    exact ⟨d3,d2,_,_,rfl,((v0.trans v1).trans v2).trans v3,jE,v3 _ _ jE,.inr ⟨c',rfl,rfl⟩⟩
   ·have c':¬most<(((jH T0 k0 N).flatten.length:Nat):Int):=of_decide_eq_false (Bool.eq_false_iff.mpr c)
    exact ⟨d1,d0,_,_,rfl,v0.trans v1,jE,v1 _ _ jE,.inl ⟨by omega,rfl,rfl⟩⟩
  rintro σ Hj ⟨dl,dn,nm,wd,rfl,sj,g1,g2,hdue⟩
  have sJ:=si.trans sj
  have RJ:=R.same sJ
  refine ⟨_,rfl,_,rfl,_,rfl,_,rfl,eE ⟨_,rfl⟩ ⟨_,rfl⟩,fun HC hHC hn0=>lH (most:=most) RJ (by omega) hN hSt rfl rfl hHC hn0 fun p n0 nm' wd' H' hcs s' g3 g4 g5 hdue'=>⟨hcs,?_⟩⟩
  obtain ⟨rfl,rfl⟩:=lJ hdue hdue'
  have hfl:nm'.all qO=true:=by rcases hdue with ⟨_,rfl,_⟩|⟨_,rfl,_⟩<;>rfl
  have ne:n0≠dn:=fun z=>by rw [z,g2] at g5;cases g5
  refine ⟨_,rfl,p,dl,_,_,[true,true],rfl,rfl,SqL.of g3,SqL.of (s' _ _ g1),rfl,rfl,fun j hj=>?_,_,rfl,vB ?_⟩
  ·match j,hj with
   |0,_ =>
    have:=DEq.lst (K:=K) ne (SqL.of g4) (SqL.of (s' _ _ g2)) hfl hfl
    rw [i9 hfl] at this
    exact this
   |1,_ =>
    have:=DEq.flat (K:=K) (H:=kD H' [s.heap.objs.size+1,s.heap.objs.size+2]) (x:=.str wd') (y:=.str wd') rfl rfl
    rw [cC rfl] at this
    exact this
  exact ⟨_,_,_,rfl,sJ.trans s',s' _ _ (sj _ _ hlpi)⟩
 rintro σ Hi ⟨c13,c14,c15,rfl,si,_⟩
 exact q _
end
theorem all_mk {l:W.OpenLaw} {w:World} {K:W.Frag} {h:Heap} {mg:Str→Option Value} {fa f2 f3 f4 f5 f6 f7 f8 f9 f10 f11 f12 f13 f14 f15:Addr} {cL tL:Addr} {eC eW eM eD eT eS eN:Addr} {cd_eW:ClassData} (X:K.In h) (G:h.Ns mainGlobals mg) (hfa:mg "law"=some (.ref fa))
 {od2 an2 od3 an3 od4 an4 od5 an5 od6 an6 od7 an7 od8 an8 od9 an9 od10 an10 od11 an11 od12 an12 od13 an13 od14 an14 od15 an15:Option Addr} {sl2 sl3 sl4 sl5 sl6 sl7 sl8 sl9 sl10 sl11 sl12 sl13 sl14 sl15:Array (Option Value)} {oc2 kV2 dc2 pm2 cd2 ct2 oc3 kV3 dc3 pm3 cd3 ct3 oc4 kV4 dc4 pm4 cd4 ct4 oc5 kV5 dc5 pm5 cd5 ct5 oc6 kV6 dc6 pm6 cd6 ct6 oc7 kV7 dc7 pm7 cd7 ct7 oc8 kV8 dc8 pm8 cd8 ct8 oc9 kV9 dc9 pm9 cd9 ct9 oc10 kV10 dc10 pm10 cd10 ct10 oc11 kV11 dc11 pm11 cd11 ct11 oc12 kV12 dc12 pm12 cd12 ct12 oc13 kV13 dc13 pm13 cd13 ct13 oc14 kV14 dc14 pm14 cd14 ct14 oc15 kV15 dc15 pm15 cd15 ct15:Value}
  (aX_CanalError:W.nsIn K mainGlobals "CanalError"=some (some (.ref eC)))
  (aX_TooWide:W.nsIn K mainGlobals "TooWide"=some (some (.ref eW)))
  (aX_TooMany:W.nsIn K mainGlobals "TooMany"=some (some (.ref eM)))
  (aX_TooDry:W.nsIn K mainGlobals "TooDry"=some (some (.ref eD)))
  (aX_Torn:W.nsIn K mainGlobals "Torn"=some (some (.ref eT)))
  (aX_Short:W.nsIn K mainGlobals "Short"=some (some (.ref eS)))
  (aX_NotNow:W.nsIn K mainGlobals "NotNow"=some (some (.ref eN)))
  (a2:W.nsIn K mainGlobals "next_layer"=some (some (.ref f2)))
  (l2:K.lookup f2=some ⟨oc2,od2,.func (W.fnOf "next_layer" "next_layer" (j4 yQ) (jW yQ) (jJ yQ) .none kV2 dc2 pm2 an2 cd2 ct2),sl2⟩)
  (c2:W.codeIn K cd2 "next_layer"=true)
  (k2:W.keepIn K (.ref f2)=true)
  (a3:W.nsIn K mainGlobals "row_to"=some (some (.ref f3)))
  (l3:K.lookup f3=some ⟨oc3,od3,.func (W.fnOf "row_to" "row_to" (j4 yR) (jW yR) (jJ yR) .none kV3 dc3 pm3 an3 cd3 ct3),sl3⟩)
  (c3:W.codeIn K cd3 "row_to"=true)
  (k3:W.keepIn K (.ref f3)=true)
  (a4:W.nsIn K mainGlobals "layered"=some (some (.ref f4)))
  (l4:K.lookup f4=some ⟨oc4,od4,.func (W.fnOf "layered" "layered" (j4 v9) (jW v9) (jJ v9) .none kV4 dc4 pm4 an4 cd4 ct4),sl4⟩)
  (c4:W.codeIn K cd4 "layered"=true)
  (k4:W.keepIn K (.ref f4)=true)
  (a5:W.nsIn K mainGlobals "_law_cell_at"=some (some (.ref f5)))
  (l5:K.lookup f5=some ⟨oc5,od5,.func (W.fnOf "_law_cell_at" "_law_cell_at" (j4 yI) (jW yI) (jJ yI) .none kV5 dc5 pm5 an5 cd5 ct5),sl5⟩)
  (c5:W.codeIn K cd5 "_law_cell_at"=true)
  (k5:W.keepIn K (.ref f5)=true)
  (a6:W.nsIn K mainGlobals "_law_label"=some (some (.ref f6)))
  (l6:K.lookup f6=some ⟨oc6,od6,.func (W.fnOf "_law_label" "_law_label" (j4 yL) (jW yL) (jJ yL) .none kV6 dc6 pm6 an6 cd6 ct6),sl6⟩)
  (c6:W.codeIn K cd6 "_law_label"=true)
  (k6:W.keepIn K (.ref f6)=true)
  (a7:W.nsIn K mainGlobals "_law_deed"=some (some (.ref f7)))
  (l7:K.lookup f7=some ⟨oc7,od7,.func (W.fnOf "_law_deed" "_law_deed" (j4 yJ) (jW yJ) (jJ yJ) .none kV7 dc7 pm7 an7 cd7 ct7),sl7⟩)
  (c7:W.codeIn K cd7 "_law_deed"=true)
  (k7:W.keepIn K (.ref f7)=true)
  (a8:W.nsIn K mainGlobals "_law_joined"=some (some (.ref f8)))
  (l8:K.lookup f8=some ⟨oc8,od8,.func (W.fnOf "_law_joined" "_law_joined" (j4 yK) (jW yK) (jJ yK) .none kV8 dc8 pm8 an8 cd8 ct8),sl8⟩)
  (c8:W.codeIn K cd8 "_law_joined"=true)
  (k8:W.keepIn K (.ref f8)=true)
  (a9:W.nsIn K mainGlobals "_law_many"=some (some (.ref f9)))
  (l9:K.lookup f9=some ⟨oc9,od9,.func (W.fnOf "_law_many" "_law_many" (j4 yM) (jW yM) (jJ yM) .none kV9 dc9 pm9 an9 cd9 ct9),sl9⟩)
  (c9:W.codeIn K cd9 "_law_many"=true)
  (k9:W.keepIn K (.ref f9)=true)
  (a10:W.nsIn K mainGlobals "_law_table"=some (some (.ref f10)))
  (l10:K.lookup f10=some ⟨oc10,od10,.func (W.fnOf "_law_table" "_law_table" (j4 yO) (jW yO) (jJ yO) .none kV10 dc10 pm10 an10 cd10 ct10),sl10⟩)
  (c10:W.codeIn K cd10 "_law_table"=true)
  (k10:W.keepIn K (.ref f10)=true)
  (a11:W.nsIn K mainGlobals "_law_marks"=some (some (.ref f11)))
  (l11:K.lookup f11=some ⟨oc11,od11,.func (W.fnOf "_law_marks" "_law_marks" (j4 yN) (jW yN) (jJ yN) .none kV11 dc11 pm11 an11 cd11 ct11),sl11⟩)
  (c11:W.codeIn K cd11 "_law_marks"=true)
  (k11:W.keepIn K (.ref f11)=true)
  (a12:W.nsIn K mainGlobals "_law_behind"=some (some (.ref f12)))
  (l12:K.lookup f12=some ⟨oc12,od12,.func (W.fnOf "_law_behind" "_law_behind" (j4 yH) (jW yH) (jJ yH) .none kV12 dc12 pm12 an12 cd12 ct12),sl12⟩)
  (c12:W.codeIn K cd12 "_law_behind"=true)
  (k12:W.keepIn K (.ref f12)=true)
  (a13:W.nsIn K mainGlobals "_law_layers"=some (some (.ref f13)))
  (l13:K.lookup f13=some ⟨oc13,od13,.func (W.fnOf "_law_layers" "_law_layers" (j4 v8) (jW v8) (jJ v8) .none kV13 dc13 pm13 an13 cd13 ct13),sl13⟩)
  (c13:W.codeIn K cd13 "_law_layers"=true)
  (k13:W.keepIn K (.ref f13)=true)
  (a14:W.nsIn K mainGlobals "_law_told"=some (some (.ref f14)))
  (l14:K.lookup f14=some ⟨oc14,od14,.func (W.fnOf "_law_told" "_law_told" (j4 yP) (jW yP) (jJ yP) .none kV14 dc14 pm14 an14 cd14 ct14),sl14⟩)
  (c14:W.codeIn K cd14 "_law_told"=true)
  (k14:W.keepIn K (.ref f14)=true)
  (a15:W.nsIn K mainGlobals "law"=some (some (.ref f15)))
  (l15:K.lookup f15=some ⟨oc15,od15,.func (W.fnOf "law" "law" (j4 qN) (jW qN) (jJ qN) .none kV15 dc15 pm15 an15 cd15 ct15),sl15⟩)
  (c15:W.codeIn K cd15 "law"=true)
  (k15:W.keepIn K (.ref f15)=true)
  (z_list:W.nsIn K mainGlobals "list"=some none)
  (z_reversed:W.nsIn K mainGlobals "reversed"=some none)
  (z_len:W.nsIn K mainGlobals "len"=some none)
  (z_str:W.nsIn K mainGlobals "str"=some none)
  (z_range:W.nsIn K mainGlobals "range"=some none)
  (z_isinstance:W.nsIn K mainGlobals "isinstance"=some none)
  (z_ValueError:W.nsIn K mainGlobals "ValueError"=some none)
  (z_sum:W.nsIn K mainGlobals "sum"=some none)
  (z_int:W.nsIn K mainGlobals "int"=some none)
  (z_max:W.nsIn K mainGlobals "max"=some none)
  (xX_TooWide:W.excIn K eW [.type "ValueError",.type "Exception",.type "BaseException",.type "object"] "ValueError.__new__"=true)
  (eg_:W.findIn K (.ref eW) "__getattribute__"=some (some (.builtin "BaseException.__getattribute__")))
  (en_:W.findIn K (.ref eW) "__getattr__"=some none)
  (ec_:W.findIn K (.ref eW) "__class__"=some (some (.builtin "object.__class__")))
  (eo_:W.mroIn K eW (.type "object")=some true)
  (eb_:W.subIn K (.ref eW) (.type "BaseException")=some true)
  (clB_:W.clsIn K eW=some cd_eW)
  (exm_:W.exmOne K (.ref eW) (.ref eC)=some true)
  (kit_M:W.kitOne K (.ref eW) (.ref eM)=some false)
  (kit_D:W.kitOne K (.ref eW) (.ref eD)=some false)
  (kit_T:W.kitOne K (.ref eW) (.ref eT)=some false)
  (kit_S:W.kitOne K (.ref eW) (.ref eS)=some false)
  (kit_N:W.kitOne K (.ref eW) (.ref eN)=some false)
  (kit_W:W.kitOne K (.ref eW) (.ref eW)=some true)
  (kit_V:W.kitOne K (.ref eW) (.type "ValueError")=some true)
  (ht:W.tabIn K "law"=some (cL,tL)) :
  ∃fd:FuncData,(∀(s:Shared) (v:Value),BindsTo s fd ⟨[v],[]⟩ [("_law_script",v)])∧∀base:Heap,K.In base→base.Ns mainGlobals mg→W.CodeHd base cL tL→base.BuiltinsAt mg tL→PySem.mainGlobals≠tL→FnOk l.prog w K mg base j0 10 fa fd ["_law_script"] (J9 tL K):=by
 have e:=hfa.symm.trans (W.mg_of X G a15)
 cases e
 have F2:=qH (st:=yQ) l2 c2 k2
 have b2:=F2.binds (ps:=["layer","ahead","came"]) fun _ _ _ _ _ _ us hl=>match us,hl with|[_,_,_],_=>rfl
 have F3:=qH (st:=yR) l3 c3 k3
 have b3:=F3.binds (ps:=["came","state"]) fun _ _ _ _ _ _ us hl=>match us,hl with|[_,_],_=>rfl
 have F4:=qH (st:=v9) l4 c4 k4
 have b4:=F4.binds (ps:=["first","ahead","ended","most"]) fun _ _ _ _ _ _ us hl=>match us,hl with|[_,_,_,_],_=>rfl
 have F5:=qH (st:=yI) l5 c5 k5
 have b5:=F5.binds (ps:=["_law_script","_law_k"]) fun _ _ _ _ _ _ us hl=>match us,hl with|[_,_],_=>rfl
 have F6:=qH (st:=yL) l6 c6 k6
 have b6:=F6.binds (ps:=["_law_mode","_law_v"]) fun _ _ _ _ _ _ us hl=>match us,hl with|[_,_],_=>rfl
 have F7:=qH (st:=yJ) l7 c7 k7
 have b7:=F7.binds (ps:=["_law_mode","_law_j"]) fun _ _ _ _ _ _ us hl=>match us,hl with|[_,_],_=>rfl
 have F8:=qH (st:=yK) l8 c8 k8
 have b8:=F8.binds (ps:=["_law_table_here","_law_mode","_law_v","_law_w"]) fun _ _ _ _ _ _ us hl=>match us,hl with|[_,_,_,_],_=>rfl
 have F9:=qH (st:=yM) l9 c9 k9
 have b9:=F9.binds (ps:=["_law_cell"]) fun _ _ _ _ _ _ us hl=>match us,hl with|[_],_=>rfl
 have F10:=qH (st:=yO) l10 c10 k10
 have b10:=F10.binds (ps:=["_law_script","_law_mode","_law_many_here"]) fun _ _ _ _ _ _ us hl=>match us,hl with|[_,_,_],_=>rfl
 have F11:=qH (st:=yN) l11 c11 k11
 have b11:=F11.binds (ps:=["_law_cell","_law_mode","_law_many_here"]) fun _ _ _ _ _ _ us hl=>match us,hl with|[_,_,_],_=>rfl
 have F12:=qH (st:=yH) l12 c12 k12
 have b12:=F12.binds (ps:=["_law_layer","_law_table_here"]) fun _ _ _ _ _ _ us hl=>match us,hl with|[_,_],_=>rfl
 have F13:=qH (st:=v8) l13 c13 k13
 have b13:=F13.binds (ps:=["_law_first","_law_table_here","_law_marks_here"]) fun _ _ _ _ _ _ us hl=>match us,hl with|[_,_,_],_=>rfl
 have F14:=qH (st:=yP) l14 c14 k14
 have b14:=F14.binds (ps:=["_law_first","_law_ahead","_law_ended","_law_most"]) fun _ _ _ _ _ _ us hl=>match us,hl with|[_,_,_,_],_=>rfl
 have F15:=qH (st:=qN) l15 c15 k15
 have b15:=F15.binds (ps:=["_law_script"]) fun _ _ _ _ _ _ us hl=>match us,hl with|[_],_=>rfl
 have T:Txt K mg eC eW eM eD eT eS eN:={z_list:=W.mg_none_of X G z_list,z_reversed:=W.mg_none_of X G z_reversed,z_len:=W.mg_none_of X G z_len,z_str:=W.mg_none_of X G z_str,z_range:=W.mg_none_of X G z_range,z_isinstance:=W.mg_none_of X G z_isinstance,z_ValueError:=W.mg_none_of X G z_ValueError,z_sum:=W.mg_none_of X G z_sum,z_int:=W.mg_none_of X G z_int,z_max:=W.mg_none_of X G z_max,c_CanalError:=W.mg_of X G aX_CanalError,c_TooWide:=W.mg_of X G aX_TooWide,c_TooMany:=W.mg_of X G aX_TooMany,c_TooDry:=W.mg_of X G aX_TooDry,c_Torn:=W.mg_of X G aX_Torn,c_Short:=W.mg_of X G aX_Short,c_NotNow:=W.mg_of X G aX_NotNow,x_TooWide:=xX_TooWide,at_:=⟨eg_,en_,ec_,eo_,eb_⟩,cl:=by rw [clB_];rfl,exm:=exm_,k_M:=kit_M,k_D:=kit_D,k_T:=kit_T,k_S:=kit_S,k_N:=kit_N,k_W:=kit_W,k_V:=kit_V}
 refine ⟨W.fnOf "law" "law" (j4 qN) (jW qN) (jJ qN) .none kV15 dc15 pm15 an15 cd15 ct15,fun s v=>.of_eq rfl,fun base _ _ hC hB hgT=>?_⟩
 have hcL:=W.law_code X G ht hfa (X _ _ l15) rfl
 have V0:=eR (P:=l.prog) (w:=w) (base:=base) T
 have V1:=eU (P:=l.prog) (w:=w) (base:=base) T
 have D2:Def l.prog w K mg base 5 "next_layer" _ [] _:=⟨_,_,[],fI F2 T V0,W.mg_of X G a2,k2,.nil,b2⟩
 have D3:Def l.prog w K mg base 2 "row_to" _ [] _:=⟨_,_,[],fJ F3 T,W.mg_of X G a3,k3,.nil,b3⟩
 have G4:=fH (P:=l.prog) (w:=w) (base:=base) F4 T V1 D3 D2
 have GX4:=G4
 have DX4:DefX l.prog w K mg base 7 "layered" _ [] _:=⟨_,_,[],GX4,W.mg_of X G a4,k4,.nil,b4⟩
 have D5:Def l.prog w K mg base 1 "_law_cell_at" _ [] _:=⟨_,_,[],eX F5 T,W.mg_of X G a5,k5,.nil,b5⟩
 have D6:Def l.prog w K mg base 2 "_law_label" _ [] _:=⟨_,_,[],fA F6 T,W.mg_of X G a6,k6,.nil,b6⟩
 have D7:Def l.prog w K mg base 2 "_law_deed" _ [] _:=⟨_,_,[],eY F7 T,W.mg_of X G a7,k7,.nil,b7⟩
 have D8:Def l.prog w K mg base 4 "_law_joined" _ [] _:=⟨_,_,[],eZ F8 T D6 D7,W.mg_of X G a8,k8,.nil,b8⟩
 have D9:Def l.prog w K mg base 1 "_law_many" _ [] _:=⟨_,_,[],fC F9 T,W.mg_of X G a9,k9,.nil,b9⟩
 have D10:Def l.prog w K mg base 6 "_law_table" _ [] _:=⟨_,_,[],fE F10 T D6 D5 D8,W.mg_of X G a10,k10,.nil,b10⟩
 have D11:Def l.prog w K mg base 4 "_law_marks" _ [] _:=⟨_,_,[],fD F11 T D6,W.mg_of X G a11,k11,.nil,b11⟩
 have D12:Def l.prog w K mg base 2 "_law_behind" _ [] _:=⟨_,_,[],eV F12 T,W.mg_of X G a12,k12,.nil,b12⟩
 have D13:Def l.prog w K mg base 4 "_law_layers" _ [] _:=⟨_,_,[],fB F13 T D12,W.mg_of X G a13,k13,.nil,b13⟩
 have D14:Def l.prog w K mg base 8 "_law_told" _ [] _:=⟨_,_,[],fF F14 T DX4,W.mg_of X G a14,k14,.nil,b14⟩
 have G15:=fG (P:=l.prog) (w:=w) (base:=base) F15 T hcL hC hB hgT D9 D5 D6 D10 D11 D13 D14
 exact G15
theorem tabIn_mk {K:W.Frag} {x:Str} {f c P:Addr} {oc oc2:Value} {od od2:Option Addr} {fd:FuncData} {sl sl2:Array (Option Value)} {vs:Array Value} (h1:W.nsIn K mainGlobals x=some (some (.ref f))) (h2:K.lookup f=some ⟨oc,od,.func fd,sl⟩) (h3:fd.code=.ref c) (h4:K.lookup c=some ⟨oc2,od2,.fields vs,sl2⟩) (h5:(vs[11]?:Option Value)=some (.ref P)):W.tabIn K x=some (c,P):=by
 unfold W.tabIn
 simp only [h1,h2,h3,h4,h5]
theorem walk {l:W.OpenLaw} {q:Program} {loose:List Str} {XP:(Str→Option Value)→Heap→Prop} {YP:World→Heap→Prop} {d:DefRec} {K:Params→W.Frag} {cL tL:Addr} (hn:l.most=some 63) (hdf:d.params.defaults=[])
  (hrec:(PyProof.Rows.recsOf q).find? (fun e=>e.name == d.name)=some d) (htab:∀P:Params,W.tabIn (K P) d.name=some (cL,tL)) (hno:∀P:Params,W.noTabs (K P)=true)
  (hY:∀(w:World) (h:Heap),YP w h→(K w.params).In h)
  (F:∀(w:World) (mg:Str→Option Value) (fa:Addr) (h:Heap),(K w.params).In h→h.Ns mainGlobals mg→mg d.name=some (.ref fa)→
   ∃fd:FuncData,(∀(s:Shared) (u:Value),BindsTo s fd ⟨[u],[]⟩ [("_law_script",u)])∧∀base:Heap,(K w.params).In base→base.Ns mainGlobals mg→W.CodeHd base cL tL→base.BuiltinsAt mg tL→PySem.mainGlobals≠tL→FnOk l.prog w (K w.params) mg base j0 10 fa fd ["_law_script"] (J9 tL (K w.params))) :
  W.WalkO q loose XP YP l.row.toRowW d [] (fun f vs=>PySem.call f vs) :=
 L2.walk_ofT (n:=63) (k:=10) (x:="_law_script") (CX:=fun _=>j0) (sp:=fun w tL=>J9 tL (K w.params)) hn (by decide) hdf ⟨rfl,by decide,by decide⟩ hrec htab hno hY F (fun _ _ a ns hl hO hS=>⟨a,ns,rfl,hS,hl,hO.1,fun _=>rfl⟩) fun _ _ _ _ _ z=>z
end My
open PySem PySem.W PyProof.Rows
set_option maxRecDepth 100000 in
set_option maxHeartbeats 0 in
theorem PySem.Challenge.cw_lockhouse_k55_too_wide_holds : PySem.Challenge.rw_lockhouse_k55_too_wide.Holds := by
 w_on;o_law;k_head;(case hw=>w_witness2)
 k_fill
 refine' My.walk (l:=PySem.Challenge.rw_lockhouse_k55_too_wide) rfl rfl ?rec ?tab ?no (fun w h Y=>PySem.W.km_in_of Y) ?F
 case tab =>
  intro P
  refine' My.tabIn_mk ?t1 ?t2 ?t3 ?t4 ?t5
  (case t1=>k_is)
  (case t2=>k_is)
  (case t3=>rfl)
  (case t4=>k_is)
  (case t5=>rfl)
 case rec=>kernel_rfl
 case no=>intro P;kernel_rfl
 case F =>
  intro w mg fa h KX G hmg
  refine' My.all_mk KX G hmg ?aX_CanalError ?aX_TooWide ?aX_TooMany ?aX_TooDry ?aX_Torn ?aX_Short ?aX_NotNow ?a2 ?l2 ?c2 ?k2 ?a3 ?l3 ?c3 ?k3 ?a4 ?l4 ?c4 ?k4 ?a5 ?l5 ?c5 ?k5 ?a6 ?l6 ?c6 ?k6 ?a7 ?l7 ?c7 ?k7 ?a8 ?l8 ?c8 ?k8 ?a9 ?l9 ?c9 ?k9 ?a10 ?l10 ?c10 ?k10 ?a11 ?l11 ?c11 ?k11 ?a12 ?l12 ?c12 ?k12 ?a13 ?l13 ?c13 ?k13 ?a14 ?l14 ?c14 ?k14 ?a15 ?l15 ?c15 ?k15 ?z_list ?z_reversed ?z_len ?z_str ?z_range ?z_isinstance ?z_ValueError ?z_sum ?z_int ?z_max ?xX_TooWide ?eg_ ?en_ ?ec_ ?eo_ ?eb_ ?clB_ ?exm_ ?kit_M ?kit_D ?kit_T ?kit_S ?kit_N ?kit_W ?kit_V ?ht
  (case aX_CanalError=>first|k_is|rfl)
  (case aX_TooWide=>first|k_is|rfl)
  (case aX_TooMany=>first|k_is|rfl)
  (case aX_TooDry=>first|k_is|rfl)
  (case aX_Torn=>first|k_is|rfl)
  (case aX_Short=>first|k_is|rfl)
  (case aX_NotNow=>first|k_is|rfl)
  (case a2=>first|k_is|rfl)
  (case l2=>first|k_is|rfl)
  (case c2=>first|k_is|rfl)
  (case k2=>first|k_is|rfl)
  (case a3=>first|k_is|rfl)
  (case l3=>first|k_is|rfl)
  (case c3=>first|k_is|rfl)
  (case k3=>first|k_is|rfl)
  (case a4=>first|k_is|rfl)
  (case l4=>first|k_is|rfl)
  (case c4=>first|k_is|rfl)
  (case k4=>first|k_is|rfl)
  (case a5=>first|k_is|rfl)
  (case l5=>first|k_is|rfl)
  (case c5=>first|k_is|rfl)
  (case k5=>first|k_is|rfl)
  (case a6=>first|k_is|rfl)
  (case l6=>first|k_is|rfl)
  (case c6=>first|k_is|rfl)
  (case k6=>first|k_is|rfl)
  (case a7=>first|k_is|rfl)
  (case l7=>first|k_is|rfl)
  (case c7=>first|k_is|rfl)
  (case k7=>first|k_is|rfl)
  (case a8=>first|k_is|rfl)
  (case l8=>first|k_is|rfl)
  (case c8=>first|k_is|rfl)
  (case k8=>first|k_is|rfl)
  (case a9=>first|k_is|rfl)
  (case l9=>first|k_is|rfl)
  (case c9=>first|k_is|rfl)
  (case k9=>first|k_is|rfl)
  (case a10=>first|k_is|rfl)
  (case l10=>first|k_is|rfl)
  (case c10=>first|k_is|rfl)
  (case k10=>first|k_is|rfl)
  (case a11=>first|k_is|rfl)
  (case l11=>first|k_is|rfl)
  (case c11=>first|k_is|rfl)
  (case k11=>first|k_is|rfl)
  (case a12=>first|k_is|rfl)
  (case l12=>first|k_is|rfl)
  (case c12=>first|k_is|rfl)
  (case k12=>first|k_is|rfl)
  (case a13=>first|k_is|rfl)
  (case l13=>first|k_is|rfl)
  (case c13=>first|k_is|rfl)
  (case k13=>first|k_is|rfl)
  (case a14=>first|k_is|rfl)
  (case l14=>first|k_is|rfl)
  (case c14=>first|k_is|rfl)
  (case k14=>first|k_is|rfl)
  (case a15=>first|k_is|rfl)
  (case l15=>first|k_is|rfl)
  (case c15=>first|k_is|rfl)
  (case k15=>first|k_is|rfl)
  (case z_list=>first|k_is|rfl)
  (case z_reversed=>first|k_is|rfl)
  (case z_len=>first|k_is|rfl)
  (case z_str=>first|k_is|rfl)
  (case z_range=>first|k_is|rfl)
  (case z_isinstance=>first|k_is|rfl)
  (case z_ValueError=>first|k_is|rfl)
  (case z_sum=>first|k_is|rfl)
  (case z_int=>first|k_is|rfl)
  (case z_max=>first|k_is|rfl)
  (case xX_TooWide=>first|k_is|k_exc|kit_is|kts_exm|rfl)
  (case eg_=>first|k_is|rfl)
  (case en_=>first|k_is|rfl)
  (case ec_=>first|k_is|rfl)
  (case eo_=>first|k_is|rfl)
  (case eb_=>first|k_is|rfl)
  (case clB_=>first|k_is|rfl)
  (case exm_=>first|k_is|k_exc|kit_is|kts_exm|rfl)
  (case kit_M=>first|k_is|k_exc|kit_is|kts_exm|rfl)
  (case kit_D=>first|k_is|k_exc|kit_is|kts_exm|rfl)
  (case kit_T=>first|k_is|k_exc|kit_is|kts_exm|rfl)
  (case kit_S=>first|k_is|k_exc|kit_is|kts_exm|rfl)
  (case kit_N=>first|k_is|k_exc|kit_is|kts_exm|rfl)
  (case kit_W=>first|k_is|k_exc|kit_is|kts_exm|rfl)
  (case kit_V=>first|k_is|k_exc|kit_is|kts_exm|rfl)
  (case ht=>kernel_rfl)
