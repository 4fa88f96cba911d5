import PyProof.Rows.All
import Wide.All
import OpenK.AllK
import Wide.FinOn
import Lean
import PyProof.EqAt
import PyProof.EqKinds
import PyProof.TupleCall
import PyProof.NeKinds
import OpenK.KOwn
import KE.KTryMore
import KE.RegKTryMore
import PyProof.NsDelKeeps
import KE.KIntText
import PySem.Challenge.RW_lockhouse_k37_the_first_bad_row
set_option Elab.async false
set_option linter.all false
set_option maxRecDepth 100000
namespace L2
open PySem PySem.Spec PyProof.Rows
abbrev vZ:=Sum Int Str
def AI:vZ→Value→Bool
 |.inl k,v=>Value.isInt k v
 |.inr x,v=>Value.isStrOf x v
def ON (w:World):vZ→Int
 |.inl k=>hashInt k
 |.inr x=>hashStr w x
theorem J4:∀{k:vZ} {v:Value},AI k v=true→(∃i t,k=Sum.inl i∧v=Value.int i t)∨(∃x t,k=Sum.inr x∧v=Value.str x t)
 |.inl i,v,h=>by
  obtain ⟨t,e⟩:=Value.isInt_shape (k:=i) (v:=v) h;exact .inl ⟨i,t,rfl,e⟩
 |.inr x,v,h=>by
  obtain ⟨t,e⟩:=Value.isStrOf_shape (x:=x) (v:=v) h;exact .inr ⟨x,t,rfl,e⟩
theorem M8 (a b:Int):decide ((Sum.inl a:vZ)=Sum.inl b)=(a == b):=by
 by_cases e:a=b
 ·subst e;simp
 ·have h:¬(Sum.inl a:vZ)=Sum.inl b:=fun q=>e (Sum.inl.inj q)
  rw [decide_eq_false h];exact (beq_eq_false_iff_ne.mpr e).symm
theorem M5 (a b:Str):decide ((Sum.inr a:vZ)=Sum.inr b)=decide (a=b):=by
 by_cases e:a=b
 ·subst e;simp
 ·have h:¬(Sum.inr a:vZ)=Sum.inr b:=fun q=>e (Sum.inr.inj q)
  rw [decide_eq_false h,decide_eq_false e]
theorem M7 (a:Int) (b:Str):decide ((Sum.inl a:vZ)=Sum.inr b)=false:=decide_eq_false (fun q=>nomatch q)
theorem M6 (a:Str) (b:Int):decide ((Sum.inr a:vZ)=Sum.inl b)=false:=decide_eq_false (fun q=>nomatch q)
def oO (prog:Program) (w:World):PySem.KeyKind prog w vZ where
 is:=AI
 hash:=ON w
 inj:=fun v a b ha hb=>by
  rcases J4 ha with ⟨i,t,rfl,rfl⟩|⟨x,t,rfl,rfl⟩
  ·rcases J4 hb with ⟨j,u,rfl,e⟩|⟨y,u,rfl,e⟩
   ·injection e with e1 _;rw [e1]
   ·exact nomatch e
  ·rcases J4 hb with ⟨j,u,rfl,e⟩|⟨y,u,rfl,e⟩
   ·exact nomatch e
   ·injection e with e1 _;rw [e1]
 byValue:=fun k v h=>by
  rcases J4 h with ⟨i,t,rfl,rfl⟩|⟨x,t,rfl,rfl⟩<;>rfl
 pyHash:=fun hv h=>by
  rcases J4 hv with ⟨i,t,rfl,rfl⟩|⟨x,t,rfl,rfl⟩
  ·exact wpAny_pyHash_int h
  ·exact wpAny_pyHash_str h
 eqBool:=fun hu hv h=>by
  rcases J4 hu with ⟨i,t,rfl,rfl⟩|⟨x,t,rfl,rfl⟩
  ·rcases J4 hv with ⟨j,u,rfl,rfl⟩|⟨y,u,rfl,rfl⟩
   ·rw [M8] at h;exact wpAny_eqBool_int h
   ·rw [M7] at h;exact SeqAt.EqAt.int_str i t y u _ _ _ _ h
  ·rcases J4 hv with ⟨j,u,rfl,rfl⟩|⟨y,u,rfl,rfl⟩
   ·rw [M6] at h;exact SeqAt.EqAt.str_int x t j u _ _ _ _ h
   ·rw [M5] at h;exact wpAny_eqBool_str h
 «strs»:=fun k x t v h=>by
  rcases J4 h with ⟨i,u,rfl,e⟩|⟨y,u,rfl,e⟩
  ·exact nomatch e
  ·injection e with e1 _
   subst e1;cases v<;>rfl
end L2
namespace L2
open PySem PySem.Spec PyProof.Rows
inductive V where
 |non|bl (b:Bool)|int (i:Int)|str (x:Str)|byt (b:Array UInt8)|flt (b:UInt64)|ref (a:Addr)|ty (n:String)
 deriving DecidableEq
def RelV:V→Value→Prop
 |.non,u=>u=Value.none
 |.bl b,u=>u=Value.bool b
 |.int i,u=>∃t,u=Value.int i t
 |.str x,u=>∃t,u=Value.str x t
 |.byt b,u=>∃t,u=Value.bytes b t
 |.flt b,u=>∃t,u=Value.float b t
 |.ref a,u=>u=Value.ref a
 |.ty n,u=>u=Value.type n
abbrev Vals:List V→List Value→Prop:=Paired RelV
theorem Vals.length {xs:List V} {us:List Value} (r:Vals xs us):xs.length=us.length:=Paired.length r
theorem Vals.get:∀{xs:List V} {us:List Value} {i:Nat} {x:V},Vals xs us→xs[i]?=some x→∃u,us[i]?=some u∧RelV x u
 |_,_,_,_,.nil,e=>by simp at e
 |_,_,0,_,.cons r _,e=>by simp at e;subst e;exact ⟨_,rfl,r⟩
 |_,_,i+1,x,.cons _ t,e=>by
  obtain ⟨u,h1,h2⟩:=Vals.get (i:=i) (x:=x) t (by simpa using e);exact ⟨u,by simpa using h1,h2⟩
theorem Vals.set {x:V} {u:Value} (r:RelV x u):∀{xs:List V} {us:List Value} (i:Nat),Vals xs us→Vals (xs.set i x) (us.set i u)
 |_,_,_,.nil=>.nil
 |_,_,0,.cons _ t=>.cons r t
 |_,_,i+1,.cons q t=>.cons q (Vals.set r i t)
theorem Vals.append:∀{xs ys:List V} {us ws:List Value},Vals xs us→Vals ys ws→Vals (xs++ys) (us++ws)
 |_,_,_,_,.nil,s=>s
 |_,_,_,_,.cons r t,s=>.cons r (Vals.append t s)
theorem Vals.take:∀{xs:List V} {us:List Value} (n:Nat),Vals xs us→Vals (xs.take n) (us.take n)
 |_,_,0,_=>.nil
 |_,_,_+1,.nil=>.nil
 |_,_,n+1,.cons r t=>.cons r (Vals.take n t)
theorem Vals.drop:∀{xs:List V} {us:List Value} (n:Nat),Vals xs us→Vals (xs.drop n) (us.drop n)
 |_,_,0,r=>r
 |_,_,_+1,.nil=>.nil
 |_,_,n+1,.cons _ t=>Vals.drop n t
def RelO:Option V→Option Value→Prop
 |some v,some u=>RelV v u
 |none,none=>True
 |_,_=>False
def KV {κ:Type}:List (κ×V)→List (κ×Value)→Prop:=Paired fun (p:κ×V) (q:κ×Value)=>p.1=q.1∧RelV p.2 q.2
def kV:vZ→V
 |.inl i=>.int i
 |.inr x=>.str x
inductive HO where
 /-- a list -/
 |lst (xs:List V)
 /-- a tuple (never changes) -/
 |tup (xs:List V)
 /-- a dict whose keys are ints and texts;one whose keys are tuples of ints and texts (the empty one is both) -/
 |dK (kvs:List (vZ×V))|dT (kvs:List (List vZ×V))
 /-- a set of ints: its members,its size -/
 |set (S:Int→Bool) (n:Nat)
 /-- an instance of the class at C,its dict at dx,its attributes -/
 |ins (C dx:Addr) (fs:List (Str×V))
 /-- the dict of the instance at x -/
 |own (x:Addr)
 /-- the dict of an exception -/
 |xd (fs:List (Str×V))
 /-- a bound method,f of x -/
 |met (f x:Addr)
 /-- a range object lo,lo+1,.. below hi -/
 |rng (lo hi:Int)
 /-- a thing that is known to the object (the script;a dict while a loop walks it): read,never written while it is so -/
 |frz (o:Obj) (u:HO)
 /-- a code object's table -/
 |tbl (ps:Array Value)
 /-- any other thing,by what is true of its one object (a def of one's own: SetO a S n:=HO.ext fun h=>..) -/
 |ext (φ:Heap→Prop)
abbrev Hp:=Addr→Option HO
def upd (H:Hp) (a:Addr) (o:HO):Hp:=fun b=>if b=a then some o else H b
theorem jD {H:Hp} {a:Addr} {o:HO}:upd H a o a=some o:=by unfold upd;rw [if_pos rfl]
theorem j9 {H:Hp} {a b:Addr} {o:HO} (h:b≠a):upd H a o b=H b:=by unfold upd;rw [if_neg h]
theorem eF {H:Hp} {a b:Addr} {o u:HO} (h:H a=some o) (h':H b=some u) (d:o≠u):a≠b:=by
 intro e;subst e;rw [h] at h';exact d (Option.some.inj h')
theorem jW {H:Hp} {a b:Addr} {o:HO} (h:H a=some o) (h':H b=none):a≠b:=by
 intro e;subst e;rw [h] at h';cases h'
section
variable (P:Program) (w:World)
def ObjOk (H:Hp) (h:Heap) (a:Addr):HO→Prop
 |.lst xs=>xs.length≤sizeLine∧∃(its:List Value) (n:Nat),Vals xs its∧h.get? a=some {cls:=.type "list",data:=.seq its.toArray n}
 |.tup xs=>xs.length≤sizeLine∧∃its:List Value,Vals xs its∧IsTup h a its.toArray
 |.dK kvs=>kvs.length≤sizeLine∧(a == sysModules)=false∧∃vs,KV kvs vs∧h.DictOf (oO P w) a vs
 |.dT kvs=>kvs.length≤sizeLine∧(a == sysModules)=false∧∃xs:List (List vZ×Addr×Value),
   Paired (fun (p:List vZ×V) (q:List vZ×Addr×Value)=>p.1=q.1∧H q.2.1=some (.tup (p.1.map kV))∧RelV p.2 q.2.2) kvs xs∧
   ∃o es ep,h.get? a=some o∧o.ExactDict∧o.data=.dict es ep∧es.toList=xs.map (entryOfKey (tupleKind (oO P w)))∧(xs.map (·.1)).Nodup
 |.set S n=>h.SetOf (intKind P w) a S n
 |.ins C dx fs=>H dx=some (.own a)∧fs.length≤1000∧dx≠a∧h.get? a=some (PySem.W.instObj C dx)∧
   ∃mA,h.Ns1 dx mA∧(∀f,RelO (fs.lookup f) (mA f))∧PySem.Within mA (fs.map (·.1))
 |.own _=>∃o,h.get? a=some o
 |.xd fs=>∃mA,h.Ns1 a mA∧∀f,RelO (fs.lookup f) (mA f)
 |.rng lo hi=>∃t u v,h.get? a=some {cls:=.type "range",data:=.fields #[.int lo t,.int hi u,.int 1 v]}
 |.frz o u=>h.get? a=some o∧ObjOk H h a u
 |.tbl ps=>h.get? a=some {cls:=.none,data:=.fields ps}
 |.met f x=>h.get? a=some (PySem.W.methodObj (.ref f) (.ref x))
 |.ext φ=>φ h∧(∃o,h.get? a=some o)∧∀h1 h2:Heap,φ h1→(∀o,h1.get? a=some o→h2.get? a=some o)→φ h2
def HOk (H:Hp) (h:Heap):Prop:=∀a o,H a=some o→ObjOk P w H h a o
end
section
variable {P:Program} {w:World} {H H':Hp} {h h':Heap} {a:Addr} {o:HO}
theorem ObjOk.lt (x:ObjOk P w H h a o):a<h.objs.size:=by
 cases o with
 |lst xs=>obtain ⟨_,_,_,_,e⟩:=x;exact Heap.lt_size e
 |tup xs=>obtain ⟨_,_,_,p⟩:=x;exact p.lt
 |dK kvs=>obtain ⟨_,_,_,_,o,_,_,e,_⟩:=x;exact Heap.lt_size e
 |dT kvs=>obtain ⟨_,_,_,_,o,_,_,e,_⟩:=x;exact Heap.lt_size e
 |set S n=>obtain ⟨o,_,_,_,e,_⟩:=x;exact Heap.lt_size e
 |ins C dx fs=>obtain ⟨_,_,_,e,_⟩:=x;exact Heap.lt_size e
 |own y=>obtain ⟨_,e⟩:=x;exact Heap.lt_size e
 |xd fs=>obtain ⟨_,⟨_,_,_,e,_⟩,_⟩:=x;exact Heap.lt_size e
 |rng lo hi=>obtain ⟨_,_,_,e⟩:=x;exact Heap.lt_size e
 |frz ob u=>obtain ⟨e,_⟩:=x;exact Heap.lt_size e
 |tbl ps=>exact Heap.lt_size (show h.get? a=some _ from x)
 |met f y=>exact Heap.lt_size (show h.get? a=some _ from x)
 |ext φ=>obtain ⟨_,⟨_,e⟩,_⟩:=x;exact Heap.lt_size e
theorem Paired.mapP {α β:Type} {F G:α→β→Prop}:∀{l₁:List α} {l₂:List β},Paired F l₁ l₂→(∀a b,F a b→G a b)→Paired G l₁ l₂
 |_,_,.nil,_=>.nil
 |_,_,.cons r t,f=>.cons (f _ _ r) (Paired.mapP t f)
theorem ObjOk.stay (x:ObjOk P w H h a o) (k:∀b u,(b=a∨H b=some (.own a))→h.get? b=some u→h'.get? b=some u)
  (ho:∀b,H b=some (.own a)→H' b=some (.own a)) (ht:∀b xs,H b=some (.tup xs)→H' b=some (.tup xs)):ObjOk P w H' h' a o:=by
 induction o with
 |lst xs=>obtain ⟨z,its,n,r,e⟩:=x;exact ⟨z,its,n,r,k _ _ (.inl rfl) e⟩
 |tup xs=>obtain ⟨z,its,r,ob,e,c⟩:=x;exact ⟨z,its,r,ob,k _ _ (.inl rfl) e,c⟩
 |dK kvs=>obtain ⟨z,y,vs,r,ob,es,ep,e,c⟩:=x;exact ⟨z,y,vs,r,ob,es,ep,k _ _ (.inl rfl) e,c⟩
 |dT kvs =>
  obtain ⟨z,y,xs,r,ob,es,ep,e,c⟩:=x;exact ⟨z,y,xs,Paired.mapP r fun p q z=>⟨z.1,ht _ _ z.2.1,z.2.2⟩,ob,es,ep,k _ _ (.inl rfl) e,c⟩
 |set S n=>obtain ⟨ob,es,ep,t,e,c⟩:=x;exact ⟨ob,es,ep,t,k _ _ (.inl rfl) e,c⟩
 |ins C dx fs =>
  obtain ⟨d,z,ne,e,mA,⟨od,es,ep,e2,c⟩,r⟩:=x;exact ⟨ho _ d,z,ne,k _ _ (.inl rfl) e,mA,⟨od,es,ep,k _ _ (.inr d) e2,c⟩,r⟩
 |own y=>obtain ⟨ob,e⟩:=x;exact ⟨ob,k _ _ (.inl rfl) e⟩
 |xd fs=>obtain ⟨mA,⟨od,es,ep,e,c⟩,r⟩:=x;exact ⟨mA,⟨od,es,ep,k _ _ (.inl rfl) e,c⟩,r⟩
 |rng lo hi=>obtain ⟨t,u,v,e⟩:=x;exact ⟨t,u,v,k _ _ (.inl rfl) e⟩
 |frz ob u ih=>obtain ⟨e,q⟩:=x;exact ⟨k _ _ (.inl rfl) e,ih q⟩
 |tbl ps =>
  have e:h.get? a=some {cls:=.none,data:=.fields ps}:=x;show h'.get? a=some {cls:=.none,data:=.fields ps};exact k a _ (.inl rfl) e
 |met f y =>
  have e:h.get? a=some (PySem.W.methodObj (.ref f) (.ref y)):=x;show h'.get? a=some (PySem.W.methodObj (.ref f) (.ref y));exact k a _ (.inl rfl) e
 |ext φ=>obtain ⟨p,⟨o,e⟩,st⟩:=x;exact ⟨st _ _ p fun o q=>k _ _ (.inl rfl) q,⟨o,k _ _ (.inl rfl) e⟩,st⟩
theorem HOk.lt (x:HOk P w H h) (e:H a=some o):a<h.objs.size:=(x a o e).lt
theorem HOk.fresh (x:HOk P w H h) (e:h.objs.size≤a):H a=none:=by
 cases q:H a with
 |none=>rfl
 |some u=>exact absurd (Nat.lt_of_lt_of_le (x.lt q) e) (Nat.lt_irrefl _)
theorem HOk.kept (x:HOk P w H h) (k:∀b u,h.get? b=some u→h'.get? b=some u):HOk P w H h':=fun a o e =>
 (x a o e).stay (fun b u _ q=>k b u q) (fun _ q=>q) fun _ _ q=>q
theorem HOk.laid (x:HOk P w H h) (k:∀b u,h.get? b=some u→h'.get? b=some u) (hp:h.objs.size≤a) (new:ObjOk P w (upd H a o) h' a o):HOk P w (upd H a o) h':=fun b u e=>by
 have hn:=x.fresh hp
 by_cases hb:b=a
 ·subst hb;rw [jD] at e;cases e;exact new
 ·rw [j9 hb] at e;exact (x b u e).stay (fun c v _ q=>k c v q) (fun c q=>by rw [j9 (jW q hn)];exact q) fun c xs q=>by rw [j9 (jW q hn)];exact q
end
def Rd (H:Hp) (a:Addr) (u:HO):Prop:=H a=some u∨∃o,H a=some (.frz o u)
theorem Rd.of {H:Hp} {a:Addr} {u:HO} (h:H a=some u):Rd H a u:=.inl h
theorem Rd.ok {P:Program} {w:World} {H:Hp} {h:Heap} {a:Addr} {u:HO} (r:Rd H a u) (x:HOk P w H h):ObjOk P w H h a u:=by
 rcases r with r|⟨o,r⟩
 ·exact x a u r
 ·obtain ⟨_,q⟩:=x a _ r;exact q
def mE:Option HO→Prop
 |some (.lst _)=>True
 |some (.dK _)=>True
 |some (.dT _)=>True
 |some (.set _ _)=>True
 |some (.ins _ _ _)=>True
 |some (.ext _)=>True
 |_=>False
section
variable {P:Program} {w:World} {H:Hp} {h h':Heap} {x e:Addr} {o':HO}
theorem HOk.write (ok:HOk P w H h) (mu:mE (H x)) (he:e=x∨H e=some (.own x)) (k:∀b u,b≠e→h.get? b=some u→h'.get? b=some u) (heo:∃u,h'.get? e=some u)
  (new:ObjOk P w (upd H x o') h' x o'):HOk P w (upd H x o') h':=fun b u q=>by
 have nown:∀c y,H c=some (.own y)→c≠x:=fun c y r z=>by subst z;rw [r] at mu;exact mu
 have ntup:∀c xs,H c=some (.tup xs)→c≠x:=fun c xs r z=>by subst z;rw [r] at mu;exact mu
 by_cases hb:b=x
 ·subst hb;rw [jD] at q;cases q;exact new
 ·rw [j9 hb] at q
  by_cases hbe:b=e
  ·have q':H b=some (.own x):=by
    rcases he with z|z
    ·exact absurd (hbe.trans z) hb
    ·rw [hbe];exact z
   rw [q] at q';cases q'
   obtain ⟨v,hv⟩:=heo;exact ⟨v,by rw [hbe];exact hv⟩
  ·refine (ok b u q).stay (fun c v hc r=>k c v ?_ r) (fun c r=>by rw [j9 (nown c b r)];exact r) fun c xs r=>by rw [j9 (ntup c xs r)];exact r
   rcases hc with rfl|hc
   ·exact hbe
   ·rintro rfl
    rcases he with z|z
    ·exact nown c b hc z
    ·rw [hc] at z;cases z;exact hb rfl
end
structure Un (fs ex:List Addr) (H H':Hp) (h h':Heap):Prop where
 keep:∀b o,h.get? b=some o→H b=none→b∉fs→b∉ex→h'.get? b=some o
 slot:∀b o,h.get? b=some o→H b=none→b∈fs→b∉ex→∃sl,h'.get? b=some {o with slots:=sl}
 free:∀b o,h.get? b=some o→H b=none→b∉ex→H' b=none
 there:∀b o,h.get? b=some o→b∉ex→∃o',h'.get? b=some o'
 tups:∀b xs,H b=some (.tup xs)→H' b=some (.tup xs)
 frzs:∀b o u,H b=some (.frz o u)→H' b=some (.frz o u)
 tbls:∀b ps,H b=some (.tbl ps)→∃more,H' b=some (.tbl (ps++more))
section
variable {fs fs' ex ex':List Addr} {H H1 H2:Hp} {h h1 h2 h':Heap} {a x e:Addr} {o:HO}
theorem Un.any (u:Un fs ex H H1 h h1) {b:Addr} {ob:Obj} (q:h.get? b=some ob) (n:H b=none) (hx:b∉ex):∃sl,h1.get? b=some {ob with slots:=sl}:=by
 by_cases hb:b∈fs
 ·exact u.slot b ob q n hb hx
 ·exact ⟨ob.slots,u.keep b ob q n hb hx⟩
theorem Un.kept (k:∀b u,h.get? b=some u→h'.get? b=some u):Un fs ex H H h h' :=
 ⟨fun b ob q _ _ _=>k b ob q,fun b ob q _ _ _=>⟨ob.slots,k b ob q⟩,fun _ _ _ n _=>n,fun b ob q _=>⟨ob,k b ob q⟩,fun _ _ q=>q,fun _ _ _ q=>q,fun _ ps q=>⟨#[],by rw [q];simp⟩⟩
theorem Un.refl:Un fs ex H H h h:=Un.kept fun _ _ q=>q
theorem Un.laid (k:∀b u,h.get? b=some u→h'.get? b=some u) (hp:h.objs.size≤a) (hn:H a=none):Un fs ex H (upd H a o) h h' where
 keep:=fun b u q _ _ _=>k b u q
 slot:=fun b u q _ _ _=>⟨u.slots,k b u q⟩
 free:=fun b u q n _=>by rw [j9 (Nat.ne_of_lt (Nat.lt_of_lt_of_le (Heap.lt_size q) hp))];exact n
 there:=fun b u q _=>⟨u,k b u q⟩
 tups:=fun b xs q=>by rw [j9 (jW q hn)];exact q
 frzs:=fun b u xs q=>by rw [j9 (jW q hn)];exact q
 tbls:=fun b ps q=>⟨#[],by rw [j9 (jW q hn),q];simp⟩
theorem Un.write (mu:mE (H x)) (he:e=x∨H e=some (.own x)) (k:∀b u,b≠e→h.get? b=some u→h'.get? b=some u) (heo:∃u,h'.get? e=some u):Un fs ex H (upd H x o) h h':=by
 have hx:∀b,H b=none→b≠x:=fun b n z=>by subst z;rw [n] at mu;exact mu
 have hb:∀b,H b=none→b≠e:=fun b n z=>by
  subst z
  rcases he with r|r
  ·exact hx b n r
  ·rw [n] at r;cases r
 have hm:∀b u,H b=some u→¬mE (some u)→b≠x:=fun b u q nm z=>by subst z;rw [q] at mu;exact nm mu
 refine ⟨fun b u q n _ _=>k b u (hb b n) q,fun b u q n _ _=>⟨u.slots,k b u (hb b n) q⟩,fun b u q n _=>by rw [j9 (hx b n)];exact n,fun b u q _=>?_,
  fun b xs q=>by rw [j9 (hm b _ q fun z=>z)];exact q,fun b u xs q=>by rw [j9 (hm b _ q fun z=>z)];exact q,fun b ps q=>⟨#[],by rw [j9 (hm b _ q fun z=>z),q];simp⟩⟩
 by_cases hbe:b=e
 ·subst hbe;exact heo
 ·exact ⟨u,k b u hbe q⟩
end
def y9 (h:Heap) (H:Hp):List Addr:=(List.range h.objs.size).filter fun a=>(H a).isSome
def QI (h:Heap) (H:Hp):Heap:=PySem.W.hideAll h (y9 h H)
theorem HD (h:Heap) (H:Hp):(QI h H).objs.size=h.objs.size:=PySem.W.hideAll_size _ _
theorem KN {h:Heap} {H:Hp} {b:Addr} {o:Obj} (e:h.get? b=some o) (n:H b=none):(QI h H).get? b=some o :=
 PySem.W.hideAll_get _ e fun hm=>by
  have q:(H b).isSome=true:=(List.mem_filter.mp hm).2;rw [n] at q;simp at q
theorem LO {h:Heap} {H:Hp} {b:Addr} {o:Obj} (e:(QI h H).get? b=some o):h.get? b=some o∧H b=none:=by
 have e':h.get? b=some o:=PySem.W.of_hideAll (y9 h H) e;refine ⟨e',?_⟩;cases q:H b with
 |none=>rfl
 |some x =>
  have hm:b∈y9 h H:=List.mem_filter.mpr ⟨List.mem_range.mpr (Heap.lt_size e'),by simp [q]⟩;have z:(QI h H).get? b=none:=PySem.W.hideAll_none (y9 h H) hm;rw [z] at e;cases e
def MB (g h:Heap) (L:Addr):List (Addr×Obj):=(List.range h.objs.size).filterMap fun a=>if a=L∨(g.get? a).isSome=true then none else (h.get? a).map fun o=>(a,o)
def rest (g h:Heap) (L d:Addr):List (Addr×Obj):=(MB g h L).filter fun p=>decide (p.1≠d)
end L2
namespace L2
open PySem PySem.Spec PyProof.Rows
structure Mod (K:PySem.W.Frag) (mg:Str→Option Value) (base:Heap):Prop where
 kin:K.In base
 glob:base.Ns mainGlobals mg
 blt:∃mb,base.Ns builtinsNs mb∧∀x:Str,x≠"__name__"→mb x=bootBuiltins x
 nolimit:base.NoLimit
structure Cx where
 prog:Program
 w:World
 K:PySem.W.Frag
 mg:Str→Option Value
 base:Heap
 A:Around
 N:List Str
 s₀:Shared
 H₀:Hp
 env:Env
 outer:List Env
 stack:List Env
 ex:List Addr
 fn:Str→Bool
 calm:Bool
 pn:List (Addr×Obj)
 xe:Value→Shared→Prop
def kK (l:List Env):List Addr:=l.filterMap (·.frame)
abbrev Cx.fs (X:Cx):List Addr:=kK X.outer
def mB (sc:Scope) (x:Str):Prop:=sc.names.lookup x=some .local∨sc.names.lookup x=some .cell∨sc.names.lookup x=some .free
def eZ (sc:Scope) (x:Str):Prop:=sc.names.lookup x=some .local∨sc.names.lookup x=some .cell
def OW (env:Env) (h:Heap) (m:Str→Option Value) (x:Str) (u:Value):Prop :=
 (env.kindOf x=some .local∧m x=some u)∨((env.kindOf x=some .cell∨env.kindOf x=some .free)∧∃c,env.cells.lookup x=some c∧h.IsCell c (some u))
structure Cx.Ok (X:Cx):Prop where
 mod:Mod X.K X.mg X.base
 kind:X.env.scope.kind=.function
 glob:X.env.globals=mainGlobals
 blt:X.env.builtins=builtinsNs
 above:X.s₀.heap.objs.size≤X.env.locals
 inj:∀x y c,X.env.cells.lookup x=some c→X.env.cells.lookup y=some c→x=y
 has:∀x,(X.env.kindOf x=some .cell∨X.env.kindOf x=some .free)→∃c,X.env.cells.lookup x=some c
 cab:∀x c,X.fn x=true→X.env.cells.lookup x=some c→X.s₀.heap.objs.size≤c
 hd:X.calm=true→X.A.handled=none
 frames:X.A.frames=some X.stack
 stk:X.stack=X.outer∨(X.stack=X.env::X.outer∧X.env.frame=some X.env.locals)
 exf:∀b∈X.ex,b≠X.env.locals∧∀x c,X.env.cells.lookup x=some c→c≠b
 bs:∀b o,X.base.get? b=some o→X.s₀.heap.get? b=some o∧X.H₀ b=none
 bsz:X.base.objs.size≤X.s₀.heap.objs.size
 noex:∀b o,X.base.get? b=some o→b∉X.ex
 exfs:∀b∈X.ex,b∉X.fs
 funs:X.s₀.heap.FunFrames X.base X.outer
 frf:∀b∈X.fs,X.H₀ b=none
structure Inv (X:Cx) (pins:List (Addr×Obj)) (σ:List (Option V)) (H:Hp) (s:Shared):Prop where
 ok:X.Ok
 os:s.os=X.s₀.os
 bare:AllBare s.gens
 base:Un X.fs X.ex X.H₀ H X.s₀.heap s.heap
 loc:∃m,s.heap.Ns X.env.locals m∧∀(i:Nat) (x:Str) (v:V),X.N[i]?=some x→σ[i]?=some (some v)→mB X.env.scope x→∃u,RelV v u∧OW X.env s.heap m x u
 cell:∀x c,X.env.cells.lookup x=some c→∃v,s.heap.IsCell c v
 free:H X.env.locals=none
 freeC:∀x c,X.env.cells.lookup x=some c→H c=none
 pin:∀p∈X.pn++pins,s.heap.get? p.1=some p.2∧H p.1=none∧p.1≠X.env.locals∧p.1∉X.fs∧∀v,p.2.data≠.cell v
 hok:HOk X.prog X.w H s.heap
 len:σ.length=X.N.length
section
variable {X:Cx} {pins:List (Addr×Obj)} {σ:List (Option V)} {H H':Hp} {s:Shared} {h':Heap}
theorem Cx.Ok.nofr (ok:X.Ok) {b:Addr} {o:Obj} (e:X.base.get? b=some o):b∉X.fs:=fun hb=>by
 have:=(ok.funs.mem hb).1;rw [e] at this;cases this
theorem Inv.bs (I:Inv X pins σ H s):∀b o,X.base.get? b=some o→s.heap.get? b=some o∧H b=none:=fun b o e =>
 ⟨I.base.keep b o (I.ok.bs b o e).1 (I.ok.bs b o e).2 (I.ok.nofr e) (I.ok.noex b o e),I.base.free b o (I.ok.bs b o e).1 (I.ok.bs b o e).2 (I.ok.noex b o e)⟩
theorem Inv.bk (I:Inv X pins σ H s):∀b o,X.base.get? b=some o→s.heap.get? b=some o:=fun b o e=>(I.bs b o e).1
theorem Inv.mod (I:Inv X pins σ H s):Mod X.K X.mg X.base:=I.ok.mod
theorem Inv.kIn (I:Inv X pins σ H s):X.K.In s.heap:=I.ok.mod.kin.keeps I.bk
theorem Inv.lt (I:Inv X pins σ H s):X.env.locals<s.heap.objs.size:=let ⟨_,hn,_⟩:=I.loc;hn.lt
theorem Inv.sz (I:Inv X pins σ H s):X.s₀.heap.objs.size≤s.heap.objs.size:=Nat.le_trans I.ok.above (Nat.le_of_lt I.lt)
theorem Inv.nofs (I:Inv X pins σ H s) {a:Addr} (h:s.heap.objs.size≤a):a∉X.fs:=fun hb=>by
 obtain ⟨_,o,ho,_⟩:=I.ok.funs.mem hb;exact absurd (Nat.lt_of_lt_of_le (Heap.lt_size ho) (Nat.le_trans I.sz h)) (Nat.lt_irrefl _)
theorem Inv.cne (I:Inv X pins σ H s):∀x c,X.env.cells.lookup x=some c→c≠X.env.locals:=fun x c e z=>by
 obtain ⟨v,o,ho,hd⟩:=I.cell x c e;obtain ⟨m,⟨o',es,ep,ho',hd',_⟩,_⟩:=I.loc;rw [z,ho'] at ho;cases ho;rw [hd'] at hd;cases hd
theorem Inv.funs (I:Inv X pins σ H s):s.heap.FunFrames X.base X.outer:=by
 have all:∀(l:List Env),(∀b∈kK l,b∈X.fs)→X.s₀.heap.FunFrames X.base l→s.heap.FunFrames X.base l:=by
  intro l
  induction l with
  |nil=>intro _ _;trivial
  |cons env r ih =>
   intro hs hl;obtain ⟨hk,⟨L,o,hf,hn,ho,hd⟩,hr⟩:=hl;have hL:L∈X.fs:=hs L (by unfold kK;rw [List.filterMap_cons,hf];exact List.mem_cons_self);obtain ⟨sl,e⟩:=I.base.slot L o ho (I.ok.frf L hL) hL fun z=>I.ok.exfs L z hL
   exact ⟨hk,⟨L,_,hf,hn,e,hd⟩,ih (fun b hb=>hs b (by unfold kK;rw [List.filterMap_cons,hf];exact List.mem_cons_of_mem _ hb)) hr⟩
 exact all X.outer (fun _ hb=>hb) I.ok.funs
theorem Inv.stack (I:Inv X pins σ H s):s.heap.FunFrames X.base X.stack:=by
 rcases I.ok.stk with e|⟨e,hf⟩
 ·rw [e];exact I.funs
 ·rw [e];obtain ⟨m,hn,_⟩:=I.loc;refine .cons (by rw [I.ok.kind];decide) hf hn ?_ I.funs;exact Heap.get?_none_of_le (Nat.le_trans I.ok.bsz I.ok.above)
theorem Inv.stkSub (I:Inv X pins σ H s):∀b∈kK X.stack,b∈X.env.locals::X.fs:=fun b hb=>by
 rcases I.ok.stk with e|⟨e,hf⟩
 ·rw [e] at hb;exact List.mem_cons_of_mem _ hb
 ·rw [e] at hb;unfold kK at hb;rw [List.filterMap_cons,hf] at hb;exact hb
theorem Inv.stkFree (I:Inv X pins σ H s):∀b∈kK X.stack,H b=none:=fun b hb=>by
 rcases List.mem_cons.mp (I.stkSub b hb) with e|hb
 ·rw [e];exact I.free
 ·obtain ⟨_,o,ho,_⟩:=I.ok.funs.mem hb;exact I.base.free b o ho (I.ok.frf b hb) fun z=>I.ok.exfs b z hb
theorem Inv.step {g':Array GenState} {t':Nat} {d':Drawn} {ch:List Addr} (I:Inv X pins σ H s)
  (hch:∀b∈ch,(b∈X.ex∨X.s₀.heap.objs.size≤b)∧b≠X.env.locals∧(∀x c,X.env.cells.lookup x=some c→c≠b)∧∀p∈X.pn++pins,p.1≠b)
  (keep:∀b o,b≠X.env.locals→b∉X.fs→b∉ch→s.heap.get? b=some o→H b=none→h'.get? b=some o)
  (slot:∀b o,b≠X.env.locals→b∈X.fs→b∉ch→s.heap.get? b=some o→H b=none→∃sl,h'.get? b=some {o with slots:=sl}) (free:∀b o,b∉ch→s.heap.get? b=some o→H b=none→H' b=none)
  (there:∀b o,b∉ch→s.heap.get? b=some o→∃o',h'.get? b=some o')
  (tups:∀b xs,H b=some (.tup xs)→H' b=some (.tup xs)) (frzs:∀b o u,H b=some (.frz o u)→H' b=some (.frz o u)) (tbls:∀b ps,H b=some (.tbl ps)→∃more,H' b=some (.tbl (ps++more)))
  (ns:∀m,s.heap.Ns X.env.locals m→h'.Ns X.env.locals m) (hok:HOk X.prog X.w H' h') (hg:AllBare g') :
  Inv X pins σ H' {s with heap:=h',gens:=g',drawn:=d',toks:=t'}:=by
 have neL:∀b o,X.s₀.heap.get? b=some o→b≠X.env.locals:=fun b o e=>Nat.ne_of_lt (Nat.lt_of_lt_of_le (Heap.lt_size e) I.ok.above)
 have neC:∀b o,X.s₀.heap.get? b=some o→b∉X.ex→b∉ch:=fun b o e hx hb=>by
  rcases (hch b hb).1 with z|z
  ·exact hx z
  ·exact absurd (Nat.lt_of_lt_of_le (Heap.lt_size e) z) (Nat.lt_irrefl _)
 have cellK:∀x c,X.env.cells.lookup x=some c→∀v,s.heap.IsCell c v→h'.IsCell c v:=fun x c e v ⟨o,ho,hd⟩=>by
  have nch:c∉ch:=fun z=>(hch c z).2.2.1 x c e rfl
  by_cases hc:c∈X.fs
  ·obtain ⟨sl,q⟩:=slot c o (I.cne x c e) hc nch ho (I.freeC x c e);exact ⟨_,q,hd⟩
  ·exact ⟨o,keep c o (I.cne x c e) hc nch ho (I.freeC x c e),hd⟩
 refine ⟨I.ok,I.os,hg,⟨fun b o e n hb hx=>?_,fun b o e n hb hx=>?_,fun b o e n hx=>?_,fun b o e hx=>?_,fun b xs e=>tups b xs (I.base.tups b xs e),fun b o xs e=>frzs b o xs (I.base.frzs b o xs e),fun b ps e=>?_⟩,?_,fun x c e=>?_,?_,fun x c e=>?_,fun p hp=>?_,hok,I.len⟩
 ·exact keep b o (neL b o e) hb (neC b o e hx) (I.base.keep b o e n hb hx) (I.base.free b o e n hx)
 ·obtain ⟨sl,e1⟩:=I.base.slot b o e n hb hx;obtain ⟨sl',e2⟩:=slot b _ (neL b o e) hb (neC b o e hx) e1 (I.base.free b o e n hx);exact ⟨sl',e2⟩
 ·obtain ⟨o',e1⟩:=I.base.there b o e hx;exact free b o' (neC b o e hx) e1 (I.base.free b o e n hx)
 ·obtain ⟨o',e1⟩:=I.base.there b o e hx;exact there b o' (neC b o e hx) e1
 ·obtain ⟨m1,e1⟩:=I.base.tbls b ps e;obtain ⟨m2,e2⟩:=tbls b _ e1;exact ⟨m1++m2,by rw [e2,Array.append_assoc]⟩
 ·obtain ⟨m,hn,hl⟩:=I.loc;refine ⟨m,ns m hn,fun i x v e1 e2 e3=>?_⟩;obtain ⟨u,r,l⟩:=hl i x v e1 e2 e3;refine ⟨u,r,?_⟩
  rcases l with l|⟨k,c,e,z⟩
  ·exact .inl l
  ·exact .inr ⟨k,c,e,cellK x c e _ z⟩
 ·obtain ⟨v,z⟩:=I.cell x c e;exact ⟨v,cellK x c e v z⟩
 ·obtain ⟨m,⟨o,_,_,ho,_⟩,_⟩:=I.loc;exact free _ o (fun z=>(hch _ z).2.1 rfl) ho I.free
 ·obtain ⟨v,o,ho,hd⟩:=I.cell x c e;exact free c o (fun z=>(hch c z).2.2.1 x c e rfl) ho (I.freeC x c e)
 ·obtain ⟨e,n,ne,nf,d⟩:=I.pin p hp;have nch:p.1∉ch:=fun z=>(hch p.1 z).2.2.2 p hp rfl
  exact ⟨keep p.1 p.2 ne nf nch e n,free p.1 p.2 nch e n,ne,nf,d⟩
theorem Inv.un {t':Nat} (I:Inv X pins σ H s) (u:Un X.fs [] H H' s.heap h') (hok:HOk X.prog X.w H' h'):Inv X pins σ H' {s with heap:=h',toks:=t'}:=by
  obtain ⟨m,⟨o,es,ep,ho,r⟩,_⟩:=id I.loc;obtain ⟨sl,hL⟩:=u.any ho I.free (by simp);exact I.step (g':=s.gens) (d':=s.drawn) (ch:=[]) (fun _ z=>nomatch z) (fun b o _ hb _ e n=>u.keep b o e n hb (by simp)) (fun b o _ hb _ e n=>u.slot b o e n hb (by simp)) (fun b o _ e n=>u.free b o e n (by simp)) (fun b o _ e=>u.there b o e (by simp)) u.tups u.frzs u.tbls (fun m' hm=>by
    obtain ⟨o',es',ep',ho',r'⟩:=hm;rw [ho] at ho';cases ho'
    exact ⟨_,es',ep',hL,r'⟩) hok I.bare
theorem Inv.call {g':Array GenState} {t':Nat} {d':Drawn} {ch:List Addr} (I:Inv X pins σ H s) (u:Un (kK X.stack) ch H H' s.heap h') (hok:HOk X.prog X.w H' h') (hg:AllBare g')
  (hch:∀b∈ch,(b∈X.ex∨X.s₀.heap.objs.size≤b)∧b≠X.env.locals∧(∀x c,X.env.cells.lookup x=some c→c≠b)∧∀p∈X.pn++pins,p.1≠b) :
  Inv X pins σ H' {s with heap:=h',gens:=g',drawn:=d',toks:=t'}:=by
 obtain ⟨m,⟨o,es,ep,ho,r⟩,_⟩:=id I.loc;obtain ⟨sl,hL⟩:=u.any ho I.free fun z=>(hch _ z).2.1 rfl
 exact I.step (ch:=ch) hch (fun b o hL hb hc e n=>u.keep b o e n (fun z=>(List.mem_cons.mp (I.stkSub b z)).elim hL hb) hc) (fun b o _ _ hc e n=>u.any e n hc) (fun b o hc e n=>u.free b o e n hc) (fun b o hc e=>u.there b o e hc) u.tups u.frzs u.tbls (fun m' hm=>by
  obtain ⟨o',es',ep',ho',r'⟩:=hm;rw [ho] at ho';cases ho'
  exact ⟨_,es',ep',hL,r'⟩) hok hg
theorem Inv.turned {t':Nat} {it:Addr} (I:Inv X pins σ H s) (k:∀b o,b≠it→s.heap.get? b=some o→h'.get? b=some o) (hn:H it=none) (hL:it≠X.env.locals)
    (h1:it∈X.ex∨X.s₀.heap.objs.size≤it) (h2:∀x c,X.env.cells.lookup x=some c→c≠it) (h3:∀p∈X.pn++pins,p.1≠it):Inv X pins σ H {s with heap:=h',toks:=t'}:=by
  have nit:∀b u,H b=some u→b≠it:=fun b u e z=>by rw [z,hn] at e;cases e
  refine I.step (g':=s.gens) (d':=s.drawn) (ch:=[it]) (fun b hb=>?_) (fun b o _ _ hc e _=>k b o (fun z=>hc (by simp [z])) e) (fun b o _ _ hc e _=>⟨o.slots,k b o (fun z=>hc (by simp [z])) e⟩) (fun _ _ _ _ n=>n)
    (fun b o hc e=>⟨o,k b o (fun z=>hc (by simp [z])) e⟩) (fun _ _ e=>e) (fun _ _ _ e=>e) (fun b ps e=>⟨#[],by rw [e];simp⟩) (fun m hm=>?_) (fun b u e=>?_) I.bare
  · have e:b=it:=by simpa using hb
    subst e;exact ⟨h1,hL,h2,h3⟩
  · obtain ⟨o,es,ep,ho,r⟩:=hm
    exact ⟨o,es,ep,k _ o (Ne.symm hL) ho,r⟩
  · refine (I.hok b u e).stay (fun c v hc q=>k c v ?_ q) (fun _ q=>q) fun _ _ q=>q
    rcases hc with z|z
    · rw [z];exact nit b u e
    · exact nit c _ z
theorem Inv.tok (I:Inv X pins σ H s) (t:Nat):Inv X pins σ H {s with toks:=t}:=I.un (h':=s.heap) (t':=t) Un.refl I.hok
theorem Inv.kept {t':Nat} (I:Inv X pins σ H s) (k:∀b u,s.heap.get? b=some u→h'.get? b=some u):Inv X pins σ H {s with heap:=h',toks:=t'}:=I.un (Un.kept k) (I.hok.kept k)
theorem Inv.laid {a:Addr} {o:HO} {t':Nat} (I:Inv X pins σ H s) (k:∀b u,s.heap.get? b=some u→h'.get? b=some u) (hp:s.heap.objs.size≤a) (new:ObjOk X.prog X.w (upd H a o) h' a o) :
  Inv X pins σ (upd H a o) {s with heap:=h',toks:=t'}:=I.un (Un.laid k hp (I.hok.fresh hp)) (I.hok.laid k hp new)
theorem Inv.write {x e:Addr} {o:HO} {t':Nat} (I:Inv X pins σ H s) (mu:mE (H x)) (he:e=x∨H e=some (.own x)) (k:∀b u,b≠e→s.heap.get? b=some u→h'.get? b=some u) (heo:∃u,h'.get? e=some u)
  (new:ObjOk X.prog X.w (upd H x o) h' x o):Inv X pins σ (upd H x o) {s with heap:=h',toks:=t'}:=I.un (Un.write mu he k heo) (I.hok.write mu he k heo new)
theorem Inv.pins_of {pins':List (Addr×Obj)} (I:Inv X pins σ H s) (h:∀p∈pins',s.heap.get? p.1=some p.2∧H p.1=none∧p.1≠X.env.locals∧p.1∉X.fs∧∀v,p.2.data≠.cell v):Inv X pins' σ H s :=
 ⟨I.ok,I.os,I.bare,I.base,I.loc,I.cell,I.free,I.freeC,fun p hp=>(List.mem_append.mp hp).elim (fun z=>I.pin p (List.mem_append_left _ z)) (h p),I.hok,I.len⟩
theorem n5 {N:List Str} (hN:N.Nodup) {i j:Nat} {x:Str} (a:N[i]?=some x) (b:N[j]?=some x):i=j:=by
 obtain ⟨h1,e1⟩:=List.getElem?_eq_some_iff.mp a;obtain ⟨h2,e2⟩:=List.getElem?_eq_some_iff.mp b;exact (List.getElem_inj hN).mp (e1.trans e2.symm)
theorem m5 {M:Model} {A:Around} {E:Value→Shared→Prop} {i:Nat} {x:Str} {v:V} {u:Value} {Q:Unit→Shared→Prop} (I:Inv X pins σ H s) (hN:X.N.Nodup) (hi:X.N[i]?=some x) (hx:eZ X.env.scope x) (r:RelV v u)
  (h:∀s',Inv X pins (σ.set i (some v)) H s'→(∃a,Heap.SameBut a s.heap s'.heap∧(a=X.env.locals∨X.env.cells.lookup x=some a))→Q () s') (hf:X.fn x=true∨X.env.scope.names.lookup x=some .local:=by first|exact .inl rfl|exact .inr rfl|assumption):wpAny M A (storeName X.env x u) Q E s:=by
 obtain ⟨m,hn,hl⟩:=id I.loc;have hcls:(X.env.scope.kind == .class||(X.env.scope.kind == .module&&X.env.locals != X.env.globals))=false:=by rw [I.ok.kind];rfl
 have hiσ:i<σ.length:=by rw [I.len];exact (List.getElem?_eq_some_iff.mp hi).1
 have cne:=I.cne;have tracked:∀{a:Addr} {h':Heap},(∃o,s.heap.get? a=some o∧H a=none)→Heap.SameBut a s.heap h'→HOk X.prog X.w H h':=fun {a h'} ha hs b ob e=>by
  obtain ⟨_,_,hfree⟩:=ha;refine (I.hok b ob e).stay (fun c w' hc q=>(hs.2 c ?_).trans q) (fun _ q=>q) fun _ _ q=>q
  rintro rfl
  rcases hc with rfl|hc
  ·rw [hfree] at e;cases e
  ·rw [hfree] at hc;cases hc
 rcases hx with hk|hk
 ·refine wpAny_storeName_local hk hn (fun h' hn' hs=>?_) hcls;obtain ⟨oL,_,_,hoL,_⟩:=id hn;refine h _ ⟨I.ok,I.os,I.bare,⟨fun b o e n hb hx=>?_,fun b o e n hb hx=>?_,I.base.free,fun b o e hx=>?_,I.base.tups,I.base.frzs,I.base.tbls⟩,⟨_,hn',fun j y v' e1 e2 e3=>?_⟩,fun y c e=>?_,I.free,I.freeC,fun p hp=>?_,tracked ⟨oL,hoL,I.free⟩ hs,by simpa using I.len⟩ ⟨_,hs,.inl rfl⟩
  ·exact (hs.2 b (Nat.ne_of_lt (Nat.lt_of_lt_of_le (Heap.lt_size e) I.ok.above))).trans (I.base.keep b o e n hb hx)
  ·obtain ⟨sl,e1⟩:=I.base.slot b o e n hb hx;exact ⟨sl,(hs.2 b (Nat.ne_of_lt (Nat.lt_of_lt_of_le (Heap.lt_size e) I.ok.above))).trans e1⟩
  ·obtain ⟨o',e1⟩:=I.base.there b o e hx;exact ⟨o',(hs.2 b (Nat.ne_of_lt (Nat.lt_of_lt_of_le (Heap.lt_size e) I.ok.above))).trans e1⟩
  ·by_cases hj:j=i
   ·subst hj;rw [hi] at e1;cases e1
    rw [List.getElem?_set_self hiσ] at e2;cases e2;exact ⟨u,r,.inl ⟨hk,by simp⟩⟩
   ·rw [List.getElem?_set_ne (Ne.symm hj)] at e2;obtain ⟨u',r',q⟩:=hl j y v' e1 e2 e3;refine ⟨u',r',?_⟩
    rcases q with ⟨k,e⟩|⟨k,c,e,z⟩
    ·refine .inl ⟨k,?_⟩;have:y≠x:=fun e=>hj (n5 hN e1 (e▸hi))
     simp [this,e]
    ·exact .inr ⟨k,c,e,z.sameBut hs (cne y c e)⟩
  ·obtain ⟨w',z⟩:=I.cell y c e;exact ⟨w',z.sameBut hs (cne y c e)⟩
  ·obtain ⟨e,n,ne,nf,d⟩:=I.pin p hp;exact ⟨(hs.2 p.1 ne).trans e,n,ne,nf,d⟩
 ·have hfn:X.fn x=true:=by
   rcases hf with z|z
   ·exact z
   ·rw [z] at hk;cases hk
  obtain ⟨c,hc⟩:=I.ok.has x (.inl hk);obtain ⟨w',z⟩:=I.cell x c hc;refine wpAny_storeName_cell I.ok.kind hk hc z (fun h' hc' hs=>?_);obtain ⟨oc,hoc,hocd⟩:=id z;refine h {s with heap:=h'} ⟨I.ok,I.os,I.bare,⟨fun b o e n hb hx=>?_,fun b o e n hb hx=>?_,I.base.free,fun b o e hx=>?_,I.base.tups,I.base.frzs,I.base.tbls⟩,⟨m,hn.sameBut hs (Ne.symm (cne x c hc)),fun j y v' e1 e2 e3=>?_⟩,fun y c' e=>?_,I.free,I.freeC,fun p hp=>?_,tracked ⟨oc,hoc,I.freeC x c hc⟩ hs,by simpa using I.len⟩ ⟨c,hs,.inr hc⟩
  ·exact (hs.2 b (Nat.ne_of_lt (Nat.lt_of_lt_of_le (Heap.lt_size e) (I.ok.cab x c hfn hc)))).trans (I.base.keep b o e n hb hx)
  ·obtain ⟨sl,e1⟩:=I.base.slot b o e n hb hx;exact ⟨sl,(hs.2 b (Nat.ne_of_lt (Nat.lt_of_lt_of_le (Heap.lt_size e) (I.ok.cab x c hfn hc)))).trans e1⟩
  ·obtain ⟨o',e1⟩:=I.base.there b o e hx;exact ⟨o',(hs.2 b (Nat.ne_of_lt (Nat.lt_of_lt_of_le (Heap.lt_size e) (I.ok.cab x c hfn hc)))).trans e1⟩
  ·by_cases hj:j=i
   ·subst hj;rw [hi] at e1;cases e1
    rw [List.getElem?_set_self hiσ] at e2;cases e2;exact ⟨u,r,.inr ⟨.inl hk,c,hc,hc'⟩⟩
   ·rw [List.getElem?_set_ne (Ne.symm hj)] at e2;obtain ⟨u',r',q⟩:=hl j y v' e1 e2 e3;refine ⟨u',r',?_⟩
    rcases q with q|⟨k,c',e,z'⟩
    ·exact .inl q
    ·refine .inr ⟨k,c',e,z'.sameBut hs ?_⟩;rintro rfl;exact hj (n5 hN e1 (I.ok.inj _ _ _ e hc▸hi))
  ·by_cases hcc:c'=c
   ·subst hcc;exact ⟨_,hc'⟩
   ·obtain ⟨w2,z2⟩:=I.cell y c' e;exact ⟨w2,z2.sameBut hs hcc⟩
  ·obtain ⟨e,n,ne,nf,d⟩:=I.pin p hp;refine ⟨(hs.2 p.1 ?_).trans e,n,ne,nf,d⟩;intro q;rw [q,hoc] at e;have q':oc=p.2:=Option.some.inj e;exact d w' (by rw [← q'];exact hocd)
theorem fK {M:Model} {A:Around} {E:Value→Shared→Prop} {i:Nat} {x:Str} {v:V} {u:Value} {Q:Unit→Shared→Prop} (I:Inv X pins σ H s) (hN:X.N.Nodup) (hi:X.N[i]?=some x) (hx:eZ X.env.scope x) (r:RelV v u)
  (h:∀s',Inv X pins (σ.set i (some v)) H s'→Q () s') (hf:X.fn x=true∨X.env.scope.names.lookup x=some .local:=by first|exact .inl rfl|exact .inr rfl|assumption):wpAny M A (storeName X.env x u) Q E s :=
 m5 I hN hi hx r (fun s' I' _=>h s' I') hf
theorem Inv.call' {s':Shared} {ch:List Addr} (I:Inv X pins σ H s) (ho:s'.os=s.os) (u:Un (kK X.stack) ch H H' s.heap s'.heap) (hok:HOk X.prog X.w H' s'.heap) (hg:AllBare s'.gens)
  (hch:∀b∈ch,(b∈X.ex∨X.s₀.heap.objs.size≤b)∧b≠X.env.locals∧(∀x c,X.env.cells.lookup x=some c→c≠b)∧∀p∈X.pn++pins,p.1≠b):Inv X pins σ H' s':=by
 obtain ⟨h',g',d',t',o'⟩:=s';have e:o'=s.os:=ho;subst e;exact I.call (g':=g') (t':=t') (d':=d') u hok hg hch
end
abbrev XK:=Value→Option Addr→Hp→Prop
abbrev St:=List (Option V)
abbrev VK:=V→Hp→Prop
abbrev TE:=St→Hp→VK→Prop
abbrev TT:=St→Hp→(Bool→Hp→Prop)→Prop
abbrev TA:=St→Hp→(List V→Hp→Prop)→Prop
structure Ends where
 nx:St→Hp→Prop
 rt:VK
 bk:St→Hp→Prop:=fun _ _=>False
 ct:St→Hp→Prop:=fun _ _=>False
abbrev TS:=Ends→St→Hp→Prop
def EP (X:Cx) (pins:List (Addr×Obj)) (σ:St) (Q:VK) (u:Value) (s':Shared):Prop:=∃v H',Inv X pins σ H' s'∧RelV v u∧Q v H'
def TP (X:Cx) (pins:List (Addr×Obj)) (σ:St) (Q:Bool→Hp→Prop) (b:Bool) (s':Shared):Prop:=∃H',Inv X pins σ H' s'∧Q b H'
def AP (X:Cx) (pins:List (Addr×Obj)) (σ:St) (Q:List V→Hp→Prop) (us:List Value) (s':Shared):Prop:=∃vs H',Inv X pins σ H' s'∧Vals vs us∧Q vs H'
def SP (X:Cx) (pins:List (Addr×Obj)) (D:Ends) (f:Flow) (s':Shared):Prop :=
 match f with
 |.next=>∃σ' H',Inv X pins σ' H' s'∧D.nx σ' H'
 |.brk=>∃σ' H',Inv X pins σ' H' s'∧D.bk σ' H'
 |.cont=>∃σ' H',Inv X pins σ' H' s'∧D.ct σ' H'
 |.ret u=>∃v σ' H',Inv X pins σ' H' s'∧RelV v u∧D.rt v H'
def PE (X:Cx) (e:Expr) (t:TE):Prop :=
 ∀(pins:List (Addr×Obj)) (s:Shared) (σ:St) (H:Hp) (Q:VK),Inv X pins σ H s→t σ H Q→wpAny (model X.prog X.w) X.A (eval e X.env) (EP X pins σ Q) X.xe s
def PT (X:Cx) (e:Expr) (t:TT):Prop :=
 ∀(pins:List (Addr×Obj)) (s:Shared) (σ:St) (H:Hp) (Q:Bool→Hp→Prop),Inv X pins σ H s→t σ H Q→wpAny (model X.prog X.w) X.A (isTrue e X.env (eval e X.env)) (TP X pins σ Q) X.xe s
def PW (X:Cx) (e:Expr) (t:TT):Prop :=
 ∀(whole:Sem Value) (pins:List (Addr×Obj)) (s:Shared) (σ:St) (H:Hp) (Q:Bool→Hp→Prop),Inv X pins σ H s→t σ H Q→wpAny (model X.prog X.w) X.A (isTrue e X.env whole) (TP X pins σ Q) X.xe s
theorem PW.pt {X:Cx} {e:Expr} {t:TT} (h:PW X e t):PT X e t:=h _
def PA (X:Cx) (es:List Expr) (t:TA):Prop :=
 ∀(pos:Pos) (pins:List (Addr×Obj)) (s:Shared) (σ:St) (H:Hp) (Q:List V→Hp→Prop),Inv X pins σ H s→t σ H Q→wpAny (model X.prog X.w) X.A (spliced (backTo pos (starEach es X.env))) (AP X pins σ Q) X.xe s
def PS (X:Cx) (st:Stmt) (t:TS):Prop :=
 ∀(pins:List (Addr×Obj)) (s:Shared) (σ:St) (H:Hp) (D:Ends),Inv X pins σ H s→t D σ H→wpAny (model X.prog X.w) X.A (exec st X.env) (SP X pins D) X.xe s
def PSs (X:Cx) (st:List Stmt) (t:TS):Prop :=
 ∀(pins:List (Addr×Obj)) (s:Shared) (σ:St) (H:Hp) (D:Ends),Inv X pins σ H s→t D σ H→wpAny (model X.prog X.w) X.A (execs st X.env) (SP X pins D) X.xe s
theorem jQ {α:Type} {t:Sem α} {Q Q':α→Shared→Prop} {M:Model} {A:Around} {E:Value→Shared→Prop} {s:Shared} (h:wpAny M A t Q E s) (hQ:∀a s,Q a s→Q' a s):wpAny M A t Q' E s:=wpAny_mono h hQ fun _ _ x=>x
end L2
namespace L2
open PySem PySem.Spec PyProof.Rows
section
variable {X:Cx}
def AR (i:Nat):TE:=fun σ H Q=>∃v,σ[i]?=some (some v)∧Q v H
def tC (v:V):TE:=fun _ H Q=>Q v H
theorem MV {i:Nat} {x:Str} {pos:Pos} (hN:X.N[i]?=some x) (hv:mB X.env.scope x) (hd:(x == ("__debug__":Str))=false:=by decide) (hcd:(x == ("__classdict__":Str))=false:=by decide):PE X (.Name x pos) (AR i):=by
 intro pins s σ H Q I h;obtain ⟨v,e,h⟩:=h;obtain ⟨m,hn,hl⟩:=I.loc;obtain ⟨u,r,l⟩:=hl i x v hN e hv;have fin:EP X pins σ Q u s:=⟨v,H,I,r,h⟩
 rcases l with ⟨hk,hm⟩|⟨hk,c,hc,hcell⟩
 ·exact wpAny_Name (wpAny_loadName_local I.ok.kind hk hn hm fin) hd
 ·rcases hk with hk|hk
  ·exact wpAny_Name (wpAny_loadName_cell I.ok.kind hk hc hcell fin) hd
  ·exact wpAny_Name (wpAny_loadName_free I.ok.kind hk hc hcell fin hcd) hd
theorem jB {i j pos}:PE X (.Constant (.int i) j pos) (tC (.int i)):=fun _ _ _ H _ I h=>wpAny_Constant_int ⟨.int i,H,I.tok _,⟨_,rfl⟩,h⟩
theorem vN {b j pos}:PE X (.Constant (.bool b) j pos) (tC (.bl b)):=fun _ _ _ H _ I h=>Constant_bool ⟨.bl b,H,I,rfl,h⟩
theorem x6 {j pos}:PE X (.Constant .none j pos) (tC .non):=fun _ _ _ H _ I h=>Constant_none ⟨.non,H,I,rfl,h⟩
theorem jJ {x j pos}:PE X (.Constant (.str x) j pos) (tC (.str x)):=fun _ _ _ H _ I h=>Calls.Constant_str ⟨.str x,H,I.tok _,⟨_,rfl⟩,h⟩
def Gl (X:Cx) (x:Str):Prop:=X.env.kindOf x=some .globalImplicit
theorem d0 {E:Value→Shared→Prop} {pins:List (Addr×Obj)} {s:Shared} {σ:St} {H:Hp} {x:Str} {u:Value} {pos:Pos} {Q:Value→Shared→Prop} (I:Inv X pins σ H s) (hg:Gl X x) (hm:X.mg x=some u) (h:Q u s)
  (hd:(x == ("__debug__":Str))=false:=by decide):wpAny (model X.prog X.w) X.A (eval (.Name x pos) X.env) Q E s :=
 Calls.Name_function_global I.ok.kind hg (Calls.loadGlobal_global (by rw [I.ok.glob];exact I.mod.glob.keeps I.bk) hm h) hd
theorem JD {E:Value→Shared→Prop} {pins:List (Addr×Obj)} {s:Shared} {σ:St} {H:Hp} {x:Str} {u:Value} {pos:Pos} {Q:Value→Shared→Prop} (I:Inv X pins σ H s) (hg:Gl X x) (hm:X.mg x=none) (hv:bootBuiltins x=some u) (h:Q u s)
  (hn:x≠"__name__":=by decide) (hd:(x == ("__debug__":Str))=false:=by decide):wpAny (model X.prog X.w) X.A (eval (.Name x pos) X.env) Q E s:=by
 obtain ⟨mb,h1,h2⟩:=I.mod.blt;exact Calls.Name_function_global I.ok.kind hg (Calls.loadGlobal_builtin (by rw [I.ok.glob];exact I.mod.glob.keeps I.bk) hm (by rw [I.ok.blt];exact h1.keeps I.bk) ((h2 x hn).trans hv) h) hd
theorem vX {x:Str} {v:V} {u:Value} {pos:Pos} (hg:Gl X x) (hm:X.mg x=some u) (r:RelV v u) (hd:(x == ("__debug__":Str))=false:=by decide):PE X (.Name x pos) (tC v) :=
 fun _ _ _ H _ I h=>d0 I hg hm ⟨v,H,I,r,h⟩ hd
theorem z8 {x:Str} {v:V} {u:Value} {pos:Pos} (hg:Gl X x) (hm:X.mg x=none) (hv:bootBuiltins x=some u) (r:RelV v u) (hn:x≠"__name__":=by decide) (hd:(x == ("__debug__":Str))=false:=by decide):PE X (.Name x pos) (tC v) :=
 fun _ _ _ H _ I h=>JD I hg hm hv ⟨v,H,I,r,h⟩ hn hd
variable {a b:Expr} {ta tb:TE} {pos:Pos}
def tB (t:TE):TT:=fun σ H Q=>t σ H fun x H1=>∃c,x=.bl c∧Q c H1
theorem vL {e:Expr} {t:TE} (h:PE X e t) (he:∀whole,isTrue e X.env whole=(do let v ← whole;standAt e.pos;holding [v] (truthy v)):=by intro _;rfl):PT X e (tB t):=by
 intro pins s σ H Q I hw;refine isTrue_plain (jQ (h pins s σ H _ I hw) fun v s1 ⟨x,H1,I1,r1,q1⟩=>?_) (he _);obtain ⟨d,rfl,q⟩:=q1;cases r1;exact wpAny_truthy_bool ⟨H1,I1,q⟩
variable {tA tB':TT} {rest:List Expr}
def OG (t u:TT):TT:=fun σ H Q=>t σ H fun c H1=>if c=true then u σ H1 Q else Q false H1
def O2 (t u:TT):TT:=fun σ H Q=>t σ H fun c H1=>if c=true then Q true H1 else u σ H1 Q
def OA (t:TT):TT:=fun σ H Q=>t σ H fun c H1=>Q (!c) H1
theorem ZT (ha:PT X a tA):PW X (.BoolOp .And [a] pos) tA:=by
 intro wh pins s σ H Q I h;refine isTrue_and (jQ (ha pins s σ H Q I h) fun c s1 e=>?_);cases c with
 |true=>exact isTrue_and_nil e
 |false=>exact e
theorem JA (ha:PT X a tA):PW X (.BoolOp .Or [a] pos) tA:=by
 intro wh pins s σ H Q I h;refine isTrue_or (jQ (ha pins s σ H Q I h) fun c s1 e=>?_);cases c with
 |false=>exact isTrue_or_nil e
 |true=>exact e
theorem QU (ha:PT X a tA) (hb:PW X (.BoolOp .And (b::rest) pos) tB'):PW X (.BoolOp .And (a::b::rest) pos) (OG tA tB'):=by
 intro wh pins s σ H Q I h;refine isTrue_and (jQ (ha pins s σ H _ I h) fun c s1 ⟨H1,I1,q1⟩=>?_);cases c with
 |true=>exact hb wh pins s1 σ H1 Q I1 q1
 |false=>exact ⟨H1,I1,q1⟩
theorem zP (ha:PT X a tA) (hb:PW X (.BoolOp .Or (b::rest) pos) tB'):PW X (.BoolOp .Or (a::b::rest) pos) (O2 tA tB'):=by
 intro wh pins s σ H Q I h;refine isTrue_or (jQ (ha pins s σ H _ I h) fun c s1 ⟨H1,I1,q1⟩=>?_);cases c with
 |true=>exact ⟨H1,I1,q1⟩
 |false=>exact hb wh pins s1 σ H1 Q I1 q1
theorem vH (ha:PT X a tA):PT X (.UnaryOp .Not a pos) (OA tA):=by
 intro pins s σ H Q I h;exact isTrue_not (ha pins s σ H (fun c H1=>Q (!c) H1) I h)
def NI (ta tb:TE):TE:=fun σ H Q=>ta σ H fun x H1=>∃c,x=.bl c∧if c=true then tb σ H1 Q else Q (.bl false) H1
def N9 (ta tb:TE):TE:=fun σ H Q=>ta σ H fun x H1=>∃c,x=.bl c∧if c=true then Q (.bl true) H1 else tb σ H1 Q
def NF (ta:TE):TE:=fun σ H Q=>ta σ H fun x H1=>∃c,x=.bl c∧Q (.bl (!c)) H1
theorem yH {op} {t:TE} (h:PE X a t):PE X (.BoolOp op [a] pos) t:=fun pins s σ H Q I hw=>BoolOp_one (h pins s σ H Q I hw)
theorem zM (ha:PE X a ta) (hb:PE X (.BoolOp .And (b::rest) pos) tb):PE X (.BoolOp .And (a::b::rest) pos) (NI ta tb):=by
 intro pins s σ H Q I h;refine BoolOp_and (jQ (ha pins s σ H _ I h) fun v s1 ⟨x,H1,I1,r1,q1⟩=>?_);obtain ⟨c,rfl,q1⟩:=q1;cases r1;refine wpAny_truthy_bool ?_;cases c with
 |true=>exact hb pins s1 σ H1 Q I1 q1
 |false=>exact ⟨.bl false,H1,I1,rfl,q1⟩
theorem Q2 (ha:PE X a ta) (hb:PE X (.BoolOp .Or (b::rest) pos) tb):PE X (.BoolOp .Or (a::b::rest) pos) (N9 ta tb):=by
 intro pins s σ H Q I h;refine BoolOp_or (jQ (ha pins s σ H _ I h) fun v s1 ⟨x,H1,I1,r1,q1⟩=>?_);obtain ⟨c,rfl,q1⟩:=q1;cases r1;refine wpAny_truthy_bool ?_;cases c with
 |false=>exact hb pins s1 σ H1 Q I1 q1
 |true=>exact ⟨.bl true,H1,I1,rfl,q1⟩
theorem xZ (ha:PE X a ta):PE X (.UnaryOp .Not a pos) (NF ta):=by
 intro pins s σ H Q I h;refine UnaryOp_ (jQ (ha pins s σ H _ I h) fun v s1 ⟨x,H1,I1,r1,q1⟩=>?_);obtain ⟨c,rfl,q1⟩:=q1;cases r1;exact not_of (wpAny_truthy_bool ⟨.bl (!c),H1,I1,rfl,q1⟩)
def O3 (t:TT) (ta tb:TE):TE:=fun σ H Q=>t σ H fun c H1=>if c=true then ta σ H1 Q else tb σ H1 Q
theorem nZ {c:Expr} (hc:PT X c tA) (ha:PE X a ta) (hb:PE X b tb):PE X (.IfExp c a b pos) (O3 tA ta tb):=by
 intro pins s σ H Q I h;refine wpAny_IfExp (jQ (hc pins s σ H _ I h) fun d s1 ⟨H1,I1,q1⟩=>?_);cases d with
 |true=>exact ha pins s1 σ H1 Q I1 q1
 |false=>exact hb pins s1 σ H1 Q I1 q1
end
end L2
namespace L2
open PySem PySem.Spec PyProof.Rows
def SqL (K:PySem.W.Frag) (H:Hp) (a:Addr) (xs:List V):Prop :=
 Rd H a (.lst xs)∨
  ∃(o:Obj) (its:Array Value) (n:Nat),K.lookup a=some o∧o.cls=.type "list"∧o.dict=none∧o.data=.seq its n∧its.size≤sizeLine∧Vals xs its.toList
def SqT (K:PySem.W.Frag) (H:Hp) (a:Addr) (xs:List V):Prop :=
 Rd H a (.tup xs)∨
  ∃(o:Obj) (its:Array Value) (n:Nat),K.lookup a=some o∧o.cls=.type "tuple"∧o.data=.seq its n∧its.size≤sizeLine∧Vals xs its.toList
def OU:Value→Option V
 |.none=>some .non
 |.bool b=>some (.bl b)
 |.int i _=>some (.int i)
 |.str x _=>some (.str x)
 |.bytes b _=>some (.byt b)
 |.float b _=>some (.flt b)
 |.ref a=>some (.ref a)
 |.type n=>some (.ty n)
 |_=>none
theorem RelV.abs {x:V} {u:Value} (r:RelV x u):OU u=some x:=by
 cases x with
 |non=>cases r;rfl
 |bl _=>cases r;rfl
 |int _=>obtain ⟨t,rfl⟩:=r;rfl
 |str _=>obtain ⟨t,rfl⟩:=r;rfl
 |byt _=>obtain ⟨t,rfl⟩:=r;rfl
 |flt _=>obtain ⟨t,rfl⟩:=r;rfl
 |ref _=>cases r;rfl
 |ty _=>cases r;rfl
theorem RelV.inj {x y:V} {u:Value} (r:RelV x u) (q:RelV y u):x=y:=Option.some.inj (r.abs.symm.trans q.abs)
theorem Vals.inj:∀{xs ys:List V} {us:List Value},Vals xs us→Vals ys us→xs=ys
 |_,_,_,.nil,.nil=>rfl
 |_,_,_,.cons r t,.cons r' t'=>by rw [r.inj r',Vals.inj t t']
section
variable {X:Cx} {pins:List (Addr×Obj)} {σ:St} {H:Hp} {s:Shared} {a:Addr} {xs ys:List V}
theorem SqL.of {K:PySem.W.Frag} (h:H a=some (.lst xs)):SqL K H a xs:=.inl (.inl h)
theorem SqT.of {K:PySem.W.Frag} (h:H a=some (.tup xs)):SqT K H a xs:=.inl (.inl h)
theorem Inv.list (I:Inv X pins σ H s) (h:SqL X.K H a xs):∃its:List Value,Vals xs its∧PlainL s.heap a its.toArray∧xs.length≤sizeLine:=by
 rcases h with h|⟨o,its,n,hk,hc,hd,hs,hz,r⟩
 ·obtain ⟨z,its,n,r,e⟩:=h.ok I.hok;exact ⟨its,r,⟨_,n,e,rfl,rfl,rfl⟩,z⟩
 ·refine ⟨its.toList,r,⟨o,n,I.kIn a o hk,hc,hd,by simpa using hs⟩,?_⟩;have e:=r.length;simp only [Array.length_toList] at e;omega
theorem Inv.tuple (I:Inv X pins σ H s) (h:SqT X.K H a xs):∃its:List Value,Vals xs its∧IsTup s.heap a its.toArray∧xs.length≤sizeLine:=by
 rcases h with h|⟨o,its,n,hk,hc,hs,hz,r⟩
 ·obtain ⟨z,its,r,p⟩:=h.ok I.hok;exact ⟨its,r,p,z⟩
 ·refine ⟨its.toList,r,⟨o,I.kIn a o hk,hc,n,by simpa using hs⟩,?_⟩;have e:=r.length;simp only [Array.length_toList] at e;omega
theorem Inv.list_inj (I:Inv X pins σ H s) (h:SqL X.K H a xs) (h':SqL X.K H a ys):xs=ys:=by
 obtain ⟨its,r,⟨o,n,e,_,_,d⟩,_⟩:=I.list h;obtain ⟨its',r',⟨o',n',e',_,_,d'⟩,_⟩:=I.list h';rw [e] at e';cases e'
 rw [d] at d';injection d' with d1 _
 have:its=its':=by simpa using congrArg Array.toList d1
 subst this;exact r.inj r'
theorem Inv.tuple_inj (I:Inv X pins σ H s) (h:SqT X.K H a xs) (h':SqT X.K H a ys):xs=ys:=by
 obtain ⟨its,r,⟨o,e,_,n,d⟩,_⟩:=I.tuple h;obtain ⟨its',r',⟨o',e',_,n',d'⟩,_⟩:=I.tuple h';rw [e] at e';cases e'
 rw [d] at d';injection d' with d1 _
 have:its=its':=by simpa using congrArg Array.toList d1
 subst this;exact r.inj r'
end
abbrev Cx.wish (X:Cx) (E:Value→Shared→Prop):Cx:={X with xe:=E}
abbrev Cx.nox (X:Cx):Cx:=X.wish fun _ _=>False
theorem Cx.Ok.wish {X:Cx} (ok:X.Ok) (E:Value→Shared→Prop):(X.wish E).Ok :=
 ⟨ok.mod,ok.kind,ok.glob,ok.blt,ok.above,ok.inj,ok.has,ok.cab,ok.hd,ok.frames,ok.stk,ok.exf,ok.bs,ok.bsz,ok.noex,ok.exfs,ok.funs,ok.frf⟩
theorem Cx.Ok.unwish {X:Cx} {E:Value→Shared→Prop} (ok:(X.wish E).Ok):X.Ok :=
 ⟨ok.mod,ok.kind,ok.glob,ok.blt,ok.above,ok.inj,ok.has,ok.cab,ok.hd,ok.frames,ok.stk,ok.exf,ok.bs,ok.bsz,ok.noex,ok.exfs,ok.funs,ok.frf⟩
section
variable {X:Cx} {pins:List (Addr×Obj)} {σ:St} {H:Hp} {s:Shared} {E:Value→Shared→Prop}
theorem Inv.wish (I:Inv X pins σ H s) (E:Value→Shared→Prop):Inv (X.wish E) pins σ H s:=⟨I.ok.wish E,I.os,I.bare,I.base,I.loc,I.cell,I.free,I.freeC,I.pin,I.hok,I.len⟩
theorem Inv.unwish (I:Inv (X.wish E) pins σ H s):Inv X pins σ H s:=⟨I.ok.unwish,I.os,I.bare,I.base,I.loc,I.cell,I.free,I.freeC,I.pin,I.hok,I.len⟩
theorem SP.unwish {D:Ends} {f:Flow} {s':Shared} (h:SP (X.wish E) pins D f s'):SP X pins D f s':=by
 cases f with
 |next=>obtain ⟨σ',H',I,q⟩:=h;exact ⟨σ',H',I.unwish,q⟩
 |brk=>obtain ⟨σ',H',I,q⟩:=h;exact ⟨σ',H',I.unwish,q⟩
 |cont=>obtain ⟨σ',H',I,q⟩:=h;exact ⟨σ',H',I.unwish,q⟩
 |ret u=>obtain ⟨v,σ',H',I,r,q⟩:=h;exact ⟨v,σ',H',I.unwish,r,q⟩
theorem PE.nox {e:Expr} {t:TE} (h:PE X.nox e t):PE X e t:=fun pins s σ H Q I hw =>
 wpAny_mono (h pins s σ H Q (I.wish _) hw) (fun _ _ ⟨v,H',I',r,q⟩=>⟨v,H',I'.unwish,r,q⟩) fun _ _ z=>False.elim z
theorem PSs.nox {st:List Stmt} {t:TS} (h:PSs X.nox st t):PSs X st t:=fun pins s σ H D I hw =>
 wpAny_mono (h pins s σ H D (I.wish _) hw) (fun _ _ q=>q.unwish) fun _ _ z=>False.elim z
end
section
variable {X:Cx} {st:Stmt} {rest:List Stmt} {t u:TS} {e:Expr} {te:TE} {pos:Pos}
def NG:TS:=fun D σ H=>D.nx σ H
def N6 (t u:TS):TS:=fun D σ H=>t {D with nx:=u D} σ H
theorem kA:PSs X [] NG:=fun _ _ σ H _ I h=>wpAny_execs_nil ⟨σ,H,I,h⟩
theorem jH (h1:PS X st t) (h2:PSs X rest u):PSs X (st::rest) (N6 t u):=by
 intro pins s σ H D I h;refine wpAny_execs_cons (jQ (h1 pins s σ H {D with nx:=u D} I h) fun f s1 q=>?_);cases f with
 |next =>
  obtain ⟨σ',H',I',q⟩:=q;exact h2 pins s1 σ' H' D I' q
 |ret v=>exact q
 |brk=>exact q
 |cont=>exact q
theorem jG (h1:PS X st t):PSs X [st] t:=by
 intro pins s σ H D I h;refine wpAny_execs_cons (jQ (h1 pins s σ H D I h) fun f s1 q=>?_);cases f with
 |next=>exact wpAny_execs_nil q
 |ret v=>exact q
 |brk=>exact q
 |cont=>exact q
theorem Inv.quiet {pins:List (Addr×Obj)} {σ:St} {H:Hp} {s:Shared} (I:Inv X pins σ H s):interactive X.env=false:=by simp [interactive,I.ok.kind]
def NH (te:TE):TS:=fun D σ H=>te σ H fun _ H1=>D.nx σ H1
theorem qD (he:PE X e te) (hs:swapsWith e none pos.line X.env=pure false:=by rfl):PS X (.Expr e pos) (NH te):=by
 intro pins s σ H D I h;exact wpAny_Expr_any (jQ (he pins s σ H _ I h) fun v s1 ⟨x,H1,I1,r1,q1⟩=>⟨σ,H1,I1,q1⟩) I.quiet hs
def N7 (te:TE):TS:=fun D σ H=>te σ H D.rt
theorem jS (he:PE X e te):PS X (.Return (some e) pos) (N7 te):=by
 intro pins s σ H D I h;exact wpAny_Return_some (jQ (he pins s σ H _ I h) fun v s1 ⟨x,H1,I1,r1,q1⟩=>⟨x,σ,H1,I1,r1,q1⟩)
def OC (c:TT) (t u:TS):TS:=fun D σ H=>c σ H fun b H1=>if b=true then t D σ H1 else u D σ H1
theorem jV {c:Expr} {a b:List Stmt} {tc:TT} (hc:PT X c tc) (ha:PSs X a t) (hb:PSs X b u):PS X (.If c a b pos) (OC tc t u):=by
 intro pins s σ H D I h;refine wpAny_If (jQ (hc pins s σ H _ I h) fun d s1 ⟨H1,I1,q1⟩=>?_);cases d with
 |true=>exact ha pins s1 σ H1 D I1 q1
 |false=>exact hb pins s1 σ H1 D I1 q1
end
abbrev TG:=V→St→Hp→(St→Hp→Prop)→Prop
abbrev Z3:=List V→St→Hp→(St→Hp→Prop)→Prop
def PG (X:Cx) (target:Expr) (t:TG):Prop :=
 ∀(pins:List (Addr×Obj)) (s:Shared) (σ:St) (H:Hp) (v:V) (u:Value) (Q:St→Hp→Prop),Inv X pins σ H s→RelV v u→t v σ H Q→
  wpAny (model X.prog X.w) X.A (assign target X.env u) (fun _ s'=>∃σ' H',Inv X pins σ' H' s'∧Q σ' H') X.xe s
def mD (X:Cx) (ts:List Expr) (t:Z3):Prop :=
 ∀(pins:List (Addr×Obj)) (s:Shared) (σ:St) (H:Hp) (vs:List V) (us:List Value) (Q:St→Hp→Prop),Inv X pins σ H s→Vals vs us→t vs σ H Q→
  wpAny (model X.prog X.w) X.A (assignInOrder ((assignEach ts X.env).map (·.2)) us) (fun _ s'=>∃σ' H',Inv X pins σ' H' s'∧Q σ' H') X.xe s
abbrev pJ:=V→V→V→Hp→(Hp→Prop)→Prop
def BE (X:Cx) (t:pJ):Prop :=
 ∀(pins:List (Addr×Obj)) (s:Shared) (σ:St) (H:Hp) (o i v:V) (ov iv u:Value) (Q:Hp→Prop),Inv X pins σ H s→RelV o ov→RelV i iv→RelV v u→t o i v H Q→
  wpAny (model X.prog X.w) X.A (setItem ov iv u) (fun _ s'=>∃H',Inv X pins σ H' s'∧Q H') X.xe s
section
variable {X:Cx} {pos:Pos}
def eG (i:Nat):TG:=fun v σ H Q=>Q (σ.set i (some v)) H
theorem kL {i:Nat} {x:Str} (hN:X.N.Nodup) (hi:X.N[i]?=some x) (hx:eZ X.env.scope x) (hf:X.fn x=true∨X.env.scope.names.lookup x=some .local:=by first|exact .inl rfl|exact .inr rfl|assumption):PG X (.Name x pos) (eG i):=by
 intro pins s σ H v u Q I r h;exact wpAny_assign_Name (fK I hN hi hx r (fun s' I'=>⟨_,H,I',h⟩) hf)
def OT:Z3:=fun vs σ H Q=>vs=[]∧Q σ H
def N0 (t:TG) (u:Z3):Z3:=fun vs σ H Q=>∃v r,vs=v::r∧t v σ H fun σ' H'=>u r σ' H' Q
theorem fS:mD X [] OT:=by
 intro pins s σ H vs us Q I r h;obtain ⟨e,h⟩:=h;subst e;cases r;exact assignInOrder_nil ⟨σ,H,I,h⟩
theorem zZ {e:Expr} {es:List Expr} {t:TG} {u:Z3} (h1:PG X e t) (h2:mD X es u)
  (hs:(assignEach (e::es) X.env).map (·.2)=assign e X.env::(assignEach es X.env).map (·.2):=by rfl):mD X (e::es) (N0 t u):=by
 intro pins s σ H vs us Q I r h;obtain ⟨v,vr,e1,h⟩:=h;subst e1;cases r with
 |cons r rr =>
  rw [hs];refine assignInOrder_cons (jQ (h1 pins s σ H _ _ _ I r h) fun _ s1 ⟨σ1,H1,I1,q1⟩=>?_);exact h2 pins s1 σ1 H1 _ _ Q I1 rr q1
def OR (K:PySem.W.Frag) (n:Nat) (t:Z3):TG:=fun v σ H Q=>∃a xs,v=.ref a∧SqT K H a xs∧xs.length=n∧t xs σ H Q
theorem gB {es:List Expr} {k:Nat} {t:Z3} {n:Nat} (hc:X.calm=true) (h:mD X es t)
  (hn:(assignEach es X.env).length=n:=by rfl) (hst:(assignEach es X.env).findIdx? (·.1)=none:=by rfl):PG X (.Tuple es k pos) (OR X.K n t):=by
 intro pins s σ H v u Q I r hw;obtain ⟨a,xs,e1,hq,hl,hw⟩:=hw;subst e1;cases r;obtain ⟨its,rv,ht,hz⟩:=I.tuple hq;refine assign_Tuple_tuple (I.ok.hd hc) ht (by simp [hn,← hl,rv.length]) hst fun h' hx=>?_
 have I1:Inv X pins σ H {s with heap:=h'}:=I.kept (t':=s.toks) fun b o e=>hx b o (Nat.ne_of_lt (Heap.lt_size e)) e
 exact h pins _ σ H xs _ Q I1 (by simpa using rv) hw
def OS (to ti:TE) (t:pJ):TG:=fun v σ H Q=>to σ H fun o H1=>ti σ H1 fun i H2=>t o i v H2 fun H3=>Q σ H3
theorem QV {o i:Expr} {to ti:TE} {t:pJ} (ho:PE X o to) (hi:PE X i ti) (hs:BE X t)
  (ha:∀v,assign (.Subscript o i pos) X.env v=(do
   let ov ← holding [v] (eval o X.env)
   let iv ← holding [v,ov] (eval i X.env)
   standAt pos
   holding [v,ov,iv] (setItem ov iv v)
   release [v,ov,iv] []):=by intro _;rfl):PG X (.Subscript o i pos) (OS to ti t):=by
 intro pins s σ H v u Q I r h;rw [ha];refine wpAny_bind (wpAny_holding (jQ (ho pins s σ H _ I h) fun ov s1 ⟨x,H1,I1,r1,q1⟩=>?_));refine wpAny_bind (wpAny_holding (jQ (hi pins s1 σ H1 _ I1 q1) fun iv s2 ⟨y,H2,I2,r2,q2⟩=>?_));refine wpAny_bind (wpAny_standAt (wpAny_bind (wpAny_holding (jQ (hs pins s2 σ H2 x y v ov iv u _ I2 r1 r2 r q2) fun _ s3 ⟨H3,I3,q3⟩=>?_))));exact wpAny_release ⟨σ,H3,I3,q3⟩
def AT (te:TE) (g:TG):TS:=fun D σ H=>te σ H fun x H1=>g x σ H1 D.nx
theorem ZV {tg e:Expr} {te:TE} {g:TG} (he:PE X e te) (hg:PG X tg g) (hs:swapsWithSole [tg] e pos.line X.env=pure false:=by rfl) (hw:swappedStores [tg] e X.env=pure none:=by rfl)
  (h1:(assignEach [tg] X.env).map (·.2)=[assign tg X.env]:=by rfl):PS X (.Assign [tg] e pos) (AT te g):=by
 intro pins s σ H D I h;refine wpAny_Assign_stores (jQ (he pins s σ H _ I h) fun v s1 ⟨x,H1,I1,r1,q1⟩=>?_) hs hw;rw [h1];exact jQ (hg pins s1 σ H1 x v _ I1 r1 q1) fun _ s2 q=>q
theorem jN {i:Nat} {x:Str} {e:Expr} {te:TE} {pos':Pos} (hN:X.N.Nodup) (hi:X.N[i]?=some x) (hx:eZ X.env.scope x) (he:PE X e te) (hs:swapsWith e (some (.Name x pos')) pos.line X.env=pure false:=by rfl) (hf:X.fn x=true∨X.env.scope.names.lookup x=some .local:=by first|exact .inl rfl|exact .inr rfl|assumption) :
  PS X (.Assign [.Name x pos'] e pos) (AT te (eG i)):=by
 intro pins s σ H D I h;refine wpAny_Assign_Name (jQ (he pins s σ H _ I h) fun v s1 ⟨y,H1,I1,r1,q1⟩=>?_) hs;exact fK I1 hN hi hx r1 (fun s2 I2=>⟨_,H1,I2,q1⟩) hf
def N8 (i j:Nat) (ta:TA):TS:=fun D σ H=>ta σ H fun vs H1=>∃v w,vs=[v,w]∧D.nx ((σ.set i (some v)).set j (some w)) H1
theorem MQ {i j:Nat} {x y:Str} {a b:Expr} {ta:TA} {px py pt:Pos} {kt k2 pt2} (hc:X.calm=true) (hN:X.N.Nodup) (hi:X.N[i]?=some x) (hj:X.N[j]?=some y) (hij:i≠j)
  (hx:X.env.scope.names.lookup x=some .local) (hy:X.env.scope.names.lookup y=some .local) (ha:PA X [a,b] ta)
  (hw:swappedStores [.Tuple [.Name x px,.Name y py] kt pt] (.Tuple [a,b] k2 pt2) X.env=pure (some [x,y]))
  (hs:swapsWithSole [.Tuple [.Name x px,.Name y py] kt pt] (.Tuple [a,b] k2 pt2) pos.line X.env=pure false:=by rfl) :
  PS X (.Assign [.Tuple [.Name x px,.Name y py] kt pt] (.Tuple [a,b] k2 pt2) pos) (N8 i j ta):=by
 intro pins s σ H D I h;rw [exec_Assign_arm];refine wpAny_bind (wpAny_standAt ?_);rw [hs];refine wpAny_bind (wpAny_pure ?_);rw [if_neg (by decide)];refine wpAny_bind (Tuple_ (jQ (ha _ pins s σ H _ I h) fun us s1 ⟨vs,H1,I1,r1,q1⟩=>?_));obtain ⟨v,w,e1,q1⟩:=q1;subst e1;obtain ⟨u1,u2,rfl,rv,rw'⟩:∃u1 u2,us=[u1,u2]∧RelV v u1∧RelV w u2:=by
  cases r1 with
  |cons p q =>
   cases q with
   |cons p' q' =>
    cases q';exact ⟨_,_,rfl,p,p'⟩
 refine wpAny_newObj_type ?_ (by show 2≤sizeLine;decide);have I2:Inv X pins σ H1 {s1 with heap:=s1.heap.push {cls:=.type "tuple",data:=.seq [u1,u2].toArray}}:=I1.kept (t':=s1.toks) fun b o e=>Heap.get?_push_of_some _ e
 rw [hw];refine wpAny_bind (wpAny_pure ?_);show wpAny (model X.prog X.w) X.A (do rule "assign.swapped-stores";let items ← unpackItems (.ref s1.heap.objs.size) 2 none;assignInOrder [fun v=>bindName X.env y v,fun v=>bindName X.env x v] items.reverse;pure Flow.next) _ _ _;refine wpAny_bind (wpAny_rule (wpAny_bind (unpackItems_tuple (items := #[u1,u2]) (I.ok.hd hc) (IsTup.new s1.heap _) fun h' hx'=>?_)));have I3:=I2.kept (h':=h') (t':=s1.toks) fun b o e=>hx' b o (Nat.ne_of_lt (Heap.lt_size e)) e
 show wpAny _ _ (assignInOrder [fun v=>bindName X.env y v,fun v=>bindName X.env x v] [u2,u1] >>= fun _=>pure Flow.next) _ _ _;refine wpAny_bind (assignInOrder_cons (wpAny_bindName (fK I3 hN hj (.inl hy) rw' (fun s2 I4=>?_) (.inr hy))));refine assignInOrder_cons (wpAny_bindName (fK I4 hN hi (.inl hx) rv (fun s3 I5=>assignInOrder_nil (wpAny_pure ?_)) (.inr hx)));rw [List.set_comm _ _ (Ne.symm hij)] at I5;exact ⟨_,H1,I5,q1⟩
end
section
variable {X:Cx} {pos:Pos}
end
structure It where
 go:Nat→Hp→Prop
 yld:Nat→Hp→V→Hp→Prop
 stop:Nat→Hp→Prop
def zT (X:Cx) (pins:List (Addr×Obj)) (H:Hp) (b:Addr):Prop :=
 H b=none∧b≠X.env.locals∧b∉X.fs∧(b∈X.ex∨X.s₀.heap.objs.size≤b)∧(∀x c,X.env.cells.lookup x=some c→c≠b)∧∀p∈X.pn++pins,p.1≠b
theorem Inv.fpOk {X:Cx} {pins:List (Addr×Obj)} {σ:St} {H H':Hp} {s:Shared} {b:Addr} (I:Inv X pins σ H s) (hb:s.heap.objs.size≤b) (hn:H' b=none):zT X pins H' b:=by
 refine ⟨hn,Nat.ne_of_gt (Nat.lt_of_lt_of_le I.lt hb),I.nofs hb,.inr (Nat.le_trans I.sz hb),fun x c e z=>?_,fun p hp z=>?_⟩
 ·obtain ⟨v,q⟩:=I.cell x c e;exact absurd (Nat.lt_of_lt_of_le q.lt (by rw [z];exact hb)) (Nat.lt_irrefl _)
 ·exact absurd (Nat.lt_of_lt_of_le (Heap.lt_size (I.pin p hp).1) (by rw [z];exact hb)) (Nat.lt_irrefl _)
structure Turn (P:Program) (w:World) (K:PySem.W.Frag) (tg:Expr) (J:It) (fp:List Addr) (it:Addr) (tn:Nat→Heap→Prop):Prop where
 mem:it∈fp
 obj:∀i h,tn i h→∀b∈fp,∃o,h.get? b=some o∧∀v,o.data≠.cell v
 keep:∀i h h',tn i h→(∀b∈fp,∀o,h.get? b=some o→h'.get? b=some o)→tn i h'
 item:∀(X:Cx),X.prog=P→X.w=w→X.K=K→X.calm=true→∀(i:Nat) (pins:List (Addr×Obj)) (s:Shared) (σ:St) (H:Hp) (E:Value→Shared→Prop),Inv X pins σ H s→(∀b∈fp,zT X pins H b)→tn i s.heap→J.go i H→
  wpAny (model P w) X.A (pyNext (.ref it)) (fun r s1=>∃u,r=some u∧
   wpAny (model P w) X.A (letOwnedTupleGo tg (.ref it) u) (fun _ s2=>∃x H',Inv X pins σ H' s2∧RelV x u∧J.yld i H x H'∧tn (i+1) s2.heap∧∀b∈fp,H' b=none) E s1) E s
 done:∀(X:Cx),X.prog=P→X.w=w→X.K=K→X.calm=true→∀(i:Nat) (pins:List (Addr×Obj)) (s:Shared) (σ:St) (H:Hp) (E:Value→Shared→Prop),Inv X pins σ H s→(∀b∈fp,zT X pins H b)→tn i s.heap→J.stop i H→
  wpAny (model P w) X.A (pyNext (.ref it)) (fun r s1=>r=none∧Inv X pins σ H s1) E s
 self:∀(A:Around) (i:Nat) (s:Shared) (Q:Value→Shared→Prop) (E:Value→Shared→Prop),tn i s.heap→Q (.ref it) s→wpAny (model P w) A (pyIter (.ref it)) Q E s
abbrev TI:=St→Hp→(It→Hp→Prop)→Prop
def mC (X:Cx) (pins:List (Addr×Obj)) (σ:St) (tg:Expr) (R:It→Hp→Prop) (itv:Value) (s2:Shared):Prop :=
 ∃(it:Addr) (fp:List Addr) (tn:Nat→Heap→Prop) (J:It) (H':Hp),itv=.ref it∧Inv X pins σ H' s2∧Turn X.prog X.w X.K tg J fp it tn∧tn 0 s2.heap∧(∀b∈fp,zT X pins H' b)∧R J H'
def PI (X:Cx) (tg iter:Expr) (wi:TI):Prop :=
 ∀(pins:List (Addr×Obj)) (s:Shared) (σ:St) (H:Hp) (R:It→Hp→Prop),Inv X pins σ H s→wi σ H R→
  wpAny (model X.prog X.w) X.A (eval iter X.env) (fun v s1=>wpAny (model X.prog X.w) X.A (pyIter v) (mC X pins σ tg R) X.xe s1) X.xe s
theorem gL {M:Model} {A:Around} {E:Value→Shared→Prop} {s:Shared} {tg:Expr} {it:Addr} {u:Value} {o:Obj} {n:String} {vs:Array Value} {Q:Unit→Shared→Prop} (ho:s.heap.get? it=some o) (hc:o.cls=.type n) (hd:o.data=.fields vs)
    (hn:["enumerate","zip","dict_itemiterator","dict_reverseitemiterator","odict_iterator","itertools.zip_longest","itertools.pairwise"].contains n=false) (hQ:Q () s):wpAny M A (letOwnedTupleGo tg (.ref it) u) Q E s:=by
  unfold letOwnedTupleGo;cases tg<;>first
    |exact wpAny_pure hQ
    | (cases u<;>first
        |exact wpAny_pure hQ
        | (refine wpAny_bind (wpAny_load ho ?_)
           rw [hc,hd];show wpAny M A (if (["enumerate","zip","dict_itemiterator","dict_reverseitemiterator","odict_iterator","itertools.zip_longest","itertools.pairwise"].contains n&&vs[0]? == some (rawInt _))=true then _ else _) Q E s;rw [if_neg (by intro h;rw [hn,Bool.false_and] at h;cases h)];exact wpAny_pure hQ))
def Z7 (K:PySem.W.Frag) (a:Addr):It :=
 ⟨fun i H=>∃xs x,SqL K H a xs∧xs[i]?=some x,fun i H x H'=>H'=H∧∀xs,SqL K H a xs→xs[i]?=some x,fun i H=>∃xs,SqL K H a xs∧xs.length≤i⟩
def mF (K:PySem.W.Frag) (a:Addr):It :=
 ⟨fun i H=>∃xs x,SqT K H a xs∧xs[i]?=some x,fun i H x H'=>H'=H∧∀xs,SqT K H a xs→xs[i]?=some x,fun i H=>∃xs,SqT K H a xs∧xs.length≤i⟩
def Q8 (lo:Int) (n:Nat):It:=⟨fun i _=>i<n,fun i H x H'=>H'=H∧x=.int (lo+i),fun i _=>n≤i⟩
theorem FX {P:Program} {w:World} {K:PySem.W.Frag} {tg:Expr} (a it:Addr):Turn P w K tg (Z7 K a) [it] it (fun i h=>h.IsListIter it a i) where
 mem:=by simp
 obj:=fun i h st b hb=>by
  have e:b=it:=by simpa using hb
  subst e;obtain ⟨o,e,c,d⟩:=st;exact ⟨o,e,fun v z=>by rw [d] at z;cases z⟩
 keep:=fun i h h' st k=>st.at fun o e=>k it (by simp) o e
 item:=by
  intro X hP hw hK hc i pins s σ H E I hf st hg;subst hP hw hK;obtain ⟨xs,x,hq,hx⟩:=hg;obtain ⟨its,rv,p,hz⟩:=I.list hq;obtain ⟨u,hu,ru⟩:=rv.get hx;obtain ⟨f0,f1,f2,f3,f4,f5⟩:=hf it (by simp);refine wpAny_pyNext_list_item st p.isList (x:=u) (by simpa using hu) fun h' st' sb=>?_
  have I1:Inv X pins σ H {s with heap:=h'}:=I.turned (t':=s.toks) (fun b o hb e=>(sb.2 b hb).trans e) f0 f1 f3 f4 f5;obtain ⟨o,e,c,d⟩:=id st';exact ⟨u,rfl,gL (s:={s with heap:=h'}) e c d (by decide) ⟨x,H,I1,ru,⟨rfl,fun ys hy=>by rw [I.list_inj hy hq];exact hx⟩,st',fun b hb=>(hf b hb).1⟩⟩
 done:=by
  intro X hP hw hK hc i pins s σ H E I hf st hg;subst hP hw hK;obtain ⟨xs,hq,hx⟩:=hg;obtain ⟨its,rv,p,hz⟩:=I.list hq;obtain ⟨f0,f1,f2,f3,f4,f5⟩:=hf it (by simp);have hl:=rv.length;exact wpAny_pyNext_list_end (I.ok.hd hc) st p.isList (by simp;omega) fun h' eb=>⟨rfl,I.turned (t':=s.toks) (fun b o hb e=>eb b o hb e) f0 f1 f3 f4 f5⟩
 self:=fun _ _ _ _ _ st h=>wpAny_pyIter_listiter st h
theorem E2 {P:Program} {w:World} {K:PySem.W.Frag} {tg:Expr} (a it:Addr):Turn P w K tg (mF K a) [it] it (fun i h=>h.IsTupleIter it a i) where
 mem:=by simp
 obj:=fun i h st b hb=>by
  have e:b=it:=by simpa using hb
  subst e;obtain ⟨o,e,c,d⟩:=st;exact ⟨o,e,fun v z=>by rw [d] at z;cases z⟩
 keep:=fun i h h' st k=>st.at fun o e=>k it (by simp) o e
 item:=by
  intro X hP hw hK hc i pins s σ H E I hf st hg;subst hP hw hK;obtain ⟨xs,x,hq,hx⟩:=hg;obtain ⟨its,rv,p,hz⟩:=I.tuple hq;obtain ⟨u,hu,ru⟩:=rv.get hx;obtain ⟨f0,f1,f2,f3,f4,f5⟩:=hf it (by simp);refine wpAny_pyNext_tuple_item st (show s.heap.IsTuple a its.toArray from p) (x:=u) (by simpa using hu) fun h' st' sb=>?_
  have I1:Inv X pins σ H {s with heap:=h'}:=I.turned (t':=s.toks) (fun b o hb e=>(sb.2 b hb).trans e) f0 f1 f3 f4 f5;obtain ⟨o,e,c,d⟩:=id st';exact ⟨u,rfl,gL (s:={s with heap:=h'}) e c d (by decide) ⟨x,H,I1,ru,⟨rfl,fun ys hy=>by rw [I.tuple_inj hy hq];exact hx⟩,st',fun b hb=>(hf b hb).1⟩⟩
 done:=by
  intro X hP hw hK hc i pins s σ H E I hf st hg;subst hP hw hK;obtain ⟨xs,hq,hx⟩:=hg;obtain ⟨its,rv,p,hz⟩:=I.tuple hq;obtain ⟨f0,f1,f2,f3,f4,f5⟩:=hf it (by simp);have hl:=rv.length;exact wpAny_pyNext_tuple_end (I.ok.hd hc) st (show s.heap.IsTuple a its.toArray from p) (by simp;omega) fun h' eb=>⟨rfl,I.turned (t':=s.toks) (fun b o hb e=>eb b o hb e) f0 f1 f3 f4 f5⟩
 self:=fun _ _ _ _ _ st h=>wpAny_pyIter_tupleiter st h
theorem E3 {P:Program} {w:World} {K:PySem.W.Frag} {tg:Expr} (it:Addr) (lo:Int) (n:Nat):Turn P w K tg (Q8 lo n) [it] it (fun i h=>IsRangeIter h it (lo+(i:Nat)*1) ((n:Int) - (i:Nat)) 1) where
 mem:=by simp
 obj:=fun i h st b hb=>by
  have e:b=it:=by simpa using hb
  subst e;exact ⟨_,st,fun v z=>by
   have z':Data.fields _=Data.cell v:=z;cases z'⟩
 keep:=fun i h h' st k=>k it (by simp) _ st
 item:=by
  intro X hP hw hK hc i pins s σ H E I hf st hg;subst hP hw hK;obtain ⟨f0,f1,f2,f3,f4,f5⟩:=hf it (by simp);have W:=Walks.range (prog:=X.prog) (w:=X.w) (I.ok.hd hc) it lo 1 n;refine W.item i s _ _ hg st fun v h' tk hv st' kk=>?_
  obtain ⟨t,rfl⟩:=hv;have I1:Inv X pins σ H {s with heap:=h',toks:=tk}:=I.turned (fun b o hb e=>kk b o (by simpa using hb) e) f0 f1 f3 f4 f5;refine ⟨_,rfl,gL (s:={s with heap:=h',toks:=tk}) (n:="range_iterator") st' rfl rfl (by decide) ⟨.int (lo+i),H,I1,⟨t,?_⟩,⟨rfl,rfl⟩,st',fun b hb=>(hf b hb).1⟩⟩;rw [Int.mul_one]
 done:=by
  intro X hP hw hK hc i pins s σ H E I hf st hg;subst hP hw hK;obtain ⟨f0,f1,f2,f3,f4,f5⟩:=hf it (by simp);exact wpAny_pyNext_range_end (I.ok.hd hc) st (by have:n≤i:=hg;omega) fun h' eb=>⟨rfl,I.turned (t':=s.toks) (fun b o hb e=>eb b o hb e) f0 f1 f3 f4 f5⟩
 self:=fun _ _ _ _ _ st h=>wpAny_pyIter_rangeiter st h
end L2
namespace L2
open PySem PySem.Spec PyProof.Rows
section
variable {X:Cx} {tg:Expr}
def NW (K:PySem.W.Frag) (tl:TE):TI:=fun σ H R=>tl σ H fun x H1=>∃a,x=.ref a∧(∃xs,SqL K H1 a xs)∧R (Z7 K a) H1
def OP (K:PySem.W.Frag) (tl:TE):TI:=fun σ H R=>tl σ H fun x H1=>∃a,x=.ref a∧(∃xs,SqT K H1 a xs)∧R (mF K a) H1
theorem vA {l:Expr} {tl:TE} (hl:PE X l tl):PI X tg l (NW X.K tl):=by
 intro pins s σ H R I h;refine jQ (hl pins s σ H _ I h) fun v s1 ⟨x,H1,I1,r1,q1⟩=>?_
 obtain ⟨a,e,⟨xs,hq⟩,q⟩:=q1;subst e;cases r1;obtain ⟨its,rv,p,hz⟩:=I1.list hq;refine wpAny_pyIter_list p.isList ?_;refine ⟨s1.heap.objs.size,[s1.heap.objs.size],_,_,H1,rfl,I1.kept (t':=s1.toks) fun b o e=>Heap.get?_push_of_some _ e,FX a _,⟨_,Heap.get?_push_size _ rfl,rfl,rfl⟩,fun b hb=>?_,q⟩;have e:b=s1.heap.objs.size:=by simpa using hb
 subst e;exact I1.fpOk (Nat.le_refl _) (I1.hok.fresh (Nat.le_refl _))
theorem MU {l:Expr} {tl:TE} (hl:PE X l tl):PI X tg l (OP X.K tl):=by
 intro pins s σ H R I h;refine jQ (hl pins s σ H _ I h) fun v s1 ⟨x,H1,I1,r1,q1⟩=>?_
 obtain ⟨a,e,⟨xs,hq⟩,q⟩:=q1;subst e;cases r1;obtain ⟨its,rv,p,hz⟩:=I1.tuple hq;refine wpAny_pyIter_tuple (show s1.heap.IsTuple a its.toArray from p) ?_;refine ⟨s1.heap.objs.size,[s1.heap.objs.size],_,_,H1,rfl,I1.kept (t':=s1.toks) fun b o e=>Heap.get?_push_of_some _ e,E2 a _,⟨_,Heap.get?_push_size _ rfl,rfl,rfl⟩,fun b hb=>?_,q⟩;have e:b=s1.heap.objs.size:=by simpa using hb
 subst e;exact I1.fpOk (Nat.le_refl _) (I1.hok.fresh (Nat.le_refl _))
theorem IO {pins:List (Addr×Obj)} {σ:St} {H:Hp} {s:Shared} {R:It→Hp→Prop} {E:Value→Shared→Prop} {lo hi:Int} {t u v:Tok} {tk:Nat} (I:Inv X pins σ H s) (h1 : -(2 ^ 62)≤lo) (h2:lo<2 ^ 62) (h3 : -(2 ^ 62)≤hi) (h4:hi<2 ^ 62)
    (q:R (Q8 lo (hi - lo).toNat) H):wpAny (model X.prog X.w) X.A (pyIter (.ref s.heap.objs.size)) (mC X pins σ tg R) E {s with heap:=s.heap.push {cls:=.type "range",data:=.fields #[.int lo t,.int hi u,.int 1 v]},toks:=tk}:=by
  refine wpAny_pyIter_range (IsRange.new ..) (small_one h1 h2 h3 h4) ?_;have I1:Inv X pins σ H {s with heap:=s.heap.push {cls:=.type "range",data:=.fields #[.int lo t,.int hi u,.int 1 v]},toks:=tk}:=I.kept fun b o e=>Heap.get?_push_of_some _ e
  refine ⟨(s.heap.push {cls:=.type "range",data:=.fields #[.int lo t,.int hi u,.int 1 v]}).objs.size,[(s.heap.push {cls:=.type "range",data:=.fields #[.int lo t,.int hi u,.int 1 v]}).objs.size],_,_,H,rfl,
    I1.kept (t':=tk) fun b o e=>Heap.get?_push_of_some _ e,E3 _ lo (hi - lo).toNat,?_,fun b hb=>?_,q⟩
  · have e1:lo+((0:Nat):Int)*1=lo:=by simp
    have e2:(((hi - lo).toNat:Nat):Int) - ((0:Nat):Int)=Builtin.Range.rangeSize lo hi 1:=by rw [rangeSize_one];split<;>omega
    show IsRangeIter _ _ (lo+((0:Nat):Int)*1) ((((hi - lo).toNat:Nat):Int) - ((0:Nat):Int)) 1;rw [e1,e2];exact Heap.get?_push_size _ rfl
  · have e:b=(s.heap.push {cls:=.type "range",data:=.fields #[.int lo t,.int hi u,.int 1 v]}).objs.size:=by simpa using hb
    subst e;exact I1.fpOk (Nat.le_refl _) (I1.hok.fresh (Nat.le_refl _))
def NV (ta:TA):TI:=fun σ H R=>ta σ H fun vs H1=>∃j:Int,vs=[.int j]∧-(2 ^ 62)≤j∧j<2 ^ 62∧R (Q8 0 j.toNat) H1
theorem zY {a:Expr} {ta:TA} {p pos:Pos} (hg:Gl X "range") (hm:X.mg "range"=none) (ha:PA X [a] ta) (hs:starEach [a] X.env=[(false,eval a X.env)]:=by rfl):PI X tg (.Call (.Name "range" p) [a] [] pos) (NV ta):=by
 intro pins s σ H R I h;refine Call_ (JD I hg hm boot_range (PyProof.Rows.callWith_type1 (jQ (ha pos pins s σ H _ I h) fun us s1 ⟨vs,H1,I1,r1,q1⟩=>?_) hs rfl));obtain ⟨j,e,q1,q2,q⟩:=q1;subst e;cases r1 with
 |cons r rr =>
  cases rr;obtain ⟨t,rfl⟩:=r;exact call_range_1 (IO I1 (by omega) (by omega) q1 q2 (by simpa using q))
def OD (wi:TI) (g:TG) (tb:TS):TS:=fun D σ H=>wi σ H fun J H1=>∃W:Nat→Nat→St→Hp→Prop,(∃m,W 0 m σ H1)∧∀i m σ H,W i m σ H→
 (J.stop i H∧D.nx σ H)∨(J.go i H∧∃N:St→Hp→Prop,(∀σ' H',N σ' H'→∃m',m'<m∧W (i+1) m' σ' H')∧∀x H',J.yld i H x H'→g x σ H' fun σ2 H2=>tb {D with nx:=N,ct:=N,bk:=D.nx} σ2 H2)
def gA (fp:List Addr) (h:Heap):List (Addr×Obj):=fp.filterMap fun b=>(h.get? b).map fun o=>(b,o)
theorem iI {fp:List Addr} {h:Heap} {b:Addr} {o:Obj} (hb:b∈fp) (e:h.get? b=some o):(b,o)∈gA fp h:=List.mem_filterMap.mpr ⟨b,hb,by rw [e];rfl⟩
theorem GO {fp:List Addr} {h:Heap} {p:Addr×Obj} (hp:p∈gA fp h):p.1∈fp∧h.get? p.1=some p.2:=by
 obtain ⟨b,hb,e⟩:=List.mem_filterMap.mp hp;cases q:h.get? b with
 |none=>rw [q] at e;cases e
 |some o =>
  rw [q] at e;have e':(b,o)=p:=Option.some.inj e;subst e';exact ⟨hb,q⟩
theorem Inv.pinned {pins:List (Addr×Obj)} {σ:St} {H:Hp} {s:Shared} {fp:List Addr} (I:Inv X pins σ H s) (hf:∀b∈fp,zT X pins H b) (ho:∀b∈fp,∃o,s.heap.get? b=some o∧∀v,o.data≠.cell v):Inv X (pins++gA fp s.heap) σ H s :=
 I.pins_of fun p hp=>(List.mem_append.mp hp).elim (fun z=>I.pin p (List.mem_append_right _ z)) fun z=>by
  obtain ⟨hb,e⟩:=GO z;obtain ⟨f0,f1,f2,_⟩:=hf p.1 hb;obtain ⟨o,e',d⟩:=ho p.1 hb;rw [e] at e';cases e'
  exact ⟨e,f0,f1,f2,d⟩
theorem Inv.unpinned {pins pl:List (Addr×Obj)} {σ:St} {H:Hp} {s:Shared} (I:Inv X (pins++pl) σ H s):Inv X pins σ H s:=I.pins_of fun p hp=>I.pin p (List.mem_append_right _ (List.mem_append_left _ hp))
theorem vM {iter:Expr} {body:List Stmt} {wi:TI} {g:TG} {tb:TS} {pos:Pos} (hp:PassesOwn (model X.prog X.w) X.A X.env X.xe) (hc:X.calm=true) (hi:PI X tg iter wi) (hg:PG X tg g) (hb:PSs X body tb)
  (hs:∀x,foldedSetIterable iter X.env x=pure x:=by intro _;rfl):PS X (.For tg iter body [] pos) (OD wi g tb):=by
 intro pins s σ H D I h;refine wpAny_For (jQ (hi pins s σ H _ I h) fun v s1 h1=>jQ h1 fun itv s2 h2=>?_) hs;obtain ⟨it,fp,tn,J,H2,e,I2,T,st2,f2,W,⟨m0,w0⟩,turn⟩:=h2;subst e;have stat:∀{H':Hp},(∀b∈fp,H' b=none)→∀b∈fp,zT X pins H' b:=fun hn b hb=>⟨hn b hb,(f2 b hb).2⟩
 refine codeAny_forLoop_any (fun n s'=>∃i σ' H',Inv X pins σ' H' s'∧tn i s'.heap∧(∀b∈fp,H' b=none)∧W i n σ' H') ?_ m0 ⟨0,σ,H2,I2,st2,fun b hb=>(f2 b hb).1,w0⟩;rintro n s3 ⟨i,σ3,H3,I3,st3,fr3,w3⟩
 rcases turn i n σ3 H3 w3 with ⟨stop,qn⟩|⟨go,N,hN,step⟩
 ·refine wpAny_passesOwn hp (jQ (T.done X rfl rfl rfl hc i pins s3 σ3 H3 X.xe I3 (stat fr3) st3 stop) fun r s4 ⟨hr,I4⟩=>?_);subst hr;exact wpAny_execs_nil ⟨σ3,H3,I4,qn⟩
 ·refine wpAny_passesOwn hp (jQ (T.item X rfl rfl rfl hc i pins s3 σ3 H3 X.xe I3 (stat fr3) st3 go) fun r s4 ⟨u,hr,h4⟩=>?_);subst hr;refine wpAny_passesOwn hp (jQ h4 fun _ s5 ⟨x,H5,I5,r5,y5,st5,fr5⟩=>?_);have I5':=I5.pinned (stat fr5) (T.obj _ _ st5);refine wpAny_passesOwn hp (jQ (hg _ s5 σ3 H5 x u _ I5' r5 (step x H5 y5)) fun _ s6 ⟨σ6,H6,I6,q6⟩=>?_);refine wpAny_passesOwn hp (jQ (hb _ s6 σ6 H6 _ I6 q6) fun f s7 q7=>?_);have again:∀{σ7:St} {H7:Hp},Inv X (pins++gA fp s5.heap) σ7 H7 s7→N σ7 H7→∃m,m<n∧∃i σ' H',Inv X pins σ' H' s7∧tn i s7.heap∧(∀b∈fp,H' b=none)∧W i m σ' H':=fun {σ7 H7} I7 n7=>by
   obtain ⟨m',hm,w7⟩:=hN σ7 H7 n7;refine ⟨m',hm,i+1,σ7,H7,I7.unpinned,T.keep _ _ _ st5 fun b hb o e=>(I7.pin (b,o) (List.mem_append_right _ (List.mem_append_right _ (iI hb e)))).1,fun b hb=>?_,w7⟩;obtain ⟨o,e,d⟩:=T.obj _ _ st5 b hb;exact (I7.pin (b,o) (List.mem_append_right _ (List.mem_append_right _ (iI hb e)))).2.1
  cases f with
  |next=>obtain ⟨σ7,H7,I7,n7⟩:=q7;exact again I7 n7
  |cont=>obtain ⟨σ7,H7,I7,n7⟩:=q7;exact again I7 n7
  |brk=>obtain ⟨σ7,H7,I7,q7⟩:=q7;exact ⟨σ7,H7,I7.unpinned,q7⟩
  |ret v=>obtain ⟨x7,σ7,H7,I7,r7,q7⟩:=q7;exact ⟨x7,σ7,H7,I7.unpinned,r7,q7⟩
end
theorem dW {K:PySem.W.Frag} {a:Addr} {xs:List V} {g:TG} {tb:TS} {D:Ends} {σ:St} {H:Hp} (Pv:Nat→St→Hp→Prop) (h0:Pv 0 σ H) (hl:∀i σ H,i≤xs.length→Pv i σ H→SqL K H a xs)
    (hs:∀i x σ H,xs[i]?=some x→Pv i σ H→g x σ H fun σ2 H2=>tb {D with nx:=Pv (i+1),ct:=Pv (i+1),bk:=D.nx} σ2 H2) (hd:∀σ H,Pv xs.length σ H→D.nx σ H) :
    ∃W:Nat→Nat→St→Hp→Prop,(∃m,W 0 m σ H)∧∀i m σ H,W i m σ H→
      ((Z7 K a).stop i H∧D.nx σ H)∨((Z7 K a).go i H∧∃N:St→Hp→Prop,(∀σ' H',N σ' H'→∃m',m'<m∧W (i+1) m' σ' H')∧∀x H',(Z7 K a).yld i H x H'→g x σ H' fun σ2 H2=>tb {D with nx:=N,ct:=N,bk:=D.nx} σ2 H2):=by
  refine ⟨fun i m σ H=>m=xs.length - i∧i≤xs.length∧Pv i σ H,⟨xs.length,by simp,Nat.zero_le _,h0⟩,?_⟩;rintro i m σ H ⟨rfl,hi,p⟩;have q:=hl i σ H hi p
  by_cases hlt:i<xs.length
  · refine .inr ⟨⟨xs,xs[i],q,by simp [hlt]⟩,Pv (i+1),fun σ' H' p'=>⟨xs.length - (i+1),by omega,rfl,hlt,p'⟩,fun x H' y=>?_⟩
    obtain ⟨e,y⟩:=y;subst e;exact hs i x σ _ (y xs q) p
  · have e:i=xs.length:=by omega
    subst e;exact .inl ⟨⟨xs,q,Nat.le_refl _⟩,hd σ H p⟩
theorem HK {lo:Int} {n:Nat} {g:TG} {tb:TS} {D:Ends} {σ:St} {H:Hp} (Pv:Nat→St→Hp→Prop) (h0:Pv 0 σ H)
  (hs:∀i σ H,i<n→Pv i σ H→g (.int (lo+i)) σ H fun σ2 H2=>tb {D with nx:=Pv (i+1),ct:=Pv (i+1),bk:=D.nx} σ2 H2) (hd:∀σ H,Pv n σ H→D.nx σ H) :
  ∃W:Nat→Nat→St→Hp→Prop,(∃m,W 0 m σ H)∧∀i m σ H,W i m σ H→
   ((Q8 lo n).stop i H∧D.nx σ H)∨((Q8 lo n).go i H∧∃N:St→Hp→Prop,(∀σ' H',N σ' H'→∃m',m'<m∧W (i+1) m' σ' H')∧∀x H',(Q8 lo n).yld i H x H'→g x σ H' fun σ2 H2=>tb {D with nx:=N,ct:=N,bk:=D.nx} σ2 H2):=by
 refine ⟨fun i m σ H=>m=n - i∧i≤n∧Pv i σ H,⟨n,by simp,Nat.zero_le _,h0⟩,?_⟩;rintro i m σ H ⟨rfl,hi,p⟩
 by_cases hlt:i<n
 ·refine .inr ⟨hlt,Pv (i+1),fun σ' H' p'=>⟨n - (i+1),by omega,rfl,hlt,p'⟩,fun x H' y=>?_⟩;obtain ⟨e,y⟩:=y;subst e y;exact hs i σ _ hlt p
 ·have e:i=n:=by omega
  subst e;exact .inl ⟨Nat.le_refl _,hd σ H p⟩
end L2
namespace L2
open PySem PySem.Spec PyProof.Rows
abbrev R2:=V→V→Hp→VK→Prop
def qA (X:Cx) (f:Value→Value→Sem Value) (r:R2):Prop :=
 ∀(pins:List (Addr×Obj)) (s:Shared) (σ:St) (H:Hp) (x y:V) (v u:Value) (Q:VK),Inv X pins σ H s→RelV x v→RelV y u→r x y H Q→
  wpAny (model X.prog X.w) X.A (f v u) (EP X pins σ Q) X.xe s
def pQ (X:Cx) (f:Value→Sem Value) (r:V→Hp→VK→Prop):Prop :=
 ∀(pins:List (Addr×Obj)) (s:Shared) (σ:St) (H:Hp) (x:V) (v:Value) (Q:VK),Inv X pins σ H s→RelV x v→r x H Q→
  wpAny (model X.prog X.w) X.A (f v) (EP X pins σ Q) X.xe s
def yK (X:Cx) (f:Value) (r:List V→Hp→VK→Prop):Prop :=
 ∀(pins:List (Addr×Obj)) (s:Shared) (σ:St) (H:Hp) (xs:List V) (us:List Value) (Q:VK),Inv X pins σ H s→Vals xs us→r xs H Q→
  wpAny (model X.prog X.w) X.A (call f us) (EP X pins σ Q) X.xe s
def OV (X:Cx) (r:V→Hp→(Bool→Hp→Prop)→Prop):Prop :=
 ∀(pins:List (Addr×Obj)) (s:Shared) (σ:St) (H:Hp) (x:V) (v:Value) (Q:Bool→Hp→Prop),Inv X pins σ H s→RelV x v→r x H Q→
  wpAny (model X.prog X.w) X.A (truthy v) (TP X pins σ Q) X.xe s
def Z1 (r:R2) (ta tb:TE):TE:=fun σ H Q=>ta σ H fun x H1=>tb σ H1 fun y H2=>r x y H2 Q
def O0 (r:V→Hp→VK→Prop) (ta:TE):TE:=fun σ H Q=>ta σ H fun x H1=>r x H1 Q
def rI (C:Int→Int→Prop) (g:Int→Int→V):R2:=fun x y H Q=>∃i j,x=.int i∧y=.int j∧C i j∧Q (g i j) H
def Q6 (g:Int→Int→V):R2:=fun x y H Q=>∃i j,x=.int i∧y=.int j∧Q (g i j) H
def rU (g:Int→V):V→Hp→VK→Prop:=fun x H Q=>∃i,x=.int i∧Q (g i) H
section
variable {X:Cx} {a b c:Expr} {ta tb tc:TE} {pos:Pos}
theorem pI (ha:PE X a ta) (hb:PE X b tb) {pins:List (Addr×Obj)} {s:Shared} {σ:St} {H:Hp} {R:V→V→Hp→Prop} (I:Inv X pins σ H s)
  (h:ta σ H fun x H1=>tb σ H1 fun y H2=>R x y H2) {Q:Value→Shared→Prop} {f:Value→Value→Sem Value}
  (hf:∀v u s2 x y H2,Inv X pins σ H2 s2→RelV x v→RelV y u→R x y H2→wpAny (model X.prog X.w) X.A (f v u) Q X.xe s2) :
  wpAny (model X.prog X.w) X.A (eval a X.env) (fun v s₁=>wpAny (model X.prog X.w) X.A (eval b X.env) (fun u s₂=>wpAny (model X.prog X.w) X.A (f v u) Q X.xe s₂) X.xe s₁) X.xe s:=by
 refine jQ (ha pins s σ H _ I h) fun v s1 ⟨x,H1,I1,r1,q1⟩=>?_
 refine jQ (hb pins s1 σ H1 _ I1 q1) fun u s2 ⟨y,H2,I2,r2,q2⟩=>?_
 exact hf v u s2 x y H2 I2 r1 r2 q2
theorem jE {op:Operator} {r:R2} (ho:qA X (binaryOp op) r) (ha:PE X a ta) (hb:PE X b tb):PE X (.BinOp a op b pos) (Z1 r ta tb):=by
 intro pins s σ H Q I h;exact wpAny_BinOp (pI ha hb I h fun v u s2 x y H2 I2 rx ry q=>ho pins s2 σ H2 x y v u Q I2 rx ry q)
theorem eA {op:UnaryOp} {r:V→Hp→VK→Prop} (ho:pQ X (unaryOp op) r) (ha:PE X a ta):PE X (.UnaryOp op a pos) (O0 r ta):=by
 intro pins s σ H Q I h;exact UnaryOp_ (jQ (ha pins s σ H _ I h) fun v s1 ⟨x,H1,I1,r1,q1⟩=>ho pins s1 σ H1 x v Q I1 r1 q1)
theorem lZ {f:Value→Value→Sem Value} {C:Int→Int→Prop} {g:Int→Int→Int}
  (rule:∀(i j:Int) (t u:Tok) (s:Shared) (Q:Value→Shared→Prop) (E:Value→Shared→Prop),C i j→Q (.int (g i j) s.toks) {s with toks:=s.toks+1}→wpAny (model X.prog X.w) X.A (f (.int i t) (.int j u)) Q E s) :
  qA X f (rI C fun i j=>.int (g i j)):=by
 intro pins s σ H x y v u Q I rx ry h;obtain ⟨i,j,rfl,rfl,hc,q⟩:=h;obtain ⟨t,rfl⟩:=rx;obtain ⟨t',rfl⟩:=ry;exact rule i j t t' s _ _ hc ⟨.int (g i j),H,I.tok _,⟨_,rfl⟩,q⟩
theorem AZ {f:Value→Value→Sem Value} {g:Int→Int→Int}
  (rule:∀(i j:Int) (t u:Tok) (s:Shared) (Q:Value→Shared→Prop) (E:Value→Shared→Prop),Q (.int (g i j) s.toks) {s with toks:=s.toks+1}→wpAny (model X.prog X.w) X.A (f (.int i t) (.int j u)) Q E s) :
  qA X f (Q6 fun i j=>.int (g i j)):=by
 intro pins s σ H x y v u Q I rx ry h;obtain ⟨i,j,rfl,rfl,q⟩:=h;obtain ⟨t,rfl⟩:=rx;obtain ⟨t',rfl⟩:=ry;exact rule i j t t' s _ _ ⟨.int (g i j),H,I.tok _,⟨_,rfl⟩,q⟩
theorem lV {f:Value→Value→Sem Value} {g:Int→Int→Bool}
  (rule:∀(i j:Int) (t u:Tok) (s:Shared) (Q:Value→Shared→Prop) (E:Value→Shared→Prop),Q (.bool (g i j)) s→wpAny (model X.prog X.w) X.A (f (.int i t) (.int j u)) Q E s) :
  qA X f (Q6 fun i j=>.bl (g i j)):=by
 intro pins s σ H x y v u Q I rx ry h;obtain ⟨i,j,rfl,rfl,q⟩:=h;obtain ⟨t,rfl⟩:=rx;obtain ⟨t',rfl⟩:=ry;exact rule i j t t' s _ _ ⟨.bl (g i j),H,I,rfl,q⟩
def OY (i j:Int):Prop:=0<j∧j<1073741824
def OX (i j:Int):Prop:=0≤j∧j≤1000000∧i.natAbs<2 ^ 64
def CMul (i j:Int):Prop:=(-(2 ^ 64)<i∧i<2 ^ 64)∨(-(2 ^ 64)<j∧j<2 ^ 64)
theorem CMul.ok {i j:Int} (h:CMul i j):IntMulOk i j:=by
 rcases h with ⟨h1,h2⟩|⟨h1,h2⟩
 ·exact .of_left (intBits_le_64 h1 h2)
 ·exact .of_right (intBits_le_64 h1 h2)
theorem qI:qA X (binaryOp .Add) (Q6 fun i j=>.int (i+j)):=AZ fun _ _ _ _ _ _ _ q=>add_int q
theorem JB:qA X (binaryOp .Sub) (Q6 fun i j=>.int (i - j)):=AZ fun _ _ _ _ _ _ _ q=>sub_int q
theorem QW:qA X (binaryOp .Mult) (rI CMul fun i j=>.int (i*j)):=lZ fun _ _ _ _ _ _ _ hc q=>mul_int q hc.ok
theorem q8:qA X (binaryOp .FloorDiv) (rI OY fun i j=>.int (i / j)):=lZ fun i j _ _ _ _ _ hc q=>by
 have h1:(0:Int)<j:=hc.1;have h2:j<1073741824:=hc.2;exact floordiv_int (by omega) (by rw [Int.fdiv_eq_ediv_of_nonneg i (by omega)];exact q) (.inl (PyProof.noPylong_small (by omega)))
theorem kJ:qA X (binaryOp .Mod) (rI (fun _ j=>0<j) fun i j=>.int (i%j)):=lZ fun i j _ _ _ _ _ hc q=>by
 have h1:(0:Int)<j:=hc;exact mod_int' (by omega) (by rw [Int.fmod_eq_emod_of_nonneg i (by omega)];exact q)
theorem zG:qA X (binaryOp .Pow) (rI OX fun i j=>.int (i ^ j.toNat)):=lZ fun _ _ _ _ _ _ _ hc q=>pow_int_small hc.1 hc.2.1 hc.2.2 q
theorem OZ {f:Value→Sem Value} {g:Int→Int}
  (rule:∀(i:Int) (t:Tok) (s:Shared) (Q:Value→Shared→Prop) (E:Value→Shared→Prop),Q (.int (g i) s.toks) {s with toks:=s.toks+1}→wpAny (model X.prog X.w) X.A (f (.int i t)) Q E s) :
  pQ X f (rU fun i=>.int (g i)):=by
 intro pins s σ H x v Q I rx h;obtain ⟨i,rfl,q⟩:=h;obtain ⟨t,rfl⟩:=rx;exact rule i t s _ _ ⟨.int (g i),H,I.tok _,⟨_,rfl⟩,q⟩
theorem d7:pQ X (unaryOp .USub) (rU fun i=>.int (-i)):=OZ fun _ _ _ _ _ q=>neg_int q
end
def AU:V→V→Bool
 |.non,.non=>true|.non,.int _=>true|.int _,.non=>true|.non,.bl _=>true|.bl _,.non=>true|.non,.str _=>true|.str _,.non=>true
 |.int _,.int _=>true|.bl _,.bl _=>true|.str _,.str _=>true|.byt _,.byt _=>true
 |.int _,.str _=>true|.str _,.int _=>true|.bl _,.str _=>true|.str _,.bl _=>true
 |_,_=>false
def O5:R2:=fun x y H Q=>AU x y=true∧Q (.bl (decide (x=y))) H
def O4:R2:=fun x y H Q=>AU x y=true∧Q (.bl (!decide (x=y))) H
theorem xH {i j:Int}:decide (V.int i=V.int j)=(i == j):=by
 rw [Bool.eq_iff_iff];simp
theorem AA {i j:Bool}:decide (V.bl i=V.bl j)=(i == j):=by
 rw [Bool.eq_iff_iff];simp
theorem xG {i j:Str}:decide (V.str i=V.str j)=(i == j):=by
 rw [Bool.eq_iff_iff];simp
theorem xI {i j:Array UInt8}:decide (V.byt i=V.byt j)=(i.toList == j.toList):=by
 rw [Bool.eq_iff_iff];cases i;cases j;simp
section
variable {X:Cx} {a b c:Expr} {ta tb tc:TE} {pos:Pos}
theorem qJ {pins:List (Addr×Obj)} {σ:St} {H:Hp} {s:Shared} {Q:VK} {k k':Bool} (I:Inv X pins σ H s) (q:Q (.bl k) H) (e:k=k'):EP X pins σ Q (.bool k') s:=by
 subst e;exact ⟨.bl k,H,I,rfl,q⟩
theorem kF:qA X (compareOp .Eq) O5:=by
 intro pins s σ H x y v u Q I rx ry h;obtain ⟨hs,q⟩:=h;cases x with
 |non =>
  cases rx;cases y with
  |non=>cases ry;exact PySem.EqNone.eq_none_none (qJ I q (by simp))
  |bl j=>cases ry;exact PySem.EqNone.eq_none_bool (qJ I q (by simp))
  |int j=>obtain ⟨t',rfl⟩:=ry;exact PySem.EqNone.eq_none_int (qJ I q (by simp))
  |str j=>obtain ⟨t',rfl⟩:=ry;exact PySem.EqNone.eq_none_str (qJ I q (by simp))
  |_=>exact absurd (show false=true from hs) Bool.false_ne_true
 |bl i =>
  cases rx;cases y with
  |non=>cases ry;exact PySem.EqNone.eq_bool_none (qJ I q (by simp))
  |bl j=>cases ry;exact eq_bool (qJ I q AA)
  |str j=>obtain ⟨t',rfl⟩:=ry;exact PySem.EqMixed.eq_bool_str (qJ I q (by simp))
  |_=>exact absurd (show false=true from hs) Bool.false_ne_true
 |int i =>
  obtain ⟨t,rfl⟩:=rx;cases y with
  |non=>cases ry;exact PySem.EqNone.eq_int_none (qJ I q (by simp))
  |int j=>obtain ⟨t',rfl⟩:=ry;exact eq_int (qJ I q xH)
  |str j=>obtain ⟨t',rfl⟩:=ry;exact PySem.EqMixed.eq_int_str (qJ I q (by simp))
  |_=>exact absurd (show false=true from hs) Bool.false_ne_true
 |str i =>
  obtain ⟨t,rfl⟩:=rx;cases y with
  |non=>cases ry;exact PySem.EqNone.eq_str_none (qJ I q (by simp))
  |bl j=>cases ry;exact PySem.EqMixed.eq_str_bool (qJ I q (by simp))
  |int j=>obtain ⟨t',rfl⟩:=ry;exact PySem.EqMixed.eq_str_int (qJ I q (by simp))
  |str j=>obtain ⟨t',rfl⟩:=ry;exact eq_str (qJ I q xG)
  |_=>exact absurd (show false=true from hs) Bool.false_ne_true
 |byt i =>
  obtain ⟨t,rfl⟩:=rx;cases y with
  |byt j=>obtain ⟨t',rfl⟩:=ry;exact PySem.W.eq_bytes (qJ I q xI)
  |_=>exact absurd (show false=true from hs) Bool.false_ne_true
 |_=>cases y<;>exact absurd (show false=true from hs) Bool.false_ne_true
theorem vI:qA X (compareOp .NotEq) O4:=by
 intro pins s σ H x y v u Q I rx ry h;obtain ⟨hs,q⟩:=h;cases x with
 |non =>
  cases rx;cases y with
  |non=>cases ry;exact PySem.EqNone.ne_none_none (qJ I q (by simp))
  |bl j=>cases ry;exact PySem.EqNone.ne_none_bool (qJ I q (by simp))
  |int j=>obtain ⟨t',rfl⟩:=ry;exact PySem.EqNone.ne_none_int (qJ I q (by simp))
  |str j=>obtain ⟨t',rfl⟩:=ry;exact PySem.EqNone.ne_none_str (qJ I q (by simp))
  |_=>exact absurd (show false=true from hs) Bool.false_ne_true
 |bl i =>
  cases rx;cases y with
  |non=>cases ry;exact PySem.EqNone.ne_bool_none (qJ I q (by simp))
  |bl j=>cases ry;exact ne_bool (qJ I q (congrArg not AA))
  |str j=>obtain ⟨t',rfl⟩:=ry;exact PySem.EqMixed.ne_bool_str (qJ I q (by simp))
  |_=>exact absurd (show false=true from hs) Bool.false_ne_true
 |int i =>
  obtain ⟨t,rfl⟩:=rx;cases y with
  |non=>cases ry;exact PySem.EqNone.ne_int_none (qJ I q (by simp))
  |int j=>obtain ⟨t',rfl⟩:=ry;exact ne_int (qJ I q (congrArg not xH))
  |str j=>obtain ⟨t',rfl⟩:=ry;exact PySem.EqMixed.ne_int_str (qJ I q (by simp))
  |_=>exact absurd (show false=true from hs) Bool.false_ne_true
 |str i =>
  obtain ⟨t,rfl⟩:=rx;cases y with
  |non=>cases ry;exact PySem.EqNone.ne_str_none (qJ I q (by simp))
  |bl j=>cases ry;exact PySem.EqMixed.ne_str_bool (qJ I q (by simp))
  |int j=>obtain ⟨t',rfl⟩:=ry;exact PySem.EqMixed.ne_str_int (qJ I q (by simp))
  |str j=>obtain ⟨t',rfl⟩:=ry;exact ne_str (qJ I q (congrArg not xG))
  |_=>exact absurd (show false=true from hs) Bool.false_ne_true
 |byt i =>
  obtain ⟨t,rfl⟩:=rx;cases y with
  |byt j=>obtain ⟨t',rfl⟩:=ry;exact PySem.W.ne_bytes (qJ I q (congrArg not xI))
  |_=>exact absurd (show false=true from hs) Bool.false_ne_true
 |_=>cases y<;>exact absurd (show false=true from hs) Bool.false_ne_true
theorem zQ:qA X (compareOp .Lt) (Q6 fun i j=>.bl (decide (i<j))):=lV fun _ _ _ _ _ _ _ q=>lt_int q
theorem eD:qA X (compareOp .LtE) (Q6 fun i j=>.bl (decide (i≤j))):=lV fun _ _ _ _ _ _ _ q=>le_int q
theorem eE:qA X (compareOp .Gt) (Q6 fun i j=>.bl (decide (j<i))):=lV fun _ _ _ _ _ _ _ q=>gt_int q
theorem gK:qA X (compareOp .GtE) (Q6 fun i j=>.bl (decide (j≤i))):=lV fun _ _ _ _ _ _ _ q=>ge_int q
theorem GM:qA X (compareOp .In) (fun x y H Q=>∃i j,x=.str i∧y=.str j∧Q (.bl (!(Builtin.Str.occurrences j i 0 j.length 1).isEmpty)) H):=by
 intro pins s σ H x y v u Q I rx ry h;obtain ⟨i,j,rfl,rfl,q⟩:=h;obtain ⟨t,rfl⟩:=rx;obtain ⟨t',rfl⟩:=ry;exact in_str (qJ I q rfl)
theorem MZ:qA X (compareOp .Is) (fun x y H Q=>y=.non∧Q (.bl (decide (x=.non))) H):=by
 intro pins s σ H x y v u Q I rx ry h;obtain ⟨rfl,q⟩:=h;cases ry;refine is_none_gen (qJ I q ?_);cases x<;>first
  | (cases rx;rfl)
  | (obtain ⟨t,rfl⟩:=rx;rfl)
theorem rD:qA X (compareOp .NotIn) (fun x y H Q=>∃i j,x=.str i∧y=.str j∧Q (.bl (!(!(Builtin.Str.occurrences j i 0 j.length 1).isEmpty))) H):=by
 intro pins s σ H x y v u Q I rx ry h;obtain ⟨i,j,rfl,rfl,q⟩:=h;obtain ⟨t,rfl⟩:=rx;obtain ⟨t',rfl⟩:=ry;exact notIn_str (qJ I q rfl)
theorem pT (b:Expr) {op:CmpOp} (h:op≠.In:=by decide) (h2:op≠.NotIn:=by decide):behindInMarks op b=false:=by
 have e1:(op == CmpOp.In)=false:=by cases op<;>first|rfl|exact absurd rfl h
 have e2:(op == CmpOp.NotIn)=false:=by cases op<;>first|rfl|exact absurd rfl h2
 cases b<;>simp [behindInMarks,e1,e2]
theorem LK {op:CmpOp} {r:R2} (ho:qA X (compareOp op) r) (ha:PE X a ta) (hb:PE X b tb) (hm:behindInMarks op b=false):PE X (.Compare a [op] [b] pos) (Z1 r ta tb):=by
 intro pins s σ H Q I h;exact wpAny_Compare1 (pI ha hb I h fun v u s2 x y H2 I2 rx ry q=>ho pins s2 σ H2 x y v u Q I2 rx ry q) hm
def o6 (t:TE):TT:=fun σ H Q=>t σ H fun x H'=>∃k,x=.bl k∧Q k H'
theorem BJ {op:CmpOp} {r:R2} (ho:qA X (compareOp op) r) (ha:PE X a ta) (hb:PE X b tb) (hm:behindInMarks op b=false):PT X (.Compare a [op] [b] pos) (o6 (Z1 r ta tb)):=by
 intro pins s σ H Q I h;refine wpAny_isTrue_Compare1 (jQ (ha pins s σ H _ I h) fun v s1 ⟨x,H1,I1,r1,q1⟩=>jQ (hb pins s1 σ H1 _ I1 q1) fun u s2 ⟨y,H2,I2,r2,q2⟩ =>
  jQ (ho pins s2 σ H2 x y v u _ I2 r1 r2 q2) fun c s3 ⟨z,H3,I3,r3,k,e,q3⟩=>?_) hm
 subst e;cases r3;exact wpAny_truthy_bool ⟨H3,I3,q3⟩
def xN (r r':R2) (ta tb tc:TE):TE:=fun σ H Q=>ta σ H fun x H1=>tb σ H1 fun y H2=>r x y H2 fun z H3=>∃k,z=.bl k∧
 (if k=true then tc σ H3 fun w' H4=>r' y w' H4 Q else Q (.bl false) H3)
theorem n3 {op op':CmpOp} {r r':R2} (ho:qA X (compareOp op) r) (ho':qA X (compareOp op') r') (ha:PE X a ta) (hb:PE X b tb) (hc:PE X c tc)
  (hm:lastMarks [op,op'] [b,c]=false:=by with_unfolding_all rfl):PE X (.Compare a [op,op'] [b,c] pos) (xN r r' ta tb tc):=by
 intro pins s σ H Q I h;refine Compare_chain (jQ (ha pins s σ H _ I h) fun v s1 ⟨x,H1,I1,r1,q1⟩=>chain_link (jQ (hb pins s1 σ H1 _ I1 q1) fun u s2 ⟨y,H2,I2,r2,q2⟩ =>
  jQ (ho pins s2 σ H2 x y v u _ I2 r1 r2 q2) fun d s3 ⟨z,H3,I3,r3,k,e,q3⟩=>?_)) hm
 subst e;cases r3;refine wpAny_truthy_bool ?_;cases k with
 |false=>exact ite_ff ⟨.bl false,H3,I3,rfl,q3⟩
 |true=>exact ite_tt (chain_last (jQ (hc pins s3 σ H3 _ I3 q3) fun w' s4 ⟨z',H4,I4,r4,q4⟩=>ho' pins s4 σ H4 y z' u w' Q I4 r2 r4 q4))
theorem uN {op op':CmpOp} {r r':R2} (ho:qA X (compareOp op) r) (ho':qA X (compareOp op') r') (ha:PE X a ta) (hb:PE X b tb) (hc:PE X c tc)
  (hm:lastMarks [op,op'] [b,c]=false:=by with_unfolding_all rfl):PT X (.Compare a [op,op'] [b,c] pos) (o6 (xN r r' ta tb tc)):=by
 intro pins s σ H Q I h;refine isTrue_chain (jQ (ha pins s σ H _ I h) fun v s1 ⟨x,H1,I1,r1,q1⟩=>test_link (jQ (hb pins s1 σ H1 _ I1 q1) fun u s2 ⟨y,H2,I2,r2,q2⟩ =>
  jQ (ho pins s2 σ H2 x y v u _ I2 r1 r2 q2) fun d s3 ⟨z,H3,I3,r3,k,e,q3⟩=>?_)) hm
 subst e;cases r3;refine wpAny_truthy_bool ?_;cases k with
 |false =>
  obtain ⟨k',e',q'⟩:=q3;cases e';exact ite_ff ⟨H3,I3,q'⟩
 |true =>
  refine ite_tt (test_last (jQ (hc pins s3 σ H3 _ I3 q3) fun w' s4 ⟨z',H4,I4,r4,q4⟩=>jQ (ho' pins s4 σ H4 y z' u w' _ I4 r2 r4 q4) fun d' s5 ⟨z2,H5,I5,r5,k2,e2,q5⟩=>?_));subst e2;cases r5;exact wpAny_truthy_bool ⟨H5,I5,q5⟩
def BD (K:PySem.W.Frag) (x:V) (H:Hp) (k:Bool):Prop :=
 match x with
 |.non=>k=false
 |.bl b=>k=b
 |.int i=>k=(i != 0)
 |.str y=>y.length≤sizeLine∧k=((y.length:Int) != 0)
 |.byt y=>y.size≤sizeLine∧k=((y.size:Int) != 0)
 |.ref p=>(∃xs,SqL K H p xs∧k = !xs.isEmpty)∨(∃xs,SqT K H p xs∧k = !xs.isEmpty)∨∃kvs,H p=some (.dK kvs)∧k = !kvs.isEmpty
 |_=>False
theorem FI {κ:Type} {kvs:List (κ×V)} {vs:List (κ×Value)} (r:KV kvs vs):(!vs.isEmpty) = !kvs.isEmpty:=by
 cases r<;>rfl
theorem sD {xs:List V} {its:List Value} (r:Vals xs its):(!its.toArray.isEmpty) = !xs.isEmpty:=by
 cases r<;>simp
theorem ZW:(sizeLine:Nat)<2 ^ 63:=by rw [sizeLine_eq];decide
theorem MD:OV X (fun x H Q=>∃k,BD X.K x H k∧Q k H):=by
 intro pins s σ H x v Q I rx h;obtain ⟨k,e,q⟩:=h;have hl:=ZW;have hs:sizeLine=16777216:=sizeLine_eq;cases x with
 |non =>
  cases rx;have e':k=false:=e;subst e';exact truthy_none ⟨H,I,q⟩
 |bl b =>
  cases rx;have e':k=b:=e;subst e';exact wpAny_truthy_bool ⟨H,I,q⟩
 |int i =>
  obtain ⟨t,rfl⟩:=rx;have e':k=(i != 0):=e;subst e';exact PySem.P.truthy_int ⟨H,I,q⟩
 |str y =>
  obtain ⟨t,rfl⟩:=rx;obtain ⟨hy,e'⟩:y.length≤sizeLine∧k=((y.length:Int) != 0):=e;subst e';exact PySem.P.truthy_str (by omega) ⟨H,I.tok _,q⟩
 |byt y =>
  obtain ⟨t,rfl⟩:=rx;obtain ⟨hy,e'⟩:y.size≤sizeLine∧k=((y.size:Int) != 0):=e;subst e';exact PySem.W.truthy_bytes (by omega) ⟨H,I.tok _,q⟩
 |ref p =>
  cases rx;have e':(∃xs,SqL X.K H p xs∧k = !xs.isEmpty)∨(∃xs,SqT X.K H p xs∧k = !xs.isEmpty)∨∃kvs,H p=some (.dK kvs)∧k = !kvs.isEmpty:=e
  rcases e' with ⟨xs,hx,e'⟩|⟨xs,hx,e'⟩|⟨kvs,hx,e'⟩
  ·subst e';obtain ⟨its,r,pl,hz⟩:=I.list hx;have hlen:=r.length;exact wpAny_truthy_list pl.isList (by simp only [List.size_toArray];omega) ⟨H,I.tok _,by rw [sD r];exact q⟩
  ·subst e';obtain ⟨its,r,pl,hz⟩:=I.tuple hx;have hlen:=r.length;exact truthy_tuple pl (by simp only [List.size_toArray];omega) ⟨H,I.tok _,by rw [sD r];exact q⟩
  ·subst e';obtain ⟨hz,hS,vs,r,m⟩:kvs.length≤sizeLine∧(p == sysModules)=false∧∃vs,KV kvs vs∧s.heap.DictOf (oO X.prog X.w) p vs:=I.hok p _ hx;have hlen:kvs.length=vs.length:=Paired.length r;exact wpAny_truthy_dict hS m (by omega) ⟨H,I.tok _,by rw [FI r];exact q⟩
 |_=>exact (show False from e).elim
theorem IQ (ha:PE X a ta) (he:∀whole,isTrue a X.env whole=(do let v ← whole;standAt a.pos;holding [v] (truthy v))) :
  PT X a (fun σ H Q=>ta σ H fun x H'=>∃k,BD X.K x H' k∧Q k H'):=by
 intro pins s σ H Q I h;exact isTrue_plain (jQ (ha pins s σ H _ I h) fun v s1 ⟨x,H1,I1,r1,q1⟩=>MD pins s1 σ H1 x v Q I1 r1 q1) (he _)
theorem kN:qA X (binaryOp .Add) (fun x y H Q=>∃i j,x=.str i∧y=.str j∧i.length+j.length≤sizeLine∧Q (.str (i++j)) H):=by
 intro pins s σ H x y v u Q I rx ry h;obtain ⟨i,j,rfl,rfl,hz,q⟩:=h;obtain ⟨t,rfl⟩:=rx;obtain ⟨t',rfl⟩:=ry;exact add_str (fun t' tk=>⟨.str (i++j),H,I.tok _,⟨_,rfl⟩,q⟩) hz
theorem ZY {x:V} {us:List Value} (r:Vals [x] us):∃u,us=[u]∧RelV x u:=by
 cases r with
 |cons r1 r2=>cases r2;exact ⟨_,rfl,r1⟩
theorem gG {x y:V} {us:List Value} (r:Vals [x,y] us):∃u w',us=[u,w']∧RelV x u∧RelV y w':=by
 cases r with
 |cons r1 r2 =>
  cases r2 with
  |cons r3 r4=>cases r4;exact ⟨_,_,rfl,r1,r3⟩
theorem tQ (hc:X.calm=true):yK X (.builtin "max") (fun xs H Q=>∃i j,xs=[.int i,.int j]∧Q (.int (if j>i then j else i)) H):=by
 intro pins s σ H xs us Q I r h;obtain ⟨i,j,rfl,q⟩:=h;obtain ⟨u,w',rfl,⟨t,rfl⟩,⟨t',rfl⟩⟩:=gG r;refine max_two_ints (I.ok.hd hc) fun h' tk k=>⟨_,H,I.kept k,?_,q⟩
 by_cases hj:j>i
 ·rw [if_pos hj,if_pos hj];exact ⟨_,rfl⟩
 ·rw [if_neg hj,if_neg hj];exact ⟨_,rfl⟩
theorem tP (hc:X.calm=true):yK X (.builtin "min") (fun xs H Q=>∃i j,xs=[.int i,.int j]∧Q (.int (if j<i then j else i)) H):=by
 intro pins s σ H xs us Q I r h;obtain ⟨i,j,rfl,q⟩:=h;obtain ⟨u,w',rfl,⟨t,rfl⟩,⟨t',rfl⟩⟩:=gG r;refine min_two_ints (I.ok.hd hc) fun h' tk k=>⟨_,H,I.kept k,?_,q⟩
 by_cases hj:j<i
 ·rw [if_pos hj,if_pos hj];exact ⟨_,rfl⟩
 ·rw [if_neg hj,if_neg hj];exact ⟨_,rfl⟩
end
end L2
namespace L2
open PySem PySem.Spec PyProof.Rows
structure ObjM (h:Heap) (x dx C:Addr) (mA:Str→Option Value):Prop where
 obj:h.get? x=some (PySem.W.instObj C dx)
 ns:h.Ns1 dx mA
 ne:dx≠x
theorem GV {h:Heap} {dx:Addr} {mA:Str→Option Value} (n:h.Ns1 dx mA):∃od,h.get? dx=some od∧∀name,PySem.W.lookIn name od=some (mA name):=by
 obtain ⟨o,es,ep,ho,hd,hk,_,hm⟩:=n;refine ⟨o,ho,fun name=>?_⟩;have e:=hm name;unfold nsFind findBy at e;rw [← Array.find?_toList] at e;unfold PySem.W.lookIn;rw [hd]
 dsimp only
 split
 ·rename_i y q;rw [q] at e;exact congrArg some e
 ·rename_i q;rw [q] at e;have a:es.toList.any (·.refKey)=false:=by
   rw [List.any_eq_false];intro y hy;obtain ⟨z,t,hkey⟩:=hk y (Array.mem_toList_iff.mp hy);simp [DictEntry.refKey,hkey]
  have a':¬es.toList.any (·.refKey)=true:=by rw [a];exact Bool.false_ne_true
  rw [if_neg a'];exact congrArg some e
theorem ObjM.look {h:Heap} {x dx C:Addr} {mA:Str→Option Value} (I:ObjM h x dx C mA):∃od,PySem.W.InstAt h x (PySem.W.instObj C dx) C (some od)∧∀name,PySem.W.lookIn name od=some (mA name) :=
 let ⟨od,ho,hl⟩:=GV I.ns
 ⟨od,⟨I.obj,rfl,rfl,ho⟩,hl⟩
section
variable {prog:Program} {w:World} {A:Around} {E:Value→Shared→Prop} {s:Shared} {K:PySem.W.Frag} {x dx C f:Addr} {mA:Str→Option Value} {name:Str} {v:Value}
theorem L5 {expr:Bool} {Q:Value→Shared→Prop} (X:K.In s.heap) (I:ObjM s.heap x dx C mA) (hg:PySem.W.plainGet K C name=true) (hh:PySem.W.hasDictIn K C=true)
  (ha:PySem.W.findIn K (.ref C) name=some none) (hv:mA name=some v) (hv':PySem.W.handedIn v=true) (h:Q v {s with toks:=s.toks+1}) :
  wpAny (model prog w) A (getAttr (.ref x) name expr) Q E s:=by
 obtain ⟨od,J,hl⟩:=I.look;exact PySem.W.get_value X J (PySem.W.plainGet_of hg).1 (PySem.W.findObj_own hh ha rfl (by rw [hl,hv])) hv' h
theorem KO {pl:Sem Bool} {Q:Value×List Value→Shared→Prop} (X:K.In s.heap) (I:ObjM s.heap x dx C mA) (hg:PySem.W.plainGet K C name=true)
  (hf:PySem.W.findIn K (.ref C) name=some (some (.ref f))) (ht:PySem.W.isFn K (.ref f)=true) (hv:mA name=none) (h:Q (.ref f,[.ref x]) s) :
  wpAny (model prog w) A (getMethod (.ref x) name pl) Q E s:=by
 obtain ⟨od,J,hl⟩:=I.look;exact PySem.W.method_fn X J (PySem.W.plainGet_of hg).1 (PySem.W.plainGet_of hg).2 hf (beq_iff_eq.mp ht) (by show (PySem.W.lookIn name od).map (·.isSome)=some false;rw [hl,hv];rfl) h
theorem set_map {ns:List Str} {Q:Unit→Shared→Prop} (X:K.In s.heap) (I:ObjM s.heap x dx C mA)
  (hs:PySem.W.findIn K (.ref C) "__setattr__"=some (some (.builtin "object.__setattr__"))) (hp:PySem.W.plainOver K C=true) (ht:PySem.W.takerIn K C name=some none) (hh:PySem.W.hasDictIn K C=true)
  (hw:PySem.Within mA ns) (hsz:ns.length≤sizeLine)
  (h:∀h',ObjM h' x dx C (fun y=>if y=name then some v else mA y)→Heap.SameBut dx s.heap h'→Q () {s with heap:=h',toks:=s.toks+2}) :
  wpAny (model prog w) A (setAttr (.ref x) name v) Q E s:=by
 obtain ⟨od,J,hl⟩:=I.look;refine PySem.W.set_plain X J hs (PySem.W.osa_open (s:={s with toks:=s.toks+1}) (r:=none) X J hp ht fun b=>?_);obtain ⟨cd,hc,hd'⟩:=PySem.W.any_some hh;have hx:s.heap.get? x=some ⟨.ref C,some dx,.plain,#[]⟩:=I.obj;refine wpAny_bind (wpAny_pure (wpAny_bind (wpAny_bind (wpAny_loadPart hx (wpAny_bind (PySem.W.Looks.here (s:={s with toks:=s.toks+1}) (PySem.W.looks_clsIn X hc) ?_))))));rw [hd'];refine wpAny_pure (a:=some dx) (wpAny_bind (wpAny_pure (wpAny_bind ?_)));refine wpAny_nsSet1 (s:={s with toks:=s.toks+1}) I.ns fun h' hn2 hs2=>?_
 obtain ⟨oD,esD,epD,hoD,hdD,hcD⟩:=hn2.count (PySem.Within.cons name v hw);refine wpAny_bind (wpAny_lookBehind hoD (by rw [hdD];exact pastItsLine_dict (Nat.le_trans hcD (by rw [List.length_cons];omega))) ?_);exact wpAny_pure (h _ ⟨(hs2.2 _ (Ne.symm I.ne)).trans I.obj,hn2,I.ne⟩ hs2)
theorem KG {R:Result→Shared→Prop} {vs:List Value} {kw:List (Str×Value)} (X:K.In s.heap) (hm:PySem.W.makesIn K C=true)
  (hi:PySem.W.findIn K (.ref C) "__init__"=some (some (.ref f))) (hf:PySem.W.typeIn K (.ref f)=some (.type "function"))
  (h:codeAny (model prog w) (A.under (.builtin "type.__call__" ⟨.ref C::vs,kw⟩)) (.call (.ref f) ⟨.ref (s.heap.objs.size+1)::vs,kw⟩) (PySem.W.InitBack (s.heap.objs.size+1) R)
   {s with heap:=(s.heap.push PySem.W.emptyDict).push (PySem.W.instObj C s.heap.objs.size)}) :
  codeAny (model prog w) A (.call (.ref C) ⟨vs,kw⟩) R s:=by
 obtain ⟨hh,g,d,t,os⟩:=s;exact PySem.W.make_core (PySem.W.makes_of X hm) (PySem.W.looks_findIn X hi) (fun self=>PySem.W.bind_fn X self hf) (.inl rfl) h
end
def j0 (f:Str) (v:V):List (Str×V)→List (Str×V)
 |[]=>[(f,v)]
 | (g,x)::r=>if g=f then (g,v)::r else (g,x)::j0 f v r
theorem vW (f g:Str) (v:V):∀fs:List (Str×V),(j0 f v fs).lookup g=if g=f then some v else fs.lookup g
 |[]=>by
  show List.lookup g [(f,v)]=_
  by_cases h:g=f
  ·have hb:(g == f)=true:=beq_iff_eq.mpr h;simp only [List.lookup,hb,if_pos h]
  ·have hb:(g == f)=false:=beq_eq_false_iff_ne.mpr h;simp only [List.lookup,hb,if_neg h]
 | (k,x)::r=>by
  have ih:=vW f g v r;rw [show j0 f v ((k,x)::r)=(if k=f then (k,v)::r else (k,x)::j0 f v r) from rfl]
  by_cases hk:k=f
  ·rw [if_pos hk]
   by_cases h:g=k
   ·have hb:(g == k)=true:=beq_iff_eq.mpr h;simp only [List.lookup,hb,if_pos (h.trans hk)]
   ·have hb:(g == k)=false:=beq_eq_false_iff_ne.mpr h;simp only [List.lookup,hb,if_neg (fun e:g=f=>h (e.trans hk.symm))]
  ·rw [if_neg hk]
   by_cases h:g=k
   ·have hb:(g == k)=true:=beq_iff_eq.mpr h;simp only [List.lookup,hb,if_neg (fun e:g=f=>hk (h.symm.trans e))]
   ·have hb:(g == k)=false:=beq_eq_false_iff_ne.mpr h;simp only [List.lookup,hb];exact ih
theorem nJ (f:Str) (v:V):∀fs:List (Str×V),f∈(j0 f v fs).map (·.1)∧∀g,g∈fs.map (·.1)→g∈(j0 f v fs).map (·.1)
 |[]=>⟨by simp [j0],fun g h=>by simp at h⟩
 | (k,x)::r=>by
  obtain ⟨i1,i2⟩:=nJ f v r;rw [show j0 f v ((k,x)::r)=(if k=f then (k,v)::r else (k,x)::j0 f v r) from rfl]
  by_cases hk:k=f
  ·rw [if_pos hk];subst hk;exact ⟨by simp,fun g h=>by simpa using h⟩
  ·rw [if_neg hk];refine ⟨?_,fun g h=>?_⟩
   ·rw [List.map_cons];exact List.mem_cons_of_mem _ i1
   ·rw [List.map_cons] at h ⊢
    rcases List.mem_cons.mp h with e|e
    ·exact List.mem_cons.mpr (.inl e)
    ·exact List.mem_cons_of_mem _ (i2 g e)
theorem JO (f:Str) (v:V):∀fs:List (Str×V),(j0 f v fs).length≤fs.length+1
 |[]=>by simp [j0]
 | (k,x)::r=>by
  have ih:=JO f v r;rw [show j0 f v ((k,x)::r)=(if k=f then (k,v)::r else (k,x)::j0 f v r) from rfl]
  by_cases hk:k=f
  ·rw [if_pos hk,List.length_cons,List.length_cons];omega
  ·rw [if_neg hk,List.length_cons,List.length_cons];omega
theorem RelO.some_of {v:V} {o:Option Value} (r:RelO (some v) o):∃u,o=some u∧RelV v u:=by
 cases o with
 |none=>exact (show False from r).elim
 |some u=>exact ⟨u,rfl,r⟩
theorem RelO.none_of {o:Option Value} (r:RelO none o):o=none:=by
 cases o with
 |none=>rfl
 |some u=>exact (show False from r).elim
theorem HF {v:V} {u:Value} (r:RelV v u):PySem.W.handedIn u=true:=by
 cases v with
 |non=>cases (show u=Value.none from r);rfl
 |bl b=>cases (show u=Value.bool b from r);rfl
 |int i=>obtain ⟨t,e⟩:=(show ∃t,u=Value.int i t from r);cases e;rfl
 |str x=>obtain ⟨t,e⟩:=(show ∃t,u=Value.str x t from r);cases e;rfl
 |byt b=>obtain ⟨t,e⟩:=(show ∃t,u=Value.bytes b t from r);cases e;rfl
 |flt b=>obtain ⟨t,e⟩:=(show ∃t,u=Value.float b t from r);cases e;rfl
 |ref a=>cases (show u=Value.ref a from r);rfl
 |ty n=>cases (show u=Value.type n from r);rfl
section
variable {P:Program} {w:World} {H H':Hp} {h h':Heap} {a C dx:Addr} {fs fs':List (Str×V)}
theorem lG (hok:HOk P w H h) (e:H a=some (.ins C dx fs)):∃mA,ObjM h a dx C mA∧(∀f,RelO (fs.lookup f) (mA f))∧PySem.Within mA (fs.map (·.1))∧fs.length≤1000∧H dx=some (.own a):=by
 obtain ⟨d,z,ne,ob,mA,n,r,q⟩:=(show ObjOk P w H h a (.ins C dx fs) from hok a _ e);exact ⟨mA,⟨ob,n,ne⟩,r,q,z,d⟩
end
structure Cls (K:PySem.W.Frag) (C:Addr):Prop where
 pg:PySem.W.plainGet K C Str.empty=true
 hd:PySem.W.hasDictIn K C=true
 po:PySem.W.plainOver K C=true
 sa:PySem.W.findIn K (.ref C) "__setattr__"=some (some (.builtin "object.__setattr__"))
theorem Cls.get {K:PySem.W.Frag} {C:Addr} (c:Cls K C) (f:Str):PySem.W.plainGet K C f=true:=c.pg
def NoAttr (K:PySem.W.Frag) (C:Addr) (f:Str):Prop:=PySem.W.findIn K (.ref C) f=some none
theorem NoAttr.taker {K:PySem.W.Frag} {C:Addr} {f:Str} (n:NoAttr K C f):PySem.W.takerIn K C f=some none:=by
 unfold PySem.W.takerIn;rw [show PySem.W.findIn K (.ref C) f=some none from n];rfl
structure Meth (K:PySem.W.Frag) (C:Addr) (m:Str) (f:Addr):Prop where
 at_:PySem.W.findIn K (.ref C) m=some (some (.ref f))
 fn:PySem.W.isFn K (.ref f)=true
 kp:PySem.W.keepIn K (.ref f)=true
section
variable {X:Cx} {pins:List (Addr×Obj)} {σ:St} {H:Hp} {s:Shared} {a C dx:Addr} {fs:List (Str×V)} {f:Str} {v:V} {A:Around} {E:Value→Shared→Prop}
theorem FM {b:Bool} {Q:Value→Shared→Prop} (I:Inv X pins σ H s) (e:H a=some (.ins C dx fs)) (c:Cls X.K C) (n:NoAttr X.K C f) (l:fs.lookup f=some v)
  (h:∀u s',Inv X pins σ H s'→RelV v u→Q u s'):wpAny (model X.prog X.w) A (getAttr (.ref a) f b) Q E s:=by
 obtain ⟨mA,O,r,_,_,_⟩:=lG I.hok e;obtain ⟨u,hu,ru⟩:=RelO.some_of (v:=v) (o:=mA f) (by rw [← l];exact r f);exact L5 I.kIn O (c.get f) c.hd n hu (HF ru) (h u _ (I.tok _) ru)
theorem FL {m:Str} {g:Addr} {pl:Sem Bool} {Q:Value×List Value→Shared→Prop} (I:Inv X pins σ H s) (e:H a=some (.ins C dx fs)) (c:Cls X.K C) (k:Meth X.K C m g) (l:fs.lookup m=none)
  (h:Q (.ref g,[.ref a]) s):wpAny (model X.prog X.w) A (getMethod (.ref a) m pl) Q E s:=by
 obtain ⟨mA,O,r,_,_,_⟩:=lG I.hok e;have hn:mA m=none:=RelO.none_of (by rw [← l];exact r m);exact KO I.kIn O (c.get m) k.at_ k.fn hn h
theorem E7 {y:V} {u:Value} {Q:Unit→Shared→Prop} (I:Inv X pins σ H s) (e:H a=some (.ins C dx fs)) (c:Cls X.K C) (n:NoAttr X.K C f) (hl:fs.length<1000) (ry:RelV y u)
  (h:∀s',Inv X pins σ (upd H a (.ins C dx (j0 f y fs))) s'→Q () s'):wpAny (model X.prog X.w) A (setAttr (.ref a) f u) Q E s:=by
 obtain ⟨mA,O,r,wi,_,ho⟩:=lG I.hok e;have hz:(fs.map (·.1)).length≤sizeLine:=by rw [List.length_map,sizeLine_eq];omega
 refine set_map I.kIn O c.sa c.po n.taker c.hd wi hz fun h' O' sb=>h _ ?_
 have hd:∃o,h'.get? dx=some o:=let ⟨o,_,_,e',_⟩:=O'.ns;⟨o,e'⟩
 refine I.write (x:=a) (e:=dx) (by rw [e];exact True.intro) (.inr ho) (fun b q hb z=>(sb.2 b hb).trans z) hd ?_;refine ⟨by rw [j9 O.ne];exact ho,?_,O.ne,O'.obj,_,O'.ns,fun g=>?_,fun g hg=>?_⟩
 ·have:=JO f y fs;omega
 ·show RelO ((j0 f y fs).lookup g) (if g=f then some u else mA g);rw [vW]
  by_cases q:g=f
  ·rw [if_pos q,if_pos q];exact ry
  ·rw [if_neg q,if_neg q];exact r g
 ·by_cases q:g=f
  ·rw [q];exact (nJ f y fs).1
  ·refine (nJ f y fs).2 g (wi g fun z=>hg ?_);show (if g=f then some u else mA g)=none;rw [if_neg q];exact z
theorem Inv.made (I:Inv X pins σ H s):Inv X pins σ (upd (upd H s.heap.objs.size (.own (s.heap.objs.size+1))) (s.heap.objs.size+1) (.ins C s.heap.objs.size []))
  {s with heap:=(s.heap.push PySem.W.emptyDict).push (PySem.W.instObj C s.heap.objs.size)}:=by
 have e1:(s.heap.push PySem.W.emptyDict).get? s.heap.objs.size=some PySem.W.emptyDict:=Heap.get?_push_size s.heap rfl;have e2:((s.heap.push PySem.W.emptyDict).push (PySem.W.instObj C s.heap.objs.size)).get? (s.heap.objs.size+1)=some (PySem.W.instObj C s.heap.objs.size):=by
  have:=Heap.get?_push_size (s.heap.push PySem.W.emptyDict) (o:=PySem.W.instObj C s.heap.objs.size) rfl
  rwa [Heap.size_push] at this
 have e3:(s.heap.push PySem.W.emptyDict).Ns s.heap.objs.size (fun _=>none):=⟨PySem.W.emptyDict,#[],_,e1,rfl,(fun e he=>absurd he (by simp)),fun _=>rfl⟩;have I1:=I.laid (a:=s.heap.objs.size) (o:=.own (s.heap.objs.size+1)) (h':=s.heap.push PySem.W.emptyDict) (t':=s.toks) (fun b u q=>Heap.get?_push_of_some _ q) (Nat.le_refl _) ⟨_,e1⟩;refine I1.laid (a:=s.heap.objs.size+1) (o:=.ins C s.heap.objs.size []) (t':=s.toks) (fun b u q=>Heap.get?_push_of_some _ q) (Nat.le_of_eq (Heap.size_push _ _)) ?_;have ne:s.heap.objs.size≠s.heap.objs.size+1:=Nat.ne_of_lt (Nat.lt_succ_self _);refine ⟨by rw [j9 ne,jD],Nat.zero_le _,ne,e2,fun _=>none,(Heap.Ns1.of_empty e3).at fun o q=>Heap.get?_push_of_some _ q,fun _=>True.intro,fun y hy=>absurd rfl hy⟩
theorem MA {prog:Program} {w:World} {env:Env} {e:Expr} {f:Str} {pos:Pos} {s:Shared} {Q:Value→Shared→Prop} (hb:attributeBase e f env (eval e env)=eval e env)
  (h:wpAny (model prog w) A (eval e env) (fun o s₁=>wpAny (model prog w) A (getAttr o f true) Q E s₁) E s):wpAny (model prog w) A (eval (.Attribute e f pos) env) Q E s :=
 Attribute_any_ h (by rw [arm_eval_Attribute,hb])
end
def AS (K:PySem.W.Frag) (ta:TE) (f:Str):TE:=fun σ H Q=>ta σ H fun x H1=>∃a C dx fs v,x=.ref a∧H1 a=some (.ins C dx fs)∧Cls K C∧NoAttr K C f∧fs.lookup f=some v∧Q v H1
def OH (K:PySem.W.Frag) (ta tv:TE) (f:Str):TS:=fun D σ H=>tv σ H fun y H1=>ta σ H1 fun x H2=>∃a C dx fs,x=.ref a∧H2 a=some (.ins C dx fs)∧Cls K C∧NoAttr K C f∧fs.length<1000∧
 D.nx σ (upd H2 a (.ins C dx (j0 f y fs)))
section
variable {X:Cx} {o e value:Expr} {f:Str} {pos pos' tpos:Pos} {ta tv:TE}
theorem BL (he:PE X e ta) (hb:attributeBase e f X.env (eval e X.env)=eval e X.env):PE X (.Attribute e f pos) (AS X.K ta f):=by
 intro pins s σ H Q I h;refine MA hb (jQ (he pins s σ H _ I h) fun u s1 ⟨x,H1,I1,rx,a,C,dx,fs,v,ex,ea,c,n,l,q⟩=>?_);subst ex;obtain rfl:u=Value.ref a:=rx;exact FM I1 ea c n l fun u' s2 I2 ru=>⟨v,H1,I2,ru,q⟩
theorem yY (ha:PE X o ta) (hv:PE X value tv) (hs:swapsWith value (some (.Attribute o f pos')) pos.line X.env=pure false):PS X (.Assign [.Attribute o f pos'] value pos) (OH X.K ta tv f):=by
 intro pins s σ H D I h;refine plainObj_wpAny_Assign_Attribute (jQ (hv pins s σ H _ I h) fun u s1 ⟨y,H1,I1,ry,q⟩=>jQ (ha pins s1 σ H1 _ I1 q) fun ov s2 ⟨x,H2,I2,rx,a,C,dx,fs,ex,ea,c,n,l,q2⟩=>?_) hs;subst ex;obtain rfl:ov=Value.ref a:=rx;exact E7 I2 ea c n l ry fun s3 I3=>⟨σ,_,I3,q2⟩
end
section
variable {X:Cx} {pins:List (Addr×Obj)} {σ:St} {H:Hp} {s:Shared} {A:Around} {E:Value→Shared→Prop} {Q:Value→Shared→Prop} {c:Value} {b:Bool}
inductive TyOf (K:PySem.W.Frag) (H:Hp):V→Value→Prop where
 |non:TyOf K H .non (.type "NoneType")
 |bl (x:Bool):TyOf K H (.bl x) (.type "bool")
 |int (i:Int):TyOf K H (.int i) (.type "int")
 |str (x:Str):TyOf K H (.str x) (.type "str")
 |flt (x:UInt64):TyOf K H (.flt x) (.type "float")
 |lst {a:Addr} {xs:List V} (e:H a=some (.lst xs)):TyOf K H (.ref a) (.type "list")
 |frz {a:Addr} {o:Obj} {xs:List V} (e:H a=some (.frz o (.lst xs))):TyOf K H (.ref a) (.type "list")
 |tup {a:Addr} {xs:List V} (e:H a=some (.tup xs)):TyOf K H (.ref a) (.type "tuple")
 |dK {a:Addr} {kvs:List (vZ×V)} (e:H a=some (.dK kvs)):TyOf K H (.ref a) (.type "dict")
 |dT {a:Addr} {kvs:List (List vZ×V)} (e:H a=some (.dT kvs)):TyOf K H (.ref a) (.type "dict")
 |ins {a C dx:Addr} {fs:List (Str×V)} (e:H a=some (.ins C dx fs)) (cl:Cls K C) (ha:PySem.W.findIn K (.ref C) "__class__"=some (some (.builtin "object.__class__")))
   (hn:PySem.W.specialIn K (.builtin "object.__class__") "__get__"=some (some (.builtin "getset_descriptor.__get__"))) (htk:PySem.W.takesIn K (.builtin "object.__class__")=some true)
   (hm:PySem.W.mroIn K C (.type "object")=some true):TyOf K H (.ref a) (.ref C)
theorem GY {x:V} {u t:Value} (I:Inv X pins σ H s) (rx:RelV x u) (ty:TyOf X.K H x t) (e:PySem.W.kitOne X.K t c=some b) (h:∀tk,Q (.bool b) {s with toks:=tk}) :
  wpAny (model X.prog X.w) A (call (.builtin "isinstance") [u,c]) Q E s:=by
 cases ty with
 |non=>cases (show u=Value.none from rx);exact PySem.W.kia_one PySem.W.kitx_none I.kIn True.intro e (fun z=>nomatch z) h
 |bl y=>cases (show u=Value.bool y from rx);exact PySem.W.kia_one PySem.W.kitx_bool I.kIn True.intro e (fun z=>nomatch z) h
 |int i=>obtain ⟨t,q⟩:=(show ∃t,u=Value.int i t from rx);cases q;exact PySem.W.kia_one PySem.W.kitx_int I.kIn True.intro e (fun z=>nomatch z) h
 |str y=>obtain ⟨t,q⟩:=(show ∃t,u=Value.str y t from rx);cases q;exact PySem.W.kia_one PySem.W.kitx_str I.kIn True.intro e (fun z=>nomatch z) h
 |flt y=>obtain ⟨t,q⟩:=(show ∃t,u=Value.float y t from rx);cases q;exact PySem.W.kia_one PySem.W.kitx_float I.kIn True.intro e (fun z=>nomatch z) h
 |@lst a xs ea =>
  cases (show u=Value.ref a from rx);obtain ⟨_,_,n,_,h1⟩:=(show ObjOk X.prog X.w H s.heap a (.lst xs) from I.hok a _ ea);exact PySem.W.kia_one PySem.W.kitx_list I.kIn ⟨_,h1,rfl⟩ e (fun z=>nomatch z) h
 |@frz a ob xs ea =>
  cases (show u=Value.ref a from rx);obtain ⟨_,_,_,n,_,h1⟩:=(show ObjOk X.prog X.w H s.heap a (.frz ob (.lst xs)) from I.hok a _ ea);exact PySem.W.kia_one PySem.W.kitx_list I.kIn ⟨_,h1,rfl⟩ e (fun z=>nomatch z) h
 |@tup a xs ea =>
  cases (show u=Value.ref a from rx);obtain ⟨_,_,_,p⟩:=(show ObjOk X.prog X.w H s.heap a (.tup xs) from I.hok a _ ea);obtain ⟨o,h1,h2,_⟩:=p;exact PySem.W.kia_one PySem.W.kitx_tuple I.kIn ⟨o,h1,h2⟩ e (fun z=>nomatch z) h
 |@dK a kvs ea =>
  cases (show u=Value.ref a from rx);obtain ⟨_,_,vs,_,p⟩:=(show ObjOk X.prog X.w H s.heap a (.dK kvs) from I.hok a _ ea);obtain ⟨o,es,ep,h1,h2,_⟩:=p;exact PySem.W.kia_one PySem.W.kitx_dict I.kIn ⟨o,h1,h2.1⟩ e (fun z=>nomatch z) h
 |@dT a kvs ea =>
  cases (show u=Value.ref a from rx);obtain ⟨_,_,xs,_,o,es,ep,h1,h2,_⟩:=(show ObjOk X.prog X.w H s.heap a (.dT kvs) from I.hok a _ ea);exact PySem.W.kia_one PySem.W.kitx_dict I.kIn ⟨o,h1,h2.1⟩ e (fun z=>nomatch z) h
 |@ins a C dx fs ea cl ha hn htk hm =>
  cases (show u=Value.ref a from rx);obtain ⟨mA,O,_⟩:=lG I.hok ea;obtain ⟨od,J,_⟩:=O.look;exact PySem.W.kia_one (PySem.W.kitx_own (cl.get _) cl.hd ha hn htk hm) I.kIn J e (fun z=>nomatch z) h
end
end L2
namespace L2
open PySem PySem.Spec PyProof.Rows
structure Room (k:Nat) (A:Around):Prop where
 hd:A.handled=none
 dp:A.depth+3*k+5<recursionLimit
 un:A.units+16*k+200<cLine
theorem Room.mono {j k:Nat} {A:Around} (r:Room k A) (h:j≤k):Room j A:=⟨r.hd,by have:=r.dp;omega,by have:=r.un;omega⟩
theorem Room.deeper {k:Nat} {A:Around} (r:Room (k+1) A) (env:Env):Room k (A.deeper env) :=
 ⟨r.hd,by have:=r.dp;show A.depth+1+3*k+5<_;omega,by have:=r.un;show A.units+3+16*k+200<_;omega⟩
theorem FF {A:Around} {C:Addr} {us:List Value} {kw:List (Str×Value)}:(A.under (.builtin "type.__call__" ⟨.ref C::us,kw⟩)).depth=A.depth+1:=by
 first|rfl|simp [Around.under,Code.weight,Code.isCreation,Code.isGuard,Code.isCaller,Code.frames,Code.isFrame,guardIds]
theorem FE {A:Around} {C:Addr} {us:List Value} {kw:List (Str×Value)}:(A.under (.builtin "type.__call__" ⟨.ref C::us,kw⟩)).units=A.units+1:=by
 first|rfl|simp [Around.under,Code.cUnits,Code.frames,Code.isFrame]
theorem Room.make {k:Nat} {A:Around} (r:Room (k+1) A) (C:Addr) (us:List Value) (kw:List (Str×Value)):Room k (A.under (.builtin "type.__call__" ⟨.ref C::us,kw⟩)) :=
 ⟨r.hd,by have:=r.dp;rw [FF];omega,by have:=r.un;rw [FE];omega⟩
theorem Room.depth {k:Nat} {A:Around} (r:Room k A):A.depth<recursionLimit:=by have:=r.dp;omega
theorem Room.units {k:Nat} {A:Around} (r:Room k A):A.units+64<cLine:=by have:=r.un;omega
theorem Room.units0 {k:Nat} {A:Around} (r:Room k A):A.units<cLine:=by have:=r.un;omega
def pE:TA:=fun _ H Q=>Q [] H
def o8 (ta:TE) (tr:TA):TA:=fun σ H Q=>ta σ H fun x H1=>tr σ H1 fun xs H2=>Q (x::xs) H2
section
variable {X:Cx} {e:Expr} {es:List Expr} {te:TE} {t:TA} {pos:Pos}
theorem jC:PA X [] pE:=fun _ _ _ _ H Q I h=>Calls.spliced_nil ⟨[],H,I,.nil,h⟩
theorem jA (ha:PE X e te) (hr:PA X es t) (hs:starEach (e::es) X.env=(false,eval e X.env)::starEach es X.env:=by rfl):PA X (e::es) (o8 te t):=by
 intro pos pins s σ H Q I h;rw [hs];show wpAny _ _ (spliced ((false,eval e X.env)::backTo pos (starEach es X.env))) _ _ s;refine Calls.spliced_cons (jQ (ha pins s σ H _ I h) fun u s1 ⟨x,H1,I1,r1,q1⟩=>?_);exact jQ (hr pos pins s1 σ H1 _ I1 q1) fun us s2 ⟨xs,H2,I2,r2,q2⟩=>⟨x::xs,H2,I2,.cons r1 r2,q2⟩
def N4 (t:TA):TE:=fun σ H Q=>t σ H fun xs H1=>xs.length≤sizeLine∧∀p,H1 p=none→Q (.ref p) (upd H1 p (.tup xs))
def OB (t:TA):TE:=fun σ H Q=>t σ H fun xs H1=>xs.length≤sizeLine∧∀p,H1 p=none→Q (.ref p) (upd H1 p (.lst xs))
theorem zF {x1} (h:PA X es t):PE X (.Tuple es x1 pos) (N4 t):=by
 intro pins s σ H Q I hq;refine wpAny_Tuple_spliced (jQ (h pos pins s σ H _ I hq) fun us s1 ⟨xs,H1,I1,r,z,q⟩=>⟨by rw [← r.length];exact z,?_⟩);have hf:H1 s1.heap.objs.size=none:=I1.hok.fresh (Nat.le_refl _);refine ⟨.ref s1.heap.objs.size,upd H1 s1.heap.objs.size (.tup xs),I1.laid (t':=s1.toks) (fun b u e=>Heap.get?_push_of_some _ e) (Nat.le_refl _) ?_,rfl,q _ hf⟩;exact ⟨z,us,r,⟨_,Heap.get?_push_size _ rfl,rfl,_,rfl⟩⟩
theorem kC (h:PA X es t):PE X (.List es pos) (OB t):=by
 intro pins s σ H Q I hq;refine wpAny_List_spliced (jQ (h pos pins s σ H _ I hq) fun us s1 ⟨xs,H1,I1,r,z,q⟩=>⟨by rw [← r.length];exact z,?_⟩);have hf:H1 s1.heap.objs.size=none:=I1.hok.fresh (Nat.le_refl _);refine ⟨.ref s1.heap.objs.size,upd H1 s1.heap.objs.size (.lst xs),I1.laid (t':=s1.toks) (fun b u e=>Heap.get?_push_of_some _ e) (Nat.le_refl _) ?_,rfl,q _ hf⟩;exact ⟨z,us,0,r,Heap.get?_push_size _ rfl⟩
end
abbrev Sp:=List V→Hp→VK→XK→Prop
abbrev zV:=List Env→Hp→Shared→XK→Value→Shared→Prop
structure Env0 (P:Program) (w:World) (K:PySem.W.Frag) (mg:Str→Option Value) (base:Heap) (A:Around) (outer:List Env) (s:Shared) (H:Hp):Prop where
 frames:A.frames=some outer
 mod:Mod K mg base
 bs:∀b o,base.get? b=some o→s.heap.get? b=some o∧H b=none
 bsz:base.objs.size≤s.heap.objs.size
 funs:s.heap.FunFrames base outer
 frf:∀b∈kK outer,H b=none
 hok:HOk P w H s.heap
 bare:AllBare s.gens
def CE (outer:List Env) (P:Program) (w:World) (H:Hp) (s:Shared) (Q:VK) (u:Value) (s':Shared):Prop :=
 ∃v H',s'.os=s.os∧AllBare s'.gens∧Un (kK outer) [] H H' s.heap s'.heap∧HOk P w H' s'.heap∧RelV v u∧Q v H'
def CR (CX:zV) (outer:List Env) (P:Program) (w:World) (H:Hp) (s:Shared) (Q:VK) (E:XK) (r:Result) (s':Shared):Prop :=
 match r with
 |.ok (.ret u)=>CE outer P w H s Q u s'
 |.ok _=>False
 |.error e=>CX outer H s E e s'
structure FnOk (P:Program) (w:World) (K:PySem.W.Frag) (mg:Str→Option Value) (base:Heap) (CX:zV) (k:Nat) (f:Addr) (fd:FuncData) (ps:List Str) (sp:Sp):Prop where
 len:∀vs H Q E,sp vs H Q E→vs.length=ps.length
 run:∀(A:Around) (outer:List Env) (s:Shared) (H:Hp) (args:Args) (us:List Value) (vs:List V) (Q:VK) (E:XK),Room k A→Env0 P w K mg base A outer s H→BindsTo s fd args (ps.zip us)→Vals vs us→sp vs H Q E→
  codeAny (model P w) A (.call (.ref f) args) (CR CX outer P w H s Q E) s
theorem Env0.make {P:Program} {w:World} {K:PySem.W.Frag} {mg:Str→Option Value} {base:Heap} {A:Around} {outer:List Env} {s:Shared} {H:Hp} (e:Env0 P w K mg base A outer s H) (C:Addr) (us:List Value) (kw:List (Str×Value)) :
  Env0 P w K mg base (A.under (.builtin "type.__call__" ⟨.ref C::us,kw⟩)) outer s H:=⟨by first|exact e.frames|(simpa [Around.under,Code.envs,Code.isFrame,pushEnvs] using e.frames),e.mod,e.bs,e.bsz,e.funs,e.frf,e.hok,e.bare⟩
section
variable {X:Cx} {pins:List (Addr×Obj)} {σ:St} {H:Hp} {s s':Shared}
theorem Inv.env0 (I:Inv X pins σ H s):Env0 X.prog X.w X.K X.mg X.base X.A X.stack s H :=
 ⟨I.ok.frames,I.ok.mod,I.bs,Nat.le_trans I.ok.bsz I.sz,I.stack,I.stkFree,I.hok,I.bare⟩
theorem Inv.after {Q:VK} {u:Value} (I:Inv X pins σ H s) (h:CE X.stack X.prog X.w H s Q u s'):EP X pins σ Q u s':=by
 obtain ⟨v,H',os,bare,un,hok,r,q⟩:=h;obtain ⟨hh,g,d,t,os'⟩:=s';obtain rfl:os'=s.os:=os;exact ⟨v,H',I.call (h':=hh) (g':=g) (d':=d) (t':=t) (ch:=[]) un hok bare (fun b z=>absurd z (by simp)),r,q⟩
end
def o9 (sp:Sp) (dvs:List V) (E:XK) (t:TA):TE:=fun σ H Q=>t σ H fun vs H1=>sp (vs++dvs) H1 Q E
def AD (C:Addr) (sp:Sp) (dvs:List V) (E:XK) (t:TA):TE:=fun σ H Q=>t σ H fun vs H1=>∀x dx,H1 x=none→H1 dx=none→dx≠x→
 sp (.ref x::(vs++dvs)) (upd (upd H1 dx (.own x)) x (.ins C dx [])) (fun v H2=>v=.non∧Q (.ref x) H2) E
def Binds (K:PySem.W.Frag) (fd:FuncData) (ps:List Str) (ds:List Value):Prop :=
 ∀(s:Shared) (us:List Value),K.In s.heap→(us++ds).length=ps.length→BindsTo s fd ⟨us,[]⟩ (ps.zip (us++ds))
theorem Binds.all {K:PySem.W.Frag} {fd:FuncData} {ps:List Str} (h:∀us:List Value,us.length=ps.length→bindArgs fd ⟨us,[]⟩=pure (ps.zip us)):Binds K fd ps []:=fun s us _ hl=>by
 rw [List.append_nil] at hl ⊢;exact .of_eq (h us hl)
def gE (CX:zV) (X:Cx) (E:XK):Prop:=∀(pins:List (Addr×Obj)) (σ:St) (H:Hp) (s:Shared) (e:Value) (s':Shared),Inv X pins σ H s→CX X.stack H s E e s'→X.xe e s'
section
variable {X:Cx} {CX:zV} {k:Nat} {f C:Addr} {fd:FuncData} {ps:List Str} {sp:Sp} {dvs:List V} {ds:List Value} {E:XK} {x m:Str} {p pos apos:Pos} {e o:Expr} {es:List Expr} {ta:TE} {t:TA}
theorem o0 {pins:List (Addr×Obj)} {σ:St} {H:Hp} {s:Shared} {Q:VK} {us:List Value} {vs:List V} (F:FnOk X.prog X.w X.K X.mg X.base CX k f fd ps sp) (hr:Room k X.A) (hb:Binds X.K fd ps ds) (hd:Vals dvs ds) (hx:gE CX X E)
  (I:Inv X pins σ H s) (r:Vals vs us) (h:sp (vs++dvs) H Q E):wpAny (model X.prog X.w) X.A (call (.ref f) us) (EP X pins σ Q) X.xe s:=by
 have r2:Vals (vs++dvs) (us++ds):=r.append hd;have hl:(us++ds).length=ps.length:=by rw [← r2.length];exact F.len _ _ _ _ h
 refine wpAny_call (codeAny_mono (F.run X.A X.stack s H ⟨us,[]⟩ (us++ds) (vs++dvs) Q E hr I.env0 (hb s us I.kIn hl) r2 h) fun r s' hq=>?_);cases r with
 |error e=>exact hx pins σ H s e s' I hq
 |ok fl =>
  cases fl with
  |ret u=>exact I.after hq
  |next=>exact False.elim hq
  |brk=>exact False.elim hq
  |cont=>exact False.elim hq
theorem LL (F:FnOk X.prog X.w X.K X.mg X.base CX k f fd ps sp) (hr:Room k X.A) (hg:Gl X x) (hm:X.mg x=some (.ref f)) (hk:PySem.W.keepIn X.K (.ref f)=true) (hb:Binds X.K fd ps ds) (hd:Vals dvs ds) (hx:gE CX X E)
  (ha:PA X (e::es) t) (hdb:(x == ("__debug__":Str))=false:=by decide) (he:starEach (e::es) X.env=(false,eval e X.env)::starEach es X.env:=by rfl) (hpl:(backTo pos (starEach es X.env)).any (·.1)=false:=by rfl) :
  PE X (.Call (.Name x p) (e::es) [] pos) (o9 sp dvs E t):=by
 intro pins s σ H Q I h;refine wpAny_Call_Name_kw (d0 I hg hm ?_ hdb);refine PySem.W.callWith_K (h₀:=X.base) I.ok.mod.kin hk (jQ (ha pos pins s σ H _ I h) fun us s1 ⟨vs,H1,I1,r,q⟩=>⟨I1.kIn,?_⟩) he hpl;exact o0 F hr hb hd hx I1 r q
structure Mk (K:PySem.W.Frag) (C f:Addr):Prop where
 makes:PySem.W.makesIn K C=true
 init:PySem.W.findIn K (.ref C) "__init__"=some (some (.ref f))
 fn:PySem.W.isFn K (.ref f)=true
 kp:PySem.W.keepIn K (.ref C)=true
theorem IN {pins:List (Addr×Obj)} {σ:St} {H:Hp} {s:Shared} {Q:VK} {us:List Value} {vs:List V} (M:Mk X.K C f) (F:FnOk X.prog X.w X.K X.mg X.base CX k f fd ps sp) (hr:Room (k+1) X.A) (hb:Binds X.K fd ps ds) (hd:Vals dvs ds)
  (hx:gE CX X E) (I:Inv X pins σ H s) (r:Vals vs us)
  (h:∀x dx,H x=none→H dx=none→dx≠x→sp (.ref x::(vs++dvs)) (upd (upd H dx (.own x)) x (.ins C dx [])) (fun v H2=>v=.non∧Q (.ref x) H2) E) :
  wpAny (model X.prog X.w) X.A (call (.ref C) us) (EP X pins σ Q) X.xe s:=by
 have hq:=h (s.heap.objs.size+1) s.heap.objs.size (I.hok.fresh (Nat.le_succ _)) (I.hok.fresh (Nat.le_refl _)) (Nat.ne_of_lt (Nat.lt_succ_self _));have I2:=Inv.made (C:=C) I;have r2:Vals (V.ref (s.heap.objs.size+1)::(vs++dvs)) (Value.ref (s.heap.objs.size+1)::(us++ds)):=.cons rfl (r.append hd);have hl:(Value.ref (s.heap.objs.size+1)::us++ds).length=ps.length:=by
  have e:=r2.length;rw [F.len _ _ _ _ hq] at e;exact e.symm
 refine wpAny_call (KG (f:=f) I.kIn M.makes M.init (beq_iff_eq.mp M.fn) (codeAny_mono (F.run _ X.stack _ _ ⟨Value.ref (s.heap.objs.size+1)::us,[]⟩ (Value.ref (s.heap.objs.size+1)::(us++ds)) _ _ E (hr.make C us [])
  (I2.env0.make C us []) (hb _ (Value.ref (s.heap.objs.size+1)::us) I2.kIn hl) r2 hq) fun r s' hq'=>?_))
 cases r with
 |error e=>exact hx pins σ _ _ e s' I2 hq'
 |ok fl =>
  cases fl with
  |ret u =>
   obtain ⟨v,H',I3,rv,ev,q3⟩:=I2.after hq';subst ev;exact ⟨rv,⟨V.ref (s.heap.objs.size+1),H',I3,rfl,q3⟩⟩
  |next=>exact False.elim hq'
  |brk=>exact False.elim hq'
  |cont=>exact False.elim hq'
theorem LJ (M:Mk X.K C f) (F:FnOk X.prog X.w X.K X.mg X.base CX k f fd ps sp) (hr:Room (k+1) X.A) (hg:Gl X x) (hm:X.mg x=some (.ref C)) (hb:Binds X.K fd ps ds) (hd:Vals dvs ds) (hx:gE CX X E)
  (ha:PA X (e::es) t) (hdb:(x == ("__debug__":Str))=false:=by decide) (he:starEach (e::es) X.env=(false,eval e X.env)::starEach es X.env:=by rfl) (hpl:(backTo pos (starEach es X.env)).any (·.1)=false:=by rfl) :
  PE X (.Call (.Name x p) (e::es) [] pos) (AD C sp dvs E t):=by
 intro pins s σ H Q I h;refine wpAny_Call_Name_kw (d0 I hg hm ?_ hdb);refine PySem.W.callWith_K (h₀:=X.base) I.ok.mod.kin M.kp (jQ (ha pos pins s σ H _ I h) fun us s1 ⟨vs,H1,I1,r,q⟩=>⟨I1.kIn,?_⟩) he hpl;exact IN M F hr hb hd hx I1 r q
end
section
variable {X:Cx} {CX:zV} {k:Nat} {f C:Addr} {fd:FuncData} {ps ks:List Str} {sp:Sp} {E:XK} {x m:Str} {p pos apos kpos:Pos} {e o:Expr} {es:List Expr} {kws:List Keyword} {te ta:TE} {t tk:TA} {nm:Option Str}
variable {g:List Value→List Value→List Value} {gV:List V→List V→List V}
end
structure FnScope (N P:List Str) (sc:Scope):Prop where
 kind:sc.kind=.function
 co:sc.isCoroutine=false
 gen:sc.isGenerator=false
 nd:N.Nodup
 pre:N.take P.length=P
 par:∀x∈P,sc.names.lookup x=some .local∨sc.names.lookup x=some .cell
 nofree:∀y∈sc.names,y.2≠.free
theorem tS {kindOf:Str→Option NameKind} {x:Str}:∀{binds:List (Str×Value)} {m:Str→Option Value},(∀v,(x,v)∉binds)→bindL kindOf binds m x=m x
 |[],_,_=>rfl
 | (n,v)::r,m,h=>by
  unfold bindL;rw [tS fun w hw=>h w (List.mem_cons_of_mem _ hw)]
  split
  ·have:x≠n:=by rintro rfl;exact h v List.mem_cons_self
   simp [this]
  ·rfl
theorem tU {kindOf:Str→Option NameKind} {x:Str}:∀{binds:List (Str×Value)} {m:Str→Option Value},(∀v,(x,v)∉binds)→bindC kindOf binds m x=m x
 |[],_,_=>rfl
 | (n,v)::r,m,h=>by
  unfold bindC;rw [tU fun w hw=>h w (List.mem_cons_of_mem _ hw)]
  split
  ·rfl
  ·have:x≠n:=by rintro rfl;exact h v List.mem_cons_self
   simp [this]
theorem tT {kindOf:Str→Option NameKind} {x:Str} {v:Value}:∀{P:List Str} {vs:List Value} {i:Nat} {m:Str→Option Value},P.Nodup→P[i]?=some x→vs[i]?=some v→kindOf x=some .local→
  bindL kindOf (P.zip vs) m x=some v
 |[],_,_,_,_,h,_,_=>by simp at h
 |_::_,[],_,_,_,_,h,_=>by simp at h
 |p::P,w::vs,0,m,nd,h1,h2,hk=>by
  simp at h1 h2;subst h1;subst h2
  show bindL kindOf ((p,w)::P.zip vs) m p=_;unfold bindL;rw [tS fun v hv=>(List.nodup_cons.mp nd).1 (List.of_mem_zip hv).1,if_pos hk];simp
 |p::P,w::vs,i+1,m,nd,h1,h2,hk=>by
  show bindL kindOf ((p,w)::P.zip vs) m x=_;unfold bindL;exact tT (i:=i) (List.nodup_cons.mp nd).2 (by simpa using h1) (by simpa using h2) hk
theorem tV {kindOf:Str→Option NameKind} {x:Str} {v:Value}:∀{P:List Str} {vs:List Value} {i:Nat} {m:Str→Option Value},P.Nodup→P[i]?=some x→vs[i]?=some v→kindOf x≠some .local→
  bindC kindOf (P.zip vs) m x=some v
 |[],_,_,_,_,h,_,_=>by simp at h
 |_::_,[],_,_,_,_,h,_=>by simp at h
 |p::P,w::vs,0,m,nd,h1,h2,hk=>by
  simp at h1 h2;subst h1;subst h2
  show bindC kindOf ((p,w)::P.zip vs) m p=_;unfold bindC;rw [tU fun v hv=>(List.nodup_cons.mp nd).1 (List.of_mem_zip hv).1,if_neg hk];simp
 |p::P,w::vs,i+1,m,nd,h1,h2,hk=>by
  show bindC kindOf ((p,w)::P.zip vs) m x=_;unfold bindC;exact tV (i:=i) (List.nodup_cons.mp nd).2 (by simpa using h1) (by simpa using h2) hk
def zO (N:List Str) (vs:List V):St:=vs.map some++List.replicate (N.length - vs.length) none
def kD (CX:zV) (P:Program) (w:World) (K:PySem.W.Frag) (mg:Str→Option Value) (base:Heap) (N:List Str) (qual:Str) (scope:Scope) (f:Addr) (cd:Value) (A:Around) (outer:List Env) (s:Shared) (H:Hp) (E:XK):Cx where
 prog:=P
 w:=w
 K:=K
 mg:=mg
 base:=base
 A:=A.deeper (envOfC qual scope s.heap.objs.size f cd)
 N:=N
 s₀:=s
 H₀:=H
 env:=envOfC qual scope s.heap.objs.size f cd
 outer:=outer
 stack:=envOfC qual scope s.heap.objs.size f cd::outer
 ex:=[]
 calm:=true
 fn:=fun _=>true
 pn:=[]
 xe:=fun e s'=>wpAny (model P w) (A.deeper (envOfC qual scope s.heap.objs.size f cd)) (leaving (envOfC qual scope s.heap.objs.size f cd) e) (fun _ s''=>CX outer H s E e s'') (fun e' s''=>CX outer H s E e' s'') s'
theorem wF {sc:Scope} {n:Nat} {x:Str} (h:sc.names.lookup x=some .cell):∃c,(cellsFrom n sc.names []).lookup x=some c:=by
 have q:=PySem.W.cellsFrom_some sc.names n [] (.inl h);exact Option.isSome_iff_exists.mp q
theorem GZ {CX:zV} {P:Program} {w:World} {K:PySem.W.Frag} {mg:Str→Option Value} {base:Heap} {N ps:List Str} {qual:Str} {scope:Scope} {f:Addr} {cd:Value} {A:Around} {outer:List Env} {s s1:Shared} {H:Hp} {E:XK} {us:List Value} {vs:List V}
  (S:FnScope N ps scope) (hd:A.handled=none) (e0:Env0 P w K mg base A outer s H) (hl:vs.length=ps.length) (r:Vals vs us)
  (x:InCallC s s.heap.objs.size (bindL (envOfC qual scope s.heap.objs.size f cd).kindOf (ps.zip us) fun _=>none) (cellsFrom (s.heap.objs.size+1) scope.names []) (bindC (envOfC qual scope s.heap.objs.size f cd).kindOf (ps.zip us) fun _=>none) s1) :
  Inv (kD CX P w K mg base N qual scope f cd A outer s H E) [] (zO N vs) H s1:=by
 have hpl:ps.length≤N.length:=by have:=congrArg List.length S.pre;rw [List.length_take] at this;omega
 obtain ⟨h1,tk,rfl,hk⟩:=x.done;have noA:∀b:Addr,b∉(kD CX P w K mg base N qual scope f cd A outer s H E).ex:=fun b z=>absurd (show b∈([]:List Addr) from z) (by simp)
 refine ⟨⟨e0.mod,S.kind,rfl,rfl,Nat.le_refl _,fun y z c h1 h2=>?_,fun y hy=>?_,fun y c _ h=>?_,fun _=>hd,Around.frames_deeper e0.frames,.inr ⟨rfl,rfl⟩,fun b z=>absurd z (noA b),e0.bs,e0.bsz,fun b _ _=>noA b,fun b z=>absurd z (noA b),e0.funs,e0.frf⟩,
  rfl,e0.bare,Un.kept hk,⟨_,x.toInCall.ns,fun i y v h1 h2 h3=>?_⟩,fun y c h=>⟨_,x.cell y c h⟩,e0.hok.fresh (Nat.le_refl _),fun y c h=>?_,fun p hp=>absurd (show p∈([]:List (Addr×Obj)) from hp) (by simp),e0.hok.kept hk,?_⟩
 ·exact name_of_addr x.apart (PySem.mem_of_lookup h1) (PySem.mem_of_lookup h2)
 ·have hy:scope.names.lookup y=some .cell∨scope.names.lookup y=some .free:=hy
  rcases hy with hy|hy
  ·exact wF hy
  ·exact absurd rfl (S.nofree _ (PySem.mem_of_lookup hy))
 ·exact Nat.le_of_lt (x.above y c (PySem.mem_of_lookup h))
 ·have hi:i<vs.length:=by
   unfold zO at h2
   by_cases hi:i<vs.length
   ·exact hi
   ·rw [List.getElem?_append_right (by simpa using hi)] at h2;rw [List.getElem?_replicate] at h2
    split at h2<;>cases h2
  have ha:vs[i]?=some v:=by
   unfold zO at h2;rw [List.getElem?_append_left (by simpa using hi),List.getElem?_map] at h2;cases e:vs[i]? with
   |none=>rw [e] at h2;cases h2
   |some a=>rw [e] at h2;cases h2;rfl
  obtain ⟨u,hu,rv⟩:=r.get ha;have hp:ps[i]?=some y:=by
   rw [← S.pre,List.getElem?_take_of_lt (by omega)];exact h1
  have ndP:ps.Nodup:=by rw [← S.pre];exact S.nd.sublist (List.take_sublist _ _)
  refine ⟨u,rv,?_⟩
  rcases S.par y (List.mem_of_getElem? hp) with k|k
  ·exact .inl ⟨k,tT ndP hp hu k⟩
  ·obtain ⟨c,e⟩:=wF (n:=s.heap.objs.size+1) k;refine .inr ⟨.inl k,c,e,?_⟩;have q:=x.cell y c e;rw [tV ndP hp hu (by show scope.names.lookup y≠_;rw [k];decide)] at q;exact q
 ·exact e0.hok.fresh (Nat.le_of_lt (x.above y c (PySem.mem_of_lookup h)))
 ·unfold zO;show _=N.length;rw [List.length_append,List.length_map,List.length_replicate];omega
theorem pC {CX:zV} {P:Program} {w:World} {K:PySem.W.Frag} {mg:Str→Option Value} {base:Heap} {k:Nat} {f:Addr} {name qual:Str} {params:Arguments} {body:List Stmt} {scope:Scope} {dV kV doc pm cdv ct oc:Value} {an od:Option Addr}
  {osl:Array (Option Value)} {N ps:List Str} {sp:Sp} (lk:K.lookup f=some ⟨oc,od,.func (PySem.W.fnOf name qual params body scope dV kV doc pm an cdv ct),osl⟩) (hcd:PySem.W.codeIn K cdv qual=true) (S:FnScope N ps scope)
  (len:∀vs H Q E,sp vs H Q E→vs.length=ps.length)
  (hbody:∀(A:Around) (outer:List Env) (s:Shared) (H:Hp) (vs:List V) (Q:VK) (E:XK),Room k (A.deeper (envOfC qual scope s.heap.objs.size f cdv))→sp vs H Q E→
   ∃t,PSs (kD CX P w K mg base N qual scope f cdv A outer s H E) body t∧t {nx:=fun _ H'=>Q .non H',rt:=Q} (zO N vs) H) :
  FnOk P w K mg base CX (k+1) f (PySem.W.fnOf name qual params body scope dV kV doc pm an cdv ct) ps sp:=by
 refine ⟨len,fun A outer s H args us vs Q E hr e0 hb r hsp=>?_⟩;have hl:=len _ _ _ _ hsp;have KX:K.In s.heap:=e0.mod.kin.keeps fun b o e=>(e0.bs b o e).1
 have lim:s.heap.NoLimit:=e0.mod.nolimit.keeps fun b o e=>(e0.bs b o e).1
 have hkind:∀y∈ps.zip us,scope.names.lookup y.1=some .local∨(scope.names.lookup y.1=some .cell∧((cellsFrom (s.heap.objs.size+1) scope.names []).lookup y.1).isSome=true):=fun ⟨n,v⟩ hy=>by
  rcases S.par n (List.of_mem_zip hy).1 with q|q
  ·exact .inl q
  ·exact .inr ⟨q,PySem.W.cellsFrom_some _ _ _ (.inl q)⟩
 refine codeAny_call_function hr.depth (KX _ _ lk) rfl S.co S.gen rfl (PySem.W.codeRec_of KX hcd) (hb _ _ _ _ ?_);refine wpAny_newFunctionEnv_cells S.kind hkind fun env he s1 x=>?_
 subst he;refine ⟨lim.keeps x.toInCall.keep,codeAny_func ?_⟩;obtain ⟨t,ht,hq⟩:=hbody A outer s H vs Q E (hr.deeper _) hsp;have I:Inv (kD CX P w K mg base N qual scope f cdv A outer s H E) [] (zO N vs) H s1:=GZ S hr.hd e0 hl r x;refine wpAny_mono (ht [] s1 (zO N vs) H _ I hq) (fun fl s' hs=>?_) fun e s' hs=>hs
 have fin:∀{σ':St} {H':Hp} {v:V} {u:Value},Inv (kD CX P w K mg base N qual scope f cdv A outer s H E) [] σ' H' s'→RelV v u→Q v H'→CE outer P w H s Q u s' :=
  fun {σ' H' v u} J rv q=>⟨v,H',J.os,J.bare,J.base,J.hok,rv,q⟩
 cases fl with
 |ret u =>
  obtain ⟨v,σ',H',J,rv,q⟩:=hs;exact fin J rv q
 |next =>
  obtain ⟨σ',H',J,q⟩:=hs;exact fin (v:=V.non) (u:=Value.none) J rfl q
 |brk =>
  obtain ⟨_,_,_,q⟩:=hs;exact False.elim q
 |cont =>
  obtain ⟨_,_,_,q⟩:=hs;exact False.elim q
end L2
namespace L2
open PySem PySem.Spec PyProof.Rows
section
variable {X:Cx} {x:Str} {p pos:Pos} {e:Expr} {es:List Expr} {t:TA} {id T:String} {r:List V→Hp→VK→Prop}
def BF (r:List V→Hp→VK→Prop) (t:TA):TE:=fun σ H Q=>t σ H fun vs H1=>r vs H1 Q
theorem j5 (hc:yK X (.builtin id) r) (hg:Gl X x) (hm:X.mg x=none) (hv:bootBuiltins x=some (.builtin id)) (ha:PA X (e::es) t) (hn:x≠"__name__":=by decide) (hdb:(x == ("__debug__":Str))=false:=by decide)
  (he:starEach (e::es) X.env=(false,eval e X.env)::starEach es X.env:=by rfl) (hpl:(backTo pos (starEach es X.env)).any (·.1)=false:=by rfl):PE X (.Call (.Name x p) (e::es) [] pos) (BF r t):=by
 intro pins s σ H Q I h;refine wpAny_Call_Name_kw (JD I hg hm hv ?_ hn hdb);exact PyProof.Rows.callWith_builtin1 (jQ (ha pos pins s σ H _ I h) fun us s1 ⟨vs,H1,I1,r1,q1⟩=>hc pins s1 σ H1 vs us Q I1 r1 q1) he hpl
theorem vQ (hc:yK X (.type T) r) (hg:Gl X x) (hm:X.mg x=none) (hv:bootBuiltins x=some (.type T)) (ha:PA X (e::es) t) (hn:x≠"__name__":=by decide) (hdb:(x == ("__debug__":Str))=false:=by decide)
  (he:starEach (e::es) X.env=(false,eval e X.env)::starEach es X.env:=by rfl) (hpl:(backTo pos (starEach es X.env)).any (·.1)=false:=by rfl):PE X (.Call (.Name x p) (e::es) [] pos) (BF r t):=by
 intro pins s σ H Q I h;refine wpAny_Call_Name_kw (JD I hg hm hv ?_ hn hdb);exact PyProof.Rows.callWith_type1 (jQ (ha pos pins s σ H _ I h) fun us s1 ⟨vs,H1,I1,r1,q1⟩=>hc pins s1 σ H1 vs us Q I1 r1 q1) he hpl
end
end L2
namespace HT
open PySem PyProof.Rows
section
open PySem.SeqAt
open PySem.AutoSeq1 (wpAny_loadPart')
open PySem.MeetsSeq PySem.MeetsSeq2 PySem.MeetsSeq3
end
section
variable {prog:Program} {w:World} {A:Around} {E:Value→Shared→Prop} {s:Shared}
theorem cat_tup {t b:Addr} {vs ws:List Value} {Q:Value→Shared→Prop} (ht:IsTup s.heap t vs.toArray) (hb:IsTup s.heap b ws.toArray) (hv:vs≠[])
  (h1:ws=[]→Q (.ref t) s) (h2:ws≠[]→Q (.ref s.heap.objs.size) {s with heap:=s.heap.push {cls:=.type "tuple",data:=.seq (vs++ws).toArray}})
  (hsz:vs.length+ws.length≤sizeLine):wpAny (model prog w) A (binaryOp .Add (.ref t) (.ref b)) Q E s:=by
 obtain ⟨⟨cls,dd,data,sl⟩,ho,hc,n,hd⟩:=id ht;obtain ⟨⟨cls2,dd2,data2,sl2⟩,ho2,hc2,n2,hd2⟩:=id hb;simp only at hc hd hc2 hd2;subst hc hd hc2 hd2;have e:vs.toArray++ws.toArray=(vs++ws).toArray:=by simp
 by_cases hw:ws=[]
 ·exact concat_meets ⟨_,ho,rfl⟩ ⟨_,ho2,rfl⟩ noFill_tuple_add seq_tuple_add PySem.F.slot_tuple_add PySem.F.entry_tuple_add (PySem.F.args_tuple_add_2 _ _)
   (tuple_addW1 t b vs.toArray ws.toArray n n2 dd dd2 sl sl2 (by simpa using hv) (by simp [hw])) ⟨ho,ho2,h1 hw⟩
 ·refine concat_meets ⟨_,ho,rfl⟩ ⟨_,ho2,rfl⟩ noFill_tuple_add seq_tuple_add PySem.F.slot_tuple_add PySem.F.entry_tuple_add (PySem.F.args_tuple_add_2 _ _)
   (tuple_addW2 t b vs.toArray ws.toArray n n2 dd dd2 sl sl2 (by simpa using hv) (by simpa using hw) (by rw [List.size_toArray,List.size_toArray];exact hsz)) ⟨ho,ho2,?_⟩
  rw [e];exact h2 hw
def sIx (n d:Nat):Option Int→Nat
 |none=>d
 |some v=>if v<0 then (v+(n:Int)).toNat else min v.toNat n
theorem sIx_none (n d:Nat):sIx n d none=d:=rfl
theorem sIx_nat (n d k:Nat):sIx n d (some (k:Int))=min k n:=by
 show (if (k:Int)<0 then ((k:Int)+(n:Int)).toNat else min (k:Int).toNat n)=min k n;rw [if_neg (by omega),Int.toNat_natCast]
theorem ML (n d:Nat) (hd:d≤n) (o:Option Int):sIx n d o≤n:=by
 cases o with
 |none=>exact hd
 |some v =>
  show (if v<0 then (v+(n:Int)).toNat else min v.toNat n)≤n
  by_cases hv:v<0
  ·rw [if_pos hv];omega
  ·rw [if_neg hv];exact Nat.min_le_right _ _
theorem xK (v:Int) (n d:Nat):(if v<0 then max (v+(n:Int)) 0 else min v (n:Int))=((sIx n d (some v):Nat):Int):=by
 show (if v<0 then max (v+(n:Int)) 0 else min v (n:Int))=(((if v<0 then (v+(n:Int)).toNat else min v.toNat n):Nat):Int)
 by_cases hv:v<0
 ·simp only [if_pos hv];omega
 ·simp only [if_neg hv];omega
theorem FP (lo hi:Option Int) (n:Nat):Builtin.Slice.sliceAdjust lo hi 1 (n:Int)=(((sIx n 0 lo:Nat):Int),((sIx n n hi:Nat):Int)):=by
 have h1:¬((1:Int)<0):=by omega
 unfold Builtin.Slice.sliceAdjust;simp only [h1,if_false];refine Prod.ext ?_ ?_
 ·cases lo with
  |none=>rfl
  |some v=>exact xK v n 0
 ·cases hi with
  |none=>rfl
  |some v=>exact xK v n n
theorem FA (i j:Nat):Builtin.Slice.slicePlaces (i:Int) (j:Int) 1=j - i:=by
 unfold Builtin.Slice.slicePlaces;have h1:(1:Int)>0:=by omega
 simp only [h1,if_true,Int.ediv_one]
 split<;>omega
theorem rT {v:Value} {o:Option Int} {Q:Option Int→Shared→Prop} (p:IsPart v o) (h:Q o s):wpAny (model prog w) A (Builtin.Slice.slicePartIndex v) Q E s:=by
 cases p with
 |none=>exact slicePart_none h
 |int i t=>exact slicePart_int h
theorem EA {sl:Addr} {vl vu:Value} {lo hi:Option Int} {n:Nat} {Q:Int×Int×Nat→Shared→Prop} (hs:s.heap.IsSliceOf sl vl vu .none) (pl:IsPart vl lo) (pu:IsPart vu hi)
  (h:Q (((sIx n 0 lo:Nat):Int),1,sIx n n hi - sIx n 0 lo) s):wpAny (model prog w) A (Builtin.Slice.sliceApplied (.ref sl) (pure (n:Int))) Q E s:=by
 obtain ⟨os,hos,hcs,hds⟩:=id hs;unfold Builtin.Slice.sliceApplied Builtin.Slice.sliceFields;refine wpAny_bind (wpAny_bind (wpAny_field hos hds (x:=vl) rfl (wpAny_bind (wpAny_field hos hds (x:=vu) rfl (wpAny_bind (wpAny_field hos hds (x:=.none) rfl (wpAny_pure ?_)))))));refine wpAny_bind (slicePart_none ?_);show wpAny _ _ (if ((1:Int) == 0)=true then _ else _) _ _ s;rw [if_neg (by decide)];refine wpAny_bind (rT pl (wpAny_bind (rT pu (wpAny_bind (wpAny_pure ?_)))));show wpAny _ _ (match Builtin.Slice.sliceAdjust lo hi 1 (n:Int) with|(lo,hi)=>pure (lo,(1:Int),Builtin.Slice.slicePlaces lo hi 1)) _ _ s;rw [FP lo hi n];show wpAny _ _ (pure (((sIx n 0 lo:Nat):Int),(1:Int),Builtin.Slice.slicePlaces ((sIx n 0 lo:Nat):Int) ((sIx n n hi:Nat):Int) 1)) _ _ s;rw [FA];exact wpAny_pure h
theorem IS (xs:Array Value) (i k:Nat):((List.range k).filterMap fun (m:Nat)=>xs[((i:Int)+(m:Int)*1).toNat]?).toArray=((xs.toList.drop i).take k).toArray:=by
 have e:(fun (m:Nat)=>xs[((i:Int)+(m:Int)*1).toNat]?)=fun m=>xs[i+m]?:=by
  funext m;have:((i:Int)+(m:Int)*1).toNat=i+m:=by omega
  rw [this]
 rw [e];have:=pick_run xs i k;rw [List.filterMap_map] at this;have e2:((fun x=>xs[x]?)∘fun x=>i+x)=fun m=>xs[i+m]?:=rfl
 rw [e2] at this;rw [this]
theorem getItem_tuple_cut {t sl:Addr} {items:Array Value} {vl vu:Value} {lo hi:Option Int} {Q:Value→Shared→Prop} (ht:IsTup s.heap t items) (hs:s.heap.IsSliceOf sl vl vu .none) (pl:IsPart vl lo) (pu:IsPart vu hi)
  (hw:¬(sIx items.size 0 lo=0∧sIx items.size items.size hi=items.size))
  (h:Q (.ref s.heap.objs.size) {s with heap:=s.heap.push {cls:=.type "tuple",data:=.seq ((items.toList.drop (sIx items.size 0 lo)).take (sIx items.size items.size hi - sIx items.size 0 lo)).toArray}})
  (hsz:items.size≤sizeLine):wpAny (model prog w) A (getItem (.ref t) (.ref sl)) Q E s:=by
 have htake:sizeOk (.seq ((items.toList.drop (sIx items.size 0 lo)).take (sIx items.size items.size hi - sIx items.size 0 lo)).toArray):=by
  show ((items.toList.drop (sIx items.size 0 lo)).take (sIx items.size items.size hi - sIx items.size 0 lo)).toArray.size≤sizeLine;rw [List.size_toArray,List.length_take,List.length_drop,Array.length_toList];omega
 have hj:sIx items.size items.size hi≤items.size:=ML _ _ (Nat.le_refl _) hi;obtain ⟨os,hos,hcs,hds⟩:=id hs;have hTs:s.TypeIs (.ref sl) "slice":=⟨os,hos,hcs⟩;unfold getItem
 try with_reducible refine wpAny_holding ?_
 first|refine wpAny_bind (wpAny_pure ?_)|skip
 refine wpAny_bind (wpAny_sequenceKey ht.typeIs (by decide) ?_);refine wpAny_bind (wpAny_callSpecial?_slot (name:=Str.ofString "__getitem__") ht.typeIs PyProof.Rows.slot_tuple_getitem
  (wpAny_call_entry PyProof.Rows.slot_tuple_getitem ht.typeIs entry_tuple_getitem ?_ (args_tuple_getitem _ _)))
 show wpAny _ _ (Builtin.Tuple.tupleItemsOf (.ref t) >>= _) _ _ s;refine wpAny_bind (tupleItemsOf_ ht ?_);refine wpAny_bind (wpAny_typeOf hTs ?_);rw [if_pos (by decide)];refine wpAny_bind (EA hs pl pu ?_);have hno:¬((((sIx items.size 0 lo:Nat):Int) == 0&&(1:Int) == 1&&(sIx items.size items.size hi - sIx items.size 0 lo) == items.size)=true):=by
  intro q;rw [Bool.and_eq_true,Bool.and_eq_true] at q;have q1:((sIx items.size 0 lo:Nat):Int)=0:=eq_of_beq q.1.1;have q2:sIx items.size items.size hi - sIx items.size 0 lo=items.size:=eq_of_beq q.2;exact hw ⟨by omega,by omega⟩
 show wpAny _ _ (if (((sIx items.size 0 lo:Nat):Int) == 0&&(1:Int) == 1&&(sIx items.size items.size hi - sIx items.size 0 lo) == items.size)=true then _ else _) _ _ s;rw [if_neg hno,IS]
 first
  |exact wpAny_bind (m:=Builtin.Tuple.tupleExact _) (wpAny_newObj_type (wpAny_pure ⟨_,rfl,wpAny_pure h⟩) htake)
  |exact wpAny_bind (m:=Builtin.Tuple.tupleExact _) (wpAny_newObj_type (wpAny_bind (wpAny_pure (wpAny_pure ⟨_,rfl,wpAny_pure h⟩))) htake)
  |exact wpAny_bind (wpAny_bind (m:=Builtin.Tuple.tupleExact _) (wpAny_newObj_type (wpAny_pure (wpAny_pure ⟨_,rfl,wpAny_pure h⟩)) htake))
  |exact wpAny_bind (wpAny_bind (m:=Builtin.Tuple.tupleExact _) (wpAny_newObj_type (wpAny_pure ⟨_,rfl,wpAny_pure h⟩) htake))
end
end HT
namespace L2
open PySem PySem.Spec PyProof.Rows
abbrev TO:=St→Hp→(Option Int→Hp→Prop)→Prop
def PO (X:Cx) (e:Option Expr) (t:TO):Prop :=
 ∀(pins:List (Addr×Obj)) (s:Shared) (σ:St) (H:Hp) (Q:Option Int→Hp→Prop),Inv X pins σ H s→t σ H Q→
  wpAny (model X.prog X.w) X.A (evalPart e X.env) (fun u s'=>∃o H',Inv X pins σ H' s'∧IsPart u o∧Q o H') X.xe s
def wK:TO:=fun _ H Q=>Q none H
def NE (t:TE):TO:=fun σ H Q=>t σ H fun x H1=>∃i,x=.int i∧Q (some i) H1
section
variable {X:Cx} {e:Expr} {te:TE} {lo hi:Option Expr} {tl th:TO} {pos p2:Pos}
theorem vS:PO X none wK:=by
 intro pins s σ H Q I h;rw [evalPart_none];exact wpAny_pure ⟨none,H,I,.none,h⟩
theorem kT (h:PE X e te):PO X (some e) (NE te):=by
 intro pins s σ H Q I hw;rw [evalPart_some];refine jQ (h pins s σ H _ I hw) fun u s1 ⟨x,H1,I1,r1,q1⟩=>?_
 obtain ⟨i,rfl,q⟩:=q1;obtain ⟨t,rfl⟩:=r1;exact ⟨some i,H1,I1,.int i t,q⟩
def eY (X:Cx) (r:V→Option Int→Option Int→Hp→VK→Prop):Prop :=
 ∀(pins:List (Addr×Obj)) (s:Shared) (σ:St) (H:Hp) (x:V) (v vl vu:Value) (lo hi:Option Int) (sl:Addr) (Q:VK),Inv X pins σ H s→RelV x v→s.heap.IsSliceOf sl vl vu .none→IsPart vl lo→IsPart vu hi→r x lo hi H Q→
  ∃T id,typeLookup (.type T) "__getitem__"=pure (some (.builtin id))∧s.TypeIs v T∧wpAny (model X.prog X.w) X.A (getItem v (.ref sl)) (EP X pins σ Q) X.xe s
def O1 (r:V→Option Int→Option Int→Hp→VK→Prop) (te:TE) (tl th:TO):TE:=fun σ H Q=>te σ H fun x H1=>tl σ H1 fun l H2=>th σ H2 fun u H3=>r x l u H3 Q
theorem vB {r:V→Option Int→Option Int→Hp→VK→Prop} (hr:eY X r) (he:PE X e te) (hl:PO X lo tl) (hu:PO X hi th):PE X (.Subscript e (.Slice lo hi none p2) pos) (O1 r te tl th):=by
 intro pins s σ H Q I h;refine Subscript_ (jQ (he pins s σ H _ I h) fun v s1 ⟨x,H1,I1,r1,q1⟩=>?_);refine wpAny_Slice (jQ (hl pins s1 σ H1 _ I1 q1) fun vl s2 ⟨l,H2,I2,pl,q2⟩=>jQ (hu pins s2 σ H2 _ I2 q2) fun vu s3 ⟨u,H3,I3,pu,q3⟩=>?_);rw [evalPart_none];refine wpAny_pure ?_;have I4:Inv X pins σ H3 {s3 with heap:=s3.heap.push {cls:=.type "slice",data:=.fields #[vl,vu,.none]}}:=I3.kept (t':=s3.toks) fun b ob q=>Heap.get?_push_of_some _ q
 obtain ⟨T,id,hT,ht,hg⟩:=hr pins {s3 with heap:=s3.heap.push {cls:=.type "slice",data:=.fields #[vl,vu,.none]}} σ H3 x v vl vu l u s3.heap.objs.size Q I4 r1 (Heap.IsSliceOf.new ..) pl pu q3;show wpAny (model X.prog X.w) X.A (subscriptTail e (.Slice lo hi none p2) v (.ref s3.heap.objs.size)) (EP X pins σ Q) X.xe {s3 with heap:=s3.heap.push {cls:=.type "slice",data:=.fields #[vl,vu,.none]}};exact tail_any (ops:=[.ref s3.heap.objs.size,v]) ht hT hg (by with_unfolding_all rfl)
def qS (xs:List V) (lo hi:Option Int):List V:=(xs.drop (HT.sIx xs.length 0 lo)).take (HT.sIx xs.length xs.length hi - HT.sIx xs.length 0 lo)
theorem rM (xs:List V) (lo hi:Option Int):(qS xs lo hi).length≤xs.length:=by
 unfold qS;rw [List.length_take,List.length_drop];omega
def AV (K:PySem.W.Frag):V→Option Int→Option Int→Hp→VK→Prop:=fun x lo hi H Q=>∃a xs,x=.ref a∧SqT K H a xs∧
 ¬(HT.sIx xs.length 0 lo=0∧HT.sIx xs.length xs.length hi=xs.length)∧∀p,H p=none→Q (.ref p) (upd H p (.tup (qS xs lo hi)))
theorem MK:eY X (AV X.K):=by
 intro pins s σ H x v vl vu lo hi sl Q I rx hs pl pu h;obtain ⟨a,xs,rfl,hx,hw,q⟩:=h;cases rx;obtain ⟨its,r,ht,hz⟩:=I.tuple hx;have hlen:its.toArray.size=xs.length:=by rw [List.size_toArray];exact r.length.symm
 refine ⟨"tuple",_,PyProof.Rows.slot_tuple_getitem.lookup,ht.typeIs,?_⟩;refine HT.getItem_tuple_cut ht hs pl pu (by rw [hlen];exact hw) ?_ (by rw [hlen];exact hz);rw [hlen];refine ⟨.ref s.heap.objs.size,_,I.laid (t':=s.toks) (o:=.tup (qS xs lo hi)) (fun b ob q=>Heap.get?_push_of_some _ q) (Nat.le_refl _) ?_,rfl,q _ (I.hok.fresh (Nat.le_refl _))⟩;exact ⟨Nat.le_trans (rM xs lo hi) hz,_,(r.drop (HT.sIx xs.length 0 lo)).take (HT.sIx xs.length xs.length hi - HT.sIx xs.length 0 lo),IsTup.new _ _⟩
def NL (K:PySem.W.Frag):R2:=fun x y H Q=>∃a b xs ys,x=.ref a∧y=.ref b∧SqT K H a xs∧SqT K H b ys∧xs≠[]∧xs.length+ys.length≤sizeLine∧
 (ys=[]→Q (.ref a) H)∧(ys≠[]→∀p,H p=none→Q (.ref p) (upd H p (.tup (xs++ys))))
theorem Vals.nil_iff {xs:List V} {us:List Value} (r:Vals xs us):us=[]↔xs=[]:=by
 cases r with
 |nil=>simp
 |cons _ _=>simp
theorem LN:qA X (binaryOp .Add) (NL X.K):=by
 intro pins s σ H x y v u Q I rx ry h;obtain ⟨a,b,xs,ys,rfl,rfl,ha,hb,hx,hz,q1,q2⟩:=h;cases rx;cases ry;obtain ⟨its,r1,p1,_⟩:=I.tuple ha;obtain ⟨its2,r2,p2,_⟩:=I.tuple hb;refine HT.cat_tup p1 p2 (fun z=>hx (r1.nil_iff.mp z)) (fun z=>⟨.ref a,H,I,rfl,q1 (r2.nil_iff.mp z)⟩) (fun z=>?_) (by rw [← r1.length,← r2.length];exact hz);refine ⟨.ref s.heap.objs.size,_,I.laid (t':=s.toks) (o:=.tup (xs++ys)) (fun b ob q=>Heap.get?_push_of_some _ q) (Nat.le_refl _) ?_,rfl,q2 (fun w=>z (r2.nil_iff.mpr w)) _ (I.hok.fresh (Nat.le_refl _))⟩;exact ⟨by rw [List.length_append];exact hz,_,r1.append r2,IsTup.new _ _⟩
end
end L2
namespace L2
open PySem PySem.Spec PyProof.Rows
def zU (n:Nat) (i:Int):Option Nat:=if 0≤i then (if i<n then some i.toNat else none) else if -(n:Int)≤i then some (i+n).toNat else none
def kQ {α:Type} (xs:List α) (i:Int):Option α:=(zU xs.length i).bind fun j=>xs[j]?
theorem oS {n:Nat} {i:Int} {j:Nat} (h:zU n i=some j):seqIndex? i n=some j∧j<n∧-(n:Int)≤i∧i<n:=by
 unfold zU at h
 by_cases h0:0≤i
 ·rw [if_pos h0] at h
  by_cases h1:i<n
  ·rw [if_pos h1] at h;have e:i.toNat=j:=Option.some.inj h;exact ⟨by rw [seqIndex_of h0 h1,e],by omega,by omega,h1⟩
  ·rw [if_neg h1] at h;cases h
 ·rw [if_neg h0] at h
  by_cases h1 : -(n:Int)≤i
  ·rw [if_pos h1] at h;have e:(i+n).toNat=j:=Option.some.inj h;exact ⟨by rw [seqIndex_neg (by omega) h1,e],by omega,h1,by omega⟩
  ·rw [if_neg h1] at h;cases h
theorem oV {α:Type} {xs:List α} {i:Int} {v:α} (h:kQ xs i=some v):∃j,seqIndex? i xs.length=some j∧xs[j]?=some v∧j<xs.length∧-(xs.length:Int)≤i∧i<xs.length:=by
 unfold kQ at h;cases e:zU xs.length i with
 |none=>rw [e] at h;cases h
 |some j =>
  rw [e] at h;obtain ⟨h1,h2,h3,h4⟩:=oS e;exact ⟨j,h1,h,h2,h3,h4⟩
theorem q9 {α:Type} {xs:List α} {j:Nat} {v:α} (h:xs[j]?=some v):kQ xs (j:Int)=some v:=by
 have hj:j<xs.length:=(List.getElem?_eq_some_iff.mp h).1;have e:zU xs.length (j:Int)=some j:=by
  unfold zU;rw [if_pos (by omega),if_pos (by omega)];simp
 unfold kQ;rw [e];exact h
theorem atI_last {α:Type} (xs:List α) (v:α):kQ (xs++[v]) (-1)=some v:=by
 have hl:(xs++[v]).length=xs.length+1:=by simp
 have e:zU (xs++[v]).length (-1)=some xs.length:=by
  unfold zU;rw [hl,if_neg (by decide),if_pos (by omega)]
  congr 1
  omega
 unfold kQ;rw [e];show (xs++[v])[xs.length]?=some v;simp
def xL (b:Expr):Prop:=∀o i,subscripted b false o i=operate [o,i] (getItem o i)
def IxR (X:Cx) (r:R2):Prop :=
 ∀(value slice:Expr) (pins:List (Addr×Obj)) (s:Shared) (σ:St) (H:Hp) (x y:V) (v u:Value) (Q:VK),Inv X pins σ H s→RelV x v→RelV y u→r x y H Q→
  subscripted slice false v u=operate [v,u] (getItem v u)→wpAny (model X.prog X.w) X.A (subscriptTail value slice v u) (EP X pins σ Q) X.xe s
def pR (X:Cx) (id:String) (r:V→List V→Hp→VK→Prop):Prop :=
 ∀(pins:List (Addr×Obj)) (s:Shared) (σ:St) (H:Hp) (x:V) (xs:List V) (v:Value) (us:List Value) (Q:VK),Inv X pins σ H s→RelV x v→Vals xs us→r x xs H Q→
  wpAny (model X.prog X.w) X.A (call (.builtin id) (v::us)) (EP X pins σ Q) X.xe s
section
variable {X:Cx} {a b:Expr} {ta tb:TE} {pos:Pos}
theorem IxR.or {r r':R2} (h:IxR X r) (h':IxR X r'):IxR X (fun x y H Q=>r x y H Q∨r' x y H Q):=by
 intro value slice pins s σ H x y v u Q I rx ry q hs
 rcases q with q|q
 ·exact h value slice pins s σ H x y v u Q I rx ry q hs
 ·exact h' value slice pins s σ H x y v u Q I rx ry q hs
theorem BK {r:R2} (hr:IxR X r) (ha:PE X a ta) (hb:PE X b tb) (hs:xL b):PE X (.Subscript a b pos) (Z1 r ta tb):=by
 intro pins s σ H Q I h;exact Subscript_ (pI ha hb I h fun v u s2 x y H2 I2 rx ry q=>hr a b pins s2 σ H2 x y v u Q I2 rx ry q (hs _ _))
def pG (K:PySem.W.Frag):R2:=fun x y H Q=>∃p xs i v,x=.ref p∧y=.int i∧SqL K H p xs∧kQ xs i=some v∧Q v H
def pF (K:PySem.W.Frag):R2:=fun x y H Q=>∃p xs i v,x=.ref p∧y=.int i∧SqT K H p xs∧kQ xs i=some v∧Q v H
def AX:R2:=fun x y H Q=>∃z i c,x=.str z∧y=.int i∧z.length≤sizeLine∧kQ z.cps.toList i=some c∧Q (.str ⟨#[c]⟩) H
theorem pS:IxR X (pG X.K):=by
 intro value slice pins s σ H x y v u Q I rx ry h hs;obtain ⟨p,xs,i,z,rfl,rfl,hq,he,q⟩:=h;cases rx;obtain ⟨t,rfl⟩:=ry;obtain ⟨its,r,pl,hz⟩:=I.list hq;obtain ⟨j,h1,h2,h3,h4,h5⟩:=oV he;obtain ⟨w,ew,rw'⟩:=r.get h2;have hl:=r.length;have hn:=ZW;have fin:EP X pins σ Q w s:=⟨z,H,I,rw',q⟩
 by_cases h0:0≤i
 ·have hj:i.toNat=j:=by
   rw [seqIndex_of h0 h5] at h1;exact Option.some.inj h1
  exact item_listR pl.isList h0 (by omega) (by rw [hj];simpa using ew) fin hs
 ·have hj:(i+(its.toArray.size:Int)).toNat=j:=by
   rw [seqIndex_neg (by omega) h4] at h1;rw [List.size_toArray,← hl];exact Option.some.inj h1
  exact subscriptTail_builtinR (x:=w) pl.isList.typeIs slot_list_getitem.lookup
   (wpAny_getItem_list_neg (Q:=fun r s'=>r=w∧EP X pins σ Q r s') pl.isList (by omega) (by rw [List.size_toArray]<;>omega) (by omega) (by rw [hj];simpa using ew) ⟨rfl,fin⟩) hs
theorem ix_tup:IxR X (pF X.K):=by
 intro value slice pins s σ H x y v u Q I rx ry h hs;obtain ⟨p,xs,i,z,rfl,rfl,hq,he,q⟩:=h;cases rx;obtain ⟨t,rfl⟩:=ry;obtain ⟨its,r,pl,hz⟩:=I.tuple hq;obtain ⟨j,h1,h2,h3,h4,h5⟩:=oV he;obtain ⟨w,ew,rw'⟩:=r.get h2;have hl:=r.length;have hn:=ZW;have fin:EP X pins σ Q w s:=⟨z,H,I,rw',q⟩;exact subscriptTail_builtinR (x:=w) pl.typeIs slot_tuple_getitem.lookup
  (getItem_tuple (j:=j) (Q:=fun r s'=>r=w∧EP X pins σ Q r s') pl (by omega) (by omega) (by rw [List.size_toArray,← hl];exact h1) (by simpa using ew) ⟨rfl,fin⟩) hs
theorem ZX:IxR X AX:=by
 intro value slice pins s σ H x y v u Q I rx ry h hs;obtain ⟨z,i,c,rfl,rfl,hz,he,q⟩:=h;obtain ⟨t,rfl⟩:=rx;obtain ⟨t',rfl⟩:=ry;obtain ⟨j,h1,h2,h3,h4,h5⟩:=oV he;have hl:z.cps.toList.length=z.length:=by simp [Str.length]
 rw [hl] at h1 h4 h5;have hn:=ZW;exact tail_any (typeIs_str s z t) slot_str_getitem.lookup (getItem_str (c:=c) (by
  have e1:decide (i < -(2 ^ 63:Int))=false:=decide_eq_false (by omega);have e2:decide (i≥2 ^ 63)=false:=decide_eq_false (by omega);rw [e1,e2,Bool.or_false]) (by rw [h1];simpa using h2) ⟨.str ⟨#[c]⟩,H,I.tok _,⟨_,rfl⟩,q⟩) hs
def pN (K:PySem.W.Frag):R2:=fun x y H Q=>pG K x y H Q∨pF K x y H Q∨AX x y H Q
theorem M9:IxR X (pN X.K):=pS.or (ix_tup.or ZX)
theorem FD (its:List Value) (n j:Nat) (u:Value):Obj.mapSeq (·.setIfInBounds j u) {cls:=.type "list",data:=.seq its.toArray n}={cls:=.type "list",data:=.seq (its.set j u).toArray n}:=by
 simp [Obj.mapSeq]
theorem Inv.lst {pins:List (Addr×Obj)} {σ:St} {H:Hp} {s:Shared} {p:Addr} {xs:List V} (I:Inv X pins σ H s) (h:H p=some (.lst xs)) :
  ∃(its:List Value) (n:Nat),Vals xs its∧s.heap.get? p=some {cls:=.type "list",data:=.seq its.toArray n}∧xs.length≤sizeLine:=by
 obtain ⟨z,its,n,r,e⟩:=I.hok p _ h;exact ⟨its,n,r,e,z⟩
theorem Inv.lstUpd {pins:List (Addr×Obj)} {σ:St} {H:Hp} {s:Shared} {p:Addr} {xs ys:List V} {its its':List Value} {n n':Nat} {f:Obj→Obj} (I:Inv X pins σ H s) (h:H p=some (.lst xs))
  (ho:s.heap.get? p=some {cls:=.type "list",data:=.seq its.toArray n}) (hf:f {cls:=.type "list",data:=.seq its.toArray n}={cls:=.type "list",data:=.seq its'.toArray n'}) (r:Vals ys its') (hz:ys.length≤sizeLine) (t:Nat) :
  Inv X pins σ (upd H p (.lst ys)) {s with heap:=s.heap.update p f,toks:=t}:=by
 have e:(s.heap.update p f).get? p=some {cls:=.type "list",data:=.seq its'.toArray n'}:=by
  rw [Heap.get?_update_self f ho (by rw [hf]<;>rfl),hf]
 refine I.write (x:=p) (e:=p) (by rw [h];trivial) (.inl rfl) (fun b u hb q=>(Heap.get?_update_other _ _ (Ne.symm hb)).trans q) ⟨_,e⟩ ?_;exact ⟨hz,its',n',r,e⟩
def NJ:V→V→V→Hp→(Hp→Prop)→Prop:=fun o i v H Q=>∃p xs k j,o=.ref p∧i=.int k∧H p=some (.lst xs)∧zU xs.length k=some j∧Q (upd H p (.lst (xs.set j v)))
theorem QR:BE X NJ:=by
 intro pins s σ H o i v ov iv u Q I ro ri rv h;obtain ⟨p,xs,k,j,rfl,rfl,hp,hj,q⟩:=h;cases ro;obtain ⟨t,rfl⟩:=ri;obtain ⟨its,n,r,ho,hz⟩:=I.lst hp;obtain ⟨h1,h2,h3,h4⟩:=oS hj;have hl:=r.length;have hn:=ZW;have I':Inv X pins σ (upd H p (.lst (xs.set j v))) {s with heap:=s.heap.update p (Obj.mapSeq (·.setIfInBounds j u))} :=
  I.lstUpd hp ho (FD its n j u) (r.set rv j) (by rw [List.length_set];exact hz) s.toks
 by_cases h0:0≤k
 ·have hk:k.toNat=j:=by
   rw [seqIndex_of h0 h4] at h1;exact Option.some.inj h1
  exact PySem.W.ki_setAt ho h0 (by omega) (by rw [List.size_toArray,← hl];exact h4) (by rw [hk];exact ⟨_,I',q⟩)
 ·have hk:(k+(its.toArray.size:Int)).toNat=j:=by
   rw [seqIndex_neg (by omega) h3] at h1;rw [List.size_toArray,← hl];exact Option.some.inj h1
  exact PySem.W.ki_setBack ho (by omega) (by rw [List.size_toArray,← hl];exact h3) (by omega) (by rw [hk];exact ⟨_,I',q⟩)
theorem EJ (lo hi:Option Int) (n:Nat):(sliceBounds lo hi none n).1=((HT.sIx n 0 lo:Nat):Int)∧(sliceBounds lo hi none n).2.1=((HT.sIx n n hi:Nat):Int)∧(sliceBounds lo hi none n).2.2=1:=by
 refine ⟨?_,?_,rfl⟩
 ·cases lo with
  |none=>simp [sliceBounds,HT.sIx]
  |some i =>
   simp only [sliceBounds,HT.sIx,Option.getD_none,show (1:Int)>0 by decide,if_true]
   by_cases h:i<0
   ·simp only [h,if_true]<;>omega
   ·simp only [h,if_false]<;>omega
 ·cases hi with
  |none=>simp [sliceBounds,HT.sIx]
  |some i =>
   simp only [sliceBounds,HT.sIx,Option.getD_none,show (1:Int)>0 by decide,if_true]
   by_cases h:i<0
   ·simp only [h,if_true]<;>omega
   ·simp only [h,if_false]<;>omega
theorem EF (its:List Value) (lo hi:Option Int):slicePick its.toArray lo hi none=((its.drop (HT.sIx its.length 0 lo)).take (HT.sIx its.length its.length hi - HT.sIx its.length 0 lo)).toArray:=by
 obtain ⟨h1,h2,h3⟩:=EJ lo hi its.toArray.size;unfold slicePick;rw [h1,h2,h3];simp only [sliceRange_one,pick_run,List.size_toArray]<;>rfl
def lU (K:PySem.W.Frag):V→Option Int→Option Int→Hp→VK→Prop:=fun x lo hi H Q=>∃a xs,x=.ref a∧SqL K H a xs∧∀p,H p=none→Q (.ref p) (upd H p (.lst (qS xs lo hi)))
theorem K5:eY X (lU X.K):=by
 intro pins s σ H x v vl vu lo hi sl Q I rx hs pl pu h;obtain ⟨a,xs,rfl,hx,q⟩:=h;cases rx;obtain ⟨its,r,ht,hz⟩:=I.list hx;have hlen:=r.length;refine ⟨"list",_,slot_list_getitem.lookup,ht.isList.typeIs,?_⟩;refine wpAny_getItem_list_slice ht.isList hs pl pu .none (by simp) ?_ (by rw [List.size_toArray]<;>omega);rw [EF,← hlen];refine ⟨.ref s.heap.objs.size,_,I.laid (t':=s.toks) (o:=.lst (qS xs lo hi)) (fun b ob q=>Heap.get?_push_of_some _ q) (Nat.le_refl _) ?_,rfl,q _ (I.hok.fresh (Nat.le_refl _))⟩;exact ⟨Nat.le_trans (rM xs lo hi) hz,_,0,(r.drop (HT.sIx xs.length 0 lo)).take (HT.sIx xs.length xs.length hi - HT.sIx xs.length 0 lo),Heap.get?_push_size _ rfl⟩
def y6:V→Bool
 |.non=>true
 |.bl _=>true
 |.int _=>true
 |.str _=>true
 |_=>false
def yX:V→V→Bool
 |.non,.non=>true
 |.bl a,.bl b=>a == b
 |.bl a,.int b=>(if a then 1 else 0) == b
 |.int a,.bl b=>a == (if b then 1 else 0)
 |.int a,.int b=>a == b
 |.str a,.str b=>a == b
 |_,_=>false
theorem gD {A:Around} {s:Shared} {y x:V} {u v:Value} (ry:RelV y u) (rx:RelV x v) (fy:y6 y=true) (fx:y6 x=true):SeqAt.EqAt A s u v (yX y x):=by
 cases y with
 |non =>
  cases ry;cases x with
  |non=>cases rx;exact SeqAt.EqAt.same _
  |bl b=>cases rx;exact SeqAt.EqAt.none_bool b
  |int b=>obtain ⟨t,rfl⟩:=rx;exact SeqAt.EqAt.none_int b t
  |str b=>obtain ⟨t,rfl⟩:=rx;exact SeqAt.EqAt.none_str b t
  |_=>exact absurd (show false=true from fx) Bool.false_ne_true
 |bl a =>
  cases ry;cases x with
  |non=>cases rx;exact SeqAt.EqAt.bool_none a
  |bl b=>cases rx;exact SeqAt.EqAt.bool_bool a b
  |int b=>obtain ⟨t,rfl⟩:=rx;exact SeqAt.EqAt.bool_int a b t
  |str b=>obtain ⟨t,rfl⟩:=rx;exact SeqAt.EqAt.bool_str a b t
  |_=>exact absurd (show false=true from fx) Bool.false_ne_true
 |int a =>
  obtain ⟨t',rfl⟩:=ry;cases x with
  |non=>cases rx;exact SeqAt.EqAt.int_none a t'
  |bl b=>cases rx;exact SeqAt.EqAt.int_bool a t' b
  |int b=>obtain ⟨t,rfl⟩:=rx;exact SeqAt.EqAt.int_int a t' b t
  |str b=>obtain ⟨t,rfl⟩:=rx;exact SeqAt.EqAt.int_str a t' b t
  |_=>exact absurd (show false=true from fx) Bool.false_ne_true
 |str a =>
  obtain ⟨t',rfl⟩:=ry;cases x with
  |non=>cases rx;exact SeqAt.EqAt.str_none a t'
  |bl b=>cases rx;exact SeqAt.EqAt.str_bool a t' b
  |int b=>obtain ⟨t,rfl⟩:=rx;exact SeqAt.EqAt.str_int a t' b t
  |str b=>obtain ⟨t,rfl⟩:=rx;exact SeqAt.EqAt.str_str a t' b t
  |_=>exact absurd (show false=true from fx) Bool.false_ne_true
 |_=>exact absurd (show false=true from fy) Bool.false_ne_true
def yM (x:V) (u:Value):Bool:=match u with
 |.none=>yX .non x
 |.bool b=>yX (.bl b) x
 |.int i _=>yX (.int i) x
 |.str z _=>yX (.str z) x
 |_=>false
theorem o5 {x y:V} {u:Value} (r:RelV y u) (f:y6 y=true):yM x u=yX y x:=by
 cases y with
 |non=>cases r;rfl
 |bl b=>cases r;rfl
 |int i=>obtain ⟨t,rfl⟩:=r;rfl
 |str z=>obtain ⟨t,rfl⟩:=r;rfl
 |_=>exact absurd (show false=true from f) Bool.false_ne_true
theorem fY {x:V}:∀{xs:List V} {us:List Value},Vals xs us→xs.all y6=true→us.any (yM x)=xs.any fun y=>yX y x
 |_,_,.nil,_=>rfl
 |y::xs,u::us,.cons r t,f=>by
  rw [List.all_cons,Bool.and_eq_true] at f;rw [List.any_cons,List.any_cons,o5 r f.1,fY t f.2]
theorem dU {A:Around} {s:Shared} {x:V} {v:Value} (rx:RelV x v) (fx:y6 x=true):∀{xs:List V} {us:List Value},Vals xs us→xs.all y6=true→∀u∈us,SeqAt.EqAt A s u v (yM x u)
 |_,_,.nil,_=>fun u hu=>by cases hu
 |y::xs,u::us,.cons r t,f=>fun u' hu=>by
  rw [List.all_cons,Bool.and_eq_true] at f
  rcases List.mem_cons.mp hu with rfl|hu
  ·rw [o5 r f.1];exact gD r rx f.1 fx
  ·exact dU rx fx t f.2 u' hu
def vY (x:V) (xs:List V):Bool:=xs.any fun y=>yX y x
def lY (K:PySem.W.Frag) (neg:Bool):R2:=fun x y H Q=>∃p xs,y=.ref p∧(SqL K H p xs∨SqT K H p xs)∧y6 x=true∧xs.all y6=true∧Q (.bl (if neg then !vY x xs else vY x xs)) H
theorem GN:qA X (compareOp .In) (lY X.K false):=by
 intro pins s σ H x y v u Q I rx ry h;obtain ⟨p,xs,rfl,hq,fx,fs,q⟩:=h;cases ry
 rcases hq with hq|hq
 ·obtain ⟨its,r,pl,hz⟩:=I.list hq;refine SeqAt.in_listAt (yM x) pl.isList (fun w hw=>dU rx fx r fs w (by simpa using hw)) ⟨.bl _,H,I,rfl,?_⟩;rw [show its.toArray.any (yM x)=its.any (yM x) by simp,fY r fs];exact q
 ·obtain ⟨its,r,pl,hz⟩:=I.tuple hq;refine SeqAt.in_tupleAt (yM x) pl (fun w hw=>dU rx fx r fs w (by simpa using hw)) ⟨.bl _,H,I,rfl,?_⟩;rw [show its.toArray.any (yM x)=its.any (yM x) by simp,fY r fs];exact q
theorem EK:qA X (compareOp .NotIn) (lY X.K true):=by
 intro pins s σ H x y v u Q I rx ry h;obtain ⟨p,xs,rfl,hq,fx,fs,q⟩:=h;cases ry
 rcases hq with hq|hq
 ·obtain ⟨its,r,pl,hz⟩:=I.list hq;refine SeqAt.notIn_listAt (yM x) pl.isList (fun w hw=>dU rx fx r fs w (by simpa using hw)) ⟨.bl _,H,I,rfl,?_⟩;rw [show its.toArray.any (yM x)=its.any (yM x) by simp,fY r fs];exact q
 ·obtain ⟨its,r,pl,hz⟩:=I.tuple hq;refine SeqAt.notIn_tupleAt (yM x) pl (fun w hw=>dU rx fx r fs w (by simpa using hw)) ⟨.bl _,H,I,rfl,?_⟩;rw [show its.toArray.any (yM x)=its.any (yM x) by simp,fY r fs];exact q
theorem BO:yK X (.builtin "len") (fun xs H Q=>∃p ys,xs=[.ref p]∧(SqL X.K H p ys∨SqT X.K H p ys)∧Q (.int ys.length) H):=by
 intro pins s σ H xs us Q I r h;obtain ⟨p,ys,rfl,hq,q⟩:=h;obtain ⟨u,rfl,rx⟩:=ZY r;cases rx;have hn:=ZW
 rcases hq with hq|hq
 ·obtain ⟨its,r',pl,hz⟩:=I.list hq;have hlen:=r'.length;exact Calls.call_len_list pl.isList (by simp only [List.size_toArray]<;>omega) ⟨.int ys.length,H,I.tok _,⟨s.toks+1,by rw [List.size_toArray,hlen]⟩,q⟩
 ·obtain ⟨its,r',pl,hz⟩:=I.tuple hq;have hlen:=r'.length;exact len_tuple pl (by simp only [List.size_toArray]<;>omega) ⟨.int ys.length,H,I.tok _,⟨s.toks+1,by rw [List.size_toArray,hlen]⟩,q⟩
theorem iB:yK X (.builtin "len") (fun xs H Q=>∃z,xs=[.str z]∧z.length≤sizeLine∧Q (.int z.length) H):=by
 intro pins s σ H xs us Q I r h;obtain ⟨z,rfl,hz,q⟩:=h;obtain ⟨u,rfl,t,rfl⟩:=ZY r;have hn:=ZW;exact len_str (by omega) ⟨.int z.length,H,I.tok _,⟨_,rfl⟩,q⟩
theorem EO:yK X (.type "list") (fun xs H Q=>∃p ys,xs=[.ref p]∧(SqL X.K H p ys∨SqT X.K H p ys)∧∀l,H l=none→Q (.ref l) (upd H l (.lst ys))):=by
 intro pins s σ H xs us Q I r h;obtain ⟨p,ys,rfl,hq,q⟩:=h;obtain ⟨u,rfl,rx⟩:=ZY r;cases rx;have fin:∀(its:List Value),Vals ys its→ys.length≤sizeLine→∀(h':Heap) (c':Nat),(∀b o',s.heap.get? b=some o'→h'.get? b=some o')→
   h'.get? s.heap.objs.size=some {cls:=.type "list",dict:=none,data:=.seq its.toArray c',slots := #[]}→EP X pins σ Q (.ref s.heap.objs.size) {s with heap:=h'}:=fun its r' hz h' c' kp e =>
  ⟨.ref s.heap.objs.size,_,I.laid (t':=s.toks) kp (Nat.le_refl _) (show ObjOk X.prog X.w _ h' _ (.lst ys) from ⟨hz,its,c',r',e⟩),rfl,q _ (I.hok.fresh (Nat.le_refl _))⟩
 rcases hq with hq|hq
 ·obtain ⟨its,r',pl,hz⟩:=I.list hq;have hlen:=r'.length;obtain ⟨o,ho,hc,n,hd⟩:=pl.isList;exact call_list_seq p (.inl rfl) ho hc hd (fun h' c' kp e=>fin its r' hz h' c' kp e) (by simp only [List.size_toArray]<;>omega)
 ·obtain ⟨its,r',pl,hz⟩:=I.tuple hq;have hlen:=r'.length;obtain ⟨o,ho,hc,n,hd⟩:=pl;exact call_list_seq p (.inr rfl) ho hc hd (fun h' c' kp e=>fin its r' hz h' c' kp e) (by simp only [List.size_toArray]<;>omega)
theorem EG:yK X (.type "tuple") (fun xs H Q=>∃p ys,xs=[.ref p]∧((SqL X.K H p ys∧∀l,H l=none→Q (.ref l) (upd H l (.tup ys)))∨(SqT X.K H p ys∧Q (.ref p) H))):=by
 intro pins s σ H xs us Q I r h;obtain ⟨p,ys,rfl,h⟩:=h;obtain ⟨u,rfl,rx⟩:=ZY r;cases rx
 rcases h with ⟨hq,q⟩|⟨hq,q⟩
 ·obtain ⟨its,r',pl,hz⟩:=I.list hq;have hlen:=r'.length;refine call_tuple_list pl.isList (fun h' kp=>?_) (by simp only [List.size_toArray]<;>omega);have I1:Inv X pins σ H {s with heap:=h'}:=I.kept (t':=s.toks) kp;have I2:Inv X pins σ (upd H h'.objs.size (.tup ys)) {s with heap:=h'.push {cls:=.type "tuple",data:=.seq its.toArray}} :=
   I1.laid (t':=s.toks) (fun b o e=>Heap.get?_push_of_some _ e) (Nat.le_refl _) (show ObjOk X.prog X.w _ _ _ (.tup ys) from ⟨hz,its,r',IsTup.new _ _⟩)
  exact ⟨.ref h'.objs.size,_,I2,rfl,q _ (I1.hok.fresh (Nat.le_refl _))⟩
 ·obtain ⟨its,r',pl,hz⟩:=I.tuple hq;exact call_tuple_same pl ⟨.ref p,H,I,rfl,q⟩
def pM (K:PySem.W.Frag) (T:String) (x:V) (H:Hp):Prop:=match x with
 |.str _=>T="str"
 |.int _=>T="int"
 |.ref p=>(T="list"∧∃xs,SqL K H p xs)∨(T="tuple"∧∃o,K.lookup p=some o∧o.cls=.type "tuple"∧o.dict=none)∨
   (T="dict"∧((∃kvs,H p=some (.dK kvs))∨∃kvs,H p=some (.dT kvs)))∨(T="set"∧∃S n,H p=some (.set S n))
 |_=>False
theorem xM {pins:List (Addr×Obj)} {σ:St} {H:Hp} {s:Shared} {T:String} {x:V} {v:Value} (I:Inv X pins σ H s) (r:RelV x v) (ty:pM X.K T x H) :
  s.TypeIs v T∧∀a,v=.ref a→∃ob,s.heap.get? a=some ob∧ob.dict=none:=by
 cases x with
 |str z =>
  obtain ⟨t,rfl⟩:=r;cases (show T="str" from ty);exact ⟨typeIs_str s z t,fun _ e=>nomatch e⟩
 |int i =>
  obtain ⟨t,rfl⟩:=r;cases (show T="int" from ty);exact ⟨typeIs_int s i t,fun _ e=>nomatch e⟩
 |ref p =>
  cases r
  rcases ty with ⟨rfl,xs,hq⟩|⟨rfl,o,hk,hc,hd⟩|⟨rfl,hk⟩|⟨rfl,S,n,hk⟩
  ·obtain ⟨its,_,pl,_⟩:=I.list hq;refine ⟨pl.isList.typeIs,fun a e=>?_⟩;cases e;obtain ⟨o,n,e,c,hd,_⟩:=pl;exact ⟨o,e,hd⟩
  ·refine ⟨⟨o,I.kIn p o hk,hc⟩,fun a e=>?_⟩;cases e;exact ⟨o,I.kIn _ o hk,hd⟩
  ·have z:∃o,s.heap.get? p=some o∧o.ExactDict:=by
    rcases hk with ⟨kvs,hk⟩|⟨kvs,hk⟩
    ·obtain ⟨_,_,_,_,o,_,_,e,ex,_⟩:=I.hok p _ hk;exact ⟨o,e,ex⟩
    ·obtain ⟨_,_,_,_,o,_,_,e,ex,_⟩:=I.hok p _ hk;exact ⟨o,e,ex⟩
   obtain ⟨o,e,ex⟩:=z;refine ⟨⟨o,e,ex.1⟩,fun a e2=>?_⟩;cases e2;exact ⟨o,e,ex.2.1⟩
  ·obtain ⟨o,_,_,_,e,ex,_⟩:=I.hok p _ hk;refine ⟨⟨o,e,ex.1⟩,fun a e2=>?_⟩;cases e2;exact ⟨o,e,ex.2.1⟩
 |_=>exact False.elim ty
def OF (K:PySem.W.Frag) (T:String) (r:V→List V→Hp→VK→Prop) (to:TE):TE:=fun σ H Q=>to σ H fun x H1=>pM K T x H1∧r x [] H1 Q
def BG (K:PySem.W.Frag) (T:String) (r:V→List V→Hp→VK→Prop) (to:TE) (t:TA):TE:=fun σ H Q=>to σ H fun x H1=>pM K T x H1∧t σ H1 fun xs H2=>r x xs H2 Q
variable {o e:Expr} {es:List Expr} {to:TE} {t:TA} {name:Str} {apos cpos:Pos} {T id:String} {r:V→List V→Hp→VK→Prop}
theorem MX (pa:PlainAttrs T) (slot:Slot T name id) (hty:typeOf (.builtin id)=pure (.type "method_descriptor")) (hm:pR X id r) (ho:PE X o to)
  (hbase:attributeBase o name X.env (eval o X.env)=eval o X.env:=by rfl) (hline:(apos.endLine == cpos.line)=true:=by rfl):PE X (.Call (.Attribute o name apos) [] [] cpos) (OF X.K T r to):=by
 intro pins s σ H Q I h;refine wpAny_Call_method0_late hbase hline (jQ (ho pins s σ H _ I h) fun v s1 ⟨x,H1,I1,r1,ty,q1⟩=>?_);obtain ⟨h1,h2⟩:=xM I1 r1 ty;exact ⟨T,id,pa,slot,hty,h1,h2,Calls.callWith_builtin rfl (PySem.evalArgs_none (hm pins s1 σ H1 x [] v [] Q I1 r1 .nil q1))⟩
theorem qB (pa:PlainAttrs T) (slot:Slot T name id) (hty:typeOf (.builtin id)=pure (.type "method_descriptor")) (hm:pR X id r) (ho:PE X o to) (ha:PA X (e::es) t)
  (hbase:attributeBase o name X.env (eval o X.env)=eval o X.env:=by rfl)
  (hfew:((backTo cpos (starEach (e::es) X.env)).all (fun x => !x.1)&&(backToKw cpos (keywordEach [] X.env)).all (fun x=>x.1.isSome)
   && decide ((e::es).length+([]:List Keyword).length+(if ([]:List Keyword).isEmpty then 0 else 1)<30))=true:=by rfl)
  (hline:(apos.endLine == cpos.line)=true:=by rfl) (hs:starEach (e::es) X.env=(false,eval e X.env)::starEach es X.env:=by rfl) (hplain:(backTo cpos (starEach es X.env)).any (·.1)=false:=by rfl) :
  PE X (.Call (.Attribute o name apos) (e::es) [] cpos) (BG X.K T r to t):=by
 intro pins s σ H Q I h;refine wpAny_Call_method_late hbase hfew hline rfl (jQ (ho pins s σ H _ I h) fun v s1 ⟨x,H1,I1,r1,ty,q1⟩=>?_);obtain ⟨h1,h2⟩:=xM I1 r1 ty;refine ⟨T,id,pa,slot,hty,h1,h2,?_⟩;have hA:=ha cpos pins s1 σ H1 _ I1 q1;rw [hs] at hA ⊢;refine Calls.callWith_builtin (by show (false||(backTo cpos (starEach es X.env)).any (·.1))=false;rw [hplain]<;>rfl) (Calls.evalArgs_plain ?_);exact jQ hA fun us s2 ⟨vs,H2,I2,r2,q2⟩=>hm pins s2 σ H2 x vs v us Q I2 r1 r2 q2
/- xs.append(e),list.index on a module's tuple .. are pR facts of 06m -/
end
end L2
namespace L2
open PySem PySem.Spec PyProof.Rows
def Z5 (X:Cx) (id:String) (r:V→List V→Hp→VK→Prop):Prop :=
 ∀(pins:List (Addr×Obj)) (s:Shared) (σ:St) (H:Hp) (x:V) (xs:List V) (v:Value) (us:List Value) (Q:VK),Inv X pins σ H s→RelV x v→Vals xs us→r x xs H Q→
  wpAny (model X.prog X.w) X.A (call (.builtin id) (v::us)) (EP X pins σ Q) X.xe s
theorem Vals.one:∀{x:V} {us:List Value},Vals [x] us→∃u,us=[u]∧RelV x u
 |_,_,.cons r .nil=>⟨_,rfl,r⟩
theorem Vals.zero:∀{us:List Value},Vals [] us→us=[]
 |_,.nil=>rfl
theorem Vals.eraseIdx:∀{xs:List V} {us:List Value} (i:Nat),Vals xs us→Vals (xs.eraseIdx i) (us.eraseIdx i)
 |_,_,_,.nil=>.nil
 |_,_,0,.cons _ t=>t
 |_,_,i+1,.cons r t=>.cons r (Vals.eraseIdx i t)
theorem Vals.reverse {xs:List V} {us:List Value} (h:Vals xs us):Vals xs.reverse us.reverse:=by
 induction h with
 |nil=>exact .nil
 |cons r t ih=>rw [List.reverse_cons,List.reverse_cons];exact Vals.append ih (.cons r .nil)
theorem Vals.rep {xs:List V} {us:List Value} (h:Vals xs us):∀k:Nat,Vals (List.replicate k xs).flatten (List.replicate k us).flatten
 |0=>.nil
 |k+1=>by
  rw [List.replicate_succ,List.replicate_succ,List.flatten_cons,List.flatten_cons];exact Vals.append h (Vals.rep h k)
theorem nI {α:Type}:∀(l:List α) (i:Nat),(l.eraseIdx i).length≤l.length
 |[],_=>Nat.le_refl _
 |_::_,0=>Nat.le_succ _
 |_::r,i+1=>Nat.succ_le_succ (nI r i)
theorem tM (its:List Value):∀(k:Nat) (acc:List Value),
  List.foldl (fun x1 x2=>x1++x2) acc.toArray (List.replicate k its.toArray)=(acc++(List.replicate k its).flatten).toArray
 |0,acc=>by simp
 |k+1,acc=>by
  have e:acc.toArray++its.toArray=(acc++its).toArray:=by simp
  have e2:(acc++its)++(List.replicate k its).flatten=acc++(List.replicate (k+1) its).flatten:=by
   rw [List.replicate_succ,List.flatten_cons,List.append_assoc]
  rw [← e2,← tM its k (acc++its),← e,List.replicate_succ,List.foldl_cons]
section
variable {X:Cx} {pins:List (Addr×Obj)} {σ:St} {H:Hp} {s:Shared} {l b:Addr} {xs ys zs:List V}
theorem Inv.lset {its its':List Value} {n:Nat} {f:Array Value→Array Value} {t':Nat} (I:Inv X pins σ H s) (hH:H l=some (.lst xs))
  (e:s.heap.get? l=some {cls:=.type "list",data:=.seq its.toArray n}) (hf:f its.toArray=its'.toArray) (hv:Vals ys its') (hz:ys.length≤sizeLine) :
  Inv X pins σ (upd H l (.lst ys)) {s with heap:=s.heap.update l (Obj.mapSeq f),toks:=t'}:=by
 have q:=PySem.IsL.update e f;rw [hf] at q;refine I.write (x:=l) (e:=l) (by rw [hH];exact trivial) (.inl rfl) (fun b' u hb hu=>(Heap.get?_update_other s.heap (Obj.mapSeq f) (Ne.symm hb)).trans hu) ⟨_,q⟩ ?_;exact ⟨hz,its',_,hv,q⟩
theorem Inv.lnew {its:List Value} {t':Nat} (I:Inv X pins σ H s) (hv:Vals ys its) (hz:ys.length≤sizeLine) :
  Inv X pins σ (upd H s.heap.objs.size (.lst ys)) {s with heap:=s.heap.push {cls:=.type "list",data:=.seq its.toArray},toks:=t'} :=
 I.laid (fun _ _ q=>Heap.get?_push_of_some _ q) (Nat.le_refl _) ⟨hz,its,0,hv,Heap.get?_push_size _ rfl⟩
theorem Inv.fresh (I:Inv X pins σ H s):H s.heap.objs.size=none:=I.hok.fresh (Nat.le_refl _)
theorem Inv.lstM (I:Inv X pins σ H s) (hH:H l=some (.lst xs)):xs.length≤sizeLine∧∃(its:List Value) (n:Nat),Vals xs its∧xs.length=its.length∧s.heap.get? l=some {cls:=.type "list",data:=.seq its.toArray n}:=by
 obtain ⟨z,its,n,r,e⟩:=I.hok l _ hH;exact ⟨z,its,n,r,r.length,e⟩
theorem IZ {n:Nat} (h:n≤sizeLine):Builtin.List.listTooLong n=false:=by
 unfold Builtin.List.listTooLong;exact decide_eq_false (by omega)
end
section
variable {X:Cx}
def LG:V→List V→Hp→VK→Prop:=fun x vs H Q=>∃l xs y,x=.ref l∧vs=[y]∧H l=some (.lst xs)∧xs.length<sizeLine∧Q .non (upd H l (.lst (xs++[y])))
theorem v9:Z5 X "list.append" LG:=by
 intro pins s σ H x vs v us Q I rx rv h;obtain ⟨l,xs,y,rfl,rfl,hH,hz,q⟩:=h;cases rx;obtain ⟨u,rfl,ru⟩:=rv.one;obtain ⟨z,its,n,r,hl,e⟩:=I.lstM hH;refine call_meets F.slot_list_append ⟨_,e,rfl⟩ F.entry_list_append (F.args_list_append_2 _ _) (PySem.list_append l its.toArray n u (by rw [List.size_toArray];omega)) ⟨e,?_⟩;refine ⟨.non,_,I.lset (its':=its++[u]) hH e (by simp) (r.append (.cons ru .nil)) ?_,rfl,q⟩;rw [List.length_append,List.length_singleton];omega
def MO:V→List V→Hp→VK→Prop:=fun x vs H Q=>∃l xs i k y,x=.ref l∧vs=[.int i]∧H l=some (.lst xs)∧-(2 ^ 63)≤i∧i<2 ^ 63∧seqIndex? i xs.length=some k∧xs[k]?=some y∧Q y (upd H l (.lst (xs.eraseIdx k)))
theorem KB:Z5 X "list.pop" MO:=by
 intro pins s σ H x vs v us Q I rx rv h;obtain ⟨l,xs,i,k,y,rfl,rfl,hH,h1,h2,hk,hy,q⟩:=h;cases rx;obtain ⟨u,rfl,ru⟩:=rv.one;obtain ⟨t,rfl⟩:=ru;obtain ⟨z,its,n,r,hl,e⟩:=I.lstM hH;obtain ⟨w,hw,rw'⟩:=r.get hy;refine call_meets F.slot_list_pop ⟨_,e,rfl⟩ F.entry_list_pop (F.args_list_pop_2 _ _)
  (MeetsSeq.list_pop_at l its.toArray n i t k w (fitsIndex_both h1 h2) (by rw [List.size_toArray,← hl];exact hk) (by rw [← Array.getElem?_toList];exact hw) (by rw [List.size_toArray];omega)) ⟨e,?_⟩
 refine ⟨y,_,I.lset (its':=its.eraseIdx k) hH e ?_ (r.eraseIdx k) ?_,rw',q⟩
 ·show its.toArray.eraseIdxIfInBounds k=(its.eraseIdx k).toArray;rw [List.eraseIdxIfInBounds_toArray]
 ·have:=nI xs k;omega
def IP:V→List V→Hp→VK→Prop:=fun x vs H Q=>∃l xs,x=.ref l∧vs=[]∧H l=some (.lst xs)∧Q .non (upd H l (.lst xs.reverse))
theorem FC:Z5 X "list.reverse" IP:=by
 intro pins s σ H x vs v us Q I rx rv h;obtain ⟨l,xs,rfl,rfl,hH,q⟩:=h;cases rx;have hus:=rv.zero;subst hus;obtain ⟨z,its,n,r,hl,e⟩:=I.lstM hH;refine call_meets F.slot_list_reverse ⟨_,e,rfl⟩ F.entry_list_reverse (F.args_list_reverse_1 _) (AutoSeq1.list_reverse_list_0 l its.toArray n (by rw [List.size_toArray];omega)) ⟨e,?_⟩;refine ⟨.non,_,I.lset (its':=its.reverse) hH e (by simp) r.reverse ?_,rfl,q⟩;rw [List.length_reverse];omega
def OL:R2:=fun x y H Q=>∃l b xs zs,x=.ref l∧y=.ref b∧H l=some (.lst xs)∧H b=some (.lst zs)∧xs.length+zs.length≤sizeLine∧∀p,H p=none→Q (.ref p) (upd H p (.lst (xs++zs)))
theorem qQ:qA X (binaryOp .Add) OL:=by
 intro pins s σ H x y v u Q I rx ry h;obtain ⟨l,b,xs,zs,rfl,rfl,hH,hB,hz,q⟩:=h;cases rx;cases ry;obtain ⟨z,its,n,r,hl,e⟩:=I.lstM hH;obtain ⟨z2,its2,n2,r2,hl2,e2⟩:=I.lstM hB;refine PySem.P.add_list e e2 ?_ (by rw [List.size_toArray,List.size_toArray];omega);have ea:its.toArray++its2.toArray=(its++its2).toArray:=by simp
 rw [ea];exact ⟨.ref _,_,I.lnew (t':=s.toks) (r.append r2) (by rw [List.length_append];omega),rfl,q _ I.fresh⟩
def OJ:R2:=fun x y H Q=>∃l k xs,x=.ref l∧y=.int k∧H l=some (.lst xs)∧-(2 ^ 63)≤k∧k<2 ^ 63∧xs.length*k.toNat≤sizeLine∧
 ∀p,H p=none→Q (.ref p) (upd H p (.lst (List.replicate k.toNat xs).flatten))
theorem xE {α:Type} (xs:List α) (k:Nat):(List.replicate k xs).flatten.length=k*xs.length:=by
 induction k with
 |zero=>simp
 |succ k ih=>rw [List.replicate_succ,List.flatten_cons,List.length_append,ih,Nat.succ_mul,Nat.add_comm]
theorem MY:qA X (binaryOp .Mult) OJ:=by
 intro pins s σ H x y v u Q I rx ry h;obtain ⟨l,k,xs,rfl,rfl,hH,h1,h2,hz,q⟩:=h;cases rx;obtain ⟨t,rfl⟩:=ry;obtain ⟨z,its,n,r,hl,e⟩:=I.lstM hH;have hlen:its.toArray.size*k.toNat≤sizeLine:=by rw [List.size_toArray,← hl];exact hz
 have hcap:¬its.toArray.size*k.toNat>(2 ^ 63 - 1) / 8:=by
  have:(sizeLine:Nat)≤(2 ^ 63 - 1) / 8:=by decide
  omega
 have hfit:¬(!Builtin.List.listFitsIndex k)=true:=by
  rw [fitsIndex_both h1 h2];exact Bool.false_ne_true
 have hlong:¬Builtin.List.listTooLong (its.toArray.size*k.toNat)=true:=by
  rw [IZ hlen];exact Bool.false_ne_true
 have hnew:List.foldl (fun x1 x2=>x1++x2) #[] (List.replicate (if its.toArray.isEmpty=true then 0 else k.toNat) its.toArray)=(List.replicate k.toNat its).flatten.toArray:=by
  have f0:∀m:Nat,List.foldl (fun x1 x2=>x1++x2) #[] (List.replicate m its.toArray)=(List.replicate m its).flatten.toArray:=fun m=>by
   have:=tM its m [];rw [List.nil_append] at this;exact this
  rw [f0];cases its with
  |nil=>simp
  |cons a r'=>rw [if_neg (by simp)]
 refine wpAny_binaryOp_repeat_ref (T:="list") (U:="int") (by decide) ⟨_,e,rfl⟩ (fun s'=>typeIs_int s' k t) noFill_list_mul F.fills_int_mul F.slot_int_rmul repeat_list F.slot_int_index.lookup
  (call_meets F.slot_int_rmul (typeIs_int s k t) F.entry_int_rmul (F.args_int_rmul_2 _ _) (int___rmul___int_list k t l its.toArray n)
   ⟨e,rfl,⟨_,e,rfl⟩,call_meets F.slot_list_mul ⟨_,e,rfl⟩ F.entry_list_mul (F.args_list_mul_2 _ _) (AutoListH.list___mul___list_int_3 l its.toArray n k t hfit hcap hlong) ⟨e,?_⟩⟩)
 rw [hnew];exact ⟨.ref _,_,I.lnew (t':=s.toks) (r.rep k.toNat) (by rw [xE,Nat.mul_comm];exact hz),rfl,q _ I.fresh⟩
end
section
variable {prog:Program} {w:World} {A:Around} {E:Value→Shared→Prop} {s:Shared}
end
section
variable {X:Cx}
end
end L2
namespace Att
open PySem PySem.W PySem.Calls PyProof.Rows
theorem EB {P:Params} {h:Heap}:∀(ns:List Int) (vs:List Value),WellAll P h vs (ns.map WData.int)→IntsAre vs ns:=by
 intro ns
 induction ns with
 |nil =>
  intro vs w;rw [List.map_nil] at w;cases w;exact .nil
 |cons n ns ih =>
  intro vs w;rw [List.map_cons] at w;cases w with
  |cons a b =>
   cases a;exact .cons _ _ (ih _ b)
theorem GD {l:OpenLaw} {n:Nat} (hn:l.most=some n) {P:Params} {h:Heap} {args:List WData} {vals:List Value}
  (hpre:l.row.toRowW.claim.pre args=true) (hwl:WellAll P h vals args) :
  ∃a vs ns,vals=[Value.ref a]∧args=[WData.list (ns.map WData.int)]∧h.get? a=some {cls:=.type "list",data:=.seq vs.toArray}∧IntsAre vs ns∧ns.length≤n:=by
 have hsh:WShape.hasAll [] args [.list .int]=true:=(pre_splitW hpre).1;have hc:l.pre.holds [] {args:=args}=true:=(pre_splitW hpre).2;obtain ⟨d,r,rfl,h1,h2⟩:=hasAllW_cons hsh;obtain rfl:=hasAllW_nil h2;obtain ⟨xs,rfl,h3⟩:=hasW_list h1;obtain ⟨ns,rfl⟩:=items_int h3;have hlen:ns.length≤n:=by
  unfold OpenLaw.pre at hc;have h4:(WTm.not (.lt (.lit (.int (n:Int))) (.len (.arg 0)))).holds [] {args:=[.list (ns.map .int)]}=true:=by
   have h4:=(holds_andW hc).1;rw [hn] at h4;exact h4
  have h5:=condW_of h4 (w_not (w_lt w_lit (w_len_list (w_arg rfl))));rw [List.length_map] at h5;refine Nat.le_of_not_lt fun q=>?_
  have q':(n:Int)<((ns.length:Nat):Int):=by omega
  first
   | (rw [decide_eq_true q'] at h5;exact absurd h5 (by decide))
   | (simp at h5;omega)
 cases hwl with
 |cons w1 w2 =>
  cases w2;cases w1 with
  |list ho hall=>exact ⟨_,_,ns,rfl,rfl,ho,EB ns _ hall,hlen⟩
theorem GH (l:OpenLaw) (args:List WData):l.row.toRowW.claim.post args (.bool true) args=true :=
 postW_of (r:=l.row.toRowW) (X:=(true == true))
  (show WShape.has [] (.bool true) .bool=true by first|rfl|decide|simp [WShape.has,WShape.arms,WShape.armsAll])
  (show (WTm.eq .res (.lit (.bool true))).value [] {args:=args,res:=some (.bool true),after:=args}=some (.bool (true == true)) from w_eq_bool (w_res rfl) w_lit) rfl
theorem attach_call {l:OpenLaw} {n:Nat} {q:Program} {loose:List Str} {XP:(Str→Option Value)→Heap→Prop} {YP:World→Heap→Prop} {d:DefRec}
  (hn:l.most=some n) (hdf:d.params.defaults=[])
  (call:∀(w:World) (s₀ s₁:Shared) (mg mb:Str→Option Value) (fa:Addr) (o:Obj) (pm cd doc:Value) (a:Addr) (vs:List Value) (ns:List Int),
   Ground q loose [] XP w s₀ mg mb s₁.heap→YP w s₁.heap→
   s₁.heap.get? fa=some o→o.data=.func (docDef d.name d.params d.body d.scope pm cd doc)→s₁.heap.CodeRec cd d.name→mg d.name=some (.ref fa)→
   s₁.heap.get? a=some {cls:=.type "list",data:=.seq vs.toArray}→IntsAre vs ns→ns.length≤n→s₁.gens = #[]→
   codeAny (model l.prog w) callerA (.call (.ref fa) ⟨[.ref a],[]⟩) (fun r s'=>r=.ok (.ret (.bool true))∧OldK s₁.heap s'.heap∧s'.os=s₁.os∧AllBare s'.gens) s₁) :
  WalkO q loose XP YP l.row.toRowW d [] (fun f vs=>PySem.call f vs):=by
 intro w s₀ s₁ mg mb G Y fa o pm cd doc dV kV ho hd hcd hD hmg hg args vals as hpre hlay hrd hwl hlo;obtain rfl:dV=.none:=Dflts.none hD hdf;obtain rfl:kV=.none:=Dflts.noKw hD;obtain ⟨a,vs,ns,rfl,rfl,hobj,hints,hlen⟩:=GD hn hpre hwl;refine enter_call (codeAny_mono (call w s₀ s₁ mg mb fa o pm cd doc a vs ns G Y ho (fd_plain hd) hcd hmg hobj hints hlen hg) fun r s' hq=>?_);obtain ⟨rfl,h2,h3,h4⟩:=hq;exact ⟨.inl ⟨.bool true,.bool true,[],rfl,fun _=>rfl,.bool true,GH l _,fun _=>⟨List.Pairwise.nil,fun _ hm=>(nomatch hm)⟩⟩,h2,h3,h4⟩
section
variable {prog:Program} {w:World} {A:Around} {E:Value→Shared→Prop} {s:Shared} {K:Frag}
def O6 (h:Heap) (L d:Addr):List (Addr×Obj):=(List.range h.objs.size).filterMap fun a=>if a=L∨a=d then none else (h.get? a).map fun o=>(a,o)
end
end Att
namespace L2
open PySem PySem.Spec PyProof.Rows
theorem sJ:∀{vs:List Value} {ns:List Int},IntsAre vs ns→Vals (ns.map V.int) vs
 |_,_,.nil=>.nil
 |_,_,.cons n t h=>.cons ⟨t,rfl⟩ (sJ h)
def pK (H:Hp):Prop:=∀b,H b=none∨∃o xs,H b=some (.frz o (.lst xs))
theorem KK {P:Program} {w:World} {K:PySem.W.Frag} {mg mb:Str→Option Value} {CX:zV} {k:Nat} {fa a:Addr} {fd:FuncData} {x:Str} {sp:Sp} {s₁:Shared} {vs:List Value} {ns:List Int}
  (KX:K.In s₁.heap) (hns:s₁.heap.Ns mainGlobals mg) (hb:s₁.heap.Ns builtinsNs mb) (hbb:∀x:Str,x≠"__name__"→mb x=bootBuiltins x) (hlim:s₁.heap.NoLimit) (hg:s₁.gens = #[])
  (ha:s₁.heap.get? a=some {cls:=.type "list",data:=.seq vs.toArray}) (hi:IntsAre vs ns) (hl:ns.length≤sizeLine) (hr:Room k callerA)
  (F:∀base:Heap,K.In base→base.Ns mainGlobals mg→FnOk P w K mg base CX k fa fd [x] sp) (hbind:∀(s:Shared) (u:Value),BindsTo s fd ⟨[u],[]⟩ [(x,u)])
  (hsp:∀H:Hp,pK H→SqL K H a (ns.map V.int)→sp [.ref a] H (fun v _=>v=.bl true) fun _ _ _=>False)
  (hCX:∀H e s',CX [] H s₁ (fun _ _ _=>False) e s'→False) :
  codeAny (model P w) callerA (.call (.ref fa) ⟨[.ref a],[]⟩) (fun r s'=>r=.ok (.ret (.bool true))∧OldK s₁.heap s'.heap∧s'.os=s₁.os∧AllBare s'.gens) s₁:=by
 have rv:=sJ hi;have lenV:=hi.length;have core:∀H:Hp,pK H→SqL K H a (ns.map V.int)→HOk P w H s₁.heap→(∀b,H b≠none→b=a)→(H a≠none→K.lookup a=none)→
   codeAny (model P w) callerA (.call (.ref fa) ⟨[.ref a],[]⟩) (fun r s'=>r=.ok (.ret (.bool true))∧OldK s₁.heap s'.heap∧s'.os=s₁.os∧AllBare s'.gens) s₁:=by
  intro H hO hS hok hA hK;have base_of:∀{b:Addr} {o:Obj},s₁.heap.get? b=some o→H b=none→(QI s₁.heap H).get? b=some o:=fun e n=>KN e n
  have noA:∀{b:Addr} {o:Obj} {es:Array DictEntry} {ep:Nat},s₁.heap.get? b=some o→o.data=.dict es ep→H b=none:=fun {b o es ep} e d=>by
   cases q:H b with
   |none=>rfl
   |some u =>
    have e':b=a:=hA b (by rw [q];simp);subst e';rw [ha] at e;cases e
    have d':Data.seq vs.toArray _=Data.dict es ep:=d;cases d'
  have nsK:∀{b:Addr} {m:Str→Option Value},s₁.heap.Ns b m→(QI s₁.heap H).Ns b m:=fun {b m} ⟨o,es,ep,e,d,r⟩=>⟨o,es,ep,base_of e (noA e d),d,r⟩
  have hKb:K.In (QI s₁.heap H):=fun b o e=>base_of (KX b o e) (by
   cases q:H b with
   |none=>rfl
   |some u =>
    have e':b=a:=hA b (by rw [q];simp);subst e';rw [hK (by rw [q];simp)] at e;cases e)
  have hM:Mod K mg (QI s₁.heap H):=⟨hKb,nsK hns,⟨mb,nsK hb,hbb⟩,let ⟨mc,h1,h2⟩:=hlim;⟨mc,nsK h1,h2⟩⟩;have e0:Env0 P w K mg (QI s₁.heap H) callerA [] s₁ H:=⟨rfl,hM,fun b o e=>LO e,Nat.le_of_eq (HD _ _),trivial,fun b hb=>absurd (show b∈([]:List Addr) from hb) (by simp),hok,.of_eq hg⟩;refine codeAny_mono ((F _ hKb (nsK hns)).run callerA [] s₁ H ⟨[.ref a],[]⟩ [.ref a] [.ref a] _ _ hr e0 (hbind s₁ (.ref a)) (.cons rfl .nil) (hsp H hO hS)) fun r s' h=>?_
  cases r with
  |error e=>exact (hCX H e s' h).elim
  |ok fl =>
   cases fl with
   |next=>exact False.elim h
   |brk=>exact False.elim h
   |cont=>exact False.elim h
   |ret u =>
    obtain ⟨v,H',os,bare,un,hok',r',q⟩:=h;have q':v=.bl true:=q;subst q';obtain rfl:u=Value.bool true:=r';refine ⟨rfl,OldK.of_keep fun b o e=>?_,os,bare⟩;cases q:H b with
    |none=>exact un.keep b o e q (by intro z;exact absurd (show b∈([]:List Addr) from z) (by simp)) (by simp)
    |some u =>
     rcases hO b with z|⟨ob,xs,z⟩
     ·rw [q] at z;cases z
     ·have z2:=un.frzs b ob _ z;obtain ⟨e1,_⟩:=hok b _ z;obtain ⟨e2,_⟩:=hok' b _ z2;rw [e] at e1;cases e1
      exact e2
 cases hk:K.lookup a with
 |some o =>
  have e:=KX a o hk;rw [ha] at e;cases e;refine core (fun _=>none) (fun _=>.inl rfl) (.inr ⟨_,vs.toArray,_,hk,rfl,rfl,rfl,by rw [List.size_toArray,lenV];exact hl,by simpa using rv⟩) (fun b u z=>by have z':(none:Option HO)=some u:=z;cases z') (fun b z=>absurd rfl z) fun z=>absurd rfl z
 |none =>
  refine core (fun b=>if b=a then some (.frz {cls:=.type "list",data:=.seq vs.toArray} (.lst (ns.map V.int))) else none) (fun b=>?_) (.inl (.inr ⟨{cls:=.type "list",data:=.seq vs.toArray},if_pos rfl⟩)) (fun b u z=>?_) (fun b z=>?_) fun _=>hk
  ·by_cases hb:b=a
   ·exact .inr ⟨_,_,if_pos hb⟩
   ·exact .inl (if_neg hb)
  ·by_cases hb:b=a
   ·have z':=(if_pos hb).symm.trans z;cases z';subst hb;exact ⟨ha,by rw [List.length_map];exact hl,vs,_,rv,ha⟩
   ·have z':=(if_neg hb).symm.trans z;cases z'
  ·by_cases hb:b=a
   ·exact hb
   ·exact absurd (if_neg hb) z
end L2
namespace L2
open PySem PySem.Spec PyProof.Rows
abbrev KOf {K:PySem.W.Frag} {h:Heap} (_:K.In h):PySem.W.Frag:=K
theorem walk_of {l:PySem.W.OpenLaw} {n k:Nat} {q:Program} {loose:List Str} {XP:(Str→Option Value)→Heap→Prop} {YP:World→Heap→Prop} {d:DefRec} {K:Params→PySem.W.Frag} {CX:World→zV} {sp:World→Sp} {x:Str}
  (hn:l.most=some n) (hn2:n≤sizeLine) (hdf:d.params.defaults=[]) (hr:Room k callerA)
  (hY:∀(w:World) (h:Heap),YP w h→(K w.params).In h)
  (F:∀(w:World) (mg:Str→Option Value) (fa:Addr) (h:Heap),(K w.params).In h→h.Ns mainGlobals mg→mg d.name=some (.ref fa)→
   ∃fd:FuncData,(∀(s:Shared) (u:Value),BindsTo s fd ⟨[u],[]⟩ [(x,u)])∧
    ∀base:Heap,(K w.params).In base→base.Ns mainGlobals mg→FnOk l.prog w (K w.params) mg base (CX w) k fa fd [x] (sp w))
  (hsp:∀(w:World) (H:Hp) (a:Addr) (ns:List Int),ns.length≤n→pK H→SqL (K w.params) H a (ns.map V.int)→sp w [.ref a] H (fun v _=>v=.bl true) fun _ _ _=>False)
  (hCX:∀(w:World) (H:Hp) (s:Shared) (e:Value) (s':Shared),CX w [] H s (fun _ _ _=>False) e s'→False) :
  PySem.W.WalkO q loose XP YP l.row.toRowW d [] (fun f vs=>PySem.call f vs):=by
 refine Att.attach_call hn hdf fun w s₀ s₁ mg mb fa o pm cd doc a vs ns G Y ho hd hcd hmg hobj hints hlen hg=>?_
 have KX:=hY w _ Y;obtain ⟨fd,hb,hF⟩:=F w mg fa _ KX G.T.g hmg;exact KK KX G.T.g G.T.b G.T.builtins G.T.nolimit hg hobj hints (Nat.le_trans hlen hn2) hr hF hb (fun H hO hS=>hsp w H a ns hlen hO hS) fun H e s'=>hCX w H s₁ e s'
end L2
/- THE LAST THEOREM (shape;LID,My.* are yours):
  My.Adr: a structure of the addresses that your layer names (classes,functions);My.Txt K t: a structure (Prop) of the equations over K;
  My.txt_mk:{K} {implicit addresses ..} (e1:nsIn K mainGlobals "law"=some (some (.ref f))) (e2:K.lookup f=some ⟨oc,od,.func (fnOf "law" "law" params body scope dV kV doc pm an cdv ct),sl⟩) (e3:codeIn K cdv "law"=true) .. : ∃t,My.Txt K t
set_option maxRecDepth 100000 in
set_option maxHeartbeats 0 in
theorem PySem.Challenge.cw_LID_holds : PySem.Challenge.rw_LID.Holds := by
 w_on;o_law;k_head;(case hw=>w_witness2)
 k_fill
 refine L2.walk_of (l:=PySem.Challenge.rw_LID) (n:=63) (k:=40) (x:="script") (CX:=fun w=>..) (sp:=fun _=>My.sp_law) rfl (by decide) rfl ⟨rfl,by decide,by decide⟩ (fun w h Y=>PySem.W.kIn_of Y) ?F ?S ?C
 case F =>
  intro w mg fa h KX G hmg;have T:∃t,My.Txt (L2.KOf KX) t:=by
   dsimp only [L2.KOf] -- K must stand as «<heap const> w.params» for k_is
   refine' My.txt_mk ?e1 ?e2 ?e3 ..
   (case e1=>PySem.W.k_is) -- in the order: a name -> its address -> its object -> its parts
   (case e2=>PySem.W.k_is)
   ..
  obtain ⟨t,T⟩:=T;have e0:=hmg.symm.trans (PySem.W.mg_of KX G T.law);cases e0 -- fa is the law's own address;exact ⟨_,fun s u=>.of_eq rfl,fun base kb nb=>My.law_fn T kb nb⟩ -- if «.of_eq rfl» comes too early: refine' ⟨_,?b,fun base kb nb=>My.law_fn T kb nb⟩;exact fun s u=>.of_eq rfl
 case S=>exact fun w H a ns hl hO hS=>..
 case C=>exact ..
(the tactic k_is has no namespace: write k_is) -/
namespace L2
open PySem PySem.Spec PyProof.Rows
def z9 (s:Stmt) (j:Nat):Stmt:=match s with
 |.ClassDef _ _ _ body _ _ _ _ _ _ _=>body.getD j (.Pass ⟨0,0,0,0⟩)
 |_=>.Pass ⟨0,0,0,0⟩
def j7 (s:Stmt):Arguments:=match s with
 |.FunctionDef _ a _ _ _ _ _ _ _ _=>a
 |_=>{posonlyargs:=[],args:=[],vararg:=none,kwonlyargs:=[],kw_defaults:=[],kwarg:=none,defaults:=[]}
def j3 (s:Stmt):List Stmt:=match s with
 |.FunctionDef _ _ b _ _ _ _ _ _ _=>b
 |_=>[]
def jI (s:Stmt):Scope:=match s with
 |.FunctionDef _ _ _ _ _ _ sc _ _ _=>sc
 |_=>{kind:=.function,names:=[],isGenerator:=false,isCoroutine:=false}
abbrev kB:zV:=fun _ _ _ _ _ _=>False
abbrev E0:XK:=fun _ _ _=>False
theorem lP {X:Cx}:gE kB X E0:=fun _ _ _ _ _ _ _ h=>h.elim
structure Fun (K:PySem.W.Frag) (x qual:Str) (st:Stmt) (f:Addr) (fd:FuncData):Prop where
 ex:∃(oc:Value) (od:Option Addr) (kV doc pm:Value) (an:Option Addr) (cdv ct:Value) (osl:Array (Option Value)),
  fd=PySem.W.fnOf x qual (j7 st) (j3 st) (jI st) .none kV doc pm an cdv ct∧K.lookup f=some ⟨oc,od,.func fd,osl⟩∧PySem.W.codeIn K cdv qual=true
 kp:PySem.W.keepIn K (.ref f)=true
section
variable {P:Program} {w:World} {K:PySem.W.Frag} {mg:Str→Option Value} {base:Heap}
theorem Fun.ok {x qual:Str} {st:Stmt} {f:Addr} {fd:FuncData} {N ps:List Str} {k:Nat} {sp:Sp} (F:Fun K x qual st f fd) (S:FnScope N ps (jI st)) (len:∀vs H Q E,sp vs H Q E→vs.length=ps.length)
  (hbody:∀(cdv:Value) (A:Around) (outer:List Env) (s:Shared) (H:Hp) (vs:List V) (Q:VK) (E:XK),Room k (A.deeper (envOfC qual (jI st) s.heap.objs.size f cdv))→sp vs H Q E→
   ∃t,PSs (kD kB P w K mg base N qual (jI st) f cdv A outer s H E).nox (j3 st) t∧t {nx:=fun _ H'=>Q .non H',rt:=Q} (zO N vs) H):FnOk P w K mg base kB (k+1) f fd ps sp:=by
 obtain ⟨oc,od,kV,doc,pm,an,cdv,ct,osl,rfl,lk,hcd⟩:=F.ex;refine pC lk hcd S len fun A outer s H vs Q E hr hsp=>?_
 obtain ⟨t,h,q⟩:=hbody cdv A outer s H vs Q E hr hsp;exact ⟨t,h.nox,q⟩
theorem Fun.binds {x qual:Str} {st:Stmt} {f:Addr} {fd:FuncData} {ps:List Str} (F:Fun K x qual st f fd)
  (h:∀(kV doc pm:Value) (an:Option Addr) (cdv ct:Value) (us:List Value),us.length=ps.length→bindArgs (PySem.W.fnOf x qual (j7 st) (j3 st) (jI st) .none kV doc pm an cdv ct) ⟨us,[]⟩=pure (ps.zip us)):Binds K fd ps []:=by
 obtain ⟨oc,od,kV,doc,pm,an,cdv,ct,osl,rfl,lk,hcd⟩:=F.ex;exact .all (h kV doc pm an cdv ct)
theorem kH {x qual:Str} {st:Stmt} {f:Addr} {oc:Value} {od an:Option Addr} {osl:Array (Option Value)} {kV doc pm cdv ct:Value} (l:K.lookup f=some ⟨oc,od,.func (PySem.W.fnOf x qual (j7 st) (j3 st) (jI st) .none kV doc pm an cdv ct),osl⟩)
  (c:PySem.W.codeIn K cdv qual=true) (k:PySem.W.keepIn K (.ref f)=true):Fun K x qual st f (PySem.W.fnOf x qual (j7 st) (j3 st) (jI st) .none kV doc pm an cdv ct):=⟨⟨oc,od,kV,doc,pm,an,cdv,ct,osl,rfl,l,c⟩,k⟩
end
theorem pB {A:Around} {k:Nat} (hr:Room k A):A.units+1<cLine:=Nat.lt_of_le_of_lt (Nat.add_le_add_left (by decide:1≤64) _) hr.units
theorem vF {n:Nat} (h:n≤1000):n<sizeLine:=Nat.lt_of_le_of_lt h (by decide)
section
variable {X:Cx}
theorem pv (i:Nat) {x:Str} {pos:Pos} (hN:X.N[i]?=some x:=by rfl) (hv:mB X.env.scope x:=by first|exact Or.inl rfl|exact Or.inr (Or.inl rfl)|exact Or.inr (Or.inr rfl)) (hd:(x == ("__debug__":Str))=false:=by decide)
  (hcd:(x == ("__classdict__":Str))=false:=by decide):PE X (.Name x pos) (AR i):=MV hN hv hd hcd
end
theorem kS {A B:Prop} (h:B):if false=true then A else B:=by
 rw [if_neg Bool.false_ne_true];exact h
theorem kR {A B:Prop} (h:A):if true=true then A else B:=by
 rw [if_pos rfl];exact h
theorem eO {c A B:Prop} [Decidable c] (h1:c→A) (h2:¬c→B):if c then A else B:=by
 by_cases h:c
 ·rw [if_pos h];exact h1 h
 ·rw [if_neg h];exact h2 h
theorem vJ {c A B:Prop} [Decidable c] (hc:c) (h:B):if (!decide c)=true then A else B:=by
 rw [decide_eq_true hc];exact kS h
def Same (H H':Hp):Prop:=∀b o,H b=some o→H' b=some o
theorem Same.refl (H:Hp):Same H H:=fun _ _ h=>h
theorem Same.trans {H H1 H2:Hp} (a:Same H H1) (b:Same H1 H2):Same H H2:=fun c o h=>b c o (a c o h)
theorem Same.free {H H':Hp} (e:Same H H') {l:Addr} (h:H' l=Option.none):H l=Option.none:=by
 cases q:H l with
 |none=>rfl
 |some o =>
  rw [e l o q] at h;cases h
theorem Same.seq {K:PySem.W.Frag} {H H':Hp} {a:Addr} {xs:List V} (e:Same H H') (h:SqL K H a xs):SqL K H' a xs:=by
 rcases h with (h|⟨o,h⟩)|h
 ·exact .inl (.inl (e _ _ h))
 ·exact .inl (.inr ⟨o,e _ _ h⟩)
 ·exact .inr h
end L2
namespace L2
open PySem PySem.Spec PyProof.Rows
def yF (cells:List (Str×Addr)):List (Str×NameKind)→List (Str×Addr)→List (Str×Addr)
 |[],cs=>cs
 | (n,k)::r,cs=>if (k == NameKind.free)=true then yF cells r ((n,(cells.lookup n).getD 0)::cs) else yF cells r cs
theorem iA {scope:Scope} {env:Env} (h:∀x∈scope.names,x.2=.free→∃c,env.cells.lookup x.1=some c):closureFor scope env=pure (yF env.cells scope.names []):=by
 simp only [closureFor];have go:∀(l:List (Str×NameKind)) (cs:List (Str×Addr)),(∀x∈l,x.2=.free→∃c,env.cells.lookup x.1=some c)→
   (forIn l cs fun x r=>match x with|(name,kind)=>if (kind == NameKind.free)=true then do let a ← cellOf env name;pure (ForInStep.yield ((name,a)::r)) else pure (ForInStep.yield r):Sem (List (Str×Addr)))=pure (yF env.cells l cs):=by
  intro l
  induction l with
  |nil=>intro cs _;rfl
  |cons p r ih =>
   intro cs hp;obtain ⟨n,k⟩:=p;rw [List.forIn_cons];have hr:=fun cs=>ih cs fun x hx=>hp x (List.mem_cons_of_mem _ hx)
   by_cases hk:(k == NameKind.free)=true
   ·have hk':k=NameKind.free:=by simpa using hk
    obtain ⟨c,hc⟩:=hp (n,k) List.mem_cons_self hk';have hc':env.cells.lookup n=some c:=hc;simp only [hk,if_true,yF,cellOf,hc',Option.getD_some,pure_bind];exact hr _
   ·simp only [hk,if_false,yF,pure_bind];exact hr _
 rw [go scope.names [] h];rfl
theorem iE {cells:List (Str×Addr)}:∀{l:List (Str×NameKind)} {cs:List (Str×Addr)} {x:Str} {c:Addr},(∀y∈l,y.2=.free→∃c,cells.lookup y.1=some c)→(∀y d,cs.lookup y=some d→cells.lookup y=some d)→
  (yF cells l cs).lookup x=some c→cells.lookup x=some c
 |[],cs,x,c,_,hc,e=>hc x c e
 | (n,k)::r,cs,x,c,hl,hc,e=>by
  unfold yF at e
  by_cases hk:(k == NameKind.free)=true
  ·rw [if_pos hk] at e;obtain ⟨d,hd⟩:=hl (n,k) List.mem_cons_self (by simpa using hk);have hd':cells.lookup n=some d:=hd;refine iE (fun y hy=>hl y (List.mem_cons_of_mem _ hy)) (fun y d' q=>?_) e;rw [List.lookup_cons] at q
   by_cases hy:(y == n)=true
   ·rw [hy] at q;have hyn:y=n:=by simpa using hy
    subst hyn;rw [hd'] at q ⊢;exact q
   ·rw [Bool.not_eq_true] at hy;rw [hy] at q;exact hc y d' q
  ·rw [if_neg hk] at e;exact iE (fun y hy=>hl y (List.mem_cons_of_mem _ hy)) hc e
theorem mS {cells:List (Str×Addr)}:∀{l:List (Str×NameKind)} {cs:List (Str×Addr)} {x:Str},(∃c,cs.lookup x=some c)→∃c,(yF cells l cs).lookup x=some c
 |[],_,_,h=>h
 | (n,k)::r,cs,x,h=>by
  unfold yF
  by_cases hk:(k == NameKind.free)=true
  ·rw [if_pos hk];refine mS ?_;rw [List.lookup_cons]
   by_cases hy:(x == n)=true
   ·rw [hy];exact ⟨_,rfl⟩
   ·rw [Bool.not_eq_true] at hy;rw [hy];exact h
  ·rw [if_neg hk];exact mS h
theorem iK {cells:List (Str×Addr)}:∀{l:List (Str×NameKind)} {cs:List (Str×Addr)} {x:Str},(x,NameKind.free)∈l→∃c,(yF cells l cs).lookup x=some c
 | (n,k)::r,cs,x,h=>by
  unfold yF
  rcases List.mem_cons.mp h with e|e
  ·cases e;rw [if_pos (by rfl)];exact mS (by rw [List.lookup_cons,beq_self_eq_true];exact ⟨_,rfl⟩)
  ·by_cases hk:(k == NameKind.free)=true
   ·rw [if_pos hk];exact iK e
   ·rw [if_neg hk];exact iK e
def qU (X:Cx) (N:List Str) (scope:Scope) (C:Addr) (s:Shared) (H:Hp) (pins:List (Addr×Obj)) (fp:List Addr):Cx where
 prog:=X.prog
 w:=X.w
 K:=X.K
 mg:=X.mg
 base:=X.base
 A:=X.A
 N:=N
 s₀:=s
 H₀:=H
 env:=compEnvC scope (yF X.env.cells scope.names []) C X.env
 outer:=X.stack
 stack:=X.stack
 ex:=fp
 fn:=fun _=>false
 calm:=X.calm
 pn:=X.pn++pins
 xe:=fun _ _=>False
structure CompScope (X:Cx) (scope:Scope):Prop where
 kind:scope.kind=.function
 nocell:∀y∈scope.names,y.2≠.cell
 names:∀y∈scope.names,y.2=.local→scope.names.lookup y.1=some .local
 free:∀y∈scope.names,y.2=.free→X.env.kindOf y.1=some .cell∨X.env.kindOf y.1=some .free
theorem mI {env:Env} {x:Str}:∀{names:List (Str×NameKind)} {k:NameKind},(names.map fun (n,k)=>if (k == NameKind.free&&env.scope.kind == .function&&env.kindOf n == some .cell) then (n,NameKind.cell) else (n,k)).lookup x=some k→
  ∃k',names.lookup x=some k'∧(k'=k∨(k'=.free∧k=.cell∧env.kindOf x=some .cell))
 |[],k,h=>by simp at h
 | (n,k0)::r,k,h=>by
  have ih:=@mI env x r k;have h':List.lookup x ((if (k0 == NameKind.free&&env.scope.kind == .function&&env.kindOf n == some .cell)=true then (n,NameKind.cell) else (n,k0))::r.map fun (n,k)=>if (k == NameKind.free&&env.scope.kind == .function&&env.kindOf n == some .cell)=true then (n,NameKind.cell) else (n,k))=some k:=h
  by_cases hc:(k0 == NameKind.free&&env.scope.kind == .function&&env.kindOf n == some .cell)=true
  ·rw [if_pos hc] at h';rw [List.lookup_cons] at h';cases hx:x == n with
   |true =>
    rw [hx] at h';have hk:NameKind.cell=k:=Option.some.inj h';simp only [Bool.and_eq_true,beq_iff_eq] at hc;have hxn:x=n:=by simpa using hx
    refine ⟨k0,by rw [List.lookup_cons,hx],.inr ⟨hc.1.1,hk.symm,by rw [hxn];exact hc.2⟩⟩
   |false =>
    rw [hx] at h';obtain ⟨k',e1,e2⟩:=ih h';exact ⟨k',by rw [List.lookup_cons,hx];exact e1,e2⟩
  ·rw [if_neg hc] at h';rw [List.lookup_cons] at h';cases hx:x == n with
   |true =>
    rw [hx] at h';exact ⟨k0,by rw [List.lookup_cons,hx],.inl (Option.some.inj h')⟩
   |false =>
    rw [hx] at h';obtain ⟨k',e1,e2⟩:=ih h';exact ⟨k',by rw [List.lookup_cons,hx];exact e1,e2⟩
theorem mR {α:Type}:∀{l:List (Str×α)} {x:Str} {k:α},l.lookup x=some k→(x,k)∈l
 |[],_,_,h=>by simp at h
 | (n,a)::r,x,k,h=>by
  rw [List.lookup_cons] at h;cases hx:x == n with
  |true =>
   rw [hx] at h;have e:a=k:=Option.some.inj h;have hxn:x=n:=by simpa using hx
   subst e;subst hxn
   exact List.mem_cons_self
  |false =>
   rw [hx] at h;exact List.mem_cons_of_mem _ (mR h)
def Z4 (X:Cx) (ifs:List Expr) (t:TT):Prop :=
 ∀(pins:List (Addr×Obj)) (s:Shared) (σ:St) (H:Hp) (Q:Bool→Hp→Prop),Inv X pins σ H s→t σ H Q→
  wpAny (model X.prog X.w) X.A (forIn ifs true fun c r=>if r=true then do let ok ← isTrue c X.env (eval c X.env);pure (ForInStep.yield ok) else pure (ForInStep.yield r)) (TP X pins σ Q) X.xe s
def AQ:TT:=fun _ H Q=>Q true H
theorem v8 {X:Cx}:Z4 X [] AQ:=fun _ _ _ H _ I h=>wpAny_tests_nil ⟨H,I,h⟩
theorem fR {X:Cx} {c:Expr} {t:TT} (hc:PT X c t):Z4 X [c] t:=fun pins s σ H Q I h=>wpAny_tests_one (hc pins s σ H Q I h)
def JE (D:Addr) (J:It) (g:TG) (tc:TT) (te:TE) (σ₀:St) (H:Hp) (Q:Hp→Prop):Prop :=
 ∃W:Nat→Nat→St→Hp→Prop,(∃m,W 0 m σ₀ (upd H D (.lst [])))∧∀i m σ' H',W i m σ' H'→
  (J.stop i H'∧Q H')∨(J.go i H'∧∃N:St→Hp→Prop,(∀σ'' H'',N σ'' H''→∃m',m'<m∧W (i+1) m' σ'' H'')∧∀x H2,J.yld i H' x H2→g x σ' H2 fun σ2 H3=>tc σ2 H3 fun b H4 =>
   if b=true then te σ2 H4 fun v H5=>∃xs,H5 D=some (.lst xs)∧xs.length<sizeLine∧N σ2 (upd H5 D (.lst (xs++[v]))) else N σ2 H4)
def AE (wi:TI) (cap:St→St) (g:TG) (tc:TT) (te:TE):TE:=fun σ H Q=>wi σ H fun J H1=>∀D,H1 D=none→JE D J g tc te (cap σ) H1 fun H'=>Q (.ref D) H'
def tY (i:Nat) (wi:TI) (cap:St→St) (g:TG) (tc:TT) (te:TE):TS:=fun D σ H=>wi σ H fun J H1=>∀d,H1 d=none→JE d J g tc te (cap σ) H1 fun H'=>D.nx (σ.set i (some (.ref d))) H'
def Q5 (X:Cx) (N:List Str) (scope:Scope) (cap:St→St):Prop :=
 ∀σ:St,σ.length=X.N.length→(cap σ).length=N.length∧∀(i:Nat) (x:Str) (v:V),N[i]?=some x→(cap σ)[i]?=some (some v)→scope.names.lookup x=some .free∧∃j:Nat,X.N[j]?=some x∧σ[j]?=some (some v)
def qZ (n:Nat) (js:List Nat):St→St:=fun σ=>List.replicate n none++js.map fun j=>(σ[j]?).join
theorem BN {X:Cx} {N:List Str} {scope:Scope} (n:Nat) (js:List Nat) (h1:N.length=n+js.length) (h2:js.map (fun j=>X.N[j]?)=(N.drop n).map some) (h3:∀x∈N.drop n,scope.names.lookup x=some .free):Q5 X N scope (qZ n js):=by
 intro σ hσ;refine ⟨by unfold qZ;rw [List.length_append,List.length_replicate,List.length_map,h1],fun i x v e1 e2=>?_⟩;unfold qZ at e2
 by_cases hi:i<n
 ·rw [List.getElem?_append_left (by simpa using hi),List.getElem?_replicate,if_pos hi] at e2;cases e2
 ·rw [List.getElem?_append_right (by simpa using hi),List.length_replicate,List.getElem?_map] at e2;cases hj:js[i - n]? with
  |none=>rw [hj] at e2;cases e2
  |some j =>
   rw [hj] at e2;have e3:(σ[j]?).join=some v:=Option.some.inj e2;have e4:σ[j]?=some (some v):=by
    cases q:σ[j]? with
    |none=>rw [q] at e3;cases e3
    |some o =>
     rw [q] at e3;have e5:o=some v:=e3;rw [e5]
   have hd:(N.drop n)[i - n]?=some x:=by
    rw [List.getElem?_drop,show n+(i - n)=i by omega];exact e1
   have e5:=congrArg (fun l=>l[i - n]?) h2;simp only [List.getElem?_map,hj,hd,Option.map_some] at e5;exact ⟨h3 x (List.mem_of_getElem? hd),j,Option.some.inj e5,e4⟩
theorem BM {X:Cx} {scope:Scope} (sc:Scope) (hsc:X.env.scope=sc) (kind:scope.kind=.function) (nocell:∀y∈scope.names,y.2≠.cell) (names:∀y∈scope.names,y.2=.local→scope.names.lookup y.1=some .local)
  (free:∀y∈scope.names,y.2=.free→sc.names.lookup y.1=some .cell∨sc.names.lookup y.1=some .free):CompScope X scope:=⟨kind,nocell,names,fun y hy hf=>by
 subst hsc;exact free y hy hf⟩
section
variable {X:Cx} {N:List Str} {scope:Scope} {pins:List (Addr×Obj)} {σ:St} {H:Hp} {s:Shared} {fp:List Addr}
theorem dN (S:CompScope X scope) (I:Inv X pins σ H s):∀y∈scope.names,y.2=.free→∃c,X.env.cells.lookup y.1=some c:=fun y hy hf=>I.ok.has y.1 (S.free y hy hf)
theorem KY {cap:St→St} {D C:Addr} {h₁:Heap} {t':Nat} {m:Str→Option Value} (S:CompScope X scope) (I:Inv X pins σ H s) (hcap:Q5 X N scope cap) (hf:∀b∈fp,zT X pins H b) (hfo:∀b∈fp,∃o,s.heap.get? b=some o)
  (hD:s.heap.objs.size≤D) (hC:s.heap.objs.size≤C) (hDC:D≠C) (old:∀b o,s.heap.get? b=some o→h₁.get? b=some o) (hns:h₁.Ns C m) (hl:h₁.get? D=some {cls:=.type "list",data:=.seq ([]:List Value).toArray}) :
  Inv (qU X N scope C s H pins fp) [] (cap σ) (upd H D (.lst [])) {s with heap:=h₁,toks:=t'}:=by
 have cellsOk:=dN S I;have look:∀x c,(yF X.env.cells scope.names []).lookup x=some c→X.env.cells.lookup x=some c:=fun x c e=>iE cellsOk (fun y d q=>by simp at q) e
 have lt:∀{b:Addr} {o:Obj},s.heap.get? b=some o→b<s.heap.objs.size:=fun e=>Heap.lt_size e
 have cellLt:∀x c,X.env.cells.lookup x=some c→c<s.heap.objs.size:=fun x c e=>by
  obtain ⟨v,o,ho,_⟩:=I.cell x c e;exact lt ho
 have nD:H D=none:=I.hok.fresh hD;have nC:H C=none:=I.hok.fresh hC;have stkNe:∀b:Addr,b≠X.env.locals→b∉X.fs→b∉kK X.stack:=fun b h1 h2 z=>by
  rcases List.mem_cons.mp (I.stkSub b z) with e|e
  ·exact h1 e
  ·exact h2 e
 refine ⟨⟨I.ok.mod,S.kind,I.ok.glob,I.ok.blt,hC,fun x y c h1 h2=>I.ok.inj x y c (look x c h1) (look y c h2),fun x hx=>?_,fun x c hfn _=>(nomatch hfn),I.ok.hd,I.ok.frames,.inl rfl,fun b hb=>⟨?_,fun x c e=>(hf b hb).2.2.2.2.1 x c (look x c e)⟩,
   I.bs,Nat.le_trans I.ok.bsz I.sz,fun b o e hb=>?_,fun b hb=>stkNe b (hf b hb).2.1 (hf b hb).2.2.1,I.stack,I.stkFree⟩,
  rfl,I.bare,Un.laid old hD nD,⟨m,hns,fun i x v h1 h2 h3=>?_⟩,fun x c e=>?_,?_,fun x c e=>?_,fun p hp=>?_,?_,(hcap σ I.len).1⟩
 ·-- has
  have hx':∃k,(relabel scope X.env).names.lookup x=some k∧(k=.cell∨k=.free):=by
   rcases hx with e|e
   ·exact ⟨_,e,.inl rfl⟩
   ·exact ⟨_,e,.inr rfl⟩
  obtain ⟨k,e,hk⟩:=hx';obtain ⟨k',e1,e2⟩:=mI e;have hm:=mR e1;have hfree:k'=.free:=by
   rcases e2 with e2|e2
   ·subst e2
    rcases hk with hk|hk
    ·subst hk;exact absurd rfl (S.nocell _ hm)
    ·exact hk
   ·exact e2.1
  subst hfree;exact iK hm
 ·obtain ⟨o,ho⟩:=hfo b hb;exact Nat.ne_of_lt (Nat.lt_of_lt_of_le (lt ho) hC)
 ·rcases (hf b hb).2.2.2.1 with z|z
  ·exact I.ok.noex b o e z
  ·exact absurd (Nat.lt_of_lt_of_le (Heap.lt_size e) (Nat.le_trans I.ok.bsz z)) (Nat.lt_irrefl _)
 ·-- names
  obtain ⟨hfr,j,hj,hv⟩:=(hcap σ I.len).2 i x v h1 h2;have hm:=mR hfr;have hk:=S.free _ hm rfl;obtain ⟨m0,_,hl0⟩:=I.loc;have vis:mB X.env.scope x:=by
   rcases hk with k|k
   ·exact .inr (.inl k)
   ·exact .inr (.inr k)
  obtain ⟨u,r,l⟩:=hl0 j x v hj hv vis;refine ⟨u,r,.inr ⟨?_,?_⟩⟩
  ·have hvis:∃k,(relabel scope X.env).names.lookup x=some k:=by
    rcases h3 with e|e|e<;>exact ⟨_,e⟩
   obtain ⟨k,e⟩:=hvis;obtain ⟨k',e1,e2⟩:=mI e;rw [hfr] at e1;cases e1
   rcases e2 with e2|e2
   ·subst e2;exact .inr e
   ·rw [e2.2.1] at e;exact .inl e
  ·rcases l with ⟨k,_⟩|⟨_,c,hc,hcell⟩
   ·exfalso
    rcases hk with q|q
    ·have q':X.env.kindOf x=some .cell:=q;rw [k] at q';cases q'
    ·have q':X.env.kindOf x=some .free:=q;rw [k] at q';cases q'
   ·obtain ⟨c',e'⟩:=iK (cells:=X.env.cells) (cs:=[]) hm;have e2:=look x c' e';have e2':X.env.cells.lookup x=some c':=e2;rw [hc] at e2';cases e2';obtain ⟨o,ho,hd⟩:=hcell;exact ⟨c,e',o,old _ _ ho,hd⟩
 ·obtain ⟨v,o,ho,hd⟩:=I.cell x c (look x c e);exact ⟨v,o,old _ _ ho,hd⟩
 ·show upd H D (.lst []) C=none;rw [j9 (Ne.symm hDC)];exact nC
 ·have hc:=look x c e;rw [j9 (Nat.ne_of_lt (Nat.lt_of_lt_of_le (cellLt x c hc) hD))];exact I.freeC x c hc
 ·have hp':p∈X.pn++pins:=by
   rcases List.mem_append.mp hp with z|z
   ·exact z
   ·cases z
  obtain ⟨e,n,ne,nf,d⟩:=I.pin p hp';refine ⟨old _ _ e,?_,Nat.ne_of_lt (Nat.lt_of_lt_of_le (lt e) hC),stkNe p.1 ne nf,d⟩;rw [j9 (Nat.ne_of_lt (Nat.lt_of_lt_of_le (lt e) hD))];exact n
 ·refine I.hok.laid old hD ?_;exact ⟨Nat.zero_le _,[],0,.nil,hl⟩
theorem fI {σ':St} {H':Hp} {s':Shared} {C:Addr} {σc:St} {Nc:List Str} (I:Inv X pins σ H s) (hf:∀b∈fp,zT X pins H b) (J:Inv (qU X Nc scope C s H pins fp) [] σc H' s'):Inv X pins σ H' s':=by
 refine I.call' (ch:=fp) J.os J.base J.hok J.bare fun b hb=>?_
 obtain ⟨_,h2,_,h4,h5,h6⟩:=hf b hb;exact ⟨h4,h2,h5,h6⟩
theorem iZ {σ':St} {H':Hp} {s':Shared} {C:Addr} {h':Heap} (I:Inv X pins σ H s) (hC:s.heap.objs.size≤C) (J:Inv X pins σ' H' s') (hn:H' C=none) (sb:Heap.SameBut C s'.heap h'):Inv X pins σ' H' {s' with heap:=h'}:=by
 refine J.turned (t':=s'.toks) (it:=C) (fun b o hb e=>(sb.2 b hb).trans e) hn (Nat.ne_of_gt (Nat.lt_of_lt_of_le I.lt hC)) (.inr (Nat.le_trans I.sz hC)) (fun x c e z=>?_) fun p hp z=>?_
 ·obtain ⟨v,q⟩:=I.cell x c e;exact absurd (Nat.lt_of_lt_of_le q.lt (by rw [z];exact hC)) (Nat.lt_irrefl _)
 ·exact absurd (Nat.lt_of_lt_of_le (Heap.lt_size (I.pin p hp).1) (by rw [z];exact hC)) (Nat.lt_irrefl _)
end
end L2
namespace L2
open PySem PySem.Spec PyProof.Rows
theorem yD {σ:St} {H:Hp} {Q:Bool→Hp→Prop} (h:Q true H):AQ σ H Q:=h
theorem E1 {K:PySem.W.Frag} {a D:Addr} {xs:List V} {g:TG} {tc:TT} {te:TE} {σ₀:St} {H:Hp} {Q:Hp→Prop} (Pv:Nat→St→Hp→Prop) (h0:Pv 0 σ₀ (upd H D (.lst []))) (hl:∀i σ H,i≤xs.length→Pv i σ H→SqL K H a xs)
    (hs:∀i x σ H,xs[i]?=some x→Pv i σ H→g x σ H fun σ2 H3=>tc σ2 H3 fun b H4=>if b=true then te σ2 H4 fun v H5=>∃ys,H5 D=some (.lst ys)∧ys.length<sizeLine∧Pv (i+1) σ2 (upd H5 D (.lst (ys++[v]))) else Pv (i+1) σ2 H4)
    (hd:∀σ H,Pv xs.length σ H→Q H):JE D (Z7 K a) g tc te σ₀ H Q:=by
  refine ⟨fun i m σ H=>m=xs.length - i∧i≤xs.length∧Pv i σ H,⟨xs.length,by simp,Nat.zero_le _,h0⟩,?_⟩;rintro i m σ H ⟨rfl,hi,p⟩;have q:=hl i σ H hi p
  by_cases hlt:i<xs.length
  · refine .inr ⟨⟨xs,xs[i],q,by simp [hlt]⟩,Pv (i+1),fun σ' H' p'=>⟨xs.length - (i+1),by omega,rfl,hlt,p'⟩,fun x H' y=>?_⟩
    obtain ⟨e,y⟩:=y;subst e;exact hs i x σ _ (y xs q) p
  · have e:i=xs.length:=by omega
    subst e;exact .inl ⟨⟨xs,q,Nat.le_refl _⟩,hd σ H p⟩
theorem ER {lo:Int} {n:Nat} {D:Addr} {g:TG} {tc:TT} {te:TE} {σ₀:St} {H:Hp} {Q:Hp→Prop} (Pv:Nat→St→Hp→Prop) (h0:Pv 0 σ₀ (upd H D (.lst [])))
  (hs:∀i σ H,i<n→Pv i σ H→g (.int (lo+i)) σ H fun σ2 H3=>tc σ2 H3 fun b H4=>if b=true then te σ2 H4 fun v H5=>∃ys,H5 D=some (.lst ys)∧ys.length<sizeLine∧Pv (i+1) σ2 (upd H5 D (.lst (ys++[v]))) else Pv (i+1) σ2 H4)
  (hd:∀σ H,Pv n σ H→Q H):JE D (Q8 lo n) g tc te σ₀ H Q:=by
 refine ⟨fun i m σ H=>m=n - i∧i≤n∧Pv i σ H,⟨n,by simp,Nat.zero_le _,h0⟩,?_⟩;rintro i m σ H ⟨rfl,hi,p⟩
 by_cases hlt:i<n
 ·refine .inr ⟨hlt,Pv (i+1),fun σ' H' p'=>⟨n - (i+1),by omega,rfl,hlt,p'⟩,fun x H' y=>?_⟩;obtain ⟨e,y⟩:=y;subst e y;exact hs i σ _ hlt p
 ·have e:i=n:=by omega
  subst e;exact .inl ⟨Nat.le_refl _,hd σ H p⟩
theorem qL {H H':Hp} {D:Addr} {o:HO} (hD:H D=none) (s:Same H H'):Same H (upd H' D o):=fun b u q=>by
 rw [j9 (jW q hD)];exact s b u q
def yZ (H:Hp) (D:Addr) (caps:St) (R:Nat→List V→Hp→Prop) (i:Nat) (σ:St) (Hi:Hp):Prop:=∃ys c,σ=c::caps∧Same H Hi∧Hi D=some (.lst ys)∧ys.length≤i∧R i ys Hi
theorem vK {H Hi H5:Hp} {D:Addr} {caps:St} {R:Nat→List V→Hp→Prop} {i:Nat} {ys:List V} {c:Option V} {v:V} (hD:H D=none) (s:Same H Hi) (hY:Hi D=some (.lst ys)) (hl:ys.length≤i) (hi:i≤999) (s5:Same Hi H5)
  (r:R (i+1) (ys++[v]) (upd H5 D (.lst (ys++[v])))):∃zs,H5 D=some (.lst zs)∧zs.length<sizeLine∧yZ H D caps R (i+1) (c::caps) (upd H5 D (.lst (zs++[v]))):=by
 refine ⟨ys,s5 _ _ hY,vF (by omega),ys++[v],c,rfl,qL hD (s.trans s5),jD,?_,r⟩;rw [List.length_append,List.length_singleton];omega
theorem ZR {H Hi H4:Hp} {D:Addr} {caps:St} {R:Nat→List V→Hp→Prop} {i:Nat} {ys:List V} {c:Option V} (s:Same H Hi) (hY:Hi D=some (.lst ys)) (hl:ys.length≤i) (s4:Same Hi H4) (r:R (i+1) ys H4) :
  yZ H D caps R (i+1) (c::caps) H4:=⟨ys,c,rfl,s.trans s4,s4 _ _ hY,by omega,r⟩
theorem v0 {K:PySem.W.Frag} {a D:Addr} {xs:List V} {tc:TT} {te:TE} {caps:St} {H:Hp} {Q:Hp→Prop} (R:Nat→List V→Hp→Prop) (hD:H D=none) (hS:SqL K H a xs) (h0:R 0 [] (upd H D (.lst [])))
  (hs:∀i x ys Hi,xs[i]?=some x→i<xs.length→ys.length≤i→Same H Hi→Hi D=some (.lst ys)→R i ys Hi→tc (some x::caps) Hi fun b H4=>if b=true then te (some x::caps) H4 fun v H5=>∃zs,H5 D=some (.lst zs)∧zs.length<sizeLine∧yZ H D caps R (i+1) (some x::caps) (upd H5 D (.lst (zs++[v])))
   else yZ H D caps R (i+1) (some x::caps) H4)
  (hd:∀ys Hf,Same H Hf→Hf D=some (.lst ys)→ys.length≤xs.length→R xs.length ys Hf→Q Hf):JE D (Z7 K a) (eG 0) tc te (none::caps) H Q:=by
 refine E1 (xs:=xs) (yZ H D caps R) ⟨[],none,rfl,qL hD (Same.refl H),jD,Nat.le_refl _,h0⟩ (fun i σ Hi _ ⟨_,_,_,s,_⟩=>s.seq hS) ?_ ?_
 ·rintro i x σ Hi hx ⟨ys,c,rfl,s,hY,hl,r⟩;exact hs i x ys Hi hx (List.getElem?_eq_some_iff.mp hx).1 hl s hY r
 ·rintro σ Hf ⟨ys,c,rfl,s,hY,hl,r⟩;exact hd ys Hf s hY hl r
theorem rN {lo:Int} {n:Nat} {D:Addr} {tc:TT} {te:TE} {caps:St} {H:Hp} {Q:Hp→Prop} (R:Nat→List V→Hp→Prop) (hD:H D=none) (h0:R 0 [] (upd H D (.lst [])))
  (hs:∀i ys Hi,i<n→ys.length≤i→Same H Hi→Hi D=some (.lst ys)→R i ys Hi→tc (some (.int (lo+i))::caps) Hi fun b H4=>if b=true then te (some (.int (lo+i))::caps) H4 fun v H5=>∃zs,H5 D=some (.lst zs)∧zs.length<sizeLine∧yZ H D caps R (i+1) (some (.int (lo+i))::caps) (upd H5 D (.lst (zs++[v])))
   else yZ H D caps R (i+1) (some (.int (lo+i))::caps) H4)
  (hd:∀ys Hf,Same H Hf→Hf D=some (.lst ys)→ys.length≤n→R n ys Hf→Q Hf):JE D (Q8 lo n) (eG 0) tc te (none::caps) H Q:=by
 refine ER (yZ H D caps R) ⟨[],none,rfl,qL hD (Same.refl H),jD,Nat.le_refl _,h0⟩ ?_ ?_
 ·rintro i σ Hi hi ⟨ys,c,rfl,s,hY,hl,r⟩;exact hs i ys Hi hi hl s hY r
 ·rintro σ Hf ⟨ys,c,rfl,s,hY,hl,r⟩;exact hd ys Hf s hY hl r
def BC:V→Option Value
 |.ty n=>some (.type n)
 |.ref a=>some (.ref a)
 |_=>none
section
variable {X:Cx}
def AY (K:PySem.W.Frag):List V→Hp→VK→Prop:=fun xs H Q=>∃(x c:V) (t u:Value) (b:Bool),xs=[x,c]∧BC c=some u∧TyOf K H x t∧PySem.W.kitOne K t u=some b∧Q (.bl b) H
theorem KZ:yK X (.builtin "isinstance") (AY X.K):=by
 intro pins s σ H xs us Q I r h;obtain ⟨x,c,t,u,b,rfl,hc,ty,e,q⟩:=h;obtain ⟨u1,u2,rfl,r1,r2⟩:=gG r;have e2:u2=u:=by
  cases c with
  |ty n=>cases (show u2=Value.type n from r2);exact Option.some.inj hc
  |ref a=>cases (show u2=Value.ref a from r2);exact Option.some.inj hc
  |_=>cases hc
 subst e2;exact GY I r1 ty e fun tk=>⟨.bl b,H,I.tok _,rfl,q⟩
end
theorem JT {K:PySem.W.Frag} (n:String):PySem.W.kitOne K (.type n) (.type n)=some true:=by
 unfold PySem.W.kitOne;rw [if_pos (beq_self_eq_true _)]
theorem EN {K:PySem.W.Frag}:PySem.W.kitOne K (.type "int") (.type "bool")=some false:=by kernel_rfl
theorem iY {x:V} (h:y6 x=true):yX x x=true:=by
 cases x with
 |non=>rfl
 |bl b=>show (b == b)=true;simp
 |int i=>show (i == i)=true;simp
 |str z=>show (z == z)=true;simp
 |_=>exact absurd (show false=true from h) Bool.false_ne_true
theorem mY {xs:List V} {us:List Value} (r:Vals xs us) {j:Nat} (h:j<us.toArray.size):RelV (xs.getD j .non) us.toArray[j]:=by
 have hj:j<us.length:=by simpa using h
 have hx:j<xs.length:=by rw [r.length];exact hj
 obtain ⟨u,e,q⟩:=r.get (List.getElem?_eq_getElem hx);rw [List.getElem?_eq_getElem hj] at e;have e':=Option.some.inj e;rw [List.getD_eq_getElem?_getD,List.getElem?_eq_getElem hx];show RelV xs[j] us.toArray[j];rw [List.getElem_toArray,e'];exact q
theorem HM {xs:List V} (h:xs.all y6=true) {j:Nat} (hj:j<xs.length):y6 (xs.getD j .non)=true:=by
 rw [List.getD_eq_getElem?_getD,List.getElem?_eq_getElem hj];exact List.all_eq_true.mp h _ (List.getElem_mem hj)
section
variable {X:Cx}
end
end L2
namespace L2
open PySem PySem.Spec PyProof.Rows
def AJ:V→Bool
 |.ref _=>true
 |x=>y6 x
theorem HQ {A:Around} {s:Shared} {x:V} {u v:Value} (ru:RelV x u) (rv:RelV x v) (f:AJ x=true):SeqAt.EqAt A s u v true:=by
 cases x with
 |ref a =>
  cases ru;cases rv;exact SeqAt.EqAt.same _
 |non=>have:=gD (A:=A) (s:=s) ru rv rfl rfl;rwa [iY (x:=.non) rfl] at this
 |bl b=>have:=gD (A:=A) (s:=s) ru rv rfl rfl;rwa [iY (x:=.bl b) rfl] at this
 |int i=>have:=gD (A:=A) (s:=s) ru rv rfl rfl;rwa [iY (x:=.int i) rfl] at this
 |str z=>have:=gD (A:=A) (s:=s) ru rv rfl rfl;rwa [iY (x:=.str z) rfl] at this
 |_=>exact absurd (show false=true from f) Bool.false_ne_true
section
variable {X:Cx}
end
end L2
namespace L2
open PySem PySem.Spec PyProof.Rows
section
variable {X:Cx} (K:PySem.W.Frag)
theorem jL (h:X.K=K:=by rfl):IxR X (pG K):=by subst h;exact pS
theorem qF (h:X.K=K:=by rfl):IxR X (pF K):=by subst h;exact ix_tup
theorem oR (h:X.K=K:=by rfl):IxR X (pN K):=by subst h;exact M9
theorem yG (h:X.K=K:=by rfl):eY X (lU K):=by subst h;exact K5
theorem kW (h:X.K=K:=by rfl):yK X (.builtin "len") (fun xs H Q=>∃p ys,xs=[.ref p]∧(SqL K H p ys∨SqT K H p ys)∧Q (.int ys.length) H):=by subst h;exact BO
theorem yO (h:X.K=K:=by rfl):yK X (.builtin "isinstance") (AY K):=by subst h;exact KZ
end
end L2
namespace L2
open PySem PySem.Spec PyProof.Rows
section
variable {X:Cx}
theorem x8 (hu:X.A.units<cLine):qA X (compareOp .Eq) (fun x y H Q=>∃a b xs,x=.ref a∧y=.ref b∧SqL X.K H a xs∧SqL X.K H b xs∧xs.all AJ=true∧Q (.bl true) H):=by
  intro pins s σ H x y v u Q I rx ry h;obtain ⟨a,b,xs,rfl,rfl,ha,hb,fx,q⟩:=h;cases rx;cases ry;obtain ⟨its,r,pl,hz⟩:=I.list ha;obtain ⟨its2,r2,pl2,hz2⟩:=I.list hb;have hl:=r.length;have hl2:=r2.length;refine SeqAt.eq_listAt (e:=fun _=>true) pl.isList pl2.isList (by rw [List.size_toArray,List.size_toArray,← hl,hl2]) hu (fun j h1 h2=>?_) ⟨.bl _,H,I,rfl,?_⟩
  · refine HQ (mY r h1) (mY r2 h2) ?_
    have hj:j<xs.length:=by rw [hl];simpa using h1
    rw [List.getD_eq_getElem?_getD,List.getElem?_eq_getElem hj];exact List.all_eq_true.mp fx _ (List.getElem_mem hj)
  · have e:((List.range its.toArray.size).all fun _=>true)=true:=by simp
    rw [e];exact q
end
end L2
namespace L2
open PySem PySem.Spec PyProof.Rows
section
variable {X:Cx}
def OE (t u:TS):TS:=fun D σ H=>∃P:St→Hp→Prop,t {D with nx:=P} σ H∧∀σ' H',P σ' H'→u D σ' H'
theorem vC {st:Stmt} {rest:List Stmt} {t u:TS} (h1:PS X st t) (h2:PSs X rest u):PSs X (st::rest) (OE t u):=by
 intro pins s σ H D I h;obtain ⟨P,hP,hu⟩:=h;refine wpAny_execs_cons (jQ (h1 pins s σ H {D with nx:=P} I hP) fun f s1 q=>?_);cases f with
 |next =>
  obtain ⟨σ',H',I',q⟩:=q;exact h2 pins s1 σ' H' D I' (hu σ' H' q)
 |ret v=>exact q
 |brk=>exact q
 |cont=>exact q
end
end L2
namespace L2
open PySem PySem.Spec PyProof.Rows
structure Def (P:Program) (w:World) (K:PySem.W.Frag) (mg:Str→Option Value) (base:Heap) (k:Nat) (x:Str) (ps:List Str) (dvs:List V) (sp:Sp):Prop where
 ex:∃(f:Addr) (fd:FuncData) (ds:List Value),FnOk P w K mg base kB k f fd ps sp∧mg x=some (.ref f)∧PySem.W.keepIn K (.ref f)=true∧Vals dvs ds∧Binds K fd ps ds
theorem kO {X:Cx} {k k':Nat} {x:Str} {ps:List Str} {dvs:List V} {sp:Sp} {p pos:Pos} {e:Expr} {es:List Expr} {t:TA} (F:Def X.prog X.w X.K X.mg X.base k x ps dvs sp) (hr:Room k' X.A) (hg:Gl X x) (ha:PA X (e::es) t)
  (hk:k≤k':=by decide) (hdb:(x == ("__debug__":Str))=false:=by decide) (he:starEach (e::es) X.env=(false,eval e X.env)::starEach es X.env:=by rfl) (hpl:(backTo pos (starEach es X.env)).any (·.1)=false:=by rfl) :
  PE X (.Call (.Name x p) (e::es) [] pos) (o9 sp dvs E0 t):=by
 obtain ⟨f,fd,ds,G,m,kp,hv,b⟩:=F.ex;exact LL G (hr.mono hk) hg m kp b hv lP ha hdb he hpl
structure FunD (K:PySem.W.Frag) (x qual:Str) (st:Stmt) (f:Addr) (fd:FuncData) (ds:List Value):Prop where
 ex:∃(oc:Value) (od:Option Addr) (T:Addr) (kV doc pm:Value) (an:Option Addr) (cdv ct:Value) (osl:Array (Option Value)) (oT:Obj) (n:Nat),
  fd=PySem.W.fnOf x qual (j7 st) (j3 st) (jI st) (.ref T) kV doc pm an cdv ct∧K.lookup f=some ⟨oc,od,.func fd,osl⟩∧PySem.W.codeIn K cdv qual=true∧K.lookup T=some oT∧oT.data=.seq ds.toArray n
 kp:PySem.W.keepIn K (.ref f)=true
section
variable {P:Program} {w:World} {K:PySem.W.Frag} {mg:Str→Option Value} {base:Heap}
theorem FunD.ok {x qual:Str} {st:Stmt} {f:Addr} {fd:FuncData} {ds:List Value} {N ps:List Str} {k:Nat} {sp:Sp} (F:FunD K x qual st f fd ds) (S:FnScope N ps (jI st)) (len:∀vs H Q E,sp vs H Q E→vs.length=ps.length)
  (hbody:∀(cdv:Value) (A:Around) (outer:List Env) (s:Shared) (H:Hp) (vs:List V) (Q:VK) (E:XK),Room k (A.deeper (envOfC qual (jI st) s.heap.objs.size f cdv))→sp vs H Q E→
   ∃t,PSs (kD kB P w K mg base N qual (jI st) f cdv A outer s H E).nox (j3 st) t∧t {nx:=fun _ H'=>Q .non H',rt:=Q} (zO N vs) H):FnOk P w K mg base kB (k+1) f fd ps sp:=by
 obtain ⟨oc,od,T,kV,doc,pm,an,cdv,ct,osl,oT,n,rfl,lk,hcd,_,_⟩:=F.ex;refine pC lk hcd S len fun A outer s H vs Q E hr hsp=>?_
 obtain ⟨t,h,q⟩:=hbody cdv A outer s H vs Q E hr hsp;exact ⟨t,h.nox,q⟩
theorem FunD.binds {x qual:Str} {st:Stmt} {f:Addr} {fd:FuncData} {ds:List Value} {ps:List Str} (ds':List Value) (m:Nat) (hm:m+ds'.length=ps.length) (F:FunD K x qual st f fd ds)
  (h:∀(T:Addr) (kV doc pm:Value) (an:Option Addr) (cdv ct:Value) (us:List Value),us.length=m→∃k,bindArgs (PySem.W.fnOf x qual (j7 st) (j3 st) (jI st) (.ref T) kV doc pm an cdv ct) ⟨us,[]⟩=seqItems? (.ref T) >>= k∧
   k (some ds.toArray)=pure (ps.zip (us++ds'))):Binds K fd ps ds':=by
 obtain ⟨oc,od,T,kV,doc,pm,an,cdv,ct,osl,oT,n,rfl,lk,hcd,lT,dT⟩:=F.ex;intro s us hK hl;obtain ⟨k,h1,h2⟩:=h T kV doc pm an cdv ct us (by rw [List.length_append] at hl;omega);exact BindsTo.of_defaults rfl (hK _ _ lT) dT h1 h2
theorem L6 {x qual:Str} {st:Stmt} {f T:Addr} {oc:Value} {od an:Option Addr} {osl:Array (Option Value)} {kV doc pm cdv ct:Value} {oT:Obj} {n:Nat} {ds:List Value}
  (l:K.lookup f=some ⟨oc,od,.func (PySem.W.fnOf x qual (j7 st) (j3 st) (jI st) (.ref T) kV doc pm an cdv ct),osl⟩)
  (c:PySem.W.codeIn K cdv qual=true) (k:PySem.W.keepIn K (.ref f)=true) (lT:K.lookup T=some oT) (dT:oT.data=.seq ds.toArray n):FunD K x qual st f (PySem.W.fnOf x qual (j7 st) (j3 st) (jI st) (.ref T) kV doc pm an cdv ct) ds :=
 ⟨⟨oc,od,T,kV,doc,pm,an,cdv,ct,osl,oT,n,rfl,l,c,lT,dT⟩,k⟩
end
section
variable {X:Cx}
end
end L2
namespace L2
open PySem
theorem y0 {c A B:Prop} [Decidable c] (hc:¬c) (h:A):if (!decide c)=true then A else B:=by
 rw [decide_eq_false hc];exact kR h
theorem jT {c A B:Prop} [Decidable c] (hc:¬c) (h:B):if decide c=true then A else B:=by
 rw [decide_eq_false hc];exact kS h
theorem jZ {c A B:Prop} [Decidable c] (hc:c) (h:A):if decide c=true then A else B:=by
 rw [decide_eq_true hc];exact kR h
end L2
namespace L2
open PySem PySem.Spec PyProof.Rows
end L2
namespace L2
open PySem PySem.Spec PyProof.Rows
structure MkD (P:Program) (w:World) (K:PySem.W.Frag) (mg:Str→Option Value) (base:Heap) (k:Nat) (x:Str) (C:Addr) (ps:List Str) (sp:Sp):Prop where
 ex:mg x=some (.ref C)∧∃(f:Addr) (fd:FuncData),Mk K C f∧FnOk P w K mg base kB k f fd ps sp∧Binds K fd ps []
structure MeD (P:Program) (w:World) (K:PySem.W.Frag) (mg:Str→Option Value) (base:Heap) (k:Nat) (C:Addr) (m:Str) (ps:List Str) (sp:Sp):Prop where
 ex:Cls K C∧∃(f:Addr) (fd:FuncData),Meth K C m f∧FnOk P w K mg base kB k f fd ps sp∧Binds K fd ps []
section
variable {X:Cx} {k k':Nat} {x m:Str} {C:Addr} {ps:List Str} {sp:Sp} {p pos apos:Pos} {o e:Expr} {es:List Expr} {ta:TE} {t:TA}
theorem gJ (M:MkD X.prog X.w X.K X.mg X.base k x C ps sp) (hr:Room k' X.A) (hg:Gl X x) (ha:PA X (e::es) t)
  (hk:k+1≤k':=by decide) (hdb:(x == ("__debug__":Str))=false:=by decide) (he:starEach (e::es) X.env=(false,eval e X.env)::starEach es X.env:=by rfl) (hpl:(backTo pos (starEach es X.env)).any (·.1)=false:=by rfl) :
  PE X (.Call (.Name x p) (e::es) [] pos) (AD C sp [] E0 t):=by
 obtain ⟨hm,f,fd,M,G,b⟩:=M.ex;exact LJ M G (hr.mono hk) hg hm b .nil lP ha hdb he hpl
end
end L2
namespace L2
open PySem PySem.Spec PyProof.Rows
structure ClsM (K:PySem.W.Frag) (C:Addr) (m:Str) (f:Addr):Prop where
 sp:PySem.W.specialIn K (.ref C) "__getattribute__"=some (some (.builtin "type.__getattribute__"))
 rd:PySem.W.readsIn K C (.type "type")=true
 fc:PySem.W.findCls K (.ref C) (.type "type") m=some (.val (.ref f))
 kp:PySem.W.keepIn K (.ref f)=true
structure CmD (P:Program) (w:World) (K:PySem.W.Frag) (mg:Str→Option Value) (base:Heap) (k:Nat) (x:Str) (C:Addr) (m:Str) (ps:List Str) (sp:Sp):Prop where
 ex:mg x=some (.ref C)∧∃(f:Addr) (fd:FuncData),ClsM K C m f∧FnOk P w K mg base kB k f fd ps sp∧Binds K fd ps []
theorem wY {X:Cx} {k k':Nat} {x m:Str} {C:Addr} {ps:List Str} {sp:Sp} {p pos apos:Pos} {e:Expr} {es:List Expr} {t:TA} {pl:Sem Bool} (M:CmD X.prog X.w X.K X.mg X.base k x C m ps sp) (hr:Room k' X.A) (hg:Gl X x) (ha:PA X (e::es) t) (hk:k≤k':=by decide)
  (hdb:(x == ("__debug__":Str))=false:=by decide) (hst:starEach (e::es) X.env=(false,eval e X.env)::starEach es X.env:=by rfl) (hpl:(backTo pos (starEach es X.env)).any (·.1)=false:=by rfl)
  (ht:eval (.Call (.Attribute (.Name x p) m apos) (e::es) [] pos) X.env=(do
   let ov ← eval (.Name x p) X.env
   standAt apos.atName
   let (f,first) ← holding [ov] (getMethod ov m pl)
   callWith pos f first (backTo pos (starEach (e::es) X.env)) (backToKw pos (keywordEach [] X.env))):=by rfl) :
  PE X (.Call (.Attribute (.Name x p) m apos) (e::es) [] pos) (o9 sp [] E0 t):=by
 obtain ⟨hm,f,fd,c,G,b⟩:=M.ex;intro pins s σ H Q I h;refine PySem.W.methodCall_KW (pl:=pl) (jQ ((vX (v:=.ref C) hg hm rfl hdb:PE X (.Name x p) (tC (.ref C))) pins s σ H (fun v H1=>v=.ref C∧H1=H) I ⟨rfl,rfl⟩) fun u s1 ⟨v,H1,I1,rv,e1,e2⟩=>?_) ht;subst e1 e2;obtain rfl:u=Value.ref C:=rv;refine PySem.W.method_cls I1.kIn c.sp (PySem.W.cls_value I1.kIn c.rd c.fc rfl ?_);have I2:=I1.tok (s1.toks+1);refine PySem.W.callWith_K (first:=[]) (h₀:=X.base) I.ok.mod.kin c.kp (jQ (ha pos pins _ σ H1 _ I2 h) fun us s2 ⟨vs,H2,I3,r,q2⟩=>⟨I3.kIn,?_⟩) hst hpl;exact o0 (us:=us) (vs:=vs) G (hr.mono hk) b .nil lP I3 r q2
end L2
namespace L2
open PySem PySem.Spec PyProof.Rows
section
variable {X:Cx}
theorem EZ {bs:List Bool} {its:List Value} (rv:Vals (bs.map V.bl) its) {i:Nat} {v:Value} (h:its.toArray[i]?=some v):v=Value.bool (bs.getD i true):=by
 have h':its[i]?=some v:=by simpa using h
 have hi:i<its.length:=(List.getElem?_eq_some_iff.mp h').1;have hn:i<bs.length:=by have:=rv.length;rw [List.length_map] at this;omega
 obtain ⟨u,e,q⟩:=rv.get (x:=V.bl (bs.getD i true)) (i:=i) (by rw [List.getElem?_map,List.getElem?_eq_getElem hn,List.getD_eq_getElem?_getD,List.getElem?_eq_getElem hn];rfl);rw [h'] at e;cases e;exact q
theorem ED (bs:List Bool):(List.range bs.length).all (fun i=>bs.getD i true)=bs.all id:=by
 rw [Bool.eq_iff_iff,List.all_eq_true,List.all_eq_true];constructor
 ·intro h x hx;obtain ⟨i,hi,e⟩:=List.mem_iff_getElem.mp hx;have:=h i (by simpa using hi);rw [List.getD_eq_getElem?_getD,List.getElem?_eq_getElem hi,e] at this;exact this
 ·intro h i hi;have hi':i<bs.length:=by simpa using hi
  rw [List.getD_eq_getElem?_getD,List.getElem?_eq_getElem hi'];exact h _ (List.getElem_mem hi')
theorem tR (hc:X.calm=true):yK X (.builtin "all") (fun xs H Q=>∃(p:Addr) (bs:List Bool),xs=[.ref p]∧SqL X.K H p (bs.map V.bl)∧Q (.bl (bs.all id)) H):=by
 intro pins s σ H xs us Q I r h;obtain ⟨p,bs,rfl,hq,q⟩:=h;obtain ⟨u,rfl,rx⟩:=ZY r;cases rx;obtain ⟨its,rv,pl,hz⟩:=I.list hq;have hlen:=rv.length;rw [List.length_map] at hlen;have hp:p<s.heap.objs.size:=by obtain ⟨o,n,e,_⟩:=pl;exact Heap.lt_size e
 refine call_all_walk (wpAny_pyIter_list pl.isList ?_);refine ⟨s.heap.objs.size,_,_,_,_,_,fun i=>bs.getD i true,rfl,Walks.list (A:=X.A.in1) (I.ok.hd hc) s.heap.objs.size p (Nat.ne_of_lt hp) its.toArray,⟨⟨_,Heap.get?_push_size _ rfl,rfl,rfl⟩,pl.isList.at fun o e=>Heap.get?_push_of_some _ e⟩,fun i v s' Q' E' h hQ=>?_,fun h' tk hk=>?_⟩
 ·rw [EZ rv h];exact wpAny_truthy_bool hQ
 ·rw [List.size_toArray,← hlen,ED];refine ⟨.bl (bs.all id),H,I.kept (t':=tk) fun b o e=>hk b o (fun hb=>?_) (Heap.get?_push_of_some _ e),rfl,q⟩;have e':b=s.heap.objs.size:=by simpa using hb
  exact absurd (Heap.lt_size e) (by rw [e'];exact Nat.lt_irrefl _)
end
end L2
namespace L2
open PySem PySem.Spec PyProof.Rows
section
variable {X:Cx}
end
end L2
namespace L2
open PySem PySem.Spec PyProof.Rows
end L2
namespace L2
open PySem PySem.Spec PyProof.Rows
section
variable {P:Program} {w:World} {H:Hp} {h h':Heap} {a:Addr} {o:HO}
theorem ObjOk.there (x:ObjOk P w H h a o):∃u,h.get? a=some u:=by
 cases o with
 |lst xs=>obtain ⟨_,_,_,_,e⟩:=x;exact ⟨_,e⟩
 |tup xs=>obtain ⟨_,_,_,o,e,_⟩:=x;exact ⟨_,e⟩
 |dK kvs=>obtain ⟨_,_,_,_,o,_,_,e,_⟩:=x;exact ⟨_,e⟩
 |dT kvs=>obtain ⟨_,_,_,_,o,_,_,e,_⟩:=x;exact ⟨_,e⟩
 |set S n=>obtain ⟨o,_,_,_,e,_⟩:=x;exact ⟨_,e⟩
 |ins C dx fs=>obtain ⟨_,_,_,e,_⟩:=x;exact ⟨_,e⟩
 |own y=>obtain ⟨_,e⟩:=x;exact ⟨_,e⟩
 |xd fs=>obtain ⟨_,⟨_,_,_,e,_⟩,_⟩:=x;exact ⟨_,e⟩
 |rng lo hi=>obtain ⟨_,_,_,e⟩:=x;exact ⟨_,e⟩
 |frz ob u=>obtain ⟨e,_⟩:=x;exact ⟨_,e⟩
 |tbl ps=>exact ⟨_,(show h.get? a=some _ from x)⟩
 |met f y=>exact ⟨_,(show h.get? a=some _ from x)⟩
 |ext φ=>obtain ⟨_,e,_⟩:=x;exact e
theorem HOk.there (x:HOk P w H h) (e:H a=some o):∃u,h.get? a=some u:=(x a o e).there
theorem HOk.keepT (x:HOk P w H h) (k:∀b u,H b≠none→h.get? b=some u→h'.get? b=some u):HOk P w H h':=fun a o e =>
 (x a o e).stay (fun b u hb q=>k b u (by
  rcases hb with rfl|hb
  ·rw [e];exact fun z=>nomatch z
  ·rw [hb];exact fun z=>nomatch z) q) (fun _ q=>q) fun _ _ q=>q
end
theorem Un.go {fs ex:List Addr} {H H1:Hp} {h0 h h':Heap} (u:Un fs ex H H1 h0 h) (k:∀b o,h.get? b=some o→b∉fs→b∉ex→(∃o',h0.get? b=some o')→h'.get? b=some o)
  (ks:∀b o,h.get? b=some o→b∈fs→(∃o',h0.get? b=some o')→∃sl,h'.get? b=some {o with slots:=sl}):Un fs ex H H1 h0 h' where
 keep:=fun b o q n hb hx=>k b o (u.keep b o q n hb hx) hb hx ⟨o,q⟩
 slot:=fun b o q n hb hx=>by
  obtain ⟨sl,e⟩:=u.slot b o q n hb hx;obtain ⟨sl',e'⟩:=ks b _ e hb ⟨o,q⟩;exact ⟨sl',e'⟩
 free:=u.free
 there:=fun b o q hx=>by
  obtain ⟨o',e⟩:=u.there b o q hx
  by_cases hb:b∈fs
  ·obtain ⟨sl,e'⟩:=ks b o' e hb ⟨o,q⟩;exact ⟨_,e'⟩
  ·exact ⟨o',k b o' e hb hx ⟨o,q⟩⟩
 tups:=u.tups
 frzs:=u.frzs
 tbls:=u.tbls
def BI (fr:List Env) (Z:Addr→Prop) (h:Heap) (a C:Addr):Prop :=
 ∃(B:Heap) (a0:Value),Heap.FlyingW B fr a (.ref C) a0 h∧∀b o,h.get? b=some o→b∉kK fr→Z b→B.get? b=some o
def j4 (P:Program) (w:World):zV:=fun outer H s E e s'=>∃(a C:Addr) (H':Hp),e=.ref a∧s'.os=s.os∧AllBare s'.gens∧Un (kK outer) [] H H' s.heap s'.heap∧HOk P w H' s'.heap∧
 BI outer (fun b=>H' b≠none∨∃o',s.heap.get? b=some o') s'.heap a C∧H' a=none∧s.heap.get? a=none∧E (.ref C) none H'
def AC (X:Cx) (R:St→Value→Hp→Prop):Prop:=∀pins σ H s e h' C vs,Inv X pins σ H s→Heap.MadeExcOf s.heap h' e (.ref C) vs→R σ (.ref C) H→X.xe (.ref e) {s with heap:=h'}
def eL (X:Cx) (R:St→Value→Hp→Prop):Prop:=∀pins σ H s e s',Inv X pins σ H s→j4 X.prog X.w X.stack H s (fun c _ H'=>R σ c H') e s'→X.xe e s'
theorem yN {P:Program} {w:World} {K:PySem.W.Frag} {mg:Str→Option Value} {base:Heap} {N:List Str} {qual:Str} {scope:Scope} {f:Addr} {cd:Value} {A:Around} {outer:List Env} {s:Shared} {H:Hp} {E:XK} :
  AC (kD (j4 P w) P w K mg base N qual scope f cd A outer s H E) (fun _ c H'=>E c none H'):=by
 intro pins σ H1 s1 e h' C vs I hx q;have hin:∀env∈(envOfC qual scope s.heap.objs.size f cd::outer),∀b,env.frame=some b→b∈kK (envOfC qual scope s.heap.objs.size f cd::outer):=fun env he b hb=>List.mem_filterMap.mpr ⟨env,he,hb⟩
 have hst:s1.heap.FunFrames base (envOfC qual scope s.heap.objs.size f cd::outer):=I.stack;have hfrees:∀b∈kK (envOfC qual scope s.heap.objs.size f cd::outer),H1 b=none:=I.stkFree;have hfs:kK (envOfC qual scope s.heap.objs.size f cd::outer)=s.heap.objs.size::kK outer:=rfl;have ub:Un (kK outer) [] H H1 s.heap s1.heap:=I.base;have hno:s1.heap.get? e=none:=hx.new;show wpAny (model P w) (A.deeper (envOfC qual scope s.heap.objs.size f cd)) (leaving (envOfC qual scope s.heap.objs.size f cd) (.ref e)) (fun _ s''=>j4 P w outer H s E (.ref e) s'') (fun e' s''=>j4 P w outer H s E e' s'') {s1 with heap:=h'};refine wpAny_leaves_madeW (base:=PySem.W.hideAll s1.heap (kK (envOfC qual scope s.heap.objs.size f cd::outer))) I.ok.frames rfl (fun b o q=>PySem.W.of_hideAll _ q) (PySem.W.funFrames_hide hst hin) hx fun h2 t fl _ _ up=>?_
 dsimp only at up
 have keep:∀b o,s1.heap.get? b=some o→b∉kK (envOfC qual scope s.heap.objs.size f cd::outer)→(PySem.W.hideAll s1.heap (kK (envOfC qual scope s.heap.objs.size f cd::outer))).get? b=some o:=fun b o q n=>PySem.W.hideAll_get _ q n
 have old:∀b,(∃o',s.heap.get? b=some o')→b∉kK outer→b∉kK (envOfC qual scope s.heap.objs.size f cd::outer):=fun b ⟨o',q⟩ n z=>by
  rw [hfs] at z
  rcases List.mem_cons.mp z with z|z
  ·exact absurd (Heap.lt_size q) (by rw [z];exact Nat.lt_irrefl _)
  ·exact n z
 have y9:∀b,H1 b≠none→b∉kK (envOfC qual scope s.heap.objs.size f cd::outer):=fun b hb z=>hb (hfrees b z)
 refine ⟨e,C,H1,rfl,I.os,I.bare,ub.go (fun b o q n _ z=>fl.1 b o (keep b o q (old b z n))) (fun b o q n _=>?_),I.hok.keepT fun b u hb q=>fl.1 b u (keep b u q (y9 b hb)),?_,?_,?_,q⟩
 ·obtain ⟨_,o',ho',hd⟩:=hst.mem (show b∈kK (envOfC qual scope s.heap.objs.size f cd::outer) from by rw [hfs];exact List.mem_cons_of_mem _ n);rw [q] at ho';cases ho'
  exact up b o (hx.keeps b o q) hd
 ·refine ⟨_,_,fl,fun b o q n z=>?_⟩;have hn:b∉kK (envOfC qual scope s.heap.objs.size f cd::outer):=by
   rcases z with z|z
   ·exact y9 b z
   ·exact old b z n
  have h1:∃u,s1.heap.get? b=some u:=by
   rcases z with z|⟨o',z⟩
   ·cases r:H1 b with
    |none=>exact absurd r z
    |some v=>exact I.hok.there r
   ·exact ub.there b o' z (by simp)
  obtain ⟨u,hu⟩:=h1;have hB:=keep b u hu hn;have:=fl.1 b u hB;have q':h2.get? b=some o:=q;rw [q'] at this;cases this;exact hB
 ·cases r:H1 e with
  |none=>rfl
  |some v =>
   obtain ⟨u,hu⟩:=I.hok.there r;rw [hno] at hu;cases hu
 ·cases r:s.heap.get? e with
  |none=>rfl
  |some v =>
   obtain ⟨u,hu⟩:=ub.there e v r (by simp);rw [hno] at hu;cases hu
theorem vR {P:Program} {w:World} {K:PySem.W.Frag} {mg:Str→Option Value} {base:Heap} {N:List Str} {qual:Str} {scope:Scope} {f:Addr} {cd:Value} {A:Around} {outer:List Env} {s:Shared} {H:Hp} {E:XK} :
  eL (kD (j4 P w) P w K mg base N qual scope f cd A outer s H E) (fun _ c H'=>E c none H'):=by
 intro pins σ H1 s1 e s2 I hx;obtain ⟨a,C,H2,rfl,os,bare,un,hok,⟨B,a0,fl,ground⟩,ha,hs,q⟩:=hx;have fl':Heap.FlyingW B (envOfC qual scope s.heap.objs.size f cd::outer) a (.ref C) a0 s2.heap:=fl;have J:Inv (kD (j4 P w) P w K mg base N qual scope f cd A outer s H E) pins σ H2 s2:=I.call' (ch:=[]) os un hok bare fun b z=>absurd z (by simp)
 have ub:Un (kK outer) [] H H2 s.heap s2.heap:=J.base;have hfs:kK (envOfC qual scope s.heap.objs.size f cd::outer)=s.heap.objs.size::kK outer:=rfl;have old:∀b,(∃o',s.heap.get? b=some o')→b∉kK outer→b∉kK (envOfC qual scope s.heap.objs.size f cd::outer):=fun b ⟨o',q⟩ n z=>by
  rw [hfs] at z
  rcases List.mem_cons.mp z with z|z
  ·exact absurd (Heap.lt_size q) (by rw [z];exact Nat.lt_irrefl _)
  ·exact n z
 have y9:∀b,H2 b≠none→b∉kK (envOfC qual scope s.heap.objs.size f cd::outer):=fun b hb z=>hb (J.stkFree b z)
 have u1:Un (kK outer) [] H H1 s.heap s1.heap:=I.base;have in1:∀b,(∃o',s.heap.get? b=some o')→∃o',s1.heap.get? b=some o':=fun b ⟨o',z⟩=>u1.there b o' z (by simp)
 have hst:s2.heap.FunFrames base (envOfC qual scope s.heap.objs.size f cd::outer):=J.stack;show wpAny (model P w) (A.deeper (envOfC qual scope s.heap.objs.size f cd)) (leaving (envOfC qual scope s.heap.objs.size f cd) (.ref a)) (fun _ s''=>j4 P w outer H s E (.ref a) s'') (fun e' s''=>j4 P w outer H s E e' s'') s2;refine wpAny_leaves_onW J.ok.frames rfl fl' fun h3 fl3 up=>?_
 refine ⟨a,C,H2,rfl,J.os,J.bare,ub.go (fun b o q n _ z=>fl3.1 b o (ground b o q (old b z n) (.inr (in1 b z)))) (fun b o q n _=>?_),J.hok.keepT fun b u hb q=>fl3.1 b u (ground b u q (y9 b hb) (.inl hb)),?_,ha,?_,q⟩
 ·obtain ⟨_,o',ho',hd⟩:=hst.mem (show b∈kK (envOfC qual scope s.heap.objs.size f cd::outer) from by rw [hfs];exact List.mem_cons_of_mem _ n);rw [q] at ho';cases ho'
  exact up b o q hd
 ·refine ⟨B,a0,fl3,fun b o q n z=>?_⟩;have hn:b∉kK (envOfC qual scope s.heap.objs.size f cd::outer):=by
   rcases z with z|z
   ·exact y9 b z
   ·exact old b z n
  have h1:∃u,s2.heap.get? b=some u:=by
   rcases z with z|⟨o',z⟩
   ·cases r:H2 b with
    |none=>exact absurd r z
    |some v=>exact J.hok.there r
   ·exact ub.there b o' z (by simp)
  obtain ⟨u,hu⟩:=h1;have hB:=ground b u hu hn (by
   rcases z with z|z
   ·exact .inl z
   ·exact .inr (in1 b z))
  have:=fl3.1 b u hB;have q':h3.get? b=some o:=q;rw [q'] at this;cases this;exact hB
 ·cases r:s.heap.get? a with
  |none=>rfl
  |some v =>
   obtain ⟨u,hu⟩:=in1 a ⟨v,r⟩;rw [hs] at hu;cases hu
end L2
namespace L2
open PySem PySem.Spec PyProof.Rows
theorem L8 {K:PySem.W.Frag} {h:Heap} {C:Addr} {bmB:List Value} {newId:String} (X:K.In h) (q:PySem.W.excIn K C bmB newId=true) :
  ∃bm N nm qn bs hdct sn sub ab col dd k0 k1 k2 k3 k5 mN,K.lookup C=some (excClassObj nm qn C N bs bm hdct sn sub ab col dd k0 k1 k2 k3 k5 newId)∧h.get? C=some (excClassObj nm qn C N bs bm hdct sn sub ab col dd k0 k1 k2 k3 k5 newId)∧h.Ns N mN∧mN "__init__"=none∧OwnTail h bmB bm:=by
 unfold PySem.W.excIn at q
 split at q
 ·rename_i dd cd sl ho
  split at q
  ·rename_i C' bm k0 k1 k2 k3 n k5 hm hs;simp only [Bool.and_eq_true,beq_iff_eq,Bool.not_eq_true'] at q;obtain ⟨⟨⟨⟨⟨rfl,rfl⟩,hdel⟩,ht⟩,hok⟩,hni⟩:=q;obtain ⟨nm,bs,mro,ns,qn,hd,sn,sub,ab,col,del⟩:=cd
   dsimp only at hm hdel hok hni
   subst hm hdel;have hsl:sl = #[k0,k1,k2,k3,some (.builtin n),k5]:=by
    obtain ⟨l⟩:=sl;simp only at hs;rw [hs]
   subst hsl;exact ⟨bm,ns,nm,qn,bs,hd,sn,sub,ab,col,dd,k0,k1,k2,k3,k5,_,ho,X _ _ ho,.of_isNs (PySem.W.isNs_of_in X hok),PySem.W.nsMap_none_of_in X hok hni,PySem.W.tail_of_in X ht⟩
  ·cases q
 ·cases q
abbrev OM:List Value:=[.type "ValueError",.type "Exception",.type "BaseException",.type "object"]
def eV (K:PySem.W.Frag) (C:Addr):Prop:=PySem.W.excIn K C OM "ValueError.__new__"=true
section
variable {X:Cx} {R:St→Value→Hp→Prop} {x:Str} {C:Addr} {np cpos pos p:Pos} {e:Expr} {es:List Expr} {t:TA}
theorem yP (hx:AC X R) (hcalm:X.calm=true) (hg:Gl X x) (hm:X.mg x=some (.ref C)) (hc:eV X.K C) (ha:PA X (e::es) t) (hdb:(x == ("__debug__":Str))=false:=by decide)
  (he:starEach (e::es) X.env=(false,eval e X.env)::starEach es X.env:=by rfl) (hpl:(backTo cpos (starEach es X.env)).any (·.1)=false:=by rfl) :
  PS X (.Raise (some (.Call (.Name x np) (e::es) [] cpos)) none pos) (fun _ σ H=>t σ H fun vs H1=>vs.length≤sizeLine∧R σ (.ref C) H1):=by
 intro pins s σ H D I h;obtain ⟨tl,N,nm,q,bs,hdct,sn,sub,ab,col,dd,k0,k1,k2,k3,k5,mN,_,hC,hN,hni,T⟩:=L8 I.ok.mod.kin hc;refine wpAny_Raise_call_subT (C:=C) (nm:=nm) (q:=q) (N:=N) (bs:=bs) (bm:=tl) (hdct:=hdct) (sn:=sn) (sub:=sub) (ab:=ab) (col:=col) (dd:=dd) (k0:=k0) (k1:=k1) (k2:=k2) (k3:=k3) (k5:=k5)
  PySem.F.excBase_ValueError (mN:=mN) (T.hasType PySem.F.excBase_ValueError.hasBase) (I.ok.hd hcalm) (by rw [he];show (false||(backTo cpos (starEach es X.env)).any (·.1))=false;rw [hpl];rfl) hni (d0 I hg hm ⟨rfl,?_⟩ hdb)
 have h1:=ha cpos pins s σ H _ I h;rw [he] at h1 ⊢;refine Calls.evalArgs_plain (wpAny_mono h1 (fun us s2 ⟨vs,H2,I2,r2,hl,q2⟩=>⟨rfl,by rw [← r2.length];exact hl,I2.bk _ _ hC,hN.keeps I2.bk,T.keeps I2.bk,fun h' a hm=>hx pins σ H2 s2 a h' C us I2 hm q2⟩) fun _ _ y=>y)
def MG (sp:Sp) (dvs:List V) (R:St→Value→Hp→Prop) (t:TA):TE:=fun σ H Q=>t σ H fun vs H1=>sp (vs++dvs) H1 Q (fun c _ H'=>R σ c H')
theorem LA {k:Nat} {f:Addr} {fd:FuncData} {ps:List Str} {sp:Sp} {dvs:List V} {ds:List Value} {pins:List (Addr×Obj)} {σ:St} {H:Hp} {s:Shared} {Q:VK} {us:List Value} {vs:List V} (F:FnOk X.prog X.w X.K X.mg X.base (j4 X.prog X.w) k f fd ps sp) (hr:Room k X.A) (hb:Binds X.K fd ps ds) (hd:Vals dvs ds) (hx:eL X R)
  (I:Inv X pins σ H s) (r:Vals vs us) (h:sp (vs++dvs) H Q (fun c _ H'=>R σ c H')):wpAny (model X.prog X.w) X.A (call (.ref f) us) (EP X pins σ Q) X.xe s:=by
 have r2:Vals (vs++dvs) (us++ds):=r.append hd;have hl:(us++ds).length=ps.length:=by rw [← r2.length];exact F.len _ _ _ _ h
 refine wpAny_call (codeAny_mono (F.run X.A X.stack s H ⟨us,[]⟩ (us++ds) (vs++dvs) Q _ hr I.env0 (hb s us I.kIn hl) r2 h) fun r s' hq=>?_);cases r with
 |error e=>exact hx pins σ H s e s' I hq
 |ok fl =>
  cases fl with
  |ret u=>exact I.after hq
  |next=>exact False.elim hq
  |brk=>exact False.elim hq
  |cont=>exact False.elim hq
end
structure DefX (P:Program) (w:World) (K:PySem.W.Frag) (mg:Str→Option Value) (base:Heap) (k:Nat) (x:Str) (ps:List Str) (dvs:List V) (sp:Sp):Prop where
 ex:∃(f:Addr) (fd:FuncData) (ds:List Value),FnOk P w K mg base (j4 P w) k f fd ps sp∧mg x=some (.ref f)∧PySem.W.keepIn K (.ref f)=true∧Vals dvs ds∧Binds K fd ps ds
theorem vG {X:Cx} {R:St→Value→Hp→Prop} {k k':Nat} {x:Str} {ps:List Str} {dvs:List V} {sp:Sp} {p pos:Pos} {e:Expr} {es:List Expr} {t:TA} (F:DefX X.prog X.w X.K X.mg X.base k x ps dvs sp) (hx:eL X R) (hr:Room k' X.A) (hg:Gl X x) (ha:PA X (e::es) t)
  (hk:k≤k':=by decide) (hdb:(x == ("__debug__":Str))=false:=by decide) (he:starEach (e::es) X.env=(false,eval e X.env)::starEach es X.env:=by rfl) (hpl:(backTo pos (starEach es X.env)).any (·.1)=false:=by rfl) :
  PE X (.Call (.Name x p) (e::es) [] pos) (MG sp dvs R t):=by
 obtain ⟨f,fd,ds,G,m,kp,hv,b⟩:=F.ex;intro pins s σ H Q I h;refine wpAny_Call_Name_kw (d0 I hg m ?_ hdb);refine PySem.W.callWith_K (h₀:=X.base) I.ok.mod.kin kp (jQ (ha pos pins s σ H _ I h) fun us s1 ⟨vs,H1,I1,r,q⟩=>⟨I1.kIn,?_⟩) he hpl;exact LA G (hr.mono hk) b hv hx I1 r q
def AL (X:Cx) (pins:List (Addr×Obj)) (a:Addr):Prop:=X.s₀.heap.get? a=none∧a≠X.env.locals∧(∀x c,X.env.cells.lookup x=some c→c≠a)∧∀p∈X.pn++pins,p.1≠a
def Q1 (X:Cx) (pins:List (Addr×Obj)) (R:St→Value→Hp→Prop):Cx:={X with
 pn:=X.pn++pins
 xe:=fun e s'=>∃(a C:Addr) (σ':St) (H':Hp),e=.ref a∧Inv X pins σ' H' s'∧BI X.stack (fun b=>H' b≠none∨(∃o,X.s₀.heap.get? b=some o)∨∃p∈X.pn++pins,p.1=b) s'.heap a C∧H' a=none∧AL X pins a∧R σ' (.ref C) H'}
theorem Cx.Ok.intoTry {X:Cx} {pins:List (Addr×Obj)} {R:St→Value→Hp→Prop} (ok:X.Ok):(Q1 X pins R).Ok :=
 ⟨ok.mod,ok.kind,ok.glob,ok.blt,ok.above,ok.inj,ok.has,ok.cab,ok.hd,ok.frames,ok.stk,ok.exf,ok.bs,ok.bsz,ok.noex,ok.exfs,ok.funs,ok.frf⟩
theorem Cx.Ok.outTry {X:Cx} {pins:List (Addr×Obj)} {R:St→Value→Hp→Prop} (ok:(Q1 X pins R).Ok):X.Ok :=
 ⟨ok.mod,ok.kind,ok.glob,ok.blt,ok.above,ok.inj,ok.has,ok.cab,ok.hd,ok.frames,ok.stk,ok.exf,ok.bs,ok.bsz,ok.noex,ok.exfs,ok.funs,ok.frf⟩
section
variable {X:Cx} {pins pins':List (Addr×Obj)} {σ:St} {H:Hp} {s:Shared} {R:St→Value→Hp→Prop}
theorem Inv.intoTry (I:Inv X pins σ H s):Inv (Q1 X pins R) [] σ H s :=
 ⟨I.ok.intoTry,I.os,I.bare,I.base,I.loc,I.cell,I.free,I.freeC,fun p hp=>I.pin p (by have hp':p∈(X.pn++pins)++[]:=hp;rw [List.append_nil] at hp';exact hp'),I.hok,I.len⟩
theorem Inv.outTry (I:Inv (Q1 X pins R) pins' σ H s):Inv X pins σ H s :=
 ⟨I.ok.outTry,I.os,I.bare,I.base,I.loc,I.cell,I.free,I.freeC,fun p hp=>I.pin p (List.mem_append_left _ hp),I.hok,I.len⟩
theorem SP.outTry {D:Ends} {f:Flow} {s':Shared} (h:SP (Q1 X pins R) [] D f s'):SP X pins D f s':=by
 cases f with
 |next=>obtain ⟨σ',H',I,q⟩:=h;exact ⟨σ',H',I.outTry,q⟩
 |brk=>obtain ⟨σ',H',I,q⟩:=h;exact ⟨σ',H',I.outTry,q⟩
 |cont=>obtain ⟨σ',H',I,q⟩:=h;exact ⟨σ',H',I.outTry,q⟩
 |ret u=>obtain ⟨v,σ',H',I,r,q⟩:=h;exact ⟨v,σ',H',I.outTry,r,q⟩
theorem HE (hex:X.ex=[]):eL (Q1 X pins R) R:=by
 intro pins' σ H1 s1 e s2 I hx;obtain ⟨a,C,H2,rfl,os,bare,un,hok,⟨B,a0,fl,ground⟩,ha,hs,q⟩:=hx;have I0:Inv X pins σ H1 s1:=I.outTry;have J:Inv X pins σ H2 s2:=I0.call' (ch:=[]) os un hok bare fun b z=>absurd z (by simp)
 refine ⟨a,C,σ,H2,rfl,J,⟨B,a0,fl,fun b o q n z=>ground b o q n ?_⟩,ha,⟨?_,fun z=>?_,fun x c e z=>?_,fun p hp z=>?_⟩,q⟩
 ·rcases z with z|⟨o',z⟩|⟨p,hp,rfl⟩
  ·exact .inl z
  ·exact .inr (I0.base.there b o' z (by rw [hex];simp))
  ·exact .inr ⟨_,(I0.pin p hp).1⟩
 ·cases r:X.s₀.heap.get? a with
  |none=>rfl
  |some v =>
   obtain ⟨u,hu⟩:=I0.base.there a v r (by rw [hex];simp);rw [hs] at hu;cases hu
 ·obtain ⟨m,⟨o,_,_,ho,_⟩,_⟩:=I0.loc;rw [← z,hs] at ho;cases ho
 ·obtain ⟨v,o,ho,_⟩:=I0.cell x c e;rw [z,hs] at ho;cases ho
 ·have ho:=(I0.pin p hp).1;rw [z,hs] at ho;cases ho
theorem Inv.fly {h':Heap} (I:Inv X pins σ H s) (hstk:X.stack=X.env::X.outer) (hf:X.env.frame=some X.env.locals)
  (k:∀b o,s.heap.get? b=some o→b∉kK X.stack→(H b≠none∨(∃o,X.s₀.heap.get? b=some o)∨∃p∈X.pn++pins,p.1=b)→h'.get? b=some o) (up:s.heap.UpToSlots h'):Inv X pins σ H {s with heap:=h'}:=by
 have hfs:kK X.stack=X.env.locals::X.fs:=by rw [hstk];unfold kK;rw [List.filterMap_cons,hf];rfl
 have cellK:∀c v,s.heap.IsCell c v→h'.IsCell c v:=fun c v ⟨o,ho,hd⟩=>by
  obtain ⟨sl,e⟩:=up c o ho (fun vs q=>by rw [hd] at q;cases q);exact ⟨_,e,hd⟩
 have y9:∀b,H b≠none→b∉kK X.stack:=fun b hb z=>hb (I.stkFree b z)
 refine ⟨I.ok,I.os,I.bare,I.base.go (fun b o q n _ z=>k b o q (fun m=>?_) (.inr (.inl z))) (fun b o q n z=>?_),?_,fun x c e=>?_,I.free,I.freeC,fun p hp=>?_,I.hok.keepT fun b u hb q=>k b u q (y9 b hb) (.inl hb),I.len⟩
 ·rw [hfs] at m
  rcases List.mem_cons.mp m with m|m
  ·obtain ⟨o',z⟩:=z;exact absurd (Nat.lt_of_lt_of_le (Heap.lt_size z) I.ok.above) (by rw [m];exact Nat.lt_irrefl _)
  ·exact n m
 ·obtain ⟨_,o',ho',hd⟩:=I.stack.mem (show b∈kK X.stack from by rw [hfs];exact List.mem_cons_of_mem _ n);rw [q] at ho';cases ho'
  exact up b o q hd
 ·obtain ⟨m,hn,hl⟩:=I.loc;refine ⟨m,up.ns hn,fun i x v h1 h2 h3=>?_⟩;obtain ⟨u,r,l⟩:=hl i x v h1 h2 h3;refine ⟨u,r,?_⟩
  rcases l with l|⟨l1,c,l2,l3⟩
  ·exact .inl l
  ·exact .inr ⟨l1,c,l2,cellK c _ l3⟩
 ·obtain ⟨v,q⟩:=I.cell x c e;exact ⟨v,cellK c v q⟩
 ·obtain ⟨h1,h2,h3,h4,h5⟩:=I.pin p hp;refine ⟨k p.1 p.2 h1 (fun m=>?_) (.inr (.inr ⟨p,hp,rfl⟩)),h2,h3,h4,h5⟩;rw [hfs] at m
  rcases List.mem_cons.mp m with m|m
  ·exact h3 m
  ·exact h4 m
end
def fQ (X:Cx) (e:Value):Cx:={X with A:=X.A.mark (some e),calm:=false,xe:=fun _ _=>False}
section
variable {X:Cx} {pins:List (Addr×Obj)} {σ:St} {H:Hp} {s:Shared} {e:Value}
theorem Inv.intoSuite (I:Inv X pins σ H s) (e:Value):Inv (fQ X e) pins σ H s :=
 ⟨⟨I.ok.mod,I.ok.kind,I.ok.glob,I.ok.blt,I.ok.above,I.ok.inj,I.ok.has,I.ok.cab,fun z=>absurd (show false=true from z) (by decide),I.ok.frames,I.ok.stk,I.ok.exf,I.ok.bs,I.ok.bsz,I.ok.noex,I.ok.exfs,I.ok.funs,I.ok.frf⟩,I.os,I.bare,I.base,I.loc,I.cell,I.free,I.freeC,I.pin,I.hok,I.len⟩
theorem Inv.outSuite (ok:X.Ok) (I:Inv (fQ X e) pins σ H s):Inv X pins σ H s:=⟨ok,I.os,I.bare,I.base,I.loc,I.cell,I.free,I.freeC,I.pin,I.hok,I.len⟩
theorem SP.outSuite (ok:X.Ok) {D:Ends} {f:Flow} {s':Shared} (h:SP (fQ X e) pins D f s'):SP X pins D f s':=by
 cases f with
 |next=>obtain ⟨σ',H',I,q⟩:=h;exact ⟨σ',H',I.outSuite ok,q⟩
 |brk=>obtain ⟨σ',H',I,q⟩:=h;exact ⟨σ',H',I.outSuite ok,q⟩
 |cont=>obtain ⟨σ',H',I,q⟩:=h;exact ⟨σ',H',I.outSuite ok,q⟩
 |ret u=>obtain ⟨v,σ',H',I,r,q⟩:=h;exact ⟨v,σ',H',I.outSuite ok,r,q⟩
end
end L2
namespace L2
open PySem PySem.Spec PyProof.Rows
section
variable {P:Program} {w:World} {K:PySem.W.Frag} {mg:Str→Option Value} {base:Heap}
theorem Fun.okX {x qual:Str} {st:Stmt} {f:Addr} {fd:FuncData} {N ps:List Str} {k:Nat} {sp:Sp} (F:Fun K x qual st f fd) (S:FnScope N ps (jI st)) (len:∀vs H Q E,sp vs H Q E→vs.length=ps.length)
  (hbody:∀(cdv:Value) (A:Around) (outer:List Env) (s:Shared) (H:Hp) (vs:List V) (Q:VK) (E:XK),Room k (A.deeper (envOfC qual (jI st) s.heap.objs.size f cdv))→sp vs H Q E→
   ∃t,PSs (kD (j4 P w) P w K mg base N qual (jI st) f cdv A outer s H E) (j3 st) t∧t {nx:=fun _ H'=>Q .non H',rt:=Q} (zO N vs) H):FnOk P w K mg base (j4 P w) (k+1) f fd ps sp:=by
 obtain ⟨oc,od,kV,doc,pm,an,cdv,ct,osl,rfl,lk,hcd⟩:=F.ex;exact pC lk hcd S len fun A outer s H vs Q E hr hsp=>hbody cdv A outer s H vs Q E hr hsp
end
section
variable {X:Cx}
end
end L2
namespace L2
open PySem PySem.Spec PyProof.Rows
section
variable {X:Cx} {pins:List (Addr×Obj)} {σ:St} {H:Hp} {s:Shared}
theorem Inv.unset {i:Nat} {x:Str} {m':Str→Option Value} {h':Heap} {t':Nat} (I:Inv X pins σ H s) (hN:X.N.Nodup) (hi:X.N[i]?=some x)
  (hm:∀m,s.heap.Ns X.env.locals m→∀y,y≠x→m' y=m y) (hn:h'.Ns X.env.locals m') (hs:Heap.SameBut X.env.locals s.heap h'):Inv X pins (σ.set i none) H {s with heap:=h',toks:=t'}:=by
 obtain ⟨m,hn0,hl⟩:=id I.loc;obtain ⟨oL,_,_,hoL,_⟩:=id hn0;have hiσ:i<σ.length:=by rw [I.len];exact (List.getElem?_eq_some_iff.mp hi).1
 refine ⟨I.ok,I.os,I.bare,⟨fun b o e n hb hx=>?_,fun b o e n hb hx=>?_,I.base.free,fun b o e hx=>?_,I.base.tups,I.base.frzs,I.base.tbls⟩,⟨_,hn,fun j y v' e1 e2 e3=>?_⟩,fun y c e=>?_,I.free,I.freeC,fun p hp=>?_,?_,by simpa using I.len⟩
 ·exact (hs.2 b (Nat.ne_of_lt (Nat.lt_of_lt_of_le (Heap.lt_size e) I.ok.above))).trans (I.base.keep b o e n hb hx)
 ·obtain ⟨sl,e1⟩:=I.base.slot b o e n hb hx;exact ⟨sl,(hs.2 b (Nat.ne_of_lt (Nat.lt_of_lt_of_le (Heap.lt_size e) I.ok.above))).trans e1⟩
 ·obtain ⟨o',e1⟩:=I.base.there b o e hx;exact ⟨o',(hs.2 b (Nat.ne_of_lt (Nat.lt_of_lt_of_le (Heap.lt_size e) I.ok.above))).trans e1⟩
 ·by_cases hj:j=i
  ·subst hj;rw [List.getElem?_set_self hiσ] at e2;cases e2
  ·rw [List.getElem?_set_ne (Ne.symm hj)] at e2;obtain ⟨u',r',q⟩:=hl j y v' e1 e2 e3;refine ⟨u',r',?_⟩
   rcases q with ⟨k,e⟩|⟨k,c,e,z⟩
   ·refine .inl ⟨k,?_⟩;have:y≠x:=fun e=>hj (n5 hN e1 (e▸hi))
    rw [hm m hn0 y this];exact e
   ·exact .inr ⟨k,c,e,z.sameBut hs (I.cne y c e)⟩
 ·obtain ⟨w',z⟩:=I.cell y c e;exact ⟨w',z.sameBut hs (I.cne y c e)⟩
 ·obtain ⟨e,n,ne,nf,d⟩:=I.pin p hp;exact ⟨(hs.2 p.1 ne).trans e,n,ne,nf,d⟩
 ·refine I.hok.keepT fun b u hb q=>(hs.2 b fun z=>?_).trans q
  rw [z] at hb;exact hb I.free
theorem LP {h:Heap} {a:Addr} {m m':Str→Option Value} (x:h.Ns a m) (y:h.Ns a m'):m=m':=by
 obtain ⟨o,es,ep,ho,hd,_,hf⟩:=x;obtain ⟨o',es',ep',ho',hd',_,hf'⟩:=y;rw [ho] at ho';cases ho'
 rw [hd] at hd';cases hd'
 funext n;rw [← hf n,← hf' n]
theorem iO {A:Around} {E:Value→Shared→Prop} {i:Nat} {x:Str} {pos:Pos} {Q:Unit→Shared→Prop} (I:Inv X pins σ H s) (hN:X.N.Nodup) (hi:X.N[i]?=some x) (hx:X.env.scope.names.lookup x=some .local)
  (h:∀s',Inv X pins (σ.set i none) H s'→Q () s'):wpAny (model X.prog X.w) A (do bindName X.env x .none;unbindBehindTheSuite X.env x pos) Q E s:=by
 have hp:(X.env.scope.kind == .class||(X.env.scope.kind == .module&&X.env.locals != X.env.globals))=false:=by rw [I.ok.kind];rfl
 obtain ⟨m,hn,_⟩:=id I.loc;refine wpAny_bind (wpAny_bindName (wpAny_storeName_local hx hn (fun h₁ hn₁ hs₁=>?_) hp));unfold unbindBehindTheSuite;refine wpAny_onRaise ?_;unfold unbindName;refine wpAny_bind (wpAny_point (wpAny_bind ?_));unfold deleteName;have hl:X.env.kindOf x=some .local:=hx;simp only [hl,hp];rw [if_neg (by decide)];refine wpAny_bind (wpAny_nsDel_keeps hn₁ fun h₂ v hn₂ hs₂=>?_);simp only [if_true,Option.isSome_some,Bool.not_true,Bool.false_eq_true,if_false];refine wpAny_pure (wpAny_point (h _ ?_));exact I.unset hN hi (fun m0 h0 y hy=>by rw [LP h0 hn];simp [hy]) hn₂ (hs₁.trans hs₂)
theorem Inv.track {a:Addr} {o:HO} (I:Inv X pins σ H s) (ha:H a=none) (ap:AL X pins a) (new:ObjOk X.prog X.w (upd H a o) s.heap a o):Inv X pins σ (upd H a o) s:=by
 obtain ⟨n0,nl,nc,np⟩:=ap;refine ⟨I.ok,I.os,I.bare,⟨I.base.keep,I.base.slot,fun b u q n hx=>?_,I.base.there,fun b xs q=>?_,fun b u xs q=>?_,fun b ps q=>?_⟩,I.loc,I.cell,?_,fun x c e=>?_,fun p hp=>?_,fun b u e=>?_,I.len⟩
 ·rw [j9 (fun z=>by rw [z,n0] at q;cases q)];exact I.base.free b u q n hx
 ·have:=I.base.tups b xs q;rw [j9 (jW this ha)];exact this
 ·have:=I.base.frzs b u xs q;rw [j9 (jW this ha)];exact this
 ·obtain ⟨more,e⟩:=I.base.tbls b ps q;exact ⟨more,by rw [j9 (jW e ha)];exact e⟩
 ·rw [j9 (Ne.symm nl)];exact I.free
 ·rw [j9 (nc x c e)];exact I.freeC x c e
 ·obtain ⟨h1,h2,h3⟩:=I.pin p hp;exact ⟨h1,by rw [j9 (np p hp)];exact h2,h3⟩
 ·by_cases hb:b=a
  ·subst hb;rw [jD] at e;cases e;exact new
  ·rw [j9 hb] at e;exact (I.hok b u e).stay (fun c v _ q=>q) (fun c q=>by rw [j9 (jW q ha)];exact q) fun c xs q=>by rw [j9 (jW q ha)];exact q
end
def Z0 (a C:Addr):HO:=.ext fun h=>∃o vs,h.get? a=some o∧o.cls=.ref C∧o.data=.fields vs
def ME (K:PySem.W.Frag) (C0:Addr) (i:Nat) (tb:(St→Value→Hp→Prop)→TS) (ts:TS):TS:=fun D σ H=>∃R:St→Value→Hp→Prop,tb R D σ H∧∀σ' c H',R σ' c H'→∃C,c=.ref C∧PySem.W.exmOne K (.ref C) (.ref C0)=some true∧
 ∀a,H' a=none→ts {nx:=fun σ2 H2=>D.nx (σ2.set i none) H2,rt:=D.rt,bk:=fun σ2 H2=>D.bk (σ2.set i none) H2,ct:=fun σ2 H2=>D.ct (σ2.set i none) H2} (σ'.set i (some (.ref a))) (upd H' a (Z0 a C))
theorem IR {X:Cx} {body:List Stmt} {x n:Str} {C0:Addr} {i:Nat} {np hpos pos:Pos} {b₀:Stmt} {suite:List Stmt} {tb:(St→Value→Hp→Prop)→TS} {ts:TS} (hex:X.ex=[]) (hstk:X.stack=X.env::X.outer) (hf:X.env.frame=some X.env.locals)
  (hN:X.N.Nodup) (hi:X.N[i]?=some n) (hl:X.env.scope.names.lookup n=some .local)
  (hg:Gl X x) (hm:X.mg x=some (.ref C0)) (hb:∀pins R,eL (Q1 X pins R) R→PSs (Q1 X pins R) body (tb R)) (hs:∀e,PSs (fQ X e) (b₀::suite) ts) (hdb:(x == ("__debug__":Str))=false:=by decide) :
  PS X (.Try body [.ExceptHandler (some (.Name x np)) (some n) (b₀::suite) hpos] [] [] pos) (ME X.K C0 i tb ts):=by
 intro pins s σ H D I h;obtain ⟨R,h1,h2⟩:=h;refine wpAny_Try_except (wpAny_mono (hb pins R (HE hex) [] s σ H D I.intoTry h1) (fun f s1 q=>?_) (fun v s1 q=>?_))
 ·have q':=q.outTry;cases f with
  |next=>exact wpAny_execs_nil q'
  |brk=>exact q'
  |cont=>exact q'
  |ret u=>exact q'
 ·obtain ⟨a,C',σ',H',rfl,J,⟨B,a0,fl,ground⟩,ha,ap,r⟩:=q;obtain ⟨C,e1,hexm,h3⟩:=h2 σ' (.ref C') H' r;cases e1;have fl0:Heap.FlyingW B (X.env::X.outer) a (.ref C') a0 s1.heap:=by rw [hstk] at fl;exact fl
  have hfr:X.A.frames=some (X.env::X.outer):=by rw [← hstk];exact J.ok.frames
  refine wpAny_looks_onW hfr hf fl0 fun h4 held4 up4=>?_
  refine wpAny_landsW held4 fun h5 fl5 up5=>?_
  have J5:Inv X pins σ' H' {s1 with heap:=h5}:=J.fly hstk hf (fun b o q n z=>fl5.1 b o (ground b o q n z)) (up4.trans up5);obtain ⟨ob,hob,hobc⟩:=fl5.there;have LT:PySem.W.Looks (model X.prog X.w) h5 (typeOf (.ref a)) (.ref C'):=by
   have:PySem.W.Looks (model X.prog X.w) h5 (typeOf (.ref a)) ob.cls:=(PySem.W.Looks.ld hob).andThen .now;rw [hobc] at this;exact this
  refine wpAny_handleBy_cons (codeAny_handlers_test (d0 (J5.intoSuite (.ref a)) hg hm ?_ hdb)) (by intro q;cases q);have KI:X.K.In h5:=J5.kIn;refine (PySem.W.exm_one KI LT hexm).here ?_;refine codeAny_handlers_suite_as ?_;refine lands_againW fl5 fun h6 fl6 up6=>?_
  have J6:Inv X pins σ' H' {s1 with heap:=h6}:=J.fly hstk hf (fun b o q n z=>fl6.1 b o (ground b o q n z)) ((up4.trans up5).trans up6);obtain ⟨oe,vs,hoe,hoec,hoed,_⟩:=fl6.first;have new:ObjOk X.prog X.w (upd H' a (Z0 a C')) h6 a (Z0 a C') :=
   ⟨⟨oe,vs,hoe,hoec,hoed⟩,⟨oe,hoe⟩,fun h1 h2 ⟨o,vs,e1,e2,e3⟩ k=>⟨o,vs,k o e1,e2,e3⟩⟩
  have J7:Inv X pins σ' (upd H' a (Z0 a C')) {s1 with heap:=h6}:=J6.track ha ap new;refine fK (X:=fQ X (.ref a)) (i:=i) (v:=.ref a) (J7.intoSuite (.ref a)) hN hi (.inl hl) rfl (fun s7 J8=>?_) (.inr hl);refine wpAny_mono (hs (.ref a) pins _ _ _ _ J8 (h3 a ha)) (fun f s' q=>?_) fun _ _ z=>False.elim z
  have q':=q.outSuite J6.ok;cases f with
  |next=>obtain ⟨σ2,H2,I2,q2⟩:=q';exact iO I2 hN hi hl fun s'' I3=>⟨_,_,I3,q2⟩
  |brk=>obtain ⟨σ2,H2,I2,q2⟩:=q';exact iO I2 hN hi hl fun s'' I3=>⟨_,_,I3,q2⟩
  |cont=>obtain ⟨σ2,H2,I2,q2⟩:=q';exact iO I2 hN hi hl fun s'' I3=>⟨_,_,I3,q2⟩
  |ret u=>obtain ⟨v,σ2,H2,I2,r2,q2⟩:=q';exact iO I2 hN hi hl fun s'' I3=>⟨_,_,_,I3,r2,q2⟩
end L2
namespace L2
open PySem PySem.Spec PySem.Calls PyProof.Rows PySem.W
structure ExcAttr (K:PySem.W.Frag) (C:Addr):Prop where
 ga:PySem.W.findIn K (.ref C) "__getattribute__"=some (some (.builtin "BaseException.__getattribute__"))
 gn:PySem.W.findIn K (.ref C) "__getattr__"=some none
 ca:PySem.W.findIn K (.ref C) "__class__"=some (some (.builtin "object.__class__"))
 mo:PySem.W.mroIn K C (.type "object")=some true
 mb:PySem.W.subIn K (.ref C) (.type "BaseException")=some true
section
variable {prog:Program} {w:World} {A:Around} {E:Value→Shared→Prop} {h:Heap} {g:Array GenState} {d:Drawn} {t:Nat} {os:OsState} {a C:Addr} {o:Obj} {K:PySem.W.Frag}
open PySem.Builtin PySem.Builtin.ObjectAttr PySem.Builtin.Getset_descriptor in
theorem L9 {R:Result→Shared→Prop} {tp:Value} (X:K.In h) (Z:ExcAttr K C) (hx:h.get? a=some o) (hc:o.cls=.ref C) (hq:R (.ok (.ret (.ref C))) ⟨h,g,d,t,os⟩) :
  codeAny (model prog w) A (.call (.builtin "getset_descriptor.__get__") ⟨[.builtin "object.__class__",.ref a,tp],[]⟩) R ⟨h,g,d,t,os⟩:=by
 have L0:PySem.W.Looks (model prog w) h (typeOf (.ref a)) (.ref C):=hc▸(PySem.W.Looks.ld hx).andThen .now;have L1:=PySem.W.looks_mroIn (M:=model prog w) X Z.mo;refine codeAny_call_builtin KF.slot_gs.plain KF.entry_gs (KF.slot_gs.check _ _ _ _ _ _ _ _ KF.type_class (KF.args_gs _ _ _) ?_);unfold Builtin.«getset_descriptor.__get__» descrGet;rw [dga_obj];refine wpAny_bind (wpAny_pure ?_);unfold descrGetter descrCheckInstance descrNameAndClass isInstance;simp only [KF.owner_class]
 repeat lk
 refine ⟨Code.quiet_builtin _ (by decide +kernel),codeAny_builtin KF.entry_class ?_⟩;unfold Builtin.«object.__class__» shownTypeOf
 repeat lk
 exact hq
theorem HN {tk:Tok} {Q:Fin→Shared→Prop} (X:K.In h) (Z:ExcAttr K C) (hx:h.get? a=some o) (hc:o.cls=.ref C) (hq:Q (.done (.ret (.ref C))) ⟨h,g,d,t,os⟩) :
  wpAny (model prog w) A (Builtin.«object.__getattribute__» ⟨[.ref a,.str "__class__" tk],[]⟩) Q E ⟨h,g,d,t,os⟩:=by
 have hT5:(⟨h,g,d,t,os⟩:Shared).TypeIs (.builtin "object.__class__") "getset_descriptor":=F.typeOf_object_class;have f5:=F.typeOf_object_class;have f6:=F.slot_gs_get.lookup;have f7:=F.slot_gs_set.lookup;have L1:=PySem.W.looks_findIn (M:=model prog w) X Z.ca
 repeat (any_goals (first|assumption|(with_reducible refine wpAny_loadPart_at hx ?_;rw [hc])|with_reducible refine L1.at ?_|wp_step))
 refine L9 X Z hx hc ?_
 repeat (any_goals (first|assumption|wp_step))
theorem HP {M:Model} {nameV:Value} {Q:Unit→Shared→Prop} (X:K.In h) (Z:ExcAttr K C) (hx:h.get? a=some o) (hc:o.cls=.ref C) (hq:Q () ⟨h,g,d,t,os⟩) :
  wpAny M A (checkBuiltinCall "BaseException.__getattribute__" ⟨[.ref a,nameV],[]⟩) Q E ⟨h,g,d,t,os⟩:=by
 have hk:builtinKind "BaseException.__getattribute__"=some .slot:=by decide +kernel
 have hsplit:splitId "BaseException.__getattribute__"=some ("BaseException","__getattribute__"):=by decide +kernel
 have L1:PySem.W.Looks M h (isSubtype (.ref C) (.type "BaseException")) true:=PySem.W.looks_subIn X Z.mb;have ha:=F.args_bexc_ga (.ref a) nameV;simp only [checkBuiltinCall,hk,hsplit];refine wpAny_bind ?_
 ·unfold isInstance
  repeat (first|(with_reducible refine wpAny_loadPart_at hx ?_;rw [hc])|with_reducible refine L1.at ?_|wp_step)
  exact hq
theorem KR {tk:Tok} {R:Result→Shared→Prop} (X:K.In h) (Z:ExcAttr K C) (hx:h.get? a=some o) (hc:o.cls=.ref C) (hq:R (.ok (.ret (.ref C))) ⟨h,g,d,t,os⟩) :
  codeAny (model prog w) A (.call (.builtin "BaseException.__getattribute__") ⟨[.ref a,.str "__class__" tk],[]⟩) R ⟨h,g,d,t,os⟩ :=
 codeAny_call_builtin PySem.F.attr_ValueError.ga.plain F.entry_bexc_ga (HP X Z hx hc (HN X Z hx hc hq))
theorem NB {tk:Tok} {fill expr:Bool} {Q:Value→Shared→Prop} (X:K.In h) (Z:ExcAttr K C) (hx:h.get? a=some o) (hc:o.cls=.ref C) (hq:Q (.ref C) ⟨h,g,d,t,os⟩) :
  wpAny (model prog w) A (getAttrBy (.ref a) (.str "__class__" tk) fill expr) Q E ⟨h,g,d,t,os⟩:=by
 have f3:=PySem.F.attr_ValueError.ga.bind (.ref a);have hx0:(expr&&onTheHeap (Value.builtin "BaseException.__getattribute__"))=false:=by cases expr<;>rfl
 have hx2:(Value.builtin "BaseException.__getattribute__" == Value.builtin "object.__getattribute__")=false:=by decide +kernel
 have hx1:(onTheHeap (Value.ref C)&&Value.builtin "BaseException.__getattribute__" == Value.builtin "object.__getattribute__")=false:=by rw [hx2];rfl
 have L1:=PySem.W.looks_findIn (M:=model prog w) X Z.ga;have L2:=PySem.W.looks_findIn (M:=model prog w) X Z.gn
 repeat (any_goals (first|assumption|(with_reducible refine wpAny_loadPart_at hx ?_;rw [hc])|with_reducible refine L1.at ?_|with_reducible refine L2.at ?_|wp_step))
 refine KR X Z hx hc ?_
 repeat (any_goals (first|assumption|wp_step))
theorem KS {Q:Option Value→Shared→Prop} (X:K.In h) (Z:ExcAttr K C) (hx:h.get? a=some o) (hc:o.cls=.ref C) (hq:Q (some (.ref C)) ⟨h,g,d,t+1,os⟩) :
  wpAny (model prog w) A (getAttr? (.ref a) "__class__") Q E ⟨h,g,d,t,os⟩:=by
 unfold getAttr? getAttrBy?
 repeat (any_goals (first|assumption|with_reducible apply NB X Z hx hc|wp_step))
end
theorem uW {K:PySem.W.Frag} {a C:Addr} (Z:ExcAttr K C) (hcl:(PySem.W.clsIn K C).isSome=true):PySem.W.KitX K (.ref a) (.ref C) (fun h=>∃o vs,h.get? a=some o∧o.cls=.ref C∧o.data=.fields vs) where
 ty:=fun M h _ ⟨o,_,h1,h2,_⟩=>h2▸(PySem.W.Looks.ld h1).andThen .now
 it:=fun _ _ X _=>by
  unfold PySem.W.clsIn at hcl
  split at hcl
  ·rename_i c' d' cd' sl' ho;intro A' Q' E' s' k q;unfold isType loadHead;exact wpAny_bind (wpAny_loadPart (k _ _ (X _ _ ho)) (wpAny_pure q))
  ·cases hcl
 ne:=fun h tp dd its n sl X htp=>by
  refine Bool.eq_false_iff.mpr fun q=>?_
  have e:C=tp:=Value.ref.inj (beq_iff_eq.mp q);subst e;unfold PySem.W.clsIn at hcl
  split at hcl
  ·rename_i c' d' cd' sl' ho;have z:=(X _ _ ho).symm.trans htp;cases z
  ·cases hcl
 ca:=fun {_ _ _ _ _ s} X ⟨o,_,h1,h2,_⟩ k=>by
  obtain ⟨h,g,d,t,os⟩:=s;exact KS X Z h1 h2 k
section
variable {X:Cx}
def OK (K:PySem.W.Frag):List V→Hp→VK→Prop:=fun xs H Q=>∃(a C:Addr) (c:V) (b:Bool),xs=[.ref a,c]∧H a=some (Z0 a C)∧ExcAttr K C∧(PySem.W.clsIn K C).isSome=true∧
 ((∃u,BC c=some u∧PySem.W.kitOne K (.ref C) u=some b)∨∃(p:Addr) (ds:List Addr),c=.ref p∧H p=some (.tup (ds.map V.ref))∧PySem.W.kitAny K (.ref C) (ds.map Value.ref)=some b)∧Q (.bl b) H
theorem sI:∀{ds:List Addr} {us:List Value},Vals (ds.map V.ref) us→us=ds.map Value.ref
 |[],_,r=>by cases r;rfl
 |d::ds,_,r=>by
  cases r with
  |cons h t =>
   cases (show _=Value.ref d from h);rw [sI t];rfl
theorem dX {K:PySem.W.Frag} (hK:X.K=K:=by rfl):yK X (.builtin "isinstance") (OK K):=by
 subst hK;intro pins s σ H xs us Q I r h;obtain ⟨a,C,c,b,rfl,ha,Z,hcl,hc,q⟩:=h;obtain ⟨u1,u2,rfl,r1,r2⟩:=gG r;cases (show u1=Value.ref a from r1);obtain ⟨p,_,_⟩:=(show ObjOk X.prog X.w H s.heap a (Z0 a C) from I.hok a _ ha)
 rcases hc with ⟨u,hu,e⟩|⟨tp,ds,rfl,ht,e⟩
 ·have e2:u2=u:=by
   cases c with
   |ty n=>cases (show u2=Value.type n from r2);exact Option.some.inj hu
   |ref a=>cases (show u2=Value.ref a from r2);exact Option.some.inj hu
   |_=>cases hu
  subst e2;exact PySem.W.kia_one (uW Z hcl) I.kIn p e (fun z=>nomatch z) fun tk=>⟨.bl b,H,I.tok _,rfl,q⟩
 ·cases (show u2=Value.ref tp from r2);obtain ⟨_,its,rv,ob,h1,h2,n,h3⟩:=(show ObjOk X.prog X.w H s.heap tp (.tup (ds.map V.ref)) from I.hok tp _ ht);have hi:=sI rv;subst hi;obtain ⟨oc,od,odt,osl⟩:=ob
  dsimp only at h2 h3
  subst h2 h3;exact PySem.W.kia_tup (uW Z hcl) I.kIn p h1 e (fun z=>nomatch z) fun tk=>⟨.bl b,H,I.tok _,rfl,q⟩
end
end L2
namespace L2
open PySem PySem.Spec PyProof.Rows
end L2
namespace L2
open PySem PySem.Spec PyProof.Rows
section
variable {X:Cx} {x:Str} {C:Addr} {pos p:Pos} {e:Expr} {es:List Expr} {t:TA}
end
end L2
namespace L2
open PySem PySem.Spec PyProof.Rows
section
variable {X:Cx}
end
end L2
namespace L2
open PySem PySem.Spec PyProof.Rows
section
variable {X:Cx} {R:St→Value→Hp→Prop} {k k':Nat} {x m:Str} {C:Addr} {ps:List Str} {sp:Sp} {p pos apos:Pos} {o e:Expr} {es:List Expr} {ta:TE} {t:TA}
theorem o3 {CX:zV} {P:Program} {w:World} {K:PySem.W.Frag} {mg:Str→Option Value} {base:Heap} {N:List Str} {qual:Str} {scope:Scope} {f:Addr} {cd:Value} {A:Around} {outer:List Env} {s:Shared} {H:Hp} {E:XK} :
  PassesOwn (model (kD CX P w K mg base N qual scope f cd A outer s H E).prog (kD CX P w K mg base N qual scope f cd A outer s H E).w) (kD CX P w K mg base N qual scope f cd A outer s H E).A (kD CX P w K mg base N qual scope f cd A outer s H E).env (kD CX P w K mg base N qual scope f cd A outer s H E).xe:=by
 intro e s' h;exact PassesOwn.leaving (Q₁:=fun e s''=>CX outer H s E e s'') (E₁:=fun e' s''=>CX outer H s E e' s'') e s' h
end
end L2
namespace L2
open PySem PySem.Spec PyProof.Rows
section
variable {κ:Type} [DecidableEq κ]
theorem KV.length {kvs:List (κ×V)} {vs:List (κ×Value)} (r:KV kvs vs):kvs.length=vs.length:=Paired.length r
end
section
variable {P:Program} {w:World} {H:Hp} {h:Heap} {a:Addr}
end
section
variable {X:Cx} {pins:List (Addr×Obj)} {σ:St} {H:Hp} {s:Shared} {a:Addr} {y v:V} {u r:Value} {o:Option V} {A:Around} {E:Value→Shared→Prop}
end
section
variable {X:Cx} {pins:List (Addr×Obj)} {σ:St} {H:Hp} {s:Shared} {a:Addr} {kvs:List (vZ×V)} {k:vZ} {u:Value} {A:Around} {E:Value→Shared→Prop}
end
section
variable {X:Cx} {o i e value:Expr} {pos pos' tpos:Pos} {td ty tv:TE}
end
section
variable {X:Cx} {pos:Pos}
end
end L2
namespace L2
open PySem PySem.Spec PyProof.Rows
section
variable {X:Cx} {tg:Expr}
end
section
variable {X:Cx}
def LF:V→List V→Hp→VK→Prop:=fun x vs H Q=>∃(l:Addr) (xs:List V) (k:Nat) (y:V),x=.ref l∧vs=[.int (k:Int),y]∧H l=some (.lst xs)∧k≤xs.length∧xs.length≤1000∧Q .non (upd H l (.lst (xs.take k++y::xs.drop k)))
theorem GU:Z5 X "list.insert" LF:=by
 intro pins s σ H x vs v us Q I rx rv h;obtain ⟨l,xs,k,y,rfl,rfl,hH,h1,h2,q⟩:=h;cases rx;obtain ⟨u1,u2,rfl,⟨t,rfl⟩,ru⟩:=gG rv;obtain ⟨z,its,n,r,hl,e⟩:=I.lstM hH;have hs:xs.length<sizeLine:=vF h2;have hf:¬(!Builtin.List.listFitsIndex (k:Int))=true:=by
  have e:Builtin.List.listFitsIndex (k:Int)=true:=by
   show (decide (-(2 ^ 63:Int)≤(k:Int))&&decide ((k:Int)<2 ^ 63))=true;rw [decide_eq_true (by omega),decide_eq_true (by omega)];rfl
  rw [e];decide
 have hsz:its.toArray.size≤sizeLine:=by rw [List.size_toArray];omega
 generalize hx:(k:Int)=x at hf ⊢;refine call_meets F.slot_list_insert ⟨_,e,rfl⟩ F.entry_list_insert (F.args_list_insert_3 _ _ _) (PySem.AutoSeq1.list_insert_list_int_val_1 l its.toArray n x t u2 hf hsz) ⟨e,?_⟩;refine ⟨.non,_,I.lset (its':=its.take k++u2::its.drop k) hH e ?_ ((Vals.take k r).append (.cons ru (Vals.drop k r))) ?_,rfl,q⟩
 ·show (its.toArray.extract 0 (if x<0 then (x+(its.toArray.size:Int)).toNat else min x.toNat its.toArray.size)).push u2++its.toArray.extract (if x<0 then (x+(its.toArray.size:Int)).toNat else min x.toNat its.toArray.size)=_;have ek:(if x<0 then (x+(its.toArray.size:Int)).toNat else min x.toNat its.toArray.size)=k:=by
   rw [if_neg (by omega),List.size_toArray];omega
  rw [ek];exact PySem.W.kl_ins_eq its k u2
 ·rw [List.length_append,List.length_cons,List.length_take,List.length_drop];omega
end
end L2
namespace L2
open PySem PySem.Spec PyProof.Rows
inductive Kd where
 |plain|basin|pump
structure MeK (P:Program) (w:World) (K:PySem.W.Frag) (mg:Str→Option Value) (base:Heap) (k:Nat) (cs:Kd→Addr) (m:Str) (ps:List Str) (ss:Kd→Sp):Prop where
 ex:∀kd,MeD P w K mg base k (cs kd) m ps (ss kd)
def MF (cs:Kd→Addr) (m:Str) (ss:Kd→Sp) (ta:TE) (t:TA):TE:=fun σ H Q=>ta σ H fun x H1=>∃(kd:Kd) (a dx:Addr) (fs:List (Str×V)),x=.ref a∧H1 a=some (.ins (cs kd) dx fs)∧fs.lookup m=none∧
 t σ H1 fun vs H2=>ss kd (x::vs) H2 Q E0
section
variable {X:Cx} {k k':Nat} {x m:Str} {cs:Kd→Addr} {ps:List Str} {ss:Kd→Sp} {p pos apos:Pos} {o e:Expr} {es:List Expr} {ta:TE} {t:TA}
theorem gC {pl:Sem Bool} (M:MeK X.prog X.w X.K X.mg X.base k cs m ps ss) (hr:Room k' X.A) (ho:PE X o ta) (hk:k≤k':=by decide)
  (ht:eval (.Call (.Attribute o m apos) [] [] pos) X.env=(do
   let ov ← eval o X.env
   standAt apos.atName
   let (f,first) ← holding [ov] (getMethod ov m pl)
   callWith pos f first (backTo pos (starEach [] X.env)) (backToKw pos (keywordEach [] X.env))):=by rfl) :
  PE X (.Call (.Attribute o m apos) [] [] pos) (MF cs m ss ta pE):=by
 intro pins s σ H Q I h;refine PySem.W.methodCall_KW (pl:=pl) (jQ (ho pins s σ H _ I h) fun u s1 ⟨x,H1,I1,rx,kd,a,dx,fs,ex,ea,l,q⟩=>?_) ht;obtain ⟨c,f,fd,hm,G,b⟩:=(M.ex kd).ex;subst ex;obtain rfl:u=Value.ref a:=rx;refine FL I1 ea c hm l ?_;exact PySem.W.callWith_K0 (first:=[.ref a]) I1.kIn hm.kp (o0 (us:=[.ref a]) (vs:=[.ref a]) (dvs:=[]) G (hr.mono hk) b .nil lP I1 (.cons rfl .nil) q)
end
end L2
namespace L2
open PySem PySem.Spec PyProof.Rows
def Q7 (z:Str):It:=⟨fun i _=>i<z.cps.size,fun i H v H'=>H'=H∧∃c,z.cps[i]?=some c∧v=.str ⟨#[c]⟩,fun i _=>i=z.cps.size⟩
theorem sK {P:Program} {w:World} {K:PySem.W.Frag} {tg:Expr} (it:Addr) (z:Str) (t:Tok) (T:String)
  (W:∀A:Around,A.handled=none→Walks P w A it [it] [it] z.cps.size (SignAt z) (fun i h=>h.IsStrIter it T z t i))
  (hn:["enumerate","zip","dict_itemiterator","dict_reverseitemiterator","odict_iterator","itertools.zip_longest","itertools.pairwise"].contains T=false)
  (hself:∀(A:Around) (i:Nat) (s:Shared) (Q:Value→Shared→Prop) (E:Value→Shared→Prop),s.heap.IsStrIter it T z t i→Q (.ref it) s→wpAny (model P w) A (pyIter (.ref it)) Q E s) :
  Turn P w K tg (Q7 z) [it] it (fun i h=>h.IsStrIter it T z t i) where
 mem:=by simp
 obj:=fun i h st b hb=>by
  have e:b=it:=by simpa using hb
  subst e;obtain ⟨o,ho,_,hd⟩:=st;exact ⟨o,ho,fun v q=>by rw [hd] at q;cases q⟩
 keep:=fun i h h' st k=>by
  obtain ⟨o,ho,r⟩:=st;exact ⟨o,k it (by simp) o ho,r⟩
 item:=by
  intro X hP hw hK hc i pins s σ H E I hf st hg;subst hP hw hK;obtain ⟨f0,f1,f2,f3,f4,f5⟩:=hf it (by simp);refine (W X.A (I.ok.hd hc)).item i s _ _ hg st fun v h' tk hv st' kk=>?_
  obtain ⟨c,u,hcx,rfl⟩:=hv;have I1:Inv X pins σ H {s with heap:=h',toks:=tk}:=I.turned (fun b o hb e=>kk b o (by simpa using hb) e) f0 f1 f3 f4 f5;have st2:=st';obtain ⟨o,ho,hcl,hd⟩:=st2;exact ⟨_,rfl,gL (s:={s with heap:=h',toks:=tk}) (n:=T) ho hcl hd hn ⟨.str ⟨#[c]⟩,H,I1,⟨u,rfl⟩,⟨rfl,c,hcx,rfl⟩,st',fun b hb=>(hf b hb).1⟩⟩
 done:=by
  intro X hP hw hK hc i pins s σ H E I hf st hg;subst hP hw hK;obtain ⟨f0,f1,f2,f3,f4,f5⟩:=hf it (by simp);have e:i=z.cps.size:=hg;subst e;exact (W X.A (I.ok.hd hc)).done s _ _ st fun h' tk eb=>⟨rfl,I.turned (fun b o hb e=>eb b o (by simpa using hb) e) f0 f1 f3 f4 f5⟩
 self:=fun A i s Q E st h=>hself A i s Q E st h
section
variable {X:Cx} {tg:Expr}
def OQ (tl:TE):TI:=fun σ H R=>tl σ H fun x H1=>∃z:Str,x=.str z∧R (Q7 z) H1
theorem lM {l:Expr} {tl:TE} (hl:PE X l tl):PI X tg l (OQ tl):=by
 intro pins s σ H R I h;refine jQ (hl pins s σ H _ I h) fun v s1 ⟨x,H1,I1,r1,q1⟩=>?_
 obtain ⟨z,e,q⟩:=q1;subst e;obtain ⟨t,rfl⟩:=r1;have fin:∀(o:Obj) (T:String) (tn:Nat→Heap→Prop),Turn X.prog X.w X.K tg (Q7 z) [s1.heap.objs.size] s1.heap.objs.size tn→tn 0 (s1.heap.push o)→mC X pins σ tg R (.ref s1.heap.objs.size) {s1 with heap:=s1.heap.push o}:=by
  intro o T tn tu h0;refine ⟨s1.heap.objs.size,[s1.heap.objs.size],tn,_,H1,rfl,I1.kept (t':=s1.toks) fun b o e=>Heap.get?_push_of_some _ e,tu,h0,fun b hb=>?_,q⟩;have e:b=s1.heap.objs.size:=by simpa using hb
  subst e;exact I1.fpOk (Nat.le_refl _) (I1.hok.fresh (Nat.le_refl _))
 cases ha:z.cps.all (· < 128)
 ·exact wpAny_pyIter_wide ha (fin _ "str_iterator" _ (sK _ z t "str_iterator" (fun A hA=>Walks.strWide hA _ z t) (by decide) (fun A i s Q E st h=>wpAny_pyIter_striter_wide st h)) ⟨_,Heap.get?_push_size _ rfl,rfl,rfl⟩)
 ·exact wpAny_pyIter_ascii ha (fin _ "str_ascii_iterator" _ (sK _ z t "str_ascii_iterator" (fun A hA=>Walks.strAscii hA _ z t) (by decide) (fun A i s Q E st h=>wpAny_pyIter_striter_ascii st h)) ⟨_,Heap.get?_push_size _ rfl,rfl,rfl⟩)
end
theorem oU {z:Str} {g:TG} {tb:TS} {D:Ends} {σ:St} {H:Hp} (Pv:Nat→St→Hp→Prop) (h0:Pv 0 σ H)
  (hs:∀i c σ H,z.cps[i]?=some c→Pv i σ H→g (.str ⟨#[c]⟩) σ H fun σ2 H2=>tb {D with nx:=Pv (i+1),ct:=Pv (i+1),bk:=D.nx} σ2 H2) (hd:∀σ H,Pv z.cps.size σ H→D.nx σ H) :
  ∃W:Nat→Nat→St→Hp→Prop,(∃m,W 0 m σ H)∧∀i m σ H,W i m σ H→
   ((Q7 z).stop i H∧D.nx σ H)∨((Q7 z).go i H∧∃N:St→Hp→Prop,(∀σ' H',N σ' H'→∃m',m'<m∧W (i+1) m' σ' H')∧∀x H',(Q7 z).yld i H x H'→g x σ H' fun σ2 H2=>tb {D with nx:=N,ct:=N,bk:=D.nx} σ2 H2):=by
 refine ⟨fun i m σ H=>m=z.cps.size - i∧i≤z.cps.size∧Pv i σ H,⟨_,rfl,Nat.zero_le _,h0⟩,?_⟩;rintro i m σ H ⟨rfl,hi,p⟩
 by_cases hlt:i<z.cps.size
 ·refine .inr ⟨hlt,Pv (i+1),fun σ' H' p'=>⟨z.cps.size - (i+1),by omega,rfl,hlt,p'⟩,fun x H' y=>?_⟩;obtain ⟨e,c,hc,y⟩:=y;subst e y;exact hs i c σ _ hc p
 ·have e:i=z.cps.size:=by omega
  subst e;exact .inl ⟨rfl,hd σ H p⟩
theorem FV {z:Str} {D:Addr} {g:TG} {tc:TT} {te:TE} {σ₀:St} {H:Hp} {Q:Hp→Prop} (Pv:Nat→St→Hp→Prop) (h0:Pv 0 σ₀ (upd H D (.lst [])))
  (hs:∀i c σ H,z.cps[i]?=some c→Pv i σ H→g (.str ⟨#[c]⟩) σ H fun σ2 H3=>tc σ2 H3 fun b H4=>if b=true then te σ2 H4 fun v H5=>∃ys,H5 D=some (.lst ys)∧ys.length<sizeLine∧Pv (i+1) σ2 (upd H5 D (.lst (ys++[v]))) else Pv (i+1) σ2 H4)
  (hd:∀σ H,Pv z.cps.size σ H→Q H):JE D (Q7 z) g tc te σ₀ H Q:=by
 refine ⟨fun i m σ H=>m=z.cps.size - i∧i≤z.cps.size∧Pv i σ H,⟨_,rfl,Nat.zero_le _,h0⟩,?_⟩;rintro i m σ H ⟨rfl,hi,p⟩
 by_cases hlt:i<z.cps.size
 ·refine .inr ⟨hlt,Pv (i+1),fun σ' H' p'=>⟨z.cps.size - (i+1),by omega,rfl,hlt,p'⟩,fun x H' y=>?_⟩;obtain ⟨e,c,hc,y⟩:=y;subst e y;exact hs i c σ _ hc p
 ·have e:i=z.cps.size:=by omega
  subst e;exact .inl ⟨rfl,hd σ H p⟩
theorem HV {z:Str} {D:Addr} {tc:TT} {te:TE} {caps:St} {H:Hp} {Q:Hp→Prop} (R:Nat→List V→Hp→Prop) (hD:H D=none) (h0:R 0 [] (upd H D (.lst [])))
  (hs:∀i c ys Hi,z.cps[i]?=some c→ys.length≤i→Same H Hi→Hi D=some (.lst ys)→R i ys Hi→tc (some (.str ⟨#[c]⟩)::caps) Hi fun b H4=>if b=true then te (some (.str ⟨#[c]⟩)::caps) H4 fun v H5=>∃zs,H5 D=some (.lst zs)∧zs.length<sizeLine∧yZ H D caps R (i+1) (some (.str ⟨#[c]⟩)::caps) (upd H5 D (.lst (zs++[v])))
   else yZ H D caps R (i+1) (some (.str ⟨#[c]⟩)::caps) H4)
  (hd:∀ys Hf,Same H Hf→Hf D=some (.lst ys)→ys.length≤z.cps.size→R z.cps.size ys Hf→Q Hf):JE D (Q7 z) (eG 0) tc te (none::caps) H Q:=by
 refine FV (yZ H D caps R) ⟨[],none,rfl,qL hD (Same.refl H),jD,Nat.le_refl _,h0⟩ ?_ ?_
 ·rintro i c σ Hi hi ⟨ys,c',rfl,s,hY,hl,r⟩;exact hs i c ys Hi hi hl s hY r
 ·rintro σ Hf ⟨ys,c,rfl,s,hY,hl,r⟩;exact hd ys Hf s hY hl r
section
variable {X:Cx}
def OI:V→Option Int→Option Int→Hp→VK→Prop:=fun x lo hi H Q=>∃z:Str,x=.str z∧z.length≤sizeLine∧Q (.str (Txt.slice z lo hi)) H
theorem lL:eY X OI:=by
 intro pins s σ H x v vl vu lo hi sl Q I rx hs pl pu h;obtain ⟨z,rfl,hz,q⟩:=h;obtain ⟨t,rfl⟩:=rx;refine ⟨"str",_,F.slot_str_getitem.lookup,typeIs_str _ _ _,?_⟩;have fin:∀(l u:Option (Int×Tok)),l.map (·.1)=lo→u.map (·.1)=hi→s.heap.IsSlice sl l u none→wpAny (model X.prog X.w) X.A (getItem (.str z t) (.ref sl)) (EP X pins σ Q) X.xe s:=by
  intro l u e1 e2 hsl;subst e1 e2;exact wpAny_getItem_str_slice hsl rfl (post_val_or_str ⟨Nat.le_trans (Txt.slice_le z _ _) hz,fun t' k=>⟨.str (Txt.slice z (l.map (·.1)) (u.map (·.1))),H,I.tok _,⟨t',rfl⟩,q⟩⟩)
 obtain ⟨o,ho,hc,hd⟩:=hs;cases pl with
 |none =>
  cases pu with
  |none=>exact fin none none rfl rfl ⟨o,ho,hc,hd⟩
  |int j tj=>exact fin none (some (j,tj)) rfl rfl ⟨o,ho,hc,hd⟩
 |int i ti =>
  cases pu with
  |none=>exact fin (some (i,ti)) none rfl rfl ⟨o,ho,hc,hd⟩
  |int j tj=>exact fin (some (i,ti)) (some (j,tj)) rfl rfl ⟨o,ho,hc,hd⟩
end
end L2
namespace L2
open PySem PySem.Spec PyProof.Rows
section
variable {X:Cx} {K:PySem.W.Frag} {w:World} {o i:Expr} {pos:Pos} {td ty:TE}
end
end L2
namespace L2
open PySem PySem.Spec PyProof.Rows
section
variable {X:Cx} {pins:List (Addr×Obj)} {σ:St} {H:Hp} {s:Shared} {A:Around}
end
section
variable {X:Cx}
def MP:V→List V→Hp→VK→Prop:=fun x vs H Q=>∃(l:Addr) (xs:List V) (y:V) (j:Nat),x=.ref l∧vs=[y]∧H l=some (.lst xs)∧y6 y=true∧xs.all y6=true∧j<xs.length∧j≤1000∧yX (xs.getD j .non) y=true∧(∀i,i<j→yX (xs.getD i .non) y=false)∧Q (.int (j:Int)) H
theorem ZS:Z5 X "list.index" MP:=by
 intro pins s σ H x vs v us Q I rx rv h;obtain ⟨l,xs,y,j,rfl,rfl,hH,fy,fx,hj,hj2,he,hno,q⟩:=h;cases rx;obtain ⟨u,rfl,ru⟩:=rv.one;obtain ⟨z,its,n,r,hl,e⟩:=I.lstM hH;have get:∀(m:Nat) (hm:m<its.toArray.size),yM y its.toArray[m]=yX (xs.getD m .non) y:=fun m hm=>o5 (mY r hm) (HM fx (by rw [hl];simpa using hm))
 have hjs:j<its.toArray.size:=by rw [List.size_toArray,← hl];exact hj
 refine call_meets F.slot_list_index ⟨_,e,rfl⟩ F.entry_list_index (F.args_list_index_2 _ _) (SeqAt.list_indexAt l its.toArray n none #[] u (yM y) j hjs (by omega) (by rw [get j hjs];exact he) (fun m hm hlt=>by rw [get m hm];exact hno m hlt)) ⟨e,fun w hw=>dU ru fy r fx w (by simpa using hw),⟨.int (j:Int),H,I.tok _,⟨_,rfl⟩,q⟩⟩
end
end L2
namespace L2
open PySem PySem.Spec PyProof.Rows
end L2
namespace L2
open PySem PySem.Spec PyProof.Rows
end L2
namespace L2
open PySem PySem.Spec PyProof.Rows
theorem EE {X:Cx} (K:PySem.W.Frag) (h:X.K=K:=by rfl):yK X (.type "tuple") (fun xs H Q=>∃p ys,xs=[.ref p]∧((SqL K H p ys∧∀l,H l=none→Q (.ref l) (upd H l (.tup ys)))∨(SqT K H p ys∧Q (.ref p) H))):=by subst h;exact EG
end L2
namespace L2
open PySem PySem.Spec PyProof.Rows
section
variable {X:Cx}
theorem JR:yK X (.type "int") (fun xs H Q=>∃(z:Str) (n:Int),xs=[.str z]∧z.length≤640∧PySem.intText? z=some n∧Q (.int n) H):=by
 intro pins s σ H xs us Q I r h;obtain ⟨z,n,rfl,hl,hn,q⟩:=h;obtain ⟨u,rfl,t,rfl⟩:=ZY r;exact PySem.W.KIN.call_text hn hl ⟨.int n,H,I.tok _,⟨_,rfl⟩,q⟩
theorem fJ:yK X (.type "str") (fun xs H Q=>∃n:Int,xs=[.int n]∧n.natAbs.log2<1920∧Q (.str (Str.ofString (toString n))) H):=by
 intro pins s σ H xs us Q I r h;obtain ⟨n,rfl,hl,q⟩:=h;obtain ⟨u,rfl,t,rfl⟩:=ZY r;exact P.str_of_int hl ⟨.str (Str.ofString (toString n)),H,I.tok _,⟨_,rfl⟩,q⟩
theorem IU {c:Const} {k:Nat} {pos:Pos} {es:List Expr} {te:TE} {t:TA} (ha:PE X (.Constant c k pos) te) (hr:PA X es t):PA X (.Constant c k pos::es) (o8 te t):=jA ha hr rfl
def gH:Expr→Option Str
 |.Constant (.str z) _ _=>some z
 |_=>none
theorem IG {e:Expr} {z:Str} (h:gH e=some z):∃k p,e=.Constant (.str z) k p:=by
 unfold gH at h
 split at h
 ·cases h;exact ⟨_,_,rfl⟩
 ·cases h
def oX:List Expr→List Str
 |[]=>[]
 |e::r=>(gH e).getD ""::oX r
def lN:List Expr→Bool
 |[]=>true
 |e::r=>(gH e).isSome&&lN r
def o7:List Str→TA
 |[]=>pE
 |z::r=>o8 (tC (.str z)) (o7 r)
theorem wZ:∀(es:List Expr),lN es=true→PA X es (o7 (oX es))
 |[],_=>jC
 |e::r,h=>by
  have h:((gH e).isSome&&lN r)=true:=h;rw [Bool.and_eq_true] at h;obtain ⟨z,hz⟩:=Option.isSome_iff_exists.mp h.1;obtain ⟨k,p,rfl⟩:=IG hz;exact IU jJ (wZ r h.2)
theorem tX:∀(zs:List Str) (σ:St) (H:Hp) (Q:List V→Hp→Prop),Q (zs.map V.str) H→o7 zs σ H Q
 |[],_,_,_,h=>h
 |z::r,σ,H,Q,h=>tX r σ H (fun xs H2=>Q (.str z::xs) H2) h
def ND (zs:List Str):TE:=fun _ H Q=>zs.length≤sizeLine∧∀p,H p=none→Q (.ref p) (upd H p (.lst (zs.map V.str)))
theorem LI {es:List Expr} {pos:Pos} (h:lN es=true):PE X (.List es pos) (ND (oX es)):=fun pins s σ H Q I hq =>
 kC (wZ es h) pins s σ H Q I (tX _ σ H _ ⟨by rw [List.length_map];exact hq.1,hq.2⟩)
theorem NA (c:Nat):(!(Builtin.Str.occurrences ("0123456789":Str) ⟨#[c]⟩ 0 ("0123456789":Str).length 1).isEmpty)=(decide (48≤c)&&decide (c≤57)):=by
 rw [PySem.StrLaws.found_one,show ("0123456789":Str).cps.toList=[48,49,50,51,52,53,54,55,56,57] by decide +kernel];rw [← Bool.decide_and];refine decide_eq_decide.mpr ⟨fun h=>?_,fun h=>?_⟩
 ·simp only [List.mem_cons,List.mem_nil_iff,or_false] at h;omega
 ·simp only [List.mem_cons,List.mem_nil_iff,or_false];omega
end
end L2
namespace L2
open PySem PySem.Spec PyProof.Rows
end L2
namespace L2
open PySem PySem.Spec PyProof.Rows
section
variable {X:Cx}
theorem rO:∀{zs:List Str} {us:List Value},Vals (zs.map V.str) us→∃l:List (Str×Tok),us=strValues l∧l.map (·.1)=zs
 |[],us,r=>by rw [List.map_nil] at r;cases r;exact ⟨[],rfl,rfl⟩
 |z::r,us,h=>by
  rw [List.map_cons] at h;cases h with
  |@cons a b as bs ha ht =>
   obtain ⟨l,rfl,hl⟩:=rO ht;obtain ⟨t,rfl⟩:=(show ∃t,b=Value.str z t from ha);exact ⟨(z,t)::l,rfl,by rw [List.map_cons,hl]⟩
theorem rP:∀(l:List (Str×Tok)),Vals ((l.map (·.1)).map V.str) (strValues l)
 |[]=>.nil
 |p::r=>.cons ⟨p.2,rfl⟩ (rP r)
def ZU (zs:List Str):Nat:=(zs.map (·.length)).sum
def AF (K:PySem.W.Frag):V→List V→Hp→VK→Prop:=fun x vs H Q=>∃(z:Str) (l:Addr) (zs:List Str),x=.str z∧vs=[.ref l]∧SqL K H l (zs.map V.str)∧z.length≤16∧ZU zs+zs.length≤1048576∧Q (.str (Str.join z zs)) H
theorem fU:Z5 X "str.join" (AF X.K):=by
 intro pins s σ H x vs v us Q I rx rv h;obtain ⟨z,l,zs,rfl,rfl,hl,hz,hw,q⟩:=h;obtain ⟨t,rfl⟩:=rx;obtain ⟨u,rfl,ru⟩:=rv.one;cases ru;obtain ⟨its,r,pl,_⟩:=I.list hl;obtain ⟨l',rfl,hl'⟩:=rO r;refine SC.join (l:=l') (texts:=zs) pl.isList hl' (joinOk_of_weight hw hz) fun t' k=>⟨.str (Str.join z zs),H,I.tok _,?_,q⟩
 exact ⟨t',by show Value.str (Txt.join z zs) t'=_;unfold Txt.join;rw [StrLaws.glued_eq_join]⟩
def MN:V→List V→Hp→VK→Prop:=fun x vs H Q=>∃(z y:Str),x=.str z∧vs=[.str y]∧(y.length == 0)=false∧z.length≤1000000∧∀l,H l=none→Q (.ref l) (upd H l (.lst ((Txt.split z y).map V.str)))
theorem m7 (x y:Str) (hy:1≤y.length):(Txt.split x y).length≤x.length+1:=by
 have:=PyProof.Rows.split_weight x y hy;omega
theorem fN:Z5 X "str.split" MN:=by
 intro pins s σ H x vs v us Q I rx rv h;obtain ⟨z,y,rfl,rfl,hy,hz,q⟩:=h;obtain ⟨t,rfl⟩:=rx;obtain ⟨u,rfl,t',rfl⟩:=rv.one;have hy1:1≤y.length:=by
  have:=beq_eq_false_iff_ne.mp hy;omega
 have hsl:=m7 z y hy1;have hzs:z.length+1≤sizeLine:=by rw [sizeLine_eq];omega
 have fin:∀(l:List (Str×Tok)) (tk:Nat),l.map (·.1)=Txt.split z y→EP X pins σ Q (.ref s.heap.objs.size) {s with toks:=tk,heap:=s.heap.push {cls:=.type "list",data:=.seq (strValues l).toArray}}:=fun l tk e=>by
  have hv:=rP l;rw [e] at hv;exact ⟨.ref s.heap.objs.size,_,I.laid (t':=tk) (o:=.lst ((Txt.split z y).map V.str)) (fun _ _ q=>Heap.get?_push_of_some _ q) (Nat.le_refl _) ⟨by rw [List.length_map];omega,strValues l,0,hv,Heap.get?_push_size _ rfl⟩,rfl,q _ (I.hok.fresh (Nat.le_refl _))⟩
 cases h1:(decide (z.length<y.length)||decide (Builtin.Str.strKind z<Builtin.Str.strKind y))
 ·cases hf:(Builtin.Str.occurrences z y 0 z.length (z.length+1)).isEmpty
  ·have hsp:Txt.split z y=Builtin.Str.partsBetween z (Builtin.Str.occurrences z y 0 z.length (z.length+1)) y.length:=(if_neg (ne_true_of_eq_false h1)).trans (if_neg (ne_true_of_eq_false hf));refine call_meets F.slot_str_split (typeIs_str _ _ _) F.entry_str_split (F.args_str_split_2 _ _) (meets_str_split_sep z y t t' h1 hy hf (by omega) (by rw [← hsp];omega)) ?_;show wants _ _ _ {s with toks:=_,heap:=s.heap.push {cls:=.type "list",data:=.seq (strsFrom s.toks (Builtin.Str.partsBetween z (Builtin.Str.occurrences z y 0 z.length (z.length+1)) y.length)).toArray}};rw [strsFrom_eq];exact fin (numbered s.toks _) _ ((numbered_texts _ _).trans hsp.symm)
  ·exact call_meets F.slot_str_split (typeIs_str _ _ _) F.entry_str_split (F.args_str_split_2 _ _) (meets_str_split_not_found z y t t' h1 hy hf)
    (fin [(z,t)] _ ((if_neg (ne_true_of_eq_false h1)).trans (if_pos hf)).symm)
 ·exact call_meets F.slot_str_split (typeIs_str _ _ _) F.entry_str_split (F.args_str_split_2 _ _) (meets_str_split_cannot_occur z y t t' h1)
   (fin [(z,t)] _ (if_pos h1).symm)
end
end L2
namespace L2
open PySem PySem.Spec PyProof.Rows
def QG (c:Nat):List (List Nat)→List Nat
 |[]=>[]
 |[x]=>x
 |x::y::r=>x++c::QG c (y::r)
theorem fO (c:Nat):∀ps:List Str,(Str.join ⟨#[c]⟩ ps).cps.toList=QG c (ps.map fun p=>p.cps.toList)
 |[]=>rfl
 |[x]=>rfl
 |x::y::r=>by
  show ((x++(⟨#[c]⟩:Str))++Str.join ⟨#[c]⟩ (y::r)).cps.toList=x.cps.toList++c::QG c ((y::r).map fun p=>p.cps.toList);rw [← fO c (y::r)];show ((x.cps++#[c])++(Str.join ⟨#[c]⟩ (y::r)).cps).toList=_;simp
theorem xJ {c:Nat}:∀{x y A B:List Nat},c∉x→c∉y→x++c::A=y++c::B→x=y∧A=B
 |[],[],A,B,_,_,h=>⟨rfl,(List.cons.inj h).2⟩
 |[],b::y,A,B,_,hy,h=>absurd (List.mem_cons.mpr (.inl (List.cons.inj h).1)) hy
 |a::x,[],A,B,hx,_,h=>absurd (List.mem_cons.mpr (.inl (List.cons.inj h).1.symm)) hx
 |a::x,b::y,A,B,hx,hy,h=>by
  obtain ⟨h1,h2⟩:=List.cons.inj h;obtain ⟨h3,h4⟩:=xJ (fun z=>hx (List.mem_cons_of_mem _ z)) (fun z=>hy (List.mem_cons_of_mem _ z)) h2;exact ⟨by rw [h1,h3],h4⟩
theorem tK (c:Nat):∀(ps qs:List (List Nat)),ps≠[]→qs≠[]→(∀p∈ps,c∉p)→(∀q∈qs,c∉q)→QG c ps=QG c qs→ps=qs
 |[],_,h,_,_,_,_=>absurd rfl h
 |_::_,[],_,h,_,_,_=>absurd rfl h
 |[x],[y],_,_,_,_,h=>by rw [show x=y from h]
 |[x],y::y2::r,_,_,hp,_,h=>by
  have h:x=y++c::QG c (y2::r):=h;exact absurd (by rw [h];exact List.mem_append_right _ List.mem_cons_self) (hp x List.mem_cons_self)
 |x::x2::r,[y],_,_,_,hq,h=>by
  have h:x++c::QG c (x2::r)=y:=h;exact absurd (by rw [← h];exact List.mem_append_right _ List.mem_cons_self) (hq y List.mem_cons_self)
 |x::x2::r,y::y2::r',_,_,hp,hq,h=>by
  obtain ⟨h1,h2⟩:=xJ (hp x List.mem_cons_self) (hq y List.mem_cons_self) h;rw [h1,tK c (x2::r) (y2::r') (List.cons_ne_nil _ _) (List.cons_ne_nil _ _) (fun p h=>hp p (List.mem_cons_of_mem _ h)) (fun q h=>hq q (List.mem_cons_of_mem _ h)) h2]
theorem rG:∀{ps qs:List Str},(ps.map fun p=>p.cps.toList)=(qs.map fun p=>p.cps.toList)→ps=qs
 |[],[],_=>rfl
 |[],_::_,h=>by cases h
 |_::_,[],h=>by cases h
 |p::ps,q::qs,h=>by
  obtain ⟨h1,h2⟩:=List.cons.inj h;rw [rG h2];obtain ⟨a⟩:=p;obtain ⟨b⟩:=q;rw [show a=b from Array.toList_inj.mp h1]
theorem iS (x y:Str) (hy:1≤y.length):Txt.split x y≠[]:=by
 intro h;have hj:=StrLaws.join_split x y;rw [h] at hj;unfold Txt.split at h
 split at h
 ·cases h
 ·split at h
  ·cases h
  ·rename_i h2;unfold Builtin.Str.partsBetween at h;simp at h
theorem mT (c:Nat) {ps:List Str} (h0:ps≠[]) (hp:∀p∈ps,c∉p.cps.toList):Txt.split (Str.join ⟨#[c]⟩ ps) ⟨#[c]⟩=ps:=by
 refine rG (tK c _ _ ?_ ?_ ?_ ?_ ?_)
 ·intro h;exact iS _ ⟨#[c]⟩ (Nat.le_refl 1) (List.map_eq_nil_iff.mp h)
 ·intro h;exact h0 (List.map_eq_nil_iff.mp h)
 ·intro p h;obtain ⟨q,hq,rfl⟩:=List.mem_map.mp h;exact StrLaws.split_free _ c q hq
 ·intro p h;obtain ⟨q,hq,rfl⟩:=List.mem_map.mp h;exact hp q hq
 ·rw [← fO,← fO,StrLaws.join_split]
end L2
namespace L2
open PySem PySem.Spec PyProof.Rows
def e8 (a c:Int) (n:Nat):It:=⟨fun i _=>i<n,fun i H x H'=>H'=H∧x=.int (a+(i:Int)*c),fun i _=>n≤i⟩
theorem FW {P:Program} {w:World} {K:PySem.W.Frag} {tg:Expr} (it:Addr) (a c:Int) (n:Nat):Turn P w K tg (e8 a c n) [it] it (fun i h=>IsRangeIter h it (a+(i:Nat)*c) ((n:Int) - (i:Nat)) c) where
 mem:=by simp
 obj:=fun i h st b hb=>by
  have e:b=it:=by simpa using hb
  subst e;exact ⟨_,st,fun v z=>by
   have z':Data.fields _=Data.cell v:=z;cases z'⟩
 keep:=fun i h h' st k=>k it (by simp) _ st
 item:=by
  intro X hP hw hK hc i pins s σ H E I hf st hg;subst hP hw hK;obtain ⟨f0,f1,f2,f3,f4,f5⟩:=hf it (by simp);have W:=Walks.range (prog:=X.prog) (w:=X.w) (I.ok.hd hc) it a c n;refine W.item i s _ _ hg st fun v h' tk hv st' kk=>?_
  obtain ⟨t,rfl⟩:=hv;have I1:Inv X pins σ H {s with heap:=h',toks:=tk}:=I.turned (fun b o hb e=>kk b o (by simpa using hb) e) f0 f1 f3 f4 f5;exact ⟨_,rfl,gL (s:={s with heap:=h',toks:=tk}) (n:="range_iterator") st' rfl rfl (by decide) ⟨.int (a+(i:Int)*c),H,I1,⟨t,rfl⟩,⟨rfl,rfl⟩,st',fun b hb=>(hf b hb).1⟩⟩
 done:=by
  intro X hP hw hK hc i pins s σ H E I hf st hg;subst hP hw hK;obtain ⟨f0,f1,f2,f3,f4,f5⟩:=hf it (by simp);exact wpAny_pyNext_range_end (I.ok.hd hc) st (by have:n≤i:=hg;omega) fun h' eb=>⟨rfl,I.turned (t':=s.toks) (fun b o hb e=>eb b o hb e) f0 f1 f3 f4 f5⟩
 self:=fun _ _ _ _ _ st h=>wpAny_pyIter_rangeiter st h
section
variable {X:Cx} {tg:Expr}
theorem K4 {pins:List (Addr×Obj)} {σ:St} {H:Hp} {s:Shared} {R:It→Hp→Prop} {E:Value→Shared→Prop} {n:Nat} {a b c:Int} {t u v:Tok} {tk:Nat} (I:Inv X pins σ H s) (hsm:Builtin.Range.small a b c=true) (hn:Builtin.Range.rangeSize a b c=n)
    (q:R (e8 a c n) H):wpAny (model X.prog X.w) X.A (pyIter (.ref s.heap.objs.size)) (mC X pins σ tg R) E {s with heap:=s.heap.push {cls:=.type "range",data:=.fields #[.int a t,.int b u,.int c v]},toks:=tk}:=by
  refine wpAny_pyIter_range (IsRange.new ..) hsm ?_;have I1:Inv X pins σ H {s with heap:=s.heap.push {cls:=.type "range",data:=.fields #[.int a t,.int b u,.int c v]},toks:=tk}:=I.kept fun b o e=>Heap.get?_push_of_some _ e
  refine ⟨(s.heap.push {cls:=.type "range",data:=.fields #[.int a t,.int b u,.int c v]}).objs.size,[(s.heap.push {cls:=.type "range",data:=.fields #[.int a t,.int b u,.int c v]}).objs.size],_,_,H,rfl,
    I1.kept (t':=tk) fun b o e=>Heap.get?_push_of_some _ e,FW _ a c n,?_,fun b' hb=>?_,q⟩
  · have e1:a+((0:Nat):Int)*c=a:=by simp
    have e2:((n:Nat):Int) - ((0:Nat):Int)=Builtin.Range.rangeSize a b c:=by rw [hn];simp
    show IsRangeIter _ _ (a+((0:Nat):Int)*c) (((n:Nat):Int) - ((0:Nat):Int)) c;rw [e1,e2];exact Heap.get?_push_size _ rfl
  · have e:b'=(s.heap.push {cls:=.type "range",data:=.fields #[.int a t,.int b u,.int c v]}).objs.size:=by simpa using hb
    subst e;exact I1.fpOk (Nat.le_refl _) (I1.hok.fresh (Nat.le_refl _))
def NU (ta:TA):TI:=fun σ H R=>ta σ H fun vs H1=>∃(a b c:Int) (n:Nat),vs=[.int a,.int b,.int c]∧c≠0∧c.natAbs<1073741824∧Builtin.Range.small a b c=true∧Builtin.Range.rangeSize a b c=n∧R (e8 a c n) H1
theorem wX {a b c:Expr} {ta:TA} {p pos:Pos} (hg:Gl X "range") (hm:X.mg "range"=none) (ha:PA X [a,b,c] ta) (hs:starEach [a,b,c] X.env=[(false,eval a X.env),(false,eval b X.env),(false,eval c X.env)]:=by rfl) (hs2:starEach [b,c] X.env=[(false,eval b X.env),(false,eval c X.env)]:=by rfl) :
  PI X tg (.Call (.Name "range" p) [a,b,c] [] pos) (NU ta):=by
 intro pins s σ H R I h;refine Call_ (JD I hg hm boot_range (PyProof.Rows.callWith_type1 (jQ (ha pos pins s σ H _ I h) fun us s1 ⟨vs,H1,I1,r1,q1⟩=>?_) (by rw [hs,hs2]) (by rw [hs2];rfl)));obtain ⟨x,y,z,n,e,hz,hzs,hsm,hn,q⟩:=q1;subst e;cases r1 with
 |cons r rr =>
  cases rr with
  |cons r' rr =>
   cases rr with
   |cons r'' rr =>
    cases rr;obtain ⟨t,rfl⟩:=r;obtain ⟨t',rfl⟩:=r';obtain ⟨t'',rfl⟩:=r'';exact call_range_3 hz (K4 I1 hsm hn q) (.inl (PyProof.noPylong_small hzs))
end
theorem u0 {a c:Int} {n:Nat} {g:TG} {tb:TS} {D:Ends} {σ:St} {H:Hp} (Pv:Nat→St→Hp→Prop) (h0:Pv 0 σ H)
  (hs:∀i σ H,i<n→Pv i σ H→g (.int (a+(i:Int)*c)) σ H fun σ2 H2=>tb {D with nx:=Pv (i+1),ct:=Pv (i+1),bk:=D.nx} σ2 H2) (hd:∀σ H,Pv n σ H→D.nx σ H) :
  ∃W:Nat→Nat→St→Hp→Prop,(∃m,W 0 m σ H)∧∀i m σ H,W i m σ H→
   ((e8 a c n).stop i H∧D.nx σ H)∨((e8 a c n).go i H∧∃N:St→Hp→Prop,(∀σ' H',N σ' H'→∃m',m'<m∧W (i+1) m' σ' H')∧∀x H',(e8 a c n).yld i H x H'→g x σ H' fun σ2 H2=>tb {D with nx:=N,ct:=N,bk:=D.nx} σ2 H2):=by
 refine ⟨fun i m σ H=>m=n - i∧i≤n∧Pv i σ H,⟨n,by simp,Nat.zero_le _,h0⟩,?_⟩;rintro i m σ H ⟨rfl,hi,p⟩
 by_cases hlt:i<n
 ·refine .inr ⟨hlt,Pv (i+1),fun σ' H' p'=>⟨n - (i+1),by omega,rfl,hlt,p'⟩,fun x H' y=>?_⟩;obtain ⟨e,y⟩:=y;subst e y;exact hs i σ _ hlt p
 ·have e:i=n:=by omega
  subst e;exact .inl ⟨Nat.le_refl _,hd σ H p⟩
theorem sN {a b c:Int} (hc:0<c):Builtin.Range.rangeSize a b c=if a<b then (b - a - 1) / c+1 else 0:=by
 unfold Builtin.Range.rangeSize;rw [if_pos hc]
theorem FU {K:PySem.W.Frag} {a D:Addr} {xs:List V} {g:TG} {tc:TT} {te:TE} {σ₀:St} {H:Hp} {Q:Hp→Prop} (Pv:Nat→St→Hp→Prop) (h0:Pv 0 σ₀ (upd H D (.lst []))) (hl:∀i σ H,i≤xs.length→Pv i σ H→SqT K H a xs)
    (hs:∀i x σ H,xs[i]?=some x→Pv i σ H→g x σ H fun σ2 H3=>tc σ2 H3 fun b H4=>if b=true then te σ2 H4 fun v H5=>∃ys,H5 D=some (.lst ys)∧ys.length<sizeLine∧Pv (i+1) σ2 (upd H5 D (.lst (ys++[v]))) else Pv (i+1) σ2 H4)
    (hd:∀σ H,Pv xs.length σ H→Q H):JE D (mF K a) g tc te σ₀ H Q:=by
  refine ⟨fun i m σ H=>m=xs.length - i∧i≤xs.length∧Pv i σ H,⟨xs.length,by simp,Nat.zero_le _,h0⟩,?_⟩;rintro i m σ H ⟨rfl,hi,p⟩;have q:=hl i σ H hi p
  by_cases hlt:i<xs.length
  · refine .inr ⟨⟨xs,xs[i],q,by simp [hlt]⟩,Pv (i+1),fun σ' H' p'=>⟨xs.length - (i+1),by omega,rfl,hlt,p'⟩,fun x H' y=>?_⟩
    obtain ⟨e,y⟩:=y;subst e;exact hs i x σ _ (y xs q) p
  · have e:i=xs.length:=by omega
    subst e;exact .inl ⟨⟨xs,q,Nat.le_refl _⟩,hd σ H p⟩
theorem HU {K:PySem.W.Frag} {a D:Addr} {xs:List V} {tc:TT} {te:TE} {caps:St} {H:Hp} {Q:Hp→Prop} (R:Nat→List V→Hp→Prop) (hD:H D=none) (hS:H a=some (.tup xs)) (h0:R 0 [] (upd H D (.lst [])))
  (hs:∀i x ys Hi,xs[i]?=some x→i<xs.length→ys.length≤i→Same H Hi→Hi D=some (.lst ys)→R i ys Hi→tc (some x::caps) Hi fun b H4=>if b=true then te (some x::caps) H4 fun v H5=>∃zs,H5 D=some (.lst zs)∧zs.length<sizeLine∧yZ H D caps R (i+1) (some x::caps) (upd H5 D (.lst (zs++[v])))
   else yZ H D caps R (i+1) (some x::caps) H4)
  (hd:∀ys Hf,Same H Hf→Hf D=some (.lst ys)→ys.length≤xs.length→R xs.length ys Hf→Q Hf):JE D (mF K a) (eG 0) tc te (none::caps) H Q:=by
 refine FU (xs:=xs) (yZ H D caps R) ⟨[],none,rfl,qL hD (Same.refl H),jD,Nat.le_refl _,h0⟩ (fun i σ Hi _ ⟨_,_,_,s,_⟩=>SqT.of (s _ _ hS)) ?_ ?_
 ·rintro i x σ Hi hx ⟨ys,c,rfl,s,hY,hl,r⟩;exact hs i x ys Hi hx (List.getElem?_eq_some_iff.mp hx).1 hl s hY r
 ·rintro σ Hf ⟨ys,c,rfl,s,hY,hl,r⟩;exact hd ys Hf s hY hl r
end L2
namespace L2
open PySem PySem.Spec PyProof.Rows
def yT (m:Nat):List Nat:=(Nat.toDigits 10 m).map Char.toNat
theorem w8 {n:Int} (h0:0≤n):(Str.ofString (toString n)).cps.toList=yT n.toNat:=by
 obtain ⟨m,rfl⟩:=Int.eq_ofNat_of_zero_le h0;exact PySem.W.KIN.signs_num m
theorem nF {m:Nat} (h:¬m<10):yT m=yT (m / 10)++[(Nat.digitChar (m%10)).toNat]:=by
 have hm:m%10<10:=Nat.mod_lt m (by decide);have t:Nat.toDigits 10 (m / 10)++Nat.toDigits 10 (m%10)=Nat.toDigits 10 (10*(m / 10)+m%10):=Nat.toDigits_append_toDigits (by decide) (by omega) hm;rw [Nat.div_add_mod] at t;unfold yT;rw [← t,List.map_append,Nat.toDigits_of_lt_base hm];rfl
theorem wB:∀d:Nat,d<10→(Nat.digitChar d).toNat=48+d:=by decide
theorem iG {m:Nat} (h:m<10):yT m=[48+m]:=by
 unfold yT;rw [Nat.toDigits_of_lt_base h];show [(Nat.digitChar m).toNat]=_;rw [wB m h]
theorem uP (m:Nat):∀c∈yT m,48≤c∧c≤57:=by
 induction m using Nat.strongRecOn with
 |_ m ih =>
  intro c hc
  by_cases h:m<10
  ·rw [iG h] at hc;have:=List.mem_singleton.mp hc;omega
  ·rw [nF h] at hc
   rcases List.mem_append.mp hc with hc|hc
   ·exact ih (m / 10) (by omega) c hc
   ·have:=List.mem_singleton.mp hc;have:=wB (m%10) (Nat.mod_lt m (by decide));have:=Nat.mod_lt m (show 0<10 by decide);omega
theorem w9 (m:Nat):yT m≠[]:=by
 by_cases h:m<10
 ·rw [iG h];exact List.cons_ne_nil _ _
 ·rw [nF h];simp
theorem GQ (m:Nat) (h0:0<m):(yT m)[0]?≠some 48:=by
 induction m using Nat.strongRecOn with
 |_ m ih =>
  by_cases h:m<10
  ·rw [iG h];intro e;have:=Option.some.inj e;omega
  ·rw [nF h,List.getElem?_append_left (List.length_pos_iff.mpr (w9 _))];exact ih (m / 10) (by omega) (by omega)
theorem GP:yT 0=[48]:=iG (by decide)
theorem IW (m:Nat):PySem.NumText.digitsVal (yT m)=m:=PySem.W.KIN.val_back m
theorem IX {m:Nat} (h:m<1000000000000):1≤(yT m).length∧(yT m).length≤12:=by
 refine ⟨List.length_pos_iff.mpr (w9 m),?_⟩;unfold yT;rw [List.length_map];exact PyProof.Rows.digits10_le (k:=12) (by decide) (by simpa using h)
end L2
namespace L2
open PySem PySem.Spec PyProof.Rows
section
variable {X:Cx} {pins:List (Addr×Obj)} {σ:List (Option V)} {H:Hp} {s:Shared} {h':Heap}
theorem Inv.turnedN {t':Nat} {fp:List Addr} (I:Inv X pins σ H s) (k:∀b o,b∉fp→s.heap.get? b=some o→h'.get? b=some o) (hf:∀b∈fp,zT X pins H b):Inv X pins σ H {s with heap:=h',toks:=t'}:=by
 have nit:∀b u,H b=some u→b∉fp:=fun b u e z=>by rw [(hf b z).1] at e;cases e
 have hL:X.env.locals∉fp:=fun z=>(hf _ z).2.1 rfl
 refine I.step (g':=s.gens) (d':=s.drawn) (ch:=fp) (fun b hb=>?_) (fun b o _ _ hc e _=>k b o hc e) (fun b o _ _ hc e _=>⟨o.slots,k b o hc e⟩) (fun _ _ _ _ n=>n)
  (fun b o hc e=>⟨o,k b o hc e⟩) (fun _ _ e=>e) (fun _ _ _ e=>e) (fun b ps e=>⟨#[],by rw [e];simp⟩) (fun m hm=>?_) (fun b u e=>?_) I.bare
 ·obtain ⟨f0,f1,f2,f3,f4,f5⟩:=hf b hb;exact ⟨f3,f1,f4,f5⟩
 ·obtain ⟨o,es,ep,ho,r⟩:=hm;exact ⟨o,es,ep,k _ o hL ho,r⟩
 ·refine (I.hok b u e).stay (fun c v hc q=>k c v ?_ q) (fun _ q=>q) fun _ _ q=>q
  rcases hc with z|z
  ·rw [z];exact nit b u e
  ·exact nit c _ z
theorem Inv.laidN {t':Nat} {fp:List Addr} {a:Addr} {o:HO} (I:Inv X pins σ H s) (k:∀b u,b∉fp→s.heap.get? b=some u→h'.get? b=some u) (hf:∀b∈fp,zT X pins H b) (hp:s.heap.objs.size≤a) (new:ObjOk X.prog X.w (upd H a o) h' a o) :
  Inv X pins σ (upd H a o) {s with heap:=h',toks:=t'}:=by
 have hn:=I.hok.fresh hp;have nit:∀b u,H b=some u→b∉fp:=fun b u e z=>by rw [(hf b z).1] at e;cases e
 have hL:X.env.locals∉fp:=fun z=>(hf _ z).2.1 rfl
 refine I.step (g':=s.gens) (d':=s.drawn) (ch:=fp) (fun b hb=>?_) (fun b o _ _ hc e _=>k b o hc e) (fun b o _ _ hc e _=>⟨o.slots,k b o hc e⟩) (fun b u _ e n=>?_)
  (fun b o hc e=>⟨o,k b o hc e⟩) (fun b xs e=>?_) (fun b u v e=>?_) (fun b ps e=>⟨#[],?_⟩) (fun m hm=>?_) (fun b u e=>?_) I.bare
 ·obtain ⟨f0,f1,f2,f3,f4,f5⟩:=hf b hb;exact ⟨f3,f1,f4,f5⟩
 ·rw [j9 (Nat.ne_of_lt (Nat.lt_of_lt_of_le (Heap.lt_size e) hp))];exact n
 ·rw [j9 (jW e hn)];exact e
 ·rw [j9 (jW e hn)];exact e
 ·rw [j9 (jW e hn),e];simp
 ·obtain ⟨o,es,ep,ho,r⟩:=hm;exact ⟨o,es,ep,k _ o hL ho,r⟩
 ·by_cases hb:b=a
  ·subst hb;rw [jD] at e;cases e;exact new
  ·rw [j9 hb] at e;refine (I.hok b u e).stay (fun c v hc q=>k c v ?_ q) (fun c q=>by rw [j9 (jW q hn)];exact q) fun c xs q=>by rw [j9 (jW q hn)];exact q
   rcases hc with z|z
   ·rw [z];exact nit b u e
   ·exact nit c _ z
end
def gT (K:PySem.W.Frag) (a1 a2:Addr):It :=
 ⟨fun i H=>∃xs ys x y,SqL K H a1 xs∧SqL K H a2 ys∧xs[i]?=some x∧ys[i]?=some y,
  fun i H v H'=>∃T x y,v=.ref T∧H T=none∧H'=upd H T (.tup [x,y])∧(∀xs,SqL K H a1 xs→xs[i]?=some x)∧(∀ys,SqL K H a2 ys→ys[i]?=some y),
  fun i H=>∃xs ys,SqL K H a1 xs∧SqL K H a2 ys∧(xs.length≤i∨ys.length≤i)⟩
def gU (K:PySem.W.Frag) (a:Addr):It :=
 ⟨fun i H=>∃xs x,SqL K H a xs∧xs[i]?=some x,
  fun i H v H'=>∃T x,v=.ref T∧H T=none∧H'=upd H T (.tup [.int (i:Int),x])∧∀xs,SqL K H a xs→xs[i]?=some x,
  fun i H=>∃xs,SqL K H a xs∧xs.length≤i⟩
theorem IB {P:Program} {w:World} {K:PySem.W.Frag} {elts:List Expr} {x1:Nat} {pos:Pos} {a1 a2 z TI TO i1 i2:Addr} (D:ZipApart z TI TO i1 i2 a1 a2) :
  Turn P w K (.Tuple elts x1 pos) (gT K a1 a2) [z,TI,TO,i1,i2] z (fun i h=>IsZip h z TI TO .none∧IsPair h TI (.ref i1) (.ref i2)∧(∃a b,IsPair h TO a b)∧h.IsListIter i1 a1 i∧h.IsListIter i2 a2 i) where
 mem:=by simp
 obj:=fun i h st b hb=>by
  obtain ⟨hz,hTI,⟨p,q,hTO⟩,⟨o1,e1,c1,d1⟩,⟨o2,e2,c2,d2⟩⟩:=st;simp only [List.mem_cons,List.mem_nil_iff,or_false] at hb
  rcases hb with rfl|rfl|rfl|rfl|rfl
  ·exact ⟨_,hz,fun v y=>by have y':Data.fields _=Data.cell v:=y;cases y'⟩
  ·exact ⟨_,hTI,fun v y=>by have y':Data.seq _ _=Data.cell v:=y;cases y'⟩
  ·exact ⟨_,hTO,fun v y=>by have y':Data.seq _ _=Data.cell v:=y;cases y'⟩
  ·exact ⟨o1,e1,fun v y=>by rw [d1] at y;cases y⟩
  ·exact ⟨o2,e2,fun v y=>by rw [d2] at y;cases y⟩
 keep:=fun i h h' st k=>by
  obtain ⟨hz,hTI,⟨p,q,hTO⟩,h1,h2⟩:=st;exact ⟨k _ (by simp) _ hz,k _ (by simp) _ hTI,⟨p,q,k _ (by simp) _ hTO⟩,h1.at fun o e=>k _ (by simp) o e,h2.at fun o e=>k _ (by simp) o e⟩
 item:=by
  intro X hP hw hK hc i pins s σ H E I hf st hg;subst hP hw hK;obtain ⟨hz,hTI,⟨p,q,hTO⟩,h1,h2⟩:=st;obtain ⟨xs,ys,x,y,hq1,hq2,hx,hy⟩:=hg;obtain ⟨its1,rv1,p1,_⟩:=I.list hq1;obtain ⟨its2,rv2,p2,_⟩:=I.list hq2;obtain ⟨u,hu,ru⟩:=rv1.get hx;obtain ⟨v,hv,rv⟩:=rv2.get hy;refine wpAny_pyNext_zip_item D hz hTI hTO h1 h2 p1.isList p2.isList (x:=u) (y:=v) (by simpa using hu) (by simpa using hv) fun h' hz' hTO' h1' h2' hT' hsz hk=>?_
  refine ⟨_,rfl,?_⟩;refine wpAny_letOwnedTupleGo_zip hz' fun hp2 hz2 hs2=>?_
  have lt:∀{b:Addr} {o:Obj},s.heap.get? b=some o→b<s.heap.objs.size:=fun e=>Heap.lt_size e
  have nT:s.heap.objs.size≠z:=Nat.ne_of_gt (lt hz);have k2:∀b o,b∉[z,TI,TO,i1,i2]→s.heap.get? b=some o→hp2.get? b=some o:=fun b o hb e=>by
   simp only [List.mem_cons,List.mem_nil_iff,or_false,not_or] at hb;exact (hs2.2 b hb.1).trans (hk b o hb.1 hb.2.2.1 hb.2.2.2.1 hb.2.2.2.2 e)
  have hT2:IsPair hp2 s.heap.objs.size u v:=(hs2.2 _ nT).trans hT';refine ⟨.ref s.heap.objs.size,upd H s.heap.objs.size (.tup [x,y]),I.laidN (t':=s.toks) (fp:=[z,TI,TO,i1,i2]) k2 hf (Nat.le_refl _) ⟨(by show 2≤sizeLine;decide),[u,v],.cons ru (.cons rv .nil),⟨_,hT2,rfl,_,rfl⟩⟩,rfl,?_,?_,?_⟩
  ·exact ⟨_,x,y,rfl,I.hok.fresh (Nat.le_refl _),rfl,fun zs hzs=>by rw [I.list_inj hzs hq1];exact hx,fun zs hzs=>by rw [I.list_inj hzs hq2];exact hy⟩
  ·refine ⟨hz2,(hs2.2 _ D.TIz).trans (hk _ _ D.TIz D.TITO D.TIi1 D.TIi2 hTI),⟨_,_,(hs2.2 _ D.TOz).trans hTO'⟩,h1'.at fun o e=>(hs2.2 _ D.i1z).trans e,h2'.at fun o e=>(hs2.2 _ D.i2z).trans e⟩
  ·intro b hb;have:=(hf b hb).1;rw [j9]
   ·exact this
   ·intro e;simp only [List.mem_cons,List.mem_nil_iff,or_false] at hb;obtain ⟨o1,e1,_⟩:=h1;obtain ⟨o2,e2,_⟩:=h2
    rcases hb with rfl|rfl|rfl|rfl|rfl
    ·exact nT e.symm
    ·exact Nat.ne_of_lt (lt hTI) e
    ·exact Nat.ne_of_lt (lt hTO) e
    ·exact Nat.ne_of_lt (lt e1) e
    ·exact Nat.ne_of_lt (lt e2) e
 done:=by
  intro X hP hw hK hc i pins s σ H E I hf st hg;subst hP hw hK;obtain ⟨hz,hTI,⟨p,q,hTO⟩,h1,h2⟩:=st;obtain ⟨xs,ys,hq1,hq2,he⟩:=hg;obtain ⟨its1,rv1,p1,_⟩:=I.list hq1;obtain ⟨its2,rv2,p2,_⟩:=I.list hq2;have l1:=rv1.length;have l2:=rv2.length;refine wpAny_pyNext_zip_end (I.ok.hd hc) D hz hTI hTO h1 h2 p1.isList p2.isList (he.imp (fun e=>by simp;omega) (fun e=>by simp;omega)) fun h' hk=>⟨rfl,I.turnedN (t':=s.toks) (fp:=[z,TI,TO,i1,i2]) (fun b o hb e=>?_) hf⟩
  simp only [List.mem_cons,List.mem_nil_iff,or_false,not_or] at hb;exact hk b o hb.1 hb.2.2.1 hb.2.2.2.1 hb.2.2.2.2 e
 self:=fun _ _ _ _ _ st h=>wpAny_pyIter_zip st.1 h
theorem FY {P:Program} {w:World} {K:PySem.W.Frag} {elts:List Expr} {x1:Nat} {pos:Pos} {a e it:Addr} (hei:e≠it) :
  Turn P w K (.Tuple elts x1 pos) (gU K a) [e,it] e (fun i h=>(∃old,IsEnum h e it i old)∧h.IsListIter it a i) where
 mem:=by simp
 obj:=fun i h st b hb=>by
  obtain ⟨⟨old,he⟩,⟨o1,e1,c1,d1⟩⟩:=st;simp only [List.mem_cons,List.mem_nil_iff,or_false] at hb
  rcases hb with rfl|rfl
  ·exact ⟨_,he,fun v y=>by have y':Data.fields _=Data.cell v:=y;cases y'⟩
  ·exact ⟨o1,e1,fun v y=>by rw [d1] at y;cases y⟩
 keep:=fun i h h' st k=>by
  obtain ⟨⟨old,he⟩,h1⟩:=st;exact ⟨⟨old,k _ (by simp) _ he⟩,h1.at fun o e=>k _ (by simp) o e⟩
 item:=by
  intro X hP hw hK hc i pins s σ H E I hf st hg;subst hP hw hK;obtain ⟨⟨old,he⟩,h1⟩:=st;obtain ⟨xs,x,hq1,hx⟩:=hg;obtain ⟨its1,rv1,p1,_⟩:=I.list hq1;obtain ⟨u,hu,ru⟩:=rv1.get hx;refine wpAny_pyNext_enum_item he h1 p1.isList (x:=u) (by simpa using hu) hei fun h' he' h1' hT' hsz hk=>?_
  refine ⟨_,rfl,?_⟩;refine wpAny_letOwnedTupleGo_enum he' fun h2 he2 hs2=>?_
  have lt:∀{b:Addr} {o:Obj},s.heap.get? b=some o→b<s.heap.objs.size:=fun e=>Heap.lt_size e
  have nT:s.heap.objs.size≠e:=Nat.ne_of_gt (lt he);have k2:∀b o,b∉[e,it]→s.heap.get? b=some o→h2.get? b=some o:=fun b o hb q=>by
   simp only [List.mem_cons,List.mem_nil_iff,or_false,not_or] at hb;exact (hs2.2 b hb.1).trans (hk b o hb.1 hb.2 q)
  have hT2:=(hs2.2 _ nT).trans hT';refine ⟨.ref s.heap.objs.size,upd H s.heap.objs.size (.tup [.int (i:Int),x]),I.laidN (t':=s.toks+1) (fp:=[e,it]) k2 hf (Nat.le_refl _) ⟨(by show 2≤sizeLine;decide),[.int i s.toks,u],.cons ⟨_,rfl⟩ (.cons ru .nil),⟨_,hT2,rfl,_,rfl⟩⟩,rfl,?_,?_,?_⟩
  ·exact ⟨_,x,rfl,I.hok.fresh (Nat.le_refl _),rfl,fun zs hzs=>by rw [I.list_inj hzs hq1];exact hx⟩
  ·exact ⟨⟨_,he2⟩,h1'.at fun o q=>(hs2.2 _ hei.symm).trans q⟩
  ·intro b hb;have:=(hf b hb).1;rw [j9]
   ·exact this
   ·intro q;simp only [List.mem_cons,List.mem_nil_iff,or_false] at hb;obtain ⟨o1,e1,_⟩:=h1
    rcases hb with rfl|rfl
    ·exact nT q.symm
    ·exact Nat.ne_of_lt (lt e1) q
 done:=by
  intro X hP hw hK hc i pins s σ H E I hf st hg;subst hP hw hK;obtain ⟨⟨old,he⟩,h1⟩:=st;obtain ⟨xs,hq1,hx⟩:=hg;obtain ⟨its1,rv1,p1,_⟩:=I.list hq1;have l1:=rv1.length;refine wpAny_pyNext_enum_end (I.ok.hd hc) he h1 p1.isList (by simp;omega) fun h' hk=>⟨rfl,I.turnedN (t':=s.toks) (fp:=[e,it]) (fun b o hb q=>?_) hf⟩
  simp only [List.mem_cons,List.mem_nil_iff,or_false,not_or] at hb;exact hk b o hb.2 q
 self:=fun _ _ _ _ _ st h=>by obtain ⟨⟨old,he⟩,_⟩:=st;exact wpAny_pyIter_enum he h
section
variable {X:Cx} {elts:List Expr} {x1:Nat} {tpos:Pos}
def OO (K:PySem.W.Frag) (ta:TA):TI:=fun σ H R=>ta σ H fun vs H1=>∃a1 a2,vs=[.ref a1,.ref a2]∧(∃xs,SqL K H1 a1 xs)∧(∃ys,SqL K H1 a2 ys)∧R (gT K a1 a2) H1
def NX (K:PySem.W.Frag) (ta:TA):TI:=fun σ H R=>ta σ H fun vs H1=>∃a,vs=[.ref a]∧(∃xs,SqL K H1 a xs)∧R (gU K a) H1
theorem MT {a b:Expr} {ta:TA} {p pos:Pos} (hg:Gl X "zip") (hm:X.mg "zip"=none) (ha:PA X [a,b] ta) (hs:starEach [a,b] X.env=[(false,eval a X.env),(false,eval b X.env)]:=by rfl) (hs2:starEach [b] X.env=[(false,eval b X.env)]:=by rfl) :
  PI X (.Tuple elts x1 tpos) (.Call (.Name "zip" p) [a,b] [] pos) (OO X.K ta):=by
 intro pins s σ H R I h;refine Call_ (JD I hg hm boot_zip (PyProof.Rows.callWith_type1 (jQ (ha pos pins s σ H _ I h) fun us s1 ⟨vs,H1,I1,r1,q1⟩=>?_) (by rw [hs,hs2]) (by rw [hs2];rfl)));obtain ⟨a1,a2,e,⟨xs,hq1⟩,⟨ys,hq2⟩,q⟩:=q1;subst e;cases r1 with
 |cons r rr =>
  cases rr with
  |cons r' rr =>
   cases rr;cases r;cases r';obtain ⟨its1,rv1,p1,_⟩:=I1.list hq1;obtain ⟨its2,rv2,p2,_⟩:=I1.list hq2;have lt1:a1<s1.heap.objs.size:=by obtain ⟨o,e,_⟩:=p1.isList;exact Heap.lt_size e
   have lt2:a2<s1.heap.objs.size:=by obtain ⟨o,e,_⟩:=p2.isList;exact Heap.lt_size e
   refine call_zip_2 p1.isList p2.isList fun h' hz hTI hTO h1 h2 hsz hk=>?_
   refine wpAny_pyIter_zip hz ?_;have D:ZipApart (s1.heap.objs.size+4) (s1.heap.objs.size+2) (s1.heap.objs.size+3) s1.heap.objs.size (s1.heap.objs.size+1) a1 a2:=by
    constructor<;>(intro e;simp only [Addr] at *;omega)
   refine ⟨_,_,_,_,H1,rfl,I1.kept (t':=s1.toks) hk,IB D,⟨hz,hTI,⟨_,_,hTO⟩,h1,h2⟩,fun b hb=>?_,q⟩;simp only [List.mem_cons,List.mem_nil_iff,or_false] at hb;have hb':s1.heap.objs.size≤b:=by rcases hb with rfl|rfl|rfl|rfl|rfl<;>simp only [Addr] at *<;>omega
   exact I1.fpOk hb' (I1.hok.fresh hb')
theorem LH {a:Expr} {ta:TA} {p pos:Pos} (hg:Gl X "enumerate") (hm:X.mg "enumerate"=none) (ha:PA X [a] ta) (hs:starEach [a] X.env=[(false,eval a X.env)]:=by rfl) :
  PI X (.Tuple elts x1 tpos) (.Call (.Name "enumerate" p) [a] [] pos) (NX X.K ta):=by
 intro pins s σ H R I h;refine Call_ (JD I hg hm boot_enumerate (PyProof.Rows.callWith_type1 (jQ (ha pos pins s σ H _ I h) fun us s1 ⟨vs,H1,I1,r1,q1⟩=>?_) hs rfl));obtain ⟨a1,e,⟨xs,hq1⟩,q⟩:=q1;subst e;cases r1 with
 |cons r rr =>
  cases rr;cases r;obtain ⟨its1,rv1,p1,_⟩:=I1.list hq1;refine call_enumerate_list p1.isList fun h' he hit hsz hk=>?_
  refine wpAny_pyIter_enum he ?_;refine ⟨_,_,_,_,H1,rfl,I1.kept (t':=s1.toks) hk,FY (Nat.succ_ne_self _),⟨⟨_,he⟩,hit⟩,fun b hb=>?_,q⟩;simp only [List.mem_cons,List.mem_nil_iff,or_false] at hb;have hb':s1.heap.objs.size≤b:=by rcases hb with rfl|rfl<;>simp only [Addr] at *<;>omega
  exact I1.fpOk hb' (I1.hok.fresh hb')
theorem L7 {K:PySem.W.Frag} {a1 a2:Addr} {xs ys:List V} {g:TG} {tb:TS} {D:Ends} {σ:St} {H:Hp} (P:Nat→St→Hp→Prop) (h0:P 0 σ H) (hl:∀i σ H,i≤min xs.length ys.length→P i σ H→SqL K H a1 xs∧SqL K H a2 ys)
  (step:∀i x y σ H T,xs[i]?=some x→ys[i]?=some y→P i σ H→H T=none→g (.ref T) σ (upd H T (.tup [x,y])) fun σ2 H2=>tb {D with nx:=P (i+1),ct:=P (i+1),bk:=D.nx} σ2 H2) (done:∀σ H,P (min xs.length ys.length) σ H→D.nx σ H) :
  ∃W:Nat→Nat→St→Hp→Prop,(∃m,W 0 m σ H)∧∀i m σ H,W i m σ H→((gT K a1 a2).stop i H∧D.nx σ H)∨((gT K a1 a2).go i H∧∃N:St→Hp→Prop,(∀σ' H',N σ' H'→∃m',m'<m∧W (i+1) m' σ' H')∧∀x H',(gT K a1 a2).yld i H x H'→g x σ H' fun σ2 H2=>tb {D with nx:=N,ct:=N,bk:=D.nx} σ2 H2):=by
 refine ⟨fun i m σ H=>i≤min xs.length ys.length∧m=min xs.length ys.length - i∧P i σ H,⟨_,Nat.zero_le _,rfl,h0⟩,fun i m σ H w=>?_⟩;obtain ⟨hi,hm,p⟩:=w;obtain ⟨q1,q2⟩:=hl i σ H hi p
 by_cases e:i=min xs.length ys.length
 ·refine .inl ⟨⟨xs,ys,q1,q2,by omega⟩,done σ H (e▸p)⟩
 ·have l1:i<xs.length:=by omega
  have l2:i<ys.length:=by omega
  refine .inr ⟨⟨xs,ys,_,_,q1,q2,List.getElem?_eq_getElem l1,List.getElem?_eq_getElem l2⟩,P (i+1),fun σ' H' n=>⟨_,by omega,by omega,rfl,n⟩,fun v H' hy=>?_⟩;obtain ⟨T,x,y,rfl,hT,rfl,h1,h2⟩:=hy;exact step i x y σ H T (h1 xs q1) (h2 ys q2) p hT
theorem KQ {K:PySem.W.Frag} {a:Addr} {xs:List V} {g:TG} {tb:TS} {D:Ends} {σ:St} {H:Hp} (P:Nat→St→Hp→Prop) (h0:P 0 σ H) (hl:∀i σ H,i≤xs.length→P i σ H→SqL K H a xs)
  (step:∀i x σ H T,xs[i]?=some x→P i σ H→H T=none→g (.ref T) σ (upd H T (.tup [.int (i:Int),x])) fun σ2 H2=>tb {D with nx:=P (i+1),ct:=P (i+1),bk:=D.nx} σ2 H2) (done:∀σ H,P xs.length σ H→D.nx σ H) :
  ∃W:Nat→Nat→St→Hp→Prop,(∃m,W 0 m σ H)∧∀i m σ H,W i m σ H→((gU K a).stop i H∧D.nx σ H)∨((gU K a).go i H∧∃N:St→Hp→Prop,(∀σ' H',N σ' H'→∃m',m'<m∧W (i+1) m' σ' H')∧∀x H',(gU K a).yld i H x H'→g x σ H' fun σ2 H2=>tb {D with nx:=N,ct:=N,bk:=D.nx} σ2 H2):=by
 refine ⟨fun i m σ H=>i≤xs.length∧m=xs.length - i∧P i σ H,⟨_,Nat.zero_le _,rfl,h0⟩,fun i m σ H w=>?_⟩;obtain ⟨hi,hm,p⟩:=w;have q1:=hl i σ H hi p
 by_cases e:i=xs.length
 ·refine .inl ⟨⟨xs,q1,by omega⟩,done σ H (e▸p)⟩
 ·have l1:i<xs.length:=by omega
  refine .inr ⟨⟨xs,_,q1,List.getElem?_eq_getElem l1⟩,P (i+1),fun σ' H' n=>⟨_,by omega,by omega,rfl,n⟩,fun v H' hy=>?_⟩;obtain ⟨T,x,rfl,hT,rfl,h1⟩:=hy;exact step i x σ H T (h1 xs q1) p hT
end
end L2
namespace L2
open PySem PySem.Spec PyProof.Rows
end L2
namespace L2
open PySem PySem.Spec PyProof.Rows
section
variable {X:Cx}
end
end L2
namespace L2
open PySem PySem.Spec PyProof.Rows
section
variable {prog:Program} {w:World} {A:Around} {s:Shared} {E:Value→Shared→Prop}
end
section
variable {X:Cx} {elts:List Expr} {x1:Nat} {tpos:Pos}
end
end L2
namespace L2
open PySem PySem.Spec PyProof.Rows
set_option maxRecDepth 100000
section
variable {X:Cx}
end
end L2
namespace L2
open PySem PySem.Spec PyProof.Rows
section
variable {prog:Program} {w:World} {A:Around} {s:Shared} {E:Value→Shared→Prop}
theorem NC {a:Addr} {o:Obj} {Q:Option Obj→Shared→Prop} (h:s.heap.get? a=some o) (q:Q (some o) s):wpAny (model prog w) A (loadIfAlive a) Q E s:=fun Γ p _=>by
 show Sem.wp _ Γ (.loadIfAlive a .pure) _ _ p s;rw [Sem.wp_loadIfAlive,h];exact q
abbrev eR (h:Heap) (z P1 P2:Addr) (f0:Value) (f1:Bool):Prop:=h.get? z=some {cls:=.type "zip",dict:=none,data:=.fields #[f0,.bool f1,.bool false,.ref P1,.ref P2],slots := #[]}
theorem rA {z P1 P2 T:Addr} {f1:Bool} {o:Obj} {Q:Bool→Shared→Prop} (hz:eR s.heap z P1 P2 (rawInt T) f1) (hT:s.heap.get? T=some o) (q:∀h',eR h' z P1 P2 (rawInt T) true→Heap.SameBut z s.heap h'→Q false {s with heap:=h'}):wpAny (model prog w) A (Builtin.SmallTypes.ownedTupleIsFree (.ref z)) Q E s:=by
 unfold Builtin.SmallTypes.ownedTupleIsFree;refine wpAny_bind (wpAny_field hz rfl (x:=rawInt T) rfl ?_);show wpAny _ _ (loadIfAlive (Int.toNat (T:Int)) >>= _) _ _ _;refine wpAny_bind (NC (by rw [Int.toNat_natCast];exact hT) ?_);simp only [Option.isNone_some,Bool.false_eq_true,if_false];refine wpAny_bind (wpAny_field hz rfl (x:=.bool f1) rfl ?_);cases f1 with
 |true =>
  rw [if_neg (by decide)];refine wpAny_pure ?_;exact q s.heap hz ⟨rfl,fun _ _=>rfl⟩
 |false =>
  rw [if_pos (by decide)];refine wpAny_bind (wpAny_setField_rec hz (by simp) fun m1 z1 d1=>wpAny_pure ?_);exact q m1 z1 d1
theorem FS {z P1 P2 j1 j2 a b T:Addr} {k:Nat} {us vs:Array Value} {u v:Value} {f1:Bool} {o:Obj} {Q:Value→Shared→Prop} (D:ZipApart z P1 P2 j1 j2 a b)
  (hz:eR s.heap z P1 P2 (rawInt T) f1) (hT:s.heap.get? T=some o) (hP1:IsPair s.heap P1 (.ref j1) (.ref j2)) (n1:s.heap.IsListIter j1 a k) (n2:s.heap.IsListIter j2 b k) (la:s.heap.IsList a us) (lb:s.heap.IsList b vs) (hu:us[k]?=some u) (hv:vs[k]?=some v)
  (q:∀h',eR h' z P1 P2 (rawInt T) true→h'.IsListIter j1 a (k+1)→h'.IsListIter j2 b (k+1)→IsPair h' s.heap.objs.size u v→h'.objs.size=s.heap.objs.size+1→(∀c o,c≠z→c≠j1→c≠j2→s.heap.get? c=some o→h'.get? c=some o)→Q (.ref s.heap.objs.size) {s with heap:=h'}):wpAny (model prog w) A (Builtin.«zip.__next__» ⟨[.ref z],[]⟩) (fun fin s'=>∃v,fin=.done (.ret v)∧Q v s') E s:=by
 show wpAny _ _ (field (.ref z) 2 >>= _) _ _ _;refine wpAny_bind (wpAny_field hz rfl (x:=.bool false) rfl ?_);show wpAny _ _ (field (.ref z) 3 >>= _) _ _ _
 refine wpAny_bind (wpAny_field hz rfl (x:=.ref P1) rfl ?_);refine wpAny_bind (wpAny_seqItems hP1 rfl ?_)
 show wpAny _ _ (Builtin.SmallTypes.ownedTupleIsFree (.ref z) >>= _) _ _ _;refine wpAny_bind (rA hz hT fun m1 z1 d1=>?_)
 simp only [Bool.false_eq_true,if_false];refine wpAny_bind ?_;simp only [← Array.forIn_toList,List.forIn_cons,List.forIn_nil]
 refine wpAny_bind (wpAny_bind (wpAny_holding ?_));show wpAny _ _ (Builtin.SmallTypes.nextOf (.ref j1) >>= _) _ _ _
 refine wpAny_bind (wpAny_nextOf_list_item (n1.extBut d1.extBut D.i1z) (la.extBut d1.extBut D.l1z) hu fun m2 n12 d2=>wpAny_pure (wpAny_pure ?_));refine wpAny_bind (wpAny_bind (wpAny_holding ?_));show wpAny _ _ (Builtin.SmallTypes.nextOf (.ref j2) >>= _) _ _ _
 refine wpAny_bind (wpAny_nextOf_list_item ((n2.extBut d1.extBut D.i2z).extBut d2.extBut D.i12.symm) ((lb.extBut d1.extBut D.l2z).extBut d2.extBut D.l2i1) hv fun m3 n23 d3=>wpAny_pure (wpAny_pure (wpAny_pure ?_)));show wpAny _ _ (newTuple [u,v] >>= _) _ _ _;refine wpAny_bind (wpAny_newTuple (wpAny_pure ⟨_,rfl,?_⟩));have sz:m3.objs.size=s.heap.objs.size:=by rw [d3.1,d2.1,d1.1]
 have up:∀c o,c≠z→c≠j1→c≠j2→s.heap.get? c=some o→(m3.push {cls:=.type "tuple",data:=.seq #[u,v]}).get? c=some o:=fun c o e1 e3 e4 e=>Heap.get?_push_of_some _ (d3.extBut _ _ e4 (d2.extBut _ _ e3 (d1.extBut _ _ e1 e)))
 have t8:IsPair (m3.push {cls:=.type "tuple",data:=.seq #[u,v]}) m3.objs.size u v:=Heap.get?_push_size _ rfl;show Q (.ref m3.objs.size) _;rw [sz] at t8 ⊢;exact q _ (Heap.get?_push_of_some _ (d3.extBut _ _ D.i2z.symm (d2.extBut _ _ D.i1z.symm z1))) ((n12.extBut d3.extBut D.i12).at fun o e=>Heap.get?_push_of_some _ e) (n23.at fun o e=>Heap.get?_push_of_some _ e) t8 (by rw [Heap.size_push,sz]) up
theorem HZ {z P1 P2 j1 j2 a b T:Addr} {k:Nat} {us vs:Array Value} {f1:Bool} {o:Obj} {Q:Fin→Shared→Prop} (hh:A.handled=none) (D:ZipApart z P1 P2 j1 j2 a b)
  (hz:eR s.heap z P1 P2 (rawInt T) f1) (hT:s.heap.get? T=some o) (hP1:IsPair s.heap P1 (.ref j1) (.ref j2)) (n1:s.heap.IsListIter j1 a k) (n2:s.heap.IsListIter j2 b k) (la:s.heap.IsList a us) (lb:s.heap.IsList b vs) (he:us[k]?=none∨vs[k]?=none)
  (q:∀h' e,(∀c o,c≠z→c≠j1→c≠j2→s.heap.get? c=some o→h'.get? c=some o)→(∃o,h'.get? e=some o∧o.cls=.type "StopIteration")→E (.ref e) {s with heap:=h'}):wpAny (model prog w) A (Builtin.«zip.__next__» ⟨[.ref z],[]⟩) Q E s:=by
 show wpAny _ _ (field (.ref z) 2 >>= _) _ _ _;refine wpAny_bind (wpAny_field hz rfl (x:=.bool false) rfl ?_);show wpAny _ _ (field (.ref z) 3 >>= _) _ _ _
 refine wpAny_bind (wpAny_field hz rfl (x:=.ref P1) rfl ?_);refine wpAny_bind (wpAny_seqItems hP1 rfl ?_)
 show wpAny _ _ (Builtin.SmallTypes.ownedTupleIsFree (.ref z) >>= _) _ _ _;refine wpAny_bind (rA hz hT fun m1 z1 d1=>?_)
 simp only [Bool.false_eq_true,if_false];refine wpAny_bind ?_;simp only [← Array.forIn_toList,List.forIn_cons,List.forIn_nil]
 refine wpAny_bind (wpAny_bind (wpAny_holding ?_));show wpAny _ _ (Builtin.SmallTypes.nextOf (.ref j1) >>= _) _ _ _
 cases hu:us[k]? with
 |none =>
  refine wpAny_bind (wpAny_nextOf_list_end hh (n1.extBut d1.extBut D.i1z) (la.extBut d1.extBut D.l1z) hu fun m2 e d2 st=>?_);exact q m2 e (fun c o e1 e3 e4 x=>d2 _ _ e3 (d1.extBut _ _ e1 x)) st
 |some u =>
  have hv:vs[k]?=none:=by rcases he with h|h;rw [hu] at h;cases h;exact h
  refine wpAny_bind (wpAny_nextOf_list_item (n1.extBut d1.extBut D.i1z) (la.extBut d1.extBut D.l1z) hu fun m2 n12 d2=>wpAny_pure (wpAny_pure ?_));refine wpAny_bind (wpAny_bind (wpAny_holding ?_));show wpAny _ _ (Builtin.SmallTypes.nextOf (.ref j2) >>= _) _ _ _
  refine wpAny_bind (wpAny_nextOf_list_end hh ((n2.extBut d1.extBut D.i2z).extBut d2.extBut D.i12.symm) ((lb.extBut d1.extBut D.l2z).extBut d2.extBut D.l2i1) hv fun m3 e d3 st=>?_);exact q m3 e (fun c o e1 e3 e4 x=>d3 _ _ e4 (d2.extBut _ _ e3 (d1.extBut _ _ e1 x))) st
def ZStands (h:Heap) (N z P1 P2 j1 j2 a b:Addr) (us vs:Array Value) (k:Nat):Prop :=
 ((IsZip h z P1 P2 .none∧∃g g',IsPair h P2 g g')∨∃(T:Addr) (f1:Bool) (o:Obj),eR h z P1 P2 (rawInt T) f1∧N≤T∧h.get? T=some o)∧IsPair h P1 (.ref j1) (.ref j2)∧h.IsListIter j1 a k∧h.IsListIter j2 b k∧h.IsList a us∧h.IsList b vs
theorem K1 {N z P1 P2 j1 j2 a b:Addr} {k:Nat} {us vs:Array Value} {u v:Value} {Q:Option Value→Shared→Prop} (D:ZipApart z P1 P2 j1 j2 a b) (b1:z<N) (b2:j1<N) (b3:j2<N) (bN:N≤s.heap.objs.size) (hs:ZStands s.heap N z P1 P2 j1 j2 a b us vs k) (hu:us[k]?=some u) (hv:vs[k]?=some v)
  (q:∀h',ZStands h' N z P1 P2 j1 j2 a b us vs (k+1)→IsPair h' s.heap.objs.size u v→h'.objs.size=s.heap.objs.size+1→(∀c o,c≠z→c≠P2→c≠j1→c≠j2→s.heap.get? c=some o→h'.get? c=some o)→Q (some (.ref s.heap.objs.size)) {s with heap:=h'}):wpAny (model prog w) A (pyNext (.ref z)) Q E s:=by
 obtain ⟨hz,hP1,n1,n2,la,lb⟩:=hs
 rcases hz with ⟨hz,g,g',hP2⟩|⟨T,f1,o,hz,t0,hT⟩
 ·refine wpAny_pyNext_zip_item D hz hP1 hP2 n1 n2 la lb hu hv fun h' hz' hP2' n1' n2' hT' hsz hk=>q h' ⟨.inr ⟨_,false,_,hz',bN,hT'⟩,hk _ _ D.TIz D.TITO D.TIi1 D.TIi2 hP1,n1',n2',la.at fun o e=>hk _ _ D.l1z D.l1TO D.l1i1 D.l1i2 e,lb.at fun o e=>hk _ _ D.l2z D.l2TO D.l2i1 D.l2i2 e⟩ hT' hsz hk
 ·have hTz:s.TypeIs (.ref z) "zip":=⟨_,hz,rfl⟩;unfold pyNext;refine wpAny_bind (wpAny_attempt (wpAny_callSpecial?_slot (name:=Str.ofString "__next__") hTz F.slot_zip_next (wpAny_call_entry F.slot_zip_next hTz F.entry_zip_next (FS D hz hT hP1 n1 n2 la lb hu hv fun h' hz' n1' n2' hT' hsz hk=>wpAny_pure ?_) (F.args_zip_next_1 _))));exact q h' ⟨.inr ⟨T,true,o,hz',t0,hk _ _ (Nat.ne_of_gt (Nat.lt_of_lt_of_le b1 t0)) (Nat.ne_of_gt (Nat.lt_of_lt_of_le b2 t0)) (Nat.ne_of_gt (Nat.lt_of_lt_of_le b3 t0)) hT⟩,hk _ _ D.TIz D.TIi1 D.TIi2 hP1,n1',n2',la.at fun o e=>hk _ _ D.l1z D.l1i1 D.l1i2 e,lb.at fun o e=>hk _ _ D.l2z D.l2i1 D.l2i2 e⟩ hT' hsz fun c o e1 _ e3 e4 e=>hk c o e1 e3 e4 e
theorem MC {N z P1 P2 j1 j2 a b:Addr} {k:Nat} {us vs:Array Value} {Q:Option Value→Shared→Prop} (hh:A.handled=none) (D:ZipApart z P1 P2 j1 j2 a b) (hs:ZStands s.heap N z P1 P2 j1 j2 a b us vs k) (he:us[k]?=none∨vs[k]?=none)
  (q:∀h',(∀c o,c≠z→c≠P2→c≠j1→c≠j2→s.heap.get? c=some o→h'.get? c=some o)→Q none {s with heap:=h'}):wpAny (model prog w) A (pyNext (.ref z)) Q E s:=by
 obtain ⟨hz,hP1,n1,n2,la,lb⟩:=hs
 rcases hz with ⟨hz,g,g',hP2⟩|⟨T,f1,o,hz,t0,hT⟩
 ·exact wpAny_pyNext_zip_end hh D hz hP1 hP2 n1 n2 la lb he q
 ·have hTz:s.TypeIs (.ref z) "zip":=⟨_,hz,rfl⟩;unfold pyNext;refine wpAny_bind (wpAny_attempt (wpAny_callSpecial?_slot (name:=Str.ofString "__next__") hTz F.slot_zip_next (wpAny_call_entry F.slot_zip_next hTz F.entry_zip_next (HZ hh D hz hT hP1 n1 n2 la lb he fun h' e hk st=>?_) (F.args_zip_next_1 _))));obtain ⟨oe,ee,ce⟩:=st;refine wpAny_bind (wpAny_isInstance (T:="StopIteration") (b:=true) ⟨oe,ee,ce⟩ isSubtype_stop ?_);exact wpAny_pure (q _ fun c o e1 _ e3 e4 e=>hk c o e1 e3 e4 e)
theorem ZStands.keep {h h':Heap} {N z P1 P2 j1 j2 a b S:Addr} {us vs:Array Value} {k:Nat} (hs:ZStands h N z P1 P2 j1 j2 a b us vs k) (bS:S<N) (nS:∀c∈[z,P1,P2,j1,j2,a,b],c≠S) (kp:∀c o,c≠S→h.get? c=some o→h'.get? c=some o):ZStands h' N z P1 P2 j1 j2 a b us vs k:=by
 obtain ⟨hz,hP1,n1,n2,la,lb⟩:=hs;have nS':∀c,c∈[z,P1,P2,j1,j2,a,b]→∀o,h.get? c=some o→h'.get? c=some o:=fun c hc o e=>kp c o (nS c hc) e
 refine ⟨?_,nS' _ (by simp) _ hP1,n1.at fun o e=>nS' _ (by simp) o e,n2.at fun o e=>nS' _ (by simp) o e,la.at fun o e=>nS' _ (by simp) o e,lb.at fun o e=>nS' _ (by simp) o e⟩
 rcases hz with ⟨hz,g,g',hP2⟩|⟨T,f1,o,hz,t0,hT⟩
 ·exact .inl ⟨nS' _ (by simp) _ hz,g,g',nS' _ (by simp) _ hP2⟩
 ·exact .inr ⟨T,f1,o,nS' _ (by simp) _ hz,t0,kp _ _ (Nat.ne_of_gt (Nat.lt_of_lt_of_le bS t0)) hT⟩
def Pairs (h:Heap) (N:Addr) (us vs acc:Array Value) (k:Nat):Prop:=acc.size=k∧(∀(j:Nat) (v:Value),acc[j]?=some v→∃(T:Addr) (x y:Value),v=.ref T∧N≤T∧T<h.objs.size∧IsPair h T x y∧us[j]?=some x∧vs[j]?=some y)∧∀(i j:Nat) (v:Value),acc[i]?=some v→acc[j]?=some v→i=j
theorem Pairs.keep {h h':Heap} {N:Addr} {us vs acc:Array Value} {k:Nat} (p:Pairs h N us vs acc k) (kp:∀c o,N≤c→h.get? c=some o→h'.get? c=some o) (sz:h.objs.size≤h'.objs.size):Pairs h' N us vs acc k:=⟨p.1,fun j v hv=>by
 obtain ⟨T,x,y,e1,e2,e3,e4,e5⟩:=p.2.1 j v hv;exact ⟨T,x,y,e1,e2,Nat.lt_of_lt_of_le e3 sz,kp _ _ e2 e4,e5⟩,p.2.2⟩
theorem Pairs.push {h:Heap} {N T:Addr} {us vs acc:Array Value} {k:Nat} {x y:Value} (p:Pairs h N us vs acc k) (tn:∀(j:Nat),acc[j]?≠some (.ref T)) (t0:N≤T) (t1:T<h.objs.size) (t2:IsPair h T x y) (hx:us[k]?=some x) (hy:vs[k]?=some y):Pairs h N us vs (acc.push (.ref T)) (k+1):=by
 refine ⟨by rw [Array.size_push,p.1],fun j v hj=>?_,fun i j v hi hj=>?_⟩
 ·rw [Array.getElem?_push] at hj
  split at hj
  ·rename_i e;rw [p.1] at e;cases hj;rw [e];exact ⟨T,x,y,rfl,t0,t1,t2,hx,hy⟩
  ·exact p.2.1 j v hj
 ·rw [Array.getElem?_push] at hi hj
  split at hi<;>split at hj
  ·omega
  ·cases hi;exact absurd hj (tn j)
  ·cases hj;exact absurd hi (tn i)
  ·exact p.2.2 i j v hi hj
theorem HY {R:Result→Shared→Prop} (hh:A.handled=none) {N z P1 P2 j1 j2 a b S:Addr} {us vs:Array Value} (D:ZipApart z P1 P2 j1 j2 a b) (bz:∀c∈[z,P2,j1,j2,S],c<N) (nS:∀c∈[z,P1,P2,j1,j2,a,b],c≠S) (hn:min us.size vs.size≤sizeLine) (res:Value) :
  ∀(m k:Nat) (s:Shared) (acc:Array Value) (c:Nat),min us.size vs.size - k=m→k≤min us.size vs.size→N≤s.heap.objs.size→ZStands s.heap N z P1 P2 j1 j2 a b us vs k→s.heap.get? S=some {cls:=.type "list",dict:=none,data:=.seq acc c,slots := #[]}→Pairs s.heap N us vs acc k→
  (∀h' acc' c',(∀d o,d∉[z,P2,j1,j2,S]→s.heap.get? d=some o→h'.get? d=some o)→h'.get? S=some {cls:=.type "list",dict:=none,data:=.seq acc' c',slots := #[]}→Pairs h' N us vs acc' (min us.size vs.size)→R (.ok (.ret res)) {s with heap:=h'})→
  codeAny (model prog w) A (.builtin "list.extend.loop" ⟨[.ref S,.ref z,res],[]⟩) R s:=by
 have nz:S≠z:=(nS z (by simp)).symm;have nP:S≠P2:=(nS P2 (by simp)).symm;have n1:S≠j1:=(nS j1 (by simp)).symm;have n2:S≠j2:=(nS j2 (by simp)).symm;have big:∀c,N≤c→c∉[z,P2,j1,j2,S]:=fun c hc hm=>Nat.lt_irrefl _ (Nat.lt_of_lt_of_le (bz c hm) hc)
 intro m
 induction m with
 |zero =>
  intro k s acc c hm hk bN hs hS hp q;obtain rfl:k=min us.size vs.size:=by omega
  refine codeAny_builtin F.entry_extend_loop ?_;rw [Around.under_plainId F.plain_extend_loop _];show wpAny _ A.in1 (pyNext (.ref z) >>= _) _ _ s;refine wpAny_bind (MC (by simp [hh]) D hs (by rcases Nat.le_total us.size vs.size with e|e;exact .inl (by rw [Nat.min_eq_left e];simp);exact .inr (by rw [Nat.min_eq_right e];simp)) fun h' kp=>wpAny_pure ?_);have kp':∀d o,d∉[z,P2,j1,j2,S]→s.heap.get? d=some o→h'.get? d=some o:=fun d o hd e=>by
   simp only [List.mem_cons,List.mem_nil_iff,or_false,not_or] at hd;exact kp d o hd.1 hd.2.1 hd.2.2.1 hd.2.2.2.1 e
  refine q h' acc c kp' (kp S _ nz nP n1 n2 hS) ⟨hp.1,fun j v hv=>?_,hp.2.2⟩;obtain ⟨T,x,y,e1,e2,e3,e4,e5⟩:=hp.2.1 j v hv;have e4':=kp' _ _ (big T e2) e4;exact ⟨T,x,y,e1,e2,Heap.lt_size e4',e4',e5⟩
 |succ m ih =>
  intro k s acc c hm hk bN hs hS hp q;have l1:k<us.size:=by omega
  have l2:k<vs.size:=by omega
  refine codeAny_builtin F.entry_extend_loop ?_;rw [Around.under_plainId F.plain_extend_loop _];show wpAny _ A.in1 (pyNext (.ref z) >>= _) _ _ s;refine wpAny_bind (K1 D (bz _ (by simp)) (bz _ (by simp)) (bz _ (by simp)) bN hs (Array.getElem?_eq_getElem l1) (Array.getElem?_eq_getElem l2) fun h' hs' hT hsz kp=>?_);have kp':∀d o,d∉[z,P2,j1,j2,S]→s.heap.get? d=some o→h'.get? d=some o:=fun d o hd e=>by
   simp only [List.mem_cons,List.mem_nil_iff,or_false,not_or] at hd;exact kp d o hd.1 hd.2.1 hd.2.2.1 hd.2.2.2.1 e
  have hS':=kp S _ nz nP n1 n2 hS;show wpAny _ A.in1 (updateSeq S (·.push (.ref s.heap.objs.size)) >>= _) _ _ _;refine wpAny_bind ?_;have kq:∀d o,d≠S→h'.get? d=some o→(h'.update S (Obj.mapSeq (·.push (.ref s.heap.objs.size)))).get? d=some o:=fun d o hd e=>(Heap.get?_update_other _ _ (Ne.symm hd)).trans e
  have bS:S<N:=bz S (by simp);refine wpAny_updateSeq hS' rfl (wpAny_pure ⟨plainId_quiet F.plain_extend_loop _,ih (k+1) _ (acc.push (.ref s.heap.objs.size)) _ (by omega) (by omega) ?_ (hs'.keep bS nS kq) (Heap.get?_update_self _ hS' rfl) ?_ fun h2 acc' c' kp2 hS2 hp2=>?_⟩) (by rw [hp.1];omega) (by show (acc.push _).size≤sizeLine+1;rw [Array.size_push,hp.1];omega)
  ·show N≤(h'.update S _).objs.size;rw [Heap.size_update,hsz];exact Nat.le_succ_of_le bN
  ·refine (((hp.keep (h':=h') (fun c o hc e=>kp' c o (big c hc) e) (by rw [hsz];exact Nat.le_succ _)).push (fun j hj=>by obtain ⟨T,_,_,e1,_,e3,_⟩:=hp.2.1 j _ hj;cases e1;exact Nat.lt_irrefl _ e3) bN (by rw [hsz];exact Nat.lt_succ_self _) hT (Array.getElem?_eq_getElem l1) (Array.getElem?_eq_getElem l2))).keep (fun c o hc e=>kq c o (Nat.ne_of_gt (Nat.lt_of_lt_of_le bS hc)) e) ?_;show h'.objs.size≤(h'.update S _).objs.size;rw [Heap.size_update];exact Nat.le_refl _
  ·refine q h2 acc' c' (fun d o hd e=>kp2 d o hd (kq d o (fun x=>hd (by rw [x];simp)) (kp' d o hd e))) hS2 hp2
theorem EX:typeLookup (.type "zip") "__len__"=pure none:=by rw [typeLookup_type,builtinLookup_eq_fast];kernel_rfl
theorem EQ:typeLookup (.type "zip") "__length_hint__"=pure none:=by rw [typeLookup_type,builtinLookup_eq_fast];kernel_rfl
theorem EY {R:Result→Shared→Prop} (hh:A.handled=none) {N z P1 P2 j1 j2 a b S:Addr} {us vs:Array Value} (D:ZipApart z P1 P2 j1 j2 a b) (bz:∀c∈[z,P2,j1,j2,S],c<N) (nS:∀c∈[z,P1,P2,j1,j2,a,b],c≠S) (hn:min us.size vs.size≤sizeLine) (res:Value) (c₀:Nat) (bN:N≤s.heap.objs.size) (hz:IsZip s.heap z P1 P2 .none)
  (hs:ZStands s.heap N z P1 P2 j1 j2 a b us vs 0) (hS:s.heap.get? S=some {cls:=.type "list",data:=.seq #[] c₀})
  (q:∀h' acc' c',(∀d o,d∉[z,P2,j1,j2,S]→s.heap.get? d=some o→h'.get? d=some o)→h'.get? S=some {cls:=.type "list",dict:=none,data:=.seq acc' c',slots := #[]}→Pairs h' N us vs acc' (min us.size vs.size)→R (.ok (.ret res)) {s with heap:=h'}) :
  wpAny (model prog w) A.in1 (Builtin.List.listExtendWith (.ref S) (.ref z) res)
   (fun fin s'=>match fin with|.done f=>R (.ok f) s'|.again c'=>c'.quiet=true∧codeAny (model prog w) A c' R s') (fun e s'=>R (.error e) s') s:=by
 have hT:s.TypeIs (.ref z) "zip":=⟨_,hz,rfl⟩;have nz:S≠z:=(nS z (by simp)).symm;unfold Builtin.List.listExtendWith;refine wpAny_bind (wpAny_typeOf hT ?_);have e1:Builtin.List.listSameRef (.ref S) (.ref z)=false:=by simp [Builtin.List.listSameRef,nz]
 have e2:(Value.type "zip" == Value.type "list")=false:=by decide
 have e3:(Value.type "zip" == Value.type "tuple")=false:=by decide
 simp only [e1,e2,e3,Bool.or_false,Bool.false_eq_true,if_false];refine wpAny_bind (wpAny_pyIter_zip hz ?_);refine wpAny_bind (wpAny_holding ?_)
 unfold Builtin.List.listLengthHint;refine wpAny_bind (wpAny_specialOf hT EX ?_);show wpAny _ _ (specialOf (Value.ref z) (Str.ofString "__length_hint__") >>= _) _ _ _;refine wpAny_bind (wpAny_specialOf hT EQ ?_);refine wpAny_pure ?_
 show wpAny _ _ (rule "list.extend.makes-room" >>= fun _=>Builtin.List.listTouch (.ref S) >>= fun _=>again (.builtin "list.extend.loop" ⟨[.ref S,.ref z,res],[]⟩)) _ _ _;refine wpAny_bind (wpAny_rule ?_);refine wpAny_bind ?_
 show wpAny _ _ (updateSeq S (·.push .none) >>= fun _=>updateSeq S (·.pop)) _ _ _;refine wpAny_bind (wpAny_updateSeq hS rfl ?_);have g2:=Heap.get?_update_self (Obj.mapSeq (·.push Value.none)) hS rfl;refine wpAny_updateSeq (hz:=by seq_fits) g2 rfl ?_;have g3:=Heap.get?_update_self (Obj.mapSeq (·.pop)) g2 rfl;have kq:∀d o,d≠S→s.heap.get? d=some o→((s.heap.update S (Obj.mapSeq (·.push Value.none))).update S (Obj.mapSeq (·.pop))).get? d=some o:=fun d o hd e=>(Heap.get?_update_other _ _ (Ne.symm hd)).trans ((Heap.get?_update_other _ _ (Ne.symm hd)).trans e)
 refine wpAny_pure ⟨plainId_quiet F.plain_extend_loop _,HY hh D bz nS hn res _ 0 _ #[] _ rfl (Nat.zero_le _) ?_ (hs.keep (bz S (by simp)) nS kq) g3 ⟨rfl,fun j v hv=>by simp at hv,fun i j v hi=>by simp at hi⟩ fun h' acc' c' kp hS' hp=>?_⟩
 ·show N≤((s.heap.update S _).update S _).objs.size;rw [Heap.size_update,Heap.size_update];exact bN
 ·exact q h' acc' c' (fun d o hd e=>kp d o hd (kq d o (fun x=>hd (by rw [x];simp)) e)) hS' hp
theorem EI {Q:Value→Shared→Prop} (hh:A.handled=none) {z P1 P2 j1 j2 a b:Addr} {us vs:Array Value} (D:ZipApart z P1 P2 j1 j2 a b) (hn:min us.size vs.size≤sizeLine) (hz:IsZip s.heap z P1 P2 .none)
  (hs:∀N,ZStands s.heap N z P1 P2 j1 j2 a b us vs 0) (q:∀h' acc' c',(∀d o,d∉[z,P2,j1,j2]→s.heap.get? d=some o→h'.get? d=some o)→h'.get? s.heap.objs.size=some {cls:=.type "list",dict:=none,data:=.seq acc' c',slots := #[]}→Pairs h' (s.heap.objs.size+1) us vs acc' (min us.size vs.size)→Q (.ref s.heap.objs.size) {s with heap:=h'}) :
  wpAny (model prog w) A (call (.type "list") [.ref z]) Q E s:=by
 have lt:∀{c:Addr} {o:Obj},s.heap.get? c=some o→c<s.heap.objs.size:=fun e=>Heap.lt_size e
 obtain ⟨h2,hP1,n1,n2,la,lb⟩:=hs (s.heap.objs.size+1);have bz:∀c∈[z,P1,P2,j1,j2,a,b],c<s.heap.objs.size:=by
  have hP2:P2<s.heap.objs.size:=by
   rcases h2 with ⟨_,g,g',h⟩|⟨T,f1,o,h,_⟩
   ·exact lt h
   ·have y:=hz.symm.trans h;cases y
  intro c hc;simp only [List.mem_cons,List.mem_nil_iff,or_false] at hc;obtain ⟨_,w1,_⟩:=id n1;obtain ⟨_,w2,_⟩:=id n2;obtain ⟨_,w3,_⟩:=id la;obtain ⟨_,w4,_⟩:=id lb
  rcases hc with rfl|rfl|rfl|rfl|rfl|rfl|rfl
  ·exact lt hz
  ·exact lt hP1
  ·exact hP2
  ·exact lt w1
  ·exact lt w2
  ·exact lt w3
  ·exact lt w4
 refine callType_codes (Q₁:=fun obj s₁=>obj=.ref s.heap.objs.size∧s₁={s with heap:=s.heap.push {cls:=.type "list",data:=.seq #[]}}) F.called_list (F.typeCall_list_1 _) F.entry_list_init (code_list_new _ ⟨rfl,rfl⟩) fun obj s₁ e₁=>?_
 obtain ⟨rfl,rfl⟩:=e₁;have g1:(s.heap.push {cls:=.type "list",data:=.seq #[]}).get? s.heap.objs.size=some {cls:=.type "list",data:=.seq #[]}:=Heap.get?_push_size _ rfl;have kp0:∀d o,s.heap.get? d=some o→(s.heap.push {cls:=.type "list",data:=.seq #[]}).get? d=some o:=fun d o e=>Heap.get?_push_of_some _ e
 refine ⟨⟨_,g1,rfl⟩,F.args_list_init_2 _ _,?_⟩;show wpAny _ _ (do let old ← Builtin.List.listItems (.ref s.heap.objs.size);Builtin.List.listUpdate (.ref s.heap.objs.size) (fun _ => #[]);letGo old.toList.reverse;Builtin.List.listExtendWith (.ref s.heap.objs.size) (.ref z) .none) _ _ _;refine wpAny_bind ?_;unfold Builtin.List.listItems;refine wpAny_bind (wpAny_seqItems g1 rfl (wpAny_pure ?_));show wpAny _ _ (updateSeq s.heap.objs.size (fun _ => #[]) >>= fun _=>letGo (#[]:Array Value).toList.reverse >>= fun _=>Builtin.List.listExtendWith (.ref s.heap.objs.size) (.ref z) .none) _ _ _;refine wpAny_bind (wpAny_updateSeq g1 rfl ?_);have g2:=Heap.get?_update_self (Obj.mapSeq (fun _=>(#[]:Array Value))) g1 rfl;have kq:∀d o,d≠s.heap.objs.size→s.heap.get? d=some o→((s.heap.push {cls:=.type "list",data:=.seq #[]}).update s.heap.objs.size (Obj.mapSeq (fun _=>(#[]:Array Value)))).get? d=some o:=fun d o hd e=>(Heap.get?_update_other _ _ (Ne.symm hd)).trans (kp0 d o e)
 have nS:∀c∈[z,P1,P2,j1,j2,a,b],c≠s.heap.objs.size:=fun c hc=>Nat.ne_of_lt (bz c hc)
 refine wpAny_bind (wpAny_letGo ?_);refine EY (A:=A.in1) (N:=s.heap.objs.size+1) (by simp [hh]) D (fun c hc=>?_) nS hn .none _ ?_ (kq _ _ (nS z (by simp)) hz) ((hs (s.heap.objs.size+1)).keep (Nat.lt_succ_self _) nS kq) g2 fun h' acc' c' kp hS' hp=>⟨rfl,q h' acc' c' (fun d o hd e=>kp d o ?_ (kq d o ?_ e)) hS' hp⟩
 ·simp only [List.mem_cons,List.mem_nil_iff,or_false] at hc
  rcases hc with rfl|rfl|rfl|rfl|rfl
  ·exact Nat.lt_succ_of_lt (bz _ (by simp))
  ·exact Nat.lt_succ_of_lt (bz _ (by simp))
  ·exact Nat.lt_succ_of_lt (bz _ (by simp))
  ·exact Nat.lt_succ_of_lt (bz _ (by simp))
  ·exact Nat.lt_succ_self _
 ·show s.heap.objs.size+1≤((s.heap.push _).update _ _).objs.size;rw [Heap.size_update,Heap.size_push];exact Nat.le_refl _
 ·have:=lt e;simp only [List.mem_cons,List.mem_nil_iff,or_false,not_or] at hd ⊢;exact ⟨hd.1,hd.2.1,hd.2.2.1,hd.2.2.2,Nat.ne_of_lt this⟩
 ·exact Nat.ne_of_lt (lt e)
end
end L2
namespace L2
open PySem PySem.Spec PyProof.Rows
section
variable {X:Cx} {pins:List (Addr×Obj)} {σ:List (Option V)} {H:Hp} {s:Shared} {h':Heap}
theorem Inv.laidAll {t':Nat} {H':Hp} (I:Inv X pins σ H s) (k:∀b u,s.heap.get? b=some u→h'.get? b=some u) (hold:Same H H') (hnew:∀b u,H' b=some u→H b=some u∨(s.heap.objs.size≤b∧ObjOk X.prog X.w H' h' b u)):Inv X pins σ H' {s with heap:=h',toks:=t'}:=by
  refine I.step (g':=s.gens) (d':=s.drawn) (ch:=[]) (fun b hb=>by cases hb) (fun b o _ _ _ e _=>k b o e) (fun b o _ _ _ e _=>⟨o.slots,k b o e⟩) (fun b o _ e n=>?_)
    (fun b o _ e=>⟨o,k b o e⟩) (fun b xs e=>hold _ _ e) (fun b u v e=>hold _ _ e) (fun b ps e=>⟨#[],by rw [hold _ _ e];simp⟩) (fun m hm=>?_) (fun b u e=>?_) I.bare
  · cases hb:H' b with
    |none=>rfl
    |some u =>
      rcases hnew b u hb with z|⟨z,_⟩
      · rw [n] at z;cases z
      · exact absurd (Heap.lt_size e) (Nat.not_lt_of_le z)
  · obtain ⟨o,es,ep,ho,r⟩:=hm
    exact ⟨o,es,ep,k _ o ho,r⟩
  · rcases hnew b u e with z|⟨_,z⟩
    · exact (I.hok b u z).stay (fun c v _ q=>k c v q) (fun c q=>hold _ _ q) fun c xs q=>hold _ _ q
    · exact z
end
section
variable {X:Cx}
def IE (K:PySem.W.Frag) (ta:TA):TE:=fun σ H Q=>ta σ H fun vs H1=>∃(a1 a2:Addr) (xs ys:List V),vs=[.ref a1,.ref a2]∧SqL K H1 a1 xs∧SqL K H1 a2 ys∧
 ∀(l:Addr) (ts:List V) (H':Hp),Same H1 H'→H1 l=none→H' l=some (.lst ts)→ts.length=min xs.length ys.length→(∀(i:Nat) (v:V),ts[i]?=some v→∃(T:Addr) (x y:V),v=.ref T∧H' T=some (.tup [x,y])∧xs[i]?=some x∧ys[i]?=some y)→Q (.ref l) H'
open Classical in
theorem FB {a b:Expr} {ta:TA} {p p1 pos pos1:Pos} (hc:X.calm=true) (hgl:Gl X "list") (hml:X.mg "list"=none) (hg:Gl X "zip") (hm:X.mg "zip"=none) (ha:PA X [a,b] ta) (hs:starEach [a,b] X.env=[(false,eval a X.env),(false,eval b X.env)]:=by rfl) (hs2:starEach [b] X.env=[(false,eval b X.env)]:=by rfl)
  (hs3:starEach [.Call (.Name "zip" p1) [a,b] [] pos1] X.env=[(false,eval (.Call (.Name "zip" p1) [a,b] [] pos1) X.env)]:=by rfl) :
  PE X (.Call (.Name "list" p) [.Call (.Name "zip" p1) [a,b] [] pos1] [] pos) (IE X.K ta):=by
 intro pins s σ H Q I h;refine wpAny_Call_Name_kw (JD I hgl hml PyProof.Rows.boot_list ?_);refine PyProof.Rows.callWith_type1 ?_ hs3 rfl;rw [hs3];show wpAny _ _ (spliced [(false,eval (.Call (.Name "zip" p1) [a,b] [] pos1) X.env)]) _ _ s;refine Calls.spliced_cons ?_;refine Call_ (JD I hg hm boot_zip (PyProof.Rows.callWith_type1 (jQ (ha pos1 pins s σ H _ I h) fun us s1 ⟨vs,H1,I1,r1,q1⟩=>?_) (by rw [hs,hs2]) (by rw [hs2];rfl)));obtain ⟨a1,a2,xs,ys,e,hq1,hq2,q⟩:=q1;subst e;cases r1 with
 |cons r rr =>
  cases rr with
  |cons r' rr =>
   cases rr;cases r;cases r';obtain ⟨its1,rv1,p1,z1⟩:=I1.list hq1;obtain ⟨its2,rv2,p2,z2⟩:=I1.list hq2;have lt1:a1<s1.heap.objs.size:=by obtain ⟨o,e,_⟩:=p1.isList;exact Heap.lt_size e
   have lt2:a2<s1.heap.objs.size:=by obtain ⟨o,e,_⟩:=p2.isList;exact Heap.lt_size e
   refine call_zip_2 p1.isList p2.isList fun h1 hz hTI hTO n1 n2 hsz hk=>?_
   refine Calls.spliced_nil ?_;have D:ZipApart (s1.heap.objs.size+4) (s1.heap.objs.size+2) (s1.heap.objs.size+3) s1.heap.objs.size (s1.heap.objs.size+1) a1 a2:=by
    constructor<;>(intro e;simp only [Addr] at *;omega)
   have ll1:=rv1.length;have ll2:=rv2.length;refine EI (us:=its1.toArray) (vs:=its2.toArray) (I.ok.hd hc) D (by rw [List.size_toArray,List.size_toArray];omega) hz (fun N=>⟨.inl ⟨hz,_,_,hTO⟩,hTI,n1,n2,p1.isList.at fun o e=>hk _ o e,p2.isList.at fun o e=>hk _ o e⟩) fun h2 acc c kp hS hp=>?_
   show EP X pins σ Q (.ref h1.objs.size) {s1 with heap:=h2};have kall:∀b u,s1.heap.get? b=some u→h2.get? b=some u:=fun b u e=>by
    have hb:b<s1.heap.objs.size:=Heap.lt_size e;refine kp b u ?_ (hk b u e);simp only [List.mem_cons,List.mem_nil_iff,or_false,not_or];simp only [Addr] at *;omega
   have hmin:min its1.toArray.size its2.toArray.size=min xs.length ys.length:=by rw [List.size_toArray,List.size_toArray,← ll1,← ll2]
   rw [hmin] at hp;have getV:∀(j:Nat),j<min xs.length ys.length→∃(T:Addr) (u v:Value) (x y:V),acc[j]?=some (.ref T)∧h1.objs.size+1≤T∧IsPair h2 T u v∧xs[j]?=some x∧ys[j]?=some y∧RelV x u∧RelV y v:=fun j hj=>by
    have hja:j<acc.size:=by rw [hp.1];exact hj
    obtain ⟨T,u,v,e1,e2,e3,e4,e5,e6⟩:=hp.2.1 j _ (Array.getElem?_eq_getElem hja);have hx:xs[j]?=some xs[j]:=List.getElem?_eq_getElem (by omega);have hy:ys[j]?=some ys[j]:=List.getElem?_eq_getElem (by omega);obtain ⟨u',hu',ru⟩:=rv1.get hx;obtain ⟨v',hv',rv⟩:=rv2.get hy;have e5':its1[j]?=some u:=by simpa using e5
    have e6':its2[j]?=some v:=by simpa using e6
    obtain rfl:u'=u:=Option.some.inj (hu'.symm.trans e5');obtain rfl:v'=v:=Option.some.inj (hv'.symm.trans e6');exact ⟨T,u',v',_,_,by rw [Array.getElem?_eq_getElem hja,e1],e2,e4,hx,hy,ru,rv⟩
   let cell:Nat→HO:=fun j=>.tup [xs.getD j .non,ys.getD j .non]
   let ts:List V:=acc.toList.map fun v=>match v with|.ref T=>.ref T|_=>.non
   let H2:Hp:=fun c=>if c=h1.objs.size then some (.lst ts) else if e:∃j:Nat,acc[j]?=some (.ref c) then some (cell (Classical.choose e)) else H1 c
   have hS2:H2 h1.objs.size=some (.lst ts):=if_pos rfl;have hT2:∀(j:Nat) (T:Addr),acc[j]?=some (.ref T)→h1.objs.size+1≤T→H2 T=some (cell j):=fun j T e hT=>by
    have hx:∃j:Nat,acc[j]?=some (.ref T):=⟨j,e⟩;show (if T=h1.objs.size then _ else if e:∃j:Nat,acc[j]?=some (.ref T) then some (cell (Classical.choose e)) else H1 T)=_;rw [if_neg (Nat.ne_of_gt hT),dif_pos hx,hp.2.2 _ _ _ (Classical.choose_spec hx) e]
   have hle:s1.heap.objs.size≤h1.objs.size:=by rw [hsz];exact Nat.le_add_right _ _
   have hsame:Same H1 H2:=fun c o e=>by
    have n1':c≠h1.objs.size:=jW e (I1.hok.fresh hle);have n2':¬∃j:Nat,acc[j]?=some (.ref c):=fun ⟨j,ej⟩=>by
     obtain ⟨T,_,_,e1,e2,_⟩:=hp.2.1 j _ ej;cases e1;have:H1 c=none:=I1.hok.fresh (Nat.le_trans hle (Nat.le_of_succ_le e2));rw [this] at e;cases e
    show (if c=h1.objs.size then _ else if e:∃j:Nat,acc[j]?=some (.ref c) then some (cell (Classical.choose e)) else H1 c)=_;rw [if_neg n1',dif_neg n2'];exact e
   have hts:ts.length=min xs.length ys.length:=by show (acc.toList.map _).length=_;rw [List.length_map,Array.length_toList,hp.1]
   have hvals:Vals ts acc.toList:=by
    have key:∀l:List Value,(∀v∈l,∃T,v=.ref T)→Vals (l.map fun v=>match v with|.ref T=>V.ref T|_=>.non) l:=fun l=>by
     induction l with
     |nil=>intro _;exact .nil
     |cons v l ih =>
      intro hl;obtain ⟨T,rfl⟩:=hl v List.mem_cons_self;exact .cons rfl (ih fun u hu=>hl u (List.mem_cons_of_mem _ hu))
    refine key _ fun v hv=>?_
    obtain ⟨j,hj⟩:=List.mem_iff_getElem?.mp hv;rw [Array.getElem?_toList] at hj;obtain ⟨T,_,_,e1,_⟩:=hp.2.1 j v hj;exact ⟨T,e1⟩
   have hzl:min xs.length ys.length≤sizeLine:=by omega
   refine ⟨.ref h1.objs.size,H2,I1.laidAll (t':=s1.toks) kall hsame fun d o e=>?_,rfl,?_⟩
   ·by_cases c1:d=h1.objs.size
    ·subst c1;rw [hS2] at e;cases e;exact .inr ⟨hle,by rw [hts];exact hzl,acc.toList,c,hvals,hS⟩
    ·by_cases c2:∃j:Nat,acc[j]?=some (.ref d)
     ·obtain ⟨j,ej⟩:=c2;have hj:j<min xs.length ys.length:=by rw [← hp.1];exact (Array.getElem?_eq_some_iff.mp ej).1
      obtain ⟨T,u,v,x,y,e1,e2,e3,e4,e5,ru,rv⟩:=getV j hj;obtain rfl:d=T:=by have:=ej.symm.trans e1;cases this;rfl
      rw [hT2 j d ej e2] at e;cases e;refine .inr ⟨Nat.le_trans hle (Nat.le_of_succ_le e2),(by show 2≤sizeLine;decide),[u,v],?_,⟨_,e3,rfl,_,rfl⟩⟩;rw [show xs.getD j .non=x by rw [List.getD_eq_getElem?_getD,e4];rfl,show ys.getD j .non=y by rw [List.getD_eq_getElem?_getD,e5];rfl];exact .cons ru (.cons rv .nil)
     ·refine .inl ?_;have e':(if d=h1.objs.size then some (HO.lst ts) else if e:∃j:Nat,acc[j]?=some (.ref d) then some (cell (Classical.choose e)) else H1 d)=some o:=e;rw [if_neg c1,dif_neg c2] at e';exact e'
   ·refine q _ ts H2 hsame (I1.hok.fresh hle) hS2 hts fun i v hv=>?_
    have hi:i<min xs.length ys.length:=by rw [← hts];exact (List.getElem?_eq_some_iff.mp hv).1
    obtain ⟨T,u,w',x,y,e1,e2,e3,e4,e5,_⟩:=getV i hi;have hv':(acc.toList.map fun v=>match v with|.ref T=>V.ref T|_=>.non)[i]?=some v:=hv;rw [List.getElem?_map,Array.getElem?_toList,e1] at hv';cases hv';refine ⟨T,x,y,rfl,?_,e4,e5⟩;rw [hT2 i T e1 e2];show some (HO.tup [xs.getD i .non,ys.getD i .non])=_;rw [List.getD_eq_getElem?_getD,e4,List.getD_eq_getElem?_getD,e5];rfl
end
end L2
namespace L2
open PySem PySem.Spec PyProof.Rows
theorem nO {P:List Str→Prop} (h0:P []) (hs:∀zs z,P zs→P (zs++[z])) (zs:List Str):P zs:=by
 have key:∀l:List Str,P l.reverse:=fun l=>by
  induction l with
  |nil=>exact h0
  |cons z l ih=>rw [List.reverse_cons];exact hs _ _ ih
 rw [← List.reverse_reverse zs];exact key _
def qY (zs:List Str):List Str:=zs.foldl (fun σ z=>if σ.contains z then σ else σ++[z]) []
theorem iP (zs:List Str) (z:Str):qY (zs++[z])=if (qY zs).contains z then qY zs else qY zs++[z]:=by unfold qY;rw [List.foldl_append];rfl
theorem oQ (zs:List Str):(qY zs).length≤zs.length:=by
 induction zs using nO with
 |h0=>exact Nat.le_refl _
 |hs zs z ih =>
  rw [iP,List.length_append,List.length_singleton]
  split
  ·omega
  ·rw [List.length_append,List.length_singleton];omega
theorem KD (zs:List Str) (k:Str):(qY zs).contains k=zs.contains k:=by
 induction zs using nO with
 |h0=>rfl
 |hs zs z ih =>
  rw [iP]
  by_cases h:(qY zs).contains z=true
  ·rw [if_pos h]
   by_cases e:k=z
   ·rw [e,h];simp
   ·rw [ih];simp [e]
  ·rw [if_neg h,List.contains_append,List.contains_append,ih]
theorem iH (zs:List Str):(qY zs).length=zs.length↔zs.Nodup:=by
 induction zs using nO with
 |h0=>exact ⟨fun _=>List.nodup_nil,fun _=>rfl⟩
 |hs zs z ih =>
  have hle:=oQ zs;have hc:=KD zs z;rw [iP,List.length_append,List.length_singleton,List.nodup_append]
  by_cases h:(qY zs).contains z=true
  ·rw [if_pos h];rw [h] at hc;refine ⟨fun e=>absurd e (by omega),fun ⟨_,_,e⟩=>absurd rfl (e z (List.contains_iff_mem.mp hc.symm) z List.mem_cons_self)⟩
  ·rw [if_neg h,List.length_append,List.length_singleton];rw [Bool.eq_false_iff.mpr h] at hc;refine ⟨fun e=>⟨ih.mp (by omega),List.nodup_cons.mpr ⟨List.not_mem_nil,List.nodup_nil⟩,fun a ha b hb=>?_⟩,fun ⟨e,_,_⟩=>by rw [ih.mpr e]⟩;rw [List.mem_singleton.mp hb];rintro rfl;rw [List.contains_iff_mem.mpr ha] at hc;cases hc
section
variable {prog:Program} {w:World} {A:Around} {s:Shared} {E:Value→Shared→Prop}
theorem IL {R:Result→Shared→Prop} {J:Addr} {fp wr:List Addr} {G:Array GenState→Array GenState→Prop} {zs:List Str} {Pv:Nat→Value→Prop} {St:Nat→Shared→Prop} (W:WalksS prog w A.in1 J fp wr G zs.length Pv St) (D:Addr) (nf:D∉fp)
  (hv:∀i v,Pv i v→∃(z:Str) (t:Tok),zs[i]?=some z∧v=.str z t) (hb:zs.length+1<scanBound) :
  ∀(m i:Nat) (s:Shared),zs.length - i=m→i≤zs.length→St i s→s.heap.SetOf (strKind prog w) D (fun k=>(qY (zs.take i)).contains k) (qY (zs.take i)).length→
   (∀s',Moved (D::wr) G s s'→s'.heap.SetOf (strKind prog w) D (fun k=>(qY zs).contains k) (qY zs).length→R (.ok (.ret .none)) s')→
   codeAny (model prog w) A (.builtin "set.update.loop" ⟨[.ref D,.ref J],[]⟩) R s:=by
 have nw:D∉wr:=fun e=>nf (W.sub _ e)
 have sub:∀b∈wr,b∈D::wr:=fun b e=>List.mem_cons_of_mem _ e
 have hold:∀{s s':Shared} {S:Str→Bool} {n:Nat},Moved wr G s s'→s.heap.SetOf (strKind prog w) D S n→s'.heap.SetOf (strKind prog w) D S n:=fun hm ⟨o,es,ep,t,ho,rest⟩=>⟨o,es,ep,t,hm.heap D _ nw ho,rest⟩
 intro m
 induction m with
 |zero =>
  intro i s hm hi hst hS q;obtain rfl:i=zs.length:=by omega
  rw [List.take_length] at hS;refine codeAny_builtin F.entry_set_update_loop ?_;rw [Around.under_plainId F.plain_set_update_loop _];show wpAny _ _ (pyNext (.ref J) >>= _) _ _ s;refine wpAny_bind (W.done s _ _ hst fun s' hm=>wpAny_pure (q s' (hm.mono sub) (hold hm hS)))
 |succ m ih =>
  intro i s hm hi hst hS q;have lt:i<zs.length:=by omega
  refine codeAny_builtin F.entry_set_update_loop ?_;rw [Around.under_plainId F.plain_set_update_loop _];show wpAny _ _ (pyNext (.ref J) >>= _) _ _ s;refine wpAny_bind (W.item i s _ _ lt hst fun v s' hP hst' hm'=>?_);obtain ⟨z,t,hz,rfl⟩:=hv i v hP;have hS':=hold hm' hS;have hlen:(qY (zs.take i)).length≤i:=Nat.le_trans (oQ _) (List.length_take_le ..);have hnext:qY (zs.take (i+1))=if (qY (zs.take i)).contains z then qY (zs.take i) else qY (zs.take i)++[z]:=by rw [List.take_add_one,hz];exact iP _ _
  show wpAny _ _ (holding [Value.str z t] (setAdd D (.str z t)) >>= _) _ _ s';refine wpAny_bind (wpAny_holding ?_);unfold setAdd;refine wpAny_holding (wpAny_bind ((strKind prog w).pyHash (k:=z) (strKind_is _ _ _ _) ?_));refine wpAny_setAddHashed_of (knd:=strKind prog w) (s:={s' with toks:=s'.toks+1}) (strKind_is _ _ _ _) rfl hS' (by omega) fun h' hsb hS2=>?_
  have hSn:h'.SetOf (strKind prog w) D (fun k=>(qY (zs.take (i+1))).contains k) (qY (zs.take (i+1))).length:=by
   refine SetOf_congr hS2 (fun k=>?_) ?_
   ·rw [hnext]
    split
    ·rename_i e
     by_cases ek:k=z
     ·rw [ek,e];simp
     ·rw [decide_eq_false ek,Bool.or_false]
    ·rw [List.contains_append,List.contains_cons,List.contains_nil,Bool.or_false]
     by_cases ek:k=z
     ·rw [ek];simp
     ·rw [decide_eq_false ek];rw [beq_eq_false_iff_ne.mpr ek]
   ·rw [hnext]
    split<;>simp
  refine wpAny_pure ⟨plainId_quiet F.plain_set_update_loop _,ih (i+1) _ (by omega) lt (W.frame _ s' _ _ hst' (Nat.le_succ _) fun b hb o e=>?_) hSn fun s2 hm2 hS2=>?_⟩
  ·rw [hsb.2 b (fun x:b=D=>nf (by rw [← x];exact hb))];exact e
  ·refine q s2 (Moved.trans W.gtrans ((hm'.mono sub).then_heap (Nat.le_succ _) fun b o hb e=>?_) hm2) hS2;rw [hsb.2 b (fun x:b=D=>hb (by rw [x];exact List.mem_cons_self))];exact e
set_option maxHeartbeats 3200000 in
theorem EH {Q:Value→Shared→Prop} {l:Addr} {us:Array Value} {zs:List Str} (hh:A.handled=none) (hl:s.heap.IsList l us) (hn:us.size=zs.length) (hv:∀(i:Nat) (v:Value),us[i]?=some v→∃(z:Str) (t:Tok),zs[i]?=some z∧v=.str z t) (hb:zs.length+1<scanBound)
  (q:∀(h':Heap) (tk:Nat),h'.SetOf (strKind prog w) s.heap.objs.size (fun k=>(qY zs).contains k) (qY zs).length→(∀b o,s.heap.get? b=some o→h'.get? b=some o)→Q (.ref s.heap.objs.size) {s with heap:=h',toks:=tk}) :
  wpAny (model prog w) A (call (.type "set") [.ref l]) Q E s:=by
 obtain ⟨c,tl,mr⟩:=F.called_set.mro;have made:=F.called_set.made;have subt:=F.called_set.sub;refine wpAny_call (codeAny_of_tree (show wpAny _ _ (callAny (.type "set") _) _ _ _ from wpAny_pure ⟨Code.quiet_builtin _ (by decide +kernel),codeAny_builtin F.entry_type_call ?_⟩));rw [Around.under_plain (weight_type_call_type "set" [.ref l] []) rfl];have u1:=F.called_set.notType;have u2:=F.called_set.canCreate;have u3:=F.typeCall_set_1 (.ref l)
 repeat (any_goals (first|assumption|wp_step))
 refine codeAny_mono (code_set_new_1 (.ref l) (E:=E) (Q₁:=fun x s₁=>∃b:Bool,x=.ref s.heap.objs.size∧s₁={s with heap:=s.heap.push {cls:=.type "set",dict:=none,data:=.set #[] 0 (.fresh 0 0 b)}}) fun b=>⟨b,rfl,rfl⟩) fun r s₁ hr=>?_
 match r,hr with
 |.error e,hr=>exact hr
 |.ok (.ret x),hr =>
  obtain ⟨b,rfl,rfl⟩:=hr;have g1:(s.heap.push {cls:=.type "set",dict:=none,data:=.set #[] 0 (.fresh 0 0 b)}).get? s.heap.objs.size=some {cls:=.type "set",dict:=none,data:=.set #[] 0 (.fresh 0 0 b)}:=Heap.get?_push_size _ rfl;have ty:Shared.TypeIs {s with heap:=s.heap.push {cls:=.type "set",dict:=none,data:=.set #[] 0 (.fresh 0 0 b)}} (.ref s.heap.objs.size) "set":=⟨_,g1,rfl⟩;have u4:=F.called_set.init.lookup;have u5:=F.called_set.init.bind (.ref s.heap.objs.size)
  repeat (any_goals (first|assumption|wp_step))
  refine codeAny_mono (codeAny_call_builtin (R:=wants (fun r s₂=>r=.none∧∃h' tk,s₂={s with heap:=h',toks:=tk}∧h'.SetOf (strKind prog w) s.heap.objs.size (fun k=>(qY zs).contains k) (qY zs).length∧(∀b o,s.heap.get? b=some o→h'.get? b=some o)) E) F.called_set.init.plain F.entry_set_init (check_set_init_1 ty ?_)) fun r₂ s₂ hr₂=>?_
  ·obtain ⟨⟨k1,k2,k3,k4⟩,eo,ec,nl,ed⟩:=hl;simp only at ec ed;subst ec;subst ed
   have eo':(s.heap.push {cls:=.type "set",dict:=none,data:=.set #[] 0 (.fresh 0 0 b)}).get? l=some {cls:=.type "list",dict:=k2,data:=.seq us nl,slots:=k4}:=Heap.get?_push_of_some _ eo;have u6:=F.sub_list_set;have u7:=F.sub_list_frozenset;have u8:(Value.type "list" == Value.type "dict")=false:=by decide
   have l1:(s.heap.push {cls:=.type "set",dict:=none,data:=.set #[] 0 (.fresh 0 0 b)}).IsList l us:=⟨_,eo',rfl,nl,rfl⟩;have ll:l<s.heap.objs.size:=Heap.lt_size eo;unfold Builtin.«set.__init__» noKeywords Builtin.Frozenset.updateFrom;generalize hPI:pyIter=PI
   wp_walk
   subst hPI;refine wpAny_pyIter_list l1 (wpAny_bind (wpAny_runValue ?_));have hnI:l≠(s.heap.push {cls:=.type "set",dict:=none,data:=.set #[] 0 (.fresh 0 0 b)}).objs.size:=by rw [Heap.size_push];exact Nat.ne_of_lt (Nat.lt_succ_of_lt ll)
   have nf:s.heap.objs.size∉[(s.heap.push {cls:=.type "set",dict:=none,data:=.set #[] 0 (.fresh 0 0 b)}).objs.size,l]:=by
    rw [Heap.size_push,List.mem_cons,List.mem_singleton,not_or];exact ⟨Nat.ne_of_lt (Nat.lt_succ_self _),Nat.ne_of_gt ll⟩
   refine IL (zs:=zs) (hn▸(Walks.list (by simp [hh]) _ l hnI us).toS) s.heap.objs.size nf (fun i v e=>hv i v e) hb _ 0 _ rfl (Nat.zero_le _) ⟨⟨_,Heap.get?_push_size _ rfl,rfl,rfl⟩,l1.push _⟩ ?hS ?hR
   case hS=>exact SetOf_congr ((setObjOf_fresh (knd:=strKind prog w) b).setOf (Heap.get?_push_of_some _ g1) (by unfold scanBound;omega)) (fun _=>rfl) rfl
   case hR =>
    intro s' hm hS';obtain ⟨h',g',d',tk',os'⟩:=s';obtain rfl:g'=s.gens:=hm.gens;obtain rfl:d'=s.drawn:=hm.drawn;obtain rfl:os'=s.os:=hm.os;refine wpAny_pure (show wpAny _ _ (ret Value.none) _ _ _ from wpAny_pure ⟨rfl,h',tk',rfl,hS',fun b o e=>?_⟩);have lb:=Heap.lt_size e;refine hm.heap b o ?_ (Heap.get?_push_of_some _ (Heap.get?_push_of_some _ e));rw [List.mem_cons,List.mem_singleton,not_or,Heap.size_push];exact ⟨Nat.ne_of_lt lb,Nat.ne_of_lt (Nat.lt_succ_of_lt lb)⟩
  ·match r₂,hr₂ with
   |.error e,hr₂=>exact hr₂
   |.ok (.ret x),hr₂ =>
    obtain ⟨rfl,h',tk,rfl,hS',kp⟩:=hr₂
    repeat (any_goals (first|assumption|wp_step))
    exact q _ _ hS' kp
end
end L2
namespace L2
open PySem PySem.Spec PyProof.Rows
def QF (xs:List V) (lo hi st:Option Int):List V:=(sliceRange (sliceBounds lo hi st xs.length).1 (sliceBounds lo hi st xs.length).2.1 (sliceBounds lo hi st xs.length).2.2).filterMap (xs[·]?)
theorem FT {xs:List V} {us:List Value} (r:Vals xs us) (js:List Nat):Vals (js.filterMap (xs[·]?)) (js.filterMap (us[·]?)):=by
 induction js with
 |nil=>exact .nil
 |cons j js ih =>
  cases hx:xs[j]? with
  |some x =>
   obtain ⟨u,hu,ru⟩:=r.get hx;rw [List.filterMap_cons_some hx,List.filterMap_cons_some hu];exact .cons ru ih
  |none =>
   have hu:us[j]?=none:=by rw [List.getElem?_eq_none_iff] at hx ⊢;rw [← r.length];exact hx
   rw [List.filterMap_cons_none hx,List.filterMap_cons_none hu];exact ih
section
variable {X:Cx} {e se:Expr} {te:TE} {lo hi:Option Expr} {tl th tk:TO} {pos p2:Pos}
def AW (K:PySem.W.Frag) (x:V) (l u k:Option Int) (H:Hp) (Q:VK):Prop:=∃a xs,x=.ref a∧SqL K H a xs∧k≠some 0∧∀p,H p=none→Q (.ref p) (upd H p (.lst (QF xs l u k)))
def N5 (K:PySem.W.Frag) (te:TE) (tl th tk:TO):TE:=fun σ H Q=>te σ H fun x H1=>tl σ H1 fun l H2=>th σ H2 fun u H3=>tk σ H3 fun k H4=>AW K x l u k H4 Q
theorem iN (he:PE X e te) (hl:PO X lo tl) (hu:PO X hi th) (hk:PO X (some se) tk):PE X (.Subscript e (.Slice lo hi (some se) p2) pos) (N5 X.K te tl th tk):=by
 intro pins s σ H Q I h;refine Subscript_ (jQ (he pins s σ H _ I h) fun v s1 ⟨x,H1,I1,r1,q1⟩=>?_);refine wpAny_Slice (jQ (hl pins s1 σ H1 _ I1 q1) fun vl s2 ⟨l,H2,I2,pl,q2⟩=>jQ (hu pins s2 σ H2 _ I2 q2) fun vu s3 ⟨u,H3,I3,pu,q3⟩=>jQ (hk pins s3 σ H3 _ I3 q3) fun vk s4 ⟨k,H4,I4,pk,q4⟩=>?_);obtain ⟨a,xs,rfl,hx,h0,q⟩:=q4;cases r1;have I5:Inv X pins σ H4 {s4 with heap:=s4.heap.push {cls:=.type "slice",data:=.fields #[vl,vu,vk]}}:=I4.kept (t':=s4.toks) fun b ob q=>Heap.get?_push_of_some _ q
 obtain ⟨its,r,ht,hz⟩:=I5.list hx;have hlen:=r.length;show wpAny (model X.prog X.w) X.A (subscriptTail e (.Slice lo hi (some se) p2) (.ref a) (.ref s4.heap.objs.size)) (EP X pins σ Q) X.xe {s4 with heap:=s4.heap.push {cls:=.type "slice",data:=.fields #[vl,vu,vk]}};refine tail_any (ops:=[.ref a,.ref s4.heap.objs.size]) ht.isList.typeIs slot_list_getitem.lookup (wpAny_getItem_list_slice ht.isList (Heap.IsSliceOf.new ..) pl pu pk h0 ?_ (by rw [List.size_toArray];omega)) (by with_unfolding_all rfl);have hp:Vals (QF xs l u k) (slicePick its.toArray l u k).toList:=by
  have e:(slicePick its.toArray l u k).toList=(sliceRange (sliceBounds l u k xs.length).1 (sliceBounds l u k xs.length).2.1 (sliceBounds l u k xs.length).2.2).filterMap (its[·]?):=by simp [slicePick,hlen]
  rw [e];exact FT r _
 have hs:=slicePick_size_le its.toArray l u k;refine ⟨.ref _,_,I5.laid (t':=s4.toks) (o:=.lst (QF xs l u k)) (fun b ob q=>Heap.get?_push_of_some _ q) (Nat.le_refl _) ?_,rfl,q _ (I5.hok.fresh (Nat.le_refl _))⟩;refine ⟨?_,_,0,hp,Heap.get?_push_size _ rfl⟩;rw [hp.length,Array.length_toList];rw [show its.toArray.size=its.length from List.size_toArray] at hs;omega
end
theorem EC {α:Type} (xs:List α) (f:Nat→Nat):∀n:Nat,(∀k,k<n→f k<xs.length)→((List.range n).map f).filterMap (xs[·]?)=(List.range n).filterMap fun k=>xs[f k]?:=fun n _=>by rw [List.filterMap_map];rfl
theorem mW (xs:List V) (n a:Nat) (h1:1≤a) (h3:a≤3) (hn:xs.length=3*n+1):QF xs (some (a:Int)) none (some 3)=(List.range n).filterMap fun k=>xs[a+3*k]?:=by
 unfold QF;have hb:sliceBounds (some (a:Int)) none (some 3) xs.length=(max 0 (min (a:Int) (xs.length:Int)),(xs.length:Int),3):=by
  simp only [sliceBounds,Option.getD_some,show (3:Int)>0 by decide,if_true,show ¬((a:Int)<0) by omega,if_false]
 rw [hb];show (sliceRange _ (xs.length:Int) 3).filterMap _=_
 by_cases h0:n=0
 ·subst h0;have:max 0 (min (a:Int) (xs.length:Int))=1:=by omega
  rw [this,hn];rfl
 have hm:max 0 (min (a:Int) (xs.length:Int))=(a:Int):=by omega
 rw [hm,hn];have hc:sliceRange (a:Int) ((3*n+1:Nat):Int) 3=(List.range n).map fun k=>a+3*k:=by
  unfold sliceRange;have e1:(if (3:Int)>0 then (if (a:Int)<((3*n+1:Nat):Int) then (((3*n+1:Nat):Int) - (a:Int)+3 - 1) / 3 else 0) else (if (a:Int)>((3*n+1:Nat):Int) then ((a:Int) - ((3*n+1:Nat):Int) - 3 - 1) / (-3) else 0))=(n:Int):=by
   rw [if_pos (by decide),if_pos (by omega)];omega
  simp only [e1,Int.toNat_natCast];refine List.map_congr_left fun k _=>?_
  omega
 rw [hc];exact EC xs _ n fun k hk=>by omega
section
variable {X:Cx}
def K3 (K:PySem.W.Frag) (te:TE):TE:=fun σ H Q=>te σ H fun x H1=>∃(a:Addr) (zs:List Str),x=.ref a∧SqL K H1 a (zs.map V.str)∧zs.length≤1000∧Q (.int ((qY zs).length:Int)) H1
theorem sX {a:Expr} {te:TE} {p p1 pos pos1:Pos} (hc:X.calm=true) (hgl:Gl X "len") (hml:X.mg "len"=none) (hg:Gl X "set") (hm:X.mg "set"=none) (ha:PE X a te) (hs:starEach [a] X.env=[(false,eval a X.env)]:=by rfl)
  (hs3:starEach [.Call (.Name "set" p1) [a] [] pos1] X.env=[(false,eval (.Call (.Name "set" p1) [a] [] pos1) X.env)]:=by rfl) :
  PE X (.Call (.Name "len" p) [.Call (.Name "set" p1) [a] [] pos1] [] pos) (K3 X.K te):=by
 intro pins s σ H Q I h;refine wpAny_Call_Name_kw (JD I hgl hml PySem.boot_len ?_);refine PyProof.Rows.callWith_builtin1 ?_ hs3 rfl;rw [hs3];show wpAny _ _ (spliced [(false,eval (.Call (.Name "set" p1) [a] [] pos1) X.env)]) _ _ s;refine Calls.spliced_cons ?_;refine Call_ (JD I hg hm boot_set (PyProof.Rows.callWith_type1 ?_ hs rfl));rw [hs];show wpAny _ _ (spliced [(false,eval a X.env)]) _ _ s;refine Calls.spliced_cons (jQ (ha pins s σ H _ I h) fun u s1 ⟨x,H1,I1,r1,q1⟩=>?_);refine Calls.spliced_nil ?_;obtain ⟨l,zs,rfl,hq,hz,q⟩:=q1;cases r1;obtain ⟨its,rv,pl,_⟩:=I1.list hq;have hlen:=rv.length;rw [List.length_map] at hlen;refine EH (us:=its.toArray) (zs:=zs) (I.ok.hd hc) pl.isList (by rw [List.size_toArray];exact hlen.symm) (fun i v hv=>?_) (by unfold scanBound;omega) fun h' tk hS kp=>?_
 ·have hv':its[i]?=some v:=by simpa using hv
  have hi:i<zs.length:=by rw [hlen];exact (List.getElem?_eq_some_iff.mp hv').1
  have hz':zs[i]?=some zs[i]:=List.getElem?_eq_getElem hi;obtain ⟨u,hu,ru⟩:=rv.get (i:=i) (x:=.str zs[i]) (by rw [List.getElem?_map,hz'];rfl);obtain rfl:u=v:=Option.some.inj (hu.symm.trans hv');obtain ⟨t,rfl⟩:=ru;exact ⟨_,t,hz',rfl⟩
 refine Calls.spliced_nil ?_;obtain ⟨o,es,ep,t,ho,hex,hd,_,_,hb,hf,hn⟩:=hS;have I2:Inv X pins σ H1 {s1 with heap:=h',toks:=tk}:=I1.kept (t':=tk) kp;have hle:=oQ zs;refine call_len_set (s:={s1 with heap:=h',toks:=tk}) ho hex hd hf (by rw [hn];omega) ?_;exact ⟨.int ((qY zs).length:Int),H1,I2.tok _,⟨_,by rw [hn]⟩,q⟩
end
end L2
namespace L2
open PySem PySem.Spec PyProof.Rows
section
end
end L2
namespace L2
open PySem PySem.Spec PyProof.Rows
section
variable {prog:Program} {w:World} {A:Around} {s:Shared} {E:Value→Shared→Prop}
end
section
variable {X:Cx} {elts:List Expr} {x1:Nat} {tpos:Pos}
end
end L2
namespace L2
open PySem PySem.Spec PyProof.Rows
section
variable {X:Cx}
end
end L2
namespace L2
open PySem PySem.Spec PyProof.Rows
end L2
namespace L2
open PySem PySem.Spec PyProof.Rows
section
variable {X:Cx}
end
end L2
namespace L2
end L2
namespace L2
theorem an3 {A0 A1 A2:Prop} (h0:A0) (h1:A1) (h2:A2):A0∧A1∧A2:=⟨h0,h1,h2⟩
theorem an4 {A0 A1 A2 A3:Prop} (h0:A0) (h1:A1) (h2:A2) (h3:A3):A0∧A1∧A2∧A3:=⟨h0,h1,h2,h3⟩
theorem an5 {A0 A1 A2 A3 A4:Prop} (h0:A0) (h1:A1) (h2:A2) (h3:A3) (h4:A4):A0∧A1∧A2∧A3∧A4:=⟨h0,h1,h2,h3,h4⟩
theorem an6 {A0 A1 A2 A3 A4 A5:Prop} (h0:A0) (h1:A1) (h2:A2) (h3:A3) (h4:A4) (h5:A5):A0∧A1∧A2∧A3∧A4∧A5:=⟨h0,h1,h2,h3,h4,h5⟩
theorem an7 {A0 A1 A2 A3 A4 A5 A6:Prop} (h0:A0) (h1:A1) (h2:A2) (h3:A3) (h4:A4) (h5:A5) (h6:A6):A0∧A1∧A2∧A3∧A4∧A5∧A6:=⟨h0,h1,h2,h3,h4,h5,h6⟩
theorem an8 {A0 A1 A2 A3 A4 A5 A6 A7:Prop} (h0:A0) (h1:A1) (h2:A2) (h3:A3) (h4:A4) (h5:A5) (h6:A6) (h7:A7):A0∧A1∧A2∧A3∧A4∧A5∧A6∧A7:=⟨h0,h1,h2,h3,h4,h5,h6,h7⟩
theorem an9 {A0 A1 A2 A3 A4 A5 A6 A7 A8:Prop} (h0:A0) (h1:A1) (h2:A2) (h3:A3) (h4:A4) (h5:A5) (h6:A6) (h7:A7) (h8:A8):A0∧A1∧A2∧A3∧A4∧A5∧A6∧A7∧A8:=⟨h0,h1,h2,h3,h4,h5,h6,h7,h8⟩
theorem an10 {A0 A1 A2 A3 A4 A5 A6 A7 A8 A9:Prop} (h0:A0) (h1:A1) (h2:A2) (h3:A3) (h4:A4) (h5:A5) (h6:A6) (h7:A7) (h8:A8) (h9:A9):A0∧A1∧A2∧A3∧A4∧A5∧A6∧A7∧A8∧A9:=⟨h0,h1,h2,h3,h4,h5,h6,h7,h8,h9⟩
theorem an11 {A0 A1 A2 A3 A4 A5 A6 A7 A8 A9 A10:Prop} (h0:A0) (h1:A1) (h2:A2) (h3:A3) (h4:A4) (h5:A5) (h6:A6) (h7:A7) (h8:A8) (h9:A9) (h10:A10):A0∧A1∧A2∧A3∧A4∧A5∧A6∧A7∧A8∧A9∧A10:=⟨h0,h1,h2,h3,h4,h5,h6,h7,h8,h9,h10⟩
theorem an12 {A0 A1 A2 A3 A4 A5 A6 A7 A8 A9 A10 A11:Prop} (h0:A0) (h1:A1) (h2:A2) (h3:A3) (h4:A4) (h5:A5) (h6:A6) (h7:A7) (h8:A8) (h9:A9) (h10:A10) (h11:A11):A0∧A1∧A2∧A3∧A4∧A5∧A6∧A7∧A8∧A9∧A10∧A11:=⟨h0,h1,h2,h3,h4,h5,h6,h7,h8,h9,h10,h11⟩
theorem an13 {A0 A1 A2 A3 A4 A5 A6 A7 A8 A9 A10 A11 A12:Prop} (h0:A0) (h1:A1) (h2:A2) (h3:A3) (h4:A4) (h5:A5) (h6:A6) (h7:A7) (h8:A8) (h9:A9) (h10:A10) (h11:A11) (h12:A12):A0∧A1∧A2∧A3∧A4∧A5∧A6∧A7∧A8∧A9∧A10∧A11∧A12:=⟨h0,h1,h2,h3,h4,h5,h6,h7,h8,h9,h10,h11,h12⟩
theorem an14 {A0 A1 A2 A3 A4 A5 A6 A7 A8 A9 A10 A11 A12 A13:Prop} (h0:A0) (h1:A1) (h2:A2) (h3:A3) (h4:A4) (h5:A5) (h6:A6) (h7:A7) (h8:A8) (h9:A9) (h10:A10) (h11:A11) (h12:A12) (h13:A13):A0∧A1∧A2∧A3∧A4∧A5∧A6∧A7∧A8∧A9∧A10∧A11∧A12∧A13:=⟨h0,h1,h2,h3,h4,h5,h6,h7,h8,h9,h10,h11,h12,h13⟩
theorem an15 {A0 A1 A2 A3 A4 A5 A6 A7 A8 A9 A10 A11 A12 A13 A14:Prop} (h0:A0) (h1:A1) (h2:A2) (h3:A3) (h4:A4) (h5:A5) (h6:A6) (h7:A7) (h8:A8) (h9:A9) (h10:A10) (h11:A11) (h12:A12) (h13:A13) (h14:A14):A0∧A1∧A2∧A3∧A4∧A5∧A6∧A7∧A8∧A9∧A10∧A11∧A12∧A13∧A14:=⟨h0,h1,h2,h3,h4,h5,h6,h7,h8,h9,h10,h11,h12,h13,h14⟩
end L2
namespace L2
open PySem PySem.Spec PyProof.Rows
section
variable {X:Cx}
end
end L2
namespace L2
open PySem PySem.Spec PyProof.Rows
end L2
namespace L2
open PySem PySem.Spec PyProof.Rows
end L2
namespace L2
open PySem PySem.Spec PyProof.Rows
section
variable {prog:Program} {w:World} {A:Around} {E:Value→Shared→Prop} {s:Shared}
end
section
variable {X:Cx}
end
end L2
namespace L2
open PySem PySem.Spec PyProof.Rows
section
variable {M:Model} {A:Around} {E:Value→Shared→Prop} {s:Shared}
theorem IY {B:Heap} {env:Env} {outer:List Env} {L e:Addr} {cls a0 fl:Value} {Q:Unit→Shared→Prop} (hfr:A.frames=some (env::outer)) (hl:s.heap.FunFrames B (env::outer)) (hf:env.frame=some L) (ht:s.heap.TracedAtW B e cls a0 fl) (hn:fl≠rawInt L) (hb:B.StaysIn s.heap) (he0:B.get? e=none)
  (q:∀h',Heap.NotedW B (env::outer) e cls a0 (rawInt L) s.heap h'→Q () {s with heap:=h'}):wpAny M A (noteFrame (.ref e) env) Q E s:=by
 obtain ⟨oe,vs,T,oT,ts,he,⟨rfl,h0⟩,hd,h1,nT,nTe,hT,dT,h3⟩:=ht;unfold noteFrame;simp only [hf];refine wpAny_bind (wpAny_field he hd h1 ?_);rw [if_pos (show (Value.ref T != Value.none)=true from by simp)];refine wpAny_bind (wpAny_field hT dT h3 ?_);rw [if_neg (show ¬((fl == rawInt L)=true) from fun z=>hn (eq_of_beq z))];refine wpAny_bind (wpAny_setField hT dT (Array.getElem?_eq_some_iff.mp h3).1 ?_);have oth:∀b,b≠T→(s.heap.update T (Obj.mapFields (·.setIfInBounds 3 Value.none))).get? b=s.heap.get? b:=fun b nb=>Heap.get?_update_other _ _ (Ne.symm nb)
 have nrec:∀b o,s.heap.get? b=some o→(∀vs,o.data≠.fields vs)→b≠T:=fun b o hbo nf z=>by rw [z,hT] at hbo;cases hbo;exact nf ts dT
 refine wpAny_entryW hfr (hl.of_keeps fun b o hbo nf=>⟨o,(oth b (nrec b o hbo nf)).trans hbo,rfl⟩) hf ((oth e (Ne.symm nTe)).trans he) (fun b o hbo=>(oth b fun z=>by rw [z,nT] at hbo;cases hbo).trans (hb b o hbo)) he0 hd (Array.getElem?_eq_some_iff.mp h1).1 h0 fun h' y=>?_
 obtain ⟨y1,y2,y3,y4⟩:=y;exact q h' ⟨y1,y2,y3,fun b o hbo nf=>y4 b o ((oth b (nrec b o hbo nf)).trans hbo) nf⟩
theorem FG {B:Heap} {env:Env} {outer:List Env} {L e:Addr} {cls a0 fl:Value} {Q:Unit→Shared→Prop} (hfr:A.frames=some (env::outer)) (hl:s.heap.FunFrames B (env::outer)) (hf:env.frame=some L) (ht:s.heap.TracedAtW B e cls a0 fl) (hb:B.StaysIn s.heap) (he0:B.get? e=none)
  (q:∀h',Heap.FlyingW B outer e cls a0 h'→s.heap.UpToSlots h'→Q () {s with heap:=h'}):wpAny M A (leaving env (.ref e)) Q E s:=by
 have fin:∀h2,Heap.HeldW B (env::outer) e cls a0 L h2→s.heap.UpToSlots h2→wpAny M A (setFlight (.ref e) none) Q E {s with heap:=h2}:=fun h2 hh up=>by
  refine wpAny_landsW (s:={s with heap:=h2}) hh fun h' fly up'=>q h' ?_ (up.trans up')
  obtain ⟨k1,k2,⟨_,_,k3⟩,k4⟩:=fly;exact ⟨k1,k2,k3,k4⟩
 unfold leaving
 by_cases hn:fl=rawInt L
 ·subst hn;exact wpAny_bind (wpAny_noteFrame_againW hf ht (fin s.heap ⟨hb,he0,hl,ht⟩ (Heap.UpToSlots.refl _)))
 ·refine wpAny_bind (IY hfr hl hf ht hn hb he0 fun h2 y=>?_);obtain ⟨y1,y2,y3,y4⟩:=y;exact fin h2 ⟨y1,he0,y2,y3⟩ y4
end
theorem GR {B B':Heap} (k:∀b o,B'.get? b=some o→B.get? b=some o) {b:Addr} (hn:B.get? b=none):B'.get? b=none:=by
 cases r:B'.get? b with
 |none=>rfl
 |some v=>rw [k b v r] at hn;cases hn
theorem rK {h B B':Heap} (k:∀b o,B'.get? b=some o→B.get? b=some o):∀{l:List Env},h.FunFrames B l→h.FunFrames B' l
 |[],_=>trivial
 |_::_,⟨hk,⟨L,o,hf,hn,ho,hd⟩,hr⟩=>⟨hk,⟨L,o,hf,GR k hn,ho,hd⟩,rK k hr⟩
def ZZ (X:Cx) (N:List Str) (scope:Scope) (C:Addr) (s:Shared) (H:Hp) (pins:List (Addr×Obj)) (fp:List Addr) (RX:Value→Hp→Prop):Value→Shared→Prop:=fun e s'=>∃pins₁ σ₁ H₁ s₁,Inv (qU X N scope C s H pins fp) pins₁ σ₁ H₁ s₁∧j4 X.prog X.w X.stack H₁ s₁ (fun c _ H'=>RX c H') e s'
theorem sG {X:Cx} {N:List Str} {scope:Scope} {C:Addr} {s:Shared} {H:Hp} {pins:List (Addr×Obj)} {fp:List Addr} {RX:Value→Hp→Prop}:eL ((qU X N scope C s H pins fp).wish (ZZ X N scope C s H pins fp RX)) (fun _ c H'=>RX c H') :=
 fun pins₁ σ₁ H₁ s₁ _ _ I hx=>⟨pins₁,σ₁,H₁,s₁,I.unwish,hx⟩
section
variable {P:Program} {w:World} {K:PySem.W.Frag} {mg:Str→Option Value} {base:Heap} {N:List Str} {qual:Str} {scope:Scope} {f:Addr} {cd:Value} {A:Around} {outer:List Env} {s:Shared} {H:Hp} {E:XK}
theorem wE {Nc:List Str} {sc:Scope} {pins:List (Addr×Obj)} {σ:St} {H2:Hp} {s2:Shared} {fp:List Addr} {C:Addr} {e acc:Value} {s':Shared} {use:Option (Value→Sem Unit)} {Q:Value→Shared→Prop} {E':Value→Shared→Prop}
  (I2:Inv (kD (j4 P w) P w K mg base N qual scope f cd A outer s H E) pins σ H2 s2) (f2:∀b∈fp,zT (kD (j4 P w) P w K mg base N qual scope f cd A outer s H E) pins H2 b) (hC:s2.heap.objs.size≤C)
  (hx:ZZ (kD (j4 P w) P w K mg base N qual scope f cd A outer s H E) Nc sc C s2 H2 pins fp (fun c H'=>E c none H') e s') (cells:List (Str×Addr)) :
  wpAny (model P w) (A.deeper (envOfC qual scope s.heap.objs.size f cd)) (noteFrame e (compEnvC sc cells C (envOfC qual scope s.heap.objs.size f cd)))
   (fun _ s''=>compPost (model P w) (A.deeper (envOfC qual scope s.heap.objs.size f cd)) (kD (j4 P w) P w K mg base N qual scope f cd A outer s H E).xe use Q acc C (.error e) s'') E' s':=by
 obtain ⟨pins₁,σ₁,H₁,s₁,Ic,a,Cc,H3,rfl,os,bare,un,hok,⟨B,a0,fl,ground⟩,ha,hs1,q⟩:=hx;have J1:Inv (qU (kD (j4 P w) P w K mg base N qual scope f cd A outer s H E) Nc sc C s2 H2 pins fp) pins₁ σ₁ H3 s':=Ic.call' (ch:=[]) os un hok bare fun b z=>absurd z (by simp)
 have J0:=J1.pins_of (pins':=[]) fun p hp=>nomatch hp
 have JX:Inv (kD (j4 P w) P w K mg base N qual scope f cd A outer s H E) pins σ H3 s':=fI (σ':=σ) I2 f2 J0;have fl':Heap.FlyingW B (envOfC qual scope s.heap.objs.size f cd::outer) a (.ref Cc) a0 s'.heap:=fl;have hfs:kK (envOfC qual scope s.heap.objs.size f cd::outer)=s.heap.objs.size::kK outer:=rfl;have hst2:s2.heap.FunFrames base (envOfC qual scope s.heap.objs.size f cd::outer):=I2.stack;have hst:s'.heap.FunFrames base (envOfC qual scope s.heap.objs.size f cd::outer):=JX.stack;have ub:Un (kK outer) [] H H3 s.heap s'.heap:=JX.base;have u2:Un (kK outer) [] H H2 s.heap s2.heap:=I2.base;have uc:Un (kK (envOfC qual scope s.heap.objs.size f cd::outer)) fp H2 H₁ s2.heap s₁.heap:=Ic.base;have nfC:C∉kK (envOfC qual scope s.heap.objs.size f cd::outer):=fun z=>by
  obtain ⟨_,o,ho,_⟩:=hst2.mem z;exact absurd (Heap.lt_size ho) (Nat.not_lt_of_le hC)
 have old:∀b,(∃o',s.heap.get? b=some o')→b∉kK outer→b∉kK (envOfC qual scope s.heap.objs.size f cd::outer):=fun b ⟨o',z⟩ n y=>by
  rw [hfs] at y
  rcases List.mem_cons.mp y with y|y
  ·exact absurd (Heap.lt_size z) (by rw [y];exact Nat.lt_irrefl _)
  ·exact n y
 have y9:∀b,H3 b≠none→b∉kK (envOfC qual scope s.heap.objs.size f cd::outer):=fun b hb z=>hb (JX.stkFree b z)
 have nfp:∀b,(∃o',s.heap.get? b=some o')→b∉fp:=fun b ⟨o',z⟩ y=>by
  obtain ⟨_,_,_,h4,_⟩:=f2 b y
  rcases h4 with h4|h4
  ·cases h4
  ·exact absurd (Heap.lt_size z) (Nat.not_lt_of_le h4)
 have in1:∀b,(∃o',s.heap.get? b=some o')→∃o',s₁.heap.get? b=some o':=fun b z=>by
  obtain ⟨o',z'⟩:=z;obtain ⟨o2,h2⟩:=u2.there b o' z' (by simp);exact uc.there b o2 h2 (nfp b ⟨o',z'⟩)
 have ltC:∀b,(∃o',s.heap.get? b=some o')→b≠C:=fun b z y=>by
  obtain ⟨o',z'⟩:=z;obtain ⟨o2,h2⟩:=u2.there b o' z' (by simp);exact absurd (Heap.lt_size h2) (Nat.not_lt_of_le (by rw [y];exact hC))
 obtain ⟨m,hns,_⟩:=J0.loc;have hns':s'.heap.Ns C m:=hns;have hBC:∃o,B.get? C=some o:=by
  obtain ⟨m1,hn1,_⟩:=Ic.loc;obtain ⟨o1,_,_,ho1,_⟩:=(show s₁.heap.Ns C m1 from hn1);obtain ⟨o2,_,_,ho2,_⟩:=hns';exact ⟨o2,ground C o2 ho2 nfC (.inr ⟨o1,ho1⟩)⟩
 obtain ⟨oC,hBC⟩:=hBC;have h3C:H3 C=none:=J1.free;have leB:∀b o,(PySem.W.hideAll B [C]).get? b=some o→B.get? b=some o:=fun b o z=>PySem.W.of_hideAll _ z
 have inB:∀b o,b≠C→B.get? b=some o→(PySem.W.hideAll B [C]).get? b=some o:=fun b o n z=>PySem.W.hideAll_get _ z fun y=>n (List.mem_singleton.mp y)
 have noB:∀b,B.get? b=none→(PySem.W.hideAll B [C]).get? b=none:=fun b z=>by
  cases r:(PySem.W.hideAll B [C]).get? b with
  |none=>rfl
  |some v=>rw [leB b v r] at z;cases z
 show wpAny (model P w) (A.deeper (envOfC qual scope s.heap.objs.size f cd)) (noteFrame (.ref a) (envOfC qual scope s.heap.objs.size f cd)) _ _ s';refine wpAny_looks_onW J1.ok.frames rfl fl' fun h4 held up=>?_
 obtain ⟨k1,k2,k3,oe,vs,T,oT,ts,he,hcl,hd,h1,nT,nTe,hT,dT,h3⟩:=held;refine ⟨m,up.ns hns',fun h5 sb cenv _=>?_⟩;have naC:a≠C:=fun z=>by rw [z,hBC] at k2;cases k2
 have nTC:T≠C:=fun z=>by rw [z,hBC] at nT;cases nT
 have he5:h5.get? a=some oe:=(sb.2 a naC).trans he;have hT5:h5.get? T=some oT:=(sb.2 T nTC).trans hT;unfold PySem.passOn;refine wpAny_bind (wpAny_field he5 hd h1 ?_);rw [if_neg (by simp)];unfold setFlight;refine wpAny_bind (wpAny_bind (wpAny_field he5 hd h1 ?_));rw [if_pos (by simp)];have hz3:3<ts.size:=(Array.getElem?_eq_some_iff.mp h3).1;refine wpAny_setField hT5 dT hz3 (wpAny_throw ?_);generalize hfv:(cenv.frame.elim Value.none fun f=>rawInt f)=fv;have oth:∀b,b≠T→(h5.update T (Obj.mapFields (·.setIfInBounds 3 fv))).get? b=h5.get? b:=fun b nb=>Heap.get?_update_other _ _ (Ne.symm nb)
 have hT6:=Heap.get?_update_self (Obj.mapFields (·.setIfInBounds 3 fv)) hT5 (Obj.isFreed_of_fields (Obj.data_mapFields dT _));have tr6:(h5.update T (Obj.mapFields (·.setIfInBounds 3 fv))).TracedAtW (PySem.W.hideAll B [C]) a (.ref Cc) a0 fv:=⟨oe,vs,T,_,_,(oth a (Ne.symm nTe)).trans he5,hcl,hd,h1,noB T nT,nTe,hT6,Obj.data_mapFields dT _,by simp [hz3]⟩;have keepB:(PySem.W.hideAll B [C]).StaysIn (h5.update T (Obj.mapFields (·.setIfInBounds 3 fv))):=fun b o z=>by
  have zb:=leB b o z;have nb:b≠C:=fun y=>by rw [y,PySem.W.hideAll_none [C] List.mem_cons_self] at z;cases z
  have nt:b≠T:=fun y=>by rw [y,nT] at zb;cases zb
  rw [oth b nt,sb.2 b nb];exact k1 b o zb
 have upto:∀b o,b≠C→h4.get? b=some o→(∀vs,o.data≠.fields vs)→(h5.update T (Obj.mapFields (·.setIfInBounds 3 fv))).get? b=some o:=fun b o nb z nf=>by
  have nt:b≠T:=fun y=>by rw [y,hT] at z;cases z;exact nf ts dT
  rw [oth b nt,sb.2 b nb];exact z
 have fr6:(h5.update T (Obj.mapFields (·.setIfInBounds 3 fv))).FunFrames (PySem.W.hideAll B [C]) (envOfC qual scope s.heap.objs.size f cd::outer):=by
  have hk3:=rK leB k3;clear tr6 keepB
  revert hk3
  generalize envOfC qual scope s.heap.objs.size f cd::outer=l at nfC;intro hk3
  induction l with
  |nil=>trivial
  |cons env rest ih =>
   obtain ⟨g1,⟨L,o,g2,g3,g4,g5⟩,g6⟩:=hk3;have hm:L∈kK (env::rest):=List.mem_filterMap.mpr ⟨env,List.mem_cons_self,g2⟩;refine ⟨g1,⟨L,o,g2,g3,upto L o (fun y=>nfC (by rw [← y];exact hm)) g4 g5,g5⟩,ih (fun z=>nfC ?_) g6⟩;obtain ⟨en,hen,hf⟩:=List.mem_filterMap.mp z;exact List.mem_filterMap.mpr ⟨en,List.mem_cons_of_mem _ hen,hf⟩
 show wpAny (model P w) (A.deeper (envOfC qual scope s.heap.objs.size f cd)) (leaving (envOfC qual scope s.heap.objs.size f cd) (.ref a)) (fun _ s''=>j4 P w outer H s E (.ref a) s'') (fun e' s''=>j4 P w outer H s E e' s'') _;refine FG (B:=PySem.W.hideAll B [C]) JX.ok.frames fr6 rfl tr6 keepB (noB a k2) fun h7 fly up7=>?_
 have g7:∀b o,s'.heap.get? b=some o→b∉kK (envOfC qual scope s.heap.objs.size f cd::outer)→b≠C→(H3 b≠none∨∃o',s₁.heap.get? b=some o')→(PySem.W.hideAll B [C]).get? b=some o:=fun b o z n nb y=>inB b o nb (ground b o z n y)
 refine ⟨a,Cc,H3,rfl,JX.os,JX.bare,ub.go (fun b o z n _ y=>fly.1 b o (g7 b o z (old b y n) (ltC b y) (.inr (in1 b y)))) (fun b o z n _=>?_),JX.hok.keepT fun b u hb z=>fly.1 b u (g7 b u z (y9 b hb) (fun y=>hb (by rw [y];exact h3C)) (.inl hb)),?_,ha,?_,q⟩
 ·have hm:b∈kK (envOfC qual scope s.heap.objs.size f cd::outer):=by rw [hfs];exact List.mem_cons_of_mem _ n
  obtain ⟨_,o',ho',hdd⟩:=hst.mem hm;rw [z] at ho';cases ho'
  obtain ⟨sl,e4⟩:=up b o z hdd;have e6:=upto b _ (fun y=>nfC (by rw [← y];exact hm)) e4 hdd;obtain ⟨sl2,e7⟩:=up7 b _ e6 hdd;exact ⟨sl2,e7⟩
 ·refine ⟨_,a0,fly,fun b o z n y=>?_⟩;have hn:b∉kK (envOfC qual scope s.heap.objs.size f cd::outer):=by
   rcases y with y|y
   ·exact y9 b y
   ·exact old b y n
  have nb:b≠C:=by
   rcases y with y|y
   ·exact fun v=>y (by rw [v];exact h3C)
   ·exact ltC b y
  have h1':∃u,s'.heap.get? b=some u:=by
   rcases y with y|⟨o',y⟩
   ·cases r:H3 b with
    |none=>exact absurd r y
    |some v=>exact JX.hok.there r
   ·exact ub.there b o' y (by simp)
  obtain ⟨u,hu⟩:=h1';have hB:=g7 b u hu hn nb (by
   rcases y with y|y
   ·exact .inl y
   ·exact .inr (in1 b y))
  have:=fly.1 b u hB;have z':h7.get? b=some o:=z;rw [z'] at this;cases this;exact hB
 ·cases r:s.heap.get? a with
  |none=>rfl
  |some v =>
   obtain ⟨u,hu⟩:=in1 a ⟨v,r⟩;rw [hs1] at hu;cases hu
end
theorem FN {prog:Program} {w:World} {A:Around} {elt target iter:Expr} {ifs:List Expr} {scope:Scope} {pos:Pos} {it acc:Value} {env:Env} {R:Result→Shared→Prop} {s:Shared} (I:Nat→Shared→Prop)
  (turn:∀n s,I n s→wpAny (model prog w) A (pyNext it) (fun r s₁=>match r with
   |none=>R (.ok .next) s₁
   |some v=>wpAny (model prog w) A (letOwnedTupleGo target it v) (fun _ s₁'=>wpAny (model prog w) A (assign target env v) (fun _ s₂ =>
     wpAny (model prog w) A (forIn ifs true fun c r=>if r=true then do let ok ← isTrue c env (eval c env);pure (ForInStep.yield ok) else pure (ForInStep.yield r)) (fun ok s₃ =>
      if ok=true then wpAny (model prog w) A (eval elt env) (fun x s₄ =>
       wpAny (model prog w) A (call (.builtin "list.append") [acc,x]) (fun _ s₅=>∃m,m<n∧I m s₅) (fun _ _=>False) s₄) (notedBy (model prog w) A env fun e s'=>R (.error e) s') s₃
      else ∃m,m<n∧I m s₃) (fun _ _=>False) s₂) (fun _ _=>False) s₁') (fun _ _=>False) s₁) (fun _ _=>False) s)
  (n:Nat) (h:I n s):codeAny (model prog w) A (.compLoop (.ListComp elt [⟨target,iter,ifs,0⟩] scope pos) 0 it acc env) R s:=by
 refine codeAny_loop rfl I (fun n s hI=>?_) n h;show wpAny _ A ((compTurn (.ListComp elt [⟨target,iter,ifs,0⟩] scope pos) 0 it acc env).onRaise (fun x=>do noteFrame x env;theTreesLotGoes x)) _ _ s;refine wpAny_noted ?_;rw [compTurn_list];refine wpAny_bind (wpAny_standAt (wpAny_bind (wpAny_mono (turn n s hI) (fun r s₁ h₁=>?_) fun _ _ h'=>h'.elim)));cases r with
 |none=>exact wpAny_pure h₁
 |some v =>
  refine wpAny_bind (wpAny_mono h₁ (fun _ s₁' h₁'=>?_) fun _ _ h'=>h'.elim);refine wpAny_bind (wpAny_mono h₁' (fun _ s₂ h₂=>wpAny_bind (wpAny_mono h₂ (fun ok s₃ h₃=>?_) fun _ _ h'=>h'.elim)) fun _ _ h'=>h'.elim);cases ok with
  |false=>exact wpAny_pure ⟨rfl,h₃⟩
  |true =>
   exact wpAny_bind (wpAny_bind (wpAny_mono h₃ (fun x s₄ h₄=>wpAny_bind (wpAny_mono h₄ (fun _ s₅ h₅=>wpAny_pure (wpAny_pure ⟨rfl,h₅⟩)) fun _ _ h'=>h'.elim)) fun _ _ h'=>h'))
section
variable {X:Cx} {N:List Str} {scope:Scope} {pins:List (Addr×Obj)} {σ:St} {H:Hp} {s:Shared} {fp:List Addr}
theorem iR {tg iter elt:Expr} {ifs:List Expr} {pos:Pos} {cap:St→St} {g:TG} {tc:TT} {te:TE} {J:It} {it:Addr} {tn:Nat→Heap→Prop} {Q:Addr→Hp→Prop} {RR:Value→Addr→Result→Shared→Prop} {RX:Value→Hp→Prop}
  (hcalm:X.calm=true) (S:CompScope X scope) (hcap:Q5 X N scope cap) (I:Inv X pins σ H s) (T:Turn X.prog X.w X.K tg J fp it tn) (st:tn 0 s.heap) (hf:∀b∈fp,zT X pins H b)
  (hg:∀C,PG (qU X N scope C s H pins fp) tg g) (hc:∀C,Z4 (qU X N scope C s H pins fp) ifs tc) (he:∀C,PE ((qU X N scope C s H pins fp).wish (ZZ X N scope C s H pins fp RX)) elt te)
  (hq:∀D,H D=none→JE D J g tc te (cap σ) H (Q D))
  (hRR:∀D C σc H' s',s.heap.objs.size≤C→Inv (qU X N scope C s H pins fp) [] σc H' s'→Q D H'→RR (.ref D) C (.ok .next) s')
  (hRE:∀D C e s',s.heap.objs.size≤C→ZZ X N scope C s H pins fp RX e s'→wpAny (model X.prog X.w) X.A (noteFrame e (compEnvC scope (yF X.env.cells scope.names []) C X.env)) (fun _ s''=>RR (.ref D) C (.error e) s'') (fun e' s''=>RR (.ref D) C (.error e') s'') s') :
  wpAny (model X.prog X.w) X.A (newList []) (fun acc s₃=>wpAny (model X.prog X.w) X.A (newFunctionEnv scope X.env.globals (yF X.env.cells scope.names []) [] X.env.qual none .none (some X.env)) (fun cenv s₄ =>
   codeAny (model X.prog X.w) X.A (.compStart (.ListComp elt [⟨tg,iter,ifs,0⟩] scope pos) 0 (.ref it) acc {cenv with scope:=relabel scope X.env}) (RR acc cenv.locals) s₄) X.xe s₃) X.xe s:=by
 refine wpAny_newObj_type (wpAny_newFunctionEnv S.nocell (by intro y hy;simp at hy) (fun h₁ hns₁ hsb₁=>?_) S.kind)
 dsimp only at hns₁ hsb₁ ⊢
 generalize hH2:s.heap.push {cls:=.type "list",dict:=none,data:=.seq ([]:List Value).toArray}=H2 at hns₁ hsb₁ ⊢;have hC:H2.objs.size=s.heap.objs.size+1:=by rw [← hH2,Heap.size_push]
 have hDC:s.heap.objs.size≠H2.objs.size:=by rw [hC];exact Nat.ne_of_lt (Nat.lt_succ_self _)
 have hCle:s.heap.objs.size≤H2.objs.size:=by rw [hC];exact Nat.le_succ _
 have below:∀b,b<s.heap.objs.size→b≠H2.objs.size:=fun b hb=>by rw [hC];exact Nat.ne_of_lt (Nat.lt_succ_of_lt hb)
 have old:∀b o,s.heap.get? b=some o→h₁.get? b=some o:=fun b o e=>hsb₁.extBut b o (below b (Heap.lt_size e)) (Heap.get?_push_of_some _ (hH2▸Heap.get?_push_of_some _ e))
 have hacc:h₁.get? s.heap.objs.size=some {cls:=.type "list",data:=.seq ([]:List Value).toArray}:=hsb₁.extBut _ _ hDC (Heap.get?_push_of_some _ (hH2▸Heap.get?_push_size _ rfl));have obj0:=T.obj 0 s.heap st;have I1:∀t',Inv (qU X N scope H2.objs.size s H pins fp) [] (cap σ) (upd H s.heap.objs.size (.lst [])) {s with heap:=h₁,toks:=t'}:=fun t' =>
  KY S I hcap hf (fun b hb=>let ⟨o,e,_⟩:=obj0 b hb;⟨o,e⟩) (Nat.le_refl _) hCle hDC old hns₁ hacc
 have st1:tn 0 h₁:=T.keep 0 s.heap h₁ st fun b _ o e=>old b o e
 have stat:∀{H':Hp},(∀b∈fp,H' b=none)→∀b∈fp,zT (qU X N scope H2.objs.size s H pins fp) [] H' b:=fun hn b hb=>by
  obtain ⟨_,h2,h3,h4,h5,h6⟩:=hf b hb;obtain ⟨o,ho,_⟩:=obj0 b hb;refine ⟨hn b hb,below b (Heap.lt_size ho),?_,.inl hb,fun x c e=>h5 x c (iE (dN S I) (fun y d q=>by simp at q) e),fun p hp=>?_⟩
  ·intro z
   rcases List.mem_cons.mp (I.stkSub b z) with e|e
   ·exact h2 e
   ·exact h3 e
  ·rcases List.mem_append.mp hp with z|z
   ·exact h6 p z
   ·cases z
 have fr1:∀b∈fp,upd H s.heap.objs.size (.lst []) b=none:=fun b hb=>by
  obtain ⟨o,ho,_⟩:=obj0 b hb;rw [j9 (Nat.ne_of_lt (Heap.lt_size ho))];exact (hf b hb).1
 obtain ⟨W,⟨m0,w0⟩,turn⟩:=hq s.heap.objs.size (I.hok.fresh (Nat.le_refl _));have loop:∀s₃:Shared,s₃={s with heap:=h₁,toks:=s.toks+([]:List (Str×Value)).length}→
   codeAny (model X.prog X.w) X.A (.compLoop (.ListComp elt [⟨tg,iter,ifs,0⟩] scope pos) 0 (.ref it) (.ref s.heap.objs.size) (compEnvC scope (yF X.env.cells scope.names []) H2.objs.size X.env))
    (RR (.ref s.heap.objs.size) H2.objs.size) s₃:=by
  rintro s₃ rfl;refine FN (fun n s'=>∃i σ' H',Inv (qU X N scope H2.objs.size s H pins fp) [] σ' H' s'∧tn i s'.heap∧(∀b∈fp,H' b=none)∧W i n σ' H') ?_ m0 ⟨0,cap σ,_,I1 _,st1,fr1,w0⟩;rintro n s3 ⟨i,σ3,H3,I3,st3,fr3,w3⟩
  rcases turn i n σ3 H3 w3 with ⟨stop,qn⟩|⟨go,Nn,hN,step⟩
  ·refine jQ (T.done (qU X N scope H2.objs.size s H pins fp) rfl rfl rfl hcalm i [] s3 σ3 H3 (fun _ _=>False) I3 (stat fr3) st3 stop) fun r s4 ⟨hr,I4⟩=>?_
   subst hr;exact hRR _ _ σ3 H3 s4 hCle I4 qn
  ·refine jQ (T.item (qU X N scope H2.objs.size s H pins fp) rfl rfl rfl hcalm i [] s3 σ3 H3 (fun _ _=>False) I3 (stat fr3) st3 go) fun r s4 ⟨u,hr,h4⟩=>?_
   subst hr;refine jQ h4 fun _ s5 ⟨x,H5,I5,r5,y5,st5,fr5⟩=>?_
   have I5':=I5.pinned (stat fr5) (T.obj _ _ st5);have again:∀{σ7:St} {H7:Hp} {s7:Shared},Inv (qU X N scope H2.objs.size s H pins fp) ([]++gA fp s5.heap) σ7 H7 s7→Nn σ7 H7→
     ∃m,m<n∧∃i σ' H',Inv (qU X N scope H2.objs.size s H pins fp) [] σ' H' s7∧tn i s7.heap∧(∀b∈fp,H' b=none)∧W i m σ' H':=fun {σ7 H7 s7} I7 n7=>by
    obtain ⟨m',hm,w7⟩:=hN σ7 H7 n7;refine ⟨m',hm,i+1,σ7,H7,I7.unpinned,T.keep _ _ _ st5 fun b hb o e=>(I7.pin (b,o) (List.mem_append_right _ (List.mem_append_right _ (iI hb e)))).1,fun b hb=>?_,w7⟩;obtain ⟨o,e,d⟩:=T.obj _ _ st5 b hb;exact (I7.pin (b,o) (List.mem_append_right _ (List.mem_append_right _ (iI hb e)))).2.1
   refine jQ (hg _ _ s5 σ3 H5 x u _ I5' r5 (step x H5 y5)) fun _ s6 ⟨σ6,H6,I6,q6⟩=>?_
   refine jQ (hc _ _ s6 σ6 H6 _ I6 q6) fun ok s7 ⟨H7,I7,q7⟩=>?_
   cases ok with
   |false=>exact again I7 q7
   |true =>
    refine wpAny_mono (he _ _ s7 σ6 H7 _ (I7.wish _) q7) (fun v s8 ⟨y,H8,I8,r8,xs,hD8,hz8,n8⟩=>?_) fun e se hx=>hRE _ _ e se hCle hx
    have I8:=I8.unwish;refine jQ (v9 _ s8 σ6 H8 (.ref s.heap.objs.size) [y] (.ref s.heap.objs.size) [v] (fun _ H9=>Nn σ6 H9) I8 rfl (.cons r8 .nil) ⟨_,_,_,rfl,rfl,hD8,hz8,n8⟩) fun _ s9 ⟨_,H9,I9,_,n9⟩=>?_
    exact again I9 n9
 exact codeAny_compStart_list (loop _ rfl) (wpAny_mono (T.self X.A 0 _ (fun v s'=>v=.ref it∧s'=_) (fun _ _=>False) st1 ⟨rfl,rfl⟩) (fun v s' ⟨e1,e2⟩=>by subst e1;subst e2;exact loop _ rfl) fun _ _ z=>z.elim)
end
section
variable {P:Program} {w:World} {K:PySem.W.Frag} {mg:Str→Option Value} {base:Heap} {Nf:List Str} {qual:Str} {scf:Scope} {f:Addr} {cd:Value} {A:Around} {outer:List Env} {s₀:Shared} {H₀:Hp} {E:XK}
theorem IT {tg iter elt:Expr} {ifs:List Expr} {scope:Scope} {pos:Pos} {wi:TI} {g:TG} {tc:TT} {te:TE} (N:List Str) (cap:St→St) (S:CompScope (kD (j4 P w) P w K mg base Nf qual scf f cd A outer s₀ H₀ E) scope) (hcap:Q5 (kD (j4 P w) P w K mg base Nf qual scf f cd A outer s₀ H₀ E) N scope cap) (hi:PI (kD (j4 P w) P w K mg base Nf qual scf f cd A outer s₀ H₀ E) tg iter wi)
  (hg:∀C s H pins fp,PG (qU (kD (j4 P w) P w K mg base Nf qual scf f cd A outer s₀ H₀ E) N scope C s H pins fp) tg g) (hc:∀C s H pins fp,Z4 (qU (kD (j4 P w) P w K mg base Nf qual scf f cd A outer s₀ H₀ E) N scope C s H pins fp) ifs tc)
  (he:∀C s H pins fp,PE ((qU (kD (j4 P w) P w K mg base Nf qual scf f cd A outer s₀ H₀ E) N scope C s H pins fp).wish (ZZ (kD (j4 P w) P w K mg base Nf qual scf f cd A outer s₀ H₀ E) N scope C s H pins fp fun c H'=>E c none H')) elt te)
  (hs:∀x,foldedSetIterable iter (kD (j4 P w) P w K mg base Nf qual scf f cd A outer s₀ H₀ E).env x=pure x:=by intro _;rfl):PE (kD (j4 P w) P w K mg base Nf qual scf f cd A outer s₀ H₀ E) (.ListComp elt [⟨tg,iter,ifs,0⟩] scope pos) (AE wi cap g tc te):=by
 intro pins s σ H Q I h;rw [eval_ListComp];refine wpAny_comprehension_free (use:=none) rfl hs (iA (dN S I)) S.kind S.names (jQ (hi pins s σ H _ I h) fun v s1 h1=>jQ h1 fun itv s2 h2=>?_);obtain ⟨it,fp,tn,J,H2,e,I2,T,st2,f2,q2⟩:=h2;subst e;refine iR (RR:=fun acc C=>compPost (model P w) (A.deeper (envOfC qual scf s₀.heap.objs.size f cd)) (kD (j4 P w) P w K mg base Nf qual scf f cd A outer s₀ H₀ E).xe none (EP (kD (j4 P w) P w K mg base Nf qual scf f cd A outer s₀ H₀ E) pins σ Q) acc C) (Q:=fun D H'=>Q (.ref D) H') rfl S hcap I2 T st2 f2 (fun C=>hg C _ _ _ _) (fun C=>hc C _ _ _ _) (fun C=>he C _ _ _ _) q2 ?_ ?_
 ·intro D C σc H' s' hC Jc q;obtain ⟨m,hn,_⟩:=Jc.loc;refine ⟨m,hn,fun h' hs'=>?_⟩;exact ⟨.ref D,H',iZ I2 hC (fI (σ':=σ) I2 f2 Jc) Jc.free hs',rfl,q⟩
 ·intro D C e s' hC hx;exact wE I2 f2 hC hx _
theorem ET {tg iter elt:Expr} {ifs:List Expr} {scope:Scope} {pos spos py:Pos} {i:Nat} {y:Str} {wi:TI} {g:TG} {tc:TT} {te:TE} (N:List Str) (cap:St→St) (hN:(kD (j4 P w) P w K mg base Nf qual scf f cd A outer s₀ H₀ E).N.Nodup) (hy:(kD (j4 P w) P w K mg base Nf qual scf f cd A outer s₀ H₀ E).N[i]?=some y) (hloc:eZ (kD (j4 P w) P w K mg base Nf qual scf f cd A outer s₀ H₀ E).env.scope y) (S:CompScope (kD (j4 P w) P w K mg base Nf qual scf f cd A outer s₀ H₀ E) scope) (hcap:Q5 (kD (j4 P w) P w K mg base Nf qual scf f cd A outer s₀ H₀ E) N scope cap) (hi:PI (kD (j4 P w) P w K mg base Nf qual scf f cd A outer s₀ H₀ E) tg iter wi)
  (hg:∀C s H pins fp,PG (qU (kD (j4 P w) P w K mg base Nf qual scf f cd A outer s₀ H₀ E) N scope C s H pins fp) tg g) (hc:∀C s H pins fp,Z4 (qU (kD (j4 P w) P w K mg base Nf qual scf f cd A outer s₀ H₀ E) N scope C s H pins fp) ifs tc)
  (he:∀C s H pins fp,PE ((qU (kD (j4 P w) P w K mg base Nf qual scf f cd A outer s₀ H₀ E) N scope C s H pins fp).wish (ZZ (kD (j4 P w) P w K mg base Nf qual scf f cd A outer s₀ H₀ E) N scope C s H pins fp fun c H'=>E c none H')) elt te)
  (hsw:swapsWith (.ListComp elt [⟨tg,iter,ifs,0⟩] scope pos) (some (.Name y py)) spos.line (kD (j4 P w) P w K mg base Nf qual scf f cd A outer s₀ H₀ E).env=pure true:=by rfl)
  (hs:∀x,foldedSetIterable iter (kD (j4 P w) P w K mg base Nf qual scf f cd A outer s₀ H₀ E).env x=pure x:=by intro _;rfl) :
  PS (kD (j4 P w) P w K mg base Nf qual scf f cd A outer s₀ H₀ E) (.Assign [.Name y py] (.ListComp elt [⟨tg,iter,ifs,0⟩] scope pos) spos) (tY i wi cap g tc te):=by
 intro pins s σ H D I h;rw [exec_Assign_Name_used _ _ _ _ hsw];refine wpAny_bind (wpAny_standAt (wpAny_bind ?_));show wpAny _ (kD (j4 P w) P w K mg base Nf qual scf f cd A outer s₀ H₀ E).A (do let _ ← comprehension (.ListComp elt [⟨tg,iter,ifs,0⟩] scope pos) scope (kD (j4 P w) P w K mg base Nf qual scf f cd A outer s₀ H₀ E).env _ (newList []) false (eval iter (kD (j4 P w) P w K mg base Nf qual scf f cd A outer s₀ H₀ E).env) (some (assign (.Name y py) (kD (j4 P w) P w K mg base Nf qual scf f cd A outer s₀ H₀ E).env))) _ _ s;refine wpAny_bind (wpAny_mono (wpAny_comprehension_free (use:=some (assign (.Name y py) (kD (j4 P w) P w K mg base Nf qual scf f cd A outer s₀ H₀ E).env)) (Q:=fun _ s'=>SP (kD (j4 P w) P w K mg base Nf qual scf f cd A outer s₀ H₀ E) pins D .next s') rfl hs (iA (dN S I)) S.kind S.names
  (jQ (hi pins s σ H _ I h) fun v s1 h1=>jQ h1 fun itv s2 h2=>?_)) (fun _ s' hq=>wpAny_pure (wpAny_pure hq)) fun _ _ e=>e)
 obtain ⟨it,fp,tn,J,H2,e,I2,T,st2,f2,q2⟩:=h2;subst e;refine iR (RR:=fun acc C=>compPost (model P w) (A.deeper (envOfC qual scf s₀.heap.objs.size f cd)) (kD (j4 P w) P w K mg base Nf qual scf f cd A outer s₀ H₀ E).xe (some (assign (.Name y py) (kD (j4 P w) P w K mg base Nf qual scf f cd A outer s₀ H₀ E).env)) (fun _ s'=>SP (kD (j4 P w) P w K mg base Nf qual scf f cd A outer s₀ H₀ E) pins D .next s') acc C) (Q:=fun d H'=>D.nx (σ.set i (some (.ref d))) H') rfl S hcap I2 T st2 f2 (fun C=>hg C _ _ _ _) (fun C=>hc C _ _ _ _) (fun C=>he C _ _ _ _) q2 ?_ ?_
 ·intro d C σc H' s' hC Jc q;obtain ⟨m,hn,_⟩:=Jc.loc;have J1:Inv (kD (j4 P w) P w K mg base Nf qual scf f cd A outer s₀ H₀ E) pins σ H' s':=fI (σ':=σ) I2 f2 Jc;show wpAny _ (kD (j4 P w) P w K mg base Nf qual scf f cd A outer s₀ H₀ E).A (assign (.Name y py) (kD (j4 P w) P w K mg base Nf qual scf f cd A outer s₀ H₀ E).env (.ref d)) _ _ _;refine wpAny_assign_Name (m5 (v:=.ref d) J1 hN hy hloc rfl (fun s'' J2 hsb=>?_) (.inl rfl));obtain ⟨a,sb,ha⟩:=hsb;have haC:C≠a:=by
   rcases ha with e|e
   ·rw [e];exact Nat.ne_of_gt (Nat.lt_of_lt_of_le I2.lt hC)
   ·obtain ⟨v,q'⟩:=I2.cell y a e;exact Nat.ne_of_gt (Nat.lt_of_lt_of_le q'.lt hC)
  refine ⟨m,hn.sameBut sb haC,fun h' hs'=>?_⟩;exact ⟨_,H',iZ I2 hC J2 Jc.free hs',q⟩
 ·intro d C e s' hC hx;exact wE I2 f2 hC hx _
end
end L2
namespace L2
open PySem PySem.Spec PyProof.Rows
section
variable {X:Cx}
def y7 (z:Str) (k:Nat):Str:=⟨(List.replicate k z.cps).foldl (·++·) #[]⟩
theorem u9 (a:Array Nat):∀(k:Nat) (acc:Array Nat),((List.replicate k a).foldl (·++·) acc).toList=acc.toList++(List.replicate k a.toList).flatten
 |0,acc=>by simp
 |k+1,acc=>by rw [List.replicate_succ,List.foldl_cons,u9 a k,List.replicate_succ,List.flatten_cons,Array.toList_append,List.append_assoc]
theorem nW (z:Str) (k:Nat):(y7 z k).cps.toList=(List.replicate k z.cps.toList).flatten:=by
 unfold y7;rw [u9];rfl
theorem nV (z:Str) (k:Nat):(y7 z k).length=k*z.length:=by
 show (y7 z k).cps.size=k*z.cps.size;rw [← Array.length_toList,nW,xE,Array.length_toList]
def NK:R2:=fun x y H Q=>∃(z:Str) (k:Int),x=.str z∧y=.int k∧0≤k∧k≤100∧z.length≤100∧Q (.str (y7 z k.toNat)) H
theorem LM:qA X (binaryOp .Mult) NK:=by
 intro pins s σ H x y v u Q I rx ry h;obtain ⟨z,k,rfl,rfl,h0,h1,hz,q⟩:=h;obtain ⟨t,rfl⟩:=rx;obtain ⟨t',rfl⟩:=ry;have hm:z.length*k.toNat≤10000:=Nat.le_trans (Nat.mul_le_mul hz (show k.toNat≤100 by omega)) (Nat.le_refl _);refine P.mul_str ?_ (fun h2 _=>?_) (fun _ _=>?_) ?_
 ·rw [decide_eq_false (by omega),decide_eq_false (by omega)];rfl
 ·have:(100:Int)≤(2 ^ 63 - 1) / k:=by
   rw [Int.le_ediv_iff_mul_le (by omega)];omega
  omega
 ·exact decide_eq_false (Nat.not_lt.mpr (Nat.le_trans hm (by decide)))
 ·by_cases h2:k<1
  ·rw [if_pos h2];have e:k.toNat=0:=by omega
   rw [e] at q;exact ⟨by decide,.str (y7 z 0),H,I.tok _,⟨_,rfl⟩,q⟩
  ·rw [if_neg h2]
   by_cases h3:(k == 1||z.length == 0)=true
   ·rw [if_pos h3];have e:y7 z k.toNat=z:=by
     have:(y7 z k.toNat).cps.toList=z.cps.toList:=by
      rw [nW]
      rcases Bool.or_eq_true_iff.mp h3 with h|h
      ·rw [show k.toNat=1 by have:=eq_of_beq h;omega];simp
      ·have h:z.cps.size=0:=eq_of_beq h;rw [Array.eq_empty_of_size_eq_zero h];simp
     cases hr:y7 z k.toNat with
     |mk a=>rw [hr] at this;obtain ⟨b⟩:=z;exact congrArg Str.mk (Array.toList_inj.mp this)
    rw [e] at q;exact ⟨.str z,H,I,⟨_,rfl⟩,q⟩
   ·rw [if_neg h3];exact ⟨by show (y7 z k.toNat).length≤sizeLine;rw [nV,Nat.mul_comm];exact Nat.le_trans hm (by decide),.str (y7 z k.toNat),H,I.tok _,⟨_,rfl⟩,q⟩
theorem iF {X:Cx} (K:PySem.W.Frag) (h:X.K=K:=by rfl):qA X (compareOp .In) (lY K false):=by subst h;exact GN
theorem fB {X:Cx} (K:PySem.W.Frag) (h:X.K=K:=by rfl):qA X (compareOp .NotIn) (lY K true):=by subst h;exact EK
theorem MW {X:Cx} {e:Expr} (t:PySem.W.Frag→TE) (K:PySem.W.Frag) (h:PE X e (t X.K)) (hK:X.K=K:=by rfl):PE X e (t K):=by subst hK;exact h
end
end L2
namespace L2
open PySem PySem.Spec PyProof.Rows
section
variable {P:Program} {w:World} {K:PySem.W.Frag} {mg:Str→Option Value} {base:Heap}
theorem Fun.ok2 {x qual:Str} {st:Stmt} {f:Addr} {fd:FuncData} {N ps:List Str} {k:Nat} {sp:Sp} (F:Fun K x qual st f fd) (S:FnScope N ps (jI st))
  (h:∀vs H Q E,sp vs H Q E→vs.length=ps.length∧∀cdv A outer s,Room k (A.deeper (envOfC qual (jI st) s.heap.objs.size f cdv))→∃t,PSs (kD kB P w K mg base N qual (jI st) f cdv A outer s H E).nox (j3 st) t∧t {nx:=fun _ H'=>Q .non H',rt:=Q} (zO N vs) H):FnOk P w K mg base kB (k+1) f fd ps sp :=
 F.ok S (fun vs H Q E z=>(h vs H Q E z).1) fun cdv A outer s H vs Q E r z=>(h vs H Q E z).2 cdv A outer s r
theorem Fun.okX2 {x qual:Str} {st:Stmt} {f:Addr} {fd:FuncData} {N ps:List Str} {k:Nat} {sp:Sp} (F:Fun K x qual st f fd) (S:FnScope N ps (jI st))
  (h:∀vs H Q E,sp vs H Q E→vs.length=ps.length∧∀cdv A outer s,Room k (A.deeper (envOfC qual (jI st) s.heap.objs.size f cdv))→∃t,PSs (kD (j4 P w) P w K mg base N qual (jI st) f cdv A outer s H E) (j3 st) t∧t {nx:=fun _ H'=>Q .non H',rt:=Q} (zO N vs) H):FnOk P w K mg base (j4 P w) (k+1) f fd ps sp :=
 F.okX S (fun vs H Q E z=>(h vs H Q E z).1) fun cdv A outer s H vs Q E r z=>(h vs H Q E z).2 cdv A outer s r
theorem FunD.ok2 {x qual:Str} {st:Stmt} {f:Addr} {fd:FuncData} {ds:List Value} {N ps:List Str} {k:Nat} {sp:Sp} (F:FunD K x qual st f fd ds) (S:FnScope N ps (jI st))
  (h:∀vs H Q E,sp vs H Q E→vs.length=ps.length∧∀cdv A outer s,Room k (A.deeper (envOfC qual (jI st) s.heap.objs.size f cdv))→∃t,PSs (kD kB P w K mg base N qual (jI st) f cdv A outer s H E).nox (j3 st) t∧t {nx:=fun _ H'=>Q .non H',rt:=Q} (zO N vs) H):FnOk P w K mg base kB (k+1) f fd ps sp :=
 F.ok S (fun vs H Q E z=>(h vs H Q E z).1) fun cdv A outer s H vs Q E r z=>(h vs H Q E z).2 cdv A outer s r
theorem qG {x:Str} {f:Addr} {fd:FuncData} {ps:List Str} {k:Nat} {sp:Sp} (G:FnOk P w K mg base kB k f fd ps sp) (m:mg x=some (.ref f)) (kp:PySem.W.keepIn K (.ref f)=true) (b:Binds K fd ps []):Def P w K mg base k x ps [] sp:=⟨_,_,[],G,m,kp,.nil,b⟩
theorem zN {x:Str} {f:Addr} {fd:FuncData} {ps:List Str} {k:Nat} {sp:Sp} (G:FnOk P w K mg base (j4 P w) k f fd ps sp) (m:mg x=some (.ref f)) (kp:PySem.W.keepIn K (.ref f)=true) (b:Binds K fd ps []):DefX P w K mg base k x ps [] sp:=⟨_,_,[],G,m,kp,.nil,b⟩
end
section
variable {X:Cx} {a b:Expr} {ta tb:TE} {r:R2} {pos:Pos}
theorem jF (hr:IxR X r) (ha:PE X a ta) (hb:PE X b tb) (hs:xL b:=by exact fun _ _=>rfl):PE X (.Subscript a b pos) (Z1 r ta tb):=BK hr ha hb hs
theorem qP {op:CmpOp} (ho:qA X (compareOp op) r) (ha:PE X a ta) (hb:PE X b tb) (hm:behindInMarks op b=false:=by first|exact pT _|with_unfolding_all rfl):PE X (.Compare a [op] [b] pos) (Z1 r ta tb):=LK ho ha hb hm
theorem jU {op:CmpOp} (ho:qA X (compareOp op) r) (ha:PE X a ta) (hb:PE X b tb) (hm:behindInMarks op b=false:=by first|exact pT _|with_unfolding_all rfl):PT X (.Compare a [op] [b] pos) (o6 (Z1 r ta tb)):=BJ ho ha hb hm
end
theorem Z2 {K:PySem.W.Frag} {H:Hp} {a:Addr} {xs ys:List V} {lo hi:Option Int} {Q:VK} (h:H a=some (.lst xs)) (e:qS xs lo hi=ys) (q:∀p,H p=none→Q (.ref p) (upd H p (.lst ys))):lU K (.ref a) lo hi H Q:=⟨a,xs,rfl,SqL.of h,fun p hp=>by rw [e];exact q p hp⟩
theorem gS {K:PySem.W.Frag} {σ:St} {H:Hp} {a:Addr} {xs ys:List V} {lo:Option Int} {Q:VK} (h:H a=some (.lst xs)) (e:qS xs lo none=ys) (q:∀p,H p=none→Q (.ref p) (upd H p (.lst ys))):wK σ H fun u G=>lU K (.ref a) lo u G Q:=Z2 h e q
theorem lX {K:PySem.W.Frag} {H:Hp} {a:Addr} {xs ys:List V} {lo hi k:Option Int} {Q:VK} (h:H a=some (.lst xs)) (e:QF xs lo hi k=ys) (hk:k≠some 0) (q:∀p,H p=none→Q (.ref p) (upd H p (.lst ys))):AW K (.ref a) lo hi k H Q:=⟨a,xs,rfl,SqL.of h,hk,fun p hp=>by rw [e];exact q p hp⟩
def JP {n:Nat} {g:TG} {tb:TS} {D:Ends} {σ:St} {H:Hp} (P:Nat→St→Hp→Prop) (h0:P 0 σ H) (h:∀j τ G,j<n→P j τ G→g (.int (j:Int)) τ G fun σ2 H2=>tb {D with nx:=P (j+1),ct:=P (j+1),bk:=D.nx} σ2 H2) (hd:∀τ G,P n τ G→D.nx τ G):=HK (lo:=0) P h0 (fun j τ G hj p=>by rw [Int.zero_add];exact h j τ G hj p) hd
theorem lF {X:Cx} (K:PySem.W.Frag) (h:X.K=K:=by rfl):eY X (AV K):=by subst h;exact MK
theorem so {K:PySem.W.Frag} {H:Hp} {a:Addr} {xs:List V} (h:H a=some (.lst xs)):SqL K H a xs:=SqL.of h
end L2
namespace L2
open PySem PySem.Spec PyProof.Rows
section
variable {X:Cx} {N:List Str} {scope:Scope} {pins:List (Addr×Obj)} {σ:St} {H:Hp} {s:Shared} {fp:List Addr}
theorem BH {C:Addr} {e:Value} {s':Shared} {p:Prop} (h:ZZ X N scope C s H pins fp (fun _ _=>False) e s'):p:=by
 obtain ⟨_,_,_,_,_,h⟩:=h;obtain ⟨_,_,_,_,_,_,_,_,_,_,_,z⟩:=h;exact z.elim
theorem zD {tg iter elt:Expr} {ifs:List Expr} {pos:Pos} {wi:TI} {g:TG} {tc:TT} {te:TE} (N:List Str) (cap:St→St) (hcalm:X.calm=true) (S:CompScope X scope) (hcap:Q5 X N scope cap) (hi:PI X tg iter wi)
  (hg:∀C s H pins fp,PG (qU X N scope C s H pins fp) tg g) (hc:∀C s H pins fp,Z4 (qU X N scope C s H pins fp) ifs tc) (he:∀C s H pins fp,PE (qU X N scope C s H pins fp) elt te)
  (hs:∀x,foldedSetIterable iter X.env x=pure x:=by intro _;rfl):PE X (.ListComp elt [⟨tg,iter,ifs,0⟩] scope pos) (AE wi cap g tc te):=by
 intro pins s σ H Q I h;rw [eval_ListComp];refine wpAny_comprehension_free (use:=none) rfl hs (iA (dN S I)) S.kind S.names (jQ (hi pins s σ H _ I h) fun v s1 h1=>jQ h1 fun itv s2 h2=>?_);obtain ⟨it,fp,tn,J,H2,e,I2,T,st2,f2,q2⟩:=h2;subst e;refine iR (RX:=fun _ _=>False) (RR:=fun acc C=>compPost (model X.prog X.w) X.A X.xe none (EP X pins σ Q) acc C) (Q:=fun D H'=>Q (.ref D) H') hcalm S hcap I2 T st2 f2 (fun C=>hg C _ _ _ _) (fun C=>hc C _ _ _ _) (fun C=>PE.nox (he C _ _ _ _)) q2 ?_ (fun _ _ _ _ _ hx=>BH hx);intro D C σc H' s' hC Jc q;obtain ⟨m,hn,_⟩:=Jc.loc;refine ⟨m,hn,fun h' hs'=>?_⟩;exact ⟨.ref D,H',iZ I2 hC (fI (σ':=σ) I2 f2 Jc) Jc.free hs',rfl,q⟩
theorem ZP {tg iter elt:Expr} {ifs:List Expr} {pos spos py:Pos} {i:Nat} {y:Str} {wi:TI} {g:TG} {tc:TT} {te:TE} (N:List Str) (cap:St→St) (hN:X.N.Nodup) (hy:X.N[i]?=some y) (hloc:eZ X.env.scope y) (hcalm:X.calm=true) (S:CompScope X scope) (hcap:Q5 X N scope cap) (hi:PI X tg iter wi)
  (hg:∀C s H pins fp,PG (qU X N scope C s H pins fp) tg g) (hc:∀C s H pins fp,Z4 (qU X N scope C s H pins fp) ifs tc) (he:∀C s H pins fp,PE (qU X N scope C s H pins fp) elt te)
  (hsw:swapsWith (.ListComp elt [⟨tg,iter,ifs,0⟩] scope pos) (some (.Name y py)) spos.line X.env=pure true:=by rfl)
  (hs:∀x,foldedSetIterable iter X.env x=pure x:=by intro _;rfl) (hfn:X.fn y=true∨X.env.scope.names.lookup y=some .local:=by first|exact .inl rfl|exact .inr rfl|assumption) :
  PS X (.Assign [.Name y py] (.ListComp elt [⟨tg,iter,ifs,0⟩] scope pos) spos) (tY i wi cap g tc te):=by
 intro pins s σ H D I h;rw [exec_Assign_Name_used _ _ _ _ hsw];refine wpAny_bind (wpAny_standAt (wpAny_bind ?_));show wpAny _ X.A (do let _ ← comprehension (.ListComp elt [⟨tg,iter,ifs,0⟩] scope pos) scope X.env _ (newList []) false (eval iter X.env) (some (assign (.Name y py) X.env))) _ _ s;refine wpAny_bind (wpAny_mono (wpAny_comprehension_free (use:=some (assign (.Name y py) X.env)) (Q:=fun _ s'=>SP X pins D .next s') rfl hs (iA (dN S I)) S.kind S.names
  (jQ (hi pins s σ H _ I h) fun v s1 h1=>jQ h1 fun itv s2 h2=>?_)) (fun _ s' hq=>wpAny_pure (wpAny_pure hq)) fun _ _ e=>e)
 obtain ⟨it,fp,tn,J,H2,e,I2,T,st2,f2,q2⟩:=h2;subst e;refine iR (RX:=fun _ _=>False) (RR:=fun acc C=>compPost (model X.prog X.w) X.A X.xe (some (assign (.Name y py) X.env)) (fun _ s'=>SP X pins D .next s') acc C) (Q:=fun d H'=>D.nx (σ.set i (some (.ref d))) H') hcalm S hcap I2 T st2 f2 (fun C=>hg C _ _ _ _) (fun C=>hc C _ _ _ _) (fun C=>PE.nox (he C _ _ _ _)) q2 ?_ (fun _ _ _ _ _ hx=>BH hx);intro d C σc H' s' hC Jc q;obtain ⟨m,hn,_⟩:=Jc.loc;have J1:Inv X pins σ H' s':=fI (σ':=σ) I2 f2 Jc;show wpAny _ X.A (assign (.Name y py) X.env (.ref d)) _ _ _;refine wpAny_assign_Name (m5 (v:=.ref d) J1 hN hy hloc rfl (fun s'' J2 hsb=>?_) hfn);obtain ⟨a,sb,ha⟩:=hsb;have haC:C≠a:=by
  rcases ha with e|e
  ·rw [e];exact Nat.ne_of_gt (Nat.lt_of_lt_of_le I2.lt hC)
  ·obtain ⟨v,q'⟩:=I2.cell y a e;exact Nat.ne_of_gt (Nat.lt_of_lt_of_le q'.lt hC)
 refine ⟨m,hn.sameBut sb haC,fun h' hs'=>?_⟩;exact ⟨_,H',iZ I2 hC J2 Jc.free hs',q⟩
end
theorem kG {N P:List Str} {sc:Scope} (a:sc.kind=.function:=by rfl) (b:sc.isCoroutine=false:=by rfl) (c:sc.isGenerator=false:=by rfl) (d:N.Nodup:=by decide +kernel) (e:N.take P.length=P:=by rfl)
  (f:∀x∈P,sc.names.lookup x=some .local∨sc.names.lookup x=some .cell:=by decide +kernel) (g:∀y∈sc.names,y.2≠.free:=by decide +kernel):FnScope N P sc:=⟨a,b,c,d,e,f,g⟩
theorem vO {X:Cx} {scope:Scope} (sc:Scope) (a:X.env.scope=sc:=by rfl) (b:scope.kind=.function:=by rfl) (c:∀y∈scope.names,y.2≠.cell:=by decide +kernel) (d:∀y∈scope.names,y.2=.local→scope.names.lookup y.1=some .local:=by decide +kernel)
  (e:∀y∈scope.names,y.2=.free→sc.names.lookup y.1=some .cell∨sc.names.lookup y.1=some .free:=by decide +kernel):CompScope X scope:=BM sc a b c d e
theorem cps {X:Cx} {N:List Str} {scope:Scope} (n:Nat) (js:List Nat) (a:N.length=n+js.length:=by rfl) (b:js.map (fun j=>X.N[j]?)=(N.drop n).map some:=by rfl) (c:∀x∈N.drop n,scope.names.lookup x=some .free:=by decide +kernel):Q5 X N scope (qZ n js):=BN n js a b c
end L2
namespace My
open PySem L2 List
theorem zz0:0≤sizeLine:=by decide
theorem zz1:1≤sizeLine:=by decide
theorem zz2:2≤sizeLine:=by decide
theorem zz3:3≤sizeLine:=by decide
theorem zz4:4≤sizeLine:=by decide
theorem zz5:5≤sizeLine:=by decide
theorem zz6:6≤sizeLine:=by decide
theorem zz7:7≤sizeLine:=by decide
theorem zz11:11≤sizeLine:=by decide
theorem zz12:12≤sizeLine:=by decide
theorem zz23:23≤sizeLine:=by decide
def top (i:Nat):Stmt:=PySem.Challenge.pw_lockhouse_k37_the_first_bad_row.main.body.getD i (.Pass ⟨0,0,0,0⟩)
abbrev bB:Stmt:=z9 (top 15) 0
abbrev Z8:Stmt:=z9 (top 16) 0
abbrev bE:Stmt:=z9 (top 17) 0
abbrev bH:Stmt:=z9 (top 12) 0
abbrev bD:Stmt:=z9 (top 15) 3
abbrev bA:Stmt:=z9 (top 16) 3
abbrev bG:Stmt:=z9 (top 17) 2
abbrev bC:Stmt:=z9 (top 15) 4
abbrev Z9:Stmt:=z9 (top 16) 4
abbrev bF:Stmt:=z9 (top 17) 3
abbrev Q9:Stmt:=z9 (top 13) 0
abbrev cO:Stmt:=top 11
abbrev ZL:Stmt:=top 22
abbrev cI:Stmt:=top 23
abbrev cJ:Stmt:=top 24
abbrev cM:Stmt:=top 25
abbrev ZH:Stmt:=top 26
abbrev ZI:Stmt:=top 27
abbrev ZJ:Stmt:=top 41
abbrev cV:Stmt:=top 42
abbrev cT:Stmt:=top 43
abbrev cW:Stmt:=top 44
abbrev cX:Stmt:=top 39
abbrev cK:Stmt:=top 40
abbrev cQ:Stmt:=top 36
abbrev cL:Stmt:=top 37
abbrev ZG:Stmt:=top 38
abbrev cS:Stmt:=top 35
abbrev ZK:Stmt:=top 28
abbrev ZF:Stmt:=top 34
abbrev bK:Stmt:=top 46
abbrev cH:Stmt:=top 47
abbrev bV:Stmt:=top 48
abbrev ZD:Stmt:=top 49
abbrev bP:Stmt:=top 50
abbrev cD:Stmt:=top 51
abbrev bQ:Stmt:=top 52
abbrev bY:Stmt:=top 53
abbrev ZC:Stmt:=top 54
abbrev bU:Stmt:=top 66
abbrev bM:Stmt:=top 67
abbrev cF:Stmt:=top 69
abbrev bO:Stmt:=top 68
abbrev JL:Stmt:=top 70
abbrev QN:Stmt:=top 71
abbrev JY:Stmt:=top 55
abbrev ZB:Stmt:=top 72
abbrev bW:Stmt:=top 62
abbrev bX:Stmt:=top 63
abbrev bI:Stmt:=top 64
abbrev cG:Stmt:=top 65
abbrev cA:Stmt:=top 56
abbrev cE:Stmt:=top 57
abbrev bT:Stmt:=top 58
abbrev bZ:Stmt:=top 59
abbrev bJ:Stmt:=top 60
abbrev ZE:Stmt:=top 61
abbrev ZA:Stmt:=top 73
abbrev JM:Stmt:=top 74
theorem jK {H:Hp} {p:Addr} (h:H p=none) (o:HO):Same H (upd H p o):=fun b u q=>by rw [j9 (jW q h)];exact q
theorem small {n:Nat} (h:n≤1000):n≤sizeLine:=Nat.le_of_lt (vF h)
def pL (K:W.Frag) (H:Hp) (a:Addr) (ws:List Int):Prop:=SqL K H a (ws.map V.int)∨SqT K H a (ws.map V.int)
theorem fW {n s:Nat} (h:s<n):zU n (s:Int)=some s:=by
 unfold zU;rw [if_pos (by omega),if_pos (by omega)];simp
theorem oG {ws:List Int} {s:Nat} (h:s<ws.length):kQ (ws.map V.int) (s:Int)=some (.int (ws.getD s 0)):=by
 refine q9 ?_;rw [List.getElem?_map,List.getElem?_eq_getElem h,getD_eq_getElem?_getD,List.getElem?_eq_getElem h];rfl
theorem nY {K:W.Frag} {H:Hp} {p:Addr} {ws:List Int} {s:Nat} {Q:VK} (h:pL K H p ws) (hs:s<ws.length) (q:Q (.int (ws.getD s 0)) H):pN K (.ref p) (.int s) H Q:=by
 rcases h with h|h
 ·exact .inl ⟨p,_,s,_,rfl,rfl,h,oG hs,q⟩
 ·exact .inr (.inl ⟨p,_,s,_,rfl,rfl,h,oG hs,q⟩)
theorem uZ {ms:List Int} {i:Nat} {x:V} (h:(ms.map V.int)[i]?=some x):∃z,x=V.int z∧ms[i]?=some z:=by
 rw [List.getElem?_map] at h;cases e:ms[i]? with
 |none=>rw [e] at h;cases h
 |some z=>rw [e] at h;exact ⟨z,(Option.some.inj h).symm,rfl⟩
def oZ (K:W.Frag):Sp:=fun vs H Q _=>∃(a:Addr) (ns:List Int) (k:Nat),vs=[.ref a,.int k]∧SqL K H a (ns.map V.int)∧Q (.int (ns.getD k 0)) H
def wN:Sp:=fun vs H Q _=>∃i:Int,vs=[.int i]∧Q (.bl true) H
def lO (K:W.Frag):Sp:=fun vs H Q _=>∃(a:Addr) (ns:List Int),vs=[.ref a]∧SqL K H a (ns.map V.int)∧ns.length≤63∧∀H',Q (.bl true) H'
def Keep (d:Addr) (H H':Hp):Prop:=∀b o,b≠d→H b=some o→H' b=some o
theorem Keep.refl (d:Addr) (H:Hp):Keep d H H:=fun _ _ _ q=>q
theorem Keep.of {d:Addr} {H H':Hp} (s:Same H H'):Keep d H H':=fun b o _ q=>s b o q
theorem Keep.trans {d:Addr} {H H1 H2:Hp} (a:Keep d H H1) (b:Keep d H1 H2):Keep d H H2:=fun c o n q=>b c o n (a c o n q)
theorem Keep.upd {d:Addr} {H H':Hp} (k:Keep d H H') (o:HO):Keep d H (upd H' d o):=fun b u n q=>by rw [j9 n];exact k b u n q
def lettersS:Str:="abcdefghijklmnopqrstuvwxyz"
theorem EV:lettersS.cps.toList.length=26:=by decide +kernel
theorem p9:lettersS.length≤sizeLine:=by decide +kernel
def fV (z:Nat):Nat:=lettersS.cps.toList.getD z 0
theorem FO {z:Int} (h0:0≤z) (h1:z<26):kQ lettersS.cps.toList z=some (fV z.toNat):=by
 have h:=q9 (xs:=lettersS.cps.toList) (j:=z.toNat) (v:=fV z.toNat) (by
  unfold fV;rw [getD_eq_getElem?_getD,List.getElem?_eq_getElem (by rw [EV];omega)];rfl)
 have e:((z.toNat:Nat):Int)=z:=by omega
 rwa [e] at h
def yI (n h l r:V):List (Str×V):=j0 "room" r (j0 "low" l (j0 "high" h (j0 "name" n [])))
theorem NQ:¬(("name":Str)="high"):=by decide +kernel
theorem NP:¬(("name":Str)="low"):=by decide +kernel
theorem NO:¬(("name":Str)="room"):=by decide +kernel
theorem NT:¬(("high":Str)="low"):=by decide +kernel
theorem NS:¬(("high":Str)="room"):=by decide +kernel
theorem NR:¬(("low":Str)="room"):=by decide +kernel
theorem LW (n h l r:V):(yI n h l r).lookup ("name":Str)=some n:=by
 unfold yI;rw [vW,if_neg NO,vW,if_neg NP,vW,if_neg NQ,vW,if_pos rfl]
theorem LX (n h l r:V):(yI n h l r).lookup ("high":Str)=some h:=by
 unfold yI;rw [vW,if_neg NS,vW,if_neg NT,vW,if_pos rfl]
theorem M3 (n h l r:V):(yI n h l r).lookup ("low":Str)=some l:=by
 unfold yI;rw [vW,if_neg NR,vW,if_pos rfl]
theorem LV (n h l r:V):(yI n h l r).lookup ("room":Str)=some r:=by
 unfold yI;rw [vW,if_pos rfl]
theorem AH (n h l r:V) {m:Str} (h1:¬m="room") (h2:¬m="low") (h3:¬m="high") (h4:¬m="name"):(yI n h l r).lookup m=none:=by
 unfold yI;rw [vW,if_neg h1,vW,if_neg h2,vW,if_neg h3,vW,if_neg h4];rfl
def d9 (e:Str) (n h l r v:V):List (Str×V):=j0 e v (yI n h l r)
theorem wL (e:Str) (n h l r v:V):(d9 e n h l r v).lookup e=some v:=by
 unfold d9;rw [vW,if_pos rfl]
theorem wM {e m:Str} (ne:¬m=e) (n h l r v:V):(d9 e n h l r v).lookup m=(yI n h l r).lookup m:=by
 unfold d9;rw [vW,if_neg ne]
theorem sC (n h l r:V):(yI n h l r).length<1000:=by
 have h1:=JO "high" h (j0 "name" n []);have h2:=JO "low" l (j0 "high" h (j0 "name" n []));have h3:=JO "room" r (j0 "low" l (j0 "high" h (j0 "name" n [])));have h4:(j0 ("name":Str) n []).length=1:=rfl;unfold yI;omega
def j6 (cP cB cU:Addr):Kd→Addr
 |.plain=>cP
 |.basin=>cB
 |.pump=>cU
def QB (kd:Kd) (n h l r v:V):List (Str×V):=match kd with
 |.plain=>yI n h l r
 |.basin=>d9 "side" n h l r v
 |.pump=>d9 "lift" n h l r v
theorem d8 (kd:Kd) (n h l r v:V) {m:Str} (h1:¬m="side") (h2:¬m="lift"):(QB kd n h l r v).lookup m=(yI n h l r).lookup m:=by
 cases kd
 ·rfl
 ·exact wM h1 _ _ _ _ _
 ·exact wM h2 _ _ _ _ _
theorem lI (kd:Kd) (n h l r v:V):(QB kd n h l r v).lookup ("name":Str)=some n:=by rw [d8 kd _ _ _ _ _ (by decide +kernel) (by decide +kernel)];exact LW ..
theorem xF (kd:Kd) (n h l r v:V):(QB kd n h l r v).lookup ("high":Str)=some h:=by rw [d8 kd _ _ _ _ _ (by decide +kernel) (by decide +kernel)];exact LX ..
theorem x9 (kd:Kd) (n h l r v:V):(QB kd n h l r v).lookup ("low":Str)=some l:=by rw [d8 kd _ _ _ _ _ (by decide +kernel) (by decide +kernel)];exact M3 ..
theorem lH (kd:Kd) (n h l r v:V):(QB kd n h l r v).lookup ("room":Str)=some r:=by rw [d8 kd _ _ _ _ _ (by decide +kernel) (by decide +kernel)];exact LV ..
theorem fX (kd:Kd) (n h l r v:V):(QB kd n h l r v).lookup ("kind":Str)=none:=by rw [d8 kd _ _ _ _ _ (by decide +kernel) (by decide +kernel)];exact AH _ _ _ _ (by decide +kernel) (by decide +kernel) (by decide +kernel) (by decide +kernel)
theorem oE (kd:Kd) (n h l r v:V):(QB kd n h l r v).lookup ("extra":Str)=none:=by rw [d8 kd _ _ _ _ _ (by decide +kernel) (by decide +kernel)];exact AH _ _ _ _ (by decide +kernel) (by decide +kernel) (by decide +kernel) (by decide +kernel)
def LockAt (cs:Kd→Addr) (H:Hp) (x:Addr) (kd:Kd) (n h l:V) (room v:Int):Prop:=∃dx:Addr,H x=some (.ins (cs kd) dx (QB kd n h l (.int room) (.int v)))
theorem LockAt.same {cs:Kd→Addr} {H H':Hp} {x:Addr} {kd:Kd} {n h l:V} {room v:Int} (e:Same H H') (a:LockAt cs H x kd n h l room v):LockAt cs H' x kd n h l room v:=by
 obtain ⟨dx,a⟩:=a;exact ⟨dx,e _ _ a⟩
def dZ (cs:Kd→Addr):Sp:=fun vs H Q _=>∃(kd:Kd) (x dx:Addr) (n h l r:V),vs=[.ref x,n,h,l,r]∧H x=some (.ins (cs kd) dx [])∧∀H':Hp,Keep x H H'→H' x=some (.ins (cs kd) dx (yI n h l r))→Q .non H'
def dY (cs:Kd→Addr) (kd:Kd):Sp:=fun vs H Q _=>∃(x dx:Addr) (n h l r v:V),vs=[.ref x,n,h,l,r,v]∧H x=some (.ins (cs kd) dx [])∧∀H':Hp,Keep x H H'→H' x=some (.ins (cs kd) dx (QB kd n h l r v))→Q .non H'
def yB (cs:Kd→Addr) (F:Kd→Int→V) (kd:Kd):Sp:=fun vs H Q _=>∃(x:Addr) (n h l:V) (room v:Int),vs=[.ref x]∧LockAt cs H x kd n h l room v∧Q (F kd v) H
def toS (s:Str) (q:Str×Str×Int):Bool:=decide (q.2.1=s)
def yE (n:Int):Nat:=97+(n%26).toNat
theorem xC (n:Int):97≤yE n:=by unfold yE;omega
theorem xD (n:Int):yE n≤122:=by
 unfold yE;have:=Int.emod_lt_of_pos n (by decide:(0:Int)<26);have:=Int.emod_nonneg n (by decide:(26:Int)≠0);omega
def qR (c:Int):List Nat:=(List.range 12).map fun (k:Nat)=>yE (c / 4+c / 100*(k:Int)+(k:Int)*(k:Int))
theorem yA (c:Int):(qR c).length=12:=by simp [qR]
def QE (c:Int):Nat:=(1+c / 16%12).toNat
def QM (c:Int):Nat:=(c / 32%(1+c / 16%12)).toNat
theorem K6 (c:Int):1≤QE c:=by unfold QE;have:=Int.emod_nonneg (c / 16) (by decide:(12:Int)≠0);omega
theorem oM (c:Int):QE c≤12:=by unfold QE;have:=Int.emod_lt_of_pos (c / 16) (by decide:(0:Int)<12);omega
theorem AK (c:Int):QM c<QE c:=by
 unfold QM QE;have h0:=Int.emod_nonneg (c / 16) (by decide:(12:Int)≠0);have h1:=Int.emod_lt_of_pos (c / 32) (show (0:Int)<1+c / 16%12 by omega);have h2:=Int.emod_nonneg (c / 32) (show (1+c / 16%12:Int)≠0 by omega);omega
def JH (c:Int) (k:Nat):List Nat:=(qR c).take (QM c)++[yE (c / 4+3*(k:Int))]++((qR c).take (QE c)).drop (QM c+1)
def kZ (c:Int) (k:Nat):List Nat:=if c%4=0 then (qR c).take (k+1) else if c%4=1 then (qR c).drop (11 - k) else JH c k
theorem lA (c:Int):∀x∈qR c,97≤x∧x≤122:=by
 intro x hx;obtain ⟨k,_,rfl⟩:=mem_map.mp hx;exact ⟨xC _,xD _⟩
theorem uT (c:Int) (k:Nat):∀x∈kZ c k,97≤x∧x≤122:=by
 intro x hx;unfold kZ JH at hx
 split at hx
 ·exact lA c x (mem_of_mem_take hx)
 split at hx
 ·exact lA c x (mem_of_mem_drop hx)
 rcases mem_append.mp hx with h|h
 ·rcases mem_append.mp h with h|h
  ·exact lA c x (mem_of_mem_take h)
  ·cases mem_singleton.mp h;exact ⟨xC _,xD _⟩
 ·exact lA c x (mem_of_mem_take (mem_of_mem_drop h))
theorem oP (c:Int) (k:Nat):(JH c k).length=QE c:=by
 have h1:=AK c;have h2:=oM c;unfold JH;simp only [length_append,length_take,length_drop,yA,length_singleton];omega
theorem uU (c:Int) {k:Nat} (hk:k<8):1≤(kZ c k).length∧(kZ c k).length≤12:=by
 unfold kZ
 split
 ·rw [length_take,yA];omega
 split
 ·rw [length_drop,yA];omega
 rw [oP];exact ⟨K6 c,oM c⟩
theorem M0 (c:Int) (k:Nat):(JH c k)[QM c]?=some (yE (c / 4+3*(k:Int))):=by
 have h1:=AK c;have h2:=oM c;unfold JH;have hl:((qR c).take (QM c)).length=QM c:=by rw [length_take,yA];omega
 rw [append_assoc,List.getElem?_append_right (by omega),hl,Nat.sub_self];rfl
theorem KJ {c:Int} {j k:Nat} (hj:j<8) (hk:k<8) (h:yE (c+3*(j:Int))=yE (c+3*(k:Int))):j=k:=by
 unfold yE at h;omega
theorem oA {c:Int} {j k:Nat} (hj:j<8) (hk:k<8) (h:kZ c j=kZ c k):j=k:=by
 unfold kZ at h
 split at h
 ·have:=congrArg List.length h;rw [length_take,length_take,yA] at this;omega
 split at h
 ·have:=congrArg List.length h;rw [length_drop,length_drop,yA] at this;omega
 have:=congrArg (fun l=>l[QM c]?) h;simp only [M0] at this;exact KJ hj hk (Option.some.inj this)
def seaL:List Nat:=[115,101,97]
def yQ (c:Int):List Nat:=if c%4<2 then [115,101,98] else [115,101,97,122]
def qH (c:Int) (k:Nat):List Nat:=if kZ c k=seaL then yQ c else kZ c k
theorem GK (c:Int):∀x∈yQ c,97≤x∧x≤122:=by
 unfold yQ
 split<;>decide
theorem GL (c:Int):1≤(yQ c).length∧(yQ c).length≤12:=by unfold yQ;split<;>decide
theorem nA (c:Int) (k:Nat):∀x∈qH c k,97≤x∧x≤122:=by
 unfold qH
 split
 ·exact GK c
 ·exact uT c k
theorem nB (c:Int) {k:Nat} (hk:k<8):1≤(qH c k).length∧(qH c k).length≤12:=by
 unfold qH
 split
 ·exact GL c
 ·exact uU c hk
theorem m9 (c:Int) (k:Nat):qH c k≠seaL:=by
 unfold qH
 split
 ·unfold yQ;split<;>decide
 ·assumption
theorem sY {c:Int} (hc:0≤c) {j k:Nat} (hj:j<8) (hk:k<8) (h1:kZ c j=seaL) (h2:kZ c k≠seaL):yQ c≠kZ c k:=by
 intro h;have l1:=congrArg List.length h1;have l2:=congrArg List.length h;have hne:j≠k:=fun z=>h2 (z▸h1)
 have h3:seaL.length=3:=rfl;rw [h3] at l1
 by_cases a:c%4=0
 ·have n1:kZ c j=(qR c).take (j+1):=if_pos a;have n2:kZ c k=(qR c).take (k+1):=if_pos a;have o:yQ c=[115,101,98]:=if_pos (by omega);rw [n1,length_take,yA] at l1;rw [n2,o,length_take,yA] at l2;have:([115,101,98]:List Nat).length=3:=rfl;omega
 by_cases b:c%4=1
 ·have n1:kZ c j=(qR c).drop (11 - j):=by unfold kZ;rw [if_neg a,if_pos b]
  have n2:kZ c k=(qR c).drop (11 - k):=by unfold kZ;rw [if_neg a,if_pos b]
  have o:yQ c=[115,101,98]:=if_pos (by omega);rw [n1,length_drop,yA] at l1;rw [n2,o,length_drop,yA] at l2;have:([115,101,98]:List Nat).length=3:=rfl;omega
 ·have n1:kZ c j=JH c j:=by unfold kZ;rw [if_neg a,if_neg b]
  have n2:kZ c k=JH c k:=by unfold kZ;rw [if_neg a,if_neg b]
  have o:yQ c=[115,101,97,122]:=if_neg (by have:=Int.emod_nonneg c (by decide:(4:Int)≠0);omega);rw [n1,oP] at l1;rw [n2,o,oP] at l2;have:([115,101,97,122]:List Nat).length=4:=rfl;omega
theorem nE {c:Int} (hc:0≤c) {j k:Nat} (hj:j<8) (hk:k<8) (h:qH c j=qH c k):j=k:=by
 unfold qH at h
 by_cases a:kZ c j=seaL<;>by_cases b:kZ c k=seaL
 ·exact oA hj hk (a.trans b.symm)
 ·rw [if_pos a,if_neg b] at h;exact absurd h (sY hc hj hk a b)
 ·rw [if_neg a,if_pos b] at h;exact absurd h.symm (sY hc hk hj b a)
 ·rw [if_neg a,if_neg b] at h;exact oA hj hk h
def yJ (r c:Int) (k:Nat):List Nat:=if c%5=0 then qH r k else if c%5=1 then (match k with|0=>seaL|k+1=>qH (c / 5*4+3) k) else kZ (c / 5) k
theorem HH (r c:Int) (k:Nat):∀x∈yJ r c k,97≤x∧x≤122:=by
 unfold yJ
 split
 ·exact nA r k
 split
 ·split
  ·decide
  ·exact nA _ _
 ·exact uT _ _
theorem HI (r c:Int) {k:Nat} (hk:k<8):1≤(yJ r c k).length∧(yJ r c k).length≤12:=by
 unfold yJ
 split
 ·exact nB r hk
 split
 ·split
  ·decide
  ·exact nB _ (by omega)
 ·exact uU _ hk
theorem HJ {r c:Int} (hr:0≤r) (hc:0≤c) {j k:Nat} (hj:j<8) (hk:k<8) (h:yJ r c j=yJ r c k):j=k:=by
 unfold yJ at h
 split at h
 ·exact nE hr hj hk h
 split at h
 ·split at h<;>split at h
  ·rfl
  ·exact absurd h.symm (m9 _ _)
  ·exact absurd h (m9 _ _)
  ·have:=nE (c:=c / 5*4+3) (by omega) (by omega) (by omega) h;omega
 ·exact oA hj hk h
def jM (l:List Nat):Str:=⟨l.toArray⟩
theorem zC (l:List Nat):(jM l).length=l.length:=size_toArray
theorem nM (a b:List Nat):jM a++jM b=jM (a++b):=by
 show (⟨a.toArray++b.toArray⟩:Str)=⟨(a++b).toArray⟩;rw [append_toArray]
theorem dS {a b:List Nat} (h:jM a=jM b):a=b:=congrArg (fun z:Str=>z.cps.toList) h
theorem uM (l:List Nat) {j:Int} (h0:0≤j) (h1:j≤l.length):Txt.slice (jM l) none (some j)=jM (l.take j.toNat):=by
 have h:=eq_of_beq (PyProof.Rows.slice_closes_to (x:=jM l) (j:=j) ⟨h0,h1⟩);rw [h];show (⟨((l.drop (0:Int).toNat).take (j - 0).toNat).toArray⟩:Str)=_;rw [Int.sub_zero];rfl
theorem E6 (l:List Nat) {i:Int} (h0:0≤i) (h1:i≤l.length):Txt.slice (jM l) (some i) none=jM (l.drop i.toNat):=by
 have h:=PyProof.Rows.slice_from_eq (x:=jM l) (i:=i) (b:=l.length) h0 (by rw [zC];exact h1) (by rw [zC]);rw [h];show (⟨((l.drop i.toNat).take ((l.length:Int) - i).toNat).toArray⟩:Str)=_;rw [take_of_length_le (by rw [length_drop];omega)];rfl
theorem GB (l:List Nat) {i j:Int} (h0:0≤i) (h1:i≤j) (h2:j≤l.length):Txt.slice (jM l) (some i) (some j)=jM ((l.take j.toNat).drop i.toNat):=by
 have h:=eq_of_beq (PyProof.Rows.slice_closes (x:=jM l) (i:=i) (j:=j) ⟨h0,h1,h2⟩);rw [h,drop_take];show (⟨((l.drop i.toNat).take (j - i).toNat).toArray⟩:Str)=⟨((l.drop i.toNat).take (j.toNat - i.toNat)).toArray⟩;rw [show (j - i).toNat=j.toNat - i.toNat by omega]
theorem GW (n:Int):fV (n%26).toNat=yE n:=by
 have h1:=Int.emod_nonneg n (by decide:(26:Int)≠0);have h2:=Int.emod_lt_of_pos n (by decide:(0:Int)<26);unfold yE;generalize hz:(n%26).toNat=z;have hz26:z<26:=by omega
 have key:∀z,z<26→fV z=97+z:=by decide +kernel
 exact key z hz26
theorem tW (n:Int):kQ lettersS.cps.toList (n%26)=some (yE n):=by
 rw [← GW];exact FO (Int.emod_nonneg n (by decide)) (Int.emod_lt_of_pos n (by decide))
theorem IV (c:Nat):(⟨#[c]⟩:Str)=jM [c]:=rfl
theorem KT:("":Str)=jM []:=by decide +kernel
theorem iU:("sea":Str)=jM seaL:=by decide +kernel
theorem GC:("seaz":Str)=jM [115,101,97,122]:=by decide +kernel
theorem IM:("seb":Str)=jM [115,101,98]:=by decide +kernel
theorem HX (c:Int) {i:Nat} (h:i<12):(qR c).take i++[yE (c / 4+c / 100*(i:Int)+(i:Int)*(i:Int))]=(qR c).take (i+1):=by
 rw [take_add_one]
 congr 1
 unfold qR;rw [List.getElem?_map,List.getElem?_range h];rfl
def qE (f:Nat→List Nat) (n:Nat):List V:=(List.range n).map fun k=>V.str (jM (f k))
theorem fE (f:Nat→List Nat) (n:Nat):(qE f n).length=n:=by unfold qE;rw [length_map,length_range]
theorem mL (f:Nat→List Nat) (n:Nat):qE f n++[V.str (jM (f n))]=qE f (n+1):=by
 unfold qE;rw [range_succ,map_append];rfl
theorem fG (f:Nat→List Nat) {n k:Nat} (h:k<n):(qE f n)[k]?=some (V.str (jM (f k))):=by
 unfold qE;rw [List.getElem?_map,List.getElem?_range h];rfl
def nN:Sp:=fun vs H Q _=>∃c:Int,vs=[.int c,.int 8]∧∀(l:Addr) (H':Hp),Same H H'→H l=none→H' l=some (.lst (qE (kZ c) 8))→Q (.ref l) H'
def mJ:Sp:=fun vs H Q _=>∃c:Int,vs=[.int c]∧∀(l:Addr) (H':Hp),Same H H'→H l=none→H' l=some (.lst (qE (qH c) 8))→Q (.ref l) H'
def uI:Sp:=fun vs H Q _=>∃(c r:Int) (a:Addr),vs=[.int c,.ref a]∧H a=some (.lst (qE (qH r) 8))∧∀(l:Addr) (H':Hp),Same H H'→H' l=some (.lst (qE (yJ r c) 8))→Q (.ref l) H'
theorem EL (f:Nat→List Nat) {n m:Nat} (h:m≤n):(qE f n).take m=qE f m:=by
 unfold qE;rw [← map_take,take_range];rw [Nat.min_eq_left h]
theorem AB (f:Nat→List Nat):qS (qE f 8) none (some 7)=qE f 7:=by
 unfold qS;rw [fE];show ((qE f 8).drop 0).take 7=_;rw [drop_zero,EL f (by decide)]
theorem EM (x:List Nat) (f g:Nat→List Nat) (n:Nat) (h0:g 0=x) (hs:∀k,g (k+1)=f k):V.str (jM x)::qE f n=qE g (n+1):=by
 unfold qE;rw [range_succ_eq_map,map_cons,map_map,h0]
 congr 1
 refine map_congr_left fun k _=>?_
 show V.str (jM (f k))=V.str (jM (g (k+1)));rw [hs]
theorem p8 {f g:Nat→List Nat} {n:Nat} (h:∀k,f k=g k):qE f n=qE g n:=by
 unfold qE;refine map_congr_left fun k _=>?_
 rw [h]
structure RC where
 name:Str
 least:Int
 crest:Int
 berths:Int
 water:Int
 target:Int
def RC.good (r:RC) (n:Nat):Prop:=0≤r.least∧r.least≤r.crest∧r.crest≤999999999999∧1≤r.berths∧r.berths≤9∧0≤r.water∧r.water≤999999999999∧-1≤r.target∧r.target<(n:Int)
def zA (r:RC):List V:=[.str "reach",.str r.name,.int r.least,.int r.crest,.int r.berths,.int r.water,.int r.target]
def uC:Sp:=fun vs H Q _=>∃(nm:Str) (a b c:Int) (n:Nat),vs=[.str nm,.int a,.int b,.int c,.int (n:Int)]∧∀(r:RC) (t:Addr) (H':Hp),r.name=nm→r.good n→Same H H'→H t=none→H' t=some (.tup (zA r))→Q (.ref t) H'
theorem pP:(10:Int) ^ Int.toNat 12=1000000000000:=by decide +kernel
theorem NN {x0 x1 x2 x3 x4 x5 n lo hi:Int} (h0:lo≤x0∧x0≤hi) (h1:lo≤x1∧x1≤hi) (h2:lo≤x2∧x2≤hi) (h3:lo≤x3∧x3≤hi) (h4:lo≤x4∧x4≤hi) (h5:lo≤x5∧x5≤hi) :
  ∃z:Int,kQ [V.int x0,V.int x1,V.int x2,V.int x3,V.int x4,V.int x5] (n%6)=some (.int z)∧lo≤z∧z≤hi:=by
 have a:=Int.emod_nonneg n (by decide:(6:Int)≠0);have b:=Int.emod_lt_of_pos n (by decide:(0:Int)<6);obtain ⟨k,hk⟩:∃k:Nat,n%6=(k:Int):=⟨(n%6).toNat,by omega⟩;rw [hk];have hk6:k<6:=by omega
 rcases k with _|_|_|_|_|_|k
 ·exact ⟨x0,rfl,h0⟩
 ·exact ⟨x1,rfl,h1⟩
 ·exact ⟨x2,rfl,h2⟩
 ·exact ⟨x3,rfl,h3⟩
 ·exact ⟨x4,rfl,h4⟩
 ·exact ⟨x5,rfl,h5⟩
 ·omega
theorem AG {x0 x1 x2 n lo hi:Int} (h0:lo≤x0∧x0≤hi) (h1:lo≤x1∧x1≤hi) (h2:lo≤x2∧x2≤hi) :
  ∃z:Int,kQ [V.int x0,V.int x1,V.int x2] (n%3)=some (.int z)∧lo≤z∧z≤hi:=by
 have a:=Int.emod_nonneg n (by decide:(3:Int)≠0);have b:=Int.emod_lt_of_pos n (by decide:(0:Int)<3);obtain ⟨k,hk⟩:∃k:Nat,n%3=(k:Int):=⟨(n%3).toNat,by omega⟩;rw [hk];have hk3:k<3:=by omega
 rcases k with _|_|_|k
 ·exact ⟨x0,rfl,h0⟩
 ·exact ⟨x1,rfl,h1⟩
 ·exact ⟨x2,rfl,h2⟩
 ·omega
structure LC where
 name:Str
 high:Int
 low:Int
 room:Int
 kd:Kd
 extra:Int
def vE:Kd→Str
 |.plain=>"plain"
 |.basin=>"basin"
 |.pump=>"pump"
def LC.good (l:LC) (n:Nat):Prop:=1≤l.high∧l.high<(n:Int)∧0≤l.low∧l.low<l.high∧1≤l.room∧l.room≤999999999999∧(l.kd=.plain→l.extra=0)∧(l.kd≠.plain→1≤l.extra∧l.extra≤l.room)
def eX (l:LC):List V:=[.str "lock",.str l.name,.int l.high,.int l.low,.int l.room,.str (vE l.kd),.int l.extra]
def wS:Sp:=fun vs H Q _=>∃(nm:Str) (a b c:Int) (n:Nat),vs=[.str nm,.int a,.int b,.int c,.int (n:Int)]∧1<n∧∀(l:LC) (t:Addr) (H':Hp),l.name=nm→l.good n→Same H H'→H t=none→H' t=some (.tup (eX l))→Q (.ref t) H'
theorem MS (n:Int):∃kd:Kd,kQ [V.str "plain",V.str "basin",V.str "pump"] (n%3)=some (.str (vE kd)):=by
 have a:=Int.emod_nonneg n (by decide:(3:Int)≠0);have b:=Int.emod_lt_of_pos n (by decide:(0:Int)<3);obtain ⟨k,hk⟩:∃k:Nat,n%3=(k:Int):=⟨(n%3).toNat,by omega⟩;rw [hk];have hk3:k<3:=by omega
 rcases k with _|_|_|k
 ·exact ⟨.plain,rfl⟩
 ·exact ⟨.basin,rfl⟩
 ·exact ⟨.pump,rfl⟩
 ·omega
theorem iQ (kd:Kd):V.str (vE kd)=V.str "plain"↔kd=.plain:=by
 cases kd
 ·exact ⟨fun _=>rfl,fun _=>rfl⟩
 ·exact ⟨fun h=>absurd (V.str.inj h) (by decide +kernel),fun h=>nomatch h⟩
 ·exact ⟨fun h=>absurd (V.str.inj h) (by decide +kernel),fun h=>nomatch h⟩
def TripsAt (H:Hp) (rs:List V) (ts:List (Nat×Int×Int)):Prop:=rs.length=ts.length∧∀(i:Nat) (r:V),rs[i]?=some r→∃(a:Addr) (k:Nat) (x y:Int),r=.ref a∧ts[i]?=some (k,x,y)∧H a=some (.tup [.int (k:Int),.int x,.int y])
def tripsOk (ts:List (Nat×Int×Int)) (n:Nat):Prop:=(ts.map (·.1)).Nodup∧∀q∈ts,q.1<n∧0≤q.2.1∧q.2.1≤999999999999∧0≤q.2.2∧q.2.2≤999999999999
theorem TripsAt.same {H H':Hp} {rs:List V} {ts:List (Nat×Int×Int)} (e:Same H H') (h:TripsAt H rs ts):TripsAt H' rs ts :=
 ⟨h.1,fun i r hi=>by obtain ⟨a,k,x,y,h1,h2,h3⟩:=h.2 i r hi;exact ⟨a,k,x,y,h1,h2,e _ _ h3⟩⟩
theorem TripsAt.keep {H H':Hp} {d:Addr} {ys rs:List V} {ts:List (Nat×Int×Int)} (k:Keep d H H') (hd:H d=some (.lst ys)) (h:TripsAt H rs ts):TripsAt H' rs ts :=
 ⟨h.1,fun i r hi=>by obtain ⟨a,k',x,y,h1,h2,h3⟩:=h.2 i r hi;exact ⟨a,k',x,y,h1,h2,k _ _ (fun z=>by rw [z,hd] at h3;cases h3) h3⟩⟩
theorem TripsAt.snoc {H:Hp} {rs:List V} {ts:List (Nat×Int×Int)} {a:Addr} {k:Nat} {x y:Int} (h:TripsAt H rs ts) (ha:H a=some (.tup [.int (k:Int),.int x,.int y])):TripsAt H (rs++[.ref a]) (ts++[(k,x,y)]):=by
 refine ⟨by rw [length_append,length_append,h.1];rfl,fun i r hi=>?_⟩
 by_cases hl:i<rs.length
 ·rw [List.getElem?_append_left hl] at hi;rw [List.getElem?_append_left (by rw [← h.1];exact hl)];exact h.2 i r hi
 ·rw [List.getElem?_append_right (by omega)] at hi;have e:i=rs.length:=by
   by_cases z:i - rs.length=0
   ·omega
   ·rw [List.getElem?_eq_none (by show 1≤i - rs.length;omega)] at hi;cases hi
  rw [e,Nat.sub_self] at hi;cases hi;refine ⟨a,k,x,y,rfl,?_,ha⟩;rw [e,h.1,List.getElem?_append_right (Nat.le_refl _),Nat.sub_self];rfl
theorem TripsAt.rev {H:Hp} {rs:List V} {ts:List (Nat×Int×Int)} (h:TripsAt H rs ts):TripsAt H rs.reverse ts.reverse:=by
 refine ⟨by rw [length_reverse,length_reverse,h.1],fun i r hi=>?_⟩;have hl:i<rs.length:=by have:=(List.getElem?_eq_some_iff.mp hi).1;rwa [length_reverse] at this
 rw [List.getElem?_reverse hl] at hi;obtain ⟨a,k,x,y,h1,h2,h3⟩:=h.2 _ r hi;exact ⟨a,k,x,y,h1,by rw [List.getElem?_reverse (by rw [← h.1];exact hl),← h.1];exact h2,h3⟩
theorem tripsOk.snoc {ts:List (Nat×Int×Int)} {k:Nat} {x y:Int} (h:tripsOk ts k) (hx:0≤x∧x≤999999999999) (hy:0≤y∧y≤999999999999):tripsOk (ts++[(k,x,y)]) (k+1):=by
 refine ⟨?_,fun q hq=>?_⟩
 ·rw [map_append,nodup_append];refine ⟨h.1,by simp,fun a ha b hb=>?_⟩;obtain ⟨q,hq,rfl⟩:=mem_map.mp ha;have hb:b=k:=by simpa using hb
  have:=(h.2 q hq).1;omega
 ·rcases mem_append.mp hq with hq|hq
  ·obtain ⟨h1,h2⟩:=h.2 q hq;exact ⟨by omega,h2⟩
  ·cases mem_singleton.mp hq;exact ⟨by show k<k+1;omega,hx.1,hx.2,hy.1,hy.2⟩
theorem tripsOk.more {ts:List (Nat×Int×Int)} {k n:Nat} (h:tripsOk ts k) (hn:k≤n):tripsOk ts n:=⟨h.1,fun q hq=>by obtain ⟨h1,h2⟩:=h.2 q hq;exact ⟨by omega,h2⟩⟩
theorem tripsOk.rev {ts:List (Nat×Int×Int)} {n:Nat} (h:tripsOk ts n):tripsOk ts.reverse n:=⟨by rw [map_reverse];exact (reverse_perm _).nodup_iff.mpr h.1,fun q hq=>h.2 q (mem_reverse.mp hq)⟩
def uE:Sp:=fun vs H Q _=>∃(a b c:Int) (n:Nat),vs=[.int a,.int b,.int c,.int (n:Int)]∧n≤8∧∀(ts:List (Nat×Int×Int)) (rs:List V) (t l:Addr) (H':Hp),tripsOk ts n→ts.length≤8→Same H H'→H t=none→H l=none→H' t=some (.tup [.str "night",.ref l])→H' l=some (.lst rs)→TripsAt H' rs ts→Q (.ref t) H'
theorem pO (z:Int):0≤z%10 ^ Int.toNat 12∧z%10 ^ Int.toNat 12≤999999999999:=by
 rw [pP];have h0:=Int.emod_nonneg z (by decide:(1000000000000:Int)≠0);have h1:=Int.emod_lt_of_pos z (by decide:(0:Int)<1000000000000);omega
inductive PIt where
 |reach (r:RC)
 |lock (l:LC)
 |night (ts:List (Nat×Int×Int))
def ItAt (D:List Addr) (H:Hp) (v:V):PIt→Prop
 |.reach r=>∃t,v=.ref t∧H t=some (.tup (zA r))
 |.lock l=>∃t,v=.ref t∧H t=some (.tup (eX l))
 |.night ts=>∃(t l:Addr) (rs:List V),v=.ref t∧H t=some (.tup [.str "night",.ref l])∧H l=some (.lst rs)∧TripsAt H rs ts∧l∉D
theorem ItAt.same {D:List Addr} {H H':Hp} {v:V} {it:PIt} (e:Same H H') (h:ItAt D H v it):ItAt D H' v it:=by
 cases it with
 |reach r=>obtain ⟨t,h1,h2⟩:=h;exact ⟨t,h1,e _ _ h2⟩
 |lock l=>obtain ⟨t,h1,h2⟩:=h;exact ⟨t,h1,e _ _ h2⟩
 |night ts=>obtain ⟨t,l,rs,h1,h2,h3,h4,h5⟩:=h;exact ⟨t,l,rs,h1,e _ _ h2,e _ _ h3,h4.same e,h5⟩
theorem ItAt.keep {D:List Addr} {H H':Hp} {d:Addr} {ys:List V} {v:V} {it:PIt} (k:Keep d H H') (hd:H d=some (.lst ys)) (hD:d∈D) (h:ItAt D H v it):ItAt D H' v it:=by
 have nt:∀{t:Addr} {zs:List V},H t=some (.tup zs)→t≠d:=fun ht z=>by rw [z,hd] at ht;cases ht
 cases it with
 |reach r=>obtain ⟨t,h1,h2⟩:=h;exact ⟨t,h1,k _ _ (nt h2) h2⟩
 |lock l=>obtain ⟨t,h1,h2⟩:=h;exact ⟨t,h1,k _ _ (nt h2) h2⟩
 |night ts=>obtain ⟨t,l,rs,h1,h2,h3,h4,h5⟩:=h;exact ⟨t,l,rs,h1,k _ _ (nt h2) h2,k _ _ (fun z=>h5 (z▸hD)) h3,h4.keep k hd,h5⟩
def PlanAt (D:List Addr) (H:Hp) (vs:List V) (its:List PIt):Prop:=vs.length=its.length∧∀(i:Nat) (v:V),vs[i]?=some v→∃it,its[i]?=some it∧ItAt D H v it
theorem PlanAt.nil {D:List Addr} {H:Hp}:PlanAt D H [] []:=⟨rfl,fun i v h=>by cases h⟩
theorem PlanAt.same {D:List Addr} {H H':Hp} {vs:List V} {its:List PIt} (e:Same H H') (h:PlanAt D H vs its):PlanAt D H' vs its:=⟨h.1,fun i v hv=>by obtain ⟨it,h1,h2⟩:=h.2 i v hv;exact ⟨it,h1,h2.same e⟩⟩
theorem PlanAt.keep {D:List Addr} {H H':Hp} {d:Addr} {ys vs:List V} {its:List PIt} (k:Keep d H H') (hd:H d=some (.lst ys)) (hD:d∈D) (h:PlanAt D H vs its):PlanAt D H' vs its:=⟨h.1,fun i v hv=>by obtain ⟨it,h1,h2⟩:=h.2 i v hv;exact ⟨it,h1,h2.keep k hd hD⟩⟩
theorem PlanAt.snoc {D:List Addr} {H:Hp} {vs:List V} {its:List PIt} {v:V} {it:PIt} (h:PlanAt D H vs its) (hv:ItAt D H v it):PlanAt D H (vs++[v]) (its++[it]):=by
 refine ⟨by rw [length_append,length_append,h.1];rfl,fun i w hw=>?_⟩
 by_cases hl:i<vs.length
 ·rw [List.getElem?_append_left hl] at hw;rw [List.getElem?_append_left (by rw [← h.1];exact hl)];exact h.2 i w hw
 ·rw [List.getElem?_append_right (by omega)] at hw;have e:i=vs.length:=by
   by_cases z:i - vs.length=0
   ·omega
   ·rw [List.getElem?_eq_none (by show 1≤i - vs.length;omega)] at hw;cases hw
  rw [e,Nat.sub_self] at hw;cases hw;refine ⟨it,?_,hv⟩;rw [e,h.1,List.getElem?_append_right (Nat.le_refl _),Nat.sub_self];rfl
inductive PlanOk (rn gn:Nat→List Nat):List PIt→Nat→Nat→Nat→Prop where
 |nil:PlanOk rn gn [] 0 0 0
 |reach {its:List PIt} {a b c:Nat} {r:RC} (h:PlanOk rn gn its a b c) (ha:a<8) (hn:r.name=jM (rn a)) (hg:r.good a):PlanOk rn gn (its++[.reach r]) (a+1) b c
 |lock {its:List PIt} {a b c:Nat} {l:LC} (h:PlanOk rn gn its a b c) (hb:b<8) (hn:l.name=jM (gn b)) (hg:l.good a):PlanOk rn gn (its++[.lock l]) a (b+1) c
 |night {its:List PIt} {a b c:Nat} {ts:List (Nat×Int×Int)} (h:PlanOk rn gn its a b c) (hc:c<6) (ht:tripsOk ts a) (hl:ts.length≤8):PlanOk rn gn (its++[.night ts]) a b (c+1)
theorem PlanOk.bounds {rn gn:Nat→List Nat} {its:List PIt} {a b c:Nat} (h:PlanOk rn gn its a b c):a≤8∧b≤8∧c≤6∧its.length=a+b+c:=by
 induction h with
 |nil=>exact ⟨by omega,by omega,by omega,rfl⟩
 |reach h ha _ _ ih=>rw [length_append];exact ⟨by omega,ih.2.1,ih.2.2.1,by show _+1=_;omega⟩
 |lock h hb _ _ ih=>rw [length_append];exact ⟨ih.1,by omega,ih.2.2.1,by show _+1=_;omega⟩
 |night h hc _ _ ih=>rw [length_append];exact ⟨ih.1,ih.2.1,by omega,by show _+1=_;omega⟩
def wP (K:W.Frag):Sp:=fun vs H Q _=>∃(s nl gl:Addr) (ns:List Int) (rn gn:Nat→List Nat),vs=[.ref s,.ref nl,.ref gl]∧SqL K H s (ns.map V.int)∧ns.length≤63∧H nl=some (.lst (qE rn 8))∧H gl=some (.lst (qE gn 8))∧
 ∀(its:List PIt) (a b c:Nat) (pl:Addr) (vs:List V) (H':Hp),PlanOk rn gn its a b c→1≤a→Same H H'→H pl=none→H' pl=some (.lst vs)→PlanAt [pl] H' vs its→Q (.ref pl) H'
theorem ItAt.less {D D':List Addr} {H:Hp} {v:V} {it:PIt} (hD:∀d∈D',d∈D) (h:ItAt D H v it):ItAt D' H v it:=by
 cases it with
 |reach r=>exact h
 |lock l=>exact h
 |night ts=>obtain ⟨t,l,rs,h1,h2,h3,h4,h5⟩:=h;exact ⟨t,l,rs,h1,h2,h3,h4,fun z=>h5 (hD _ z)⟩
theorem PlanAt.less {D D':List Addr} {H:Hp} {vs:List V} {its:List PIt} (hD:∀d∈D',d∈D) (h:PlanAt D H vs its):PlanAt D' H vs its:=⟨h.1,fun i v hv=>by obtain ⟨it,h1,h2⟩:=h.2 i v hv;exact ⟨it,h1,h2.less hD⟩⟩
theorem fM (f:Nat→List Nat) {a:Nat} (h:a<8):kQ (qE f 8) ((a:Int)+1 - 1)=some (V.str (jM (f a))):=by
 rw [show (a:Int)+1 - 1=(a:Int) by omega];exact q9 (fG f h)
theorem NZ (nm:Str):RC.good ⟨nm,0,7,1,9,-1⟩ 0:=⟨(by decide:(0:Int)≤0),(by decide:(0:Int)≤7),(by decide:(7:Int)≤999999999999),(by decide:(1:Int)≤1),(by decide:(1:Int)≤9),(by decide:(0:Int)≤9),(by decide:(9:Int)≤999999999999),(by decide:(-1:Int)≤-1),(by decide:(-1:Int)<((0:Nat):Int))⟩
theorem GT (f:Nat→List Nat):kQ (qE f 8) (0:Int)=some (V.str (jM (f 0))):=q9 (j:=0) (fG f (by decide))
theorem GF {n:Nat} (h:n≤63):Builtin.Range.small 2 (n:Int) 3=true:=by
 have key:∀m:Nat,m<64→Builtin.Range.small 2 (m:Int) 3=true:=by decide +kernel
 exact key n (by omega)
def AllAt {α:Type} (P:V→α→Prop) (vs:List V) (xs:List α):Prop:=vs.length=xs.length∧∀(i:Nat) (v:V),vs[i]?=some v→∃x,xs[i]?=some x∧P v x
theorem AllAt.nil {α:Type} {P:V→α→Prop}:AllAt P [] ([]:List α):=⟨rfl,fun i v h=>by cases h⟩
theorem AllAt.mono {α:Type} {P P':V→α→Prop} {vs:List V} {xs:List α} (m:∀v x,P v x→P' v x) (h:AllAt P vs xs):AllAt P' vs xs:=⟨h.1,fun i v hv=>by obtain ⟨x,h1,h2⟩:=h.2 i v hv;exact ⟨x,h1,m v x h2⟩⟩
theorem AllAt.snoc {α:Type} {P:V→α→Prop} {vs:List V} {xs:List α} {v:V} {x:α} (h:AllAt P vs xs) (hv:P v x):AllAt P (vs++[v]) (xs++[x]):=by
 refine ⟨by rw [length_append,length_append,h.1];rfl,fun i w hw=>?_⟩
 by_cases hl:i<vs.length
 ·rw [List.getElem?_append_left hl] at hw;rw [List.getElem?_append_left (by rw [← h.1];exact hl)];exact h.2 i w hw
 ·rw [List.getElem?_append_right (by omega)] at hw;have e:i=vs.length:=by
   by_cases z:i - vs.length=0
   ·omega
   ·rw [List.getElem?_eq_none (by show 1≤i - vs.length;omega)] at hw;cases hw
  rw [e,Nat.sub_self] at hw;cases hw;refine ⟨x,?_,hv⟩;rw [e,h.1,List.getElem?_append_right (Nat.le_refl _),Nat.sub_self];rfl
theorem AllAt.put {α:Type} {P:V→α→Prop} {vs:List V} {xs:List α} {v:V} {x:α} (h:AllAt P vs xs) (k:Nat) (hv:P v x):AllAt P (vs.set k v) (xs.set k x):=by
 refine ⟨by rw [length_set,length_set,h.1],fun i w hw=>?_⟩;rw [List.getElem?_set] at hw ⊢
 by_cases e:k=i
 ·rw [if_pos e] at hw ⊢;rw [← h.1]
  split at hw
  ·cases hw;rename_i hl;exact ⟨x,if_pos hl,hv⟩
  ·cases hw
 ·rw [if_neg e] at hw ⊢;exact h.2 i w hw
theorem AllAt.get {α:Type} {P:V→α→Prop} {vs:List V} {xs:List α} (h:AllAt P vs xs) {i:Nat} {x:α} (hx:xs[i]?=some x):∃v,vs[i]?=some v∧P v x:=by
 have hi:i<vs.length:=by rw [h.1];exact (List.getElem?_eq_some_iff.mp hx).1
 obtain ⟨y,h1,h2⟩:=h.2 i _ (List.getElem?_eq_getElem hi);rw [hx] at h1;cases h1;exact ⟨_,List.getElem?_eq_getElem hi,h2⟩
def RAt (H:Hp) (v:V) (r:RC):Prop:=∃t,v=.ref t∧H t=some (.tup (zA r))
def LAt (H:Hp) (v:V) (l:LC):Prop:=∃t,v=.ref t∧H t=some (.tup (eX l))
def QAt (H:Hp) (v:V) (p:Int×Int):Prop:=∃t,v=.ref t∧H t=some (.tup [.int p.1,.int p.2])
def NAt (D:List Addr) (H:Hp) (v:V) (ps:List (Int×Int)):Prop:=∃(l:Addr) (qs:List V),v=.ref l∧H l=some (.lst qs)∧AllAt (QAt H) qs ps∧l∉D
theorem RAt.same {H H':Hp} (e:Same H H') (v:V) (r:RC):RAt H v r→RAt H' v r:=fun ⟨t,h1,h2⟩=>⟨t,h1,e _ _ h2⟩
theorem LAt.same {H H':Hp} (e:Same H H') (v:V) (r:LC):LAt H v r→LAt H' v r:=fun ⟨t,h1,h2⟩=>⟨t,h1,e _ _ h2⟩
theorem QAt.same {H H':Hp} (e:Same H H') (v:V) (r:Int×Int):QAt H v r→QAt H' v r:=fun ⟨t,h1,h2⟩=>⟨t,h1,e _ _ h2⟩
theorem QAt.put {H:Hp} {d:Addr} {ys:List V} {o:HO} (hd:H d=some (.lst ys)) (v:V) (r:Int×Int):QAt H v r→QAt (upd H d o) v r:=fun ⟨t,h1,h2⟩=>⟨t,h1,by rw [j9 (fun z=>by rw [z,hd] at h2;cases h2)];exact h2⟩
theorem NAt.same {D:List Addr} {H H':Hp} (e:Same H H') (v:V) (r:List (Int×Int)):NAt D H v r→NAt D H' v r:=fun ⟨l,qs,h1,h2,h3,h4⟩=>⟨l,qs,h1,e _ _ h2,h3.mono (QAt.same e),h4⟩
theorem NAt.put {D:List Addr} {H:Hp} {d:Addr} {ys:List V} {o:HO} (hd:H d=some (.lst ys)) (hD:d∈D) (v:V) (r:List (Int×Int)):NAt D H v r→NAt D (upd H d o) v r:=fun ⟨l,qs,h1,h2,h3,h4⟩=>⟨l,qs,h1,by rw [j9 (fun z=>h4 (by rw [z];exact hD))];exact h2,h3.mono (QAt.put hd),h4⟩
theorem NAt.less {D D':List Addr} {H:Hp} (hD:∀d∈D',d∈D) (v:V) (r:List (Int×Int)):NAt D H v r→NAt D' H v r:=fun ⟨l,qs,h1,h2,h3,h4⟩=>⟨l,qs,h1,h2,h3,fun z=>h4 (hD _ z)⟩
def JJ:PIt→Option RC
 |.reach r=>some r
 |_=>none
def JK:PIt→Option LC
 |.lock l=>some l
 |_=>none
def qM (n:Nat) (ts:List (Nat×Int×Int)):List (Int×Int):=ts.foldl (fun ps q=>ps.set q.1 (q.2.1,q.2.2)) (List.replicate n (0,0))
theorem fD (n:Nat) (ts:List (Nat×Int×Int)):(qM n ts).length=n:=by
 unfold qM;have key:∀(ts:List (Nat×Int×Int)) (ps:List (Int×Int)),(ts.foldl (fun ps q=>ps.set q.1 (q.2.1,q.2.2)) ps).length=ps.length:=by
  intro ts
  induction ts with
  |nil=>intro ps;rfl
  |cons q r ih=>intro ps;rw [foldl_cons,ih,length_set]
 rw [key,length_replicate]
theorem rC (n:Nat) (ts:List (Nat×Int×Int)) {j:Nat} {q:Nat×Int×Int} (h:ts[j]?=some q):qM n (ts.take (j+1))=(qM n (ts.take j)).set q.1 (q.2.1,q.2.2):=by
 unfold qM;rw [take_add_one,h,foldl_append];rfl
def zB (n:Nat):PIt→Option (List (Int×Int))
 |.night ts=>some (qM n ts)
 |_=>none
theorem QA {α:Type} (f:PIt→Option α) (its:List PIt) {i:Nat} {it:PIt} (h:its[i]?=some it):(its.take (i+1)).filterMap f=(its.take i).filterMap f++(f it).toList:=by
 rw [take_add_one,h,filterMap_append];cases e:f it with
 |none=>simp [e]
 |some x=>simp [e]
def kI (its:List PIt):List RC:=its.filterMap JJ
def kU (its:List PIt):List LC:=its.filterMap JK
def fL (its:List PIt):List (List (Int×Int)):=its.filterMap (zB (kI its).length)
theorem gQ:¬("lock":Str)="reach":=by decide +kernel
theorem gP:¬("night":Str)="reach":=by decide +kernel
theorem AO:¬("reach":Str)="lock":=by decide +kernel
theorem gR:¬("night":Str)="lock":=by decide +kernel
theorem AM:¬("reach":Str)="night":=by decide +kernel
theorem AN:¬("lock":Str)="night":=by decide +kernel
theorem z7 {rn gn:Nat→List Nat} {its:List PIt} {a b c:Nat} (h:PlanOk rn gn its a b c):(kI its).length=a∧(kU its).length=b∧∀ts,.night ts∈its→tripsOk ts a∧ts.length≤8:=by
 induction h with
 |nil=>exact ⟨rfl,rfl,fun ts h=>by cases h⟩
 |reach h ha hn hg ih =>
  refine ⟨by unfold kI;rw [filterMap_append,length_append];show (kI _).length+1=_;rw [ih.1],by unfold kU;rw [filterMap_append,length_append];show (kU _).length+0=_;rw [ih.2.1];rfl,fun ts hts=>?_⟩
  rcases mem_append.mp hts with hts|hts
  ·obtain ⟨h1,h2⟩:=ih.2.2 ts hts;exact ⟨h1.more (by omega),h2⟩
  ·cases mem_singleton.mp hts
 |lock h hb hn hg ih =>
  refine ⟨by unfold kI;rw [filterMap_append,length_append];show (kI _).length+0=_;rw [ih.1];rfl,by unfold kU;rw [filterMap_append,length_append];show (kU _).length+1=_;rw [ih.2.1],fun ts hts=>?_⟩
  rcases mem_append.mp hts with hts|hts
  ·exact ih.2.2 ts hts
  ·cases mem_singleton.mp hts
 |night h hc ht hl ih =>
  refine ⟨by unfold kI;rw [filterMap_append,length_append];show (kI _).length+0=_;rw [ih.1];rfl,by unfold kU;rw [filterMap_append,length_append];show (kU _).length+0=_;rw [ih.2.1];rfl,fun ts hts=>?_⟩
  rcases mem_append.mp hts with hts|hts
  ·exact ih.2.2 ts hts
  ·cases mem_singleton.mp hts;exact ⟨ht,hl⟩
theorem lW:¬("pump":Str)="basin":=by decide +kernel
theorem QC {f:Str} {v:V} {fs:List (Str×V)}:(j0 f v fs).lookup f=some v:=by rw [vW,if_pos rfl]
theorem vT {f g:Str} {v:V} {fs:List (Str×V)} (h:¬g=f):(j0 f v fs).lookup g=fs.lookup g:=by rw [vW,if_neg h]
def oI (fs:List (Str×V)) (v_name v_least v_crest v_berths v_water v_target:V):Prop:=fs.lookup ("name":Str)=some v_name∧fs.lookup ("least":Str)=some v_least∧fs.lookup ("crest":Str)=some v_crest∧fs.lookup ("berths":Str)=some v_berths∧fs.lookup ("water":Str)=some v_water∧fs.lookup ("target":Str)=some v_target
theorem FQ (v_name v_least v_crest v_berths v_water v_target:V):oI (j0 "target" v_target (j0 "water" v_water (j0 "berths" v_berths (j0 "crest" v_crest (j0 "least" v_least (j0 "name" v_name [])))))) v_name v_least v_crest v_berths v_water v_target:=by
 refine ⟨?_,?_,?_,?_,?_,?_⟩
 ·rw [vT (f:="target") (g:="name") (by decide +kernel),vT (f:="water") (g:="name") (by decide +kernel),vT (f:="berths") (g:="name") (by decide +kernel),vT (f:="crest") (g:="name") (by decide +kernel),vT (f:="least") (g:="name") (by decide +kernel),QC]
 ·rw [vT (f:="target") (g:="least") (by decide +kernel),vT (f:="water") (g:="least") (by decide +kernel),vT (f:="berths") (g:="least") (by decide +kernel),vT (f:="crest") (g:="least") (by decide +kernel),QC]
 ·rw [vT (f:="target") (g:="crest") (by decide +kernel),vT (f:="water") (g:="crest") (by decide +kernel),vT (f:="berths") (g:="crest") (by decide +kernel),QC]
 ·rw [vT (f:="target") (g:="berths") (by decide +kernel),vT (f:="water") (g:="berths") (by decide +kernel),QC]
 ·rw [vT (f:="target") (g:="water") (by decide +kernel),QC]
 ·rw [QC]
def mM (c:Addr):Sp:=fun vs H Q _=>∃(x dx:Addr) (v_name v_least v_crest v_berths v_water v_target:V),vs=[.ref x,v_name,v_least,v_crest,v_berths,v_water,v_target]∧H x=some (.ins c dx [])∧∀(H':Hp) (fs:List (Str×V)),Keep x H H'→H' x=some (.ins c dx fs)→oI fs v_name v_least v_crest v_berths v_water v_target→Q .non H'
def RcAt (cR:Addr) (H:Hp) (x:Addr) (r:RC):Prop:=∃(dx:Addr) (fs:List (Str×V)),H x=some (.ins cR dx fs)∧oI fs (.str r.name) (.int r.least) (.int r.crest) (.int r.berths) (.int r.water) (.int r.target)
theorem RcAt.same {cR:Addr} {H H':Hp} {x:Addr} {r:RC} (e:Same H H') (h:RcAt cR H x r):RcAt cR H' x r:=by
 obtain ⟨dx,fs,h1,h2⟩:=h;exact ⟨dx,fs,e _ _ h1,h2⟩
theorem fC {X:Cx} (K:W.Frag) (h:X.K=K:=by rfl):yK X (.type "list") (fun xs H Q=>∃p ys,xs=[.ref p]∧(SqL K H p ys∨SqT K H p ys)∧∀l,H l=none→Q (.ref l) (upd H l (.lst ys))):=by subst h;exact EO
theorem qN {X:Cx} (K:W.Frag) {e:Expr} {f:Str} {pos:Pos} {ta:TE} (he:PE X e ta) (hb:attributeBase e f X.env (eval e X.env)=eval e X.env) (h:X.K=K:=by rfl):PE X (.Attribute e f pos) (AS K ta f):=by subst h;exact BL he hb
def wH (fs:List (Str×V)) (r l n:V):Prop:=fs.lookup ("reaches":Str)=some r∧fs.lookup ("locks":Str)=some l∧fs.lookup ("nights":Str)=some n∧∀m:Str,¬m="reaches"→¬m="locks"→¬m="nights"→fs.lookup m=none
theorem FR (r l n:V):wH (j0 "nights" n (j0 "locks" l (j0 "reaches" r []))) r l n:=by
 refine ⟨?_,?_,?_,fun m h1 h2 h3=>?_⟩
 ·rw [vT (f:="nights") (g:="reaches") (by decide +kernel),vT (f:="locks") (g:="reaches") (by decide +kernel),QC]
 ·rw [vT (f:="nights") (g:="locks") (by decide +kernel),QC]
 ·rw [QC]
 ·rw [vT h3,vT h2,vT h1];rfl
def RcO (cR:Addr) (H:Hp) (v:V) (r:RC):Prop:=∃x,v=.ref x∧RcAt cR H x r
def LkO (cs:Kd→Addr) (H:Hp) (v:V) (l:LC):Prop:=∃x,v=.ref x∧LockAt cs H x l.kd (.str l.name) (.int l.high) (.int l.low) l.room l.extra
theorem RcO.same {cR:Addr} {H H':Hp} (e:Same H H') (v:V) (r:RC):RcO cR H v r→RcO cR H' v r:=fun ⟨x,h1,h2⟩=>⟨x,h1,h2.same e⟩
theorem LkO.same {cs:Kd→Addr} {H H':Hp} (e:Same H H') (v:V) (l:LC):LkO cs H v l→LkO cs H' v l:=fun ⟨x,h1,h2⟩=>⟨x,h1,h2.same e⟩
theorem RcO.keep {cR y:Addr} {ys:List V} {H H':Hp} (k:Keep y H H') (hy:H y=some (.lst ys)) (v:V) (r:RC):RcO cR H v r→RcO cR H' v r:=fun ⟨x,h1,dx,fs,h2,h3⟩=>⟨x,h1,dx,fs,k _ _ (eF h2 hy (fun z=>nomatch z)) h2,h3⟩
theorem LkO.keep {cs:Kd→Addr} {y:Addr} {ys:List V} {H H':Hp} (k:Keep y H H') (hy:H y=some (.lst ys)) (v:V) (l:LC):LkO cs H v l→LkO cs H' v l:=fun ⟨x,h1,dx,h2⟩=>⟨x,h1,dx,k _ _ (eF h2 hy (fun z=>nomatch z)) h2⟩
theorem RcO.keepI {cR y c d:Addr} {H H':Hp} (k:Keep y H H') (hy:H y=some (.ins c d [])) (v:V) (r:RC):RcO cR H v r→RcO cR H' v r:=fun ⟨x,h1,dx,fs,h2,h3⟩=>⟨x,h1,dx,fs,k _ _ (fun z=>by rw [z,hy] at h2;cases h2;cases h3.1) h2,h3⟩
theorem LkO.keepI {cs:Kd→Addr} {y c d:Addr} {H H':Hp} (k:Keep y H H') (hy:H y=some (.ins c d [])) (v:V) (l:LC):LkO cs H v l→LkO cs H' v l:=fun ⟨x,h1,dx,h2⟩=>⟨x,h1,dx,k _ _ (fun z=>by
 rw [z,hy] at h2;have e:=lI l.kd (.str l.name) (.int l.high) (.int l.low) (.int l.room) (.int l.extra);injection h2 with h2;injection h2 with h2 h3 h4
 rw [← h4] at e;cases e) h2⟩
theorem QAt.keep {y:Addr} {H H':Hp} (k:Keep y H H') {o:HO} (hy:H y=some o) (ho:∀xs,o≠.tup xs) (v:V) (p:Int×Int):QAt H v p→QAt H' v p:=fun ⟨t,h1,h2⟩=>⟨t,h1,k _ _ (fun z=>by rw [z,hy] at h2;exact ho _ (Option.some.inj h2)) h2⟩
theorem NAt.keep {D:List Addr} {y:Addr} {ys:List V} {H H':Hp} (k:Keep y H H') (hy:H y=some (.lst ys)) (hD:y∈D) (v:V) (p:List (Int×Int)):NAt D H v p→NAt D H' v p:=fun ⟨l,qs,h1,h2,h3,h4⟩=>⟨l,qs,h1,k _ _ (fun z=>h4 (z▸hD)) h2,h3.mono (QAt.keep k hy (fun _ z=>nomatch z)),h4⟩
def CnAt (cs:Kd→Addr) (cR cN:Addr) (D:List Addr) (H:Hp) (x:Addr) (R:List RC) (L:List LC) (N:List (List (Int×Int))):Prop:=∃(dx rl ll nl:Addr) (fs:List (Str×V)) (rs ls ns:List V),H x=some (.ins cN dx fs)∧wH fs (.ref rl) (.ref ll) (.ref nl)∧H rl=some (.lst rs)∧H ll=some (.lst ls)∧H nl=some (.lst ns)∧AllAt (RcO cR H) rs R∧AllAt (LkO cs H) ls L∧AllAt (NAt D H) ns N∧rl∉D∧ll∉D∧nl∉D
theorem CnAt.same {cs:Kd→Addr} {cR cN:Addr} {D:List Addr} {H H':Hp} {x:Addr} {R:List RC} {L:List LC} {N:List (List (Int×Int))} (e:Same H H') (h:CnAt cs cR cN D H x R L N):CnAt cs cR cN D H' x R L N:=by
 obtain ⟨dx,rl,ll,nl,fs,rs,ls,ns,h1,h2,h3,h4,h5,h6,h7,h8,h9⟩:=h;exact ⟨dx,rl,ll,nl,fs,rs,ls,ns,e _ _ h1,h2,e _ _ h3,e _ _ h4,e _ _ h5,h6.mono (RcO.same e),h7.mono (LkO.same e),h8.mono (NAt.same e),h9⟩
def DueAt (D:List Addr) (H:Hp) (t:Addr) (R:List RC) (L:List LC) (N:List (List (Int×Int))):Prop:=∃(rl ll nl:Addr) (rs ls ns:List V),H t=some (.tup [.ref rl,.ref ll,.ref nl])∧H rl=some (.lst rs)∧H ll=some (.lst ls)∧H nl=some (.lst ns)∧AllAt (RAt H) rs R∧AllAt (LAt H) ls L∧AllAt (NAt D H) ns N∧rl∉D∧ll∉D∧nl∉D
theorem DueAt.same {D:List Addr} {H H':Hp} {t:Addr} {R:List RC} {L:List LC} {N:List (List (Int×Int))} (e:Same H H') (h:DueAt D H t R L N):DueAt D H' t R L N:=by
 obtain ⟨rl,ll,nl,rs,ls,ns,h1,h3,h4,h5,h6,h7,h8,h9⟩:=h;exact ⟨rl,ll,nl,rs,ls,ns,e _ _ h1,e _ _ h3,e _ _ h4,e _ _ h5,h6.mono (RAt.same e),h7.mono (LAt.same e),h8.mono (NAt.same e),h9⟩
def N3 (H:Hp) (nv:V) (N:List (List (Int×Int))):Prop:=(nv=.non∧N=[])∨∃(nl:Addr) (ns:List V),nv=.ref nl∧H nl=some (.lst ns)∧AllAt (NAt [] H) ns N∧ns.length≤100
def mO (cs:Kd→Addr) (cR cN:Addr):Sp:=fun vs H Q _=>∃(x dx rl ll:Addr) (nv:V) (rs ls:List V) (R:List RC) (L:List LC) (N:List (List (Int×Int))),vs=[.ref x,.ref rl,.ref ll,nv]∧H x=some (.ins cN dx [])∧H rl=some (.lst rs)∧H ll=some (.lst ls)∧AllAt (RcO cR H) rs R∧AllAt (LkO cs H) ls L∧N3 H nv N∧
 ∀H',Keep x H H'→(∀D:List Addr,(∀d∈D,H d≠none)→CnAt cs cR cN D H' x R L N)→Q .non H'
theorem rX {rn gn:Nat→List Nat} {its:List PIt} {a b c:Nat} (h:PlanOk rn gn its a b c):(∀i r,(kI its)[i]?=some r→r.good i∧r.name=jM (rn i)∧i<a)∧(∀i l,(kU its)[i]?=some l→l.good a∧l.name=jM (gn i)∧i<b):=by
 induction h with
 |nil=>exact ⟨fun i r h=>(by cases h),fun i r h=>(by cases h)⟩
 |@reach its a b c r0 h ha hn hg ih =>
  have e1:kI (its++[.reach r0])=kI its++[r0]:=by unfold kI;rw [filterMap_append];rfl
  have e2:kU (its++[.reach r0])=kU its:=by unfold kU;rw [filterMap_append];exact append_nil _
  obtain ⟨t1,t2,_⟩:=z7 h;rw [e1,e2];refine ⟨fun i r hr=>?_,fun i l hl=>?_⟩
  ·by_cases hi:i<(kI its).length
   ·rw [List.getElem?_append_left hi] at hr;obtain ⟨h1,h2,h3⟩:=ih.1 i r hr;exact ⟨h1,h2,by omega⟩
   ·rw [List.getElem?_append_right (by omega)] at hr;have hz:i - (kI its).length=0:=by
     have:=(List.getElem?_eq_some_iff.mp hr).1;rw [length_singleton] at this;omega
    rw [hz] at hr;cases hr;have e:i=a:=by omega
    rw [e];exact ⟨hg,hn,by omega⟩
  ·obtain ⟨⟨g1,g2,g3,g4,g5,g6,g7,g8⟩,h2,h3⟩:=ih.2 i l hl;exact ⟨⟨g1,by omega,g3,g4,g5,g6,g7,g8⟩,h2,h3⟩
 |@lock its a b c l0 h hb hn hg ih =>
  have e1:kI (its++[.lock l0])=kI its:=by unfold kI;rw [filterMap_append];exact append_nil _
  have e2:kU (its++[.lock l0])=kU its++[l0]:=by unfold kU;rw [filterMap_append];rfl
  obtain ⟨t1,t2,_⟩:=z7 h;rw [e1,e2];refine ⟨ih.1,fun i l hl=>?_⟩
  by_cases hi:i<(kU its).length
  ·rw [List.getElem?_append_left hi] at hl;obtain ⟨h1,h2,h3⟩:=ih.2 i l hl;exact ⟨h1,h2,by omega⟩
  ·rw [List.getElem?_append_right (by omega)] at hl;have hz:i - (kU its).length=0:=by
    have:=(List.getElem?_eq_some_iff.mp hl).1;rw [length_singleton] at this;omega
   rw [hz] at hl;cases hl;have e:i=b:=by omega
   rw [e];exact ⟨hg,hn,by omega⟩
 |@night its a b c ts h hc ht hl ih =>
  have e1:kI (its++[.night ts])=kI its:=by unfold kI;rw [filterMap_append];exact append_nil _
  have e2:kU (its++[.night ts])=kU its:=by unfold kU;rw [filterMap_append];exact append_nil _
  rw [e1,e2];exact ih
structure Drawn (R:List RC) (L:List LC) (N:List (List (Int×Int))):Prop where
 r8:R.length≤8
 r1:1≤R.length
 l8:L.length≤8
 n6:N.length≤6
 good:∀(i:Nat) (r:RC),R[i]?=some r→r.good i
 lock:∀(i:Nat) (l:LC),L[i]?=some l→l.good R.length
 night:∀p∈N,p.length=R.length
theorem LU {H:Hp} {x dx:Addr} {o o':HO} (nx:H x=none) (ndx:H dx=none):Same H (upd (upd H dx o) x o'):=fun b u e=>by rw [j9 (jW e nx),j9 (jW e ndx)];exact e
theorem KC {H H1 H2:Hp} {x:Addr} (nx:H x=none) (u:Same H H1) (k:Keep x H1 H2):Same H H2:=fun b o e=>k b o (jW e nx) (u b o e)
def iL (K:W.Frag):Sp:=fun vs H Q _=>∃(f d:Addr) (ms:List Int),vs=[.ref f,.ref d]∧pL K H f ms∧pL K H d ms∧ms.length≤1000∧Q (.bl true) H
def BB:Kd→Bool
 |.basin=>true
 |_=>false
def BA:Kd→Bool
 |.pump=>true
 |_=>false
theorem N1 (kd:Kd):decide (V.str (vE kd)=V.str "basin")=BB kd:=by
 cases kd
 ·exact decide_eq_false fun h=>absurd (V.str.inj h) (by decide +kernel)
 ·exact decide_eq_true rfl
 ·exact decide_eq_false fun h=>absurd (V.str.inj h) (by decide +kernel)
theorem NM (kd:Kd):decide (V.str (vE kd)=V.str "pump")=BA kd:=by
 cases kd
 ·exact decide_eq_false fun h=>absurd (V.str.inj h) (by decide +kernel)
 ·exact decide_eq_false fun h=>absurd (V.str.inj h) (by decide +kernel)
 ·exact decide_eq_true rfl
def sP (cR:Addr):Sp:=fun vs H Q _=>∃(y t:Addr) (r:RC),vs=[.ref y,.ref t]∧RcAt cR H y r∧H t=some (.tup (zA r))∧∀H',Same H H'→Q (.bl true) H'
def uF (cs:Kd→Addr):Sp:=fun vs H Q _=>∃(y t:Addr) (l:LC),vs=[.ref y,.ref t]∧LockAt cs H y l.kd (.str l.name) (.int l.high) (.int l.low) l.room l.extra∧(l.kd=.plain→l.extra=0)∧H t=some (.tup (eX l))∧∀H',Same H H'→Q (.bl true) H'
def sQ:Sp:=fun vs H Q _=>∃(y t:Addr) (D D':List Addr) (p:List (Int×Int)),vs=[.ref y,.ref t]∧NAt D H (.ref y) p∧NAt D' H (.ref t) p∧p.length≤100∧∀H',Same H H'→Q (.bl true) H'
def sT (cs:Kd→Addr) (cR cN:Addr):Sp:=fun vs H Q _=>∃(x t:Addr) (D D':List Addr) (R:List RC) (L:List LC) (N:List (List (Int×Int))),vs=[.ref x,.ref t]∧CnAt cs cR cN D H x R L N∧DueAt D' H t R L N∧R.length≤100∧L.length≤100∧N.length≤100∧(∀l∈L,l.kd=.plain→l.extra=0)∧(∀p∈N,p.length≤100)∧∀H',Same H H'→Q (.bl true) H'
def jY (n:Int):Str:=Str.ofString (toString n)
theorem zK {n:Int} (h0:0≤n) (h1:n≤9999999999999):n.natAbs.log2<1920∧(jY n).length≤14:=by
 have hn:n.natAbs<10 ^ 13:=by
  have:((10 ^ 13:Nat):Int)=10000000000000:=by decide +kernel
  omega
 refine ⟨?_,?_⟩
 ·by_cases hz:n.natAbs=0
  ·rw [hz];decide +kernel
  ·exact (Nat.log2_lt hz).2 (Nat.lt_of_lt_of_le hn (by decide +kernel))
 ·unfold jY;rw [PySem.ofString_length];exact PySem.int_text_length_le10 (k:=13) (by decide) hn
def z5 (rn:Nat→List Nat) (z:Int):Str:=if 0≤z then jM (rn z.toNat) else "sea"
def pH:Kd→Int→List Str
 |.plain,_=>[]
 |.basin,x=>["basin",jY x]
 |.pump,x=>["pump",jY x]
theorem iX {kd:Kd} (h:kd≠.plain) (x:Int):pH kd x=[vE kd,jY x]:=by
 cases kd
 ·exact absurd rfl h
 ·rfl
 ·rfl
def kX (rn:Nat→List Nat):PIt→List Str
 |.reach r=>["reach",r.name,jY r.least,jY r.crest,jY r.berths,jY r.water,z5 rn r.target]
 |.lock l=>(["lock",l.name,jM (rn l.high.toNat),jM (rn l.low.toNat),jY l.room]:List Str)++pH l.kd l.extra
 |.night ts=>"night"::ts.flatMap fun q=>[jM (rn q.1),jY q.2.1,jY q.2.2]
theorem ZQ (rn:Nat→List Nat) (l:LC):kX rn (.lock l)=(["lock",l.name,jM (rn l.high.toNat),jM (rn l.low.toNat),jY l.room]:List Str)++pH l.kd l.extra:=rfl
def eP (it:PIt) (n:Nat):Prop:=n≤8∧match it with
 |.reach r=>r.good n∧r.name.length≤12
 |.lock l=>l.good n∧l.name.length≤12
 |.night ts=>tripsOk ts n∧ts.length≤8
def blankS:Str:=⟨#[32]⟩
theorem K0:(" ":Str)=blankS:=by decide +kernel
def yS (rn:Nat→List Nat) (it:PIt):Str:=Str.join blankS (kX rn it)
def xP:Sp:=fun vs H Q _=>∃(t nl:Addr) (it:PIt) (rn:Nat→List Nat) (n:Nat),vs=[.ref t,.ref nl]∧ItAt [] H (.ref t) it∧H nl=some (.lst (qE rn 8))∧(∀k,k<8→(rn k).length≤12)∧eP it n∧∀H',Same H H'→Q (.str (yS rn it)) H'
theorem nH (f:Nat→List Nat) {z:Int} (h0:0≤z) (h:z<8):kQ (qE f 8) z=some (V.str (jM (f z.toNat))):=by
 have e:((z.toNat:Nat):Int)=z:=by omega
 have:=q9 (fG f (show z.toNat<8 by omega))
 rwa [e] at this
theorem fZ {B:Nat}:∀(zs:List Str),(∀z∈zs,z.length≤B)→ZU zs≤zs.length*B
 |[],_=>Nat.zero_le _
 |z::r,h=>by
  have h1:=fZ r (fun y hy=>h y (mem_cons_of_mem _ hy));have h2:=h z mem_cons_self;show z.length+ZU r≤(r.length+1)*B;rw [Nat.add_mul];omega
theorem LY:("sea":Str).length=3:=by decide +kernel
theorem tH:("reach":Str).length=5:=by decide +kernel
theorem uV:("lock":Str).length=4:=by decide +kernel
theorem tI:("night":Str).length=5:=by decide +kernel
theorem LZ (kd:Kd):(vE kd).length≤14:=by cases kd<;>decide +kernel
theorem K2 {rn:Nat→List Nat} (hrn:∀k,k<8→(rn k).length≤12) {z:Int} (h:z<8):(z5 rn z).length≤14:=by
 unfold z5
 split
 ·rw [zC];have:=hrn z.toNat (by omega);omega
 ·rw [LY];omega
theorem nU {rn:Nat→List Nat} (hrn:∀k,k<8→(rn k).length≤12) {it:PIt} {n:Nat} (h:eP it n):(kX rn it).length≤25∧∀z∈kX rn it,z.length≤14:=by
 obtain ⟨hn,h⟩:=h;cases it with
 |reach r =>
  obtain ⟨⟨g1,g2,g3,g4,g5,g6,g7,g8,g9⟩,hl⟩:=h;refine ⟨by show 7≤25;decide,?_⟩;intro z hz;simp only [kX,mem_cons,mem_nil_iff,or_false] at hz
  rcases hz with rfl|rfl|rfl|rfl|rfl|rfl|rfl
  ·rw [tH];decide
  ·omega
  ·exact (zK (by omega) (by omega)).2
  ·exact (zK (by omega) (by omega)).2
  ·exact (zK (by omega) (by omega)).2
  ·exact (zK (by omega) (by omega)).2
  ·exact K2 hrn (by omega)
 |lock l =>
  obtain ⟨⟨g1,g2,g3,g4,g5,g6,g7,g8⟩,hl⟩:=h;have hx:(0:Int)≤l.extra∧l.extra≤999999999999:=by
   by_cases hk:l.kd=.plain
   ·rw [g7 hk];omega
   ·have:=g8 hk;omega
  refine ⟨by unfold kX;rw [length_append];cases l.kd;(show 5+0≤25;decide);(show 5+2≤25;decide);(show 5+2≤25;decide),?_⟩;intro z hz;unfold kX at hz
  rcases mem_append.mp hz with hz|hz
  ·simp only [mem_cons,mem_nil_iff,or_false] at hz
   rcases hz with rfl|rfl|rfl|rfl|rfl
   ·rw [uV];decide
   ·omega
   ·rw [zC];have:=hrn l.high.toNat (by omega);omega
   ·rw [zC];have:=hrn l.low.toNat (by omega);omega
   ·exact (zK (by omega) (by omega)).2
  ·by_cases hk:l.kd=.plain
   ·rw [hk] at hz;cases hz
   ·rw [iX hk] at hz;simp only [mem_cons,mem_nil_iff,or_false] at hz
    rcases hz with rfl|rfl
    ·exact LZ _
    ·exact (zK (by omega) (by omega)).2
 |night ts =>
  obtain ⟨⟨_,h2⟩,hl⟩:=h;have hf:∀ts:List (Nat×Int×Int),(ts.flatMap fun q=>[jM (rn q.1),jY q.2.1,jY q.2.2]).length=3*ts.length:=by
   intro ts
   induction ts with
   |nil=>rfl
   |cons q r ih=>rw [flatMap_cons,length_append,ih];show 3+3*r.length=3*(r.length+1);omega
  refine ⟨by show (ts.flatMap _).length+1≤25;rw [hf];omega,?_⟩;intro z hz
  rcases mem_cons.mp hz with rfl|hz
  ·rw [tI];decide
  ·obtain ⟨q,hq,hz⟩:=mem_flatMap.mp hz;obtain ⟨k1,k2,k3,k4,k5⟩:=h2 q hq;simp only [mem_cons,mem_nil_iff,or_false] at hz
   rcases hz with rfl|rfl|rfl
   ·rw [zC];have:=hrn q.1 (by omega);omega
   ·exact (zK (by omega) (by omega)).2
   ·exact (zK (by omega) (by omega)).2
theorem E8 {rn:Nat→List Nat} (hrn:∀k,k<8→(rn k).length≤12) {it:PIt} {n:Nat} (h:eP it n):ZU (kX rn it)+(kX rn it).length≤1048576:=by
 obtain ⟨h1,h2⟩:=nU hrn h;have h3:=fZ (kX rn it) h2;have h4:(kX rn it).length*14≤25*14:=Nat.mul_le_mul_right _ h1;omega
theorem HL (rn:Nat→List Nat) (ts:List (Nat×Int×Int)) {j:Nat} {q:Nat×Int×Int} (h:ts[j]?=some q):kX rn (.night (ts.take (j+1)))=kX rn (.night (ts.take j))++[jM (rn q.1),jY q.2.1,jY q.2.2]:=by
 rw [take_add_one,h];show ("night":Str)::(ts.take j++[q]).flatMap (fun q=>([jM (rn q.1),jY q.2.1,jY q.2.2]:List Str))=(("night":Str)::(ts.take j).flatMap (fun q=>([jM (rn q.1),jY q.2.1,jY q.2.2]:List Str)))++[jM (rn q.1),jY q.2.1,jY q.2.2];rw [flatMap_append,cons_append];rfl
def feedS:Str:=⟨#[10]⟩
theorem FH (c:Nat) (x:Str) (r:List Str):∃z:Str,Str.join ⟨#[c]⟩ (x::r)=x++z:=by
 cases r with
 |nil=>exact ⟨⟨#[]⟩,by show x=⟨x.cps++#[]⟩;rw [Array.append_empty]⟩
 |cons y r =>
  refine ⟨(⟨#[c]⟩:Str)++Str.join ⟨#[c]⟩ (y::r),?_⟩;show (x++(⟨#[c]⟩:Str))++Str.join ⟨#[c]⟩ (y::r)=x++((⟨#[c]⟩:Str)++Str.join ⟨#[c]⟩ (y::r));show (⟨(x.cps++#[c])++(Str.join ⟨#[c]⟩ (y::r)).cps⟩:Str)=⟨x.cps++(#[c]++(Str.join ⟨#[c]⟩ (y::r)).cps)⟩;rw [Array.append_assoc]
theorem MM (rn:Nat→List Nat) (it:PIt):0<(yS rn it).length:=by
 have key:∀(x:Str) (r:List Str),0<x.length→0<(Str.join blankS (x::r)).length:=by
  intro x r h;obtain ⟨z,hz⟩:=FH 32 x r;show 0<(Str.join ⟨#[32]⟩ (x::r)).length;rw [hz,Str.length_append];omega
 cases it with
 |reach r=>exact key _ _ (by rw [tH];decide)
 |lock l=>exact key _ _ (by rw [uV];decide)
 |night ts=>exact key _ _ (by rw [tI];decide)
def z4 (z:Str):Bool := !decide (z="")
theorem oB:z4 ""=false:=by unfold z4;rw [decide_eq_true rfl];rfl
theorem oN {rn gn:Nat→List Nat} (hr:∀k,k<8→(rn k).length≤12) (hg:∀k,k<8→(gn k).length≤12) {its:List PIt} {a b c:Nat} (h:PlanOk rn gn its a b c):∀it∈its,∃n,eP it n:=by
 induction h with
 |nil=>intro it h;cases h
 |reach h ha hn hgd ih =>
  intro it hit
  rcases mem_append.mp hit with hit|hit
  ·exact ih it hit
  ·cases mem_singleton.mp hit;exact ⟨_,by have:=h.bounds;omega,hgd,by rw [hn,zC];exact hr _ ha⟩
 |lock h hb hn hgd ih =>
  intro it hit
  rcases mem_append.mp hit with hit|hit
  ·exact ih it hit
  ·cases mem_singleton.mp hit;exact ⟨_,by have:=h.bounds;omega,hgd,by rw [hn,zC];exact hg _ hb⟩
 |night h hc ht hl ih =>
  intro it hit
  rcases mem_append.mp hit with hit|hit
  ·exact ih it hit
  ·cases mem_singleton.mp hit;exact ⟨_,by have:=h.bounds;omega,ht,hl⟩
def zS (z:Str):Prop:=∀c∈z.cps.toList,48≤c
def pA:PIt→Prop
 |.reach r=>zS r.name
 |.lock l=>zS l.name
 |.night _=>True
theorem dR {l:List Nat} (h:∀c∈l,97≤c∧c≤122):zS (jM l):=fun c hc=>by have:=h c hc;omega
theorem QT {n:Int} (h:0≤n):zS (jY n):=fun c hc=>by
 unfold jY at hc;rw [w8 h] at hc;exact (uP _ c hc).1
theorem fP {z:Str} (h:(z.cps.toList.all fun c=>decide (48≤c))=true):zS z:=fun c hc=>of_decide_eq_true (all_eq_true.mp h c hc)
theorem FJ:zS "reach":=fP (by decide +kernel)
theorem HC:zS "lock":=fP (by decide +kernel)
theorem FK:zS "night":=fP (by decide +kernel)
theorem KM:zS "sea":=fP (by decide +kernel)
theorem L4 (kd:Kd):zS (vE kd):=by cases kd<;>exact fP (by decide +kernel)
theorem sV {rn:Nat→List Nat} (hrn:∀k,k<8→∀c∈rn k,97≤c∧c≤122) {it:PIt} {n:Nat} (h:eP it n) (hl:pA it):∀z∈kX rn it,zS z:=by
 obtain ⟨hn,h⟩:=h;cases it with
 |reach r =>
  obtain ⟨⟨g1,g2,g3,g4,g5,g6,g7,g8,g9⟩,_⟩:=h;intro z hz;simp only [kX,mem_cons,mem_nil_iff,or_false] at hz
  rcases hz with rfl|rfl|rfl|rfl|rfl|rfl|rfl
  ·exact FJ
  ·exact hl
  ·exact QT (by omega)
  ·exact QT (by omega)
  ·exact QT (by omega)
  ·exact QT (by omega)
  ·unfold z5
   split
   ·exact dR (hrn _ (by omega))
   ·exact KM
 |lock l =>
  obtain ⟨⟨g1,g2,g3,g4,g5,g6,g7,g8⟩,_⟩:=h;intro z hz;rw [ZQ] at hz
  rcases mem_append.mp hz with hz|hz
  ·simp only [mem_cons,mem_nil_iff,or_false] at hz
   rcases hz with rfl|rfl|rfl|rfl|rfl
   ·exact HC
   ·exact hl
   ·exact dR (hrn _ (by omega))
   ·exact dR (hrn _ (by omega))
   ·exact QT (by omega)
  ·by_cases hk:l.kd=.plain
   ·rw [hk] at hz;cases hz
   ·have hx:=g8 hk;rw [iX hk] at hz;simp only [mem_cons,mem_nil_iff,or_false] at hz
    rcases hz with rfl|rfl
    ·exact L4 _
    ·exact QT (by omega)
 |night ts =>
  obtain ⟨⟨_,h2⟩,_⟩:=h;intro z hz
  rcases mem_cons.mp hz with rfl|hz
  ·exact FK
  ·obtain ⟨q,hq,hz⟩:=mem_flatMap.mp hz;obtain ⟨k1,k2,k3,k4,k5⟩:=h2 q hq;simp only [mem_cons,mem_nil_iff,or_false] at hz
   rcases hz with rfl|rfl|rfl
   ·exact dR (hrn _ (by omega))
   ·exact QT k2
   ·exact QT k4
theorem wW (rn:Nat→List Nat) (it:PIt):kX rn it≠[]:=by
 cases it with
 |reach r=>exact cons_ne_nil _ _
 |lock l=>rw [ZQ];simp
 |night ts=>exact cons_ne_nil _ _
theorem GE {rn:Nat→List Nat} (hrn:∀k,k<8→∀c∈rn k,97≤c∧c≤122) {it:PIt} {n:Nat} (h:eP it n) (hl:pA it):Txt.split (yS rn it) blankS=kX rn it :=
 mT 32 (wW rn it) fun p hp hc=>by have:=sV hrn h hl p hp 32 hc;omega
theorem tJ {c x:Nat}:∀{ps:List (List Nat)},x∈QG c ps→x=c∨∃p∈ps,x∈p
 |[],h=>by cases h
 |[p],h=>.inr ⟨p,mem_cons_self,h⟩
 |p::q::r,h=>by
  rcases mem_append.mp h with h|h
  ·exact .inr ⟨p,mem_cons_self,h⟩
  ·rcases mem_cons.mp h with h|h
   ·exact .inl h
   ·rcases tJ h with h|⟨p',hp,hx⟩
    ·exact .inl h
    ·exact .inr ⟨p',mem_cons_of_mem _ hp,hx⟩
theorem uO {rn gn:Nat→List Nat} (hr:∀k,k<8→∀c∈rn k,97≤c∧c≤122) (hg:∀k,k<8→∀c∈gn k,97≤c∧c≤122) {its:List PIt} {a b c:Nat} (h:PlanOk rn gn its a b c):∀it∈its,pA it:=by
 induction h with
 |nil=>intro it h;cases h
 |reach h ha hn hgd ih =>
  intro it hit
  rcases mem_append.mp hit with hit|hit
  ·exact ih it hit
  ·cases mem_singleton.mp hit;show zS _;rw [hn];exact dR (hr _ ha)
 |lock h hb hn hgd ih =>
  intro it hit
  rcases mem_append.mp hit with hit|hit
  ·exact ih it hit
  ·cases mem_singleton.mp hit;show zS _;rw [hn];exact dR (hg _ hb)
 |night h hc ht hl ih =>
  intro it hit
  rcases mem_append.mp hit with hit|hit
  ·exact ih it hit
  ·cases mem_singleton.mp hit;trivial
def lR (K:W.Frag) (H:Hp) (v:V) (nm:Str):Prop:=∃(x C dx:Addr) (fs:List (Str×V)),v=.ref x∧H x=some (.ins C dx fs)∧Cls K C∧NoAttr K C "name"∧fs.lookup ("name":Str)=some (.str nm)
def FirstAt (zs:List Str) (nm:Str) (i:Nat):Prop:=zs[i]?=some nm∧∀j:Nat,j<i→zs[j]?≠some nm
def qC (zs:List Str) (nm:Str):Prop:=∀i:Nat,zs[i]?≠some nm
theorem FirstAt.uniq {zs:List Str} {nm:Str} {i j:Nat} (h:FirstAt zs nm i) (h':FirstAt zs nm j):i=j:=by
 rcases Nat.lt_trichotomy i j with c|c|c
 ·exact absurd h.1 (h'.2 i c)
 ·exact c
 ·exact absurd h'.1 (h.2 j c)
theorem FirstAt.some {zs:List Str} {nm:Str} {i:Nat} (h:FirstAt zs nm i):¬qC zs nm:=fun z=>z i h.1
theorem JU (zs:List Str) (nm:Str):(∃i,FirstAt zs nm i)∨qC zs nm:=by
 have key:∀n:Nat,(∃i,FirstAt zs nm i)∨∀j:Nat,j<n→zs[j]?≠some nm:=by
  intro n
  induction n with
  |zero=>exact .inr fun j hj=>absurd hj (Nat.not_lt_zero j)
  |succ n ih =>
   rcases ih with h|h
   ·exact .inl h
   ·by_cases e:zs[n]?=some nm
    ·exact .inl ⟨n,e,h⟩
    ·refine .inr fun j hj=>?_
     by_cases c:j=n
     ·rw [c];exact e
     ·exact h j (by omega)
 rcases key zs.length with h|h
 ·exact .inl h
 ·refine .inr fun i hi=>h i ?_ hi
  exact (List.getElem?_eq_some_iff.mp hi).1
def lB (K:W.Frag) (eU:Addr):Sp:=fun vs H Q E=>∃(nm:Str) (l:Addr) (us:List V) (zs:List Str),vs=[.str nm,.ref l]∧H l=some (.lst us)∧AllAt (lR K H) us zs∧us.length≤100∧(∀i:Nat,FirstAt zs nm i→∀H',Same H H'→Q (.int (i:Int)) H')∧(qC zs nm→∀H',Same H H'→E (.ref eU) none H')
def y8:Str:="0123456789"
def JG (S:Str) (c:Nat):Bool := !(Builtin.Str.occurrences S ⟨#[c]⟩ 0 S.length 1).isEmpty
def zR (S w:Str) (i:Nat):Bool:=(w.cps.toList.take i).all (JG S)
theorem nK {S w:Str} {i c:Nat} (h:w.cps[i]?=some c):zR S w (i+1)=(zR S w i&&JG S c):=by
 unfold zR;rw [take_add_one,show w.cps.toList[i]?=some c by rw [Array.getElem?_toList];exact h,all_append];simp
def jO (S w:Str):Bool:=decide (0<w.length)&&decide (w.length<13)&&zR S w w.cps.size
theorem uY {S w:Str} (h0:0<w.length) (h1:w.length<13) (h:∀c∈w.cps.toList,JG S c=true):jO S w=true:=by
 unfold jO zR;rw [decide_eq_true h0,decide_eq_true h1,take_of_length_le (by rw [Array.length_toList];exact Nat.le_refl _),all_eq_true.mpr h];rfl
def QH (w:Str):Prop:=jO lettersS w=true
theorem tL (c:Nat):JG y8 c=(decide (48≤c)&&decide (c≤57)):=NA c
theorem HG:∀k:Nat,k<26→JG lettersS (97+k)=true:=by decide +kernel
theorem tD {l:List Nat} (h1:1≤l.length) (h2:l.length≤12) (h:∀c∈l,97≤c∧c≤122):QH (jM l):=by
 refine uY (by rw [zC];omega) (by rw [zC];omega) fun c hc=>?_
 have:=h c hc;have k:=HG (c - 97) (by omega);rw [show 97+(c - 97)=c by omega] at k;exact k
theorem KA:QH "sea":=by show jO lettersS "sea"=true;decide +kernel
theorem oF {z:Str} {i:Int} (h0:0≤i) (h1:i<(z.length:Int)):∃c,kQ z.cps.toList i=some c∧z.cps[i.toNat]?=some c:=by
 have hl:i.toNat<z.cps.toList.length:=by
  rw [Array.length_toList];show i.toNat<z.length;omega
 have h:=q9 (List.getElem?_eq_getElem hl);have e:((i.toNat:Nat):Int)=i:=by omega
 rw [e] at h;exact ⟨_,h,by rw [← Array.getElem?_toList];exact List.getElem?_eq_getElem hl⟩
theorem dP:("0":Str)=⟨#[48]⟩:=by decide +kernel
theorem wC (c:Nat):decide (V.str ⟨#[c]⟩=V.str "0")=decide (c=48):=by
 refine decide_eq_decide.mpr ⟨fun h=>?_,fun h=>by rw [h,dP]⟩;have h:=V.str.inj h;rw [dP] at h;have h:=congrArg (fun z:Str=>z.cps.toList) h;exact (List.cons.inj h).1
def jP (w:Str):Bool:=decide (w="0")||(jO y8 w && !decide (w.cps[0]?=some 48))
def jX (w:Str):Int:=((PySem.NumText.digitsVal w.cps.toList:Nat):Int)
theorem rJ {w:Str} (h:jO y8 w=true):0<w.length∧w.length<13∧∀c∈w.cps.toList,48≤c∧c≤57:=by
 unfold jO at h;rw [Bool.and_eq_true,Bool.and_eq_true] at h;refine ⟨of_decide_eq_true h.1.1,of_decide_eq_true h.1.2,fun c hc=>?_⟩;have ha:=h.2;unfold zR at ha;rw [take_of_length_le (by rw [Array.length_toList];exact Nat.le_refl _),all_eq_true] at ha;have:=ha c hc;rw [tL,Bool.and_eq_true] at this;exact ⟨of_decide_eq_true this.1,of_decide_eq_true this.2⟩
theorem sZ {w:Str} (hw:w.length≤100) (h:jP w=true):PySem.intText? w=some (jX w):=by
 unfold jP at h;rw [Bool.or_eq_true] at h
 rcases h with h|h
 ·rw [of_decide_eq_true h];refine PySem.intText_digits ?_ ?_ ?_
  ·rw [dP];intro c hc;cases mem_singleton.mp hc;exact ⟨by decide,by decide⟩
  ·rw [dP];exact cons_ne_nil _ _
  ·rw [dP];decide
 ·rw [Bool.and_eq_true] at h;obtain ⟨h1,h2,h3⟩:=rJ h.1;refine PySem.intText_digits h3 ?_ (by omega);intro e;have:w.length=0:=by show w.cps.size=0;rw [← Array.length_toList,e];rfl
  omega
def N2 (w:Str):Prop:=w.length≤100∧jP w=true
def pD (w:Str) (n:Int):Prop:=N2 w∧jX w=n
theorem QX {n:Int} (h0:0≤n) (h1:n≤999999999999):pD (jY n) n:=by
 have hc:(jY n).cps.toList=yT n.toNat:=w8 h0;have hm:n.toNat<1000000000000:=by omega
 have hl:(jY n).length=(yT n.toNat).length:=by rw [← hc,Array.length_toList];rfl
 have hb:=IX hm;refine ⟨⟨by rw [hl];omega,?_⟩,?_⟩
 ·unfold jP
  by_cases hz:n.toNat=0
  ·have e:jY n="0":=by
    rw [dP];have:(jY n).cps = #[48]:=by rw [← Array.toList_inj,hc,hz,GP]
    cases hq:jY n with
    |mk a=>rw [hq] at this;exact congrArg Str.mk this
   rw [decide_eq_true e];rfl
  ·have hg:jO y8 (jY n)=true:=uY (by rw [hl];omega) (by rw [hl];omega) fun c hx=>by
    rw [hc] at hx;have:=uP _ c hx;rw [tL,decide_eq_true this.1,decide_eq_true this.2];rfl
   have hh:=GQ n.toNat (by omega);rw [← hc,Array.getElem?_toList] at hh;rw [hg,decide_eq_false hh];simp
 ·unfold jX;rw [hc,IW];omega
def oY:Sp:=fun vs H Q _=>∃w S:Str,vs=[.str w,.str S]∧w.length≤100∧∀H',Same H H'→Q (.bl (jO S w)) H'
def uH:Sp:=fun vs H Q _=>∃w:Str,vs=[.str w]∧w.length≤100∧∀H',Same H H'→Q (.bl (jO lettersS w)) H'
def wT:Sp:=fun vs H Q _=>∃w:Str,vs=[.str w]∧w.length≤100∧∀H',Same H H'→Q (.bl (jP w)) H'
def Short (ws:List Str):Prop:=ws.length≤100∧∀w∈ws,w.length≤100
def xR (eB:Addr):Sp:=fun vs H Q E=>∃w:Str,vs=[.str w]∧w.length≤100∧(jP w=true→∀H',Same H H'→Q (.int (jX w)) H')∧(jP w=false→∀H',Same H H'→E (.ref eB) none H')
def lC (eB:Addr):Sp:=fun vs H Q E=>∃(l:Addr) (ws:List Str),vs=[.ref l]∧H l=some (.lst (ws.map V.str))∧Short ws∧(ws.all jP=true→∀(l':Addr) (H':Hp),Same H H'→H l'=none→H' l'=some (.lst ((ws.map jX).map V.int))→Q (.ref l') H')∧(ws.all jP=false→∀H',Same H H'→E (.ref eB) none H')
def iT (eB:Addr):Sp:=fun vs H Q E=>∃(l:Addr) (ws:List Str),vs=[.ref l]∧H l=some (.lst (ws.map V.str))∧Short ws∧(ws.all (jO lettersS)=true→∀H',Same H H'→Q .non H')∧(ws.all (jO lettersS)=false→∀H',Same H H'→E (.ref eB) none H')
def oJ (K:W.Frag) (eT:Addr):Sp:=fun vs H Q E=>∃(nm:Str) (l:Addr) (us:List V) (zs:List Str),vs=[.str nm,.ref l]∧H l=some (.lst us)∧AllAt (lR K H) us zs∧us.length≤100∧(qC zs nm→∀H',Same H H'→Q .non H')∧(¬qC zs nm→∀H',Same H H'→E (.ref eT) none H')
def Q4 (r:RC):Prop:=r.crest<r.least∨r.berths<1∨9<r.berths
def rE (cR eN:Addr):Sp:=fun vs H Q E=>∃(y:Addr) (r:RC),vs=[.ref y]∧RcAt cR H y r∧(¬Q4 r→Q .non H)∧(Q4 r→E (.ref eN) none H)
def QJ (l:LC):Prop:=l.high≤l.low∨l.room=0∨(l.kd≠.plain∧(l.extra<1∨l.room<l.extra))
def rS (cs:Kd→Addr) (eN:Addr):Sp:=fun vs H Q E=>∃(y:Addr) (l:LC),vs=[.ref y]∧LockAt cs H y l.kd (.str l.name) (.int l.high) (.int l.low) l.room l.extra∧(¬QJ l→Q .non H)∧(QJ l→E (.ref eN) none H)
def lE (eM:Addr):Sp:=fun vs H Q E=>∃(l:Addr) (us:List V) (m:Int),vs=[.ref l,.int m]∧H l=some (.lst us)∧us.length≤1000∧((us.length:Int)<m→Q .non H)∧(m≤(us.length:Int)→E (.ref eM) none H)
def Q0 (n:Nat) (p:List (Int×Int)):List (Int×Int):=p++List.replicate (n - p.length) (0,0)
def m8:Sp:=fun vs H Q _=>∃(l:Addr) (qs:List V) (p:List (Int×Int)) (n:Nat),vs=[.ref l,.int (n:Int)]∧H l=some (.lst qs)∧AllAt (QAt H) qs p∧p.length≤n∧n≤100∧∀(l':Addr) (qs':List V) (H':Hp),Same H H'→H l'=none→H' l'=some (.lst qs')→AllAt (QAt H') qs' (Q0 n p)→Q (.ref l') H'
def rR (cs:Kd→Addr):Sp:=fun vs H Q _=>∃(wl nl:Addr) (a nm b c d:Str) (kd:Kd) (hi lo ro ex:Int) (ext:List Str) (ns:List Int),vs=[.ref wl,.int hi,.int lo,.ref nl]∧H wl=some (.lst (([a,nm,b,c,d]++ext).map V.str))∧H nl=some (.lst (ns.map V.int))∧
 ((kd=.plain∧ext=[]∧ns=[ro])∨(∃g,kd≠.plain∧ext=[vE kd,g]∧ns=[ro,ex]))∧∀(x:Addr) (H':Hp),Same H H'→H x=none→LockAt cs H' x kd (.str nm) (.int hi) (.int lo) ro ex→Q (.ref x) H'
theorem J9 {ws:List Str} {i:Nat} {v:V} (h:(ws.map V.str)[i]?=some v):∃w,ws[i]?=some w∧v=.str w:=by
 rw [List.getElem?_map] at h;cases hw:ws[i]? with
 |none=>rw [hw] at h;cases h
 |some w=>rw [hw] at h;cases h;exact ⟨w,rfl,rfl⟩
theorem zJ (zs:List Str):(zs.map V.str).all y6=true:=by rw [all_map,all_eq_true];intro _ _;rfl
theorem xA {zs:List Str} {nm:Str} (h:qC zs nm):vY (.str nm) (zs.map V.str)=false:=by
 unfold vY;rw [any_map,Bool.eq_false_iff];intro e;obtain ⟨z,hz,e⟩:=any_eq_true.mp e;obtain ⟨i,hi⟩:=mem_iff_getElem?.mp hz;have e:(z == nm)=true:=e;rw [eq_of_beq e] at hi;exact h i hi
theorem AllAt.append {α:Type} {P:V→α→Prop} {vs us:List V} {xs ys:List α} (h:AllAt P vs xs) (h':AllAt P us ys):AllAt P (vs++us) (xs++ys):=by
 refine ⟨by rw [length_append,length_append,h.1,h'.1],fun i v hv=>?_⟩
 by_cases hl:i<vs.length
 ·rw [List.getElem?_append_left hl] at hv;rw [List.getElem?_append_left (by rw [← h.1];exact hl)];exact h.2 i v hv
 ·rw [List.getElem?_append_right (by omega)] at hv;rw [List.getElem?_append_right (by rw [← h.1];omega),← h.1];exact h'.2 _ v hv
def jR (R:List RC):List Str:=R.map (·.name)
def yW (L:List LC):List Str:=L.map (·.name)
theorem fT {K:W.Frag} {cR:Addr} {H:Hp} {rs:List V} {R:List RC} (c:Cls K cR) (n:NoAttr K cR "name") (h:AllAt (RcO cR H) rs R):AllAt (lR K H) rs (jR R):=by
 refine ⟨by unfold jR;rw [h.1,length_map],fun i v hv=>?_⟩;obtain ⟨r,hr,x,rfl,dx,fs,hx,hf⟩:=h.2 i v hv;exact ⟨r.name,by unfold jR;rw [List.getElem?_map,hr];rfl,x,cR,dx,fs,rfl,hx,c,n,hf.1⟩
theorem LS {K:W.Frag} {cs:Kd→Addr} {H:Hp} {rs:List V} {L:List LC} (c:∀kd,Cls K (cs kd)) (n:∀kd,NoAttr K (cs kd) "name") (h:AllAt (LkO cs H) rs L):AllAt (lR K H) rs (yW L):=by
 refine ⟨by unfold yW;rw [h.1,length_map],fun i v hv=>?_⟩;obtain ⟨l,hl,x,rfl,dx,hx⟩:=h.2 i v hv;exact ⟨l.name,by unfold yW;rw [List.getElem?_map,hl];rfl,x,_,dx,_,rfl,hx,c _,n _,lI ..⟩
def vV (qs:List (Str×Str×Str)):List Str:=qs.flatMap fun q=>[q.1,q.2.1,q.2.2]
theorem fH (qs:List (Str×Str×Str)):(vV qs).length=3*qs.length:=by
 induction qs with
 |nil=>rfl
 |cons q qs ih=>show ([q.1,q.2.1,q.2.2]++vV qs).length=_;rw [length_append,ih];show 3+_=3*(_+1);omega
theorem iW (qs:List (Str×Str×Str)):∀k:Nat,(vV qs)[3*k]?=qs[k]?.map (·.1)∧(vV qs)[3*k+1]?=qs[k]?.map (·.2.1)∧(vV qs)[3*k+2]?=qs[k]?.map (·.2.2):=by
 induction qs with
 |nil=>intro k;exact ⟨rfl,rfl,rfl⟩
 |cons q qs ih =>
  intro k;have e:vV (q::qs)=q.1::q.2.1::q.2.2::vV qs:=rfl;cases k with
  |zero=>exact ⟨rfl,rfl,rfl⟩
  |succ k =>
   obtain ⟨h1,h2,h3⟩:=ih k;rw [e,show 3*(k+1)=3*k+1+1+1 by omega,show 3*k+1+1+1+1=3*k+1+1+1+1 from rfl];refine ⟨?_,?_,?_⟩
   ·rw [List.getElem?_cons_succ,List.getElem?_cons_succ,List.getElem?_cons_succ,List.getElem?_cons_succ];exact h1
   ·rw [show 3*k+1+1+1+1=(3*k+1)+1+1+1 by omega,List.getElem?_cons_succ,List.getElem?_cons_succ,List.getElem?_cons_succ,List.getElem?_cons_succ];exact h2
   ·rw [show 3*k+1+1+1+2=(3*k+2)+1+1+1 by omega,List.getElem?_cons_succ,List.getElem?_cons_succ,List.getElem?_cons_succ,List.getElem?_cons_succ];exact h3
theorem nX {α β:Type} (f:α→β) (xs:List α):(List.range xs.length).filterMap (fun k=>xs[k]?.map f)=xs.map f:=by
 have key:∀n,n≤xs.length→(List.range n).filterMap (fun k=>xs[k]?.map f)=(xs.take n).map f:=by
  intro n
  induction n with
  |zero=>intro _;rfl
  |succ n ih =>
   intro hn;rw [range_succ,filterMap_append,ih (by omega),take_add_one,map_append,List.getElem?_eq_getElem (by omega)];simp [List.getElem?_eq_getElem (show n<xs.length by omega)]
 rw [key _ (Nat.le_refl _),take_length]
theorem rY (w0:Str) (qs:List (Str×Str×Str)):QF ((w0::vV qs).map V.str) (some 1) none (some 3)=(qs.map (·.1)).map V.str∧QF ((w0::vV qs).map V.str) (some 2) none (some 3)=(qs.map (·.2.1)).map V.str∧QF ((w0::vV qs).map V.str) (some 3) none (some 3)=(qs.map (·.2.2)).map V.str:=by
 have hl:((w0::vV qs).map V.str).length=3*qs.length+1:=by rw [length_map,length_cons,fH]
 refine ⟨?_,?_,?_⟩
 ·refine (mW ((w0::vV qs).map V.str) qs.length 1 (by decide) (by decide) hl).trans ?_;rw [map_map];refine Eq.trans ?_ (nX (V.str∘fun q:Str×Str×Str=>q.1) qs);refine congrArg (fun g=>List.filterMap g (List.range qs.length)) (funext fun k=>?_);rw [List.getElem?_map,show 1+3*k=3*k+1 by omega,List.getElem?_cons_succ,(iW qs k).1];cases qs[k]?<;>rfl
 ·refine (mW ((w0::vV qs).map V.str) qs.length 2 (by decide) (by decide) hl).trans ?_;rw [map_map];refine Eq.trans ?_ (nX (V.str∘fun q:Str×Str×Str=>q.2.1) qs);refine congrArg (fun g=>List.filterMap g (List.range qs.length)) (funext fun k=>?_);rw [List.getElem?_map,show 2+3*k=(3*k+1)+1 by omega,List.getElem?_cons_succ,(iW qs k).2.1];cases qs[k]?<;>rfl
 ·refine (mW ((w0::vV qs).map V.str) qs.length 3 (by decide) (by decide) hl).trans ?_;rw [map_map];refine Eq.trans ?_ (nX (V.str∘fun q:Str×Str×Str=>q.2.2) qs);refine congrArg (fun g=>List.filterMap g (List.range qs.length)) (funext fun k=>?_);rw [List.getElem?_map,show 3+3*k=(3*k+2)+1 by omega,List.getElem?_cons_succ,(iW qs k).2.2];cases qs[k]?<;>rfl
theorem in_iff {zs:List Str} {nm:Str}:vY (.str nm) (zs.map V.str)=true↔¬qC zs nm:=by
 refine ⟨fun h hn=>?_,fun h=>?_⟩
 ·rw [xA hn] at h;cases h
 ·cases e:vY (.str nm) (zs.map V.str) with
  |true=>rfl
  |false =>
   refine absurd (fun i hi=>?_) h;unfold vY at e;rw [any_map,Bool.eq_false_iff] at e;exact e (any_eq_true.mpr ⟨nm,mem_of_getElem? hi,by show (nm == nm)=true;exact beq_self_eq_true nm⟩)
open Classical in
noncomputable def yC (zs:List Str) (nm:Str):Option Nat:=if h:∃i,FirstAt zs nm i then some (choose h) else none
theorem vP {zs:List Str} {nm:Str} {i:Nat} (h:FirstAt zs nm i):yC zs nm=some i:=by
 have hx:∃i,FirstAt zs nm i:=⟨i,h⟩;unfold yC;rw [dif_pos hx,FirstAt.uniq (Classical.choose_spec hx) h]
theorem QQ {zs:List Str} {nm:Str} (h:qC zs nm):yC zs nm=none:=by
 unfold yC;exact dif_neg fun ⟨i,hi⟩=>h i hi.1
def qW (eB eT eU eN eM:Addr):Nat→Addr
 |0=>eB
 |1=>eT
 |2=>eU
 |3=>eN
 |_=>eM
noncomputable def yL (R:List RC) (tg:Str):Option Int:=if tg="sea" then some (-1) else (yC (jR R) tg).map fun i=>(i:Int)
def yV (ws:List Str) (t:Int):RC:=⟨ws.getD 1 "",jX (ws.getD 2 ""),jX (ws.getD 3 ""),jX (ws.getD 4 ""),jX (ws.getD 5 ""),t⟩
open Classical in
noncomputable def qX (R:List RC) (ws:List Str):Except Nat RC :=
 if ws.length≠7∨ws.getD 1 ""="sea" then .error 0
 else if ([ws.getD 1 "",ws.getD 6 ""].all (jO lettersS))=false then .error 0
 else if ([ws.getD 2 "",ws.getD 3 "",ws.getD 4 "",ws.getD 5 ""].all jP)=false then .error 0
 else if ¬qC (jR R) (ws.getD 1 "") then .error 1
 else match yL R (ws.getD 6 "") with
 |none=>.error 2
 |some t=>if Q4 (yV ws t) then .error 3 else if 8≤R.length then .error 4 else .ok (yV ws t)
theorem mP {R:List RC} {ws:List Str} (g0:¬(ws.length≠7∨ws.getD 1 ""="sea")) (g1:¬(([ws.getD 1 "",ws.getD 6 ""].all (jO lettersS))=false)) (g2:¬(([ws.getD 2 "",ws.getD 3 "",ws.getD 4 "",ws.getD 5 ""].all jP)=false)) (g3:qC (jR R) (ws.getD 1 "")) :
  (yL R (ws.getD 6 "")=none→qX R ws=.error 2)∧∀t,yL R (ws.getD 6 "")=some t→(Q4 (yV ws t)→qX R ws=.error 3)∧(¬Q4 (yV ws t)→8≤R.length→qX R ws=.error 4)∧(¬Q4 (yV ws t)→¬8≤R.length→qX R ws=.ok (yV ws t)):=by
 unfold qX;rw [if_neg g0,if_neg g1,if_neg g2,if_neg (fun z=>z g3)];refine ⟨fun h=>by rw [h],fun t h=>⟨fun hb=>?_,fun hb h8=>?_,fun hb h8=>?_⟩⟩
 ·rw [h];exact if_pos hb
 ·rw [h];exact (if_neg hb).trans (if_pos h8)
 ·rw [h];exact (if_neg hb).trans (if_neg h8)
def QL (ws:List Str):Kd:=if ws.length=5 then .plain else if ws.getD 5 ""="basin" then .basin else .pump
def vD (ws:List Str) (i j:Nat):LC:=⟨ws.getD 1 "",(i:Int),(j:Int),jX (ws.getD 4 ""),QL ws,if ws.length=5 then 0 else jX (ws.getD 6 "")⟩
open Classical in
noncomputable def qV (R:List RC) (L:List LC) (ws:List Str):Except Nat LC :=
 if ¬(ws.length=5∨(ws.length=7∧(ws.getD 5 ""="basin"∨ws.getD 5 ""="pump"))) then .error 0
 else if ([ws.getD 1 "",ws.getD 2 "",ws.getD 3 ""].all (jO lettersS))=false then .error 0
 else if ((ws.getD 4 ""::ws.drop 6).all jP)=false then .error 0
 else if ¬qC (yW L) (ws.getD 1 "") then .error 1
 else match yC (jR R) (ws.getD 2 "") with
 |none=>.error 2
 |some i=>match yC (jR R) (ws.getD 3 "") with
  |none=>.error 2
  |some j=>if QJ (vD ws i j) then .error 3 else if 8≤L.length then .error 4 else .ok (vD ws i j)
def qK:List Str→List (Str×Str×Str)
 |a::b::c::r=>(a,b,c)::qK r
 |_=>[]
theorem tN:∀l:List Str,l.length%3=0→vV (qK l)=l
 |[],_=>rfl
 |[_],h=>by simp at h
 |[_,_],h=>by simp at h
 |a::b::c::r,h=>by
  show a::b::c::vV (qK r)=_;rw [tN r (by simp only [length_cons] at h;omega)]
noncomputable def yU (R:List RC) (qs:List (Str×Str×Str)):List (Nat×Int×Int):=qs.map fun q=>((yC (jR R) q.1).getD 0,jX q.2.1,jX q.2.2)
open Classical in
noncomputable def zH (R:List RC) (n:Nat) (qs:List (Str×Str×Str)):Except Nat (List (Nat×Int×Int)) :=
 if ¬(qs.map (·.1)).Nodup then .error 1
 else if ∃q∈qs,qC (jR R) q.1 then .error 2
 else if 6≤n then .error 4
 else .ok (yU R qs)
noncomputable def JC (R:List RC) (n:Nat) (qs:List (Str×Str×Str)):Except Nat (List (Nat×Int×Int)) :=
 if (qs.map (·.1)).all (jO lettersS)=false then .error 0
 else if (qs.map (·.2.1)).all jP=false then .error 0
 else if (qs.map (·.2.2)).all jP=false then .error 0
 else zH R n qs
theorem uS {R:List RC} {n:Nat} {qs:List (Str×Str×Str)} (h:¬(qs.map (·.1)).Nodup):zH R n qs=.error 1:=by unfold zH;exact if_pos h
theorem uR {R:List RC} {n:Nat} {qs:List (Str×Str×Str)} (h:(qs.map (·.1)).Nodup) (h2:∃q∈qs,qC (jR R) q.1):zH R n qs=.error 2:=by unfold zH;rw [if_neg (fun z=>z h)];exact if_pos h2
theorem uQ {R:List RC} {n:Nat} {qs:List (Str×Str×Str)} (h:(qs.map (·.1)).Nodup) (h2:¬∃q∈qs,qC (jR R) q.1) (h4:6≤n):zH R n qs=.error 4:=by unfold zH;rw [if_neg (fun z=>z h),if_neg h2];exact if_pos h4
theorem nG {R:List RC} {n:Nat} {qs:List (Str×Str×Str)} (h:(qs.map (·.1)).Nodup) (h2:¬∃q∈qs,qC (jR R) q.1) (h4:¬6≤n):zH R n qs=.ok (yU R qs):=by unfold zH;rw [if_neg (fun z=>z h),if_neg h2];exact if_neg h4
theorem mQ {R:List RC} {n:Nat} {qs:List (Str×Str×Str)} (g1:¬(qs.map (·.1)).all (jO lettersS)=false) (g2:¬(qs.map (·.2.1)).all jP=false) (g3:¬(qs.map (·.2.2)).all jP=false):JC R n qs=zH R n qs:=by
 unfold JC;rw [if_neg g1,if_neg g2];exact if_neg g3
open Classical in
noncomputable def vU (R:List RC) (n:Nat) (ws:List Str):Except Nat (List (Nat×Int×Int)) :=
 if ws.length%3≠1 then .error 0 else JC R n (qK ws.tail)
abbrev kM:=List RC×List LC×List (List (Nat×Int×Int))
noncomputable def qO (ws:List Str) (S:kM):Except Nat kM :=
 if ws.getD 0 ""="reach" then (match qX S.1 ws with|.error k=>.error k|.ok r=>.ok (S.1++[r],S.2.1,S.2.2))
 else if ws.getD 0 ""="lock" then (match qV S.1 S.2.1 ws with|.error k=>.error k|.ok l=>.ok (S.1,S.2.1++[l],S.2.2))
 else if ws.getD 0 ""="night" then (match vU S.1 S.2.2.length ws with|.error k=>.error k|.ok p=>.ok (S.1,S.2.1,S.2.2++[p]))
 else .error 0
noncomputable def kY:List Str→kM→Except Nat kM
 |[],S=>.ok S
 |row::rest,S=>if row="" then kY rest S else match qO (Txt.split row blankS) S with
  |.error k=>.error k
  |.ok S1=>kY rest S1
def uB (cR:Addr) (er:Nat→Addr):Sp:=fun vs H Q E=>∃(wl rl:Addr) (ws:List Str) (rs:List V) (R:List RC),vs=[.ref wl,.ref rl]∧H wl=some (.lst (ws.map V.str))∧Short ws∧H rl=some (.lst rs)∧AllAt (RcO cR H) rs R∧R.length≤8∧
 (∀r,qX R ws=.ok r→∀(x:Addr) (H':Hp),Same H H'→H x=none→RcAt cR H' x r→Q (.ref x) H')∧∀k,qX R ws=.error k→∀H',Same H H'→E (.ref (er k)) none H'
def wR (cs:Kd→Addr) (cR:Addr) (er:Nat→Addr):Sp:=fun vs H Q E=>∃(wl rl ll:Addr) (ws:List Str) (rs ls:List V) (R:List RC) (L:List LC),vs=[.ref wl,.ref rl,.ref ll]∧H wl=some (.lst (ws.map V.str))∧Short ws∧H rl=some (.lst rs)∧H ll=some (.lst ls)∧AllAt (RcO cR H) rs R∧AllAt (LkO cs H) ls L∧R.length≤8∧L.length≤8∧
 (∀l,qV R L ws=.ok l→∀(x:Addr) (H':Hp),Same H H'→H x=none→LkO cs H' (.ref x) l→Q (.ref x) H')∧∀k,qV R L ws=.error k→∀H',Same H H'→E (.ref (er k)) none H'
def uD (cR:Addr) (er:Nat→Addr):Sp:=fun vs H Q E=>∃(wl rl nl:Addr) (ws:List Str) (rs ms:List V) (R:List RC) (n:Nat),vs=[.ref wl,.ref rl,.ref nl]∧H wl=some (.lst (ws.map V.str))∧Short ws∧H rl=some (.lst rs)∧H nl=some (.lst ms)∧AllAt (RcO cR H) rs R∧ms.length=n∧R.length≤8∧n≤6∧
 (∀p,vU R n ws=.ok p→∀(x:Addr) (qs:List V) (H':Hp),Same H H'→H x=none→H' x=some (.lst qs)→AllAt (QAt H') qs (qM R.length p)→Q (.ref x) H')∧∀k,vU R n ws=.error k→∀H',Same H H'→E (.ref (er k)) none H'
theorem JF {ws:List Str} (h:ws.length=7):∃a b c d e f g:Str,ws=[a,b,c,d,e,f,g]:=match ws,h with
 |[a,b,c,d,e,f,g],_=>⟨a,b,c,d,e,f,g,rfl⟩
theorem eQ {ws:List Str} (h:ws.length=5):∃a b c d e:Str,ws=[a,b,c,d,e]:=match ws,h with
 |[a,b,c,d,e],_=>⟨a,b,c,d,e,rfl⟩
theorem Short.some {ws vs:List Str} (h:Short ws) (hl:vs.length≤100) (hm:∀v∈vs,v∈ws):Short vs:=⟨hl,fun v hv=>h.2 v (hm v hv)⟩
theorem iD {ws:List Str} (h:ws≠[]):kQ (ws.map V.str) 0=some (V.str (ws.getD 0 "")):=by
 cases ws with
 |nil=>exact absurd rfl h
 |cons a r=>exact q9 (j:=0) rfl
def Q3 (ws:List Str):Prop:=ws.length=5∨(ws.length=7∧(ws.getD 5 ""="basin"∨ws.getD 5 ""="pump"))
theorem iJ {R:List RC} {L:List LC} {ws:List Str} (g0:Q3 ws) (g1:¬(([ws.getD 1 "",ws.getD 2 "",ws.getD 3 ""].all (jO lettersS))=false)) (g2:¬(((ws.getD 4 ""::ws.drop 6).all jP)=false)) (g3:qC (yW L) (ws.getD 1 "")) :
  (yC (jR R) (ws.getD 2 "")=none→qV R L ws=.error 2)∧∀i,yC (jR R) (ws.getD 2 "")=some i→(yC (jR R) (ws.getD 3 "")=none→qV R L ws=.error 2)∧∀j,yC (jR R) (ws.getD 3 "")=some j→
   (QJ (vD ws i j)→qV R L ws=.error 3)∧(¬QJ (vD ws i j)→8≤L.length→qV R L ws=.error 4)∧(¬QJ (vD ws i j)→¬8≤L.length→qV R L ws=.ok (vD ws i j)):=by
 unfold qV;rw [if_neg (fun z=>z g0),if_neg g1,if_neg g2,if_neg (fun z=>z g3)];refine ⟨fun h=>by rw [h],fun i hi=>⟨fun h=>by rw [hi,h],fun j hj=>⟨fun hb=>?_,fun hb h8=>?_,fun hb h8=>?_⟩⟩⟩
 ·rw [hi,hj];exact if_pos hb
 ·rw [hi,hj];exact (if_neg hb).trans (if_pos h8)
 ·rw [hi,hj];exact (if_neg hb).trans (if_neg h8)
theorem mX {R:List RC} {L:List LC} {ws:List Str} (g0:¬Q3 ws):qV R L ws=.error 0:=by unfold qV;exact if_pos g0
theorem rH {R:List RC} {L:List LC} {ws:List Str} (g0:Q3 ws) (g1:([ws.getD 1 "",ws.getD 2 "",ws.getD 3 ""].all (jO lettersS))=false):qV R L ws=.error 0:=by
 unfold qV;rw [if_neg (fun z=>z g0)];exact if_pos g1
theorem r9 {R:List RC} {L:List LC} {ws:List Str} (g0:Q3 ws) (g1:¬(([ws.getD 1 "",ws.getD 2 "",ws.getD 3 ""].all (jO lettersS))=false)) (g2:((ws.getD 4 ""::ws.drop 6).all jP)=false):qV R L ws=.error 0:=by
 unfold qV;rw [if_neg (fun z=>z g0),if_neg g1];exact if_pos g2
theorem r6 {R:List RC} {L:List LC} {ws:List Str} (g0:Q3 ws) (g1:¬(([ws.getD 1 "",ws.getD 2 "",ws.getD 3 ""].all (jO lettersS))=false)) (g2:¬(((ws.getD 4 ""::ws.drop 6).all jP)=false)) (g3:¬qC (yW L) (ws.getD 1 "")):qV R L ws=.error 1:=by
 unfold qV;rw [if_neg (fun z=>z g0),if_neg g1,if_neg g2];exact if_pos g3
theorem lQ (w:Str):vY (V.str w) [V.str "basin",V.str "pump"]=true↔(w="basin"∨w="pump"):=by
 show ((("basin":Str) == w)||((("pump":Str) == w)||false))=true↔_;rw [Bool.or_false,Bool.or_eq_true,beq_iff_eq,beq_iff_eq];exact ⟨fun h=>h.imp Eq.symm Eq.symm,fun h=>h.imp Eq.symm Eq.symm⟩
theorem iC {ws:List Str} (h:ws.length%3=1):∃w0,ws=w0::vV (qK ws.tail):=by
 cases ws with
 |nil=>exact absurd h (by decide)
 |cons w r=>exact ⟨w,by rw [tail_cons,tN r (by rw [length_cons] at h;omega)]⟩
theorem wJ (R:List RC) (qs:List (Str×Str×Str)):(yU R qs).length=qs.length:=length_map _
theorem oW {R:List RC} {qs:List (Str×Str×Str)} (h:∀q∈qs,∃j,FirstAt (jR R) q.1 j):∀t∈yU R qs,t.1<R.length:=by
 intro t ht;obtain ⟨q,hq,rfl⟩:=mem_map.mp ht;obtain ⟨j,hj⟩:=h q hq;show (yC (jR R) q.1).getD 0<R.length;rw [vP hj];have:=(List.getElem?_eq_some_iff.mp hj.1).1;unfold jR at this;rw [length_map] at this;exact this
def Z6 (S:kM):Prop:=S.1.length≤8∧S.2.1.length≤8∧S.2.2.length≤6
def NRel (n:Nat) (N:List (List (Int×Int))) (T:List (List (Nat×Int×Int))):Prop:=N.length=T.length∧∀(i:Nat) (t:List (Nat×Int×Int)),T[i]?=some t→∃m,m≤n∧N[i]?=some (qM m t)∧∀q∈t,q.1<m
theorem NRel.more {n n':Nat} {N:List (List (Int×Int))} {T:List (List (Nat×Int×Int))} (h:NRel n N T) (hn:n≤n'):NRel n' N T:=⟨h.1,fun i t ht=>by obtain ⟨m,h1,h2⟩:=h.2 i t ht;exact ⟨m,by omega,h2⟩⟩
theorem NRel.snoc {n:Nat} {N:List (List (Int×Int))} {T:List (List (Nat×Int×Int))} (h:NRel n N T) {t:List (Nat×Int×Int)} (ht:∀q∈t,q.1<n):NRel n (N++[qM n t]) (T++[t]):=by
 refine ⟨by rw [length_append,length_append,h.1];rfl,fun i u hu=>?_⟩
 by_cases hl:i<T.length
 ·rw [List.getElem?_append_left hl] at hu;rw [List.getElem?_append_left (by rw [h.1];exact hl)];exact h.2 i u hu
 ·rw [List.getElem?_append_right (by omega)] at hu;rw [List.getElem?_append_right (by rw [h.1];omega),h.1];cases hk:i - T.length with
  |zero=>rw [hk] at hu;cases hu;exact ⟨n,Nat.le_refl _,rfl,ht⟩
  |succ k=>rw [hk] at hu;cases hu
theorem K9 {α:Type} (xs ys:List α) {i:Nat} (v:α) (h:i<xs.length):(xs++ys).set i v=xs.set i v++ys:=set_append_left i v h
theorem wA (ys:List (Int×Int)):∀(ts:List (Nat×Int×Int)) (xs:List (Int×Int)),(∀t∈ts,t.1<xs.length)→ts.foldl (fun ps q=>ps.set q.1 (q.2.1,q.2.2)) (xs++ys)=ts.foldl (fun ps q=>ps.set q.1 (q.2.1,q.2.2)) xs++ys
 |[],_,_=>rfl
 |t::ts,xs,h=>by
  rw [foldl_cons,foldl_cons,K9 xs ys _ (h t mem_cons_self)];exact wA ys ts _ fun u hu=>by rw [length_set];exact h u (mem_cons_of_mem _ hu)
theorem IA {a n:Nat} {ts:List (Nat×Int×Int)} (ht:∀t∈ts,t.1<a) (hn:a≤n):Q0 n (qM a ts)=qM n ts:=by
 unfold Q0;rw [fD];unfold qM;rw [show n=a+(n - a) by omega,← replicate_append_replicate,wA _ ts _ (fun t hm=>by rw [length_replicate];exact ht t hm)];rw [show a+(n - a) - a=n - a by omega]
theorem NRel.wide {n:Nat} {N:List (List (Int×Int))} {T:List (List (Nat×Int×Int))} (h:NRel n N T):N.map (Q0 n)=T.map (qM n):=by
 refine ext_getElem? fun i=>?_
 rw [List.getElem?_map,List.getElem?_map];cases ht:T[i]? with
 |none=>rw [List.getElem?_eq_none (show N.length≤i by rw [h.1];exact List.getElem?_eq_none_iff.mp ht)];rfl
 |some t =>
  obtain ⟨m,h1,h2,h3⟩:=h.2 i t ht;rw [h2];exact congrArg some (IA h3 h1)
theorem NRel.len {n:Nat} {N:List (List (Int×Int))} {T:List (List (Nat×Int×Int))} (h:NRel n N T):∀p∈N,p.length≤n:=by
 intro p hp;obtain ⟨i,hi,e⟩:=List.getElem_of_mem hp;obtain ⟨m,h1,h2,h3⟩:=h.2 i _ (List.getElem?_eq_getElem (by rw [← h.1];exact hi));rw [List.getElem?_eq_getElem hi,e] at h2;rw [Option.some.inj h2,fD];exact h1
def RdX (cs:Kd→Addr) (cR:Addr) (H:Hp) (rl ll nl:Addr) (S:kM):Prop:=∃(rs ls ms:List V) (N:List (List (Int×Int))),H rl=some (.lst rs)∧H ll=some (.lst ls)∧H nl=some (.lst ms)∧AllAt (RcO cR H) rs S.1∧AllAt (LkO cs H) ls S.2.1∧AllAt (NAt [rl,ll,nl] H) ms N∧NRel S.1.length N S.2.2∧rl≠ll∧rl≠nl∧ll≠nl
theorem RdX.same {cs:Kd→Addr} {cR:Addr} {H H':Hp} {rl ll nl:Addr} {S:kM} (e:Same H H') (h:RdX cs cR H rl ll nl S):RdX cs cR H' rl ll nl S:=by
 obtain ⟨rs,ls,ms,N,h1,h2,h3,h4,h5,h6,h7⟩:=h;exact ⟨rs,ls,ms,N,e _ _ h1,e _ _ h2,e _ _ h3,h4.mono (RcO.same e),h5.mono (LkO.same e),h6.mono (NAt.same e),h7⟩
def lS (a b c:Addr) (H H':Hp):Prop:=∀d o,d≠a→d≠b→d≠c→H d=some o→H' d=some o
def xO (cs:Kd→Addr) (cR:Addr) (er:Nat→Addr):Sp:=fun vs H Q E=>∃(wl rl ll nl:Addr) (ws:List Str) (S:kM),vs=[.ref wl,.ref rl,.ref ll,.ref nl]∧H wl=some (.lst (ws.map V.str))∧ws≠[]∧Short ws∧RdX cs cR H rl ll nl S∧Z6 S∧(∀S',qO ws S=.ok S'→Z6 S'→∀H':Hp,lS rl ll nl H H'→RdX cs cR H' rl ll nl S'→Q .non H')∧∀k,qO ws S=.error k→∀H':Hp,Same H H'→E (.ref (er k)) none H'
theorem rW {R:List RC} {ws:List Str} {r:RC} (h:qX R ws=.ok r):R.length<8:=by
 unfold qX at h
 split at h;· cases h
 split at h;· cases h
 split at h;· cases h
 split at h;· cases h
 split at h
 ·cases h
 ·split at h;· cases h
  split at h;· cases h
  omega
theorem tG {R:List RC} {L:List LC} {ws:List Str} {l:LC} (h:qV R L ws=.ok l):L.length<8:=by
 unfold qV at h
 split at h;· cases h
 split at h;· cases h
 split at h;· cases h
 split at h;· cases h
 split at h
 ·cases h
 ·split at h
  ·cases h
  ·split at h;· cases h
   split at h;· cases h
   omega
theorem rZ {R:List RC} {n:Nat} {ws:List Str} {p:List (Nat×Int×Int)} (h:vU R n ws=.ok p):n<6∧∀q∈p,q.1<R.length:=by
 unfold vU at h
 split at h;· cases h
 unfold JC at h
 split at h;· cases h
 split at h;· cases h
 split at h;· cases h
 unfold zH at h
 split at h;· cases h
 split at h;· cases h
 split at h;· cases h
 rename_i hno hn;cases h;refine ⟨by omega,oW fun q hq=>?_⟩
 rcases JU (jR R) q.1 with h|h
 ·exact h
 ·exact absurd ⟨q,hq,h⟩ hno
theorem dL {ws:List Str} {S:kM} (h:ws.getD 0 ""="reach"):qO ws S=match qX S.1 ws with|.error k=>.error k|.ok r=>.ok (S.1++[r],S.2.1,S.2.2):=by unfold qO;exact if_pos h
theorem dO {ws:List Str} {S:kM} (h:ws.getD 0 ""="lock"):qO ws S=match qV S.1 S.2.1 ws with|.error k=>.error k|.ok l=>.ok (S.1,S.2.1++[l],S.2.2):=by unfold qO;rw [if_neg (by rw [h];exact gQ)];exact if_pos h
theorem dM {ws:List Str} {S:kM} (h:ws.getD 0 ""="night"):qO ws S=match vU S.1 S.2.2.length ws with|.error k=>.error k|.ok p=>.ok (S.1,S.2.1,S.2.2++[p]):=by unfold qO;rw [if_neg (by rw [h];exact gP),if_neg (by rw [h];exact gR)];exact if_pos h
theorem iM {ws:List Str} {S:kM} (h1:¬ws.getD 0 ""="reach") (h2:¬ws.getD 0 ""="lock") (h3:¬ws.getD 0 ""="night"):qO ws S=.error 0:=by unfold qO;rw [if_neg h1,if_neg h2];exact if_neg h3
noncomputable def qT (rows:List Str):Except Nat kM:=match kY rows ([],[],[]) with
 |.error k=>.error k
 |.ok S=>if S.1=[] then .error 0 else .ok S
def uK (cs:Kd→Addr) (cR cN:Addr) (er:Nat→Addr):Sp:=fun vs H Q E=>∃z:Str,vs=[.str z]∧z.length≤1000000∧(∀row∈Txt.split z feedS,row≠""→row.length≤1000000∧Short (Txt.split row blankS)∧Txt.split row blankS≠[])∧
 (∀S,qT (Txt.split z feedS)=.ok S→Z6 S→∀(x:Addr) (H':Hp),Same H H'→H x=none→CnAt cs cR cN [] H' x S.1 S.2.1 (S.2.2.map (qM S.1.length))→Q (.ref x) H')∧∀k,qT (Txt.split z feedS)=.error k→∀H':Hp,Same H H'→E (.ref (er k)) none H'
theorem dJ {row:Str} {rest:List Str} {S:kM} (e:row=""):kY (row::rest) S=kY rest S:=by rw [kY,if_pos e]
theorem JS {row:Str} {rest:List Str} {S S1:kM} (e:¬row="") (h:qO (Txt.split row blankS) S=.ok S1):kY (row::rest) S=kY rest S1:=by rw [kY,if_neg e,h]
theorem JQ {row:Str} {rest:List Str} {S:kM} {k:Nat} (e:¬row="") (h:qO (Txt.split row blankS) S=.error k):kY (row::rest) S=.error k:=by rw [kY,if_neg e,h]
theorem IF {ws:List Str} {i:Nat} {v:V} (h:(ws.map V.str)[i]?=some v):∃w,ws[i]?=some w∧v=.str w:=by
 rw [List.getElem?_map] at h;cases hw:ws[i]? with
 |none=>rw [hw] at h;cases h
 |some w=>rw [hw] at h;cases h;exact ⟨w,rfl,rfl⟩
theorem HW {H Hi H5:Hp} {D:Addr} {caps:St} {R:Nat→List V→Hp→Prop} {i:Nat} {ys:List V} {c:Option V} {v:V} (hD:H D=none) (s:Same H Hi) (hY:Hi D=some (.lst ys)) (hl:ys.length≤i) (hi:i≤1000000) (s5:Same Hi H5)
  (r:R (i+1) (ys++[v]) (upd H5 D (.lst (ys++[v])))):∃zs,H5 D=some (.lst zs)∧zs.length<sizeLine∧yZ H D caps R (i+1) (c::caps) (upd H5 D (.lst (zs++[v]))):=by
 refine ⟨ys,s5 _ _ hY,by rw [sizeLine_eq];omega,ys++[v],c,rfl,qL hD (s.trans s5),jD,?_,r⟩;rw [length_append,length_singleton];omega
def eH (z:Str):Bool := !decide (z="")
def gI (z:Str):List Str:=(Txt.split z feedS).filter eH
def uA:Sp:=fun vs H Q _=>∃z:Str,vs=[.str z]∧z.length≤1000000∧∀(l:Addr) (H':Hp),Same H H'→H l=none→H' l=some (.lst ((gI z).map V.str))→Q (.ref l) H'
theorem rL {zs:List Str} {i:Nat} {z:Str} (h:zs[i]?=some z) (f:Str→Bool):(zs.take (i+1)).filter f=(zs.take i).filter f++(if f z=true then [z] else []):=by
 rw [take_add_one,h,filter_append];show _++List.filter f [z]=_;rw [filter_cons];rfl
theorem mV:∀(rows:List Str) (S:kM),kY (rows.filter eH) S=kY rows S
 |[],_=>rfl
 |row::rest,S=>by
  by_cases e:row=""
  ·rw [filter_cons,if_neg (by rw [e];decide),dJ e];exact mV rest S
  ·rw [filter_cons,if_pos (by unfold eH;rw [decide_eq_false e];rfl)];cases h:qO (Txt.split row blankS) S with
   |error k=>rw [JQ e h,JQ e h]
   |ok S1=>rw [JS e h,JS e h];exact mV rest S1
theorem E5 (rows:List Str):qT (rows.filter eH)=qT rows:=by unfold qT;rw [mV]
theorem mZ {rows:List Str} {k:Nat} (h:kY rows ([],[],[])=.error k):qT rows=.error k:=by unfold qT;rw [h]
theorem rQ {rows:List Str} {S:kM} (h:kY rows ([],[],[])=.ok S) (e:S.1=[]):qT rows=.error 0:=by unfold qT;rw [h];exact if_pos e
theorem nL {rows:List Str} {S:kM} (h:kY rows ([],[],[])=.ok S) (e:¬S.1=[]):qT rows=.ok S:=by unfold qT;rw [h];exact if_neg e
structure Txt (K:W.Frag) (mg:Str→Option Value) (cP cB cU:Addr) (cR:Addr) (cN:Addr) (eC eB eT eU eN eM eS:Addr) (tkS:Tok) (dD:Tok) (dC:Tok) (dI:Tok) (dH:Tok) (dF:Tok) (dG:Tok) (dE:Tok):Prop where
 z_list:mg "list"=none
 z_enumerate:mg "enumerate"=none
 z_all:mg "all"=none
 z_len:mg "len"=none
 z_int:mg "int"=none
 z_zip:mg "zip"=none
 z_set:mg "set"=none
 z_isinstance:mg "isinstance"=none
 z_bool:mg "bool"=none
 z_range:mg "range"=none
 z_min:mg "min"=none
 z_max:mg "max"=none
 z_tuple:mg "tuple"=none
 z_str:mg "str"=none
 cl:∀kd,Cls K ((j6 cP cB cU) kd)
 n_name:∀kd,NoAttr K ((j6 cP cB cU) kd) "name"
 n_high:∀kd,NoAttr K ((j6 cP cB cU) kd) "high"
 n_low:∀kd,NoAttr K ((j6 cP cB cU) kd) "low"
 n_room:∀kd,NoAttr K ((j6 cP cB cU) kd) "room"
 n_side:NoAttr K cB "side"
 n_lift:NoAttr K cU "lift"
 c_PlainLock:mg "PlainLock"=some (.ref cP)
 c_BasinLock:mg "BasinLock"=some (.ref cB)
 c_PumpLock:mg "PumpLock"=some (.ref cU)
 clR:Cls K cR
 nR_name:NoAttr K cR "name"
 nR_least:NoAttr K cR "least"
 nR_crest:NoAttr K cR "crest"
 nR_berths:NoAttr K cR "berths"
 nR_water:NoAttr K cR "water"
 nR_target:NoAttr K cR "target"
 c_Reach:mg "Reach"=some (.ref cR)
 clN:Cls K cN
 nN_reaches:NoAttr K cN "reaches"
 nN_locks:NoAttr K cN "locks"
 nN_nights:NoAttr K cN "nights"
 c_Canal:mg "Canal"=some (.ref cN)
 c_CanalError:mg "CanalError"=some (.ref eC)
 c_BadRow:mg "BadRow"=some (.ref eB)
 c_Twice:mg "Twice"=some (.ref eT)
 c_Unknown:mg "Unknown"=some (.ref eU)
 c_BadNumber:mg "BadNumber"=some (.ref eN)
 c_TooMany:mg "TooMany"=some (.ref eM)
 c_Short:mg "Short"=some (.ref eS)
 x_BadRow:eV K eB
 x_Twice:eV K eT
 x_Unknown:eV K eU
 x_BadNumber:eV K eN
 x_TooMany:eV K eM
 at_BadRow:ExcAttr K eB
 cl_BadRow:(W.clsIn K eB).isSome=true
 exm_BadRow:W.exmOne K (.ref eB) (.ref eC)=some true
 k_BadRow_BadRow:W.kitOne K (.ref eB) (.ref eB)=some true
 k_BadRow_Twice:W.kitOne K (.ref eB) (.ref eT)=some false
 k_BadRow_Unknown:W.kitOne K (.ref eB) (.ref eU)=some false
 k_BadRow_BadNumber:W.kitOne K (.ref eB) (.ref eN)=some false
 k_BadRow_TooMany:W.kitOne K (.ref eB) (.ref eM)=some false
 k_BadRow_Short:W.kitOne K (.ref eB) (.ref eS)=some false
 at_Twice:ExcAttr K eT
 cl_Twice:(W.clsIn K eT).isSome=true
 exm_Twice:W.exmOne K (.ref eT) (.ref eC)=some true
 k_Twice_BadRow:W.kitOne K (.ref eT) (.ref eB)=some false
 k_Twice_Twice:W.kitOne K (.ref eT) (.ref eT)=some true
 k_Twice_Unknown:W.kitOne K (.ref eT) (.ref eU)=some false
 k_Twice_BadNumber:W.kitOne K (.ref eT) (.ref eN)=some false
 k_Twice_TooMany:W.kitOne K (.ref eT) (.ref eM)=some false
 k_Twice_Short:W.kitOne K (.ref eT) (.ref eS)=some false
 at_Unknown:ExcAttr K eU
 cl_Unknown:(W.clsIn K eU).isSome=true
 exm_Unknown:W.exmOne K (.ref eU) (.ref eC)=some true
 k_Unknown_BadRow:W.kitOne K (.ref eU) (.ref eB)=some false
 k_Unknown_Twice:W.kitOne K (.ref eU) (.ref eT)=some false
 k_Unknown_Unknown:W.kitOne K (.ref eU) (.ref eU)=some true
 k_Unknown_BadNumber:W.kitOne K (.ref eU) (.ref eN)=some false
 k_Unknown_TooMany:W.kitOne K (.ref eU) (.ref eM)=some false
 k_Unknown_Short:W.kitOne K (.ref eU) (.ref eS)=some false
 at_BadNumber:ExcAttr K eN
 cl_BadNumber:(W.clsIn K eN).isSome=true
 exm_BadNumber:W.exmOne K (.ref eN) (.ref eC)=some true
 k_BadNumber_BadRow:W.kitOne K (.ref eN) (.ref eB)=some false
 k_BadNumber_Twice:W.kitOne K (.ref eN) (.ref eT)=some false
 k_BadNumber_Unknown:W.kitOne K (.ref eN) (.ref eU)=some false
 k_BadNumber_BadNumber:W.kitOne K (.ref eN) (.ref eN)=some true
 k_BadNumber_TooMany:W.kitOne K (.ref eN) (.ref eM)=some false
 k_BadNumber_Short:W.kitOne K (.ref eN) (.ref eS)=some false
 at_TooMany:ExcAttr K eM
 cl_TooMany:(W.clsIn K eM).isSome=true
 exm_TooMany:W.exmOne K (.ref eM) (.ref eC)=some true
 k_TooMany_BadRow:W.kitOne K (.ref eM) (.ref eB)=some false
 k_TooMany_Twice:W.kitOne K (.ref eM) (.ref eT)=some false
 k_TooMany_Unknown:W.kitOne K (.ref eM) (.ref eU)=some false
 k_TooMany_BadNumber:W.kitOne K (.ref eM) (.ref eN)=some false
 k_TooMany_TooMany:W.kitOne K (.ref eM) (.ref eM)=some true
 k_TooMany_Short:W.kitOne K (.ref eM) (.ref eS)=some false
 tyR:∀(H:Hp) (a dx:Addr) (fs:List (Str×V)),H a=some (.ins cR dx fs)→TyOf K H (.ref a) (.ref cR)
 tyN:∀(H:Hp) (a dx:Addr) (fs:List (Str×V)),H a=some (.ins cN dx fs)→TyOf K H (.ref a) (.ref cN)
 tyL:∀(kd:Kd) (H:Hp) (a dx:Addr) (fs:List (Str×V)),H a=some (.ins ((j6 cP cB cU) kd) dx fs)→TyOf K H (.ref a) (.ref ((j6 cP cB cU) kd))
 ktR:W.kitOne K (.ref cR) (.ref cR)=some true
 ktN:W.kitOne K (.ref cN) (.ref cN)=some true
 ktLP:∀kd,W.kitOne K (.ref ((j6 cP cB cU) kd)) (.ref cP)=some true
 ktLB:∀kd,W.kitOne K (.ref ((j6 cP cB cU) kd)) (.ref cB)=some (BB kd)
 ktLU:∀kd,W.kitOne K (.ref ((j6 cP cB cU) kd)) (.ref cU)=some (BA kd)
 g_SEA:mg "SEA"=some (.int (-1) tkS)
 g_LETTERS:mg "LETTERS"=some (.str lettersS dD)
 g_FIGURES:mg "FIGURES"=some (.str y8 dC)
 g_MOST_SIGNS:mg "MOST_SIGNS"=some (.int 12 dI)
 g_MOST_REACHES:mg "MOST_REACHES"=some (.int 8 dH)
 g_MOST_LOCKS:mg "MOST_LOCKS"=some (.int 8 dF)
 g_MOST_NIGHTS:mg "MOST_NIGHTS"=some (.int 6 dG)
 g_MOST_BERTHS:mg "MOST_BERTHS"=some (.int 9 dE)
set_option maxHeartbeats 4000000
section
variable {P:Program} {w:World} {K:W.Frag} {mg:Str→Option Value} {base:Heap} {cP cB cU:Addr} {cR:Addr} {cN:Addr} {eC eB eT eU eN eM eS:Addr} {tkS:Tok} {dD:Tok} {dC:Tok} {dI:Tok} {dH:Tok} {dF:Tok} {dG:Tok} {dE:Tok}
variable (T:Txt K mg cP cB cU cR cN eC eB eT eU eN eM eS tkS dD dC dI dH dF dG dE)
theorem DK:FnScope ["self","name","high","low","room"] ["self","name","high","low","room"] (jI bB):=kG
include T in
theorem BT {f:Addr} {fd:FuncData} (F:Fun K "__init__" "PlainLock.__init__" bB f fd) : FnOk P w K mg base kB 1 f fd ["self","name","high","low","room"] (dZ (j6 cP cB cU)):=by
 refine F.ok2 DK fun vs H Q E h=>?_
 obtain ⟨kd,x,dx,n,h₁,l,r,rfl,hx,q⟩:=h;refine ⟨rfl,fun _ _ _ _ hr=>?_⟩;refine ⟨_,(jH (yY (pv 0) (pv 1) rfl)
   (jH (yY (pv 0) (pv 2) rfl)
   (jH (yY (pv 0) (pv 3) rfl)
   (jG (yY (pv 0) (pv 4) rfl))))),?_⟩
 refine ⟨_,rfl,_,rfl,x,_,dx,_,rfl,hx,T.cl kd,T.n_name kd,(by show 0<1000;decide),?_⟩;refine ⟨_,rfl,_,rfl,x,_,dx,_,rfl,jD,T.cl kd,T.n_high kd,(by show 1<1000;decide),?_⟩;refine ⟨_,rfl,_,rfl,x,_,dx,_,rfl,jD,T.cl kd,T.n_low kd,?_,?_⟩
 ·have:=JO "high" h₁ (j0 "name" n []);have h2:(j0 ("name":Str) n []).length=1:=rfl;omega
 refine ⟨_,rfl,_,rfl,x,_,dx,_,rfl,jD,T.cl kd,T.n_room kd,?_,?_⟩
 ·have:=JO "low" l (j0 "high" h₁ (j0 "name" n []));have h1:=JO "high" h₁ (j0 "name" n []);have h2:(j0 ("name":Str) n []).length=1:=rfl;omega
 exact q _ (((((Keep.refl x H).upd _).upd _).upd _).upd _) jD
theorem DG:FnScope ["self","name","high","low","room","side"] ["self","name","high","low","room","side"] (jI Z8):=kG
include T in
theorem BP {f:Addr} {fd:FuncData} (F:Fun K "__init__" "BasinLock.__init__" Z8 f fd) (CM_PlainLock___init__:CmD P w K mg base 1 "PlainLock" cP "__init__" ["self","name","high","low","room"] (dZ (j6 cP cB cU))):FnOk P w K mg base kB 2 f fd ["self","name","high","low","room","side"] (dY (j6 cP cB cU) .basin):=by
 refine F.ok2 DG fun vs H Q E h=>?_
 obtain ⟨x,dx,n,h₁,l,r,v,rfl,hx,q⟩:=h;refine ⟨rfl,fun _ _ _ _ hr=>?_⟩;refine ⟨_,(jH (qD (wY CM_PlainLock___init__ hr rfl (jA (pv 0) (jA (pv 1) (jA (pv 2) (jA (pv 3) (jA (pv 4) jC)))))))
   (jG (yY (pv 0) (pv 5) rfl))),?_⟩
 refine ⟨_,rfl,_,rfl,_,rfl,_,rfl,_,rfl,.basin,x,dx,n,h₁,l,r,rfl,hx,fun H' kp hx'=>?_⟩;refine ⟨_,rfl,_,rfl,x,_,dx,_,rfl,hx',T.cl .basin,T.n_side,sC _ _ _ _,?_⟩;exact q _ (kp.upd _) jD
theorem DN:FnScope ["self","name","high","low","room","lift"] ["self","name","high","low","room","lift"] (jI bE):=kG
include T in
theorem BW {f:Addr} {fd:FuncData} (F:Fun K "__init__" "PumpLock.__init__" bE f fd) (CM_PlainLock___init__:CmD P w K mg base 1 "PlainLock" cP "__init__" ["self","name","high","low","room"] (dZ (j6 cP cB cU))):FnOk P w K mg base kB 2 f fd ["self","name","high","low","room","lift"] (dY (j6 cP cB cU) .pump):=by
 refine F.ok2 DN fun vs H Q E h=>?_
 obtain ⟨x,dx,n,h₁,l,r,v,rfl,hx,q⟩:=h;refine ⟨rfl,fun _ _ _ _ hr=>?_⟩;refine ⟨_,(jH (qD (wY CM_PlainLock___init__ hr rfl (jA (pv 0) (jA (pv 1) (jA (pv 2) (jA (pv 3) (jA (pv 4) jC)))))))
   (jG (yY (pv 0) (pv 5) rfl))),?_⟩
 refine ⟨_,rfl,_,rfl,_,rfl,_,rfl,_,rfl,.pump,x,dx,n,h₁,l,r,rfl,hx,fun H' kp hx'=>?_⟩;refine ⟨_,rfl,_,rfl,x,_,dx,_,rfl,hx',T.cl .pump,T.n_lift,sC _ _ _ _,?_⟩;exact q _ (kp.upd _) jD
theorem DQ:FnScope ["self","name","least","crest","berths","water","target"] ["self","name","least","crest","berths","water","target"] (jI bH):=kG
include T in
theorem BZ {f:Addr} {fd:FuncData} (F:Fun K "__init__" "Reach.__init__" bH f fd) : FnOk P w K mg base kB 1 f fd ["self","name","least","crest","berths","water","target"] (mM cR):=by
 refine F.ok2 DQ fun vs H Q E h=>?_
 obtain ⟨x,dx,v_name,v_least,v_crest,v_berths,v_water,v_target,rfl,hx,q⟩:=h;refine ⟨rfl,fun _ _ _ _ hr=>?_⟩;refine ⟨_,(jH (yY (pv 0) (pv 1) rfl)
   (jH (yY (pv 0) (pv 2) rfl)
   (jH (yY (pv 0) (pv 3) rfl)
   (jH (yY (pv 0) (pv 4) rfl)
   (jH (yY (pv 0) (pv 5) rfl)
   (jG (yY (pv 0) (pv 6) rfl))))))),?_⟩
 have ln:∀(f:Str) (z:V) (fs:List (Str×V)) (m:Nat),fs.length≤m→(j0 f z fs).length≤m+1:=fun f z fs m h=>Nat.le_trans (JO f z fs) (by omega)
 have l0:([]:List (Str×V)).length≤0:=Nat.le_refl _;refine ⟨_,rfl,_,rfl,x,cR,dx,_,rfl,hx,T.clR,T.nR_name,by omega,?_⟩;have l1:=ln "name" v_name _ _ l0;refine ⟨_,rfl,_,rfl,x,cR,dx,_,rfl,jD,T.clR,T.nR_least,by omega,?_⟩;have l2:=ln "least" v_least _ _ l1;refine ⟨_,rfl,_,rfl,x,cR,dx,_,rfl,jD,T.clR,T.nR_crest,by omega,?_⟩;have l3:=ln "crest" v_crest _ _ l2;refine ⟨_,rfl,_,rfl,x,cR,dx,_,rfl,jD,T.clR,T.nR_berths,by omega,?_⟩;have l4:=ln "berths" v_berths _ _ l3;refine ⟨_,rfl,_,rfl,x,cR,dx,_,rfl,jD,T.clR,T.nR_water,by omega,?_⟩;have l5:=ln "water" v_water _ _ l4;refine ⟨_,rfl,_,rfl,x,cR,dx,_,rfl,jD,T.clR,T.nR_target,by omega,?_⟩;have l6:=ln "target" v_target _ _ l5;exact q _ _ (((((((Keep.refl x H).upd _).upd _).upd _).upd _).upd _).upd _) jD (FQ _ _ _ _ _ _)
theorem DM:FnScope ["self"] ["self"] (jI bD):=kG
include T in
theorem BV {f:Addr} {fd:FuncData} (F:Fun K "kind" "PlainLock.kind" bD f fd) : FnOk P w K mg base kB 1 f fd ["self"] (yB (j6 cP cB cU) (fun kd _=>V.str (match kd with|.plain=>"plain"|.basin=>"basin"|.pump=>"pump")) .plain):=by
 refine F.ok2 DM fun vs H Q E h=>?_
 obtain ⟨x,n,h₁,l,room,v,rfl,⟨dx,hx⟩,q⟩:=h;refine ⟨rfl,fun _ _ _ _ hr=>?_⟩;refine ⟨_,(jG (jS jJ)),?_⟩;exact q
theorem DI:FnScope ["self"] ["self"] (jI bA):=kG
include T in
theorem BR {f:Addr} {fd:FuncData} (F:Fun K "kind" "BasinLock.kind" bA f fd) : FnOk P w K mg base kB 1 f fd ["self"] (yB (j6 cP cB cU) (fun kd _=>V.str (match kd with|.plain=>"plain"|.basin=>"basin"|.pump=>"pump")) .basin):=by
 refine F.ok2 DI fun vs H Q E h=>?_
 obtain ⟨x,n,h₁,l,room,v,rfl,⟨dx,hx⟩,q⟩:=h;refine ⟨rfl,fun _ _ _ _ hr=>?_⟩;refine ⟨_,(jG (jS jJ)),?_⟩;exact q
theorem DP:FnScope ["self"] ["self"] (jI bG):=kG
include T in
theorem BY {f:Addr} {fd:FuncData} (F:Fun K "kind" "PumpLock.kind" bG f fd) : FnOk P w K mg base kB 1 f fd ["self"] (yB (j6 cP cB cU) (fun kd _=>V.str (match kd with|.plain=>"plain"|.basin=>"basin"|.pump=>"pump")) .pump):=by
 refine F.ok2 DP fun vs H Q E h=>?_
 obtain ⟨x,n,h₁,l,room,v,rfl,⟨dx,hx⟩,q⟩:=h;refine ⟨rfl,fun _ _ _ _ hr=>?_⟩;refine ⟨_,(jG (jS jJ)),?_⟩;exact q
theorem DL:FnScope ["self"] ["self"] (jI bC):=kG
include T in
theorem BU {f:Addr} {fd:FuncData} (F:Fun K "extra" "PlainLock.extra" bC f fd) : FnOk P w K mg base kB 1 f fd ["self"] (yB (j6 cP cB cU) (fun kd v=>V.int (match kd with|.plain=>0|.basin=>v|.pump=>v)) .plain):=by
 refine F.ok2 DL fun vs H Q E h=>?_
 obtain ⟨x,n,h₁,l,room,v,rfl,⟨dx,hx⟩,q⟩:=h;refine ⟨rfl,fun _ _ _ _ hr=>?_⟩;refine ⟨_,(jG (jS jB)),?_⟩;exact q
theorem DH:FnScope ["self"] ["self"] (jI Z9):=kG
include T in
theorem BQ {f:Addr} {fd:FuncData} (F:Fun K "extra" "BasinLock.extra" Z9 f fd) : FnOk P w K mg base kB 1 f fd ["self"] (yB (j6 cP cB cU) (fun kd v=>V.int (match kd with|.plain=>0|.basin=>v|.pump=>v)) .basin):=by
 refine F.ok2 DH fun vs H Q E h=>?_
 obtain ⟨x,n,h₁,l,room,v,rfl,⟨dx,hx⟩,q⟩:=h;refine ⟨rfl,fun _ _ _ _ hr=>?_⟩;refine ⟨_,(jG (jS (qN K (pv 0) rfl))),?_⟩;exact ⟨_,rfl,x,cB,dx,_,_,rfl,hx,T.cl .basin,T.n_side,wL _ _ _ _ _ _,q⟩
theorem DO:FnScope ["self"] ["self"] (jI bF):=kG
include T in
theorem BX {f:Addr} {fd:FuncData} (F:Fun K "extra" "PumpLock.extra" bF f fd) : FnOk P w K mg base kB 1 f fd ["self"] (yB (j6 cP cB cU) (fun kd v=>V.int (match kd with|.plain=>0|.basin=>v|.pump=>v)) .pump):=by
 refine F.ok2 DO fun vs H Q E h=>?_
 obtain ⟨x,n,h₁,l,room,v,rfl,⟨dx,hx⟩,q⟩:=h;refine ⟨rfl,fun _ _ _ _ hr=>?_⟩;refine ⟨_,(jG (jS (qN K (pv 0) rfl))),?_⟩;exact ⟨_,rfl,x,cU,dx,_,_,rfl,hx,T.cl .pump,T.n_lift,wL _ _ _ _ _ _,q⟩
theorem DJ:FnScope ["self","reaches","locks","nights"] ["self","reaches","locks","nights"] (jI Q9):=kG
include T in
theorem BS {f:Addr} {fd:FuncData} {ds:List Value} (F:FunD K "__init__" "Canal.__init__" Q9 f fd ds) : FnOk P w K mg base kB 1 f fd ["self","reaches","locks","nights"] (mO (j6 cP cB cU) cR cN):=by
 refine F.ok2 DJ fun vs H Q E h=>?_
 obtain ⟨x,dx,rl,ll,nv,rs,ls,R,L,N,rfl,hx,hrl,hll,hR,hL,hN,q⟩:=h;refine ⟨rfl,fun _ _ _ _ hr=>?_⟩;refine ⟨_,(jH (yY (pv 0) (vQ (fC K) (by rfl) T.z_list PyProof.Rows.boot_list (jA (pv 1) jC)) rfl)
   (jH (yY (pv 0) (vQ (fC K) (by rfl) T.z_list PyProof.Rows.boot_list (jA (pv 2) jC)) rfl)
   (jG (yY (pv 0) (nZ (jU MZ (pv 3) x6) (kC jC) (zD ["night"] (qZ 1 []) rfl (vO (jI Q9)) (cps 1 []) (vA (pv 3)) (fun _ _ _ _ _=>(kL (i:=0) (show List.Nodup (["night"]:List Str) from by decide +kernel) rfl (.inl rfl))) (fun _ _ _ _ _=>v8) (fun _ _ _ _ _=>(vQ (fC K) (by rfl) T.z_list PyProof.Rows.boot_list (jA (pv 0) jC))))) rfl)))),?_⟩
 have ln:∀(f:Str) (z:V) (fs:List (Str×V)) (m:Nat),fs.length≤m→(j0 f z fs).length≤m+1:=fun f z fs m h=>Nat.le_trans (JO f z fs) (by omega)
 have nrx:rl≠x:=eF hrl hx (fun z=>nomatch z);have nlx:ll≠x:=eF hll hx (fun z=>nomatch z);refine ⟨_,rfl,rl,_,rfl,.inl (so hrl),fun r2 hr20=>?_⟩;have s1:=jK hr20 (.lst rs);have nr2:r2≠x:=(jW hx hr20).symm;refine ⟨_,rfl,x,cN,dx,_,rfl,s1 _ _ hx,T.clN,T.nN_reaches,(by show 0<1000;decide),?_⟩;have k1:Keep x H (upd (upd H r2 (.lst rs)) x (.ins cN dx (j0 "reaches" (.ref r2) []))):=(Keep.of s1).upd _;have hr2:upd (upd H r2 (.lst rs)) x (.ins cN dx (j0 "reaches" (.ref r2) [])) r2=some (.lst rs):=by rw [j9 nr2];exact jD
 have hx1:upd (upd H r2 (.lst rs)) x (.ins cN dx (j0 "reaches" (.ref r2) [])) x=some (.ins cN dx (j0 "reaches" (.ref r2) [])):=jD;generalize upd (upd H r2 (.lst rs)) x (.ins cN dx (j0 "reaches" (.ref r2) []))=H1 at k1 hr2 hx1 ⊢;have l1:=ln "reaches" (.ref r2) [] 0 (Nat.le_refl _);refine ⟨_,rfl,ll,_,rfl,.inl (so (k1 _ _ nlx hll)),fun l2 hl20=>?_⟩;have s2:=jK hl20 (.lst ls);have nl2:l2≠x:=(jW hx1 hl20).symm;refine ⟨_,rfl,x,cN,dx,_,rfl,s2 _ _ hx1,T.clN,T.nN_locks,by omega,?_⟩;have l2':=ln "locks" (.ref l2) _ _ l1;have k2:Keep x H (upd (upd H1 l2 (.lst ls)) x (.ins cN dx (j0 "locks" (.ref l2) (j0 "reaches" (.ref r2) [])))):=(k1.trans (Keep.of s2)).upd _;have hr2b:upd (upd H1 l2 (.lst ls)) x (.ins cN dx (j0 "locks" (.ref l2) (j0 "reaches" (.ref r2) []))) r2=some (.lst rs):=by rw [j9 nr2];exact s2 _ _ hr2
 have hl2:upd (upd H1 l2 (.lst ls)) x (.ins cN dx (j0 "locks" (.ref l2) (j0 "reaches" (.ref r2) []))) l2=some (.lst ls):=by rw [j9 nl2];exact jD
 have hx2:upd (upd H1 l2 (.lst ls)) x (.ins cN dx (j0 "locks" (.ref l2) (j0 "reaches" (.ref r2) []))) x=some (.ins cN dx (j0 "locks" (.ref l2) (j0 "reaches" (.ref r2) []))):=jD;generalize upd (upd H1 l2 (.lst ls)) x (.ins cN dx (j0 "locks" (.ref l2) (j0 "reaches" (.ref r2) [])))=H2 at k2 hr2b hl2 hx2 ⊢;have frR:∀D:List Addr,(∀d∈D,H d≠none)→r2∉D:=fun D hD z=>hD _ z hr20
 have frL:∀D:List Addr,(∀d∈D,H d≠none)→l2∉D:=fun D hD z=>by
  by_cases e:l2=x
  ·exact nl2 e
  ·cases hh:H l2 with
   |none=>exact hD _ z hh
   |some o=>rw [k1 _ _ e hh] at hl20;cases hl20
 have done:∀(n2:Addr) (ns:List V) (H3:Hp),Keep x H2 H3→H2 n2=none→H3 x=some (.ins cN dx (j0 "locks" (.ref l2) (j0 "reaches" (.ref r2) [])))→H3 n2=some (.lst ns)→(∀D:List Addr,(∀d∈D,H2 d≠none)→AllAt (NAt D H3) ns N)→Q .non (upd H3 x (.ins cN dx (j0 "nights" (.ref n2) (j0 "locks" (.ref l2) (j0 "reaches" (.ref r2) []))))):=by
  intro n2 ns H3 k3 hn20 hx3 hn2 hNs;have kf:Keep x H (upd H3 x (.ins cN dx (j0 "nights" (.ref n2) (j0 "locks" (.ref l2) (j0 "reaches" (.ref r2) []))))):=(k2.trans k3).upd _;have kl:Keep x H3 (upd H3 x (.ins cN dx (j0 "nights" (.ref n2) (j0 "locks" (.ref l2) (j0 "reaches" (.ref r2) []))))):=(Keep.refl x H3).upd _;have nn2:n2≠x:=fun z=>by rw [z,hx2] at hn20;cases hn20
  have old:∀d,H d≠none→H2 d≠none:=fun d hd=>by
   by_cases e:d=x
   ·rw [e,hx2];exact fun z=>nomatch z
   ·cases hh:H d with
    |none=>exact absurd hh hd
    |some o=>rw [k2 _ _ e hh];exact fun z=>nomatch z
  refine q _ kf fun D hD=>⟨dx,r2,l2,n2,_,rs,ls,ns,jD,FR _ _ _,?_,?_,?_,hR.mono (RcO.keepI kf hx),hL.mono (LkO.keepI kf hx),?_,frR D hD,frL D hD,fun z=>old _ (hD _ z) hn20⟩
  ·rw [j9 nr2];exact k3 _ _ nr2 hr2b
  ·rw [j9 nl2];exact k3 _ _ nl2 hl2
  ·rw [j9 nn2];exact hn2
  ·refine (hNs D (fun d hd=>old d (hD d hd))).mono ?_;rintro v p ⟨l,qs,e1,e2,e3,e4⟩;exact ⟨l,qs,e1,kl _ _ (fun z=>by rw [z,hx3] at e2;cases e2) e2,e3.mono (QAt.keep kl hx3 (fun _ z=>nomatch z)),e4⟩
 refine ⟨_,rfl,rfl,_,rfl,?_⟩
 rcases hN with ⟨rfl,rfl⟩|⟨nl,ns,rfl,hnl,hN,hnl100⟩
 ·refine jZ rfl ⟨zz0,fun n2 hn20=>?_⟩;have s3:=jK hn20 (.lst []);refine ⟨_,rfl,x,cN,dx,_,rfl,s3 _ _ hx2,T.clN,T.nN_nights,by omega,?_⟩;exact done n2 [] _ (Keep.of s3) hn20 (s3 _ _ hx2) jD (fun D _=>AllAt.nil)
 ·have nnx:nl≠x:=eF hnl hx (fun z=>nomatch z);have hnl2:=k2 _ _ nnx hnl;have hN2:AllAt (NAt [] H2) ns N:=hN.mono fun v p=>by
   rintro ⟨l,qs,e1,e2,e3,e4⟩;exact ⟨l,qs,e1,k2 _ _ (eF e2 hx (fun z=>nomatch z)) e2,e3.mono (QAt.keep k2 hx (fun _ z=>nomatch z)),e4⟩
  refine jT (fun z=>nomatch z) ⟨_,rfl,nl,rfl,⟨_,so hnl2⟩,fun n2 hn20=>?_⟩;refine v0 (K:=K) (a:=nl) (xs:=ns) (caps:=[]) (fun i ys Hi=>(∀D:List Addr,n2∈D→(∀d∈D,d≠n2→H2 d≠none)→AllAt (NAt D Hi) ys (N.take i))) hn20 (so hnl2) (fun D _ _=>AllAt.nil) ?_ ?_
  ·rintro i v ys Hi hv hi hle sm hY hI;obtain ⟨p,hp,l,qs,rfl,hl,hq,_⟩:=hN2.2 i v hv;refine yD (kR ?_);refine ⟨_,rfl,l,qs,rfl,.inl (so (sm _ _ hl)),fun c hc0=>?_⟩;have u:=jK hc0 (.lst qs);refine vK hn20 sm hY hle (by omega) u ?_;intro D hnD hD;rw [take_add_one,hp];refine (((hI D hnD hD).mono (NAt.same u)).snoc (v:=.ref c) (x:=p) ⟨c,qs,rfl,jD,(hq.mono (QAt.same sm)).mono (QAt.same u),fun z=>?_⟩).mono (NAt.put (u _ _ hY) hnD)
   by_cases e:c=n2
   ·rw [e,hY] at hc0;cases hc0
   ·cases hh:H2 c with
    |none=>exact hD _ z e hh
    |some o=>rw [sm _ _ hh] at hc0;cases hc0
  rintro ys H3 s3 hY hle hI;rw [hN2.1,take_length] at hI;refine ⟨_,rfl,x,cN,dx,_,rfl,s3 _ _ hx2,T.clN,T.nN_nights,by omega,?_⟩;exact done n2 ys H3 (Keep.of s3) hn20 (s3 _ _ hx2) hY (fun D hD=>(hI (n2::D) mem_cons_self (fun d hd ne=>(mem_cons.mp hd).elim (fun z=>absurd z ne) (hD d))).mono (NAt.less (fun d hd=>mem_cons_of_mem _ hd)))
theorem mH:FnScope ["name","things","place","thing"] ["name","things"] (jI cO):=kG
include T in
theorem C5 {f:Addr} {fd:FuncData} (F:Fun K "place_called" "place_called" cO f fd) : FnOk P w K mg base (j4 P w) 1 f fd ["name","things"] (lB K eU):=by
 refine F.okX2 mH fun vs H Q E h=>?_
 obtain ⟨nm,l,us,zs,rfl,hl,hA,h100,qv,qe⟩:=h;refine ⟨rfl,fun _ _ _ _ hr=>?_⟩;refine ⟨_,(jH (vM o3 rfl (LH (by rfl) T.z_enumerate (jA (pv 1) jC)) (gB rfl (zZ (kL (i:=2) mH.nd rfl (.inl rfl)) (zZ (kL (i:=3) mH.nd rfl (.inl rfl)) fS)))
    (jG (jV (jU kF (qN K (pv 3) rfl) (pv 0)) (jG (jS (pv 2))) kA)))
   (jG (yP yN rfl rfl T.c_Unknown T.x_Unknown (jA jJ jC)))),?_⟩
 refine ⟨_,rfl,l,rfl,⟨_,so hl⟩,KQ (K:=K) (a:=l) (xs:=us) (fun i σ Hi=>∃c2 c3:Option V,σ=[some (.str nm),some (.ref l),c2,c3]∧(∀j:Nat,j<i→zs[j]?≠some nm)∧Same H Hi) ⟨none,none,rfl,fun j hj=>absurd hj (Nat.not_lt_zero j),Same.refl _⟩ (fun i σ Hi _ ⟨_,_,_,_,s⟩=>so (s _ _ hl)) ?_ ?_⟩
 ·rintro i v σ Hi T₁ hv ⟨c2,c3,rfl,hno,sm⟩ hT;obtain ⟨z,hz,x,C,dx,fs,rfl,hx,cC,nC,lk⟩:=hA.2 i v hv;have u:=jK hT (.tup [V.int (i:Int),V.ref x]);have smu:=sm.trans u;refine ⟨T₁,_,rfl,SqT.of jD,rfl,_,_,rfl,_,_,rfl,rfl,?_⟩;refine ⟨_,rfl,x,C,dx,_,_,rfl,smu _ _ hx,cC,nC,lk,_,rfl,rfl,_,rfl,?_⟩
  by_cases h:z=nm
  ·exact jZ (congrArg V.str h) ⟨_,rfl,qv i ⟨by rw [← h];exact hz,hno⟩ _ smu⟩
  ·refine jT (fun e=>h (V.str.inj e)) ⟨_,_,rfl,fun j hj=>?_,smu⟩
   by_cases c:j=i
   ·rw [c,hz];exact fun e=>h (Option.some.inj e)
   ·exact hno j (by omega)
 rintro σ Hi ⟨c2,c3,rfl,hno,sm⟩;refine ⟨by show 1≤sizeLine;decide,qe (fun i hi=>?_) _ sm⟩;have hl':i<zs.length:=(List.getElem?_eq_some_iff.mp hi).1;exact hno i (by rw [hA.1];exact hl') hi
theorem D9:FnScope ["word","signs"] ["word","signs"] (jI ZL):=kG
include T in
theorem DF {f:Addr} {fd:FuncData} (F:Fun K "written_with" "written_with" ZL f fd) : FnOk P w K mg base kB 1 f fd ["word","signs"] (oY):=by
 refine F.ok2 D9 fun vs H Q E h=>?_
 obtain ⟨w,S,rfl,hw,q⟩:=h;refine ⟨rfl,fun _ _ _ _ hr=>?_⟩;refine ⟨_,(jG (jS (zM (n3 eD eD jB (j5 iB (by rfl) T.z_len PySem.boot_len (jA (pv 0) jC)) (vX (v:=.int 12) rfl T.g_MOST_SIGNS ⟨_,rfl⟩)) (yH (j5 (tR rfl) (by rfl) T.z_all PyProof.Rows.boot_all (jA (zD ["sign","signs"] (qZ 1 [1]) rfl (vO (jI ZL)) (cps 1 [1]) (lM (pv 0)) (fun _ _ _ _ _=>(kL (i:=0) (show List.Nodup (["sign","signs"]:List Str) from by decide +kernel) rfl (.inl rfl))) (fun _ _ _ _ _=>v8) (fun _ _ _ _ _=>(qP GM (pv 0) (pv 1)))) jC)))))),?_⟩;have hws:w.length≤sizeLine:=small (by omega);refine ⟨_,rfl,w,rfl,hws,_,_,rfl,rfl,_,rfl,?_⟩;have bad:∀H':Hp,Same H H'→jO S w=false→Q (.bl false) H':=fun H' s e=>by
  have:=q H' s;rw [e] at this;exact this
 by_cases h1:(1:Int)≤((w.length:Nat):Int)
 ·refine jZ h1 ⟨_,_,rfl,rfl,_,rfl,?_⟩
  by_cases h2:((w.length:Nat):Int)≤12
  ·refine jZ h2 ⟨_,rfl,w,rfl,fun D hD=>?_⟩;refine HV (z:=w) (caps:=[some (.str S)]) (fun i ys Hi=>∃bs:List Bool,ys=bs.map V.bl∧bs.length=i∧bs.all id=zR S w i) hD ⟨[],rfl,rfl,rfl⟩ ?_ ?_
   ·rintro i c ys Hi hc hle sm hY ⟨bs,rfl,hbl,hba⟩;have hi:i<w.length:=(Array.getElem?_eq_some_iff.mp hc).1;refine yD (kR ⟨_,rfl,_,rfl,_,_,rfl,rfl,?_⟩);refine vK hD sm hY hle (by omega) (Same.refl _) ⟨bs++[JG S c],by rw [map_append];rfl,by rw [length_append,hbl];rfl,?_⟩;rw [nK hc,all_append,hba];simp
   ·rintro ys Hf sm hY hle ⟨bs,rfl,hbl,hba⟩;refine ⟨D,bs,rfl,so hY,?_⟩;have e:bs.all id=jO S w:=by
     unfold jO;rw [hba,decide_eq_true (show 0<w.length by omega),decide_eq_true (show w.length<13 by omega)];rfl
    rw [e];exact q Hf sm
  ·refine jT h2 (bad H (Same.refl _) ?_);unfold jO;rw [decide_eq_false (show ¬w.length<13 by omega),Bool.and_false];rfl
 ·refine jT h1 ⟨_,rfl,kS (bad H (Same.refl _) ?_)⟩;unfold jO;rw [decide_eq_false (show ¬0<w.length by omega)];rfl
theorem DW:FnScope ["word"] ["word"] (jI cI):=kG
include T in
theorem CV {f:Addr} {fd:FuncData} (F:Fun K "is_name" "is_name" cI f fd) (D_written_with:Def P w K mg base 1 "written_with" ["word","signs"] [] (oY)):FnOk P w K mg base kB 2 f fd ["word"] (uH):=by
 refine F.ok2 DW fun vs H Q E h=>?_
 obtain ⟨w,rfl,hw,q⟩:=h;refine ⟨rfl,fun _ _ _ _ hr=>?_⟩;refine ⟨_,(jG (jS (kO D_written_with hr rfl (jA (pv 0) (jA (vX (v:=.str lettersS) rfl T.g_LETTERS ⟨_,rfl⟩) jC))))),?_⟩;exact ⟨_,rfl,w,lettersS,rfl,hw,q⟩
theorem DX:FnScope ["word"] ["word"] (jI cJ):=kG
include T in
theorem CW {f:Addr} {fd:FuncData} (F:Fun K "is_number" "is_number" cJ f fd) (D_written_with:Def P w K mg base 1 "written_with" ["word","signs"] [] (oY)):FnOk P w K mg base kB 2 f fd ["word"] (wT):=by
 refine F.ok2 DX fun vs H Q E h=>?_
 obtain ⟨w,rfl,hw,q⟩:=h;refine ⟨rfl,fun _ _ _ _ hr=>?_⟩;refine ⟨_,(jG (jS (Q2 (qP kF (pv 0) jJ) (yH (zM (kO D_written_with hr rfl (jA (pv 0) (jA (vX (v:=.str y8) rfl T.g_FIGURES ⟨_,rfl⟩) jC))) (yH (qP vI (jF ZX (pv 0) jB) jJ))))))),?_⟩;refine ⟨_,rfl,rfl,_,rfl,?_⟩;unfold jP at q
 by_cases h0:w="0"
 ·rw [decide_eq_true h0] at q;exact jZ (congrArg V.str h0) (q H (Same.refl _))
 rw [decide_eq_false h0,Bool.false_or] at q;refine jT (fun z=>h0 (V.str.inj z)) ⟨_,rfl,w,y8,rfl,hw,fun H1 s1=>⟨_,rfl,?_⟩⟩
 by_cases hg:jO y8 w=true
 ·obtain ⟨h1,h2,h3⟩:=rJ hg;rw [hg] at q ⊢;rw [Bool.true_and] at q;obtain ⟨c,hc,hc2⟩:=oF (z:=w) (i:=0) (Int.le_refl _) (by omega);refine kR ⟨_,rfl,w,_,c,rfl,rfl,small (by omega),hc,rfl,?_⟩;rw [wC];have q:=q H1 s1;rw [show w.cps[0]?=some c from hc2,show decide (some c=some 48)=decide (c=48) from decide_eq_decide.mpr ⟨fun e=>Option.some.inj e,fun e=>by rw [e]⟩] at q;exact q
 ·rw [Bool.eq_false_iff.mpr hg] at q ⊢;exact kS (q H1 s1)
theorem DZ:FnScope ["word"] ["word"] (jI cM):=kG
include T in
theorem C3 {f:Addr} {fd:FuncData} (F:Fun K "number_of" "number_of" cM f fd) (D_is_number:Def P w K mg base 2 "is_number" ["word"] [] (wT)):FnOk P w K mg base (j4 P w) 3 f fd ["word"] (xR eB):=by
 refine F.okX2 DZ fun vs H Q E h=>?_
 obtain ⟨w,rfl,hw,qv,qe⟩:=h;refine ⟨rfl,fun _ _ _ _ hr=>?_⟩;refine ⟨_,(jH (jV (vH (vL (kO D_is_number hr rfl (jA (pv 0) jC)))) (jG (yP yN rfl rfl T.c_BadRow T.x_BadRow (jA jJ jC))) kA)
   (jG (jS (vQ JR (by rfl) T.z_int PyProof.Rows.boot_int (jA (pv 0) jC))))),?_⟩
 refine ⟨_,rfl,w,rfl,hw,fun H1 s1=>⟨_,rfl,?_⟩⟩
 by_cases h:jP w=true
 ·rw [h];exact kS ⟨_,rfl,w,_,rfl,by omega,sZ hw h,qv h H1 s1⟩
 ·rw [Bool.eq_false_iff.mpr h];exact kR ⟨by show 1≤sizeLine;decide,qe (Bool.eq_false_iff.mpr h) H1 s1⟩
theorem D0:FnScope ["words"] ["words"] (jI ZH):=kG
include T in
theorem C4 {f:Addr} {fd:FuncData} (F:Fun K "numbers_of" "numbers_of" ZH f fd) (DX_number_of:DefX P w K mg base 3 "number_of" ["word"] [] (xR eB)):FnOk P w K mg base (j4 P w) 4 f fd ["words"] (lC eB):=by
 refine F.okX2 D0 fun vs H Q E h=>?_
 obtain ⟨l,ws,rfl,hl,⟨h100,hsh⟩,qv,qe⟩:=h;refine ⟨rfl,fun _ _ _ _ hr=>?_⟩;refine ⟨_,(jG (jS (IT ["word"] (qZ 1 []) (vO (jI ZH)) (cps 1 []) (vA (pv 0)) (fun _ _ _ _ _=>(kL (i:=0) (show List.Nodup (["word"]:List Str) from by decide +kernel) rfl (.inl rfl))) (fun _ _ _ _ _=>v8) (fun _ _ _ _ _=>(vG DX_number_of sG hr rfl (jA (pv 0) jC)))))),?_⟩;refine ⟨_,rfl,l,rfl,⟨_,so hl⟩,fun D hD=>?_⟩;refine v0 (K:=K) (a:=l) (xs:=ws.map V.str) (caps:=[]) (fun i ys Hi=>ys=((ws.take i).map jX).map V.int∧(ws.take i).all jP=true) hD (so hl) ⟨rfl,rfl⟩ ?_ ?_
 ·rintro i v ys Hi hv hi hle sm hY ⟨rfl,hall⟩;obtain ⟨w,hw,rfl⟩:=J9 hv;have hi1:i<100:=by rw [length_map] at hi;omega
  have hm:=mem_of_getElem? hw;refine yD (kR ⟨_,rfl,w,rfl,hsh w hm,fun hn H1 s1=>?_,fun hn H1 s1=>?_⟩)
  ·refine vK hD sm hY hle (by omega) s1 ⟨?_,?_⟩
   ·rw [take_add_one,hw,map_append,map_append];rfl
   ·rw [take_add_one,hw,all_append,hall];show (true&&([w].all jP))=true;rw [all_cons,hn];rfl
  ·refine qe ?_ _ (sm.trans s1);rw [Bool.eq_false_iff];intro e;rw [all_eq_true.mp e w hm] at hn;cases hn
 rintro ys Hf sm hY hle ⟨rfl,hall⟩;rw [length_map,take_length] at hY hall;exact qv hall D Hf sm hD hY
theorem D5:FnScope ["words"] ["words"] (jI ZI):=kG
include T in
theorem DB {f:Addr} {fd:FuncData} (F:Fun K "refuse_no_names" "refuse_no_names" ZI f fd) (D_is_name:Def P w K mg base 2 "is_name" ["word"] [] (uH)):FnOk P w K mg base (j4 P w) 3 f fd ["words"] (iT eB):=by
 refine F.okX2 D5 fun vs H Q E h=>?_
 obtain ⟨l,ws,rfl,hl,⟨h100,hsh⟩,qv,qe⟩:=h;refine ⟨rfl,fun _ _ _ _ hr=>?_⟩;refine ⟨_,(jG (jV (vH (vL (j5 (tR rfl) (by rfl) T.z_all PyProof.Rows.boot_all (jA (zD ["word"] (qZ 1 []) rfl (vO (jI ZI)) (cps 1 []) (vA (pv 0)) (fun _ _ _ _ _=>(kL (i:=0) (show List.Nodup (["word"]:List Str) from by decide +kernel) rfl (.inl rfl))) (fun _ _ _ _ _=>v8) (fun _ _ _ _ _=>(kO D_is_name hr rfl (jA (pv 0) jC)))) jC)))) (jG (yP yN rfl rfl T.c_BadRow T.x_BadRow (jA jJ jC))) kA)),?_⟩;refine ⟨_,rfl,l,rfl,⟨_,so hl⟩,fun D hD=>?_⟩;refine v0 (K:=K) (a:=l) (xs:=ws.map V.str) (caps:=[]) (fun i ys Hi=>ys=((ws.take i).map (jO lettersS)).map V.bl) hD (so hl) rfl ?_ ?_
 ·rintro i v ys Hi hv hi hle sm hY rfl;obtain ⟨w,hw,rfl⟩:=J9 hv;have hi1:i<100:=by rw [length_map] at hi;omega
  refine yD (kR ⟨_,rfl,w,rfl,hsh w (mem_of_getElem? hw),fun H1 s1=>?_⟩);refine vK hD sm hY hle (by omega) s1 ?_;rw [take_add_one,hw,map_append,map_append];rfl
 rintro ys Hf sm hY hle rfl;rw [length_map,take_length] at hY;refine ⟨D,_,rfl,so hY,_,rfl,?_⟩;rw [show (ws.map (jO lettersS)).all id=ws.all (jO lettersS) by rw [all_map];rfl];cases h:ws.all (jO lettersS) with
 |true=>exact kS (qv h Hf sm)
 |false=>exact kR ⟨by show 1≤sizeLine;decide,qe h Hf sm⟩
theorem D6:FnScope ["name","things"] ["name","things"] (jI ZJ):=kG
include T in
theorem DC {f:Addr} {fd:FuncData} (F:Fun K "refuse_told" "refuse_told" ZJ f fd) : FnOk P w K mg base (j4 P w) 1 f fd ["name","things"] (oJ K eT):=by
 refine F.okX2 D6 fun vs H Q E h=>?_
 obtain ⟨nm,l,us,zs,rfl,hl,hA,h100,qv,qe⟩:=h;refine ⟨rfl,fun _ _ _ _ hr=>?_⟩;refine ⟨_,(jG (jV (jU (iF K) (pv 0) (zD ["thing"] (qZ 1 []) rfl (vO (jI ZJ)) (cps 1 []) (vA (pv 1)) (fun _ _ _ _ _=>(kL (i:=0) (show List.Nodup (["thing"]:List Str) from by decide +kernel) rfl (.inl rfl))) (fun _ _ _ _ _=>v8) (fun _ _ _ _ _=>(qN K (pv 0) rfl)))) (jG (yP yN rfl rfl T.c_Twice T.x_Twice (jA jJ jC))) kA)),?_⟩;refine ⟨_,rfl,_,rfl,l,rfl,⟨_,so hl⟩,fun D hD=>?_⟩;refine v0 (K:=K) (a:=l) (xs:=us) (caps:=[]) (fun i ys Hi=>ys=(zs.take i).map V.str) hD (so hl) rfl ?_ ?_
 ·rintro i v ys Hi hv hi hle sm hY rfl;obtain ⟨z,hz,x,C,dx,fs,rfl,hx,cC,nC,lk⟩:=hA.2 i v hv;refine yD (kR ⟨_,rfl,x,C,dx,_,_,rfl,sm _ _ hx,cC,nC,lk,?_⟩);refine vK hD sm hY hle (by omega) (Same.refl _) ?_;rw [take_add_one,hz,map_append];rfl
 rintro ys Hf sm hY hle rfl;rw [hA.1,take_length] at hY;refine ⟨D,_,rfl,.inl (so hY),rfl,zJ zs,_,rfl,?_⟩;show if vY (V.str nm) (zs.map V.str)=true then _ else _
 cases h:vY (V.str nm) (zs.map V.str) with
 |true=>exact kR ⟨by show 1≤sizeLine;decide,qe (in_iff.mp h) Hf sm⟩
 |false=>exact kS (qv (fun i hi=>by rw [in_iff.mpr fun y=>y i hi] at h;cases h) Hf sm)
theorem D3:FnScope ["reach"] ["reach"] (jI cV):=kG
include T in
theorem C9 {f:Addr} {fd:FuncData} (F:Fun K "refuse_bad_reach" "refuse_bad_reach" cV f fd) : FnOk P w K mg base (j4 P w) 1 f fd ["reach"] (rE cR eN):=by
 refine F.okX2 D3 fun vs H Q E h=>?_
 obtain ⟨y,r,rfl,⟨dy,gs,hy,hg⟩,qv,qe⟩:=h;refine ⟨rfl,fun _ _ _ _ hr=>?_⟩;refine ⟨_,(jH (jV (jU eE (qN K (pv 0) rfl) (qN K (pv 0) rfl)) (jG (yP yN rfl rfl T.c_BadNumber T.x_BadNumber (jA jJ jC))) kA)
   (jG (jV (vH (uN eD eD jB (qN K (pv 0) rfl) (vX (v:=.int 9) rfl T.g_MOST_BERTHS ⟨_,rfl⟩))) (jG (yP yN rfl rfl T.c_BadNumber T.x_BadNumber (jA jJ jC))) kA))),?_⟩
 refine ⟨_,rfl,y,cR,dy,_,_,rfl,hy,T.clR,T.nR_least,hg.2.1,_,rfl,y,cR,dy,_,_,rfl,hy,T.clR,T.nR_crest,hg.2.2.1,_,_,rfl,rfl,_,rfl,?_⟩
 by_cases h1:r.crest<r.least
 ·exact jZ h1 ⟨by show 1≤sizeLine;decide,qe (.inl h1)⟩
 refine jT h1 ⟨_,rfl,y,cR,dy,_,_,rfl,hy,T.clR,T.nR_berths,hg.2.2.2.1,_,_,rfl,rfl,_,rfl,?_⟩
 by_cases h2:1≤r.berths
 ·refine jZ h2 ⟨_,_,rfl,rfl,_,rfl,?_⟩
  by_cases h3:r.berths≤9
  ·exact vJ h3 (qv (by rintro (h|h|h)<;>omega))
  ·exact y0 h3 ⟨by show 1≤sizeLine;decide,qe (.inr (.inr (by omega)))⟩
 ·exact jT h2 ⟨_,rfl,kR ⟨by show 1≤sizeLine;decide,qe (.inr (.inl (by omega)))⟩⟩
theorem D2:FnScope ["lock"] ["lock"] (jI cT):=kG
include T in
theorem C8 {f:Addr} {fd:FuncData} (F:Fun K "refuse_bad_lock" "refuse_bad_lock" cT f fd) (MP_extra:MeK P w K mg base 1 (j6 cP cB cU) "extra" ["self"] (yB (j6 cP cB cU) (fun kd v=>V.int (match kd with|.plain=>0|.basin=>v|.pump=>v)))) (MP_kind:MeK P w K mg base 1 (j6 cP cB cU) "kind" ["self"] (yB (j6 cP cB cU) (fun kd _=>V.str (match kd with|.plain=>"plain"|.basin=>"basin"|.pump=>"pump")))):FnOk P w K mg base (j4 P w) 2 f fd ["lock"] (rS (j6 cP cB cU) eN):=by
 refine F.okX2 D2 fun vs H Q E h=>?_
 obtain ⟨y,l,rfl,⟨dl,hl⟩,qv,qe⟩:=h;refine ⟨rfl,fun _ _ _ _ hr=>?_⟩;refine ⟨_,(jH (jV (jU gK (qN K (pv 0) rfl) (qN K (pv 0) rfl)) (jG (yP yN rfl rfl T.c_BadNumber T.x_BadNumber (jA jJ jC))) kA)
   (jH (jV (jU kF (qN K (pv 0) rfl) jB) (jG (yP yN rfl rfl T.c_BadNumber T.x_BadNumber (jA jJ jC))) kA)
   (jG (jV (PW.pt (QU (jU vI (gC MP_kind hr (pv 0)) jJ) (ZT (vH (uN eD eD jB (gC MP_extra hr (pv 0)) (qN K (pv 0) rfl)))))) (jG (yP yN rfl rfl T.c_BadNumber T.x_BadNumber (jA jJ jC))) kA)))),?_⟩
 refine ⟨_,rfl,y,_,dl,_,_,rfl,hl,T.cl l.kd,T.n_low l.kd,x9 l.kd _ _ _ _ _,_,rfl,y,_,dl,_,_,rfl,hl,T.cl l.kd,T.n_high l.kd,xF l.kd _ _ _ _ _,_,_,rfl,rfl,_,rfl,?_⟩
 by_cases h1:l.high≤l.low
 ·exact jZ h1 ⟨by show 1≤sizeLine;decide,qe (.inl h1)⟩
 refine jT h1 ⟨_,rfl,y,_,dl,_,_,rfl,hl,T.cl l.kd,T.n_room l.kd,lH l.kd _ _ _ _ _,rfl,_,rfl,?_⟩
 by_cases h2:l.room=0
 ·exact jZ (congrArg V.int h2) ⟨by show 1≤sizeLine;decide,qe (.inr (.inl h2))⟩
 refine jT (fun z=>h2 (V.int.inj z)) ?_;obtain ⟨nm,hi,lo,ro,kd,ex⟩:=l;cases kd with
 |plain =>
  exact ⟨_,rfl,.plain,y,dl,_,rfl,hl,fX .plain _ _ _ _ _,y,_,_,_,_,_,rfl,⟨dl,hl⟩,rfl,_,rfl,vJ rfl (qv (by rintro (h|h|⟨h,_⟩);exact h1 h;exact h2 h;exact h rfl))⟩
 |basin =>
  refine ⟨_,rfl,.basin,y,dl,_,rfl,hl,fX .basin _ _ _ _ _,y,_,_,_,_,_,rfl,⟨dl,hl⟩,rfl,_,rfl,y0 (fun z=>absurd (V.str.inj z) (by decide +kernel)) ?_⟩;refine ⟨_,rfl,.basin,y,dl,_,rfl,hl,oE .basin _ _ _ _ _,y,_,_,_,_,_,rfl,⟨dl,hl⟩,_,_,rfl,rfl,_,rfl,?_⟩
  by_cases h3:(1:Int)≤ex
  ·refine jZ h3 ⟨_,rfl,y,_,dl,_,_,rfl,hl,T.cl .basin,T.n_room .basin,lH .basin _ _ _ _ _,_,_,rfl,rfl,_,rfl,?_⟩
   by_cases h4:ex≤ro
   ·exact vJ h4 (qv (by rintro (h|h|⟨_,h|h⟩)<;>dsimp only at h h1 h2 h3 h4<;>omega))
   ·exact y0 h4 ⟨by show 1≤sizeLine;decide,qe (.inr (.inr ⟨(fun z=>nomatch z),.inr (by show ro<ex;omega)⟩))⟩
  ·exact jT h3 ⟨_,rfl,kR ⟨by show 1≤sizeLine;decide,qe (.inr (.inr ⟨(fun z=>nomatch z),.inl (by show ex<1;omega)⟩))⟩⟩
 |pump =>
  refine ⟨_,rfl,.pump,y,dl,_,rfl,hl,fX .pump _ _ _ _ _,y,_,_,_,_,_,rfl,⟨dl,hl⟩,rfl,_,rfl,y0 (fun z=>absurd (V.str.inj z) (by decide +kernel)) ?_⟩;refine ⟨_,rfl,.pump,y,dl,_,rfl,hl,oE .pump _ _ _ _ _,y,_,_,_,_,_,rfl,⟨dl,hl⟩,_,_,rfl,rfl,_,rfl,?_⟩
  by_cases h3:(1:Int)≤ex
  ·refine jZ h3 ⟨_,rfl,y,_,dl,_,_,rfl,hl,T.cl .pump,T.n_room .pump,lH .pump _ _ _ _ _,_,_,rfl,rfl,_,rfl,?_⟩
   by_cases h4:ex≤ro
   ·exact vJ h4 (qv (by rintro (h|h|⟨_,h|h⟩)<;>dsimp only at h h1 h2 h3 h4<;>omega))
   ·exact y0 h4 ⟨by show 1≤sizeLine;decide,qe (.inr (.inr ⟨(fun z=>nomatch z),.inr (by show ro<ex;omega)⟩))⟩
  ·exact jT h3 ⟨_,rfl,kR ⟨by show 1≤sizeLine;decide,qe (.inr (.inr ⟨(fun z=>nomatch z),.inl (by show ex<1;omega)⟩))⟩⟩
theorem D4:FnScope ["things","most"] ["things","most"] (jI cW):=kG
include T in
theorem DA {f:Addr} {fd:FuncData} (F:Fun K "refuse_many" "refuse_many" cW f fd) : FnOk P w K mg base (j4 P w) 1 f fd ["things","most"] (lE eM):=by
 refine F.okX2 D4 fun vs H Q E h=>?_
 obtain ⟨l,us,m,rfl,hl,hsz,qv,qe⟩:=h;refine ⟨rfl,fun _ _ _ _ hr=>?_⟩;refine ⟨_,(jG (jV (jU gK (j5 (kW K) (by rfl) T.z_len PySem.boot_len (jA (pv 0) jC)) (pv 1)) (jG (yP yN rfl rfl T.c_TooMany T.x_TooMany (jA jJ jC))) kA)),?_⟩;refine ⟨_,rfl,l,_,rfl,.inl (so hl),_,rfl,_,_,rfl,rfl,_,rfl,?_⟩
 by_cases h:m≤(us.length:Int)
 ·exact jZ h ⟨by show 1≤sizeLine;decide,qe h⟩
 ·exact jT h (qv (by omega))
theorem D8:FnScope ["night","many"] ["night","many"] (jI cX):=kG
include T in
theorem DE {f:Addr} {fd:FuncData} (F:Fun K "widened" "widened" cX f fd) : FnOk P w K mg base kB 1 f fd ["night","many"] (m8):=by
 refine F.ok2 D8 fun vs H Q E h=>?_
 obtain ⟨l,qs,p,n,rfl,hl,hA,hpn,hn,q⟩:=h;refine ⟨rfl,fun _ _ _ _ hr=>?_⟩;refine ⟨_,(jG (jS (jE qQ (pv 0) (jE MY (kC (jA (zF (jA jB (jA jB jC))) jC)) (jE JB (pv 1) (j5 (kW K) (by rfl) T.z_len PySem.boot_len (jA (pv 0) jC))))))),?_⟩;have hlen:qs.length=p.length:=hA.1;refine ⟨_,rfl,zz2,fun t ht=>?_⟩;have s1:=jK ht (.tup [V.int 0,V.int 0]);refine ⟨zz1,fun b hb=>?_⟩;have s2:=jK hb (.lst [V.ref t]);have s12:=s1.trans s2;refine ⟨_,rfl,_,rfl,l,_,rfl,.inl (so (s12 _ _ hl)),_,_,rfl,rfl,b,_,_,rfl,rfl,jD,by omega,by omega,?_,fun c hc=>?_⟩
 ·have:(1000:Nat)≤sizeLine:=by decide
  rw [length_singleton];omega
 have s3:=jK hc (.lst (List.replicate ((n:Int) - ((qs.length:Nat):Int)).toNat [V.ref t]).flatten);have e:(List.replicate ((n:Int) - ((qs.length:Nat):Int)).toNat [V.ref t]).flatten=List.replicate (n - p.length) (V.ref t):=by
  rw [show ((n:Int) - ((qs.length:Nat):Int)).toNat=n - p.length by omega];generalize n - p.length=m
  induction m with
  |zero=>rfl
  |succ m ih=>rw [replicate_succ,flatten_cons,ih,replicate_succ];rfl
 rw [e] at s3 ⊢;refine ⟨l,c,_,_,rfl,rfl,s3 _ _ (s12 _ _ hl),jD,?_,fun d hd=>?_⟩
 ·have:(1000:Nat)≤sizeLine:=by decide
  rw [length_replicate];omega
 have s4:=jK hd (.lst (qs++List.replicate (n - p.length) (V.ref t)));have s14:=(s12.trans s3).trans s4;refine q d _ _ s14 ((s12.trans s3).free hd) jD ?_;have hz:AllAt (QAt (upd (upd (upd (upd H t (.tup [V.int 0,V.int 0])) b (.lst [V.ref t])) c (.lst (List.replicate (n - p.length) (V.ref t)))) d (.lst (qs++List.replicate (n - p.length) (V.ref t))))) (List.replicate (n - p.length) (V.ref t)) (List.replicate (n - p.length) ((0:Int),(0:Int))):=by
  refine ⟨by rw [length_replicate,length_replicate],fun i v hv=>?_⟩;rw [List.getElem?_replicate] at hv
  by_cases hi:i<n - p.length
  ·rw [if_pos hi] at hv;cases hv;exact ⟨(0,0),by rw [List.getElem?_replicate,if_pos hi],t,rfl,s4 _ _ (s3 _ _ (s2 _ _ jD))⟩
  ·rw [if_neg hi] at hv;cases hv
 exact (hA.mono (QAt.same s14)).append hz
theorem DY:FnScope ["words","high","low","numbers"] ["words","high","low","numbers"] (jI cK):=kG
include T in
theorem CZ {f:Addr} {fd:FuncData} (F:Fun K "lock_made" "lock_made" cK f fd) (M_PlainLock:MkD P w K mg base 1 "PlainLock" cP ["self","name","high","low","room"] (dZ (j6 cP cB cU))) (M_BasinLock:MkD P w K mg base 2 "BasinLock" cB ["self","name","high","low","room","side"] (dY (j6 cP cB cU) .basin)) (M_PumpLock:MkD P w K mg base 2 "PumpLock" cU ["self","name","high","low","room","lift"] (dY (j6 cP cB cU) .pump)):FnOk P w K mg base kB 4 f fd ["words","high","low","numbers"] (rR (j6 cP cB cU)):=by
 refine F.ok2 DY fun vs H Q E h=>?_
 obtain ⟨wl,nl,a,nm,b,c,d,kd,hi,lo,ro,ex,ext,ns,rfl,hwl,hnl,hcase,q⟩:=h;refine ⟨rfl,fun _ _ _ _ hr=>?_⟩;refine ⟨_,(jH (jV (jU kF (j5 (kW K) (by rfl) T.z_len PySem.boot_len (jA (pv 0) jC)) jB) (jG (jS (gJ M_PlainLock hr rfl (jA (jF (jL K) (pv 0) jB) (jA (pv 1) (jA (pv 2) (jA (jF (jL K) (pv 3) jB) jC))))))) kA)
   (jH (jV (jU kF (jF (jL K) (pv 0) jB) jJ) (jG (jS (gJ M_BasinLock hr rfl (jA (jF (jL K) (pv 0) jB) (jA (pv 1) (jA (pv 2) (jA (jF (jL K) (pv 3) jB) (jA (jF (jL K) (pv 3) jB) jC)))))))) kA)
   (jG (jS (gJ M_PumpLock hr rfl (jA (jF (jL K) (pv 0) jB) (jA (pv 1) (jA (pv 2) (jA (jF (jL K) (pv 3) jB) (jA (jF (jL K) (pv 3) jB) jC)))))))))),?_⟩
 rcases hcase with ⟨rfl,rfl,rfl⟩|⟨g,hk,rfl,rfl⟩
 ·refine ⟨_,rfl,wl,_,rfl,.inl (so hwl),rfl,_,rfl,jZ rfl ⟨_,rfl,wl,_,_,_,rfl,rfl,so hwl,rfl,_,rfl,_,rfl,_,rfl,nl,_,_,_,rfl,rfl,so hnl,rfl,?_⟩⟩;intro x dx nx ndx nex;refine ⟨.plain,x,dx,_,_,_,_,rfl,jD,fun H' kp hx=>⟨rfl,?_⟩⟩;refine q x H' (fun b₁ o e=>?_) nx ⟨dx,hx⟩;refine kp b₁ o (jW e nx) ?_;rw [j9 (jW e nx),j9 (jW e ndx)];exact e
 refine ⟨_,rfl,wl,_,rfl,.inl (so hwl),rfl,_,rfl,jT (fun z=>absurd (V.int.inj z) (by show ¬((7:Int)=5);decide)) ?_⟩;cases kd with
 |plain=>exact absurd rfl hk
 |basin =>
  refine ⟨_,rfl,wl,_,_,_,rfl,rfl,so hwl,rfl,rfl,_,rfl,jZ rfl ⟨_,rfl,wl,_,_,_,rfl,rfl,so hwl,rfl,_,rfl,_,rfl,_,rfl,nl,_,_,_,rfl,rfl,so hnl,rfl,_,rfl,nl,_,_,_,rfl,rfl,so hnl,rfl,?_⟩⟩;intro x dx nx ndx nex;refine ⟨x,dx,_,_,_,_,_,rfl,jD,fun H' kp hx=>⟨rfl,?_⟩⟩;refine q x H' (fun b₁ o e=>?_) nx ⟨dx,hx⟩;refine kp b₁ o (jW e nx) ?_;rw [j9 (jW e nx),j9 (jW e ndx)];exact e
 |pump =>
  refine ⟨_,rfl,wl,_,_,_,rfl,rfl,so hwl,rfl,rfl,_,rfl,jT (fun z=>lW (V.str.inj z)) ⟨_,rfl,wl,_,_,_,rfl,rfl,so hwl,rfl,_,rfl,_,rfl,_,rfl,nl,_,_,_,rfl,rfl,so hnl,rfl,_,rfl,nl,_,_,_,rfl,rfl,so hnl,rfl,?_⟩⟩;intro x dx nx ndx nex;refine ⟨x,dx,_,_,_,_,_,rfl,jD,fun H' kp hx=>⟨rfl,?_⟩⟩;refine q x H' (fun b₁ o e=>?_) nx ⟨dx,hx⟩;refine kp b₁ o (jW e nx) ?_;rw [j9 (jW e nx),j9 (jW e ndx)];exact e
theorem gZ:FnScope ["words","reaches","numbers","target","reach"] ["words","reaches"] (jI cQ):=kG
include T in
theorem C6 {f:Addr} {fd:FuncData} (F:Fun K "reach_read" "reach_read" cQ f fd) (DX_refuse_no_names:DefX P w K mg base 3 "refuse_no_names" ["words"] [] (iT eB)) (DX_numbers_of:DefX P w K mg base 4 "numbers_of" ["words"] [] (lC eB)) (DX_refuse_told:DefX P w K mg base 1 "refuse_told" ["name","things"] [] (oJ K eT)) (DX_place_called:DefX P w K mg base 1 "place_called" ["name","things"] [] (lB K eU)) (M_Reach:MkD P w K mg base 1 "Reach" cR ["self","name","least","crest","berths","water","target"] (mM cR)) (DX_refuse_bad_reach:DefX P w K mg base 1 "refuse_bad_reach" ["reach"] [] (rE cR eN)) (DX_refuse_many:DefX P w K mg base 1 "refuse_many" ["things","most"] [] (lE eM)):FnOk P w K mg base (j4 P w) 5 f fd ["words","reaches"] (uB cR (qW eB eT eU eN eM)):=by
 refine F.okX2 gZ fun vs H Q E h=>?_
 obtain ⟨wl,rl,ws,rs,R,rfl,hwl,hsh,hrl,hR,h8,qv,qe⟩:=h;refine ⟨rfl,fun _ _ _ _ hr=>?_⟩;refine ⟨_,(jH (jV (PW.pt (zP (jU vI (j5 (kW K) (by rfl) T.z_len PySem.boot_len (jA (pv 0) jC)) jB) (JA (jU kF (jF (jL K) (pv 0) jB) jJ)))) (jG (yP yN rfl rfl T.c_BadRow T.x_BadRow (jA jJ jC))) kA)
   (jH (qD (vG DX_refuse_no_names vR hr rfl (jA (kC (jA (jF (jL K) (pv 0) jB) (jA (jF (jL K) (pv 0) jB) jC))) jC)))
   (jH (jN (i:=2) gZ.nd rfl (.inl rfl) (vG DX_numbers_of vR hr rfl (jA (vB (yG K) (pv 0) (kT jB) (kT jB)) jC)))
   (jH (qD (vG DX_refuse_told vR hr rfl (jA (jF (jL K) (pv 0) jB) (jA (pv 1) jC))))
   (vC (jN (i:=3) gZ.nd rfl (.inl rfl) (nZ (jU kF (jF (jL K) (pv 0) jB) jJ) (vX (v:=.int (-1)) rfl T.g_SEA ⟨_,rfl⟩) (vG DX_place_called vR hr rfl (jA (jF (jL K) (pv 0) jB) (jA (pv 1) jC)))))
   (jH (jN (i:=4) gZ.nd rfl (.inl rfl) (gJ M_Reach hr rfl (jA (jF (jL K) (pv 0) jB) (jA (jF (jL K) (pv 2) jB) (jA (jF (jL K) (pv 2) jB) (jA (jF (jL K) (pv 2) jB) (jA (jF (jL K) (pv 2) jB) (jA (pv 3) jC))))))))
   (jH (qD (vG DX_refuse_bad_reach vR hr rfl (jA (pv 4) jC)))
   (jH (qD (vG DX_refuse_many vR hr rfl (jA (pv 1) (jA (vX (v:=.int 8) rfl T.g_MOST_REACHES ⟨_,rfl⟩) jC))))
   (jG (jS (pv 4))))))))))),?_⟩
 have hr8:rs.length≤8:=by rw [hR.1];exact h8
 by_cases h7:ws.length=7
 case neg =>
  exact ⟨_,rfl,wl,_,rfl,.inl (so hwl),rfl,_,rfl,y0 (fun z=>h7 (by have:=V.int.inj z;rw [length_map] at this;omega)) ⟨zz1,qe 0 (by unfold qX;rw [if_pos (.inl h7)]) H (Same.refl _)⟩⟩
 obtain ⟨w0,nm,w2,w3,w4,w5,tg,rfl⟩:=JF h7;refine ⟨_,rfl,wl,_,rfl,.inl (so hwl),rfl,_,rfl,vJ rfl ⟨_,rfl,wl,_,_,_,rfl,rfl,so hwl,rfl,rfl,_,rfl,?_⟩⟩
 by_cases hsea:nm="sea"
 case pos=>exact jZ (congrArg V.str hsea) ⟨zz1,qe 0 (by unfold qX;rw [if_pos (.inr hsea)]) H (Same.refl _)⟩
 have g0:¬(([w0,nm,w2,w3,w4,w5,tg]:List Str).length≠7∨([w0,nm,w2,w3,w4,w5,tg]:List Str).getD 1 ""="sea"):=fun z=>z.elim (fun z=>z rfl) hsea
 refine jT (fun z=>hsea (V.str.inj z)) ⟨_,rfl,wl,_,_,_,rfl,rfl,so hwl,rfl,_,rfl,wl,_,_,_,rfl,rfl,so hwl,rfl,zz2,fun p hp=>?_⟩;have s1:=jK hp (.lst [V.str nm,V.str tg]);refine ⟨p,[nm,tg],rfl,jD,hsh.some (by show 2≤100;decide) (by simp),fun g1 H2 s2=>?_,fun g1 H2 s2=>qe 0 (by unfold qX;rw [if_neg g0];exact if_pos g1) _ (s1.trans s2)⟩;have s12:=s1.trans s2;refine ⟨_,rfl,_,rfl,_,rfl,wl,_,rfl,so (s12 _ _ hwl),fun c hc=>?_⟩;have s3:=jK hc (.lst ([w2,w3,w4,w5].map V.str));have s13:=s12.trans s3;refine ⟨c,[w2,w3,w4,w5],rfl,jD,hsh.some (by show 4≤100;decide) (by simp),fun g2 nl H4 s4 hn0 hnl=>?_,fun g2 H4 s4=>qe 0 (by unfold qX;rw [if_neg g0];refine (if_neg (by show ¬([nm,tg].all (jO lettersS)=false);rw [g1];decide)).trans (if_pos g2)) _ (s13.trans s4)⟩;have g1':¬([nm,tg].all (jO lettersS)=false):=by rw [g1];decide
 have g2':¬([w2,w3,w4,w5].all jP=false):=by rw [g2];decide
 have s14:=s13.trans s4;refine ⟨_,rfl,wl,_,_,_,rfl,rfl,so (s14 _ _ hwl),rfl,_,rfl,nm,rl,rs,jR R,rfl,s14 _ _ hrl,fT T.clR T.nR_name (hR.mono (RcO.same s14)),by omega,fun g3 H5 s5=>?_,fun g3 H5 s5=>qe 1 (by unfold qX;rw [if_neg g0];exact (if_neg g1').trans ((if_neg g2').trans (if_pos g3))) _ (s14.trans s5)⟩;have s15:=s14.trans s5;have step:=mP (R:=R) (ws:=[w0,nm,w2,w3,w4,w5,tg]) g0 g1' g2' g3;refine ⟨fun σ' H'=>∃t:Int,σ'=[some (.ref wl),some (.ref rl),some (.ref nl),some (.int t),none]∧yL R tg=some t∧Same H5 H',?_,?_⟩
 ·refine ⟨_,rfl,wl,_,_,_,rfl,rfl,so (s15 _ _ hwl),rfl,rfl,_,rfl,?_⟩
  by_cases e1:tg="sea"
  ·exact jZ (congrArg V.str e1) ⟨-1,rfl,by unfold yL;rw [if_pos e1],Same.refl _⟩
  ·refine jT (fun z=>e1 (V.str.inj z)) ⟨_,rfl,wl,_,_,_,rfl,rfl,so (s15 _ _ hwl),rfl,_,rfl,tg,rl,rs,jR R,rfl,s15 _ _ hrl,fT T.clR T.nR_name (hR.mono (RcO.same s15)),by omega,fun i hi H6 s6=>⟨(i:Int),rfl,by unfold yL;rw [if_neg e1,vP hi];rfl,s6⟩,fun hno H6 s6=>qe 2 (step.1 (by show yL R tg=none;unfold yL;rw [if_neg e1,QQ hno];rfl)) _ (s15.trans s6)⟩
 rintro σ' H6 ⟨t,rfl,ht,s6⟩;obtain ⟨st3,st4,stk⟩:=step.2 t ht;have s16:=s15.trans s6;have hnl6:=s6 _ _ (s5 _ _ hnl);refine ⟨_,rfl,wl,_,_,_,rfl,rfl,so (s16 _ _ hwl),rfl,_,rfl,nl,_,_,_,rfl,rfl,so hnl6,rfl,_,rfl,nl,_,_,_,rfl,rfl,so hnl6,rfl,_,rfl,nl,_,_,_,rfl,rfl,so hnl6,rfl,_,rfl,nl,_,_,_,rfl,rfl,so hnl6,rfl,_,rfl,?_⟩;intro x dx nx ndx nex;refine ⟨x,dx,_,_,_,_,_,_,rfl,jD,fun H' fs kp hx hfl=>⟨rfl,?_⟩⟩;have u:Same H6 H':=fun b o e=>kp b o (jW e nx) (by rw [j9 (jW e nx),j9 (jW e ndx)];exact e)
 have hrc:RcAt cR H' x (yV [w0,nm,w2,w3,w4,w5,tg] t):=⟨dx,fs,hx,hfl⟩;have s1H:=s16.trans u;refine ⟨_,rfl,x,yV [w0,nm,w2,w3,w4,w5,tg] t,rfl,hrc,fun gb=>?_,fun gb=>qe 3 (st3 gb) _ s1H⟩;refine ⟨_,rfl,rl,rs,8,rfl,u _ _ (s16 _ _ hrl),by omega,fun g8=>?_,fun g8=>qe 4 (st4 gb (by rw [hR.1] at g8;omega)) _ s1H⟩;exact ⟨_,rfl,qv _ (stk gb (by rw [hR.1] at g8;omega)) x H' s1H (s16.free nx) hrc⟩
theorem fA:FnScope ["words","reaches","locks","numbers","high","low","lock"] ["words","reaches","locks"] (jI cL):=kG
include T in
theorem C1 {f:Addr} {fd:FuncData} (F:Fun K "lock_read" "lock_read" cL f fd) (DX_refuse_no_names:DefX P w K mg base 3 "refuse_no_names" ["words"] [] (iT eB)) (DX_numbers_of:DefX P w K mg base 4 "numbers_of" ["words"] [] (lC eB)) (DX_refuse_told:DefX P w K mg base 1 "refuse_told" ["name","things"] [] (oJ K eT)) (DX_place_called:DefX P w K mg base 1 "place_called" ["name","things"] [] (lB K eU)) (D_lock_made:Def P w K mg base 4 "lock_made" ["words","high","low","numbers"] [] (rR (j6 cP cB cU))) (DX_refuse_bad_lock:DefX P w K mg base 2 "refuse_bad_lock" ["lock"] [] (rS (j6 cP cB cU) eN)) (DX_refuse_many:DefX P w K mg base 1 "refuse_many" ["things","most"] [] (lE eM)):FnOk P w K mg base (j4 P w) 5 f fd ["words","reaches","locks"] (wR (j6 cP cB cU) cR (qW eB eT eU eN eM)):=by
 refine F.okX2 fA fun vs H Q E h=>?_
 obtain ⟨wl,rl,ll,ws,rs,ls,R,L,rfl,hwl,hsh,hrl,hll,hR,hL,h8,hL8,qv,qe⟩:=h;refine ⟨rfl,fun _ _ _ _ hr=>?_⟩;refine ⟨_,(vC (jV (PW.pt (QU (jU vI (j5 (kW K) (by rfl) T.z_len PySem.boot_len (jA (pv 0) jC)) jB) (ZT (PW.pt (zP (jU vI (j5 (kW K) (by rfl) T.z_len PySem.boot_len (jA (pv 0) jC)) jB) (JA (jU (fB K) (jF (jL K) (pv 0) jB) (zF (jA jJ (jA jJ jC)))))))))) (jG (yP yN rfl rfl T.c_BadRow T.x_BadRow (jA jJ jC))) kA)
   (jH (qD (vG DX_refuse_no_names vR hr rfl (jA (vB (yG K) (pv 0) (kT jB) (kT jB)) jC)))
   (jH (jN (i:=3) fA.nd rfl (.inl rfl) (vG DX_numbers_of vR hr rfl (jA (jE qQ (vB (yG K) (pv 0) (kT jB) (kT jB)) (vB (yG K) (pv 0) (kT jB) vS)) jC)))
   (jH (qD (vG DX_refuse_told vR hr rfl (jA (jF (jL K) (pv 0) jB) (jA (pv 2) jC))))
   (jH (jN (i:=4) fA.nd rfl (.inl rfl) (vG DX_place_called vR hr rfl (jA (jF (jL K) (pv 0) jB) (jA (pv 1) jC))))
   (jH (jN (i:=5) fA.nd rfl (.inl rfl) (vG DX_place_called vR hr rfl (jA (jF (jL K) (pv 0) jB) (jA (pv 1) jC))))
   (jH (jN (i:=6) fA.nd rfl (.inl rfl) (kO D_lock_made hr rfl (jA (pv 0) (jA (pv 4) (jA (pv 5) (jA (pv 3) jC))))))
   (jH (qD (vG DX_refuse_bad_lock vR hr rfl (jA (pv 6) jC)))
   (jH (qD (vG DX_refuse_many vR hr rfl (jA (pv 2) (jA (vX (v:=.int 8) rfl T.g_MOST_LOCKS ⟨_,rfl⟩) jC))))
   (jG (jS (pv 6)))))))))))),?_⟩
 have hr8:rs.length≤8:=by rw [hR.1];exact h8
 have hl8:ls.length≤8:=by rw [hL.1];exact hL8
 refine ⟨fun σ' H'=>σ'=[some (.ref wl),some (.ref rl),some (.ref ll),none,none,none,none]∧Q3 ws∧Same H H',?_,?_⟩
 ·refine ⟨_,rfl,wl,_,rfl,.inl (so hwl),rfl,_,rfl,?_⟩
  by_cases h5:ws.length=5
  ·exact vJ (by rw [length_map,h5];rfl) ⟨rfl,.inl h5,Same.refl _⟩
  refine y0 (fun z=>h5 (by have:=V.int.inj z;rw [length_map] at this;omega)) ⟨_,rfl,wl,_,rfl,.inl (so hwl),rfl,_,rfl,?_⟩
  by_cases h7:ws.length=7
  case neg=>exact y0 (fun z=>h7 (by have:=V.int.inj z;rw [length_map] at this;omega)) ⟨zz1,qe 0 (mX (fun z=>z.elim h5 fun z=>h7 z.1)) H (Same.refl _)⟩
  obtain ⟨w0,w1,w2,w3,w4,w5,w6,rfl⟩:=JF h7;refine vJ rfl ⟨_,rfl,wl,_,_,_,rfl,rfl,so hwl,rfl,zz2,fun tp htp=>?_⟩;have u:=jK htp (.tup [V.str "basin",V.str "pump"]);refine ⟨tp,_,rfl,.inr (SqT.of jD),rfl,rfl,_,rfl,?_⟩;show if (!vY (V.str w5) [V.str "basin",V.str "pump"])=true then _ else _
  cases hk:vY (V.str w5) [V.str "basin",V.str "pump"] with
  |true=>exact kS ⟨rfl,.inr ⟨rfl,(lQ w5).mp hk⟩,u⟩
  |false=>exact kR ⟨zz1,qe 0 (mX fun z=>z.elim h5 fun z=>by rw [(lQ w5).mpr z.2] at hk;cases hk) _ u⟩
 rintro σ' H1 ⟨rfl,g0,s1⟩;have hn5:5≤ws.length:=by rcases g0 with h|⟨h,_⟩<;>omega
 have facts:kQ (ws.map V.str) 1=some (V.str (ws.getD 1 ""))∧kQ (ws.map V.str) 2=some (V.str (ws.getD 2 ""))∧kQ (ws.map V.str) 3=some (V.str (ws.getD 3 ""))∧qS (ws.map V.str) (some 1) (some 4)=[ws.getD 1 "",ws.getD 2 "",ws.getD 3 ""].map V.str∧qS (ws.map V.str) (some 4) (some 5)=[ws.getD 4 ""].map V.str∧qS (ws.map V.str) (some 6) none=(ws.drop 6).map V.str∧(∀v∈[ws.getD 1 "",ws.getD 2 "",ws.getD 3 ""],v∈ws)∧(∀v∈ws.getD 4 ""::ws.drop 6,v∈ws):=by
  rcases g0 with h|⟨h,_⟩
  ·obtain ⟨w0,w1,w2,w3,w4,rfl⟩:=eQ h;exact ⟨rfl,rfl,rfl,rfl,rfl,rfl,by simp,by simp⟩
  ·obtain ⟨w0,w1,w2,w3,w4,w5,w6,rfl⟩:=JF h;exact ⟨rfl,rfl,rfl,rfl,rfl,rfl,by simp,by simp⟩
 obtain ⟨a1,a2,a3,k1,k4,k6,m1,m2⟩:=facts;have hd1:(ws.drop 6).length≤1:=by rw [length_drop];rcases g0 with h|⟨h,_⟩<;>omega
 refine ⟨_,rfl,_,rfl,_,rfl,Z2 (s1 _ _ hwl) k1 fun p hp=>?_⟩;have s2:=jK hp (.lst ([ws.getD 1 "",ws.getD 2 "",ws.getD 3 ""].map V.str));have s12:=s1.trans s2;refine ⟨p,[ws.getD 1 "",ws.getD 2 "",ws.getD 3 ""],rfl,jD,hsh.some (by show 3≤100;decide) m1,fun g1 H3 s3=>?_,fun g1 H3 s3=>qe 0 (rH g0 g1) _ (s12.trans s3)⟩;have g1':¬([ws.getD 1 "",ws.getD 2 "",ws.getD 3 ""].all (jO lettersS)=false):=by rw [g1];decide
 have s13:=s12.trans s3;refine ⟨_,rfl,_,rfl,_,rfl,Z2 (s13 _ _ hwl) k4 fun c hc=>?_⟩;have s4:=jK hc (.lst ([ws.getD 4 ""].map V.str));have s14:=s13.trans s4;refine ⟨_,rfl,_,rfl,gS (s14 _ _ hwl) k6 fun d hd=>?_⟩;have s5:=jK hd (.lst ((ws.drop 6).map V.str));have s15:=s14.trans s5;refine ⟨c,d,_,_,rfl,rfl,s5 _ _ jD,jD,small (by rw [length_map,length_map];show 1+_≤1000;omega),fun e he=>?_⟩;have s6:=jK he (.lst ([ws.getD 4 ""].map V.str++(ws.drop 6).map V.str));have s16:=s15.trans s6;refine ⟨e,ws.getD 4 ""::ws.drop 6,rfl,jD,hsh.some (by rw [length_cons];omega) m2,fun g2 nl H7 s7 hn0 hnl=>?_,fun g2 H7 s7=>qe 0 (r9 g0 g1' g2) _ (s16.trans s7)⟩;have g2':¬((ws.getD 4 ""::ws.drop 6).all jP=false):=by rw [g2];decide
 have s17:=s16.trans s7;refine ⟨_,rfl,wl,_,_,_,rfl,rfl,so (s17 _ _ hwl),a1,_,rfl,ws.getD 1 "",ll,ls,yW L,rfl,s17 _ _ hll,LS T.cl T.n_name (hL.mono (LkO.same s17)),by omega,fun g3 H8 s8=>?_,fun g3 H8 s8=>qe 1 (r6 g0 g1' g2' g3) _ (s17.trans s8)⟩;have s18:=s17.trans s8;obtain ⟨t2,step⟩:=iJ (R:=R) g0 g1' g2' g3;refine ⟨_,rfl,wl,_,_,_,rfl,rfl,so (s18 _ _ hwl),a2,_,rfl,ws.getD 2 "",rl,rs,jR R,rfl,s18 _ _ hrl,fT T.clR T.nR_name (hR.mono (RcO.same s18)),by omega,fun i f1 H9 s9=>?_,fun hno H9 s9=>qe 2 (t2 (QQ hno)) _ (s18.trans s9)⟩;have s19:=s18.trans s9;obtain ⟨t3,step⟩:=step i (vP f1);refine ⟨_,rfl,wl,_,_,_,rfl,rfl,so (s19 _ _ hwl),a3,_,rfl,ws.getD 3 "",rl,rs,jR R,rfl,s19 _ _ hrl,fT T.clR T.nR_name (hR.mono (RcO.same s19)),by omega,fun j f2 HA sA=>?_,fun hno HA sA=>qe 2 (t3 (QQ hno)) _ (s19.trans sA)⟩;have s1A:=s19.trans sA;obtain ⟨st3,st4,stk⟩:=step j (vP f2);have hnA:=sA _ _ (s9 _ _ (s8 _ _ hnl));have made:∃(a b c₁ d₁:Str) (ext:List Str) (ex:Int),ws=[a,ws.getD 1 "",b,c₁,d₁]++ext∧((QL ws=.plain∧ext=[]∧(ws.getD 4 ""::ws.drop 6).map jX=[jX (ws.getD 4 "")])∨(∃g,QL ws≠.plain∧ext=[vE (QL ws),g]∧(ws.getD 4 ""::ws.drop 6).map jX=[jX (ws.getD 4 ""),ex]))∧ex=(vD ws i j).extra:=by
  rcases g0 with h|⟨h,hk⟩
  ·obtain ⟨w0,w1,w2,w3,w4,rfl⟩:=eQ h;exact ⟨_,_,_,_,[],_,rfl,.inl ⟨rfl,rfl,rfl⟩,rfl⟩
  ·obtain ⟨w0,w1,w2,w3,w4,w5,w6,rfl⟩:=JF h;refine ⟨_,_,_,_,[w5,w6],_,rfl,.inr ⟨w6,?_,?_,rfl⟩,rfl⟩
   ·show (if (7:Nat)=5 then Kd.plain else if w5="basin" then .basin else .pump)≠.plain;rw [if_neg (by decide)];split<;>exact fun z=>nomatch z
   ·show [w5,w6]=[vE (if (7:Nat)=5 then Kd.plain else if w5="basin" then .basin else .pump),w6];rw [if_neg (by decide)]
    rcases hk with hk|hk
    ·rw [show w5="basin" from hk,if_pos rfl];rfl
    ·rw [show w5="pump" from hk,if_neg lW];rfl
 obtain ⟨a₁,b₁,c₁,d₁,ext,ex,hws,hcase,hex⟩:=made;refine ⟨_,rfl,_,rfl,_,rfl,_,rfl,wl,nl,a₁,ws.getD 1 "",b₁,c₁,d₁,QL ws,(i:Int),(j:Int),jX (ws.getD 4 ""),ex,ext,(ws.getD 4 ""::ws.drop 6).map jX,rfl,by rw [s1A _ _ hwl,← hws],hnA,hcase,fun x HB sB hx0 hlk=>?_⟩;rw [hex] at hlk;have hlk:LockAt (j6 cP cB cU) HB x (vD ws i j).kd (.str (vD ws i j).name) (.int (vD ws i j).high) (.int (vD ws i j).low) (vD ws i j).room (vD ws i j).extra:=hlk;have s1B:=s1A.trans sB;refine ⟨_,rfl,x,vD ws i j,rfl,hlk,fun gb=>?_,fun gb=>qe 3 (st3 gb) _ s1B⟩;refine ⟨_,rfl,ll,ls,8,rfl,sB _ _ (s1A _ _ hll),by omega,fun g8=>?_,fun g8=>qe 4 (st4 gb (by rw [hL.1] at g8;omega)) _ s1B⟩;exact ⟨_,rfl,qv _ (stk gb (by rw [hL.1] at g8;omega)) x HB s1B (s1A.free hx0) ⟨x,rfl,hlk⟩⟩
theorem ZO:FnScope ["words","reaches","nights","names","weather","places","night","place","pair"] ["words","reaches","nights"] (jI ZG):=kG
include T in
theorem C2 {f:Addr} {fd:FuncData} (F:Fun K "night_read" "night_read" ZG f fd) (DX_refuse_no_names:DefX P w K mg base 3 "refuse_no_names" ["words"] [] (iT eB)) (DX_numbers_of:DefX P w K mg base 4 "numbers_of" ["words"] [] (lC eB)) (DX_place_called:DefX P w K mg base 1 "place_called" ["name","things"] [] (lB K eU)) (DX_refuse_many:DefX P w K mg base 1 "refuse_many" ["things","most"] [] (lE eM)) (D_widened:Def P w K mg base 1 "widened" ["night","many"] [] (m8)):FnOk P w K mg base (j4 P w) 5 f fd ["words","reaches","nights"] (uD cR (qW eB eT eU eN eM)):=by
 refine F.okX2 ZO fun vs H Q E h=>?_
 obtain ⟨wl,rl,nl,ws,rs,ms,R,n,rfl,hwl,hsh,hrl,hnl,hR,hmn,h8,h6,qv,qe⟩:=h;refine ⟨rfl,fun _ _ _ _ hr=>?_⟩;refine ⟨_,(jH (jV (jU vI (jE kJ (j5 (kW K) (by rfl) T.z_len PySem.boot_len (jA (pv 0) jC)) jB) jB) (jG (yP yN rfl rfl T.c_BadRow T.x_BadRow (jA jJ jC))) kA)
   (jH (jN (i:=3) ZO.nd rfl (.inl rfl) (iN (pv 0) (kT jB) vS (kT jB)))
   (jH (qD (vG DX_refuse_no_names vR hr rfl (jA (pv 3) jC)))
   (jH (jN (i:=4) ZO.nd rfl (.inl rfl) (FB rfl (by rfl) T.z_list (by rfl) T.z_zip (jA (vG DX_numbers_of vR hr rfl (jA (iN (pv 0) (kT jB) vS (kT jB)) jC)) (jA (vG DX_numbers_of vR hr rfl (jA (iN (pv 0) (kT jB) vS (kT jB)) jC)) jC))))
   (jH (jV (jU vI (sX rfl (by rfl) T.z_len (by rfl) T.z_set (pv 3)) (j5 (kW K) (by rfl) T.z_len PySem.boot_len (jA (pv 3) jC))) (jG (yP yN rfl rfl T.c_Twice T.x_Twice (jA jJ jC))) kA)
   (jH (ET (i:=5) ["name","reaches"] (qZ 1 [1]) ZO.nd rfl (.inl rfl) (vO (jI ZG)) (cps 1 [1]) (vA (pv 3)) (fun _ _ _ _ _=>(kL (i:=0) (show List.Nodup (["name","reaches"]:List Str) from by decide +kernel) rfl (.inl rfl))) (fun _ _ _ _ _=>v8) (fun _ _ _ _ _=>(vG DX_place_called sG hr rfl (jA (pv 0) (jA (pv 1) jC)))))
   (jH (qD (vG DX_refuse_many vR hr rfl (jA (pv 2) (jA (vX (v:=.int 6) rfl T.g_MOST_NIGHTS ⟨_,rfl⟩) jC))))
   (jH (jN (i:=6) ZO.nd rfl (.inl rfl) (kO D_widened hr rfl (jA (kC jC) (jA (j5 (kW K) (by rfl) T.z_len PySem.boot_len (jA (pv 1) jC)) jC))))
   (jH (vM o3 rfl (MT (by rfl) T.z_zip (jA (pv 5) (jA (pv 4) jC))) (gB rfl (zZ (kL (i:=7) ZO.nd rfl (.inl rfl)) (zZ (kL (i:=8) ZO.nd rfl (.inl rfl)) fS)))
    (jG (ZV (pv 8) (QV (pv 6) (pv 7) QR))))
   (jG (jS (pv 6)))))))))))),?_⟩
 have hr8:rs.length≤8:=by rw [hR.1];exact h8
 by_cases h3:ws.length%3=1
 case neg =>
  exact ⟨_,rfl,wl,_,rfl,.inl (so hwl),_,_,rfl,rfl,(by show (0:Int)<3;decide),rfl,_,rfl,y0 (fun z=>h3 (by have:=V.int.inj z;rw [length_map] at this;omega)) ⟨zz1,qe 0 (by unfold vU;exact if_pos h3) H (Same.refl _)⟩⟩
 obtain ⟨w0,hws⟩:=iC h3;have hJ:vU R n ws=JC R n (qK ws.tail):=by unfold vU;exact if_neg (fun z=>z h3)
 rw [hJ] at qv qe;have hlw:ws.length=3*(qK ws.tail).length+1:=by
  have:=congrArg List.length hws;rw [length_cons,fH] at this;exact this
 have hmem:∀q∈qK ws.tail,q.1∈ws∧q.2.1∈ws∧q.2.2∈ws:=fun q hq=>by
  have key:∀z∈[q.1,q.2.1,q.2.2],z∈ws:=fun z hz=>by
   rw [hws];exact mem_cons_of_mem _ (mem_flatMap.mpr ⟨q,hq,hz⟩)
  exact ⟨key _ (by simp),key _ (by simp),key _ (by simp)⟩
 generalize qK ws.tail=qs at hws hlw hmem qv qe;have h100:=hsh.1;obtain ⟨k1,k2,k3⟩:=rY w0 qs;rw [← hws] at k1 k2 k3;refine ⟨_,rfl,wl,_,rfl,.inl (so hwl),_,_,rfl,rfl,(by show (0:Int)<3;decide),rfl,_,rfl,vJ (by rw [length_map,hlw];exact congrArg V.int (by omega)) ?_⟩;refine ⟨_,rfl,_,rfl,_,rfl,lX hwl k1 (fun z=>nomatch z) fun c hc=>?_⟩;have s1:=jK hc (.lst ((qs.map (·.1)).map V.str));have sub:∀f:Str×Str×Str→Str,(∀q∈qs,f q∈ws)→Short (qs.map f):=fun f hf=>hsh.some (by rw [length_map];omega) (fun v hv=>by obtain ⟨q,hq,rfl⟩:=mem_map.mp hv;exact hf q hq)
 refine ⟨_,rfl,c,qs.map (·.1),rfl,jD,sub _ (fun q hq=>(hmem q hq).1),fun g1 H2 s2=>?_,fun g1 H2 s2=>qe 0 (by unfold JC;exact if_pos g1) _ (s1.trans s2)⟩;have g1':¬((qs.map (·.1)).all (jO lettersS)=false):=by rw [g1];decide
 have s12:=s1.trans s2;have hc2:=s2 _ _ (jD (H:=H) (a:=c) (o:=.lst ((qs.map (·.1)).map V.str)));refine ⟨_,rfl,_,rfl,_,rfl,lX (s12 _ _ hwl) k2 (fun z=>nomatch z) fun d hd=>?_⟩;have s3:=jK hd (.lst ((qs.map (·.2.1)).map V.str));have s13:=s12.trans s3;refine ⟨d,qs.map (·.2.1),rfl,jD,sub _ (fun q hq=>(hmem q hq).2.1),fun g2 xl H4 s4 hxl0 hxl=>?_,fun g2 H4 s4=>qe 0 (by unfold JC;exact (if_neg g1').trans (if_pos g2)) _ (s13.trans s4)⟩;have g2':¬((qs.map (·.2.1)).all jP=false):=by rw [g2];decide
 have s14:=s13.trans s4;refine ⟨_,rfl,_,rfl,_,rfl,lX (s14 _ _ hwl) k3 (fun z=>nomatch z) fun e he=>?_⟩;have s5:=jK he (.lst ((qs.map (·.2.2)).map V.str));have s15:=s14.trans s5;refine ⟨e,qs.map (·.2.2),rfl,jD,sub _ (fun q hq=>(hmem q hq).2.2),fun g3 yl H6 s6 hyl0 hyl=>?_,fun g3 H6 s6=>qe 0 (by unfold JC;exact (if_neg g1').trans ((if_neg g2').trans (if_pos g3))) _ (s15.trans s6)⟩;have g3':¬((qs.map (·.2.2)).all jP=false):=by rw [g3];decide
 have s16:=s15.trans s6;have hxl6:=s6 _ _ (s5 _ _ hxl);have hJ2:=mQ (R:=R) (n:=n) g1' g2' g3';refine ⟨xl,yl,_,_,rfl,so hxl6,so hyl,fun wt us H7 s7 hwt0 hwt hul hus=>?_⟩;have s17:=s16.trans s7;have hul:us.length=qs.length:=by rw [hul];simp only [length_map];exact Nat.min_self _
 have s37:Same H2 H7:=((s3.trans s4).trans (s5.trans s6)).trans s7;refine ⟨_,rfl,c,qs.map (·.1),rfl,so (s37 _ _ hc2),by rw [length_map];omega,_,rfl,c,_,rfl,.inl (so (s37 _ _ hc2)),rfl,_,rfl,?_⟩
 by_cases hnd:(qs.map (·.1)).Nodup
 case neg =>
  refine y0 (fun z=>hnd ((iH _).mp (by have:=V.int.inj z;rw [length_map] at this;omega))) ⟨zz1,qe 1 (hJ2.trans (uS hnd)) _ s17⟩
 refine vJ (congrArg (fun n:Nat=>V.int (n:Int)) (by rw [(iH _).mpr hnd];exact (length_map _).symm)) ?_;refine ⟨_,rfl,c,rfl,⟨_,so (s37 _ _ hc2)⟩,fun D hD=>?_⟩;refine v0 (K:=K) (a:=c) (xs:=(qs.map (·.1)).map V.str) (caps:=[some (.ref rl)]) (fun i ys Hi=>ys=((yU R (qs.take i)).map (fun t:Nat×Int×Int=>(t.1:Int))).map V.int∧∀q∈qs.take i,∃j,FirstAt (jR R) q.1 j) hD (so (s37 _ _ hc2)) ⟨rfl,fun q hq=>by cases hq⟩ ?_ ?_
 ·rintro i v ys Hi hv hi hle sm hY ⟨rfl,hpl⟩;obtain ⟨w,hw,rfl⟩:=J9 hv;rw [List.getElem?_map] at hw;cases hq:qs[i]? with
  |none=>rw [hq] at hw;cases hw
  |some q₁ =>
   rw [hq] at hw;cases hw;have hi1:i<100:=by rw [length_map,length_map] at hi;omega
   have s1i:=s17.trans sm;refine yD (kR ⟨_,rfl,_,rfl,q₁.1,rl,rs,jR R,rfl,s1i _ _ hrl,fT T.clR T.nR_name (hR.mono (RcO.same s1i)),by omega,fun j fj H8 s8=>?_,fun hno H8 s8=>qe 2 (hJ2.trans (uR hnd ⟨q₁,mem_of_getElem? hq,hno⟩)) _ (s1i.trans s8)⟩);refine vK hD sm hY hle (by omega) s8 ⟨?_,fun q hm=>?_⟩
   ·rw [take_add_one,hq];unfold yU;rw [map_append,map_append,map_append];show _++[V.int (j:Int)]=_++[V.int (((yC (jR R) q₁.1).getD 0:Nat):Int)];rw [vP fj];rfl
   ·rw [take_add_one,hq] at hm
    rcases mem_append.mp hm with hm|hm
    ·exact hpl q hm
    ·rw [mem_singleton.mp hm];exact ⟨j,fj⟩
 rintro ys H8 s8 hpl hle8 ⟨rfl,hplaced⟩;have htl:((qs.map (·.1)).map V.str).length=qs.length:=by rw [length_map,length_map]
 rw [htl,take_length] at hpl hplaced;have hno:¬∃q∈qs,qC (jR R) q.1:=fun ⟨q,hq,hn⟩=>by obtain ⟨j,hj⟩:=hplaced q hq;exact hn j hj.1
 have s18:=s17.trans s8;have hwt8:=s8 _ _ hwt;refine ⟨_,rfl,nl,ms,6,rfl,s18 _ _ hnl,by omega,fun g6=>?_,fun g6=>qe 4 (hJ2.trans (uQ hnd hno (by omega))) _ s18⟩;have qv:=qv (yU R qs) (hJ2.trans (nG hnd hno (by omega)));have hlt:=oW hplaced;have hat:∀i:Nat,(yU R qs)[i]?=qs[i]?.map fun q:Str×Str×Str=>((yC (jR R) q.1).getD 0,jX q.2.1,jX q.2.2):=fun i=>by unfold yU;rw [List.getElem?_map]
 have htl2:=wJ R qs;generalize yU R qs=ts at hpl qv hlt hat htl2;refine ⟨(by show 0≤sizeLine;exact Nat.zero_le _),fun el hel=>?_⟩;have s9:=jK hel (.lst []);have s19:=s18.trans s9;refine ⟨_,rfl,rl,_,rfl,.inl (so (s19 _ _ hrl)),el,[],[],rs.length,rfl,jD,AllAt.nil,Nat.zero_le _,by omega,fun gl gs HA sA hgl0 hgl hG=>?_⟩;have s1A:=s19.trans sA;have e0:Q0 rs.length []=qM R.length (ts.take 0):=by rw [hR.1];rfl
 rw [e0] at hG;have hplA:=sA _ _ (s9 _ _ hpl);have hwtA:=sA _ _ (s9 _ _ hwt8);have ngp:gl≠D:=fun z=>by rw [z,s9 _ _ hpl] at hgl0;cases hgl0
 have ngw:gl≠wt:=fun z=>by rw [z,s9 _ _ hwt8] at hgl0;cases hgl0
 have hml:((ts.map (fun t:Nat×Int×Int=>(t.1:Int))).map V.int).length=ts.length:=by rw [length_map,length_map]
 have s7A:Same H7 HA:=(s8.trans s9).trans sA;have hgf:H gl=none:=s19.free hgl0;refine ⟨_,rfl,_,rfl,D,wt,rfl,⟨_,so hplA⟩,⟨_,so hwtA⟩,L7 (K:=K) (a1:=D) (a2:=wt) (xs:=(ts.map (fun t:Nat×Int×Int=>(t.1:Int))).map V.int) (ys:=us) (fun i σ Hi=>∃(c7 c8:Option V) (gs':List V),σ=[some (.ref wl),some (.ref rl),some (.ref nl),some (.ref c),some (.ref wt),some (.ref D),some (.ref gl),c7,c8]∧Keep gl HA Hi∧Hi gl=some (.lst gs')∧AllAt (QAt Hi) gs' (qM R.length (ts.take i))) ⟨none,none,gs,rfl,Keep.refl gl HA,hgl,hG⟩ ?_ ?_ ?_⟩
 ·rintro i σ Hi _ ⟨_,_,_,_,kp,_,_⟩;exact ⟨so (kp _ _ ngp.symm hplA),so (kp _ _ ngw.symm hwtA)⟩
 ·rintro i x y σ Hi T₁ hx hy ⟨c7,c8,gs',rfl,kp,hgs,hQ⟩ hT;obtain ⟨Tp,x1,y1,rfl,hTp,hx1,hy1⟩:=hus i y hy;rw [List.getElem?_map,List.getElem?_map] at hx;cases ht:ts[i]? with
  |none=>rw [ht] at hx;cases hx
  |some t =>
   rw [ht] at hx;cases hx;have hqi:i<qs.length:=by rw [← htl2];exact (List.getElem?_eq_some_iff.mp ht).1
   have hq:qs[i]?=some qs[i]:=List.getElem?_eq_getElem hqi;have hti:=hat i;rw [ht,hq] at hti;have hti:=Option.some.inj hti;rw [List.getElem?_map,List.getElem?_map,List.getElem?_map,hq] at hx1;rw [List.getElem?_map,List.getElem?_map,List.getElem?_map,hq] at hy1;cases hx1;cases hy1;rw [show jX qs[i].2.1=t.2.1 by rw [hti],show jX qs[i].2.2=t.2.2 by rw [hti]] at hTp;have u:=jK hT (.tup [V.int (t.1:Int),V.ref Tp]);have hTpA:=s7A _ _ hTp;have nTp:Tp≠gl:=fun z=>by rw [z,hgl] at hTpA;cases hTpA
   have hTpi:=kp _ _ nTp hTpA;have ht1:t.1<R.length:=hlt t (mem_of_getElem? ht);have hgl':gs'.length=R.length:=by rw [hQ.1,fD]
   refine ⟨T₁,_,rfl,SqT.of jD,rfl,_,_,rfl,_,_,rfl,rfl,?_⟩;refine ⟨_,rfl,_,rfl,_,rfl,gl,gs',_,t.1,rfl,rfl,u _ _ hgs,fW (by omega),_,_,_,rfl,(kp.trans (Keep.of u)).upd _,jD,?_⟩;rw [rC _ _ ht];exact ((hQ.mono (QAt.same u)).put t.1 (v:=.ref Tp) (x:=(t.2.1,t.2.2)) ⟨Tp,rfl,u _ _ hTpi⟩).mono (QAt.put (u _ _ hgs))
 rintro σ Hi ⟨c7,c8,gs',rfl,kp,hgs,hQ⟩;have hmin:min ((ts.map (fun t:Nat×Int×Int=>(t.1:Int))).map V.int).length us.length=ts.length:=by rw [hml,hul,htl2];exact Nat.min_self _
 rw [hmin,take_length] at hQ;exact ⟨_,rfl,qv gl gs' Hi (fun b o e=>kp b o (jW e hgf) (s1A _ _ e)) hgf hgs hQ⟩
theorem D1:FnScope ["words","reaches","locks","nights"] ["words","reaches","locks","nights"] (jI cS):=kG
include T in
theorem C7 {f:Addr} {fd:FuncData} (F:Fun K "read_row" "read_row" cS f fd) (DX_reach_read:DefX P w K mg base 5 "reach_read" ["words","reaches"] [] (uB cR (qW eB eT eU eN eM))) (DX_lock_read:DefX P w K mg base 5 "lock_read" ["words","reaches","locks"] [] (wR (j6 cP cB cU) cR (qW eB eT eU eN eM))) (DX_night_read:DefX P w K mg base 5 "night_read" ["words","reaches","nights"] [] (uD cR (qW eB eT eU eN eM))):FnOk P w K mg base (j4 P w) 6 f fd ["words","reaches","locks","nights"] (xO (j6 cP cB cU) cR (qW eB eT eU eN eM)):=by
 refine F.okX2 D1 fun vs H Q E h=>?_
 obtain ⟨wl,rl,ll,nl,ws,S,rfl,hwl,hne,hsh,⟨rs,ls,ms,N,hrl,hll,hnl,hR,hL,hN,hrel,d1,d2,d3⟩,⟨h8,hl8,hn6⟩,qv,qe⟩:=h;refine ⟨rfl,fun _ _ _ _ hr=>?_⟩;refine ⟨_,(jG (jV (jU kF (jF (jL K) (pv 0) jB) jJ) (jG (qD (qB PySem.F.plainAttrs_list PySem.F.slot_list_append PySem.F.type_list_append v9 (pv 1) (jA (vG DX_reach_read vR hr rfl (jA (pv 0) (jA (pv 1) jC))) jC)))) (jG (jV (jU kF (jF (jL K) (pv 0) jB) jJ) (jG (qD (qB PySem.F.plainAttrs_list PySem.F.slot_list_append PySem.F.type_list_append v9 (pv 2) (jA (vG DX_lock_read vR hr rfl (jA (pv 0) (jA (pv 1) (jA (pv 2) jC)))) jC)))) (jG (jV (jU kF (jF (jL K) (pv 0) jB) jJ) (jG (qD (qB PySem.F.plainAttrs_list PySem.F.slot_list_append PySem.F.type_list_append v9 (pv 3) (jA (vG DX_night_read vR hr rfl (jA (pv 0) (jA (pv 1) (jA (pv 3) jC)))) jC)))) (jG (yP yN rfl rfl T.c_BadRow T.x_BadRow (jA jJ jC))))))))),?_⟩;have hrs:rs.length=S.1.length:=hR.1;have hls:ls.length=S.2.1.length:=hL.1;have hms:ms.length=S.2.2.length:=by rw [hN.1,hrel.1]
 have hw0:=iD hne
 by_cases e1:ws.getD 0 ""="reach"
 ·rw [dL e1] at qv qe;refine ⟨_,rfl,wl,_,_,_,rfl,rfl,so hwl,hw0,rfl,_,rfl,jZ (congrArg V.str e1) ?_⟩;refine ⟨_,rfl,.inl ⟨rfl,_,so hrl⟩,_,rfl,_,rfl,wl,rl,ws,rs,S.1,rfl,hwl,hsh,hrl,hR,h8,fun r hj x H1 s1 hx0 hrc=>?_,fun k hj H1 s1=>qe k (by rw [hj]) H1 s1⟩;rw [hj] at qv;have hlen:=rW hj;have kp:Keep rl H1 (upd H1 rl (.lst (rs++[.ref x]))):=(Keep.refl rl _).upd _;have h1:=s1 _ _ hrl;refine ⟨rl,_,_,rfl,rfl,h1,vF (by omega),?_⟩;exact qv _ rfl ⟨by show (S.1++[r]).length≤8;rw [length_append];show _+1≤8;omega,hl8,hn6⟩ _ (fun d o e1 e2 e3 e=>by rw [j9 e1];exact s1 _ _ e) ⟨_,ls,ms,N,jD,kp _ _ d1.symm (s1 _ _ hll),kp _ _ d2.symm (s1 _ _ hnl),((hR.mono (RcO.same s1)).snoc (v:=.ref x) (x:=r) ⟨x,rfl,hrc⟩).mono (RcO.keep kp h1),(hL.mono (LkO.same s1)).mono (LkO.keep kp h1),(hN.mono (NAt.same s1)).mono (NAt.keep kp h1 (by simp)),hrel.more (by show _≤(S.1++[r]).length;rw [length_append];omega),d1,d2,d3⟩
 by_cases e2:ws.getD 0 ""="lock"
 ·rw [dO e2] at qv qe;refine ⟨_,rfl,wl,_,_,_,rfl,rfl,so hwl,hw0,rfl,_,rfl,jT (fun z=>e1 (V.str.inj z)) ⟨_,rfl,wl,_,_,_,rfl,rfl,so hwl,hw0,rfl,_,rfl,jZ (congrArg V.str e2) ?_⟩⟩;refine ⟨_,rfl,.inl ⟨rfl,_,so hll⟩,_,rfl,_,rfl,_,rfl,wl,rl,ll,ws,rs,ls,S.1,S.2.1,rfl,hwl,hsh,hrl,hll,hR,hL,h8,hl8,fun l hj x H1 s1 hx0 hlk=>?_,fun k hj H1 s1=>qe k (by rw [hj]) H1 s1⟩;rw [hj] at qv;have hlen:=tG hj;have kp:Keep ll H1 (upd H1 ll (.lst (ls++[.ref x]))):=(Keep.refl ll _).upd _;have h1:=s1 _ _ hll;refine ⟨ll,_,_,rfl,rfl,h1,vF (by omega),?_⟩;exact qv _ rfl ⟨h8,by show (S.2.1++[l]).length≤8;rw [length_append];show _+1≤8;omega,hn6⟩ _ (fun d o e1 e2 e3 e=>by rw [j9 e2];exact s1 _ _ e) ⟨rs,_,ms,N,kp _ _ d1 (s1 _ _ hrl),jD,kp _ _ d3.symm (s1 _ _ hnl),(hR.mono (RcO.same s1)).mono (RcO.keep kp h1),((hL.mono (LkO.same s1)).snoc (v:=.ref x) (x:=l) hlk).mono (LkO.keep kp h1),(hN.mono (NAt.same s1)).mono (NAt.keep kp h1 (by simp)),hrel,d1,d2,d3⟩
 by_cases e3:ws.getD 0 ""="night"
 ·rw [dM e3] at qv qe;refine ⟨_,rfl,wl,_,_,_,rfl,rfl,so hwl,hw0,rfl,_,rfl,jT (fun z=>e1 (V.str.inj z)) ⟨_,rfl,wl,_,_,_,rfl,rfl,so hwl,hw0,rfl,_,rfl,jT (fun z=>e2 (V.str.inj z)) ⟨_,rfl,wl,_,_,_,rfl,rfl,so hwl,hw0,rfl,_,rfl,jZ (congrArg V.str e3) ?_⟩⟩⟩;refine ⟨_,rfl,.inl ⟨rfl,_,so hnl⟩,_,rfl,_,rfl,_,rfl,wl,rl,nl,ws,rs,ms,S.1,S.2.2.length,rfl,hwl,hsh,hrl,hnl,hR,hms,h8,hn6,fun p hj x gs H1 s1 hx0 hx hq=>?_,fun k hj H1 s1=>qe k (by rw [hj]) H1 s1⟩;rw [hj] at qv;obtain ⟨hlen,hlt⟩:=rZ hj;have kp:Keep nl H1 (upd H1 nl (.lst (ms++[.ref x]))):=(Keep.refl nl _).upd _;have h1:=s1 _ _ hnl;have nx:x∉[rl,ll,nl]:=by
   simp only [mem_cons,mem_nil_iff,or_false,not_or];exact ⟨fun z=>jW hrl hx0 z.symm,fun z=>jW hll hx0 z.symm,fun z=>jW hnl hx0 z.symm⟩
  refine ⟨nl,_,_,rfl,rfl,h1,vF (by omega),?_⟩;exact qv _ rfl ⟨h8,hl8,by show (S.2.2++[p]).length≤6;rw [length_append];show _+1≤6;omega⟩ _ (fun d o e1 e2 e3 e=>by rw [j9 e3];exact s1 _ _ e) ⟨rs,ls,_,N++[qM S.1.length p],kp _ _ d2 (s1 _ _ hrl),kp _ _ d3 (s1 _ _ hll),jD,(hR.mono (RcO.same s1)).mono (RcO.keep kp h1),(hL.mono (LkO.same s1)).mono (LkO.keep kp h1),((hN.mono (NAt.same s1)).snoc (v:=.ref x) (x:=qM S.1.length p) ⟨x,gs,rfl,hx,hq,nx⟩).mono (NAt.keep kp h1 (by simp)),hrel.snoc hlt,d1,d2,d3⟩
 exact ⟨_,rfl,wl,_,_,_,rfl,rfl,so hwl,hw0,rfl,_,rfl,jT (fun z=>e1 (V.str.inj z)) ⟨_,rfl,wl,_,_,_,rfl,rfl,so hwl,hw0,rfl,_,rfl,jT (fun z=>e2 (V.str.inj z)) ⟨_,rfl,wl,_,_,_,rfl,rfl,so hwl,hw0,rfl,_,rfl,jT (fun z=>e3 (V.str.inj z)) ⟨zz1,qe 0 (iM e1 e2 e3) H (Same.refl _)⟩⟩⟩⟩
theorem D7:FnScope ["text"] ["text"] (jI ZK):=kG
include T in
theorem DD {f:Addr} {fd:FuncData} (F:Fun K "rows_of" "rows_of" ZK f fd) : FnOk P w K mg base kB 1 f fd ["text"] (uA):=by
 refine F.ok2 D7 fun vs H Q E h=>?_
 obtain ⟨z,rfl,hz,q⟩:=h;refine ⟨rfl,fun _ _ _ _ hr=>?_⟩;refine ⟨_,(jG (jS (zD ["row"] (qZ 1 []) rfl (vO (jI ZK)) (cps 1 []) (vA (qB PySem.F.plainAttrs_str PySem.F.slot_str_split PySem.F.type_str_split fN (pv 0) (jA jJ jC))) (fun _ _ _ _ _=>(kL (i:=0) (show List.Nodup (["row"]:List Str) from by decide +kernel) rfl (.inl rfl))) (fun _ _ _ _ _=>(fR (jU vI (pv 0) jJ))) (fun _ _ _ _ _=>(pv 0))))),?_⟩;have hn:=m7 z feedS (Nat.le_refl 1);refine ⟨_,rfl,rfl,z,feedS,rfl,rfl,rfl,hz,fun sl hsl0=>?_⟩;have s0:=jK hsl0 (.lst ((Txt.split z feedS).map V.str));have hsl:upd H sl (.lst ((Txt.split z feedS).map V.str)) sl=some (.lst ((Txt.split z feedS).map V.str)):=jD;generalize upd H sl (.lst ((Txt.split z feedS).map V.str))=H1 at s0 hsl ⊢;refine ⟨sl,rfl,⟨_,so hsl⟩,fun l hl=>?_⟩;refine v0 (K:=K) (a:=sl) (xs:=(Txt.split z feedS).map V.str) (caps:=[]) (fun i ys Hi=>ys=(((Txt.split z feedS).take i).filter eH).map V.str) hl (so hsl) rfl ?_ ?_
 ·rintro i v ys Hi hv hi hle sm hY rfl;obtain ⟨row,hrow,rfl⟩:=IF hv;have hi9:i≤1000000:=by rw [length_map] at hi;omega
  refine ⟨_,rfl,rfl,_,rfl,?_⟩
  by_cases e:row=""
  ·refine vJ (congrArg V.str e) (ZR sm hY hle (Same.refl _) ?_);rw [rL hrow,if_neg (by rw [e];decide),append_nil]
  ·refine y0 (fun x=>e (V.str.inj x)) ⟨_,rfl,HW hl sm hY hle hi9 (Same.refl _) ?_⟩;rw [rL hrow,if_pos (by unfold eH;rw [decide_eq_false e];rfl),map_append];rfl
 ·rintro ys Hf sm hY hle rfl;rw [length_map,take_length] at hY;exact q l Hf (s0.trans sm) (s0.free hl) hY
theorem e9:FnScope ["text","reaches","locks","nights","row"] ["text"] (jI ZF):=kG
include T in
theorem CU {f:Addr} {fd:FuncData} (F:Fun K "canal_of" "canal_of" ZF f fd) (D_rows_of:Def P w K mg base 1 "rows_of" ["text"] [] (uA)) (DX_read_row:DefX P w K mg base 6 "read_row" ["words","reaches","locks","nights"] [] (xO (j6 cP cB cU) cR (qW eB eT eU eN eM))) (M_Canal:MkD P w K mg base 1 "Canal" cN ["self","reaches","locks","nights"] (mO (j6 cP cB cU) cR cN)) (D_widened:Def P w K mg base 1 "widened" ["night","many"] [] (m8)):FnOk P w K mg base (j4 P w) 7 f fd ["text"] (uK (j6 cP cB cU) cR cN (qW eB eT eU eN eM)):=by
 refine F.okX2 e9 fun vs H Q E h=>?_
 obtain ⟨z,rfl,hz,hok,qv,qe⟩:=h;refine ⟨rfl,fun _ _ _ _ hr=>?_⟩;refine ⟨_,(jH (jN (i:=1) e9.nd rfl (.inr rfl) (kC jC))
   (jH (jN (i:=2) e9.nd rfl (.inl rfl) (kC jC))
   (jH (jN (i:=3) e9.nd rfl (.inl rfl) (kC jC))
   (jH (vM o3 rfl (vA (kO D_rows_of hr rfl (jA (pv 0) jC))) (kL (i:=4) e9.nd rfl (.inl rfl))
    (jG (qD (vG DX_read_row vR hr rfl (jA (qB PySem.F.plainAttrs_str PySem.F.slot_str_split PySem.F.type_str_split fN (pv 4) (jA jJ jC)) (jA (pv 1) (jA (pv 2) (jA (pv 3) jC))))))))
   (jH (jV (vH (IQ (pv 1) (fun _=>rfl))) (jG (yP yN rfl rfl T.c_BadRow T.x_BadRow (jA jJ jC))) kA)
   (jG (jS (gJ M_Canal hr rfl (jA (pv 1) (jA (pv 2) (jA (zD ["night","reaches"] (qZ 1 [1]) rfl (vO (jI ZF)) (cps 1 [1]) (vA (pv 3)) (fun _ _ _ _ _=>(kL (i:=0) (show List.Nodup (["night","reaches"]:List Str) from by decide +kernel) rfl (.inl rfl))) (fun _ _ _ _ _=>v8) (fun _ _ _ _ _=>(kO D_widened hr rfl (jA (pv 0) (jA (j5 (kW K) (by rfl) T.z_len PySem.boot_len (jA (pv 1) jC)) jC))))) jC))))))))))),?_⟩
 refine ⟨Nat.zero_le _,fun rl hrl0=>⟨Nat.zero_le _,fun ll hll0=>⟨Nat.zero_le _,fun nl hnl0=>?_⟩⟩⟩;have t1:=jK hrl0 (.lst []);have t2:=jK hll0 (.lst []);have t3:=jK hnl0 (.lst []);have n12:rl≠ll:=jW (jD (H:=H) (a:=rl) (o:=.lst [])) hll0;have n13:rl≠nl:=jW (t2 _ _ (jD (H:=H) (a:=rl) (o:=.lst []))) hnl0;have n23:ll≠nl:=jW (jD (a:=ll) (o:=.lst [])) hnl0;have t13:=(t1.trans t2).trans t3;have hrl1:=t3 _ _ (t2 _ _ (jD (H:=H) (a:=rl) (o:=.lst [])));have hll1:=t3 _ _ (jD (H:=upd H rl (.lst [])) (a:=ll) (o:=.lst []));have fr:H rl=none∧H ll=none∧H nl=none:=⟨hrl0,t1.free hll0,(t1.trans t2).free hnl0⟩;have hnl1:upd (upd (upd H rl (.lst [])) ll (.lst [])) nl (.lst []) nl=some (.lst []):=jD;generalize upd (upd (upd H rl (.lst [])) ll (.lst [])) nl (.lst [])=H1 at t13 hrl1 hll1 hnl1 ⊢;clear t1 t2 t3 hrl0 hll0 hnl0;have hrd:RdX (j6 cP cB cU) cR H1 rl ll nl ([],[],[]):=⟨[],[],[],[],hrl1,hll1,hnl1,AllAt.nil,AllAt.nil,AllAt.nil,⟨rfl,fun i t h=>nomatch h⟩,n12,n13,n23⟩;refine ⟨_,rfl,z,rfl,hz,fun sl H2 s2 hsl0 hsl=>?_⟩;have hrd2:=hrd.same s2;have ns:sl≠rl∧sl≠ll∧sl≠nl:=⟨(jW hrl1 hsl0).symm,(jW hll1 hsl0).symm,(jW hnl1 hsl0).symm⟩;have s12:=t13.trans s2;have hfull:∀r∈gI z,r≠"":=fun r hr e=>by
  have:=(mem_filter.mp hr).2;rw [e] at this;exact absurd this (by decide)
 have hok:∀row∈gI z,row.length≤1000000∧Short (Txt.split row blankS)∧Txt.split row blankS≠[]:=fun row hr=>hok row (mem_filter.mp hr).1 (hfull row hr)
 have tf:qT (Txt.split z feedS)=qT (gI z):=(E5 _).symm;simp only [tf] at qv qe;clear tf;generalize gI z=rows at hok qv qe hsl hfull;refine ⟨sl,rfl,⟨_,so hsl⟩,dW (K:=K) (a:=sl) (xs:=rows.map V.str) (fun i σ Hi=>∃(c4:Option V) (Si:kM),σ=[some (.str z),some (.ref rl),some (.ref ll),some (.ref nl),c4]∧RdX (j6 cP cB cU) cR Hi rl ll nl Si∧Z6 Si∧kY rows ([],[],[])=kY (rows.drop i) Si∧lS rl ll nl H2 Hi) ⟨none,_,rfl,hrd2,⟨Nat.zero_le _,Nat.zero_le _,Nat.zero_le _⟩,rfl,fun _ _ _ _ _ e=>e⟩ ?_ ?_ ?_⟩
 ·rintro i σ Hi _ ⟨_,_,_,_,_,_,kp⟩;exact so (kp _ _ ns.1 ns.2.1 ns.2.2 hsl)
 ·rintro i v σ Hi hv ⟨c4,Si,rfl,hrd,hjo,hgr,kp⟩;obtain ⟨row,hrow,rfl⟩:=J9 hv;have hdr:rows.drop i=row::rows.drop (i+1):=by rw [drop_eq_getElem_cons (List.getElem?_eq_some_iff.mp hrow).1,(List.getElem?_eq_some_iff.mp hrow).2]
  rw [hdr] at hgr
  ·have e:=hfull row (mem_of_getElem? hrow);obtain ⟨hlr,hsh,hnw⟩:=hok row (mem_of_getElem? hrow);refine ⟨_,rfl,rfl,row,blankS,rfl,rfl,rfl,hlr,fun wl hwl0=>?_⟩;have u:=jK hwl0 (.lst ((Txt.split row blankS).map V.str));refine ⟨_,rfl,_,rfl,_,rfl,wl,rl,ll,nl,Txt.split row blankS,Si,rfl,jD,hnw,hsh,hrd.same u,hjo,fun S1 hj hjo1 H4 k4 hrd4=>?_,fun k hj H4 s4=>qe k (mZ (hgr.trans (JQ e hj))) _ (fun d o ed=>s4 _ _ (u _ _ (kp d o (jW ed fr.1) (jW ed fr.2.1) (jW ed fr.2.2) (s12 _ _ ed))))⟩;exact ⟨_,S1,rfl,hrd4,hjo1,hgr.trans (JS e hj),fun d o e1 e2 e3 ed=>k4 d o e1 e2 e3 (u _ _ (kp d o e1 e2 e3 ed))⟩
 rintro σ H3 ⟨c4,Si,rfl,⟨rs,ls,ms,N,hrl,hll,hnl,hR,hL,hN,hrel,_⟩,hjo,hgr,kp⟩;rw [length_map,drop_length] at hgr;have hgr:kY rows ([],[],[])=.ok Si:=hgr;have s3:Same H H3:=fun d o e=>kp d o (jW e fr.1) (jW e fr.2.1) (jW e fr.2.2) (s12 _ _ e)
 have hrs:rs.length=Si.1.length:=hR.1;have hms:ms.length=N.length:=hN.1;have hb8:=hjo.1;have hb6:=hjo.2.2;have hNl:=hrel.1
 by_cases hne:Si.1=[]
 ·refine ⟨_,rfl,false,.inl ⟨rs,so hrl,?_⟩,kR ⟨zz1,qe 0 (rQ hgr hne) H3 s3⟩⟩;cases rs with
  |nil=>rfl
  |cons a b=>rw [hne] at hrs;cases hrs
 have hrne:0<rs.length:=by rw [hrs];exact length_pos_iff.mpr hne
 have hpl:=hrel.len;refine ⟨_,rfl,true,.inl ⟨rs,so hrl,by cases rs with|nil=>exact absurd hrne (by decide)|cons a b=>rfl⟩,kS ?_⟩;refine ⟨_,rfl,_,rfl,_,rfl,nl,rfl,⟨_,so hnl⟩,fun D hD=>?_⟩;refine v0 (K:=K) (a:=nl) (xs:=ms) (caps:=[some (.ref rl)]) (fun i ys Hi=>AllAt (NAt [D] Hi) ys ((N.take i).map (Q0 Si.1.length))) hD (so hnl) AllAt.nil ?_ ?_
 ·rintro i v ys Hi hv hi hle sm hY hI;obtain ⟨p,hp,l,qs,rfl,hl,hq,_⟩:=hN.2 i v hv;have hi8:i<100:=by omega
  have hpn:=hpl p (mem_of_getElem? hp);refine yD (kR ?_);refine ⟨_,rfl,_,rfl,rl,_,rfl,.inl (so (sm _ _ hrl)),l,qs,p,rs.length,rfl,sm _ _ hl,hq.mono (QAt.same sm),by omega,by omega,fun g gs H5 s5 hg0 hg hG=>?_⟩;rw [hrs] at hG;refine vK hD sm hY hle (by omega) s5 ?_;rw [take_add_one,hp,map_append];exact ((hI.mono (NAt.same s5)).snoc (v:=.ref g) (x:=Q0 Si.1.length p) ⟨g,gs,rfl,hg,hG,fun z=>jW hY hg0 (mem_singleton.mp z).symm⟩).mono (NAt.put (s5 _ _ hY) (by simp))
 rintro ys H4 s4 hYD hle4 hM;rw [hms,take_length] at hM;have s14:=s3.trans s4;intro x dx nx ndx nex;have u:=fun o o'=>LU (o:=o) (o':=o') nx ndx
 refine ⟨x,dx,rl,ll,_,rs,ls,Si.1,Si.2.1,N.map (Q0 Si.1.length),rfl,jD,u _ _ _ _ (s4 _ _ hrl),u _ _ _ _ (s4 _ _ hll),(hR.mono (RcO.same s4)).mono (RcO.same (u _ _)),(hL.mono (LkO.same s4)).mono (LkO.same (u _ _)),.inr ⟨D,ys,rfl,u _ _ _ _ hYD,(hM.mono (NAt.same (u _ _))).mono (NAt.less (by simp)),by omega⟩,fun H' kp hC=>⟨rfl,?_⟩⟩;have hC:=hC [] (fun d hd=>nomatch hd);rw [hrel.wide] at hC;exact qv Si (nL hgr hne) hjo x H' (s14.trans (KC nx (u _ _) kp)) (s14.free nx) hC
theorem DR:FnScope ["script","k"] ["script","k"] (jI bK):=kG
include T in
theorem B2 {f:Addr} {fd:FuncData} (F:Fun K "_law_cell_at" "_law_cell_at" bK f fd) : FnOk P w K mg base kB 1 f fd ["script","k"] (oZ K):=by
 refine F.ok2 DR fun vs H Q E h=>?_
 obtain ⟨a,ns,k,rfl,hS,q⟩:=h;refine ⟨rfl,fun _ _ _ _ hr=>?_⟩;refine ⟨_,(jH (jV (jU zQ (pv 1) (j5 (kW K) (by rfl) T.z_len PySem.boot_len (jA (pv 0) jC))) (jG (jS (jF (jL K) (pv 0) (pv 1)))) kA)
   (jG (jS jB))),?_⟩
 refine ⟨_,rfl,_,rfl,a,_,rfl,.inl hS,_,_,rfl,rfl,_,rfl,?_⟩;refine eO (fun c=>?_) (fun c=>?_)
 ·have c':(k:Int)<(((ns.map V.int).length:Nat):Int):=of_decide_eq_true c;rw [length_map] at c';exact ⟨_,rfl,_,rfl,a,_,_,_,rfl,rfl,hS,oG (by omega),q⟩
 ·have c':¬(k:Int)<(((ns.map V.int).length:Nat):Int):=of_decide_eq_false (Bool.eq_false_iff.mpr c);rw [length_map] at c';have e:ns.getD k 0=0:=by rw [getD_eq_getElem?_getD,List.getElem?_eq_none (by omega)];rfl
  rw [e] at q;exact q
theorem DV:FnScope ["found"] ["found"] (jI cH):=kG
include T in
theorem CT {f:Addr} {fd:FuncData} (F:Fun K "_law_whole" "_law_whole" cH f fd) : FnOk P w K mg base kB 1 f fd ["found"] (wN):=by
 refine F.ok2 DV fun vs H Q E h=>?_
 obtain ⟨i,rfl,q⟩:=h;refine ⟨rfl,fun _ _ _ _ hr=>?_⟩;refine ⟨_,(jG (jS (zM (j5 (yO (K:=K)) (by rfl) T.z_isinstance PyProof.Rows.boot_isinstance (jA (pv 0) (jA (z8 (v:=.ty "int") rfl T.z_int PyProof.Rows.boot_int rfl) jC))) (yH (xZ (j5 (yO (K:=K)) (by rfl) T.z_isinstance PyProof.Rows.boot_isinstance (jA (pv 0) (jA (z8 (v:=.ty "bool") rfl T.z_bool PyProof.Rows.boot_bool rfl) jC)))))))),?_⟩;refine ⟨_,rfl,_,_,_,_,_,rfl,rfl,TyOf.int i,JT "int",true,rfl,kR ?_⟩;exact ⟨_,rfl,_,_,_,_,_,rfl,rfl,TyOf.int i,EN,false,rfl,q⟩
theorem oH {S w:Str} {i c:Nat} (h:w.cps[i]?=some c) (hb:JG S c=false):zR S w w.cps.size=false:=by
 unfold zR;rw [Bool.eq_false_iff];intro ha;rw [all_eq_true] at ha;have hm:c∈w.cps.toList.take w.cps.size:=by
  rw [take_of_length_le (by rw [Array.length_toList];exact Nat.le_refl _)];exact mem_of_getElem? (by rw [Array.getElem?_toList];exact h)
 have:=ha c hm;rw [hb] at this;cases this
def wQ:Sp:=fun vs H Q _=>∃w:Str,vs=[.str w]∧w.length≤100∧Q (.bl (jO lettersS w)) H
def xS:Sp:=fun vs H Q _=>∃w:Str,vs=[.str w]∧w.length≤100∧Q (.bl (jP w)) H
def zE (c:Nat) (w:Str):Bool:=if c=110 then jO lettersS w else if c=102 then jP w else true
def zL:List Nat→List Str→Bool
 |c::cs,w::ws=>zE c w&&zL cs ws
 |_,_=>true
theorem sU:∀{cs:List Nat} {ws:List Str} {i c:Nat} {w:Str},cs[i]?=some c→ws[i]?=some w→zE c w=false→zL cs ws=false
 |c::cs,w::ws,0,_,_,h1,h2,h=>by cases h1;cases h2;show (zE _ _&&_)=false;rw [h];rfl
 |_::cs,_::ws,i+1,_,_,h1,h2,h=>by show (_&&zL cs ws)=false;rw [sU (i:=i) h1 h2 h,Bool.and_false]
 |[],_,_,_,_,h1,_,_=>by cases h1
 |_::_,[],_,_,_,_,h2,_=>by cases h2
theorem rV:∀{cs:List Nat} {ws:List Str},(∀(i c:Nat) (w:Str),cs[i]?=some c→ws[i]?=some w→zE c w=true)→zL cs ws=true
 |[],_,_=>by cases ‹List Str›<;>rfl
 |_::_,[],_=>rfl
 |c::cs,w::ws,h=>by
  show (zE c w&&zL cs ws)=true;rw [h 0 c w rfl rfl,rV fun i c w h1 h2=>h (i+1) c w h1 h2];rfl
def tZ:Sp:=fun vs H Q _=>∃(wl:Addr) (ws:List Str) (sh:Str),vs=[.ref wl,.str sh]∧H wl=some (.lst (ws.map V.str))∧Short ws∧sh.length=ws.length∧Q (.bl (zL sh.cps.toList ws)) H
theorem lit_n:("n":Str)=⟨#[110]⟩:=by decide +kernel
theorem lit_f:("f":Str)=⟨#[102]⟩:=by decide +kernel
theorem nQ {c d:Nat} (h:(⟨#[c]⟩:Str)=⟨#[d]⟩):c=d:=(List.cons.inj (congrArg (fun z:Str=>z.cps.toList) h)).1
theorem K7 (a b c d e f g:Str):zL ("-nffffn":Str).cps.toList [a,b,c,d,e,f,g]=([b,g].all (jO lettersS)&&[c,d,e,f].all jP):=by
 rw [show ("-nffffn":Str).cps.toList=[45,110,102,102,102,102,110] by decide +kernel];show (true&&(jO lettersS b&&(jP c&&(jP d&&(jP e&&(jP f&&(jO lettersS g&&true)))))))=((jO lettersS b&&(jO lettersS g&&true))&&(jP c&&(jP d&&(jP e&&(jP f&&true)))));cases jO lettersS b<;>cases jO lettersS g<;>cases jP c<;>cases jP d<;>cases jP e<;>cases jP f<;>rfl
theorem IJ (a b c d e f g:Str):zL ("-nnnf-f":Str).cps.toList [a,b,c,d,e,f,g]=([b,c,d].all (jO lettersS)&&[e,g].all jP):=by
 rw [show ("-nnnf-f":Str).cps.toList=[45,110,110,110,102,45,102] by decide +kernel];show (true&&(jO lettersS b&&(jO lettersS c&&(jO lettersS d&&(jP e&&(true&&(jP g&&true)))))))=((jO lettersS b&&(jO lettersS c&&(jO lettersS d&&true)))&&(jP e&&(jP g&&true)));cases jO lettersS b<;>cases jO lettersS c<;>cases jO lettersS d<;>rfl
theorem IK (a b c d e:Str):zL ("-nnnf":Str).cps.toList [a,b,c,d,e]=([b,c,d].all (jO lettersS)&&[e].all jP):=by
 rw [show ("-nnnf":Str).cps.toList=[45,110,110,110,102] by decide +kernel];show (true&&(jO lettersS b&&(jO lettersS c&&(jO lettersS d&&(jP e&&true)))))=((jO lettersS b&&(jO lettersS c&&(jO lettersS d&&true)))&&(jP e&&true));cases jO lettersS b<;>cases jO lettersS c<;>cases jO lettersS d<;>rfl
theorem LR:("nff":Str).cps.toList=[110,102,102]:=by decide +kernel
theorem wV:∀qs:List (Str×Str×Str),zL (List.replicate qs.length [110,102,102]).flatten (vV qs)=((qs.map (·.1)).all (jO lettersS)&&(qs.map (·.2.1)).all jP&&(qs.map (·.2.2)).all jP)
 |[]=>rfl
 |q::qs=>by
  have ih:=wV qs;show (jO lettersS q.1&&(jP q.2.1&&(jP q.2.2&&zL (List.replicate qs.length [110,102,102]).flatten (vV qs))))=((jO lettersS q.1&&(qs.map (·.1)).all (jO lettersS))&&(jP q.2.1&&(qs.map (·.2.1)).all jP)&&(jP q.2.2&&(qs.map (·.2.2)).all jP));rw [ih];cases jO lettersS q.1<;>cases jP q.2.1<;>cases jP q.2.2<;>simp
theorem K8 (w0:Str) (qs:List (Str×Str×Str)):zL ((("-":Str)++y7 "nff" qs.length).cps.toList) (w0::vV qs)=((qs.map (·.1)).all (jO lettersS)&&(qs.map (·.2.1)).all jP&&(qs.map (·.2.2)).all jP):=by
 have e:(("-":Str)++y7 "nff" qs.length).cps.toList=45::(List.replicate qs.length [110,102,102]).flatten:=by
  show ((("-":Str).cps++(y7 "nff" qs.length).cps).toList)=_;rw [Array.toList_append,nW,LR,show ("-":Str).cps.toList=[45] by decide +kernel];rfl
 rw [e];show (true&&zL _ (vV qs))=_;rw [Bool.true_and,wV]
def gM (ws:List Str):Prop:=ws.length=7∧¬ws.getD 1 ""="sea"∧[ws.getD 1 "",ws.getD 6 ""].all (jO lettersS)=true∧[ws.getD 2 "",ws.getD 3 "",ws.getD 4 "",ws.getD 5 ""].all jP=true
def gO (ws:List Str):Prop:=Q3 ws∧[ws.getD 1 "",ws.getD 2 "",ws.getD 3 ""].all (jO lettersS)=true∧(ws.getD 4 ""::ws.drop 6).all jP=true
def gN (ws:List Str):Prop:=ws.length%3=1∧((qK ws.tail).map (·.1)).all (jO lettersS)=true∧((qK ws.tail).map (·.2.1)).all jP=true∧((qK ws.tail).map (·.2.2)).all jP=true
def QZ (ws:List Str):Prop:=(ws.getD 0 ""="reach"∧gM ws)∨(ws.getD 0 ""="lock"∧gO ws)∨(ws.getD 0 ""="night"∧gN ws)
theorem tf {b:Bool} (h:¬b=false):b=true:=by
 cases b
 ·exact absurd rfl h
 ·rfl
theorem nf {b:Bool} (h:b=true):¬b=false:=by rw [h];decide
theorem KP {ws:List Str} {S:kM} (h:¬QZ ws):qO ws S=.error 0:=by
 by_cases e1:ws.getD 0 ""="reach"
 ·have h:¬gM ws:=fun z=>h (.inl ⟨e1,z⟩)
  rw [dL e1];have:qX S.1 ws=.error 0:=by
   unfold qX
   by_cases g0:ws.length≠7∨ws.getD 1 ""="sea"
   ·exact if_pos g0
   rw [if_neg g0]
   by_cases g1:[ws.getD 1 "",ws.getD 6 ""].all (jO lettersS)=false
   ·exact if_pos g1
   rw [if_neg g1]
   by_cases g2:[ws.getD 2 "",ws.getD 3 "",ws.getD 4 "",ws.getD 5 ""].all jP=false
   ·exact if_pos g2
   exact absurd ⟨Classical.not_not.mp fun z=>g0 (.inl z),fun z=>g0 (.inr z),tf g1,tf g2⟩ h
  rw [this]
 by_cases e2:ws.getD 0 ""="lock"
 ·have h:¬gO ws:=fun z=>h (.inr (.inl ⟨e2,z⟩))
  rw [dO e2];have:qV S.1 S.2.1 ws=.error 0:=by
   by_cases g0:Q3 ws
   case neg=>exact mX g0
   by_cases g1:[ws.getD 1 "",ws.getD 2 "",ws.getD 3 ""].all (jO lettersS)=false
   ·exact rH g0 g1
   by_cases g2:(ws.getD 4 ""::ws.drop 6).all jP=false
   ·exact r9 g0 g1 g2
   exact absurd ⟨g0,tf g1,tf g2⟩ h
  rw [this]
 by_cases e3:ws.getD 0 ""="night"
 ·have h:¬gN ws:=fun z=>h (.inr (.inr ⟨e3,z⟩))
  rw [dM e3];have:vU S.1 S.2.2.length ws=.error 0:=by
   unfold vU
   by_cases g0:ws.length%3=1
   case neg=>exact if_pos g0
   rw [if_neg (fun z=>z g0)];unfold JC
   by_cases g1:((qK ws.tail).map (·.1)).all (jO lettersS)=false
   ·exact if_pos g1
   rw [if_neg g1]
   by_cases g2:((qK ws.tail).map (·.2.1)).all jP=false
   ·exact if_pos g2
   rw [if_neg g2]
   by_cases g3:((qK ws.tail).map (·.2.2)).all jP=false
   ·exact if_pos g3
   exact absurd ⟨g0,tf g1,tf g2,tf g3⟩ h
  rw [this]
 exact iM e1 e2 e3
def uJ:Sp:=fun vs H Q _=>∃(wl:Addr) (ws:List Str),vs=[.ref wl]∧H wl=some (.lst (ws.map V.str))∧ws≠[]∧Short ws∧∀(b:Bool) (H':Hp),(b=true↔QZ ws)→Same H H'→Q (.bl b) H'
def QY (ws:List Str) (S:kM) (b0 b1 b2 b3:Bool):Prop:=(b0=true→qO ws S=.error 1)∧(b0=false→b1=true→qO ws S=.error 2)∧(b0=false→b1=false→b2=true→qO ws S=.error 3)∧(b0=false→b1=false→b2=false→b3=true→qO ws S=.error 4)∧(b0=false→b1=false→b2=false→b3=false→∃S',qO ws S=.ok S')
theorem yR {b:Bool} {P:Prop} (h:b=true↔P) (hb:b=false):¬P:=fun p=>by rw [h.mpr p] at hb;cases hb
theorem ES {R:List RC} {ws:List Str} (g0:¬(ws.length≠7∨ws.getD 1 ""="sea")) (g1:¬(([ws.getD 1 "",ws.getD 6 ""].all (jO lettersS))=false)) (g2:¬(([ws.getD 2 "",ws.getD 3 "",ws.getD 4 "",ws.getD 5 ""].all jP)=false)) (g3:¬qC (jR R) (ws.getD 1 "")):qX R ws=.error 1:=by
 unfold qX;rw [if_neg g0,if_neg g1,if_neg g2];exact if_pos g3
theorem MH {ws:List Str} {S:kM} {b0 b1 b2 b3:Bool} (e:ws.getD 0 ""="reach") (hf:gM ws) (h0:b0=true↔¬qC (jR S.1) (ws.getD 1 "")) (h1:b1=true↔yL S.1 (ws.getD 6 "")=none) (h2:b2=true↔Q4 (yV ws 0)) (h3:b3=true↔8≤S.1.length):QY ws S b0 b1 b2 b3:=by
 obtain ⟨f0,f1,f2,f3⟩:=hf;have g0:¬(ws.length≠7∨ws.getD 1 ""="sea"):=fun z=>z.elim (fun z=>z f0) f1
 unfold QY;rw [dL e]
 by_cases g3:qC (jR S.1) (ws.getD 1 "")
 ·obtain ⟨t1,t2⟩:=mP (R:=S.1) g0 (nf f2) (nf f3) g3;have tg:b1=false→∃t,yL S.1 (ws.getD 6 "")=some t:=fun z=>Option.ne_none_iff_exists'.mp (yR h1 z)
  refine ⟨fun z=>absurd g3 (h0.mp z),fun _ z=>by rw [t1 (h1.mp z)],fun _ z1 z2=>?_,fun _ z1 z2 z3=>?_,fun _ z1 z2 z3=>?_⟩
  ·obtain ⟨t,ht⟩:=tg z1;rw [(t2 t ht).1 (h2.mp z2)]
  ·obtain ⟨t,ht⟩:=tg z1;rw [(t2 t ht).2.1 (yR h2 z2) (h3.mp z3)]
  ·obtain ⟨t,ht⟩:=tg z1;rw [(t2 t ht).2.2 (yR h2 z2) (yR h3 z3)];exact ⟨_,rfl⟩
 ·have hb:b0=true:=h0.mpr g3;rw [ES g0 (nf f2) (nf f3) g3];refine ⟨fun _=>rfl,fun z=>?_,fun z=>?_,fun z=>?_,fun z=>?_⟩<;>rw [hb] at z<;>cases z
theorem MJ {ws:List Str} {S:kM} {b0 b1 b2 b3:Bool} (e:ws.getD 0 ""="lock") (hf:gO ws) (h0:b0=true↔¬qC (yW S.2.1) (ws.getD 1 "")) (h1:b1=true↔(qC (jR S.1) (ws.getD 2 "")∨qC (jR S.1) (ws.getD 3 ""))) (h2:∀i j,FirstAt (jR S.1) (ws.getD 2 "") i→FirstAt (jR S.1) (ws.getD 3 "") j→(b2=true↔QJ (vD ws i j))) (h3:b3=true↔8≤S.2.1.length):QY ws S b0 b1 b2 b3:=by
 obtain ⟨f0,f1,f2⟩:=hf;unfold QY;rw [dO e]
 by_cases g3:qC (yW S.2.1) (ws.getD 1 "")
 ·obtain ⟨t1,t2⟩:=iJ (R:=S.1) f0 (nf f1) (nf f2) g3;have tg:b1=false→∃i j,FirstAt (jR S.1) (ws.getD 2 "") i∧FirstAt (jR S.1) (ws.getD 3 "") j:=fun z=>by
   have hn:=yR h1 z
   rcases JU (jR S.1) (ws.getD 2 "") with ⟨i,hi⟩|h
   ·rcases JU (jR S.1) (ws.getD 3 "") with ⟨j,hj⟩|h
    ·exact ⟨i,j,hi,hj⟩
    ·exact absurd (.inr h) hn
   ·exact absurd (.inl h) hn
  refine ⟨fun z=>absurd g3 (h0.mp z),fun _ z=>?_,fun _ z1 z2=>?_,fun _ z1 z2 z3=>?_,fun _ z1 z2 z3=>?_⟩
  ·rcases JU (jR S.1) (ws.getD 2 "") with ⟨i,hi⟩|h
   ·rcases h1.mp z with h|h
    ·exact absurd h hi.some
    ·rw [(t2 i (vP hi)).1 (QQ h)]
   ·rw [t1 (QQ h)]
  ·obtain ⟨i,j,hi,hj⟩:=tg z1;rw [((t2 i (vP hi)).2 j (vP hj)).1 ((h2 i j hi hj).mp z2)]
  ·obtain ⟨i,j,hi,hj⟩:=tg z1;rw [((t2 i (vP hi)).2 j (vP hj)).2.1 (yR (h2 i j hi hj) z2) (h3.mp z3)]
  ·obtain ⟨i,j,hi,hj⟩:=tg z1;rw [((t2 i (vP hi)).2 j (vP hj)).2.2 (yR (h2 i j hi hj) z2) (yR h3 z3)];exact ⟨_,rfl⟩
 ·have hb:b0=true:=h0.mpr g3;rw [r6 f0 (nf f1) (nf f2) g3];refine ⟨fun _=>rfl,fun z=>?_,fun z=>?_,fun z=>?_,fun z=>?_⟩<;>rw [hb] at z<;>cases z
theorem MI {ws:List Str} {S:kM} {b0 b1 b3:Bool} (e:ws.getD 0 ""="night") (hf:gN ws) (h0:b0=true↔¬((qK ws.tail).map (·.1)).Nodup) (h1:b1=true↔∃q∈qK ws.tail,qC (jR S.1) q.1) (h3:b3=true↔6≤S.2.2.length):QY ws S b0 b1 false b3:=by
 obtain ⟨f0,f1,f2,f3⟩:=hf;have hJ:vU S.1 S.2.2.length ws=zH S.1 S.2.2.length (qK ws.tail):=by
  unfold vU;rw [if_neg (fun z=>z f0)];exact mQ (nf f1) (nf f2) (nf f3)
 unfold QY;rw [dM e];refine ⟨fun z=>?_,fun z0 z=>?_,fun _ _ z=>(nomatch z),fun z0 z1 _ z3=>?_,fun z0 z1 _ z3=>?_⟩
 ·rw [hJ,uS (h0.mp z)]
 ·rw [hJ,uR (Classical.not_not.mp (yR h0 z0)) (h1.mp z)]
 ·rw [hJ,uQ (Classical.not_not.mp (yR h0 z0)) (yR h1 z1) (h3.mp z3)]
 ·rw [hJ,nG (Classical.not_not.mp (yR h0 z0)) (yR h1 z1) (yR h3 z3)];exact ⟨_,rfl⟩
theorem in_false {zs:List Str} {nm:Str}:vY (.str nm) (zs.map V.str)=false↔qC zs nm:=by
 refine ⟨fun h=>?_,xA⟩
 by_cases hn:qC zs nm
 ·exact hn
 ·rw [in_iff.mpr hn] at h;cases h
theorem not_in {zs:List Str} {nm:Str}:(!vY (.str nm) (zs.map V.str))=true↔qC zs nm:=by
 rw [Bool.not_eq_true',in_false]
theorem IC {R:List RC} {tg:Str}:yL R tg=none↔qC (jR R++[("sea":Str)]) tg:=by
 unfold yL
 by_cases e:tg="sea"
 ·rw [if_pos e];refine ⟨fun h=>(nomatch h),fun h=>absurd ?_ (h (jR R).length)⟩;rw [List.getElem?_append_right (Nat.le_refl _),Nat.sub_self,e];rfl
 ·rw [if_neg e]
  rcases JU (jR R) tg with ⟨i,hi⟩|hno
  ·rw [vP hi];refine ⟨fun h=>(nomatch h),fun h=>absurd ?_ (h i)⟩;rw [List.getElem?_append_left (List.getElem?_eq_some_iff.mp hi.1).1];exact hi.1
  ·rw [QQ hno];refine ⟨fun _ i hi=>?_,fun _=>rfl⟩
   by_cases hl:i<(jR R).length
   ·rw [List.getElem?_append_left hl] at hi;exact hno i hi
   ·rw [List.getElem?_append_right (by omega)] at hi;cases hk:i - (jR R).length with
    |zero=>rw [hk] at hi;exact e (Option.some.inj hi).symm
    |succ k=>rw [hk] at hi;cases hi
theorem dQ {zs:List Str} {nm:Str} {j:Nat} (h:FirstAt zs nm j):j<(zs.map V.str).length∧yX ((zs.map V.str).getD j .non) (.str nm)=true∧∀i,i<j→yX ((zs.map V.str).getD i .non) (.str nm)=false:=by
 have hj:=(List.getElem?_eq_some_iff.mp h.1).1;refine ⟨by rw [length_map];exact hj,?_,fun i hi=>?_⟩
 ·rw [getD_eq_getElem?_getD,List.getElem?_map,h.1];show (nm == nm)=true;exact beq_self_eq_true nm
 ·have hz:zs[i]?=some zs[i]:=List.getElem?_eq_getElem (by omega);rw [getD_eq_getElem?_getD,List.getElem?_map,hz];show (zs[i] == nm)=false;exact beq_eq_false_iff_ne.mpr fun e=>h.2 i hi (by rw [hz,e])
def LsAt (H:Hp) (tl a b c:Addr) (S:kM):Prop:=∃rs ls ns:List V,H tl=some (.lst [.ref a,.ref b,.ref c])∧H a=some (.lst rs)∧H b=some (.lst ls)∧H c=some (.lst ns)∧PlanAt [a,b,c] H rs (S.1.map PIt.reach)∧PlanAt [a,b,c] H ls (S.2.1.map PIt.lock)∧PlanAt [a,b,c] H ns (S.2.2.map PIt.night)∧a≠b∧a≠c∧b≠c∧tl≠a∧tl≠b∧tl≠c
theorem LsAt.same {H H':Hp} {tl a b c:Addr} {S:kM} (e:Same H H') (h:LsAt H tl a b c S):LsAt H' tl a b c S:=by
 obtain ⟨rs,ls,ns,h1,h2,h3,h4,h5,h6,h7,h8⟩:=h;exact ⟨rs,ls,ns,e _ _ h1,e _ _ h2,e _ _ h3,e _ _ h4,h5.same e,h6.same e,h7.same e,h8⟩
def wO:Sp:=fun vs H Q _=>∃(wl tl a b c:Addr) (ws:List Str) (S:kM),vs=[.ref wl,.ref tl]∧H wl=some (.lst (ws.map V.str))∧Short ws∧QZ ws∧LsAt H tl a b c S∧Z6 S∧∀(p:Addr) (b0 b1 b2 b3:Bool) (H':Hp),Same H H'→H' p=some (.lst [.bl b0,.bl b1,.bl b2,.bl b3])→QY ws S b0 b1 b2 b3→Q (.ref p) H'
theorem xY {R:List RC} {i:Nat} {r:RC} (h:R[i]?=some r):(jR R)[i]?=some r.name:=by unfold jR;rw [List.getElem?_map,h];rfl
theorem M4 {R:List LC} {i:Nat} {r:LC} (h:R[i]?=some r):(yW R)[i]?=some r.name:=by unfold yW;rw [List.getElem?_map,h];rfl
theorem QS {ws:List Str} {w:Str} (hsh:Short ws) (hm:w∈ws) (hn:jP w=true):w.length≤640∧PySem.intText? w=some (jX w):=⟨by have:=hsh.2 w hm;omega,sZ (hsh.2 w hm) hn⟩
theorem wI (w:Str):0≤jX w:=Int.natCast_nonneg _
theorem E9 {n:Nat} (h:n≤100):Builtin.Range.small 1 (n:Int) 3=true:=by
 have key:∀m:Nat,m<101→Builtin.Range.small 1 (m:Int) 3=true:=by decide +kernel
 exact key n (by omega)
theorem rB {zs:List Str} {nm:Str} {i:Nat} (h:yC zs nm=some i):FirstAt zs nm i:=by
 rcases JU zs nm with ⟨j,hj⟩|hn
 ·rw [vP hj] at h;cases h;exact hj
 ·rw [QQ hn] at h;cases h
theorem xV {ws:List Str} {S S':kM} (e:ws.getD 0 ""="reach") (h:qO ws S=.ok S'):∃t,yL S.1 (ws.getD 6 "")=some t∧S'=(S.1++[yV ws t],S.2.1,S.2.2)∧S.1.length<8:=by
 rw [dL e] at h;cases hr:qX S.1 ws with
 |error k=>rw [hr] at h;cases h
 |ok r =>
  rw [hr] at h;cases h;have h8:=rW hr;unfold qX at hr
  split at hr;· cases hr
  split at hr;· cases hr
  split at hr;· cases hr
  split at hr;· cases hr
  split at hr
  ·cases hr
  ·rename_i t ht
   split at hr;· cases hr
   split at hr;· cases hr
   cases hr;exact ⟨t,ht,rfl,h8⟩
theorem xX {ws:List Str} {S S':kM} (e:ws.getD 0 ""="lock") (h:qO ws S=.ok S'):∃i j,FirstAt (jR S.1) (ws.getD 2 "") i∧FirstAt (jR S.1) (ws.getD 3 "") j∧S'=(S.1,S.2.1++[vD ws i j],S.2.2)∧S.2.1.length<8:=by
 rw [dO e] at h;cases hr:qV S.1 S.2.1 ws with
 |error k=>rw [hr] at h;cases h
 |ok l =>
  rw [hr] at h;cases h;have h8:=tG hr;unfold qV at hr
  split at hr;· cases hr
  split at hr;· cases hr
  split at hr;· cases hr
  split at hr;· cases hr
  split at hr
  ·cases hr
  ·rename_i i hi
   split at hr
   ·cases hr
   ·rename_i j hj
    split at hr;· cases hr
    split at hr;· cases hr
    cases hr;exact ⟨i,j,rB hi,rB hj,rfl,h8⟩
theorem xW {ws:List Str} {S S':kM} (e:ws.getD 0 ""="night") (h:qO ws S=.ok S'):S'=(S.1,S.2.1,S.2.2++[yU S.1 (qK ws.tail)])∧S.2.2.length<6∧∀q∈qK ws.tail,∃j,FirstAt (jR S.1) q.1 j:=by
 rw [dM e] at h;cases hr:vU S.1 S.2.2.length ws with
 |error k=>rw [hr] at h;cases h
 |ok p =>
  rw [hr] at h;cases h;have h6:=(rZ hr).1;unfold vU at hr
  split at hr;· cases hr
  unfold JC at hr
  split at hr;· cases hr
  split at hr;· cases hr
  split at hr;· cases hr
  unfold zH at hr
  split at hr;· cases hr
  split at hr;· cases hr
  split at hr;· cases hr
  rename_i hno _;cases hr;refine ⟨rfl,h6,fun q hq=>?_⟩
  rcases JU (jR S.1) q.1 with h|h
  ·exact h
  ·exact absurd ⟨q,hq,h⟩ hno
theorem LsAt.addR {H:Hp} {tl a b c t:Addr} {S:kM} {r:RC} {rs:List V} (h:LsAt H tl a b c S) (ha:H a=some (.lst rs)) (ht:H t=some (.tup (zA r))):LsAt (upd H a (.lst (rs++[.ref t]))) tl a b c (S.1++[r],S.2.1,S.2.2):=by
 obtain ⟨rs',ls,ns,h1,h2,h3,h4,h5,h6,h7,d1,d2,d3,d4,d5,d6⟩:=h;rw [ha] at h2;cases h2;have k:Keep a H (upd H a (.lst (rs++[.ref t]))):=(Keep.refl a H).upd _;refine ⟨_,ls,ns,k _ _ d4 h1,jD,k _ _ d1.symm h3,k _ _ d2.symm h4,?_,h6.keep k ha (by simp),h7.keep k ha (by simp),d1,d2,d3,d4,d5,d6⟩;rw [map_append];exact (h5.snoc (v:=.ref t) (it:=.reach r) ⟨t,rfl,ht⟩).keep k ha (by simp)
theorem LsAt.addL {H:Hp} {tl a b c t:Addr} {S:kM} {r:LC} {rs:List V} (h:LsAt H tl a b c S) (ha:H b=some (.lst rs)) (ht:H t=some (.tup (eX r))):LsAt (upd H b (.lst (rs++[.ref t]))) tl a b c (S.1,S.2.1++[r],S.2.2):=by
 obtain ⟨rs',ls,ns,h1,h2,h3,h4,h5,h6,h7,d1,d2,d3,d4,d5,d6⟩:=h;rw [ha] at h3;cases h3;have k:Keep b H (upd H b (.lst (rs++[.ref t]))):=(Keep.refl b H).upd _;refine ⟨rs',_,ns,k _ _ d5 h1,k _ _ d1 h2,jD,k _ _ d3.symm h4,h5.keep k ha (by simp),?_,h7.keep k ha (by simp),d1,d2,d3,d4,d5,d6⟩;rw [map_append];exact (h6.snoc (v:=.ref t) (it:=.lock r) ⟨t,rfl,ht⟩).keep k ha (by simp)
theorem LsAt.addN {H:Hp} {tl a b c t:Addr} {S:kM} {ts:List (Nat×Int×Int)} {rs:List V} (h:LsAt H tl a b c S) (ha:H c=some (.lst rs)) (ht:ItAt [a,b,c] H (.ref t) (.night ts)):LsAt (upd H c (.lst (rs++[.ref t]))) tl a b c (S.1,S.2.1,S.2.2++[ts]):=by
 obtain ⟨rs',ls,ns,h1,h2,h3,h4,h5,h6,h7,d1,d2,d3,d4,d5,d6⟩:=h;rw [ha] at h4;cases h4;have k:Keep c H (upd H c (.lst (rs++[.ref t]))):=(Keep.refl c H).upd _;refine ⟨rs',ls,_,k _ _ d6 h1,k _ _ d2 h2,k _ _ d3 h3,jD,h5.keep k ha (by simp),h6.keep k ha (by simp),?_,d1,d2,d3,d4,d5,d6⟩;rw [map_append];exact (h7.snoc (v:=.ref t) (it:=.night ts) ht).keep k ha (by simp)
def xQ:Sp:=fun vs H Q _=>∃(wl tl a b c:Addr) (ws:List Str) (S S':kM),vs=[.ref wl,.ref tl]∧H wl=some (.lst (ws.map V.str))∧Short ws∧QZ ws∧LsAt H tl a b c S∧Z6 S∧qO ws S=.ok S'∧∀H':Hp,lS a b c H H'→LsAt H' tl a b c S'→Q .non H'
def JGood (S:kM):Prop:=Z6 S∧(∀ts∈S.2.2,∀q∈ts,q.1<S.1.length)∧∀l∈S.2.1,l.kd=.plain→l.extra=0
theorem JGood.nil:JGood ([],[],[]):=⟨⟨Nat.zero_le _,Nat.zero_le _,Nat.zero_le _⟩,fun ts h=>(nomatch h),fun l h=>nomatch h⟩
theorem sW {ws:List Str} {S S':kM} (g:JGood S) (h:qO ws S=.ok S'):JGood S':=by
 obtain ⟨⟨g1,g2,g3⟩,g4,g5⟩:=g
 by_cases e1:ws.getD 0 ""="reach"
 ·obtain ⟨t,_,rfl,h8⟩:=xV e1 h;refine ⟨⟨by show (S.1++[yV ws t]).length≤8;rw [length_append];show _+1≤8;omega,g2,g3⟩,fun ts hts q hq=>?_,g5⟩;show q.1<(S.1++[yV ws t]).length;rw [length_append];have:=g4 ts hts q hq;omega
 by_cases e2:ws.getD 0 ""="lock"
 ·obtain ⟨i,j,_,_,rfl,h8⟩:=xX e2 h;refine ⟨⟨g1,by show (S.2.1++[vD ws i j]).length≤8;rw [length_append];show _+1≤8;omega,g3⟩,g4,fun l hl hk=>?_⟩
  rcases mem_append.mp hl with hl|hl
  ·exact g5 l hl hk
  ·obtain rfl:=mem_singleton.mp hl;have hk:QL ws=.plain:=hk;show (if ws.length=5 then (0:Int) else jX (ws.getD 6 ""))=0
   by_cases h5:ws.length=5
   ·exact if_pos h5
   ·unfold QL at hk;rw [if_neg h5] at hk
    split at hk<;>cases hk
 by_cases e3:ws.getD 0 ""="night"
 ·obtain ⟨rfl,h6,hpl⟩:=xW e3 h;refine ⟨⟨g1,g2,by show (S.2.2++[yU S.1 (qK ws.tail)]).length≤6;rw [length_append];show _+1≤6;omega⟩,fun ts hts q hq=>?_,g5⟩
  rcases mem_append.mp hts with hts|hts
  ·exact g4 ts hts q hq
  ·rw [mem_singleton.mp hts] at hq;exact oW hpl q hq
 rw [iM e1 e2 e3] at h;cases h
theorem mU:∀{rows:List Str} {S S':kM},JGood S→kY rows S=.ok S'→JGood S'
 |[],S,S',g,h=>by rw [kY] at h;cases h;exact g
 |row::rest,S,S',g,h=>by
  by_cases e:row=""
  ·rw [dJ e] at h;exact mU g h
  ·cases hr:qO (Txt.split row blankS) S with
   |error k=>rw [JQ e hr] at h;cases h
   |ok S1=>rw [JS e hr] at h;exact mU (sW g hr) h
theorem E4 {rows:List Str} {S:kM} (h:qT rows=.ok S):JGood S∧S.1≠[]:=by
 unfold qT at h;cases hr:kY rows ([],[],[]) with
 |error k=>rw [hr] at h;cases h
 |ok S1 =>
  rw [hr] at h;have h:(if S1.1=[] then Except.error 0 else .ok S1)=.ok S:=h
  by_cases e:S1.1=[]
  ·rw [if_pos e] at h;cases h
  ·rw [if_neg e] at h;cases h;exact ⟨mU JGood.nil hr,e⟩
theorem mK:∀(rows:List Str) (S:kM),kY (rows.filter z4) S=kY rows S
 |[],S=>rfl
 |row::rest,S=>by
  by_cases e:row=""
  ·rw [filter_cons,if_neg (by rw [e,oB];decide),dJ e];exact mK rest S
  ·rw [filter_cons,if_pos (by unfold z4;rw [decide_eq_false e];rfl)];cases hr:qO (Txt.split row blankS) S with
   |error k=>rw [JQ e hr,JQ e hr]
   |ok S1=>rw [JS e hr,JS e hr];exact mK rest S1
theorem IH {ws:List Str} {S:kM} {b0 b1 b2 b3:Bool} (h:QY ws S b0 b1 b2 b3):∀i:Nat,i<4→[b0,b1,b2,b3].getD i false=true→(∀j,j<i→[b0,b1,b2,b3].getD j false=false)→qO ws S=.error (i+1)
 |0,_,h1,_=>h.1 h1
 |1,_,h1,h2=>h.2.1 (h2 0 (by decide)) h1
 |2,_,h1,h2=>h.2.2.1 (h2 0 (by decide)) (h2 1 (by decide)) h1
 |3,_,h1,h2=>h.2.2.2.1 (h2 0 (by decide)) (h2 1 (by decide)) (h2 2 (by decide)) h1
 |n+4,hn,_,_=>absurd hn (by omega)
def JI (S:kM):List PIt:=S.1.map PIt.reach++S.2.1.map PIt.lock++S.2.2.map PIt.night
theorem eI:∀R:List RC,(R.map PIt.reach).filterMap JJ=R∧(R.map PIt.reach).filterMap JK=[]∧∀n,(R.map PIt.reach).filterMap (zB n)=[]
 |[]=>⟨rfl,rfl,fun _=>rfl⟩
 |r::R=>⟨by show r::(R.map PIt.reach).filterMap JJ=_;rw [(eI R).1],(eI R).2.1,(eI R).2.2⟩
theorem eK:∀R:List LC,(R.map PIt.lock).filterMap JJ=[]∧(R.map PIt.lock).filterMap JK=R∧∀n,(R.map PIt.lock).filterMap (zB n)=[]
 |[]=>⟨rfl,rfl,fun _=>rfl⟩
 |r::R=>⟨(eK R).1,by show r::(R.map PIt.lock).filterMap JK=_;rw [(eK R).2.1],(eK R).2.2⟩
theorem eJ:∀R:List (List (Nat×Int×Int)),(R.map PIt.night).filterMap JJ=[]∧(R.map PIt.night).filterMap JK=[]∧∀n,(R.map PIt.night).filterMap (zB n)=R.map (qM n)
 |[]=>⟨rfl,rfl,fun _=>rfl⟩
 |r::R=>⟨(eJ R).1,(eJ R).2.1,fun n=>by show qM n r::(R.map PIt.night).filterMap (zB n)=_;rw [(eJ R).2.2 n];rfl⟩
theorem L3 (S:kM):kI (JI S)=S.1∧kU (JI S)=S.2.1∧fL (JI S)=S.2.2.map (qM S.1.length):=by
 have e1:kI (JI S)=S.1:=by
  unfold kI JI;rw [filterMap_append,filterMap_append,(eI _).1,(eK _).1,(eJ _).1,append_nil,append_nil]
 refine ⟨e1,?_,?_⟩
 ·unfold kU JI;rw [filterMap_append,filterMap_append,(eI _).2.1,(eK _).2.1,(eJ _).2.1,append_nil,nil_append]
 ·unfold fL;rw [e1];unfold JI;rw [filterMap_append,filterMap_append,(eI _).2.2,(eK _).2.2,(eJ _).2.2,nil_append,nil_append]
theorem GX {S:kM} {ts:List (Nat×Int×Int)} (h:PIt.night ts∈JI S):ts∈S.2.2:=by
 unfold JI at h
 rcases mem_append.mp h with h|h
 ·rcases mem_append.mp h with h|h
  ·obtain ⟨_,_,e⟩:=mem_map.mp h;cases e
  ·obtain ⟨_,_,e⟩:=mem_map.mp h;cases e
 ·obtain ⟨x,hx,e⟩:=mem_map.mp h;cases e;exact hx
theorem PlanAt.app {D:List Addr} {H:Hp} {vs us:List V} {xs ys:List PIt} (h:PlanAt D H vs xs) (h':PlanAt D H us ys):PlanAt D H (vs++us) (xs++ys):=by
 refine ⟨by rw [length_append,length_append,h.1,h'.1],fun i v hv=>?_⟩
 by_cases hl:i<vs.length
 ·rw [List.getElem?_append_left hl] at hv;rw [List.getElem?_append_left (by rw [← h.1];exact hl)];exact h.2 i v hv
 ·rw [List.getElem?_append_right (by omega)] at hv;rw [List.getElem?_append_right (by rw [← h.1];omega),← h.1];exact h'.2 _ v hv
theorem PlanAt.fresh {D:List Addr} {H:Hp} {vs:List V} {its:List PIt} {p:Addr} (h:PlanAt D H vs its) (hp:H p=none):PlanAt [p] H vs its:=by
 refine ⟨h.1,fun i v hv=>?_⟩;obtain ⟨it,h1,h2⟩:=h.2 i v hv;refine ⟨it,h1,?_⟩;cases it with
 |reach r=>exact h2
 |lock l=>exact h2
 |night ts =>
  obtain ⟨t,l,rs,g1,g2,g3,g4,g5⟩:=h2;exact ⟨t,l,rs,g1,g2,g3,g4,fun z=>jW g3 hp (mem_singleton.mp z)⟩
def oK:Sp:=fun vs H Q _=>∃(pl:Addr) (us:List V) (its:List PIt),vs=[.ref pl]∧H pl=some (.lst us)∧PlanAt [pl] H us its∧its.length≤29∧(∀ts,.night ts∈its→∀q∈ts,q.1<(kI its).length)∧
 ∀(t rl ll nl:Addr) (rs ls ns:List V) (H':Hp),Same H H'→H' t=some (.tup [.ref rl,.ref ll,.ref nl])→H' rl=some (.lst rs)→H' ll=some (.lst ls)→H' nl=some (.lst ns)→AllAt (RAt H') rs (kI its)→AllAt (LAt H') ls (kU its)→AllAt (NAt [rl,ll,nl] H') ns (fL its)→Q (.ref t) H'
def wG (rows:List Str):Prop:=∀row∈rows,row≠""→row.length≤1000000∧Short (Txt.split row blankS)∧Txt.split row blankS≠[]
def uG:Sp:=fun vs H Q _=>∃(rl:Addr) (rows:List Str),vs=[.ref rl]∧H rl=some (.lst (rows.map V.str))∧rows.length≤100∧wG rows∧(∀k:Nat,qT rows=.error k→∀H',Same H H'→Q (.int (k:Int)) H')∧∀(S:kM) (t:Addr) (H':Hp),qT rows=.ok S→Same H H'→DueAt [] H' t S.1 S.2.1 (S.2.2.map (qM S.1.length))→Q (.ref t) H'
abbrev gF (z:Str):Prop:=10∉z.cps.toList
def QD (w:Str):Prop:=w.length≤60∧32∉w.cps.toList∧gF w
def RowOk (t:Nat) (row:Str):Prop:=gF row∧row.length≤4500∧(Txt.split row blankS).length≤70+t∧∀w∈Txt.split row blankS,w.length≤60
theorem tE {c x:Nat}:∀{ps:List (List Nat)} {p:List Nat},p∈ps→x∈p→x∈QG c ps
 |[q],p,hp,hx=>by rw [mem_singleton.mp hp] at hx;exact hx
 |q::q2::r,p,hp,hx=>by
  rcases mem_cons.mp hp with rfl|hp
  ·exact mem_append_left _ hx
  ·exact mem_append_right _ (mem_cons_of_mem _ (tE hp hx))
theorem GA {row w:Str} (hw:w∈Txt.split row blankS) {x:Nat} (hx:x∈w.cps.toList):x∈row.cps.toList:=by
 have h:=fO 32 (Txt.split row blankS);rw [show (⟨#[32]⟩:Str)=blankS from rfl,StrLaws.join_split] at h;rw [h];exact tE (mem_map.mpr ⟨w,hw,rfl⟩) hx
theorem RowOk.word {t:Nat} {row w:Str} (h:RowOk t row) (hw:w∈Txt.split row blankS):QD w:=⟨h.2.2.2 w hw,StrLaws.split_free row 32 w hw,fun z=>h.1 (GA hw z)⟩
theorem RowOk.of_words {t:Nat} {ws:List Str} (h0:ws≠[]) (hl:ws.length≤70+t) (ht:t≤3) (hw:∀w∈ws,QD w):RowOk t (Str.join blankS ws):=by
 have hs:Txt.split (Str.join blankS ws) blankS=ws:=mT 32 h0 fun p hp=>(hw p hp).2.1
 refine ⟨fun hc=>?_,?_,by rw [hs];exact hl,fun w hm=>by rw [hs] at hm;exact (hw w hm).1⟩
 ·unfold blankS at hc;rw [fO] at hc
  rcases tJ hc with hc|⟨p,hp,hx⟩
  ·omega
  ·obtain ⟨z,hz,rfl⟩:=mem_map.mp hp;exact (hw z hz).2.2 hx
 ·have h1:=StrLaws.join_length_le blankS ws;have h2:=fZ (B:=60) ws (fun w hm=>(hw w hm).1);have h3:ws.length*60≤73*60:=Nat.mul_le_mul_right _ (by omega);have h4:ws.length*blankS.length≤73*1:=Nat.mul_le_mul (by omega) (Nat.le_refl 1);have h5:(ws.map (·.length)).sum=ZU ws:=rfl;omega
theorem RowOk.of_short {z:Str} (h1:gF z) (h2:z.length≤60):RowOk 0 z:=by
 have hs:=m7 z blankS (Nat.le_refl 1);refine ⟨h1,by omega,by omega,fun w hw=>?_⟩;have:=PySem.join_mem_le blankS _ w hw;rw [StrLaws.join_split] at this;omega
theorem RowOk.more {t t':Nat} {row:Str} (h:RowOk t row) (ht:t≤t'):RowOk t' row:=⟨h.1,h.2.1,by have:=h.2.2.1;omega,h.2.2.2⟩
theorem RowOk.fine {t:Nat} {rows:List Str} (ht:t≤3) (h:∀row∈rows,RowOk t row):wG rows:=fun row hm _=>by
 obtain ⟨h1,h2,h3,h4⟩:=h row hm;exact ⟨by omega,⟨by omega,fun w hw=>by have:=h4 w hw;omega⟩,iS _ _ (Nat.le_refl 1)⟩
def Bd (n:Nat) (z:Str):Prop:=gF z∧z.length≤n
theorem Bd.app {m n:Nat} {a b:Str} (h:Bd m a) (h':Bd n b):Bd (m+n) (a++b):=by
 refine ⟨fun hc=>?_,by rw [Str.length_append];have:=h.2;have:=h'.2;omega⟩;have hc:10∈(a.cps++b.cps).toList:=hc;rw [Array.toList_append] at hc
 rcases mem_append.mp hc with hc|hc
 ·exact h.1 hc
 ·exact h'.1 hc
theorem Bd.sz {m n:Nat} {a b:Str} (h:Bd m a) (h':Bd n b) (hs:m+n≤1000):a.length+b.length≤sizeLine:=small (by have:=h.2;have:=h'.2;omega)
theorem kE {n:Nat} {z:Str} (h:(decide (10∉z.cps.toList)&&decide (z.length≤n))=true):Bd n z:=by
 rw [Bool.and_eq_true] at h;exact ⟨of_decide_eq_true h.1,of_decide_eq_true h.2⟩
theorem Bd.row {n:Nat} {z:Str} (h:Bd n z) (hn:n≤60):RowOk 0 z:=RowOk.of_short h.1 (by have:=h.2;omega)
def NmAt (H:Hp) (nl:Addr):Prop:=∃nms:List Str,H nl=some (.lst (nms.map V.str))∧2≤nms.length∧∀n∈nms,n.length≤12∧∀c∈n.cps.toList,97≤c
theorem NmAt.same {H H':Hp} {nl:Addr} (e:Same H H') (h:NmAt H nl):NmAt H' nl:=by obtain ⟨nms,h1,h2⟩:=h;exact ⟨nms,e _ _ h1,h2⟩
theorem kP {n:Str} (h:n.length≤12∧∀c∈n.cps.toList,97≤c):Bd 12 n:=⟨fun z=>by have:=h.2 10 z;omega,h.1⟩
theorem xB {n:Str} (h:n.length≤12∧∀c∈n.cps.toList,97≤c):QD n:=⟨by omega,fun z=>by have:=h.2 32 z;omega,fun z=>by have:=h.2 10 z;omega⟩
theorem NmAt.two {H:Hp} {nl:Addr} (h:NmAt H nl):∃(xs:List V) (n1 n2:Str),H nl=some (.lst xs)∧kQ xs 0=some (V.str n1)∧kQ xs 1=some (V.str n2)∧(n1.length≤12∧∀c∈n1.cps.toList,97≤c)∧(n2.length≤12∧∀c∈n2.cps.toList,97≤c):=by
 obtain ⟨nms,h1,h2,h3⟩:=h
 match nms,h1,h2,h3 with
 |n1::n2::r,h1,_,h3=>exact ⟨_,n1,n2,h1,q9 (j:=0) rfl,q9 (j:=1) rfl,h3 n1 (by simp),h3 n2 (by simp)⟩
theorem lK {zs:List Str} {i:Int} (h0:0≤i) (h1:i<(zs.length:Int)):∃z∈zs,kQ (zs.map V.str) i=some (.str z):=by
 have hl:i.toNat<zs.length:=by omega
 have h:=q9 (xs:=zs.map V.str) (j:=i.toNat) (v:=.str zs[i.toNat]) (by rw [List.getElem?_map,List.getElem?_eq_getElem hl];rfl);rw [show ((i.toNat:Nat):Int)=i by omega] at h;exact ⟨_,List.getElem_mem hl,h⟩
def sS:Sp:=fun vs H Q _=>∃(way:Int) (nl:Addr),vs=[.int way,.ref nl]∧NmAt H nl∧∀(rows:List Str) (p:Addr) (H':Hp),rows.length≤9→(∀row∈rows,RowOk 0 row)→Same H H'→H' p=some (.lst (rows.map V.str))→Q (.ref p) H'
def signsZ:Str:="bdfhjlnpr"
theorem II {i c:Nat} (h:signsZ.cps[i]?=some c):i<9∧97≤c:=by
 have hl:signsZ.cps.size=9:=by decide +kernel
 have ha:(signsZ.cps.toList.all fun c=>decide (97≤c))=true:=by decide +kernel
 refine ⟨by have:=(Array.getElem?_eq_some_iff.mp h).1;omega,of_decide_eq_true (all_eq_true.mp ha c (mem_of_getElem? (by rw [Array.getElem?_toList];exact h)))⟩
theorem JV {c:Nat} (h:97≤c):Bd 1 (⟨#[c]⟩:Str):=⟨fun z=>by have:(10:Nat)∈[c]:=z;rw [mem_singleton] at this;omega,Nat.le_refl 1⟩
def sR:Sp:=fun vs H Q _=>∃(cell:Int) (rl nl:Addr) (place t:Nat) (rows:List Str),vs=[.int cell,.ref rl,.int (place:Int),.ref nl]∧H rl=some (.lst (rows.map V.str))∧rows≠[]∧rows.length≤100∧(∀row∈rows,RowOk t row)∧t≤3∧NmAt H nl∧∀(w:Str) (H':Hp),QD w→Same H H'→Q (.str w) H'
def uL:Sp:=fun vs H Q _=>∃(cell:Int) (nl gl:Addr),vs=[.int cell,.ref nl,.ref gl]∧NmAt H nl∧NmAt H gl∧∀(z:Str) (H':Hp),RowOk 0 z→Same H H'→Q (.str z) H'
def sO:Sp:=fun vs H Q _=>∃(rl nl gl:Addr) (cell:Int) (t:Nat) (rows:List Str),vs=[.ref rl,.int cell,.ref nl,.ref gl]∧H rl=some (.lst (rows.map V.str))∧rows≠[]∧rows.length≤80∧(∀row∈rows,RowOk t row)∧t+1≤3∧NmAt H nl∧NmAt H gl∧∀(rows':List Str) (p:Addr) (H':Hp),rows'≠[]→rows'.length≤rows.length+9→(∀row∈rows',RowOk (t+1) row)→Same H H'→H' p=some (.lst (rows'.map V.str))→Q (.ref p) H'
def wordsZ:List Str:=[("":Str),("sea":Str),("0":Str),("1":Str),("00":Str),("10":Str),("9":Str),("999999999999":Str),("1000000000000":Str),("reach":Str),("lock":Str),("night":Str)]
def JW:List Str:=[("basin":Str),("pump":Str),("plain":Str),("a":Str),("A":Str),("a1":Str),("-1":Str),("abcdefghijklm":Str),("1\t":Str)]
theorem H0:∀w∈wordsZ++JW,QD w:=by
 have h:((wordsZ++JW).all fun w=>decide (w.length≤60)&&decide (32∉w.cps.toList)&&decide (10∉w.cps.toList))=true:=by decide +kernel
 intro w hw;have:=all_eq_true.mp h w hw;rw [Bool.and_eq_true,Bool.and_eq_true] at this;exact ⟨of_decide_eq_true this.1.1,of_decide_eq_true this.1.2,of_decide_eq_true this.2⟩
theorem wD {rows:List Str} {k:Nat} (h:k≤rows.length):qS (rows.map V.str) none (some (k:Int))=(rows.take k).map V.str:=by
 unfold qS;rw [HT.sIx_none,HT.sIx_nat,length_map,Nat.min_eq_left h,drop_zero,Nat.sub_zero,map_take]
theorem KW {rows:List Str} {k:Nat} (h:k≤rows.length):qS (rows.map V.str) (some (k:Int)) none=(rows.drop k).map V.str:=by
 unfold qS;rw [HT.sIx_none,HT.sIx_nat,length_map,Nat.min_eq_left h,← map_drop,take_of_length_le (by rw [length_map,length_drop];exact Nat.le_refl _)]
theorem tF {w:Str}:∀{ws:List Str} {k:Nat},w∈ws.eraseIdx k→w∈ws
 |[],_,h=>by cases h
 |x::xs,0,h=>mem_cons_of_mem _ h
 |x::xs,k+1,h=>by
  rcases mem_cons.mp h with h|h
  ·exact mem_cons.mpr (.inl h)
  ·exact mem_cons_of_mem _ (tF h)
theorem tO:∀(ws:List Str) (k:Nat),(ws.map V.str).eraseIdx k=(ws.eraseIdx k).map V.str
 |[],_=>rfl
 |x::xs,0=>rfl
 |x::xs,k+1=>congrArg (V.str x :: ·) (tO xs k)
theorem set_map (ws:List Str) (k:Nat) (w:Str):(ws.map V.str).set k (V.str w)=(ws.set k w).map V.str:=by rw [map_set]
theorem KL:Str.join blankS []=("":Str):=by decide +kernel
theorem LB {t:Nat} {ws:List Str} (hl:ws.length≤70+t) (ht:t≤3) (hw:∀w∈ws,QD w):RowOk t (Str.join blankS ws):=by
 by_cases h:ws=[]
 ·rw [h,KL];exact (RowOk.of_short (by decide +kernel) (by decide +kernel)).more (Nat.zero_le _)
 ·exact RowOk.of_words h hl ht hw
theorem HS {rows:List Str} {k:Nat} (h:k<rows.length):qS (rows.map V.str) (some ((k:Int)+1)) none=(rows.drop (k+1)).map V.str:=by
 rw [show (k:Int)+1=((k+1:Nat):Int) by omega];exact KW h
theorem HR {rows:List Str} {k:Nat} (h:k<rows.length):qS (rows.map V.str) none (some ((k:Int)+1))=(rows.take (k+1)).map V.str:=by
 rw [show (k:Int)+1=((k+1:Nat):Int) by omega];exact wD h
theorem QK {A B:List V} {m n:Nat} (h:A.length≤m) (h':B.length≤n) (hs:m+n≤1000):A.length+B.length≤sizeLine:=small (Nat.le_trans (Nat.add_le_add h h') hs)
theorem eW {A B:List V} {m n:Nat} (h:A.length≤m) (h':B.length≤n):(A++B).length≤m+n:=by rw [length_append];exact Nat.add_le_add h h'
theorem uX {n m:Nat} (h:0<n) (e:n - 1=m):zU n (-1)=some m:=by
 unfold zU;rw [if_neg (by decide),if_pos (by omega)];exact congrArg some (by omega)
theorem atI_last {ws:List Str} (h:0<ws.length):kQ (ws.map V.str) (-1)=some (V.str ws[ws.length - 1]):=by
 unfold kQ;rw [length_map,uX h rfl];show (ws.map V.str)[ws.length - 1]?=_;rw [List.getElem?_map,List.getElem?_eq_getElem (by omega)];rfl
theorem EW {K:W.Frag}:W.kitOne K (.type "tuple") (.type "int")=some false:=by kernel_rfl
theorem GG {R:List RC} {ws:List Str} {k:Nat} (h:qX R ws=.error k):k≤4:=by
 unfold qX at h
 repeat' split at h
 all_goals first|(cases h;decide)|cases h
theorem KH {R:List RC} {L:List LC} {ws:List Str} {k:Nat} (h:qV R L ws=.error k):k≤4:=by
 unfold qV at h
 repeat' split at h
 all_goals first|(cases h;decide)|cases h
theorem GS {R:List RC} {n:Nat} {ws:List Str} {k:Nat} (h:vU R n ws=.error k):k≤4:=by
 unfold vU JC zH at h
 repeat' split at h
 all_goals first|(cases h;decide)|cases h
theorem LD {ws:List Str} {S:kM} {k:Nat} (h:qO ws S=.error k):k≤4:=by
 by_cases e1:ws.getD 0 ""="reach"
 ·rw [dL e1] at h;cases hr:qX S.1 ws with
  |error j=>rw [hr] at h;cases h;exact GG hr
  |ok r=>rw [hr] at h;cases h
 by_cases e2:ws.getD 0 ""="lock"
 ·rw [dO e2] at h;cases hr:qV S.1 S.2.1 ws with
  |error j=>rw [hr] at h;cases h;exact KH hr
  |ok r=>rw [hr] at h;cases h
 by_cases e3:ws.getD 0 ""="night"
 ·rw [dM e3] at h;cases hr:vU S.1 S.2.2.length ws with
  |error j=>rw [hr] at h;cases h;exact GS hr
  |ok r=>rw [hr] at h;cases h
 rw [iM e1 e2 e3] at h;cases h;decide
theorem nR:∀{rows:List Str} {S:kM} {k:Nat},kY rows S=.error k→k≤4
 |[],S,k,h=>by rw [kY] at h;cases h
 |row::rest,S,k,h=>by
  by_cases e:row=""
  ·rw [dJ e] at h;exact nR h
  ·cases hr:qO (Txt.split row blankS) S with
   |error j=>rw [JQ e hr] at h;cases h;exact LD hr
   |ok S1=>rw [JS e hr] at h;exact nR h
theorem ID {rows:List Str} {k:Nat} (h:qT rows=.error k):k≤4:=by
 unfold qT at h;cases hr:kY rows ([],[],[]) with
 |error j=>rw [hr] at h;cases h;exact nR hr
 |ok S =>
  rw [hr] at h;have h:(if S.1=[] then Except.error 0 else .ok S)=.error k:=h
  by_cases e:S.1=[]
  ·rw [if_pos e] at h;cases h;decide
  ·rw [if_neg e] at h;cases h
theorem FZ {rows:List Str} (h:∀row∈rows,gF row):qT (Txt.split (Str.join feedS rows) feedS)=qT rows∧∀row∈Txt.split (Str.join feedS rows) feedS,row≠""→row∈rows:=by
 by_cases e:rows=[]
 ·rw [e,show Txt.split (Str.join feedS []) feedS=[("":Str)] by decide +kernel];refine ⟨by unfold qT;rw [dJ rfl],fun row hm hne=>?_⟩;exact absurd (mem_singleton.mp hm) hne
 ·rw [show Txt.split (Str.join feedS rows) feedS=rows from mT 10 e h];exact ⟨rfl,fun row hm _=>hm⟩
def o4 (k:Nat):List V:=(List.range 6).map fun i:Nat=>V.bl (decide (i=k))
def wU (cs:Kd→Addr) (cR cN:Addr):Sp:=fun vs H Q _=>∃(rl:Addr) (due:V) (rows:List Str) (t:Nat),vs=[.ref rl,due]∧H rl=some (.lst (rows.map V.str))∧rows.length≤80∧t≤3∧(∀row∈rows,RowOk t row)∧((∃k:Nat,due=.int (k:Int)∧qT rows=.error k)∨∃(a:Addr) (S:kM),due=.ref a∧qT rows=.ok S∧DueAt [] H a S.1 S.2.1 (S.2.2.map (qM S.1.length)))∧∀H',Same H H'→Q (.bl true) H'
structure NamesOk (rn gn:Nat→List Nat):Prop where
 rlen:∀k,k<8→1≤(rn k).length∧(rn k).length≤12
 rlet:∀k,k<8→∀c∈rn k,97≤c∧c≤122
 rinj:∀j k,j<8→k<8→rn j=rn k→j=k
 rsea:∀k,k<8→rn k≠seaL
 glen:∀k,k<8→1≤(gn k).length∧(gn k).length≤12
 glet:∀k,k<8→∀c∈gn k,97≤c∧c≤122
 ginj:∀j k,j<8→k<8→gn j=gn k→j=k
theorem EU {c0 c1:Int} (h0:0≤c0) (h1:0≤c1):NamesOk (qH c0) (yJ c0 c1) :=
 ⟨fun k hk=>nB c0 hk,fun k _=>nA c0 k,fun j k hj hk e=>nE h0 hj hk e,fun k _=>m9 c0 k,fun k hk=>HI c0 c1 hk,fun k _=>HH c0 c1 k,fun j k hj hk e=>HJ h0 h1 hj hk e⟩
theorem NamesOk.name {rn gn:Nat→List Nat} (n:NamesOk rn gn) {k:Nat} (hk:k<8):QH (jM (rn k)):=tD (n.rlen k hk).1 (n.rlen k hk).2 (n.rlet k hk)
theorem NamesOk.gname {rn gn:Nat→List Nat} (n:NamesOk rn gn) {k:Nat} (hk:k<8):QH (jM (gn k)):=tD (n.glen k hk).1 (n.glen k hk).2 (n.glet k hk)
theorem NamesOk.nsea {rn gn:Nat→List Nat} (n:NamesOk rn gn) {k:Nat} (hk:k<8):jM (rn k)≠"sea":=fun e=>n.rsea k hk (dS (e.trans iU))
theorem xU {rn gn:Nat→List Nat} {its:List PIt} {a b c:Nat} (h:PlanOk rn gn its a b c) {i:Nat} (hi:i<a):(jR (kI its))[i]?=some (jM (rn i)):=by
 have hl:i<(kI its).length:=by rw [(z7 h).1];exact hi
 unfold jR;rw [List.getElem?_map,List.getElem?_eq_getElem hl];exact congrArg some ((rX h).1 i _ (List.getElem?_eq_getElem hl)).2.1
theorem xT {rn gn:Nat→List Nat} {its:List PIt} {a b c:Nat} (h:PlanOk rn gn its a b c) {i:Nat} {z:Str} (hz:(jR (kI its))[i]?=some z):i<a∧z=jM (rn i):=by
 have hl:=(List.getElem?_eq_some_iff.mp hz).1;unfold jR at hl;rw [length_map,(z7 h).1] at hl;rw [xU h hl] at hz;exact ⟨hl,(Option.some.inj hz).symm⟩
theorem M2 {rn gn:Nat→List Nat} {its:List PIt} {a b c:Nat} (h:PlanOk rn gn its a b c) {i:Nat} {z:Str} (hz:(yW (kU its))[i]?=some z):i<b∧z=jM (gn i):=by
 unfold yW at hz;rw [List.getElem?_map] at hz;cases hl:(kU its)[i]? with
 |none=>rw [hl] at hz;cases hz
 |some l =>
  rw [hl] at hz;cases hz;obtain ⟨_,h2,h3⟩:=(rX h).2 i l hl;exact ⟨h3,h2⟩
theorem lJ {rn gn:Nat→List Nat} (n:NamesOk rn gn) {its:List PIt} {a b c:Nat} (h:PlanOk rn gn its a b c) {i:Nat} (hi:i<a):FirstAt (jR (kI its)) (jM (rn i)) i:=by
 have hb:=h.bounds.1;refine ⟨xU h hi,fun j hj e=>?_⟩;obtain ⟨h1,h2⟩:=xT h e;have:=n.rinj i j (by omega) (by omega) (dS h2);omega
theorem rF {rn:Nat→List Nat} (hinj:∀j k,j<8→k<8→rn j=rn k→j=k):∀ts:List (Nat×Int×Int),(∀t∈ts,t.1<8)→(ts.map (·.1)).Nodup→(ts.map fun t=>jM (rn t.1)).Nodup
 |[],_,_=>nodup_nil
 |t::ts,h8,hnd=>by
  rw [map_cons,nodup_cons] at hnd ⊢;refine ⟨fun hm=>hnd.1 ?_,rF hinj ts (fun u hu=>h8 u (mem_cons_of_mem _ hu)) hnd.2⟩;obtain ⟨u,hu,e⟩:=mem_map.mp hm;have:=hinj u.1 t.1 (h8 u (mem_cons_of_mem _ hu)) (h8 t mem_cons_self) (dS e);exact mem_map.mpr ⟨u,hu,this⟩
theorem NY {a b:Str} (h1:QH a) (h2:QH b):[a,b].all (jO lettersS)=true:=by
 show (jO lettersS a&&(jO lettersS b&&true))=true;rw [show jO lettersS a=true from h1,show jO lettersS b=true from h2];rfl
theorem LE {rn gn:Nat→List Nat} (n:NamesOk rn gn) {its:List PIt} {a b c:Nat} (h:PlanOk rn gn its a b c) {r:RC} (ha:a<8) (hn:r.name=jM (rn a)) (hg:r.good a):qX (kI its) (kX rn (.reach r))=.ok r:=by
 obtain ⟨g1,g2,g3,g4,g5,g6,g7,g8,g9⟩:=hg;have m1:=QX g1 (show r.least≤999999999999 by omega);have m2:=QX (show 0≤r.crest by omega) g3;have m3:=QX (show 0≤r.berths by omega) (show r.berths≤999999999999 by omega);have m4:=QX g6 g7;have hnw:qC (jR (kI its)) r.name:=by
  rw [hn];intro i e;obtain ⟨h1,h2⟩:=xT h e;have:=n.rinj a i ha (by omega) (dS h2);omega
 have htn:QH (z5 rn r.target):=by
  unfold z5
  split
  ·exact n.name (by omega)
  ·exact KA
 have htg:yL (kI its) (z5 rn r.target)=some r.target:=by
  unfold yL z5
  by_cases hz:0≤r.target
  ·rw [if_pos hz,if_neg (n.nsea (by omega)),vP (lJ n h (show r.target.toNat<a by omega))];show some ((r.target.toNat:Nat):Int)=some r.target;exact congrArg some (by omega)
  ·rw [if_neg hz,if_pos rfl];exact congrArg some (by omega)
 have hnm:QH r.name:=by rw [hn];exact n.name ha
 have g0:¬((kX rn (.reach r)).length≠7∨(kX rn (.reach r)).getD 1 ""="sea"):=fun z=>z.elim (fun z=>z rfl) fun z=>n.nsea ha (hn.symm.trans z)
 have gn2:([jY r.least,jY r.crest,jY r.berths,jY r.water].all jP)=true:=by
  show (jP _&&(jP _&&(jP _&&(jP _&&true))))=true;rw [m1.1.2,m2.1.2,m3.1.2,m4.1.2];rfl
 obtain ⟨_,t2⟩:=mP (R:=kI its) (ws:=kX rn (.reach r)) g0 (nf (NY hnm htn)) (nf gn2) hnw;have e:yV (kX rn (.reach r)) r.target=r:=by
  show (⟨r.name,jX (jY r.least),jX (jY r.crest),jX (jY r.berths),jX (jY r.water),r.target⟩:RC)=r;rw [m1.2,m2.2,m3.2,m4.2]
 have:=(t2 r.target htg).2.2 (by rw [e];rintro (z|z|z)<;>omega) (by rw [(z7 h).1];omega);rw [e] at this;exact this
theorem M1 {rn gn:Nat→List Nat} (n:NamesOk rn gn) {its:List PIt} {a b c:Nat} (h:PlanOk rn gn its a b c) {l:LC} (hb:b<8) (hn:l.name=jM (gn b)) (hg:l.good a):qV (kI its) (kU its) (kX rn (.lock l))=.ok l:=by
 obtain ⟨g1,g2,g3,g4,g5,g6,g7,g8⟩:=hg;have hb8:=h.bounds.1;have m4:=QX (show 0≤l.room by omega) g6;have hnw:qC (yW (kU its)) l.name:=by
  rw [hn];intro i e;obtain ⟨h1,h2⟩:=M2 h e;have:=n.ginj b i hb (by omega) (dS h2);omega
 have hnm:QH l.name:=by rw [hn];exact n.gname hb
 have hhi:=n.name (show l.high.toNat<8 by omega);have hlo:=n.name (show l.low.toNat<8 by omega);have f1:=lJ n h (show l.high.toNat<a by omega);have f2:=lJ n h (show l.low.toNat<a by omega);have hg3:[l.name,jM (rn l.high.toNat),jM (rn l.low.toNat)].all (jO lettersS)=true:=by
  show (jO lettersS _&&(jO lettersS _&&(jO lettersS _&&true)))=true;rw [show jO lettersS l.name=true from hnm,show jO lettersS (jM (rn l.high.toNat))=true from hhi,show jO lettersS (jM (rn l.low.toNat))=true from hlo];rfl
 have h8:¬8≤(kU its).length:=by rw [(z7 h).2.1];omega
 by_cases hk:l.kd=.plain
 ·have e0:kX rn (.lock l)=[("lock":Str),l.name,jM (rn l.high.toNat),jM (rn l.low.toNat),jY l.room]:=by rw [ZQ,hk];rfl
  rw [e0];have hx:=g7 hk;have gn2:([jY l.room].all jP)=true:=by show (jP _&&true)=true;rw [m4.1.2];rfl
  obtain ⟨_,t2⟩:=iJ (R:=kI its) (L:=kU its) (ws:=[("lock":Str),l.name,jM (rn l.high.toNat),jM (rn l.low.toNat),jY l.room]) (.inl rfl) (nf hg3) (nf gn2) hnw;have e:vD [("lock":Str),l.name,jM (rn l.high.toNat),jM (rn l.low.toNat),jY l.room] l.high.toNat l.low.toNat=l:=by
   show (⟨l.name,(l.high.toNat:Int),(l.low.toNat:Int),jX (jY l.room),Kd.plain,0⟩:LC)=l;rw [m4.2,← hx,← hk,show ((l.high.toNat:Nat):Int)=l.high by omega,show ((l.low.toNat:Nat):Int)=l.low by omega]
  have:=((t2 _ (vP f1)).2 _ (vP f2)).2.2 (by rw [e];rintro (z|z|⟨z,_⟩);omega;omega;exact z hk) h8;rw [e] at this;exact this
 ·have e0:kX rn (.lock l)=[("lock":Str),l.name,jM (rn l.high.toNat),jM (rn l.low.toNat),jY l.room,vE l.kd,jY l.extra]:=by rw [ZQ,iX hk];rfl
  rw [e0];have hx:=g8 hk;have m6:=QX (show 0≤l.extra by omega) (show l.extra≤999999999999 by omega);have gn2:([jY l.room,jY l.extra].all jP)=true:=by show (jP _&&(jP _&&true))=true;rw [m4.1.2,m6.1.2];rfl
  have hkd:vE l.kd="basin"∨vE l.kd="pump":=by
   cases hq:l.kd with
   |plain=>exact absurd hq hk
   |basin=>exact .inl rfl
   |pump=>exact .inr rfl
  obtain ⟨_,t2⟩:=iJ (R:=kI its) (L:=kU its) (ws:=[("lock":Str),l.name,jM (rn l.high.toNat),jM (rn l.low.toNat),jY l.room,vE l.kd,jY l.extra]) (.inr ⟨rfl,hkd⟩) (nf hg3) (nf gn2) hnw;have ek:(if vE l.kd="basin" then Kd.basin else .pump)=l.kd:=by
   cases hq:l.kd with
   |plain=>exact absurd hq hk
   |basin=>exact if_pos rfl
   |pump=>exact if_neg lW
  have e:vD [("lock":Str),l.name,jM (rn l.high.toNat),jM (rn l.low.toNat),jY l.room,vE l.kd,jY l.extra] l.high.toNat l.low.toNat=l:=by
   show (⟨l.name,(l.high.toNat:Int),(l.low.toNat:Int),jX (jY l.room),(if vE l.kd="basin" then Kd.basin else .pump),jX (jY l.extra)⟩:LC)=l;rw [m4.2,m6.2,ek,show ((l.high.toNat:Nat):Int)=l.high by omega,show ((l.low.toNat:Nat):Int)=l.low by omega]
  have:=((t2 _ (vP f1)).2 _ (vP f2)).2.2 (by rw [e];rintro (z|z|⟨_,z⟩)<;>omega) h8;rw [e] at this;exact this
theorem sL (f:Nat×Int×Int→Str×Str×Str):∀ts:List (Nat×Int×Int),qK (ts.flatMap fun q=>[(f q).1,(f q).2.1,(f q).2.2])=ts.map f
 |[]=>rfl
 |t::ts=>by
  show ((f t).1,(f t).2.1,(f t).2.2)::qK (ts.flatMap fun q=>[(f q).1,(f q).2.1,(f q).2.2])=f t::ts.map f;rw [sL f ts]
theorem LQ {rn gn:Nat→List Nat} (n:NamesOk rn gn) {its:List PIt} {a b c:Nat} (h:PlanOk rn gn its a b c) {m:Nat} (hm:m<6) {ts:List (Nat×Int×Int)} (ht:tripsOk ts a):vU (kI its) m (kX rn (.night ts))=.ok ts:=by
 have hb8:=h.bounds.1;have hlen:(kX rn (.night ts)).length%3=1:=by
  show ((ts.flatMap fun q=>[jM (rn q.1),jY q.2.1,jY q.2.2]).length+1)%3=1;have:∀us:List (Nat×Int×Int),(us.flatMap fun q=>[jM (rn q.1),jY q.2.1,jY q.2.2]).length=3*us.length:=fun us=>by
   induction us with
   |nil=>rfl
   |cons u us ih=>rw [flatMap_cons,length_append,ih];show 3+_=3*(_+1);omega
  rw [this];omega
 have htr:qK (kX rn (.night ts)).tail=ts.map fun q=>(jM (rn q.1),jY q.2.1,jY q.2.2):=sL (fun q=>(jM (rn q.1),jY q.2.1,jY q.2.2)) ts
 unfold vU;rw [if_neg (fun z=>z hlen),htr];have fact:∀q∈ts,jO lettersS (jM (rn q.1))=true∧pD (jY q.2.1) q.2.1∧pD (jY q.2.2) q.2.2∧FirstAt (jR (kI its)) (jM (rn q.1)) q.1:=fun q hq=>by
  obtain ⟨h1,h2,h3,h4,h5⟩:=ht.2 q hq;exact ⟨n.name (by omega),QX h2 h3,QX h4 h5,lJ n h h1⟩
 rw [mQ (nf (by rw [map_map];exact all_eq_true.mpr fun z hz=>by obtain ⟨q,hq,rfl⟩:=mem_map.mp hz;exact (fact q hq).1))
  (nf (by rw [map_map];exact all_eq_true.mpr fun z hz=>by obtain ⟨q,hq,rfl⟩:=mem_map.mp hz;exact (fact q hq).2.1.1.2))
  (nf (by rw [map_map];exact all_eq_true.mpr fun z hz=>by obtain ⟨q,hq,rfl⟩:=mem_map.mp hz;exact (fact q hq).2.2.1.1.2)),
  nG (by rw [map_map];exact rF n.rinj ts (fun t hm=>by have:=(ht.2 t hm).1;omega) ht.1)
  (fun ⟨z,hz,hn⟩=>by obtain ⟨q,hq,rfl⟩:=mem_map.mp hz;exact hn _ (fact q hq).2.2.2.1) (by omega)]
 refine congrArg Except.ok ?_;unfold yU;rw [map_map];refine (map_congr_left fun q hq=>?_).trans (map_id ts);obtain ⟨_,h2,h3,h4⟩:=fact q hq;show ((yC (jR (kI its)) (jM (rn q.1))).getD 0,jX (jY q.2.1),jX (jY q.2.2))=q;rw [vP h4,h2.2,h3.2];rfl
def z6:PIt→Option (List (Nat×Int×Int))
 |.night ts=>some ts
 |_=>none
theorem iV (m:Nat):∀its:List PIt,(its.filterMap z6).map (qM m)=its.filterMap (zB m)
 |[]=>rfl
 |.reach r::its=>iV m its
 |.lock l::its=>iV m its
 |.night ts::its=>by show qM m ts::(its.filterMap z6).map (qM m)=qM m ts::its.filterMap (zB m);rw [iV m its]
theorem fF {x:Str}:∀{xs:List Str} {S S1:kM},kY xs S=.ok S1→kY (xs++[x]) S=kY [x] S1
 |[],S,S1,h=>by rw [kY] at h;cases h;rfl
 |row::rest,S,S1,h=>by
  show kY (row::(rest++[x])) S=_
  by_cases e:row=""
  ·rw [dJ e] at h ⊢;exact fF h
  ·cases hr:qO (Txt.split row blankS) S with
   |error j=>rw [JQ e hr] at h;cases h
   |ok S2 =>
    rw [JS e hr] at h ⊢;exact fF h
theorem MR {rn gn:Nat→List Nat} (n:NamesOk rn gn) {its:List PIt} {a b c:Nat} (h:PlanOk rn gn its a b c):(its.filterMap z6).length=c∧kY (its.map (yS rn)) ([],[],[])=.ok (kI its,kU its,its.filterMap z6):=by
 have hrl:∀k,k<8→(rn k).length≤12:=fun k hk=>(n.rlen k hk).2
 have hgl:∀k,k<8→(gn k).length≤12:=fun k hk=>(n.glen k hk).2
 have step:∀{its:List PIt} {a b c:Nat} {it:PIt} {S S1:kM},PlanOk rn gn (its++[it]) a b c→qO (kX rn it) S=.ok S1→kY [yS rn it] S=.ok S1:=fun {its a b c it S S1} hp hr=>by
  have hm:it∈its++[it]:=mem_append_right _ (mem_singleton.mpr rfl);obtain ⟨m,hok⟩:=oN hrl hgl hp it hm;have hlt:=uO n.rlet n.glet hp it hm;have hs:=GE n.rlet hok hlt;have hne:¬yS rn it="":=fun z=>by have:=MM rn it;rw [z] at this;exact absurd this (by decide +kernel)
  rw [JS hne (by rw [hs];exact hr)];rfl
 induction h with
 |nil=>exact ⟨rfl,rfl⟩
 |@reach its a b c r h ha hn hg ih =>
  have e1:kI (its++[.reach r])=kI its++[r]:=by unfold kI;rw [filterMap_append];rfl
  have e2:kU (its++[.reach r])=kU its:=by unfold kU;rw [filterMap_append];exact append_nil _
  have e3:(its++[PIt.reach r]).filterMap z6=its.filterMap z6:=by rw [filterMap_append];exact append_nil _
  rw [e1,e2,e3,map_append];refine ⟨ih.1,(fF ih.2).trans (step (.reach h ha hn hg) ?_)⟩;rw [dL rfl,show qX _ _=_ from LE n h ha hn hg]
 |@lock its a b c l h hb hn hg ih =>
  have e1:kI (its++[.lock l])=kI its:=by unfold kI;rw [filterMap_append];exact append_nil _
  have e2:kU (its++[.lock l])=kU its++[l]:=by unfold kU;rw [filterMap_append];rfl
  have e3:(its++[PIt.lock l]).filterMap z6=its.filterMap z6:=by rw [filterMap_append];exact append_nil _
  rw [e1,e2,e3,map_append];refine ⟨ih.1,(fF ih.2).trans (step (.lock h hb hn hg) ?_)⟩;rw [dO (by rw [ZQ];rfl),show qV _ _ _=_ from M1 n h hb hn hg]
 |@night its a b c ts h hc ht hl ih =>
  have e1:kI (its++[.night ts])=kI its:=by unfold kI;rw [filterMap_append];exact append_nil _
  have e2:kU (its++[.night ts])=kU its:=by unfold kU;rw [filterMap_append];exact append_nil _
  have e3:(its++[PIt.night ts]).filterMap z6=its.filterMap z6++[ts]:=by rw [filterMap_append];rfl
  rw [e1,e2,e3,map_append];refine ⟨by rw [length_append,ih.1];rfl,(fF ih.2).trans (step (.night h hc ht hl) ?_)⟩;rw [dM rfl,show vU _ _ _=_ from LQ n h (by rw [ih.1];exact hc) ht]
theorem GI {rn gn:Nat→List Nat} (n:NamesOk rn gn) {its:List PIt} {a b c:Nat} (h:PlanOk rn gn its a b c) (ha:1≤a):qT (its.map (yS rn))=.ok (kI its,kU its,its.filterMap z6)∧(its.filterMap z6).map (qM (kI its).length)=fL its:=by
 refine ⟨nL (MR n h).2 fun z=>?_,iV _ its⟩;have:=(z7 h).1;rw [show kI its=[] from z] at this;have:(0:Nat)=a:=this;omega
theorem GJ {rn gn:Nat→List Nat} (n:NamesOk rn gn) {its:List PIt} {a b c:Nat} (h:PlanOk rn gn its a b c):∀row∈its.map (yS rn),RowOk 0 row:=by
 intro row hm;obtain ⟨it,hit,rfl⟩:=mem_map.mp hm;obtain ⟨m,hok⟩:=oN (fun k hk=>(n.rlen k hk).2) (fun k hk=>(n.glen k hk).2) h it hit;obtain ⟨h1,h2⟩:=nU (fun k hk=>(n.rlen k hk).2) hok;have h3:=sV n.rlet hok (uO n.rlet n.glet h it hit);exact RowOk.of_words (wW rn it) (by omega) (Nat.zero_le _) fun w hw=>⟨by have:=h2 w hw;omega,fun z=>by have:=h3 w hw 32 z;omega,fun z=>by have:=h3 w hw 10 z;omega⟩
theorem NmAt.of {H:Hp} {nl:Addr} {f:Nat→List Nat} (h:H nl=some (.lst (qE f 8))) (h1:∀k,k<8→1≤(f k).length∧(f k).length≤12) (h2:∀k,k<8→∀c∈f k,97≤c∧c≤122):NmAt H nl:=by
 refine ⟨(List.range 8).map fun k=>jM (f k),by rw [h,map_map];rfl,by rw [length_map,length_range];decide,fun z hz=>?_⟩;obtain ⟨k,hk,rfl⟩:=mem_map.mp hz;have hk:=mem_range.mp hk;exact ⟨by rw [zC];exact (h1 k hk).2,fun c hc=>(h2 k hk c hc).1⟩
theorem KU (ns:List Int) {m:Int} (h0:0≤m) (h1:m<3):∃ms:List Int,qS (ns.map V.int) (some (-1 - m)) none=ms.map V.int∧ms.length≤3:=by
 refine ⟨(ns.drop (HT.sIx ns.length 0 (some (-1 - m)))).take (ns.length - HT.sIx ns.length 0 (some (-1 - m))),?_,?_⟩
 ·unfold qS;rw [length_map,HT.sIx_none,map_take,map_drop]
 ·rw [length_take,length_drop];show min (ns.length - (if (-1 - m)<0 then ((-1 - m)+(ns.length:Int)).toNat else _)) _≤3;rw [if_pos (by omega)];omega
theorem zI:FnScope ["cell","many","signs","base","k","size","at","names","sign","name"] ["cell","many"] (jI bV):=kG
include T in
theorem CC {f:Addr} {fd:FuncData} (F:Fun K "_law_names" "_law_names" bV f fd) : FnOk P w K mg base kB 1 f fd ["cell","many"] (nN):=by
 refine F.ok2 zI fun vs H Q E h=>?_
 obtain ⟨c,rfl,q⟩:=h;refine ⟨rfl,fun _ _ _ _ hr=>?_⟩;refine ⟨_,(jH (jN (i:=2) zI.nd rfl (.inl rfl) jJ)
   (jH (jN (i:=3) zI.nd rfl (.inl rfl) jJ)
   (jH (vM PassesOwn.never rfl (zY (by rfl) T.z_range (jA jB jC)) (kL (i:=4) zI.nd rfl (.inl rfl))
    (jG (jN (i:=3) zI.nd rfl (.inl rfl) (jE kN (pv 3) (jF ZX (pv 2) (jE kJ (jE qI (jE qI (jE q8 (pv 0) jB) (jE QW (jE q8 (pv 0) jB) (pv 4))) (jE QW (pv 4) (pv 4))) jB))))))
   (jH (jN (i:=5) zI.nd rfl (.inl rfl) (jE qI jB (jE kJ (jE q8 (pv 0) jB) jB)))
   (jH (jN (i:=6) zI.nd rfl (.inl rfl) (jE kJ (jE q8 (pv 0) jB) (pv 5)))
   (jH (jN (i:=7) zI.nd rfl (.inl rfl) (kC jC))
   (jH (vM PassesOwn.never rfl (zY (by rfl) T.z_range (jA (pv 1) jC)) (kL (i:=4) zI.nd rfl (.inl rfl))
    (jH (jN (i:=8) zI.nd rfl (.inl rfl) (jF ZX (pv 2) (jE kJ (jE qI (jE q8 (pv 0) jB) (jE QW jB (pv 4))) jB)))
   (jH (jN (i:=9) zI.nd rfl (.inl rfl) (jE kN (jE kN (vB lL (pv 3) vS (kT (pv 6))) (pv 8)) (vB lL (pv 3) (kT (jE qI (pv 6) jB)) (kT (pv 5)))))
   (vC (jV (jU kF (jE kJ (pv 0) jB) jB) (jG (jN (i:=9) zI.nd rfl (.inl rfl) (vB lL (pv 3) vS (kT (jE qI (pv 4) jB))))) kA)
   (vC (jV (jU kF (jE kJ (pv 0) jB) jB) (jG (jN (i:=9) zI.nd rfl (.inl rfl) (vB lL (pv 3) (kT (jE JB jB (pv 4))) vS))) kA)
   (jG (qD (qB PySem.F.plainAttrs_list PySem.F.slot_list_append PySem.F.type_list_append v9 (pv 7) (jA (pv 9) jC)))))))))
   (jG (jS (pv 7)))))))))),?_⟩
 refine ⟨_,rfl,by decide,by decide,JP (n:=Int.toNat 12) (fun i σ Hi=>∃ck:Option V,σ=[some (.int c),some (.int 8),some (.str lettersS),some (.str (jM ((qR c).take i))),ck,none,none,none,none,none]∧H=Hi) ⟨none,by rw [KT];rfl,rfl⟩ ?_ ?_⟩
 ·rintro i σ Hi hi ⟨ck,rfl,rfl⟩;have hi12:i<12:=hi;have hbl:(jM ((qR c).take i)).length≤12:=by rw [zC,length_take,yA];omega
  refine ⟨_,rfl,_,rfl,_,rfl,_,_,rfl,rfl,⟨by decide,by decide⟩,_,rfl,_,_,rfl,rfl,⟨by decide,by decide⟩,_,rfl,_,_,rfl,rfl,.inr ⟨by omega,by omega⟩,_,_,rfl,rfl,_,rfl,_,rfl,_,_,rfl,rfl,.inr ⟨by omega,by omega⟩,_,_,rfl,rfl,_,_,rfl,rfl,(by show (0:Int)<26;decide),lettersS,_,_,rfl,rfl,p9,tW _,_,_,rfl,rfl,?_,?_⟩
  ·exact small (by show _+1≤1000;omega)
  ·refine ⟨some (.int (i:Int)),?_,rfl⟩;show [some (V.int c),some (V.int 8),some (V.str lettersS),some (V.str (jM ((qR c).take i)++jM [yE (c / 4+c / 100*(i:Int)+(i:Int)*(i:Int))])),some (V.int (i:Int)),none,none,none,none,none]=_;rw [nM,HX c hi12]
 rintro σ Hi ⟨ck,rfl,rfl⟩;rw [show (qR c).take (Int.toNat 12)=qR c from take_of_length_le (by rw [yA];exact Nat.le_refl 12)];have hbs:(jM (qR c)).length≤sizeLine:=small (by rw [zC,yA];decide);have hsz0:=Int.emod_nonneg (c / 16) (by decide:(12:Int)≠0);have hsz1:=Int.emod_lt_of_pos (c / 16) (by decide:(0:Int)<12);have hpos:(0:Int)<1+c / 16%12:=by omega
 have hat0:=Int.emod_nonneg (c / 32) (show (1+c / 16%12:Int)≠0 by omega);have hat1:=Int.emod_lt_of_pos (c / 32) hpos;refine ⟨_,rfl,_,_,rfl,rfl,⟨by decide,by decide⟩,_,_,rfl,rfl,(by show (0:Int)<12;decide),_,_,rfl,rfl,_,rfl,_,_,rfl,rfl,⟨by decide,by decide⟩,_,rfl,_,_,rfl,rfl,hpos,zz0,fun nl hnl=>?_⟩;refine ⟨_,rfl,_,rfl,by decide,by decide,JP (n:=Int.toNat 8) (fun i σ Hi=>∃ck cs cn:Option V,σ=[some (.int c),some (.int 8),some (.str lettersS),some (.str (jM (qR c))),ck,some (.int (1+c / 16%12)),some (.int (c / 32%(1+c / 16%12))),some (.ref nl),cs,cn]∧Hi nl=some (.lst (qE (kZ c) i))∧Same H Hi) ⟨_,none,none,rfl,jD,jK hnl _⟩ ?_ ?_⟩
 ·rintro i σ Hi hi ⟨ck,cs,cn,rfl,hn,sm⟩;have hi8:i<8:=hi;refine ⟨_,rfl,_,rfl,_,_,rfl,rfl,⟨by decide,by decide⟩,_,rfl,_,_,rfl,rfl,.inl ⟨by decide,by decide⟩,_,_,rfl,rfl,_,_,rfl,rfl,(by show (0:Int)<26;decide),lettersS,_,_,rfl,rfl,p9,tW _,?_⟩;have l1:=fun a b=>Txt.slice_le (jM (qR c)) a b
  have hb12:(jM (qR c)).length=12:=by rw [zC,yA]
  refine ⟨_,rfl,_,rfl,_,rfl,_,rfl,hbs,_,rfl,_,_,rfl,rfl,?_,_,rfl,_,rfl,_,_,rfl,rfl,_,rfl,_,rfl,_,rfl,_,rfl,hbs,_,_,rfl,rfl,?_,?_⟩
  ·exact small (by have:=l1 none (some (c / 32%(1+c / 16%12)));show _+1≤1000;omega)
  ·exact small (by rw [Str.length_append];have:=l1 none (some (c / 32%(1+c / 16%12)));have:=l1 (some (c / 32%(1+c / 16%12)+1)) (some (1+c / 16%12));show _+1+_≤1000;omega)
  have hmid:Txt.slice (jM (qR c)) none (some (c / 32%(1+c / 16%12)))++⟨#[yE (c / 4+3*(i:Int))]⟩++Txt.slice (jM (qR c)) (some (c / 32%(1+c / 16%12)+1)) (some (1+c / 16%12))=jM (JH c i):=by
   rw [uM _ hat0 (by rw [yA];omega),GB _ (by omega) (by omega) (by rw [yA];omega),IV,nM,nM];unfold JH QM QE;rw [show (c / 32%(1+c / 16%12)+1).toNat=(c / 32%(1+c / 16%12)).toNat+1 by omega]
  rw [hmid];refine ⟨fun σ' H'=>σ'=[some (.int c),some (.int 8),some (.str lettersS),some (.str (jM (qR c))),some (.int (i:Int)),some (.int (1+c / 16%12)),some (.int (c / 32%(1+c / 16%12))),some (.ref nl),some (.str ⟨#[yE (c / 4+3*(i:Int))]⟩),some (.str (jM (if c%4=0 then (qR c).take (i+1) else JH c i)))]∧H'=Hi,?_,?_⟩
  ·refine ⟨_,rfl,_,_,rfl,rfl,(by show (0:Int)<4;decide),rfl,_,rfl,?_⟩
   by_cases h4:c%4=0
   ·refine jZ (congrArg V.int h4) ⟨_,rfl,_,rfl,_,_,rfl,rfl,_,rfl,_,rfl,hbs,?_,rfl⟩;rw [uM _ (by omega) (by rw [yA];omega),if_pos h4,show ((i:Int)+1).toNat=i+1 by omega];rfl
   ·refine jT (fun z=>h4 (V.int.inj z)) ⟨?_,rfl⟩;rw [if_neg h4];rfl
  rintro σ' H' ⟨rfl,rfl⟩;refine ⟨fun σ' H2=>σ'=[some (.int c),some (.int 8),some (.str lettersS),some (.str (jM (qR c))),some (.int (i:Int)),some (.int (1+c / 16%12)),some (.int (c / 32%(1+c / 16%12))),some (.ref nl),some (.str ⟨#[yE (c / 4+3*(i:Int))]⟩),some (.str (jM (kZ c i)))]∧H2=H',?_,?_⟩
  ·refine ⟨_,rfl,_,_,rfl,rfl,(by show (0:Int)<4;decide),rfl,_,rfl,?_⟩
   by_cases h4:c%4=1
   ·refine jZ (congrArg V.int h4) ⟨_,rfl,_,rfl,_,_,rfl,rfl,_,rfl,_,rfl,hbs,?_,rfl⟩;rw [E6 _ (by omega) (by rw [yA];omega),show ((11:Int) - (i:Int)).toNat=11 - i by omega];have e:kZ c i=(qR c).drop (11 - i):=by unfold kZ;rw [if_neg (by omega),if_pos h4]
    rw [e];rfl
   ·refine jT (fun z=>h4 (V.int.inj z)) ⟨?_,rfl⟩;unfold kZ;rw [if_neg h4]
  rintro σ' H2 ⟨rfl,rfl⟩;refine ⟨_,rfl,.inl ⟨rfl,_,so hn⟩,_,rfl,nl,_,_,rfl,rfl,hn,vF (by rw [fE];omega),?_⟩;refine ⟨_,_,_,rfl,?_,qL hnl sm⟩;rw [jD,mL]
 ·rintro σ Hi ⟨ck,cs,cn,rfl,hn,sm⟩;exact ⟨_,rfl,q nl Hi sm hnl hn⟩
theorem gY:FnScope ["cell","names","other"] ["cell"] (jI ZD):=kG
include T in
theorem CM {f:Addr} {fd:FuncData} (F:Fun K "_law_reach_names" "_law_reach_names" ZD f fd) (D__law_names:Def P w K mg base 1 "_law_names" ["cell","many"] [] (nN)):FnOk P w K mg base kB 2 f fd ["cell"] (mJ):=by
 refine F.ok2 gY fun vs H Q E h=>?_
 obtain ⟨c,rfl,q⟩:=h;refine ⟨rfl,fun _ _ _ _ hr=>?_⟩;refine ⟨_,(jH (jN (i:=1) gY.nd rfl (.inl rfl) (kO D__law_names hr rfl (jA (pv 0) (jA jB jC))))
   (jH (jN (i:=2) gY.nd rfl (.inr rfl) jJ)
   (vC (jV (jU zQ (jE kJ (pv 0) jB) jB) (jG (jN (i:=2) gY.nd rfl (.inr rfl) jJ)) kA)
   (jG (jS (zD ["name","other"] (qZ 1 [2]) rfl (vO (jI ZD)) (cps 1 [2]) (vA (pv 1)) (fun _ _ _ _ _=>(kL (i:=0) (show List.Nodup (["name","other"]:List Str) from by decide +kernel) rfl (.inl rfl))) (fun _ _ _ _ _=>v8) (fun _ _ _ _ _=>(nZ (jU kF (pv 0) jJ) (pv 1) (pv 0))))))))),?_⟩
 refine ⟨_,rfl,c,rfl,fun nl H1 s1 hnl0 hnl=>?_⟩;refine ⟨fun σ' H'=>σ'=[some (.int c),some (.ref nl),some (.str (jM (yQ c)))]∧H1=H',?_,?_⟩
 ·refine ⟨_,rfl,_,_,rfl,rfl,(by show (0:Int)<4;decide),_,_,rfl,rfl,_,rfl,?_⟩
  by_cases h:c%4<2
  ·refine jZ h ⟨?_,rfl⟩;rw [show yQ c=[115,101,98] from if_pos h,← IM];rfl
  ·refine jT h ⟨?_,rfl⟩;rw [show yQ c=[115,101,97,122] from if_neg h,← GC];rfl
 rintro σ' H' ⟨rfl,rfl⟩;refine ⟨_,rfl,nl,rfl,⟨_,so hnl⟩,fun D hD=>?_⟩;refine v0 (K:=K) (a:=nl) (caps:=[some (.str (jM (yQ c)))]) (fun i ys Hi=>ys=qE (qH c) i) hD (so hnl) rfl ?_ ?_
 ·rintro i y ys Hi hy hi hle sm hY rfl;have hi8:i<8:=by rw [fE] at hi;exact hi
  rw [fG _ hi8] at hy;cases hy;refine yD (kR ?_);refine ⟨_,rfl,rfl,_,rfl,?_⟩;have hd:(V.str (jM (kZ c i))=V.str "sea")↔kZ c i=seaL:=⟨fun z=>dS ((V.str.inj z).trans iU),fun z=>by rw [z,iU]⟩
  by_cases h:kZ c i=seaL
  ·refine jZ (hd.mpr h) ⟨_,rfl,?_⟩;refine vK hD sm hY hle (by omega) (Same.refl _) ?_;rw [show jM (yQ c)=jM (qH c i) by unfold qH;rw [if_pos h],mL]
  ·refine jT (fun z=>h (hd.mp z)) ⟨_,rfl,?_⟩;refine vK hD sm hY hle (by omega) (Same.refl _) ?_;rw [show jM (kZ c i)=jM (qH c i) by unfold qH;rw [if_neg h],mL]
 ·rintro ys Hf sm hY hle rfl;rw [fE] at hY;exact q D Hf (s1.trans sm) (s1.free hD) hY
theorem DS:FnScope ["cell","names"] ["cell","names"] (jI bP):=kG
include T in
theorem B6 {f:Addr} {fd:FuncData} (F:Fun K "_law_gates" "_law_gates" bP f fd) (D__law_reach_names:Def P w K mg base 2 "_law_reach_names" ["cell"] [] (mJ)) (D__law_names:Def P w K mg base 1 "_law_names" ["cell","many"] [] (nN)):FnOk P w K mg base kB 3 f fd ["cell","names"] (uI):=by
 refine F.ok2 DS fun vs H Q E h=>?_
 obtain ⟨c,r,a,rfl,ha,q⟩:=h;refine ⟨rfl,fun _ _ _ _ hr=>?_⟩;refine ⟨_,(jH (jV (jU kF (jE kJ (pv 0) jB) jB) (jG (jS (pv 1))) kA)
   (jH (jV (jU kF (jE kJ (pv 0) jB) jB) (jG (jS (jE qQ (kC (jA jJ jC)) (vB (yG K) (kO D__law_reach_names hr rfl (jA (jE qI (jE QW (jE q8 (pv 0) jB) jB) jB) jC)) vS (kT jB))))) kA)
   (jG (jS (kO D__law_names hr rfl (jA (jE q8 (pv 0) jB) (jA jB jC))))))),?_⟩
 refine ⟨_,rfl,_,_,rfl,rfl,(by show (0:Int)<5;decide),rfl,_,rfl,?_⟩
 by_cases h0:c%5=0
 ·refine jZ (congrArg V.int h0) ⟨_,rfl,q a H (Same.refl _) ?_⟩;rw [ha];exact congrArg (fun z=>some (HO.lst z)) (p8 fun k=>(if_pos h0:yJ r c k=qH r k).symm)
 refine jT (fun z=>h0 (V.int.inj z)) ⟨_,rfl,_,_,rfl,rfl,(by show (0:Int)<5;decide),rfl,_,rfl,?_⟩
 by_cases h1:c%5=1
 ·refine jZ (congrArg V.int h1) ⟨zz1,fun p hp=>?_⟩;have s1:=jK hp (.lst [V.str "sea"]);refine ⟨_,rfl,_,_,rfl,rfl,⟨by decide,by decide⟩,_,_,rfl,rfl,.inr ⟨by decide,by decide⟩,_,_,rfl,rfl,c / 5*4+3,rfl,fun nl H1 s2 hnl0 hnl=>?_⟩;refine ⟨_,rfl,nl,_,rfl,so hnl,fun sl hsl=>?_⟩;have s3:=jK hsl (.lst (qS (qE (qH (c / 5*4+3)) 8) none (some 7)));refine ⟨p,sl,_,_,rfl,rfl,s3 _ _ (s2 _ _ jD),jD,?_,fun l hl=>q l _ (((s1.trans s2).trans s3).trans (jK hl _)) ?_⟩
  ·rw [AB,fE];decide
  rw [jD,AB,iU];show some (HO.lst (V.str (jM seaL)::qE (qH (c / 5*4+3)) 7))=_;rw [EM seaL _ (yJ r c) 7 (by unfold yJ;rw [if_neg h0,if_pos h1]) (fun k=>by unfold yJ;rw [if_neg h0,if_pos h1])]
 refine jT (fun z=>h1 (V.int.inj z)) ⟨_,rfl,_,_,rfl,rfl,⟨by decide,by decide⟩,c / 5,rfl,fun nl H1 s2 hnl0 hnl=>q nl H1 s2 ?_⟩;rw [hnl];exact congrArg (fun z=>some (HO.lst z)) (p8 fun k=>((by unfold yJ;rw [if_neg h0,if_neg h1]):yJ r c k=kZ (c / 5) k).symm)
theorem dB:FnScope ["name","a","b","c","many","least","crest","some","water"] ["name","a","b","c","many"] (jI cD):=kG
include T in
theorem CK {f:Addr} {fd:FuncData} (F:Fun K "_law_reach" "_law_reach" cD f fd) : FnOk P w K mg base kB 1 f fd ["name","a","b","c","many"] (uC):=by
 refine F.ok2 dB fun vs H Q E h=>?_
 obtain ⟨nm,a,b,c,n,rfl,q⟩:=h;refine ⟨rfl,fun _ _ _ _ hr=>?_⟩;refine ⟨_,(jH (jN (i:=5) dB.nd rfl (.inl rfl) (j5 (tP rfl) (by rfl) T.z_min PyProof.Rows.boot_min (jA (jE kJ (pv 2) (jE zG jB jB)) (jA (jE kJ (pv 3) (jE zG jB jB)) jC))))
   (jH (jN (i:=6) dB.nd rfl (.inl rfl) (j5 (tQ rfl) (by rfl) T.z_max PyProof.Rows.boot_max (jA (jE kJ (pv 2) (jE zG jB jB)) (jA (jE kJ (pv 3) (jE zG jB jB)) jC))))
   (vC (jV (jU kF (jE kJ (jE q8 (pv 1) jB) jB) jB) (jG (jN (i:=5) dB.nd rfl (.inl rfl) (pv 6))) kA)
   (jH (jN (i:=7) dB.nd rfl (.inl rfl) (kC (jA jB (jA (pv 5) (jA (pv 6) (jA (j5 (tP rfl) (by rfl) T.z_min PyProof.Rows.boot_min (jA (jE qI (pv 6) jB) (jA (jE JB (jE zG jB jB) jB) jC))) (jA (j5 (tQ rfl) (by rfl) T.z_max PyProof.Rows.boot_max (jA jB (jA (jE JB (pv 5) jB) jC))) (jA (jE kJ (jE qI (jE QW (pv 2) jB) (pv 3)) (jE zG jB jB)) jC))))))))
   (jH (jN (i:=8) dB.nd rfl (.inl rfl) (jF (jL K) (pv 7) (jE kJ (jE q8 (pv 1) jB) jB)))
   (jG (jS (zF (jA jJ (jA (pv 0) (jA (pv 5) (jA (pv 6) (jA (jE qI jB (jE kJ (jE q8 (pv 3) jB) jB)) (jA (pv 8) (jA (jE JB (jE kJ (jE q8 (pv 1) jB) (jE qI (pv 4) jB)) jB) jC))))))))))))))),?_⟩
 have eb0:=Int.emod_nonneg b (show (10:Int) ^ Int.toNat 12≠0 from by decide +kernel);have eb1:=Int.emod_lt_of_pos b (show (0:Int)<10 ^ Int.toNat 12 from by decide +kernel);have ec0:=Int.emod_nonneg c (show (10:Int) ^ Int.toNat 12≠0 from by decide +kernel);have ec1:=Int.emod_lt_of_pos c (show (0:Int)<10 ^ Int.toNat 12 from by decide +kernel);have ed0:=Int.emod_nonneg (b*48271+c) (show (10:Int) ^ Int.toNat 12≠0 from by decide +kernel);have ed1:=Int.emod_lt_of_pos (b*48271+c) (show (0:Int)<10 ^ Int.toNat 12 from by decide +kernel);refine ⟨_,rfl,_,_,rfl,rfl,⟨by decide,by decide,by decide⟩,_,_,rfl,rfl,(show (0:Int)<10 ^ Int.toNat 12 from by decide +kernel),_,rfl,_,_,rfl,rfl,⟨by decide,by decide,by decide⟩,_,_,rfl,rfl,(show (0:Int)<10 ^ Int.toNat 12 from by decide +kernel),_,_,rfl,_,rfl,_,_,rfl,rfl,⟨by decide,by decide,by decide⟩,_,_,rfl,rfl,(show (0:Int)<10 ^ Int.toNat 12 from by decide +kernel),_,rfl,_,_,rfl,rfl,⟨by decide,by decide,by decide⟩,_,_,rfl,rfl,(show (0:Int)<10 ^ Int.toNat 12 from by decide +kernel),_,_,rfl,?_⟩
 try dsimp only
 generalize hB:b%10 ^ Int.toNat 12=B at eb0 eb1 ⊢;generalize hC:c%10 ^ Int.toNat 12=C at ec0 ec1 ⊢;generalize hD:(b*48271+c)%10 ^ Int.toNat 12=D at ed0 ed1;rw [pP] at eb1 ec1 ed1;obtain ⟨least,hle⟩:∃z,(if C<B then C else B)=z:=⟨_,rfl⟩;obtain ⟨crest,hcr⟩:∃z,(if C>B then C else B)=z:=⟨_,rfl⟩;rw [hle,hcr];have f1:0≤least∧least≤crest∧crest≤999999999999:=by
  rw [← hle,← hcr]
  split<;>split<;>omega
 clear hle hcr;refine ⟨fun σ' H'=>∃le:Int,σ'=[some (.str nm),some (.int a),some (.int b),some (.int c),some (.int (n:Int)),some (.int le),some (.int crest),none,none]∧H=H'∧0≤le∧le≤crest,?_,?_⟩
 ·refine ⟨_,rfl,_,_,rfl,rfl,⟨by decide,by decide⟩,_,_,rfl,rfl,(by show (0:Int)<5;decide),rfl,_,rfl,eO (fun _=>?_) (fun _=>?_)⟩
  ·exact ⟨_,rfl,crest,rfl,rfl,by omega,Int.le_refl _⟩
  ·exact ⟨least,rfl,rfl,f1.1,f1.2.1⟩
 rintro σ' H' ⟨le,rfl,rfl,g1,g2⟩;refine ⟨_,rfl,_,rfl,_,rfl,_,_,rfl,rfl,_,_,rfl,rfl,⟨by decide,by decide,by decide⟩,_,_,rfl,rfl,_,_,rfl,_,rfl,_,_,rfl,rfl,_,_,rfl,_,rfl,_,_,rfl,rfl,.inr ⟨by decide,by decide⟩,_,rfl,_,_,rfl,rfl,_,_,rfl,rfl,⟨by decide,by decide,by decide⟩,_,_,rfl,rfl,(show (0:Int)<10 ^ Int.toNat 12 from by decide +kernel),zz6,fun p hp=>?_⟩;have s1:=jK hp (.lst [V.int 0,V.int le,V.int crest,V.int (if 10 ^ Int.toNat 12 - 1<crest+1 then 10 ^ Int.toNat 12 - 1 else crest+1),V.int (if le - 1>0 then le - 1 else 0),V.int ((b*48271+c)%10 ^ Int.toNat 12)]);have hpl:=jD (H:=H) (a:=p) (o:=.lst [V.int 0,V.int le,V.int crest,V.int (if 10 ^ Int.toNat 12 - 1<crest+1 then 10 ^ Int.toNat 12 - 1 else crest+1),V.int (if le - 1>0 then le - 1 else 0),V.int ((b*48271+c)%10 ^ Int.toNat 12)]);obtain ⟨wt,hwt,w1,w2⟩:=NN (n:=a / 4) (lo:=0) (hi:=999999999999) (x0:=0) (x1:=le) (x2:=crest) (x3:=if 10 ^ Int.toNat 12 - 1<crest+1 then 10 ^ Int.toNat 12 - 1 else crest+1) (x4:=if le - 1>0 then le - 1 else 0) (x5:=(b*48271+c)%10 ^ Int.toNat 12) ⟨by omega,by omega⟩ ⟨by omega,by omega⟩ ⟨by omega,by omega⟩ (by rw [pP];split<;>omega) (by split<;>omega) (by rw [hD];omega);refine ⟨_,rfl,_,rfl,_,_,rfl,rfl,⟨by decide,by decide⟩,_,_,rfl,rfl,(by show (0:Int)<6;decide),p,_,_,_,rfl,rfl,so hpl,hwt,?_⟩;have hn1:(0:Int)<(n:Int)+1:=by omega
 have t0:=Int.emod_nonneg (a / 16) (show ((n:Int)+1)≠0 by omega);have t1:=Int.emod_lt_of_pos (a / 16) hn1;have b0:=Int.emod_nonneg (c / 2) (by decide:(9:Int)≠0);have b1:=Int.emod_lt_of_pos (c / 2) (by decide:(0:Int)<9);refine ⟨_,rfl,_,rfl,_,rfl,_,rfl,_,_,rfl,rfl,⟨by decide,by decide⟩,_,_,rfl,rfl,(by show (0:Int)<9;decide),_,_,rfl,rfl,_,rfl,_,rfl,_,_,rfl,rfl,⟨by decide,by decide⟩,_,rfl,_,_,rfl,rfl,_,_,rfl,rfl,hn1,_,_,rfl,rfl,zz7,fun t ht=>?_⟩;exact q ⟨nm,le,crest,1+c / 2%9,wt,a / 16%((n:Int)+1) - 1⟩ t _ rfl ⟨g1,g2,f1.2.2,by show 1≤1+c / 2%9;omega,by show 1+c / 2%9≤9;omega,w1,w2,by show -1≤a / 16%((n:Int)+1) - 1;omega,by show a / 16%((n:Int)+1) - 1<(n:Int);omega⟩ (s1.trans (jK ht _)) (s1.free ht) jD
theorem ZN:FnScope ["name","a","b","c","many","high","room","extra","word"] ["name","a","b","c","many"] (jI bQ):=kG
include T in
theorem B9 {f:Addr} {fd:FuncData} (F:Fun K "_law_lock" "_law_lock" bQ f fd) : FnOk P w K mg base kB 1 f fd ["name","a","b","c","many"] (wS):=by
 refine F.ok2 ZN fun vs H Q E h=>?_
 obtain ⟨nm,a,b,c,n,rfl,hn,q⟩:=h;refine ⟨rfl,fun _ _ _ _ hr=>?_⟩;refine ⟨_,(jH (jN (i:=5) ZN.nd rfl (.inl rfl) (jE qI jB (jE kJ (jE q8 (pv 1) jB) (jE JB (pv 4) jB))))
   (jH (jN (i:=6) ZN.nd rfl (.inl rfl) (jE qI jB (jE kJ (pv 2) (jE JB (jE zG jB jB) jB))))
   (jH (jN (i:=7) ZN.nd rfl (.inl rfl) (jE qI jB (jE kJ (jE q8 (pv 3) jB) (pv 6))))
   (vC (jV (jU kF (jE kJ (jE q8 (pv 3) jB) jB) jB) (jG (jN (i:=7) ZN.nd rfl (.inl rfl) (pv 6))) kA)
   (jH (jN (i:=8) ZN.nd rfl (.inl rfl) (jF (jL K) (kC (jA jJ (jA jJ (jA jJ jC)))) (jE kJ (pv 3) jB)))
   (vC (jV (jU kF (pv 8) jJ) (jG (jN (i:=7) ZN.nd rfl (.inl rfl) jB)) kA)
   (jG (jS (zF (jA jJ (jA (pv 0) (jA (pv 5) (jA (jE kJ (jE q8 (pv 1) jB) (pv 5)) (jA (pv 6) (jA (pv 8) (jA (pv 7) jC)))))))))))))))),?_⟩
 have hn1:(0:Int)<(n:Int) - 1:=by omega
 have a0:=Int.emod_nonneg (a / 4) (show (n:Int) - 1≠0 by omega);have a1:=Int.emod_lt_of_pos (a / 4) hn1;have em:(10:Int) ^ Int.toNat 12 - 1=999999999999:=by decide +kernel
 have hr0:=Int.emod_nonneg b (show (10:Int) ^ Int.toNat 12 - 1≠0 from by decide +kernel);have hr1:=Int.emod_lt_of_pos b (show (0:Int)<10 ^ Int.toNat 12 - 1 from by decide +kernel);refine ⟨_,rfl,_,_,rfl,rfl,⟨by decide,by decide⟩,_,rfl,_,_,rfl,rfl,_,_,rfl,rfl,hn1,_,_,rfl,rfl,_,rfl,_,_,rfl,rfl,⟨by decide,by decide,by decide⟩,_,_,rfl,rfl,_,_,rfl,rfl,(show (0:Int)<10 ^ Int.toNat 12 - 1 from by decide +kernel),_,_,rfl,rfl,?_⟩
 try dsimp only
 generalize hH:1+a / 4%((n:Int) - 1)=high;generalize hR:1+b%(10 ^ Int.toNat 12 - 1)=room;rw [em] at hr0 hr1 hR;have hh1:1≤high:=by omega
 have hh2:high<(n:Int):=by omega
 have hrm1:1≤room:=by omega
 have hrm2:room≤999999999999:=by omega
 have x0:=Int.emod_nonneg (c / 3) (show room≠0 by omega);have x1:=Int.emod_lt_of_pos (c / 3) (show 0<room by omega);have l0:=Int.emod_nonneg (a / 32) (show high≠0 by omega);have l1:=Int.emod_lt_of_pos (a / 32) (show 0<high by omega);refine ⟨_,rfl,_,_,rfl,rfl,⟨by decide,by decide⟩,_,rfl,_,_,rfl,rfl,(show (0:Int)<room by omega),_,_,rfl,rfl,?_⟩;refine ⟨fun σ' H'=>∃ex:Int,σ'=[some (.str nm),some (.int a),some (.int b),some (.int c),some (.int (n:Int)),some (.int high),some (.int room),some (.int ex),none]∧H=H'∧1≤ex∧ex≤room,?_,?_⟩
 ·refine ⟨_,rfl,_,_,rfl,rfl,⟨by decide,by decide⟩,_,_,rfl,rfl,(by show (0:Int)<4;decide),rfl,_,rfl,eO (fun _=>?_) (fun _=>?_)⟩
  ·exact ⟨_,rfl,room,rfl,rfl,hrm1,Int.le_refl _⟩
  ·exact ⟨_,rfl,rfl,by omega,by omega⟩
 rintro σ' H' ⟨ex,rfl,rfl,g1,g2⟩;obtain ⟨kd,hkd⟩:=MS c;refine ⟨zz3,fun p hp=>?_⟩;have s1:=jK hp (.lst [V.str "plain",V.str "basin",V.str "pump"]);refine ⟨_,rfl,_,_,rfl,rfl,(by show (0:Int)<3;decide),p,_,_,_,rfl,rfl,so jD,hkd,?_⟩;generalize upd H p (.lst [V.str "plain",V.str "basin",V.str "pump"])=H1 at s1 ⊢;refine ⟨fun σ' H'=>∃ex:Int,σ'=[some (.str nm),some (.int a),some (.int b),some (.int c),some (.int (n:Int)),some (.int high),some (.int room),some (.int ex),some (.str (vE kd))]∧H1=H'∧(kd=.plain→ex=0)∧(kd≠.plain→1≤ex∧ex≤room),?_,?_⟩
 ·refine ⟨_,rfl,rfl,_,rfl,?_⟩
  by_cases hk:kd=.plain
  ·exact jZ ((iQ kd).mpr hk) ⟨0,rfl,rfl,fun _=>rfl,fun z=>absurd hk z⟩
  ·exact jT (fun z=>hk ((iQ kd).mp z)) ⟨ex,rfl,rfl,fun z=>absurd z hk,fun _=>⟨g1,g2⟩⟩
 rintro σ' H' ⟨ex,rfl,rfl,e1,e2⟩;refine ⟨_,rfl,_,rfl,_,rfl,_,_,rfl,rfl,⟨by decide,by decide⟩,_,rfl,_,_,rfl,rfl,(show (0:Int)<high by omega),_,rfl,_,rfl,_,rfl,zz7,fun t ht=>?_⟩;exact q ⟨nm,high,a / 32%high,room,kd,ex⟩ t _ rfl ⟨hh1,hh2,l0,l1,hrm1,hrm2,e1,e2⟩ (s1.trans (jK ht _)) (s1.free ht) jD
theorem cZ:FnScope ["a","b","c","many","told","bits","k","comes"] ["a","b","c","many"] (jI bY):=kG
include T in
theorem CG {f:Addr} {fd:FuncData} (F:Fun K "_law_night" "_law_night" bY f fd) : FnOk P w K mg base kB 1 f fd ["a","b","c","many"] (uE):=by
 refine F.ok2 cZ fun vs H Q E h=>?_
 obtain ⟨a,b,c,n,rfl,hn,q⟩:=h;refine ⟨rfl,fun _ _ _ _ hr=>?_⟩;refine ⟨_,(jH (jN (i:=4) cZ.nd rfl (.inl rfl) (kC jC))
   (jH (jN (i:=5) cZ.nd rfl (.inl rfl) (jE q8 (pv 0) jB))
   (jH (vM PassesOwn.never rfl (zY (by rfl) T.z_range (jA (pv 3) jC)) (kL (i:=6) cZ.nd rfl (.inl rfl))
    (vC (jV (jU kF (jE kJ (pv 5) jB) jB) (jH (jN (i:=7) cZ.nd rfl (.inl rfl) (jF (jL K) (kC (jA jB (jA (jE kJ (pv 1) (jE zG jB jB)) (jA (jE kJ (jE qI (jE QW (pv 1) (jE qI (pv 6) jB)) (pv 2)) (jE zG jB jB)) jC)))) (jE kJ (jE qI (pv 1) (pv 6)) jB)))
   (jG (qD (qB PySem.F.plainAttrs_list PySem.F.slot_list_append PySem.F.type_list_append v9 (pv 4) (jA (zF (jA (pv 6) (jA (pv 7) (jA (jF (jL K) (kC (jA jB (jA (jE kJ (pv 2) jB) (jA (jE kJ (jE qI (jE QW (pv 2) (jE qI (pv 6) jB)) (pv 1)) (jE zG jB jB)) jC)))) (jE kJ (jE qI (pv 2) (pv 6)) jB)) jC)))) jC))))) kA)
   (jG (jN (i:=5) cZ.nd rfl (.inl rfl) (jE q8 (pv 5) jB)))))
   (vC (jV (jU kF (jE kJ (pv 2) jB) jB) (jG (qD (MX PySem.F.plainAttrs_list PySem.F.slot_list_reverse PySem.F.type_list_reverse FC (pv 4)))) kA)
   (jG (jS (zF (jA jJ (jA (pv 4) jC))))))))),?_⟩
 refine ⟨zz0,fun l hl=>?_⟩;have s0:=jK hl (.lst []);refine ⟨_,rfl,_,_,rfl,rfl,⟨by decide,by decide⟩,?_⟩;refine ⟨_,rfl,_,rfl,by omega,by omega,JP (n:=Int.toNat (n:Int)) (fun i σ Hi=>∃(bits:Int) (ck cc:Option V) (rs:List V) (ts:List (Nat×Int×Int)),σ=[some (.int a),some (.int b),some (.int c),some (.int (n:Int)),some (.ref l),some (.int bits),ck,cc]∧Hi l=some (.lst rs)∧TripsAt Hi rs ts∧tripsOk ts i∧ts.length≤i∧Same H Hi) ⟨_,none,none,[],[],rfl,jD,⟨rfl,fun i r h=>by cases h⟩,⟨nodup_nil,fun q h=>by cases h⟩,Nat.le_refl _,s0⟩ ?_ ?_⟩
 ·rintro i σ Hi hi ⟨bits,ck,cc,rs,ts,rfl,hl1,htr,hok,hlen,sm⟩;have hi8:i<8:=by have:i<Int.toNat (n:Int):=hi;omega
  refine ⟨fun σ' H'=>∃(cc:Option V) (rs:List V) (ts:List (Nat×Int×Int)),σ'=[some (.int a),some (.int b),some (.int c),some (.int (n:Int)),some (.ref l),some (.int bits),some (.int (i:Int)),cc]∧H' l=some (.lst rs)∧TripsAt H' rs ts∧tripsOk ts (i+1)∧ts.length≤i+1∧Same H H',?_,?_⟩
  ·refine ⟨_,rfl,_,_,rfl,rfl,(by show (0:Int)<2;decide),rfl,_,rfl,eO (fun _=>?_) (fun _=>⟨cc,rs,ts,rfl,hl1,htr,hok.more (by omega),by omega,sm⟩)⟩;refine ⟨_,rfl,_,_,rfl,rfl,⟨by decide,by decide,by decide⟩,_,_,rfl,rfl,(show (0:Int)<10 ^ Int.toNat 12 from by decide +kernel),_,rfl,_,rfl,_,_,rfl,rfl,_,_,rfl,rfl,.inr ⟨by omega,by omega⟩,_,rfl,_,_,rfl,rfl,_,_,rfl,rfl,⟨by decide,by decide,by decide⟩,_,_,rfl,rfl,(show (0:Int)<10 ^ Int.toNat 12 from by decide +kernel),zz3,fun p hp=>?_⟩;obtain ⟨x,hx,hx1,hx2⟩:=AG (n:=b+(i:Int)) (x0:=0) (x1:=b%10 ^ Int.toNat 12) (x2:=(b*((i:Int)+1)+c)%10 ^ Int.toNat 12) (lo:=0) (hi:=999999999999) ⟨by decide,by decide⟩ (pO _) (pO _);refine ⟨_,rfl,_,rfl,_,_,rfl,rfl,_,_,rfl,rfl,(by show (0:Int)<3;decide),p,_,_,_,rfl,rfl,so jD,hx,?_⟩;have u1:=jK hp (.lst [V.int 0,V.int (b%10 ^ Int.toNat 12),V.int ((b*((i:Int)+1)+c)%10 ^ Int.toNat 12)]);generalize upd Hi p (.lst [V.int 0,V.int (b%10 ^ Int.toNat 12),V.int ((b*((i:Int)+1)+c)%10 ^ Int.toNat 12)])=H1 at u1 ⊢;have hc7:0≤c%7∧c%7≤999999999999:=by have:=Int.emod_nonneg c (by decide:(7:Int)≠0);have:=Int.emod_lt_of_pos c (by decide:(0:Int)<7);omega
   refine ⟨_,rfl,.inl ⟨rfl,_,so (u1 _ _ hl1)⟩,_,rfl,_,rfl,_,rfl,_,_,rfl,rfl,(by show (0:Int)<7;decide),_,rfl,_,rfl,_,_,rfl,rfl,_,_,rfl,rfl,.inr ⟨by omega,by omega⟩,_,rfl,_,_,rfl,rfl,_,_,rfl,rfl,⟨by decide,by decide,by decide⟩,_,_,rfl,rfl,(show (0:Int)<10 ^ Int.toNat 12 from by decide +kernel),zz3,fun p2 hp2=>?_⟩;obtain ⟨y,hy,hy1,hy2⟩:=AG (n:=c+(i:Int)) (x0:=0) (x1:=c%7) (x2:=(c*((i:Int)+3)+b)%10 ^ Int.toNat 12) (lo:=0) (hi:=999999999999) ⟨by decide,by decide⟩ hc7 (pO _);have u2:=jK hp2 (.lst [V.int 0,V.int (c%7),V.int ((c*((i:Int)+3)+b)%10 ^ Int.toNat 12)]);refine ⟨_,rfl,_,rfl,_,_,rfl,rfl,_,_,rfl,rfl,(by show (0:Int)<3;decide),p2,_,_,_,rfl,rfl,so jD,hy,?_⟩;generalize upd H1 p2 (.lst [V.int 0,V.int (c%7),V.int ((c*((i:Int)+3)+b)%10 ^ Int.toNat 12)])=H2 at u2 ⊢;refine ⟨zz3,fun tp htp=>?_⟩;have u3:=jK htp (.tup [V.int (i:Int),V.int x,V.int y]);have htp1:upd H2 tp (.tup [V.int (i:Int),V.int x,V.int y]) tp=some (.tup [V.int (i:Int),V.int x,V.int y]):=jD;have sHi:=(u1.trans u2).trans u3;generalize upd H2 tp (.tup [V.int (i:Int),V.int x,V.int y])=H3 at u3 htp1 sHi ⊢;have hl3:=sHi _ _ hl1;refine ⟨l,_,_,rfl,rfl,hl3,vF (by rw [htr.1];omega),?_⟩;refine ⟨_,rs++[.ref tp],ts++[(i,x,y)],rfl,jD,?_,hok.snoc ⟨hx1,hx2⟩ ⟨hy1,hy2⟩,by rw [length_append];show ts.length+1≤i+1;omega,qL hl (sm.trans sHi)⟩;exact ((htr.same sHi).snoc htp1).keep ((Keep.refl l _).upd _) hl3
  rintro σ' H' ⟨cc,rs,ts,rfl,hl1,htr,hok,hlen,sm⟩;exact ⟨_,rfl,_,_,rfl,rfl,⟨by decide,by decide⟩,_,_,cc,rs,ts,rfl,hl1,htr,hok,hlen,sm⟩
 rintro σ Hi ⟨bits,ck,cc,rs,ts,rfl,hl1,htr,hok,hlen,sm⟩;have hok:tripsOk ts n:=hok;have hlen:ts.length≤8:=by have:ts.length≤Int.toNat (n:Int):=hlen;omega
 refine ⟨fun σ' H'=>∃(rs:List V) (ts:List (Nat×Int×Int)),σ'=[some (.int a),some (.int b),some (.int c),some (.int (n:Int)),some (.ref l),some (.int bits),ck,cc]∧H' l=some (.lst rs)∧TripsAt H' rs ts∧tripsOk ts n∧ts.length≤8∧Same H H',?_,?_⟩
 ·refine ⟨_,rfl,_,_,rfl,rfl,(by show (0:Int)<2;decide),rfl,_,rfl,eO (fun _=>?_) (fun _=>⟨rs,ts,rfl,hl1,htr,hok,hlen,sm⟩)⟩;refine ⟨_,rfl,.inl ⟨rfl,_,so hl1⟩,l,_,rfl,rfl,hl1,?_⟩;exact ⟨rs.reverse,ts.reverse,rfl,jD,htr.rev.keep ((Keep.refl l _).upd _) hl1,hok.rev,by rw [length_reverse];exact hlen,qL hl sm⟩
 rintro σ' H' ⟨rs,ts,rfl,hl1,htr,hok,hlen,sm⟩;refine ⟨_,rfl,zz2,fun t ht=>?_⟩;have u:=jK ht (.tup [V.str "night",V.ref l]);exact q ts rs t l _ hok hlen (sm.trans u) (sm.free ht) hl jD (u _ _ hl1) (htr.same u)
theorem dA:FnScope ["script","names","gates","plan","many","at","cells","way"] ["script","names","gates"] (jI ZC):=kG
include T in
theorem CJ {f:Addr} {fd:FuncData} (F:Fun K "_law_plan" "_law_plan" ZC f fd) (D__law_cell_at:Def P w K mg base 1 "_law_cell_at" ["script","k"] [] (oZ K)) (D__law_night:Def P w K mg base 1 "_law_night" ["a","b","c","many"] [] (uE)) (D__law_lock:Def P w K mg base 1 "_law_lock" ["name","a","b","c","many"] [] (wS)) (D__law_reach:Def P w K mg base 1 "_law_reach" ["name","a","b","c","many"] [] (uC)):FnOk P w K mg base kB 2 f fd ["script","names","gates"] (wP K):=by
 refine F.ok2 dA fun vs H Q E h=>?_
 obtain ⟨s,nl,gl,ns,rn,gn,rfl,hS,h63,hnl,hgl,q⟩:=h;refine ⟨rfl,fun _ _ _ _ hr=>?_⟩;refine ⟨_,(jH (jN (i:=3) dA.nd rfl (.inl rfl) (kC jC))
   (jH (jN (i:=4) dA.nd rfl (.inl rfl) (kC (jA jB (jA jB (jA jB jC)))))
   (jH (vM PassesOwn.never rfl (wX (by rfl) T.z_range (jA jB (jA (j5 (kW K) (by rfl) T.z_len PySem.boot_len (jA (pv 0) jC)) (jA jB jC)))) (kL (i:=5) dA.nd rfl (.inr rfl))
    (jH (ZP (i:=6) ["k","script","at"] (qZ 1 [0,5]) dA.nd rfl (.inl rfl) rfl (vO (jI ZC)) (cps 1 [0,5]) (zY (by rfl) T.z_range (jA jB jC)) (fun _ _ _ _ _=>(kL (i:=0) (show List.Nodup (["k","script","at"]:List Str) from by decide +kernel) rfl (.inl rfl))) (fun _ _ _ _ _=>v8) (fun _ _ _ _ _=>(jE kJ (kO D__law_cell_at hr rfl (jA (pv 1) (jA (jE qI (pv 2) (pv 0)) jC))) (jE zG jB jB))))
   (jH (jN (i:=7) dA.nd rfl (.inl rfl) (jE kJ (jF (jL K) (pv 6) jB) jB))
   (jG (jV (PW.pt (QU (jU kF (pv 7) jB) (ZT (jU zQ (jF (jL K) (pv 4) jB) jB)))) (jH (ZV (jE qI (jF (jL K) (pv 4) jB) jB) (QV (pv 4) jB QR))
   (jG (qD (qB PySem.F.plainAttrs_list PySem.F.slot_list_append PySem.F.type_list_append v9 (pv 3) (jA (kO D__law_night hr rfl (jA (jF (jL K) (pv 6) jB) (jA (jF (jL K) (pv 6) jB) (jA (jF (jL K) (pv 6) jB) (jA (jF (jL K) (pv 4) jB) jC))))) jC))))) (jG (jV (PW.pt (QU (jU kF (pv 7) jB) (QU (jU eE (jF (jL K) (pv 4) jB) jB) (ZT (jU zQ (jF (jL K) (pv 4) jB) jB))))) (jH (ZV (jE qI (jF (jL K) (pv 4) jB) jB) (QV (pv 4) jB QR))
   (jG (qD (qB PySem.F.plainAttrs_list PySem.F.slot_list_append PySem.F.type_list_append v9 (pv 3) (jA (kO D__law_lock hr rfl (jA (jF (jL K) (pv 2) (jE JB (jF (jL K) (pv 4) jB) jB)) (jA (jF (jL K) (pv 6) jB) (jA (jF (jL K) (pv 6) jB) (jA (jF (jL K) (pv 6) jB) (jA (jF (jL K) (pv 4) jB) jC)))))) jC))))) (jG (jV (jU zQ (jF (jL K) (pv 4) jB) jB) (jH (ZV (jE qI (jF (jL K) (pv 4) jB) jB) (QV (pv 4) jB QR))
   (jG (qD (qB PySem.F.plainAttrs_list PySem.F.slot_list_append PySem.F.type_list_append v9 (pv 3) (jA (kO D__law_reach hr rfl (jA (jF (jL K) (pv 1) (jE JB (jF (jL K) (pv 4) jB) jB)) (jA (jF (jL K) (pv 6) jB) (jA (jF (jL K) (pv 6) jB) (jA (jF (jL K) (pv 6) jB) (jA (jE JB (jF (jL K) (pv 4) jB) jB) jC)))))) jC))))) kA)))))))))
   (vC (jV (jU kF (jF (jL K) (pv 4) jB) jB) (jG (qD (qB PySem.F.plainAttrs_list PySem.F.slot_list_append PySem.F.type_list_append v9 (pv 3) (jA (zF (jA jJ (jA (jF (jL K) (pv 1) jB) (jA jB (jA jB (jA jB (jA jB (jA (eA d7 jB) jC)))))))) jC)))) kA)
   (jG (jS (pv 3))))))),?_⟩
 refine ⟨zz0,fun pl hpl0=>?_⟩;have s1:=jK hpl0 (.lst []);refine ⟨zz3,fun mn hmn1=>?_⟩;have s2:=jK hmn1 (.lst [V.int 0,V.int 0,V.int 0]);have hmn0:=s1.free hmn1;have npm:pl≠mn:=jW (jD (H:=H) (a:=pl) (o:=.lst [])) hmn1;have hml:(ns.map V.int).length=ns.length:=length_map _;obtain ⟨n,hn,hn21⟩:∃n:Nat,Builtin.Range.rangeSize 2 (((ns.map V.int).length:Nat):Int) 3=(n:Int)∧n≤21:=by
  rw [sN (by decide),hml]
  split
  ·exact ⟨(((ns.length:Nat):Int) - 2 - 1).toNat / 3+1,by omega,by omega⟩
  ·exact ⟨0,rfl,by omega⟩
 refine ⟨_,rfl,s,_,rfl,.inl ((s1.trans s2).seq hS),2,_,3,n,rfl,by decide,by decide,(by rw [hml];exact GF h63),hn,?_⟩;refine u0 (a:=2) (c:=3) (n:=n) (fun i σ Hi=>∃(its:List PIt) (a b c:Nat) (vs:List V) (c5 c6 c7:Option V),σ=[some (.ref s),some (.ref nl),some (.ref gl),some (.ref pl),some (.ref mn),c5,c6,c7]∧PlanOk rn gn its a b c∧Hi pl=some (.lst vs)∧Hi mn=some (.lst [V.int (a:Int),V.int (b:Int),V.int (c:Int)])∧PlanAt [pl,mn] Hi vs its∧Same H Hi) ⟨[],0,0,0,[],none,none,none,rfl,.nil,s2 _ _ jD,jD,PlanAt.nil,s1.trans s2⟩ ?_ ?_
 ·rintro i σ Hi hi ⟨its,a,b,c,vs,c5,c6,c7,rfl,ok,hpl,hmn,hpa,sm⟩;refine ⟨_,rfl,by decide,by decide,fun cl hcl0=>?_⟩;refine rN (n:=3) (caps:=[some (.ref s),some (.int (2+(i:Int)*3))]) (fun j ys Hj=>∃zs:List Int,ys=zs.map V.int∧zs.length=j) hcl0 ⟨[],rfl,rfl⟩ ?_ ?_
  ·rintro j ys Hj hj hle sm3 hY ⟨zs,rfl,hzl⟩;rw [Int.zero_add];refine yD (kR ?_);refine ⟨_,rfl,_,rfl,_,rfl,_,_,rfl,rfl,s,ns,2+i*3+j,(by rw [show ((2+i*3+j:Nat):Int)=2+(i:Int)*3+(j:Int) by omega];rfl),(sm.trans sm3).seq hS,_,_,rfl,rfl,⟨by decide,by decide,by decide⟩,_,_,rfl,rfl,(show (0:Int)<10 ^ Int.toNat 40 from by decide +kernel),?_⟩;refine vK hcl0 sm3 hY hle (by omega) (Same.refl _) ⟨zs++[ns.getD (2+i*3+j) 0%10 ^ Int.toNat 40],by rw [map_append];rfl,by rw [length_append,hzl];rfl⟩
  rintro ys Hj sj hcl hle ⟨zs,rfl,hzl⟩;obtain ⟨z0,z1,z2,rfl⟩:∃z0 z1 z2,zs=[z0,z1,z2]:=by
   match zs,hzl with
   |[z0,z1,z2],_=>exact ⟨z0,z1,z2,rfl⟩
  have ncm:cl≠mn:=(jW hmn hcl0).symm;have hpl:=sj _ _ hpl;have hmn:=sj _ _ hmn;have hpa:=hpa.same sj;have sm:=sm.trans sj;clear hcl0;refine ⟨_,rfl,cl,_,_,_,rfl,rfl,so hcl,rfl,_,_,rfl,rfl,(by show (0:Int)<4;decide),?_⟩
  try dsimp only
  generalize z0%4=way;refine ⟨_,rfl,rfl,_,rfl,?_⟩
  by_cases h3:way=3
  ·refine jZ (congrArg V.int h3) ⟨_,rfl,mn,_,_,_,rfl,rfl,so hmn,rfl,_,_,rfl,rfl,_,rfl,?_⟩
   by_cases hc6:c<6
   ·refine jZ (by omega) ?_;refine ⟨_,rfl,mn,_,_,_,rfl,rfl,so hmn,rfl,_,_,rfl,rfl,_,rfl,mn,_,_,_,rfl,rfl,hmn,rfl,?_⟩;have km:Keep mn Hj (upd Hj mn (.lst [V.int (a:Int),V.int (b:Int),V.int ((c:Int)+1)])):=(Keep.refl mn _).upd _;have hmn2:upd Hj mn (.lst [V.int (a:Int),V.int (b:Int),V.int ((c:Int)+1)]) mn=some (.lst [V.int (a:Int),V.int (b:Int),V.int ((c:Int)+1)]):=jD;have hpl2:=km _ _ npm hpl;have hpa2:=hpa.keep km hmn (by simp);have sm2:Same H (upd Hj mn (.lst [V.int (a:Int),V.int (b:Int),V.int ((c:Int)+1)])):=qL hmn0 sm;have hcl2:=km _ _ ncm hcl;have hset:([V.int (a:Int),V.int (b:Int),V.int (c:Int)]:List V).set (Int.toNat 2) (V.int ((c:Int)+1))=[V.int (a:Int),V.int (b:Int),V.int ((c:Int)+1)]:=rfl
    try rw [hset]
    generalize upd Hj mn (.lst [V.int (a:Int),V.int (b:Int),V.int ((c:Int)+1)])=Hk at km hmn2 hpl2 hpa2 sm2 hcl2 ⊢;refine ⟨_,rfl,.inl ⟨rfl,_,so hpl2⟩,_,rfl,cl,_,_,_,rfl,rfl,so hcl2,rfl,_,rfl,cl,_,_,_,rfl,rfl,so hcl2,rfl,_,rfl,cl,_,_,_,rfl,rfl,so hcl2,rfl,_,rfl,mn,_,_,_,rfl,rfl,so hmn2,rfl,z0,z1,z2,a,rfl,ok.bounds.1,fun ts rs t l Hm hts htl sM ht0 hl0 ht hl htr=>?_⟩;have hpl3:=sM _ _ hpl2;have kp:Keep pl Hm (upd Hm pl (.lst (vs++[.ref t]))):=(Keep.refl pl _).upd _;refine ⟨pl,_,_,rfl,rfl,hpl3,vF (by rw [hpa.1,ok.bounds.2.2.2];have:=ok.bounds;omega),?_⟩;refine ⟨its++[.night ts],a,b,c+1,_,_,_,_,rfl,ok.night hc6 hts htl,jD,kp _ _ (fun z=>npm z.symm) (sM _ _ hmn2),?_,qL hpl0 (sm2.trans sM)⟩;exact ((hpa2.same sM).snoc (v:=.ref t) (it:=.night ts) ⟨t,l,rs,rfl,ht,hl,htr,by simp only [mem_cons,mem_nil_iff,or_false,not_or];exact ⟨fun z=>jW hpl2 (z▸hl0) rfl,fun z=>jW hmn2 (z▸hl0) rfl⟩⟩).keep kp hpl3 (by simp)
   ·refine jT (by omega) ⟨_,rfl,rfl,_,rfl,jT (fun z=>absurd (V.int.inj z) (by omega)) ?_⟩;refine ⟨_,rfl,mn,_,_,_,rfl,rfl,so hmn,rfl,_,_,rfl,rfl,_,rfl,?_⟩
    by_cases ha8:a<8
    ·refine jZ (by omega) ?_;refine ⟨_,rfl,mn,_,_,_,rfl,rfl,so hmn,rfl,_,_,rfl,rfl,_,rfl,mn,_,_,_,rfl,rfl,hmn,rfl,?_⟩;have km:Keep mn Hj (upd Hj mn (.lst [V.int ((a:Int)+1),V.int (b:Int),V.int (c:Int)])):=(Keep.refl mn _).upd _;have hmn2:upd Hj mn (.lst [V.int ((a:Int)+1),V.int (b:Int),V.int (c:Int)]) mn=some (.lst [V.int ((a:Int)+1),V.int (b:Int),V.int (c:Int)]):=jD;have hpl2:=km _ _ npm hpl;have hpa2:=hpa.keep km hmn (by simp);have sm2:Same H (upd Hj mn (.lst [V.int ((a:Int)+1),V.int (b:Int),V.int (c:Int)])):=qL hmn0 sm;have hcl2:=km _ _ ncm hcl;have hset:([V.int (a:Int),V.int (b:Int),V.int (c:Int)]:List V).set (Int.toNat 0) (V.int ((a:Int)+1))=[V.int ((a:Int)+1),V.int (b:Int),V.int (c:Int)]:=rfl
     try rw [hset]
     generalize upd Hj mn (.lst [V.int ((a:Int)+1),V.int (b:Int),V.int (c:Int)])=Hk at km hmn2 hpl2 hpa2 sm2 hcl2 ⊢;refine ⟨_,rfl,.inl ⟨rfl,_,so hpl2⟩,_,rfl,_,rfl,mn,_,_,_,rfl,rfl,so hmn2,rfl,_,_,rfl,rfl,nl,_,_,_,rfl,rfl,so (sm2 _ _ hnl),fM rn ha8,_,rfl,cl,_,_,_,rfl,rfl,so hcl2,rfl,_,rfl,cl,_,_,_,rfl,rfl,so hcl2,rfl,_,rfl,cl,_,_,_,rfl,rfl,so hcl2,rfl,_,rfl,mn,_,_,_,rfl,rfl,so hmn2,rfl,_,_,rfl,rfl,jM (rn a),z0,z1,z2,a,(by show [V.str (jM (rn a)),V.int z0,V.int z1,V.int z2,V.int ((a:Int)+1 - 1)]=_;rw [show (a:Int)+1 - 1=(a:Int) by omega]),fun r t Hm hnm hg sM ht0 ht=>?_⟩;have hpl3:=sM _ _ hpl2;have kp:Keep pl Hm (upd Hm pl (.lst (vs++[.ref t]))):=(Keep.refl pl _).upd _;refine ⟨pl,_,_,rfl,rfl,hpl3,vF (by rw [hpa.1,ok.bounds.2.2.2];have:=ok.bounds;omega),?_⟩;refine ⟨its++[.reach r],a+1,b,c,_,_,_,_,rfl,ok.reach ha8 hnm hg,jD,kp _ _ (fun z=>npm z.symm) (sM _ _ hmn2),?_,qL hpl0 (sm2.trans sM)⟩;exact ((hpa2.same sM).snoc (v:=.ref t) (it:=.reach r) ⟨t,rfl,ht⟩).keep kp hpl3 (by simp)
    ·exact jT (by omega) ⟨its,a,b,c,vs,_,_,_,rfl,ok,hpl,hmn,hpa,sm⟩
  ·refine jT (fun z=>h3 (V.int.inj z)) ⟨_,rfl,rfl,_,rfl,?_⟩
   by_cases h2:way=2
   ·refine jZ (congrArg V.int h2) ⟨_,rfl,mn,_,_,_,rfl,rfl,so hmn,rfl,_,_,rfl,rfl,_,rfl,?_⟩
    by_cases ha1:1<a
    ·refine jZ (by omega) ⟨_,rfl,mn,_,_,_,rfl,rfl,so hmn,rfl,_,_,rfl,rfl,_,rfl,?_⟩
     by_cases hb8:b<8
     ·refine jZ (by omega) ?_;refine ⟨_,rfl,mn,_,_,_,rfl,rfl,so hmn,rfl,_,_,rfl,rfl,_,rfl,mn,_,_,_,rfl,rfl,hmn,rfl,?_⟩;have km:Keep mn Hj (upd Hj mn (.lst [V.int (a:Int),V.int ((b:Int)+1),V.int (c:Int)])):=(Keep.refl mn _).upd _;have hmn2:upd Hj mn (.lst [V.int (a:Int),V.int ((b:Int)+1),V.int (c:Int)]) mn=some (.lst [V.int (a:Int),V.int ((b:Int)+1),V.int (c:Int)]):=jD;have hpl2:=km _ _ npm hpl;have hpa2:=hpa.keep km hmn (by simp);have sm2:Same H (upd Hj mn (.lst [V.int (a:Int),V.int ((b:Int)+1),V.int (c:Int)])):=qL hmn0 sm;have hcl2:=km _ _ ncm hcl;have hset:([V.int (a:Int),V.int (b:Int),V.int (c:Int)]:List V).set (Int.toNat 1) (V.int ((b:Int)+1))=[V.int (a:Int),V.int ((b:Int)+1),V.int (c:Int)]:=rfl
      try rw [hset]
      generalize upd Hj mn (.lst [V.int (a:Int),V.int ((b:Int)+1),V.int (c:Int)])=Hk at km hmn2 hpl2 hpa2 sm2 hcl2 ⊢;refine ⟨_,rfl,.inl ⟨rfl,_,so hpl2⟩,_,rfl,_,rfl,mn,_,_,_,rfl,rfl,so hmn2,rfl,_,_,rfl,rfl,gl,_,_,_,rfl,rfl,so (sm2 _ _ hgl),fM gn hb8,_,rfl,cl,_,_,_,rfl,rfl,so hcl2,rfl,_,rfl,cl,_,_,_,rfl,rfl,so hcl2,rfl,_,rfl,cl,_,_,_,rfl,rfl,so hcl2,rfl,_,rfl,mn,_,_,_,rfl,rfl,so hmn2,rfl,jM (gn b),z0,z1,z2,a,rfl,ha1,fun r t Hm hnm hg sM ht0 ht=>?_⟩;have hpl3:=sM _ _ hpl2;have kp:Keep pl Hm (upd Hm pl (.lst (vs++[.ref t]))):=(Keep.refl pl _).upd _;refine ⟨pl,_,_,rfl,rfl,hpl3,vF (by rw [hpa.1,ok.bounds.2.2.2];have:=ok.bounds;omega),?_⟩;refine ⟨its++[.lock r],a,b+1,c,_,_,_,_,rfl,ok.lock hb8 hnm hg,jD,kp _ _ (fun z=>npm z.symm) (sM _ _ hmn2),?_,qL hpl0 (sm2.trans sM)⟩;exact ((hpa2.same sM).snoc (v:=.ref t) (it:=.lock r) ⟨t,rfl,ht⟩).keep kp hpl3 (by simp)
     ·refine jT (by omega) ?_;refine ⟨_,rfl,mn,_,_,_,rfl,rfl,so hmn,rfl,_,_,rfl,rfl,_,rfl,?_⟩
      by_cases ha8:a<8
      ·refine jZ (by omega) ?_;refine ⟨_,rfl,mn,_,_,_,rfl,rfl,so hmn,rfl,_,_,rfl,rfl,_,rfl,mn,_,_,_,rfl,rfl,hmn,rfl,?_⟩;have km:Keep mn Hj (upd Hj mn (.lst [V.int ((a:Int)+1),V.int (b:Int),V.int (c:Int)])):=(Keep.refl mn _).upd _;have hmn2:upd Hj mn (.lst [V.int ((a:Int)+1),V.int (b:Int),V.int (c:Int)]) mn=some (.lst [V.int ((a:Int)+1),V.int (b:Int),V.int (c:Int)]):=jD;have hpl2:=km _ _ npm hpl;have hpa2:=hpa.keep km hmn (by simp);have sm2:Same H (upd Hj mn (.lst [V.int ((a:Int)+1),V.int (b:Int),V.int (c:Int)])):=qL hmn0 sm;have hcl2:=km _ _ ncm hcl;have hset:([V.int (a:Int),V.int (b:Int),V.int (c:Int)]:List V).set (Int.toNat 0) (V.int ((a:Int)+1))=[V.int ((a:Int)+1),V.int (b:Int),V.int (c:Int)]:=rfl
       try rw [hset]
       generalize upd Hj mn (.lst [V.int ((a:Int)+1),V.int (b:Int),V.int (c:Int)])=Hk at km hmn2 hpl2 hpa2 sm2 hcl2 ⊢;refine ⟨_,rfl,.inl ⟨rfl,_,so hpl2⟩,_,rfl,_,rfl,mn,_,_,_,rfl,rfl,so hmn2,rfl,_,_,rfl,rfl,nl,_,_,_,rfl,rfl,so (sm2 _ _ hnl),fM rn ha8,_,rfl,cl,_,_,_,rfl,rfl,so hcl2,rfl,_,rfl,cl,_,_,_,rfl,rfl,so hcl2,rfl,_,rfl,cl,_,_,_,rfl,rfl,so hcl2,rfl,_,rfl,mn,_,_,_,rfl,rfl,so hmn2,rfl,_,_,rfl,rfl,jM (rn a),z0,z1,z2,a,(by show [V.str (jM (rn a)),V.int z0,V.int z1,V.int z2,V.int ((a:Int)+1 - 1)]=_;rw [show (a:Int)+1 - 1=(a:Int) by omega]),fun r t Hm hnm hg sM ht0 ht=>?_⟩;have hpl3:=sM _ _ hpl2;have kp:Keep pl Hm (upd Hm pl (.lst (vs++[.ref t]))):=(Keep.refl pl _).upd _;refine ⟨pl,_,_,rfl,rfl,hpl3,vF (by rw [hpa.1,ok.bounds.2.2.2];have:=ok.bounds;omega),?_⟩;refine ⟨its++[.reach r],a+1,b,c,_,_,_,_,rfl,ok.reach ha8 hnm hg,jD,kp _ _ (fun z=>npm z.symm) (sM _ _ hmn2),?_,qL hpl0 (sm2.trans sM)⟩;exact ((hpa2.same sM).snoc (v:=.ref t) (it:=.reach r) ⟨t,rfl,ht⟩).keep kp hpl3 (by simp)
      ·exact jT (by omega) ⟨its,a,b,c,vs,_,_,_,rfl,ok,hpl,hmn,hpa,sm⟩
    ·refine jT (by omega) ?_;refine ⟨_,rfl,mn,_,_,_,rfl,rfl,so hmn,rfl,_,_,rfl,rfl,_,rfl,?_⟩
     by_cases ha8:a<8
     ·refine jZ (by omega) ?_;refine ⟨_,rfl,mn,_,_,_,rfl,rfl,so hmn,rfl,_,_,rfl,rfl,_,rfl,mn,_,_,_,rfl,rfl,hmn,rfl,?_⟩;have km:Keep mn Hj (upd Hj mn (.lst [V.int ((a:Int)+1),V.int (b:Int),V.int (c:Int)])):=(Keep.refl mn _).upd _;have hmn2:upd Hj mn (.lst [V.int ((a:Int)+1),V.int (b:Int),V.int (c:Int)]) mn=some (.lst [V.int ((a:Int)+1),V.int (b:Int),V.int (c:Int)]):=jD;have hpl2:=km _ _ npm hpl;have hpa2:=hpa.keep km hmn (by simp);have sm2:Same H (upd Hj mn (.lst [V.int ((a:Int)+1),V.int (b:Int),V.int (c:Int)])):=qL hmn0 sm;have hcl2:=km _ _ ncm hcl;have hset:([V.int (a:Int),V.int (b:Int),V.int (c:Int)]:List V).set (Int.toNat 0) (V.int ((a:Int)+1))=[V.int ((a:Int)+1),V.int (b:Int),V.int (c:Int)]:=rfl
      try rw [hset]
      generalize upd Hj mn (.lst [V.int ((a:Int)+1),V.int (b:Int),V.int (c:Int)])=Hk at km hmn2 hpl2 hpa2 sm2 hcl2 ⊢;refine ⟨_,rfl,.inl ⟨rfl,_,so hpl2⟩,_,rfl,_,rfl,mn,_,_,_,rfl,rfl,so hmn2,rfl,_,_,rfl,rfl,nl,_,_,_,rfl,rfl,so (sm2 _ _ hnl),fM rn ha8,_,rfl,cl,_,_,_,rfl,rfl,so hcl2,rfl,_,rfl,cl,_,_,_,rfl,rfl,so hcl2,rfl,_,rfl,cl,_,_,_,rfl,rfl,so hcl2,rfl,_,rfl,mn,_,_,_,rfl,rfl,so hmn2,rfl,_,_,rfl,rfl,jM (rn a),z0,z1,z2,a,(by show [V.str (jM (rn a)),V.int z0,V.int z1,V.int z2,V.int ((a:Int)+1 - 1)]=_;rw [show (a:Int)+1 - 1=(a:Int) by omega]),fun r t Hm hnm hg sM ht0 ht=>?_⟩;have hpl3:=sM _ _ hpl2;have kp:Keep pl Hm (upd Hm pl (.lst (vs++[.ref t]))):=(Keep.refl pl _).upd _;refine ⟨pl,_,_,rfl,rfl,hpl3,vF (by rw [hpa.1,ok.bounds.2.2.2];have:=ok.bounds;omega),?_⟩;refine ⟨its++[.reach r],a+1,b,c,_,_,_,_,rfl,ok.reach ha8 hnm hg,jD,kp _ _ (fun z=>npm z.symm) (sM _ _ hmn2),?_,qL hpl0 (sm2.trans sM)⟩;exact ((hpa2.same sM).snoc (v:=.ref t) (it:=.reach r) ⟨t,rfl,ht⟩).keep kp hpl3 (by simp)
     ·exact jT (by omega) ⟨its,a,b,c,vs,_,_,_,rfl,ok,hpl,hmn,hpa,sm⟩
   ·refine jT (fun z=>h2 (V.int.inj z)) ?_;refine ⟨_,rfl,mn,_,_,_,rfl,rfl,so hmn,rfl,_,_,rfl,rfl,_,rfl,?_⟩
    by_cases ha8:a<8
    ·refine jZ (by omega) ?_;refine ⟨_,rfl,mn,_,_,_,rfl,rfl,so hmn,rfl,_,_,rfl,rfl,_,rfl,mn,_,_,_,rfl,rfl,hmn,rfl,?_⟩;have km:Keep mn Hj (upd Hj mn (.lst [V.int ((a:Int)+1),V.int (b:Int),V.int (c:Int)])):=(Keep.refl mn _).upd _;have hmn2:upd Hj mn (.lst [V.int ((a:Int)+1),V.int (b:Int),V.int (c:Int)]) mn=some (.lst [V.int ((a:Int)+1),V.int (b:Int),V.int (c:Int)]):=jD;have hpl2:=km _ _ npm hpl;have hpa2:=hpa.keep km hmn (by simp);have sm2:Same H (upd Hj mn (.lst [V.int ((a:Int)+1),V.int (b:Int),V.int (c:Int)])):=qL hmn0 sm;have hcl2:=km _ _ ncm hcl;have hset:([V.int (a:Int),V.int (b:Int),V.int (c:Int)]:List V).set (Int.toNat 0) (V.int ((a:Int)+1))=[V.int ((a:Int)+1),V.int (b:Int),V.int (c:Int)]:=rfl
     try rw [hset]
     generalize upd Hj mn (.lst [V.int ((a:Int)+1),V.int (b:Int),V.int (c:Int)])=Hk at km hmn2 hpl2 hpa2 sm2 hcl2 ⊢;refine ⟨_,rfl,.inl ⟨rfl,_,so hpl2⟩,_,rfl,_,rfl,mn,_,_,_,rfl,rfl,so hmn2,rfl,_,_,rfl,rfl,nl,_,_,_,rfl,rfl,so (sm2 _ _ hnl),fM rn ha8,_,rfl,cl,_,_,_,rfl,rfl,so hcl2,rfl,_,rfl,cl,_,_,_,rfl,rfl,so hcl2,rfl,_,rfl,cl,_,_,_,rfl,rfl,so hcl2,rfl,_,rfl,mn,_,_,_,rfl,rfl,so hmn2,rfl,_,_,rfl,rfl,jM (rn a),z0,z1,z2,a,(by show [V.str (jM (rn a)),V.int z0,V.int z1,V.int z2,V.int ((a:Int)+1 - 1)]=_;rw [show (a:Int)+1 - 1=(a:Int) by omega]),fun r t Hm hnm hg sM ht0 ht=>?_⟩;have hpl3:=sM _ _ hpl2;have kp:Keep pl Hm (upd Hm pl (.lst (vs++[.ref t]))):=(Keep.refl pl _).upd _;refine ⟨pl,_,_,rfl,rfl,hpl3,vF (by rw [hpa.1,ok.bounds.2.2.2];have:=ok.bounds;omega),?_⟩;refine ⟨its++[.reach r],a+1,b,c,_,_,_,_,rfl,ok.reach ha8 hnm hg,jD,kp _ _ (fun z=>npm z.symm) (sM _ _ hmn2),?_,qL hpl0 (sm2.trans sM)⟩;exact ((hpa2.same sM).snoc (v:=.ref t) (it:=.reach r) ⟨t,rfl,ht⟩).keep kp hpl3 (by simp)
    ·exact jT (by omega) ⟨its,a,b,c,vs,_,_,_,rfl,ok,hpl,hmn,hpa,sm⟩
 rintro σ Hi ⟨its,a,b,c,vs,c5,c6,c7,rfl,ok,hpl,hmn,hpa,sm⟩;refine ⟨fun σ' H'=>∃(its:List PIt) (a b c:Nat) (vs:List V),σ'=[some (.ref s),some (.ref nl),some (.ref gl),some (.ref pl),some (.ref mn),c5,c6,c7]∧1≤a∧PlanOk rn gn its a b c∧H' pl=some (.lst vs)∧PlanAt [pl,mn] H' vs its∧Same H H',?_,?_⟩
 ·refine ⟨_,rfl,mn,_,_,_,rfl,rfl,so hmn,rfl,rfl,_,rfl,?_⟩
  by_cases ha:a=0
  ·subst ha;refine jZ rfl ⟨_,rfl,.inl ⟨rfl,_,so hpl⟩,_,rfl,nl,_,_,_,rfl,rfl,so (sm _ _ hnl),GT rn,_,rfl,zz7,fun t ht=>?_⟩;have u:=jK ht (.tup (zA ⟨jM (rn 0),0,7,1,9,-1⟩));have hpl3:=u _ _ hpl;have kp:Keep pl (upd Hi t (.tup (zA ⟨jM (rn 0),0,7,1,9,-1⟩))) (upd (upd Hi t (.tup (zA ⟨jM (rn 0),0,7,1,9,-1⟩))) pl (.lst (vs++[.ref t]))):=(Keep.refl pl _).upd _;refine ⟨pl,_,_,rfl,rfl,hpl3,vF (by rw [hpa.1,ok.bounds.2.2.2];have:=ok.bounds;omega),?_⟩;refine ⟨its++[.reach ⟨jM (rn 0),0,7,1,9,-1⟩],1,b,c,vs++[.ref t],rfl,by decide,ok.reach (by decide) rfl (NZ _),jD,?_,qL hpl0 (sm.trans u)⟩;exact ((hpa.same u).snoc (v:=.ref t) (it:=.reach ⟨jM (rn 0),0,7,1,9,-1⟩) ⟨t,rfl,jD⟩).keep kp hpl3 (by simp)
  ·exact jT (fun z=>ha (by have:=V.int.inj z;omega)) ⟨its,a,b,c,vs,rfl,by omega,ok,hpl,hpa,sm⟩
 rintro σ' H' ⟨its,a,b,c,vs,rfl,ha,ok,hpl,hpa,sm⟩;exact ⟨_,rfl,q its a b c pl vs H' ok ha sm hpl0 hpl (hpa.less (by simp))⟩
theorem pW:FnScope ["word","sign"] ["word"] (jI bU):=kG
include T in
theorem CB {f:Addr} {fd:FuncData} (F:Fun K "_law_named" "_law_named" bU f fd) : FnOk P w K mg base kB 1 f fd ["word"] (wQ):=by
 refine F.ok2 pW fun vs H Q E h=>?_
 obtain ⟨w,rfl,hw,q⟩:=h;refine ⟨rfl,fun _ _ _ _ hr=>?_⟩;refine ⟨_,(jH (vM PassesOwn.never rfl (lM (pv 0)) (kL (i:=1) pW.nd rfl (.inl rfl))
    (jG (jV (jU rD (pv 1) jJ) (jG (jS vN)) kA)))
   (jG (jS (n3 zQ zQ jB (j5 iB (by rfl) T.z_len PySem.boot_len (jA (pv 0) jC)) jB)))),?_⟩
 have hws:w.length≤sizeLine:=small (by omega);refine ⟨_,rfl,w,rfl,oU (z:=w) (fun i σ Hi=>∃k:Option V,σ=[some (.str w),k]∧zR lettersS w i=true∧H=Hi) ⟨none,rfl,rfl,rfl⟩ ?_ ?_⟩
 ·rintro i c σ Hi hc ⟨k,rfl,ha,rfl⟩;refine ⟨_,rfl,_,_,rfl,rfl,_,rfl,?_⟩;rw [show (!(!(Builtin.Str.occurrences (Str.ofString "abcdefghijklmnopqrstuvwxyz") ⟨#[c]⟩ 0 (Str.ofString "abcdefghijklmnopqrstuvwxyz").length 1).isEmpty)) = !JG lettersS c from rfl];cases hg:JG lettersS c with
  |true=>exact kS ⟨_,rfl,by rw [nK hc,ha,hg];rfl,rfl⟩
  |false =>
   refine kR ?_;have e:jO lettersS w=false:=by unfold jO;rw [oH hc hg,Bool.and_false]
   rw [e] at q;exact q
 ·rintro σ Hi ⟨k,rfl,ha,rfl⟩;refine ⟨_,rfl,w,rfl,hws,_,_,rfl,rfl,_,rfl,?_⟩;unfold jO at q;rw [ha,Bool.and_true] at q
  by_cases h1:0<w.length
  ·refine jZ (show (0:Int)<((w.length:Nat):Int) by omega) ⟨_,_,rfl,rfl,?_⟩;rw [decide_eq_true h1,Bool.true_and] at q;show Q (V.bl (decide (((w.length:Nat):Int)<13))) H;rw [show decide (((w.length:Nat):Int)<13)=decide (w.length<13) from decide_eq_decide.mpr (by omega)];exact q
  ·refine jT (show ¬(0:Int)<((w.length:Nat):Int) by omega) ?_;rw [decide_eq_false h1,Bool.false_and] at q;exact q
theorem pU:FnScope ["word","sign"] ["word"] (jI bM):=kG
include T in
theorem B4 {f:Addr} {fd:FuncData} (F:Fun K "_law_figures" "_law_figures" bM f fd) : FnOk P w K mg base kB 1 f fd ["word"] (xS):=by
 refine F.ok2 pU fun vs H Q E h=>?_
 obtain ⟨w,rfl,hw,q⟩:=h;refine ⟨rfl,fun _ _ _ _ hr=>?_⟩;refine ⟨_,(jH (vM PassesOwn.never rfl (lM (pv 0)) (kL (i:=1) pU.nd rfl (.inl rfl))
    (jG (jV (jU rD (pv 1) jJ) (jG (jS vN)) kA)))
   (jG (jS (zM (n3 zQ zQ jB (j5 iB (by rfl) T.z_len PySem.boot_len (jA (pv 0) jC)) jB) (yH (Q2 (qP kF (pv 0) jJ) (yH (qP vI (jF ZX (pv 0) jB) jJ)))))))),?_⟩
 have len0:("0":Str).length=1:=by decide +kernel
 have all0:zR y8 "0" ("0":Str).cps.size=true:=by decide +kernel
 have hws:w.length≤sizeLine:=small (by omega);refine ⟨_,rfl,w,rfl,oU (z:=w) (fun i σ Hi=>∃k:Option V,σ=[some (.str w),k]∧zR y8 w i=true∧H=Hi) ⟨none,rfl,rfl,rfl⟩ ?_ ?_⟩
 ·rintro i c σ Hi hc ⟨k,rfl,ha,rfl⟩;refine ⟨_,rfl,_,_,rfl,rfl,_,rfl,?_⟩;rw [show (!(!(Builtin.Str.occurrences (Str.ofString "0123456789") ⟨#[c]⟩ 0 (Str.ofString "0123456789").length 1).isEmpty)) = !JG y8 c from rfl];cases hg:JG y8 c with
  |true=>exact kS ⟨_,rfl,by rw [nK hc,ha,hg];rfl,rfl⟩
  |false =>
   refine kR ?_;have e:jO y8 w=false:=by unfold jO;rw [oH hc hg,Bool.and_false]
   have n0:¬w="0":=fun z=>by
    have e2:=oH hc hg;rw [z,all0] at e2;cases e2
   unfold jP at q;rw [decide_eq_false n0,e] at q;exact q
 ·rintro σ Hi ⟨k,rfl,ha,rfl⟩;have ha:zR y8 w w.cps.size=true:=ha;unfold jP jO at q;rw [ha,Bool.and_true] at q;refine ⟨_,rfl,w,rfl,hws,_,_,rfl,rfl,_,rfl,?_⟩
  by_cases h1:0<w.length
  case neg =>
   have n0:¬w="0":=fun z=>h1 (by rw [z,len0];decide)
   rw [decide_eq_false h1,decide_eq_false n0] at q;exact jT (show ¬(0:Int)<((w.length:Nat):Int) by omega) ⟨_,rfl,kS q⟩
  refine jZ (show (0:Int)<((w.length:Nat):Int) by omega) ⟨_,_,rfl,rfl,_,rfl,?_⟩
  by_cases h2:w.length<13
  case neg =>
   have n0:¬w="0":=fun z=>h2 (by rw [z,len0];decide)
   rw [decide_eq_false h2,decide_eq_false n0,Bool.and_false] at q;exact jT (show ¬((w.length:Nat):Int)<13 by omega) q
  refine jZ (show ((w.length:Nat):Int)<13 by omega) ⟨_,rfl,rfl,_,rfl,?_⟩
  by_cases h0:w="0"
  ·rw [decide_eq_true h0] at q;exact jZ (congrArg V.str h0) q
  obtain ⟨c,hc,hc2⟩:=oF (z:=w) (i:=0) (Int.le_refl _) (by omega);refine jT (fun z=>h0 (V.str.inj z)) ⟨_,rfl,w,_,c,rfl,rfl,hws,hc,rfl,?_⟩;rw [wC];rw [decide_eq_false h0,decide_eq_true h1,decide_eq_true h2,show w.cps[0]?=some c from hc2,show decide (some c=some 48)=decide (c=48) from decide_eq_decide.mpr ⟨fun e=>Option.some.inj e,fun e=>by rw [e]⟩] at q;exact q
theorem pZ:FnScope ["words","shape","k"] ["words","shape"] (jI cF):=kG
include T in
theorem CP {f:Addr} {fd:FuncData} (F:Fun K "_law_shaped" "_law_shaped" cF f fd) (D__law_named:Def P w K mg base 1 "_law_named" ["word"] [] (wQ)) (D__law_figures:Def P w K mg base 1 "_law_figures" ["word"] [] (xS)):FnOk P w K mg base kB 2 f fd ["words","shape"] (tZ):=by
 refine F.ok2 pZ fun vs H Q E h=>?_
 obtain ⟨wl,ws,sh,rfl,hwl,hsh,hlen,q⟩:=h;refine ⟨rfl,fun _ _ _ _ hr=>?_⟩;refine ⟨_,(jH (vM PassesOwn.never rfl (zY (by rfl) T.z_range (jA (j5 iB (by rfl) T.z_len PySem.boot_len (jA (pv 1) jC)) jC)) (kL (i:=2) pZ.nd rfl (.inl rfl))
    (jH (jV (PW.pt (QU (jU kF (jF ZX (pv 1) (pv 2)) jJ) (ZT (vH (vL (kO D__law_named hr rfl (jA (jF (jL K) (pv 0) (pv 2)) jC))))))) (jG (jS vN)) kA)
   (jG (jV (PW.pt (QU (jU kF (jF ZX (pv 1) (pv 2)) jJ) (ZT (vH (vL (kO D__law_figures hr rfl (jA (jF (jL K) (pv 0) (pv 2)) jC))))))) (jG (jS vN)) kA))))
   (jG (jS vN))),?_⟩
 have h100:=hsh.1;have hss:sh.length≤sizeLine:=small (by omega);refine ⟨_,rfl,sh,rfl,hss,_,rfl,by omega,by omega,JP (n:=((sh.length:Nat):Int).toNat) (fun i σ Hi=>∃k:Option V,σ=[some (.ref wl),some (.str sh),k]∧(∀(j c:Nat) (w:Str),j<i→sh.cps.toList[j]?=some c→ws[j]?=some w→zE c w=true)∧H=Hi) ⟨none,rfl,fun j c w hj=>absurd hj (Nat.not_lt_zero j),rfl⟩ ?_ ?_⟩
 ·rintro i σ Hi hi ⟨k,rfl,ha,rfl⟩;rw [Int.toNat_natCast] at hi;obtain ⟨c,hc,hc2⟩:=oF (z:=sh) (i:=(i:Int)) (by omega) (by omega);have hc2:sh.cps.toList[i]?=some c:=by rw [Int.toNat_natCast] at hc2;rw [Array.getElem?_toList];exact hc2
  have hiw:i<ws.length:=by omega
  have hw:ws[i]?=some ws[i]:=List.getElem?_eq_getElem hiw;have hwi:kQ (ws.map V.str) (i:Int)=some (V.str ws[i]):=q9 (by rw [List.getElem?_map,hw];rfl);have hl:=hsh.2 _ (mem_of_getElem? hw);have bad:zE c ws[i]=false→Q (.bl false) H:=fun e=>by rw [sU hc2 hw e] at q;exact q
  have good:zE c ws[i]=true→∀(j c:Nat) (w:Str),j<i+1→sh.cps.toList[j]?=some c→ws[j]?=some w→zE c w=true:=fun e j c' w' hj h1 h2=>by
   by_cases z:j=i
   ·rw [z,hc2] at h1;rw [z,hw] at h2;cases h1;cases h2;exact e
   ·exact ha j c' w' (by omega) h1 h2
  refine ⟨_,rfl,_,rfl,sh,_,c,rfl,rfl,hss,hc,rfl,_,rfl,?_⟩
  by_cases e1:c=110
  ·have ep:zE c ws[i]=jO lettersS ws[i]:=by unfold zE;exact if_pos e1
   rw [ep] at bad good;refine jZ (congrArg V.str (by rw [e1];exact lit_n.symm)) ⟨_,rfl,_,rfl,wl,_,_,_,rfl,rfl,so hwl,hwi,ws[i],rfl,hl,_,rfl,?_⟩;cases hg:jO lettersS ws[i] with
   |false=>exact kR (bad hg)
   |true =>
    refine kS ⟨_,rfl,_,rfl,sh,_,c,rfl,rfl,hss,hc,rfl,_,rfl,jT (fun z=>?_) (kS ⟨_,rfl,good hg,rfl⟩)⟩;have:=nQ ((V.str.inj z).trans lit_f);omega
  refine jT (fun z=>e1 (nQ ((V.str.inj z).trans lit_n))) (kS ⟨_,rfl,_,rfl,sh,_,c,rfl,rfl,hss,hc,rfl,_,rfl,?_⟩)
  by_cases e2:c=102
  ·have ep:zE c ws[i]=jP ws[i]:=by unfold zE;exact (if_neg e1).trans (if_pos e2)
   rw [ep] at bad good;refine jZ (congrArg V.str (by rw [e2];exact lit_f.symm)) ⟨_,rfl,_,rfl,wl,_,_,_,rfl,rfl,so hwl,hwi,ws[i],rfl,hl,_,rfl,?_⟩;cases hg:jP ws[i] with
   |false=>exact kR (bad hg)
   |true=>exact kS ⟨_,rfl,good hg,rfl⟩
  ·exact jT (fun z=>e2 (nQ ((V.str.inj z).trans lit_f))) (kS ⟨_,rfl,good (by unfold zE;exact (if_neg e1).trans (if_neg e2)),rfl⟩)
 ·rintro σ Hi ⟨k,rfl,ha,rfl⟩;rw [Int.toNat_natCast] at ha;rw [rV fun i c w h1 h2=>ha i c w (by have:=(List.getElem?_eq_some_iff.mp h1).1;rw [Array.length_toList] at this;exact this) h1 h2] at q;exact q
theorem pV:FnScope ["words","size"] ["words"] (jI bO):=kG
include T in
theorem B5 {f:Addr} {fd:FuncData} (F:Fun K "_law_formed" "_law_formed" bO f fd) (D__law_shaped:Def P w K mg base 2 "_law_shaped" ["words","shape"] [] (tZ)):FnOk P w K mg base kB 3 f fd ["words"] (uJ):=by
 refine F.ok2 pV fun vs H Q E h=>?_
 obtain ⟨wl,ws,rfl,hwl,hne,hsh,q⟩:=h;refine ⟨rfl,fun _ _ _ _ hr=>?_⟩;refine ⟨_,(jH (jN (i:=1) pV.nd rfl (.inl rfl) (j5 (kW K) (by rfl) T.z_len PySem.boot_len (jA (pv 0) jC)))
   (jH (jV (jU kF (jF (jL K) (pv 0) jB) jJ) (jG (jS (zM (qP kF (pv 1) jB) (zM (qP vI (jF (jL K) (pv 0) jB) jJ) (yH (kO D__law_shaped hr rfl (jA (pv 0) (jA jJ jC)))))))) kA)
   (jH (jV (PW.pt (QU (jU kF (jF (jL K) (pv 0) jB) jJ) (ZT (jU kF (pv 1) jB)))) (jG (jS (zM (qP (iF K) (jF (jL K) (pv 0) jB) (kC (jA jJ (jA jJ jC)))) (yH (kO D__law_shaped hr rfl (jA (pv 0) (jA jJ jC))))))) kA)
   (jH (jV (jU kF (jF (jL K) (pv 0) jB) jJ) (jG (jS (zM (qP kF (pv 1) jB) (yH (kO D__law_shaped hr rfl (jA (pv 0) (jA jJ jC))))))) kA)
   (jG (jS (zM (qP kF (jF (jL K) (pv 0) jB) jJ) (zM (qP kF (jE kJ (pv 1) jB) jB) (yH (kO D__law_shaped hr rfl (jA (pv 0) (jA (jE kN jJ (jE LM jJ (jE q8 (pv 1) jB))) jC)))))))))))),?_⟩
 have hw0:=iD hne;have h100:=hsh.1;have lenI:∀n:Nat,V.int (((ws.map V.str).length:Nat):Int)=V.int (n:Int)→ws.length=n:=fun n z=>by have:=V.int.inj z;rw [length_map] at this;omega
 have lenJ:∀n:Nat,ws.length=n→V.int (((ws.map V.str).length:Nat):Int)=V.int (n:Int):=fun n z=>by rw [length_map,z]
 refine ⟨_,rfl,wl,_,rfl,.inl (so hwl),?_⟩
 by_cases e1:ws.getD 0 ""="reach"
 ·have fo:QZ ws↔gM ws:=⟨fun z=>z.elim (·.2) fun z=>z.elim (fun z=>absurd (e1.symm.trans z.1) AO) fun z=>absurd (e1.symm.trans z.1) AM,fun z=>.inl ⟨e1,z⟩⟩;refine ⟨_,rfl,wl,_,_,_,rfl,rfl,so hwl,hw0,rfl,_,rfl,jZ (congrArg V.str e1) ⟨_,rfl,rfl,_,rfl,?_⟩⟩
  by_cases h7:ws.length=7
  case neg=>exact jT (fun z=>h7 (lenI 7 z)) (q false H ⟨fun z=>(nomatch z),fun z=>absurd (fo.mp z).1 h7⟩ (Same.refl _))
  refine jZ (lenJ 7 h7) ?_;obtain ⟨w0,w1,w2,w3,w4,w5,w6,rfl⟩:=JF h7;refine ⟨_,rfl,wl,_,_,_,rfl,rfl,so hwl,rfl,rfl,_,rfl,?_⟩
  by_cases hs:w1="sea"
  ·exact vJ (congrArg V.str hs) (q false H ⟨fun z=>(nomatch z),fun z=>absurd hs (fo.mp z).2.1⟩ (Same.refl _))
  refine y0 (fun z=>hs (V.str.inj z)) ⟨_,rfl,wl,_,"-nffffn",rfl,hwl,hsh,(by show ("-nffffn":Str).length=7;decide +kernel),q _ H ?_ (Same.refl _)⟩;rw [fo,K7,Bool.and_eq_true];exact ⟨fun z=>⟨rfl,hs,z.1,z.2⟩,fun z=>⟨z.2.2.1,z.2.2.2⟩⟩
 refine ⟨_,rfl,wl,_,_,_,rfl,rfl,so hwl,hw0,rfl,_,rfl,jT (fun z=>e1 (V.str.inj z)) ⟨_,rfl,wl,_,_,_,rfl,rfl,so hwl,hw0,rfl,_,rfl,?_⟩⟩
 by_cases e2:ws.getD 0 ""="lock"
 ·have fo:QZ ws↔gO ws:=⟨fun z=>z.elim (fun z=>absurd z.1 e1) fun z=>z.elim (·.2) fun z=>absurd (e2.symm.trans z.1) AN,fun z=>.inr (.inl ⟨e2,z⟩)⟩;refine jZ (congrArg V.str e2) ⟨_,rfl,rfl,_,rfl,?_⟩
  by_cases h7:ws.length=7
  ·refine jZ (lenJ 7 h7) ?_;obtain ⟨w0,w1,w2,w3,w4,w5,w6,rfl⟩:=JF h7;refine ⟨_,rfl,wl,_,_,_,rfl,rfl,so hwl,rfl,zz2,fun tp htp=>?_⟩;have u:=jK htp (.lst [V.str "basin",V.str "pump"]);refine ⟨tp,_,rfl,.inl (so jD),rfl,rfl,_,rfl,?_⟩;show if vY (V.str w5) [V.str "basin",V.str "pump"]=true then _ else _
   cases hk:vY (V.str w5) [V.str "basin",V.str "pump"] with
   |false =>
    refine kS (q false _ ⟨fun z=>(nomatch z),fun z=>?_⟩ u)
    rcases (fo.mp z).1 with h|⟨_,h⟩
    ·exact absurd h (by show ¬(7:Nat)=5;decide)
    ·have:=(lQ w5).mpr h;rw [hk] at this;cases this
   |true =>
    refine kR ⟨_,rfl,wl,_,"-nnnf-f",rfl,u _ _ hwl,hsh,(by show ("-nnnf-f":Str).length=7;decide +kernel),q _ _ ?_ u⟩;rw [fo,IJ,Bool.and_eq_true];exact ⟨fun z=>⟨.inr ⟨rfl,(lQ w5).mp hk⟩,z.1,z.2⟩,fun z=>⟨z.2.1,z.2.2⟩⟩
  ·refine jT (fun z=>h7 (lenI 7 z)) ⟨_,rfl,wl,_,_,_,rfl,rfl,so hwl,hw0,rfl,_,rfl,jZ (congrArg V.str e2) ⟨_,rfl,rfl,_,rfl,?_⟩⟩
   by_cases h5:ws.length=5
   case neg =>
    refine jT (fun z=>h5 (lenI 5 z)) (q false H ⟨fun z=>(nomatch z),fun z=>?_⟩ (Same.refl _))
    rcases (fo.mp z).1 with h|⟨h,_⟩
    ·exact absurd h h5
    ·exact absurd h h7
   refine jZ (lenJ 5 h5) ?_;obtain ⟨w0,w1,w2,w3,w4,rfl⟩:=eQ h5;refine ⟨_,rfl,wl,_,"-nnnf",rfl,hwl,hsh,(by show ("-nnnf":Str).length=5;decide +kernel),q _ H ?_ (Same.refl _)⟩;rw [fo,IK,Bool.and_eq_true];exact ⟨fun z=>⟨.inl rfl,z.1,z.2⟩,fun z=>⟨z.2.1,z.2.2⟩⟩
 refine jT (fun z=>e2 (V.str.inj z)) (kS ⟨_,rfl,wl,_,_,_,rfl,rfl,so hwl,hw0,rfl,_,rfl,jT (fun z=>e2 (V.str.inj z)) ⟨_,rfl,wl,_,_,_,rfl,rfl,so hwl,hw0,rfl,_,rfl,?_⟩⟩)
 by_cases e3:ws.getD 0 ""="night"
 case neg=>exact jT (fun z=>e3 (V.str.inj z)) (q false H ⟨fun z=>(nomatch z),fun z=>z.elim (fun z=>absurd z.1 e1) fun z=>z.elim (fun z=>absurd z.1 e2) fun z=>absurd z.1 e3⟩ (Same.refl _))
 have fo:QZ ws↔gN ws:=⟨fun z=>z.elim (fun z=>absurd z.1 e1) fun z=>z.elim (fun z=>absurd z.1 e2) (·.2),fun z=>.inr (.inr ⟨e3,z⟩)⟩;refine jZ (congrArg V.str e3) ⟨_,rfl,_,_,rfl,rfl,(by show (0:Int)<3;decide),rfl,_,rfl,?_⟩
 by_cases h3:ws.length%3=1
 case neg=>exact jT (fun z=>h3 (by have:=V.int.inj z;rw [length_map] at this;omega)) (q false H ⟨fun z=>(nomatch z),fun z=>absurd (fo.mp z).1 h3⟩ (Same.refl _))
 refine jZ (congrArg V.int (by rw [length_map];omega)) ?_;obtain ⟨w0,hws⟩:=iC h3;have hlw:ws.length=3*(qK ws.tail).length+1:=by
  have:=congrArg List.length hws;rw [length_cons,fH] at this;exact this
 have fo:QZ ws↔(ws.length%3=1∧((qK ws.tail).map (·.1)).all (jO lettersS)=true∧((qK ws.tail).map (·.2.1)).all jP=true∧((qK ws.tail).map (·.2.2)).all jP=true):=fo;generalize qK ws.tail=qs at hws hlw fo;have hdiv:((((ws.map V.str).length:Nat):Int) / 3).toNat=qs.length:=by rw [length_map];omega
 have hrl:("nff":Str).length=3:=by decide +kernel
 have hml:("-":Str).length=1:=by decide +kernel
 have hshl:(("-":Str)++y7 "nff" qs.length).length=ws.length:=by rw [Str.length_append,nV,hrl,hml];omega
 refine ⟨_,rfl,_,rfl,_,_,rfl,rfl,⟨by decide,by decide⟩,_,_,rfl,rfl,by rw [length_map];omega,by rw [length_map];omega,by rw [hrl];decide,_,_,rfl,rfl,?_,?_⟩
 ·rw [hdiv,nV,hrl,hml];exact small (by omega)
 rw [hdiv];refine ⟨wl,ws,_,rfl,hwl,hsh,hshl,q _ H ?_ (Same.refl _)⟩;rw [fo];have hsb:=K8 w0 qs;rw [← hws] at hsb;rw [hsb,Bool.and_eq_true,Bool.and_eq_true];exact ⟨fun z=>⟨h3,z.1.1,z.1.2,z.2⟩,fun z=>⟨⟨z.2.1,z.2.2.1⟩,z.2.2.2⟩⟩
theorem zX:FnScope ["words","lists","names","sort","many","numbers","bad","strange","extra","told","twice"] ["words","lists"] (jI JL):=kG
include T in
theorem CQ {f:Addr} {fd:FuncData} (F:Fun K "_law_sorts" "_law_sorts" JL f fd) : FnOk P w K mg base kB 1 f fd ["words","lists"] (wO):=by
 refine F.ok2 zX fun vs H Q E h=>?_
 obtain ⟨wl,tl,a,b,c,ws,S,rfl,hwl,hsh,hform,⟨rs,ls,ns,htl,ha,hb,hc,hR,hL,hN,dd⟩,⟨j8,jl8,jn6⟩,q⟩:=h;refine ⟨rfl,fun _ _ _ _ hr=>?_⟩;refine ⟨_,(vC (jN (i:=2) zX.nd rfl (.inr rfl) (zD ["one"] (qZ 1 []) rfl (vO (jI JL)) (cps 1 []) (vA (jF (jL K) (pv 1) jB)) (fun _ _ _ _ _=>(kL (i:=0) (show List.Nodup (["one"]:List Str) from by decide +kernel) rfl (.inl rfl))) (fun _ _ _ _ _=>v8) (fun _ _ _ _ _=>(jF (qF K) (pv 0) jB))))
   (jH (jN (i:=3) zX.nd rfl (.inl rfl) (qB PySem.F.plainAttrs_list PySem.F.slot_list_index PySem.F.type_list_index ZS (kC (jA jJ (jA jJ (jA jJ jC)))) (jA (jF (jL K) (pv 0) jB) jC)))
   (vC (jN (i:=4) zX.nd rfl (.inl rfl) (qP gK (j5 (kW K) (by rfl) T.z_len PySem.boot_len (jA (jF (jL K) (pv 1) (pv 3)) jC)) (jF (jL K) (kC (jA jB (jA jB (jA jB jC)))) (pv 3))))
   (jH (jV (jU kF (jF (jL K) (pv 0) jB) jJ) (jH (ZP (i:=5) ["word"] (qZ 1 []) zX.nd rfl (.inl rfl) rfl (vO (jI JL)) (cps 1 []) (vA (vB (yG K) (pv 0) (kT jB) (kT jB))) (fun _ _ _ _ _=>(kL (i:=0) (show List.Nodup (["word"]:List Str) from by decide +kernel) rfl (.inl rfl))) (fun _ _ _ _ _=>v8) (fun _ _ _ _ _=>(vQ JR (by rfl) T.z_int PyProof.Rows.boot_int (jA (pv 0) jC))))
   (vC (jN (i:=6) zX.nd rfl (.inl rfl) (Q2 (qP eE (jF (jL K) (pv 5) jB) (jF (jL K) (pv 5) jB)) (Q2 (qP zQ (jF (jL K) (pv 5) jB) jB) (yH (qP eE (jF (jL K) (pv 5) jB) jB)))))
   (jG (jS (kC (jA (qP (iF K) (jF (jL K) (pv 0) jB) (pv 2)) (jA (qP (fB K) (jF (jL K) (pv 0) jB) (jE qQ (pv 2) (kC (jA jJ jC)))) (jA (pv 6) (jA (pv 4) jC))))))))) kA)
   (jH (jV (jU kF (jF (jL K) (pv 0) jB) jJ) (vC (jN (i:=7) zX.nd rfl (.inl rfl) (Q2 (qP (fB K) (jF (jL K) (pv 0) jB) (pv 2)) (yH (qP (fB K) (jF (jL K) (pv 0) jB) (pv 2)))))
   (jH (jN (i:=8) zX.nd rfl (.inl rfl) (vQ JR (by rfl) T.z_int PyProof.Rows.boot_int (jA (jF (jL K) (pv 0) (eA d7 jB)) jC)))
   (vC (jN (i:=6) zX.nd rfl (.inl rfl) (Q2 (qP zQ (vQ JR (by rfl) T.z_int PyProof.Rows.boot_int (jA (jF (jL K) (pv 0) jB) jC)) jB) (Q2 (qP zQ (pv 8) jB) (yH (qP eE (pv 8) (vQ JR (by rfl) T.z_int PyProof.Rows.boot_int (jA (jF (jL K) (pv 0) jB) jC)))))))
   (vC (jN (i:=6) zX.nd rfl (.inl rfl) (Q2 (pv 6) (yH (zM (xZ (pv 7)) (yH (qP gK (qB PySem.F.plainAttrs_list PySem.F.slot_list_index PySem.F.type_list_index ZS (pv 2) (jA (jF (jL K) (pv 0) jB) jC)) (qB PySem.F.plainAttrs_list PySem.F.slot_list_index PySem.F.type_list_index ZS (pv 2) (jA (jF (jL K) (pv 0) jB) jC))))))))
   (jG (jS (kC (jA (qP (iF K) (jF (jL K) (pv 0) jB) (zD ["one"] (qZ 1 []) rfl (vO (jI JL)) (cps 1 []) (vA (jF (jL K) (pv 1) jB)) (fun _ _ _ _ _=>(kL (i:=0) (show List.Nodup (["one"]:List Str) from by decide +kernel) rfl (.inl rfl))) (fun _ _ _ _ _=>v8) (fun _ _ _ _ _=>(jF (qF K) (pv 0) jB)))) (jA (pv 7) (jA (pv 6) (jA (pv 4) jC))))))))))) kA)
   (jH (jN (i:=9) zX.nd rfl (.inl rfl) (iN (pv 0) (kT jB) vS (kT jB)))
   (jH (jN (i:=10) zX.nd rfl (.inl rfl) (qP vI (sX rfl (by rfl) T.z_len (by rfl) T.z_set (pv 9)) (j5 (kW K) (by rfl) T.z_len PySem.boot_len (jA (pv 9) jC))))
   (jG (jS (kC (jA (pv 10) (jA (qP eE (j5 (kW K) (by rfl) T.z_len PySem.boot_len (jA (zD ["name","names"] (qZ 1 [2]) rfl (vO (jI JL)) (cps 1 [2]) (vA (pv 9)) (fun _ _ _ _ _=>(kL (i:=0) (show List.Nodup (["name","names"]:List Str) from by decide +kernel) rfl (.inl rfl))) (fun _ _ _ _ _=>(fR (jU (fB K) (pv 0) (pv 1)))) (fun _ _ _ _ _=>(pv 0))) jC)) jB) (jA vN (jA (pv 4) jC)))))))))))))),?_⟩
 have hne:ws≠[]:=fun z=>by rcases hform with ⟨e,_⟩|⟨e,_⟩|⟨e,_⟩<;>rw [z] at e<;>exact absurd e (by decide +kernel)
 have hw0:=iD hne;have hrs:rs.length=S.1.length:=by rw [hR.1,length_map]
 have hls:ls.length=S.2.1.length:=by rw [hL.1,length_map]
 have hns:ns.length=S.2.2.length:=by rw [hN.1,length_map]
 refine ⟨fun σ' G=>∃D,σ'=[some (.ref wl),some (.ref tl),some (.ref D),none,none,none,none,none,none,none,none]∧Same H G∧G D=some (.lst ((jR S.1).map V.str)),?_,?_⟩
 ·refine ⟨_,rfl,tl,_,_,_,rfl,rfl,so htl,rfl,a,rfl,⟨_,so ha⟩,fun D hD=>?_⟩;refine v0 (K:=K) (a:=a) (xs:=rs) (caps:=[]) (fun i ys Hi=>ys=((jR S.1).take i).map V.str) hD (so ha) rfl ?_ ?_
  ·rintro i v ys Hi hv hi hle sm hY rfl;obtain ⟨it,hit,hat⟩:=hR.2 i v hv;rw [List.getElem?_map] at hit;cases hr:S.1[i]? with
   |none=>rw [hr] at hit;cases hit
   |some r =>
    rw [hr] at hit;cases hit;obtain ⟨t,rfl,ht⟩:=hat
    have hi8:i<100:=by have:=(List.getElem?_eq_some_iff.mp hr).1;omega
    refine yD (kR ⟨_,rfl,t,_,_,_,rfl,rfl,SqT.of (sm _ _ ht),rfl,?_⟩);refine vK hD sm hY hle (by omega) (Same.refl _) ?_;rw [take_add_one,map_append,xY hr];rfl
  rintro ys H1 s1 hD1 hle rfl;rw [hrs,show S.1.length=(jR S.1).length from (length_map _).symm,take_length] at hD1;exact ⟨D,rfl,s1,hD1⟩
 rintro σ' H1 ⟨D,rfl,s1,hD1⟩;have hwl1:=s1 _ _ hwl;have htl1:=s1 _ _ htl;obtain ⟨J,Y,xs,cap,hJ3,hJe,hJn,hJx,hY1,hJc,hkind⟩:∃(J:Nat) (Y:Addr) (xs:List V) (cap:Int),J<3∧yX ([V.str "reach",V.str "lock",V.str "night"].getD J .non) (V.str (ws.getD 0 ""))=true∧(∀i,i<J→yX ([V.str "reach",V.str "lock",V.str "night"].getD i .non) (V.str (ws.getD 0 ""))=false)∧kQ [V.ref a,V.ref b,V.ref c] (J:Int)=some (.ref Y)∧H1 Y=some (.lst xs)∧kQ [V.int 8,V.int 8,V.int 6] (J:Int)=some (.int cap)∧((ws.getD 0 ""="reach"∧gM ws∧rs=xs∧8=cap∧0=J)∨(ws.getD 0 ""="lock"∧gO ws∧ls=xs∧8=cap∧1=J)∨(ws.getD 0 ""="night"∧gN ws∧ns=xs∧6=cap∧2=J)):=by
  rcases hform with ⟨e,hf⟩|⟨e,hf⟩|⟨e,hf⟩
  ·exact ⟨0,a,rs,8,by decide,(by show (("reach":Str) == ws.getD 0 "")=true;rw [e];exact beq_self_eq_true _),(fun i hi=>absurd hi (Nat.not_lt_zero i)),rfl,s1 _ _ ha,rfl,.inl ⟨e,hf,rfl,rfl,rfl⟩⟩
  ·exact ⟨1,b,ls,8,by decide,(by show (("lock":Str) == ws.getD 0 "")=true;rw [e];exact beq_self_eq_true _),(fun i hi=>match i,hi with|0,_=>(show (("reach":Str) == ws.getD 0 "")=false by rw [e];decide +kernel)),rfl,s1 _ _ hb,rfl,.inr (.inl ⟨e,hf,rfl,rfl,rfl⟩)⟩
  ·exact ⟨2,c,ns,6,by decide,(by show (("night":Str) == ws.getD 0 "")=true;rw [e];exact beq_self_eq_true _),(fun i hi=>match i,hi with|0,_=>(show (("reach":Str) == ws.getD 0 "")=false by rw [e];decide +kernel)|1,_=>(show (("lock":Str) == ws.getD 0 "")=false by rw [e];decide +kernel)),rfl,s1 _ _ hc,rfl,.inr (.inr ⟨e,hf,rfl,rfl,rfl⟩)⟩
 refine ⟨zz3,fun p hp=>?_⟩;have t1:=jK hp (.lst [V.str "reach",V.str "lock",V.str "night"]);refine ⟨.inl ⟨rfl,_,so jD⟩,_,rfl,wl,_,_,_,rfl,rfl,so (t1 _ _ hwl1),hw0,p,_,_,J,rfl,rfl,jD,rfl,rfl,hJ3,(by omega),hJe,hJn,?_⟩;refine ⟨fun σ' G=>σ'=[some (.ref wl),some (.ref tl),some (.ref D),some (.int (J:Int)),some (.bl (decide (cap≤((xs.length:Nat):Int)))),none,none,none,none,none,none]∧Same H1 G,?_,?_⟩
 ·have htl2:=t1 _ _ htl1;refine ⟨_,rfl,_,rfl,tl,_,_,_,rfl,rfl,so htl2,hJx,Y,_,rfl,.inl (so (t1 _ _ hY1)),zz3,fun p2 hp2=>?_⟩;have t2:=jK hp2 (.lst [V.int 8,V.int 8,V.int 6]);refine ⟨_,rfl,p2,_,_,_,rfl,rfl,so jD,hJc,_,_,rfl,rfl,?_⟩;exact ⟨rfl,t1.trans t2⟩
 rintro σ' H3 ⟨rfl,t3⟩;have hwl3:=t3 _ _ hwl1;have htl3:=t3 _ _ htl1;have hD3:=t3 _ _ hD1;have hb3:=t3 _ _ (s1 _ _ hb);have s3:=s1.trans t3;clear hJe hJn hJx hJc hJ3 hY1
 rcases hkind with ⟨e,hf,rfl,rfl,rfl⟩|⟨e,hf,rfl,rfl,rfl⟩|⟨e,hf,rfl,rfl,rfl⟩
 ·refine ⟨_,rfl,wl,_,_,_,rfl,rfl,so hwl3,hw0,rfl,_,rfl,jZ (congrArg V.str e) ?_⟩;have f3:=hf.2.2.2;obtain ⟨w0,w1,w2,w3,w4,w5,w6,rfl⟩:=JF hf.1;refine ⟨_,rfl,_,rfl,_,rfl,wl,_,rfl,so hwl3,fun c₁ hc₁=>⟨c₁,rfl,⟨_,so jD⟩,fun E₁ hE₁=>?_⟩⟩;have t4:=jK hc₁ (.lst ([w2,w3,w4,w5].map V.str));have hsub:∀w∈[w2,w3,w4,w5],w∈[w0,w1,w2,w3,w4,w5,w6]:=by simp
  refine v0 (K:=K) (a:=c₁) (xs:=[w2,w3,w4,w5].map V.str) (caps:=[]) (fun i ys Hi=>ys=(([w2,w3,w4,w5].take i).map jX).map V.int) hE₁ (so jD) rfl ?_ ?_
  ·rintro i v ys Hi hv hi hle sm hY rfl;obtain ⟨w,hw,rfl⟩:=J9 hv;have hi4:i<4:=hi;have hm:=mem_of_getElem? hw;obtain ⟨n1,n2⟩:=QS hsh (hsub w hm) (all_eq_true.mp f3 w hm);refine yD (kR ⟨_,rfl,w,_,rfl,n1,n2,?_⟩);refine vK hE₁ sm hY hle (by omega) (Same.refl _) ?_;rw [take_add_one,hw,map_append,map_append];rfl
  rintro ys H4 s4 hE4 _ rfl;have hwl4:=s4 _ _ (t4 _ _ hwl3);have hD4:=s4 _ _ (t4 _ _ hD3);have s14:=(s3.trans t4).trans s4;refine ⟨fun σ' H'=>∃b:Bool,σ'=[some (.ref wl),some (.ref tl),some (.ref D),some (.int ((0:Nat):Int)),some (.bl (decide ((8:Int)≤((rs.length:Nat):Int)))),some (.ref E₁),some (.bl b),none,none,none,none]∧(b=true↔Q4 (yV [w0,w1,w2,w3,w4,w5,w6] 0))∧H4=H',?_,?_⟩
  ·refine ⟨_,rfl,E₁,_,_,_,rfl,rfl,so hE4,rfl,_,rfl,E₁,_,_,_,rfl,rfl,so hE4,rfl,_,_,rfl,rfl,_,rfl,?_⟩
   by_cases b1:jX w3<jX w2
   ·exact jZ b1 ⟨true,rfl,⟨fun _=>.inl b1,fun _=>rfl⟩,rfl⟩
   refine jT b1 ⟨_,rfl,E₁,_,_,_,rfl,rfl,so hE4,rfl,_,_,rfl,rfl,_,rfl,?_⟩
   by_cases b2:jX w4<1
   ·exact jZ b2 ⟨true,rfl,⟨fun _=>.inr (.inl b2),fun _=>rfl⟩,rfl⟩
   refine jT b2 ⟨_,rfl,E₁,_,_,_,rfl,rfl,so hE4,rfl,_,_,rfl,rfl,?_⟩;exact ⟨decide (9<jX w4),rfl,⟨fun z=>.inr (.inr (of_decide_eq_true z)),fun z=>decide_eq_true ((z.resolve_left b1).resolve_left b2)⟩,rfl⟩
  rintro σ' H' ⟨bd,rfl,hbd,rfl⟩;refine ⟨_,rfl,wl,_,_,_,rfl,rfl,so hwl4,rfl,_,rfl,D,_,rfl,.inl (so hD4),rfl,zJ _,_,rfl,wl,_,_,_,rfl,rfl,so hwl4,rfl,_,rfl,zz1,fun p₅ hp₅=>?_⟩;have t5:=jK hp₅ (.lst [V.str "sea"]);refine ⟨D,p₅,_,_,rfl,rfl,t5 _ _ hD4,jD,small (by rw [length_map];unfold jR;rw [length_map];show _+1≤1000;omega),fun p₆ hp₆=>?_⟩;have t6:=jK hp₆ (.lst ((jR S.1).map V.str++[V.str "sea"]));refine ⟨p₆,_,rfl,.inl (so jD),rfl,by rw [all_append,zJ];rfl,_,rfl,_,rfl,zz4,fun p₇ hp₇=>?_⟩;refine q p₇ _ _ _ _ _ (((s14.trans t5).trans t6).trans (jK hp₇ _)) jD (MH e hf in_iff ?_ hbd ?_)
  ·rw [IC];have:=not_in (zs:=jR S.1++[("sea":Str)]) (nm:=w6);rw [map_append] at this;exact this
  ·rw [decide_eq_true_iff];show _↔8≤S.1.length;omega
 ·refine ⟨_,rfl,wl,_,_,_,rfl,rfl,so hwl3,hw0,rfl,_,rfl,jT (fun z=>gQ (e.symm.trans (V.str.inj z))) ⟨_,rfl,wl,_,_,_,rfl,rfl,so hwl3,hw0,rfl,_,rfl,jZ (congrArg V.str e) ?_⟩⟩;have facts:∃lw:Str,kQ (ws.map V.str) 1=some (V.str (ws.getD 1 ""))∧kQ (ws.map V.str) 2=some (V.str (ws.getD 2 ""))∧kQ (ws.map V.str) 3=some (V.str (ws.getD 3 ""))∧kQ (ws.map V.str) 4=some (V.str (ws.getD 4 ""))∧kQ (ws.map V.str) (-1)=some (V.str lw)∧ws.getD 4 ""∈ws∧lw∈ws∧jP (ws.getD 4 "")=true∧jP lw=true∧(∀i j,(QJ (vD ws i j)↔((jX (ws.getD 4 "")<1∨jX lw<1∨jX (ws.getD 4 "")<jX lw)∨(i:Int)≤(j:Int)))):=by
   have hn:=hf.2.2
   rcases hf.1 with h|⟨h,hk⟩
   ·obtain ⟨w0,w1,w2,w3,w4,rfl⟩:=eQ h;have h4:jP w4=true:=all_eq_true.mp hn w4 (by simp);refine ⟨w4,rfl,rfl,rfl,rfl,rfl,by simp,by simp,h4,h4,fun i j=>?_⟩;have:=wI w4;show ((i:Int)≤(j:Int)∨jX w4=0∨(Kd.plain≠Kd.plain∧_))↔((jX w4<1∨jX w4<1∨jX w4<jX w4)∨(i:Int)≤(j:Int));constructor
    ·rintro (z|z|⟨z,_⟩)
     ·exact .inr z
     ·exact .inl (.inl (by omega))
     ·exact absurd rfl z
    ·rintro ((z|z|z)|z)
     ·exact .inr (.inl (by omega))
     ·exact .inr (.inl (by omega))
     ·omega
     ·exact .inl z
   ·obtain ⟨w0,w1,w2,w3,w4,w5,w6,rfl⟩:=JF h;have h4:jP w4=true:=all_eq_true.mp hn w4 (by simp);have h6:jP w6=true:=all_eq_true.mp hn w6 (by simp);refine ⟨w6,rfl,rfl,rfl,rfl,rfl,by simp,by simp,h4,h6,fun i j=>?_⟩;have:=wI w4;have hkd:QL [w0,w1,w2,w3,w4,w5,w6]≠.plain:=by
     show (if (7:Nat)=5 then Kd.plain else if w5="basin" then .basin else .pump)≠.plain;rw [if_neg (by decide)];split<;>exact fun z=>nomatch z
    show ((i:Int)≤(j:Int)∨jX w4=0∨(QL [w0,w1,w2,w3,w4,w5,w6]≠Kd.plain∧(jX w6<1∨jX w4<jX w6)))↔((jX w4<1∨jX w6<1∨jX w4<jX w6)∨(i:Int)≤(j:Int));constructor
    ·rintro (z|z|⟨_,z|z⟩)
     ·exact .inr z
     ·exact .inl (.inl (by omega))
     ·exact .inl (.inr (.inl z))
     ·exact .inl (.inr (.inr z))
    ·rintro ((z|z|z)|z)
     ·exact .inr (.inl (by omega))
     ·exact .inr (.inr ⟨hkd,.inl z⟩)
     ·exact .inr (.inr ⟨hkd,.inr z⟩)
     ·exact .inl z
  obtain ⟨lw,a1,a2,a3,a4,al,m4,ml,n4,nl,hbad⟩:=facts;refine ⟨fun σ' H'=>∃b:Bool,σ'=[some (.ref wl),some (.ref tl),some (.ref D),some (.int ((1:Nat):Int)),some (.bl (decide ((8:Int)≤((ls.length:Nat):Int)))),none,none,some (.bl b),none,none,none]∧(b=true↔(qC (jR S.1) (ws.getD 2 "")∨qC (jR S.1) (ws.getD 3 "")))∧H3=H',?_,?_⟩
  ·refine ⟨_,rfl,wl,_,_,_,rfl,rfl,so hwl3,a2,_,rfl,D,_,rfl,.inl (so hD3),rfl,zJ _,_,rfl,?_⟩;show if (!vY (V.str (ws.getD 2 "")) ((jR S.1).map V.str))=true then _ else _
   cases hi2:vY (V.str (ws.getD 2 "")) ((jR S.1).map V.str) with
   |false=>exact kR ⟨true,rfl,⟨fun _=>.inl (in_false.mp hi2),fun _=>rfl⟩,rfl⟩
   |true =>
    refine kS ⟨_,rfl,wl,_,_,_,rfl,rfl,so hwl3,a3,_,rfl,D,_,rfl,.inl (so hD3),rfl,zJ _,_,rfl,?_,rfl⟩;exact ⟨fun z=>.inr (not_in.mp z),fun z=>not_in.mpr (z.resolve_left (in_iff.mp hi2))⟩
  rintro σ' H' ⟨sb,rfl,hsb,rfl⟩;obtain ⟨k1,k2⟩:=QS hsh m4 n4;obtain ⟨k3,k4⟩:=QS hsh ml nl;refine ⟨_,rfl,_,rfl,wl,_,_,_,rfl,rfl,so hwl3,al,lw,_,rfl,k3,k4,?_⟩;refine ⟨fun σ' H'=>∃b:Bool,σ'=[some (.ref wl),some (.ref tl),some (.ref D),some (.int ((1:Nat):Int)),some (.bl (decide ((8:Int)≤((ls.length:Nat):Int)))),none,some (.bl b),some (.bl sb),some (.int (jX lw)),none,none]∧(b=true↔(jX (ws.getD 4 "")<1∨jX lw<1∨jX (ws.getD 4 "")<jX lw))∧H3=H',?_,?_⟩
  ·refine ⟨_,rfl,wl,_,_,_,rfl,rfl,so hwl3,a4,_,_,rfl,k1,k2,_,_,rfl,rfl,_,rfl,?_⟩
   by_cases b1:jX (ws.getD 4 "")<1
   ·exact jZ b1 ⟨true,rfl,⟨fun _=>.inl b1,fun _=>rfl⟩,rfl⟩
   refine jT b1 ⟨_,rfl,_,_,rfl,rfl,_,rfl,?_⟩
   by_cases b2:jX lw<1
   ·exact jZ b2 ⟨true,rfl,⟨fun _=>.inr (.inl b2),fun _=>rfl⟩,rfl⟩
   refine jT b2 ⟨_,rfl,_,rfl,wl,_,_,_,rfl,rfl,so hwl3,a4,_,_,rfl,k1,k2,_,_,rfl,rfl,?_⟩;exact ⟨decide (jX (ws.getD 4 "")<jX lw),rfl,⟨fun z=>.inr (.inr (of_decide_eq_true z)),fun z=>decide_eq_true ((z.resolve_left b1).resolve_left b2)⟩,rfl⟩
  rintro σ' H' ⟨b1,rfl,hb1,rfl⟩;refine ⟨fun σ' H'=>∃b:Bool,σ'=[some (.ref wl),some (.ref tl),some (.ref D),some (.int ((1:Nat):Int)),some (.bl (decide ((8:Int)≤((ls.length:Nat):Int)))),none,some (.bl b),some (.bl sb),some (.int (jX lw)),none,none]∧(∀i j,FirstAt (jR S.1) (ws.getD 2 "") i→FirstAt (jR S.1) (ws.getD 3 "") j→(b=true↔QJ (vD ws i j)))∧H3=H',?_,?_⟩
  ·refine ⟨_,rfl,_,rfl,?_⟩;cases hq1:b1 with
   |true=>exact kR ⟨true,rfl,fun i j _ _=>⟨fun _=>(hbad i j).mpr (.inl (hb1.mp hq1)),fun _=>rfl⟩,rfl⟩
   |false =>
    refine kS ⟨_,rfl,_,rfl,_,rfl,?_⟩;cases hq2:sb with
    |true =>
     refine kS ⟨false,rfl,fun i j hi hj=>?_,rfl⟩
     rcases hsb.mp hq2 with h|h
     ·exact absurd h hi.some
     ·exact absurd h hj.some
    |false =>
     have hn:=yR hsb hq2
     rcases JU (jR S.1) (ws.getD 2 "") with ⟨i,hi⟩|h
     case inr=>exact absurd (.inl h) hn
     rcases JU (jR S.1) (ws.getD 3 "") with ⟨j,hj⟩|h
     case inr=>exact absurd (.inr h) hn
     obtain ⟨q1,q2,q3⟩:=dQ hi;obtain ⟨q4,q5,q6⟩:=dQ hj;have hnl:((jR S.1).map V.str).length≤8:=by rw [length_map];unfold jR;rw [length_map];exact j8
     refine kR ⟨_,rfl,.inl ⟨rfl,_,so hD3⟩,_,rfl,wl,_,_,_,rfl,rfl,so hwl3,a3,D,_,_,j,rfl,rfl,hD3,rfl,zJ _,q4,by omega,q5,q6,?_⟩;refine ⟨_,rfl,.inl ⟨rfl,_,so hD3⟩,_,rfl,wl,_,_,_,rfl,rfl,so hwl3,a2,D,_,_,i,rfl,rfl,hD3,rfl,zJ _,q1,by omega,q2,q3,_,_,rfl,rfl,?_⟩;refine ⟨decide ((i:Int)≤(j:Int)),rfl,fun i' j' hi' hj'=>?_,rfl⟩;obtain rfl:=hi.uniq hi';obtain rfl:=hj.uniq hj';rw [hbad,decide_eq_true_iff];exact ⟨fun z=>.inr z,fun z=>z.resolve_left (yR hb1 hq1)⟩
  rintro σ' H' ⟨bd,rfl,hbd,rfl⟩;refine ⟨_,rfl,wl,_,_,_,rfl,rfl,so hwl3,a1,_,rfl,tl,_,_,_,rfl,rfl,so htl3,rfl,b,rfl,⟨_,so hb3⟩,fun G hG=>?_⟩;refine v0 (K:=K) (a:=b) (xs:=ls) (caps:=[]) (fun i ys Hi=>ys=((yW S.2.1).take i).map V.str) hG (so hb3) rfl ?_ ?_
  ·rintro i v ys Hi hv hi hle sm hY rfl;obtain ⟨it,hit,hat⟩:=hL.2 i v hv;rw [List.getElem?_map] at hit;cases hr:S.2.1[i]? with
   |none=>rw [hr] at hit;cases hit
   |some r =>
    rw [hr] at hit;cases hit;obtain ⟨t,rfl,ht⟩:=hat
    have hi8:i<100:=by have:=(List.getElem?_eq_some_iff.mp hr).1;omega
    refine yD (kR ⟨_,rfl,t,_,_,_,rfl,rfl,SqT.of (sm _ _ (s3 _ _ ht)),rfl,?_⟩);refine vK hG sm hY hle (by omega) (Same.refl _) ?_;rw [take_add_one,map_append,M4 hr];rfl
  rintro ys H4 s4 hG4 _ rfl;rw [hls,show S.2.1.length=(yW S.2.1).length from (length_map _).symm,take_length] at hG4;refine ⟨G,_,rfl,.inl (so hG4),rfl,zJ _,_,rfl,_,rfl,_,rfl,zz4,fun p₇ hp₇=>?_⟩;refine q p₇ _ _ _ _ _ ((s3.trans s4).trans (jK hp₇ _)) jD (MJ e hf in_iff hsb hbd ?_);rw [decide_eq_true_iff];show _↔8≤S.2.1.length;omega
 ·refine ⟨_,rfl,wl,_,_,_,rfl,rfl,so hwl3,hw0,rfl,_,rfl,jT (fun z=>gP (e.symm.trans (V.str.inj z))) ⟨_,rfl,wl,_,_,_,rfl,rfl,so hwl3,hw0,rfl,_,rfl,jT (fun z=>gR (e.symm.trans (V.str.inj z))) ?_⟩⟩;obtain ⟨w0,hws⟩:=iC hf.1;have hlw:ws.length=3*(qK ws.tail).length+1:=by
   have:=congrArg List.length hws;rw [length_cons,fH] at this;exact this
  have h100:=hsh.1;have fin:=fun b0 b1 b3 h0 h1 h3=>MI (S:=S) (b0:=b0) (b1:=b1) (b3:=b3) e hf h0 h1 h3
  generalize qK ws.tail=qs at hws hlw fin;obtain ⟨k1,_,_⟩:=rY w0 qs;rw [← hws] at k1;refine ⟨_,rfl,_,rfl,_,rfl,lX hwl3 k1 (fun z=>nomatch z) fun c₁ hc₁=>?_⟩;have t4:=jK hc₁ (.lst ((qs.map (·.1)).map V.str));have hc4:upd H3 c₁ (.lst ((qs.map (·.1)).map V.str)) c₁=some (.lst ((qs.map (·.1)).map V.str)):=jD;refine ⟨_,rfl,c₁,qs.map (·.1),rfl,so hc4,by rw [length_map];omega,_,rfl,c₁,_,rfl,.inl (so hc4),rfl,?_⟩;refine ⟨_,rfl,_,rfl,c₁,rfl,⟨_,so hc4⟩,fun G hG=>?_⟩;refine v0 (K:=K) (a:=c₁) (xs:=(qs.map (·.1)).map V.str) (caps:=[some (.ref D)]) (fun i ys Hi=>0<ys.length↔∃nm∈(qs.map (·.1)).take i,qC (jR S.1) nm) hG (so hc4) ⟨fun z=>absurd z (Nat.lt_irrefl 0),fun z=>by obtain ⟨_,z,_⟩:=z;cases z⟩ ?_ ?_
  ·rintro i v ys Hi hv hi hle sm hY hI;obtain ⟨nm,hnm,rfl⟩:=J9 hv;have hi1:i<100:=by rw [length_map,length_map] at hi;omega
   refine ⟨_,rfl,_,rfl,D,_,rfl,.inl (so (sm _ _ (t4 _ _ hD3))),rfl,zJ _,_,rfl,?_⟩;show if (!vY (V.str nm) ((jR S.1).map V.str))=true then _ else _
   cases hin:vY (V.str nm) ((jR S.1).map V.str) with
   |true =>
    refine kS (ZR sm hY hle (Same.refl _) ?_);rw [hI,take_add_one,hnm];refine ⟨fun ⟨x,hx,hxn⟩=>⟨x,mem_append_left _ hx,hxn⟩,fun ⟨x,hx,hxn⟩=>?_⟩
    rcases mem_append.mp hx with hx|hx
    ·exact ⟨x,hx,hxn⟩
    ·rw [mem_singleton.mp hx] at hxn;exact absurd hxn (in_iff.mp hin)
   |false =>
    refine kR ⟨_,rfl,vK hG sm hY hle (by omega) (Same.refl _) ?_⟩;rw [take_add_one,hnm];refine ⟨fun _=>⟨nm,mem_append_right _ (mem_singleton.mpr rfl),in_false.mp hin⟩,fun _=>by rw [length_append];exact Nat.succ_pos _⟩
  rintro ys H5 s5 hG5 _ hI;rw [length_map,take_length] at hI;refine ⟨G,_,rfl,.inl (so hG5),_,_,rfl,rfl,_,rfl,zz4,fun p₇ hp₇=>?_⟩;refine q p₇ _ _ _ _ _ (((s3.trans t4).trans s5).trans (jK hp₇ _)) jD (fin _ _ _ ?_ ?_ ?_)
  ·rw [Bool.not_eq_true',decide_eq_false_iff_not];refine not_congr ⟨fun z=>(iH _).mp (by have:=V.int.inj z;rw [length_map] at this;omega),fun z=>congrArg (fun n:Nat=>V.int (n:Int)) (by rw [(iH _).mpr z];exact (length_map _).symm)⟩
  ·rw [decide_eq_true_iff];refine Iff.trans (Iff.trans ⟨fun z=>?_,fun z=>?_⟩ hI) ⟨fun ⟨x,hx,hxn⟩=>?_,fun ⟨x,hx,hxn⟩=>⟨x.1,mem_map.mpr ⟨x,hx,rfl⟩,hxn⟩⟩
   ·omega
   ·omega
   ·obtain ⟨y,hy,rfl⟩:=mem_map.mp hx;exact ⟨y,hy,hxn⟩
  ·rw [decide_eq_true_iff];show _↔6≤S.2.2.length;omega
theorem zW:FnScope ["words","lists","names","target","numbers","word","extra","ends","pairs","at"] ["words","lists"] (jI QN):=kG
include T in
theorem CN {f:Addr} {fd:FuncData} (F:Fun K "_law_read" "_law_read" QN f fd) : FnOk P w K mg base kB 1 f fd ["words","lists"] (xQ):=by
 refine F.ok2 zW fun vs H Q E h=>?_
 obtain ⟨wl,tl,a,b,c,ws,S,S2,rfl,hwl,hsh,hform,hls0,⟨j8,jl8,jn6⟩,hrow,q⟩:=h;refine ⟨rfl,fun _ _ _ _ hr=>?_⟩;refine ⟨_,(vC (ZP (i:=2) ["one"] (qZ 1 []) zW.nd rfl (.inl rfl) rfl (vO (jI QN)) (cps 1 []) (vA (jF (jL K) (pv 1) jB)) (fun _ _ _ _ _=>(kL (i:=0) (show List.Nodup (["one"]:List Str) from by decide +kernel) rfl (.inl rfl))) (fun _ _ _ _ _=>v8) (fun _ _ _ _ _=>(jF (qF K) (pv 0) jB)))
   (jG (jV (jU kF (jF (jL K) (pv 0) jB) jJ) (jH (jN (i:=3) zW.nd rfl (.inl rfl) (eA d7 jB))
   (vC (jV (jU vI (jF (jL K) (pv 0) jB) jJ) (jG (jN (i:=3) zW.nd rfl (.inl rfl) (qB PySem.F.plainAttrs_list PySem.F.slot_list_index PySem.F.type_list_index ZS (pv 2) (jA (jF (jL K) (pv 0) jB) jC)))) kA)
   (jH (ZP (i:=4) ["word"] (qZ 1 []) zW.nd rfl (.inl rfl) rfl (vO (jI QN)) (cps 1 []) (vA (vB (yG K) (pv 0) (kT jB) (kT jB))) (fun _ _ _ _ _=>(kL (i:=0) (show List.Nodup (["word"]:List Str) from by decide +kernel) rfl (.inl rfl))) (fun _ _ _ _ _=>v8) (fun _ _ _ _ _=>(vQ JR (by rfl) T.z_int PyProof.Rows.boot_int (jA (pv 0) jC))))
   (jG (qD (qB PySem.F.plainAttrs_list PySem.F.slot_list_append PySem.F.type_list_append v9 (jF (jL K) (pv 1) jB) (jA (vQ (EE K) (by rfl) T.z_tuple PyProof.Rows.boot_tuple (jA (jE qQ (jE qQ (vB (yG K) (pv 0) vS (kT jB)) (pv 4)) (kC (jA (pv 3) jC))) jC)) jC))))))) (jG (jV (jU kF (jF (jL K) (pv 0) jB) jJ) (jH (jN (i:=5) zW.nd rfl (.inl rfl) jJ)
   (jH (jN (i:=6) zW.nd rfl (.inl rfl) jB)
   (vC (jV (jU kF (j5 (kW K) (by rfl) T.z_len PySem.boot_len (jA (pv 0) jC)) jB) (jH (jN (i:=5) zW.nd rfl (.inl rfl) (jF (jL K) (pv 0) jB))
   (jG (jN (i:=6) zW.nd rfl (.inl rfl) (vQ JR (by rfl) T.z_int PyProof.Rows.boot_int (jA (jF (jL K) (pv 0) jB) jC))))) kA)
   (jH (jN (i:=7) zW.nd rfl (.inl rfl) (kC (jA (qB PySem.F.plainAttrs_list PySem.F.slot_list_index PySem.F.type_list_index ZS (pv 2) (jA (jF (jL K) (pv 0) jB) jC)) (jA (qB PySem.F.plainAttrs_list PySem.F.slot_list_index PySem.F.type_list_index ZS (pv 2) (jA (jF (jL K) (pv 0) jB) jC)) jC))))
   (jG (qD (qB PySem.F.plainAttrs_list PySem.F.slot_list_append PySem.F.type_list_append v9 (jF (jL K) (pv 1) jB) (jA (zF (jA jJ (jA (jF (jL K) (pv 0) jB) (jA (jF (jL K) (pv 7) jB) (jA (jF (jL K) (pv 7) jB) (jA (vQ JR (by rfl) T.z_int PyProof.Rows.boot_int (jA (jF (jL K) (pv 0) jB) jC)) (jA (pv 5) (jA (pv 6) jC)))))))) jC)))))))) (jH (jN (i:=8) zW.nd rfl (.inl rfl) (kC jC))
   (jH (vM PassesOwn.never rfl (wX (by rfl) T.z_range (jA jB (jA (j5 (kW K) (by rfl) T.z_len PySem.boot_len (jA (pv 0) jC)) (jA jB jC)))) (kL (i:=9) zW.nd rfl (.inl rfl))
    (jG (qD (qB PySem.F.plainAttrs_list PySem.F.slot_list_append PySem.F.type_list_append v9 (pv 8) (jA (zF (jA (qB PySem.F.plainAttrs_list PySem.F.slot_list_index PySem.F.type_list_index ZS (pv 2) (jA (jF (jL K) (pv 0) (pv 9)) jC)) (jA (vQ JR (by rfl) T.z_int PyProof.Rows.boot_int (jA (jF (jL K) (pv 0) (jE qI (pv 9) jB)) jC)) (jA (vQ JR (by rfl) T.z_int PyProof.Rows.boot_int (jA (jF (jL K) (pv 0) (jE qI (pv 9) jB)) jC)) jC)))) jC)))))
   (jG (qD (qB PySem.F.plainAttrs_list PySem.F.slot_list_append PySem.F.type_list_append v9 (jF (jL K) (pv 1) jB) (jA (zF (jA jJ (jA (pv 8) jC))) jC))))))))))),?_⟩
 have hls1:=hls0;obtain ⟨rs,ls,ns,htl,ha,hb,hc,hR,hL,hN,dd⟩:=hls0;have hne:ws≠[]:=fun z=>by rcases hform with ⟨e,_⟩|⟨e,_⟩|⟨e,_⟩<;>rw [z] at e<;>exact absurd e (by decide +kernel)
 have hw0:=iD hne;have hrs:rs.length=S.1.length:=by rw [hR.1,length_map]
 have hls:ls.length=S.2.1.length:=by rw [hL.1,length_map]
 have hns:ns.length=S.2.2.length:=by rw [hN.1,length_map]
 have hnl:((jR S.1).map V.str).length≤8:=by rw [length_map];unfold jR;rw [length_map];exact j8
 refine ⟨fun σ' G=>∃D,σ'=[some (.ref wl),some (.ref tl),some (.ref D),none,none,none,none,none,none,none]∧Same H G∧G D=some (.lst ((jR S.1).map V.str)),?_,?_⟩
 ·refine ⟨_,rfl,tl,_,_,_,rfl,rfl,so htl,rfl,a,rfl,⟨_,so ha⟩,fun D hD=>?_⟩;refine v0 (K:=K) (a:=a) (xs:=rs) (caps:=[]) (fun i ys Hi=>ys=((jR S.1).take i).map V.str) hD (so ha) rfl ?_ ?_
  ·rintro i v ys Hi hv hi hle sm hY rfl;obtain ⟨it,hit,hat⟩:=hR.2 i v hv;rw [List.getElem?_map] at hit;cases hr:S.1[i]? with
   |none=>rw [hr] at hit;cases hit
   |some r =>
    rw [hr] at hit;cases hit;obtain ⟨t,rfl,ht⟩:=hat
    have hi8:i<100:=by have:=(List.getElem?_eq_some_iff.mp hr).1;omega
    refine yD (kR ⟨_,rfl,t,_,_,_,rfl,rfl,SqT.of (sm _ _ ht),rfl,?_⟩);refine vK hD sm hY hle (by omega) (Same.refl _) ?_;rw [take_add_one,map_append,xY hr];rfl
  rintro ys H1 s1 hD1 hle rfl;rw [hrs,show S.1.length=(jR S.1).length from (length_map _).symm,take_length] at hD1;exact ⟨D,rfl,s1,hD1⟩
 rintro σ' H1 ⟨D,rfl,s1,hD1⟩;have hwl1:=s1 _ _ hwl;have htl1:=s1 _ _ htl
 rcases hform with ⟨e,hf⟩|⟨e,hf⟩|⟨e,hf⟩
 ·obtain ⟨t,ht,rfl,h8⟩:=xV e hrow;refine ⟨_,rfl,wl,_,_,_,rfl,rfl,so hwl1,hw0,rfl,_,rfl,jZ (congrArg V.str e) ?_⟩;have f3:=hf.2.2.2;obtain ⟨w0,w1,w2,w3,w4,w5,w6,rfl⟩:=JF hf.1;obtain rfl:w0="reach":=e;refine ⟨_,rfl,?_⟩;refine ⟨fun σ' H'=>σ'=[some (.ref wl),some (.ref tl),some (.ref D),some (.int t),none,none,none,none,none,none]∧H1=H',?_,?_⟩
  ·refine ⟨_,rfl,wl,_,_,_,rfl,rfl,so hwl1,rfl,rfl,_,rfl,?_⟩;have ht:yL S.1 w6=some t:=ht;unfold yL at ht
   by_cases hs:w6="sea"
   ·rw [if_pos hs] at ht;cases ht;exact vJ (congrArg V.str hs) ⟨rfl,rfl⟩
   ·rw [if_neg hs] at ht
    rcases JU (jR S.1) w6 with ⟨j,hj⟩|hno
    case inr=>rw [QQ hno] at ht;cases ht
    rw [vP hj] at ht;cases ht;have qj:=dQ hj;exact y0 (fun z=>hs (V.str.inj z)) ⟨_,rfl,.inl ⟨rfl,_,so hD1⟩,_,rfl,wl,_,_,_,rfl,rfl,so hwl1,rfl,D,_,_,j,rfl,rfl,hD1,rfl,zJ _,qj.1,(by have:=qj.1;omega),qj.2.1,qj.2.2,rfl,rfl⟩
  rintro σ' H' ⟨rfl,rfl⟩;refine ⟨_,rfl,_,rfl,_,rfl,wl,_,rfl,so hwl1,fun c₁ hc₁=>⟨c₁,rfl,⟨_,so jD⟩,fun E₁ hE₁=>?_⟩⟩;have t4:=jK hc₁ (.lst ([w2,w3,w4,w5].map V.str));have hsub:∀w∈[w2,w3,w4,w5],w∈[("reach":Str),w1,w2,w3,w4,w5,w6]:=by simp
  refine v0 (K:=K) (a:=c₁) (xs:=[w2,w3,w4,w5].map V.str) (caps:=[]) (fun i ys Hi=>ys=(([w2,w3,w4,w5].take i).map jX).map V.int) hE₁ (so jD) rfl ?_ ?_
  ·rintro i v ys Hi hv hi hle sm hY rfl;obtain ⟨w,hw,rfl⟩:=J9 hv;have hi4:i<4:=hi;have hm:=mem_of_getElem? hw;obtain ⟨n1,n2⟩:=QS hsh (hsub w hm) (all_eq_true.mp f3 w hm);refine yD (kR ⟨_,rfl,w,_,rfl,n1,n2,?_⟩);refine vK hE₁ sm hY hle (by omega) (Same.refl _) ?_;rw [take_add_one,hw,map_append,map_append];rfl
  rintro ys H4 s4 hE4 _ rfl;have s14:=(s1.trans t4).trans s4;refine ⟨_,rfl,tl,_,_,_,rfl,rfl,so (s14 _ _ htl),rfl,.inl ⟨rfl,_,so (s14 _ _ ha)⟩,?_⟩;refine ⟨_,rfl,_,rfl,wl,_,rfl,so (s14 _ _ hwl),fun p₁ hp₁=>?_⟩;have t5:=jK hp₁ (.lst [V.str "reach",V.str w1]);refine ⟨_,rfl,p₁,E₁,_,_,rfl,rfl,jD,t5 _ _ hE4,zz6,fun p₂ hp₂=>?_⟩;have t6:=jK hp₂ (.lst [V.str "reach",V.str w1,V.int (jX w2),V.int (jX w3),V.int (jX w4),V.int (jX w5)]);refine ⟨_,rfl,zz1,fun p₃ hp₃=>?_⟩;have t7:=jK hp₃ (.lst [V.int t]);refine ⟨p₂,p₃,_,_,rfl,rfl,t7 _ _ jD,jD,zz7,fun p₄ hp₄=>?_⟩;have t8:=jK hp₄ (.lst (zA (yV [("reach":Str),w1,w2,w3,w4,w5,w6] t)));refine ⟨p₄,_,rfl,.inl ⟨so jD,fun p₅ hp₅=>?_⟩⟩;have t9:=jK hp₅ (.tup (zA (yV [("reach":Str),w1,w2,w3,w4,w5,w6] t)));have s19:=((((s14.trans t5).trans t6).trans t7).trans t8).trans t9;refine ⟨a,_,_,rfl,rfl,s19 _ _ ha,vF (by omega),?_⟩;exact q _ (fun d o e1 e2 e3 ed=>by rw [j9 e1];exact s19 _ _ ed) ((hls1.same s19).addR (s19 _ _ ha) jD)
 ·obtain ⟨i,j,hi,hj,rfl,h8⟩:=xX e hrow;refine ⟨_,rfl,wl,_,_,_,rfl,rfl,so hwl1,hw0,rfl,_,rfl,jT (fun z=>gQ (e.symm.trans (V.str.inj z))) ⟨_,rfl,wl,_,_,_,rfl,rfl,so hwl1,hw0,rfl,_,rfl,jZ (congrArg V.str e) ?_⟩⟩;have facts:kQ (ws.map V.str) 1=some (V.str (ws.getD 1 ""))∧kQ (ws.map V.str) 2=some (V.str (ws.getD 2 ""))∧kQ (ws.map V.str) 3=some (V.str (ws.getD 3 ""))∧kQ (ws.map V.str) 4=some (V.str (ws.getD 4 ""))∧ws.getD 4 ""∈ws∧jP (ws.getD 4 "")=true:=by
   have hn:=hf.2.2;have h4:jP (ws.getD 4 "")=true:=all_eq_true.mp hn _ (by simp)
   rcases hf.1 with h|⟨h,_⟩
   ·obtain ⟨w0,w1,w2,w3,w4,rfl⟩:=eQ h;exact ⟨rfl,rfl,rfl,rfl,by simp,h4⟩
   ·obtain ⟨w0,w1,w2,w3,w4,w5,w6,rfl⟩:=JF h;exact ⟨rfl,rfl,rfl,rfl,by simp,h4⟩
  obtain ⟨a1,a2,a3,a4,m4,n4⟩:=facts;obtain ⟨k1,k2⟩:=QS hsh m4 n4;have qi:=dQ hi;have qj:=dQ hj;refine ⟨fun σ' H'=>σ'=[some (.ref wl),some (.ref tl),some (.ref D),none,none,some (.str (vE (vD ws i j).kd)),some (.int (vD ws i j).extra),none,none,none]∧H1=H',?_,?_⟩
  ·refine ⟨_,rfl,wl,_,rfl,.inl (so hwl1),rfl,_,rfl,?_⟩;have hn:=hf.2.2
   rcases hf.1 with h|⟨h,hk⟩
   ·obtain ⟨w0,w1,w2,w3,w4,rfl⟩:=eQ h;exact jT (fun z=>absurd (V.int.inj z) (by show ¬((5:Int)=7);decide)) ⟨rfl,rfl⟩
   ·obtain ⟨w0,w1,w2,w3,w4,w5,w6,rfl⟩:=JF h;obtain ⟨k3,k4⟩:=QS hsh (show w6∈[w0,w1,w2,w3,w4,w5,w6] by simp) (all_eq_true.mp hn w6 (by simp));refine jZ rfl ⟨_,rfl,wl,_,_,_,rfl,rfl,so hwl1,rfl,_,rfl,wl,_,_,_,rfl,rfl,so hwl1,rfl,w6,_,rfl,k3,k4,?_,rfl⟩;have ek:vE (vD [w0,w1,w2,w3,w4,w5,w6] i j).kd=w5:=by
     show vE (if (7:Nat)=5 then Kd.plain else if w5="basin" then .basin else .pump)=w5;rw [if_neg (by decide)]
     rcases hk with hk|hk
     ·rw [show w5="basin" from hk,if_pos rfl];rfl
     ·rw [show w5="pump" from hk,if_neg lW];rfl
    rw [ek];rfl
  rintro σ' H' ⟨rfl,rfl⟩;refine ⟨_,rfl,.inl ⟨rfl,_,so hD1⟩,_,rfl,wl,_,_,_,rfl,rfl,so hwl1,a2,D,_,_,i,rfl,rfl,hD1,rfl,zJ _,qi.1,(by have:=qi.1;omega),qi.2.1,qi.2.2,_,rfl,.inl ⟨rfl,_,so hD1⟩,_,rfl,wl,_,_,_,rfl,rfl,so hwl1,a3,D,_,_,j,rfl,rfl,hD1,rfl,zJ _,qj.1,(by have:=qj.1;omega),qj.2.1,qj.2.2,zz2,fun en hen=>?_⟩;have t2:=jK hen (.lst [V.int (i:Int),V.int (j:Int)]);have hen2:upd H1 en (.lst [V.int (i:Int),V.int (j:Int)]) en=some (.lst [V.int (i:Int),V.int (j:Int)]):=jD;have s2:=s1.trans t2;refine ⟨_,rfl,tl,_,_,_,rfl,rfl,so (s2 _ _ htl),rfl,.inl ⟨rfl,_,so (s2 _ _ hb)⟩,_,rfl,wl,_,_,_,rfl,rfl,so (s2 _ _ hwl),a1,_,rfl,en,_,_,_,rfl,rfl,so hen2,rfl,_,rfl,en,_,_,_,rfl,rfl,so hen2,rfl,_,rfl,wl,_,_,_,rfl,rfl,so (s2 _ _ hwl),a4,_,_,rfl,k1,k2,_,rfl,_,rfl,zz7,fun p₅ hp₅=>?_⟩;have t9:=jK hp₅ (.tup (eX (vD ws i j)));have s19:=s2.trans t9;refine ⟨b,_,_,rfl,rfl,s19 _ _ hb,vF (by omega),?_⟩;exact q _ (fun d o e1 e2 e3 ed=>by rw [j9 e2];exact s19 _ _ ed) ((hls1.same s19).addL (s19 _ _ hb) jD)
 ·obtain ⟨rfl,h6,hpl⟩:=xW e hrow;refine ⟨_,rfl,wl,_,_,_,rfl,rfl,so hwl1,hw0,rfl,_,rfl,jT (fun z=>gP (e.symm.trans (V.str.inj z))) ⟨_,rfl,wl,_,_,_,rfl,rfl,so hwl1,hw0,rfl,_,rfl,jT (fun z=>gR (e.symm.trans (V.str.inj z))) ?_⟩⟩;obtain ⟨w0,hws⟩:=iC hf.1;have hlw:ws.length=3*(qK ws.tail).length+1:=by
   have:=congrArg List.length hws;rw [length_cons,fH] at this;exact this
  have h100:=hsh.1;have f1:=hf.2.2.1;have f2:=hf.2.2.2;generalize qK ws.tail=qs at hws hlw f1 f2 hpl q;refine ⟨Nat.zero_le _,fun pl hpl0=>?_⟩;have t2:=jK hpl0 (.lst []);have s2:=s1.trans t2;have hpl2:upd H1 pl (.lst []) pl=some (.lst []):=jD;have hD2:=t2 _ _ hD1;have npl:pl∉[a,b,c]:=by
   simp only [mem_cons,mem_nil_iff,or_false,not_or];exact ⟨(jW (s1 _ _ ha) hpl0).symm,(jW (s1 _ _ hb) hpl0).symm,(jW (s1 _ _ hc) hpl0).symm⟩
  generalize upd H1 pl (.lst [])=H2 at hpl2 hD2 s2 ⊢;clear t2;have hml:(ws.map V.str).length=ws.length:=length_map _;have hn:Builtin.Range.rangeSize 1 (((ws.map V.str).length:Nat):Int) 3=(qs.length:Int):=by
   rw [sN (by decide),hml]
   split<;>omega
  refine ⟨_,rfl,wl,_,rfl,.inl (so (s2 _ _ hwl)),1,_,3,qs.length,rfl,by decide,by decide,(by rw [hml];exact E9 h100),hn,?_⟩;refine u0 (a:=1) (c:=3) (n:=qs.length) (fun i σ Hi=>∃(c9:Option V) (trs:List V),σ=[some (.ref wl),some (.ref tl),some (.ref D),none,none,none,none,none,some (.ref pl),c9]∧Hi pl=some (.lst trs)∧TripsAt Hi trs (yU S.1 (qs.take i))∧Keep pl H2 Hi) ⟨none,[],rfl,hpl2,⟨rfl,fun i r hr=>by cases hr⟩,Keep.refl pl H2⟩ ?_ ?_
  ·rintro i σ Hi hi ⟨c9,trs,rfl,hpli,htr,kp⟩;have hq:qs[i]?=some qs[i]:=List.getElem?_eq_getElem hi;have hqm:=mem_of_getElem? hq;obtain ⟨j,hj⟩:=hpl qs[i] hqm;have qj:=dQ hj;have nwl:wl≠pl:=jW hwl1 hpl0;have hwli:=kp _ _ nwl (s2 _ _ hwl);have nD:D≠pl:=jW hD1 hpl0;have hDi:=kp _ _ nD hD2;obtain ⟨g1,g2,g3⟩:=iW qs i;rw [hq] at g1 g2 g3;have w1:kQ (ws.map V.str) (1+(i:Int)*3)=some (V.str qs[i].1):=by
    have h:=q9 (xs:=ws.map V.str) (j:=3*i+1) (v:=V.str qs[i].1) (by rw [List.getElem?_map,hws,List.getElem?_cons_succ,g1];rfl);rw [show ((3*i+1:Nat):Int)=1+(i:Int)*3 by omega] at h;exact h
   have w2:kQ (ws.map V.str) (1+(i:Int)*3+1)=some (V.str qs[i].2.1):=by
    have h:=q9 (xs:=ws.map V.str) (j:=3*i+1+1) (v:=V.str qs[i].2.1) (by rw [List.getElem?_map,hws,List.getElem?_cons_succ,g2];rfl);rw [show ((3*i+1+1:Nat):Int)=1+(i:Int)*3+1 by omega] at h;exact h
   have w3:kQ (ws.map V.str) (1+(i:Int)*3+2)=some (V.str qs[i].2.2):=by
    have h:=q9 (xs:=ws.map V.str) (j:=3*i+2+1) (v:=V.str qs[i].2.2) (by rw [List.getElem?_map,hws,List.getElem?_cons_succ,g3];rfl);rw [show ((3*i+2+1:Nat):Int)=1+(i:Int)*3+2 by omega] at h;exact h
   have mem:∀z∈[qs[i].1,qs[i].2.1,qs[i].2.2],z∈ws:=fun z hz=>by
    rw [hws];exact mem_cons_of_mem _ (mem_flatMap.mpr ⟨qs[i],hqm,hz⟩)
   obtain ⟨k1,k2⟩:=QS hsh (mem qs[i].2.1 (by simp)) (all_eq_true.mp f1 _ (mem_map.mpr ⟨qs[i],hqm,rfl⟩));obtain ⟨k3,k4⟩:=QS hsh (mem qs[i].2.2 (by simp)) (all_eq_true.mp f2 _ (mem_map.mpr ⟨qs[i],hqm,rfl⟩));refine ⟨_,rfl,.inl ⟨rfl,_,so hpli⟩,?_⟩;refine ⟨_,rfl,.inl ⟨rfl,_,so hDi⟩,_,rfl,_,rfl,wl,_,_,_,rfl,rfl,so hwli,w1,D,_,_,j,rfl,rfl,hDi,rfl,zJ _,qj.1,(by have:=qj.1;omega),qj.2.1,qj.2.2,?_⟩;refine ⟨_,rfl,_,rfl,_,_,rfl,rfl,wl,_,_,_,rfl,rfl,so hwli,w2,_,_,rfl,k1,k2,?_⟩;refine ⟨_,rfl,_,rfl,_,_,rfl,rfl,wl,_,_,_,rfl,rfl,so hwli,w3,_,_,rfl,k3,k4,zz3,fun tp htp=>?_⟩;have u:=jK htp (.tup [V.int (j:Int),V.int (jX qs[i].2.1),V.int (jX qs[i].2.2)]);have hpl3:=u _ _ hpli;refine ⟨pl,_,_,rfl,rfl,hpl3,vF (by rw [htr.1,wJ,length_take];omega),?_⟩;refine ⟨_,_,rfl,jD,?_,(kp.trans (Keep.of u)).upd _⟩;rw [take_add_one,hq];unfold yU;rw [map_append];show TripsAt _ _ (yU S.1 (qs.take i)++[((yC (jR S.1) qs[i].1).getD 0,jX qs[i].2.1,jX qs[i].2.2)]);rw [vP hj];exact ((htr.same u).snoc jD).keep ((Keep.refl pl _).upd _) hpl3
  rintro σ Hi ⟨c9,trs,rfl,hpli,htr,kp⟩;rw [take_length] at htr;have s3:∀d o,H d=some o→Hi d=some o:=fun d o ed=>kp _ _ (jW (s1 _ _ ed) hpl0) (s2 _ _ ed)
  refine ⟨_,rfl,tl,_,_,_,rfl,rfl,so (s3 _ _ htl),rfl,.inl ⟨rfl,_,so (s3 _ _ hc)⟩,_,rfl,zz2,fun p₅ hp₅=>?_⟩;have t9:=jK hp₅ (.tup [V.str "night",V.ref pl]);have s19:Same H (upd Hi p₅ (.tup [V.str "night",V.ref pl])):=Same.trans s3 t9;refine ⟨c,_,_,rfl,rfl,s19 _ _ hc,vF (by omega),?_⟩;exact q _ (fun d o e1 e2 e3 ed=>by rw [j9 e3];exact s19 _ _ ed) ((hls1.same s19).addN (s19 _ _ hc) ⟨p₅,pl,trs,rfl,jD,t9 _ _ hpli,htr.same t9,npl⟩)
theorem QO:FnScope ["plan","reaches","nights","one","pairs","k","comes","goes"] ["plan"] (jI JY):=kG
include T in
theorem B3 {f:Addr} {fd:FuncData} (F:Fun K "_law_due" "_law_due" JY f fd) : FnOk P w K mg base kB 1 f fd ["plan"] (oK):=by
 refine F.ok2 QO fun vs H Q E h=>?_
 obtain ⟨pl,us,its,rfl,hpl,hpa,h29,tr3,q⟩:=h;refine ⟨rfl,fun _ _ _ _ hr=>?_⟩;refine ⟨_,(jH (ZP (i:=1) ["one"] (qZ 1 []) QO.nd rfl (.inl rfl) rfl (vO (jI JY)) (cps 1 []) (vA (pv 0)) (fun _ _ _ _ _=>(kL (i:=0) (show List.Nodup (["one"]:List Str) from by decide +kernel) rfl (.inl rfl))) (fun _ _ _ _ _=>(fR (jU kF (jF (qF K) (pv 0) jB) jJ))) (fun _ _ _ _ _=>(pv 0)))
   (jH (jN (i:=2) QO.nd rfl (.inl rfl) (kC jC))
   (jH (vM PassesOwn.never rfl (vA (pv 0)) (kL (i:=3) QO.nd rfl (.inl rfl))
    (jG (jV (jU kF (jF (qF K) (pv 3) jB) jJ) (jH (ZP (i:=4) ["reach"] (qZ 1 []) QO.nd rfl (.inl rfl) rfl (vO (jI JY)) (cps 1 []) (vA (pv 1)) (fun _ _ _ _ _=>(kL (i:=0) (show List.Nodup (["reach"]:List Str) from by decide +kernel) rfl (.inl rfl))) (fun _ _ _ _ _=>v8) (fun _ _ _ _ _=>(zF (jA jB (jA jB jC)))))
   (jH (vM PassesOwn.never rfl (vA (jF (qF K) (pv 3) jB)) (gB rfl (zZ (kL (i:=5) QO.nd rfl (.inl rfl)) (zZ (kL (i:=6) QO.nd rfl (.inl rfl)) (zZ (kL (i:=7) QO.nd rfl (.inl rfl)) fS))))
    (jG (ZV (zF (jA (pv 6) (jA (pv 7) jC))) (QV (pv 4) (pv 5) QR))))
   (jG (qD (qB PySem.F.plainAttrs_list PySem.F.slot_list_append PySem.F.type_list_append v9 (pv 2) (jA (pv 4) jC)))))) kA)))
   (jG (jS (zF (jA (pv 1) (jA (zD ["one"] (qZ 1 []) rfl (vO (jI JY)) (cps 1 []) (vA (pv 0)) (fun _ _ _ _ _=>(kL (i:=0) (show List.Nodup (["one"]:List Str) from by decide +kernel) rfl (.inl rfl))) (fun _ _ _ _ _=>(fR (jU kF (jF (qF K) (pv 0) jB) jJ))) (fun _ _ _ _ _=>(pv 0))) (jA (pv 2) jC))))))))),?_⟩
 refine ⟨_,rfl,pl,rfl,⟨_,so hpl⟩,fun rl hrl0=>?_⟩;refine v0 (K:=K) (a:=pl) (xs:=us) (caps:=[]) (fun i ys Hi=>AllAt (RAt H) ys ((its.take i).filterMap JJ)) hrl0 (so hpl) AllAt.nil ?_ ?_
 ·rintro i v ys Hi hv hi hle sm hY hR;obtain ⟨it,hit,hat⟩:=hpa.2 i v hv;have hi30:i<30:=by have:=(List.getElem?_eq_some_iff.mp hit).1;omega
  cases it with
  |reach r =>
   obtain ⟨t,rfl,ht⟩:=hat
   refine ⟨_,rfl,t,_,_,_,rfl,rfl,SqT.of (sm _ _ ht),rfl,rfl,_,rfl,jZ rfl ⟨_,rfl,vK hrl0 sm hY hle (by omega) (Same.refl _) ?_⟩⟩;rw [QA JJ its hit];exact hR.snoc ⟨t,rfl,ht⟩
  |lock r =>
   obtain ⟨t,rfl,ht⟩:=hat
   refine ⟨_,rfl,t,_,_,_,rfl,rfl,SqT.of (sm _ _ ht),rfl,rfl,_,rfl,jT (fun z=>gQ (V.str.inj z)) (ZR sm hY hle (Same.refl _) ?_)⟩;rw [QA JJ its hit,show (JJ (.lock r)).toList=[] from rfl,append_nil];exact hR
  |night ts =>
   obtain ⟨t,_,_,rfl,ht,_⟩:=hat
   refine ⟨_,rfl,t,_,_,_,rfl,rfl,SqT.of (sm _ _ ht),rfl,rfl,_,rfl,jT (fun z=>gP (V.str.inj z)) (ZR sm hY hle (Same.refl _) ?_)⟩;rw [QA JJ its hit,show (JJ (.night ts)).toList=[] from rfl,append_nil];exact hR
 rintro rs H1 s1 hrl hle1 hR;rw [hpa.1,take_length] at hR;have hR:AllAt (RAt H) rs (kI its):=hR;refine ⟨zz0,fun nl hnl0=>?_⟩;have s2:=jK hnl0 (.lst []);have s12:=s1.trans s2;have nrl:rl≠nl:=jW hrl hnl0;have ha29:(kI its).length≤29:=Nat.le_trans (length_filterMap_le _ _) h29;obtain ⟨a,tr1⟩:∃a,(kI its).length=a:=⟨_,rfl⟩;rw [tr1] at tr3 ha29;have hrl2:=s2 _ _ hrl;have hrs:rs.length=a:=by rw [hR.1,tr1]
 generalize hH2:upd H1 nl (.lst [])=H2 at s2 s12 hrl2 ⊢;have hnl2:H2 nl=some (.lst []):=by rw [← hH2];exact jD
 clear hH2;refine ⟨_,rfl,pl,rfl,⟨_,so (s12 _ _ hpl)⟩,dW (K:=K) (a:=pl) (xs:=us) (fun i σ Hi=>∃(ns:List V) (c3 c4 c5 c6 c7:Option V),σ=[some (.ref pl),some (.ref rl),some (.ref nl),c3,c4,c5,c6,c7]∧Hi nl=some (.lst ns)∧AllAt (NAt [rl,nl] Hi) ns ((its.take i).filterMap (zB a))∧Hi rl=some (.lst rs)∧Same H Hi)
  ⟨[],none,none,none,none,none,rfl,hnl2,AllAt.nil,hrl2,s12⟩ (fun i σ Hi _ ⟨_,_,_,_,_,_,_,_,_,_,s⟩=>so (s _ _ hpl)) ?_ ?_⟩
 ·rintro i v σ Hi hv ⟨ns,c3,c4,c5,c6,c7,rfl,hnl,hN,hrl,sm⟩;obtain ⟨it,hit,hat⟩:=hpa.2 i v hv;have hi30:i<30:=by have:=(List.getElem?_eq_some_iff.mp hit).1;omega
  cases it with
  |reach r =>
   obtain ⟨t,rfl,ht⟩:=hat
   refine ⟨_,rfl,t,_,_,_,rfl,rfl,SqT.of (sm _ _ ht),rfl,rfl,_,rfl,jT (fun z=>AM (V.str.inj z)) ⟨ns,_,c4,c5,c6,c7,rfl,hnl,?_,hrl,sm⟩⟩;rw [QA (zB a) its hit,show (zB a (.reach r)).toList=[] from rfl,append_nil];exact hN
  |lock r =>
   obtain ⟨t,rfl,ht⟩:=hat
   refine ⟨_,rfl,t,_,_,_,rfl,rfl,SqT.of (sm _ _ ht),rfl,rfl,_,rfl,jT (fun z=>AN (V.str.inj z)) ⟨ns,_,c4,c5,c6,c7,rfl,hnl,?_,hrl,sm⟩⟩;rw [QA (zB a) its hit,show (zB a (.lock r)).toList=[] from rfl,append_nil];exact hN
  |night ts =>
   obtain ⟨t,l,trs,rfl,ht,hl,htr,hlD⟩:=hat
   have tok:=tr3 ts (mem_of_getElem? hit);refine ⟨_,rfl,t,_,_,_,rfl,rfl,SqT.of (sm _ _ ht),rfl,rfl,_,rfl,jZ rfl ?_⟩;refine ⟨_,rfl,rl,rfl,⟨_,so hrl⟩,fun pr hpr0=>?_⟩;refine v0 (K:=K) (a:=rl) (xs:=rs) (caps:=[]) (fun j ys Hj=>AllAt (QAt Hj) ys (List.replicate j ((0:Int),(0:Int)))) hpr0 (so hrl) AllAt.nil ?_ ?_
   ·rintro j y ys Hj hy hj hle sj hY hQ;have hj8:j<30:=by rw [hrs] at hj;omega
    refine yD (kR ⟨zz2,fun tp htp=>?_⟩);have u:=jK htp (.tup [V.int 0,V.int 0]);refine vK hpr0 sj hY hle (by omega) u ?_;rw [replicate_succ'];exact ((hQ.mono (QAt.same u)).snoc (v:=.ref tp) (x:=((0:Int),(0:Int))) ⟨tp,rfl,jD⟩).mono (QAt.put (u _ _ hY))
   rintro qs Hj sj hpr hle hQ;rw [hrs] at hQ;have sm1:=sm.trans sj;refine ⟨_,rfl,t,_,_,_,rfl,rfl,SqT.of (sm1 _ _ ht),rfl,l,rfl,⟨trs,so (sm1 _ _ hl)⟩,dW (K:=K) (a:=l) (xs:=trs) (fun j σ Hm=>∃(qs:List V) (c5 c6 c7:Option V),σ=[some (.ref pl),some (.ref rl),some (.ref nl),some (.ref t),some (.ref pr),c5,c6,c7]∧Hm pr=some (.lst qs)∧AllAt (QAt Hm) qs (qM a (ts.take j))∧Same Hi Hm)
    ⟨qs,c5,c6,c7,rfl,hpr,hQ,sj⟩ (fun j σ Hm _ ⟨_,_,_,_,_,_,_,s⟩=>so ((sm.trans s) _ _ hl)) ?_ ?_⟩
   ·rintro j y σ Hm hy ⟨qs,c5,c6,c7,rfl,hpr,hQ,sM⟩;obtain ⟨ta,k,x,z,rfl,htk,hta⟩:=htr.2 j y hy;have hk:=tok _ (mem_of_getElem? htk);have hk:k<a:=hk;refine ⟨ta,_,rfl,SqT.of ((sm.trans sM) _ _ hta),rfl,_,_,rfl,_,_,rfl,_,_,rfl,rfl,?_⟩;refine ⟨_,rfl,_,rfl,zz2,fun tp htp=>?_⟩;have u:=jK htp (.tup [V.int x,V.int z]);have hpr2:=u _ _ hpr;refine ⟨_,rfl,_,rfl,pr,_,_,_,rfl,rfl,hpr2,fW (by rw [hQ.1,fD];exact hk),?_⟩;refine ⟨_,_,_,_,rfl,jD,?_,?_⟩
    ·rw [rC a ts htk];exact ((hQ.mono (QAt.same u)).put k (v:=.ref tp) (x:=(x,z)) ⟨tp,rfl,jD⟩).mono (QAt.put hpr2)
    ·exact qL hpr0 (sM.trans u)
   ·rintro σ Hm ⟨qs,c5,c6,c7,rfl,hpr,hQ,sM⟩;rw [htr.1,take_length] at hQ;have hnl3:=sM _ _ hnl;refine ⟨_,rfl,.inl ⟨rfl,_,so hnl3⟩,_,rfl,nl,_,_,rfl,rfl,hnl3,vF (by rw [hN.1];have:=length_filterMap_le (zB a) (its.take i);rw [length_take] at this;omega),?_⟩;have npn:pr≠nl:=(jW hnl hpr0).symm;have npr:pr≠rl:=(jW hrl hpr0).symm;refine ⟨ns++[.ref pr],_,_,_,_,_,rfl,jD,?_,by rw [j9 nrl];exact sM _ _ hrl,qL (s1.free hnl0) (sm.trans sM)⟩;rw [QA (zB a) its hit];refine ((hN.mono (NAt.same sM)).snoc (v:=.ref pr) (x:=qM a ts) ⟨pr,qs,rfl,hpr,hQ,?_⟩).mono (NAt.put hnl3 (by simp));simp only [mem_cons,mem_nil_iff,or_false,not_or];exact ⟨npr,npn⟩
 rintro σ Hi ⟨ns,c3,c4,c5,c6,c7,rfl,hnl,hN,hrl,sm⟩;rw [hpa.1,take_length] at hN;refine ⟨_,rfl,_,rfl,pl,rfl,⟨_,so (sm _ _ hpl)⟩,fun ll hll0=>?_⟩;have smO:=sm;have hN2:AllAt (NAt [rl,ll,nl] Hi) ns (its.filterMap (zB a)):=hN.mono fun v ps=>by
  rintro ⟨l,qs,h1,h2,h3,h4⟩;refine ⟨l,qs,h1,h2,h3,?_⟩;simp only [mem_cons,mem_nil_iff,or_false,not_or] at h4 ⊢;exact ⟨h4.1,jW h2 hll0,h4.2⟩
 refine v0 (K:=K) (a:=pl) (xs:=us) (caps:=[]) (fun i ys Hj=>AllAt (LAt H) ys ((its.take i).filterMap JK)) hll0 (so (sm _ _ hpl)) AllAt.nil ?_ ?_
 ·rintro i v ys Hi hv hi hle sm hY hR;obtain ⟨it,hit,hat⟩:=hpa.2 i v hv;have hi30:i<30:=by have:=(List.getElem?_eq_some_iff.mp hit).1;omega
  cases it with
  |reach r =>
   obtain ⟨t,rfl,ht⟩:=hat
   refine ⟨_,rfl,t,_,_,_,rfl,rfl,SqT.of (sm _ _ (smO _ _ ht)),rfl,rfl,_,rfl,jT (fun z=>AO (V.str.inj z)) (ZR sm hY hle (Same.refl _) ?_)⟩;rw [QA JK its hit,show (JK (.reach r)).toList=[] from rfl,append_nil];exact hR
  |lock r =>
   obtain ⟨t,rfl,ht⟩:=hat
   refine ⟨_,rfl,t,_,_,_,rfl,rfl,SqT.of (sm _ _ (smO _ _ ht)),rfl,rfl,_,rfl,jZ rfl ⟨_,rfl,vK hll0 sm hY hle (by omega) (Same.refl _) ?_⟩⟩;rw [QA JK its hit];exact hR.snoc ⟨t,rfl,ht⟩
  |night ts =>
   obtain ⟨t,_,_,rfl,ht,_⟩:=hat
   refine ⟨_,rfl,t,_,_,_,rfl,rfl,SqT.of (sm _ _ (smO _ _ ht)),rfl,rfl,_,rfl,jT (fun z=>gR (V.str.inj z)) (ZR sm hY hle (Same.refl _) ?_)⟩;rw [QA JK its hit,show (JK (.night ts)).toList=[] from rfl,append_nil];exact hR
 rintro ls H3 s3 hll hle hL;rw [hpa.1,take_length] at hL;refine ⟨_,rfl,zz3,fun t ht=>?_⟩;have u:=jK ht (.tup [V.ref rl,V.ref ll,V.ref nl]);have sF:=(sm.trans s3).trans u;refine q t rl ll nl rs ls ns _ sF jD (u _ _ (s3 _ _ hrl)) (u _ _ hll) (u _ _ (s3 _ _ hnl)) (hR.mono (RAt.same sF)) (hL.mono (LAt.same sF)) ?_;unfold fL;rw [tr1];exact hN2.mono (NAt.same (s3.trans u))
theorem cY:FnScope ["rows","lists","row","words","faults","k"] ["rows"] (jI ZB):=kG
include T in
theorem B8 {f:Addr} {fd:FuncData} (F:Fun K "_law_judged" "_law_judged" ZB f fd) (D__law_formed:Def P w K mg base 3 "_law_formed" ["words"] [] (uJ)) (D__law_sorts:Def P w K mg base 1 "_law_sorts" ["words","lists"] [] (wO)) (D__law_read:Def P w K mg base 1 "_law_read" ["words","lists"] [] (xQ)) (D__law_due:Def P w K mg base 1 "_law_due" ["plan"] [] (oK)):FnOk P w K mg base kB 4 f fd ["rows"] (uG):=by
 refine F.ok2 cY fun vs H Q E h=>?_
 obtain ⟨rl,rows,rfl,hrl,h100,hfine,qe,qv⟩:=h;refine ⟨rfl,fun _ _ _ _ hr=>?_⟩;refine ⟨_,(jH (jN (i:=1) cY.nd rfl (.inl rfl) (kC (jA (kC jC) (jA (kC jC) (jA (kC jC) jC)))))
   (jH (vM PassesOwn.never rfl (vA (zD ["row"] (qZ 1 []) rfl (vO (jI ZB)) (cps 1 []) (vA (pv 0)) (fun _ _ _ _ _=>(kL (i:=0) (show List.Nodup (["row"]:List Str) from by decide +kernel) rfl (.inl rfl))) (fun _ _ _ _ _=>(fR (jU vI (pv 0) jJ))) (fun _ _ _ _ _=>(pv 0)))) (kL (i:=2) cY.nd rfl (.inl rfl))
    (jH (jN (i:=3) cY.nd rfl (.inl rfl) (qB PySem.F.plainAttrs_str PySem.F.slot_str_split PySem.F.type_str_split fN (pv 2) (jA jJ jC)))
   (jH (jV (vH (vL (kO D__law_formed hr rfl (jA (pv 3) jC)))) (jG (jS jB)) kA)
   (jH (jN (i:=4) cY.nd rfl (.inl rfl) (kO D__law_sorts hr rfl (jA (pv 3) (jA (pv 1) jC))))
   (jH (vM PassesOwn.never rfl (zY (by rfl) T.z_range (jA jB jC)) (kL (i:=5) cY.nd rfl (.inl rfl))
    (jG (jV (vL (jF (jL K) (pv 4) (pv 5))) (jG (jS (jE qI (pv 5) jB))) kA)))
   (jG (qD (kO D__law_read hr rfl (jA (pv 3) (jA (pv 1) jC))))))))))
   (jH (jV (jU kF (j5 (kW K) (by rfl) T.z_len PySem.boot_len (jA (jF (jL K) (pv 1) jB) jC)) jB) (jG (jS jB)) kA)
   (jG (jS (kO D__law_due hr rfl (jA (jE qQ (jE qQ (jF (jL K) (pv 1) jB) (jF (jL K) (pv 1) jB)) (jF (jL K) (pv 1) jB)) jC))))))),?_⟩
 refine ⟨Nat.zero_le _,fun a ha0=>⟨Nat.zero_le _,fun b hb0=>⟨Nat.zero_le _,fun c hc0=>⟨zz3,fun tl htl0=>?_⟩⟩⟩⟩;have t1:=jK ha0 (.lst []);have t2:=jK hb0 (.lst []);have t3:=jK hc0 (.lst []);have t4:=jK htl0 (.lst [V.ref a,V.ref b,V.ref c]);have n12:a≠b:=jW (jD (H:=H) (a:=a) (o:=.lst [])) hb0;have n13:a≠c:=jW (t2 _ _ (jD (H:=H) (a:=a) (o:=.lst []))) hc0;have n23:b≠c:=jW (jD (a:=b) (o:=.lst [])) hc0;have ha3:=t3 _ _ (t2 _ _ (jD (H:=H) (a:=a) (o:=.lst [])));have hb3:=t3 _ _ (jD (H:=upd H a (.lst [])) (a:=b) (o:=.lst []));have hc3:upd (upd (upd H a (.lst [])) b (.lst [])) c (.lst []) c=some (.lst []):=jD;have fr:H a=none∧H b=none∧H c=none:=⟨ha0,t1.free hb0,(t1.trans t2).free hc0⟩;have s4:=((t1.trans t2).trans t3).trans t4;have hls:LsAt (upd (upd (upd (upd H a (.lst [])) b (.lst [])) c (.lst [])) tl (.lst [V.ref a,V.ref b,V.ref c])) tl a b c ([],[],[]):=⟨[],[],[],jD,t4 _ _ ha3,t4 _ _ hb3,t4 _ _ hc3,PlanAt.nil,PlanAt.nil,PlanAt.nil,n12,n13,n23,(jW ha3 htl0).symm,(jW hb3 htl0).symm,(jW hc3 htl0).symm⟩;have frt:H tl=none:=((t1.trans t2).trans t3).free htl0;generalize upd (upd (upd (upd H a (.lst [])) b (.lst [])) c (.lst [])) tl (.lst [V.ref a,V.ref b,V.ref c])=H1 at hls s4 ⊢;clear t1 t2 t3 t4 ha3 hb3 hc3 ha0 hb0 hc0 htl0;refine ⟨_,rfl,rl,rfl,⟨_,so (s4 _ _ hrl)⟩,fun D hD=>?_⟩;refine v0 (K:=K) (a:=rl) (xs:=rows.map V.str) (caps:=[]) (fun i ys Hi=>ys=((rows.take i).filter z4).map V.str) hD (so (s4 _ _ hrl)) rfl ?_ ?_
 ·rintro i v ys Hi hv hi hle sm hY rfl;obtain ⟨row,hrow,rfl⟩:=J9 hv;have hi1:i<100:=by rw [length_map] at hi;omega
  refine ⟨_,rfl,rfl,_,rfl,?_⟩
  by_cases e:row=""
  ·refine vJ (congrArg V.str e) (ZR sm hY hle (Same.refl _) ?_);rw [take_add_one,hrow,filter_append,e];show _=((rows.take i).filter z4++[("":Str)].filter z4).map V.str;rw [filter_cons,if_neg (by rw [oB];decide)];simp
  ·refine y0 (fun z=>e (V.str.inj z)) ⟨_,rfl,vK hD sm hY hle (by omega) (Same.refl _) ?_⟩;rw [take_add_one,hrow,filter_append];show _=((rows.take i).filter z4++[row].filter z4).map V.str;rw [filter_cons,if_pos (by unfold z4;rw [decide_eq_false e];rfl),map_append];rfl
 rintro ys H2 s2 hD2 _ rfl;rw [length_map,take_length] at hD2;have hls2:=hls.same s2;have s12:=s4.trans s2;have nD:D≠a∧D≠b∧D≠c:=by
  obtain ⟨_,_,_,_,g1,g2,g3,_⟩:=hls;exact ⟨(jW g1 hD).symm,(jW g2 hD).symm,(jW g3 hD).symm⟩
 have hfil:=mK rows ([],[],[]);have hfine2:∀row∈rows.filter z4,¬row=""∧row.length≤1000000∧Short (Txt.split row blankS)∧Txt.split row blankS≠[]:=fun row hm=>by
  have h1:=mem_filter.mp hm;have h2:¬row="":=fun z=>by have:=h1.2;rw [z,oB] at this;cases this
  exact ⟨h2,hfine row h1.1 h2⟩
 generalize rows.filter z4=fs at hD2 hfil hfine2;refine ⟨D,rfl,⟨_,so hD2⟩,dW (K:=K) (a:=D) (xs:=fs.map V.str) (fun i σ Hi=>∃(S:kM) (c2 c3 c4 c5:Option V),σ=[some (.ref rl),some (.ref tl),c2,c3,c4,c5]∧LsAt Hi tl a b c S∧JGood S∧kY fs ([],[],[])=kY (fs.drop i) S∧lS a b c H2 Hi) ⟨_,none,none,none,none,rfl,hls2,JGood.nil,rfl,fun _ _ _ _ _ e=>e⟩ ?_ ?_ ?_⟩
 ·rintro i σ Hi _ ⟨_,_,_,_,_,_,_,_,_,kp⟩;exact so (kp _ _ nD.1 nD.2.1 nD.2.2 hD2)
 ·rintro i v σ Hi hv ⟨S,c2,c3,c4,c5,rfl,hls,hg,hgr,kp⟩;obtain ⟨row,hrow,rfl⟩:=J9 hv;have hdr:fs.drop i=row::fs.drop (i+1):=by rw [drop_eq_getElem_cons (List.getElem?_eq_some_iff.mp hrow).1,(List.getElem?_eq_some_iff.mp hrow).2]
  rw [hdr] at hgr;obtain ⟨e,hlr,hsh,hnw⟩:=hfine2 row (mem_of_getElem? hrow);have sH:Same H Hi:=fun d o ed=>kp d o (jW ed fr.1) (jW ed fr.2.1) (jW ed fr.2.2) (s12 _ _ ed)
  refine ⟨_,rfl,rfl,row,blankS,rfl,rfl,rfl,hlr,fun wl hwl0=>?_⟩;have u:=jK hwl0 (.lst ((Txt.split row blankS).map V.str));refine ⟨_,rfl,wl,Txt.split row blankS,rfl,jD,hnw,hsh,fun bf H4 hbf s4=>⟨_,rfl,?_⟩⟩;have u4:=u.trans s4;have hwl4:=s4 _ _ (jD (H:=Hi) (a:=wl) (o:=.lst ((Txt.split row blankS).map V.str)));cases bf with
  |false=>exact kR (qe 0 (mZ (hfil.symm.trans (hgr.trans (JQ e (KP fun z=>by have:=hbf.mpr z;cases this))))) _ (sH.trans u4))
  |true =>
   have hfo:=hbf.mp rfl;refine kS ⟨_,rfl,_,rfl,wl,tl,a,b,c,_,S,rfl,hwl4,hsh,hfo,hls.same u4,hg.1,fun p b0 b1 b2 b3 H5 s5 hp hso=>?_⟩;have u5:=u4.trans s5;refine ⟨_,rfl,by decide,by decide,JP (n:=Int.toNat 4) (fun j σ Hj=>∃c5:Option V,σ=[some (.ref rl),some (.ref tl),some (.str row),some (.ref wl),some (.ref p),c5]∧(∀k,k<j→[b0,b1,b2,b3].getD k false=false)∧H5=Hj) ⟨_,rfl,fun k hk=>absurd hk (Nat.not_lt_zero k),rfl⟩ ?_ ?_⟩
   ·rintro j σ Hj hj ⟨c5,rfl,hno,rfl⟩;have hj4:j<4:=hj;have hat:kQ [V.bl b0,V.bl b1,V.bl b2,V.bl b3] (j:Int)=some (V.bl ([b0,b1,b2,b3].getD j false)):=by
     rcases j with _|_|_|_|j
     ·rfl
     ·rfl
     ·rfl
     ·rfl
     ·omega
    refine ⟨_,rfl,_,rfl,p,_,_,_,rfl,rfl,so hp,hat,_,rfl,?_⟩;cases hb:[b0,b1,b2,b3].getD j false with
    |true =>
     refine kR ⟨_,rfl,_,_,rfl,rfl,?_⟩;have:=qe (j+1) (mZ (hfil.symm.trans (hgr.trans (JQ e (IH hso j hj4 hb hno))))) _ (sH.trans u5);rw [show ((j+1:Nat):Int)=(j:Int)+1 by omega] at this;exact this
    |false =>
     refine kS ⟨_,rfl,fun k hk=>?_,rfl⟩
     by_cases z:k=j
     ·rw [z];exact hb
     ·exact hno k (by omega)
   rintro σ Hj ⟨c5,rfl,hno,rfl⟩;obtain ⟨S1,hS1⟩:=hso.2.2.2.2 (hno 0 (by decide)) (hno 1 (by decide)) (hno 2 (by decide)) (hno 3 (by decide));refine ⟨_,rfl,_,rfl,wl,tl,a,b,c,_,S,S1,rfl,s5 _ _ hwl4,hsh,hfo,hls.same u5,hg.1,hS1,fun H6 k6 hls6=>?_⟩;exact ⟨S1,_,_,_,_,rfl,hls6,sW hg hS1,hgr.trans (JS e hS1),fun d o e1 e2 e3 ed=>k6 d o e1 e2 e3 (u5 _ _ (kp d o e1 e2 e3 ed))⟩
 rintro σ H3 ⟨S,c2,c3,c4,c5,rfl,hls3,hg,hgr,kp⟩;rw [length_map,drop_length] at hgr;have hgr:kY rows ([],[],[])=.ok S:=hfil.symm.trans hgr;have s3:Same H H3:=fun d o ed=>kp d o (jW ed fr.1) (jW ed fr.2.1) (jW ed fr.2.2) (s12 _ _ ed)
 obtain ⟨rs,ls,ns,htl,ha,hb,hc,hR,hL,hN,dd⟩:=hls3;have hrs:rs.length=S.1.length:=by rw [hR.1,length_map]
 have hlsl:ls.length=S.2.1.length:=by rw [hL.1,length_map]
 have hns:ns.length=S.2.2.length:=by rw [hN.1,length_map]
 obtain ⟨⟨j8,jl8,jn6⟩,hlt,_⟩:=hg;refine ⟨_,rfl,tl,_,_,_,rfl,rfl,so htl,rfl,a,_,rfl,.inl (so ha),rfl,_,rfl,?_⟩
 by_cases hne:S.1=[]
 ·exact jZ (congrArg V.int (by rw [hrs,hne];rfl)) (qe 0 (rQ hgr hne) _ s3)
 have hpos:=length_pos_iff.mpr hne;refine jT (fun z=>by have:=V.int.inj z;omega) ?_;refine ⟨_,rfl,tl,_,_,_,rfl,rfl,so htl,rfl,_,rfl,tl,_,_,_,rfl,rfl,so htl,rfl,a,b,_,_,rfl,rfl,ha,hb,small (by omega),fun p1 hp1=>?_⟩;have t1:=jK hp1 (.lst (rs++ls));refine ⟨_,rfl,tl,_,_,_,rfl,rfl,so (t1 _ _ htl),rfl,p1,c,_,_,rfl,rfl,jD,t1 _ _ hc,small (by rw [length_append];omega),fun p2 hp2=>?_⟩;have t2:=jK hp2 (.lst (rs++ls++ns));have t12:=t1.trans t2;obtain ⟨e1,e2,e3⟩:=L3 S;refine ⟨p2,_,JI S,rfl,jD,(((((hR.app hL).app hN).same t1).fresh hp2).same t2),?_,fun ts hts=>?_,fun t rl2 ll2 nl2 rs2 ls2 ns2 H5 s5 ht hrl2 hll2 hnl2 hR2 hL2 hN2=>?_⟩
 ·unfold JI;rw [length_append,length_append,length_map,length_map,length_map];omega
 ·rw [e1];exact hlt ts (GX hts)
 rw [e1] at hR2;rw [e2] at hL2;rw [e3] at hN2;exact qv S t H5 (nL hgr hne) ((s3.trans t12).trans s5) ⟨rl2,ll2,nl2,rs2,ls2,ns2,ht,hrl2,hll2,hnl2,hR2,hL2,hN2.mono (NAt.less (by simp)),by simp,by simp,by simp⟩
theorem mG:FnScope ["way","names","rows","sign"] ["way","names"] (jI bW):=kG
include T in
theorem CD {f:Addr} {fd:FuncData} (F:Fun K "_law_new_rows" "_law_new_rows" bW f fd) : FnOk P w K mg base kB 1 f fd ["way","names"] (sS):=by
 refine F.ok2 mG fun vs H Q E h=>?_
 obtain ⟨way,nl,rfl,hnm,q⟩:=h;refine ⟨rfl,fun _ _ _ _ hr=>?_⟩;refine ⟨_,(jH (jN (i:=2) mG.nd rfl (.inl rfl) (kC jC))
   (jH (vM PassesOwn.never rfl (lM jJ) (kL (i:=3) mG.nd rfl (.inl rfl))
    (jG (jV (jU kF (pv 0) jB) (jG (qD (qB PySem.F.plainAttrs_list PySem.F.slot_list_append PySem.F.type_list_append v9 (pv 2) (jA (jE kN (jE kN jJ (pv 3)) jJ) jC)))) (jG (jV (jU kF (pv 0) jB) (jG (qD (qB PySem.F.plainAttrs_list PySem.F.slot_list_append PySem.F.type_list_append v9 (pv 2) (jA (jE kN (jE kN (jE kN (jE kN (jE kN (jE kN jJ (pv 3)) jJ) (jF (jL K) (pv 1) jB)) jJ) (jF (jL K) (pv 1) jB)) jJ) jC)))) (jG (qD (qB PySem.F.plainAttrs_list PySem.F.slot_list_append PySem.F.type_list_append v9 (pv 2) (jA jJ jC)))))))))
   (jG (jS (pv 2))))),?_⟩
 obtain ⟨xs,one,two,hnl,a0,a1,g1,g2⟩:=hnm.two;refine ⟨Nat.zero_le _,fun rl hrl0=>?_⟩;have t1:=jK hrl0 (.lst []);refine ⟨signsZ,rfl,oU (z:=signsZ) (fun i σ Hi=>∃(rows:List Str) (c3:Option V),σ=[some (.int way),some (.ref nl),some (.ref rl),c3]∧rows.length≤i∧(∀row∈rows,RowOk 0 row)∧Hi rl=some (.lst (rows.map V.str))∧Same H Hi) ⟨[],none,rfl,Nat.le_refl _,fun row hm=>(nomatch hm),jD,t1⟩ ?_ ?_⟩
 ·rintro i c σ Hi hc ⟨rows,c3,rfl,hl,hok,hrl,sm⟩;obtain ⟨hi9,hc97⟩:=II hc;have fin:∀z:Str,RowOk 0 z→∀row∈rows++[z],RowOk 0 row:=fun z hz row hm=>by
   rcases mem_append.mp hm with hm|hm
   ·exact hok row hm
   ·rw [mem_singleton.mp hm];exact hz
  refine ⟨_,rfl,rfl,_,rfl,?_⟩
  by_cases e0:way=0
  ·refine jZ (congrArg V.int e0) ⟨_,rfl,.inl ⟨rfl,_,so hrl⟩,_,rfl,_,_,rfl,rfl,Bd.sz (kE (n:=6) (z:=("reach ":Str)) (by decide +kernel)) (JV hc97) (by decide),_,_,rfl,rfl,Bd.sz (Bd.app (kE (n:=6) (z:=("reach ":Str)) (by decide +kernel)) (JV hc97)) (kE (n:=12) (z:=(" 0 5 1 0 sea":Str)) (by decide +kernel)) (by decide),⟨rl,_,_,rfl,rfl,hrl,vF (by rw [length_map];omega),rows++[((("reach ":Str)++(⟨#[c]⟩:Str))++(" 0 5 1 0 sea":Str))],_,rfl,by rw [length_append];show _+1≤i+1;omega,fun row hm=>?_,by rw [jD,map_append];rfl,qL hrl0 sm⟩⟩;exact fin _ (Bd.row (Bd.app (Bd.app (kE (n:=6) (z:=("reach ":Str)) (by decide +kernel)) (JV hc97)) (kE (n:=12) (z:=(" 0 5 1 0 sea":Str)) (by decide +kernel))) (by decide)) row hm
  refine jT (fun z=>e0 (V.int.inj z)) ⟨_,rfl,rfl,_,rfl,?_⟩
  by_cases e1:way=1
  ·refine jZ (congrArg V.int e1) ⟨_,rfl,.inl ⟨rfl,_,so hrl⟩,_,rfl,_,_,rfl,rfl,Bd.sz (kE (n:=5) (z:=("lock ":Str)) (by decide +kernel)) (JV hc97) (by decide),_,_,rfl,rfl,Bd.sz (Bd.app (kE (n:=5) (z:=("lock ":Str)) (by decide +kernel)) (JV hc97)) (kE (n:=1) (z:=(" ":Str)) (by decide +kernel)) (by decide),_,rfl,nl,_,_,_,rfl,rfl,so (sm _ _ hnl),a1,_,_,rfl,rfl,Bd.sz (Bd.app (Bd.app (kE (n:=5) (z:=("lock ":Str)) (by decide +kernel)) (JV hc97)) (kE (n:=1) (z:=(" ":Str)) (by decide +kernel))) (kP g2) (by decide),_,_,rfl,rfl,Bd.sz (Bd.app (Bd.app (Bd.app (kE (n:=5) (z:=("lock ":Str)) (by decide +kernel)) (JV hc97)) (kE (n:=1) (z:=(" ":Str)) (by decide +kernel))) (kP g2)) (kE (n:=1) (z:=(" ":Str)) (by decide +kernel)) (by decide),_,rfl,nl,_,_,_,rfl,rfl,so (sm _ _ hnl),a0,_,_,rfl,rfl,Bd.sz (Bd.app (Bd.app (Bd.app (Bd.app (kE (n:=5) (z:=("lock ":Str)) (by decide +kernel)) (JV hc97)) (kE (n:=1) (z:=(" ":Str)) (by decide +kernel))) (kP g2)) (kE (n:=1) (z:=(" ":Str)) (by decide +kernel))) (kP g1) (by decide),_,_,rfl,rfl,Bd.sz (Bd.app (Bd.app (Bd.app (Bd.app (Bd.app (kE (n:=5) (z:=("lock ":Str)) (by decide +kernel)) (JV hc97)) (kE (n:=1) (z:=(" ":Str)) (by decide +kernel))) (kP g2)) (kE (n:=1) (z:=(" ":Str)) (by decide +kernel))) (kP g1)) (kE (n:=2) (z:=(" 1":Str)) (by decide +kernel)) (by decide),⟨rl,_,_,rfl,rfl,hrl,vF (by rw [length_map];omega),rows++[((((((("lock ":Str)++(⟨#[c]⟩:Str))++(" ":Str))++two)++(" ":Str))++one)++(" 1":Str))],_,rfl,by rw [length_append];show _+1≤i+1;omega,fun row hm=>?_,by rw [jD,map_append];rfl,qL hrl0 sm⟩⟩;exact fin _ (Bd.row (Bd.app (Bd.app (Bd.app (Bd.app (Bd.app (Bd.app (kE (n:=5) (z:=("lock ":Str)) (by decide +kernel)) (JV hc97)) (kE (n:=1) (z:=(" ":Str)) (by decide +kernel))) (kP g2)) (kE (n:=1) (z:=(" ":Str)) (by decide +kernel))) (kP g1)) (kE (n:=2) (z:=(" 1":Str)) (by decide +kernel))) (by decide)) row hm
  ·refine jT (fun z=>e1 (V.int.inj z)) ⟨_,rfl,.inl ⟨rfl,_,so hrl⟩,⟨rl,_,_,rfl,rfl,hrl,vF (by rw [length_map];omega),rows++[("night":Str)],_,rfl,by rw [length_append];show _+1≤i+1;omega,fun row hm=>?_,by rw [jD,map_append];rfl,qL hrl0 sm⟩⟩;exact fin _ (Bd.row (kE (n:=5) (z:=("night":Str)) (by decide +kernel)) (by decide)) row hm
 rintro σ Hi ⟨rows,c3,rfl,hl,hok,hrl,sm⟩;have hs9:signsZ.cps.size=9:=by decide +kernel
 exact ⟨_,rfl,q rows rl Hi (by have:rows.length≤signsZ.cps.size:=hl;omega) hok sm hrl⟩
theorem gX:FnScope ["cell","rows","place","names","some","other"] ["cell","rows","place","names"] (jI bX):=kG
include T in
theorem CF {f:Addr} {fd:FuncData} (F:Fun K "_law_new_word" "_law_new_word" bX f fd) : FnOk P w K mg base kB 1 f fd ["cell","rows","place","names"] (sR):=by
 refine F.ok2 gX fun vs H Q E h=>?_
 obtain ⟨cell,rl,nl,place,t,rows,rfl,hrl,hne,hr100,hok,ht,hnm,q⟩:=h;refine ⟨rfl,fun _ _ _ _ hr=>?_⟩;refine ⟨_,(@jH _ _ _ _ _ (@jN _ _ 4 _ _ _ _ gX.nd rfl (.inl rfl) (@LI _ _ _ (by rfl)) (by rfl) (by first|exact .inl rfl|exact .inr rfl|assumption))
   (@jH _ _ _ _ _ (jN (i:=4) gX.nd rfl (.inl rfl) (@jE _ _ _ _ _ _ _ _ qQ (pv 4) (kC (@jA _ _ _ _ _ jJ (@jA _ _ _ _ _ jJ (@jA _ _ _ _ _ jJ (@jA _ _ _ _ _ jJ (@jA _ _ _ _ _ jJ (@jA _ _ _ _ _ jJ (@jA _ _ _ _ _ jJ (@jA _ _ _ _ _ jJ (@jA _ _ _ _ _ jJ (@jA _ _ _ _ _ (jF (jL K) (pv 3) jB) (@jA _ _ _ _ _ (jF (jL K) (pv 3) jB) jC (by rfl)) (by rfl)) (by rfl)) (by rfl)) (by rfl)) (by rfl)) (by rfl)) (by rfl)) (by rfl)) (by rfl)) (by rfl)))))
   (@jH _ _ _ _ _ (jV (jU kF (@jE _ _ _ _ _ _ _ _ kJ (pv 0) jB) jB) (@jH _ _ _ _ _ (jN (i:=5) gX.nd rfl (.inl rfl) (qB PySem.F.plainAttrs_str PySem.F.slot_str_split PySem.F.type_str_split fN (jF (jL K) (pv 1) (@jE _ _ _ _ _ _ _ _ kJ (@jE _ _ _ _ _ _ _ _ q8 (pv 0) jB) (j5 (kW K) (by rfl) T.z_len PySem.boot_len (jA (pv 1) jC)))) (jA jJ jC)))
   (@jG _ _ _ (@jS _ _ _ _ (jF (jL K) (pv 5) (@jE _ _ _ _ _ _ _ _ kJ (pv 2) (j5 (kW K) (by rfl) T.z_len PySem.boot_len (jA (pv 5) jC))))))) kA)
   (@jG _ _ _ (@jS _ _ _ _ (jF (jL K) (pv 4) (@jE _ _ _ _ _ _ _ _ kJ (@jE _ _ _ _ _ _ _ _ q8 (pv 0) jB) (j5 (kW K) (by rfl) T.z_len PySem.boot_len (jA (pv 4) jC))))))))),?_⟩
 obtain ⟨xs,one,two,hnl,a0,a1,g1,g2⟩:=hnm.two;refine ⟨zz12,fun p1 hp1=>?_⟩;have t1:=jK hp1 (.lst (wordsZ.map V.str));refine ⟨_,rfl,_,rfl,nl,_,_,_,rfl,rfl,so (t1 _ _ hnl),a0,_,rfl,nl,_,_,_,rfl,rfl,so (t1 _ _ hnl),a1,zz11,fun p2 hp2=>?_⟩;have t2:=jK hp2 (.lst ((JW++[one,two]).map V.str));refine ⟨p1,p2,_,_,rfl,rfl,t2 _ _ jD,jD,zz23,fun p3 hp3=>?_⟩;have t3:=jK hp3 (.lst ((wordsZ++(JW++[one,two])).map V.str));have s3:=(t1.trans t2).trans t3;have hp3':upd (upd (upd H p1 (.lst (wordsZ.map V.str))) p2 (.lst ((JW++[one,two]).map V.str))) p3 (.lst ((wordsZ++(JW++[one,two])).map V.str)) p3=some (.lst ((wordsZ++(JW++[one,two])).map V.str)):=jD;have hall:∀w∈wordsZ++(JW++[one,two]),QD w:=fun w hw=>by
  rw [← append_assoc] at hw
  rcases mem_append.mp hw with hw|hw
  ·exact H0 w hw
  ·simp only [mem_cons,mem_nil_iff,or_false] at hw
   rcases hw with rfl|rfl
   ·exact xB g1
   ·exact xB g2
 refine ⟨_,rfl,_,_,rfl,rfl,(by show (0:Int)<3;decide),rfl,_,rfl,?_⟩;have hpos:=length_pos_iff.mpr hne;have hml:(rows.map V.str).length=rows.length:=length_map _
 by_cases e0:cell%3=0
 ·have hrp:(0:Int)<(((rows.map V.str).length:Nat):Int):=by rw [hml];omega
  obtain ⟨row,hrm,hra⟩:=lK (zs:=rows) (i:=cell / 3%(((rows.map V.str).length:Nat):Int)) (Int.emod_nonneg _ (by omega)) (by have:=Int.emod_lt_of_pos (cell / 3) hrp;rw [hml] at this ⊢;exact this);have hro:=hok row hrm;refine jZ (congrArg V.int e0) ⟨_,rfl,_,rfl,_,_,rfl,rfl,⟨by decide,by decide⟩,_,rfl,rl,_,rfl,.inl (so (s3 _ _ hrl)),_,_,rfl,rfl,hrp,rl,_,_,_,rfl,rfl,so (s3 _ _ hrl),hra,rfl,row,blankS,rfl,rfl,rfl,by have:=hro.2.1;omega,fun o ho=>?_⟩;have t4:=jK ho (.lst ((Txt.split row blankS).map V.str));have hol:((Txt.split row blankS).map V.str).length=(Txt.split row blankS).length:=length_map _;have hsp:=length_pos_iff.mpr (iS row blankS (Nat.le_refl 1));have hop:(0:Int)<((((Txt.split row blankS).map V.str).length:Nat):Int):=by rw [hol];omega
  obtain ⟨w,hwm,hwa⟩:=lK (zs:=Txt.split row blankS) (i:=(place:Int)%((((Txt.split row blankS).map V.str).length:Nat):Int)) (Int.emod_nonneg _ (by omega)) (by have:=Int.emod_lt_of_pos (place:Int) hop;rw [hol] at this ⊢;exact this);exact ⟨_,rfl,_,rfl,_,rfl,o,_,rfl,.inl (so jD),_,_,rfl,rfl,hop,o,_,_,_,rfl,rfl,so jD,hwa,q w _ (hro.word hwm) (s3.trans t4)⟩
 ·have hlz:((wordsZ++(JW++[one,two])).map V.str).length=23:=rfl;obtain ⟨w,hwm,hwa⟩:=lK (zs:=wordsZ++(JW++[one,two])) (i:=cell / 3%23) (Int.emod_nonneg _ (by decide)) (Int.emod_lt_of_pos _ (by decide));exact jT (fun z=>e0 (V.int.inj z)) ⟨_,rfl,_,rfl,_,_,rfl,rfl,⟨by decide,by decide⟩,_,rfl,p3,_,rfl,.inl (so hp3'),_,_,rfl,rfl,(by show (0:Int)<23;decide),p3,_,_,_,rfl,rfl,so hp3',hwa,q w _ (hall w hwm) s3⟩
theorem JZ:FnScope ["cell","names","gates","one","two","some"] ["cell","names","gates"] (jI bI):=kG
include T in
theorem B0 {f:Addr} {fd:FuncData} (F:Fun K "_law_bad_row" "_law_bad_row" bI f fd) : FnOk P w K mg base kB 1 f fd ["cell","names","gates"] (uL):=by
 refine F.ok2 JZ fun vs H Q E h=>?_
 obtain ⟨cell,nl,gl,rfl,hnm,hgm,q⟩:=h;refine ⟨rfl,fun _ _ _ _ hr=>?_⟩;have hu1:=pB hr;refine ⟨_,(jH (MQ (i:=3) (j:=4) rfl JZ.nd rfl rfl (by decide) rfl rfl (jA (jF (jL K) (pv 1) jB) (jA (jF (jL K) (pv 1) jB) jC)) (by rfl))
   (jH (jN (i:=5) JZ.nd rfl (.inl rfl) (kC (jA jJ (jA jJ (jA jJ (jA jJ jC))))))
   (jH (jN (i:=5) JZ.nd rfl (.inl rfl) (jE qQ (pv 5) (kC (jA (jE kN (jE kN jJ (pv 3)) jJ) (jA (jE kN (jE kN (jE kN jJ (pv 3)) jJ) (pv 4)) jC)))))
   (jH (jN (i:=5) JZ.nd rfl (.inl rfl) (jE qQ (pv 5) (kC (jA (jE kN (jE kN (jE kN (jE kN jJ (pv 3)) jJ) (pv 4)) jJ) (jA (jE kN (jE kN (jE kN (jE kN jJ (pv 4)) jJ) (pv 3)) jJ) jC)))))
   (jH (jN (i:=5) JZ.nd rfl (.inl rfl) (jE qQ (pv 5) (kC (jA (jE kN (jE kN (jE kN (jE kN jJ (pv 4)) jJ) (pv 3)) jJ) (jA (jE kN (jE kN jJ (pv 3)) jJ) jC)))))
   (jH (jN (i:=5) JZ.nd rfl (.inl rfl) (jE qQ (pv 5) (kC (jA (jE kN (jE kN (jE kN (jE kN jJ (jF (jL K) (pv 2) jB)) jJ) (pv 3)) jJ) (jA (jE kN (jE kN (jE kN (jE kN (jE kN (jE kN jJ (jF (jL K) (pv 2) jB)) jJ) (pv 4)) jJ) (pv 3)) jJ) jC)))))
   (jH (jN (i:=5) JZ.nd rfl (.inl rfl) (jE qQ (pv 5) (kC (jA jJ (jA (jE kN (jE kN jJ (pv 3)) jJ) jC)))))
   (jH (jN (i:=5) JZ.nd rfl (.inl rfl) (jE qQ (pv 5) (kC (jA (jE kN (jE kN (jE kN (jE kN jJ (pv 3)) jJ) (pv 3)) jJ) (jA (jE kN (jE kN (jE kN (jE kN jJ (pv 4)) jJ) (pv 4)) jJ) jC)))))
   (jG (jS (jF (jL K) (pv 5) (jE kJ (pv 0) jB)))))))))))),?_⟩
 obtain ⟨xs,one,two,hnl,a0,a1,g1,g2⟩:=hnm.two;obtain ⟨ys,gate,gate2,hgl,b0,b1,g3,g4⟩:=hgm.two;refine ⟨_,rfl,nl,_,_,_,rfl,rfl,so hnl,a0,_,rfl,nl,_,_,_,rfl,rfl,so hnl,a1,_,_,rfl,?_⟩;refine ⟨zz4,fun q0 hq0=>?_⟩;have s1:=jK hq0 (.lst [V.str ("reach zq 9 5 1 0 zz":Str),V.str ("reach sea 0 5 1 0 sea":Str),V.str (" ":Str),V.str ("reach zq 0 5 10 0 sea":Str)]);obtain ⟨zs1,hl1,hz1,ok1⟩:∃zs1:List Str,zs1.length=4∧upd H q0 (.lst [V.str ("reach zq 9 5 1 0 zz":Str),V.str ("reach sea 0 5 1 0 sea":Str),V.str (" ":Str),V.str ("reach zq 0 5 10 0 sea":Str)]) q0=some (.lst (zs1.map V.str))∧∀z∈zs1,RowOk 0 z:=by
  refine ⟨[("reach zq 9 5 1 0 zz":Str),("reach sea 0 5 1 0 sea":Str),(" ":Str),("reach zq 0 5 10 0 sea":Str)],rfl,jD,fun z hz=>?_⟩;simp only [mem_cons,mem_nil_iff,or_false] at hz
  rcases hz with rfl|rfl|rfl|rfl
  ·exact Bd.row (kE (n:=19) (z:=("reach zq 9 5 1 0 zz":Str)) (by decide +kernel)) (by decide)
  ·exact Bd.row (kE (n:=21) (z:=("reach sea 0 5 1 0 sea":Str)) (by decide +kernel)) (by decide)
  ·exact Bd.row (kE (n:=1) (z:=(" ":Str)) (by decide +kernel)) (by decide)
  ·exact Bd.row (kE (n:=21) (z:=("reach zq 0 5 10 0 sea":Str)) (by decide +kernel)) (by decide)
 generalize upd H q0 (.lst [V.str ("reach zq 9 5 1 0 zz":Str),V.str ("reach sea 0 5 1 0 sea":Str),V.str (" ":Str),V.str ("reach zq 0 5 10 0 sea":Str)])=H1 at s1 hz1 ⊢;have b1x0:=(kE (n:=6) (z:=("reach ":Str)) (by decide +kernel));have b1x1:=Bd.app b1x0 (kP g1);have b1xl1:=(kE (n:=11) (z:=(" 9 5 1 0 zz":Str)) (by decide +kernel));have b1x2:=Bd.app b1x1 b1xl1;have b1y0:=(kE (n:=6) (z:=("reach ":Str)) (by decide +kernel));have b1y1:=Bd.app b1y0 (kP g1);have b1yl1:=(kE (n:=9) (z:=(" 5 5 0 0 ":Str)) (by decide +kernel));have b1y2:=Bd.app b1y1 b1yl1;have b1y3:=Bd.app b1y2 (kP g2);refine ⟨_,rfl,_,rfl,_,_,rfl,rfl,Bd.sz b1x0 (kP g1) (by decide),_,_,rfl,rfl,Bd.sz b1x1 b1xl1 (by decide),_,rfl,_,_,rfl,rfl,Bd.sz b1y0 (kP g1) (by decide),_,_,rfl,rfl,Bd.sz b1y1 b1yl1 (by decide),_,rfl,_,_,rfl,rfl,Bd.sz b1y2 (kP g2) (by decide),zz2,fun u1 hu1=>?_⟩;have v1:=jK hu1 (.lst [V.str ((("reach ":Str)++one)++(" 9 5 1 0 zz":Str)),V.str (((("reach ":Str)++one)++(" 5 5 0 0 ":Str))++two)]);refine ⟨q0,u1,_,_,rfl,rfl,v1 _ _ hz1,jD,small (by rw [length_map,hl1];show _+2≤1000;omega),fun q1 hq1=>?_⟩;have s2:=(s1.trans v1).trans (jK hq1 (.lst (zs1.map V.str++[V.str ((("reach ":Str)++one)++(" 9 5 1 0 zz":Str)),V.str (((("reach ":Str)++one)++(" 5 5 0 0 ":Str))++two)])));obtain ⟨zs2,hl2,hz2,ok2⟩:∃zs':List Str,zs'.length=6∧upd (upd H1 u1 (.lst [V.str ((("reach ":Str)++one)++(" 9 5 1 0 zz":Str)),V.str (((("reach ":Str)++one)++(" 5 5 0 0 ":Str))++two)])) q1 (.lst (zs1.map V.str++[V.str ((("reach ":Str)++one)++(" 9 5 1 0 zz":Str)),V.str (((("reach ":Str)++one)++(" 5 5 0 0 ":Str))++two)])) q1=some (.lst (zs'.map V.str))∧∀z∈zs',RowOk 0 z:=by
  refine ⟨zs1++[((("reach ":Str)++one)++(" 9 5 1 0 zz":Str)),(((("reach ":Str)++one)++(" 5 5 0 0 ":Str))++two)],by rw [length_append,hl1];rfl,by rw [jD,map_append];rfl,fun z hz=>?_⟩
  rcases mem_append.mp hz with hz|hz
  ·exact ok1 z hz
  simp only [mem_cons,mem_nil_iff,or_false] at hz
  rcases hz with rfl|rfl
  ·exact Bd.row b1x2 (by decide)
  ·exact Bd.row b1y3 (by decide)
 generalize upd (upd H1 u1 (.lst [V.str ((("reach ":Str)++one)++(" 9 5 1 0 zz":Str)),V.str (((("reach ":Str)++one)++(" 5 5 0 0 ":Str))++two)])) q1 (.lst (zs1.map V.str++[V.str ((("reach ":Str)++one)++(" 9 5 1 0 zz":Str)),V.str (((("reach ":Str)++one)++(" 5 5 0 0 ":Str))++two)]))=H2 at s2 hz2 ⊢;clear v1 hz1 ok1 hl1;have b2x0:=(kE (n:=8) (z:=("lock zq ":Str)) (by decide +kernel));have b2x1:=Bd.app b2x0 (kP g1);have b2xl1:=(kE (n:=1) (z:=(" ":Str)) (by decide +kernel));have b2x2:=Bd.app b2x1 b2xl1;have b2x3:=Bd.app b2x2 (kP g2);have b2xl3:=(kE (n:=2) (z:=(" 5":Str)) (by decide +kernel));have b2x4:=Bd.app b2x3 b2xl3;have b2y0:=(kE (n:=8) (z:=("lock zq ":Str)) (by decide +kernel));have b2y1:=Bd.app b2y0 (kP g2);have b2yl1:=(kE (n:=1) (z:=(" ":Str)) (by decide +kernel));have b2y2:=Bd.app b2y1 b2yl1;have b2y3:=Bd.app b2y2 (kP g1);have b2yl3:=(kE (n:=10) (z:=(" 5 basin 6":Str)) (by decide +kernel));have b2y4:=Bd.app b2y3 b2yl3;refine ⟨_,rfl,_,rfl,_,_,rfl,rfl,Bd.sz b2x0 (kP g1) (by decide),_,_,rfl,rfl,Bd.sz b2x1 b2xl1 (by decide),_,rfl,_,_,rfl,rfl,Bd.sz b2x2 (kP g2) (by decide),_,_,rfl,rfl,Bd.sz b2x3 b2xl3 (by decide),_,rfl,_,_,rfl,rfl,Bd.sz b2y0 (kP g2) (by decide),_,_,rfl,rfl,Bd.sz b2y1 b2yl1 (by decide),_,rfl,_,_,rfl,rfl,Bd.sz b2y2 (kP g1) (by decide),_,_,rfl,rfl,Bd.sz b2y3 b2yl3 (by decide),zz2,fun u2 hu2=>?_⟩;have v2:=jK hu2 (.lst [V.str ((((("lock zq ":Str)++one)++(" ":Str))++two)++(" 5":Str)),V.str ((((("lock zq ":Str)++two)++(" ":Str))++one)++(" 5 basin 6":Str))]);refine ⟨q1,u2,_,_,rfl,rfl,v2 _ _ hz2,jD,small (by rw [length_map,hl2];show _+2≤1000;omega),fun q2 hq2=>?_⟩;have s3:=(s2.trans v2).trans (jK hq2 (.lst (zs2.map V.str++[V.str ((((("lock zq ":Str)++one)++(" ":Str))++two)++(" 5":Str)),V.str ((((("lock zq ":Str)++two)++(" ":Str))++one)++(" 5 basin 6":Str))])));obtain ⟨zs3,hl3,hz3,ok3⟩:∃zs':List Str,zs'.length=8∧upd (upd H2 u2 (.lst [V.str ((((("lock zq ":Str)++one)++(" ":Str))++two)++(" 5":Str)),V.str ((((("lock zq ":Str)++two)++(" ":Str))++one)++(" 5 basin 6":Str))])) q2 (.lst (zs2.map V.str++[V.str ((((("lock zq ":Str)++one)++(" ":Str))++two)++(" 5":Str)),V.str ((((("lock zq ":Str)++two)++(" ":Str))++one)++(" 5 basin 6":Str))])) q2=some (.lst (zs'.map V.str))∧∀z∈zs',RowOk 0 z:=by
  refine ⟨zs2++[((((("lock zq ":Str)++one)++(" ":Str))++two)++(" 5":Str)),((((("lock zq ":Str)++two)++(" ":Str))++one)++(" 5 basin 6":Str))],by rw [length_append,hl2];rfl,by rw [jD,map_append];rfl,fun z hz=>?_⟩
  rcases mem_append.mp hz with hz|hz
  ·exact ok2 z hz
  simp only [mem_cons,mem_nil_iff,or_false] at hz
  rcases hz with rfl|rfl
  ·exact Bd.row b2x4 (by decide)
  ·exact Bd.row b2y4 (by decide)
 generalize upd (upd H2 u2 (.lst [V.str ((((("lock zq ":Str)++one)++(" ":Str))++two)++(" 5":Str)),V.str ((((("lock zq ":Str)++two)++(" ":Str))++one)++(" 5 basin 6":Str))])) q2 (.lst (zs2.map V.str++[V.str ((((("lock zq ":Str)++one)++(" ":Str))++two)++(" 5":Str)),V.str ((((("lock zq ":Str)++two)++(" ":Str))++one)++(" 5 basin 6":Str))]))=H3 at s3 hz3 ⊢;clear v2 hz2 ok2 hl2;have b3x0:=(kE (n:=8) (z:=("lock zq ":Str)) (by decide +kernel));have b3x1:=Bd.app b3x0 (kP g2);have b3xl1:=(kE (n:=1) (z:=(" ":Str)) (by decide +kernel));have b3x2:=Bd.app b3x1 b3xl1;have b3x3:=Bd.app b3x2 (kP g1);have b3xl3:=(kE (n:=9) (z:=(" 5 pump 0":Str)) (by decide +kernel));have b3x4:=Bd.app b3x3 b3xl3;have b3y0:=(kE (n:=8) (z:=("lock zq ":Str)) (by decide +kernel));have b3y1:=Bd.app b3y0 (kP g1);have b3yl1:=(kE (n:=5) (z:=(" zz 0":Str)) (by decide +kernel));have b3y2:=Bd.app b3y1 b3yl1;refine ⟨_,rfl,_,rfl,_,_,rfl,rfl,Bd.sz b3x0 (kP g2) (by decide),_,_,rfl,rfl,Bd.sz b3x1 b3xl1 (by decide),_,rfl,_,_,rfl,rfl,Bd.sz b3x2 (kP g1) (by decide),_,_,rfl,rfl,Bd.sz b3x3 b3xl3 (by decide),_,rfl,_,_,rfl,rfl,Bd.sz b3y0 (kP g1) (by decide),_,_,rfl,rfl,Bd.sz b3y1 b3yl1 (by decide),zz2,fun u3 hu3=>?_⟩;have v3:=jK hu3 (.lst [V.str ((((("lock zq ":Str)++two)++(" ":Str))++one)++(" 5 pump 0":Str)),V.str ((("lock zq ":Str)++one)++(" zz 0":Str))]);refine ⟨q2,u3,_,_,rfl,rfl,v3 _ _ hz3,jD,small (by rw [length_map,hl3];show _+2≤1000;omega),fun q3 hq3=>?_⟩;have s4:=(s3.trans v3).trans (jK hq3 (.lst (zs3.map V.str++[V.str ((((("lock zq ":Str)++two)++(" ":Str))++one)++(" 5 pump 0":Str)),V.str ((("lock zq ":Str)++one)++(" zz 0":Str))])));obtain ⟨zs4,hl4,hz4,ok4⟩:∃zs':List Str,zs'.length=10∧upd (upd H3 u3 (.lst [V.str ((((("lock zq ":Str)++two)++(" ":Str))++one)++(" 5 pump 0":Str)),V.str ((("lock zq ":Str)++one)++(" zz 0":Str))])) q3 (.lst (zs3.map V.str++[V.str ((((("lock zq ":Str)++two)++(" ":Str))++one)++(" 5 pump 0":Str)),V.str ((("lock zq ":Str)++one)++(" zz 0":Str))])) q3=some (.lst (zs'.map V.str))∧∀z∈zs',RowOk 0 z:=by
  refine ⟨zs3++[((((("lock zq ":Str)++two)++(" ":Str))++one)++(" 5 pump 0":Str)),((("lock zq ":Str)++one)++(" zz 0":Str))],by rw [length_append,hl3];rfl,by rw [jD,map_append];rfl,fun z hz=>?_⟩
  rcases mem_append.mp hz with hz|hz
  ·exact ok3 z hz
  simp only [mem_cons,mem_nil_iff,or_false] at hz
  rcases hz with rfl|rfl
  ·exact Bd.row b3x4 (by decide)
  ·exact Bd.row b3y2 (by decide)
 generalize upd (upd H3 u3 (.lst [V.str ((((("lock zq ":Str)++two)++(" ":Str))++one)++(" 5 pump 0":Str)),V.str ((("lock zq ":Str)++one)++(" zz 0":Str))])) q3 (.lst (zs3.map V.str++[V.str ((((("lock zq ":Str)++two)++(" ":Str))++one)++(" 5 pump 0":Str)),V.str ((("lock zq ":Str)++one)++(" zz 0":Str))]))=H4 at s4 hz4 ⊢;clear v3 hz3 ok3 hl3;have b4x0:=(kE (n:=5) (z:=("lock ":Str)) (by decide +kernel));have b4x1:=Bd.app b4x0 (kP g3);have b4xl1:=(kE (n:=4) (z:=(" zz ":Str)) (by decide +kernel));have b4x2:=Bd.app b4x1 b4xl1;have b4x3:=Bd.app b4x2 (kP g1);have b4xl3:=(kE (n:=2) (z:=(" 0":Str)) (by decide +kernel));have b4x4:=Bd.app b4x3 b4xl3;have b4y0:=(kE (n:=5) (z:=("lock ":Str)) (by decide +kernel));have b4y1:=Bd.app b4y0 (kP g3);have b4yl1:=(kE (n:=1) (z:=(" ":Str)) (by decide +kernel));have b4y2:=Bd.app b4y1 b4yl1;have b4y3:=Bd.app b4y2 (kP g2);have b4yl3:=(kE (n:=1) (z:=(" ":Str)) (by decide +kernel));have b4y4:=Bd.app b4y3 b4yl3;have b4y5:=Bd.app b4y4 (kP g1);have b4yl5:=(kE (n:=2) (z:=(" 0":Str)) (by decide +kernel));have b4y6:=Bd.app b4y5 b4yl5;refine ⟨_,rfl,_,rfl,gl,_,_,_,rfl,rfl,so (s4 _ _ hgl),b0,_,_,rfl,rfl,Bd.sz b4x0 (kP g3) (by decide),_,_,rfl,rfl,Bd.sz b4x1 b4xl1 (by decide),_,rfl,_,_,rfl,rfl,Bd.sz b4x2 (kP g1) (by decide),_,_,rfl,rfl,Bd.sz b4x3 b4xl3 (by decide),_,rfl,gl,_,_,_,rfl,rfl,so (s4 _ _ hgl),b0,_,_,rfl,rfl,Bd.sz b4y0 (kP g3) (by decide),_,_,rfl,rfl,Bd.sz b4y1 b4yl1 (by decide),_,rfl,_,_,rfl,rfl,Bd.sz b4y2 (kP g2) (by decide),_,_,rfl,rfl,Bd.sz b4y3 b4yl3 (by decide),_,rfl,_,_,rfl,rfl,Bd.sz b4y4 (kP g1) (by decide),_,_,rfl,rfl,Bd.sz b4y5 b4yl5 (by decide),zz2,fun u4 hu4=>?_⟩;have v4:=jK hu4 (.lst [V.str ((((("lock ":Str)++gate)++(" zz ":Str))++one)++(" 0":Str)),V.str ((((((("lock ":Str)++gate)++(" ":Str))++two)++(" ":Str))++one)++(" 0":Str))]);refine ⟨q3,u4,_,_,rfl,rfl,v4 _ _ hz4,jD,small (by rw [length_map,hl4];show _+2≤1000;omega),fun q4 hq4=>?_⟩;have s5:=(s4.trans v4).trans (jK hq4 (.lst (zs4.map V.str++[V.str ((((("lock ":Str)++gate)++(" zz ":Str))++one)++(" 0":Str)),V.str ((((((("lock ":Str)++gate)++(" ":Str))++two)++(" ":Str))++one)++(" 0":Str))])));obtain ⟨zs5,hl5,hz5,ok5⟩:∃zs':List Str,zs'.length=12∧upd (upd H4 u4 (.lst [V.str ((((("lock ":Str)++gate)++(" zz ":Str))++one)++(" 0":Str)),V.str ((((((("lock ":Str)++gate)++(" ":Str))++two)++(" ":Str))++one)++(" 0":Str))])) q4 (.lst (zs4.map V.str++[V.str ((((("lock ":Str)++gate)++(" zz ":Str))++one)++(" 0":Str)),V.str ((((((("lock ":Str)++gate)++(" ":Str))++two)++(" ":Str))++one)++(" 0":Str))])) q4=some (.lst (zs'.map V.str))∧∀z∈zs',RowOk 0 z:=by
  refine ⟨zs4++[((((("lock ":Str)++gate)++(" zz ":Str))++one)++(" 0":Str)),((((((("lock ":Str)++gate)++(" ":Str))++two)++(" ":Str))++one)++(" 0":Str))],by rw [length_append,hl4];rfl,by rw [jD,map_append];rfl,fun z hz=>?_⟩
  rcases mem_append.mp hz with hz|hz
  ·exact ok4 z hz
  simp only [mem_cons,mem_nil_iff,or_false] at hz
  rcases hz with rfl|rfl
  ·exact Bd.row b4x4 (by decide)
  ·exact Bd.row b4y6 (by decide)
 generalize upd (upd H4 u4 (.lst [V.str ((((("lock ":Str)++gate)++(" zz ":Str))++one)++(" 0":Str)),V.str ((((((("lock ":Str)++gate)++(" ":Str))++two)++(" ":Str))++one)++(" 0":Str))])) q4 (.lst (zs4.map V.str++[V.str ((((("lock ":Str)++gate)++(" zz ":Str))++one)++(" 0":Str)),V.str ((((((("lock ":Str)++gate)++(" ":Str))++two)++(" ":Str))++one)++(" 0":Str))]))=H5 at s5 hz5 ⊢;clear v4 hz4 ok4 hl4;have b5y0:=(kE (n:=13) (z:=("night zz 1 1 ":Str)) (by decide +kernel));have b5y1:=Bd.app b5y0 (kP g1);have b5yl1:=(kE (n:=5) (z:=(" 2 02":Str)) (by decide +kernel));have b5y2:=Bd.app b5y1 b5yl1;refine ⟨_,rfl,_,rfl,_,_,rfl,rfl,Bd.sz b5y0 (kP g1) (by decide),_,_,rfl,rfl,Bd.sz b5y1 b5yl1 (by decide),zz2,fun u5 hu5=>?_⟩;have v5:=jK hu5 (.lst [V.str ("night zz 1 1 zz 2 2":Str),V.str ((("night zz 1 1 ":Str)++one)++(" 2 02":Str))]);refine ⟨q4,u5,_,_,rfl,rfl,v5 _ _ hz5,jD,small (by rw [length_map,hl5];show _+2≤1000;omega),fun q5 hq5=>?_⟩;have s6:=(s5.trans v5).trans (jK hq5 (.lst (zs5.map V.str++[V.str ("night zz 1 1 zz 2 2":Str),V.str ((("night zz 1 1 ":Str)++one)++(" 2 02":Str))])));obtain ⟨zs6,hl6,hz6,ok6⟩:∃zs':List Str,zs'.length=14∧upd (upd H5 u5 (.lst [V.str ("night zz 1 1 zz 2 2":Str),V.str ((("night zz 1 1 ":Str)++one)++(" 2 02":Str))])) q5 (.lst (zs5.map V.str++[V.str ("night zz 1 1 zz 2 2":Str),V.str ((("night zz 1 1 ":Str)++one)++(" 2 02":Str))])) q5=some (.lst (zs'.map V.str))∧∀z∈zs',RowOk 0 z:=by
  refine ⟨zs5++[("night zz 1 1 zz 2 2":Str),((("night zz 1 1 ":Str)++one)++(" 2 02":Str))],by rw [length_append,hl5];rfl,by rw [jD,map_append];rfl,fun z hz=>?_⟩
  rcases mem_append.mp hz with hz|hz
  ·exact ok5 z hz
  simp only [mem_cons,mem_nil_iff,or_false] at hz
  rcases hz with rfl|rfl
  ·exact Bd.row (kE (n:=19) (z:=("night zz 1 1 zz 2 2":Str)) (by decide +kernel)) (by decide)
  ·exact Bd.row b5y2 (by decide)
 generalize upd (upd H5 u5 (.lst [V.str ("night zz 1 1 zz 2 2":Str),V.str ((("night zz 1 1 ":Str)++one)++(" 2 02":Str))])) q5 (.lst (zs5.map V.str++[V.str ("night zz 1 1 zz 2 2":Str),V.str ((("night zz 1 1 ":Str)++one)++(" 2 02":Str))]))=H6 at s6 hz6 ⊢;clear v5 hz5 ok5 hl5;have b6x0:=(kE (n:=6) (z:=("night ":Str)) (by decide +kernel));have b6x1:=Bd.app b6x0 (kP g1);have b6xl1:=(kE (n:=12) (z:=(" 1 1 zz 2 2 ":Str)) (by decide +kernel));have b6x2:=Bd.app b6x1 b6xl1;have b6x3:=Bd.app b6x2 (kP g1);have b6xl3:=(kE (n:=4) (z:=(" 0 0":Str)) (by decide +kernel));have b6x4:=Bd.app b6x3 b6xl3;have b6y0:=(kE (n:=8) (z:=("lock zq ":Str)) (by decide +kernel));have b6y1:=Bd.app b6y0 (kP g2);have b6yl1:=(kE (n:=1) (z:=(" ":Str)) (by decide +kernel));have b6y2:=Bd.app b6y1 b6yl1;have b6y3:=Bd.app b6y2 (kP g2);have b6yl3:=(kE (n:=9) (z:=(" 7 pump 7":Str)) (by decide +kernel));have b6y4:=Bd.app b6y3 b6yl3;refine ⟨_,rfl,_,rfl,_,_,rfl,rfl,Bd.sz b6x0 (kP g1) (by decide),_,_,rfl,rfl,Bd.sz b6x1 b6xl1 (by decide),_,rfl,_,_,rfl,rfl,Bd.sz b6x2 (kP g1) (by decide),_,_,rfl,rfl,Bd.sz b6x3 b6xl3 (by decide),_,rfl,_,_,rfl,rfl,Bd.sz b6y0 (kP g2) (by decide),_,_,rfl,rfl,Bd.sz b6y1 b6yl1 (by decide),_,rfl,_,_,rfl,rfl,Bd.sz b6y2 (kP g2) (by decide),_,_,rfl,rfl,Bd.sz b6y3 b6yl3 (by decide),zz2,fun u6 hu6=>?_⟩;have v6:=jK hu6 (.lst [V.str ((((("night ":Str)++one)++(" 1 1 zz 2 2 ":Str))++one)++(" 0 0":Str)),V.str ((((("lock zq ":Str)++two)++(" ":Str))++two)++(" 7 pump 7":Str))]);refine ⟨q5,u6,_,_,rfl,rfl,v6 _ _ hz6,jD,small (by rw [length_map,hl6];show _+2≤1000;omega),fun q6 hq6=>?_⟩;have s7:=(s6.trans v6).trans (jK hq6 (.lst (zs6.map V.str++[V.str ((((("night ":Str)++one)++(" 1 1 zz 2 2 ":Str))++one)++(" 0 0":Str)),V.str ((((("lock zq ":Str)++two)++(" ":Str))++two)++(" 7 pump 7":Str))])));obtain ⟨zs7,hl7,hz7,ok7⟩:∃zs':List Str,zs'.length=16∧upd (upd H6 u6 (.lst [V.str ((((("night ":Str)++one)++(" 1 1 zz 2 2 ":Str))++one)++(" 0 0":Str)),V.str ((((("lock zq ":Str)++two)++(" ":Str))++two)++(" 7 pump 7":Str))])) q6 (.lst (zs6.map V.str++[V.str ((((("night ":Str)++one)++(" 1 1 zz 2 2 ":Str))++one)++(" 0 0":Str)),V.str ((((("lock zq ":Str)++two)++(" ":Str))++two)++(" 7 pump 7":Str))])) q6=some (.lst (zs'.map V.str))∧∀z∈zs',RowOk 0 z:=by
  refine ⟨zs6++[((((("night ":Str)++one)++(" 1 1 zz 2 2 ":Str))++one)++(" 0 0":Str)),((((("lock zq ":Str)++two)++(" ":Str))++two)++(" 7 pump 7":Str))],by rw [length_append,hl6];rfl,by rw [jD,map_append];rfl,fun z hz=>?_⟩
  rcases mem_append.mp hz with hz|hz
  ·exact ok6 z hz
  simp only [mem_cons,mem_nil_iff,or_false] at hz
  rcases hz with rfl|rfl
  ·exact Bd.row b6x4 (by decide)
  ·exact Bd.row b6y4 (by decide)
 generalize upd (upd H6 u6 (.lst [V.str ((((("night ":Str)++one)++(" 1 1 zz 2 2 ":Str))++one)++(" 0 0":Str)),V.str ((((("lock zq ":Str)++two)++(" ":Str))++two)++(" 7 pump 7":Str))])) q6 (.lst (zs6.map V.str++[V.str ((((("night ":Str)++one)++(" 1 1 zz 2 2 ":Str))++one)++(" 0 0":Str)),V.str ((((("lock zq ":Str)++two)++(" ":Str))++two)++(" 7 pump 7":Str))]))=H7 at s7 hz7 ⊢;clear v6 hz6 ok6 hl6;obtain ⟨w,hwm,hwa⟩:=lK (zs:=zs7) (i:=cell%16) (Int.emod_nonneg _ (by decide)) (by rw [hl7];exact Int.emod_lt_of_pos _ (by decide));exact ⟨_,rfl,_,rfl,_,_,rfl,rfl,(by show (0:Int)<16;decide),_,_,_,_,rfl,rfl,so hz7,hwa,q w _ (ok7 w hwm) s7⟩
theorem QP:FnScope ["rows","cell","names","gates","way","at","words","mixed","place","word","rest"] ["rows","cell","names","gates"] (jI cG):=kG
include T in
theorem CS {f:Addr} {fd:FuncData} (F:Fun K "_law_spoiled" "_law_spoiled" cG f fd) (D__law_new_word:Def P w K mg base 1 "_law_new_word" ["cell","rows","place","names"] [] (sR)) (D__law_new_rows:Def P w K mg base 1 "_law_new_rows" ["way","names"] [] (sS)) (D__law_bad_row:Def P w K mg base 1 "_law_bad_row" ["cell","names","gates"] [] (uL)):FnOk P w K mg base kB 2 f fd ["rows","cell","names","gates"] (sO):=by
  refine F.ok2 QP fun vs H Q E h=>?_
  obtain ⟨rl,nl,gl,cell,t,rows,rfl,hrl,hne,hr80,hok,ht,hnm,hgm,q⟩:=h;refine ⟨rfl,fun _ _ _ _ hr=>?_⟩;refine ⟨_,(jH (jN (i:=4) QP.nd rfl (.inl rfl) (jE kJ (pv 1) jB))
      (jH (jN (i:=5) QP.nd rfl (.inl rfl) (jE kJ (jE q8 (pv 1) jB) (j5 (kW K) (by rfl) T.z_len PySem.boot_len (jA (pv 0) jC))))
      (jH (jN (i:=6) QP.nd rfl (.inl rfl) (qB PySem.F.plainAttrs_str PySem.F.slot_str_split PySem.F.type_str_split fN (jF (jL K) (pv 0) (pv 5)) (jA jJ jC)))
      (jH (jN (i:=7) QP.nd rfl (.inl rfl) (jE kJ (jE QW (pv 1) jB) jB))
      (jH (jN (i:=8) QP.nd rfl (.inl rfl) (jE kJ (jE kJ (pv 7) jB) (j5 (kW K) (by rfl) T.z_len PySem.boot_len (jA (pv 6) jC))))
      (jH (jN (i:=9) QP.nd rfl (.inl rfl) (kO D__law_new_word hr rfl (jA (jE q8 (pv 7) jB) (jA (pv 0) (jA (pv 8) (jA (pv 2) jC))))))
      (vC (jV (jU zQ (pv 4) jB) (jG (ZV (pv 9) (QV (pv 6) (pv 8) QR))) (jG (jV (jU kF (pv 4) jB) (jG (qD (qB PySem.F.plainAttrs_list PySem.F.slot_list_insert PySem.F.type_list_insert GU (pv 6) (jA (jE qI (pv 8) (jE kJ (jE q8 (pv 7) jB) jB)) (jA (pv 9) jC))))) (jG (jV (jU kF (pv 4) jB) (jG (qD (qB PySem.F.plainAttrs_list PySem.F.slot_list_pop PySem.F.type_list_pop KB (pv 6) (jA (pv 8) jC)))) (jG (jV (jU kF (pv 4) jB) (jG (ZV (zF (jA (jF (jL K) (pv 6) (eA d7 jB)) (jA (jF (jL K) (pv 6) (pv 8)) jC))) (gB rfl (zZ (QV (pv 6) (pv 8) QR) (zZ (QV (pv 6) (eA d7 jB) QR) fS))))) (jG (jV (jU kF (pv 4) jB) (jG (jS (jE qQ (jE qQ (kC (jA (jF (jL K) (pv 0) (pv 5)) jC)) (vB (yG K) (pv 0) vS (kT (pv 5)))) (vB (yG K) (pv 0) (kT (jE qI (pv 5) jB)) vS)))) (jG (jV (jU kF (pv 4) jB) (jH (jN (i:=10) QP.nd rfl (.inl rfl) (jE qQ (jE qQ (vB (yG K) (pv 0) vS (kT (pv 5))) (vB (yG K) (pv 0) (kT (jE qI (pv 5) jB)) vS)) (kC (jA jJ jC))))
      (jG (jS (jE qQ (pv 10) (kC (jA (jF (jL K) (pv 0) (pv 5)) (jA (jF (jL K) (pv 0) (pv 5)) jC))))))) (jG (jV (jU kF (pv 4) jB) (jG (jS (jE qQ (pv 0) (kO D__law_new_rows hr rfl (jA (jE kJ (jE q8 (pv 7) jB) jB) (jA (pv 2) jC)))))) (jG (jS (jE qQ (jE qQ (vB (yG K) (pv 0) vS (kT (jE qI (pv 5) jB))) (kC (jA (kO D__law_bad_row hr rfl (jA (jE q8 (pv 7) jB) (jA (pv 2) (jA (pv 3) jC)))) jC))) (vB (yG K) (pv 0) (kT (jE qI (pv 5) jB)) vS)))))))))))))))))
      (jG (jS (jE qQ (jE qQ (vB (yG K) (pv 0) vS (kT (pv 5))) (kC (jA (qB PySem.F.plainAttrs_str PySem.F.slot_str_join PySem.F.type_str_join fU jJ (jA (pv 6) jC)) jC))) (vB (yG K) (pv 0) (kT (jE qI (pv 5) jB)) vS))))))))))),?_⟩
  have hpos:=length_pos_iff.mpr hne;have hml:(rows.map V.str).length=rows.length:=length_map _;have hrp:(0:Int)<(((rows.map V.str).length:Nat):Int):=by rw [hml];omega
  obtain ⟨k,hk,hkl⟩:∃k:Nat,cell / 12%(((rows.map V.str).length:Nat):Int)=(k:Int)∧k<rows.length:=by
    have h0:=Int.emod_nonneg (cell / 12) (show (((rows.map V.str).length:Nat):Int)≠0 by omega);have h1:=Int.emod_lt_of_pos (cell / 12) hrp;generalize cell / 12%(((rows.map V.str).length:Nat):Int)=m at h0 h1 ⊢;exact ⟨m.toNat,by omega,by omega⟩
  have hra:kQ (rows.map V.str) (cell / 12%(((rows.map V.str).length:Nat):Int))=some (V.str rows[k]):=by rw [hk];exact q9 (by rw [List.getElem?_map,List.getElem?_eq_getElem hkl];rfl)
  have c0:qS (rows.map V.str) none (some (cell / 12%(((rows.map V.str).length:Nat):Int)))=(rows.take k).map V.str:=by rw [hk];exact wD (Nat.le_of_lt hkl)
  have cd1:qS (rows.map V.str) (some ((cell / 12%(((rows.map V.str).length:Nat):Int))+1)) none=(rows.drop (k+1)).map V.str:=by rw [hk];exact HS hkl
  have ct1:qS (rows.map V.str) none (some ((cell / 12%(((rows.map V.str).length:Nat):Int))+1))=(rows.take (k+1)).map V.str:=by rw [hk];exact HR hkl
  have hrm:rows[k]∈rows:=List.getElem_mem hkl;have hro:=hok _ hrm;generalize rows[k]=row at hra hrm hro;refine ⟨_,rfl,_,_,rfl,rfl,(by show (0:Int)<12;decide),?_⟩;refine ⟨_,rfl,_,_,rfl,rfl,⟨by decide,by decide⟩,_,rfl,rl,_,rfl,.inl (so hrl),_,_,rfl,rfl,hrp,?_⟩;refine ⟨_,rfl,_,rfl,rl,_,_,_,rfl,rfl,so hrl,hra,rfl,row,blankS,rfl,rfl,rfl,by have:=hro.2.1;omega,fun wl hwl0=>?_⟩;have s1:=jK hwl0 (.lst ((Txt.split row blankS).map V.str));have hwl:upd H wl (.lst ((Txt.split row blankS).map V.str)) wl=some (.lst ((Txt.split row blankS).map V.str)):=jD;have hwp:=length_pos_iff.mpr (iS row blankS (Nat.le_refl 1));have hwl70:=hro.2.2.1;have hww:∀w∈Txt.split row blankS,QD w:=fun w hw=>hro.word hw
  generalize Txt.split row blankS=ws at s1 hwl hwp hwl70 hww ⊢;generalize upd H wl (.lst (ws.map V.str))=H1 at s1 hwl ⊢;refine ⟨_,rfl,_,_,rfl,rfl,.inr ⟨by decide,by decide⟩,_,_,rfl,rfl,(by show (0:Int)<2147483647;decide),?_⟩;have hwm:(ws.map V.str).length=ws.length:=length_map _;have hwp':(0:Int)<(((ws.map V.str).length:Nat):Int):=by rw [hwm];omega
  obtain ⟨pc,hpc,hpl⟩:∃pc:Nat,cell*48271%2147483647%7%(((ws.map V.str).length:Nat):Int)=(pc:Int)∧pc<ws.length:=by
    have h0:=Int.emod_nonneg (cell*48271%2147483647%7) (show (((ws.map V.str).length:Nat):Int)≠0 by omega);have h1:=Int.emod_lt_of_pos (cell*48271%2147483647%7) hwp';generalize cell*48271%2147483647%7%(((ws.map V.str).length:Nat):Int)=m at h0 h1 ⊢;exact ⟨m.toNat,by omega,by omega⟩
  refine ⟨_,rfl,_,_,rfl,rfl,(by show (0:Int)<7;decide),_,rfl,wl,_,rfl,.inl (so hwl),_,_,rfl,rfl,hwp',?_⟩;refine ⟨_,rfl,_,_,rfl,rfl,⟨by decide,by decide⟩,_,rfl,_,rfl,_,rfl,_,rl,nl,pc,t,rows,congrArg (fun z=>[V.int _,V.ref rl,V.int z,V.ref nl]) hpc,s1 _ _ hrl,hne,by omega,hok,by omega,hnm.same s1,fun w H2 hw s2=>?_⟩;have s12:=s1.trans s2;have hwl2:=s2 _ _ hwl;have hrl2:=s12 _ _ hrl;have hpa:kQ (ws.map V.str) (cell*48271%2147483647%7%(((ws.map V.str).length:Nat):Int))=some (V.str ws[pc]):=by rw [hpc];exact q9 (by rw [List.getElem?_map,List.getElem?_eq_getElem hpl];rfl)
  have more:∀r∈rows,RowOk (t+1) r:=fun r hr=>(hok r hr).more (by omega)
  have moreT:∀n,∀r∈rows.take n,RowOk (t+1) r:=fun n r hr=>more r (mem_of_mem_take hr)
  have moreD:∀n,∀r∈rows.drop n,RowOk (t+1) r:=fun n r hr=>more r (mem_of_mem_drop hr)
  have app:∀A B:List Str,(∀r∈A,RowOk (t+1) r)→(∀r∈B,RowOk (t+1) r)→∀r∈A++B,RowOk (t+1) r:=fun A B hA hB r hr=>by
    rcases mem_append.mp hr with hr|hr
    · exact hA r hr
    · exact hB r hr
  have lT:∀n,((rows.take n).map V.str).length≤80:=fun n=>by rw [length_map,length_take];exact Nat.le_trans (Nat.min_le_right _ _) hr80
  have lD:∀n,((rows.drop n).map V.str).length≤80:=fun n=>by rw [length_map,length_drop];exact Nat.le_trans (Nat.sub_le _ _) hr80
  have l1:∀v:V,([v]:List V).length≤1:=fun _=>Nat.le_refl 1
  have hsum3:(rows.take k).length+(rows.drop (k+1)).length+1=rows.length:=by rw [length_take,length_drop];omega
  have hsum4:(rows.take (k+1)).length+(rows.drop (k+1)).length=rows.length:=by rw [length_take,length_drop];omega
  have one:∀z:Str,RowOk (t+1) z→∀r∈[z],RowOk (t+1) r:=fun z hz r hr=>by rw [mem_singleton.mp hr];exact hz
  refine ⟨fun σ' H'=>∃ws':List Str,σ'=[some (.ref rl),some (.int cell),some (.ref nl),some (.ref gl),some (.int (cell%12)),some (.int (cell / 12%(((rows.map V.str).length:Nat):Int))),some (.ref wl),some (.int (cell*48271%2147483647)),some (.int (cell*48271%2147483647%7%(((ws.map V.str).length:Nat):Int))),some (.str w),none]∧ws'.length≤71+t∧(∀w∈ws',QD w)∧H' wl=some (.lst (ws'.map V.str))∧Same H H',?_,?_⟩
  · refine ⟨_,rfl,_,_,rfl,rfl,_,rfl,?_⟩
    by_cases c1:cell%12<3
    · refine jZ c1 ⟨_,rfl,_,rfl,_,rfl,wl,_,_,pc,rfl,rfl,hwl2,(by rw [hpc];exact fW (by omega)),ws.set pc w,rfl,by rw [length_set];omega,fun x hx=>?_,by rw [jD,set_map],qL hwl0 s12⟩
      rcases mem_or_eq_of_mem_set hx with hx|rfl
      · exact hww x hx
      · exact hw
    refine jT c1 ⟨_,rfl,rfl,_,rfl,?_⟩
    by_cases c2:cell%12=3
    · have m0:=Int.emod_nonneg (cell*48271%2147483647 / 49) (by decide:(2:Int)≠0)
      have m1:=Int.emod_lt_of_pos (cell*48271%2147483647 / 49) (by decide:(0:Int)<2);obtain ⟨kk,hkk,hkl2⟩:∃kk:Nat,(cell*48271%2147483647%7%(((ws.map V.str).length:Nat):Int))+cell*48271%2147483647 / 49%2=(kk:Int)∧kk≤ws.length:=by rw [hpc];exact ⟨((pc:Int)+cell*48271%2147483647 / 49%2).toNat,by omega,by omega⟩
      refine jZ (congrArg V.int c2) ⟨_,rfl,.inl ⟨rfl,_,so hwl2⟩,_,rfl,_,rfl,_,_,rfl,rfl,⟨by decide,by decide⟩,_,_,rfl,rfl,(by show (0:Int)<2;decide),_,_,rfl,rfl,_,rfl,wl,_,kk,V.str w,rfl,congrArg (fun z=>[V.int z,V.str w]) hkk,hwl2,by rw [hwm];exact hkl2,by rw [hwm];omega,ws.take kk++w::ws.drop kk,rfl,?_,fun x hx=>?_,?_,qL hwl0 s12⟩
      · simp only [length_append,length_cons,length_take,length_drop];omega
      · rcases mem_append.mp hx with hx|hx
        · exact hww x (mem_of_mem_take hx)
        · rcases mem_cons.mp hx with rfl|hx
          · exact hw
          · exact hww x (mem_of_mem_drop hx)
      · rw [jD,map_append,map_cons,map_take,map_drop]
    refine jT (fun z=>c2 (V.int.inj z)) ⟨_,rfl,rfl,_,rfl,?_⟩
    by_cases c3:cell%12=4
    · refine jZ (congrArg V.int c3) ⟨_,rfl,.inl ⟨rfl,_,so hwl2⟩,_,rfl,wl,_,_,pc,_,rfl,rfl,hwl2,by rw [hpc];omega,by rw [hpc];omega,(by rw [hpc];exact (oS (fW (n:=(ws.map V.str).length) (by omega))).1),by rw [List.getElem?_map,List.getElem?_eq_getElem hpl];rfl,ws.eraseIdx pc,rfl,?_,fun x hx=>hww x (tF hx),?_,qL hwl0 s12⟩
      · have:=nI ws pc
        omega
      · rw [jD,tO]
    refine jT (fun z=>c3 (V.int.inj z)) ⟨_,rfl,rfl,_,rfl,?_⟩
    by_cases c4:cell%12=5
    · have hla:kQ (ws.map V.str) (-1)=some (V.str ws[ws.length - 1]):=atI_last hwp
      refine jZ (congrArg V.int c4) ⟨_,rfl,_,rfl,wl,_,_,_,rfl,rfl,so hwl2,hla,_,rfl,_,rfl,wl,_,_,_,rfl,rfl,so hwl2,hpa,zz2,fun tp htp=>?_⟩;have u:=jK htp (.tup [V.str ws[ws.length - 1],V.str ws[pc]]);refine ⟨tp,_,rfl,SqT.of jD,rfl,_,_,rfl,_,rfl,_,rfl,wl,_,_,pc,rfl,rfl,u _ _ hwl2,(by rw [hpc];exact fW (by omega)),_,_,rfl,_,rfl,_,rfl,wl,_,_,ws.length - 1,rfl,rfl,jD,uX (by rw [length_set,hwm];exact hwp) (by rw [length_set,hwm]),rfl,?_⟩;refine ⟨(ws.set pc ws[ws.length - 1]).set (ws.length - 1) ws[pc],rfl,by rw [length_set,length_set];omega,fun x hx=>?_,by rw [jD,set_map,set_map],qL hwl0 (qL hwl0 (s12.trans u))⟩
      rcases mem_or_eq_of_mem_set hx with hx|rfl
      · rcases mem_or_eq_of_mem_set hx with hx|rfl
        · exact hww x hx
        · exact hww _ (List.getElem_mem _)
      · exact hww _ (List.getElem_mem _)
    refine jT (fun z=>c4 (V.int.inj z)) ⟨_,rfl,rfl,_,rfl,?_⟩
    by_cases c5:cell%12=6
    · refine jZ (congrArg V.int c5) ⟨_,rfl,_,rfl,rl,_,_,_,rfl,rfl,so hrl2,hra,zz1,fun p1 hp1=>?_⟩
      have v1:=jK hp1 (.lst [V.str row]);refine ⟨_,rfl,_,rfl,_,rfl,Z2 (v1 _ _ hrl2) c0 fun p2 hp2=>?_⟩;have v2:=jK hp2 (.lst ((rows.take k).map V.str));refine ⟨p1,p2,_,_,rfl,rfl,v2 _ _ jD,jD,QK (l1 _) (lT k) (by decide),fun p3 hp3=>?_⟩;have v3:=jK hp3 (.lst ([V.str row]++(rows.take k).map V.str));refine ⟨_,rfl,_,rfl,_,_,rfl,rfl,_,rfl,gS (v3 _ _ (v2 _ _ (v1 _ _ hrl2))) cd1 fun p4 hp4=>?_⟩;have v4:=jK hp4 (.lst ((rows.drop (k+1)).map V.str));refine ⟨p3,p4,_,_,rfl,rfl,v4 _ _ jD,jD,QK (eW (l1 _) (lT k)) (lD _) (by decide),fun p5 hp5=>?_⟩;have v5:=jK hp5 (.lst ([V.str row]++(rows.take k).map V.str++(rows.drop (k+1)).map V.str));exact q ([row]++rows.take k++rows.drop (k+1)) p5 _ (by simp) (by simp only [length_append,length_take,length_drop,length_cons,length_nil];omega) (app _ _ (app _ _ (one row (more row hrm)) (moreT k)) (moreD (k+1))) (((((s12.trans v1).trans v2).trans v3).trans v4).trans v5) (by rw [jD,map_append,map_append];rfl)
    refine jT (fun z=>c5 (V.int.inj z)) ⟨_,rfl,rfl,_,rfl,?_⟩
    by_cases c6:cell%12=7
    · refine jZ (congrArg V.int c6) ⟨_,rfl,_,rfl,_,rfl,Z2 hrl2 c0 fun p1 hp1=>?_⟩
      have v1:=jK hp1 (.lst ((rows.take k).map V.str));refine ⟨_,rfl,_,rfl,_,_,rfl,rfl,_,rfl,gS (v1 _ _ hrl2) cd1 fun p2 hp2=>?_⟩;have v2:=jK hp2 (.lst ((rows.drop (k+1)).map V.str));refine ⟨p1,p2,_,_,rfl,rfl,v2 _ _ jD,jD,QK (lT k) (lD _) (by decide),fun p3 hp3=>?_⟩;have v3:=jK hp3 (.lst ((rows.take k).map V.str++(rows.drop (k+1)).map V.str));refine ⟨zz1,fun p4 hp4=>?_⟩;have v4:=jK hp4 (.lst [V.str "night"]);refine ⟨p3,p4,_,_,rfl,rfl,v4 _ _ jD,jD,QK (eW (lT k) (lD _)) (l1 _) (by decide),fun p5 hp5=>?_⟩;have v5:=jK hp5 (.lst ((rows.take k).map V.str++(rows.drop (k+1)).map V.str++[V.str "night"]));have s17:=((((s12.trans v1).trans v2).trans v3).trans v4).trans v5;refine ⟨_,rfl,_,rfl,_,rfl,rl,_,_,_,rfl,rfl,so (s17 _ _ hrl),hra,_,rfl,_,rfl,rl,_,_,_,rfl,rfl,so (s17 _ _ hrl),hra,zz2,fun p6 hp6=>?_⟩;have v6:=jK hp6 (.lst [V.str row,V.str row]);refine ⟨p5,p6,_,_,rfl,rfl,v6 _ _ jD,jD,QK (eW (eW (lT k) (lD _)) (l1 _)) (Nat.le_refl 2) (by decide),fun p7 hp7=>?_⟩;have v7:=jK hp7 (.lst ((rows.take k).map V.str++(rows.drop (k+1)).map V.str++[V.str "night"]++[V.str row,V.str row]));have hn:RowOk (t+1) ("night":Str):=(Bd.row (kE (n:=5) (z:=("night":Str)) (by decide +kernel)) (by decide)).more (Nat.zero_le _);exact q (rows.take k++rows.drop (k+1)++[("night":Str)]++[row,row]) p7 _ (by simp) (by simp only [length_append,length_take,length_drop,length_cons,length_nil];omega) (app _ _ (app _ _ (app _ _ (moreT k) (moreD (k+1))) (one _ hn)) (fun r hr=>by rw [show r=row by simpa using hr];exact more row hrm)) ((s17.trans v6).trans v7) (by rw [jD,map_append,map_append,map_append];rfl)
    refine jT (fun z=>c6 (V.int.inj z)) ⟨_,rfl,rfl,_,rfl,?_⟩
    by_cases c7:cell%12=8
    · refine jZ (congrArg V.int c7) ⟨_,rfl,_,rfl,_,_,rfl,rfl,⟨by decide,by decide⟩,_,_,rfl,rfl,(by show (0:Int)<3;decide),_,rfl,_,nl,rfl,hnm.same s12,fun nrs p1 H3 hl9 hnr s3 hp1=>?_⟩
      refine ⟨rl,p1,_,_,rfl,rfl,s3 _ _ hrl2,hp1,small (by rw [length_map,length_map];omega),fun p2 hp2=>?_⟩;have v2:=jK hp2 (.lst (rows.map V.str++nrs.map V.str));exact q (rows++nrs) p2 _ (by simp [hne]) (by rw [length_append];omega) (app _ _ more (fun r hr=>(hnr r hr).more (Nat.zero_le _))) ((s12.trans s3).trans v2) (by rw [jD,map_append])
    refine jT (fun z=>c7 (V.int.inj z)) ?_;refine ⟨_,rfl,_,rfl,_,_,rfl,rfl,_,rfl,Z2 hrl2 ct1 fun p1 hp1=>?_⟩;have v1:=jK hp1 (.lst ((rows.take (k+1)).map V.str));refine ⟨_,rfl,_,_,rfl,rfl,⟨by decide,by decide⟩,_,rfl,_,rfl,_,nl,gl,rfl,hnm.same (s12.trans v1),hgm.same (s12.trans v1),fun z H3 hz s3=>⟨zz1,fun p2 hp2=>?_⟩⟩;have v2:=jK hp2 (.lst [V.str z]);refine ⟨p1,p2,_,_,rfl,rfl,v2 _ _ (s3 _ _ jD),jD,QK (lT _) (l1 _) (by decide),fun p3 hp3=>?_⟩;have v3:=jK hp3 (.lst ((rows.take (k+1)).map V.str++[V.str z]));have s13:=((s12.trans v1).trans s3).trans (v2.trans v3);refine ⟨_,rfl,_,rfl,_,_,rfl,rfl,_,rfl,gS (s13 _ _ hrl) cd1 fun p4 hp4=>?_⟩;have v4:=jK hp4 (.lst ((rows.drop (k+1)).map V.str));refine ⟨p3,p4,_,_,rfl,rfl,v4 _ _ jD,jD,QK (eW (lT _) (l1 _)) (lD _) (by decide),fun p5 hp5=>?_⟩;have v5:=jK hp5 (.lst ((rows.take (k+1)).map V.str++[V.str z]++(rows.drop (k+1)).map V.str));exact q (rows.take (k+1)++[z]++rows.drop (k+1)) p5 _ (by simp) (by simp only [length_append,length_take,length_drop,length_cons,length_nil];omega) (app _ _ (app _ _ (moreT (k+1)) (one z (hz.more (Nat.zero_le _)))) (moreD (k+1))) ((s13.trans v4).trans v5) (by rw [jD,map_append,map_append];rfl)
  rintro σ' H3 ⟨ws',rfl,hl71,hww',hwl3,s3⟩;refine ⟨_,rfl,_,rfl,_,rfl,Z2 (s3 _ _ hrl) c0 fun p1 hp1=>?_⟩;have v1:=jK hp1 (.lst ((rows.take k).map V.str));have hsum:ZU ws'+ws'.length≤1048576:=by
    have:=fZ (B:=60) ws' (fun w hw=>(hww' w hw).1);have:ws'.length*60≤73*60:=Nat.mul_le_mul_right _ (by omega);omega
  refine ⟨rfl,_,rfl,blankS,wl,ws',rfl,rfl,so (v1 _ _ hwl3),by decide,hsum,zz1,fun p2 hp2=>?_⟩;have v2:=jK hp2 (.lst [V.str (Str.join blankS ws')]);refine ⟨p1,p2,_,_,rfl,rfl,v2 _ _ jD,jD,QK (lT k) (l1 _) (by decide),fun p3 hp3=>?_⟩;have v3:=jK hp3 (.lst ((rows.take k).map V.str++[V.str (Str.join blankS ws')]));have s13:=((s3.trans v1).trans v2).trans v3;refine ⟨_,rfl,_,rfl,_,_,rfl,rfl,_,rfl,gS (s13 _ _ hrl) cd1 fun p4 hp4=>?_⟩;have v4:=jK hp4 (.lst ((rows.drop (k+1)).map V.str));refine ⟨p3,p4,_,_,rfl,rfl,v4 _ _ jD,jD,QK (eW (lT k) (l1 _)) (lD _) (by decide),fun p5 hp5=>?_⟩;have v5:=jK hp5 (.lst ((rows.take k).map V.str++[V.str (Str.join blankS ws')]++(rows.drop (k+1)).map V.str));exact q (rows.take k++[Str.join blankS ws']++rows.drop (k+1)) p5 _ (by simp) (by simp only [length_append,length_take,length_drop,length_cons,length_nil];omega) (app _ _ (app _ _ (moreT k) (one _ (LB (t:=t+1) (by omega) ht hww'))) (moreD (k+1))) ((s13.trans v4).trans v5) (by rw [jD,map_append,map_append];rfl)
theorem pY:FnScope ["found","due","k"] ["found","due"] (jI cA):=kG
include T in
theorem CI {f:Addr} {fd:FuncData} (F:Fun K "_law_numbers" "_law_numbers" cA f fd) (D__law_whole:Def P w K mg base 1 "_law_whole" ["found"] [] (wN)):FnOk P w K mg base kB 2 f fd ["found","due"] (iL K):=by
 refine F.ok2 pY fun vs H Q E h=>?_
 obtain ⟨f₁,d,ms,rfl,hF,hD,hn,q⟩:=h;refine ⟨rfl,fun _ _ _ _ hr=>?_⟩;refine ⟨_,(jH (vM PassesOwn.never rfl (zY (by rfl) T.z_range (jA (j5 (kW K) (by rfl) T.z_len PySem.boot_len (jA (pv 1) jC)) jC)) (kL (i:=2) pY.nd rfl (.inl rfl))
    (jG (jV (PW.pt (zP (vH (vL (kO D__law_whole hr rfl (jA (jF (oR K) (pv 0) (pv 2)) jC)))) (JA (jU vI (jF (oR K) (pv 0) (pv 2)) (jF (oR K) (pv 1) (pv 2)))))) (jG (jS vN)) kA)))
   (jG (jS (qP kF (j5 (kW K) (by rfl) T.z_len PySem.boot_len (jA (pv 0) jC)) (j5 (kW K) (by rfl) T.z_len PySem.boot_len (jA (pv 1) jC)))))),?_⟩
 have hml:(ms.map V.int).length=ms.length:=length_map _;refine ⟨_,rfl,d,_,rfl,hD,_,rfl,by omega,by rw [hml];omega,JP (n:=(((ms.map V.int).length:Nat):Int).toNat) (fun i σ Hi=>∃c,σ=[some (.ref f₁),some (.ref d),c]∧H=Hi) ⟨none,rfl,rfl⟩ ?_ ?_⟩
 ·rintro i σ Hi hi ⟨c,rfl,rfl⟩;have hi':i<ms.length:=by rw [Int.toNat_natCast,hml] at hi;exact hi
  refine ⟨_,rfl,_,rfl,nY hF hi' ?_⟩;refine ⟨_,rfl,_,rfl,kS ?_⟩;refine ⟨_,rfl,_,rfl,nY hF hi' ⟨_,rfl,_,rfl,nY hD hi' ⟨rfl,_,rfl,vJ rfl ⟨_,rfl,rfl⟩⟩⟩⟩
 ·rintro σ Hi ⟨c,rfl,rfl⟩;refine ⟨_,rfl,f₁,_,rfl,hF,_,rfl,d,_,rfl,hD,rfl,?_⟩;rw [decide_eq_true rfl];exact q
theorem DU:FnScope ["reach","due"] ["reach","due"] (jI cE):=kG
include T in
theorem CL {f:Addr} {fd:FuncData} (F:Fun K "_law_reach_is" "_law_reach_is" cE f fd) (D__law_numbers:Def P w K mg base 2 "_law_numbers" ["found","due"] [] (iL K)):FnOk P w K mg base kB 3 f fd ["reach","due"] (sP cR):=by
 refine F.ok2 DU fun vs H Q E h=>?_
 obtain ⟨y,t,r,rfl,⟨dy,gs,hy,hg⟩,ht,q⟩:=h;refine ⟨rfl,fun _ _ _ _ hr=>?_⟩;refine ⟨_,(jH (jV (PW.pt (zP (vH (vL (j5 (yO (K:=K)) (by rfl) T.z_isinstance PyProof.Rows.boot_isinstance (jA (pv 0) (jA (vX (v:=.ref cR) rfl T.c_Reach rfl) jC))))) (zP (vH (vL (j5 (yO (K:=K)) (by rfl) T.z_isinstance PyProof.Rows.boot_isinstance (jA (qN K (pv 0) rfl) (jA (z8 (v:=.ty "str") rfl T.z_str PyProof.Rows.boot_str rfl) jC))))) (JA (jU vI (qN K (pv 0) rfl) (jF (qF K) (pv 1) jB)))))) (jG (jS vN)) kA)
   (jG (jS (kO D__law_numbers hr rfl (jA (kC (jA (qN K (pv 0) rfl) (jA (qN K (pv 0) rfl) (jA (qN K (pv 0) rfl) (jA (qN K (pv 0) rfl) (jA (qN K (pv 0) rfl) jC)))))) (jA (vQ (fC K) (by rfl) T.z_list PyProof.Rows.boot_list (jA (vB (lF K) (pv 1) (kT jB) vS) jC)) jC)))))),?_⟩
 refine ⟨_,rfl,_,_,_,_,_,rfl,rfl,T.tyR _ _ _ _ hy,T.ktR,_,rfl,kS ?_⟩;refine ⟨_,rfl,y,cR,dy,_,_,rfl,hy,T.clR,T.nR_name,hg.1,_,_,_,_,_,rfl,rfl,TyOf.str _,JT "str",_,rfl,kS ?_⟩;refine ⟨_,rfl,y,cR,dy,_,_,rfl,hy,T.clR,T.nR_name,hg.1,_,rfl,t,_,_,_,rfl,rfl,SqT.of ht,rfl,rfl,_,rfl,vJ rfl ?_⟩;refine ⟨_,rfl,y,cR,dy,_,_,rfl,hy,T.clR,T.nR_least,hg.2.1,_,rfl,y,cR,dy,_,_,rfl,hy,T.clR,T.nR_crest,hg.2.2.1,_,rfl,y,cR,dy,_,_,rfl,hy,T.clR,T.nR_berths,hg.2.2.2.1,_,rfl,y,cR,dy,_,_,rfl,hy,T.clR,T.nR_water,hg.2.2.2.2.1,_,rfl,y,cR,dy,_,_,rfl,hy,T.clR,T.nR_target,hg.2.2.2.2.2,zz5,fun p1 hp1=>?_⟩;have s1:=jK hp1 (.lst ([r.least,r.crest,r.berths,r.water,r.target].map V.int));refine ⟨_,rfl,_,rfl,t,_,rfl,SqT.of (s1 _ _ ht),(by show ¬(HT.sIx 7 0 (some 2)=0∧HT.sIx 7 7 none=7);decide),fun p2 hp2=>?_⟩;have s2:=jK hp2 (.tup (qS (zA r) (some 2) none));refine ⟨p2,_,rfl,.inr (SqT.of jD),fun p3 hp3=>?_⟩;have s3:=jK hp3 (.lst (qS (zA r) (some 2) none));refine ⟨p1,p3,[r.least,r.crest,r.berths,r.water,r.target],rfl,.inl (so (s3 _ _ (s2 _ _ jD))),.inl (so ?_),by show 5≤1000;decide,q _ ((s1.trans s2).trans s3)⟩;rw [jD];rfl
theorem DT:FnScope ["lock","due"] ["lock","due"] (jI bT):=kG
include T in
theorem CA {f:Addr} {fd:FuncData} (F:Fun K "_law_lock_is" "_law_lock_is" bT f fd) (MP_kind:MeK P w K mg base 1 (j6 cP cB cU) "kind" ["self"] (yB (j6 cP cB cU) (fun kd _=>V.str (match kd with|.plain=>"plain"|.basin=>"basin"|.pump=>"pump")))) (D__law_numbers:Def P w K mg base 2 "_law_numbers" ["found","due"] [] (iL K)) (MP_extra:MeK P w K mg base 1 (j6 cP cB cU) "extra" ["self"] (yB (j6 cP cB cU) (fun kd v=>V.int (match kd with|.plain=>0|.basin=>v|.pump=>v)))):FnOk P w K mg base kB 3 f fd ["lock","due"] (uF (j6 cP cB cU)):=by
 refine F.ok2 DT fun vs H Q E h=>?_
 obtain ⟨y,t,l,rfl,⟨dl,hl⟩,h0,ht,q⟩:=h;refine ⟨rfl,fun _ _ _ _ hr=>?_⟩;refine ⟨_,(jH (jV (PW.pt (zP (vH (vL (j5 (yO (K:=K)) (by rfl) T.z_isinstance PyProof.Rows.boot_isinstance (jA (pv 0) (jA (vX (v:=.ref cP) rfl T.c_PlainLock rfl) jC))))) (zP (vH (vL (j5 (yO (K:=K)) (by rfl) T.z_isinstance PyProof.Rows.boot_isinstance (jA (qN K (pv 0) rfl) (jA (z8 (v:=.ty "str") rfl T.z_str PyProof.Rows.boot_str rfl) jC))))) (JA (jU vI (qN K (pv 0) rfl) (jF (qF K) (pv 1) jB)))))) (jG (jS vN)) kA)
   (jH (jV (jU vI (j5 (yO (K:=K)) (by rfl) T.z_isinstance PyProof.Rows.boot_isinstance (jA (pv 0) (jA (vX (v:=.ref cB) rfl T.c_BasinLock rfl) jC))) (qP kF (jF (qF K) (pv 1) jB) jJ)) (jG (jS vN)) kA)
   (jH (jV (jU vI (j5 (yO (K:=K)) (by rfl) T.z_isinstance PyProof.Rows.boot_isinstance (jA (pv 0) (jA (vX (v:=.ref cU) rfl T.c_PumpLock rfl) jC))) (qP kF (jF (qF K) (pv 1) jB) jJ)) (jG (jS vN)) kA)
   (jH (jV (PW.pt (zP (vH (vL (j5 (yO (K:=K)) (by rfl) T.z_isinstance PyProof.Rows.boot_isinstance (jA (gC MP_kind hr (pv 0)) (jA (z8 (v:=.ty "str") rfl T.z_str PyProof.Rows.boot_str rfl) jC))))) (JA (jU vI (gC MP_kind hr (pv 0)) (jF (qF K) (pv 1) jB))))) (jG (jS vN)) kA)
   (jG (jS (kO D__law_numbers hr rfl (jA (kC (jA (qN K (pv 0) rfl) (jA (qN K (pv 0) rfl) (jA (qN K (pv 0) rfl) (jA (gC MP_extra hr (pv 0)) jC))))) (jA (jE LN (vB (lF K) (pv 1) (kT jB) (kT jB)) (vB (lF K) (pv 1) (kT jB) vS)) jC))))))))),?_⟩
 have hexv:(fun kd v=>V.int (match kd with|.plain=>0|.basin=>v|.pump=>v)) l.kd l.extra=V.int l.extra:=by
  cases hk:l.kd with
  |plain=>rw [h0 hk]
  |basin=>rfl
  |pump=>rfl
 have hkv:(fun kd _=>V.str (match kd with|.plain=>"plain"|.basin=>"basin"|.pump=>"pump")) l.kd l.extra=V.str (vE l.kd):=by cases l.kd<;>rfl
 have hty:TyOf K H ((fun kd _=>V.str (match kd with|.plain=>"plain"|.basin=>"basin"|.pump=>"pump")) l.kd l.extra) (.type "str"):=by rw [hkv];exact TyOf.str _
 refine ⟨_,rfl,_,_,_,_,_,rfl,rfl,T.tyL _ _ _ _ _ hl,T.ktLP _,_,rfl,kS ?_⟩;refine ⟨_,rfl,y,_,dl,_,_,rfl,hl,T.cl l.kd,T.n_name l.kd,lI l.kd _ _ _ _ _,_,_,_,_,_,rfl,rfl,TyOf.str _,JT "str",_,rfl,kS ?_⟩;refine ⟨_,rfl,y,_,dl,_,_,rfl,hl,T.cl l.kd,T.n_name l.kd,lI l.kd _ _ _ _ _,_,rfl,t,_,_,_,rfl,rfl,SqT.of ht,rfl,rfl,_,rfl,vJ rfl ?_⟩;refine ⟨_,rfl,_,_,_,_,_,rfl,rfl,T.tyL _ _ _ _ _ hl,T.ktLB _,_,rfl,t,_,_,_,rfl,rfl,SqT.of ht,rfl,rfl,rfl,_,rfl,vJ (congrArg V.bl (N1 l.kd).symm) ?_⟩;refine ⟨_,rfl,_,_,_,_,_,rfl,rfl,T.tyL _ _ _ _ _ hl,T.ktLU _,_,rfl,t,_,_,_,rfl,rfl,SqT.of ht,rfl,rfl,rfl,_,rfl,vJ (congrArg V.bl (NM l.kd).symm) ?_⟩;refine ⟨_,rfl,l.kd,y,dl,_,rfl,hl,fX l.kd _ _ _ _ _,y,_,_,_,_,_,rfl,⟨dl,hl⟩,_,_,_,_,_,rfl,rfl,hty,JT "str",_,rfl,kS ?_⟩;refine ⟨_,rfl,l.kd,y,dl,_,rfl,hl,fX l.kd _ _ _ _ _,y,_,_,_,_,_,rfl,⟨dl,hl⟩,_,rfl,t,_,_,_,rfl,rfl,SqT.of ht,rfl,rfl,_,rfl,vJ hkv ?_⟩;refine ⟨_,rfl,y,_,dl,_,_,rfl,hl,T.cl l.kd,T.n_high l.kd,xF l.kd _ _ _ _ _,_,rfl,y,_,dl,_,_,rfl,hl,T.cl l.kd,T.n_low l.kd,x9 l.kd _ _ _ _ _,_,rfl,y,_,dl,_,_,rfl,hl,T.cl l.kd,T.n_room l.kd,lH l.kd _ _ _ _ _,_,rfl,l.kd,y,dl,_,rfl,hl,oE l.kd _ _ _ _ _,y,_,_,_,_,_,rfl,⟨dl,hl⟩,zz4,fun p1 hp1=>?_⟩;have s1:=jK hp1 (.lst [V.int l.high,V.int l.low,V.int l.room,(fun kd v=>V.int (match kd with|.plain=>0|.basin=>v|.pump=>v)) l.kd l.extra]);have e1:upd H p1 (.lst [V.int l.high,V.int l.low,V.int l.room,(fun kd v=>V.int (match kd with|.plain=>0|.basin=>v|.pump=>v)) l.kd l.extra]) p1=some (.lst ([l.high,l.low,l.room,l.extra].map V.int)):=by rw [jD,hexv];rfl
 refine ⟨_,rfl,_,rfl,_,rfl,t,_,rfl,SqT.of (s1 _ _ ht),(by show ¬(HT.sIx 7 0 (some 2)=0∧HT.sIx 7 7 (some 5)=7);decide),fun p2 hp2=>?_⟩;have s2:=jK hp2 (.tup [V.int l.high,V.int l.low,V.int l.room]);refine ⟨_,rfl,_,rfl,t,_,rfl,SqT.of (s2 _ _ (s1 _ _ ht)),(by show ¬(HT.sIx 7 0 (some 6)=0∧HT.sIx 7 7 none=7);decide),fun p3 hp3=>?_⟩;have s3:=jK hp3 (.tup [V.int l.extra]);refine ⟨p2,p3,_,_,rfl,rfl,SqT.of (s3 _ _ jD),SqT.of jD,(fun z=>nomatch z),zz4,(fun z=>nomatch z),fun _ p4 hp4=>?_⟩;have s4:=jK hp4 (.tup ([l.high,l.low,l.room,l.extra].map V.int));exact ⟨p1,p4,[l.high,l.low,l.room,l.extra],rfl,.inl (so (s4 _ _ (s3 _ _ (s2 _ _ e1)))),.inr (SqT.of jD),by show 4≤1000;decide,q _ (((s1.trans s2).trans s3).trans s4)⟩
theorem pX:FnScope ["night","due","k"] ["night","due"] (jI bZ):=kG
include T in
theorem CH {f:Addr} {fd:FuncData} (F:Fun K "_law_night_is" "_law_night_is" bZ f fd) (D__law_numbers:Def P w K mg base 2 "_law_numbers" ["found","due"] [] (iL K)):FnOk P w K mg base kB 3 f fd ["night","due"] (sQ):=by
 refine F.ok2 pX fun vs H Q E h=>?_
 obtain ⟨y,t,D,D₂,p,rfl,⟨l₁,qs,e₁,hl,hq,_⟩,⟨l₂,us,e₂,huu,hv,_⟩,hp,q⟩:=h;refine ⟨rfl,fun _ _ _ _ hr=>?_⟩;have hu1:=pB hr;refine ⟨_,(jH (jV (PW.pt (zP (vH (vL (j5 (yO (K:=K)) (by rfl) T.z_isinstance PyProof.Rows.boot_isinstance (jA (pv 0) (jA (z8 (v:=.ty "list") rfl T.z_list PyProof.Rows.boot_list rfl) jC))))) (JA (jU vI (j5 (kW K) (by rfl) T.z_len PySem.boot_len (jA (pv 0) jC)) (j5 (kW K) (by rfl) T.z_len PySem.boot_len (jA (pv 1) jC)))))) (jG (jS vN)) kA)
   (jH (vM PassesOwn.never rfl (zY (by rfl) T.z_range (jA (j5 (kW K) (by rfl) T.z_len PySem.boot_len (jA (pv 1) jC)) jC)) (kL (i:=2) pX.nd rfl (.inl rfl))
    (jG (jV (PW.pt (zP (vH (vL (j5 (yO (K:=K)) (by rfl) T.z_isinstance PyProof.Rows.boot_isinstance (jA (jF (jL K) (pv 0) (pv 2)) (jA (z8 (v:=.ty "tuple") rfl T.z_tuple PyProof.Rows.boot_tuple rfl) jC))))) (JA (vH (vL (kO D__law_numbers hr rfl (jA (jF (jL K) (pv 0) (pv 2)) (jA (jF (jL K) (pv 1) (pv 2)) jC)))))))) (jG (jS vN)) kA)))
   (jG (jS vN)))),?_⟩
 cases e₁;cases e₂;refine ⟨_,rfl,_,_,_,_,_,rfl,rfl,TyOf.lst hl,JT "list",_,rfl,kS ?_⟩;refine ⟨_,rfl,y,_,rfl,.inl (so hl),_,rfl,t,_,rfl,.inl (so huu),rfl,_,rfl,vJ (by rw [hq.1,hv.1]) ?_⟩;refine ⟨_,rfl,t,_,rfl,.inl (so huu),_,rfl,by omega,by rw [hv.1];omega,JP (n:=((us.length:Nat):Int).toNat) (fun i σ Hi=>∃c:Option V,σ=[some (.ref y),some (.ref t),c]∧Hi=H) ⟨none,rfl,rfl⟩ ?_ ?_⟩
 ·rintro i σ Hi hi ⟨c,rfl,rfl⟩;rw [Int.toNat_natCast,hv.1] at hi;obtain ⟨v,hv1,tq,rfl,htq⟩:=hq.get (List.getElem?_eq_getElem hi);obtain ⟨u,hu1,tu,rfl,htu⟩:=hv.get (List.getElem?_eq_getElem hi);refine ⟨_,rfl,_,rfl,y,_,_,_,rfl,rfl,so hl,q9 hv1,_,_,_,_,_,rfl,rfl,TyOf.tup htq,JT "tuple",_,rfl,kS ?_⟩;refine ⟨_,rfl,_,rfl,y,_,_,_,rfl,rfl,so hl,q9 hv1,_,rfl,_,rfl,t,_,_,_,rfl,rfl,so huu,q9 hu1,tq,tu,[p[i].1,p[i].2],rfl,.inr (SqT.of htq),.inr (SqT.of htu),by show 2≤1000;decide,_,rfl,kS ?_⟩;exact ⟨_,rfl,rfl⟩
 ·rintro σ Hi ⟨c,rfl,rfl⟩;exact q _ (Same.refl _)
theorem gW:FnScope ["canal","due","k"] ["canal","due"] (jI bJ):=kG
include T in
theorem B1 {f:Addr} {fd:FuncData} (F:Fun K "_law_canal_is" "_law_canal_is" bJ f fd) (D__law_reach_is:Def P w K mg base 3 "_law_reach_is" ["reach","due"] [] (sP cR)) (D__law_lock_is:Def P w K mg base 3 "_law_lock_is" ["lock","due"] [] (uF (j6 cP cB cU))) (D__law_night_is:Def P w K mg base 3 "_law_night_is" ["night","due"] [] (sQ)):FnOk P w K mg base kB 4 f fd ["canal","due"] (sT (j6 cP cB cU) cR cN):=by
 refine F.ok2 gW fun vs H Q E h=>?_
 obtain ⟨x,t,D,D₂,R,L,N,rfl,⟨dx,rl,ll,nl,fs,rs,ls,ns,hx,hf,hrl,hll,hnl,hR,hL,hN,d1,d2,d3⟩,⟨rl2,ll2,nl2,rs2,ls2,ns2,ht,hrl2,hll2,hnl2,hR2,hL2,hN2,_⟩,bR,bL,bN,hpl,hpn,q⟩:=h;refine ⟨rfl,fun _ _ _ _ hr=>?_⟩;have hu1:=pB hr;refine ⟨_,(jH (jV (PW.pt (zP (vH (vL (j5 (yO (K:=K)) (by rfl) T.z_isinstance PyProof.Rows.boot_isinstance (jA (pv 0) (jA (vX (v:=.ref cN) rfl T.c_Canal rfl) jC))))) (JA (vH (vL (j5 (yO (K:=K)) (by rfl) T.z_isinstance PyProof.Rows.boot_isinstance (jA (qN K (pv 0) rfl) (jA (z8 (v:=.ty "list") rfl T.z_list PyProof.Rows.boot_list rfl) jC)))))))) (jG (jS vN)) kA)
   (jH (jV (vH (vL (j5 (yO (K:=K)) (by rfl) T.z_isinstance PyProof.Rows.boot_isinstance (jA (qN K (pv 0) rfl) (jA (z8 (v:=.ty "list") rfl T.z_list PyProof.Rows.boot_list rfl) jC))))) (jG (jS vN)) kA)
   (jH (jV (PW.pt (zP (vH (vL (j5 (yO (K:=K)) (by rfl) T.z_isinstance PyProof.Rows.boot_isinstance (jA (qN K (pv 0) rfl) (jA (z8 (v:=.ty "list") rfl T.z_list PyProof.Rows.boot_list rfl) jC))))) (JA (jU vI (j5 (kW K) (by rfl) T.z_len PySem.boot_len (jA (qN K (pv 0) rfl) jC)) (j5 (kW K) (by rfl) T.z_len PySem.boot_len (jA (jF (qF K) (pv 1) jB) jC)))))) (jG (jS vN)) kA)
   (jH (jV (PW.pt (zP (jU vI (j5 (kW K) (by rfl) T.z_len PySem.boot_len (jA (qN K (pv 0) rfl) jC)) (j5 (kW K) (by rfl) T.z_len PySem.boot_len (jA (jF (qF K) (pv 1) jB) jC))) (JA (jU vI (j5 (kW K) (by rfl) T.z_len PySem.boot_len (jA (qN K (pv 0) rfl) jC)) (j5 (kW K) (by rfl) T.z_len PySem.boot_len (jA (jF (qF K) (pv 1) jB) jC)))))) (jG (jS vN)) kA)
   (jH (vM PassesOwn.never rfl (zY (by rfl) T.z_range (jA (j5 (kW K) (by rfl) T.z_len PySem.boot_len (jA (jF (qF K) (pv 1) jB) jC)) jC)) (kL (i:=2) gW.nd rfl (.inl rfl))
    (jG (jV (vH (vL (kO D__law_reach_is hr rfl (jA (jF (jL K) (qN K (pv 0) rfl) (pv 2)) (jA (jF (jL K) (jF (qF K) (pv 1) jB) (pv 2)) jC))))) (jG (jS vN)) kA)))
   (jH (vM PassesOwn.never rfl (zY (by rfl) T.z_range (jA (j5 (kW K) (by rfl) T.z_len PySem.boot_len (jA (jF (qF K) (pv 1) jB) jC)) jC)) (kL (i:=2) gW.nd rfl (.inl rfl))
    (jG (jV (vH (vL (kO D__law_lock_is hr rfl (jA (jF (jL K) (qN K (pv 0) rfl) (pv 2)) (jA (jF (jL K) (jF (qF K) (pv 1) jB) (pv 2)) jC))))) (jG (jS vN)) kA)))
   (jH (vM PassesOwn.never rfl (zY (by rfl) T.z_range (jA (j5 (kW K) (by rfl) T.z_len PySem.boot_len (jA (jF (qF K) (pv 1) jB) jC)) jC)) (kL (i:=2) gW.nd rfl (.inl rfl))
    (jG (jV (vH (vL (kO D__law_night_is hr rfl (jA (jF (jL K) (qN K (pv 0) rfl) (pv 2)) (jA (jF (jL K) (jF (qF K) (pv 1) jB) (pv 2)) jC))))) (jG (jS vN)) kA)))
   (jG (jS vN))))))))),?_⟩
 have fx:=hx;refine ⟨_,rfl,_,_,_,_,_,rfl,rfl,T.tyN _ _ _ _ hx,T.ktN,_,rfl,kS ?_⟩;refine ⟨_,rfl,x,cN,dx,_,_,rfl,hx,T.clN,T.nN_reaches,hf.1,_,_,_,_,_,rfl,rfl,TyOf.lst hrl,JT "list",_,rfl,kS ?_⟩;refine ⟨_,rfl,x,cN,dx,_,_,rfl,hx,T.clN,T.nN_locks,hf.2.1,_,_,_,_,_,rfl,rfl,TyOf.lst hll,JT "list",_,rfl,kS ?_⟩;refine ⟨_,rfl,x,cN,dx,_,_,rfl,hx,T.clN,T.nN_nights,hf.2.2.1,_,_,_,_,_,rfl,rfl,TyOf.lst hnl,JT "list",_,rfl,kS ?_⟩;refine ⟨_,rfl,x,cN,dx,_,_,rfl,hx,T.clN,T.nN_nights,hf.2.2.1,nl,_,rfl,.inl (so hnl),_,rfl,t,_,_,_,rfl,rfl,SqT.of ht,rfl,nl2,_,rfl,.inl (so hnl2),rfl,_,rfl,vJ (by rw [hN.1,hN2.1]) ?_⟩;refine ⟨_,rfl,x,cN,dx,_,_,rfl,hx,T.clN,T.nN_reaches,hf.1,rl,_,rfl,.inl (so hrl),_,rfl,t,_,_,_,rfl,rfl,SqT.of ht,rfl,rl2,_,rfl,.inl (so hrl2),rfl,_,rfl,vJ (by rw [hR.1,hR2.1]) ?_⟩;refine ⟨_,rfl,x,cN,dx,_,_,rfl,hx,T.clN,T.nN_locks,hf.2.1,ll,_,rfl,.inl (so hll),_,rfl,t,_,_,_,rfl,rfl,SqT.of ht,rfl,ll2,_,rfl,.inl (so hll2),rfl,_,rfl,vJ (by rw [hL.1,hL2.1]) ?_⟩;have sm:Same H H:=Same.refl _;refine ⟨_,rfl,t,_,_,_,rfl,rfl,SqT.of (sm _ _ ht),rfl,rl2,_,rfl,.inl (so (sm _ _ hrl2)),_,rfl,by omega,by rw [hR2.1];omega,JP (n:=((rs2.length:Nat):Int).toNat) (fun i σ Hi=>∃c:Option V,σ=[some (.ref x),some (.ref t),c]∧Same H Hi) ⟨none,rfl,sm⟩ ?_ ?_⟩
 ·rintro i σ Hi hi ⟨c,rfl,sm⟩;rw [Int.toNat_natCast,hR2.1] at hi;obtain ⟨r,hr⟩:∃r,R[i]?=some r:=⟨_,List.getElem?_eq_getElem hi⟩;obtain ⟨v,hv1,y,rfl,hy⟩:=hR.get hr;obtain ⟨u,hu1,y2,rfl,hy2⟩:=hR2.get hr;refine ⟨_,rfl,x,cN,dx,_,_,rfl,(sm _ _ fx),T.clN,T.nN_reaches,hf.1,_,rfl,rl,_,_,_,rfl,rfl,so (sm _ _ hrl),q9 hv1,_,rfl,t,_,_,_,rfl,rfl,SqT.of (sm _ _ ht),rfl,_,rfl,rl2,_,_,_,rfl,rfl,so (sm _ _ hrl2),q9 hu1,y,y2,r,rfl,hy.same sm,sm _ _ hy2,fun H' s'=>⟨_,rfl,kS ?_⟩⟩;exact ⟨_,rfl,sm.trans s'⟩
 rintro σ Hi ⟨c,rfl,sm⟩;refine ⟨_,rfl,t,_,_,_,rfl,rfl,SqT.of (sm _ _ ht),rfl,ll2,_,rfl,.inl (so (sm _ _ hll2)),_,rfl,by omega,by rw [hL2.1];omega,JP (n:=((ls2.length:Nat):Int).toNat) (fun i σ Hi=>∃c:Option V,σ=[some (.ref x),some (.ref t),c]∧Same H Hi) ⟨c,rfl,sm⟩ ?_ ?_⟩
 ·rintro i σ Hi hi ⟨c,rfl,sm⟩;rw [Int.toNat_natCast,hL2.1] at hi;obtain ⟨r,hr⟩:∃r,L[i]?=some r:=⟨_,List.getElem?_eq_getElem hi⟩;obtain ⟨v,hv1,y,rfl,hy⟩:=hL.get hr;obtain ⟨u,hu1,y2,rfl,hy2⟩:=hL2.get hr;refine ⟨_,rfl,x,cN,dx,_,_,rfl,(sm _ _ fx),T.clN,T.nN_locks,hf.2.1,_,rfl,ll,_,_,_,rfl,rfl,so (sm _ _ hll),q9 hv1,_,rfl,t,_,_,_,rfl,rfl,SqT.of (sm _ _ ht),rfl,_,rfl,ll2,_,_,_,rfl,rfl,so (sm _ _ hll2),q9 hu1,y,y2,r,rfl,hy.same sm,(fun e=>hpl r (mem_of_getElem? hr) e),sm _ _ hy2,fun H' s'=>⟨_,rfl,kS ?_⟩⟩;exact ⟨_,rfl,sm.trans s'⟩
 rintro σ Hi ⟨c,rfl,sm⟩;refine ⟨_,rfl,t,_,_,_,rfl,rfl,SqT.of (sm _ _ ht),rfl,nl2,_,rfl,.inl (so (sm _ _ hnl2)),_,rfl,by omega,by rw [hN2.1];omega,JP (n:=((ns2.length:Nat):Int).toNat) (fun i σ Hi=>∃c:Option V,σ=[some (.ref x),some (.ref t),c]∧Same H Hi) ⟨c,rfl,sm⟩ ?_ ?_⟩
 ·rintro i σ Hi hi ⟨c,rfl,sm⟩;rw [Int.toNat_natCast,hN2.1] at hi;obtain ⟨r,hr⟩:∃r,N[i]?=some r:=⟨_,List.getElem?_eq_getElem hi⟩;obtain ⟨v,hv1,hy⟩:=hN.get hr;obtain ⟨u,hu1,hy2⟩:=hN2.get hr;obtain ⟨y,rfl⟩:∃y,v=.ref y:=by obtain ⟨l,_,e,_⟩:=hy;exact ⟨l,e⟩
  obtain ⟨y2,rfl⟩:∃y2,u=.ref y2:=by obtain ⟨l,_,e,_⟩:=hy2;exact ⟨l,e⟩
  refine ⟨_,rfl,x,cN,dx,_,_,rfl,(sm _ _ fx),T.clN,T.nN_nights,hf.2.2.1,_,rfl,nl,_,_,_,rfl,rfl,so (sm _ _ hnl),q9 hv1,_,rfl,t,_,_,_,rfl,rfl,SqT.of (sm _ _ ht),rfl,_,rfl,nl2,_,_,_,rfl,rfl,so (sm _ _ hnl2),q9 hu1,y,y2,_,_,r,rfl,NAt.same sm _ _ hy,NAt.same sm _ _ hy2,hpn r (mem_of_getElem? hr),fun H' s'=>⟨_,rfl,kS ?_⟩⟩;exact ⟨_,rfl,sm.trans s'⟩
 rintro σ Hi ⟨c,rfl,sm⟩;exact q _ sm
theorem JN:FnScope ["one","names","target","words","k","comes","goes"] ["one","names"] (jI ZE):=kG
include T in
theorem CO {f:Addr} {fd:FuncData} (F:Fun K "_law_row" "_law_row" ZE f fd) : FnOk P w K mg base kB 1 f fd ["one","names"] (xP):=by
 refine F.ok2 JN fun vs H Q E h=>?_
 obtain ⟨t,nl,it,rn,n,rfl,hat,hnl,hrn,hok,q⟩:=h;refine ⟨rfl,fun _ _ _ _ hr=>?_⟩;refine ⟨_,(jH (jV (jU kF (jF (qF K) (pv 0) jB) jJ) (jH (jN (i:=2) JN.nd rfl (.inl rfl) jJ)
   (vC (jV (jU gK (jF (qF K) (pv 0) jB) jB) (jG (jN (i:=2) JN.nd rfl (.inl rfl) (jF (jL K) (pv 1) (jF (qF K) (pv 0) jB)))) kA)
   (jG (jS (qB PySem.F.plainAttrs_str PySem.F.slot_str_join PySem.F.type_str_join fU jJ (jA (jE qQ (jE qQ (kC (jA jJ (jA (jF (qF K) (pv 0) jB) jC))) (zD ["number"] (qZ 1 []) rfl (vO (jI ZE)) (cps 1 []) (MU (vB (lF K) (pv 0) (kT jB) (kT jB))) (fun _ _ _ _ _=>(kL (i:=0) (show List.Nodup (["number"]:List Str) from by decide +kernel) rfl (.inl rfl))) (fun _ _ _ _ _=>v8) (fun _ _ _ _ _=>(vQ fJ (by rfl) T.z_str PyProof.Rows.boot_str (jA (pv 0) jC))))) (kC (jA (pv 2) jC))) jC)))))) kA)
   (jH (jV (jU kF (jF (qF K) (pv 0) jB) jJ) (jH (jN (i:=3) JN.nd rfl (.inl rfl) (kC (jA jJ (jA (jF (qF K) (pv 0) jB) (jA (jF (jL K) (pv 1) (jF (qF K) (pv 0) jB)) (jA (jF (jL K) (pv 1) (jF (qF K) (pv 0) jB)) (jA (vQ fJ (by rfl) T.z_str PyProof.Rows.boot_str (jA (jF (qF K) (pv 0) jB) jC)) jC)))))))
   (vC (jV (jU vI (jF (qF K) (pv 0) jB) jJ) (jG (jN (i:=3) JN.nd rfl (.inl rfl) (jE qQ (pv 3) (kC (jA (jF (qF K) (pv 0) jB) (jA (vQ fJ (by rfl) T.z_str PyProof.Rows.boot_str (jA (jF (qF K) (pv 0) jB) jC)) jC)))))) kA)
   (jG (jS (qB PySem.F.plainAttrs_str PySem.F.slot_str_join PySem.F.type_str_join fU jJ (jA (pv 3) jC)))))) kA)
   (jH (jN (i:=3) JN.nd rfl (.inl rfl) (kC (jA jJ jC)))
   (jH (vM PassesOwn.never rfl (vA (jF (qF K) (pv 0) jB)) (gB rfl (zZ (kL (i:=4) JN.nd rfl (.inl rfl)) (zZ (kL (i:=5) JN.nd rfl (.inl rfl)) (zZ (kL (i:=6) JN.nd rfl (.inl rfl)) fS))))
    (jG (jN (i:=3) JN.nd rfl (.inl rfl) (jE qQ (pv 3) (kC (jA (jF (jL K) (pv 1) (pv 4)) (jA (vQ fJ (by rfl) T.z_str PyProof.Rows.boot_str (jA (pv 5) jC)) (jA (vQ fJ (by rfl) T.z_str PyProof.Rows.boot_str (jA (pv 6) jC)) jC))))))))
   (jG (jS (qB PySem.F.plainAttrs_str PySem.F.slot_str_join PySem.F.type_str_join fU jJ (jA (pv 3) jC)))))))),?_⟩
 have hw:=E8 hrn hok;have hq:∀H',Same H H'→Q (.str (Str.join " " (kX rn it))) H':=fun H' s=>by rw [K0];exact q H' s
 obtain ⟨hn8,hok⟩:=hok;cases it with
 |reach r =>
  obtain ⟨t',h',ht⟩:=hat
  cases h';obtain ⟨⟨g1,g2,g3,g4,g5,g6,g7,g8,g9⟩,hl⟩:=hok;refine ⟨_,rfl,t,_,_,_,rfl,rfl,SqT.of ht,rfl,rfl,_,rfl,jZ rfl ?_⟩;refine ⟨fun σ' H'=>σ'=[some (.ref t),some (.ref nl),some (.str (z5 rn r.target)),none,none,none,none]∧H=H',?_,?_⟩
  ·refine ⟨_,rfl,t,_,_,_,rfl,rfl,SqT.of ht,rfl,_,_,rfl,rfl,_,rfl,?_⟩
   by_cases hz:0≤r.target
   ·refine jZ hz ⟨_,rfl,_,rfl,t,_,_,_,rfl,rfl,SqT.of ht,rfl,nl,_,_,_,rfl,rfl,so hnl,nH rn hz (by omega),?_,rfl⟩;rw [show z5 rn r.target=jM (rn r.target.toNat) from if_pos hz];rfl
   ·refine jT hz ⟨?_,rfl⟩;rw [show z5 rn r.target="sea" from if_neg hz];rfl
  rintro σ' H' ⟨rfl,rfl⟩;refine ⟨rfl,_,rfl,t,_,_,_,rfl,rfl,SqT.of ht,rfl,zz2,fun p1 hp1=>?_⟩;have s1:=jK hp1 (.lst [V.str "reach",V.str r.name]);have h1:upd H p1 (.lst [V.str "reach",V.str r.name]) p1=some (.lst [V.str "reach",V.str r.name]):=jD;generalize upd H p1 (.lst [V.str "reach",V.str r.name])=H1 at s1 h1 ⊢;refine ⟨_,rfl,_,rfl,_,rfl,t,_,rfl,SqT.of (s1 _ _ ht),(by show ¬(HT.sIx 7 0 (some 2)=0∧HT.sIx 7 7 (some 6)=7);decide),fun p2 hp2=>?_⟩;have s2:=jK hp2 (.tup (qS (zA r) (some 2) (some 6)));have h2:upd H1 p2 (.tup (qS (zA r) (some 2) (some 6))) p2=some (.tup ([r.least,r.crest,r.berths,r.water].map V.int)):=jD;generalize upd H1 p2 (.tup (qS (zA r) (some 2) (some 6)))=H2 at s2 h2 ⊢;refine ⟨p2,rfl,⟨_,SqT.of h2⟩,fun D hD=>?_⟩;have hb:∀z∈[r.least,r.crest,r.berths,r.water],0≤z∧z≤9999999999999:=by
   intro z hz;simp only [mem_cons,mem_nil_iff,or_false] at hz
   rcases hz with rfl|rfl|rfl|rfl<;>omega
  refine HU (K:=K) (a:=p2) (xs:=[r.least,r.crest,r.berths,r.water].map V.int) (caps:=[]) (fun i ys Hi=>ys=(([r.least,r.crest,r.berths,r.water].take i).map fun z=>V.str (jY z))) hD h2 rfl ?_ ?_
  ·rintro i x ys Hi hx hi hle sm hY rfl;obtain ⟨z,rfl,hz⟩:=uZ hx;have hzb:=hb z (mem_of_getElem? hz);refine yD (kR ⟨_,rfl,_,rfl,(zK hzb.1 hzb.2).1,?_⟩);refine vK hD sm hY hle (by have:i<4:=hi;omega) (Same.refl _) ?_;rw [take_add_one,hz,map_append];rfl
  rintro ys H3 s3 hDl hle rfl;have s13:=s2.trans s3;refine ⟨p1,D,_,_,rfl,rfl,s13 _ _ h1,hDl,zz6,fun p3 hp3=>?_⟩;have s4:=jK hp3 (.lst ((kX rn (.reach r)).take 6 |>.map V.str));have h3:upd H3 p3 (.lst ((kX rn (.reach r)).take 6 |>.map V.str)) p3=some (.lst ((kX rn (.reach r)).take 6 |>.map V.str)):=jD;refine ⟨_,rfl,zz1,fun p4 hp4=>?_⟩;have s5:=jK hp4 (.lst [V.str (z5 rn r.target)]);refine ⟨p3,p4,_,_,rfl,rfl,s5 _ _ h3,jD,zz7,fun p5 hp5=>?_⟩;refine ⟨" ",p5,kX rn (.reach r),rfl,rfl,so jD,by decide +kernel,hw,hq _ ?_⟩;exact ((((s1.trans s13).trans s4).trans s5).trans (jK hp5 _))
 |lock l =>
  obtain ⟨t',h',ht⟩:=hat
  cases h';obtain ⟨⟨g1,g2,g3,g4,g5,g6,g7,g8⟩,hl⟩:=hok;refine ⟨_,rfl,t,_,_,_,rfl,rfl,SqT.of ht,rfl,rfl,_,rfl,jT (fun z=>gQ (V.str.inj z)) ⟨_,rfl,t,_,_,_,rfl,rfl,SqT.of ht,rfl,rfl,_,rfl,jZ rfl ?_⟩⟩;refine ⟨_,rfl,t,_,_,_,rfl,rfl,SqT.of ht,rfl,_,rfl,_,rfl,t,_,_,_,rfl,rfl,SqT.of ht,rfl,nl,_,_,_,rfl,rfl,so hnl,nH rn (by show 0≤l.high;omega) (by show l.high<8;omega),_,rfl,_,rfl,t,_,_,_,rfl,rfl,SqT.of ht,rfl,nl,_,_,_,rfl,rfl,so hnl,nH rn (by show 0≤l.low;omega) (by show l.low<8;omega),_,rfl,t,_,_,_,rfl,rfl,SqT.of ht,rfl,_,rfl,(zK (n:=l.room) (by omega) (by omega)).1,zz5,fun wl hwl=>?_⟩;have s1:=jK hwl (.lst ([("lock":Str),l.name,jM (rn l.high.toNat),jM (rn l.low.toNat),jY l.room].map V.str));have h1:upd H wl (.lst ([("lock":Str),l.name,jM (rn l.high.toNat),jM (rn l.low.toNat),jY l.room].map V.str)) wl=some (.lst ([("lock":Str),l.name,jM (rn l.high.toNat),jM (rn l.low.toNat),jY l.room].map V.str)):=jD;refine ⟨fun σ' H'=>∃w2:Addr,σ'=[some (.ref t),some (.ref nl),none,some (.ref w2),none,none,none]∧H' w2=some (.lst ((kX rn (.lock l)).map V.str))∧Same H H',?_,?_⟩
  ·refine ⟨_,rfl,t,_,_,_,rfl,rfl,SqT.of (s1 _ _ ht),rfl,rfl,_,rfl,?_⟩
   by_cases hk:l.kd=.plain
   ·refine vJ ((iQ l.kd).mpr hk) ⟨wl,rfl,?_,s1⟩;rw [show kX rn (.lock l)=([("lock":Str),l.name,jM (rn l.high.toNat),jM (rn l.low.toNat),jY l.room]:List Str) by rw [ZQ,hk];rfl];exact h1
   ·have hx:=g8 hk;refine y0 (fun z=>hk ((iQ l.kd).mp z)) ⟨_,rfl,_,rfl,t,_,_,_,rfl,rfl,SqT.of (s1 _ _ ht),rfl,_,rfl,t,_,_,_,rfl,rfl,SqT.of (s1 _ _ ht),rfl,_,rfl,(zK (n:=l.extra) (by omega) (by omega)).1,zz2,fun w2 hw2=>?_⟩;have s2:=jK hw2 (.lst [V.str (vE l.kd),V.str (jY l.extra)]);refine ⟨wl,w2,_,_,rfl,rfl,s2 _ _ h1,jD,zz7,fun w3 hw3=>⟨w3,rfl,?_,(s1.trans s2).trans (jK hw3 _)⟩⟩;rw [show kX rn (.lock l)=([("lock":Str),l.name,jM (rn l.high.toNat),jM (rn l.low.toNat),jY l.room]:List Str)++[vE l.kd,jY l.extra] by rw [ZQ,iX hk]];exact jD
  rintro σ' H' ⟨w2,rfl,h2,s2⟩;exact ⟨rfl,_,rfl," ",w2,_,rfl,rfl,so h2,by decide +kernel,hw,hq _ s2⟩
 |night ts =>
  obtain ⟨t',l,trs,h',ht,hl,htr,_⟩:=hat
  cases h';obtain ⟨⟨hnd,hts⟩,htl⟩:=hok;refine ⟨_,rfl,t,_,_,_,rfl,rfl,SqT.of ht,rfl,rfl,_,rfl,jT (fun z=>gP (V.str.inj z)) ⟨_,rfl,t,_,_,_,rfl,rfl,SqT.of ht,rfl,rfl,_,rfl,jT (fun z=>gR (V.str.inj z)) ?_⟩⟩;refine ⟨zz1,fun wl hwl=>?_⟩;have s1:=jK hwl (.lst [V.str "night"]);refine ⟨_,rfl,t,_,_,_,rfl,rfl,SqT.of (s1 _ _ ht),rfl,l,rfl,⟨_,so (s1 _ _ hl)⟩,dW (K:=K) (a:=l) (xs:=trs) (fun j σ Hj=>∃(w2:Addr) (c4 c5 c6:Option V),σ=[some (.ref t),some (.ref nl),none,some (.ref w2),c4,c5,c6]∧Hj w2=some (.lst ((kX rn (.night (ts.take j))).map V.str))∧Same H Hj)
   ⟨wl,none,none,none,rfl,jD,s1⟩ (fun j σ Hj _ ⟨_,_,_,_,_,_,s⟩=>so (s _ _ hl)) ?_ ?_⟩
  ·rintro j y σ Hj hy ⟨w2,c4,c5,c6,rfl,hw2,sj⟩;obtain ⟨ta,k,x,z,rfl,htk,hta⟩:=htr.2 j y hy;obtain ⟨k1,k2,k3,k4,k5⟩:=hts _ (mem_of_getElem? htk);have k1:k<n:=k1;have hj8:j<8:=by have:=(List.getElem?_eq_some_iff.mp htk).1;omega
   refine ⟨ta,_,rfl,SqT.of (sj _ _ hta),rfl,_,_,rfl,_,_,rfl,_,_,rfl,rfl,?_⟩;refine ⟨_,rfl,_,rfl,_,rfl,nl,_,_,_,rfl,rfl,so (sj _ _ hnl),q9 (fG rn (show k<8 by omega)),_,rfl,_,rfl,(zK (n:=x) k2 (by have:x≤999999999999:=k3;omega)).1,_,rfl,_,rfl,(zK (n:=z) k4 (by have:z≤999999999999:=k5;omega)).1,zz3,fun w3 hw3=>?_⟩;have u:=jK hw3 (.lst [V.str (jM (rn k)),V.str (jY x),V.str (jY z)]);have hlen:((kX rn (.night (ts.take j))).map V.str).length≤900:=by
    rw [length_map];have:=(nU (it:=.night (ts.take j)) (n:=n) hrn ⟨hn8,⟨by rw [map_take];exact hnd.sublist (take_sublist _ _),fun q hq=>hts q (mem_of_mem_take hq)⟩,by rw [length_take];omega⟩).1;omega
   refine ⟨w2,w3,_,_,rfl,rfl,u _ _ hw2,jD,Nat.le_of_lt (vF (by show _+3≤1000;omega)),fun w4 hw4=>⟨w4,_,_,_,rfl,?_,(sj.trans u).trans (jK hw4 _)⟩⟩;rw [jD,HL rn ts htk,map_append];rfl
  ·rintro σ Hj ⟨w2,c4,c5,c6,rfl,hw2,sj⟩;rw [htr.1,take_length] at hw2;exact ⟨rfl,_,rfl," ",w2,_,rfl,rfl,so hw2,by decide +kernel,hw,hq _ sj⟩
theorem ZM:FnScope ["rows","due","told","canal","e"] ["rows","due"] (jI ZA):=kG
include T in
theorem B7 {f:Addr} {fd:FuncData} (F:Fun K "_law_holds" "_law_holds" ZA f fd) (DX_canal_of:DefX P w K mg base 7 "canal_of" ["text"] [] (uK (j6 cP cB cU) cR cN (qW eB eT eU eN eM))) (D__law_canal_is:Def P w K mg base 4 "_law_canal_is" ["canal","due"] [] (sT (j6 cP cB cU) cR cN)):FnOk P w K mg base kB 8 f fd ["rows","due"] (wU (j6 cP cB cU) cR cN):=by
 refine F.ok2 ZM fun vs H Q E h=>?_
 obtain ⟨rl,due,rows,t,rfl,hrl,hr80,ht,hok,hdue,q⟩:=h;refine ⟨rfl,fun _ _ _ _ hr=>?_⟩;have hu:_<cLine:=hr.units0;refine ⟨_,(jH (jN (i:=2) ZM.nd rfl (.inl rfl) (kC jC))
   (jH (jN (i:=3) ZM.nd rfl (.inl rfl) x6)
   (vC (IR (i:=4) rfl rfl rfl ZM.nd rfl rfl rfl T.c_CanalError (fun _ _ hx=>(jG (jN (i:=3) ZM.nd rfl (.inl rfl) (vG DX_canal_of hx hr rfl (jA (MW (fun K=>BG K "str" (AF K) _ _) K (qB PySem.F.plainAttrs_str PySem.F.slot_str_join PySem.F.type_str_join fU jJ (jA (pv 0) jC))) jC))))) (fun _=>(jH (jN (i:=2) ZM.nd rfl (.inl rfl) (kC (jA (j5 (dX (K:=K)) (by rfl) T.z_isinstance PyProof.Rows.boot_isinstance (jA (pv 4) (jA (vX (v:=.ref eB) rfl T.c_BadRow rfl) jC))) (jA (j5 (dX (K:=K)) (by rfl) T.z_isinstance PyProof.Rows.boot_isinstance (jA (pv 4) (jA (vX (v:=.ref eT) rfl T.c_Twice rfl) jC))) (jA (j5 (dX (K:=K)) (by rfl) T.z_isinstance PyProof.Rows.boot_isinstance (jA (pv 4) (jA (vX (v:=.ref eU) rfl T.c_Unknown rfl) jC))) jC)))))
   (jG (jN (i:=2) ZM.nd rfl (.inl rfl) (jE qQ (pv 2) (kC (jA (j5 (dX (K:=K)) (by rfl) T.z_isinstance PyProof.Rows.boot_isinstance (jA (pv 4) (jA (vX (v:=.ref eN) rfl T.c_BadNumber rfl) jC))) (jA (j5 (dX (K:=K)) (by rfl) T.z_isinstance PyProof.Rows.boot_isinstance (jA (pv 4) (jA (vX (v:=.ref eM) rfl T.c_TooMany rfl) jC))) (jA (j5 (dX (K:=K)) (by rfl) T.z_isinstance PyProof.Rows.boot_isinstance (jA (pv 4) (jA (vX (v:=.ref eS) rfl T.c_Short rfl) jC))) jC))))))))))
   (jH (jV (vL (j5 (yO (K:=K)) (by rfl) T.z_isinstance PyProof.Rows.boot_isinstance (jA (pv 1) (jA (z8 (v:=.ty "int") rfl T.z_int PyProof.Rows.boot_int rfl) jC)))) (jG (jS (qP (x8 hu) (pv 2) (zD ["k","due"] (qZ 1 [1]) rfl (vO (jI ZA)) (cps 1 [1]) (zY (by rfl) T.z_range (jA jB jC)) (fun _ _ _ _ _=>(kL (i:=0) (show List.Nodup (["k","due"]:List Str) from by decide +kernel) rfl (.inl rfl))) (fun _ _ _ _ _=>v8) (fun _ _ _ _ _=>(qP kF (pv 0) (pv 1))))))) kA)
   (jG (jS (zM (qP (x8 hu) (pv 2) (kC jC)) (yH (kO D__law_canal_is hr rfl (jA (pv 3) (jA (pv 1) jC))))))))))),?_⟩
 have cls:∀k:Nat,k≤4→ExcAttr K ((qW eB eT eU eN eM) k)∧(W.clsIn K ((qW eB eT eU eN eM) k)).isSome=true∧W.exmOne K (.ref ((qW eB eT eU eN eM) k)) (.ref eC)=some true∧W.kitOne K (.ref ((qW eB eT eU eN eM) k)) (.ref eB)=some (decide (0=k))∧W.kitOne K (.ref ((qW eB eT eU eN eM) k)) (.ref eT)=some (decide (1=k))∧W.kitOne K (.ref ((qW eB eT eU eN eM) k)) (.ref eU)=some (decide (2=k))∧W.kitOne K (.ref ((qW eB eT eU eN eM) k)) (.ref eN)=some (decide (3=k))∧W.kitOne K (.ref ((qW eB eT eU eN eM) k)) (.ref eM)=some (decide (4=k))∧W.kitOne K (.ref ((qW eB eT eU eN eM) k)) (.ref eS)=some (decide (5=k)):=by
  intro k hk
  rcases (show k=0∨k=1∨k=2∨k=3∨k=4 by omega) with rfl|rfl|rfl|rfl|rfl
  ·exact ⟨T.at_BadRow,T.cl_BadRow,T.exm_BadRow,T.k_BadRow_BadRow,T.k_BadRow_Twice,T.k_BadRow_Unknown,T.k_BadRow_BadNumber,T.k_BadRow_TooMany,T.k_BadRow_Short⟩
  ·exact ⟨T.at_Twice,T.cl_Twice,T.exm_Twice,T.k_Twice_BadRow,T.k_Twice_Twice,T.k_Twice_Unknown,T.k_Twice_BadNumber,T.k_Twice_TooMany,T.k_Twice_Short⟩
  ·exact ⟨T.at_Unknown,T.cl_Unknown,T.exm_Unknown,T.k_Unknown_BadRow,T.k_Unknown_Twice,T.k_Unknown_Unknown,T.k_Unknown_BadNumber,T.k_Unknown_TooMany,T.k_Unknown_Short⟩
  ·exact ⟨T.at_BadNumber,T.cl_BadNumber,T.exm_BadNumber,T.k_BadNumber_BadRow,T.k_BadNumber_Twice,T.k_BadNumber_Unknown,T.k_BadNumber_BadNumber,T.k_BadNumber_TooMany,T.k_BadNumber_Short⟩
  ·exact ⟨T.at_TooMany,T.cl_TooMany,T.exm_TooMany,T.k_TooMany_BadRow,T.k_TooMany_Twice,T.k_TooMany_Unknown,T.k_TooMany_BadNumber,T.k_TooMany_TooMany,T.k_TooMany_Short⟩
 have hfine:=RowOk.fine ht hok;obtain ⟨htx,hsubr⟩:=FZ (rows:=rows) (fun row hm=>(hok row hm).1);have hsum:=fZ (B:=4500) rows (fun row hm=>(hok row hm).2.1);have hsum2:rows.length*4500≤80*4500:=Nat.mul_le_mul_right _ hr80;have hjl:(Str.join feedS rows).length≤1000000:=by
  have h1:=StrLaws.join_length_le feedS rows;have h2:rows.length*feedS.length≤80*1:=Nat.mul_le_mul hr80 (Nat.le_refl 1);have h3:(rows.map (·.length)).sum=ZU rows:=rfl;omega
 refine ⟨Nat.zero_le _,fun tl htl0=>?_⟩;have t1:=jK htl0 (.lst []);have htl:upd H tl (.lst []) tl=some (.lst []):=jD;generalize upd H tl (.lst [])=H1 at t1 htl ⊢;refine ⟨fun σ' H'=>Same H H'∧((∃(k:Nat) (p:Addr),qT rows=.error k∧σ'=[some (.ref rl),some due,some (.ref p),some .non,none]∧H' p=some (.lst (o4 k)))∨∃(S:kM) (x p:Addr),qT rows=.ok S∧σ'=[some (.ref rl),some due,some (.ref p),some (.ref x),none]∧H' p=some (.lst [])∧CnAt (j6 cP cB cU) cR cN [] H' x S.1 S.2.1 (S.2.2.map (qM S.1.length))),?_,?_⟩
 ·refine ⟨fun σ' c H'=>∃k:Nat,σ'=[some (.ref rl),some due,some (.ref tl),some .non,none]∧qT rows=.error k∧c=.ref ((qW eB eT eU eN eM) k)∧Same H H',?_,?_⟩
  ·refine ⟨rfl,_,rfl,feedS,rl,rows,rfl,rfl,so (t1 _ _ hrl),by decide,by omega,_,rfl,hjl,fun row hm hne=>hfine row (hsubr row hm hne) hne,fun S hS _ x H' s' hx0 hcn=>?_,fun k hk H' s'=>⟨k,rfl,htx▸hk,rfl,t1.trans s'⟩⟩;exact ⟨t1.trans s',.inr ⟨S,x,tl,htx▸hS,rfl,s' _ _ htl,hcn⟩⟩
  rintro σ' c H' ⟨k,rfl,hk,rfl,sm⟩;obtain ⟨ca,cc,cx,k0,k1,k2,k3,k4,k5⟩:=cls k (ID hk);refine ⟨(qW eB eT eU eN eM) k,rfl,cx,fun x hx=>?_⟩;have u1:=jK hx (Z0 x ((qW eB eT eU eN eM) k));refine ⟨_,rfl,x,(qW eB eT eU eN eM) k,.ref eB,decide (0=k),rfl,jD,ca,cc,.inl ⟨_,rfl,k0⟩,_,rfl,x,(qW eB eT eU eN eM) k,.ref eT,decide (1=k),rfl,jD,ca,cc,.inl ⟨_,rfl,k1⟩,_,rfl,x,(qW eB eT eU eN eM) k,.ref eU,decide (2=k),rfl,jD,ca,cc,.inl ⟨_,rfl,k2⟩,zz3,fun p1 hp1=>?_⟩;have u2:=jK hp1 (.lst [V.bl (decide (0=k)),V.bl (decide (1=k)),V.bl (decide (2=k))]);refine ⟨_,rfl,_,rfl,x,(qW eB eT eU eN eM) k,.ref eN,decide (3=k),rfl,(u2 _ _ jD),ca,cc,.inl ⟨_,rfl,k3⟩,_,rfl,x,(qW eB eT eU eN eM) k,.ref eM,decide (4=k),rfl,(u2 _ _ jD),ca,cc,.inl ⟨_,rfl,k4⟩,_,rfl,x,(qW eB eT eU eN eM) k,.ref eS,decide (5=k),rfl,(u2 _ _ jD),ca,cc,.inl ⟨_,rfl,k5⟩,zz3,fun p2 hp2=>?_⟩;have u3:=jK hp2 (.lst [V.bl (decide (3=k)),V.bl (decide (4=k)),V.bl (decide (5=k))]);refine ⟨p1,p2,_,_,rfl,rfl,u3 _ _ jD,jD,zz6,fun p3 hp3=>?_⟩;exact ⟨(((sm.trans u1).trans u2).trans u3).trans (jK hp3 _),.inl ⟨k,p3,hk,rfl,by rw [jD];rfl⟩⟩
 rintro σ' H' ⟨sm,hcase⟩
 rcases hdue with ⟨k,rfl,hk⟩|⟨a,S,rfl,hS,hdu⟩
 ·rcases hcase with ⟨k',p,hk',rfl,hp⟩|⟨S,x,p,hS,_⟩
  case inr=>rw [hk] at hS;cases hS
  rw [hk] at hk';cases hk';refine ⟨_,rfl,_,_,_,_,_,rfl,rfl,TyOf.int _,JT "int",_,rfl,kR ?_⟩;refine ⟨_,rfl,_,rfl,by decide,by decide,fun D hD=>?_⟩;refine rN (n:=6) (caps:=[some (.int (k:Int))]) (fun i ys Hi=>ys=(List.range i).map fun j:Nat=>V.bl (decide (j=k))) hD rfl ?_ ?_
  ·rintro i ys Hi hi hle s' hY rfl;rw [Int.zero_add];refine yD (kR ⟨_,rfl,_,rfl,rfl,?_⟩);refine vK hD s' hY hle (by omega) (Same.refl _) ?_;rw [range_succ,map_append];show _++[V.bl (decide (V.int (i:Int)=V.int (k:Int)))]=_++[V.bl (decide (i=k))];rw [show decide (V.int (i:Int)=V.int (k:Int))=decide (i=k) from decide_eq_decide.mpr ⟨fun z=>by have:=V.int.inj z;omega,fun z=>by rw [z]⟩]
  rintro ys H5 s5 hD5 _ rfl;refine ⟨p,D,o4 k,rfl,rfl,so (s5 _ _ hp),so hD5,?_,q _ (sm.trans s5)⟩;unfold o4;rw [all_map];exact all_eq_true.mpr fun _ _=>rfl
 ·rcases hcase with ⟨k',p,hk',_⟩|⟨S',x,p,hS',rfl,hp,hcn⟩
  ·rw [hS] at hk';cases hk'
  rw [hS] at hS';cases hS';obtain ⟨⟨⟨j8,jl8,jn6⟩,_,hpl⟩,_⟩:=E4 hS;have hdu':=hdu;obtain ⟨rl2,ll2,nl2,rs2,ls2,ns2,hat,_⟩:=hdu';refine ⟨_,rfl,_,_,_,_,_,rfl,rfl,TyOf.tup (sm _ _ hat),EW,_,rfl,kS ?_⟩;refine ⟨_,rfl,Nat.zero_le _,fun p0 hp0=>?_⟩;have u:=jK hp0 (.lst []);refine ⟨p,p0,[],rfl,rfl,so (u _ _ hp),so jD,rfl,_,rfl,kR ?_⟩;refine ⟨_,rfl,_,rfl,x,a,[],[],S.1,S.2.1,S.2.2.map (qM S.1.length),rfl,hcn.same u,hdu.same (sm.trans u),by omega,by omega,by rw [length_map];omega,hpl,fun p hp=>?_,fun H7 s7=>q _ ((sm.trans u).trans s7)⟩;obtain ⟨ts,_,rfl⟩:=mem_map.mp hp;rw [fD];omega
theorem J3:FnScope ["script","names","gates","plan","good","rows","cell"] ["script"] (jI JM):=kG
include T in
theorem CY {f:Addr} {fd:FuncData} (F:Fun K "law" "law" JM f fd) (D__law_reach_names:Def P w K mg base 2 "_law_reach_names" ["cell"] [] (mJ)) (D__law_cell_at:Def P w K mg base 1 "_law_cell_at" ["script","k"] [] (oZ K)) (D__law_gates:Def P w K mg base 3 "_law_gates" ["cell","names"] [] (uI)) (D__law_plan:Def P w K mg base 2 "_law_plan" ["script","names","gates"] [] (wP K)) (D__law_row:Def P w K mg base 1 "_law_row" ["one","names"] [] (xP)) (D__law_spoiled:Def P w K mg base 2 "_law_spoiled" ["rows","cell","names","gates"] [] (sO)) (D__law_holds:Def P w K mg base 8 "_law_holds" ["rows","due"] [] (wU (j6 cP cB cU) cR cN)) (D__law_due:Def P w K mg base 1 "_law_due" ["plan"] [] (oK)) (D__law_judged:Def P w K mg base 4 "_law_judged" ["rows"] [] (uG)):FnOk P w K mg base kB 9 f fd ["script"] (lO K):=by
 refine F.ok2 J3 fun vs H Q E h=>?_
 obtain ⟨a,ns,rfl,hS,h63,q⟩:=h;refine ⟨rfl,fun _ _ _ _ hr=>?_⟩;refine ⟨_,(jH (jN (i:=1) J3.nd rfl (.inr rfl) (kO D__law_reach_names hr rfl (jA (jE kJ (kO D__law_cell_at hr rfl (jA (pv 0) (jA jB jC))) (jE zG jB jB)) jC)))
   (jH (jN (i:=2) J3.nd rfl (.inl rfl) (kO D__law_gates hr rfl (jA (jE kJ (kO D__law_cell_at hr rfl (jA (pv 0) (jA jB jC))) (jE zG jB jB)) (jA (pv 1) jC))))
   (jH (jN (i:=3) J3.nd rfl (.inl rfl) (kO D__law_plan hr rfl (jA (pv 0) (jA (pv 1) (jA (pv 2) jC)))))
   (jH (ZP (i:=4) ["one","names"] (qZ 1 [1]) J3.nd rfl (.inl rfl) rfl (vO (jI JM)) (cps 1 [1]) (vA (pv 3)) (fun _ _ _ _ _=>(kL (i:=0) (show List.Nodup (["one","names"]:List Str) from by decide +kernel) rfl (.inl rfl))) (fun _ _ _ _ _=>v8) (fun _ _ _ _ _=>(kO D__law_row hr rfl (jA (pv 0) (jA (pv 1) jC)))))
   (jH (jN (i:=5) J3.nd rfl (.inl rfl) (vQ (fC K) (by rfl) T.z_list PyProof.Rows.boot_list (jA (pv 4) jC)))
   (vC (jV (jU kF (jE kJ (jE q8 (kO D__law_cell_at hr rfl (jA (pv 0) (jA jB jC))) jB) jB) jB) (jG (jN (i:=5) J3.nd rfl (.inl rfl) (jF (jL K) (kC (jA (kC jC) (jA (kC (jA jJ jC)) (jA (kC (jA jJ (jA jJ (jA jJ jC)))) jC)))) (jE kJ (kO D__law_cell_at hr rfl (jA (pv 0) (jA jB jC))) jB)))) (jG (vM PassesOwn.never rfl (vA (vB (yG K) (pv 0) (kT (jE JB (eA d7 jB) (jE kJ (kO D__law_cell_at hr rfl (jA (pv 0) (jA jB jC))) jB))) vS)) (kL (i:=6) J3.nd rfl (.inl rfl))
    (jG (jN (i:=5) J3.nd rfl (.inl rfl) (kO D__law_spoiled hr rfl (jA (pv 5) (jA (jE kJ (pv 6) (jE zG jB jB)) (jA (pv 1) (jA (pv 2) jC))))))))))
   (jG (jS (zM (kO D__law_holds hr rfl (jA (pv 5) (jA (kO D__law_judged hr rfl (jA (pv 5) jC)) jC))) (yH (kO D__law_holds hr rfl (jA (pv 4) (jA (kO D__law_due hr rfl (jA (pv 3) jC)) jC))))))))))))),?_⟩
 refine ⟨_,rfl,a,ns,0,rfl,hS,_,_,rfl,rfl,⟨by decide,by decide,by decide⟩,_,_,rfl,rfl,(show (0:Int)<10 ^ Int.toNat 40 from by decide +kernel),_,rfl,fun nl H1 s1 hnl0 hnl=>?_⟩;have hc0:0≤ns.getD 0 0%10 ^ Int.toNat 40:=Int.emod_nonneg _ (by decide +kernel);generalize ns.getD 0 0%10 ^ Int.toNat 40=c0 at hnl hc0;refine ⟨_,rfl,a,ns,1,rfl,s1.seq hS,_,_,rfl,rfl,⟨by decide,by decide,by decide⟩,_,_,rfl,rfl,(show (0:Int)<10 ^ Int.toNat 40 from by decide +kernel),_,rfl,_,c0,nl,rfl,hnl,fun gl H2 s2 hgl=>?_⟩;have hc1:0≤ns.getD 1 0%10 ^ Int.toNat 40:=Int.emod_nonneg _ (by decide +kernel);generalize ns.getD 1 0%10 ^ Int.toNat 40=c1 at hgl hc1;have s12:=s1.trans s2;refine ⟨_,rfl,_,rfl,_,rfl,a,nl,gl,ns,qH c0,yJ c0 c1,rfl,s12.seq hS,h63,s2 _ _ hnl,hgl,fun its a₁ b₁ c₁ pl us H3 ok ha1 s3 hpl0 hpl hpa=>?_⟩;have s13:=s12.trans s3;have nok:=EU hc0 hc1;have hits:=ok.bounds;have ptx:=GI nok ok ha1;have prow:=GJ nok ok;have hgl22:(its.map (yS (qH c0))).length≤80:=by rw [length_map];omega
 have hnl3:=s3 _ _ (s2 _ _ hnl);refine ⟨_,rfl,pl,rfl,⟨_,so hpl⟩,fun gd hgd0=>?_⟩;refine v0 (K:=K) (a:=pl) (xs:=us) (caps:=[some (.ref nl)]) (fun i ys Hi=>ys=((its.take i).map (yS (qH c0))).map V.str) hgd0 (so hpl) rfl ?_ ?_
 ·rintro i v ys Hi hv hi hle sm hY rfl;obtain ⟨it,hit,hat⟩:=hpa.2 i v hv;have hi30:i<30:=by have:=(List.getElem?_eq_some_iff.mp hit).1;omega
  obtain ⟨t,rfl⟩:∃t,v=.ref t:=by
   cases it with
   |reach r=>obtain ⟨t,e,_⟩:=hat;exact ⟨t,e⟩
   |lock r=>obtain ⟨t,e,_⟩:=hat;exact ⟨t,e⟩
   |night r=>obtain ⟨t,_,_,e,_⟩:=hat;exact ⟨t,e⟩
  obtain ⟨m,hok⟩:=oN (fun k hk=>(nok.rlen k hk).2) (fun k hk=>(nok.glen k hk).2) ok it (mem_of_getElem? hit);refine yD (kR ⟨_,rfl,_,rfl,t,nl,it,qH c0,m,rfl,(hat.less (by simp)).same sm,sm _ _ hnl3,fun k hk=>(nok.rlen k hk).2,hok,fun H5 s5=>?_⟩);refine vK hgd0 sm hY hle (by omega) s5 ?_;rw [take_add_one,hit,map_append,map_append];rfl
 rintro ys H4 s4 hgd hle rfl;rw [hpa.1,take_length] at hgd;have s14:=s13.trans s4;refine ⟨_,rfl,gd,_,rfl,.inl (so hgd),fun rw hrw0=>?_⟩;have t5:=jK hrw0 (.lst ((its.map (yS (qH c0))).map V.str));have s15:=s14.trans t5;have hgd5:=t5 _ _ hgd;have hrw5:upd H4 rw (.lst ((its.map (yS (qH c0))).map V.str)) rw=some (.lst ((its.map (yS (qH c0))).map V.str)):=jD;have s35:=s4.trans t5;generalize upd H4 rw (.lst ((its.map (yS (qH c0))).map V.str))=H5 at s15 hgd5 hrw5 s35 ⊢;refine ⟨fun σ' H'=>∃(rows:List Str) (rw:Addr) (c6:Option V) (t:Nat),σ'=[some (.ref a),some (.ref nl),some (.ref gl),some (.ref pl),some (.ref gd),some (.ref rw),c6]∧rows.length≤80∧t≤3∧(∀row∈rows,RowOk t row)∧H' rw=some (.lst (rows.map V.str))∧Same H5 H',?_,?_⟩
 ·refine ⟨_,rfl,a,ns,0,rfl,s15.seq hS,_,_,rfl,rfl,⟨by decide,by decide⟩,_,_,rfl,rfl,(by show (0:Int)<6;decide),rfl,_,rfl,eO (fun _=>?_) (fun _=>?_)⟩
  ·refine ⟨Nat.zero_le _,fun e1 he1=>⟨zz1,fun e2 he2=>⟨zz3,fun e3 he3=>⟨zz3,fun e4 he4=>?_⟩⟩⟩⟩;have v1:=jK he1 (.lst []);have v2:=jK he2 (.lst [V.str ""]);have v3:=jK he3 (.lst [V.str "night",V.str "",V.str "night"]);have v4:=jK he4 (.lst [V.ref e1,V.ref e2,V.ref e3]);have v14:=((v1.trans v2).trans v3).trans v4;have r0:RowOk 0 ("":Str):=RowOk.of_short (by decide +kernel) (by decide +kernel);have r1:RowOk 0 ("night":Str):=RowOk.of_short (by decide +kernel) (by decide +kernel);have m0:=Int.emod_nonneg (ns.getD 1 0) (by decide:(3:Int)≠0);have m1:=Int.emod_lt_of_pos (ns.getD 1 0) (by decide:(0:Int)<3);refine ⟨_,rfl,a,ns,1,rfl,(s15.trans v14).seq hS,_,_,rfl,rfl,(by show (0:Int)<3;decide),?_⟩
   try dsimp only
   rcases (show ns.getD 1 0%3=0∨ns.getD 1 0%3=1∨ns.getD 1 0%3=2 by omega) with e|e|e<;>rw [e]
   ·exact ⟨e4,_,_,_,rfl,rfl,so jD,rfl,[],e1,none,0,rfl,by decide,by decide,fun row hm=>(nomatch hm),v4 _ _ (v3 _ _ (v2 _ _ jD)),v14⟩
   ·exact ⟨e4,_,_,_,rfl,rfl,so jD,rfl,[("":Str)],e2,none,0,rfl,by decide,by decide,fun row hm=>by rw [mem_singleton.mp hm];exact r0,v4 _ _ (v3 _ _ jD),v14⟩
   ·refine ⟨e4,_,_,_,rfl,rfl,so jD,rfl,[("night":Str),("":Str),("night":Str)],e3,none,0,rfl,by decide,by decide,fun row hm=>?_,v4 _ _ jD,v14⟩;simp only [mem_cons,mem_nil_iff,or_false] at hm
    rcases hm with rfl|rfl|rfl
    ·exact r1
    ·exact r0
    ·exact r1
  ·have m0:=Int.emod_nonneg (ns.getD 1 0) (by decide:(3:Int)≠0);have m1:=Int.emod_lt_of_pos (ns.getD 1 0) (by decide:(0:Int)<3);obtain ⟨ms,hms,hm3⟩:=KU ns m0 m1;refine ⟨_,rfl,_,rfl,_,rfl,a,ns,1,rfl,s15.seq hS,_,_,rfl,rfl,(by show (0:Int)<3;decide),_,_,rfl,rfl,_,rfl,a,_,rfl,s15.seq hS,fun sc hsc0=>?_⟩;rw [hms];have v1:=jK hsc0 (.lst (ms.map V.int));have hsc:upd H5 sc (.lst (ms.map V.int)) sc=some (.lst (ms.map V.int)):=jD;have hrw6:=v1 _ _ hrw5;generalize upd H5 sc (.lst (ms.map V.int))=H6 at v1 hsc hrw6 ⊢;refine ⟨sc,rfl,⟨_,so hsc⟩,dW (K:=K) (a:=sc) (xs:=ms.map V.int) (fun i σ Hi=>∃(rows:List Str) (rw:Addr) (c6:Option V),σ=[some (.ref a),some (.ref nl),some (.ref gl),some (.ref pl),some (.ref gd),some (.ref rw),c6]∧rows≠[]∧rows.length≤its.length+9*i∧(∀row∈rows,RowOk i row)∧Hi rw=some (.lst (rows.map V.str))∧Same H6 Hi) ⟨_,rw,none,rfl,?_,by rw [length_map];omega,prow,hrw6,Same.refl _⟩ (fun i σ Hi _ ⟨_,_,_,_,_,_,_,_,s⟩=>so (s _ _ hsc)) ?_ ?_⟩
   ·intro z;have:=map_eq_nil_iff.mp z;rw [this] at hits;have h0:([]:List PIt).length=0:=rfl;omega
   ·rintro i v σ Hi hv ⟨rows,rw,c6,rfl,hne,hl,hro,hrw,sm⟩;obtain ⟨z,rfl,hz⟩:=uZ hv;have hi3:i<3:=by have:=(List.getElem?_eq_some_iff.mp hz).1;omega
    have s1i:=(s35.trans v1).trans sm;refine ⟨_,rfl,_,rfl,_,_,rfl,rfl,⟨by decide,by decide,by decide⟩,_,_,rfl,rfl,(show (0:Int)<10 ^ Int.toNat 40 from by decide +kernel),_,rfl,_,rfl,rw,nl,gl,_,i,rows,rfl,hrw,hne,by omega,hro,by omega,NmAt.of (s1i _ _ hnl3) nok.rlen nok.rlet,NmAt.of (s1i _ _ (s3 _ _ hgl)) nok.glen nok.glet,fun rows' p H7 h1 h2 h3 h4 h5=>?_⟩;exact ⟨rows',p,_,rfl,h1,by omega,h3,h5,sm.trans h4⟩
   ·rintro σ Hi ⟨rows,rw,c6,rfl,hne,hl,hro,hrw,sm⟩;rw [length_map] at hl hro;exact ⟨rows,rw,c6,_,rfl,by omega,hm3,hro,hrw,v1.trans sm⟩
 rintro σ' H6 ⟨rows,rw2,c6,t,rfl,hr80,ht3,hro,hrw6,s6⟩;cases hJ:qT rows with
 |error k =>
  refine ⟨_,rfl,_,rfl,rw2,rows,rfl,hrw6,by omega,RowOk.fine ht3 hro,fun k' hk' H7 s7=>?_,fun S t' H7 hS _ _=>(by rw [hJ] at hS;cases hS)⟩;refine ⟨rw2,_,rows,t,rfl,s7 _ _ hrw6,hr80,ht3,hro,.inl ⟨k',rfl,hk'⟩,fun H8 s8=>⟨_,rfl,kR ?_⟩⟩;have sE:=((s35.trans s6).trans s7).trans s8;refine ⟨_,rfl,_,rfl,pl,us,its,rfl,sE _ _ hpl,hpa.same sE,by have:=ok.bounds;omega,fun ts hts q hq=>by rw [(z7 ok).1];exact (((z7 ok).2.2 ts hts).1.2 q hq).1,fun t₉ rl₉ ll₉ nl₉ rs₉ ls₉ ns₉ H₉ s₉ ht₉ hrl₉ hll₉ hnl₉ hR₉ hL₉ hN₉=>?_⟩;rw [← ptx.2] at hN₉;exact ⟨gd,_,its.map (yS (qH c0)),0,rfl,s₉ _ _ (s8 _ _ (s7 _ _ (s6 _ _ hgd5))),hgl22,by decide,prow,.inr ⟨t₉,_,rfl,ptx.1,rl₉,ll₉,nl₉,rs₉,ls₉,ns₉,ht₉,hrl₉,hll₉,hnl₉,hR₉,hL₉,hN₉.mono (NAt.less (by simp)),by simp,by simp,by simp⟩,fun H₀ _=>q _⟩
 |ok S =>
  refine ⟨_,rfl,_,rfl,rw2,rows,rfl,hrw6,by omega,RowOk.fine ht3 hro,fun k' hk' H7 s7=>(by rw [hJ] at hk';cases hk'),fun S' t' H7 hS s7 hdu=>?_⟩;refine ⟨rw2,_,rows,t,rfl,s7 _ _ hrw6,hr80,ht3,hro,.inr ⟨t',S',rfl,hS,hdu⟩,fun H8 s8=>⟨_,rfl,kR ?_⟩⟩;have sE:=((s35.trans s6).trans s7).trans s8;refine ⟨_,rfl,_,rfl,pl,us,its,rfl,sE _ _ hpl,hpa.same sE,by have:=ok.bounds;omega,fun ts hts q hq=>by rw [(z7 ok).1];exact (((z7 ok).2.2 ts hts).1.2 q hq).1,fun t₉ rl₉ ll₉ nl₉ rs₉ ls₉ ns₉ H₉ s₉ ht₉ hrl₉ hll₉ hnl₉ hR₉ hL₉ hN₉=>?_⟩;rw [← ptx.2] at hN₉;exact ⟨gd,_,its.map (yS (qH c0)),0,rfl,s₉ _ _ (s8 _ _ (s7 _ _ (s6 _ _ hgd5))),hgl22,by decide,prow,.inr ⟨t₉,_,rfl,ptx.1,rl₉,ll₉,nl₉,rs₉,ls₉,ns₉,ht₉,hrl₉,hll₉,hnl₉,hR₉,hL₉,hN₉.mono (NAt.less (by simp)),by simp,by simp,by simp⟩,fun H₀ _=>q _⟩
end
theorem all_mk {l:W.OpenLaw} {w:World} {K:W.Frag} {h:Heap} {mg:Str→Option Value} {fa f0 f1 f2 f3 f4 f5 f6 f7 f8 f9 f10 f11 f12 f13 f14 f15 f16 f17 f18 f19 f20 f21 f22 f23 f24 f25 f26 f27 f28 f29 f30 f31 f32 f33 f34 f35 f36 f37 f38 f39 f40 f41 f42 f43 f44 f45 f46 f47 f48 f49 f50 f51 f52 f53 f54 f55 f56 f57 f58:Addr} {cP cB cU:Addr} {cR:Addr} {cN:Addr} {dn0:Nat} {eC eB eT eU eN eM eS:Addr} {cd_eB:ClassData} {cd_eT:ClassData} {cd_eU:ClassData} {cd_eN:ClassData} {cd_eM:ClassData} {tkS:Tok} {dD:Tok} {dC:Tok} {dI:Tok} {dH:Tok} {dF:Tok} {dG:Tok} {dE:Tok} (X:K.In h) (G:h.Ns mainGlobals mg) (hfa:mg "law"=some (.ref fa))
 {od0 an0 od1 an1 od2 an2 od3 an3 od4 an4 od5 an5 od6 an6 od7 an7 od8 an8 od9 an9 od10 an10 od11 an11 od12 an12 od13 an13 od14 an14 od15 an15 od16 an16 od17 an17 od18 an18 od19 an19 od20 an20 od21 an21 od22 an22 od23 an23 od24 an24 od25 an25 od26 an26 od27 an27 od28 an28 od29 an29 od30 an30 od31 an31 od32 an32 od33 an33 od34 an34 od35 an35 od36 an36 od37 an37 od38 an38 od39 an39 od40 an40 od41 an41 od42 an42 od43 an43 od44 an44 od45 an45 od46 an46 od47 an47 od48 an48 od49 an49 od50 an50 od51 an51 od52 an52 od53 an53 od54 an54 od55 an55 od56 an56 od57 an57 od58 an58:Option Addr} {sl0 sl1 sl2 sl3 sl4 sl5 sl6 sl7 sl8 sl9 sl10 sl11 sl12 sl13 sl14 sl15 sl16 sl17 sl18 sl19 sl20 sl21 sl22 sl23 sl24 sl25 sl26 sl27 sl28 sl29 sl30 sl31 sl32 sl33 sl34 sl35 sl36 sl37 sl38 sl39 sl40 sl41 sl42 sl43 sl44 sl45 sl46 sl47 sl48 sl49 sl50 sl51 sl52 sl53 sl54 sl55 sl56 sl57 sl58:Array (Option Value)} {oc0 kV0 dc0 pm0 cd0 ct0 oc1 kV1 dc1 pm1 cd1 ct1 oc2 kV2 dc2 pm2 cd2 ct2 oc3 kV3 dc3 pm3 cd3 ct3 oc4 kV4 dc4 pm4 cd4 ct4 oc5 kV5 dc5 pm5 cd5 ct5 oc6 kV6 dc6 pm6 cd6 ct6 oc7 kV7 dc7 pm7 cd7 ct7 oc8 kV8 dc8 pm8 cd8 ct8 oc9 kV9 dc9 pm9 cd9 ct9 oc10 kV10 dc10 pm10 cd10 ct10 oc11 kV11 dc11 pm11 cd11 ct11 oc12 kV12 dc12 pm12 cd12 ct12 oc13 kV13 dc13 pm13 cd13 ct13 oc14 kV14 dc14 pm14 cd14 ct14 oc15 kV15 dc15 pm15 cd15 ct15 oc16 kV16 dc16 pm16 cd16 ct16 oc17 kV17 dc17 pm17 cd17 ct17 oc18 kV18 dc18 pm18 cd18 ct18 oc19 kV19 dc19 pm19 cd19 ct19 oc20 kV20 dc20 pm20 cd20 ct20 oc21 kV21 dc21 pm21 cd21 ct21 oc22 kV22 dc22 pm22 cd22 ct22 oc23 kV23 dc23 pm23 cd23 ct23 oc24 kV24 dc24 pm24 cd24 ct24 oc25 kV25 dc25 pm25 cd25 ct25 oc26 kV26 dc26 pm26 cd26 ct26 oc27 kV27 dc27 pm27 cd27 ct27 oc28 kV28 dc28 pm28 cd28 ct28 oc29 kV29 dc29 pm29 cd29 ct29 oc30 kV30 dc30 pm30 cd30 ct30 oc31 kV31 dc31 pm31 cd31 ct31 oc32 kV32 dc32 pm32 cd32 ct32 oc33 kV33 dc33 pm33 cd33 ct33 oc34 kV34 dc34 pm34 cd34 ct34 oc35 kV35 dc35 pm35 cd35 ct35 oc36 kV36 dc36 pm36 cd36 ct36 oc37 kV37 dc37 pm37 cd37 ct37 oc38 kV38 dc38 pm38 cd38 ct38 oc39 kV39 dc39 pm39 cd39 ct39 oc40 kV40 dc40 pm40 cd40 ct40 oc41 kV41 dc41 pm41 cd41 ct41 oc42 kV42 dc42 pm42 cd42 ct42 oc43 kV43 dc43 pm43 cd43 ct43 oc44 kV44 dc44 pm44 cd44 ct44 oc45 kV45 dc45 pm45 cd45 ct45 oc46 kV46 dc46 pm46 cd46 ct46 oc47 kV47 dc47 pm47 cd47 ct47 oc48 kV48 dc48 pm48 cd48 ct48 oc49 kV49 dc49 pm49 cd49 ct49 oc50 kV50 dc50 pm50 cd50 ct50 oc51 kV51 dc51 pm51 cd51 ct51 oc52 kV52 dc52 pm52 cd52 ct52 oc53 kV53 dc53 pm53 cd53 ct53 oc54 kV54 dc54 pm54 cd54 ct54 oc55 kV55 dc55 pm55 cd55 ct55 oc56 kV56 dc56 pm56 cd56 ct56 oc57 kV57 dc57 pm57 cd57 ct57 oc58 kV58 dc58 pm58 cd58 ct58:Value}
 {T10:Addr} {oT10:Obj}
  (aC_P:W.nsIn K mainGlobals "PlainLock"=some (some (.ref cP)))
  (aC_B:W.nsIn K mainGlobals "BasinLock"=some (some (.ref cB)))
  (aC_U:W.nsIn K mainGlobals "PumpLock"=some (some (.ref cU)))
  (aC_R:W.nsIn K mainGlobals "Reach"=some (some (.ref cR)))
  (aC_N:W.nsIn K mainGlobals "Canal"=some (some (.ref cN)))
  (aX_CanalError:W.nsIn K mainGlobals "CanalError"=some (some (.ref eC)))
  (aX_BadRow:W.nsIn K mainGlobals "BadRow"=some (some (.ref eB)))
  (aX_Twice:W.nsIn K mainGlobals "Twice"=some (some (.ref eT)))
  (aX_Unknown:W.nsIn K mainGlobals "Unknown"=some (some (.ref eU)))
  (aX_BadNumber:W.nsIn K mainGlobals "BadNumber"=some (some (.ref eN)))
  (aX_TooMany:W.nsIn K mainGlobals "TooMany"=some (some (.ref eM)))
  (aX_Short:W.nsIn K mainGlobals "Short"=some (some (.ref eS)))
  (a0:W.findIn K (.ref cP) "__init__"=some (some (.ref f0)))
  (i0:W.isFn K (.ref f0)=true)
  (ac0:W.findCls K (.ref cP) (.type "type") "__init__"=some (.val (.ref f0)))
  (l0:K.lookup f0=some ⟨oc0,od0,.func (W.fnOf "__init__" "PlainLock.__init__" (j7 bB) (j3 bB) (jI bB) .none kV0 dc0 pm0 an0 cd0 ct0),sl0⟩)
  (c0:W.codeIn K cd0 "PlainLock.__init__"=true)
  (k0:W.keepIn K (.ref f0)=true)
  (a1:W.findIn K (.ref cB) "__init__"=some (some (.ref f1)))
  (i1:W.isFn K (.ref f1)=true)
  (l1:K.lookup f1=some ⟨oc1,od1,.func (W.fnOf "__init__" "BasinLock.__init__" (j7 Z8) (j3 Z8) (jI Z8) .none kV1 dc1 pm1 an1 cd1 ct1),sl1⟩)
  (c1:W.codeIn K cd1 "BasinLock.__init__"=true)
  (k1:W.keepIn K (.ref f1)=true)
  (a2:W.findIn K (.ref cU) "__init__"=some (some (.ref f2)))
  (i2:W.isFn K (.ref f2)=true)
  (l2:K.lookup f2=some ⟨oc2,od2,.func (W.fnOf "__init__" "PumpLock.__init__" (j7 bE) (j3 bE) (jI bE) .none kV2 dc2 pm2 an2 cd2 ct2),sl2⟩)
  (c2:W.codeIn K cd2 "PumpLock.__init__"=true)
  (k2:W.keepIn K (.ref f2)=true)
  (a3:W.findIn K (.ref cR) "__init__"=some (some (.ref f3)))
  (i3:W.isFn K (.ref f3)=true)
  (l3:K.lookup f3=some ⟨oc3,od3,.func (W.fnOf "__init__" "Reach.__init__" (j7 bH) (j3 bH) (jI bH) .none kV3 dc3 pm3 an3 cd3 ct3),sl3⟩)
  (c3:W.codeIn K cd3 "Reach.__init__"=true)
  (k3:W.keepIn K (.ref f3)=true)
  (a4:W.findIn K (.ref cP) "kind"=some (some (.ref f4)))
  (i4:W.isFn K (.ref f4)=true)
  (l4:K.lookup f4=some ⟨oc4,od4,.func (W.fnOf "kind" "PlainLock.kind" (j7 bD) (j3 bD) (jI bD) .none kV4 dc4 pm4 an4 cd4 ct4),sl4⟩)
  (c4:W.codeIn K cd4 "PlainLock.kind"=true)
  (k4:W.keepIn K (.ref f4)=true)
  (a5:W.findIn K (.ref cB) "kind"=some (some (.ref f5)))
  (i5:W.isFn K (.ref f5)=true)
  (l5:K.lookup f5=some ⟨oc5,od5,.func (W.fnOf "kind" "BasinLock.kind" (j7 bA) (j3 bA) (jI bA) .none kV5 dc5 pm5 an5 cd5 ct5),sl5⟩)
  (c5:W.codeIn K cd5 "BasinLock.kind"=true)
  (k5:W.keepIn K (.ref f5)=true)
  (a6:W.findIn K (.ref cU) "kind"=some (some (.ref f6)))
  (i6:W.isFn K (.ref f6)=true)
  (l6:K.lookup f6=some ⟨oc6,od6,.func (W.fnOf "kind" "PumpLock.kind" (j7 bG) (j3 bG) (jI bG) .none kV6 dc6 pm6 an6 cd6 ct6),sl6⟩)
  (c6:W.codeIn K cd6 "PumpLock.kind"=true)
  (k6:W.keepIn K (.ref f6)=true)
  (a7:W.findIn K (.ref cP) "extra"=some (some (.ref f7)))
  (i7:W.isFn K (.ref f7)=true)
  (l7:K.lookup f7=some ⟨oc7,od7,.func (W.fnOf "extra" "PlainLock.extra" (j7 bC) (j3 bC) (jI bC) .none kV7 dc7 pm7 an7 cd7 ct7),sl7⟩)
  (c7:W.codeIn K cd7 "PlainLock.extra"=true)
  (k7:W.keepIn K (.ref f7)=true)
  (a8:W.findIn K (.ref cB) "extra"=some (some (.ref f8)))
  (i8:W.isFn K (.ref f8)=true)
  (l8:K.lookup f8=some ⟨oc8,od8,.func (W.fnOf "extra" "BasinLock.extra" (j7 Z9) (j3 Z9) (jI Z9) .none kV8 dc8 pm8 an8 cd8 ct8),sl8⟩)
  (c8:W.codeIn K cd8 "BasinLock.extra"=true)
  (k8:W.keepIn K (.ref f8)=true)
  (a9:W.findIn K (.ref cU) "extra"=some (some (.ref f9)))
  (i9:W.isFn K (.ref f9)=true)
  (l9:K.lookup f9=some ⟨oc9,od9,.func (W.fnOf "extra" "PumpLock.extra" (j7 bF) (j3 bF) (jI bF) .none kV9 dc9 pm9 an9 cd9 ct9),sl9⟩)
  (c9:W.codeIn K cd9 "PumpLock.extra"=true)
  (k9:W.keepIn K (.ref f9)=true)
  (a10:W.findIn K (.ref cN) "__init__"=some (some (.ref f10)))
  (i10:W.isFn K (.ref f10)=true)
  (l10:K.lookup f10=some ⟨oc10,od10,.func (W.fnOf "__init__" "Canal.__init__" (j7 Q9) (j3 Q9) (jI Q9) (.ref T10) kV10 dc10 pm10 an10 cd10 ct10),sl10⟩)
  (c10:W.codeIn K cd10 "Canal.__init__"=true)
  (k10:W.keepIn K (.ref f10)=true)
  (lT10:K.lookup T10=some oT10)
  (dT10:oT10.data=.seq ([.none]:List Value).toArray dn0)
  (a11:W.nsIn K mainGlobals "place_called"=some (some (.ref f11)))
  (l11:K.lookup f11=some ⟨oc11,od11,.func (W.fnOf "place_called" "place_called" (j7 cO) (j3 cO) (jI cO) .none kV11 dc11 pm11 an11 cd11 ct11),sl11⟩)
  (c11:W.codeIn K cd11 "place_called"=true)
  (k11:W.keepIn K (.ref f11)=true)
  (a12:W.nsIn K mainGlobals "written_with"=some (some (.ref f12)))
  (l12:K.lookup f12=some ⟨oc12,od12,.func (W.fnOf "written_with" "written_with" (j7 ZL) (j3 ZL) (jI ZL) .none kV12 dc12 pm12 an12 cd12 ct12),sl12⟩)
  (c12:W.codeIn K cd12 "written_with"=true)
  (k12:W.keepIn K (.ref f12)=true)
  (a13:W.nsIn K mainGlobals "is_name"=some (some (.ref f13)))
  (l13:K.lookup f13=some ⟨oc13,od13,.func (W.fnOf "is_name" "is_name" (j7 cI) (j3 cI) (jI cI) .none kV13 dc13 pm13 an13 cd13 ct13),sl13⟩)
  (c13:W.codeIn K cd13 "is_name"=true)
  (k13:W.keepIn K (.ref f13)=true)
  (a14:W.nsIn K mainGlobals "is_number"=some (some (.ref f14)))
  (l14:K.lookup f14=some ⟨oc14,od14,.func (W.fnOf "is_number" "is_number" (j7 cJ) (j3 cJ) (jI cJ) .none kV14 dc14 pm14 an14 cd14 ct14),sl14⟩)
  (c14:W.codeIn K cd14 "is_number"=true)
  (k14:W.keepIn K (.ref f14)=true)
  (a15:W.nsIn K mainGlobals "number_of"=some (some (.ref f15)))
  (l15:K.lookup f15=some ⟨oc15,od15,.func (W.fnOf "number_of" "number_of" (j7 cM) (j3 cM) (jI cM) .none kV15 dc15 pm15 an15 cd15 ct15),sl15⟩)
  (c15:W.codeIn K cd15 "number_of"=true)
  (k15:W.keepIn K (.ref f15)=true)
  (a16:W.nsIn K mainGlobals "numbers_of"=some (some (.ref f16)))
  (l16:K.lookup f16=some ⟨oc16,od16,.func (W.fnOf "numbers_of" "numbers_of" (j7 ZH) (j3 ZH) (jI ZH) .none kV16 dc16 pm16 an16 cd16 ct16),sl16⟩)
  (c16:W.codeIn K cd16 "numbers_of"=true)
  (k16:W.keepIn K (.ref f16)=true)
  (a17:W.nsIn K mainGlobals "refuse_no_names"=some (some (.ref f17)))
  (l17:K.lookup f17=some ⟨oc17,od17,.func (W.fnOf "refuse_no_names" "refuse_no_names" (j7 ZI) (j3 ZI) (jI ZI) .none kV17 dc17 pm17 an17 cd17 ct17),sl17⟩)
  (c17:W.codeIn K cd17 "refuse_no_names"=true)
  (k17:W.keepIn K (.ref f17)=true)
  (a18:W.nsIn K mainGlobals "refuse_told"=some (some (.ref f18)))
  (l18:K.lookup f18=some ⟨oc18,od18,.func (W.fnOf "refuse_told" "refuse_told" (j7 ZJ) (j3 ZJ) (jI ZJ) .none kV18 dc18 pm18 an18 cd18 ct18),sl18⟩)
  (c18:W.codeIn K cd18 "refuse_told"=true)
  (k18:W.keepIn K (.ref f18)=true)
  (a19:W.nsIn K mainGlobals "refuse_bad_reach"=some (some (.ref f19)))
  (l19:K.lookup f19=some ⟨oc19,od19,.func (W.fnOf "refuse_bad_reach" "refuse_bad_reach" (j7 cV) (j3 cV) (jI cV) .none kV19 dc19 pm19 an19 cd19 ct19),sl19⟩)
  (c19:W.codeIn K cd19 "refuse_bad_reach"=true)
  (k19:W.keepIn K (.ref f19)=true)
  (a20:W.nsIn K mainGlobals "refuse_bad_lock"=some (some (.ref f20)))
  (l20:K.lookup f20=some ⟨oc20,od20,.func (W.fnOf "refuse_bad_lock" "refuse_bad_lock" (j7 cT) (j3 cT) (jI cT) .none kV20 dc20 pm20 an20 cd20 ct20),sl20⟩)
  (c20:W.codeIn K cd20 "refuse_bad_lock"=true)
  (k20:W.keepIn K (.ref f20)=true)
  (a21:W.nsIn K mainGlobals "refuse_many"=some (some (.ref f21)))
  (l21:K.lookup f21=some ⟨oc21,od21,.func (W.fnOf "refuse_many" "refuse_many" (j7 cW) (j3 cW) (jI cW) .none kV21 dc21 pm21 an21 cd21 ct21),sl21⟩)
  (c21:W.codeIn K cd21 "refuse_many"=true)
  (k21:W.keepIn K (.ref f21)=true)
  (a22:W.nsIn K mainGlobals "widened"=some (some (.ref f22)))
  (l22:K.lookup f22=some ⟨oc22,od22,.func (W.fnOf "widened" "widened" (j7 cX) (j3 cX) (jI cX) .none kV22 dc22 pm22 an22 cd22 ct22),sl22⟩)
  (c22:W.codeIn K cd22 "widened"=true)
  (k22:W.keepIn K (.ref f22)=true)
  (a23:W.nsIn K mainGlobals "lock_made"=some (some (.ref f23)))
  (l23:K.lookup f23=some ⟨oc23,od23,.func (W.fnOf "lock_made" "lock_made" (j7 cK) (j3 cK) (jI cK) .none kV23 dc23 pm23 an23 cd23 ct23),sl23⟩)
  (c23:W.codeIn K cd23 "lock_made"=true)
  (k23:W.keepIn K (.ref f23)=true)
  (a24:W.nsIn K mainGlobals "reach_read"=some (some (.ref f24)))
  (l24:K.lookup f24=some ⟨oc24,od24,.func (W.fnOf "reach_read" "reach_read" (j7 cQ) (j3 cQ) (jI cQ) .none kV24 dc24 pm24 an24 cd24 ct24),sl24⟩)
  (c24:W.codeIn K cd24 "reach_read"=true)
  (k24:W.keepIn K (.ref f24)=true)
  (a25:W.nsIn K mainGlobals "lock_read"=some (some (.ref f25)))
  (l25:K.lookup f25=some ⟨oc25,od25,.func (W.fnOf "lock_read" "lock_read" (j7 cL) (j3 cL) (jI cL) .none kV25 dc25 pm25 an25 cd25 ct25),sl25⟩)
  (c25:W.codeIn K cd25 "lock_read"=true)
  (k25:W.keepIn K (.ref f25)=true)
  (a26:W.nsIn K mainGlobals "night_read"=some (some (.ref f26)))
  (l26:K.lookup f26=some ⟨oc26,od26,.func (W.fnOf "night_read" "night_read" (j7 ZG) (j3 ZG) (jI ZG) .none kV26 dc26 pm26 an26 cd26 ct26),sl26⟩)
  (c26:W.codeIn K cd26 "night_read"=true)
  (k26:W.keepIn K (.ref f26)=true)
  (a27:W.nsIn K mainGlobals "read_row"=some (some (.ref f27)))
  (l27:K.lookup f27=some ⟨oc27,od27,.func (W.fnOf "read_row" "read_row" (j7 cS) (j3 cS) (jI cS) .none kV27 dc27 pm27 an27 cd27 ct27),sl27⟩)
  (c27:W.codeIn K cd27 "read_row"=true)
  (k27:W.keepIn K (.ref f27)=true)
  (a28:W.nsIn K mainGlobals "rows_of"=some (some (.ref f28)))
  (l28:K.lookup f28=some ⟨oc28,od28,.func (W.fnOf "rows_of" "rows_of" (j7 ZK) (j3 ZK) (jI ZK) .none kV28 dc28 pm28 an28 cd28 ct28),sl28⟩)
  (c28:W.codeIn K cd28 "rows_of"=true)
  (k28:W.keepIn K (.ref f28)=true)
  (a29:W.nsIn K mainGlobals "canal_of"=some (some (.ref f29)))
  (l29:K.lookup f29=some ⟨oc29,od29,.func (W.fnOf "canal_of" "canal_of" (j7 ZF) (j3 ZF) (jI ZF) .none kV29 dc29 pm29 an29 cd29 ct29),sl29⟩)
  (c29:W.codeIn K cd29 "canal_of"=true)
  (k29:W.keepIn K (.ref f29)=true)
  (a30:W.nsIn K mainGlobals "_law_cell_at"=some (some (.ref f30)))
  (l30:K.lookup f30=some ⟨oc30,od30,.func (W.fnOf "_law_cell_at" "_law_cell_at" (j7 bK) (j3 bK) (jI bK) .none kV30 dc30 pm30 an30 cd30 ct30),sl30⟩)
  (c30:W.codeIn K cd30 "_law_cell_at"=true)
  (k30:W.keepIn K (.ref f30)=true)
  (a31:W.nsIn K mainGlobals "_law_whole"=some (some (.ref f31)))
  (l31:K.lookup f31=some ⟨oc31,od31,.func (W.fnOf "_law_whole" "_law_whole" (j7 cH) (j3 cH) (jI cH) .none kV31 dc31 pm31 an31 cd31 ct31),sl31⟩)
  (c31:W.codeIn K cd31 "_law_whole"=true)
  (k31:W.keepIn K (.ref f31)=true)
  (a32:W.nsIn K mainGlobals "_law_names"=some (some (.ref f32)))
  (l32:K.lookup f32=some ⟨oc32,od32,.func (W.fnOf "_law_names" "_law_names" (j7 bV) (j3 bV) (jI bV) .none kV32 dc32 pm32 an32 cd32 ct32),sl32⟩)
  (c32:W.codeIn K cd32 "_law_names"=true)
  (k32:W.keepIn K (.ref f32)=true)
  (a33:W.nsIn K mainGlobals "_law_reach_names"=some (some (.ref f33)))
  (l33:K.lookup f33=some ⟨oc33,od33,.func (W.fnOf "_law_reach_names" "_law_reach_names" (j7 ZD) (j3 ZD) (jI ZD) .none kV33 dc33 pm33 an33 cd33 ct33),sl33⟩)
  (c33:W.codeIn K cd33 "_law_reach_names"=true)
  (k33:W.keepIn K (.ref f33)=true)
  (a34:W.nsIn K mainGlobals "_law_gates"=some (some (.ref f34)))
  (l34:K.lookup f34=some ⟨oc34,od34,.func (W.fnOf "_law_gates" "_law_gates" (j7 bP) (j3 bP) (jI bP) .none kV34 dc34 pm34 an34 cd34 ct34),sl34⟩)
  (c34:W.codeIn K cd34 "_law_gates"=true)
  (k34:W.keepIn K (.ref f34)=true)
  (a35:W.nsIn K mainGlobals "_law_reach"=some (some (.ref f35)))
  (l35:K.lookup f35=some ⟨oc35,od35,.func (W.fnOf "_law_reach" "_law_reach" (j7 cD) (j3 cD) (jI cD) .none kV35 dc35 pm35 an35 cd35 ct35),sl35⟩)
  (c35:W.codeIn K cd35 "_law_reach"=true)
  (k35:W.keepIn K (.ref f35)=true)
  (a36:W.nsIn K mainGlobals "_law_lock"=some (some (.ref f36)))
  (l36:K.lookup f36=some ⟨oc36,od36,.func (W.fnOf "_law_lock" "_law_lock" (j7 bQ) (j3 bQ) (jI bQ) .none kV36 dc36 pm36 an36 cd36 ct36),sl36⟩)
  (c36:W.codeIn K cd36 "_law_lock"=true)
  (k36:W.keepIn K (.ref f36)=true)
  (a37:W.nsIn K mainGlobals "_law_night"=some (some (.ref f37)))
  (l37:K.lookup f37=some ⟨oc37,od37,.func (W.fnOf "_law_night" "_law_night" (j7 bY) (j3 bY) (jI bY) .none kV37 dc37 pm37 an37 cd37 ct37),sl37⟩)
  (c37:W.codeIn K cd37 "_law_night"=true)
  (k37:W.keepIn K (.ref f37)=true)
  (a38:W.nsIn K mainGlobals "_law_plan"=some (some (.ref f38)))
  (l38:K.lookup f38=some ⟨oc38,od38,.func (W.fnOf "_law_plan" "_law_plan" (j7 ZC) (j3 ZC) (jI ZC) .none kV38 dc38 pm38 an38 cd38 ct38),sl38⟩)
  (c38:W.codeIn K cd38 "_law_plan"=true)
  (k38:W.keepIn K (.ref f38)=true)
  (a39:W.nsIn K mainGlobals "_law_named"=some (some (.ref f39)))
  (l39:K.lookup f39=some ⟨oc39,od39,.func (W.fnOf "_law_named" "_law_named" (j7 bU) (j3 bU) (jI bU) .none kV39 dc39 pm39 an39 cd39 ct39),sl39⟩)
  (c39:W.codeIn K cd39 "_law_named"=true)
  (k39:W.keepIn K (.ref f39)=true)
  (a40:W.nsIn K mainGlobals "_law_figures"=some (some (.ref f40)))
  (l40:K.lookup f40=some ⟨oc40,od40,.func (W.fnOf "_law_figures" "_law_figures" (j7 bM) (j3 bM) (jI bM) .none kV40 dc40 pm40 an40 cd40 ct40),sl40⟩)
  (c40:W.codeIn K cd40 "_law_figures"=true)
  (k40:W.keepIn K (.ref f40)=true)
  (a41:W.nsIn K mainGlobals "_law_shaped"=some (some (.ref f41)))
  (l41:K.lookup f41=some ⟨oc41,od41,.func (W.fnOf "_law_shaped" "_law_shaped" (j7 cF) (j3 cF) (jI cF) .none kV41 dc41 pm41 an41 cd41 ct41),sl41⟩)
  (c41:W.codeIn K cd41 "_law_shaped"=true)
  (k41:W.keepIn K (.ref f41)=true)
  (a42:W.nsIn K mainGlobals "_law_formed"=some (some (.ref f42)))
  (l42:K.lookup f42=some ⟨oc42,od42,.func (W.fnOf "_law_formed" "_law_formed" (j7 bO) (j3 bO) (jI bO) .none kV42 dc42 pm42 an42 cd42 ct42),sl42⟩)
  (c42:W.codeIn K cd42 "_law_formed"=true)
  (k42:W.keepIn K (.ref f42)=true)
  (a43:W.nsIn K mainGlobals "_law_sorts"=some (some (.ref f43)))
  (l43:K.lookup f43=some ⟨oc43,od43,.func (W.fnOf "_law_sorts" "_law_sorts" (j7 JL) (j3 JL) (jI JL) .none kV43 dc43 pm43 an43 cd43 ct43),sl43⟩)
  (c43:W.codeIn K cd43 "_law_sorts"=true)
  (k43:W.keepIn K (.ref f43)=true)
  (a44:W.nsIn K mainGlobals "_law_read"=some (some (.ref f44)))
  (l44:K.lookup f44=some ⟨oc44,od44,.func (W.fnOf "_law_read" "_law_read" (j7 QN) (j3 QN) (jI QN) .none kV44 dc44 pm44 an44 cd44 ct44),sl44⟩)
  (c44:W.codeIn K cd44 "_law_read"=true)
  (k44:W.keepIn K (.ref f44)=true)
  (a45:W.nsIn K mainGlobals "_law_due"=some (some (.ref f45)))
  (l45:K.lookup f45=some ⟨oc45,od45,.func (W.fnOf "_law_due" "_law_due" (j7 JY) (j3 JY) (jI JY) .none kV45 dc45 pm45 an45 cd45 ct45),sl45⟩)
  (c45:W.codeIn K cd45 "_law_due"=true)
  (k45:W.keepIn K (.ref f45)=true)
  (a46:W.nsIn K mainGlobals "_law_judged"=some (some (.ref f46)))
  (l46:K.lookup f46=some ⟨oc46,od46,.func (W.fnOf "_law_judged" "_law_judged" (j7 ZB) (j3 ZB) (jI ZB) .none kV46 dc46 pm46 an46 cd46 ct46),sl46⟩)
  (c46:W.codeIn K cd46 "_law_judged"=true)
  (k46:W.keepIn K (.ref f46)=true)
  (a47:W.nsIn K mainGlobals "_law_new_rows"=some (some (.ref f47)))
  (l47:K.lookup f47=some ⟨oc47,od47,.func (W.fnOf "_law_new_rows" "_law_new_rows" (j7 bW) (j3 bW) (jI bW) .none kV47 dc47 pm47 an47 cd47 ct47),sl47⟩)
  (c47:W.codeIn K cd47 "_law_new_rows"=true)
  (k47:W.keepIn K (.ref f47)=true)
  (a48:W.nsIn K mainGlobals "_law_new_word"=some (some (.ref f48)))
  (l48:K.lookup f48=some ⟨oc48,od48,.func (W.fnOf "_law_new_word" "_law_new_word" (j7 bX) (j3 bX) (jI bX) .none kV48 dc48 pm48 an48 cd48 ct48),sl48⟩)
  (c48:W.codeIn K cd48 "_law_new_word"=true)
  (k48:W.keepIn K (.ref f48)=true)
  (a49:W.nsIn K mainGlobals "_law_bad_row"=some (some (.ref f49)))
  (l49:K.lookup f49=some ⟨oc49,od49,.func (W.fnOf "_law_bad_row" "_law_bad_row" (j7 bI) (j3 bI) (jI bI) .none kV49 dc49 pm49 an49 cd49 ct49),sl49⟩)
  (c49:W.codeIn K cd49 "_law_bad_row"=true)
  (k49:W.keepIn K (.ref f49)=true)
  (a50:W.nsIn K mainGlobals "_law_spoiled"=some (some (.ref f50)))
  (l50:K.lookup f50=some ⟨oc50,od50,.func (W.fnOf "_law_spoiled" "_law_spoiled" (j7 cG) (j3 cG) (jI cG) .none kV50 dc50 pm50 an50 cd50 ct50),sl50⟩)
  (c50:W.codeIn K cd50 "_law_spoiled"=true)
  (k50:W.keepIn K (.ref f50)=true)
  (a51:W.nsIn K mainGlobals "_law_numbers"=some (some (.ref f51)))
  (l51:K.lookup f51=some ⟨oc51,od51,.func (W.fnOf "_law_numbers" "_law_numbers" (j7 cA) (j3 cA) (jI cA) .none kV51 dc51 pm51 an51 cd51 ct51),sl51⟩)
  (c51:W.codeIn K cd51 "_law_numbers"=true)
  (k51:W.keepIn K (.ref f51)=true)
  (a52:W.nsIn K mainGlobals "_law_reach_is"=some (some (.ref f52)))
  (l52:K.lookup f52=some ⟨oc52,od52,.func (W.fnOf "_law_reach_is" "_law_reach_is" (j7 cE) (j3 cE) (jI cE) .none kV52 dc52 pm52 an52 cd52 ct52),sl52⟩)
  (c52:W.codeIn K cd52 "_law_reach_is"=true)
  (k52:W.keepIn K (.ref f52)=true)
  (a53:W.nsIn K mainGlobals "_law_lock_is"=some (some (.ref f53)))
  (l53:K.lookup f53=some ⟨oc53,od53,.func (W.fnOf "_law_lock_is" "_law_lock_is" (j7 bT) (j3 bT) (jI bT) .none kV53 dc53 pm53 an53 cd53 ct53),sl53⟩)
  (c53:W.codeIn K cd53 "_law_lock_is"=true)
  (k53:W.keepIn K (.ref f53)=true)
  (a54:W.nsIn K mainGlobals "_law_night_is"=some (some (.ref f54)))
  (l54:K.lookup f54=some ⟨oc54,od54,.func (W.fnOf "_law_night_is" "_law_night_is" (j7 bZ) (j3 bZ) (jI bZ) .none kV54 dc54 pm54 an54 cd54 ct54),sl54⟩)
  (c54:W.codeIn K cd54 "_law_night_is"=true)
  (k54:W.keepIn K (.ref f54)=true)
  (a55:W.nsIn K mainGlobals "_law_canal_is"=some (some (.ref f55)))
  (l55:K.lookup f55=some ⟨oc55,od55,.func (W.fnOf "_law_canal_is" "_law_canal_is" (j7 bJ) (j3 bJ) (jI bJ) .none kV55 dc55 pm55 an55 cd55 ct55),sl55⟩)
  (c55:W.codeIn K cd55 "_law_canal_is"=true)
  (k55:W.keepIn K (.ref f55)=true)
  (a56:W.nsIn K mainGlobals "_law_row"=some (some (.ref f56)))
  (l56:K.lookup f56=some ⟨oc56,od56,.func (W.fnOf "_law_row" "_law_row" (j7 ZE) (j3 ZE) (jI ZE) .none kV56 dc56 pm56 an56 cd56 ct56),sl56⟩)
  (c56:W.codeIn K cd56 "_law_row"=true)
  (k56:W.keepIn K (.ref f56)=true)
  (a57:W.nsIn K mainGlobals "_law_holds"=some (some (.ref f57)))
  (l57:K.lookup f57=some ⟨oc57,od57,.func (W.fnOf "_law_holds" "_law_holds" (j7 ZA) (j3 ZA) (jI ZA) .none kV57 dc57 pm57 an57 cd57 ct57),sl57⟩)
  (c57:W.codeIn K cd57 "_law_holds"=true)
  (k57:W.keepIn K (.ref f57)=true)
  (a58:W.nsIn K mainGlobals "law"=some (some (.ref f58)))
  (l58:K.lookup f58=some ⟨oc58,od58,.func (W.fnOf "law" "law" (j7 JM) (j3 JM) (jI JM) .none kV58 dc58 pm58 an58 cd58 ct58),sl58⟩)
  (c58:W.codeIn K cd58 "law"=true)
  (k58:W.keepIn K (.ref f58)=true)
  (z_list:W.nsIn K mainGlobals "list"=some none)
  (z_enumerate:W.nsIn K mainGlobals "enumerate"=some none)
  (z_all:W.nsIn K mainGlobals "all"=some none)
  (z_len:W.nsIn K mainGlobals "len"=some none)
  (z_int:W.nsIn K mainGlobals "int"=some none)
  (z_zip:W.nsIn K mainGlobals "zip"=some none)
  (z_set:W.nsIn K mainGlobals "set"=some none)
  (z_isinstance:W.nsIn K mainGlobals "isinstance"=some none)
  (z_bool:W.nsIn K mainGlobals "bool"=some none)
  (z_range:W.nsIn K mainGlobals "range"=some none)
  (z_min:W.nsIn K mainGlobals "min"=some none)
  (z_max:W.nsIn K mainGlobals "max"=some none)
  (z_tuple:W.nsIn K mainGlobals "tuple"=some none)
  (z_str:W.nsIn K mainGlobals "str"=some none)
  (pg_P:W.plainGet K cP Str.empty=true)
  (hdd_P:W.hasDictIn K cP=true)
  (po_P:W.plainOver K cP=true)
  (sa_P:W.findIn K (.ref cP) "__setattr__"=some (some (.builtin "object.__setattr__")))
  (mk_P:W.makesIn K cP=true)
  (kc_P:W.keepIn K (.ref cP)=true)
  (n_name_P:W.findIn K (.ref cP) "name"=some none)
  (n_high_P:W.findIn K (.ref cP) "high"=some none)
  (n_low_P:W.findIn K (.ref cP) "low"=some none)
  (n_room_P:W.findIn K (.ref cP) "room"=some none)
  (pg_B:W.plainGet K cB Str.empty=true)
  (hdd_B:W.hasDictIn K cB=true)
  (po_B:W.plainOver K cB=true)
  (sa_B:W.findIn K (.ref cB) "__setattr__"=some (some (.builtin "object.__setattr__")))
  (mk_B:W.makesIn K cB=true)
  (kc_B:W.keepIn K (.ref cB)=true)
  (n_name_B:W.findIn K (.ref cB) "name"=some none)
  (n_high_B:W.findIn K (.ref cB) "high"=some none)
  (n_low_B:W.findIn K (.ref cB) "low"=some none)
  (n_room_B:W.findIn K (.ref cB) "room"=some none)
  (n_side_B:W.findIn K (.ref cB) "side"=some none)
  (pg_U:W.plainGet K cU Str.empty=true)
  (hdd_U:W.hasDictIn K cU=true)
  (po_U:W.plainOver K cU=true)
  (sa_U:W.findIn K (.ref cU) "__setattr__"=some (some (.builtin "object.__setattr__")))
  (mk_U:W.makesIn K cU=true)
  (kc_U:W.keepIn K (.ref cU)=true)
  (n_name_U:W.findIn K (.ref cU) "name"=some none)
  (n_high_U:W.findIn K (.ref cU) "high"=some none)
  (n_low_U:W.findIn K (.ref cU) "low"=some none)
  (n_room_U:W.findIn K (.ref cU) "room"=some none)
  (n_lift_U:W.findIn K (.ref cU) "lift"=some none)
  (g1:W.specialIn K (.ref cP) "__getattribute__"=some (some (.builtin "type.__getattribute__")))
  (g2:W.readsIn K cP (.type "type")=true)
  (pg_R:W.plainGet K cR Str.empty=true)
  (hdd_R:W.hasDictIn K cR=true)
  (po_R:W.plainOver K cR=true)
  (sa_R:W.findIn K (.ref cR) "__setattr__"=some (some (.builtin "object.__setattr__")))
  (mk_R:W.makesIn K cR=true)
  (kc_R:W.keepIn K (.ref cR)=true)
  (nR_name:W.findIn K (.ref cR) "name"=some none)
  (nR_least:W.findIn K (.ref cR) "least"=some none)
  (nR_crest:W.findIn K (.ref cR) "crest"=some none)
  (nR_berths:W.findIn K (.ref cR) "berths"=some none)
  (nR_water:W.findIn K (.ref cR) "water"=some none)
  (nR_target:W.findIn K (.ref cR) "target"=some none)
  (pg_N:W.plainGet K cN Str.empty=true)
  (hdd_N:W.hasDictIn K cN=true)
  (po_N:W.plainOver K cN=true)
  (sa_N:W.findIn K (.ref cN) "__setattr__"=some (some (.builtin "object.__setattr__")))
  (mk_N:W.makesIn K cN=true)
  (kc_N:W.keepIn K (.ref cN)=true)
  (nN_reaches:W.findIn K (.ref cN) "reaches"=some none)
  (nN_locks:W.findIn K (.ref cN) "locks"=some none)
  (nN_nights:W.findIn K (.ref cN) "nights"=some none)
  (xX_BadRow:W.excIn K eB [.type "ValueError",.type "Exception",.type "BaseException",.type "object"] "ValueError.__new__"=true)
  (xX_Twice:W.excIn K eT [.type "ValueError",.type "Exception",.type "BaseException",.type "object"] "ValueError.__new__"=true)
  (xX_Unknown:W.excIn K eU [.type "ValueError",.type "Exception",.type "BaseException",.type "object"] "ValueError.__new__"=true)
  (xX_BadNumber:W.excIn K eN [.type "ValueError",.type "Exception",.type "BaseException",.type "object"] "ValueError.__new__"=true)
  (xX_TooMany:W.excIn K eM [.type "ValueError",.type "Exception",.type "BaseException",.type "object"] "ValueError.__new__"=true)
  (eg_eB:W.findIn K (.ref eB) "__getattribute__"=some (some (.builtin "BaseException.__getattribute__")))
  (en_eB:W.findIn K (.ref eB) "__getattr__"=some none)
  (ec_eB:W.findIn K (.ref eB) "__class__"=some (some (.builtin "object.__class__")))
  (eo_eB:W.mroIn K eB (.type "object")=some true)
  (eb_eB:W.subIn K (.ref eB) (.type "BaseException")=some true)
  (cX_eB:W.clsIn K eB=some cd_eB)
  (exmX_eB:W.exmOne K (.ref eB) (.ref eC)=some true)
  (kX_eB_0:W.kitOne K (.ref eB) (.ref eB)=some true)
  (kX_eB_1:W.kitOne K (.ref eB) (.ref eT)=some false)
  (kX_eB_2:W.kitOne K (.ref eB) (.ref eU)=some false)
  (kX_eB_3:W.kitOne K (.ref eB) (.ref eN)=some false)
  (kX_eB_4:W.kitOne K (.ref eB) (.ref eM)=some false)
  (kX_eB_5:W.kitOne K (.ref eB) (.ref eS)=some false)
  (eg_eT:W.findIn K (.ref eT) "__getattribute__"=some (some (.builtin "BaseException.__getattribute__")))
  (en_eT:W.findIn K (.ref eT) "__getattr__"=some none)
  (ec_eT:W.findIn K (.ref eT) "__class__"=some (some (.builtin "object.__class__")))
  (eo_eT:W.mroIn K eT (.type "object")=some true)
  (eb_eT:W.subIn K (.ref eT) (.type "BaseException")=some true)
  (cX_eT:W.clsIn K eT=some cd_eT)
  (exmX_eT:W.exmOne K (.ref eT) (.ref eC)=some true)
  (kX_eT_0:W.kitOne K (.ref eT) (.ref eB)=some false)
  (kX_eT_1:W.kitOne K (.ref eT) (.ref eT)=some true)
  (kX_eT_2:W.kitOne K (.ref eT) (.ref eU)=some false)
  (kX_eT_3:W.kitOne K (.ref eT) (.ref eN)=some false)
  (kX_eT_4:W.kitOne K (.ref eT) (.ref eM)=some false)
  (kX_eT_5:W.kitOne K (.ref eT) (.ref eS)=some false)
  (eg_eU:W.findIn K (.ref eU) "__getattribute__"=some (some (.builtin "BaseException.__getattribute__")))
  (en_eU:W.findIn K (.ref eU) "__getattr__"=some none)
  (ec_eU:W.findIn K (.ref eU) "__class__"=some (some (.builtin "object.__class__")))
  (eo_eU:W.mroIn K eU (.type "object")=some true)
  (eb_eU:W.subIn K (.ref eU) (.type "BaseException")=some true)
  (cX_eU:W.clsIn K eU=some cd_eU)
  (exmX_eU:W.exmOne K (.ref eU) (.ref eC)=some true)
  (kX_eU_0:W.kitOne K (.ref eU) (.ref eB)=some false)
  (kX_eU_1:W.kitOne K (.ref eU) (.ref eT)=some false)
  (kX_eU_2:W.kitOne K (.ref eU) (.ref eU)=some true)
  (kX_eU_3:W.kitOne K (.ref eU) (.ref eN)=some false)
  (kX_eU_4:W.kitOne K (.ref eU) (.ref eM)=some false)
  (kX_eU_5:W.kitOne K (.ref eU) (.ref eS)=some false)
  (eg_eN:W.findIn K (.ref eN) "__getattribute__"=some (some (.builtin "BaseException.__getattribute__")))
  (en_eN:W.findIn K (.ref eN) "__getattr__"=some none)
  (ec_eN:W.findIn K (.ref eN) "__class__"=some (some (.builtin "object.__class__")))
  (eo_eN:W.mroIn K eN (.type "object")=some true)
  (eb_eN:W.subIn K (.ref eN) (.type "BaseException")=some true)
  (cX_eN:W.clsIn K eN=some cd_eN)
  (exmX_eN:W.exmOne K (.ref eN) (.ref eC)=some true)
  (kX_eN_0:W.kitOne K (.ref eN) (.ref eB)=some false)
  (kX_eN_1:W.kitOne K (.ref eN) (.ref eT)=some false)
  (kX_eN_2:W.kitOne K (.ref eN) (.ref eU)=some false)
  (kX_eN_3:W.kitOne K (.ref eN) (.ref eN)=some true)
  (kX_eN_4:W.kitOne K (.ref eN) (.ref eM)=some false)
  (kX_eN_5:W.kitOne K (.ref eN) (.ref eS)=some false)
  (eg_eM:W.findIn K (.ref eM) "__getattribute__"=some (some (.builtin "BaseException.__getattribute__")))
  (en_eM:W.findIn K (.ref eM) "__getattr__"=some none)
  (ec_eM:W.findIn K (.ref eM) "__class__"=some (some (.builtin "object.__class__")))
  (eo_eM:W.mroIn K eM (.type "object")=some true)
  (eb_eM:W.subIn K (.ref eM) (.type "BaseException")=some true)
  (cX_eM:W.clsIn K eM=some cd_eM)
  (exmX_eM:W.exmOne K (.ref eM) (.ref eC)=some true)
  (kX_eM_0:W.kitOne K (.ref eM) (.ref eB)=some false)
  (kX_eM_1:W.kitOne K (.ref eM) (.ref eT)=some false)
  (kX_eM_2:W.kitOne K (.ref eM) (.ref eU)=some false)
  (kX_eM_3:W.kitOne K (.ref eM) (.ref eN)=some false)
  (kX_eM_4:W.kitOne K (.ref eM) (.ref eM)=some true)
  (kX_eM_5:W.kitOne K (.ref eM) (.ref eS)=some false)
  (ty2:W.specialIn K (.builtin "object.__class__") "__get__"=some (some (.builtin "getset_descriptor.__get__")))
  (ty3:W.takesIn K (.builtin "object.__class__")=some true)
  (ty1_R:W.findIn K (.ref cR) "__class__"=some (some (.builtin "object.__class__")))
  (ty4_R:W.mroIn K cR (.type "object")=some true)
  (ty1_N:W.findIn K (.ref cN) "__class__"=some (some (.builtin "object.__class__")))
  (ty4_N:W.mroIn K cN (.type "object")=some true)
  (ty1_P:W.findIn K (.ref cP) "__class__"=some (some (.builtin "object.__class__")))
  (ty4_P:W.mroIn K cP (.type "object")=some true)
  (ty1_B:W.findIn K (.ref cB) "__class__"=some (some (.builtin "object.__class__")))
  (ty4_B:W.mroIn K cB (.type "object")=some true)
  (ty1_U:W.findIn K (.ref cU) "__class__"=some (some (.builtin "object.__class__")))
  (ty4_U:W.mroIn K cU (.type "object")=some true)
  (kt_R:W.kitOne K (.ref cR) (.ref cR)=some true)
  (kt_N:W.kitOne K (.ref cN) (.ref cN)=some true)
  (kt_PP:W.kitOne K (.ref cP) (.ref cP)=some true)
  (kt_PB:W.kitOne K (.ref cP) (.ref cB)=some false)
  (kt_PU:W.kitOne K (.ref cP) (.ref cU)=some false)
  (kt_BP:W.kitOne K (.ref cB) (.ref cP)=some true)
  (kt_BB:W.kitOne K (.ref cB) (.ref cB)=some true)
  (kt_BU:W.kitOne K (.ref cB) (.ref cU)=some false)
  (kt_UP:W.kitOne K (.ref cU) (.ref cP)=some true)
  (kt_UB:W.kitOne K (.ref cU) (.ref cB)=some false)
  (kt_UU:W.kitOne K (.ref cU) (.ref cU)=some true)
  (gSEA:W.nsIn K mainGlobals "SEA"=some (some (.int (-1) tkS)))
  (gLETTERS:W.nsIn K mainGlobals "LETTERS"=some (some (.str lettersS dD)))
  (gFIGURES:W.nsIn K mainGlobals "FIGURES"=some (some (.str y8 dC)))
  (gMOST_SIGNS:W.nsIn K mainGlobals "MOST_SIGNS"=some (some (.int 12 dI)))
  (gMOST_REACHES:W.nsIn K mainGlobals "MOST_REACHES"=some (some (.int 8 dH)))
  (gMOST_LOCKS:W.nsIn K mainGlobals "MOST_LOCKS"=some (some (.int 8 dF)))
  (gMOST_NIGHTS:W.nsIn K mainGlobals "MOST_NIGHTS"=some (some (.int 6 dG)))
  (gMOST_BERTHS:W.nsIn K mainGlobals "MOST_BERTHS"=some (some (.int 9 dE))) :
  ∃fd:FuncData,(∀(s:Shared) (v:Value),BindsTo s fd ⟨[v],[]⟩ [("script",v)])∧∀base:Heap,K.In base→base.Ns mainGlobals mg→FnOk l.prog w K mg base kB 9 fa fd ["script"] (lO K):=by
 have e:=hfa.symm.trans (W.mg_of X G a58);cases e;have F0:=kH (st:=bB) l0 c0 k0;have b0:=F0.binds (ps:=["self","name","high","low","room"]) fun _ _ _ _ _ _ us hl=>match us,hl with|[_,_,_,_,_],_=>rfl
 have F1:=kH (st:=Z8) l1 c1 k1;have b1:=F1.binds (ps:=["self","name","high","low","room","side"]) fun _ _ _ _ _ _ us hl=>match us,hl with|[_,_,_,_,_,_],_=>rfl
 have F2:=kH (st:=bE) l2 c2 k2;have b2:=F2.binds (ps:=["self","name","high","low","room","lift"]) fun _ _ _ _ _ _ us hl=>match us,hl with|[_,_,_,_,_,_],_=>rfl
 have F3:=kH (st:=bH) l3 c3 k3;have b3:=F3.binds (ps:=["self","name","least","crest","berths","water","target"]) fun _ _ _ _ _ _ us hl=>match us,hl with|[_,_,_,_,_,_,_],_=>rfl
 have F4:=kH (st:=bD) l4 c4 k4;have b4:=F4.binds (ps:=["self"]) fun _ _ _ _ _ _ us hl=>match us,hl with|[_],_=>rfl
 have F5:=kH (st:=bA) l5 c5 k5;have b5:=F5.binds (ps:=["self"]) fun _ _ _ _ _ _ us hl=>match us,hl with|[_],_=>rfl
 have F6:=kH (st:=bG) l6 c6 k6;have b6:=F6.binds (ps:=["self"]) fun _ _ _ _ _ _ us hl=>match us,hl with|[_],_=>rfl
 have F7:=kH (st:=bC) l7 c7 k7;have b7:=F7.binds (ps:=["self"]) fun _ _ _ _ _ _ us hl=>match us,hl with|[_],_=>rfl
 have F8:=kH (st:=Z9) l8 c8 k8;have b8:=F8.binds (ps:=["self"]) fun _ _ _ _ _ _ us hl=>match us,hl with|[_],_=>rfl
 have F9:=kH (st:=bF) l9 c9 k9;have b9:=F9.binds (ps:=["self"]) fun _ _ _ _ _ _ us hl=>match us,hl with|[_],_=>rfl
 have F10:=L6 (st:=Q9) (ds:=[.none]) (n:=dn0) l10 c10 k10 lT10 (by first|exact dT10|rfl);have b10:Binds K _ ["self","reaches","locks","nights"] []:=F10.binds [] 4 rfl fun _ _ _ _ _ _ _ us hl=>match us,hl with|[_,_,_,_],_=>⟨_,rfl,rfl⟩
 have b10_1:Binds K _ ["self","reaches","locks","nights"] [.none]:=F10.binds [.none] 3 rfl fun _ _ _ _ _ _ _ us hl=>match us,hl with|[_,_,_],_=>⟨_,rfl,rfl⟩
 have F11:=kH (st:=cO) l11 c11 k11;have b11:=F11.binds (ps:=["name","things"]) fun _ _ _ _ _ _ us hl=>match us,hl with|[_,_],_=>rfl
 have F12:=kH (st:=ZL) l12 c12 k12;have b12:=F12.binds (ps:=["word","signs"]) fun _ _ _ _ _ _ us hl=>match us,hl with|[_,_],_=>rfl
 have F13:=kH (st:=cI) l13 c13 k13;have b13:=F13.binds (ps:=["word"]) fun _ _ _ _ _ _ us hl=>match us,hl with|[_],_=>rfl
 have F14:=kH (st:=cJ) l14 c14 k14;have b14:=F14.binds (ps:=["word"]) fun _ _ _ _ _ _ us hl=>match us,hl with|[_],_=>rfl
 have F15:=kH (st:=cM) l15 c15 k15;have b15:=F15.binds (ps:=["word"]) fun _ _ _ _ _ _ us hl=>match us,hl with|[_],_=>rfl
 have F16:=kH (st:=ZH) l16 c16 k16;have b16:=F16.binds (ps:=["words"]) fun _ _ _ _ _ _ us hl=>match us,hl with|[_],_=>rfl
 have F17:=kH (st:=ZI) l17 c17 k17;have b17:=F17.binds (ps:=["words"]) fun _ _ _ _ _ _ us hl=>match us,hl with|[_],_=>rfl
 have F18:=kH (st:=ZJ) l18 c18 k18;have b18:=F18.binds (ps:=["name","things"]) fun _ _ _ _ _ _ us hl=>match us,hl with|[_,_],_=>rfl
 have F19:=kH (st:=cV) l19 c19 k19;have b19:=F19.binds (ps:=["reach"]) fun _ _ _ _ _ _ us hl=>match us,hl with|[_],_=>rfl
 have F20:=kH (st:=cT) l20 c20 k20;have b20:=F20.binds (ps:=["lock"]) fun _ _ _ _ _ _ us hl=>match us,hl with|[_],_=>rfl
 have F21:=kH (st:=cW) l21 c21 k21;have b21:=F21.binds (ps:=["things","most"]) fun _ _ _ _ _ _ us hl=>match us,hl with|[_,_],_=>rfl
 have F22:=kH (st:=cX) l22 c22 k22;have b22:=F22.binds (ps:=["night","many"]) fun _ _ _ _ _ _ us hl=>match us,hl with|[_,_],_=>rfl
 have F23:=kH (st:=cK) l23 c23 k23;have b23:=F23.binds (ps:=["words","high","low","numbers"]) fun _ _ _ _ _ _ us hl=>match us,hl with|[_,_,_,_],_=>rfl
 have F24:=kH (st:=cQ) l24 c24 k24;have b24:=F24.binds (ps:=["words","reaches"]) fun _ _ _ _ _ _ us hl=>match us,hl with|[_,_],_=>rfl
 have F25:=kH (st:=cL) l25 c25 k25;have b25:=F25.binds (ps:=["words","reaches","locks"]) fun _ _ _ _ _ _ us hl=>match us,hl with|[_,_,_],_=>rfl
 have F26:=kH (st:=ZG) l26 c26 k26;have b26:=F26.binds (ps:=["words","reaches","nights"]) fun _ _ _ _ _ _ us hl=>match us,hl with|[_,_,_],_=>rfl
 have F27:=kH (st:=cS) l27 c27 k27;have b27:=F27.binds (ps:=["words","reaches","locks","nights"]) fun _ _ _ _ _ _ us hl=>match us,hl with|[_,_,_,_],_=>rfl
 have F28:=kH (st:=ZK) l28 c28 k28;have b28:=F28.binds (ps:=["text"]) fun _ _ _ _ _ _ us hl=>match us,hl with|[_],_=>rfl
 have F29:=kH (st:=ZF) l29 c29 k29;have b29:=F29.binds (ps:=["text"]) fun _ _ _ _ _ _ us hl=>match us,hl with|[_],_=>rfl
 have F30:=kH (st:=bK) l30 c30 k30;have b30:=F30.binds (ps:=["script","k"]) fun _ _ _ _ _ _ us hl=>match us,hl with|[_,_],_=>rfl
 have F31:=kH (st:=cH) l31 c31 k31;have b31:=F31.binds (ps:=["found"]) fun _ _ _ _ _ _ us hl=>match us,hl with|[_],_=>rfl
 have F32:=kH (st:=bV) l32 c32 k32;have b32:=F32.binds (ps:=["cell","many"]) fun _ _ _ _ _ _ us hl=>match us,hl with|[_,_],_=>rfl
 have F33:=kH (st:=ZD) l33 c33 k33;have b33:=F33.binds (ps:=["cell"]) fun _ _ _ _ _ _ us hl=>match us,hl with|[_],_=>rfl
 have F34:=kH (st:=bP) l34 c34 k34;have b34:=F34.binds (ps:=["cell","names"]) fun _ _ _ _ _ _ us hl=>match us,hl with|[_,_],_=>rfl
 have F35:=kH (st:=cD) l35 c35 k35;have b35:=F35.binds (ps:=["name","a","b","c","many"]) fun _ _ _ _ _ _ us hl=>match us,hl with|[_,_,_,_,_],_=>rfl
 have F36:=kH (st:=bQ) l36 c36 k36;have b36:=F36.binds (ps:=["name","a","b","c","many"]) fun _ _ _ _ _ _ us hl=>match us,hl with|[_,_,_,_,_],_=>rfl
 have F37:=kH (st:=bY) l37 c37 k37;have b37:=F37.binds (ps:=["a","b","c","many"]) fun _ _ _ _ _ _ us hl=>match us,hl with|[_,_,_,_],_=>rfl
 have F38:=kH (st:=ZC) l38 c38 k38;have b38:=F38.binds (ps:=["script","names","gates"]) fun _ _ _ _ _ _ us hl=>match us,hl with|[_,_,_],_=>rfl
 have F39:=kH (st:=bU) l39 c39 k39;have b39:=F39.binds (ps:=["word"]) fun _ _ _ _ _ _ us hl=>match us,hl with|[_],_=>rfl
 have F40:=kH (st:=bM) l40 c40 k40;have b40:=F40.binds (ps:=["word"]) fun _ _ _ _ _ _ us hl=>match us,hl with|[_],_=>rfl
 have F41:=kH (st:=cF) l41 c41 k41;have b41:=F41.binds (ps:=["words","shape"]) fun _ _ _ _ _ _ us hl=>match us,hl with|[_,_],_=>rfl
 have F42:=kH (st:=bO) l42 c42 k42;have b42:=F42.binds (ps:=["words"]) fun _ _ _ _ _ _ us hl=>match us,hl with|[_],_=>rfl
 have F43:=kH (st:=JL) l43 c43 k43;have b43:=F43.binds (ps:=["words","lists"]) fun _ _ _ _ _ _ us hl=>match us,hl with|[_,_],_=>rfl
 have F44:=kH (st:=QN) l44 c44 k44;have b44:=F44.binds (ps:=["words","lists"]) fun _ _ _ _ _ _ us hl=>match us,hl with|[_,_],_=>rfl
 have F45:=kH (st:=JY) l45 c45 k45;have b45:=F45.binds (ps:=["plan"]) fun _ _ _ _ _ _ us hl=>match us,hl with|[_],_=>rfl
 have F46:=kH (st:=ZB) l46 c46 k46;have b46:=F46.binds (ps:=["rows"]) fun _ _ _ _ _ _ us hl=>match us,hl with|[_],_=>rfl
 have F47:=kH (st:=bW) l47 c47 k47;have b47:=F47.binds (ps:=["way","names"]) fun _ _ _ _ _ _ us hl=>match us,hl with|[_,_],_=>rfl
 have F48:=kH (st:=bX) l48 c48 k48;have b48:=F48.binds (ps:=["cell","rows","place","names"]) fun _ _ _ _ _ _ us hl=>match us,hl with|[_,_,_,_],_=>rfl
 have F49:=kH (st:=bI) l49 c49 k49;have b49:=F49.binds (ps:=["cell","names","gates"]) fun _ _ _ _ _ _ us hl=>match us,hl with|[_,_,_],_=>rfl
 have F50:=kH (st:=cG) l50 c50 k50;have b50:=F50.binds (ps:=["rows","cell","names","gates"]) fun _ _ _ _ _ _ us hl=>match us,hl with|[_,_,_,_],_=>rfl
 have F51:=kH (st:=cA) l51 c51 k51;have b51:=F51.binds (ps:=["found","due"]) fun _ _ _ _ _ _ us hl=>match us,hl with|[_,_],_=>rfl
 have F52:=kH (st:=cE) l52 c52 k52;have b52:=F52.binds (ps:=["reach","due"]) fun _ _ _ _ _ _ us hl=>match us,hl with|[_,_],_=>rfl
 have F53:=kH (st:=bT) l53 c53 k53;have b53:=F53.binds (ps:=["lock","due"]) fun _ _ _ _ _ _ us hl=>match us,hl with|[_,_],_=>rfl
 have F54:=kH (st:=bZ) l54 c54 k54;have b54:=F54.binds (ps:=["night","due"]) fun _ _ _ _ _ _ us hl=>match us,hl with|[_,_],_=>rfl
 have F55:=kH (st:=bJ) l55 c55 k55;have b55:=F55.binds (ps:=["canal","due"]) fun _ _ _ _ _ _ us hl=>match us,hl with|[_,_],_=>rfl
 have F56:=kH (st:=ZE) l56 c56 k56;have b56:=F56.binds (ps:=["one","names"]) fun _ _ _ _ _ _ us hl=>match us,hl with|[_,_],_=>rfl
 have F57:=kH (st:=ZA) l57 c57 k57;have b57:=F57.binds (ps:=["rows","due"]) fun _ _ _ _ _ _ us hl=>match us,hl with|[_,_],_=>rfl
 have F58:=kH (st:=JM) l58 c58 k58;have b58:=F58.binds (ps:=["script"]) fun _ _ _ _ _ _ us hl=>match us,hl with|[_],_=>rfl
 have T:Txt K mg cP cB cU cR cN eC eB eT eU eN eM eS tkS dD dC dI dH dF dG dE:={z_list:=W.mg_none_of X G z_list,z_enumerate:=W.mg_none_of X G z_enumerate,z_all:=W.mg_none_of X G z_all,z_len:=W.mg_none_of X G z_len,z_int:=W.mg_none_of X G z_int,z_zip:=W.mg_none_of X G z_zip,z_set:=W.mg_none_of X G z_set,z_isinstance:=W.mg_none_of X G z_isinstance,z_bool:=W.mg_none_of X G z_bool,z_range:=W.mg_none_of X G z_range,z_min:=W.mg_none_of X G z_min,z_max:=W.mg_none_of X G z_max,z_tuple:=W.mg_none_of X G z_tuple,z_str:=W.mg_none_of X G z_str,cl:=fun kd=>match kd with|.plain=>⟨pg_P,hdd_P,po_P,sa_P⟩|.basin=>⟨pg_B,hdd_B,po_B,sa_B⟩|.pump=>⟨pg_U,hdd_U,po_U,sa_U⟩,n_name:=fun kd=>match kd with|.plain=>n_name_P|.basin=>n_name_B|.pump=>n_name_U,n_high:=fun kd=>match kd with|.plain=>n_high_P|.basin=>n_high_B|.pump=>n_high_U,n_low:=fun kd=>match kd with|.plain=>n_low_P|.basin=>n_low_B|.pump=>n_low_U,n_room:=fun kd=>match kd with|.plain=>n_room_P|.basin=>n_room_B|.pump=>n_room_U,n_side:=n_side_B,n_lift:=n_lift_U,c_PlainLock:=W.mg_of X G aC_P,c_BasinLock:=W.mg_of X G aC_B,c_PumpLock:=W.mg_of X G aC_U,clR:=⟨pg_R,hdd_R,po_R,sa_R⟩,nR_name:=nR_name,nR_least:=nR_least,nR_crest:=nR_crest,nR_berths:=nR_berths,nR_water:=nR_water,nR_target:=nR_target,c_Reach:=W.mg_of X G aC_R,clN:=⟨pg_N,hdd_N,po_N,sa_N⟩,nN_reaches:=nN_reaches,nN_locks:=nN_locks,nN_nights:=nN_nights,c_Canal:=W.mg_of X G aC_N,c_CanalError:=W.mg_of X G aX_CanalError,c_BadRow:=W.mg_of X G aX_BadRow,c_Twice:=W.mg_of X G aX_Twice,c_Unknown:=W.mg_of X G aX_Unknown,c_BadNumber:=W.mg_of X G aX_BadNumber,c_TooMany:=W.mg_of X G aX_TooMany,c_Short:=W.mg_of X G aX_Short,x_BadRow:=xX_BadRow,x_Twice:=xX_Twice,x_Unknown:=xX_Unknown,x_BadNumber:=xX_BadNumber,x_TooMany:=xX_TooMany,at_BadRow:=⟨eg_eB,en_eB,ec_eB,eo_eB,eb_eB⟩,cl_BadRow:=by rw [cX_eB];rfl,exm_BadRow:=exmX_eB,k_BadRow_BadRow:=kX_eB_0,k_BadRow_Twice:=kX_eB_1,k_BadRow_Unknown:=kX_eB_2,k_BadRow_BadNumber:=kX_eB_3,k_BadRow_TooMany:=kX_eB_4,k_BadRow_Short:=kX_eB_5,at_Twice:=⟨eg_eT,en_eT,ec_eT,eo_eT,eb_eT⟩,cl_Twice:=by rw [cX_eT];rfl,exm_Twice:=exmX_eT,k_Twice_BadRow:=kX_eT_0,k_Twice_Twice:=kX_eT_1,k_Twice_Unknown:=kX_eT_2,k_Twice_BadNumber:=kX_eT_3,k_Twice_TooMany:=kX_eT_4,k_Twice_Short:=kX_eT_5,at_Unknown:=⟨eg_eU,en_eU,ec_eU,eo_eU,eb_eU⟩,cl_Unknown:=by rw [cX_eU];rfl,exm_Unknown:=exmX_eU,k_Unknown_BadRow:=kX_eU_0,k_Unknown_Twice:=kX_eU_1,k_Unknown_Unknown:=kX_eU_2,k_Unknown_BadNumber:=kX_eU_3,k_Unknown_TooMany:=kX_eU_4,k_Unknown_Short:=kX_eU_5,at_BadNumber:=⟨eg_eN,en_eN,ec_eN,eo_eN,eb_eN⟩,cl_BadNumber:=by rw [cX_eN];rfl,exm_BadNumber:=exmX_eN,k_BadNumber_BadRow:=kX_eN_0,k_BadNumber_Twice:=kX_eN_1,k_BadNumber_Unknown:=kX_eN_2,k_BadNumber_BadNumber:=kX_eN_3,k_BadNumber_TooMany:=kX_eN_4,k_BadNumber_Short:=kX_eN_5,at_TooMany:=⟨eg_eM,en_eM,ec_eM,eo_eM,eb_eM⟩,cl_TooMany:=by rw [cX_eM];rfl,exm_TooMany:=exmX_eM,k_TooMany_BadRow:=kX_eM_0,k_TooMany_Twice:=kX_eM_1,k_TooMany_Unknown:=kX_eM_2,k_TooMany_BadNumber:=kX_eM_3,k_TooMany_TooMany:=kX_eM_4,k_TooMany_Short:=kX_eM_5,tyR:=fun H a dx fs e=>TyOf.ins e ⟨pg_R,hdd_R,po_R,sa_R⟩ ty1_R ty2 ty3 ty4_R,tyN:=fun H a dx fs e=>TyOf.ins e ⟨pg_N,hdd_N,po_N,sa_N⟩ ty1_N ty2 ty3 ty4_N,tyL:=fun kd=>match kd with|.plain=>fun H a dx fs e=>TyOf.ins e ⟨pg_P,hdd_P,po_P,sa_P⟩ ty1_P ty2 ty3 ty4_P|.basin=>fun H a dx fs e=>TyOf.ins e ⟨pg_B,hdd_B,po_B,sa_B⟩ ty1_B ty2 ty3 ty4_B|.pump=>fun H a dx fs e=>TyOf.ins e ⟨pg_U,hdd_U,po_U,sa_U⟩ ty1_U ty2 ty3 ty4_U,ktR:=kt_R,ktN:=kt_N,ktLP:=fun kd=>match kd with|.plain=>kt_PP|.basin=>kt_BP|.pump=>kt_UP,ktLB:=fun kd=>match kd with|.plain=>kt_PB|.basin=>kt_BB|.pump=>kt_UB,ktLU:=fun kd=>match kd with|.plain=>kt_PU|.basin=>kt_BU|.pump=>kt_UU,g_SEA:=W.mg_of X G gSEA,g_LETTERS:=W.mg_of X G gLETTERS,g_FIGURES:=W.mg_of X G gFIGURES,g_MOST_SIGNS:=W.mg_of X G gMOST_SIGNS,g_MOST_REACHES:=W.mg_of X G gMOST_REACHES,g_MOST_LOCKS:=W.mg_of X G gMOST_LOCKS,g_MOST_NIGHTS:=W.mg_of X G gMOST_NIGHTS,g_MOST_BERTHS:=W.mg_of X G gMOST_BERTHS}
 refine ⟨W.fnOf "law" "law" (j7 JM) (j3 JM) (jI JM) .none kV58 dc58 pm58 an58 cd58 ct58,fun s v=>.of_eq rfl,fun base _ _=>?_⟩;have G0:=BT (P:=l.prog) (w:=w) (base:=base) T F0;have MK_PlainLock:MkD l.prog w K mg base 1 "PlainLock" cP ["self","name","high","low","room"] (dZ (j6 cP cB cU)):=⟨T.c_PlainLock,_,_,⟨mk_P,a0,i0,kc_P⟩,G0,b0⟩;have CM0:CmD l.prog w K mg base 1 "PlainLock" cP "__init__" ["self","name","high","low","room"] (dZ (j6 cP cB cU)):=⟨T.c_PlainLock,_,_,⟨g1,g2,ac0,k0⟩,G0,b0⟩;have G1:=BP (P:=l.prog) (w:=w) (base:=base) T F1 CM0;have MK_BasinLock:MkD l.prog w K mg base 2 "BasinLock" cB ["self","name","high","low","room","side"] (dY (j6 cP cB cU) .basin):=⟨T.c_BasinLock,_,_,⟨mk_B,a1,i1,kc_B⟩,G1,b1⟩;have G2:=BW (P:=l.prog) (w:=w) (base:=base) T F2 CM0;have MK_PumpLock:MkD l.prog w K mg base 2 "PumpLock" cU ["self","name","high","low","room","lift"] (dY (j6 cP cB cU) .pump):=⟨T.c_PumpLock,_,_,⟨mk_U,a2,i2,kc_U⟩,G2,b2⟩;have G3:=BZ (P:=l.prog) (w:=w) (base:=base) T F3;have MK_Reach:MkD l.prog w K mg base 1 "Reach" cR ["self","name","least","crest","berths","water","target"] (mM cR):=⟨T.c_Reach,_,_,⟨mk_R,a3,i3,kc_R⟩,G3,b3⟩;have G4:=BV (P:=l.prog) (w:=w) (base:=base) T F4;have ME_kind_P:MeD l.prog w K mg base 1 cP "kind" ["self"] (yB (j6 cP cB cU) (fun kd _=>V.str (match kd with|.plain=>"plain"|.basin=>"basin"|.pump=>"pump")) .plain):=⟨T.cl .plain,_,_,⟨a4,i4,k4⟩,G4,b4⟩;have G5:=BR (P:=l.prog) (w:=w) (base:=base) T F5;have ME_kind_B:MeD l.prog w K mg base 1 cB "kind" ["self"] (yB (j6 cP cB cU) (fun kd _=>V.str (match kd with|.plain=>"plain"|.basin=>"basin"|.pump=>"pump")) .basin):=⟨T.cl .basin,_,_,⟨a5,i5,k5⟩,G5,b5⟩;have G6:=BY (P:=l.prog) (w:=w) (base:=base) T F6;have ME_kind_U:MeD l.prog w K mg base 1 cU "kind" ["self"] (yB (j6 cP cB cU) (fun kd _=>V.str (match kd with|.plain=>"plain"|.basin=>"basin"|.pump=>"pump")) .pump):=⟨T.cl .pump,_,_,⟨a6,i6,k6⟩,G6,b6⟩;have MP_kind:MeK l.prog w K mg base 1 (j6 cP cB cU) "kind" ["self"] (yB (j6 cP cB cU) (fun kd _=>V.str (match kd with|.plain=>"plain"|.basin=>"basin"|.pump=>"pump"))):=⟨fun kd=>match kd with|.plain=>ME_kind_P|.basin=>ME_kind_B|.pump=>ME_kind_U⟩;have G7:=BU (P:=l.prog) (w:=w) (base:=base) T F7;have ME_extra_P:MeD l.prog w K mg base 1 cP "extra" ["self"] (yB (j6 cP cB cU) (fun kd v=>V.int (match kd with|.plain=>0|.basin=>v|.pump=>v)) .plain):=⟨T.cl .plain,_,_,⟨a7,i7,k7⟩,G7,b7⟩;have G8:=BQ (P:=l.prog) (w:=w) (base:=base) T F8;have ME_extra_B:MeD l.prog w K mg base 1 cB "extra" ["self"] (yB (j6 cP cB cU) (fun kd v=>V.int (match kd with|.plain=>0|.basin=>v|.pump=>v)) .basin):=⟨T.cl .basin,_,_,⟨a8,i8,k8⟩,G8,b8⟩;have G9:=BX (P:=l.prog) (w:=w) (base:=base) T F9;have ME_extra_U:MeD l.prog w K mg base 1 cU "extra" ["self"] (yB (j6 cP cB cU) (fun kd v=>V.int (match kd with|.plain=>0|.basin=>v|.pump=>v)) .pump):=⟨T.cl .pump,_,_,⟨a9,i9,k9⟩,G9,b9⟩;have MP_extra:MeK l.prog w K mg base 1 (j6 cP cB cU) "extra" ["self"] (yB (j6 cP cB cU) (fun kd v=>V.int (match kd with|.plain=>0|.basin=>v|.pump=>v))):=⟨fun kd=>match kd with|.plain=>ME_extra_P|.basin=>ME_extra_B|.pump=>ME_extra_U⟩
 have G10:=BS (P:=l.prog) (w:=w) (base:=base) T F10;have MK_Canal:MkD l.prog w K mg base 1 "Canal" cN ["self","reaches","locks","nights"] (mO (j6 cP cB cU) cR cN):=⟨T.c_Canal,_,_,⟨mk_N,a10,i10,kc_N⟩,G10,b10⟩;have G11:=C5 (P:=l.prog) (w:=w) (base:=base) T F11;have GX11:=G11;have DX11:=zN GX11 (W.mg_of X G a11) k11 b11;have D12:=qG (DF (P:=l.prog) (w:=w) (base:=base) T F12) (W.mg_of X G a12) k12 b12;have D13:=qG (CV (P:=l.prog) (w:=w) (base:=base) T F13 D12) (W.mg_of X G a13) k13 b13;have D14:=qG (CW (P:=l.prog) (w:=w) (base:=base) T F14 D12) (W.mg_of X G a14) k14 b14;have G15:=C3 (P:=l.prog) (w:=w) (base:=base) T F15 D14;have GX15:=G15;have DX15:=zN GX15 (W.mg_of X G a15) k15 b15;have G16:=C4 (P:=l.prog) (w:=w) (base:=base) T F16 DX15;have GX16:=G16;have DX16:=zN GX16 (W.mg_of X G a16) k16 b16;have G17:=DB (P:=l.prog) (w:=w) (base:=base) T F17 D13;have GX17:=G17;have DX17:=zN GX17 (W.mg_of X G a17) k17 b17;have G18:=DC (P:=l.prog) (w:=w) (base:=base) T F18;have GX18:=G18;have DX18:=zN GX18 (W.mg_of X G a18) k18 b18;have G19:=C9 (P:=l.prog) (w:=w) (base:=base) T F19;have GX19:=G19;have DX19:=zN GX19 (W.mg_of X G a19) k19 b19;have G20:=C8 (P:=l.prog) (w:=w) (base:=base) T F20 MP_extra MP_kind;have GX20:=G20;have DX20:=zN GX20 (W.mg_of X G a20) k20 b20;have G21:=DA (P:=l.prog) (w:=w) (base:=base) T F21;have GX21:=G21;have DX21:=zN GX21 (W.mg_of X G a21) k21 b21;have D22:=qG (DE (P:=l.prog) (w:=w) (base:=base) T F22) (W.mg_of X G a22) k22 b22;have D23:=qG (CZ (P:=l.prog) (w:=w) (base:=base) T F23 MK_PlainLock MK_BasinLock MK_PumpLock) (W.mg_of X G a23) k23 b23;have G24:=C6 (P:=l.prog) (w:=w) (base:=base) T F24 DX17 DX16 DX18 DX11 MK_Reach DX19 DX21;have GX24:=G24;have DX24:=zN GX24 (W.mg_of X G a24) k24 b24;have G25:=C1 (P:=l.prog) (w:=w) (base:=base) T F25 DX17 DX16 DX18 DX11 D23 DX20 DX21;have GX25:=G25;have DX25:=zN GX25 (W.mg_of X G a25) k25 b25;have G26:=C2 (P:=l.prog) (w:=w) (base:=base) T F26 DX17 DX16 DX11 DX21 D22;have GX26:=G26;have DX26:=zN GX26 (W.mg_of X G a26) k26 b26;have G27:=C7 (P:=l.prog) (w:=w) (base:=base) T F27 DX24 DX25 DX26;have GX27:=G27;have DX27:=zN GX27 (W.mg_of X G a27) k27 b27;have D28:=qG (DD (P:=l.prog) (w:=w) (base:=base) T F28) (W.mg_of X G a28) k28 b28;have G29:=CU (P:=l.prog) (w:=w) (base:=base) T F29 D28 DX27 MK_Canal D22;have GX29:=G29;have DX29:=zN GX29 (W.mg_of X G a29) k29 b29;have D30:=qG (B2 (P:=l.prog) (w:=w) (base:=base) T F30) (W.mg_of X G a30) k30 b30;have D31:=qG (CT (P:=l.prog) (w:=w) (base:=base) T F31) (W.mg_of X G a31) k31 b31;have D32:=qG (CC (P:=l.prog) (w:=w) (base:=base) T F32) (W.mg_of X G a32) k32 b32;have D33:=qG (CM (P:=l.prog) (w:=w) (base:=base) T F33 D32) (W.mg_of X G a33) k33 b33;have D34:=qG (B6 (P:=l.prog) (w:=w) (base:=base) T F34 D33 D32) (W.mg_of X G a34) k34 b34;have D35:=qG (CK (P:=l.prog) (w:=w) (base:=base) T F35) (W.mg_of X G a35) k35 b35;have D36:=qG (B9 (P:=l.prog) (w:=w) (base:=base) T F36) (W.mg_of X G a36) k36 b36;have D37:=qG (CG (P:=l.prog) (w:=w) (base:=base) T F37) (W.mg_of X G a37) k37 b37
 have D38:=qG (CJ (P:=l.prog) (w:=w) (base:=base) T F38 D30 D37 D36 D35) (W.mg_of X G a38) k38 b38;have D39:=qG (CB (P:=l.prog) (w:=w) (base:=base) T F39) (W.mg_of X G a39) k39 b39;have D40:=qG (B4 (P:=l.prog) (w:=w) (base:=base) T F40) (W.mg_of X G a40) k40 b40;have D41:=qG (CP (P:=l.prog) (w:=w) (base:=base) T F41 D39 D40) (W.mg_of X G a41) k41 b41;have D42:=qG (B5 (P:=l.prog) (w:=w) (base:=base) T F42 D41) (W.mg_of X G a42) k42 b42;have D43:=qG (CQ (P:=l.prog) (w:=w) (base:=base) T F43) (W.mg_of X G a43) k43 b43;have D44:=qG (CN (P:=l.prog) (w:=w) (base:=base) T F44) (W.mg_of X G a44) k44 b44;have D45:=qG (B3 (P:=l.prog) (w:=w) (base:=base) T F45) (W.mg_of X G a45) k45 b45;have D46:=qG (B8 (P:=l.prog) (w:=w) (base:=base) T F46 D42 D43 D44 D45) (W.mg_of X G a46) k46 b46;have D47:=qG (CD (P:=l.prog) (w:=w) (base:=base) T F47) (W.mg_of X G a47) k47 b47;have D48:=qG (CF (P:=l.prog) (w:=w) (base:=base) T F48) (W.mg_of X G a48) k48 b48;have D49:=qG (B0 (P:=l.prog) (w:=w) (base:=base) T F49) (W.mg_of X G a49) k49 b49;have D50:=qG (CS (P:=l.prog) (w:=w) (base:=base) T F50 D48 D47 D49) (W.mg_of X G a50) k50 b50;have D51:=qG (CI (P:=l.prog) (w:=w) (base:=base) T F51 D31) (W.mg_of X G a51) k51 b51;have D52:=qG (CL (P:=l.prog) (w:=w) (base:=base) T F52 D51) (W.mg_of X G a52) k52 b52;have D53:=qG (CA (P:=l.prog) (w:=w) (base:=base) T F53 MP_kind D51 MP_extra) (W.mg_of X G a53) k53 b53;have D54:=qG (CH (P:=l.prog) (w:=w) (base:=base) T F54 D51) (W.mg_of X G a54) k54 b54;have D55:=qG (B1 (P:=l.prog) (w:=w) (base:=base) T F55 D52 D53 D54) (W.mg_of X G a55) k55 b55;have D56:=qG (CO (P:=l.prog) (w:=w) (base:=base) T F56) (W.mg_of X G a56) k56 b56;have D57:=qG (B7 (P:=l.prog) (w:=w) (base:=base) T F57 DX29 D55) (W.mg_of X G a57) k57 b57;have G58:=CY (P:=l.prog) (w:=w) (base:=base) T F58 D33 D30 D34 D38 D56 D50 D57 D45 D46;exact G58
theorem walk {l:W.OpenLaw} {q:Program} {loose:List Str} {XP:(Str→Option Value)→Heap→Prop} {YP:World→Heap→Prop} {d:DefRec} {K:Params→W.Frag} (hn:l.most=some 63) (hdf:d.params.defaults=[])
  (hY:∀(w:World) (h:Heap),YP w h→(K w.params).In h)
  (F:∀(w:World) (mg:Str→Option Value) (fa:Addr) (h:Heap),(K w.params).In h→h.Ns mainGlobals mg→mg d.name=some (.ref fa)→
   ∃fd:FuncData,(∀(s:Shared) (u:Value),BindsTo s fd ⟨[u],[]⟩ [("script",u)])∧∀base:Heap,(K w.params).In base→base.Ns mainGlobals mg→FnOk l.prog w (K w.params) mg base kB 9 fa fd ["script"] (lO (K w.params))) :
  W.WalkO q loose XP YP l.row.toRowW d [] (fun f vs=>PySem.call f vs) :=
 L2.walk_of (n:=63) (k:=9) (x:="script") (CX:=fun _=>kB) (sp:=fun w=>lO (K w.params)) hn (by decide) hdf ⟨rfl,by decide,by decide⟩ hY F (fun _ _ a ns hl _ hS=>⟨a,ns,rfl,hS,hl,fun _=>rfl⟩) fun _ _ _ _ _ z=>z
end My
/- These names are taken here so that the head below leaves out its twins of whole states (they are not needed,and make the compiled file larger than a hand-in may be). -/
namespace PySem.W.Fast
def tw11100701004790198054:Nat:=0
def tw3736641944596466274:Nat:=0
def tw16947468312282477915:Nat:=0
def tw10540695927660157638:Nat:=0
def tw6040286741849601567:Nat:=0
def tw7914605599746277523:Nat:=0
def tw17719822440661015464:Nat:=0
def tw8033542145357837984:Nat:=0
def tw16670309949437577885:Nat:=0
def tw7188401864832771640:Nat:=0
def tw16075659309762850135:Nat:=0
def tw16264584625944015168:Nat:=0
def tw10217179272260461402:Nat:=0
def tw102970789715638871:Nat:=0
def tw5728415381121637311:Nat:=0
def tw4169540542328127271:Nat:=0
def tw9161574026279268666:Nat:=0
def tw4685546262306166675:Nat:=0
def tw5847418890491220131:Nat:=0
def tw6891546883039233202:Nat:=0
def tw8294362393530676844:Nat:=0
def tw9767445434985578062:Nat:=0
def tw1252604473573293768:Nat:=0
def tw9894634234798758871:Nat:=0
def tw2801961837716681871:Nat:=0
def tw2382800713249963299:Nat:=0
def tw3086892617113745912:Nat:=0
def tw13781150073408367072:Nat:=0
def tw4700166133805857513:Nat:=0
def tw3203854617459267442:Nat:=0
def tw8739393954374814411:Nat:=0
def tw919501739765511346:Nat:=0
def tw14661490610625101254:Nat:=0
def tw5524883472283727783:Nat:=0
def tw155523263131148528:Nat:=0
def tw647691111603010805:Nat:=0
def tw7274647313161169491:Nat:=0
def tw1991219329704949621:Nat:=0
def tw16934396115226824590:Nat:=0
def tw6470242231391317459:Nat:=0
def tw6416043509764464100:Nat:=0
def tw14200192968097751933:Nat:=0
def tw7341211524516006191:Nat:=0
def tw6008606723830734410:Nat:=0
def tw11410864839189660065:Nat:=0
def tw6465072717875123514:Nat:=0
def tw263435807319301325:Nat:=0
def tw9368743065145398832:Nat:=0
def tw8480155368815901553:Nat:=0
def tw12505677433937029838:Nat:=0
def tw562246882277286256:Nat:=0
def tw11249000034073210697:Nat:=0
def tw1816358819639580280:Nat:=0
def tw14875725059056826424:Nat:=0
def tw10374589871242496938:Nat:=0
def tw10972404899355590944:Nat:=0
def tw10647017112355405685:Nat:=0
def tw9395096870054648221:Nat:=0
def tw13031175603902083047:Nat:=0
def tw5347892219417640946:Nat:=0
def tw17070345167192933561:Nat:=0
def tw1240581276337108221:Nat:=0
def tw15596250123356400338:Nat:=0
def tw4473419688516588269:Nat:=0
def tw12096493897233377937:Nat:=0
def tw16788973152949242352:Nat:=0
def tw4998000124000085588:Nat:=0
def tw10777835897821684422:Nat:=0
def tw17695322850643681287:Nat:=0
def tw15308636420582921693:Nat:=0
def tw9254126176763156064:Nat:=0
def tw11167215435339473468:Nat:=0
def tw12766235570242102402:Nat:=0
def tw4213350898005646674:Nat:=0
def tw7852892584042841055:Nat:=0
def tw5502741742231527090:Nat:=0
def tw10623288929902355977:Nat:=0
def tw10669076787309330178:Nat:=0
def tw5233677620228900210:Nat:=0
def tw7257606850283342348:Nat:=0
def tw5145064888965191017:Nat:=0
def tw17828689790500868420:Nat:=0
def tw13176622027900306178:Nat:=0
def tw6074014207315765998:Nat:=0
def tw13715628343059864523:Nat:=0
def tw16529572468878488949:Nat:=0
def tw8930848697378737244:Nat:=0
def tw9273665332417123994:Nat:=0
def tw13318021468808936300:Nat:=0
def tw12205233932095281823:Nat:=0
def tw7815208935749730601:Nat:=0
def tw16325457286443523122:Nat:=0
def tw8128364534781089555:Nat:=0
def tw3530256472528210958:Nat:=0
def tw2881627107712891993:Nat:=0
def tw16916817746547560112:Nat:=0
def tw14403990146165134330:Nat:=0
def tw17454858397858737560:Nat:=0
def tw15160469322669840252:Nat:=0
def tw3333646507844628923:Nat:=0
def tw13787758701282337885:Nat:=0
def tw13648554179419125918:Nat:=0
def tw12385677329740141276:Nat:=0
def tw18061774512286102728:Nat:=0
def tw11937162158266303282:Nat:=0
def tw10041578302477085543:Nat:=0
def tw14566569711929836975:Nat:=0
def tw1733559459077161715:Nat:=0
def tw8183012573231192752:Nat:=0
def tw8879067219786701854:Nat:=0
def tw682666590991449425:Nat:=0
def tw936218610944428586:Nat:=0
def tw15381463909251499100:Nat:=0
def tw16062170049369183913:Nat:=0
def tw6417661402877225378:Nat:=0
def tw1489300124407295178:Nat:=0
def tw16730738146449649650:Nat:=0
def tw17183045295723385313:Nat:=0
def tw10866874464898079587:Nat:=0
def tw12198691708716613216:Nat:=0
def tw12655017910078220796:Nat:=0
def tw18217797220836956902:Nat:=0
def tw4207018335913419090:Nat:=0
def tw15529355130764941996:Nat:=0
def tw4474364191651298988:Nat:=0
def tw8672303193866310981:Nat:=0
def tw12957134151123008502:Nat:=0
def tw169707971580026797:Nat:=0
def tw9193009090429536673:Nat:=0
def tw16846288573479202775:Nat:=0
def tw18155389079183553255:Nat:=0
def tw2127788962167641487:Nat:=0
def tw12599502593350669456:Nat:=0
def tw401298416175607683:Nat:=0
def tw17557842164455538092:Nat:=0
def tw12949919199361260859:Nat:=0
def tw17132886882351326537:Nat:=0
def tw4539715301740695806:Nat:=0
def tw3618785225880453413:Nat:=0
def tw15945801947324987458:Nat:=0
def tw3168145172337423562:Nat:=0
def tw3118978983462753082:Nat:=0
def tw2444383523278459657:Nat:=0
def tw10756869559577081885:Nat:=0
def tw13622861390120470262:Nat:=0
def tw4338836491883493184:Nat:=0
def tw17453874188131205291:Nat:=0
def tw2055531644365490580:Nat:=0
def tw13283980751835715090:Nat:=0
def tw10205163163795690747:Nat:=0
def tw1127674864504277382:Nat:=0
def tw10429361268371052662:Nat:=0
def tw2820559293023202976:Nat:=0
def tw17178224671668149396:Nat:=0
def tw15901542266628179392:Nat:=0
def tw648944897493124076:Nat:=0
def tw2917317165071787353:Nat:=0
def tw5695997724846769937:Nat:=0
def tw13445946312156602675:Nat:=0
def tw10121044965197341752:Nat:=0
def tw3097368128241405872:Nat:=0
def tw5358780372809106828:Nat:=0
def tw6841604223544107693:Nat:=0
def tw2656464091993138920:Nat:=0
end PySem.W.Fast
open PySem PySem.W PyProof.Rows
set_option maxRecDepth 100000 in
set_option maxHeartbeats 0 in
theorem PySem.Challenge.cw_lockhouse_k37_the_first_bad_row_holds : PySem.Challenge.rw_lockhouse_k37_the_first_bad_row.Holds := by
 w_on;o_law;k_head;(case hw=>w_witness2)
 k_fill
 refine My.walk (l:=PySem.Challenge.rw_lockhouse_k37_the_first_bad_row) rfl rfl (fun w h Y=>PySem.W.kIn_of Y) ?F
 case F =>
  intro w mg fa h KX G hmg
  refine' My.all_mk KX G hmg ?aC_P ?aC_B ?aC_U ?aC_R ?aC_N ?aX_CanalError ?aX_BadRow ?aX_Twice ?aX_Unknown ?aX_BadNumber ?aX_TooMany ?aX_Short ?a0 ?i0 ?ac0 ?l0 ?c0 ?k0 ?a1 ?i1 ?l1 ?c1 ?k1 ?a2 ?i2 ?l2 ?c2 ?k2 ?a3 ?i3 ?l3 ?c3 ?k3 ?a4 ?i4 ?l4 ?c4 ?k4 ?a5 ?i5 ?l5 ?c5 ?k5 ?a6 ?i6 ?l6 ?c6 ?k6 ?a7 ?i7 ?l7 ?c7 ?k7 ?a8 ?i8 ?l8 ?c8 ?k8 ?a9 ?i9 ?l9 ?c9 ?k9 ?a10 ?i10 ?l10 ?c10 ?k10 ?lT10 ?dT10 ?a11 ?l11 ?c11 ?k11 ?a12 ?l12 ?c12 ?k12 ?a13 ?l13 ?c13 ?k13 ?a14 ?l14 ?c14 ?k14 ?a15 ?l15 ?c15 ?k15 ?a16 ?l16 ?c16 ?k16 ?a17 ?l17 ?c17 ?k17 ?a18 ?l18 ?c18 ?k18 ?a19 ?l19 ?c19 ?k19 ?a20 ?l20 ?c20 ?k20 ?a21 ?l21 ?c21 ?k21 ?a22 ?l22 ?c22 ?k22 ?a23 ?l23 ?c23 ?k23 ?a24 ?l24 ?c24 ?k24 ?a25 ?l25 ?c25 ?k25 ?a26 ?l26 ?c26 ?k26 ?a27 ?l27 ?c27 ?k27 ?a28 ?l28 ?c28 ?k28 ?a29 ?l29 ?c29 ?k29 ?a30 ?l30 ?c30 ?k30 ?a31 ?l31 ?c31 ?k31 ?a32 ?l32 ?c32 ?k32 ?a33 ?l33 ?c33 ?k33 ?a34 ?l34 ?c34 ?k34 ?a35 ?l35 ?c35 ?k35 ?a36 ?l36 ?c36 ?k36 ?a37 ?l37 ?c37 ?k37 ?a38 ?l38 ?c38 ?k38 ?a39 ?l39 ?c39 ?k39 ?a40 ?l40 ?c40 ?k40 ?a41 ?l41 ?c41 ?k41 ?a42 ?l42 ?c42 ?k42 ?a43 ?l43 ?c43 ?k43 ?a44 ?l44 ?c44 ?k44 ?a45 ?l45 ?c45 ?k45 ?a46 ?l46 ?c46 ?k46 ?a47 ?l47 ?c47 ?k47 ?a48 ?l48 ?c48 ?k48 ?a49 ?l49 ?c49 ?k49 ?a50 ?l50 ?c50 ?k50 ?a51 ?l51 ?c51 ?k51 ?a52 ?l52 ?c52 ?k52 ?a53 ?l53 ?c53 ?k53 ?a54 ?l54 ?c54 ?k54 ?a55 ?l55 ?c55 ?k55 ?a56 ?l56 ?c56 ?k56 ?a57 ?l57 ?c57 ?k57 ?a58 ?l58 ?c58 ?k58 ?z_list ?z_enumerate ?z_all ?z_len ?z_int ?z_zip ?z_set ?z_isinstance ?z_bool ?z_range ?z_min ?z_max ?z_tuple ?z_str ?pg_P ?hdd_P ?po_P ?sa_P ?mk_P ?kc_P ?n_name_P ?n_high_P ?n_low_P ?n_room_P ?pg_B ?hdd_B ?po_B ?sa_B ?mk_B ?kc_B ?n_name_B ?n_high_B ?n_low_B ?n_room_B ?n_side_B ?pg_U ?hdd_U ?po_U ?sa_U ?mk_U ?kc_U ?n_name_U ?n_high_U ?n_low_U ?n_room_U ?n_lift_U ?g1 ?g2 ?pg_R ?hdd_R ?po_R ?sa_R ?mk_R ?kc_R ?nR_name ?nR_least ?nR_crest ?nR_berths ?nR_water ?nR_target ?pg_N ?hdd_N ?po_N ?sa_N ?mk_N ?kc_N ?nN_reaches ?nN_locks ?nN_nights ?xX_BadRow ?xX_Twice ?xX_Unknown ?xX_BadNumber ?xX_TooMany ?eg_eB ?en_eB ?ec_eB ?eo_eB ?eb_eB ?cX_eB ?exmX_eB ?kX_eB_0 ?kX_eB_1 ?kX_eB_2 ?kX_eB_3 ?kX_eB_4 ?kX_eB_5 ?eg_eT ?en_eT ?ec_eT ?eo_eT ?eb_eT ?cX_eT ?exmX_eT ?kX_eT_0 ?kX_eT_1 ?kX_eT_2 ?kX_eT_3 ?kX_eT_4 ?kX_eT_5 ?eg_eU ?en_eU ?ec_eU ?eo_eU ?eb_eU ?cX_eU ?exmX_eU ?kX_eU_0 ?kX_eU_1 ?kX_eU_2 ?kX_eU_3 ?kX_eU_4 ?kX_eU_5 ?eg_eN ?en_eN ?ec_eN ?eo_eN ?eb_eN ?cX_eN ?exmX_eN ?kX_eN_0 ?kX_eN_1 ?kX_eN_2 ?kX_eN_3 ?kX_eN_4 ?kX_eN_5 ?eg_eM ?en_eM ?ec_eM ?eo_eM ?eb_eM ?cX_eM ?exmX_eM ?kX_eM_0 ?kX_eM_1 ?kX_eM_2 ?kX_eM_3 ?kX_eM_4 ?kX_eM_5 ?ty2 ?ty3 ?ty1_R ?ty4_R ?ty1_N ?ty4_N ?ty1_P ?ty4_P ?ty1_B ?ty4_B ?ty1_U ?ty4_U ?kt_R ?kt_N ?kt_PP ?kt_PB ?kt_PU ?kt_BP ?kt_BB ?kt_BU ?kt_UP ?kt_UB ?kt_UU ?gSEA ?gLETTERS ?gFIGURES ?gMOST_SIGNS ?gMOST_REACHES ?gMOST_LOCKS ?gMOST_NIGHTS ?gMOST_BERTHS
  (case aC_P|aC_B|aC_U|aC_R|aC_N|aX_CanalError|aX_BadRow|aX_Twice|aX_Unknown|aX_BadNumber|aX_TooMany|aX_Short|a0|i0|ac0|l0|c0|k0|a1|i1|l1|c1|k1|a2|i2|l2|c2|k2|a3|i3|l3|c3|k3|a4|i4|l4|c4|k4|a5|i5=>first|k_is|k_exc|kit_is|kts_exm|rfl)
  (case l5|c5|k5|a6|i6|l6|c6|k6|a7|i7|l7|c7|k7|a8|i8|l8|c8|k8|a9|i9|l9|c9|k9|a10|i10|l10|c10|k10|lT10|dT10|a11|l11|c11|k11|a12|l12|c12|k12|a13|l13=>first|k_is|k_exc|kit_is|kts_exm|rfl)
  (case c13|k13|a14|l14|c14|k14|a15|l15|c15|k15|a16|l16|c16|k16|a17|l17|c17|k17|a18|l18|c18|k18|a19|l19|c19|k19|a20|l20|c20|k20|a21|l21|c21|k21|a22|l22|c22|k22|a23|l23=>first|k_is|k_exc|kit_is|kts_exm|rfl)
  (case c23|k23|a24|l24|c24|k24|a25|l25|c25|k25|a26|l26|c26|k26|a27|l27|c27|k27|a28|l28|c28|k28|a29|l29|c29|k29|a30|l30|c30|k30|a31|l31|c31|k31|a32|l32|c32|k32|a33|l33=>first|k_is|k_exc|kit_is|kts_exm|rfl)
  (case c33|k33|a34|l34|c34|k34|a35|l35|c35|k35|a36|l36|c36|k36|a37|l37|c37|k37|a38|l38|c38|k38|a39|l39|c39|k39|a40|l40|c40|k40|a41|l41|c41|k41|a42|l42|c42|k42|a43|l43=>first|k_is|k_exc|kit_is|kts_exm|rfl)
  (case c43|k43|a44|l44|c44|k44|a45|l45|c45|k45|a46|l46|c46|k46|a47|l47|c47|k47|a48|l48|c48|k48|a49|l49|c49|k49|a50|l50|c50|k50|a51|l51|c51|k51|a52|l52|c52|k52|a53|l53=>first|k_is|k_exc|kit_is|kts_exm|rfl)
  (case c53|k53|a54|l54|c54|k54|a55|l55|c55|k55|a56|l56|c56|k56|a57|l57|c57|k57|a58|l58|c58|k58|z_list|z_enumerate|z_all|z_len|z_int|z_zip|z_set|z_isinstance|z_bool|z_range|z_min|z_max|z_tuple|z_str|pg_P|hdd_P|po_P|sa_P=>first|k_is|k_exc|kit_is|kts_exm|rfl)
  (case mk_P|kc_P|n_name_P|n_high_P|n_low_P|n_room_P|pg_B|hdd_B|po_B|sa_B|mk_B|kc_B|n_name_B|n_high_B|n_low_B|n_room_B|n_side_B|pg_U|hdd_U|po_U|sa_U|mk_U|kc_U|n_name_U|n_high_U|n_low_U|n_room_U|n_lift_U|g1|g2|pg_R|hdd_R|po_R|sa_R|mk_R|kc_R|nR_name|nR_least|nR_crest|nR_berths=>first|k_is|k_exc|kit_is|kts_exm|rfl)
  (case nR_water|nR_target|pg_N|hdd_N|po_N|sa_N|mk_N|kc_N|nN_reaches|nN_locks|nN_nights|xX_BadRow|xX_Twice|xX_Unknown|xX_BadNumber|xX_TooMany|eg_eB|en_eB|ec_eB|eo_eB|eb_eB|cX_eB|exmX_eB|kX_eB_0|kX_eB_1|kX_eB_2|kX_eB_3|kX_eB_4|kX_eB_5|eg_eT|en_eT|ec_eT|eo_eT|eb_eT|cX_eT|exmX_eT|kX_eT_0|kX_eT_1|kX_eT_2|kX_eT_3=>first|k_is|k_exc|kit_is|kts_exm|rfl)
  (case kX_eT_4|kX_eT_5|eg_eU|en_eU|ec_eU|eo_eU|eb_eU|cX_eU|exmX_eU|kX_eU_0|kX_eU_1|kX_eU_2|kX_eU_3|kX_eU_4|kX_eU_5|eg_eN|en_eN|ec_eN|eo_eN|eb_eN|cX_eN|exmX_eN|kX_eN_0|kX_eN_1|kX_eN_2|kX_eN_3|kX_eN_4|kX_eN_5|eg_eM|en_eM|ec_eM|eo_eM|eb_eM|cX_eM|exmX_eM|kX_eM_0|kX_eM_1|kX_eM_2|kX_eM_3|kX_eM_4=>first|k_is|k_exc|kit_is|kts_exm|rfl)
  (case kX_eM_5|ty2|ty3|ty1_R|ty4_R|ty1_N|ty4_N|ty1_P|ty4_P|ty1_B|ty4_B|ty1_U|ty4_U|kt_R|kt_N|kt_PP|kt_PB|kt_PU|kt_BP|kt_BB|kt_BU|kt_UP|kt_UB|kt_UU|gSEA|gLETTERS|gFIGURES|gMOST_SIGNS|gMOST_REACHES|gMOST_LOCKS|gMOST_NIGHTS|gMOST_BERTHS=>first|k_is|k_exc|kit_is|kts_exm|rfl)
