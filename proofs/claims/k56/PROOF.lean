import PyProof.Rows.All
import Wide.All
import OpenK.AllK
import Wide.FinOn
import Lean
import PyProof.EqAt
import PyProof.EqKinds
import PyProof.TupleCall
import PyProof.NeKinds
import OpenK.KOwn
import KE.KTryMore
import KE.RegKTryMore
import PyProof.NsDelKeeps
import KE.KIntText
import PySem.Challenge.RW_lockhouse_k56_whole_look
set_option Elab.async false
set_option linter.all false
set_option maxRecDepth 100000
namespace L2
open PySem PySem.Spec PyProof.Rows
abbrev kD:=Sum Int Str
def dO:kD→Value→Bool
 |.inl k,v=>Value.isInt k v
 |.inr x,v=>Value.isStrOf x v
def U4 (w:World):kD→Int
 |.inl k=>hashInt k
 |.inr x=>hashStr w x
theorem QY:∀{k:kD} {v:Value},dO k v=true→(∃i t,k=Sum.inl i∧v=Value.int i t)∨(∃x t,k=Sum.inr x∧v=Value.str x t)
 |.inl i,v,h=>by
  obtain ⟨t,e⟩:=Value.isInt_shape (k:=i) (v:=v) h;exact .inl ⟨i,t,rfl,e⟩
 |.inr x,v,h=>by
  obtain ⟨t,e⟩:=Value.isStrOf_shape (x:=x) (v:=v) h;exact .inr ⟨x,t,rfl,e⟩
theorem N3 (i:Int) (t:Tok):dO (.inl i) (.int i t)=true:=by simp [dO,Value.isInt]
theorem N2 (x:Str) (t:Tok):dO (.inr x) (.str x t)=true:=by simp [dO,Value.isStrOf]
theorem S3 (a b:Int):decide ((Sum.inl a:kD)=Sum.inl b)=(a == b):=by
 by_cases e:a=b
 ·subst e;simp
 ·have h:¬(Sum.inl a:kD)=Sum.inl b:=fun q=>e (Sum.inl.inj q)
  rw [decide_eq_false h];exact (beq_eq_false_iff_ne.mpr e).symm
theorem S0 (a b:Str):decide ((Sum.inr a:kD)=Sum.inr b)=decide (a=b):=by
 by_cases e:a=b
 ·subst e;simp
 ·have h:¬(Sum.inr a:kD)=Sum.inr b:=fun q=>e (Sum.inr.inj q)
  rw [decide_eq_false h,decide_eq_false e]
theorem S2 (a:Int) (b:Str):decide ((Sum.inl a:kD)=Sum.inr b)=false:=decide_eq_false (fun q=>nomatch q)
theorem S1 (a:Str) (b:Int):decide ((Sum.inr a:kD)=Sum.inl b)=false:=decide_eq_false (fun q=>nomatch q)
def zF (prog:Program) (w:World):PySem.KeyKind prog w kD where
 is:=dO
 hash:=U4 w
 inj:=fun v a b ha hb=>by
  rcases QY ha with ⟨i,t,rfl,rfl⟩|⟨x,t,rfl,rfl⟩
  ·rcases QY hb with ⟨j,u,rfl,e⟩|⟨y,u,rfl,e⟩
   ·injection e with e1 _;rw [e1]
   ·exact nomatch e
  ·rcases QY hb with ⟨j,u,rfl,e⟩|⟨y,u,rfl,e⟩
   ·exact nomatch e
   ·injection e with e1 _;rw [e1]
 byValue:=fun k v h=>by
  rcases QY h with ⟨i,t,rfl,rfl⟩|⟨x,t,rfl,rfl⟩<;>rfl
 pyHash:=fun hv h=>by
  rcases QY hv with ⟨i,t,rfl,rfl⟩|⟨x,t,rfl,rfl⟩
  ·exact wpAny_pyHash_int h
  ·exact wpAny_pyHash_str h
 eqBool:=fun hu hv h=>by
  rcases QY hu with ⟨i,t,rfl,rfl⟩|⟨x,t,rfl,rfl⟩
  ·rcases QY hv with ⟨j,u,rfl,rfl⟩|⟨y,u,rfl,rfl⟩
   ·rw [S3] at h;exact wpAny_eqBool_int h
   ·rw [S2] at h;exact SeqAt.EqAt.int_str i t y u _ _ _ _ h
  ·rcases QY hv with ⟨j,u,rfl,rfl⟩|⟨y,u,rfl,rfl⟩
   ·rw [S1] at h;exact SeqAt.EqAt.str_int x t j u _ _ _ _ h
   ·rw [S0] at h;exact wpAny_eqBool_str h
 «strs»:=fun k x t v h=>by
  rcases QY h with ⟨i,u,rfl,e⟩|⟨y,u,rfl,e⟩
  ·exact nomatch e
  ·injection e with e1 _
   subst e1;cases v<;>rfl
theorem MA (prog:Program) (w:World) (i:Int) (t:Tok):(zF prog w).is (.inl i) (.int i t)=true:=N3 i t
theorem L9 (prog:Program) (w:World) (x:Str) (t:Tok):(zF prog w).is (.inr x) (.str x t)=true:=N2 x t
inductive V where
 |non|bl (b:Bool)|int (i:Int)|str (x:Str)|byt (b:Array UInt8)|flt (b:UInt64)|ref (a:Addr)|ty (n:String)
 deriving DecidableEq
def RelV:V→Value→Prop
 |.non,u=>u=Value.none
 |.bl b,u=>u=Value.bool b
 |.int i,u=>∃t,u=Value.int i t
 |.str x,u=>∃t,u=Value.str x t
 |.byt b,u=>∃t,u=Value.bytes b t
 |.flt b,u=>∃t,u=Value.float b t
 |.ref a,u=>u=Value.ref a
 |.ty n,u=>u=Value.type n
abbrev Vals:List V→List Value→Prop:=Paired RelV
theorem Vals.length {xs:List V} {us:List Value} (r:Vals xs us):xs.length=us.length:=Paired.length r
theorem Vals.get:∀{xs:List V} {us:List Value} {i:Nat} {x:V},Vals xs us→xs[i]?=some x→∃u,us[i]?=some u∧RelV x u
 |_,_,_,_,.nil,e=>by simp at e
 |_,_,0,_,.cons r _,e=>by simp at e;subst e;exact ⟨_,rfl,r⟩
 |_,_,i+1,x,.cons _ t,e=>by
  obtain ⟨u,h1,h2⟩:=Vals.get (i:=i) (x:=x) t (by simpa using e);exact ⟨u,by simpa using h1,h2⟩
theorem Vals.set {x:V} {u:Value} (r:RelV x u):∀{xs:List V} {us:List Value} (i:Nat),Vals xs us→Vals (xs.set i x) (us.set i u)
 |_,_,_,.nil=>.nil
 |_,_,0,.cons _ t=>.cons r t
 |_,_,i+1,.cons q t=>.cons q (Vals.set r i t)
theorem Vals.append:∀{xs ys:List V} {us ws:List Value},Vals xs us→Vals ys ws→Vals (xs++ys) (us++ws)
 |_,_,_,_,.nil,s=>s
 |_,_,_,_,.cons r t,s=>.cons r (Vals.append t s)
def RelO:Option V→Option Value→Prop
 |some v,some u=>RelV v u
 |none,none=>True
 |_,_=>False
def KV {κ:Type}:List (κ×V)→List (κ×Value)→Prop:=Paired fun (p:κ×V) (q:κ×Value)=>p.1=q.1∧RelV p.2 q.2
def kV:kD→V
 |.inl i=>.int i
 |.inr x=>.str x
inductive HO where
 /-- a list -/
 |lst (xs:List V)
 /-- a tuple (never changes) -/
 |tup (xs:List V)
 /-- a dict whose keys are ints and texts;one whose keys are tuples of ints and texts (the empty one is both) -/
 |dK (kvs:List (kD×V))|dT (kvs:List (List kD×V))
 /-- a set of ints: its members,its size -/
 |set (S:Int→Bool) (n:Nat)
 /-- an instance of the class at C,its dict at dx,its attributes -/
 |ins (C dx:Addr) (fs:List (Str×V))
 /-- the dict of the instance at x -/
 |own (x:Addr)
 /-- the dict of an exception -/
 |xd (fs:List (Str×V))
 /-- a bound method,f of x -/
 |met (f x:Addr)
 /-- a range object lo,lo+1,.. below hi -/
 |rng (lo hi:Int)
 /-- a thing that is known to the object (the script;a dict while a loop walks it): read,never written while it is so -/
 |frz (o:Obj) (u:HO)
 /-- a code object's table -/
 |tbl (ps:Array Value)
 /-- any other thing,by what is true of its one object (a def of one's own: SetO a S n:=HO.ext fun h=>..) -/
 |ext (φ:Heap→Prop)
abbrev Hp:=Addr→Option HO
def upd (H:Hp) (a:Addr) (o:HO):Hp:=fun b=>if b=a then some o else H b
variable {H:Hp} {a:Addr} {o:HO}
theorem jD:upd H a o a=some o:=by unfold upd;rw [if_pos rfl]
variable {b:Addr}
theorem jG (h:b≠a):upd H a o b=H b:=by unfold upd;rw [if_neg h]
variable {u:HO}
theorem QT (h:H a=some o) (h':H b=some u) (d:o≠u):a≠b:=by
 intro e;subst e;rw [h] at h';exact d (Option.some.inj h')
theorem qV (h:H a=some o) (h':H b=none):a≠b:=by
 intro e;subst e;rw [h] at h';cases h'
section
variable (P:Program) (w:World)
def ObjOk (H:Hp) (h:Heap) (a:Addr):HO→Prop
 |.lst xs=>xs.length≤sizeLine∧∃(its:List Value) (n:Nat),Vals xs its∧h.get? a=some {cls:=.type "list",data:=.seq its.toArray n}
 |.tup xs=>xs.length≤sizeLine∧∃its:List Value,Vals xs its∧IsTup h a its.toArray
 |.dK kvs=>kvs.length≤sizeLine∧(a == sysModules)=false∧∃vs,KV kvs vs∧h.DictOf (zF P w) a vs
 |.dT kvs=>kvs.length≤sizeLine∧(a == sysModules)=false∧∃xs:List (List kD×Addr×Value),
   Paired (fun (p:List kD×V) (q:List kD×Addr×Value)=>p.1=q.1∧H q.2.1=some (.tup (p.1.map kV))∧RelV p.2 q.2.2) kvs xs∧
   ∃o es ep,h.get? a=some o∧o.ExactDict∧o.data=.dict es ep∧es.toList=xs.map (entryOfKey (tupleKind (zF P w)))∧(xs.map (·.1)).Nodup
 |.set S n=>h.SetOf (intKind P w) a S n
 |.ins C dx fs=>H dx=some (.own a)∧fs.length≤1000∧dx≠a∧h.get? a=some (PySem.W.instObj C dx)∧
   ∃mA,h.Ns1 dx mA∧(∀f,RelO (fs.lookup f) (mA f))∧PySem.Within mA (fs.map (·.1))
 |.own _=>∃o,h.get? a=some o
 |.xd fs=>∃mA,h.Ns1 a mA∧∀f,RelO (fs.lookup f) (mA f)
 |.rng lo hi=>∃t u v,h.get? a=some {cls:=.type "range",data:=.fields #[.int lo t,.int hi u,.int 1 v]}
 |.frz o u=>h.get? a=some o∧ObjOk H h a u
 |.tbl ps=>h.get? a=some {cls:=.none,data:=.fields ps}
 |.met f x=>h.get? a=some (PySem.W.methodObj (.ref f) (.ref x))
 |.ext φ=>φ h∧(∃o,h.get? a=some o)∧∀h1 h2:Heap,φ h1→(∀o,h1.get? a=some o→h2.get? a=some o)→φ h2
def HOk (H:Hp) (h:Heap):Prop:=∀a o,H a=some o→ObjOk P w H h a o
end
section
variable {P:Program} {w:World} {H H':Hp} {h h':Heap} {a:Addr} {o:HO}
theorem ObjOk.lt (x:ObjOk P w H h a o):a<h.objs.size:=by
 cases o with
 |lst xs=>obtain ⟨_,_,_,_,e⟩:=x;exact Heap.lt_size e
 |tup xs=>obtain ⟨_,_,_,p⟩:=x;exact p.lt
 |dK kvs=>obtain ⟨_,_,_,_,o,_,_,e,_⟩:=x;exact Heap.lt_size e
 |dT kvs=>obtain ⟨_,_,_,_,o,_,_,e,_⟩:=x;exact Heap.lt_size e
 |set S n=>obtain ⟨o,_,_,_,e,_⟩:=x;exact Heap.lt_size e
 |ins C dx fs=>obtain ⟨_,_,_,e,_⟩:=x;exact Heap.lt_size e
 |own y=>obtain ⟨_,e⟩:=x;exact Heap.lt_size e
 |xd fs=>obtain ⟨_,⟨_,_,_,e,_⟩,_⟩:=x;exact Heap.lt_size e
 |rng lo hi=>obtain ⟨_,_,_,e⟩:=x;exact Heap.lt_size e
 |frz ob u=>obtain ⟨e,_⟩:=x;exact Heap.lt_size e
 |tbl ps=>exact Heap.lt_size (show h.get? a=some _ from x)
 |met f y=>exact Heap.lt_size (show h.get? a=some _ from x)
 |ext φ=>obtain ⟨_,⟨_,e⟩,_⟩:=x;exact Heap.lt_size e
theorem Paired.mapP {α β:Type} {F G:α→β→Prop}:∀{l₁:List α} {l₂:List β},Paired F l₁ l₂→(∀a b,F a b→G a b)→Paired G l₁ l₂
 |_,_,.nil,_=>.nil
 |_,_,.cons r t,f=>.cons (f _ _ r) (Paired.mapP t f)
theorem ObjOk.stay (x:ObjOk P w H h a o) (k:∀b u,(b=a∨H b=some (.own a))→h.get? b=some u→h'.get? b=some u)
  (ho:∀b,H b=some (.own a)→H' b=some (.own a)) (ht:∀b xs,H b=some (.tup xs)→H' b=some (.tup xs)):ObjOk P w H' h' a o:=by
 induction o with
 |lst xs=>obtain ⟨z,its,n,r,e⟩:=x;exact ⟨z,its,n,r,k _ _ (.inl rfl) e⟩
 |tup xs=>obtain ⟨z,its,r,ob,e,c⟩:=x;exact ⟨z,its,r,ob,k _ _ (.inl rfl) e,c⟩
 |dK kvs=>obtain ⟨z,y,vs,r,ob,es,ep,e,c⟩:=x;exact ⟨z,y,vs,r,ob,es,ep,k _ _ (.inl rfl) e,c⟩
 |dT kvs =>
  obtain ⟨z,y,xs,r,ob,es,ep,e,c⟩:=x;exact ⟨z,y,xs,Paired.mapP r fun p q z=>⟨z.1,ht _ _ z.2.1,z.2.2⟩,ob,es,ep,k _ _ (.inl rfl) e,c⟩
 |set S n=>obtain ⟨ob,es,ep,t,e,c⟩:=x;exact ⟨ob,es,ep,t,k _ _ (.inl rfl) e,c⟩
 |ins C dx fs =>
  obtain ⟨d,z,ne,e,mA,⟨od,es,ep,e2,c⟩,r⟩:=x;exact ⟨ho _ d,z,ne,k _ _ (.inl rfl) e,mA,⟨od,es,ep,k _ _ (.inr d) e2,c⟩,r⟩
 |own y=>obtain ⟨ob,e⟩:=x;exact ⟨ob,k _ _ (.inl rfl) e⟩
 |xd fs=>obtain ⟨mA,⟨od,es,ep,e,c⟩,r⟩:=x;exact ⟨mA,⟨od,es,ep,k _ _ (.inl rfl) e,c⟩,r⟩
 |rng lo hi=>obtain ⟨t,u,v,e⟩:=x;exact ⟨t,u,v,k _ _ (.inl rfl) e⟩
 |frz ob u ih=>obtain ⟨e,q⟩:=x;exact ⟨k _ _ (.inl rfl) e,ih q⟩
 |tbl ps =>
  have e:h.get? a=some {cls:=.none,data:=.fields ps}:=x;show h'.get? a=some {cls:=.none,data:=.fields ps};exact k a _ (.inl rfl) e
 |met f y =>
  have e:h.get? a=some (PySem.W.methodObj (.ref f) (.ref y)):=x;show h'.get? a=some (PySem.W.methodObj (.ref f) (.ref y));exact k a _ (.inl rfl) e
 |ext φ=>obtain ⟨p,⟨o,e⟩,st⟩:=x;exact ⟨st _ _ p fun o q=>k _ _ (.inl rfl) q,⟨o,k _ _ (.inl rfl) e⟩,st⟩
theorem HOk.lt (x:HOk P w H h) (e:H a=some o):a<h.objs.size:=(x a o e).lt
theorem HOk.fresh (x:HOk P w H h) (e:h.objs.size≤a):H a=none:=by
 cases q:H a with
 |none=>rfl
 |some u=>exact absurd (Nat.lt_of_lt_of_le (x.lt q) e) (Nat.lt_irrefl _)
theorem HOk.kept (x:HOk P w H h) (k:∀b u,h.get? b=some u→h'.get? b=some u):HOk P w H h':=fun a o e =>
 (x a o e).stay (fun b u _ q=>k b u q) (fun _ q=>q) fun _ _ q=>q
theorem HOk.laid (x:HOk P w H h) (k:∀b u,h.get? b=some u→h'.get? b=some u) (hp:h.objs.size≤a) (new:ObjOk P w (upd H a o) h' a o):HOk P w (upd H a o) h':=fun b u e=>by
 have hn:=x.fresh hp
 by_cases hb:b=a
 ·subst hb;rw [jD] at e;cases e;exact new
 ·rw [jG hb] at e;exact (x b u e).stay (fun c v _ q=>k c v q) (fun c q=>by rw [jG (qV q hn)];exact q) fun c xs q=>by rw [jG (qV q hn)];exact q
end
def Rd (H:Hp) (a:Addr) (u:HO):Prop:=H a=some u∨∃o,H a=some (.frz o u)
theorem Rd.of (h:H a=some u):Rd H a u:=.inl h
variable {h:Heap}
theorem Rd.ok {P:Program} {w:World} (r:Rd H a u) (x:HOk P w H h):ObjOk P w H h a u:=by
 rcases r with r|⟨o,r⟩
 ·exact x a u r
 ·obtain ⟨_,q⟩:=x a _ r;exact q
def f7:Option HO→Prop
 |some (.lst _)=>True
 |some (.dK _)=>True
 |some (.dT _)=>True
 |some (.set _ _)=>True
 |some (.ins _ _ _)=>True
 |some (.ext _)=>True
 |_=>False
section
variable {P:Program} {w:World} {H:Hp} {h h':Heap} {x e:Addr} {o':HO}
theorem HOk.write (ok:HOk P w H h) (mu:f7 (H x)) (he:e=x∨H e=some (.own x)) (k:∀b u,b≠e→h.get? b=some u→h'.get? b=some u) (heo:∃u,h'.get? e=some u)
  (new:ObjOk P w (upd H x o') h' x o'):HOk P w (upd H x o') h':=fun b u q=>by
 have nown:∀c y,H c=some (.own y)→c≠x:=fun c y r z=>by subst z;rw [r] at mu;exact mu
 have ntup:∀c xs,H c=some (.tup xs)→c≠x:=fun c xs r z=>by subst z;rw [r] at mu;exact mu
 by_cases hb:b=x
 ·subst hb;rw [jD] at q;cases q;exact new
 ·rw [jG hb] at q
  by_cases hbe:b=e
  ·have q':H b=some (.own x):=by
    rcases he with z|z
    ·exact absurd (hbe.trans z) hb
    ·rw [hbe];exact z
   rw [q] at q';cases q'
   obtain ⟨v,hv⟩:=heo;exact ⟨v,by rw [hbe];exact hv⟩
  ·refine (ok b u q).stay (fun c v hc r=>k c v ?_ r) (fun c r=>by rw [jG (nown c b r)];exact r) fun c xs r=>by rw [jG (ntup c xs r)];exact r
   rcases hc with rfl|hc
   ·exact hbe
   ·rintro rfl
    rcases he with z|z
    ·exact nown c b hc z
    ·rw [hc] at z;cases z;exact hb rfl
end
structure Un (fs ex:List Addr) (H H':Hp) (h h':Heap):Prop where
 keep:∀b o,h.get? b=some o→H b=none→b∉fs→b∉ex→h'.get? b=some o
 slot:∀b o,h.get? b=some o→H b=none→b∈fs→b∉ex→∃sl,h'.get? b=some {o with slots:=sl}
 free:∀b o,h.get? b=some o→H b=none→b∉ex→H' b=none
 there:∀b o,h.get? b=some o→b∉ex→∃o',h'.get? b=some o'
 tups:∀b xs,H b=some (.tup xs)→H' b=some (.tup xs)
 frzs:∀b o u,H b=some (.frz o u)→H' b=some (.frz o u)
 tbls:∀b ps,H b=some (.tbl ps)→∃more,H' b=some (.tbl (ps++more))
section
variable {fs fs' ex ex':List Addr} {H H1 H2:Hp} {h h1 h2 h':Heap} {a x e:Addr} {o:HO}
theorem Un.any (u:Un fs ex H H1 h h1) {b:Addr} {ob:Obj} (q:h.get? b=some ob) (n:H b=none) (hx:b∉ex):∃sl,h1.get? b=some {ob with slots:=sl}:=by
 by_cases hb:b∈fs
 ·exact u.slot b ob q n hb hx
 ·exact ⟨ob.slots,u.keep b ob q n hb hx⟩
theorem Un.kept (k:∀b u,h.get? b=some u→h'.get? b=some u):Un fs ex H H h h' :=
 ⟨fun b ob q _ _ _=>k b ob q,fun b ob q _ _ _=>⟨ob.slots,k b ob q⟩,fun _ _ _ n _=>n,fun b ob q _=>⟨ob,k b ob q⟩,fun _ _ q=>q,fun _ _ _ q=>q,fun _ ps q=>⟨#[],by rw [q];simp⟩⟩
theorem Un.refl:Un fs ex H H h h:=Un.kept fun _ _ q=>q
theorem Un.laid (k:∀b u,h.get? b=some u→h'.get? b=some u) (hp:h.objs.size≤a) (hn:H a=none):Un fs ex H (upd H a o) h h' where
 keep:=fun b u q _ _ _=>k b u q
 slot:=fun b u q _ _ _=>⟨u.slots,k b u q⟩
 free:=fun b u q n _=>by rw [jG (Nat.ne_of_lt (Nat.lt_of_lt_of_le (Heap.lt_size q) hp))];exact n
 there:=fun b u q _=>⟨u,k b u q⟩
 tups:=fun b xs q=>by rw [jG (qV q hn)];exact q
 frzs:=fun b u xs q=>by rw [jG (qV q hn)];exact q
 tbls:=fun b ps q=>⟨#[],by rw [jG (qV q hn),q];simp⟩
theorem Un.write (mu:f7 (H x)) (he:e=x∨H e=some (.own x)) (k:∀b u,b≠e→h.get? b=some u→h'.get? b=some u) (heo:∃u,h'.get? e=some u):Un fs ex H (upd H x o) h h':=by
 have hx:∀b,H b=none→b≠x:=fun b n z=>by subst z;rw [n] at mu;exact mu
 have hb:∀b,H b=none→b≠e:=fun b n z=>by
  subst z
  rcases he with r|r
  ·exact hx b n r
  ·rw [n] at r;cases r
 have hm:∀b u,H b=some u→¬f7 (some u)→b≠x:=fun b u q nm z=>by subst z;rw [q] at mu;exact nm mu
 refine ⟨fun b u q n _ _=>k b u (hb b n) q,fun b u q n _ _=>⟨u.slots,k b u (hb b n) q⟩,fun b u q n _=>by rw [jG (hx b n)];exact n,fun b u q _=>?_,
  fun b xs q=>by rw [jG (hm b _ q fun z=>z)];exact q,fun b u xs q=>by rw [jG (hm b _ q fun z=>z)];exact q,fun b ps q=>⟨#[],by rw [jG (hm b _ q fun z=>z),q];simp⟩⟩
 by_cases hbe:b=e
 ·subst hbe;exact heo
 ·exact ⟨u,k b u hbe q⟩
end
def JS (h:Heap) (H:Hp):List Addr:=(List.range h.objs.size).filter fun a=>(H a).isSome
def QW (h:Heap) (H:Hp):Heap:=PySem.W.hideAll h (JS h H)
theorem N5 (h:Heap) (H:Hp):(QW h H).objs.size=h.objs.size:=PySem.W.hideAll_size _ _
theorem iV {o:Obj} (e:h.get? b=some o) (n:H b=none):(QW h H).get? b=some o :=
 PySem.W.hideAll_get _ e fun hm=>by
  have q:(H b).isSome=true:=(List.mem_filter.mp hm).2;rw [n] at q;simp at q
theorem RN {o:Obj} (e:(QW h H).get? b=some o):h.get? b=some o∧H b=none:=by
 have e':h.get? b=some o:=PySem.W.of_hideAll (JS h H) e;refine ⟨e',?_⟩;cases q:H b with
 |none=>rfl
 |some x =>
  have hm:b∈JS h H:=List.mem_filter.mpr ⟨List.mem_range.mpr (Heap.lt_size e'),by simp [q]⟩;have z:(QW h H).get? b=none:=PySem.W.hideAll_none (JS h H) hm;rw [z] at e;cases e
def SC (g h:Heap) (L:Addr):List (Addr×Obj):=(List.range h.objs.size).filterMap fun a=>if a=L∨(g.get? a).isSome=true then none else (h.get? a).map fun o=>(a,o)
def rest (g h:Heap) (L d:Addr):List (Addr×Obj):=(SC g h L).filter fun p=>decide (p.1≠d)
end L2
namespace L2
open PySem PySem.Spec PyProof.Rows
structure Mod (K:PySem.W.Frag) (mg:Str→Option Value) (base:Heap):Prop where
 kin:K.In base
 glob:base.Ns mainGlobals mg
 blt:∃mb,base.Ns builtinsNs mb∧∀x:Str,x≠"__name__"→mb x=bootBuiltins x
 nolimit:base.NoLimit
structure Cx where
 prog:Program
 w:World
 K:PySem.W.Frag
 mg:Str→Option Value
 base:Heap
 A:Around
 N:List Str
 s₀:Shared
 H₀:Hp
 env:Env
 outer:List Env
 stack:List Env
 ex:List Addr
 fn:Str→Bool
 calm:Bool
 pn:List (Addr×Obj)
 xe:Value→Shared→Prop
def kN (l:List Env):List Addr:=l.filterMap (·.frame)
abbrev Cx.fs (X:Cx):List Addr:=kN X.outer
def fY (sc:Scope) (x:Str):Prop:=sc.names.lookup x=some .local∨sc.names.lookup x=some .cell∨sc.names.lookup x=some .free
def b7 (sc:Scope) (x:Str):Prop:=sc.names.lookup x=some .local∨sc.names.lookup x=some .cell
def VC (env:Env) (h:Heap) (m:Str→Option Value) (x:Str) (u:Value):Prop :=
 (env.kindOf x=some .local∧m x=some u)∨((env.kindOf x=some .cell∨env.kindOf x=some .free)∧∃c,env.cells.lookup x=some c∧h.IsCell c (some u))
structure Cx.Ok (X:Cx):Prop where
 mod:Mod X.K X.mg X.base
 kind:X.env.scope.kind=.function
 glob:X.env.globals=mainGlobals
 blt:X.env.builtins=builtinsNs
 above:X.s₀.heap.objs.size≤X.env.locals
 inj:∀x y c,X.env.cells.lookup x=some c→X.env.cells.lookup y=some c→x=y
 has:∀x,(X.env.kindOf x=some .cell∨X.env.kindOf x=some .free)→∃c,X.env.cells.lookup x=some c
 cab:∀x c,X.fn x=true→X.env.cells.lookup x=some c→X.s₀.heap.objs.size≤c
 hd:X.calm=true→X.A.handled=none
 frames:X.A.frames=some X.stack
 stk:X.stack=X.outer∨(X.stack=X.env::X.outer∧X.env.frame=some X.env.locals)
 exf:∀b∈X.ex,b≠X.env.locals∧∀x c,X.env.cells.lookup x=some c→c≠b
 bs:∀b o,X.base.get? b=some o→X.s₀.heap.get? b=some o∧X.H₀ b=none
 bsz:X.base.objs.size≤X.s₀.heap.objs.size
 noex:∀b o,X.base.get? b=some o→b∉X.ex
 exfs:∀b∈X.ex,b∉X.fs
 funs:X.s₀.heap.FunFrames X.base X.outer
 frf:∀b∈X.fs,X.H₀ b=none
structure Inv (X:Cx) (pins:List (Addr×Obj)) (σ:List (Option V)) (H:Hp) (s:Shared):Prop where
 ok:X.Ok
 os:s.os=X.s₀.os
 bare:AllBare s.gens
 base:Un X.fs X.ex X.H₀ H X.s₀.heap s.heap
 loc:∃m,s.heap.Ns X.env.locals m∧∀(i:Nat) (x:Str) (v:V),X.N[i]?=some x→σ[i]?=some (some v)→fY X.env.scope x→∃u,RelV v u∧VC X.env s.heap m x u
 cell:∀x c,X.env.cells.lookup x=some c→∃v,s.heap.IsCell c v
 free:H X.env.locals=none
 freeC:∀x c,X.env.cells.lookup x=some c→H c=none
 pin:∀p∈X.pn++pins,s.heap.get? p.1=some p.2∧H p.1=none∧p.1≠X.env.locals∧p.1∉X.fs∧∀v,p.2.data≠.cell v
 hok:HOk X.prog X.w H s.heap
 len:σ.length=X.N.length
section
variable {X:Cx} {pins:List (Addr×Obj)} {σ:List (Option V)} {H H':Hp} {s:Shared} {h':Heap}
theorem Cx.Ok.nofr (ok:X.Ok) {b:Addr} {o:Obj} (e:X.base.get? b=some o):b∉X.fs:=fun hb=>by
 have:=(ok.funs.mem hb).1;rw [e] at this;cases this
theorem Inv.bs (I:Inv X pins σ H s):∀b o,X.base.get? b=some o→s.heap.get? b=some o∧H b=none:=fun b o e =>
 ⟨I.base.keep b o (I.ok.bs b o e).1 (I.ok.bs b o e).2 (I.ok.nofr e) (I.ok.noex b o e),I.base.free b o (I.ok.bs b o e).1 (I.ok.bs b o e).2 (I.ok.noex b o e)⟩
theorem Inv.bk (I:Inv X pins σ H s):∀b o,X.base.get? b=some o→s.heap.get? b=some o:=fun b o e=>(I.bs b o e).1
theorem Inv.mod (I:Inv X pins σ H s):Mod X.K X.mg X.base:=I.ok.mod
theorem Inv.kIn (I:Inv X pins σ H s):X.K.In s.heap:=I.ok.mod.kin.keeps I.bk
theorem Inv.lt (I:Inv X pins σ H s):X.env.locals<s.heap.objs.size:=let ⟨_,hn,_⟩:=I.loc;hn.lt
theorem Inv.sz (I:Inv X pins σ H s):X.s₀.heap.objs.size≤s.heap.objs.size:=Nat.le_trans I.ok.above (Nat.le_of_lt I.lt)
theorem Inv.nofs (I:Inv X pins σ H s) {a:Addr} (h:s.heap.objs.size≤a):a∉X.fs:=fun hb=>by
 obtain ⟨_,o,ho,_⟩:=I.ok.funs.mem hb;exact absurd (Nat.lt_of_lt_of_le (Heap.lt_size ho) (Nat.le_trans I.sz h)) (Nat.lt_irrefl _)
theorem Inv.cne (I:Inv X pins σ H s):∀x c,X.env.cells.lookup x=some c→c≠X.env.locals:=fun x c e z=>by
 obtain ⟨v,o,ho,hd⟩:=I.cell x c e;obtain ⟨m,⟨o',es,ep,ho',hd',_⟩,_⟩:=I.loc;rw [z,ho'] at ho;cases ho;rw [hd'] at hd;cases hd
theorem Inv.funs (I:Inv X pins σ H s):s.heap.FunFrames X.base X.outer:=by
 have all:∀(l:List Env),(∀b∈kN l,b∈X.fs)→X.s₀.heap.FunFrames X.base l→s.heap.FunFrames X.base l:=by
  intro l
  induction l with
  |nil=>intro _ _;trivial
  |cons env r ih =>
   intro hs hl;obtain ⟨hk,⟨L,o,hf,hn,ho,hd⟩,hr⟩:=hl;have hL:L∈X.fs:=hs L (by unfold kN;rw [List.filterMap_cons,hf];exact List.mem_cons_self);obtain ⟨sl,e⟩:=I.base.slot L o ho (I.ok.frf L hL) hL fun z=>I.ok.exfs L z hL
   exact ⟨hk,⟨L,_,hf,hn,e,hd⟩,ih (fun b hb=>hs b (by unfold kN;rw [List.filterMap_cons,hf];exact List.mem_cons_of_mem _ hb)) hr⟩
 exact all X.outer (fun _ hb=>hb) I.ok.funs
theorem Inv.stack (I:Inv X pins σ H s):s.heap.FunFrames X.base X.stack:=by
 rcases I.ok.stk with e|⟨e,hf⟩
 ·rw [e];exact I.funs
 ·rw [e];obtain ⟨m,hn,_⟩:=I.loc;refine .cons (by rw [I.ok.kind];decide) hf hn ?_ I.funs;exact Heap.get?_none_of_le (Nat.le_trans I.ok.bsz I.ok.above)
theorem Inv.stkSub (I:Inv X pins σ H s):∀b∈kN X.stack,b∈X.env.locals::X.fs:=fun b hb=>by
 rcases I.ok.stk with e|⟨e,hf⟩
 ·rw [e] at hb;exact List.mem_cons_of_mem _ hb
 ·rw [e] at hb;unfold kN at hb;rw [List.filterMap_cons,hf] at hb;exact hb
theorem Inv.stkFree (I:Inv X pins σ H s):∀b∈kN X.stack,H b=none:=fun b hb=>by
 rcases List.mem_cons.mp (I.stkSub b hb) with e|hb
 ·rw [e];exact I.free
 ·obtain ⟨_,o,ho,_⟩:=I.ok.funs.mem hb;exact I.base.free b o ho (I.ok.frf b hb) fun z=>I.ok.exfs b z hb
theorem Inv.step {g':Array GenState} {t':Nat} {d':Drawn} {ch:List Addr} (I:Inv X pins σ H s)
  (hch:∀b∈ch,(b∈X.ex∨X.s₀.heap.objs.size≤b)∧b≠X.env.locals∧(∀x c,X.env.cells.lookup x=some c→c≠b)∧∀p∈X.pn++pins,p.1≠b)
  (keep:∀b o,b≠X.env.locals→b∉X.fs→b∉ch→s.heap.get? b=some o→H b=none→h'.get? b=some o)
  (slot:∀b o,b≠X.env.locals→b∈X.fs→b∉ch→s.heap.get? b=some o→H b=none→∃sl,h'.get? b=some {o with slots:=sl}) (free:∀b o,b∉ch→s.heap.get? b=some o→H b=none→H' b=none)
  (there:∀b o,b∉ch→s.heap.get? b=some o→∃o',h'.get? b=some o')
  (tups:∀b xs,H b=some (.tup xs)→H' b=some (.tup xs)) (frzs:∀b o u,H b=some (.frz o u)→H' b=some (.frz o u)) (tbls:∀b ps,H b=some (.tbl ps)→∃more,H' b=some (.tbl (ps++more)))
  (ns:∀m,s.heap.Ns X.env.locals m→h'.Ns X.env.locals m) (hok:HOk X.prog X.w H' h') (hg:AllBare g') :
  Inv X pins σ H' {s with heap:=h',gens:=g',drawn:=d',toks:=t'}:=by
 have neL:∀b o,X.s₀.heap.get? b=some o→b≠X.env.locals:=fun b o e=>Nat.ne_of_lt (Nat.lt_of_lt_of_le (Heap.lt_size e) I.ok.above)
 have neC:∀b o,X.s₀.heap.get? b=some o→b∉X.ex→b∉ch:=fun b o e hx hb=>by
  rcases (hch b hb).1 with z|z
  ·exact hx z
  ·exact absurd (Nat.lt_of_lt_of_le (Heap.lt_size e) z) (Nat.lt_irrefl _)
 have cellK:∀x c,X.env.cells.lookup x=some c→∀v,s.heap.IsCell c v→h'.IsCell c v:=fun x c e v ⟨o,ho,hd⟩=>by
  have nch:c∉ch:=fun z=>(hch c z).2.2.1 x c e rfl
  by_cases hc:c∈X.fs
  ·obtain ⟨sl,q⟩:=slot c o (I.cne x c e) hc nch ho (I.freeC x c e);exact ⟨_,q,hd⟩
  ·exact ⟨o,keep c o (I.cne x c e) hc nch ho (I.freeC x c e),hd⟩
 refine ⟨I.ok,I.os,hg,⟨fun b o e n hb hx=>?_,fun b o e n hb hx=>?_,fun b o e n hx=>?_,fun b o e hx=>?_,fun b xs e=>tups b xs (I.base.tups b xs e),fun b o xs e=>frzs b o xs (I.base.frzs b o xs e),fun b ps e=>?_⟩,?_,fun x c e=>?_,?_,fun x c e=>?_,fun p hp=>?_,hok,I.len⟩
 ·exact keep b o (neL b o e) hb (neC b o e hx) (I.base.keep b o e n hb hx) (I.base.free b o e n hx)
 ·obtain ⟨sl,e1⟩:=I.base.slot b o e n hb hx;obtain ⟨sl',e2⟩:=slot b _ (neL b o e) hb (neC b o e hx) e1 (I.base.free b o e n hx);exact ⟨sl',e2⟩
 ·obtain ⟨o',e1⟩:=I.base.there b o e hx;exact free b o' (neC b o e hx) e1 (I.base.free b o e n hx)
 ·obtain ⟨o',e1⟩:=I.base.there b o e hx;exact there b o' (neC b o e hx) e1
 ·obtain ⟨m1,e1⟩:=I.base.tbls b ps e;obtain ⟨m2,e2⟩:=tbls b _ e1;exact ⟨m1++m2,by rw [e2,Array.append_assoc]⟩
 ·obtain ⟨m,hn,hl⟩:=I.loc;refine ⟨m,ns m hn,fun i x v e1 e2 e3=>?_⟩;obtain ⟨u,r,l⟩:=hl i x v e1 e2 e3;refine ⟨u,r,?_⟩
  rcases l with l|⟨k,c,e,z⟩
  ·exact .inl l
  ·exact .inr ⟨k,c,e,cellK x c e _ z⟩
 ·obtain ⟨v,z⟩:=I.cell x c e;exact ⟨v,cellK x c e v z⟩
 ·obtain ⟨m,⟨o,_,_,ho,_⟩,_⟩:=I.loc;exact free _ o (fun z=>(hch _ z).2.1 rfl) ho I.free
 ·obtain ⟨v,o,ho,hd⟩:=I.cell x c e;exact free c o (fun z=>(hch c z).2.2.1 x c e rfl) ho (I.freeC x c e)
 ·obtain ⟨e,n,ne,nf,d⟩:=I.pin p hp;have nch:p.1∉ch:=fun z=>(hch p.1 z).2.2.2 p hp rfl
  exact ⟨keep p.1 p.2 ne nf nch e n,free p.1 p.2 nch e n,ne,nf,d⟩
theorem Inv.un {t':Nat} (I:Inv X pins σ H s) (u:Un X.fs [] H H' s.heap h') (hok:HOk X.prog X.w H' h'):Inv X pins σ H' {s with heap:=h',toks:=t'}:=by
  obtain ⟨m,⟨o,es,ep,ho,r⟩,_⟩:=id I.loc;obtain ⟨sl,hL⟩:=u.any ho I.free (by simp);exact I.step (g':=s.gens) (d':=s.drawn) (ch:=[]) (fun _ z=>nomatch z) (fun b o _ hb _ e n=>u.keep b o e n hb (by simp)) (fun b o _ hb _ e n=>u.slot b o e n hb (by simp)) (fun b o _ e n=>u.free b o e n (by simp)) (fun b o _ e=>u.there b o e (by simp)) u.tups u.frzs u.tbls (fun m' hm=>by
    obtain ⟨o',es',ep',ho',r'⟩:=hm;rw [ho] at ho';cases ho'
    exact ⟨_,es',ep',hL,r'⟩) hok I.bare
theorem Inv.call {g':Array GenState} {t':Nat} {d':Drawn} {ch:List Addr} (I:Inv X pins σ H s) (u:Un (kN X.stack) ch H H' s.heap h') (hok:HOk X.prog X.w H' h') (hg:AllBare g')
  (hch:∀b∈ch,(b∈X.ex∨X.s₀.heap.objs.size≤b)∧b≠X.env.locals∧(∀x c,X.env.cells.lookup x=some c→c≠b)∧∀p∈X.pn++pins,p.1≠b) :
  Inv X pins σ H' {s with heap:=h',gens:=g',drawn:=d',toks:=t'}:=by
 obtain ⟨m,⟨o,es,ep,ho,r⟩,_⟩:=id I.loc;obtain ⟨sl,hL⟩:=u.any ho I.free fun z=>(hch _ z).2.1 rfl
 exact I.step (ch:=ch) hch (fun b o hL hb hc e n=>u.keep b o e n (fun z=>(List.mem_cons.mp (I.stkSub b z)).elim hL hb) hc) (fun b o _ _ hc e n=>u.any e n hc) (fun b o hc e n=>u.free b o e n hc) (fun b o hc e=>u.there b o e hc) u.tups u.frzs u.tbls (fun m' hm=>by
  obtain ⟨o',es',ep',ho',r'⟩:=hm;rw [ho] at ho';cases ho'
  exact ⟨_,es',ep',hL,r'⟩) hok hg
theorem Inv.turned {t':Nat} {it:Addr} (I:Inv X pins σ H s) (k:∀b o,b≠it→s.heap.get? b=some o→h'.get? b=some o) (hn:H it=none) (hL:it≠X.env.locals)
    (h1:it∈X.ex∨X.s₀.heap.objs.size≤it) (h2:∀x c,X.env.cells.lookup x=some c→c≠it) (h3:∀p∈X.pn++pins,p.1≠it):Inv X pins σ H {s with heap:=h',toks:=t'}:=by
  have nit:∀b u,H b=some u→b≠it:=fun b u e z=>by rw [z,hn] at e;cases e
  refine I.step (g':=s.gens) (d':=s.drawn) (ch:=[it]) (fun b hb=>?_) (fun b o _ _ hc e _=>k b o (fun z=>hc (by simp [z])) e) (fun b o _ _ hc e _=>⟨o.slots,k b o (fun z=>hc (by simp [z])) e⟩) (fun _ _ _ _ n=>n)
    (fun b o hc e=>⟨o,k b o (fun z=>hc (by simp [z])) e⟩) (fun _ _ e=>e) (fun _ _ _ e=>e) (fun b ps e=>⟨#[],by rw [e];simp⟩) (fun m hm=>?_) (fun b u e=>?_) I.bare
  · have e:b=it:=by simpa using hb
    subst e;exact ⟨h1,hL,h2,h3⟩
  · obtain ⟨o,es,ep,ho,r⟩:=hm
    exact ⟨o,es,ep,k _ o (Ne.symm hL) ho,r⟩
  · refine (I.hok b u e).stay (fun c v hc q=>k c v ?_ q) (fun _ q=>q) fun _ _ q=>q
    rcases hc with z|z
    · rw [z];exact nit b u e
    · exact nit c _ z
theorem Inv.tok (I:Inv X pins σ H s) (t:Nat):Inv X pins σ H {s with toks:=t}:=I.un (h':=s.heap) (t':=t) Un.refl I.hok
theorem Inv.kept {t':Nat} (I:Inv X pins σ H s) (k:∀b u,s.heap.get? b=some u→h'.get? b=some u):Inv X pins σ H {s with heap:=h',toks:=t'}:=I.un (Un.kept k) (I.hok.kept k)
theorem Inv.laid {a:Addr} {o:HO} {t':Nat} (I:Inv X pins σ H s) (k:∀b u,s.heap.get? b=some u→h'.get? b=some u) (hp:s.heap.objs.size≤a) (new:ObjOk X.prog X.w (upd H a o) h' a o) :
  Inv X pins σ (upd H a o) {s with heap:=h',toks:=t'}:=I.un (Un.laid k hp (I.hok.fresh hp)) (I.hok.laid k hp new)
theorem Inv.write {x e:Addr} {o:HO} {t':Nat} (I:Inv X pins σ H s) (mu:f7 (H x)) (he:e=x∨H e=some (.own x)) (k:∀b u,b≠e→s.heap.get? b=some u→h'.get? b=some u) (heo:∃u,h'.get? e=some u)
  (new:ObjOk X.prog X.w (upd H x o) h' x o):Inv X pins σ (upd H x o) {s with heap:=h',toks:=t'}:=I.un (Un.write mu he k heo) (I.hok.write mu he k heo new)
theorem Inv.pins_of {pins':List (Addr×Obj)} (I:Inv X pins σ H s) (h:∀p∈pins',s.heap.get? p.1=some p.2∧H p.1=none∧p.1≠X.env.locals∧p.1∉X.fs∧∀v,p.2.data≠.cell v):Inv X pins' σ H s :=
 ⟨I.ok,I.os,I.bare,I.base,I.loc,I.cell,I.free,I.freeC,fun p hp=>(List.mem_append.mp hp).elim (fun z=>I.pin p (List.mem_append_left _ z)) (h p),I.hok,I.len⟩
theorem BM {N:List Str} (hN:N.Nodup) {i j:Nat} {x:Str} (a:N[i]?=some x) (b:N[j]?=some x):i=j:=by
 obtain ⟨h1,e1⟩:=List.getElem?_eq_some_iff.mp a;obtain ⟨h2,e2⟩:=List.getElem?_eq_some_iff.mp b;exact (List.getElem_inj hN).mp (e1.trans e2.symm)
theorem xO {M:Model} {A:Around} {E:Value→Shared→Prop} {i:Nat} {x:Str} {v:V} {u:Value} {Q:Unit→Shared→Prop} (I:Inv X pins σ H s) (hN:X.N.Nodup) (hi:X.N[i]?=some x) (hx:b7 X.env.scope x) (r:RelV v u)
  (h:∀s',Inv X pins (σ.set i (some v)) H s'→(∃a,Heap.SameBut a s.heap s'.heap∧(a=X.env.locals∨X.env.cells.lookup x=some a))→Q () s') (hf:X.fn x=true∨X.env.scope.names.lookup x=some .local:=by first|exact .inl rfl|exact .inr rfl|assumption):wpAny M A (storeName X.env x u) Q E s:=by
 obtain ⟨m,hn,hl⟩:=id I.loc;have hcls:(X.env.scope.kind == .class||(X.env.scope.kind == .module&&X.env.locals != X.env.globals))=false:=by rw [I.ok.kind];rfl
 have hiσ:i<σ.length:=by rw [I.len];exact (List.getElem?_eq_some_iff.mp hi).1
 have cne:=I.cne;have tracked:∀{a:Addr} {h':Heap},(∃o,s.heap.get? a=some o∧H a=none)→Heap.SameBut a s.heap h'→HOk X.prog X.w H h':=fun {a h'} ha hs b ob e=>by
  obtain ⟨_,_,hfree⟩:=ha;refine (I.hok b ob e).stay (fun c w' hc q=>(hs.2 c ?_).trans q) (fun _ q=>q) fun _ _ q=>q
  rintro rfl
  rcases hc with rfl|hc
  ·rw [hfree] at e;cases e
  ·rw [hfree] at hc;cases hc
 rcases hx with hk|hk
 ·refine wpAny_storeName_local hk hn (fun h' hn' hs=>?_) hcls;obtain ⟨oL,_,_,hoL,_⟩:=id hn;refine h _ ⟨I.ok,I.os,I.bare,⟨fun b o e n hb hx=>?_,fun b o e n hb hx=>?_,I.base.free,fun b o e hx=>?_,I.base.tups,I.base.frzs,I.base.tbls⟩,⟨_,hn',fun j y v' e1 e2 e3=>?_⟩,fun y c e=>?_,I.free,I.freeC,fun p hp=>?_,tracked ⟨oL,hoL,I.free⟩ hs,by simpa using I.len⟩ ⟨_,hs,.inl rfl⟩
  ·exact (hs.2 b (Nat.ne_of_lt (Nat.lt_of_lt_of_le (Heap.lt_size e) I.ok.above))).trans (I.base.keep b o e n hb hx)
  ·obtain ⟨sl,e1⟩:=I.base.slot b o e n hb hx;exact ⟨sl,(hs.2 b (Nat.ne_of_lt (Nat.lt_of_lt_of_le (Heap.lt_size e) I.ok.above))).trans e1⟩
  ·obtain ⟨o',e1⟩:=I.base.there b o e hx;exact ⟨o',(hs.2 b (Nat.ne_of_lt (Nat.lt_of_lt_of_le (Heap.lt_size e) I.ok.above))).trans e1⟩
  ·by_cases hj:j=i
   ·subst hj;rw [hi] at e1;cases e1
    rw [List.getElem?_set_self hiσ] at e2;cases e2;exact ⟨u,r,.inl ⟨hk,by simp⟩⟩
   ·rw [List.getElem?_set_ne (Ne.symm hj)] at e2;obtain ⟨u',r',q⟩:=hl j y v' e1 e2 e3;refine ⟨u',r',?_⟩
    rcases q with ⟨k,e⟩|⟨k,c,e,z⟩
    ·refine .inl ⟨k,?_⟩;have:y≠x:=fun e=>hj (BM hN e1 (e▸hi))
     simp [this,e]
    ·exact .inr ⟨k,c,e,z.sameBut hs (cne y c e)⟩
  ·obtain ⟨w',z⟩:=I.cell y c e;exact ⟨w',z.sameBut hs (cne y c e)⟩
  ·obtain ⟨e,n,ne,nf,d⟩:=I.pin p hp;exact ⟨(hs.2 p.1 ne).trans e,n,ne,nf,d⟩
 ·have hfn:X.fn x=true:=by
   rcases hf with z|z
   ·exact z
   ·rw [z] at hk;cases hk
  obtain ⟨c,hc⟩:=I.ok.has x (.inl hk);obtain ⟨w',z⟩:=I.cell x c hc;refine wpAny_storeName_cell I.ok.kind hk hc z (fun h' hc' hs=>?_);obtain ⟨oc,hoc,hocd⟩:=id z;refine h {s with heap:=h'} ⟨I.ok,I.os,I.bare,⟨fun b o e n hb hx=>?_,fun b o e n hb hx=>?_,I.base.free,fun b o e hx=>?_,I.base.tups,I.base.frzs,I.base.tbls⟩,⟨m,hn.sameBut hs (Ne.symm (cne x c hc)),fun j y v' e1 e2 e3=>?_⟩,fun y c' e=>?_,I.free,I.freeC,fun p hp=>?_,tracked ⟨oc,hoc,I.freeC x c hc⟩ hs,by simpa using I.len⟩ ⟨c,hs,.inr hc⟩
  ·exact (hs.2 b (Nat.ne_of_lt (Nat.lt_of_lt_of_le (Heap.lt_size e) (I.ok.cab x c hfn hc)))).trans (I.base.keep b o e n hb hx)
  ·obtain ⟨sl,e1⟩:=I.base.slot b o e n hb hx;exact ⟨sl,(hs.2 b (Nat.ne_of_lt (Nat.lt_of_lt_of_le (Heap.lt_size e) (I.ok.cab x c hfn hc)))).trans e1⟩
  ·obtain ⟨o',e1⟩:=I.base.there b o e hx;exact ⟨o',(hs.2 b (Nat.ne_of_lt (Nat.lt_of_lt_of_le (Heap.lt_size e) (I.ok.cab x c hfn hc)))).trans e1⟩
  ·by_cases hj:j=i
   ·subst hj;rw [hi] at e1;cases e1
    rw [List.getElem?_set_self hiσ] at e2;cases e2;exact ⟨u,r,.inr ⟨.inl hk,c,hc,hc'⟩⟩
   ·rw [List.getElem?_set_ne (Ne.symm hj)] at e2;obtain ⟨u',r',q⟩:=hl j y v' e1 e2 e3;refine ⟨u',r',?_⟩
    rcases q with q|⟨k,c',e,z'⟩
    ·exact .inl q
    ·refine .inr ⟨k,c',e,z'.sameBut hs ?_⟩;rintro rfl;exact hj (BM hN e1 (I.ok.inj _ _ _ e hc▸hi))
  ·by_cases hcc:c'=c
   ·subst hcc;exact ⟨_,hc'⟩
   ·obtain ⟨w2,z2⟩:=I.cell y c' e;exact ⟨w2,z2.sameBut hs hcc⟩
  ·obtain ⟨e,n,ne,nf,d⟩:=I.pin p hp;refine ⟨(hs.2 p.1 ?_).trans e,n,ne,nf,d⟩;intro q;rw [q,hoc] at e;have q':oc=p.2:=Option.some.inj e;exact d w' (by rw [← q'];exact hocd)
theorem pY {M:Model} {A:Around} {E:Value→Shared→Prop} {i:Nat} {x:Str} {v:V} {u:Value} {Q:Unit→Shared→Prop} (I:Inv X pins σ H s) (hN:X.N.Nodup) (hi:X.N[i]?=some x) (hx:b7 X.env.scope x) (r:RelV v u)
  (h:∀s',Inv X pins (σ.set i (some v)) H s'→Q () s') (hf:X.fn x=true∨X.env.scope.names.lookup x=some .local:=by first|exact .inl rfl|exact .inr rfl|assumption):wpAny M A (storeName X.env x u) Q E s :=
 xO I hN hi hx r (fun s' I' _=>h s' I') hf
theorem Inv.call' {s':Shared} {ch:List Addr} (I:Inv X pins σ H s) (ho:s'.os=s.os) (u:Un (kN X.stack) ch H H' s.heap s'.heap) (hok:HOk X.prog X.w H' s'.heap) (hg:AllBare s'.gens)
  (hch:∀b∈ch,(b∈X.ex∨X.s₀.heap.objs.size≤b)∧b≠X.env.locals∧(∀x c,X.env.cells.lookup x=some c→c≠b)∧∀p∈X.pn++pins,p.1≠b):Inv X pins σ H' s':=by
 obtain ⟨h',g',d',t',o'⟩:=s';have e:o'=s.os:=ho;subst e;exact I.call (g':=g') (t':=t') (d':=d') u hok hg hch
end
abbrev XK:=Value→Option Addr→Hp→Prop
abbrev St:=List (Option V)
abbrev VK:=V→Hp→Prop
abbrev TE:=St→Hp→VK→Prop
abbrev TT:=St→Hp→(Bool→Hp→Prop)→Prop
abbrev TA:=St→Hp→(List V→Hp→Prop)→Prop
structure Ends where
 nx:St→Hp→Prop
 rt:VK
 bk:St→Hp→Prop:=fun _ _=>False
 ct:St→Hp→Prop:=fun _ _=>False
abbrev TS:=Ends→St→Hp→Prop
def EP (X:Cx) (pins:List (Addr×Obj)) (σ:St) (Q:VK) (u:Value) (s':Shared):Prop:=∃v H',Inv X pins σ H' s'∧RelV v u∧Q v H'
def TP (X:Cx) (pins:List (Addr×Obj)) (σ:St) (Q:Bool→Hp→Prop) (b:Bool) (s':Shared):Prop:=∃H',Inv X pins σ H' s'∧Q b H'
def AP (X:Cx) (pins:List (Addr×Obj)) (σ:St) (Q:List V→Hp→Prop) (us:List Value) (s':Shared):Prop:=∃vs H',Inv X pins σ H' s'∧Vals vs us∧Q vs H'
def SP (X:Cx) (pins:List (Addr×Obj)) (D:Ends) (f:Flow) (s':Shared):Prop :=
 match f with
 |.next=>∃σ' H',Inv X pins σ' H' s'∧D.nx σ' H'
 |.brk=>∃σ' H',Inv X pins σ' H' s'∧D.bk σ' H'
 |.cont=>∃σ' H',Inv X pins σ' H' s'∧D.ct σ' H'
 |.ret u=>∃v σ' H',Inv X pins σ' H' s'∧RelV v u∧D.rt v H'
def PE (X:Cx) (e:Expr) (t:TE):Prop :=
 ∀(pins:List (Addr×Obj)) (s:Shared) (σ:St) (H:Hp) (Q:VK),Inv X pins σ H s→t σ H Q→wpAny (model X.prog X.w) X.A (eval e X.env) (EP X pins σ Q) X.xe s
def PT (X:Cx) (e:Expr) (t:TT):Prop :=
 ∀(pins:List (Addr×Obj)) (s:Shared) (σ:St) (H:Hp) (Q:Bool→Hp→Prop),Inv X pins σ H s→t σ H Q→wpAny (model X.prog X.w) X.A (isTrue e X.env (eval e X.env)) (TP X pins σ Q) X.xe s
def PW (X:Cx) (e:Expr) (t:TT):Prop :=
 ∀(whole:Sem Value) (pins:List (Addr×Obj)) (s:Shared) (σ:St) (H:Hp) (Q:Bool→Hp→Prop),Inv X pins σ H s→t σ H Q→wpAny (model X.prog X.w) X.A (isTrue e X.env whole) (TP X pins σ Q) X.xe s
theorem PW.pt {X:Cx} {e:Expr} {t:TT} (h:PW X e t):PT X e t:=h _
def PA (X:Cx) (es:List Expr) (t:TA):Prop :=
 ∀(pos:Pos) (pins:List (Addr×Obj)) (s:Shared) (σ:St) (H:Hp) (Q:List V→Hp→Prop),Inv X pins σ H s→t σ H Q→wpAny (model X.prog X.w) X.A (spliced (backTo pos (starEach es X.env))) (AP X pins σ Q) X.xe s
def PS (X:Cx) (st:Stmt) (t:TS):Prop :=
 ∀(pins:List (Addr×Obj)) (s:Shared) (σ:St) (H:Hp) (D:Ends),Inv X pins σ H s→t D σ H→wpAny (model X.prog X.w) X.A (exec st X.env) (SP X pins D) X.xe s
def PSs (X:Cx) (st:List Stmt) (t:TS):Prop :=
 ∀(pins:List (Addr×Obj)) (s:Shared) (σ:St) (H:Hp) (D:Ends),Inv X pins σ H s→t D σ H→wpAny (model X.prog X.w) X.A (execs st X.env) (SP X pins D) X.xe s
theorem jN {α:Type} {t:Sem α} {Q Q':α→Shared→Prop} {M:Model} {A:Around} {E:Value→Shared→Prop} {s:Shared} (h:wpAny M A t Q E s) (hQ:∀a s,Q a s→Q' a s):wpAny M A t Q' E s:=wpAny_mono h hQ fun _ _ x=>x
section
variable {X:Cx}
def EV (i:Nat):TE:=fun σ H Q=>∃v,σ[i]?=some (some v)∧Q v H
def tC (v:V):TE:=fun _ H Q=>Q v H
theorem DU {i:Nat} {x:Str} {pos:Pos} (hN:X.N[i]?=some x) (hv:fY X.env.scope x) (hd:(x == ("__debug__":Str))=false:=by decide) (hcd:(x == ("__classdict__":Str))=false:=by decide):PE X (.Name x pos) (EV i):=by
 intro pins s σ H Q I h;obtain ⟨v,e,h⟩:=h;obtain ⟨m,hn,hl⟩:=I.loc;obtain ⟨u,r,l⟩:=hl i x v hN e hv;have fin:EP X pins σ Q u s:=⟨v,H,I,r,h⟩
 rcases l with ⟨hk,hm⟩|⟨hk,c,hc,hcell⟩
 ·exact wpAny_Name (wpAny_loadName_local I.ok.kind hk hn hm fin) hd
 ·rcases hk with hk|hk
  ·exact wpAny_Name (wpAny_loadName_cell I.ok.kind hk hc hcell fin) hd
  ·exact wpAny_Name (wpAny_loadName_free I.ok.kind hk hc hcell fin hcd) hd
theorem jC {i j pos}:PE X (.Constant (.int i) j pos) (tC (.int i)):=fun _ _ _ H _ I h=>wpAny_Constant_int ⟨.int i,H,I.tok _,⟨_,rfl⟩,h⟩
theorem zI {b j pos}:PE X (.Constant (.bool b) j pos) (tC (.bl b)):=fun _ _ _ H _ I h=>Constant_bool ⟨.bl b,H,I,rfl,h⟩
theorem ZN {j pos}:PE X (.Constant .none j pos) (tC .non):=fun _ _ _ H _ I h=>Constant_none ⟨.non,H,I,rfl,h⟩
theorem j6 {x j pos}:PE X (.Constant (.str x) j pos) (tC (.str x)):=fun _ _ _ H _ I h=>Calls.Constant_str ⟨.str x,H,I.tok _,⟨_,rfl⟩,h⟩
def Gl (X:Cx) (x:Str):Prop:=X.env.kindOf x=some .globalImplicit
theorem bI {E:Value→Shared→Prop} {pins:List (Addr×Obj)} {s:Shared} {σ:St} {H:Hp} {x:Str} {u:Value} {pos:Pos} {Q:Value→Shared→Prop} (I:Inv X pins σ H s) (hg:Gl X x) (hm:X.mg x=some u) (h:Q u s)
  (hd:(x == ("__debug__":Str))=false:=by decide):wpAny (model X.prog X.w) X.A (eval (.Name x pos) X.env) Q E s :=
 Calls.Name_function_global I.ok.kind hg (Calls.loadGlobal_global (by rw [I.ok.glob];exact I.mod.glob.keeps I.bk) hm h) hd
theorem Q6 {E:Value→Shared→Prop} {pins:List (Addr×Obj)} {s:Shared} {σ:St} {H:Hp} {x:Str} {u:Value} {pos:Pos} {Q:Value→Shared→Prop} (I:Inv X pins σ H s) (hg:Gl X x) (hm:X.mg x=none) (hv:bootBuiltins x=some u) (h:Q u s)
  (hn:x≠"__name__":=by decide) (hd:(x == ("__debug__":Str))=false:=by decide):wpAny (model X.prog X.w) X.A (eval (.Name x pos) X.env) Q E s:=by
 obtain ⟨mb,h1,h2⟩:=I.mod.blt;exact Calls.Name_function_global I.ok.kind hg (Calls.loadGlobal_builtin (by rw [I.ok.glob];exact I.mod.glob.keeps I.bk) hm (by rw [I.ok.blt];exact h1.keeps I.bk) ((h2 x hn).trans hv) h) hd
theorem fB {x:Str} {v:V} {u:Value} {pos:Pos} (hg:Gl X x) (hm:X.mg x=some u) (r:RelV v u) (hd:(x == ("__debug__":Str))=false:=by decide):PE X (.Name x pos) (tC v) :=
 fun _ _ _ H _ I h=>bI I hg hm ⟨v,H,I,r,h⟩ hd
theorem cY {x:Str} {v:V} {u:Value} {pos:Pos} (hg:Gl X x) (hm:X.mg x=none) (hv:bootBuiltins x=some u) (r:RelV v u) (hn:x≠"__name__":=by decide) (hd:(x == ("__debug__":Str))=false:=by decide):PE X (.Name x pos) (tC v) :=
 fun _ _ _ H _ I h=>Q6 I hg hm hv ⟨v,H,I,r,h⟩ hn hd
variable {a b:Expr} {ta tb:TE} {pos:Pos}
def PC (X:Cx) (op:CmpOp) (a b:Expr) (t:TE):Prop :=
 ∀(pins:List (Addr×Obj)) (s:Shared) (σ:St) (H:Hp) (Q:VK),Inv X pins σ H s→t σ H Q→
  wpAny (model X.prog X.w) X.A (eval a X.env) (fun v s₁=>wpAny (model X.prog X.w) X.A (eval b X.env) (fun u s₂=>wpAny (model X.prog X.w) X.A (compareOp op v u) (EP X pins σ Q) X.xe s₂) X.xe s₁) X.xe s
theorem OY (b:Expr) {op:CmpOp} (h:op≠.In) (h2:op≠.NotIn):behindInMarks op b=false:=by
 have e1:(op == CmpOp.In)=false:=by cases op<;>first|rfl|exact absurd rfl h
 have e2:(op == CmpOp.NotIn)=false:=by cases op<;>first|rfl|exact absurd rfl h2
 cases b<;>simp [behindInMarks,e1,e2]
def tB (t:TE):TT:=fun σ H Q=>t σ H fun x H1=>∃c,x=.bl c∧Q c H1
theorem DS {op:CmpOp} {t:TE} (h:PC X op a b t) (h1:behindInMarks op b=false:=by first|exact OY _ (by decide) (by decide)|rfl):PT X (.Compare a [op] [b] pos) (tB t):=by
 intro pins s σ H Q I hw;refine wpAny_isTrue_Compare1 (jN (h pins s σ H _ I hw) fun v s1 h1=>jN h1 fun u s2 h2=>jN h2 fun c s3 ⟨x,H1,I1,r1,q1⟩=>?_) h1;obtain ⟨d,rfl,q⟩:=q1;cases r1;exact wpAny_truthy_bool ⟨H1,I1,q⟩
theorem yH {e:Expr} {t:TE} (h:PE X e t) (he:∀whole,isTrue e X.env whole=(do let v ← whole;standAt e.pos;holding [v] (truthy v)):=by intro _;rfl):PT X e (tB t):=by
 intro pins s σ H Q I hw;refine isTrue_plain (jN (h pins s σ H _ I hw) fun v s1 ⟨x,H1,I1,r1,q1⟩=>?_) (he _);obtain ⟨d,rfl,q⟩:=q1;cases r1;exact wpAny_truthy_bool ⟨H1,I1,q⟩
variable {tA tB':TT} {rest:List Expr}
def UV (t u:TT):TT:=fun σ H Q=>t σ H fun c H1=>if c=true then u σ H1 Q else Q false H1
def VL (t u:TT):TT:=fun σ H Q=>t σ H fun c H1=>if c=true then Q true H1 else u σ H1 Q
def UO (t:TT):TT:=fun σ H Q=>t σ H fun c H1=>Q (!c) H1
theorem RD (ha:PT X a tA):PW X (.BoolOp .And [a] pos) tA:=by
 intro wh pins s σ H Q I h;refine isTrue_and (jN (ha pins s σ H Q I h) fun c s1 e=>?_);cases c with
 |true=>exact isTrue_and_nil e
 |false=>exact e
theorem dE (ha:PT X a tA):PW X (.BoolOp .Or [a] pos) tA:=by
 intro wh pins s σ H Q I h;refine isTrue_or (jN (ha pins s σ H Q I h) fun c s1 e=>?_);cases c with
 |false=>exact isTrue_or_nil e
 |true=>exact e
theorem SM (ha:PT X a tA) (hb:PW X (.BoolOp .And (b::rest) pos) tB'):PW X (.BoolOp .And (a::b::rest) pos) (UV tA tB'):=by
 intro wh pins s σ H Q I h;refine isTrue_and (jN (ha pins s σ H _ I h) fun c s1 ⟨H1,I1,q1⟩=>?_);cases c with
 |true=>exact hb wh pins s1 σ H1 Q I1 q1
 |false=>exact ⟨H1,I1,q1⟩
theorem ZA (ha:PT X a tA) (hb:PW X (.BoolOp .Or (b::rest) pos) tB'):PW X (.BoolOp .Or (a::b::rest) pos) (VL tA tB'):=by
 intro wh pins s σ H Q I h;refine isTrue_or (jN (ha pins s σ H _ I h) fun c s1 ⟨H1,I1,q1⟩=>?_);cases c with
 |true=>exact ⟨H1,I1,q1⟩
 |false=>exact hb wh pins s1 σ H1 Q I1 q1
theorem Q3 (ha:PT X a tA):PT X (.UnaryOp .Not a pos) (UO tA):=by
 intro pins s σ H Q I h;exact isTrue_not (ha pins s σ H (fun c H1=>Q (!c) H1) I h)
def TW (ta tb:TE):TE:=fun σ H Q=>ta σ H fun x H1=>∃c,x=.bl c∧if c=true then tb σ H1 Q else Q (.bl false) H1
theorem sU {op} {t:TE} (h:PE X a t):PE X (.BoolOp op [a] pos) t:=fun pins s σ H Q I hw=>BoolOp_one (h pins s σ H Q I hw)
theorem sV (ha:PE X a ta) (hb:PE X (.BoolOp .And (b::rest) pos) tb):PE X (.BoolOp .And (a::b::rest) pos) (TW ta tb):=by
 intro pins s σ H Q I h;refine BoolOp_and (jN (ha pins s σ H _ I h) fun v s1 ⟨x,H1,I1,r1,q1⟩=>?_);obtain ⟨c,rfl,q1⟩:=q1;cases r1;refine wpAny_truthy_bool ?_;cases c with
 |true=>exact hb pins s1 σ H1 Q I1 q1
 |false=>exact ⟨.bl false,H1,I1,rfl,q1⟩
def VM (t:TT) (ta tb:TE):TE:=fun σ H Q=>t σ H fun c H1=>if c=true then ta σ H1 Q else tb σ H1 Q
theorem Q0 {c:Expr} (hc:PT X c tA) (ha:PE X a ta) (hb:PE X b tb):PE X (.IfExp c a b pos) (VM tA ta tb):=by
 intro pins s σ H Q I h;refine wpAny_IfExp (jN (hc pins s σ H _ I h) fun d s1 ⟨H1,I1,q1⟩=>?_);cases d with
 |true=>exact ha pins s1 σ H1 Q I1 q1
 |false=>exact hb pins s1 σ H1 Q I1 q1
end
def SqL (K:PySem.W.Frag) (H:Hp) (a:Addr) (xs:List V):Prop :=
 Rd H a (.lst xs)∨
  ∃(o:Obj) (its:Array Value) (n:Nat),K.lookup a=some o∧o.cls=.type "list"∧o.dict=none∧o.data=.seq its n∧its.size≤sizeLine∧Vals xs its.toList
def SqT (K:PySem.W.Frag) (H:Hp) (a:Addr) (xs:List V):Prop :=
 Rd H a (.tup xs)∨
  ∃(o:Obj) (its:Array Value) (n:Nat),K.lookup a=some o∧o.cls=.type "tuple"∧o.data=.seq its n∧its.size≤sizeLine∧Vals xs its.toList
def VA:Value→Option V
 |.none=>some .non
 |.bool b=>some (.bl b)
 |.int i _=>some (.int i)
 |.str x _=>some (.str x)
 |.bytes b _=>some (.byt b)
 |.float b _=>some (.flt b)
 |.ref a=>some (.ref a)
 |.type n=>some (.ty n)
 |_=>none
variable {u:Value}
theorem RelV.abs {x:V} (r:RelV x u):VA u=some x:=by
 cases x with
 |non=>cases r;rfl
 |bl _=>cases r;rfl
 |int _=>obtain ⟨t,rfl⟩:=r;rfl
 |str _=>obtain ⟨t,rfl⟩:=r;rfl
 |byt _=>obtain ⟨t,rfl⟩:=r;rfl
 |flt _=>obtain ⟨t,rfl⟩:=r;rfl
 |ref _=>cases r;rfl
 |ty _=>cases r;rfl
theorem RelV.inj {x y:V} (r:RelV x u) (q:RelV y u):x=y:=Option.some.inj (r.abs.symm.trans q.abs)
theorem Vals.inj:∀{xs ys:List V} {us:List Value},Vals xs us→Vals ys us→xs=ys
 |_,_,_,.nil,.nil=>rfl
 |_,_,_,.cons r t,.cons r' t'=>by rw [r.inj r',Vals.inj t t']
section
variable {X:Cx} {pins:List (Addr×Obj)} {σ:St} {H:Hp} {s:Shared} {a:Addr} {xs ys:List V}
theorem SqL.of {K:PySem.W.Frag} (h:H a=some (.lst xs)):SqL K H a xs:=.inl (.inl h)
theorem SqT.of {K:PySem.W.Frag} (h:H a=some (.tup xs)):SqT K H a xs:=.inl (.inl h)
theorem Inv.list (I:Inv X pins σ H s) (h:SqL X.K H a xs):∃its:List Value,Vals xs its∧PlainL s.heap a its.toArray∧xs.length≤sizeLine:=by
 rcases h with h|⟨o,its,n,hk,hc,hd,hs,hz,r⟩
 ·obtain ⟨z,its,n,r,e⟩:=h.ok I.hok;exact ⟨its,r,⟨_,n,e,rfl,rfl,rfl⟩,z⟩
 ·refine ⟨its.toList,r,⟨o,n,I.kIn a o hk,hc,hd,by simpa using hs⟩,?_⟩;have e:=r.length;simp only [Array.length_toList] at e;omega
theorem Inv.tuple (I:Inv X pins σ H s) (h:SqT X.K H a xs):∃its:List Value,Vals xs its∧IsTup s.heap a its.toArray∧xs.length≤sizeLine:=by
 rcases h with h|⟨o,its,n,hk,hc,hs,hz,r⟩
 ·obtain ⟨z,its,r,p⟩:=h.ok I.hok;exact ⟨its,r,p,z⟩
 ·refine ⟨its.toList,r,⟨o,I.kIn a o hk,hc,n,by simpa using hs⟩,?_⟩;have e:=r.length;simp only [Array.length_toList] at e;omega
theorem Inv.list_inj (I:Inv X pins σ H s) (h:SqL X.K H a xs) (h':SqL X.K H a ys):xs=ys:=by
 obtain ⟨its,r,⟨o,n,e,_,_,d⟩,_⟩:=I.list h;obtain ⟨its',r',⟨o',n',e',_,_,d'⟩,_⟩:=I.list h';rw [e] at e';cases e'
 rw [d] at d';injection d' with d1 _
 have:its=its':=by simpa using congrArg Array.toList d1
 subst this;exact r.inj r'
theorem Inv.tuple_inj (I:Inv X pins σ H s) (h:SqT X.K H a xs) (h':SqT X.K H a ys):xs=ys:=by
 obtain ⟨its,r,⟨o,e,_,n,d⟩,_⟩:=I.tuple h;obtain ⟨its',r',⟨o',e',_,n',d'⟩,_⟩:=I.tuple h';rw [e] at e';cases e'
 rw [d] at d';injection d' with d1 _
 have:its=its':=by simpa using congrArg Array.toList d1
 subst this;exact r.inj r'
end
abbrev Cx.wish (X:Cx) (E:Value→Shared→Prop):Cx:={X with xe:=E}
abbrev Cx.nox (X:Cx):Cx:=X.wish fun _ _=>False
variable {X:Cx}
theorem Cx.Ok.wish (ok:X.Ok) (E:Value→Shared→Prop):(X.wish E).Ok :=
 ⟨ok.mod,ok.kind,ok.glob,ok.blt,ok.above,ok.inj,ok.has,ok.cab,ok.hd,ok.frames,ok.stk,ok.exf,ok.bs,ok.bsz,ok.noex,ok.exfs,ok.funs,ok.frf⟩
theorem Cx.Ok.unwish {E:Value→Shared→Prop} (ok:(X.wish E).Ok):X.Ok :=
 ⟨ok.mod,ok.kind,ok.glob,ok.blt,ok.above,ok.inj,ok.has,ok.cab,ok.hd,ok.frames,ok.stk,ok.exf,ok.bs,ok.bsz,ok.noex,ok.exfs,ok.funs,ok.frf⟩
section
variable {X:Cx} {pins:List (Addr×Obj)} {σ:St} {H:Hp} {s:Shared} {E:Value→Shared→Prop}
theorem Inv.wish (I:Inv X pins σ H s) (E:Value→Shared→Prop):Inv (X.wish E) pins σ H s:=⟨I.ok.wish E,I.os,I.bare,I.base,I.loc,I.cell,I.free,I.freeC,I.pin,I.hok,I.len⟩
theorem Inv.unwish (I:Inv (X.wish E) pins σ H s):Inv X pins σ H s:=⟨I.ok.unwish,I.os,I.bare,I.base,I.loc,I.cell,I.free,I.freeC,I.pin,I.hok,I.len⟩
theorem SP.unwish {D:Ends} {f:Flow} {s':Shared} (h:SP (X.wish E) pins D f s'):SP X pins D f s':=by
 cases f with
 |next=>obtain ⟨σ',H',I,q⟩:=h;exact ⟨σ',H',I.unwish,q⟩
 |brk=>obtain ⟨σ',H',I,q⟩:=h;exact ⟨σ',H',I.unwish,q⟩
 |cont=>obtain ⟨σ',H',I,q⟩:=h;exact ⟨σ',H',I.unwish,q⟩
 |ret u=>obtain ⟨v,σ',H',I,r,q⟩:=h;exact ⟨v,σ',H',I.unwish,r,q⟩
theorem PE.nox {e:Expr} {t:TE} (h:PE X.nox e t):PE X e t:=fun pins s σ H Q I hw =>
 wpAny_mono (h pins s σ H Q (I.wish _) hw) (fun _ _ ⟨v,H',I',r,q⟩=>⟨v,H',I'.unwish,r,q⟩) fun _ _ z=>False.elim z
theorem PSs.nox {st:List Stmt} {t:TS} (h:PSs X.nox st t):PSs X st t:=fun pins s σ H D I hw =>
 wpAny_mono (h pins s σ H D (I.wish _) hw) (fun _ _ q=>q.unwish) fun _ _ z=>False.elim z
end
section
variable {X:Cx} {st:Stmt} {rest:List Stmt} {t u:TS} {e:Expr} {te:TE} {pos:Pos}
def TL:TS:=fun D σ H=>D.nx σ H
def UN (t u:TS):TS:=fun D σ H=>t {D with nx:=u D} σ H
theorem kT:PSs X [] TL:=fun _ _ σ H _ I h=>wpAny_execs_nil ⟨σ,H,I,h⟩
theorem jH (h1:PS X st t) (h2:PSs X rest u):PSs X (st::rest) (UN t u):=by
 intro pins s σ H D I h;refine wpAny_execs_cons (jN (h1 pins s σ H {D with nx:=u D} I h) fun f s1 q=>?_);cases f with
 |next =>
  obtain ⟨σ',H',I',q⟩:=q;exact h2 pins s1 σ' H' D I' q
 |ret v=>exact q
 |brk=>exact q
 |cont=>exact q
theorem qG (h1:PS X st t):PSs X [st] t:=by
 intro pins s σ H D I h;refine wpAny_execs_cons (jN (h1 pins s σ H D I h) fun f s1 q=>?_);cases f with
 |next=>exact wpAny_execs_nil q
 |ret v=>exact q
 |brk=>exact q
 |cont=>exact q
theorem Inv.quiet {pins:List (Addr×Obj)} {σ:St} {H:Hp} {s:Shared} (I:Inv X pins σ H s):interactive X.env=false:=by simp [interactive,I.ok.kind]
def TN (te:TE):TS:=fun D σ H=>te σ H fun _ H1=>D.nx σ H1
theorem JE (he:PE X e te) (hs:swapsWith e none pos.line X.env=pure false:=by rfl):PS X (.Expr e pos) (TN te):=by
 intro pins s σ H D I h;exact wpAny_Expr_any (jN (he pins s σ H _ I h) fun v s1 ⟨x,H1,I1,r1,q1⟩=>⟨σ,H1,I1,q1⟩) I.quiet hs
def EW (te:TE):TS:=fun D σ H=>te σ H D.rt
theorem FG (he:PE X e te):PS X (.Return (some e) pos) (EW te):=by
 intro pins s σ H D I h;exact wpAny_Return_some (jN (he pins s σ H _ I h) fun v s1 ⟨x,H1,I1,r1,q1⟩=>⟨x,σ,H1,I1,r1,q1⟩)
def UR (c:TT) (t u:TS):TS:=fun D σ H=>c σ H fun b H1=>if b=true then t D σ H1 else u D σ H1
theorem kU {c:Expr} {a b:List Stmt} {tc:TT} (hc:PT X c tc) (ha:PSs X a t) (hb:PSs X b u):PS X (.If c a b pos) (UR tc t u):=by
 intro pins s σ H D I h;refine wpAny_If (jN (hc pins s σ H _ I h) fun d s1 ⟨H1,I1,q1⟩=>?_);cases d with
 |true=>exact ha pins s1 σ H1 D I1 q1
 |false=>exact hb pins s1 σ H1 D I1 q1
end
abbrev TG:=V→St→Hp→(St→Hp→Prop)→Prop
abbrev Z8:=List V→St→Hp→(St→Hp→Prop)→Prop
def PG (X:Cx) (target:Expr) (t:TG):Prop :=
 ∀(pins:List (Addr×Obj)) (s:Shared) (σ:St) (H:Hp) (v:V) (u:Value) (Q:St→Hp→Prop),Inv X pins σ H s→RelV v u→t v σ H Q→
  wpAny (model X.prog X.w) X.A (assign target X.env u) (fun _ s'=>∃σ' H',Inv X pins σ' H' s'∧Q σ' H') X.xe s
def fZ (X:Cx) (ts:List Expr) (t:Z8):Prop :=
 ∀(pins:List (Addr×Obj)) (s:Shared) (σ:St) (H:Hp) (vs:List V) (us:List Value) (Q:St→Hp→Prop),Inv X pins σ H s→Vals vs us→t vs σ H Q→
  wpAny (model X.prog X.w) X.A (assignInOrder ((assignEach ts X.env).map (·.2)) us) (fun _ s'=>∃σ' H',Inv X pins σ' H' s'∧Q σ' H') X.xe s
abbrev fQ:=V→V→V→Hp→(Hp→Prop)→Prop
def uC (X:Cx) (t:fQ):Prop :=
 ∀(pins:List (Addr×Obj)) (s:Shared) (σ:St) (H:Hp) (o i v:V) (ov iv u:Value) (Q:Hp→Prop),Inv X pins σ H s→RelV o ov→RelV i iv→RelV v u→t o i v H Q→
  wpAny (model X.prog X.w) X.A (setItem ov iv u) (fun _ s'=>∃H',Inv X pins σ H' s'∧Q H') X.xe s
abbrev mJ:=V→V→Hp→VK→Prop
def uS (X:Cx) (op:Operator) (t:mJ):Prop :=
 ∀(pins:List (Addr×Obj)) (s:Shared) (σ:St) (H:Hp) (x y:V) (v u:Value) (Q:VK),Inv X pins σ H s→RelV x v→RelV y u→t x y H Q→
  wpAny (model X.prog X.w) X.A (inplaceOp op v u) (EP X pins σ Q) X.xe s
section
variable {X:Cx} {pos:Pos}
def bP (i:Nat):TG:=fun v σ H Q=>Q (σ.set i (some v)) H
theorem kF {i:Nat} {x:Str} (hN:X.N.Nodup) (hi:X.N[i]?=some x) (hx:b7 X.env.scope x) (hf:X.fn x=true∨X.env.scope.names.lookup x=some .local:=by first|exact .inl rfl|exact .inr rfl|assumption):PG X (.Name x pos) (bP i):=by
 intro pins s σ H v u Q I r h;exact wpAny_assign_Name (pY I hN hi hx r (fun s' I'=>⟨_,H,I',h⟩) hf)
def U7:Z8:=fun vs σ H Q=>vs=[]∧Q σ H
def UG (t:TG) (u:Z8):Z8:=fun vs σ H Q=>∃v r,vs=v::r∧t v σ H fun σ' H'=>u r σ' H' Q
theorem z3:fZ X [] U7:=by
 intro pins s σ H vs us Q I r h;obtain ⟨e,h⟩:=h;subst e;cases r;exact assignInOrder_nil ⟨σ,H,I,h⟩
theorem qT {e:Expr} {es:List Expr} {t:TG} {u:Z8} (h1:PG X e t) (h2:fZ X es u)
  (hs:(assignEach (e::es) X.env).map (·.2)=assign e X.env::(assignEach es X.env).map (·.2):=by rfl):fZ X (e::es) (UG t u):=by
 intro pins s σ H vs us Q I r h;obtain ⟨v,vr,e1,h⟩:=h;subst e1;cases r with
 |cons r rr =>
  rw [hs];refine assignInOrder_cons (jN (h1 pins s σ H _ _ _ I r h) fun _ s1 ⟨σ1,H1,I1,q1⟩=>?_);exact h2 pins s1 σ1 H1 _ _ Q I1 rr q1
def E3 (K:PySem.W.Frag) (n:Nat) (t:Z8):TG:=fun v σ H Q=>∃a xs,v=.ref a∧SqT K H a xs∧xs.length=n∧t xs σ H Q
theorem lF {es:List Expr} {k:Nat} {t:Z8} {n:Nat} (hc:X.calm=true) (h:fZ X es t)
  (hn:(assignEach es X.env).length=n:=by rfl) (hst:(assignEach es X.env).findIdx? (·.1)=none:=by rfl):PG X (.Tuple es k pos) (E3 X.K n t):=by
 intro pins s σ H v u Q I r hw;obtain ⟨a,xs,e1,hq,hl,hw⟩:=hw;subst e1;cases r;obtain ⟨its,rv,ht,hz⟩:=I.tuple hq;refine assign_Tuple_tuple (I.ok.hd hc) ht (by simp [hn,← hl,rv.length]) hst fun h' hx=>?_
 have I1:Inv X pins σ H {s with heap:=h'}:=I.kept (t':=s.toks) fun b o e=>hx b o (Nat.ne_of_lt (Heap.lt_size e)) e
 exact h pins _ σ H xs _ Q I1 (by simpa using rv) hw
def U6 (to ti:TE) (t:fQ):TG:=fun v σ H Q=>to σ H fun o H1=>ti σ H1 fun i H2=>t o i v H2 fun H3=>Q σ H3
theorem sQ {o i:Expr} {to ti:TE} {t:fQ} (ho:PE X o to) (hi:PE X i ti) (hs:uC X t)
  (ha:∀v,assign (.Subscript o i pos) X.env v=(do
   let ov ← holding [v] (eval o X.env)
   let iv ← holding [v,ov] (eval i X.env)
   standAt pos
   holding [v,ov,iv] (setItem ov iv v)
   release [v,ov,iv] []):=by intro _;rfl):PG X (.Subscript o i pos) (U6 to ti t):=by
 intro pins s σ H v u Q I r h;rw [ha];refine wpAny_bind (wpAny_holding (jN (ho pins s σ H _ I h) fun ov s1 ⟨x,H1,I1,r1,q1⟩=>?_));refine wpAny_bind (wpAny_holding (jN (hi pins s1 σ H1 _ I1 q1) fun iv s2 ⟨y,H2,I2,r2,q2⟩=>?_));refine wpAny_bind (wpAny_standAt (wpAny_bind (wpAny_holding (jN (hs pins s2 σ H2 x y v ov iv u _ I2 r1 r2 r q2) fun _ s3 ⟨H3,I3,q3⟩=>?_))));exact wpAny_release ⟨σ,H3,I3,q3⟩
def tT (te:TE) (g:TG):TS:=fun D σ H=>te σ H fun x H1=>g x σ H1 D.nx
theorem sP {tg e:Expr} {te:TE} {g:TG} (he:PE X e te) (hg:PG X tg g) (hs:swapsWithSole [tg] e pos.line X.env=pure false:=by rfl) (hw:swappedStores [tg] e X.env=pure none:=by rfl)
  (h1:(assignEach [tg] X.env).map (·.2)=[assign tg X.env]:=by rfl):PS X (.Assign [tg] e pos) (tT te g):=by
 intro pins s σ H D I h;refine wpAny_Assign_stores (jN (he pins s σ H _ I h) fun v s1 ⟨x,H1,I1,r1,q1⟩=>?_) hs hw;rw [h1];exact jN (hg pins s1 σ H1 x v _ I1 r1 q1) fun _ s2 q=>q
theorem FH {i:Nat} {x:Str} {e:Expr} {te:TE} {pos':Pos} (hN:X.N.Nodup) (hi:X.N[i]?=some x) (hx:b7 X.env.scope x) (he:PE X e te) (hs:swapsWith e (some (.Name x pos')) pos.line X.env=pure false:=by rfl) (hf:X.fn x=true∨X.env.scope.names.lookup x=some .local:=by first|exact .inl rfl|exact .inr rfl|assumption) :
  PS X (.Assign [.Name x pos'] e pos) (tT te (bP i)):=by
 intro pins s σ H D I h;refine wpAny_Assign_Name (jN (he pins s σ H _ I h) fun v s1 ⟨y,H1,I1,r1,q1⟩=>?_) hs;exact pY I1 hN hi hx r1 (fun s2 I2=>⟨_,H1,I2,q1⟩) hf
def TV (to ti te:TE) (tget:V→V→Hp→VK→Prop) (tip:mJ) (tset:fQ):TS:=fun D σ H=>to σ H fun o H1=>ti σ H1 fun i H2=>tget o i H2 fun x H3=>te σ H3 fun y H4=>tip x y H4 fun z H5=>tset o i z H5 fun H6=>D.nx σ H6
def E7 (X:Cx) (t:V→V→Hp→VK→Prop):Prop :=
 ∀(pins:List (Addr×Obj)) (s:Shared) (σ:St) (H:Hp) (o i:V) (ov iv:Value) (Q:VK),Inv X pins σ H s→RelV o ov→RelV i iv→t o i H Q→
  wpAny (model X.prog X.w) X.A (getItem ov iv) (EP X pins σ Q) X.xe s
theorem rT {o i e:Expr} {to ti te:TE} {tget:V→V→Hp→VK→Prop} {tip:mJ} {tset:fQ} {op:Operator} {tpos:Pos} (ho:PE X o to) (hi:PE X i ti) (hg:E7 X tget) (he:PE X e te) (hp:uS X op tip) (hs:uC X tset)
  (ha:∀ov iv new,augStore i ov iv new=(do holding [new,ov,iv] (setItem ov iv new);release [new,ov,iv] [];pure .next):=by intros;rfl):PS X (.AugAssign (.Subscript o i tpos) op e pos) (TV to ti te tget tip tset):=by
 intro pins s σ H D I h;refine wpAny_AugAssign_SubscriptAny (jN (ho pins s σ H _ I h) fun ov s1 ⟨x1,H1,I1,r1,q1⟩=>?_) ha;refine jN (hi pins s1 σ H1 _ I1 q1) fun iv s2 ⟨x2,H2,I2,r2,q2⟩=>?_
 refine jN (hg pins s2 σ H2 x1 x2 ov iv _ I2 r1 r2 q2) fun old s3 ⟨x3,H3,I3,r3,q3⟩=>?_
 refine jN (he pins s3 σ H3 _ I3 q3) fun v s4 ⟨x4,H4,I4,r4,q4⟩=>?_
 refine jN (hp pins s4 σ H4 x3 x4 old v _ I4 r3 r4 q4) fun new s5 ⟨x5,H5,I5,r5,q5⟩=>?_
 exact jN (hs pins s5 σ H5 x1 x2 x5 ov iv new _ I5 r1 r2 r5 q5) fun _ s6 ⟨H6,I6,q6⟩=>⟨σ,H6,I6,q6⟩
def FA (f:Int→Int→Int):mJ:=fun x y H Q=>∃i j,x=.int i∧y=.int j∧Q (.int (f i j)) H
theorem D9:uS X .Add (FA fun i j=>i+j):=by
 intro pins s σ H x y v u Q I r1 r2 h;obtain ⟨i,j,e1,e2,q⟩:=h;subst e1;subst e2
 obtain ⟨t,rfl⟩:=r1;obtain ⟨t',rfl⟩:=r2;exact iadd_int ⟨.int _,H,I.tok _,⟨_,rfl⟩,q⟩
theorem S6:uS X .Sub (FA fun i j=>i - j):=by
 intro pins s σ H x y v u Q I r1 r2 h;obtain ⟨i,j,e1,e2,q⟩:=h;subst e1;subst e2
 obtain ⟨t,rfl⟩:=r1;obtain ⟨t',rfl⟩:=r2;exact isub_int ⟨.int _,H,I.tok _,⟨_,rfl⟩,q⟩
def SE (c:TT) (tb:TS):TS:=fun D σ H=>∃W:Nat→St→Hp→Prop,(∃m,W m σ H)∧∀m σ H,W m σ H→
 c σ H fun b H1=>if b=true then ∃N:St→Hp→Prop,(∀σ' H',N σ' H'→∃m',m'<m∧W m' σ' H')∧tb {D with nx:=N,ct:=N,bk:=D.nx} σ H1 else D.nx σ H1
theorem rB {c:Expr} {body:List Stmt} {tc:TT} {tb:TS} (hp:PassesOwn (model X.prog X.w) X.A X.env X.xe) (hc:PT X c tc) (hb:PSs X body tb):PS X (.While c body [] pos) (SE tc tb):=by
 intro pins s σ H D I h;obtain ⟨W,⟨m0,w0⟩,turn⟩:=h;refine wpAny_While (codeAny_whileLoop (fun n s'=>∃σ' H',Inv X pins σ' H' s'∧W n σ' H') ?_ m0 ⟨σ,H,I,w0⟩);rintro n s1 ⟨σ1,H1,I1,w1⟩;refine wpAny_passesOwn hp (jN (hc pins s1 σ1 H1 _ I1 (turn n σ1 H1 w1)) fun b s2 ⟨H2,I2,q2⟩=>?_);cases b with
 |true =>
  obtain ⟨N,hN,q2⟩:=q2;rw [if_pos rfl];refine wpAny_passesOwn hp (jN (hb pins s2 σ1 H2 _ I2 q2) fun f s3 q3=>?_);cases f with
  |next =>
   obtain ⟨σ3,H3,I3,n3⟩:=q3;obtain ⟨m',hm,w3⟩:=hN σ3 H3 n3;exact ⟨m',hm,σ3,H3,I3,w3⟩
  |cont =>
   obtain ⟨σ3,H3,I3,n3⟩:=q3;obtain ⟨m',hm,w3⟩:=hN σ3 H3 n3;exact ⟨m',hm,σ3,H3,I3,w3⟩
  |brk=>exact q3
  |ret v=>exact q3
 |false =>
  rw [if_neg Bool.false_ne_true];exact wpAny_execs_nil ⟨σ1,H2,I2,q2⟩
end
structure It where
 go:Nat→Hp→Prop
 yld:Nat→Hp→V→Hp→Prop
 stop:Nat→Hp→Prop
def JR (X:Cx) (pins:List (Addr×Obj)) (H:Hp) (b:Addr):Prop :=
 H b=none∧b≠X.env.locals∧b∉X.fs∧(b∈X.ex∨X.s₀.heap.objs.size≤b)∧(∀x c,X.env.cells.lookup x=some c→c≠b)∧∀p∈X.pn++pins,p.1≠b
theorem Inv.fpOk {pins:List (Addr×Obj)} {σ:St} {H H':Hp} {s:Shared} {b:Addr} (I:Inv X pins σ H s) (hb:s.heap.objs.size≤b) (hn:H' b=none):JR X pins H' b:=by
 refine ⟨hn,Nat.ne_of_gt (Nat.lt_of_lt_of_le I.lt hb),I.nofs hb,.inr (Nat.le_trans I.sz hb),fun x c e z=>?_,fun p hp z=>?_⟩
 ·obtain ⟨v,q⟩:=I.cell x c e;exact absurd (Nat.lt_of_lt_of_le q.lt (by rw [z];exact hb)) (Nat.lt_irrefl _)
 ·exact absurd (Nat.lt_of_lt_of_le (Heap.lt_size (I.pin p hp).1) (by rw [z];exact hb)) (Nat.lt_irrefl _)
structure Turn (P:Program) (w:World) (K:PySem.W.Frag) (tg:Expr) (J:It) (fp:List Addr) (it:Addr) (tn:Nat→Heap→Prop):Prop where
 mem:it∈fp
 obj:∀i h,tn i h→∀b∈fp,∃o,h.get? b=some o∧∀v,o.data≠.cell v
 keep:∀i h h',tn i h→(∀b∈fp,∀o,h.get? b=some o→h'.get? b=some o)→tn i h'
 item:∀(X:Cx),X.prog=P→X.w=w→X.K=K→X.calm=true→∀(i:Nat) (pins:List (Addr×Obj)) (s:Shared) (σ:St) (H:Hp) (E:Value→Shared→Prop),Inv X pins σ H s→(∀b∈fp,JR X pins H b)→tn i s.heap→J.go i H→
  wpAny (model P w) X.A (pyNext (.ref it)) (fun r s1=>∃u,r=some u∧
   wpAny (model P w) X.A (letOwnedTupleGo tg (.ref it) u) (fun _ s2=>∃x H',Inv X pins σ H' s2∧RelV x u∧J.yld i H x H'∧tn (i+1) s2.heap∧∀b∈fp,H' b=none) E s1) E s
 done:∀(X:Cx),X.prog=P→X.w=w→X.K=K→X.calm=true→∀(i:Nat) (pins:List (Addr×Obj)) (s:Shared) (σ:St) (H:Hp) (E:Value→Shared→Prop),Inv X pins σ H s→(∀b∈fp,JR X pins H b)→tn i s.heap→J.stop i H→
  wpAny (model P w) X.A (pyNext (.ref it)) (fun r s1=>r=none∧Inv X pins σ H s1) E s
 self:∀(A:Around) (i:Nat) (s:Shared) (Q:Value→Shared→Prop) (E:Value→Shared→Prop),tn i s.heap→Q (.ref it) s→wpAny (model P w) A (pyIter (.ref it)) Q E s
abbrev TI:=St→Hp→(It→Hp→Prop)→Prop
def FC (X:Cx) (pins:List (Addr×Obj)) (σ:St) (tg:Expr) (R:It→Hp→Prop) (itv:Value) (s2:Shared):Prop :=
 ∃(it:Addr) (fp:List Addr) (tn:Nat→Heap→Prop) (J:It) (H':Hp),itv=.ref it∧Inv X pins σ H' s2∧Turn X.prog X.w X.K tg J fp it tn∧tn 0 s2.heap∧(∀b∈fp,JR X pins H' b)∧R J H'
def PI (X:Cx) (tg iter:Expr) (wi:TI):Prop :=
 ∀(pins:List (Addr×Obj)) (s:Shared) (σ:St) (H:Hp) (R:It→Hp→Prop),Inv X pins σ H s→wi σ H R→
  wpAny (model X.prog X.w) X.A (eval iter X.env) (fun v s1=>wpAny (model X.prog X.w) X.A (pyIter v) (FC X pins σ tg R) X.xe s1) X.xe s
variable {tg:Expr}
theorem tP {M:Model} {A:Around} {E:Value→Shared→Prop} {s:Shared} {it:Addr} {o:Obj} {n:String} {vs:Array Value} {Q:Unit→Shared→Prop} (ho:s.heap.get? it=some o) (hc:o.cls=.type n) (hd:o.data=.fields vs)
    (hn:["enumerate","zip","dict_itemiterator","dict_reverseitemiterator","odict_iterator","itertools.zip_longest","itertools.pairwise"].contains n=false) (hQ:Q () s):wpAny M A (letOwnedTupleGo tg (.ref it) u) Q E s:=by
  unfold letOwnedTupleGo;cases tg<;>first
    |exact wpAny_pure hQ
    | (cases u<;>first
        |exact wpAny_pure hQ
        | (refine wpAny_bind (wpAny_load ho ?_)
           rw [hc,hd];show wpAny M A (if (["enumerate","zip","dict_itemiterator","dict_reverseitemiterator","odict_iterator","itertools.zip_longest","itertools.pairwise"].contains n&&vs[0]? == some (rawInt _))=true then _ else _) Q E s;rw [if_neg (by intro h;rw [hn,Bool.false_and] at h;cases h)];exact wpAny_pure hQ))
def cC (K:PySem.W.Frag) (a:Addr):It :=
 ⟨fun i H=>∃xs x,SqL K H a xs∧xs[i]?=some x,fun i H x H'=>H'=H∧∀xs,SqL K H a xs→xs[i]?=some x,fun i H=>∃xs,SqL K H a xs∧xs.length≤i⟩
def gA (K:PySem.W.Frag) (a:Addr):It :=
 ⟨fun i H=>∃xs x,SqT K H a xs∧xs[i]?=some x,fun i H x H'=>H'=H∧∀xs,SqT K H a xs→xs[i]?=some x,fun i H=>∃xs,SqT K H a xs∧xs.length≤i⟩
def Z9 (lo:Int) (n:Nat):It:=⟨fun i _=>i<n,fun i H x H'=>H'=H∧x=.int (lo+i),fun i _=>n≤i⟩
variable {P:Program} {w:World} {K:PySem.W.Frag}
theorem NI (a it:Addr):Turn P w K tg (cC K a) [it] it (fun i h=>h.IsListIter it a i) where
 mem:=by simp
 obj:=fun i h st b hb=>by
  have e:b=it:=by simpa using hb
  subst e;obtain ⟨o,e,c,d⟩:=st;exact ⟨o,e,fun v z=>by rw [d] at z;cases z⟩
 keep:=fun i h h' st k=>st.at fun o e=>k it (by simp) o e
 item:=by
  intro X hP hw hK hc i pins s σ H E I hf st hg;subst hP hw hK;obtain ⟨xs,x,hq,hx⟩:=hg;obtain ⟨its,rv,p,hz⟩:=I.list hq;obtain ⟨u,hu,ru⟩:=rv.get hx;obtain ⟨f0,f1,f2,f3,f4,f5⟩:=hf it (by simp);refine wpAny_pyNext_list_item st p.isList (x:=u) (by simpa using hu) fun h' st' sb=>?_
  have I1:Inv X pins σ H {s with heap:=h'}:=I.turned (t':=s.toks) (fun b o hb e=>(sb.2 b hb).trans e) f0 f1 f3 f4 f5;obtain ⟨o,e,c,d⟩:=id st';exact ⟨u,rfl,tP (s:={s with heap:=h'}) e c d (by decide) ⟨x,H,I1,ru,⟨rfl,fun ys hy=>by rw [I.list_inj hy hq];exact hx⟩,st',fun b hb=>(hf b hb).1⟩⟩
 done:=by
  intro X hP hw hK hc i pins s σ H E I hf st hg;subst hP hw hK;obtain ⟨xs,hq,hx⟩:=hg;obtain ⟨its,rv,p,hz⟩:=I.list hq;obtain ⟨f0,f1,f2,f3,f4,f5⟩:=hf it (by simp);have hl:=rv.length;exact wpAny_pyNext_list_end (I.ok.hd hc) st p.isList (by simp;omega) fun h' eb=>⟨rfl,I.turned (t':=s.toks) (fun b o hb e=>eb b o hb e) f0 f1 f3 f4 f5⟩
 self:=fun _ _ _ _ _ st h=>wpAny_pyIter_listiter st h
theorem MI (a it:Addr):Turn P w K tg (gA K a) [it] it (fun i h=>h.IsTupleIter it a i) where
 mem:=by simp
 obj:=fun i h st b hb=>by
  have e:b=it:=by simpa using hb
  subst e;obtain ⟨o,e,c,d⟩:=st;exact ⟨o,e,fun v z=>by rw [d] at z;cases z⟩
 keep:=fun i h h' st k=>st.at fun o e=>k it (by simp) o e
 item:=by
  intro X hP hw hK hc i pins s σ H E I hf st hg;subst hP hw hK;obtain ⟨xs,x,hq,hx⟩:=hg;obtain ⟨its,rv,p,hz⟩:=I.tuple hq;obtain ⟨u,hu,ru⟩:=rv.get hx;obtain ⟨f0,f1,f2,f3,f4,f5⟩:=hf it (by simp);refine wpAny_pyNext_tuple_item st (show s.heap.IsTuple a its.toArray from p) (x:=u) (by simpa using hu) fun h' st' sb=>?_
  have I1:Inv X pins σ H {s with heap:=h'}:=I.turned (t':=s.toks) (fun b o hb e=>(sb.2 b hb).trans e) f0 f1 f3 f4 f5;obtain ⟨o,e,c,d⟩:=id st';exact ⟨u,rfl,tP (s:={s with heap:=h'}) e c d (by decide) ⟨x,H,I1,ru,⟨rfl,fun ys hy=>by rw [I.tuple_inj hy hq];exact hx⟩,st',fun b hb=>(hf b hb).1⟩⟩
 done:=by
  intro X hP hw hK hc i pins s σ H E I hf st hg;subst hP hw hK;obtain ⟨xs,hq,hx⟩:=hg;obtain ⟨its,rv,p,hz⟩:=I.tuple hq;obtain ⟨f0,f1,f2,f3,f4,f5⟩:=hf it (by simp);have hl:=rv.length;exact wpAny_pyNext_tuple_end (I.ok.hd hc) st (show s.heap.IsTuple a its.toArray from p) (by simp;omega) fun h' eb=>⟨rfl,I.turned (t':=s.toks) (fun b o hb e=>eb b o hb e) f0 f1 f3 f4 f5⟩
 self:=fun _ _ _ _ _ st h=>wpAny_pyIter_tupleiter st h
theorem MJ (it:Addr) (lo:Int) (n:Nat):Turn P w K tg (Z9 lo n) [it] it (fun i h=>IsRangeIter h it (lo+(i:Nat)*1) ((n:Int) - (i:Nat)) 1) where
 mem:=by simp
 obj:=fun i h st b hb=>by
  have e:b=it:=by simpa using hb
  subst e;exact ⟨_,st,fun v z=>by
   have z':Data.fields _=Data.cell v:=z;cases z'⟩
 keep:=fun i h h' st k=>k it (by simp) _ st
 item:=by
  intro X hP hw hK hc i pins s σ H E I hf st hg;subst hP hw hK;obtain ⟨f0,f1,f2,f3,f4,f5⟩:=hf it (by simp);have W:=Walks.range (prog:=X.prog) (w:=X.w) (I.ok.hd hc) it lo 1 n;refine W.item i s _ _ hg st fun v h' tk hv st' kk=>?_
  obtain ⟨t,rfl⟩:=hv;have I1:Inv X pins σ H {s with heap:=h',toks:=tk}:=I.turned (fun b o hb e=>kk b o (by simpa using hb) e) f0 f1 f3 f4 f5;refine ⟨_,rfl,tP (s:={s with heap:=h',toks:=tk}) (n:="range_iterator") st' rfl rfl (by decide) ⟨.int (lo+i),H,I1,⟨t,?_⟩,⟨rfl,rfl⟩,st',fun b hb=>(hf b hb).1⟩⟩;rw [Int.mul_one]
 done:=by
  intro X hP hw hK hc i pins s σ H E I hf st hg;subst hP hw hK;obtain ⟨f0,f1,f2,f3,f4,f5⟩:=hf it (by simp);exact wpAny_pyNext_range_end (I.ok.hd hc) st (by have:n≤i:=hg;omega) fun h' eb=>⟨rfl,I.turned (t':=s.toks) (fun b o hb e=>eb b o hb e) f0 f1 f3 f4 f5⟩
 self:=fun _ _ _ _ _ st h=>wpAny_pyIter_rangeiter st h
end L2
namespace L2
open PySem PySem.Spec PyProof.Rows
section
variable {X:Cx} {tg:Expr}
def UD (K:PySem.W.Frag) (tl:TE):TI:=fun σ H R=>tl σ H fun x H1=>∃a,x=.ref a∧(∃xs,SqL K H1 a xs)∧R (cC K a) H1
def U5 (K:PySem.W.Frag) (tl:TE):TI:=fun σ H R=>tl σ H fun x H1=>∃a,x=.ref a∧(∃xs,SqT K H1 a xs)∧R (gA K a) H1
theorem q0 {l:Expr} {tl:TE} (hl:PE X l tl):PI X tg l (UD X.K tl):=by
 intro pins s σ H R I h;refine jN (hl pins s σ H _ I h) fun v s1 ⟨x,H1,I1,r1,q1⟩=>?_
 obtain ⟨a,e,⟨xs,hq⟩,q⟩:=q1;subst e;cases r1;obtain ⟨its,rv,p,hz⟩:=I1.list hq;refine wpAny_pyIter_list p.isList ?_;refine ⟨s1.heap.objs.size,[s1.heap.objs.size],_,_,H1,rfl,I1.kept (t':=s1.toks) fun b o e=>Heap.get?_push_of_some _ e,NI a _,⟨_,Heap.get?_push_size _ rfl,rfl,rfl⟩,fun b hb=>?_,q⟩;have e:b=s1.heap.objs.size:=by simpa using hb
 subst e;exact I1.fpOk (Nat.le_refl _) (I1.hok.fresh (Nat.le_refl _))
theorem SQ {l:Expr} {tl:TE} (hl:PE X l tl):PI X tg l (U5 X.K tl):=by
 intro pins s σ H R I h;refine jN (hl pins s σ H _ I h) fun v s1 ⟨x,H1,I1,r1,q1⟩=>?_
 obtain ⟨a,e,⟨xs,hq⟩,q⟩:=q1;subst e;cases r1;obtain ⟨its,rv,p,hz⟩:=I1.tuple hq;refine wpAny_pyIter_tuple (show s1.heap.IsTuple a its.toArray from p) ?_;refine ⟨s1.heap.objs.size,[s1.heap.objs.size],_,_,H1,rfl,I1.kept (t':=s1.toks) fun b o e=>Heap.get?_push_of_some _ e,MI a _,⟨_,Heap.get?_push_size _ rfl,rfl,rfl⟩,fun b hb=>?_,q⟩;have e:b=s1.heap.objs.size:=by simpa using hb
 subst e;exact I1.fpOk (Nat.le_refl _) (I1.hok.fresh (Nat.le_refl _))
theorem OP {pins:List (Addr×Obj)} {σ:St} {H:Hp} {s:Shared} {R:It→Hp→Prop} {E:Value→Shared→Prop} {lo hi:Int} {t u v:Tok} {tk:Nat} (I:Inv X pins σ H s) (h1 : -(2 ^ 62)≤lo) (h2:lo<2 ^ 62) (h3 : -(2 ^ 62)≤hi) (h4:hi<2 ^ 62)
    (q:R (Z9 lo (hi - lo).toNat) H):wpAny (model X.prog X.w) X.A (pyIter (.ref s.heap.objs.size)) (FC X pins σ tg R) E {s with heap:=s.heap.push {cls:=.type "range",data:=.fields #[.int lo t,.int hi u,.int 1 v]},toks:=tk}:=by
  refine wpAny_pyIter_range (IsRange.new ..) (small_one h1 h2 h3 h4) ?_;have I1:Inv X pins σ H {s with heap:=s.heap.push {cls:=.type "range",data:=.fields #[.int lo t,.int hi u,.int 1 v]},toks:=tk}:=I.kept fun b o e=>Heap.get?_push_of_some _ e
  refine ⟨(s.heap.push {cls:=.type "range",data:=.fields #[.int lo t,.int hi u,.int 1 v]}).objs.size,[(s.heap.push {cls:=.type "range",data:=.fields #[.int lo t,.int hi u,.int 1 v]}).objs.size],_,_,H,rfl,
    I1.kept (t':=tk) fun b o e=>Heap.get?_push_of_some _ e,MJ _ lo (hi - lo).toNat,?_,fun b hb=>?_,q⟩
  · have e1:lo+((0:Nat):Int)*1=lo:=by simp
    have e2:(((hi - lo).toNat:Nat):Int) - ((0:Nat):Int)=Builtin.Range.rangeSize lo hi 1:=by rw [rangeSize_one];split<;>omega
    show IsRangeIter _ _ (lo+((0:Nat):Int)*1) ((((hi - lo).toNat:Nat):Int) - ((0:Nat):Int)) 1;rw [e1,e2];exact Heap.get?_push_size _ rfl
  · have e:b=(s.heap.push {cls:=.type "range",data:=.fields #[.int lo t,.int hi u,.int 1 v]}).objs.size:=by simpa using hb
    subst e;exact I1.fpOk (Nat.le_refl _) (I1.hok.fresh (Nat.le_refl _))
def UC (ta:TA):TI:=fun σ H R=>ta σ H fun vs H1=>∃j:Int,vs=[.int j]∧-(2 ^ 62)≤j∧j<2 ^ 62∧R (Z9 0 j.toNat) H1
theorem zY {a:Expr} {ta:TA} {p pos:Pos} (hg:Gl X "range") (hm:X.mg "range"=none) (ha:PA X [a] ta) (hs:starEach [a] X.env=[(false,eval a X.env)]:=by rfl):PI X tg (.Call (.Name "range" p) [a] [] pos) (UC ta):=by
 intro pins s σ H R I h;refine Call_ (Q6 I hg hm boot_range (PyProof.Rows.callWith_type1 (jN (ha pos pins s σ H _ I h) fun us s1 ⟨vs,H1,I1,r1,q1⟩=>?_) hs rfl));obtain ⟨j,e,q1,q2,q⟩:=q1;subst e;cases r1 with
 |cons r rr =>
  cases rr;obtain ⟨t,rfl⟩:=r;exact call_range_1 (OP I1 (by omega) (by omega) q1 q2 (by simpa using q))
def US (wi:TI) (g:TG) (tb:TS):TS:=fun D σ H=>wi σ H fun J H1=>∃W:Nat→Nat→St→Hp→Prop,(∃m,W 0 m σ H1)∧∀i m σ H,W i m σ H→
 (J.stop i H∧D.nx σ H)∨(J.go i H∧∃N:St→Hp→Prop,(∀σ' H',N σ' H'→∃m',m'<m∧W (i+1) m' σ' H')∧∀x H',J.yld i H x H'→g x σ H' fun σ2 H2=>tb {D with nx:=N,ct:=N,bk:=D.nx} σ2 H2)
def fF (fp:List Addr) (h:Heap):List (Addr×Obj):=fp.filterMap fun b=>(h.get? b).map fun o=>(b,o)
theorem iG {fp:List Addr} {h:Heap} {b:Addr} {o:Obj} (hb:b∈fp) (e:h.get? b=some o):(b,o)∈fF fp h:=List.mem_filterMap.mpr ⟨b,hb,by rw [e];rfl⟩
theorem NW {fp:List Addr} {h:Heap} {p:Addr×Obj} (hp:p∈fF fp h):p.1∈fp∧h.get? p.1=some p.2:=by
 obtain ⟨b,hb,e⟩:=List.mem_filterMap.mp hp;cases q:h.get? b with
 |none=>rw [q] at e;cases e
 |some o =>
  rw [q] at e;have e':(b,o)=p:=Option.some.inj e;subst e';exact ⟨hb,q⟩
theorem Inv.pinned {pins:List (Addr×Obj)} {σ:St} {H:Hp} {s:Shared} {fp:List Addr} (I:Inv X pins σ H s) (hf:∀b∈fp,JR X pins H b) (ho:∀b∈fp,∃o,s.heap.get? b=some o∧∀v,o.data≠.cell v):Inv X (pins++fF fp s.heap) σ H s :=
 I.pins_of fun p hp=>(List.mem_append.mp hp).elim (fun z=>I.pin p (List.mem_append_right _ z)) fun z=>by
  obtain ⟨hb,e⟩:=NW z;obtain ⟨f0,f1,f2,_⟩:=hf p.1 hb;obtain ⟨o,e',d⟩:=ho p.1 hb;rw [e] at e';cases e'
  exact ⟨e,f0,f1,f2,d⟩
theorem Inv.unpinned {pins pl:List (Addr×Obj)} {σ:St} {H:Hp} {s:Shared} (I:Inv X (pins++pl) σ H s):Inv X pins σ H s:=I.pins_of fun p hp=>I.pin p (List.mem_append_right _ (List.mem_append_left _ hp))
theorem yZ {iter:Expr} {body:List Stmt} {wi:TI} {g:TG} {tb:TS} {pos:Pos} (hp:PassesOwn (model X.prog X.w) X.A X.env X.xe) (hc:X.calm=true) (hi:PI X tg iter wi) (hg:PG X tg g) (hb:PSs X body tb)
  (hs:∀x,foldedSetIterable iter X.env x=pure x:=by intro _;rfl):PS X (.For tg iter body [] pos) (US wi g tb):=by
 intro pins s σ H D I h;refine wpAny_For (jN (hi pins s σ H _ I h) fun v s1 h1=>jN h1 fun itv s2 h2=>?_) hs;obtain ⟨it,fp,tn,J,H2,e,I2,T,st2,f2,W,⟨m0,w0⟩,turn⟩:=h2;subst e;have stat:∀{H':Hp},(∀b∈fp,H' b=none)→∀b∈fp,JR X pins H' b:=fun hn b hb=>⟨hn b hb,(f2 b hb).2⟩
 refine codeAny_forLoop_any (fun n s'=>∃i σ' H',Inv X pins σ' H' s'∧tn i s'.heap∧(∀b∈fp,H' b=none)∧W i n σ' H') ?_ m0 ⟨0,σ,H2,I2,st2,fun b hb=>(f2 b hb).1,w0⟩;rintro n s3 ⟨i,σ3,H3,I3,st3,fr3,w3⟩
 rcases turn i n σ3 H3 w3 with ⟨stop,qn⟩|⟨go,N,hN,step⟩
 ·refine wpAny_passesOwn hp (jN (T.done X rfl rfl rfl hc i pins s3 σ3 H3 X.xe I3 (stat fr3) st3 stop) fun r s4 ⟨hr,I4⟩=>?_);subst hr;exact wpAny_execs_nil ⟨σ3,H3,I4,qn⟩
 ·refine wpAny_passesOwn hp (jN (T.item X rfl rfl rfl hc i pins s3 σ3 H3 X.xe I3 (stat fr3) st3 go) fun r s4 ⟨u,hr,h4⟩=>?_);subst hr;refine wpAny_passesOwn hp (jN h4 fun _ s5 ⟨x,H5,I5,r5,y5,st5,fr5⟩=>?_);have I5':=I5.pinned (stat fr5) (T.obj _ _ st5);refine wpAny_passesOwn hp (jN (hg _ s5 σ3 H5 x u _ I5' r5 (step x H5 y5)) fun _ s6 ⟨σ6,H6,I6,q6⟩=>?_);refine wpAny_passesOwn hp (jN (hb _ s6 σ6 H6 _ I6 q6) fun f s7 q7=>?_);have again:∀{σ7:St} {H7:Hp},Inv X (pins++fF fp s5.heap) σ7 H7 s7→N σ7 H7→∃m,m<n∧∃i σ' H',Inv X pins σ' H' s7∧tn i s7.heap∧(∀b∈fp,H' b=none)∧W i m σ' H':=fun {σ7 H7} I7 n7=>by
   obtain ⟨m',hm,w7⟩:=hN σ7 H7 n7;refine ⟨m',hm,i+1,σ7,H7,I7.unpinned,T.keep _ _ _ st5 fun b hb o e=>(I7.pin (b,o) (List.mem_append_right _ (List.mem_append_right _ (iG hb e)))).1,fun b hb=>?_,w7⟩;obtain ⟨o,e,d⟩:=T.obj _ _ st5 b hb;exact (I7.pin (b,o) (List.mem_append_right _ (List.mem_append_right _ (iG hb e)))).2.1
  cases f with
  |next=>obtain ⟨σ7,H7,I7,n7⟩:=q7;exact again I7 n7
  |cont=>obtain ⟨σ7,H7,I7,n7⟩:=q7;exact again I7 n7
  |brk=>obtain ⟨σ7,H7,I7,q7⟩:=q7;exact ⟨σ7,H7,I7.unpinned,q7⟩
  |ret v=>obtain ⟨x7,σ7,H7,I7,r7,q7⟩:=q7;exact ⟨x7,σ7,H7,I7.unpinned,r7,q7⟩
end
variable {g:TG} {tb:TS} {D:Ends} {σ:St} {H:Hp}
theorem QG {K:PySem.W.Frag} {a:Addr} {xs:List V} (Pv:Nat→St→Hp→Prop) (h0:Pv 0 σ H) (hl:∀i σ H,i≤xs.length→Pv i σ H→SqL K H a xs)
    (hs:∀i x σ H,xs[i]?=some x→Pv i σ H→g x σ H fun σ2 H2=>tb {D with nx:=Pv (i+1),ct:=Pv (i+1),bk:=D.nx} σ2 H2) (hd:∀σ H,Pv xs.length σ H→D.nx σ H) :
    ∃W:Nat→Nat→St→Hp→Prop,(∃m,W 0 m σ H)∧∀i m σ H,W i m σ H→
      ((cC K a).stop i H∧D.nx σ H)∨((cC K a).go i H∧∃N:St→Hp→Prop,(∀σ' H',N σ' H'→∃m',m'<m∧W (i+1) m' σ' H')∧∀x H',(cC K a).yld i H x H'→g x σ H' fun σ2 H2=>tb {D with nx:=N,ct:=N,bk:=D.nx} σ2 H2):=by
  refine ⟨fun i m σ H=>m=xs.length - i∧i≤xs.length∧Pv i σ H,⟨xs.length,by simp,Nat.zero_le _,h0⟩,?_⟩;rintro i m σ H ⟨rfl,hi,p⟩;have q:=hl i σ H hi p
  by_cases hlt:i<xs.length
  · refine .inr ⟨⟨xs,xs[i],q,by simp [hlt]⟩,Pv (i+1),fun σ' H' p'=>⟨xs.length - (i+1),by omega,rfl,hlt,p'⟩,fun x H' y=>?_⟩
    obtain ⟨e,y⟩:=y;subst e;exact hs i x σ _ (y xs q) p
  · have e:i=xs.length:=by omega
    subst e;exact .inl ⟨⟨xs,q,Nat.le_refl _⟩,hd σ H p⟩
theorem R4 {K:PySem.W.Frag} {a:Addr} {xs:List V} (Pv:Nat→St→Hp→Prop) (h0:Pv 0 σ H) (hl:∀i σ H,i≤xs.length→Pv i σ H→SqT K H a xs)
    (hs:∀i x σ H,xs[i]?=some x→Pv i σ H→g x σ H fun σ2 H2=>tb {D with nx:=Pv (i+1),ct:=Pv (i+1),bk:=D.nx} σ2 H2) (hd:∀σ H,Pv xs.length σ H→D.nx σ H) :
    ∃W:Nat→Nat→St→Hp→Prop,(∃m,W 0 m σ H)∧∀i m σ H,W i m σ H→
      ((gA K a).stop i H∧D.nx σ H)∨((gA K a).go i H∧∃N:St→Hp→Prop,(∀σ' H',N σ' H'→∃m',m'<m∧W (i+1) m' σ' H')∧∀x H',(gA K a).yld i H x H'→g x σ H' fun σ2 H2=>tb {D with nx:=N,ct:=N,bk:=D.nx} σ2 H2):=by
  refine ⟨fun i m σ H=>m=xs.length - i∧i≤xs.length∧Pv i σ H,⟨xs.length,by simp,Nat.zero_le _,h0⟩,?_⟩;rintro i m σ H ⟨rfl,hi,p⟩;have q:=hl i σ H hi p
  by_cases hlt:i<xs.length
  · refine .inr ⟨⟨xs,xs[i],q,by simp [hlt]⟩,Pv (i+1),fun σ' H' p'=>⟨xs.length - (i+1),by omega,rfl,hlt,p'⟩,fun x H' y=>?_⟩
    obtain ⟨e,y⟩:=y;subst e;exact hs i x σ _ (y xs q) p
  · have e:i=xs.length:=by omega
    subst e;exact .inl ⟨⟨xs,q,Nat.le_refl _⟩,hd σ H p⟩
theorem eQ {lo:Int} {n:Nat} (Pv:Nat→St→Hp→Prop) (h0:Pv 0 σ H)
  (hs:∀i σ H,i<n→Pv i σ H→g (.int (lo+i)) σ H fun σ2 H2=>tb {D with nx:=Pv (i+1),ct:=Pv (i+1),bk:=D.nx} σ2 H2) (hd:∀σ H,Pv n σ H→D.nx σ H) :
  ∃W:Nat→Nat→St→Hp→Prop,(∃m,W 0 m σ H)∧∀i m σ H,W i m σ H→
   ((Z9 lo n).stop i H∧D.nx σ H)∨((Z9 lo n).go i H∧∃N:St→Hp→Prop,(∀σ' H',N σ' H'→∃m',m'<m∧W (i+1) m' σ' H')∧∀x H',(Z9 lo n).yld i H x H'→g x σ H' fun σ2 H2=>tb {D with nx:=N,ct:=N,bk:=D.nx} σ2 H2):=by
 refine ⟨fun i m σ H=>m=n - i∧i≤n∧Pv i σ H,⟨n,by simp,Nat.zero_le _,h0⟩,?_⟩;rintro i m σ H ⟨rfl,hi,p⟩
 by_cases hlt:i<n
 ·refine .inr ⟨hlt,Pv (i+1),fun σ' H' p'=>⟨n - (i+1),by omega,rfl,hlt,p'⟩,fun x H' y=>?_⟩;obtain ⟨e,y⟩:=y;subst e y;exact hs i σ _ hlt p
 ·have e:i=n:=by omega
  subst e;exact .inl ⟨Nat.le_refl _,hd σ H p⟩
end L2
namespace L2
open PySem PySem.Spec PyProof.Rows
abbrev R2:=V→V→Hp→VK→Prop
def qZ (X:Cx) (f:Value→Value→Sem Value) (r:R2):Prop :=
 ∀(pins:List (Addr×Obj)) (s:Shared) (σ:St) (H:Hp) (x y:V) (v u:Value) (Q:VK),Inv X pins σ H s→RelV x v→RelV y u→r x y H Q→
  wpAny (model X.prog X.w) X.A (f v u) (EP X pins σ Q) X.xe s
def uR (X:Cx) (f:Value→Sem Value) (r:V→Hp→VK→Prop):Prop :=
 ∀(pins:List (Addr×Obj)) (s:Shared) (σ:St) (H:Hp) (x:V) (v:Value) (Q:VK),Inv X pins σ H s→RelV x v→r x H Q→
  wpAny (model X.prog X.w) X.A (f v) (EP X pins σ Q) X.xe s
def yQ (X:Cx) (f:Value) (r:List V→Hp→VK→Prop):Prop :=
 ∀(pins:List (Addr×Obj)) (s:Shared) (σ:St) (H:Hp) (xs:List V) (us:List Value) (Q:VK),Inv X pins σ H s→Vals xs us→r xs H Q→
  wpAny (model X.prog X.w) X.A (call f us) (EP X pins σ Q) X.xe s
def VB (X:Cx) (r:V→Hp→(Bool→Hp→Prop)→Prop):Prop :=
 ∀(pins:List (Addr×Obj)) (s:Shared) (σ:St) (H:Hp) (x:V) (v:Value) (Q:Bool→Hp→Prop),Inv X pins σ H s→RelV x v→r x H Q→
  wpAny (model X.prog X.w) X.A (truthy v) (TP X pins σ Q) X.xe s
def bY (r:R2) (ta tb:TE):TE:=fun σ H Q=>ta σ H fun x H1=>tb σ H1 fun y H2=>r x y H2 Q
def VI (r:V→Hp→VK→Prop) (ta:TE):TE:=fun σ H Q=>ta σ H fun x H1=>r x H1 Q
def rI (C:Int→Int→Prop) (g:Int→Int→V):R2:=fun x y H Q=>∃i j,x=.int i∧y=.int j∧C i j∧Q (g i j) H
def Z4 (g:Int→Int→V):R2:=fun x y H Q=>∃i j,x=.int i∧y=.int j∧Q (g i j) H
def rU (g:Int→V):V→Hp→VK→Prop:=fun x H Q=>∃i,x=.int i∧Q (g i) H
section
variable {X:Cx} {a b c:Expr} {ta tb tc:TE} {pos:Pos}
theorem t9 (ha:PE X a ta) (hb:PE X b tb) {pins:List (Addr×Obj)} {s:Shared} {σ:St} {H:Hp} {R:V→V→Hp→Prop} (I:Inv X pins σ H s)
  (h:ta σ H fun x H1=>tb σ H1 fun y H2=>R x y H2) {Q:Value→Shared→Prop} {f:Value→Value→Sem Value}
  (hf:∀v u s2 x y H2,Inv X pins σ H2 s2→RelV x v→RelV y u→R x y H2→wpAny (model X.prog X.w) X.A (f v u) Q X.xe s2) :
  wpAny (model X.prog X.w) X.A (eval a X.env) (fun v s₁=>wpAny (model X.prog X.w) X.A (eval b X.env) (fun u s₂=>wpAny (model X.prog X.w) X.A (f v u) Q X.xe s₂) X.xe s₁) X.xe s:=by
 refine jN (ha pins s σ H _ I h) fun v s1 ⟨x,H1,I1,r1,q1⟩=>?_
 refine jN (hb pins s1 σ H1 _ I1 q1) fun u s2 ⟨y,H2,I2,r2,q2⟩=>?_
 exact hf v u s2 x y H2 I2 r1 r2 q2
theorem jL {op:Operator} {r:R2} (ho:qZ X (binaryOp op) r) (ha:PE X a ta) (hb:PE X b tb):PE X (.BinOp a op b pos) (bY r ta tb):=by
 intro pins s σ H Q I h;exact wpAny_BinOp (t9 ha hb I h fun v u s2 x y H2 I2 rx ry q=>ho pins s2 σ H2 x y v u Q I2 rx ry q)
theorem QQ {op:UnaryOp} {r:V→Hp→VK→Prop} (ho:uR X (unaryOp op) r) (ha:PE X a ta):PE X (.UnaryOp op a pos) (VI r ta):=by
 intro pins s σ H Q I h;exact UnaryOp_ (jN (ha pins s σ H _ I h) fun v s1 ⟨x,H1,I1,r1,q1⟩=>ho pins s1 σ H1 x v Q I1 r1 q1)
theorem mF {f:Value→Value→Sem Value} {C:Int→Int→Prop} {g:Int→Int→Int}
  (rule:∀(i j:Int) (t u:Tok) (s:Shared) (Q:Value→Shared→Prop) (E:Value→Shared→Prop),C i j→Q (.int (g i j) s.toks) {s with toks:=s.toks+1}→wpAny (model X.prog X.w) X.A (f (.int i t) (.int j u)) Q E s) :
  qZ X f (rI C fun i j=>.int (g i j)):=by
 intro pins s σ H x y v u Q I rx ry h;obtain ⟨i,j,rfl,rfl,hc,q⟩:=h;obtain ⟨t,rfl⟩:=rx;obtain ⟨t',rfl⟩:=ry;exact rule i j t t' s _ _ hc ⟨.int (g i j),H,I.tok _,⟨_,rfl⟩,q⟩
theorem E2 {f:Value→Value→Sem Value} {g:Int→Int→Int}
  (rule:∀(i j:Int) (t u:Tok) (s:Shared) (Q:Value→Shared→Prop) (E:Value→Shared→Prop),Q (.int (g i j) s.toks) {s with toks:=s.toks+1}→wpAny (model X.prog X.w) X.A (f (.int i t) (.int j u)) Q E s) :
  qZ X f (Z4 fun i j=>.int (g i j)):=by
 intro pins s σ H x y v u Q I rx ry h;obtain ⟨i,j,rfl,rfl,q⟩:=h;obtain ⟨t,rfl⟩:=rx;obtain ⟨t',rfl⟩:=ry;exact rule i j t t' s _ _ ⟨.int (g i j),H,I.tok _,⟨_,rfl⟩,q⟩
theorem lZ {f:Value→Value→Sem Value} {g:Int→Int→Bool}
  (rule:∀(i j:Int) (t u:Tok) (s:Shared) (Q:Value→Shared→Prop) (E:Value→Shared→Prop),Q (.bool (g i j)) s→wpAny (model X.prog X.w) X.A (f (.int i t) (.int j u)) Q E s) :
  qZ X f (Z4 fun i j=>.bl (g i j)):=by
 intro pins s σ H x y v u Q I rx ry h;obtain ⟨i,j,rfl,rfl,q⟩:=h;obtain ⟨t,rfl⟩:=rx;obtain ⟨t',rfl⟩:=ry;exact rule i j t t' s _ _ ⟨.bl (g i j),H,I,rfl,q⟩
def VE (i j:Int):Prop:=0<j∧j<1073741824
def VD (i j:Int):Prop:=0≤j∧j≤1000000∧i.natAbs<2 ^ 64
def CMul (i j:Int):Prop:=(-(2 ^ 64)<i∧i<2 ^ 64)∨(-(2 ^ 64)<j∧j<2 ^ 64)
theorem CMul.ok {i j:Int} (h:CMul i j):IntMulOk i j:=by
 rcases h with ⟨h1,h2⟩|⟨h1,h2⟩
 ·exact .of_left (intBits_le_64 h1 h2)
 ·exact .of_right (intBits_le_64 h1 h2)
theorem kK:qZ X (binaryOp .Add) (Z4 fun i j=>.int (i+j)):=E2 fun _ _ _ _ _ _ _ q=>add_int q
theorem z9:qZ X (binaryOp .Sub) (Z4 fun i j=>.int (i - j)):=E2 fun _ _ _ _ _ _ _ q=>sub_int q
theorem q8:qZ X (binaryOp .Mult) (rI CMul fun i j=>.int (i*j)):=mF fun _ _ _ _ _ _ _ hc q=>mul_int q hc.ok
theorem RJ:qZ X (binaryOp .FloorDiv) (rI VE fun i j=>.int (i / j)):=mF fun i j _ _ _ _ _ hc q=>by
 have h1:(0:Int)<j:=hc.1;have h2:j<1073741824:=hc.2;exact floordiv_int (by omega) (by rw [Int.fdiv_eq_ediv_of_nonneg i (by omega)];exact q) (.inl (PyProof.noPylong_small (by omega)))
theorem dF:qZ X (binaryOp .Mod) (rI (fun _ j=>0<j) fun i j=>.int (i%j)):=mF fun i j _ _ _ _ _ hc q=>by
 have h1:(0:Int)<j:=hc;exact mod_int' (by omega) (by rw [Int.fmod_eq_emod_of_nonneg i (by omega)];exact q)
theorem SU:qZ X (binaryOp .Pow) (rI VD fun i j=>.int (i ^ j.toNat)):=mF fun _ _ _ _ _ _ _ hc q=>pow_int_small hc.1 hc.2.1 hc.2.2 q
theorem VH {f:Value→Sem Value} {g:Int→Int}
  (rule:∀(i:Int) (t:Tok) (s:Shared) (Q:Value→Shared→Prop) (E:Value→Shared→Prop),Q (.int (g i) s.toks) {s with toks:=s.toks+1}→wpAny (model X.prog X.w) X.A (f (.int i t)) Q E s) :
  uR X f (rU fun i=>.int (g i)):=by
 intro pins s σ H x v Q I rx h;obtain ⟨i,rfl,q⟩:=h;obtain ⟨t,rfl⟩:=rx;exact rule i t s _ _ ⟨.int (g i),H,I.tok _,⟨_,rfl⟩,q⟩
theorem QL:uR X (unaryOp .USub) (rU fun i=>.int (-i)):=VH fun _ _ _ _ _ q=>neg_int q
end
def EY:V→V→Bool
 |.non,.non=>true|.non,.int _=>true|.int _,.non=>true|.non,.bl _=>true|.bl _,.non=>true|.non,.str _=>true|.str _,.non=>true
 |.int _,.int _=>true|.bl _,.bl _=>true|.str _,.str _=>true|.byt _,.byt _=>true
 |.int _,.str _=>true|.str _,.int _=>true|.bl _,.str _=>true|.str _,.bl _=>true
 |_,_=>false
def VP:R2:=fun x y H Q=>EY x y=true∧Q (.bl (decide (x=y))) H
def VO:R2:=fun x y H Q=>EY x y=true∧Q (.bl (!decide (x=y))) H
theorem DA {i j:Int}:decide (V.int i=V.int j)=(i == j):=by
 rw [Bool.eq_iff_iff];simp
theorem EG {i j:Bool}:decide (V.bl i=V.bl j)=(i == j):=by
 rw [Bool.eq_iff_iff];simp
theorem C9 {i j:Str}:decide (V.str i=V.str j)=(i == j):=by
 rw [Bool.eq_iff_iff];simp
theorem DB {i j:Array UInt8}:decide (V.byt i=V.byt j)=(i.toList == j.toList):=by
 rw [Bool.eq_iff_iff];cases i;cases j;simp
section
variable {X:Cx} {a b c:Expr} {ta tb tc:TE} {pos:Pos}
theorem qM {pins:List (Addr×Obj)} {σ:St} {H:Hp} {s:Shared} {Q:VK} {k k':Bool} (I:Inv X pins σ H s) (q:Q (.bl k) H) (e:k=k'):EP X pins σ Q (.bool k') s:=by
 subst e;exact ⟨.bl k,H,I,rfl,q⟩
theorem qQ:qZ X (compareOp .Eq) VP:=by
 intro pins s σ H x y v u Q I rx ry h;obtain ⟨hs,q⟩:=h;cases x with
 |non =>
  cases rx;cases y with
  |non=>cases ry;exact PySem.EqNone.eq_none_none (qM I q (by simp))
  |bl j=>cases ry;exact PySem.EqNone.eq_none_bool (qM I q (by simp))
  |int j=>obtain ⟨t',rfl⟩:=ry;exact PySem.EqNone.eq_none_int (qM I q (by simp))
  |str j=>obtain ⟨t',rfl⟩:=ry;exact PySem.EqNone.eq_none_str (qM I q (by simp))
  |_=>exact absurd (show false=true from hs) Bool.false_ne_true
 |bl i =>
  cases rx;cases y with
  |non=>cases ry;exact PySem.EqNone.eq_bool_none (qM I q (by simp))
  |bl j=>cases ry;exact eq_bool (qM I q EG)
  |str j=>obtain ⟨t',rfl⟩:=ry;exact PySem.EqMixed.eq_bool_str (qM I q (by simp))
  |_=>exact absurd (show false=true from hs) Bool.false_ne_true
 |int i =>
  obtain ⟨t,rfl⟩:=rx;cases y with
  |non=>cases ry;exact PySem.EqNone.eq_int_none (qM I q (by simp))
  |int j=>obtain ⟨t',rfl⟩:=ry;exact eq_int (qM I q DA)
  |str j=>obtain ⟨t',rfl⟩:=ry;exact PySem.EqMixed.eq_int_str (qM I q (by simp))
  |_=>exact absurd (show false=true from hs) Bool.false_ne_true
 |str i =>
  obtain ⟨t,rfl⟩:=rx;cases y with
  |non=>cases ry;exact PySem.EqNone.eq_str_none (qM I q (by simp))
  |bl j=>cases ry;exact PySem.EqMixed.eq_str_bool (qM I q (by simp))
  |int j=>obtain ⟨t',rfl⟩:=ry;exact PySem.EqMixed.eq_str_int (qM I q (by simp))
  |str j=>obtain ⟨t',rfl⟩:=ry;exact eq_str (qM I q C9)
  |_=>exact absurd (show false=true from hs) Bool.false_ne_true
 |byt i =>
  obtain ⟨t,rfl⟩:=rx;cases y with
  |byt j=>obtain ⟨t',rfl⟩:=ry;exact PySem.W.eq_bytes (qM I q DB)
  |_=>exact absurd (show false=true from hs) Bool.false_ne_true
 |_=>cases y<;>exact absurd (show false=true from hs) Bool.false_ne_true
theorem zR:qZ X (compareOp .NotEq) VO:=by
 intro pins s σ H x y v u Q I rx ry h;obtain ⟨hs,q⟩:=h;cases x with
 |non =>
  cases rx;cases y with
  |non=>cases ry;exact PySem.EqNone.ne_none_none (qM I q (by simp))
  |bl j=>cases ry;exact PySem.EqNone.ne_none_bool (qM I q (by simp))
  |int j=>obtain ⟨t',rfl⟩:=ry;exact PySem.EqNone.ne_none_int (qM I q (by simp))
  |str j=>obtain ⟨t',rfl⟩:=ry;exact PySem.EqNone.ne_none_str (qM I q (by simp))
  |_=>exact absurd (show false=true from hs) Bool.false_ne_true
 |bl i =>
  cases rx;cases y with
  |non=>cases ry;exact PySem.EqNone.ne_bool_none (qM I q (by simp))
  |bl j=>cases ry;exact ne_bool (qM I q (congrArg not EG))
  |str j=>obtain ⟨t',rfl⟩:=ry;exact PySem.EqMixed.ne_bool_str (qM I q (by simp))
  |_=>exact absurd (show false=true from hs) Bool.false_ne_true
 |int i =>
  obtain ⟨t,rfl⟩:=rx;cases y with
  |non=>cases ry;exact PySem.EqNone.ne_int_none (qM I q (by simp))
  |int j=>obtain ⟨t',rfl⟩:=ry;exact ne_int (qM I q (congrArg not DA))
  |str j=>obtain ⟨t',rfl⟩:=ry;exact PySem.EqMixed.ne_int_str (qM I q (by simp))
  |_=>exact absurd (show false=true from hs) Bool.false_ne_true
 |str i =>
  obtain ⟨t,rfl⟩:=rx;cases y with
  |non=>cases ry;exact PySem.EqNone.ne_str_none (qM I q (by simp))
  |bl j=>cases ry;exact PySem.EqMixed.ne_str_bool (qM I q (by simp))
  |int j=>obtain ⟨t',rfl⟩:=ry;exact PySem.EqMixed.ne_str_int (qM I q (by simp))
  |str j=>obtain ⟨t',rfl⟩:=ry;exact ne_str (qM I q (congrArg not C9))
  |_=>exact absurd (show false=true from hs) Bool.false_ne_true
 |byt i =>
  obtain ⟨t,rfl⟩:=rx;cases y with
  |byt j=>obtain ⟨t',rfl⟩:=ry;exact PySem.W.ne_bytes (qM I q (congrArg not DB))
  |_=>exact absurd (show false=true from hs) Bool.false_ne_true
 |_=>cases y<;>exact absurd (show false=true from hs) Bool.false_ne_true
theorem lP:qZ X (compareOp .Lt) (Z4 fun i j=>.bl (decide (i<j))):=lZ fun _ _ _ _ _ _ _ q=>lt_int q
theorem T1:qZ X (compareOp .LtE) (Z4 fun i j=>.bl (decide (i≤j))):=lZ fun _ _ _ _ _ _ _ q=>le_int q
theorem EN:qZ X (compareOp .Gt) (Z4 fun i j=>.bl (decide (j<i))):=lZ fun _ _ _ _ _ _ _ q=>gt_int q
theorem T2:qZ X (compareOp .GtE) (Z4 fun i j=>.bl (decide (j≤i))):=lZ fun _ _ _ _ _ _ _ q=>ge_int q
theorem DY:qZ X (compareOp .Is) (fun x y H Q=>y=.non∧Q (.bl (decide (x=.non))) H):=by
 intro pins s σ H x y v u Q I rx ry h;obtain ⟨rfl,q⟩:=h;cases ry;refine is_none_gen (qM I q ?_);cases x<;>first
  | (cases rx;rfl)
  | (obtain ⟨t,rfl⟩:=rx;rfl)
theorem CY:qZ X (compareOp .IsNot) (fun x y H Q=>y=.non∧Q (.bl (!decide (x=.non))) H):=by
 intro pins s σ H x y v u Q I rx ry h;obtain ⟨rfl,q⟩:=h;cases ry;refine isnot_none_gen (qM I q ?_);cases x<;>first
  | (cases rx;rfl)
  | (obtain ⟨t,rfl⟩:=rx;rfl)
theorem uY (b:Expr) {op:CmpOp} (h:op≠.In:=by decide) (h2:op≠.NotIn:=by decide):behindInMarks op b=false:=by
 have e1:(op == CmpOp.In)=false:=by cases op<;>first|rfl|exact absurd rfl h
 have e2:(op == CmpOp.NotIn)=false:=by cases op<;>first|rfl|exact absurd rfl h2
 cases b<;>simp [behindInMarks,e1,e2]
theorem RH {op:CmpOp} {r:R2} (ho:qZ X (compareOp op) r) (ha:PE X a ta) (hb:PE X b tb) (hm:behindInMarks op b=false):PE X (.Compare a [op] [b] pos) (bY r ta tb):=by
 intro pins s σ H Q I h;exact wpAny_Compare1 (t9 ha hb I h fun v u s2 x y H2 I2 rx ry q=>ho pins s2 σ H2 x y v u Q I2 rx ry q) hm
def EI (t:TE):TT:=fun σ H Q=>t σ H fun x H'=>∃k,x=.bl k∧Q k H'
theorem FE {op:CmpOp} {r:R2} (ho:qZ X (compareOp op) r) (ha:PE X a ta) (hb:PE X b tb) (hm:behindInMarks op b=false):PT X (.Compare a [op] [b] pos) (EI (bY r ta tb)):=by
 intro pins s σ H Q I h;refine wpAny_isTrue_Compare1 (jN (ha pins s σ H _ I h) fun v s1 ⟨x,H1,I1,r1,q1⟩=>jN (hb pins s1 σ H1 _ I1 q1) fun u s2 ⟨y,H2,I2,r2,q2⟩ =>
  jN (ho pins s2 σ H2 x y v u _ I2 r1 r2 q2) fun c s3 ⟨z,H3,I3,r3,k,e,q3⟩=>?_) hm
 subst e;cases r3;exact wpAny_truthy_bool ⟨H3,I3,q3⟩
def E6 (K:PySem.W.Frag) (x:V) (H:Hp) (k:Bool):Prop :=
 match x with
 |.non=>k=false
 |.bl b=>k=b
 |.int i=>k=(i != 0)
 |.str y=>y.length≤sizeLine∧k=((y.length:Int) != 0)
 |.byt y=>y.size≤sizeLine∧k=((y.size:Int) != 0)
 |.ref p=>(∃xs,SqL K H p xs∧k = !xs.isEmpty)∨(∃xs,SqT K H p xs∧k = !xs.isEmpty)∨∃kvs,H p=some (.dK kvs)∧k = !kvs.isEmpty
 |_=>False
theorem M2 {κ:Type} {kvs:List (κ×V)} {vs:List (κ×Value)} (r:KV kvs vs):(!vs.isEmpty) = !kvs.isEmpty:=by
 cases r<;>rfl
theorem w6 {xs:List V} {its:List Value} (r:Vals xs its):(!its.toArray.isEmpty) = !xs.isEmpty:=by
 cases r<;>simp
theorem ZP:(sizeLine:Nat)<2 ^ 63:=by rw [sizeLine_eq];decide
theorem SD:VB X (fun x H Q=>∃k,E6 X.K x H k∧Q k H):=by
 intro pins s σ H x v Q I rx h;obtain ⟨k,e,q⟩:=h;have hl:=ZP;have hs:sizeLine=16777216:=sizeLine_eq;cases x with
 |non =>
  cases rx;have e':k=false:=e;subst e';exact truthy_none ⟨H,I,q⟩
 |bl b =>
  cases rx;have e':k=b:=e;subst e';exact wpAny_truthy_bool ⟨H,I,q⟩
 |int i =>
  obtain ⟨t,rfl⟩:=rx;have e':k=(i != 0):=e;subst e';exact PySem.P.truthy_int ⟨H,I,q⟩
 |str y =>
  obtain ⟨t,rfl⟩:=rx;obtain ⟨hy,e'⟩:y.length≤sizeLine∧k=((y.length:Int) != 0):=e;subst e';exact PySem.P.truthy_str (by omega) ⟨H,I.tok _,q⟩
 |byt y =>
  obtain ⟨t,rfl⟩:=rx;obtain ⟨hy,e'⟩:y.size≤sizeLine∧k=((y.size:Int) != 0):=e;subst e';exact PySem.W.truthy_bytes (by omega) ⟨H,I.tok _,q⟩
 |ref p =>
  cases rx;have e':(∃xs,SqL X.K H p xs∧k = !xs.isEmpty)∨(∃xs,SqT X.K H p xs∧k = !xs.isEmpty)∨∃kvs,H p=some (.dK kvs)∧k = !kvs.isEmpty:=e
  rcases e' with ⟨xs,hx,e'⟩|⟨xs,hx,e'⟩|⟨kvs,hx,e'⟩
  ·subst e';obtain ⟨its,r,pl,hz⟩:=I.list hx;have hlen:=r.length;exact wpAny_truthy_list pl.isList (by simp only [List.size_toArray];omega) ⟨H,I.tok _,by rw [w6 r];exact q⟩
  ·subst e';obtain ⟨its,r,pl,hz⟩:=I.tuple hx;have hlen:=r.length;exact truthy_tuple pl (by simp only [List.size_toArray];omega) ⟨H,I.tok _,by rw [w6 r];exact q⟩
  ·subst e';obtain ⟨hz,hS,vs,r,m⟩:kvs.length≤sizeLine∧(p == sysModules)=false∧∃vs,KV kvs vs∧s.heap.DictOf (zF X.prog X.w) p vs:=I.hok p _ hx;have hlen:kvs.length=vs.length:=Paired.length r;exact wpAny_truthy_dict hS m (by omega) ⟨H,I.tok _,by rw [M2 r];exact q⟩
 |_=>exact (show False from e).elim
theorem BK (ha:PE X a ta) (he:∀whole,isTrue a X.env whole=(do let v ← whole;standAt a.pos;holding [v] (truthy v))) :
  PT X a (fun σ H Q=>ta σ H fun x H'=>∃k,E6 X.K x H' k∧Q k H'):=by
 intro pins s σ H Q I h;exact isTrue_plain (jN (ha pins s σ H _ I h) fun v s1 ⟨x,H1,I1,r1,q1⟩=>SD pins s1 σ H1 x v Q I1 r1 q1) (he _)
theorem pG:qZ X (binaryOp .Add) (fun x y H Q=>∃i j,x=.str i∧y=.str j∧i.length+j.length≤sizeLine∧Q (.str (i++j)) H):=by
 intro pins s σ H x y v u Q I rx ry h;obtain ⟨i,j,rfl,rfl,hz,q⟩:=h;obtain ⟨t,rfl⟩:=rx;obtain ⟨t',rfl⟩:=ry;exact add_str (fun t' tk=>⟨.str (i++j),H,I.tok _,⟨_,rfl⟩,q⟩) hz
theorem Q9 {x:V} {us:List Value} (r:Vals [x] us):∃u,us=[u]∧RelV x u:=by
 cases r with
 |cons r1 r2=>cases r2;exact ⟨_,rfl,r1⟩
theorem tG {x y:V} {us:List Value} (r:Vals [x,y] us):∃u w',us=[u,w']∧RelV x u∧RelV y w':=by
 cases r with
 |cons r1 r2 =>
  cases r2 with
  |cons r3 r4=>cases r4;exact ⟨_,_,rfl,r1,r3⟩
theorem AK (hc:X.calm=true):yQ X (.builtin "max") (fun xs H Q=>∃i j,xs=[.int i,.int j]∧Q (.int (if j>i then j else i)) H):=by
 intro pins s σ H xs us Q I r h;obtain ⟨i,j,rfl,q⟩:=h;obtain ⟨u,w',rfl,⟨t,rfl⟩,⟨t',rfl⟩⟩:=tG r;refine max_two_ints (I.ok.hd hc) fun h' tk k=>⟨_,H,I.kept k,?_,q⟩
 by_cases hj:j>i
 ·rw [if_pos hj,if_pos hj];exact ⟨_,rfl⟩
 ·rw [if_neg hj,if_neg hj];exact ⟨_,rfl⟩
theorem OG (hc:X.calm=true):yQ X (.builtin "min") (fun xs H Q=>∃i j,xs=[.int i,.int j]∧Q (.int (if j<i then j else i)) H):=by
 intro pins s σ H xs us Q I r h;obtain ⟨i,j,rfl,q⟩:=h;obtain ⟨u,w',rfl,⟨t,rfl⟩,⟨t',rfl⟩⟩:=tG r;refine min_two_ints (I.ok.hd hc) fun h' tk k=>⟨_,H,I.kept k,?_,q⟩
 by_cases hj:j<i
 ·rw [if_pos hj,if_pos hj];exact ⟨_,rfl⟩
 ·rw [if_neg hj,if_neg hj];exact ⟨_,rfl⟩
theorem OH:yQ X (.type "int") (fun xs H Q=>(∃i,xs=[.int i]∧Q (.int i) H)∨∃k,xs=[.bl k]∧Q (.int (if k then 1 else 0)) H):=by
 intro pins s σ H xs us Q I r h
 rcases h with ⟨i,rfl,q⟩|⟨k,rfl,q⟩
 ·obtain ⟨u,rfl,t,rfl⟩:=Q9 r;exact call_int_int ⟨.int i,H,I,⟨_,rfl⟩,q⟩
 ·obtain ⟨u,rfl,r1⟩:=Q9 r;cases r1;exact call_int_bool ⟨.int (if k then 1 else 0),H,I.tok _,⟨_,rfl⟩,q⟩
end
structure ObjM (h:Heap) (x dx C:Addr) (mA:Str→Option Value):Prop where
 obj:h.get? x=some (PySem.W.instObj C dx)
 ns:h.Ns1 dx mA
 ne:dx≠x
theorem NZ {h:Heap} {dx:Addr} {mA:Str→Option Value} (n:h.Ns1 dx mA):∃od,h.get? dx=some od∧∀name,PySem.W.lookIn name od=some (mA name):=by
 obtain ⟨o,es,ep,ho,hd,hk,_,hm⟩:=n;refine ⟨o,ho,fun name=>?_⟩;have e:=hm name;unfold nsFind findBy at e;rw [← Array.find?_toList] at e;unfold PySem.W.lookIn;rw [hd]
 dsimp only
 split
 ·rename_i y q;rw [q] at e;exact congrArg some e
 ·rename_i q;rw [q] at e;have a:es.toList.any (·.refKey)=false:=by
   rw [List.any_eq_false];intro y hy;obtain ⟨z,t,hkey⟩:=hk y (Array.mem_toList_iff.mp hy);simp [DictEntry.refKey,hkey]
  have a':¬es.toList.any (·.refKey)=true:=by rw [a];exact Bool.false_ne_true
  rw [if_neg a'];exact congrArg some e
variable {C:Addr}
theorem ObjM.look {h:Heap} {x dx:Addr} {mA:Str→Option Value} (I:ObjM h x dx C mA):∃od,PySem.W.InstAt h x (PySem.W.instObj C dx) C (some od)∧∀name,PySem.W.lookIn name od=some (mA name) :=
 let ⟨od,ho,hl⟩:=NZ I.ns
 ⟨od,⟨I.obj,rfl,rfl,ho⟩,hl⟩
section
variable {prog:Program} {w:World} {A:Around} {E:Value→Shared→Prop} {s:Shared} {K:PySem.W.Frag} {x dx C f:Addr} {mA:Str→Option Value} {name:Str} {v:Value}
theorem RZ {expr:Bool} {Q:Value→Shared→Prop} (X:K.In s.heap) (I:ObjM s.heap x dx C mA) (hg:PySem.W.plainGet K C name=true) (hh:PySem.W.hasDictIn K C=true)
  (ha:PySem.W.findIn K (.ref C) name=some none) (hv:mA name=some v) (hv':PySem.W.handedIn v=true) (h:Q v {s with toks:=s.toks+1}) :
  wpAny (model prog w) A (getAttr (.ref x) name expr) Q E s:=by
 obtain ⟨od,J,hl⟩:=I.look;exact PySem.W.get_value X J (PySem.W.plainGet_of hg).1 (PySem.W.findObj_own hh ha rfl (by rw [hl,hv])) hv' h
theorem PB {pl:Sem Bool} {Q:Value×List Value→Shared→Prop} (X:K.In s.heap) (I:ObjM s.heap x dx C mA) (hg:PySem.W.plainGet K C name=true)
  (hf:PySem.W.findIn K (.ref C) name=some (some (.ref f))) (ht:PySem.W.isFn K (.ref f)=true) (hv:mA name=none) (h:Q (.ref f,[.ref x]) s) :
  wpAny (model prog w) A (getMethod (.ref x) name pl) Q E s:=by
 obtain ⟨od,J,hl⟩:=I.look;exact PySem.W.method_fn X J (PySem.W.plainGet_of hg).1 (PySem.W.plainGet_of hg).2 hf (beq_iff_eq.mp ht) (by show (PySem.W.lookIn name od).map (·.isSome)=some false;rw [hl,hv];rfl) h
theorem P6 {ns:List Str} {Q:Unit→Shared→Prop} (X:K.In s.heap) (I:ObjM s.heap x dx C mA)
  (hs:PySem.W.findIn K (.ref C) "__setattr__"=some (some (.builtin "object.__setattr__"))) (hp:PySem.W.plainOver K C=true) (ht:PySem.W.takerIn K C name=some none) (hh:PySem.W.hasDictIn K C=true)
  (hw:PySem.Within mA ns) (hsz:ns.length≤sizeLine)
  (h:∀h',ObjM h' x dx C (fun y=>if y=name then some v else mA y)→Heap.SameBut dx s.heap h'→Q () {s with heap:=h',toks:=s.toks+2}) :
  wpAny (model prog w) A (setAttr (.ref x) name v) Q E s:=by
 obtain ⟨od,J,hl⟩:=I.look;refine PySem.W.set_plain X J hs (PySem.W.osa_open (s:={s with toks:=s.toks+1}) (r:=none) X J hp ht fun b=>?_);obtain ⟨cd,hc,hd'⟩:=PySem.W.any_some hh;have hx:s.heap.get? x=some ⟨.ref C,some dx,.plain,#[]⟩:=I.obj;refine wpAny_bind (wpAny_pure (wpAny_bind (wpAny_bind (wpAny_loadPart hx (wpAny_bind (PySem.W.Looks.here (s:={s with toks:=s.toks+1}) (PySem.W.looks_clsIn X hc) ?_))))));rw [hd'];refine wpAny_pure (a:=some dx) (wpAny_bind (wpAny_pure (wpAny_bind ?_)));refine wpAny_nsSet1 (s:={s with toks:=s.toks+1}) I.ns fun h' hn2 hs2=>?_
 obtain ⟨oD,esD,epD,hoD,hdD,hcD⟩:=hn2.count (PySem.Within.cons name v hw);refine wpAny_bind (wpAny_lookBehind hoD (by rw [hdD];exact pastItsLine_dict (Nat.le_trans hcD (by rw [List.length_cons];omega))) ?_);exact wpAny_pure (h _ ⟨(hs2.2 _ (Ne.symm I.ne)).trans I.obj,hn2,I.ne⟩ hs2)
theorem O6 {R:Result→Shared→Prop} {vs:List Value} {kw:List (Str×Value)} (X:K.In s.heap) (hm:PySem.W.makesIn K C=true)
  (hi:PySem.W.findIn K (.ref C) "__init__"=some (some (.ref f))) (hf:PySem.W.typeIn K (.ref f)=some (.type "function"))
  (h:codeAny (model prog w) (A.under (.builtin "type.__call__" ⟨.ref C::vs,kw⟩)) (.call (.ref f) ⟨.ref (s.heap.objs.size+1)::vs,kw⟩) (PySem.W.InitBack (s.heap.objs.size+1) R)
   {s with heap:=(s.heap.push PySem.W.emptyDict).push (PySem.W.instObj C s.heap.objs.size)}) :
  codeAny (model prog w) A (.call (.ref C) ⟨vs,kw⟩) R s:=by
 obtain ⟨hh,g,d,t,os⟩:=s;exact PySem.W.make_core (PySem.W.makes_of X hm) (PySem.W.looks_findIn X hi) (fun self=>PySem.W.bind_fn X self hf) (.inl rfl) h
end
def jW (f:Str) (v:V):List (Str×V)→List (Str×V)
 |[]=>[(f,v)]
 | (g,x)::r=>if g=f then (g,v)::r else (g,x)::jW f v r
theorem v7 (f g:Str) (v:V):∀fs:List (Str×V),(jW f v fs).lookup g=if g=f then some v else fs.lookup g
 |[]=>by
  show List.lookup g [(f,v)]=_
  by_cases h:g=f
  ·have hb:(g == f)=true:=beq_iff_eq.mpr h;simp only [List.lookup,hb,if_pos h]
  ·have hb:(g == f)=false:=beq_eq_false_iff_ne.mpr h;simp only [List.lookup,hb,if_neg h]
 | (k,x)::r=>by
  have ih:=v7 f g v r;rw [show jW f v ((k,x)::r)=(if k=f then (k,v)::r else (k,x)::jW f v r) from rfl]
  by_cases hk:k=f
  ·rw [if_pos hk]
   by_cases h:g=k
   ·have hb:(g == k)=true:=beq_iff_eq.mpr h;simp only [List.lookup,hb,if_pos (h.trans hk)]
   ·have hb:(g == k)=false:=beq_eq_false_iff_ne.mpr h;simp only [List.lookup,hb,if_neg (fun e:g=f=>h (e.trans hk.symm))]
  ·rw [if_neg hk]
   by_cases h:g=k
   ·have hb:(g == k)=true:=beq_iff_eq.mpr h;simp only [List.lookup,hb,if_neg (fun e:g=f=>hk (h.symm.trans e))]
   ·have hb:(g == k)=false:=beq_eq_false_iff_ne.mpr h;simp only [List.lookup,hb];exact ih
theorem pQ (f:Str) (v:V):∀fs:List (Str×V),f∈(jW f v fs).map (·.1)∧∀g,g∈fs.map (·.1)→g∈(jW f v fs).map (·.1)
 |[]=>⟨by simp [jW],fun g h=>by simp at h⟩
 | (k,x)::r=>by
  obtain ⟨i1,i2⟩:=pQ f v r;rw [show jW f v ((k,x)::r)=(if k=f then (k,v)::r else (k,x)::jW f v r) from rfl]
  by_cases hk:k=f
  ·rw [if_pos hk];subst hk;exact ⟨by simp,fun g h=>by simpa using h⟩
  ·rw [if_neg hk];refine ⟨?_,fun g h=>?_⟩
   ·rw [List.map_cons];exact List.mem_cons_of_mem _ i1
   ·rw [List.map_cons] at h ⊢
    rcases List.mem_cons.mp h with e|e
    ·exact List.mem_cons.mpr (.inl e)
    ·exact List.mem_cons_of_mem _ (i2 g e)
theorem QD (f:Str) (v:V):∀fs:List (Str×V),(jW f v fs).length≤fs.length+1
 |[]=>by simp [jW]
 | (k,x)::r=>by
  have ih:=QD f v r;rw [show jW f v ((k,x)::r)=(if k=f then (k,v)::r else (k,x)::jW f v r) from rfl]
  by_cases hk:k=f
  ·rw [if_pos hk,List.length_cons,List.length_cons];omega
  ·rw [if_neg hk,List.length_cons,List.length_cons];omega
theorem RelO.some_of {v:V} {o:Option Value} (r:RelO (some v) o):∃u,o=some u∧RelV v u:=by
 cases o with
 |none=>exact (show False from r).elim
 |some u=>exact ⟨u,rfl,r⟩
theorem RelO.none_of {o:Option Value} (r:RelO none o):o=none:=by
 cases o with
 |none=>rfl
 |some u=>exact (show False from r).elim
theorem N7 {v:V} {u:Value} (r:RelV v u):PySem.W.handedIn u=true:=by
 cases v with
 |non=>cases (show u=Value.none from r);rfl
 |bl b=>cases (show u=Value.bool b from r);rfl
 |int i=>obtain ⟨t,e⟩:=(show ∃t,u=Value.int i t from r);cases e;rfl
 |str x=>obtain ⟨t,e⟩:=(show ∃t,u=Value.str x t from r);cases e;rfl
 |byt b=>obtain ⟨t,e⟩:=(show ∃t,u=Value.bytes b t from r);cases e;rfl
 |flt b=>obtain ⟨t,e⟩:=(show ∃t,u=Value.float b t from r);cases e;rfl
 |ref a=>cases (show u=Value.ref a from r);rfl
 |ty n=>cases (show u=Value.type n from r);rfl
section
variable {P:Program} {w:World} {H H':Hp} {h h':Heap} {a C dx:Addr} {fs fs':List (Str×V)}
theorem i5 (hok:HOk P w H h) (e:H a=some (.ins C dx fs)):∃mA,ObjM h a dx C mA∧(∀f,RelO (fs.lookup f) (mA f))∧PySem.Within mA (fs.map (·.1))∧fs.length≤1000∧H dx=some (.own a):=by
 obtain ⟨d,z,ne,ob,mA,n,r,q⟩:=(show ObjOk P w H h a (.ins C dx fs) from hok a _ e);exact ⟨mA,⟨ob,n,ne⟩,r,q,z,d⟩
end
structure Cls (K:PySem.W.Frag) (C:Addr):Prop where
 pg:PySem.W.plainGet K C Str.empty=true
 hd:PySem.W.hasDictIn K C=true
 po:PySem.W.plainOver K C=true
 sa:PySem.W.findIn K (.ref C) "__setattr__"=some (some (.builtin "object.__setattr__"))
theorem Cls.get {K:PySem.W.Frag} (c:Cls K C) (f:Str):PySem.W.plainGet K C f=true:=c.pg
def NoAttr (K:PySem.W.Frag) (C:Addr) (f:Str):Prop:=PySem.W.findIn K (.ref C) f=some none
theorem NoAttr.taker {K:PySem.W.Frag} {f:Str} (n:NoAttr K C f):PySem.W.takerIn K C f=some none:=by
 unfold PySem.W.takerIn;rw [show PySem.W.findIn K (.ref C) f=some none from n];rfl
structure Meth (K:PySem.W.Frag) (C:Addr) (m:Str) (f:Addr):Prop where
 at_:PySem.W.findIn K (.ref C) m=some (some (.ref f))
 fn:PySem.W.isFn K (.ref f)=true
 kp:PySem.W.keepIn K (.ref f)=true
section
variable {X:Cx} {pins:List (Addr×Obj)} {σ:St} {H:Hp} {s:Shared} {a C dx:Addr} {fs:List (Str×V)} {f:Str} {v:V} {A:Around} {E:Value→Shared→Prop}
theorem M4 {b:Bool} {Q:Value→Shared→Prop} (I:Inv X pins σ H s) (e:H a=some (.ins C dx fs)) (c:Cls X.K C) (n:NoAttr X.K C f) (l:fs.lookup f=some v)
  (h:∀u s',Inv X pins σ H s'→RelV v u→Q u s'):wpAny (model X.prog X.w) A (getAttr (.ref a) f b) Q E s:=by
 obtain ⟨mA,O,r,_,_,_⟩:=i5 I.hok e;obtain ⟨u,hu,ru⟩:=RelO.some_of (v:=v) (o:=mA f) (by rw [← l];exact r f);exact RZ I.kIn O (c.get f) c.hd n hu (N7 ru) (h u _ (I.tok _) ru)
theorem iH {m:Str} {g:Addr} {pl:Sem Bool} {Q:Value×List Value→Shared→Prop} (I:Inv X pins σ H s) (e:H a=some (.ins C dx fs)) (c:Cls X.K C) (k:Meth X.K C m g) (l:fs.lookup m=none)
  (h:Q (.ref g,[.ref a]) s):wpAny (model X.prog X.w) A (getMethod (.ref a) m pl) Q E s:=by
 obtain ⟨mA,O,r,_,_,_⟩:=i5 I.hok e;have hn:mA m=none:=RelO.none_of (by rw [← l];exact r m);exact PB I.kIn O (c.get m) k.at_ k.fn hn h
theorem MN {y:V} {u:Value} {Q:Unit→Shared→Prop} (I:Inv X pins σ H s) (e:H a=some (.ins C dx fs)) (c:Cls X.K C) (n:NoAttr X.K C f) (hl:fs.length<1000) (ry:RelV y u)
  (h:∀s',Inv X pins σ (upd H a (.ins C dx (jW f y fs))) s'→Q () s'):wpAny (model X.prog X.w) A (setAttr (.ref a) f u) Q E s:=by
 obtain ⟨mA,O,r,wi,_,ho⟩:=i5 I.hok e;have hz:(fs.map (·.1)).length≤sizeLine:=by rw [List.length_map,sizeLine_eq];omega
 refine P6 I.kIn O c.sa c.po n.taker c.hd wi hz fun h' O' sb=>h _ ?_
 have hd:∃o,h'.get? dx=some o:=let ⟨o,_,_,e',_⟩:=O'.ns;⟨o,e'⟩
 refine I.write (x:=a) (e:=dx) (by rw [e];exact True.intro) (.inr ho) (fun b q hb z=>(sb.2 b hb).trans z) hd ?_;refine ⟨by rw [jG O.ne];exact ho,?_,O.ne,O'.obj,_,O'.ns,fun g=>?_,fun g hg=>?_⟩
 ·have:=QD f y fs;omega
 ·show RelO ((jW f y fs).lookup g) (if g=f then some u else mA g);rw [v7]
  by_cases q:g=f
  ·rw [if_pos q,if_pos q];exact ry
  ·rw [if_neg q,if_neg q];exact r g
 ·by_cases q:g=f
  ·rw [q];exact (pQ f y fs).1
  ·refine (pQ f y fs).2 g (wi g fun z=>hg ?_);show (if g=f then some u else mA g)=none;rw [if_neg q];exact z
theorem Inv.made (I:Inv X pins σ H s):Inv X pins σ (upd (upd H s.heap.objs.size (.own (s.heap.objs.size+1))) (s.heap.objs.size+1) (.ins C s.heap.objs.size []))
  {s with heap:=(s.heap.push PySem.W.emptyDict).push (PySem.W.instObj C s.heap.objs.size)}:=by
 have e1:(s.heap.push PySem.W.emptyDict).get? s.heap.objs.size=some PySem.W.emptyDict:=Heap.get?_push_size s.heap rfl;have e2:((s.heap.push PySem.W.emptyDict).push (PySem.W.instObj C s.heap.objs.size)).get? (s.heap.objs.size+1)=some (PySem.W.instObj C s.heap.objs.size):=by
  have:=Heap.get?_push_size (s.heap.push PySem.W.emptyDict) (o:=PySem.W.instObj C s.heap.objs.size) rfl
  rwa [Heap.size_push] at this
 have e3:(s.heap.push PySem.W.emptyDict).Ns s.heap.objs.size (fun _=>none):=⟨PySem.W.emptyDict,#[],_,e1,rfl,(fun e he=>absurd he (by simp)),fun _=>rfl⟩;have I1:=I.laid (a:=s.heap.objs.size) (o:=.own (s.heap.objs.size+1)) (h':=s.heap.push PySem.W.emptyDict) (t':=s.toks) (fun b u q=>Heap.get?_push_of_some _ q) (Nat.le_refl _) ⟨_,e1⟩;refine I1.laid (a:=s.heap.objs.size+1) (o:=.ins C s.heap.objs.size []) (t':=s.toks) (fun b u q=>Heap.get?_push_of_some _ q) (Nat.le_of_eq (Heap.size_push _ _)) ?_;have ne:s.heap.objs.size≠s.heap.objs.size+1:=Nat.ne_of_lt (Nat.lt_succ_self _);refine ⟨by rw [jG ne,jD],Nat.zero_le _,ne,e2,fun _=>none,(Heap.Ns1.of_empty e3).at fun o q=>Heap.get?_push_of_some _ q,fun _=>True.intro,fun y hy=>absurd rfl hy⟩
theorem SB {prog:Program} {w:World} {env:Env} {e:Expr} {f:Str} {pos:Pos} {s:Shared} {Q:Value→Shared→Prop} (hb:attributeBase e f env (eval e env)=eval e env)
  (h:wpAny (model prog w) A (eval e env) (fun o s₁=>wpAny (model prog w) A (getAttr o f true) Q E s₁) E s):wpAny (model prog w) A (eval (.Attribute e f pos) env) Q E s :=
 Attribute_any_ h (by rw [arm_eval_Attribute,hb])
end
def EX (K:PySem.W.Frag) (ta:TE) (f:Str):TE:=fun σ H Q=>ta σ H fun x H1=>∃a C dx fs v,x=.ref a∧H1 a=some (.ins C dx fs)∧Cls K C∧NoAttr K C f∧fs.lookup f=some v∧Q v H1
def UW (K:PySem.W.Frag) (ta tv:TE) (f:Str):TS:=fun D σ H=>tv σ H fun y H1=>ta σ H1 fun x H2=>∃a C dx fs,x=.ref a∧H2 a=some (.ins C dx fs)∧Cls K C∧NoAttr K C f∧fs.length<1000∧
 D.nx σ (upd H2 a (.ins C dx (jW f y fs)))
section
variable {X:Cx} {o e value:Expr} {f:Str} {pos pos' tpos:Pos} {ta tv:TE}
theorem FI (he:PE X e ta) (hb:attributeBase e f X.env (eval e X.env)=eval e X.env):PE X (.Attribute e f pos) (EX X.K ta f):=by
 intro pins s σ H Q I h;refine SB hb (jN (he pins s σ H _ I h) fun u s1 ⟨x,H1,I1,rx,a,C,dx,fs,v,ex,ea,c,n,l,q⟩=>?_);subst ex;obtain rfl:u=Value.ref a:=rx;exact M4 I1 ea c n l fun u' s2 I2 ru=>⟨v,H1,I2,ru,q⟩
theorem zH (ha:PE X o ta) (hv:PE X value tv) (hs:swapsWith value (some (.Attribute o f pos')) pos.line X.env=pure false):PS X (.Assign [.Attribute o f pos'] value pos) (UW X.K ta tv f):=by
 intro pins s σ H D I h;refine plainObj_wpAny_Assign_Attribute (jN (hv pins s σ H _ I h) fun u s1 ⟨y,H1,I1,ry,q⟩=>jN (ha pins s1 σ H1 _ I1 q) fun ov s2 ⟨x,H2,I2,rx,a,C,dx,fs,ex,ea,c,n,l,q2⟩=>?_) hs;subst ex;obtain rfl:ov=Value.ref a:=rx;exact MN I2 ea c n l ry fun s3 I3=>⟨σ,_,I3,q2⟩
end
section
variable {X:Cx} {pins:List (Addr×Obj)} {σ:St} {H:Hp} {s:Shared} {A:Around} {E:Value→Shared→Prop} {Q:Value→Shared→Prop} {c:Value} {b:Bool}
inductive TyOf (K:PySem.W.Frag) (H:Hp):V→Value→Prop where
 |non:TyOf K H .non (.type "NoneType")
 |bl (x:Bool):TyOf K H (.bl x) (.type "bool")
 |int (i:Int):TyOf K H (.int i) (.type "int")
 |str (x:Str):TyOf K H (.str x) (.type "str")
 |flt (x:UInt64):TyOf K H (.flt x) (.type "float")
 |lst {a:Addr} {xs:List V} (e:H a=some (.lst xs)):TyOf K H (.ref a) (.type "list")
 |frz {a:Addr} {o:Obj} {xs:List V} (e:H a=some (.frz o (.lst xs))):TyOf K H (.ref a) (.type "list")
 |tup {a:Addr} {xs:List V} (e:H a=some (.tup xs)):TyOf K H (.ref a) (.type "tuple")
 |dK {a:Addr} {kvs:List (kD×V)} (e:H a=some (.dK kvs)):TyOf K H (.ref a) (.type "dict")
 |dT {a:Addr} {kvs:List (List kD×V)} (e:H a=some (.dT kvs)):TyOf K H (.ref a) (.type "dict")
 |ins {a C dx:Addr} {fs:List (Str×V)} (e:H a=some (.ins C dx fs)) (cl:Cls K C) (ha:PySem.W.findIn K (.ref C) "__class__"=some (some (.builtin "object.__class__")))
   (hn:PySem.W.specialIn K (.builtin "object.__class__") "__get__"=some (some (.builtin "getset_descriptor.__get__"))) (htk:PySem.W.takesIn K (.builtin "object.__class__")=some true)
   (hm:PySem.W.mroIn K C (.type "object")=some true):TyOf K H (.ref a) (.ref C)
theorem N4 {x:V} {u t:Value} (I:Inv X pins σ H s) (rx:RelV x u) (ty:TyOf X.K H x t) (e:PySem.W.kitOne X.K t c=some b) (h:∀tk,Q (.bool b) {s with toks:=tk}) :
  wpAny (model X.prog X.w) A (call (.builtin "isinstance") [u,c]) Q E s:=by
 cases ty with
 |non=>cases (show u=Value.none from rx);exact PySem.W.kia_one PySem.W.kitx_none I.kIn True.intro e (fun z=>nomatch z) h
 |bl y=>cases (show u=Value.bool y from rx);exact PySem.W.kia_one PySem.W.kitx_bool I.kIn True.intro e (fun z=>nomatch z) h
 |int i=>obtain ⟨t,q⟩:=(show ∃t,u=Value.int i t from rx);cases q;exact PySem.W.kia_one PySem.W.kitx_int I.kIn True.intro e (fun z=>nomatch z) h
 |str y=>obtain ⟨t,q⟩:=(show ∃t,u=Value.str y t from rx);cases q;exact PySem.W.kia_one PySem.W.kitx_str I.kIn True.intro e (fun z=>nomatch z) h
 |flt y=>obtain ⟨t,q⟩:=(show ∃t,u=Value.float y t from rx);cases q;exact PySem.W.kia_one PySem.W.kitx_float I.kIn True.intro e (fun z=>nomatch z) h
 |@lst a xs ea =>
  cases (show u=Value.ref a from rx);obtain ⟨_,_,n,_,h1⟩:=(show ObjOk X.prog X.w H s.heap a (.lst xs) from I.hok a _ ea);exact PySem.W.kia_one PySem.W.kitx_list I.kIn ⟨_,h1,rfl⟩ e (fun z=>nomatch z) h
 |@frz a ob xs ea =>
  cases (show u=Value.ref a from rx);obtain ⟨_,_,_,n,_,h1⟩:=(show ObjOk X.prog X.w H s.heap a (.frz ob (.lst xs)) from I.hok a _ ea);exact PySem.W.kia_one PySem.W.kitx_list I.kIn ⟨_,h1,rfl⟩ e (fun z=>nomatch z) h
 |@tup a xs ea =>
  cases (show u=Value.ref a from rx);obtain ⟨_,_,_,p⟩:=(show ObjOk X.prog X.w H s.heap a (.tup xs) from I.hok a _ ea);obtain ⟨o,h1,h2,_⟩:=p;exact PySem.W.kia_one PySem.W.kitx_tuple I.kIn ⟨o,h1,h2⟩ e (fun z=>nomatch z) h
 |@dK a kvs ea =>
  cases (show u=Value.ref a from rx);obtain ⟨_,_,vs,_,p⟩:=(show ObjOk X.prog X.w H s.heap a (.dK kvs) from I.hok a _ ea);obtain ⟨o,es,ep,h1,h2,_⟩:=p;exact PySem.W.kia_one PySem.W.kitx_dict I.kIn ⟨o,h1,h2.1⟩ e (fun z=>nomatch z) h
 |@dT a kvs ea =>
  cases (show u=Value.ref a from rx);obtain ⟨_,_,xs,_,o,es,ep,h1,h2,_⟩:=(show ObjOk X.prog X.w H s.heap a (.dT kvs) from I.hok a _ ea);exact PySem.W.kia_one PySem.W.kitx_dict I.kIn ⟨o,h1,h2.1⟩ e (fun z=>nomatch z) h
 |@ins a C dx fs ea cl ha hn htk hm =>
  cases (show u=Value.ref a from rx);obtain ⟨mA,O,_⟩:=i5 I.hok ea;obtain ⟨od,J,_⟩:=O.look;exact PySem.W.kia_one (PySem.W.kitx_own (cl.get _) cl.hd ha hn htk hm) I.kIn J e (fun z=>nomatch z) h
end
end L2
namespace L2
open PySem PySem.Spec PyProof.Rows
structure Room (k:Nat) (A:Around):Prop where
 hd:A.handled=none
 dp:A.depth+3*k+5<recursionLimit
 un:A.units+16*k+200<cLine
variable {k:Nat} {A:Around}
theorem Room.mono {j:Nat} (r:Room k A) (h:j≤k):Room j A:=⟨r.hd,by have:=r.dp;omega,by have:=r.un;omega⟩
theorem Room.deeper (r:Room (k+1) A) (env:Env):Room k (A.deeper env) :=
 ⟨r.hd,by have:=r.dp;show A.depth+1+3*k+5<_;omega,by have:=r.un;show A.units+3+16*k+200<_;omega⟩
variable {us:List Value}
theorem MX {C:Addr} {kw:List (Str×Value)}:(A.under (.builtin "type.__call__" ⟨.ref C::us,kw⟩)).depth=A.depth+1:=by
 first|rfl|simp [Around.under,Code.weight,Code.isCreation,Code.isGuard,Code.isCaller,Code.frames,Code.isFrame,guardIds]
theorem MW {C:Addr} {kw:List (Str×Value)}:(A.under (.builtin "type.__call__" ⟨.ref C::us,kw⟩)).units=A.units+1:=by
 first|rfl|simp [Around.under,Code.cUnits,Code.frames,Code.isFrame]
theorem Room.make (r:Room (k+1) A) (C:Addr) (us:List Value) (kw:List (Str×Value)):Room k (A.under (.builtin "type.__call__" ⟨.ref C::us,kw⟩)) :=
 ⟨r.hd,by have:=r.dp;rw [MX];omega,by have:=r.un;rw [MW];omega⟩
theorem Room.depth (r:Room k A):A.depth<recursionLimit:=by have:=r.dp;omega
theorem Room.units (r:Room k A):A.units+64<cLine:=by have:=r.un;omega
theorem Room.units0 (r:Room k A):A.units<cLine:=by have:=r.un;omega
def J4:TA:=fun _ H Q=>Q [] H
def v8 (ta:TE) (tr:TA):TA:=fun σ H Q=>ta σ H fun x H1=>tr σ H1 fun xs H2=>Q (x::xs) H2
section
variable {X:Cx} {e:Expr} {es:List Expr} {te:TE} {t:TA} {pos:Pos}
theorem jE:PA X [] J4:=fun _ _ _ _ H Q I h=>Calls.spliced_nil ⟨[],H,I,.nil,h⟩
theorem jB (ha:PE X e te) (hr:PA X es t) (hs:starEach (e::es) X.env=(false,eval e X.env)::starEach es X.env:=by rfl):PA X (e::es) (v8 te t):=by
 intro pos pins s σ H Q I h;rw [hs];show wpAny _ _ (spliced ((false,eval e X.env)::backTo pos (starEach es X.env))) _ _ s;refine Calls.spliced_cons (jN (ha pins s σ H _ I h) fun u s1 ⟨x,H1,I1,r1,q1⟩=>?_);exact jN (hr pos pins s1 σ H1 _ I1 q1) fun us s2 ⟨xs,H2,I2,r2,q2⟩=>⟨x::xs,H2,I2,.cons r1 r2,q2⟩
def UL (t:TA):TE:=fun σ H Q=>t σ H fun xs H1=>xs.length≤sizeLine∧∀p,H1 p=none→Q (.ref p) (upd H1 p (.tup xs))
def UP (t:TA):TE:=fun σ H Q=>t σ H fun xs H1=>xs.length≤sizeLine∧∀p,H1 p=none→Q (.ref p) (upd H1 p (.lst xs))
theorem kY {x1} (h:PA X es t):PE X (.Tuple es x1 pos) (UL t):=by
 intro pins s σ H Q I hq;refine wpAny_Tuple_spliced (jN (h pos pins s σ H _ I hq) fun us s1 ⟨xs,H1,I1,r,z,q⟩=>⟨by rw [← r.length];exact z,?_⟩);have hf:H1 s1.heap.objs.size=none:=I1.hok.fresh (Nat.le_refl _);refine ⟨.ref s1.heap.objs.size,upd H1 s1.heap.objs.size (.tup xs),I1.laid (t':=s1.toks) (fun b u e=>Heap.get?_push_of_some _ e) (Nat.le_refl _) ?_,rfl,q _ hf⟩;exact ⟨z,us,r,⟨_,Heap.get?_push_size _ rfl,rfl,_,rfl⟩⟩
theorem qO (h:PA X es t):PE X (.List es pos) (UP t):=by
 intro pins s σ H Q I hq;refine wpAny_List_spliced (jN (h pos pins s σ H _ I hq) fun us s1 ⟨xs,H1,I1,r,z,q⟩=>⟨by rw [← r.length];exact z,?_⟩);have hf:H1 s1.heap.objs.size=none:=I1.hok.fresh (Nat.le_refl _);refine ⟨.ref s1.heap.objs.size,upd H1 s1.heap.objs.size (.lst xs),I1.laid (t':=s1.toks) (fun b u e=>Heap.get?_push_of_some _ e) (Nat.le_refl _) ?_,rfl,q _ hf⟩;exact ⟨z,us,0,r,Heap.get?_push_size _ rfl⟩
end
abbrev Sp:=List V→Hp→VK→XK→Prop
abbrev vR:=List Env→Hp→Shared→XK→Value→Shared→Prop
structure Env0 (P:Program) (w:World) (K:PySem.W.Frag) (mg:Str→Option Value) (base:Heap) (A:Around) (outer:List Env) (s:Shared) (H:Hp):Prop where
 frames:A.frames=some outer
 mod:Mod K mg base
 bs:∀b o,base.get? b=some o→s.heap.get? b=some o∧H b=none
 bsz:base.objs.size≤s.heap.objs.size
 funs:s.heap.FunFrames base outer
 frf:∀b∈kN outer,H b=none
 hok:HOk P w H s.heap
 bare:AllBare s.gens
def CE (outer:List Env) (P:Program) (w:World) (H:Hp) (s:Shared) (Q:VK) (u:Value) (s':Shared):Prop :=
 ∃v H',s'.os=s.os∧AllBare s'.gens∧Un (kN outer) [] H H' s.heap s'.heap∧HOk P w H' s'.heap∧RelV v u∧Q v H'
def CR (CX:vR) (outer:List Env) (P:Program) (w:World) (H:Hp) (s:Shared) (Q:VK) (E:XK) (r:Result) (s':Shared):Prop :=
 match r with
 |.ok (.ret u)=>CE outer P w H s Q u s'
 |.ok _=>False
 |.error e=>CX outer H s E e s'
structure FnOk (P:Program) (w:World) (K:PySem.W.Frag) (mg:Str→Option Value) (base:Heap) (CX:vR) (k:Nat) (f:Addr) (fd:FuncData) (ps:List Str) (sp:Sp):Prop where
 len:∀vs H Q E,sp vs H Q E→vs.length=ps.length
 run:∀(A:Around) (outer:List Env) (s:Shared) (H:Hp) (args:Args) (us:List Value) (vs:List V) (Q:VK) (E:XK),Room k A→Env0 P w K mg base A outer s H→BindsTo s fd args (ps.zip us)→Vals vs us→sp vs H Q E→
  codeAny (model P w) A (.call (.ref f) args) (CR CX outer P w H s Q E) s
variable {P:Program} {w:World} {K:PySem.W.Frag} {mg:Str→Option Value} {base:Heap} {CX:vR} {f:Addr} {ps:List Str}
theorem FnOk.imp {fd:FuncData} {sp sp':Sp} (F:FnOk P w K mg base CX k f fd ps sp)
  (h:∀vs H Q E,sp' vs H Q E→sp vs H Q E):FnOk P w K mg base CX k f fd ps sp' :=
 ⟨fun vs H Q E q=>F.len vs H Q E (h _ _ _ _ q),fun A outer s H args us vs Q E hr he hb hv hs=>F.run A outer s H args us vs Q E hr he hb hv (h _ _ _ _ hs)⟩
theorem Env0.make {outer:List Env} {s:Shared} {H:Hp} (e:Env0 P w K mg base A outer s H) (C:Addr) (us:List Value) (kw:List (Str×Value)) :
  Env0 P w K mg base (A.under (.builtin "type.__call__" ⟨.ref C::us,kw⟩)) outer s H:=⟨by first|exact e.frames|(simpa [Around.under,Code.envs,Code.isFrame,pushEnvs] using e.frames),e.mod,e.bs,e.bsz,e.funs,e.frf,e.hok,e.bare⟩
section
variable {X:Cx} {pins:List (Addr×Obj)} {σ:St} {H:Hp} {s s':Shared}
theorem Inv.env0 (I:Inv X pins σ H s):Env0 X.prog X.w X.K X.mg X.base X.A X.stack s H :=
 ⟨I.ok.frames,I.ok.mod,I.bs,Nat.le_trans I.ok.bsz I.sz,I.stack,I.stkFree,I.hok,I.bare⟩
theorem Inv.after {Q:VK} {u:Value} (I:Inv X pins σ H s) (h:CE X.stack X.prog X.w H s Q u s'):EP X pins σ Q u s':=by
 obtain ⟨v,H',os,bare,un,hok,r,q⟩:=h;obtain ⟨hh,g,d,t,os'⟩:=s';obtain rfl:os'=s.os:=os;exact ⟨v,H',I.call (h':=hh) (g':=g) (d':=d) (t':=t) (ch:=[]) un hok bare (fun b z=>absurd z (by simp)),r,q⟩
end
def tJ (sp:Sp) (dvs:List V) (E:XK) (t:TA):TE:=fun σ H Q=>t σ H fun vs H1=>sp (vs++dvs) H1 Q E
def lN (C:Addr) (m:Str) (sp:Sp) (dvs:List V) (E:XK) (ta:TE) (t:TA):TE:=fun σ H Q=>ta σ H fun x H1=>∃a dx fs,x=.ref a∧H1 a=some (.ins C dx fs)∧fs.lookup m=none∧
 t σ H1 fun vs H2=>sp (x::(vs++dvs)) H2 Q E
def EJ (C:Addr) (sp:Sp) (dvs:List V) (E:XK) (t:TA):TE:=fun σ H Q=>t σ H fun vs H1=>∀x dx,H1 x=none→H1 dx=none→dx≠x→
 sp (.ref x::(vs++dvs)) (upd (upd H1 dx (.own x)) x (.ins C dx [])) (fun v H2=>v=.non∧Q (.ref x) H2) E
def Binds (K:PySem.W.Frag) (fd:FuncData) (ps:List Str) (ds:List Value):Prop :=
 ∀(s:Shared) (us:List Value),K.In s.heap→(us++ds).length=ps.length→BindsTo s fd ⟨us,[]⟩ (ps.zip (us++ds))
theorem Binds.all {fd:FuncData} (h:∀us:List Value,us.length=ps.length→bindArgs fd ⟨us,[]⟩=pure (ps.zip us)):Binds K fd ps []:=fun s us _ hl=>by
 rw [List.append_nil] at hl ⊢;exact .of_eq (h us hl)
def ZR (CX:vR) (X:Cx) (E:XK):Prop:=∀(pins:List (Addr×Obj)) (σ:St) (H:Hp) (s:Shared) (e:Value) (s':Shared),Inv X pins σ H s→CX X.stack H s E e s'→X.xe e s'
section
variable {X:Cx} {CX:vR} {k:Nat} {f C:Addr} {fd:FuncData} {ps:List Str} {sp:Sp} {dvs:List V} {ds:List Value} {E:XK} {x m:Str} {p pos apos:Pos} {e o:Expr} {es:List Expr} {ta:TE} {t:TA}
theorem dD {pins:List (Addr×Obj)} {σ:St} {H:Hp} {s:Shared} {Q:VK} {us:List Value} {vs:List V} (F:FnOk X.prog X.w X.K X.mg X.base CX k f fd ps sp) (hr:Room k X.A) (hb:Binds X.K fd ps ds) (hd:Vals dvs ds) (hx:ZR CX X E)
  (I:Inv X pins σ H s) (r:Vals vs us) (h:sp (vs++dvs) H Q E):wpAny (model X.prog X.w) X.A (call (.ref f) us) (EP X pins σ Q) X.xe s:=by
 have r2:Vals (vs++dvs) (us++ds):=r.append hd;have hl:(us++ds).length=ps.length:=by rw [← r2.length];exact F.len _ _ _ _ h
 refine wpAny_call (codeAny_mono (F.run X.A X.stack s H ⟨us,[]⟩ (us++ds) (vs++dvs) Q E hr I.env0 (hb s us I.kIn hl) r2 h) fun r s' hq=>?_);cases r with
 |error e=>exact hx pins σ H s e s' I hq
 |ok fl =>
  cases fl with
  |ret u=>exact I.after hq
  |next=>exact False.elim hq
  |brk=>exact False.elim hq
  |cont=>exact False.elim hq
theorem RI (F:FnOk X.prog X.w X.K X.mg X.base CX k f fd ps sp) (hr:Room k X.A) (hg:Gl X x) (hm:X.mg x=some (.ref f)) (hk:PySem.W.keepIn X.K (.ref f)=true) (hb:Binds X.K fd ps ds) (hd:Vals dvs ds) (hx:ZR CX X E)
  (ha:PA X (e::es) t) (hdb:(x == ("__debug__":Str))=false:=by decide) (he:starEach (e::es) X.env=(false,eval e X.env)::starEach es X.env:=by rfl) (hpl:(backTo pos (starEach es X.env)).any (·.1)=false:=by rfl) :
  PE X (.Call (.Name x p) (e::es) [] pos) (tJ sp dvs E t):=by
 intro pins s σ H Q I h;refine wpAny_Call_Name_kw (bI I hg hm ?_ hdb);refine PySem.W.callWith_K (h₀:=X.base) I.ok.mod.kin hk (jN (ha pos pins s σ H _ I h) fun us s1 ⟨vs,H1,I1,r,q⟩=>⟨I1.kIn,?_⟩) he hpl;exact dD F hr hb hd hx I1 r q
theorem RE {pl:Sem Bool} (he:PE X o ta) (c:Cls X.K C) (hm:Meth X.K C m f) (F:FnOk X.prog X.w X.K X.mg X.base CX k f fd ps sp) (hr:Room k X.A) (hb:Binds X.K fd ps ds) (hd:Vals dvs ds) (hx:ZR CX X E) (ha:PA X (e::es) t)
  (hst:starEach (e::es) X.env=(false,eval e X.env)::starEach es X.env:=by rfl) (hpl:(backTo pos (starEach es X.env)).any (·.1)=false:=by rfl)
  (ht:eval (.Call (.Attribute o m apos) (e::es) [] pos) X.env=(do
   let ov ← eval o X.env
   standAt apos.atName
   let (f,first) ← holding [ov] (getMethod ov m pl)
   callWith pos f first (backTo pos (starEach (e::es) X.env)) (backToKw pos (keywordEach [] X.env))):=by rfl) :
  PE X (.Call (.Attribute o m apos) (e::es) [] pos) (lN C m sp dvs E ta t):=by
 intro pins s σ H Q I h;refine PySem.W.methodCall_KW (pl:=pl) (jN (he pins s σ H _ I h) fun u s1 ⟨x,H1,I1,rx,a,dx,fs,ex,ea,l,q⟩=>?_) ht;subst ex;obtain rfl:u=Value.ref a:=rx;refine iH I1 ea c hm l ?_;refine PySem.W.callWith_K (first:=[.ref a]) (h₀:=X.base) I.ok.mod.kin hm.kp (jN (ha pos pins s1 σ H1 _ I1 q) fun us s2 ⟨vs,H2,I2,r,q2⟩=>⟨I2.kIn,?_⟩) hst hpl;exact dD (us:=.ref a::us) (vs:=.ref a::vs) F hr hb hd hx I2 (.cons rfl r) q2
theorem OS {pl:Sem Bool} (he:PE X o ta) (c:Cls X.K C) (hm:Meth X.K C m f) (F:FnOk X.prog X.w X.K X.mg X.base CX k f fd ps sp) (hr:Room k X.A) (hb:Binds X.K fd ps ds) (hd:Vals dvs ds) (hx:ZR CX X E)
  (ht:eval (.Call (.Attribute o m apos) [] [] pos) X.env=(do
   let ov ← eval o X.env
   standAt apos.atName
   let (f,first) ← holding [ov] (getMethod ov m pl)
   callWith pos f first (backTo pos (starEach [] X.env)) (backToKw pos (keywordEach [] X.env))):=by rfl) :
  PE X (.Call (.Attribute o m apos) [] [] pos) (lN C m sp dvs E ta J4):=by
 intro pins s σ H Q I h;refine PySem.W.methodCall_KW (pl:=pl) (jN (he pins s σ H _ I h) fun u s1 ⟨x,H1,I1,rx,a,dx,fs,ex,ea,l,q⟩=>?_) ht;subst ex;obtain rfl:u=Value.ref a:=rx;refine iH I1 ea c hm l ?_;exact PySem.W.callWith_K0 (first:=[.ref a]) I1.kIn hm.kp (dD (us:=[.ref a]) (vs:=[.ref a]) F hr hb hd hx I1 (.cons rfl .nil) q)
structure Mk (K:PySem.W.Frag) (C f:Addr):Prop where
 makes:PySem.W.makesIn K C=true
 init:PySem.W.findIn K (.ref C) "__init__"=some (some (.ref f))
 fn:PySem.W.isFn K (.ref f)=true
 kp:PySem.W.keepIn K (.ref C)=true
theorem OO {pins:List (Addr×Obj)} {σ:St} {H:Hp} {s:Shared} {Q:VK} {us:List Value} {vs:List V} (M:Mk X.K C f) (F:FnOk X.prog X.w X.K X.mg X.base CX k f fd ps sp) (hr:Room (k+1) X.A) (hb:Binds X.K fd ps ds) (hd:Vals dvs ds)
  (hx:ZR CX X E) (I:Inv X pins σ H s) (r:Vals vs us)
  (h:∀x dx,H x=none→H dx=none→dx≠x→sp (.ref x::(vs++dvs)) (upd (upd H dx (.own x)) x (.ins C dx [])) (fun v H2=>v=.non∧Q (.ref x) H2) E) :
  wpAny (model X.prog X.w) X.A (call (.ref C) us) (EP X pins σ Q) X.xe s:=by
 have hq:=h (s.heap.objs.size+1) s.heap.objs.size (I.hok.fresh (Nat.le_succ _)) (I.hok.fresh (Nat.le_refl _)) (Nat.ne_of_lt (Nat.lt_succ_self _));have I2:=Inv.made (C:=C) I;have r2:Vals (V.ref (s.heap.objs.size+1)::(vs++dvs)) (Value.ref (s.heap.objs.size+1)::(us++ds)):=.cons rfl (r.append hd);have hl:(Value.ref (s.heap.objs.size+1)::us++ds).length=ps.length:=by
  have e:=r2.length;rw [F.len _ _ _ _ hq] at e;exact e.symm
 refine wpAny_call (O6 (f:=f) I.kIn M.makes M.init (beq_iff_eq.mp M.fn) (codeAny_mono (F.run _ X.stack _ _ ⟨Value.ref (s.heap.objs.size+1)::us,[]⟩ (Value.ref (s.heap.objs.size+1)::(us++ds)) _ _ E (hr.make C us [])
  (I2.env0.make C us []) (hb _ (Value.ref (s.heap.objs.size+1)::us) I2.kIn hl) r2 hq) fun r s' hq'=>?_))
 cases r with
 |error e=>exact hx pins σ _ _ e s' I2 hq'
 |ok fl =>
  cases fl with
  |ret u =>
   obtain ⟨v,H',I3,rv,ev,q3⟩:=I2.after hq';subst ev;exact ⟨rv,⟨V.ref (s.heap.objs.size+1),H',I3,rfl,q3⟩⟩
  |next=>exact False.elim hq'
  |brk=>exact False.elim hq'
  |cont=>exact False.elim hq'
theorem RF (M:Mk X.K C f) (F:FnOk X.prog X.w X.K X.mg X.base CX k f fd ps sp) (hr:Room (k+1) X.A) (hg:Gl X x) (hm:X.mg x=some (.ref C)) (hb:Binds X.K fd ps ds) (hd:Vals dvs ds) (hx:ZR CX X E)
  (ha:PA X (e::es) t) (hdb:(x == ("__debug__":Str))=false:=by decide) (he:starEach (e::es) X.env=(false,eval e X.env)::starEach es X.env:=by rfl) (hpl:(backTo pos (starEach es X.env)).any (·.1)=false:=by rfl) :
  PE X (.Call (.Name x p) (e::es) [] pos) (EJ C sp dvs E t):=by
 intro pins s σ H Q I h;refine wpAny_Call_Name_kw (bI I hg hm ?_ hdb);refine PySem.W.callWith_K (h₀:=X.base) I.ok.mod.kin M.kp (jN (ha pos pins s σ H _ I h) fun us s1 ⟨vs,H1,I1,r,q⟩=>⟨I1.kIn,?_⟩) he hpl;exact OO M F hr hb hd hx I1 r q
end
section
variable {X:Cx} {CX:vR} {k:Nat} {f C:Addr} {fd:FuncData} {ps ks:List Str} {sp:Sp} {E:XK} {x m:Str} {p pos apos kpos:Pos} {e o:Expr} {es:List Expr} {kws:List Keyword} {te ta:TE} {t tk:TA} {nm:Option Str}
variable {g:List Value→List Value→List Value} {gV:List V→List V→List V}
end
structure FnScope (N P:List Str) (sc:Scope):Prop where
 kind:sc.kind=.function
 co:sc.isCoroutine=false
 gen:sc.isGenerator=false
 nd:N.Nodup
 pre:N.take P.length=P
 par:∀x∈P,sc.names.lookup x=some .local∨sc.names.lookup x=some .cell
 nofree:∀y∈sc.names,y.2≠.free
theorem AL {kindOf:Str→Option NameKind} {x:Str}:∀{binds:List (Str×Value)} {m:Str→Option Value},(∀v,(x,v)∉binds)→bindL kindOf binds m x=m x
 |[],_,_=>rfl
 | (n,v)::r,m,h=>by
  unfold bindL;rw [AL fun w hw=>h w (List.mem_cons_of_mem _ hw)]
  split
  ·have:x≠n:=by rintro rfl;exact h v List.mem_cons_self
   simp [this]
  ·rfl
theorem AN {kindOf:Str→Option NameKind} {x:Str}:∀{binds:List (Str×Value)} {m:Str→Option Value},(∀v,(x,v)∉binds)→bindC kindOf binds m x=m x
 |[],_,_=>rfl
 | (n,v)::r,m,h=>by
  unfold bindC;rw [AN fun w hw=>h w (List.mem_cons_of_mem _ hw)]
  split
  ·rfl
  ·have:x≠n:=by rintro rfl;exact h v List.mem_cons_self
   simp [this]
theorem AM {kindOf:Str→Option NameKind} {x:Str} {v:Value}:∀{P:List Str} {vs:List Value} {i:Nat} {m:Str→Option Value},P.Nodup→P[i]?=some x→vs[i]?=some v→kindOf x=some .local→
  bindL kindOf (P.zip vs) m x=some v
 |[],_,_,_,_,h,_,_=>by simp at h
 |_::_,[],_,_,_,_,h,_=>by simp at h
 |p::P,w::vs,0,m,nd,h1,h2,hk=>by
  simp at h1 h2;subst h1;subst h2
  show bindL kindOf ((p,w)::P.zip vs) m p=_;unfold bindL;rw [AL fun v hv=>(List.nodup_cons.mp nd).1 (List.of_mem_zip hv).1,if_pos hk];simp
 |p::P,w::vs,i+1,m,nd,h1,h2,hk=>by
  show bindL kindOf ((p,w)::P.zip vs) m x=_;unfold bindL;exact AM (i:=i) (List.nodup_cons.mp nd).2 (by simpa using h1) (by simpa using h2) hk
theorem AO {kindOf:Str→Option NameKind} {x:Str} {v:Value}:∀{P:List Str} {vs:List Value} {i:Nat} {m:Str→Option Value},P.Nodup→P[i]?=some x→vs[i]?=some v→kindOf x≠some .local→
  bindC kindOf (P.zip vs) m x=some v
 |[],_,_,_,_,h,_,_=>by simp at h
 |_::_,[],_,_,_,_,h,_=>by simp at h
 |p::P,w::vs,0,m,nd,h1,h2,hk=>by
  simp at h1 h2;subst h1;subst h2
  show bindC kindOf ((p,w)::P.zip vs) m p=_;unfold bindC;rw [AN fun v hv=>(List.nodup_cons.mp nd).1 (List.of_mem_zip hv).1,if_neg hk];simp
 |p::P,w::vs,i+1,m,nd,h1,h2,hk=>by
  show bindC kindOf ((p,w)::P.zip vs) m x=_;unfold bindC;exact AO (i:=i) (List.nodup_cons.mp nd).2 (by simpa using h1) (by simpa using h2) hk
def start (N:List Str) (vs:List V):St:=vs.map some++List.replicate (N.length - vs.length) none
def vP (CX:vR) (P:Program) (w:World) (K:PySem.W.Frag) (mg:Str→Option Value) (base:Heap) (N:List Str) (qual:Str) (scope:Scope) (f:Addr) (cd:Value) (A:Around) (outer:List Env) (s:Shared) (H:Hp) (E:XK):Cx where
 prog:=P
 w:=w
 K:=K
 mg:=mg
 base:=base
 A:=A.deeper (envOfC qual scope s.heap.objs.size f cd)
 N:=N
 s₀:=s
 H₀:=H
 env:=envOfC qual scope s.heap.objs.size f cd
 outer:=outer
 stack:=envOfC qual scope s.heap.objs.size f cd::outer
 ex:=[]
 calm:=true
 fn:=fun _=>true
 pn:=[]
 xe:=fun e s'=>wpAny (model P w) (A.deeper (envOfC qual scope s.heap.objs.size f cd)) (leaving (envOfC qual scope s.heap.objs.size f cd) e) (fun _ s''=>CX outer H s E e s'') (fun e' s''=>CX outer H s E e' s'') s'
theorem B2 {sc:Scope} {n:Nat} {x:Str} (h:sc.names.lookup x=some .cell):∃c,(cellsFrom n sc.names []).lookup x=some c:=by
 have q:=PySem.W.cellsFrom_some sc.names n [] (.inl h);exact Option.isSome_iff_exists.mp q
theorem AB {N:List Str} {qual:Str} {scope:Scope} {cd:Value} {outer:List Env} {s s1:Shared} {H:Hp} {E:XK} {vs:List V}
  (S:FnScope N ps scope) (hd:A.handled=none) (e0:Env0 P w K mg base A outer s H) (hl:vs.length=ps.length) (r:Vals vs us)
  (x:InCallC s s.heap.objs.size (bindL (envOfC qual scope s.heap.objs.size f cd).kindOf (ps.zip us) fun _=>none) (cellsFrom (s.heap.objs.size+1) scope.names []) (bindC (envOfC qual scope s.heap.objs.size f cd).kindOf (ps.zip us) fun _=>none) s1) :
  Inv (vP CX P w K mg base N qual scope f cd A outer s H E) [] (start N vs) H s1:=by
 have hpl:ps.length≤N.length:=by have:=congrArg List.length S.pre;rw [List.length_take] at this;omega
 obtain ⟨h1,tk,rfl,hk⟩:=x.done;have noA:∀b:Addr,b∉(vP CX P w K mg base N qual scope f cd A outer s H E).ex:=fun b z=>absurd (show b∈([]:List Addr) from z) (by simp)
 refine ⟨⟨e0.mod,S.kind,rfl,rfl,Nat.le_refl _,fun y z c h1 h2=>?_,fun y hy=>?_,fun y c _ h=>?_,fun _=>hd,Around.frames_deeper e0.frames,.inr ⟨rfl,rfl⟩,fun b z=>absurd z (noA b),e0.bs,e0.bsz,fun b _ _=>noA b,fun b z=>absurd z (noA b),e0.funs,e0.frf⟩,
  rfl,e0.bare,Un.kept hk,⟨_,x.toInCall.ns,fun i y v h1 h2 h3=>?_⟩,fun y c h=>⟨_,x.cell y c h⟩,e0.hok.fresh (Nat.le_refl _),fun y c h=>?_,fun p hp=>absurd (show p∈([]:List (Addr×Obj)) from hp) (by simp),e0.hok.kept hk,?_⟩
 ·exact name_of_addr x.apart (PySem.mem_of_lookup h1) (PySem.mem_of_lookup h2)
 ·have hy:scope.names.lookup y=some .cell∨scope.names.lookup y=some .free:=hy
  rcases hy with hy|hy
  ·exact B2 hy
  ·exact absurd rfl (S.nofree _ (PySem.mem_of_lookup hy))
 ·exact Nat.le_of_lt (x.above y c (PySem.mem_of_lookup h))
 ·have hi:i<vs.length:=by
   unfold start at h2
   by_cases hi:i<vs.length
   ·exact hi
   ·rw [List.getElem?_append_right (by simpa using hi)] at h2;rw [List.getElem?_replicate] at h2
    split at h2<;>cases h2
  have ha:vs[i]?=some v:=by
   unfold start at h2;rw [List.getElem?_append_left (by simpa using hi),List.getElem?_map] at h2;cases e:vs[i]? with
   |none=>rw [e] at h2;cases h2
   |some a=>rw [e] at h2;cases h2;rfl
  obtain ⟨u,hu,rv⟩:=r.get ha;have hp:ps[i]?=some y:=by
   rw [← S.pre,List.getElem?_take_of_lt (by omega)];exact h1
  have ndP:ps.Nodup:=by rw [← S.pre];exact S.nd.sublist (List.take_sublist _ _)
  refine ⟨u,rv,?_⟩
  rcases S.par y (List.mem_of_getElem? hp) with k|k
  ·exact .inl ⟨k,AM ndP hp hu k⟩
  ·obtain ⟨c,e⟩:=B2 (n:=s.heap.objs.size+1) k;refine .inr ⟨.inl k,c,e,?_⟩;have q:=x.cell y c e;rw [AO ndP hp hu (by show scope.names.lookup y≠_;rw [k];decide)] at q;exact q
 ·exact e0.hok.fresh (Nat.le_of_lt (x.above y c (PySem.mem_of_lookup h)))
 ·unfold start;show _=N.length;rw [List.length_append,List.length_map,List.length_replicate];omega
theorem lV {name qual:Str} {params:Arguments} {body:List Stmt} {scope:Scope} {dV kV doc pm cdv ct oc:Value} {an od:Option Addr}
  {osl:Array (Option Value)} {N:List Str} {sp:Sp} (lk:K.lookup f=some ⟨oc,od,.func (PySem.W.fnOf name qual params body scope dV kV doc pm an cdv ct),osl⟩) (hcd:PySem.W.codeIn K cdv qual=true) (S:FnScope N ps scope)
  (len:∀vs H Q E,sp vs H Q E→vs.length=ps.length)
  (hbody:∀(A:Around) (outer:List Env) (s:Shared) (H:Hp) (vs:List V) (Q:VK) (E:XK),Room k (A.deeper (envOfC qual scope s.heap.objs.size f cdv))→sp vs H Q E→
   ∃t,PSs (vP CX P w K mg base N qual scope f cdv A outer s H E) body t∧t {nx:=fun _ H'=>Q .non H',rt:=Q} (start N vs) H) :
  FnOk P w K mg base CX (k+1) f (PySem.W.fnOf name qual params body scope dV kV doc pm an cdv ct) ps sp:=by
 refine ⟨len,fun A outer s H args us vs Q E hr e0 hb r hsp=>?_⟩;have hl:=len _ _ _ _ hsp;have KX:K.In s.heap:=e0.mod.kin.keeps fun b o e=>(e0.bs b o e).1
 have lim:s.heap.NoLimit:=e0.mod.nolimit.keeps fun b o e=>(e0.bs b o e).1
 have hkind:∀y∈ps.zip us,scope.names.lookup y.1=some .local∨(scope.names.lookup y.1=some .cell∧((cellsFrom (s.heap.objs.size+1) scope.names []).lookup y.1).isSome=true):=fun ⟨n,v⟩ hy=>by
  rcases S.par n (List.of_mem_zip hy).1 with q|q
  ·exact .inl q
  ·exact .inr ⟨q,PySem.W.cellsFrom_some _ _ _ (.inl q)⟩
 refine codeAny_call_function hr.depth (KX _ _ lk) rfl S.co S.gen rfl (PySem.W.codeRec_of KX hcd) (hb _ _ _ _ ?_);refine wpAny_newFunctionEnv_cells S.kind hkind fun env he s1 x=>?_
 subst he;refine ⟨lim.keeps x.toInCall.keep,codeAny_func ?_⟩;obtain ⟨t,ht,hq⟩:=hbody A outer s H vs Q E (hr.deeper _) hsp;have I:Inv (vP CX P w K mg base N qual scope f cdv A outer s H E) [] (start N vs) H s1:=AB S hr.hd e0 hl r x;refine wpAny_mono (ht [] s1 (start N vs) H _ I hq) (fun fl s' hs=>?_) fun e s' hs=>hs
 have fin:∀{σ':St} {H':Hp} {v:V} {u:Value},Inv (vP CX P w K mg base N qual scope f cdv A outer s H E) [] σ' H' s'→RelV v u→Q v H'→CE outer P w H s Q u s' :=
  fun {σ' H' v u} J rv q=>⟨v,H',J.os,J.bare,J.base,J.hok,rv,q⟩
 cases fl with
 |ret u =>
  obtain ⟨v,σ',H',J,rv,q⟩:=hs;exact fin J rv q
 |next =>
  obtain ⟨σ',H',J,q⟩:=hs;exact fin (v:=V.non) (u:=Value.none) J rfl q
 |brk =>
  obtain ⟨_,_,_,q⟩:=hs;exact False.elim q
 |cont =>
  obtain ⟨_,_,_,q⟩:=hs;exact False.elim q
end L2
namespace L2
open PySem PySem.Spec PyProof.Rows
section
variable {X:Cx} {x:Str} {p pos:Pos} {e:Expr} {es:List Expr} {t:TA} {id T:String} {r:List V→Hp→VK→Prop}
def uL (r:List V→Hp→VK→Prop) (t:TA):TE:=fun σ H Q=>t σ H fun vs H1=>r vs H1 Q
theorem y9 (hc:yQ X (.builtin id) r) (hg:Gl X x) (hm:X.mg x=none) (hv:bootBuiltins x=some (.builtin id)) (ha:PA X (e::es) t) (hn:x≠"__name__":=by decide) (hdb:(x == ("__debug__":Str))=false:=by decide)
  (he:starEach (e::es) X.env=(false,eval e X.env)::starEach es X.env:=by rfl) (hpl:(backTo pos (starEach es X.env)).any (·.1)=false:=by rfl):PE X (.Call (.Name x p) (e::es) [] pos) (uL r t):=by
 intro pins s σ H Q I h;refine wpAny_Call_Name_kw (Q6 I hg hm hv ?_ hn hdb);exact PyProof.Rows.callWith_builtin1 (jN (ha pos pins s σ H _ I h) fun us s1 ⟨vs,H1,I1,r1,q1⟩=>hc pins s1 σ H1 vs us Q I1 r1 q1) he hpl
theorem zA (hc:yQ X (.type T) r) (hg:Gl X x) (hm:X.mg x=none) (hv:bootBuiltins x=some (.type T)) (ha:PA X (e::es) t) (hn:x≠"__name__":=by decide) (hdb:(x == ("__debug__":Str))=false:=by decide)
  (he:starEach (e::es) X.env=(false,eval e X.env)::starEach es X.env:=by rfl) (hpl:(backTo pos (starEach es X.env)).any (·.1)=false:=by rfl):PE X (.Call (.Name x p) (e::es) [] pos) (uL r t):=by
 intro pins s σ H Q I h;refine wpAny_Call_Name_kw (Q6 I hg hm hv ?_ hn hdb);exact PyProof.Rows.callWith_type1 (jN (ha pos pins s σ H _ I h) fun us s1 ⟨vs,H1,I1,r1,q1⟩=>hc pins s1 σ H1 vs us Q I1 r1 q1) he hpl
end
end L2
namespace HT
open PySem PyProof.Rows
section
open PySem.SeqAt
open PySem.AutoSeq1 (wpAny_loadPart')
open PySem.MeetsSeq PySem.MeetsSeq2 PySem.MeetsSeq3
end
section
variable {prog:Program} {w:World} {A:Around} {E:Value→Shared→Prop} {s:Shared}
end
end HT
namespace L2
open PySem PySem.Spec PyProof.Rows
abbrev TO:=St→Hp→(Option Int→Hp→Prop)→Prop
def PO (X:Cx) (e:Option Expr) (t:TO):Prop :=
 ∀(pins:List (Addr×Obj)) (s:Shared) (σ:St) (H:Hp) (Q:Option Int→Hp→Prop),Inv X pins σ H s→t σ H Q→
  wpAny (model X.prog X.w) X.A (evalPart e X.env) (fun u s'=>∃o H',Inv X pins σ H' s'∧IsPart u o∧Q o H') X.xe s
def P0:TO:=fun _ H Q=>Q none H
def TK (t:TE):TO:=fun σ H Q=>t σ H fun x H1=>∃i,x=.int i∧Q (some i) H1
section
variable {X:Cx} {e:Expr} {te:TE} {lo hi:Option Expr} {tl th:TO} {pos p2:Pos}
theorem i3:PO X none P0:=by
 intro pins s σ H Q I h;rw [evalPart_none];exact wpAny_pure ⟨none,H,I,.none,h⟩
theorem gC (h:PE X e te):PO X (some e) (TK te):=by
 intro pins s σ H Q I hw;rw [evalPart_some];refine jN (h pins s σ H _ I hw) fun u s1 ⟨x,H1,I1,r1,q1⟩=>?_
 obtain ⟨i,rfl,q⟩:=q1;obtain ⟨t,rfl⟩:=r1;exact ⟨some i,H1,I1,.int i t,q⟩
def FB (X:Cx) (r:V→Option Int→Option Int→Hp→VK→Prop):Prop :=
 ∀(pins:List (Addr×Obj)) (s:Shared) (σ:St) (H:Hp) (x:V) (v vl vu:Value) (lo hi:Option Int) (sl:Addr) (Q:VK),Inv X pins σ H s→RelV x v→s.heap.IsSliceOf sl vl vu .none→IsPart vl lo→IsPart vu hi→r x lo hi H Q→
  ∃T id,typeLookup (.type T) "__getitem__"=pure (some (.builtin id))∧s.TypeIs v T∧wpAny (model X.prog X.w) X.A (getItem v (.ref sl)) (EP X pins σ Q) X.xe s
def VJ (r:V→Option Int→Option Int→Hp→VK→Prop) (te:TE) (tl th:TO):TE:=fun σ H Q=>te σ H fun x H1=>tl σ H1 fun l H2=>th σ H2 fun u H3=>r x l u H3 Q
theorem iT {r:V→Option Int→Option Int→Hp→VK→Prop} (hr:FB X r) (he:PE X e te) (hl:PO X lo tl) (hu:PO X hi th):PE X (.Subscript e (.Slice lo hi none p2) pos) (VJ r te tl th):=by
 intro pins s σ H Q I h;refine Subscript_ (jN (he pins s σ H _ I h) fun v s1 ⟨x,H1,I1,r1,q1⟩=>?_);refine wpAny_Slice (jN (hl pins s1 σ H1 _ I1 q1) fun vl s2 ⟨l,H2,I2,pl,q2⟩=>jN (hu pins s2 σ H2 _ I2 q2) fun vu s3 ⟨u,H3,I3,pu,q3⟩=>?_);rw [evalPart_none];refine wpAny_pure ?_;have I4:Inv X pins σ H3 {s3 with heap:=s3.heap.push {cls:=.type "slice",data:=.fields #[vl,vu,.none]}}:=I3.kept (t':=s3.toks) fun b ob q=>Heap.get?_push_of_some _ q
 obtain ⟨T,id,hT,ht,hg⟩:=hr pins {s3 with heap:=s3.heap.push {cls:=.type "slice",data:=.fields #[vl,vu,.none]}} σ H3 x v vl vu l u s3.heap.objs.size Q I4 r1 (Heap.IsSliceOf.new ..) pl pu q3;show wpAny (model X.prog X.w) X.A (subscriptTail e (.Slice lo hi none p2) v (.ref s3.heap.objs.size)) (EP X pins σ Q) X.xe {s3 with heap:=s3.heap.push {cls:=.type "slice",data:=.fields #[vl,vu,.none]}};exact tail_any (ops:=[.ref s3.heap.objs.size,v]) ht hT hg (by with_unfolding_all rfl)
end
def zL (n:Nat) (i:Int):Option Nat:=if 0≤i then (if i<n then some i.toNat else none) else if -(n:Int)≤i then some (i+n).toNat else none
def vC {α:Type} (xs:List α) (i:Int):Option α:=(zL xs.length i).bind fun j=>xs[j]?
theorem CZ {n:Nat} {i:Int} {j:Nat} (h:zL n i=some j):seqIndex? i n=some j∧j<n∧-(n:Int)≤i∧i<n:=by
 unfold zL at h
 by_cases h0:0≤i
 ·rw [if_pos h0] at h
  by_cases h1:i<n
  ·rw [if_pos h1] at h;have e:i.toNat=j:=Option.some.inj h;exact ⟨by rw [seqIndex_of h0 h1,e],by omega,by omega,h1⟩
  ·rw [if_neg h1] at h;cases h
 ·rw [if_neg h0] at h
  by_cases h1 : -(n:Int)≤i
  ·rw [if_pos h1] at h;have e:(i+n).toNat=j:=Option.some.inj h;exact ⟨by rw [seqIndex_neg (by omega) h1,e],by omega,h1,by omega⟩
  ·rw [if_neg h1] at h;cases h
variable {α:Type}
theorem lB {xs:List α} {i:Int} {v:α} (h:vC xs i=some v):∃j,seqIndex? i xs.length=some j∧xs[j]?=some v∧j<xs.length∧-(xs.length:Int)≤i∧i<xs.length:=by
 unfold vC at h;cases e:zL xs.length i with
 |none=>rw [e] at h;cases h
 |some j =>
  rw [e] at h;obtain ⟨h1,h2,h3,h4⟩:=CZ e;exact ⟨j,h1,h,h2,h3,h4⟩
theorem kZ {xs:List α} {j:Nat} {v:α} (h:xs[j]?=some v):vC xs (j:Int)=some v:=by
 have hj:j<xs.length:=(List.getElem?_eq_some_iff.mp h).1;have e:zL xs.length (j:Int)=some j:=by
  unfold zL;rw [if_pos (by omega),if_pos (by omega)];simp
 unfold vC;rw [e];exact h
theorem atI_last (xs:List α) (v:α):vC (xs++[v]) (-1)=some v:=by
 have hl:(xs++[v]).length=xs.length+1:=by simp
 have e:zL (xs++[v]).length (-1)=some xs.length:=by
  unfold zL;rw [hl,if_neg (by decide),if_pos (by omega)]
  congr 1
  omega
 unfold vC;rw [e];show (xs++[v])[xs.length]?=some v;simp
def DF (b:Expr):Prop:=∀o i,subscripted b false o i=operate [o,i] (getItem o i)
def IxR (X:Cx) (r:R2):Prop :=
 ∀(value slice:Expr) (pins:List (Addr×Obj)) (s:Shared) (σ:St) (H:Hp) (x y:V) (v u:Value) (Q:VK),Inv X pins σ H s→RelV x v→RelV y u→r x y H Q→
  subscripted slice false v u=operate [v,u] (getItem v u)→wpAny (model X.prog X.w) X.A (subscriptTail value slice v u) (EP X pins σ Q) X.xe s
def uT (X:Cx) (id:String) (r:V→List V→Hp→VK→Prop):Prop :=
 ∀(pins:List (Addr×Obj)) (s:Shared) (σ:St) (H:Hp) (x:V) (xs:List V) (v:Value) (us:List Value) (Q:VK),Inv X pins σ H s→RelV x v→Vals xs us→r x xs H Q→
  wpAny (model X.prog X.w) X.A (call (.builtin id) (v::us)) (EP X pins σ Q) X.xe s
section
variable {X:Cx} {a b:Expr} {ta tb:TE} {pos:Pos}
theorem IxR.or {r r':R2} (h:IxR X r) (h':IxR X r'):IxR X (fun x y H Q=>r x y H Q∨r' x y H Q):=by
 intro value slice pins s σ H x y v u Q I rx ry q hs
 rcases q with q|q
 ·exact h value slice pins s σ H x y v u Q I rx ry q hs
 ·exact h' value slice pins s σ H x y v u Q I rx ry q hs
theorem FF {r:R2} (hr:IxR X r) (ha:PE X a ta) (hb:PE X b tb) (hs:DF b):PE X (.Subscript a b pos) (bY r ta tb):=by
 intro pins s σ H Q I h;exact Subscript_ (t9 ha hb I h fun v u s2 x y H2 I2 rx ry q=>hr a b pins s2 σ H2 x y v u Q I2 rx ry q (hs _ _))
def lY (K:PySem.W.Frag):R2:=fun x y H Q=>∃p xs i v,x=.ref p∧y=.int i∧SqL K H p xs∧vC xs i=some v∧Q v H
def tX (K:PySem.W.Frag):R2:=fun x y H Q=>∃p xs i v,x=.ref p∧y=.int i∧SqT K H p xs∧vC xs i=some v∧Q v H
def EZ:R2:=fun x y H Q=>∃z i c,x=.str z∧y=.int i∧z.length≤sizeLine∧vC z.cps.toList i=some c∧Q (.str ⟨#[c]⟩) H
theorem uX:IxR X (lY X.K):=by
 intro value slice pins s σ H x y v u Q I rx ry h hs;obtain ⟨p,xs,i,z,rfl,rfl,hq,he,q⟩:=h;cases rx;obtain ⟨t,rfl⟩:=ry;obtain ⟨its,r,pl,hz⟩:=I.list hq;obtain ⟨j,h1,h2,h3,h4,h5⟩:=lB he;obtain ⟨w,ew,rw'⟩:=r.get h2;have hl:=r.length;have hn:=ZP;have fin:EP X pins σ Q w s:=⟨z,H,I,rw',q⟩
 by_cases h0:0≤i
 ·have hj:i.toNat=j:=by
   rw [seqIndex_of h0 h5] at h1;exact Option.some.inj h1
  exact item_listR pl.isList h0 (by omega) (by rw [hj];simpa using ew) fin hs
 ·have hj:(i+(its.toArray.size:Int)).toNat=j:=by
   rw [seqIndex_neg (by omega) h4] at h1;rw [List.size_toArray,← hl];exact Option.some.inj h1
  exact subscriptTail_builtinR (x:=w) pl.isList.typeIs slot_list_getitem.lookup
   (wpAny_getItem_list_neg (Q:=fun r s'=>r=w∧EP X pins σ Q r s') pl.isList (by omega) (by rw [List.size_toArray]<;>omega) (by omega) (by rw [hj];simpa using ew) ⟨rfl,fin⟩) hs
theorem ix_tup:IxR X (tX X.K):=by
 intro value slice pins s σ H x y v u Q I rx ry h hs;obtain ⟨p,xs,i,z,rfl,rfl,hq,he,q⟩:=h;cases rx;obtain ⟨t,rfl⟩:=ry;obtain ⟨its,r,pl,hz⟩:=I.tuple hq;obtain ⟨j,h1,h2,h3,h4,h5⟩:=lB he;obtain ⟨w,ew,rw'⟩:=r.get h2;have hl:=r.length;have hn:=ZP;have fin:EP X pins σ Q w s:=⟨z,H,I,rw',q⟩;exact subscriptTail_builtinR (x:=w) pl.typeIs slot_tuple_getitem.lookup
  (getItem_tuple (j:=j) (Q:=fun r s'=>r=w∧EP X pins σ Q r s') pl (by omega) (by omega) (by rw [List.size_toArray,← hl];exact h1) (by simpa using ew) ⟨rfl,fin⟩) hs
theorem S4:IxR X EZ:=by
 intro value slice pins s σ H x y v u Q I rx ry h hs;obtain ⟨z,i,c,rfl,rfl,hz,he,q⟩:=h;obtain ⟨t,rfl⟩:=rx;obtain ⟨t',rfl⟩:=ry;obtain ⟨j,h1,h2,h3,h4,h5⟩:=lB he;have hl:z.cps.toList.length=z.length:=by simp [Str.length]
 rw [hl] at h1 h4 h5;have hn:=ZP;exact tail_any (typeIs_str s z t) slot_str_getitem.lookup (getItem_str (c:=c) (by
  have e1:decide (i < -(2 ^ 63:Int))=false:=decide_eq_false (by omega);have e2:decide (i≥2 ^ 63)=false:=decide_eq_false (by omega);rw [e1,e2,Bool.or_false]) (by rw [h1];simpa using h2) ⟨.str ⟨#[c]⟩,H,I.tok _,⟨_,rfl⟩,q⟩) hs
def uM (K:PySem.W.Frag):R2:=fun x y H Q=>lY K x y H Q∨tX K x y H Q∨EZ x y H Q
theorem S5:IxR X (uM X.K):=uX.or (ix_tup.or S4)
theorem MV (its:List Value) (n j:Nat) (u:Value):Obj.mapSeq (·.setIfInBounds j u) {cls:=.type "list",data:=.seq its.toArray n}={cls:=.type "list",data:=.seq (its.set j u).toArray n}:=by
 simp [Obj.mapSeq]
theorem Inv.lst {pins:List (Addr×Obj)} {σ:St} {H:Hp} {s:Shared} {p:Addr} {xs:List V} (I:Inv X pins σ H s) (h:H p=some (.lst xs)) :
  ∃(its:List Value) (n:Nat),Vals xs its∧s.heap.get? p=some {cls:=.type "list",data:=.seq its.toArray n}∧xs.length≤sizeLine:=by
 obtain ⟨z,its,n,r,e⟩:=I.hok p _ h;exact ⟨its,n,r,e,z⟩
theorem Inv.lstUpd {pins:List (Addr×Obj)} {σ:St} {H:Hp} {s:Shared} {p:Addr} {xs ys:List V} {its its':List Value} {n n':Nat} {f:Obj→Obj} (I:Inv X pins σ H s) (h:H p=some (.lst xs))
  (ho:s.heap.get? p=some {cls:=.type "list",data:=.seq its.toArray n}) (hf:f {cls:=.type "list",data:=.seq its.toArray n}={cls:=.type "list",data:=.seq its'.toArray n'}) (r:Vals ys its') (hz:ys.length≤sizeLine) (t:Nat) :
  Inv X pins σ (upd H p (.lst ys)) {s with heap:=s.heap.update p f,toks:=t}:=by
 have e:(s.heap.update p f).get? p=some {cls:=.type "list",data:=.seq its'.toArray n'}:=by
  rw [Heap.get?_update_self f ho (by rw [hf]<;>rfl),hf]
 refine I.write (x:=p) (e:=p) (by rw [h];trivial) (.inl rfl) (fun b u hb q=>(Heap.get?_update_other _ _ (Ne.symm hb)).trans q) ⟨_,e⟩ ?_;exact ⟨hz,its',n',r,e⟩
def TY:V→V→V→Hp→(Hp→Prop)→Prop:=fun o i v H Q=>∃p xs k j,o=.ref p∧i=.int k∧H p=some (.lst xs)∧zL xs.length k=some j∧Q (upd H p (.lst (xs.set j v)))
theorem cS:uC X TY:=by
 intro pins s σ H o i v ov iv u Q I ro ri rv h;obtain ⟨p,xs,k,j,rfl,rfl,hp,hj,q⟩:=h;cases ro;obtain ⟨t,rfl⟩:=ri;obtain ⟨its,n,r,ho,hz⟩:=I.lst hp;obtain ⟨h1,h2,h3,h4⟩:=CZ hj;have hl:=r.length;have hn:=ZP;have I':Inv X pins σ (upd H p (.lst (xs.set j v))) {s with heap:=s.heap.update p (Obj.mapSeq (·.setIfInBounds j u))} :=
  I.lstUpd hp ho (MV its n j u) (r.set rv j) (by rw [List.length_set];exact hz) s.toks
 by_cases h0:0≤k
 ·have hk:k.toNat=j:=by
   rw [seqIndex_of h0 h4] at h1;exact Option.some.inj h1
  exact PySem.W.ki_setAt ho h0 (by omega) (by rw [List.size_toArray,← hl];exact h4) (by rw [hk];exact ⟨_,I',q⟩)
 ·have hk:(k+(its.toArray.size:Int)).toNat=j:=by
   rw [seqIndex_neg (by omega) h3] at h1;rw [List.size_toArray,← hl];exact Option.some.inj h1
  exact PySem.W.ki_setBack ho (by omega) (by rw [List.size_toArray,← hl];exact h3) (by omega) (by rw [hk];exact ⟨_,I',q⟩)
def yP:V→Bool
 |.non=>true
 |.bl _=>true
 |.int _=>true
 |.str _=>true
 |_=>false
def y7:V→V→Bool
 |.non,.non=>true
 |.bl a,.bl b=>a == b
 |.bl a,.int b=>(if a then 1 else 0) == b
 |.int a,.bl b=>a == (if b then 1 else 0)
 |.int a,.int b=>a == b
 |.str a,.str b=>a == b
 |_,_=>false
theorem lL {A:Around} {s:Shared} {y x:V} {u v:Value} (ry:RelV y u) (rx:RelV x v) (fy:yP y=true) (fx:yP x=true):SeqAt.EqAt A s u v (y7 y x):=by
 cases y with
 |non =>
  cases ry;cases x with
  |non=>cases rx;exact SeqAt.EqAt.same _
  |bl b=>cases rx;exact SeqAt.EqAt.none_bool b
  |int b=>obtain ⟨t,rfl⟩:=rx;exact SeqAt.EqAt.none_int b t
  |str b=>obtain ⟨t,rfl⟩:=rx;exact SeqAt.EqAt.none_str b t
  |_=>exact absurd (show false=true from fx) Bool.false_ne_true
 |bl a =>
  cases ry;cases x with
  |non=>cases rx;exact SeqAt.EqAt.bool_none a
  |bl b=>cases rx;exact SeqAt.EqAt.bool_bool a b
  |int b=>obtain ⟨t,rfl⟩:=rx;exact SeqAt.EqAt.bool_int a b t
  |str b=>obtain ⟨t,rfl⟩:=rx;exact SeqAt.EqAt.bool_str a b t
  |_=>exact absurd (show false=true from fx) Bool.false_ne_true
 |int a =>
  obtain ⟨t',rfl⟩:=ry;cases x with
  |non=>cases rx;exact SeqAt.EqAt.int_none a t'
  |bl b=>cases rx;exact SeqAt.EqAt.int_bool a t' b
  |int b=>obtain ⟨t,rfl⟩:=rx;exact SeqAt.EqAt.int_int a t' b t
  |str b=>obtain ⟨t,rfl⟩:=rx;exact SeqAt.EqAt.int_str a t' b t
  |_=>exact absurd (show false=true from fx) Bool.false_ne_true
 |str a =>
  obtain ⟨t',rfl⟩:=ry;cases x with
  |non=>cases rx;exact SeqAt.EqAt.str_none a t'
  |bl b=>cases rx;exact SeqAt.EqAt.str_bool a t' b
  |int b=>obtain ⟨t,rfl⟩:=rx;exact SeqAt.EqAt.str_int a t' b t
  |str b=>obtain ⟨t,rfl⟩:=rx;exact SeqAt.EqAt.str_str a t' b t
  |_=>exact absurd (show false=true from fx) Bool.false_ne_true
 |_=>exact absurd (show false=true from fy) Bool.false_ne_true
def mH (x:V) (u:Value):Bool:=match u with
 |.none=>y7 .non x
 |.bool b=>y7 (.bl b) x
 |.int i _=>y7 (.int i) x
 |.str z _=>y7 (.str z) x
 |_=>false
theorem ED {x y:V} {u:Value} (r:RelV y u) (f:yP y=true):mH x u=y7 y x:=by
 cases y with
 |non=>cases r;rfl
 |bl b=>cases r;rfl
 |int i=>obtain ⟨t,rfl⟩:=r;rfl
 |str z=>obtain ⟨t,rfl⟩:=r;rfl
 |_=>exact absurd (show false=true from f) Bool.false_ne_true
theorem BO {A:Around} {s:Shared} {x:V} {v:Value} (rx:RelV x v) (fx:yP x=true):∀{xs:List V} {us:List Value},Vals xs us→xs.all yP=true→∀u∈us,SeqAt.EqAt A s u v (mH x u)
 |_,_,.nil,_=>fun u hu=>by cases hu
 |y::xs,u::us,.cons r t,f=>fun u' hu=>by
  rw [List.all_cons,Bool.and_eq_true] at f
  rcases List.mem_cons.mp hu with rfl|hu
  ·rw [ED r f.1];exact lL r rx f.1 fx
  ·exact BO rx fx t f.2 u' hu
theorem FL:yQ X (.builtin "len") (fun xs H Q=>∃p ys,xs=[.ref p]∧(SqL X.K H p ys∨SqT X.K H p ys)∧Q (.int ys.length) H):=by
 intro pins s σ H xs us Q I r h;obtain ⟨p,ys,rfl,hq,q⟩:=h;obtain ⟨u,rfl,rx⟩:=Q9 r;cases rx;have hn:=ZP
 rcases hq with hq|hq
 ·obtain ⟨its,r',pl,hz⟩:=I.list hq;have hlen:=r'.length;exact Calls.call_len_list pl.isList (by simp only [List.size_toArray]<;>omega) ⟨.int ys.length,H,I.tok _,⟨s.toks+1,by rw [List.size_toArray,hlen]⟩,q⟩
 ·obtain ⟨its,r',pl,hz⟩:=I.tuple hq;have hlen:=r'.length;exact len_tuple pl (by simp only [List.size_toArray]<;>omega) ⟨.int ys.length,H,I.tok _,⟨s.toks+1,by rw [List.size_toArray,hlen]⟩,q⟩
theorem L0:yQ X (.type "list") (fun xs H Q=>∃p ys,xs=[.ref p]∧(SqL X.K H p ys∨SqT X.K H p ys)∧∀l,H l=none→Q (.ref l) (upd H l (.lst ys))):=by
 intro pins s σ H xs us Q I r h;obtain ⟨p,ys,rfl,hq,q⟩:=h;obtain ⟨u,rfl,rx⟩:=Q9 r;cases rx;have fin:∀(its:List Value),Vals ys its→ys.length≤sizeLine→∀(h':Heap) (c':Nat),(∀b o',s.heap.get? b=some o'→h'.get? b=some o')→
   h'.get? s.heap.objs.size=some {cls:=.type "list",dict:=none,data:=.seq its.toArray c',slots := #[]}→EP X pins σ Q (.ref s.heap.objs.size) {s with heap:=h'}:=fun its r' hz h' c' kp e =>
  ⟨.ref s.heap.objs.size,_,I.laid (t':=s.toks) kp (Nat.le_refl _) (show ObjOk X.prog X.w _ h' _ (.lst ys) from ⟨hz,its,c',r',e⟩),rfl,q _ (I.hok.fresh (Nat.le_refl _))⟩
 rcases hq with hq|hq
 ·obtain ⟨its,r',pl,hz⟩:=I.list hq;have hlen:=r'.length;obtain ⟨o,ho,hc,n,hd⟩:=pl.isList;exact call_list_seq p (.inl rfl) ho hc hd (fun h' c' kp e=>fin its r' hz h' c' kp e) (by simp only [List.size_toArray]<;>omega)
 ·obtain ⟨its,r',pl,hz⟩:=I.tuple hq;have hlen:=r'.length;obtain ⟨o,ho,hc,n,hd⟩:=pl;exact call_list_seq p (.inr rfl) ho hc hd (fun h' c' kp e=>fin its r' hz h' c' kp e) (by simp only [List.size_toArray]<;>omega)
theorem LT:yQ X (.type "tuple") (fun xs H Q=>∃p ys,xs=[.ref p]∧((SqL X.K H p ys∧∀l,H l=none→Q (.ref l) (upd H l (.tup ys)))∨(SqT X.K H p ys∧Q (.ref p) H))):=by
 intro pins s σ H xs us Q I r h;obtain ⟨p,ys,rfl,h⟩:=h;obtain ⟨u,rfl,rx⟩:=Q9 r;cases rx
 rcases h with ⟨hq,q⟩|⟨hq,q⟩
 ·obtain ⟨its,r',pl,hz⟩:=I.list hq;have hlen:=r'.length;refine call_tuple_list pl.isList (fun h' kp=>?_) (by simp only [List.size_toArray]<;>omega);have I1:Inv X pins σ H {s with heap:=h'}:=I.kept (t':=s.toks) kp;have I2:Inv X pins σ (upd H h'.objs.size (.tup ys)) {s with heap:=h'.push {cls:=.type "tuple",data:=.seq its.toArray}} :=
   I1.laid (t':=s.toks) (fun b o e=>Heap.get?_push_of_some _ e) (Nat.le_refl _) (show ObjOk X.prog X.w _ _ _ (.tup ys) from ⟨hz,its,r',IsTup.new _ _⟩)
  exact ⟨.ref h'.objs.size,_,I2,rfl,q _ (I1.hok.fresh (Nat.le_refl _))⟩
 ·obtain ⟨its,r',pl,hz⟩:=I.tuple hq;exact call_tuple_same pl ⟨.ref p,H,I,rfl,q⟩
def uK (K:PySem.W.Frag) (T:String) (x:V) (H:Hp):Prop:=match x with
 |.str _=>T="str"
 |.int _=>T="int"
 |.ref p=>(T="list"∧∃xs,SqL K H p xs)∨(T="tuple"∧∃o,K.lookup p=some o∧o.cls=.type "tuple"∧o.dict=none)∨
   (T="dict"∧((∃kvs,H p=some (.dK kvs))∨∃kvs,H p=some (.dT kvs)))∨(T="set"∧∃S n,H p=some (.set S n))
 |_=>False
theorem DH {pins:List (Addr×Obj)} {σ:St} {H:Hp} {s:Shared} {T:String} {x:V} {v:Value} (I:Inv X pins σ H s) (r:RelV x v) (ty:uK X.K T x H) :
  s.TypeIs v T∧∀a,v=.ref a→∃ob,s.heap.get? a=some ob∧ob.dict=none:=by
 cases x with
 |str z =>
  obtain ⟨t,rfl⟩:=r;cases (show T="str" from ty);exact ⟨typeIs_str s z t,fun _ e=>nomatch e⟩
 |int i =>
  obtain ⟨t,rfl⟩:=r;cases (show T="int" from ty);exact ⟨typeIs_int s i t,fun _ e=>nomatch e⟩
 |ref p =>
  cases r
  rcases ty with ⟨rfl,xs,hq⟩|⟨rfl,o,hk,hc,hd⟩|⟨rfl,hk⟩|⟨rfl,S,n,hk⟩
  ·obtain ⟨its,_,pl,_⟩:=I.list hq;refine ⟨pl.isList.typeIs,fun a e=>?_⟩;cases e;obtain ⟨o,n,e,c,hd,_⟩:=pl;exact ⟨o,e,hd⟩
  ·refine ⟨⟨o,I.kIn p o hk,hc⟩,fun a e=>?_⟩;cases e;exact ⟨o,I.kIn _ o hk,hd⟩
  ·have z:∃o,s.heap.get? p=some o∧o.ExactDict:=by
    rcases hk with ⟨kvs,hk⟩|⟨kvs,hk⟩
    ·obtain ⟨_,_,_,_,o,_,_,e,ex,_⟩:=I.hok p _ hk;exact ⟨o,e,ex⟩
    ·obtain ⟨_,_,_,_,o,_,_,e,ex,_⟩:=I.hok p _ hk;exact ⟨o,e,ex⟩
   obtain ⟨o,e,ex⟩:=z;refine ⟨⟨o,e,ex.1⟩,fun a e2=>?_⟩;cases e2;exact ⟨o,e,ex.2.1⟩
  ·obtain ⟨o,_,_,_,e,ex,_⟩:=I.hok p _ hk;refine ⟨⟨o,e,ex.1⟩,fun a e2=>?_⟩;cases e2;exact ⟨o,e,ex.2.1⟩
 |_=>exact False.elim ty
def UU (K:PySem.W.Frag) (T:String) (r:V→List V→Hp→VK→Prop) (to:TE):TE:=fun σ H Q=>to σ H fun x H1=>uK K T x H1∧r x [] H1 Q
def VN (K:PySem.W.Frag) (T:String) (r:V→List V→Hp→VK→Prop) (to:TE) (t:TA):TE:=fun σ H Q=>to σ H fun x H1=>uK K T x H1∧t σ H1 fun xs H2=>r x xs H2 Q
variable {o e:Expr} {es:List Expr} {to:TE} {t:TA} {name:Str} {apos cpos:Pos} {T id:String} {r:V→List V→Hp→VK→Prop}
theorem SS (pa:PlainAttrs T) (slot:Slot T name id) (hty:typeOf (.builtin id)=pure (.type "method_descriptor")) (hm:uT X id r) (ho:PE X o to)
  (hbase:attributeBase o name X.env (eval o X.env)=eval o X.env:=by rfl) (hline:(apos.endLine == cpos.line)=true:=by rfl):PE X (.Call (.Attribute o name apos) [] [] cpos) (UU X.K T r to):=by
 intro pins s σ H Q I h;refine wpAny_Call_method0_late hbase hline (jN (ho pins s σ H _ I h) fun v s1 ⟨x,H1,I1,r1,ty,q1⟩=>?_);obtain ⟨h1,h2⟩:=DH I1 r1 ty;exact ⟨T,id,pa,slot,hty,h1,h2,Calls.callWith_builtin rfl (PySem.evalArgs_none (hm pins s1 σ H1 x [] v [] Q I1 r1 .nil q1))⟩
theorem QR (pa:PlainAttrs T) (slot:Slot T name id) (hty:typeOf (.builtin id)=pure (.type "method_descriptor")) (hm:uT X id r) (ho:PE X o to) (ha:PA X (e::es) t)
  (hbase:attributeBase o name X.env (eval o X.env)=eval o X.env:=by rfl)
  (hfew:((backTo cpos (starEach (e::es) X.env)).all (fun x => !x.1)&&(backToKw cpos (keywordEach [] X.env)).all (fun x=>x.1.isSome)
   && decide ((e::es).length+([]:List Keyword).length+(if ([]:List Keyword).isEmpty then 0 else 1)<30))=true:=by rfl)
  (hline:(apos.endLine == cpos.line)=true:=by rfl) (hs:starEach (e::es) X.env=(false,eval e X.env)::starEach es X.env:=by rfl) (hplain:(backTo cpos (starEach es X.env)).any (·.1)=false:=by rfl) :
  PE X (.Call (.Attribute o name apos) (e::es) [] cpos) (VN X.K T r to t):=by
 intro pins s σ H Q I h;refine wpAny_Call_method_late hbase hfew hline rfl (jN (ho pins s σ H _ I h) fun v s1 ⟨x,H1,I1,r1,ty,q1⟩=>?_);obtain ⟨h1,h2⟩:=DH I1 r1 ty;refine ⟨T,id,pa,slot,hty,h1,h2,?_⟩;have hA:=ha cpos pins s1 σ H1 _ I1 q1;rw [hs] at hA ⊢;refine Calls.callWith_builtin (by show (false||(backTo cpos (starEach es X.env)).any (·.1))=false;rw [hplain]<;>rfl) (Calls.evalArgs_plain ?_);exact jN hA fun us s2 ⟨vs,H2,I2,r2,q2⟩=>hm pins s2 σ H2 x vs v us Q I2 r1 r2 q2
/- xs.append(e),list.index on a module's tuple .. are uT facts of 06m -/
end
end L2
namespace L2
open PySem PySem.Spec PyProof.Rows
def uU (X:Cx) (id:String) (r:V→List V→Hp→VK→Prop):Prop :=
 ∀(pins:List (Addr×Obj)) (s:Shared) (σ:St) (H:Hp) (x:V) (xs:List V) (v:Value) (us:List Value) (Q:VK),Inv X pins σ H s→RelV x v→Vals xs us→r x xs H Q→
  wpAny (model X.prog X.w) X.A (call (.builtin id) (v::us)) (EP X pins σ Q) X.xe s
theorem Vals.one:∀{x:V} {us:List Value},Vals [x] us→∃u,us=[u]∧RelV x u
 |_,_,.cons r .nil=>⟨_,rfl,r⟩
theorem Vals.zero:∀{us:List Value},Vals [] us→us=[]
 |_,.nil=>rfl
theorem Vals.reverse {xs:List V} {us:List Value} (h:Vals xs us):Vals xs.reverse us.reverse:=by
 induction h with
 |nil=>exact .nil
 |cons r t ih=>rw [List.reverse_cons,List.reverse_cons];exact Vals.append ih (.cons r .nil)
theorem Vals.rep {xs:List V} {us:List Value} (h:Vals xs us):∀k:Nat,Vals (List.replicate k xs).flatten (List.replicate k us).flatten
 |0=>.nil
 |k+1=>by
  rw [List.replicate_succ,List.replicate_succ,List.flatten_cons,List.flatten_cons];exact Vals.append h (Vals.rep h k)
theorem AE (its:List Value):∀(k:Nat) (acc:List Value),
  List.foldl (fun x1 x2=>x1++x2) acc.toArray (List.replicate k its.toArray)=(acc++(List.replicate k its).flatten).toArray
 |0,acc=>by simp
 |k+1,acc=>by
  have e:acc.toArray++its.toArray=(acc++its).toArray:=by simp
  have e2:(acc++its)++(List.replicate k its).flatten=acc++(List.replicate (k+1) its).flatten:=by
   rw [List.replicate_succ,List.flatten_cons,List.append_assoc]
  rw [← e2,← AE its k (acc++its),← e,List.replicate_succ,List.foldl_cons]
section
variable {X:Cx} {pins:List (Addr×Obj)} {σ:St} {H:Hp} {s:Shared} {l b:Addr} {xs ys zs:List V}
theorem Inv.lset {its its':List Value} {n:Nat} {f:Array Value→Array Value} {t':Nat} (I:Inv X pins σ H s) (hH:H l=some (.lst xs))
  (e:s.heap.get? l=some {cls:=.type "list",data:=.seq its.toArray n}) (hf:f its.toArray=its'.toArray) (hv:Vals ys its') (hz:ys.length≤sizeLine) :
  Inv X pins σ (upd H l (.lst ys)) {s with heap:=s.heap.update l (Obj.mapSeq f),toks:=t'}:=by
 have q:=PySem.IsL.update e f;rw [hf] at q;refine I.write (x:=l) (e:=l) (by rw [hH];exact trivial) (.inl rfl) (fun b' u hb hu=>(Heap.get?_update_other s.heap (Obj.mapSeq f) (Ne.symm hb)).trans hu) ⟨_,q⟩ ?_;exact ⟨hz,its',_,hv,q⟩
theorem Inv.lnew {its:List Value} {t':Nat} (I:Inv X pins σ H s) (hv:Vals ys its) (hz:ys.length≤sizeLine) :
  Inv X pins σ (upd H s.heap.objs.size (.lst ys)) {s with heap:=s.heap.push {cls:=.type "list",data:=.seq its.toArray},toks:=t'} :=
 I.laid (fun _ _ q=>Heap.get?_push_of_some _ q) (Nat.le_refl _) ⟨hz,its,0,hv,Heap.get?_push_size _ rfl⟩
theorem Inv.fresh (I:Inv X pins σ H s):H s.heap.objs.size=none:=I.hok.fresh (Nat.le_refl _)
theorem Inv.lstM (I:Inv X pins σ H s) (hH:H l=some (.lst xs)):xs.length≤sizeLine∧∃(its:List Value) (n:Nat),Vals xs its∧xs.length=its.length∧s.heap.get? l=some {cls:=.type "list",data:=.seq its.toArray n}:=by
 obtain ⟨z,its,n,r,e⟩:=I.hok l _ hH;exact ⟨z,its,n,r,r.length,e⟩
theorem OW {n:Nat} (h:n≤sizeLine):Builtin.List.listTooLong n=false:=by
 unfold Builtin.List.listTooLong;exact decide_eq_false (by omega)
end
section
variable {X:Cx}
def RB:V→List V→Hp→VK→Prop:=fun x vs H Q=>∃l xs y,x=.ref l∧vs=[y]∧H l=some (.lst xs)∧xs.length<sizeLine∧Q .non (upd H l (.lst (xs++[y])))
theorem QE:uU X "list.append" RB:=by
 intro pins s σ H x vs v us Q I rx rv h;obtain ⟨l,xs,y,rfl,rfl,hH,hz,q⟩:=h;cases rx;obtain ⟨u,rfl,ru⟩:=rv.one;obtain ⟨z,its,n,r,hl,e⟩:=I.lstM hH;refine call_meets F.slot_list_append ⟨_,e,rfl⟩ F.entry_list_append (F.args_list_append_2 _ _) (PySem.list_append l its.toArray n u (by rw [List.size_toArray];omega)) ⟨e,?_⟩;refine ⟨.non,_,I.lset (its':=its++[u]) hH e (by simp) (r.append (.cons ru .nil)) ?_,rfl,q⟩;rw [List.length_append,List.length_singleton];omega
def SL:V→List V→Hp→VK→Prop:=fun x vs H Q=>∃l xs,x=.ref l∧vs=[]∧H l=some (.lst xs)∧Q .non (upd H l (.lst []))
theorem O4:uU X "list.clear" SL:=by
 intro pins s σ H x vs v us Q I rx rv h;obtain ⟨l,xs,rfl,rfl,hH,q⟩:=h;cases rx;have hus:=rv.zero;subst hus;obtain ⟨z,its,n,r,hl,e⟩:=I.lstM hH;refine call_meets F.slot_list_clear ⟨_,e,rfl⟩ F.entry_list_clear (F.args_list_clear_1 _) (AutoSeq1.list_clear_list_0 l its.toArray n (by rw [List.size_toArray];omega)) ⟨e,?_⟩;exact ⟨.non,_,I.lset (its':=[]) (ys:=[]) hH e rfl .nil (Nat.zero_le _),rfl,q⟩
def U2:R2:=fun x y H Q=>∃l b xs zs,x=.ref l∧y=.ref b∧H l=some (.lst xs)∧H b=some (.lst zs)∧xs.length+zs.length≤sizeLine∧∀p,H p=none→Q (.ref p) (upd H p (.lst (xs++zs)))
theorem ZO:qZ X (binaryOp .Add) U2:=by
 intro pins s σ H x y v u Q I rx ry h;obtain ⟨l,b,xs,zs,rfl,rfl,hH,hB,hz,q⟩:=h;cases rx;cases ry;obtain ⟨z,its,n,r,hl,e⟩:=I.lstM hH;obtain ⟨z2,its2,n2,r2,hl2,e2⟩:=I.lstM hB;refine PySem.P.add_list e e2 ?_ (by rw [List.size_toArray,List.size_toArray];omega);have ea:its.toArray++its2.toArray=(its++its2).toArray:=by simp
 rw [ea];exact ⟨.ref _,_,I.lnew (t':=s.toks) (r.append r2) (by rw [List.length_append];omega),rfl,q _ I.fresh⟩
def UY:R2:=fun x y H Q=>∃l k xs,x=.ref l∧y=.int k∧H l=some (.lst xs)∧-(2 ^ 63)≤k∧k<2 ^ 63∧xs.length*k.toNat≤sizeLine∧
 ∀p,H p=none→Q (.ref p) (upd H p (.lst (List.replicate k.toNat xs).flatten))
theorem RT {α:Type} (xs:List α) (k:Nat):(List.replicate k xs).flatten.length=k*xs.length:=by
 induction k with
 |zero=>simp
 |succ k ih=>rw [List.replicate_succ,List.flatten_cons,List.length_append,ih,Nat.succ_mul,Nat.add_comm]
theorem DX:qZ X (binaryOp .Mult) UY:=by
 intro pins s σ H x y v u Q I rx ry h;obtain ⟨l,k,xs,rfl,rfl,hH,h1,h2,hz,q⟩:=h;cases rx;obtain ⟨t,rfl⟩:=ry;obtain ⟨z,its,n,r,hl,e⟩:=I.lstM hH;have hlen:its.toArray.size*k.toNat≤sizeLine:=by rw [List.size_toArray,← hl];exact hz
 have hcap:¬its.toArray.size*k.toNat>(2 ^ 63 - 1) / 8:=by
  have:(sizeLine:Nat)≤(2 ^ 63 - 1) / 8:=by decide
  omega
 have hfit:¬(!Builtin.List.listFitsIndex k)=true:=by
  rw [fitsIndex_both h1 h2];exact Bool.false_ne_true
 have hlong:¬Builtin.List.listTooLong (its.toArray.size*k.toNat)=true:=by
  rw [OW hlen];exact Bool.false_ne_true
 have hnew:List.foldl (fun x1 x2=>x1++x2) #[] (List.replicate (if its.toArray.isEmpty=true then 0 else k.toNat) its.toArray)=(List.replicate k.toNat its).flatten.toArray:=by
  have f0:∀m:Nat,List.foldl (fun x1 x2=>x1++x2) #[] (List.replicate m its.toArray)=(List.replicate m its).flatten.toArray:=fun m=>by
   have:=AE its m [];rw [List.nil_append] at this;exact this
  rw [f0];cases its with
  |nil=>simp
  |cons a r'=>rw [if_neg (by simp)]
 refine wpAny_binaryOp_repeat_ref (T:="list") (U:="int") (by decide) ⟨_,e,rfl⟩ (fun s'=>typeIs_int s' k t) noFill_list_mul F.fills_int_mul F.slot_int_rmul repeat_list F.slot_int_index.lookup
  (call_meets F.slot_int_rmul (typeIs_int s k t) F.entry_int_rmul (F.args_int_rmul_2 _ _) (int___rmul___int_list k t l its.toArray n)
   ⟨e,rfl,⟨_,e,rfl⟩,call_meets F.slot_list_mul ⟨_,e,rfl⟩ F.entry_list_mul (F.args_list_mul_2 _ _) (AutoListH.list___mul___list_int_3 l its.toArray n k t hfit hcap hlong) ⟨e,?_⟩⟩)
 rw [hnew];exact ⟨.ref _,_,I.lnew (t':=s.toks) (r.rep k.toNat) (by rw [RT,Nat.mul_comm];exact hz),rfl,q _ I.fresh⟩
end
section
variable {prog:Program} {w:World} {A:Around} {E:Value→Shared→Prop} {s:Shared}
end
section
variable {X:Cx}
end
end L2
namespace Att
open PySem PySem.W PySem.Calls PyProof.Rows
theorem LN {P:Params} {h:Heap}:∀(ns:List Int) (vs:List Value),WellAll P h vs (ns.map WData.int)→IntsAre vs ns:=by
 intro ns
 induction ns with
 |nil =>
  intro vs w;rw [List.map_nil] at w;cases w;exact .nil
 |cons n ns ih =>
  intro vs w;rw [List.map_cons] at w;cases w with
  |cons a b =>
   cases a;exact .cons _ _ (ih _ b)
theorem NQ {l:OpenLaw} {n:Nat} (hn:l.most=some n) {P:Params} {h:Heap} {args:List WData} {vals:List Value}
  (hpre:l.row.toRowW.claim.pre args=true) (hwl:WellAll P h vals args) :
  ∃a vs ns,vals=[Value.ref a]∧args=[WData.list (ns.map WData.int)]∧h.get? a=some {cls:=.type "list",data:=.seq vs.toArray}∧IntsAre vs ns∧ns.length≤n:=by
 have hsh:WShape.hasAll [] args [.list .int]=true:=(pre_splitW hpre).1;have hc:l.pre.holds [] {args:=args}=true:=(pre_splitW hpre).2;obtain ⟨d,r,rfl,h1,h2⟩:=hasAllW_cons hsh;obtain rfl:=hasAllW_nil h2;obtain ⟨xs,rfl,h3⟩:=hasW_list h1;obtain ⟨ns,rfl⟩:=items_int h3;have hlen:ns.length≤n:=by
  unfold OpenLaw.pre at hc;have h4:(WTm.not (.lt (.lit (.int (n:Int))) (.len (.arg 0)))).holds [] {args:=[.list (ns.map .int)]}=true:=by
   have h4:=(holds_andW hc).1;rw [hn] at h4;exact h4
  have h5:=condW_of h4 (w_not (w_lt w_lit (w_len_list (w_arg rfl))));rw [List.length_map] at h5;refine Nat.le_of_not_lt fun q=>?_
  have q':(n:Int)<((ns.length:Nat):Int):=by omega
  first
   | (rw [decide_eq_true q'] at h5;exact absurd h5 (by decide))
   | (simp at h5;omega)
 cases hwl with
 |cons w1 w2 =>
  cases w2;cases w1 with
  |list ho hall=>exact ⟨_,_,ns,rfl,rfl,ho,LN ns _ hall,hlen⟩
theorem NT (l:OpenLaw) (args:List WData):l.row.toRowW.claim.post args (.bool true) args=true :=
 postW_of (r:=l.row.toRowW) (X:=(true == true))
  (show WShape.has [] (.bool true) .bool=true by first|rfl|decide|simp [WShape.has,WShape.arms,WShape.armsAll])
  (show (WTm.eq .res (.lit (.bool true))).value [] {args:=args,res:=some (.bool true),after:=args}=some (.bool (true == true)) from w_eq_bool (w_res rfl) w_lit) rfl
theorem attach_call {l:OpenLaw} {n:Nat} {q:Program} {loose:List Str} {XP:(Str→Option Value)→Heap→Prop} {YP:World→Heap→Prop} {d:DefRec}
  (hn:l.most=some n) (hdf:d.params.defaults=[])
  (call:∀(w:World) (s₀ s₁:Shared) (mg mb:Str→Option Value) (fa:Addr) (o:Obj) (pm cd doc:Value) (a:Addr) (vs:List Value) (ns:List Int),
   Ground q loose [] XP w s₀ mg mb s₁.heap→YP w s₁.heap→
   s₁.heap.get? fa=some o→o.data=.func (docDef d.name d.params d.body d.scope pm cd doc)→s₁.heap.CodeRec cd d.name→mg d.name=some (.ref fa)→
   s₁.heap.get? a=some {cls:=.type "list",data:=.seq vs.toArray}→IntsAre vs ns→ns.length≤n→s₁.gens = #[]→
   codeAny (model l.prog w) callerA (.call (.ref fa) ⟨[.ref a],[]⟩) (fun r s'=>r=.ok (.ret (.bool true))∧OldK s₁.heap s'.heap∧s'.os=s₁.os∧AllBare s'.gens) s₁) :
  WalkO q loose XP YP l.row.toRowW d [] (fun f vs=>PySem.call f vs):=by
 intro w s₀ s₁ mg mb G Y fa o pm cd doc dV kV ho hd hcd hD hmg hg args vals as hpre hlay hrd hwl hlo;obtain rfl:dV=.none:=Dflts.none hD hdf;obtain rfl:kV=.none:=Dflts.noKw hD;obtain ⟨a,vs,ns,rfl,rfl,hobj,hints,hlen⟩:=NQ hn hpre hwl;refine enter_call (codeAny_mono (call w s₀ s₁ mg mb fa o pm cd doc a vs ns G Y ho (fd_plain hd) hcd hmg hobj hints hlen hg) fun r s' hq=>?_);obtain ⟨rfl,h2,h3,h4⟩:=hq;exact ⟨.inl ⟨.bool true,.bool true,[],rfl,fun _=>rfl,.bool true,NT l _,fun _=>⟨List.Pairwise.nil,fun _ hm=>(nomatch hm)⟩⟩,h2,h3,h4⟩
section
variable {prog:Program} {w:World} {A:Around} {E:Value→Shared→Prop} {s:Shared} {K:Frag}
def VY (h:Heap) (L d:Addr):List (Addr×Obj):=(List.range h.objs.size).filterMap fun a=>if a=L∨a=d then none else (h.get? a).map fun o=>(a,o)
end
end Att
namespace L2
open PySem PySem.Spec PyProof.Rows
theorem xN:∀{vs:List Value} {ns:List Int},IntsAre vs ns→Vals (ns.map V.int) vs
 |_,_,.nil=>.nil
 |_,_,.cons n t h=>.cons ⟨t,rfl⟩ (xN h)
def vM (s:Stmt) (j:Nat):Stmt:=match s with
 |.ClassDef _ _ _ body _ _ _ _ _ _ _=>body.getD j (.Pass ⟨0,0,0,0⟩)
 |_=>.Pass ⟨0,0,0,0⟩
def kO (s:Stmt):Arguments:=match s with
 |.FunctionDef _ a _ _ _ _ _ _ _ _=>a
 |_=>{posonlyargs:=[],args:=[],vararg:=none,kwonlyargs:=[],kw_defaults:=[],kwarg:=none,defaults:=[]}
def kC (s:Stmt):List Stmt:=match s with
 |.FunctionDef _ _ b _ _ _ _ _ _ _=>b
 |_=>[]
def jM (s:Stmt):Scope:=match s with
 |.FunctionDef _ _ _ _ _ _ sc _ _ _=>sc
 |_=>{kind:=.function,names:=[],isGenerator:=false,isCoroutine:=false}
abbrev jK:vR:=fun _ _ _ _ _ _=>False
abbrev E0:XK:=fun _ _ _=>False
theorem zQ {X:Cx}:ZR jK X E0:=fun _ _ _ _ _ _ _ h=>h.elim
structure Fun (K:PySem.W.Frag) (x qual:Str) (st:Stmt) (f:Addr) (fd:FuncData):Prop where
 ex:∃(oc:Value) (od:Option Addr) (kV doc pm:Value) (an:Option Addr) (cdv ct:Value) (osl:Array (Option Value)),
  fd=PySem.W.fnOf x qual (kO st) (kC st) (jM st) .none kV doc pm an cdv ct∧K.lookup f=some ⟨oc,od,.func fd,osl⟩∧PySem.W.codeIn K cdv qual=true
 kp:PySem.W.keepIn K (.ref f)=true
section
variable {P:Program} {w:World} {K:PySem.W.Frag} {mg:Str→Option Value} {base:Heap}
theorem Fun.ok {x qual:Str} {st:Stmt} {f:Addr} {fd:FuncData} {N ps:List Str} {k:Nat} {sp:Sp} (F:Fun K x qual st f fd) (S:FnScope N ps (jM st)) (len:∀vs H Q E,sp vs H Q E→vs.length=ps.length)
  (hbody:∀(cdv:Value) (A:Around) (outer:List Env) (s:Shared) (H:Hp) (vs:List V) (Q:VK) (E:XK),Room k (A.deeper (envOfC qual (jM st) s.heap.objs.size f cdv))→sp vs H Q E→
   ∃t,PSs (vP jK P w K mg base N qual (jM st) f cdv A outer s H E).nox (kC st) t∧t {nx:=fun _ H'=>Q .non H',rt:=Q} (start N vs) H):FnOk P w K mg base jK (k+1) f fd ps sp:=by
 obtain ⟨oc,od,kV,doc,pm,an,cdv,ct,osl,rfl,lk,hcd⟩:=F.ex;refine lV lk hcd S len fun A outer s H vs Q E hr hsp=>?_
 obtain ⟨t,h,q⟩:=hbody cdv A outer s H vs Q E hr hsp;exact ⟨t,h.nox,q⟩
theorem Fun.binds {x qual:Str} {st:Stmt} {f:Addr} {fd:FuncData} {ps:List Str} (F:Fun K x qual st f fd)
  (h:∀(kV doc pm:Value) (an:Option Addr) (cdv ct:Value) (us:List Value),us.length=ps.length→bindArgs (PySem.W.fnOf x qual (kO st) (kC st) (jM st) .none kV doc pm an cdv ct) ⟨us,[]⟩=pure (ps.zip us)):Binds K fd ps []:=by
 obtain ⟨oc,od,kV,doc,pm,an,cdv,ct,osl,rfl,lk,hcd⟩:=F.ex;exact .all (h kV doc pm an cdv ct)
theorem cD {x qual:Str} {st:Stmt} {f:Addr} {oc:Value} {od an:Option Addr} {osl:Array (Option Value)} {kV doc pm cdv ct:Value} (l:K.lookup f=some ⟨oc,od,.func (PySem.W.fnOf x qual (kO st) (kC st) (jM st) .none kV doc pm an cdv ct),osl⟩)
  (c:PySem.W.codeIn K cdv qual=true) (k:PySem.W.keepIn K (.ref f)=true):Fun K x qual st f (PySem.W.fnOf x qual (kO st) (kC st) (jM st) .none kV doc pm an cdv ct):=⟨⟨oc,od,kV,doc,pm,an,cdv,ct,osl,rfl,l,c⟩,k⟩
end
theorem dP {A:Around} {k:Nat} (hr:Room k A):A.units+1<cLine:=Nat.lt_of_le_of_lt (Nat.add_le_add_left (by decide:1≤64) _) hr.units
theorem yJ {n:Nat} (h:n≤1000):n<sizeLine:=Nat.lt_of_le_of_lt h (by decide)
section
variable {X:Cx}
theorem pv (i:Nat) {x:Str} {pos:Pos} (hN:X.N[i]?=some x:=by rfl) (hv:fY X.env.scope x:=by first|exact Or.inl rfl|exact Or.inr (Or.inl rfl)|exact Or.inr (Or.inr rfl)) (hd:(x == ("__debug__":Str))=false:=by decide)
  (hcd:(x == ("__classdict__":Str))=false:=by decide):PE X (.Name x pos) (EV i):=DU hN hv hd hcd
end
variable {A B:Prop}
theorem qI (h:B):if false=true then A else B:=by
 rw [if_neg Bool.false_ne_true];exact h
theorem kS (h:A):if true=true then A else B:=by
 rw [if_pos rfl];exact h
theorem bV {c:Prop} [Decidable c] (h1:c→A) (h2:¬c→B):if c then A else B:=by
 by_cases h:c
 ·rw [if_pos h];exact h1 h
 ·rw [if_neg h];exact h2 h
theorem zJ {c:Prop} [Decidable c] (hc:c) (h:B):if (!decide c)=true then A else B:=by
 rw [decide_eq_true hc];exact qI h
def Same (H H':Hp):Prop:=∀b o,H b=some o→H' b=some o
theorem Same.refl (H:Hp):Same H H:=fun _ _ h=>h
variable {H:Hp}
theorem Same.trans {H1 H2:Hp} (a:Same H H1) (b:Same H1 H2):Same H H2:=fun c o h=>b c o (a c o h)
theorem Same.free {H':Hp} (e:Same H H') {l:Addr} (h:H' l=Option.none):H l=Option.none:=by
 cases q:H l with
 |none=>rfl
 |some o =>
  rw [e l o q] at h;cases h
theorem Same.seq {K:PySem.W.Frag} {H':Hp} {a:Addr} {xs:List V} (e:Same H H') (h:SqL K H a xs):SqL K H' a xs:=by
 rcases h with (h|⟨o,h⟩)|h
 ·exact .inl (.inl (e _ _ h))
 ·exact .inl (.inr ⟨o,e _ _ h⟩)
 ·exact .inr h
end L2
namespace L2
open PySem PySem.Spec PyProof.Rows
def yK (cells:List (Str×Addr)):List (Str×NameKind)→List (Str×Addr)→List (Str×Addr)
 |[],cs=>cs
 | (n,k)::r,cs=>if (k == NameKind.free)=true then yK cells r ((n,(cells.lookup n).getD 0)::cs) else yK cells r cs
variable {scope:Scope}
theorem wF {env:Env} (h:∀x∈scope.names,x.2=.free→∃c,env.cells.lookup x.1=some c):closureFor scope env=pure (yK env.cells scope.names []):=by
 simp only [closureFor];have go:∀(l:List (Str×NameKind)) (cs:List (Str×Addr)),(∀x∈l,x.2=.free→∃c,env.cells.lookup x.1=some c)→
   (forIn l cs fun x r=>match x with|(name,kind)=>if (kind == NameKind.free)=true then do let a ← cellOf env name;pure (ForInStep.yield ((name,a)::r)) else pure (ForInStep.yield r):Sem (List (Str×Addr)))=pure (yK env.cells l cs):=by
  intro l
  induction l with
  |nil=>intro cs _;rfl
  |cons p r ih =>
   intro cs hp;obtain ⟨n,k⟩:=p;rw [List.forIn_cons];have hr:=fun cs=>ih cs fun x hx=>hp x (List.mem_cons_of_mem _ hx)
   by_cases hk:(k == NameKind.free)=true
   ·have hk':k=NameKind.free:=by simpa using hk
    obtain ⟨c,hc⟩:=hp (n,k) List.mem_cons_self hk';have hc':env.cells.lookup n=some c:=hc;simp only [hk,if_true,yK,cellOf,hc',Option.getD_some,pure_bind];exact hr _
   ·simp only [hk,if_false,yK,pure_bind];exact hr _
 rw [go scope.names [] h];rfl
theorem iF {cells:List (Str×Addr)}:∀{l:List (Str×NameKind)} {cs:List (Str×Addr)} {x:Str} {c:Addr},(∀y∈l,y.2=.free→∃c,cells.lookup y.1=some c)→(∀y d,cs.lookup y=some d→cells.lookup y=some d)→
  (yK cells l cs).lookup x=some c→cells.lookup x=some c
 |[],cs,x,c,_,hc,e=>hc x c e
 | (n,k)::r,cs,x,c,hl,hc,e=>by
  unfold yK at e
  by_cases hk:(k == NameKind.free)=true
  ·rw [if_pos hk] at e;obtain ⟨d,hd⟩:=hl (n,k) List.mem_cons_self (by simpa using hk);have hd':cells.lookup n=some d:=hd;refine iF (fun y hy=>hl y (List.mem_cons_of_mem _ hy)) (fun y d' q=>?_) e;rw [List.lookup_cons] at q
   by_cases hy:(y == n)=true
   ·rw [hy] at q;have hyn:y=n:=by simpa using hy
    subst hyn;rw [hd'] at q ⊢;exact q
   ·rw [Bool.not_eq_true] at hy;rw [hy] at q;exact hc y d' q
  ·rw [if_neg hk] at e;exact iF (fun y hy=>hl y (List.mem_cons_of_mem _ hy)) hc e
theorem pE {cells:List (Str×Addr)}:∀{l:List (Str×NameKind)} {cs:List (Str×Addr)} {x:Str},(∃c,cs.lookup x=some c)→∃c,(yK cells l cs).lookup x=some c
 |[],_,_,h=>h
 | (n,k)::r,cs,x,h=>by
  unfold yK
  by_cases hk:(k == NameKind.free)=true
  ·rw [if_pos hk];refine pE ?_;rw [List.lookup_cons]
   by_cases hy:(x == n)=true
   ·rw [hy];exact ⟨_,rfl⟩
   ·rw [Bool.not_eq_true] at hy;rw [hy];exact h
  ·rw [if_neg hk];exact pE h
theorem iK {cells:List (Str×Addr)}:∀{l:List (Str×NameKind)} {cs:List (Str×Addr)} {x:Str},(x,NameKind.free)∈l→∃c,(yK cells l cs).lookup x=some c
 | (n,k)::r,cs,x,h=>by
  unfold yK
  rcases List.mem_cons.mp h with e|e
  ·cases e;rw [if_pos (by rfl)];exact pE (by rw [List.lookup_cons,beq_self_eq_true];exact ⟨_,rfl⟩)
  ·by_cases hk:(k == NameKind.free)=true
   ·rw [if_pos hk];exact iK e
   ·rw [if_neg hk];exact iK e
def vF (X:Cx) (N:List Str) (scope:Scope) (C:Addr) (s:Shared) (H:Hp) (pins:List (Addr×Obj)) (fp:List Addr):Cx where
 prog:=X.prog
 w:=X.w
 K:=X.K
 mg:=X.mg
 base:=X.base
 A:=X.A
 N:=N
 s₀:=s
 H₀:=H
 env:=compEnvC scope (yK X.env.cells scope.names []) C X.env
 outer:=X.stack
 stack:=X.stack
 ex:=fp
 fn:=fun _=>false
 calm:=X.calm
 pn:=X.pn++pins
 xe:=fun _ _=>False
structure CompScope (X:Cx) (scope:Scope):Prop where
 kind:scope.kind=.function
 nocell:∀y∈scope.names,y.2≠.cell
 names:∀y∈scope.names,y.2=.local→scope.names.lookup y.1=some .local
 free:∀y∈scope.names,y.2=.free→X.env.kindOf y.1=some .cell∨X.env.kindOf y.1=some .free
theorem oZ {env:Env} {x:Str}:∀{names:List (Str×NameKind)} {k:NameKind},(names.map fun (n,k)=>if (k == NameKind.free&&env.scope.kind == .function&&env.kindOf n == some .cell) then (n,NameKind.cell) else (n,k)).lookup x=some k→
  ∃k',names.lookup x=some k'∧(k'=k∨(k'=.free∧k=.cell∧env.kindOf x=some .cell))
 |[],k,h=>by simp at h
 | (n,k0)::r,k,h=>by
  have ih:=@oZ env x r k;have h':List.lookup x ((if (k0 == NameKind.free&&env.scope.kind == .function&&env.kindOf n == some .cell)=true then (n,NameKind.cell) else (n,k0))::r.map fun (n,k)=>if (k == NameKind.free&&env.scope.kind == .function&&env.kindOf n == some .cell)=true then (n,NameKind.cell) else (n,k))=some k:=h
  by_cases hc:(k0 == NameKind.free&&env.scope.kind == .function&&env.kindOf n == some .cell)=true
  ·rw [if_pos hc] at h';rw [List.lookup_cons] at h';cases hx:x == n with
   |true =>
    rw [hx] at h';have hk:NameKind.cell=k:=Option.some.inj h';simp only [Bool.and_eq_true,beq_iff_eq] at hc;have hxn:x=n:=by simpa using hx
    refine ⟨k0,by rw [List.lookup_cons,hx],.inr ⟨hc.1.1,hk.symm,by rw [hxn];exact hc.2⟩⟩
   |false =>
    rw [hx] at h';obtain ⟨k',e1,e2⟩:=ih h';exact ⟨k',by rw [List.lookup_cons,hx];exact e1,e2⟩
  ·rw [if_neg hc] at h';rw [List.lookup_cons] at h';cases hx:x == n with
   |true =>
    rw [hx] at h';exact ⟨k0,by rw [List.lookup_cons,hx],.inl (Option.some.inj h')⟩
   |false =>
    rw [hx] at h';obtain ⟨k',e1,e2⟩:=ih h';exact ⟨k',by rw [List.lookup_cons,hx];exact e1,e2⟩
theorem o9 {α:Type}:∀{l:List (Str×α)} {x:Str} {k:α},l.lookup x=some k→(x,k)∈l
 |[],_,_,h=>by simp at h
 | (n,a)::r,x,k,h=>by
  rw [List.lookup_cons] at h;cases hx:x == n with
  |true =>
   rw [hx] at h;have e:a=k:=Option.some.inj h;have hxn:x=n:=by simpa using hx
   subst e;subst hxn
   exact List.mem_cons_self
  |false =>
   rw [hx] at h;exact List.mem_cons_of_mem _ (o9 h)
def dW (X:Cx) (ifs:List Expr) (t:TT):Prop :=
 ∀(pins:List (Addr×Obj)) (s:Shared) (σ:St) (H:Hp) (Q:Bool→Hp→Prop),Inv X pins σ H s→t σ H Q→
  wpAny (model X.prog X.w) X.A (forIn ifs true fun c r=>if r=true then do let ok ← isTrue c X.env (eval c X.env);pure (ForInStep.yield ok) else pure (ForInStep.yield r)) (TP X pins σ Q) X.xe s
def tS:TT:=fun _ H Q=>Q true H
variable {X:Cx}
theorem zB:dW X [] tS:=fun _ _ _ H _ I h=>wpAny_tests_nil ⟨H,I,h⟩
theorem JH {c:Expr} {t:TT} (hc:PT X c t):dW X [c] t:=fun pins s σ H Q I h=>wpAny_tests_one (hc pins s σ H Q I h)
def QO (D:Addr) (J:It) (g:TG) (tc:TT) (te:TE) (σ₀:St) (H:Hp) (Q:Hp→Prop):Prop :=
 ∃W:Nat→Nat→St→Hp→Prop,(∃m,W 0 m σ₀ (upd H D (.lst [])))∧∀i m σ' H',W i m σ' H'→
  (J.stop i H'∧Q H')∨(J.go i H'∧∃N:St→Hp→Prop,(∀σ'' H'',N σ'' H''→∃m',m'<m∧W (i+1) m' σ'' H'')∧∀x H2,J.yld i H' x H2→g x σ' H2 fun σ2 H3=>tc σ2 H3 fun b H4 =>
   if b=true then te σ2 H4 fun v H5=>∃xs,H5 D=some (.lst xs)∧xs.length<sizeLine∧N σ2 (upd H5 D (.lst (xs++[v]))) else N σ2 H4)
def tI (wi:TI) (cap:St→St) (g:TG) (tc:TT) (te:TE):TE:=fun σ H Q=>wi σ H fun J H1=>∀D,H1 D=none→QO D J g tc te (cap σ) H1 fun H'=>Q (.ref D) H'
def OK (i:Nat) (wi:TI) (cap:St→St) (g:TG) (tc:TT) (te:TE):TS:=fun D σ H=>wi σ H fun J H1=>∀d,H1 d=none→QO d J g tc te (cap σ) H1 fun H'=>D.nx (σ.set i (some (.ref d))) H'
def Z3 (X:Cx) (N:List Str) (scope:Scope) (cap:St→St):Prop :=
 ∀σ:St,σ.length=X.N.length→(cap σ).length=N.length∧∀(i:Nat) (x:Str) (v:V),N[i]?=some x→(cap σ)[i]?=some (some v)→scope.names.lookup x=some .free∧∃j:Nat,X.N[j]?=some x∧σ[j]?=some (some v)
def qY (n:Nat) (js:List Nat):St→St:=fun σ=>List.replicate n none++js.map fun j=>(σ[j]?).join
theorem FK {N:List Str} (n:Nat) (js:List Nat) (h1:N.length=n+js.length) (h2:js.map (fun j=>X.N[j]?)=(N.drop n).map some) (h3:∀x∈N.drop n,scope.names.lookup x=some .free):Z3 X N scope (qY n js):=by
 intro σ hσ;refine ⟨by unfold qY;rw [List.length_append,List.length_replicate,List.length_map,h1],fun i x v e1 e2=>?_⟩;unfold qY at e2
 by_cases hi:i<n
 ·rw [List.getElem?_append_left (by simpa using hi),List.getElem?_replicate,if_pos hi] at e2;cases e2
 ·rw [List.getElem?_append_right (by simpa using hi),List.length_replicate,List.getElem?_map] at e2;cases hj:js[i - n]? with
  |none=>rw [hj] at e2;cases e2
  |some j =>
   rw [hj] at e2;have e3:(σ[j]?).join=some v:=Option.some.inj e2;have e4:σ[j]?=some (some v):=by
    cases q:σ[j]? with
    |none=>rw [q] at e3;cases e3
    |some o =>
     rw [q] at e3;have e5:o=some v:=e3;rw [e5]
   have hd:(N.drop n)[i - n]?=some x:=by
    rw [List.getElem?_drop,show n+(i - n)=i by omega];exact e1
   have e5:=congrArg (fun l=>l[i - n]?) h2;simp only [List.getElem?_map,hj,hd,Option.map_some] at e5;exact ⟨h3 x (List.mem_of_getElem? hd),j,Option.some.inj e5,e4⟩
theorem FJ (sc:Scope) (hsc:X.env.scope=sc) (kind:scope.kind=.function) (nocell:∀y∈scope.names,y.2≠.cell) (names:∀y∈scope.names,y.2=.local→scope.names.lookup y.1=some .local)
  (free:∀y∈scope.names,y.2=.free→sc.names.lookup y.1=some .cell∨sc.names.lookup y.1=some .free):CompScope X scope:=⟨kind,nocell,names,fun y hy hf=>by
 subst hsc;exact free y hy hf⟩
section
variable {X:Cx} {N:List Str} {scope:Scope} {pins:List (Addr×Obj)} {σ:St} {H:Hp} {s:Shared} {fp:List Addr}
theorem iI (S:CompScope X scope) (I:Inv X pins σ H s):∀y∈scope.names,y.2=.free→∃c,X.env.cells.lookup y.1=some c:=fun y hy hf=>I.ok.has y.1 (S.free y hy hf)
theorem PL {cap:St→St} {D C:Addr} {h₁:Heap} {t':Nat} {m:Str→Option Value} (S:CompScope X scope) (I:Inv X pins σ H s) (hcap:Z3 X N scope cap) (hf:∀b∈fp,JR X pins H b) (hfo:∀b∈fp,∃o,s.heap.get? b=some o)
  (hD:s.heap.objs.size≤D) (hC:s.heap.objs.size≤C) (hDC:D≠C) (old:∀b o,s.heap.get? b=some o→h₁.get? b=some o) (hns:h₁.Ns C m) (hl:h₁.get? D=some {cls:=.type "list",data:=.seq ([]:List Value).toArray}) :
  Inv (vF X N scope C s H pins fp) [] (cap σ) (upd H D (.lst [])) {s with heap:=h₁,toks:=t'}:=by
 have cellsOk:=iI S I;have look:∀x c,(yK X.env.cells scope.names []).lookup x=some c→X.env.cells.lookup x=some c:=fun x c e=>iF cellsOk (fun y d q=>by simp at q) e
 have lt:∀{b:Addr} {o:Obj},s.heap.get? b=some o→b<s.heap.objs.size:=fun e=>Heap.lt_size e
 have cellLt:∀x c,X.env.cells.lookup x=some c→c<s.heap.objs.size:=fun x c e=>by
  obtain ⟨v,o,ho,_⟩:=I.cell x c e;exact lt ho
 have nD:H D=none:=I.hok.fresh hD;have nC:H C=none:=I.hok.fresh hC;have stkNe:∀b:Addr,b≠X.env.locals→b∉X.fs→b∉kN X.stack:=fun b h1 h2 z=>by
  rcases List.mem_cons.mp (I.stkSub b z) with e|e
  ·exact h1 e
  ·exact h2 e
 refine ⟨⟨I.ok.mod,S.kind,I.ok.glob,I.ok.blt,hC,fun x y c h1 h2=>I.ok.inj x y c (look x c h1) (look y c h2),fun x hx=>?_,fun x c hfn _=>(nomatch hfn),I.ok.hd,I.ok.frames,.inl rfl,fun b hb=>⟨?_,fun x c e=>(hf b hb).2.2.2.2.1 x c (look x c e)⟩,
   I.bs,Nat.le_trans I.ok.bsz I.sz,fun b o e hb=>?_,fun b hb=>stkNe b (hf b hb).2.1 (hf b hb).2.2.1,I.stack,I.stkFree⟩,
  rfl,I.bare,Un.laid old hD nD,⟨m,hns,fun i x v h1 h2 h3=>?_⟩,fun x c e=>?_,?_,fun x c e=>?_,fun p hp=>?_,?_,(hcap σ I.len).1⟩
 ·-- has
  have hx':∃k,(relabel scope X.env).names.lookup x=some k∧(k=.cell∨k=.free):=by
   rcases hx with e|e
   ·exact ⟨_,e,.inl rfl⟩
   ·exact ⟨_,e,.inr rfl⟩
  obtain ⟨k,e,hk⟩:=hx';obtain ⟨k',e1,e2⟩:=oZ e;have hm:=o9 e1;have hfree:k'=.free:=by
   rcases e2 with e2|e2
   ·subst e2
    rcases hk with hk|hk
    ·subst hk;exact absurd rfl (S.nocell _ hm)
    ·exact hk
   ·exact e2.1
  subst hfree;exact iK hm
 ·obtain ⟨o,ho⟩:=hfo b hb;exact Nat.ne_of_lt (Nat.lt_of_lt_of_le (lt ho) hC)
 ·rcases (hf b hb).2.2.2.1 with z|z
  ·exact I.ok.noex b o e z
  ·exact absurd (Nat.lt_of_lt_of_le (Heap.lt_size e) (Nat.le_trans I.ok.bsz z)) (Nat.lt_irrefl _)
 ·-- names
  obtain ⟨hfr,j,hj,hv⟩:=(hcap σ I.len).2 i x v h1 h2;have hm:=o9 hfr;have hk:=S.free _ hm rfl;obtain ⟨m0,_,hl0⟩:=I.loc;have vis:fY X.env.scope x:=by
   rcases hk with k|k
   ·exact .inr (.inl k)
   ·exact .inr (.inr k)
  obtain ⟨u,r,l⟩:=hl0 j x v hj hv vis;refine ⟨u,r,.inr ⟨?_,?_⟩⟩
  ·have hvis:∃k,(relabel scope X.env).names.lookup x=some k:=by
    rcases h3 with e|e|e<;>exact ⟨_,e⟩
   obtain ⟨k,e⟩:=hvis;obtain ⟨k',e1,e2⟩:=oZ e;rw [hfr] at e1;cases e1
   rcases e2 with e2|e2
   ·subst e2;exact .inr e
   ·rw [e2.2.1] at e;exact .inl e
  ·rcases l with ⟨k,_⟩|⟨_,c,hc,hcell⟩
   ·exfalso
    rcases hk with q|q
    ·have q':X.env.kindOf x=some .cell:=q;rw [k] at q';cases q'
    ·have q':X.env.kindOf x=some .free:=q;rw [k] at q';cases q'
   ·obtain ⟨c',e'⟩:=iK (cells:=X.env.cells) (cs:=[]) hm;have e2:=look x c' e';have e2':X.env.cells.lookup x=some c':=e2;rw [hc] at e2';cases e2';obtain ⟨o,ho,hd⟩:=hcell;exact ⟨c,e',o,old _ _ ho,hd⟩
 ·obtain ⟨v,o,ho,hd⟩:=I.cell x c (look x c e);exact ⟨v,o,old _ _ ho,hd⟩
 ·show upd H D (.lst []) C=none;rw [jG (Ne.symm hDC)];exact nC
 ·have hc:=look x c e;rw [jG (Nat.ne_of_lt (Nat.lt_of_lt_of_le (cellLt x c hc) hD))];exact I.freeC x c hc
 ·have hp':p∈X.pn++pins:=by
   rcases List.mem_append.mp hp with z|z
   ·exact z
   ·cases z
  obtain ⟨e,n,ne,nf,d⟩:=I.pin p hp';refine ⟨old _ _ e,?_,Nat.ne_of_lt (Nat.lt_of_lt_of_le (lt e) hC),stkNe p.1 ne nf,d⟩;rw [jG (Nat.ne_of_lt (Nat.lt_of_lt_of_le (lt e) hD))];exact n
 ·refine I.hok.laid old hD ?_;exact ⟨Nat.zero_le _,[],0,.nil,hl⟩
theorem AJ {σ':St} {H':Hp} {s':Shared} {C:Addr} {σc:St} {Nc:List Str} (I:Inv X pins σ H s) (hf:∀b∈fp,JR X pins H b) (J:Inv (vF X Nc scope C s H pins fp) [] σc H' s'):Inv X pins σ H' s':=by
 refine I.call' (ch:=fp) J.os J.base J.hok J.bare fun b hb=>?_
 obtain ⟨_,h2,_,h4,h5,h6⟩:=hf b hb;exact ⟨h4,h2,h5,h6⟩
theorem B0 {σ':St} {H':Hp} {s':Shared} {C:Addr} {h':Heap} (I:Inv X pins σ H s) (hC:s.heap.objs.size≤C) (J:Inv X pins σ' H' s') (hn:H' C=none) (sb:Heap.SameBut C s'.heap h'):Inv X pins σ' H' {s' with heap:=h'}:=by
 refine J.turned (t':=s'.toks) (it:=C) (fun b o hb e=>(sb.2 b hb).trans e) hn (Nat.ne_of_gt (Nat.lt_of_lt_of_le I.lt hC)) (.inr (Nat.le_trans I.sz hC)) (fun x c e z=>?_) fun p hp z=>?_
 ·obtain ⟨v,q⟩:=I.cell x c e;exact absurd (Nat.lt_of_lt_of_le q.lt (by rw [z];exact hC)) (Nat.lt_irrefl _)
 ·exact absurd (Nat.lt_of_lt_of_le (Heap.lt_size (I.pin p hp).1) (by rw [z];exact hC)) (Nat.lt_irrefl _)
end
end L2
namespace L2
open PySem PySem.Spec PyProof.Rows
variable {H:Hp}
theorem yB {σ:St} {Q:Bool→Hp→Prop} (h:Q true H):tS σ H Q:=h
variable {K:PySem.W.Frag} {D:Addr} {xs:List V} {tc:TT} {te:TE} {Q:Hp→Prop}
theorem cM {a:Addr} {g:TG} {σ₀:St} (Pv:Nat→St→Hp→Prop) (h0:Pv 0 σ₀ (upd H D (.lst []))) (hl:∀i σ H,i≤xs.length→Pv i σ H→SqL K H a xs)
    (hs:∀i x σ H,xs[i]?=some x→Pv i σ H→g x σ H fun σ2 H3=>tc σ2 H3 fun b H4=>if b=true then te σ2 H4 fun v H5=>∃ys,H5 D=some (.lst ys)∧ys.length<sizeLine∧Pv (i+1) σ2 (upd H5 D (.lst (ys++[v]))) else Pv (i+1) σ2 H4)
    (hd:∀σ H,Pv xs.length σ H→Q H):QO D (cC K a) g tc te σ₀ H Q:=by
  refine ⟨fun i m σ H=>m=xs.length - i∧i≤xs.length∧Pv i σ H,⟨xs.length,by simp,Nat.zero_le _,h0⟩,?_⟩;rintro i m σ H ⟨rfl,hi,p⟩;have q:=hl i σ H hi p
  by_cases hlt:i<xs.length
  · refine .inr ⟨⟨xs,xs[i],q,by simp [hlt]⟩,Pv (i+1),fun σ' H' p'=>⟨xs.length - (i+1),by omega,rfl,hlt,p'⟩,fun x H' y=>?_⟩
    obtain ⟨e,y⟩:=y;subst e;exact hs i x σ _ (y xs q) p
  · have e:i=xs.length:=by omega
    subst e;exact .inl ⟨⟨xs,q,Nat.le_refl _⟩,hd σ H p⟩
theorem L3 {lo:Int} {n:Nat} {g:TG} {σ₀:St} (Pv:Nat→St→Hp→Prop) (h0:Pv 0 σ₀ (upd H D (.lst [])))
  (hs:∀i σ H,i<n→Pv i σ H→g (.int (lo+i)) σ H fun σ2 H3=>tc σ2 H3 fun b H4=>if b=true then te σ2 H4 fun v H5=>∃ys,H5 D=some (.lst ys)∧ys.length<sizeLine∧Pv (i+1) σ2 (upd H5 D (.lst (ys++[v]))) else Pv (i+1) σ2 H4)
  (hd:∀σ H,Pv n σ H→Q H):QO D (Z9 lo n) g tc te σ₀ H Q:=by
 refine ⟨fun i m σ H=>m=n - i∧i≤n∧Pv i σ H,⟨n,by simp,Nat.zero_le _,h0⟩,?_⟩;rintro i m σ H ⟨rfl,hi,p⟩
 by_cases hlt:i<n
 ·refine .inr ⟨hlt,Pv (i+1),fun σ' H' p'=>⟨n - (i+1),by omega,rfl,hlt,p'⟩,fun x H' y=>?_⟩;obtain ⟨e,y⟩:=y;subst e y;exact hs i σ _ hlt p
 ·have e:i=n:=by omega
  subst e;exact .inl ⟨Nat.le_refl _,hd σ H p⟩
theorem qH {H':Hp} {o:HO} (hD:H D=none) (s:Same H H'):Same H (upd H' D o):=fun b u q=>by
 rw [jG (qV q hD)];exact s b u q
def Q8 (H:Hp) (D:Addr) (caps:St) (R:Nat→List V→Hp→Prop) (i:Nat) (σ:St) (Hi:Hp):Prop:=∃ys c,σ=c::caps∧Same H Hi∧Hi D=some (.lst ys)∧ys.length≤i∧R i ys Hi
variable {caps:St}
theorem vV {Hi H5:Hp} {R:Nat→List V→Hp→Prop} {i:Nat} {ys:List V} {c:Option V} {v:V} (hD:H D=none) (s:Same H Hi) (hY:Hi D=some (.lst ys)) (hl:ys.length≤i) (hi:i≤999) (s5:Same Hi H5)
  (r:R (i+1) (ys++[v]) (upd H5 D (.lst (ys++[v])))):∃zs,H5 D=some (.lst zs)∧zs.length<sizeLine∧Q8 H D caps R (i+1) (c::caps) (upd H5 D (.lst (zs++[v]))):=by
 refine ⟨ys,s5 _ _ hY,yJ (by omega),ys++[v],c,rfl,qH hD (s.trans s5),jD,?_,r⟩;rw [List.length_append,List.length_singleton];omega
theorem JW {Hi H4:Hp} {R:Nat→List V→Hp→Prop} {i:Nat} {ys:List V} {c:Option V} (s:Same H Hi) (hY:Hi D=some (.lst ys)) (hl:ys.length≤i) (s4:Same Hi H4) (r:R (i+1) ys H4) :
  Q8 H D caps R (i+1) (c::caps) H4:=⟨ys,c,rfl,s.trans s4,s4 _ _ hY,by omega,r⟩
theorem zM {a:Addr} (R:Nat→List V→Hp→Prop) (hD:H D=none) (hS:SqL K H a xs) (h0:R 0 [] (upd H D (.lst [])))
  (hs:∀i x ys Hi,xs[i]?=some x→i<xs.length→ys.length≤i→Same H Hi→Hi D=some (.lst ys)→R i ys Hi→tc (some x::caps) Hi fun b H4=>if b=true then te (some x::caps) H4 fun v H5=>∃zs,H5 D=some (.lst zs)∧zs.length<sizeLine∧Q8 H D caps R (i+1) (some x::caps) (upd H5 D (.lst (zs++[v])))
   else Q8 H D caps R (i+1) (some x::caps) H4)
  (hd:∀ys Hf,Same H Hf→Hf D=some (.lst ys)→ys.length≤xs.length→R xs.length ys Hf→Q Hf):QO D (cC K a) (bP 0) tc te (none::caps) H Q:=by
 refine cM (xs:=xs) (Q8 H D caps R) ⟨[],none,rfl,qH hD (Same.refl H),jD,Nat.le_refl _,h0⟩ (fun i σ Hi _ ⟨_,_,_,s,_⟩=>s.seq hS) ?_ ?_
 ·rintro i x σ Hi hx ⟨ys,c,rfl,s,hY,hl,r⟩;exact hs i x ys Hi hx (List.getElem?_eq_some_iff.mp hx).1 hl s hY r
 ·rintro σ Hf ⟨ys,c,rfl,s,hY,hl,r⟩;exact hd ys Hf s hY hl r
theorem ZH {lo:Int} {n:Nat} (R:Nat→List V→Hp→Prop) (hD:H D=none) (h0:R 0 [] (upd H D (.lst [])))
  (hs:∀i ys Hi,i<n→ys.length≤i→Same H Hi→Hi D=some (.lst ys)→R i ys Hi→tc (some (.int (lo+i))::caps) Hi fun b H4=>if b=true then te (some (.int (lo+i))::caps) H4 fun v H5=>∃zs,H5 D=some (.lst zs)∧zs.length<sizeLine∧Q8 H D caps R (i+1) (some (.int (lo+i))::caps) (upd H5 D (.lst (zs++[v])))
   else Q8 H D caps R (i+1) (some (.int (lo+i))::caps) H4)
  (hd:∀ys Hf,Same H Hf→Hf D=some (.lst ys)→ys.length≤n→R n ys Hf→Q Hf):QO D (Z9 lo n) (bP 0) tc te (none::caps) H Q:=by
 refine L3 (Q8 H D caps R) ⟨[],none,rfl,qH hD (Same.refl H),jD,Nat.le_refl _,h0⟩ ?_ ?_
 ·rintro i σ Hi hi ⟨ys,c,rfl,s,hY,hl,r⟩;exact hs i ys Hi hi hl s hY r
 ·rintro σ Hf ⟨ys,c,rfl,s,hY,hl,r⟩;exact hd ys Hf s hY hl r
def U8:V→Option Value
 |.ty n=>some (.type n)
 |.ref a=>some (.ref a)
 |_=>none
section
variable {X:Cx}
def E1 (K:PySem.W.Frag):List V→Hp→VK→Prop:=fun xs H Q=>∃(x c:V) (t u:Value) (b:Bool),xs=[x,c]∧U8 c=some u∧TyOf K H x t∧PySem.W.kitOne K t u=some b∧Q (.bl b) H
theorem PP:yQ X (.builtin "isinstance") (E1 X.K):=by
 intro pins s σ H xs us Q I r h;obtain ⟨x,c,t,u,b,rfl,hc,ty,e,q⟩:=h;obtain ⟨u1,u2,rfl,r1,r2⟩:=tG r;have e2:u2=u:=by
  cases c with
  |ty n=>cases (show u2=Value.type n from r2);exact Option.some.inj hc
  |ref a=>cases (show u2=Value.ref a from r2);exact Option.some.inj hc
  |_=>cases hc
 subst e2;exact N4 I r1 ty e fun tk=>⟨.bl b,H,I.tok _,rfl,q⟩
end
theorem ZK (n:String):PySem.W.kitOne K (.type n) (.type n)=some true:=by
 unfold PySem.W.kitOne;rw [if_pos (beq_self_eq_true _)]
def Z6 (xs ys:List V):Bool:=(List.range (min xs.length ys.length)).all (fun j=>y7 (xs.getD j .non) (ys.getD j .non))&&xs.length == ys.length
theorem ZI {us:List Value} (r:Vals xs us) {j:Nat} (h:j<us.toArray.size):RelV (xs.getD j .non) us.toArray[j]:=by
 have hj:j<us.length:=by simpa using h
 have hx:j<xs.length:=by rw [r.length];exact hj
 obtain ⟨u,e,q⟩:=r.get (List.getElem?_eq_getElem hx);rw [List.getElem?_eq_getElem hj] at e;have e':=Option.some.inj e;rw [List.getD_eq_getElem?_getD,List.getElem?_eq_getElem hx];show RelV xs[j] us.toArray[j];rw [List.getElem_toArray,e'];exact q
theorem iO (h:xs.all yP=true) {j:Nat} (hj:j<xs.length):yP (xs.getD j .non)=true:=by
 rw [List.getD_eq_getElem?_getD,List.getElem?_eq_getElem hj];exact List.all_eq_true.mp h _ (List.getElem_mem hj)
section
variable {X:Cx}
end
end L2
namespace L2
open PySem PySem.Spec PyProof.Rows
section
variable {X:Cx}
end
section
variable {X:Cx} (K:PySem.W.Frag)
theorem kL (h:X.K=K:=by rfl):IxR X (lY K):=by subst h;exact uX
theorem jR (h:X.K=K:=by rfl):IxR X (tX K):=by subst h;exact ix_tup
theorem RV (h:X.K=K:=by rfl):IxR X (uM K):=by subst h;exact S5
theorem LW (h:X.K=K:=by rfl):yQ X (.builtin "len") (fun xs H Q=>∃p ys,xs=[.ref p]∧(SqL K H p ys∨SqT K H p ys)∧Q (.int ys.length) H):=by subst h;exact FL
theorem cO (h:X.K=K:=by rfl):yQ X (.builtin "isinstance") (E1 K):=by subst h;exact PP
theorem QI {es:List Expr} {k:Nat} {t:Z8} {n:Nat} {pos:Pos} (hc:X.calm=true) (h:fZ X es t) (hK:X.K=K:=by rfl)
  (hn:(assignEach es X.env).length=n:=by rfl) (hst:(assignEach es X.env).findIdx? (·.1)=none:=by rfl):PG X (.Tuple es k pos) (E3 K n t):=by subst hK;exact lF hc h hn hst
end
section
variable {X:Cx}
end
section
variable {X:Cx}
def UT (t u:TS):TS:=fun D σ H=>∃P:St→Hp→Prop,t {D with nx:=P} σ H∧∀σ' H',P σ' H'→u D σ' H'
theorem fA {st:Stmt} {rest:List Stmt} {t u:TS} (h1:PS X st t) (h2:PSs X rest u):PSs X (st::rest) (UT t u):=by
 intro pins s σ H D I h;obtain ⟨P,hP,hu⟩:=h;refine wpAny_execs_cons (jN (h1 pins s σ H {D with nx:=P} I hP) fun f s1 q=>?_);cases f with
 |next =>
  obtain ⟨σ',H',I',q⟩:=q;exact h2 pins s1 σ' H' D I' (hu σ' H' q)
 |ret v=>exact q
 |brk=>exact q
 |cont=>exact q
end
structure Def (P:Program) (w:World) (K:PySem.W.Frag) (mg:Str→Option Value) (base:Heap) (k:Nat) (x:Str) (ps:List Str) (dvs:List V) (sp:Sp):Prop where
 ex:∃(f:Addr) (fd:FuncData) (ds:List Value),FnOk P w K mg base jK k f fd ps sp∧mg x=some (.ref f)∧PySem.W.keepIn K (.ref f)=true∧Vals dvs ds∧Binds K fd ps ds
theorem jQ {X:Cx} {k k':Nat} {x:Str} {ps:List Str} {dvs:List V} {sp:Sp} {p pos:Pos} {e:Expr} {es:List Expr} {t:TA} (F:Def X.prog X.w X.K X.mg X.base k x ps dvs sp) (hr:Room k' X.A) (hg:Gl X x) (ha:PA X (e::es) t)
  (hk:k≤k':=by decide) (hdb:(x == ("__debug__":Str))=false:=by decide) (he:starEach (e::es) X.env=(false,eval e X.env)::starEach es X.env:=by rfl) (hpl:(backTo pos (starEach es X.env)).any (·.1)=false:=by rfl) :
  PE X (.Call (.Name x p) (e::es) [] pos) (tJ sp dvs E0 t):=by
 obtain ⟨f,fd,ds,G,m,kp,hv,b⟩:=F.ex;exact RI G (hr.mono hk) hg m kp b hv zQ ha hdb he hpl
structure FunD (K:PySem.W.Frag) (x qual:Str) (st:Stmt) (f:Addr) (fd:FuncData) (ds:List Value):Prop where
 ex:∃(oc:Value) (od:Option Addr) (T:Addr) (kV doc pm:Value) (an:Option Addr) (cdv ct:Value) (osl:Array (Option Value)) (oT:Obj) (n:Nat),
  fd=PySem.W.fnOf x qual (kO st) (kC st) (jM st) (.ref T) kV doc pm an cdv ct∧K.lookup f=some ⟨oc,od,.func fd,osl⟩∧PySem.W.codeIn K cdv qual=true∧K.lookup T=some oT∧oT.data=.seq ds.toArray n
 kp:PySem.W.keepIn K (.ref f)=true
section
variable {P:Program} {w:World} {K:PySem.W.Frag} {mg:Str→Option Value} {base:Heap}
theorem FunD.ok {x qual:Str} {st:Stmt} {f:Addr} {fd:FuncData} {ds:List Value} {N ps:List Str} {k:Nat} {sp:Sp} (F:FunD K x qual st f fd ds) (S:FnScope N ps (jM st)) (len:∀vs H Q E,sp vs H Q E→vs.length=ps.length)
  (hbody:∀(cdv:Value) (A:Around) (outer:List Env) (s:Shared) (H:Hp) (vs:List V) (Q:VK) (E:XK),Room k (A.deeper (envOfC qual (jM st) s.heap.objs.size f cdv))→sp vs H Q E→
   ∃t,PSs (vP jK P w K mg base N qual (jM st) f cdv A outer s H E).nox (kC st) t∧t {nx:=fun _ H'=>Q .non H',rt:=Q} (start N vs) H):FnOk P w K mg base jK (k+1) f fd ps sp:=by
 obtain ⟨oc,od,T,kV,doc,pm,an,cdv,ct,osl,oT,n,rfl,lk,hcd,_,_⟩:=F.ex;refine lV lk hcd S len fun A outer s H vs Q E hr hsp=>?_
 obtain ⟨t,h,q⟩:=hbody cdv A outer s H vs Q E hr hsp;exact ⟨t,h.nox,q⟩
theorem FunD.binds {x qual:Str} {st:Stmt} {f:Addr} {fd:FuncData} {ds:List Value} {ps:List Str} (ds':List Value) (m:Nat) (hm:m+ds'.length=ps.length) (F:FunD K x qual st f fd ds)
  (h:∀(T:Addr) (kV doc pm:Value) (an:Option Addr) (cdv ct:Value) (us:List Value),us.length=m→∃k,bindArgs (PySem.W.fnOf x qual (kO st) (kC st) (jM st) (.ref T) kV doc pm an cdv ct) ⟨us,[]⟩=seqItems? (.ref T) >>= k∧
   k (some ds.toArray)=pure (ps.zip (us++ds'))):Binds K fd ps ds':=by
 obtain ⟨oc,od,T,kV,doc,pm,an,cdv,ct,osl,oT,n,rfl,lk,hcd,lT,dT⟩:=F.ex;intro s us hK hl;obtain ⟨k,h1,h2⟩:=h T kV doc pm an cdv ct us (by rw [List.length_append] at hl;omega);exact BindsTo.of_defaults rfl (hK _ _ lT) dT h1 h2
theorem R3 {x qual:Str} {st:Stmt} {f T:Addr} {oc:Value} {od an:Option Addr} {osl:Array (Option Value)} {kV doc pm cdv ct:Value} {oT:Obj} {n:Nat} {ds:List Value}
  (l:K.lookup f=some ⟨oc,od,.func (PySem.W.fnOf x qual (kO st) (kC st) (jM st) (.ref T) kV doc pm an cdv ct),osl⟩)
  (c:PySem.W.codeIn K cdv qual=true) (k:PySem.W.keepIn K (.ref f)=true) (lT:K.lookup T=some oT) (dT:oT.data=.seq ds.toArray n):FunD K x qual st f (PySem.W.fnOf x qual (kO st) (kC st) (jM st) (.ref T) kV doc pm an cdv ct) ds :=
 ⟨⟨oc,od,T,kV,doc,pm,an,cdv,ct,osl,oT,n,rfl,l,c,lT,dT⟩,k⟩
end
section
variable {X:Cx}
theorem rH:E7 X (lY X.K):=by
 intro pins s σ H o i ov iv Q I ro ri h;obtain ⟨p,xs,k,z,rfl,rfl,hq,he,q⟩:=h;cases ro;obtain ⟨t,rfl⟩:=ri;obtain ⟨its,r,pl,hz⟩:=I.list hq;obtain ⟨j,h1,h2,h3,h4,h5⟩:=lB he;obtain ⟨w,ew,rw'⟩:=r.get h2;have hl:=r.length;have hn:=ZP;have fin:EP X pins σ Q w s:=⟨z,H,I,rw',q⟩
 by_cases h0:0≤k
 ·have hj:k.toNat=j:=by
   rw [seqIndex_of h0 h5] at h1;exact Option.some.inj h1
  exact wpAny_getItem_list pl.isList h0 (by omega) (by rw [hj];simpa using ew) fin
 ·have hj:(k+(its.toArray.size:Int)).toNat=j:=by
   rw [seqIndex_neg (by omega) h4] at h1;rw [List.size_toArray,← hl];exact Option.some.inj h1
  exact wpAny_getItem_list_neg pl.isList (by omega) (by rw [List.size_toArray]<;>omega) (by omega) (by rw [hj];simpa using ew) fin
end
end L2
namespace L2
open PySem
variable {c A B:Prop}
theorem ZU [Decidable c] (hc:¬c) (h:A):if (!decide c)=true then A else B:=by
 rw [decide_eq_false hc];exact kS h
theorem qX [Decidable c] (hc:¬c) (h:B):if decide c=true then A else B:=by
 rw [decide_eq_false hc];exact qI h
theorem vK [Decidable c] (hc:c) (h:A):if decide c=true then A else B:=by
 rw [decide_eq_true hc];exact kS h
end L2
namespace L2
open PySem PySem.Spec PyProof.Rows
structure MkD (P:Program) (w:World) (K:PySem.W.Frag) (mg:Str→Option Value) (base:Heap) (k:Nat) (x:Str) (C:Addr) (ps:List Str) (sp:Sp):Prop where
 ex:mg x=some (.ref C)∧∃(f:Addr) (fd:FuncData),Mk K C f∧FnOk P w K mg base jK k f fd ps sp∧Binds K fd ps []
structure MeD (P:Program) (w:World) (K:PySem.W.Frag) (mg:Str→Option Value) (base:Heap) (k:Nat) (C:Addr) (m:Str) (ps:List Str) (sp:Sp):Prop where
 ex:Cls K C∧∃(f:Addr) (fd:FuncData),Meth K C m f∧FnOk P w K mg base jK k f fd ps sp∧Binds K fd ps []
section
variable {X:Cx} {k k':Nat} {x m:Str} {C:Addr} {ps:List Str} {sp:Sp} {p pos apos:Pos} {o e:Expr} {es:List Expr} {ta:TE} {t:TA}
theorem fH (M:MkD X.prog X.w X.K X.mg X.base k x C ps sp) (hr:Room k' X.A) (hg:Gl X x) (ha:PA X (e::es) t)
  (hk:k+1≤k':=by decide) (hdb:(x == ("__debug__":Str))=false:=by decide) (he:starEach (e::es) X.env=(false,eval e X.env)::starEach es X.env:=by rfl) (hpl:(backTo pos (starEach es X.env)).any (·.1)=false:=by rfl) :
  PE X (.Call (.Name x p) (e::es) [] pos) (EJ C sp [] E0 t):=by
 obtain ⟨hm,f,fd,M,G,b⟩:=M.ex;exact RF M G (hr.mono hk) hg hm b .nil zQ ha hdb he hpl
theorem bU {pl:Sem Bool} (M:MeD X.prog X.w X.K X.mg X.base k C m ps sp) (hr:Room k' X.A) (ho:PE X o ta) (ha:PA X (e::es) t) (hk:k≤k':=by decide)
  (hst:starEach (e::es) X.env=(false,eval e X.env)::starEach es X.env:=by rfl) (hpl:(backTo pos (starEach es X.env)).any (·.1)=false:=by rfl)
  (ht:eval (.Call (.Attribute o m apos) (e::es) [] pos) X.env=(do
   let ov ← eval o X.env
   standAt apos.atName
   let (f,first) ← holding [ov] (getMethod ov m pl)
   callWith pos f first (backTo pos (starEach (e::es) X.env)) (backToKw pos (keywordEach [] X.env))):=by rfl) :
  PE X (.Call (.Attribute o m apos) (e::es) [] pos) (lN C m sp [] E0 ta t):=by
 obtain ⟨c,f,fd,M,G,b⟩:=M.ex;exact RE (pl:=pl) ho c M G (hr.mono hk) b .nil zQ ha hst hpl ht
theorem ZB {pl:Sem Bool} (M:MeD X.prog X.w X.K X.mg X.base k C m ps sp) (hr:Room k' X.A) (ho:PE X o ta) (hk:k≤k':=by decide)
  (ht:eval (.Call (.Attribute o m apos) [] [] pos) X.env=(do
   let ov ← eval o X.env
   standAt apos.atName
   let (f,first) ← holding [ov] (getMethod ov m pl)
   callWith pos f first (backTo pos (starEach [] X.env)) (backToKw pos (keywordEach [] X.env))):=by rfl) :
  PE X (.Call (.Attribute o m apos) [] [] pos) (lN C m sp [] E0 ta J4):=by
 obtain ⟨c,f,fd,M,G,b⟩:=M.ex;exact OS (pl:=pl) ho c M G (hr.mono hk) b .nil zQ ht
end
structure ClsM (K:PySem.W.Frag) (C:Addr) (m:Str) (f:Addr):Prop where
 sp:PySem.W.specialIn K (.ref C) "__getattribute__"=some (some (.builtin "type.__getattribute__"))
 rd:PySem.W.readsIn K C (.type "type")=true
 fc:PySem.W.findCls K (.ref C) (.type "type") m=some (.val (.ref f))
 kp:PySem.W.keepIn K (.ref f)=true
structure CmD (P:Program) (w:World) (K:PySem.W.Frag) (mg:Str→Option Value) (base:Heap) (k:Nat) (x:Str) (C:Addr) (m:Str) (ps:List Str) (sp:Sp):Prop where
 ex:mg x=some (.ref C)∧∃(f:Addr) (fd:FuncData),ClsM K C m f∧FnOk P w K mg base jK k f fd ps sp∧Binds K fd ps []
theorem CW {X:Cx} {k k':Nat} {x m:Str} {C:Addr} {ps:List Str} {sp:Sp} {p pos apos:Pos} {e:Expr} {es:List Expr} {t:TA} {pl:Sem Bool} (M:CmD X.prog X.w X.K X.mg X.base k x C m ps sp) (hr:Room k' X.A) (hg:Gl X x) (ha:PA X (e::es) t) (hk:k≤k':=by decide)
  (hdb:(x == ("__debug__":Str))=false:=by decide) (hst:starEach (e::es) X.env=(false,eval e X.env)::starEach es X.env:=by rfl) (hpl:(backTo pos (starEach es X.env)).any (·.1)=false:=by rfl)
  (ht:eval (.Call (.Attribute (.Name x p) m apos) (e::es) [] pos) X.env=(do
   let ov ← eval (.Name x p) X.env
   standAt apos.atName
   let (f,first) ← holding [ov] (getMethod ov m pl)
   callWith pos f first (backTo pos (starEach (e::es) X.env)) (backToKw pos (keywordEach [] X.env))):=by rfl) :
  PE X (.Call (.Attribute (.Name x p) m apos) (e::es) [] pos) (tJ sp [] E0 t):=by
 obtain ⟨hm,f,fd,c,G,b⟩:=M.ex;intro pins s σ H Q I h;refine PySem.W.methodCall_KW (pl:=pl) (jN ((fB (v:=.ref C) hg hm rfl hdb:PE X (.Name x p) (tC (.ref C))) pins s σ H (fun v H1=>v=.ref C∧H1=H) I ⟨rfl,rfl⟩) fun u s1 ⟨v,H1,I1,rv,e1,e2⟩=>?_) ht;subst e1 e2;obtain rfl:u=Value.ref C:=rv;refine PySem.W.method_cls I1.kIn c.sp (PySem.W.cls_value I1.kIn c.rd c.fc rfl ?_);have I2:=I1.tok (s1.toks+1);refine PySem.W.callWith_K (first:=[]) (h₀:=X.base) I.ok.mod.kin c.kp (jN (ha pos pins _ σ H1 _ I2 h) fun us s2 ⟨vs,H2,I3,r,q2⟩=>⟨I3.kIn,?_⟩) hst hpl;exact dD (us:=us) (vs:=vs) G (hr.mono hk) b .nil zQ I3 r q2
section
variable {X:Cx}
theorem L1 {ns:List Int} {its:List Value} (rv:Vals (ns.map V.int) its) {i:Nat} {v:Value} (h:its.toArray[i]?=some v):∃t,v=Value.int (ns.getD i 0) t:=by
 have h':its[i]?=some v:=by simpa using h
 have hi:i<its.length:=(List.getElem?_eq_some_iff.mp h').1;have hn:i<ns.length:=by have:=rv.length;rw [List.length_map] at this;omega
 obtain ⟨u,e,q⟩:=rv.get (x:=V.int (ns.getD i 0)) (i:=i) (by rw [List.getElem?_map,List.getElem?_eq_getElem hn,List.getD_eq_getElem?_getD,List.getElem?_eq_getElem hn];rfl);rw [h'] at e;cases e;exact q
theorem LP (bs:List Bool):(List.range bs.length).all (fun i=>bs.getD i true)=bs.all id:=by
 rw [Bool.eq_iff_iff,List.all_eq_true,List.all_eq_true];constructor
 ·intro h x hx;obtain ⟨i,hi,e⟩:=List.mem_iff_getElem.mp hx;have:=h i (by simpa using hi);rw [List.getD_eq_getElem?_getD,List.getElem?_eq_getElem hi,e] at this;exact this
 ·intro h i hi;have hi':i<bs.length:=by simpa using hi
  rw [List.getD_eq_getElem?_getD,List.getElem?_eq_getElem hi'];exact h _ (List.getElem_mem hi')
theorem pU (hc:X.calm=true):yQ X (.builtin "sum") (fun xs H Q=>∃(p:Addr) (ns:List Int),xs=[.ref p]∧SqL X.K H p (ns.map V.int)∧Q (.int ns.sum) H):=by
 intro pins s σ H xs us Q I r h;obtain ⟨p,ns,rfl,hq,q⟩:=h;obtain ⟨u,rfl,rx⟩:=Q9 r;cases rx;obtain ⟨its,rv,pl,hz⟩:=I.list hq;have hlen:=rv.length;rw [List.length_map] at hlen;have hp:p<s.heap.objs.size:=by obtain ⟨o,n,e,_⟩:=pl;exact Heap.lt_size e
 refine call_sum_walkAnyS (wpAny_pyIter_list pl.isList ?_);refine ⟨s.heap.objs.size,_,_,_,_,_,_,fun i=>ns.getD i 0,rfl,(Walks.list (A:=X.A.in1) (I.ok.hd hc) s.heap.objs.size p (Nat.ne_of_lt hp) its.toArray).toS,⟨⟨_,Heap.get?_push_size _ rfl,rfl,rfl⟩,pl.isList.at fun o e=>Heap.get?_push_of_some _ e⟩,fun b hb=>?_,fun i v h=>L1 rv h,fun s' t' m=>?_⟩
 ·rw [Heap.size_push]
  rcases List.mem_cons.mp hb with e|e
  ·rw [e];exact Nat.lt_succ_self _
  ·have e':b=p:=by simpa using e
   rw [e'];exact Nat.lt_succ_of_lt hp
 ·obtain ⟨hh,g,d,t,os⟩:=s';obtain ⟨m1,m2,m3,m4,m5⟩:=m;have m2':g=s.gens:=m2;have m3':d=s.drawn:=m3;have m4':os=s.os:=m4;subst m2' m3' m4';have e:preSum (fun i=>ns.getD i 0) its.toArray.size=ns.sum:=by rw [preSum_getD,List.size_toArray,← hlen,List.take_length]
  rw [e];refine ⟨.int ns.sum,H,I.kept (t':=t) fun b o e=>m1 b o (fun hb=>?_) (Heap.get?_push_of_some _ e),⟨_,rfl⟩,q⟩;have e':b=s.heap.objs.size:=by simpa using hb
  exact absurd (Heap.lt_size e) (by rw [e'];exact Nat.lt_irrefl _)
end
def uB (p:Addr) (a b c:Int):HO:=.ext fun h=>∃t u v,IsRange h p a b c t u v
section
variable {X:Cx}
theorem MG:yQ X (.type "range") (fun xs H Q=>∃a b c:Int,xs=[.int a,.int b,.int c]∧c≠0∧c.natAbs<1073741824∧∀p,H p=none→Q (.ref p) (upd H p (uB p a b c))):=by
 intro pins s σ H xs us Q I r h;obtain ⟨a,b,c,rfl,hc,hs,q⟩:=h;cases r with
 |cons r1 r2 =>
  cases r2 with
  |cons r3 r4 =>
   cases r4 with
   |cons r5 r6 =>
    cases r6;obtain ⟨t,rfl⟩:=r1;obtain ⟨u,rfl⟩:=r3;obtain ⟨v,rfl⟩:=r5;refine call_range_3 hc ?_ (.inl (PyProof.noPylong_small hs));refine ⟨.ref s.heap.objs.size,_,I.laid (t':=s.toks) (o:=uB s.heap.objs.size a b c) (fun b o e=>Heap.get?_push_of_some _ e) (Nat.le_refl _) ?_,rfl,q _ (I.hok.fresh (Nat.le_refl _))⟩;exact ⟨⟨t,u,v,Heap.get?_push_size _ rfl⟩,⟨_,Heap.get?_push_size _ rfl⟩,fun h1 h2 ⟨t,u,v,e⟩ k=>⟨t,u,v,k _ e⟩⟩
theorem wC {f:Nat→Int}:∀{n:Nat} {acc:List Value},acc.length=n→(∀i v,acc[i]?=some v→∃t,v=Value.int (f i) t)→Vals ((List.range n).map fun (i:Nat)=>V.int (f i)) acc
 |0,acc,hl,h=>by
  cases acc with
  |nil=>exact .nil
  |cons x r=>cases hl
 |n+1,acc,hl,h=>by
  obtain ⟨init,last,rfl⟩:∃init last,acc=init++[last]:=by
   have hne:acc≠[]:=by intro e;rw [e] at hl;cases hl
   exact ⟨acc.dropLast,acc.getLast hne,(List.dropLast_concat_getLast hne).symm⟩
  rw [List.length_append,List.length_singleton] at hl;have hi:init.length=n:=by omega
  rw [List.range_succ,List.map_append];refine Vals.append (wC hi fun i v e=>h i v ?_) (.cons ?_ .nil)
  ·rw [List.getElem?_append_left (List.getElem?_eq_some_iff.mp e).1];exact e
  ·exact h n last (by rw [List.getElem?_append_right (by omega),hi,Nat.sub_self];rfl)
theorem LU (hc:X.calm=true):yQ X (.type "list") (fun xs H Q=>∃(p:Addr) (a b c:Int) (n:Nat),xs=[.ref p]∧H p=some (uB p a b c)∧Builtin.Range.small a b c=true∧Builtin.Range.rangeSize a b c=n∧n≤1000∧
  ∀l,H l=none→Q (.ref l) (upd H l (.lst ((List.range n).map fun (i:Nat)=>V.int (a+(i:Int)*c))))):=by
 intro pins s σ H xs us Q I r h;obtain ⟨p,a,b,c,n,rfl,hp,hsm,hn,hz,q⟩:=h;obtain ⟨u,rfl,rx⟩:=Q9 r;cases rx;obtain ⟨⟨t,u,v,e⟩,_,_⟩:=I.hok p _ hp;refine call_list_range (I.ok.hd hc) e hsm hn (by omega) fun h' tk acc' c' hk hS' hacc=>?_
 have hl:acc'.toList.length=n:=by have:=hacc.1;simpa using this
 refine ⟨.ref s.heap.objs.size,_,I.laid (t':=tk) (o:=.lst ((List.range n).map fun (i:Nat)=>V.int (a+(i:Int)*c))) hk (Nat.le_refl _) ?_,rfl,q _ (I.hok.fresh (Nat.le_refl _))⟩;refine ⟨by rw [List.length_map,List.length_range];exact Nat.le_of_lt (yJ hz),acc'.toList,c',wC hl fun i v e=>hacc.2 i v (by simpa using e),by simpa using hS'⟩
end
def zT (n:Nat):List Nat:=(List.range n).reverse
theorem M7 (n:Nat):((List.range n).map fun (i:Nat)=>V.int (((n:Int) - 1)+(i:Int) * -1))=(zT n).map fun (i:Nat)=>V.int (i:Int):=by
 apply List.ext_getElem?;intro k;unfold zT;rw [List.getElem?_map,List.getElem?_map]
 by_cases hk:k<n
 ·rw [List.getElem?_range hk,List.getElem?_reverse (by simpa using hk),List.length_range,List.getElem?_range (by omega)];show some (V.int ((n:Int) - 1+(k:Int) * -1))=some (V.int ((n - 1 - k:Nat):Int))
  congr 2
  omega
 ·rw [List.getElem?_eq_none (by simp;omega),List.getElem?_eq_none (by simp;omega)];rfl
theorem AH (n:Nat):Builtin.Range.rangeSize ((n:Int) - 1) (-1) (-1)=n:=by
 unfold Builtin.Range.rangeSize;rw [if_neg (by decide)]
 by_cases h:(n:Int) - 1 > -1
 ·rw [if_pos h];have e:((n:Int) - 1 - -1 - 1) / (- (-1:Int))=(n:Int) - 1:=by
   have e1:(-(-1:Int))=1:=rfl;rw [e1,Int.ediv_one];omega
  rw [e];omega
 ·rw [if_neg h];omega
theorem M8 {n:Nat} (h:n≤1000):Builtin.Range.small ((n:Int) - 1) (-1) (-1)=true:=by
 unfold Builtin.Range.small;rw [AH];simp only [Builtin.Range.rangeFitsLong,Bool.and_eq_true,Bool.or_eq_true,decide_eq_true_eq,beq_iff_eq];simp;omega
section
variable {P:Program} {w:World} {H:Hp} {h h':Heap} {a:Addr} {o:HO}
theorem ObjOk.there (x:ObjOk P w H h a o):∃u,h.get? a=some u:=by
 cases o with
 |lst xs=>obtain ⟨_,_,_,_,e⟩:=x;exact ⟨_,e⟩
 |tup xs=>obtain ⟨_,_,_,o,e,_⟩:=x;exact ⟨_,e⟩
 |dK kvs=>obtain ⟨_,_,_,_,o,_,_,e,_⟩:=x;exact ⟨_,e⟩
 |dT kvs=>obtain ⟨_,_,_,_,o,_,_,e,_⟩:=x;exact ⟨_,e⟩
 |set S n=>obtain ⟨o,_,_,_,e,_⟩:=x;exact ⟨_,e⟩
 |ins C dx fs=>obtain ⟨_,_,_,e,_⟩:=x;exact ⟨_,e⟩
 |own y=>obtain ⟨_,e⟩:=x;exact ⟨_,e⟩
 |xd fs=>obtain ⟨_,⟨_,_,_,e,_⟩,_⟩:=x;exact ⟨_,e⟩
 |rng lo hi=>obtain ⟨_,_,_,e⟩:=x;exact ⟨_,e⟩
 |frz ob u=>obtain ⟨e,_⟩:=x;exact ⟨_,e⟩
 |tbl ps=>exact ⟨_,(show h.get? a=some _ from x)⟩
 |met f y=>exact ⟨_,(show h.get? a=some _ from x)⟩
 |ext φ=>obtain ⟨_,e,_⟩:=x;exact e
theorem HOk.there (x:HOk P w H h) (e:H a=some o):∃u,h.get? a=some u:=(x a o e).there
theorem HOk.keepT (x:HOk P w H h) (k:∀b u,H b≠none→h.get? b=some u→h'.get? b=some u):HOk P w H h':=fun a o e =>
 (x a o e).stay (fun b u hb q=>k b u (by
  rcases hb with rfl|hb
  ·rw [e];exact fun z=>nomatch z
  ·rw [hb];exact fun z=>nomatch z) q) (fun _ q=>q) fun _ _ q=>q
end
variable {H:Hp}
theorem Un.go {fs ex:List Addr} {H1:Hp} {h0 h h':Heap} (u:Un fs ex H H1 h0 h) (k:∀b o,h.get? b=some o→b∉fs→b∉ex→(∃o',h0.get? b=some o')→h'.get? b=some o)
  (ks:∀b o,h.get? b=some o→b∈fs→(∃o',h0.get? b=some o')→∃sl,h'.get? b=some {o with slots:=sl}):Un fs ex H H1 h0 h' where
 keep:=fun b o q n hb hx=>k b o (u.keep b o q n hb hx) hb hx ⟨o,q⟩
 slot:=fun b o q n hb hx=>by
  obtain ⟨sl,e⟩:=u.slot b o q n hb hx;obtain ⟨sl',e'⟩:=ks b _ e hb ⟨o,q⟩;exact ⟨sl',e'⟩
 free:=u.free
 there:=fun b o q hx=>by
  obtain ⟨o',e⟩:=u.there b o q hx
  by_cases hb:b∈fs
  ·obtain ⟨sl,e'⟩:=ks b o' e hb ⟨o,q⟩;exact ⟨_,e'⟩
  ·exact ⟨o',k b o' e hb hx ⟨o,q⟩⟩
 tups:=u.tups
 frzs:=u.frzs
 tbls:=u.tbls
def FD (fr:List Env) (Z:Addr→Prop) (h:Heap) (a C:Addr):Prop :=
 ∃(B:Heap) (a0:Value),Heap.FlyingW B fr a (.ref C) a0 h∧∀b o,h.get? b=some o→b∉kN fr→Z b→B.get? b=some o
def vS (P:Program) (w:World):vR:=fun outer H s E e s'=>∃(a C:Addr) (H':Hp),e=.ref a∧s'.os=s.os∧AllBare s'.gens∧Un (kN outer) [] H H' s.heap s'.heap∧HOk P w H' s'.heap∧
 FD outer (fun b=>H' b≠none∨∃o',s.heap.get? b=some o') s'.heap a C∧H' a=none∧s.heap.get? a=none∧E (.ref C) none H'
def EH (X:Cx) (R:St→Value→Hp→Prop):Prop:=∀pins σ H s e h' C vs,Inv X pins σ H s→Heap.MadeExcOf s.heap h' e (.ref C) vs→R σ (.ref C) H→X.xe (.ref e) {s with heap:=h'}
def fK (X:Cx) (R:St→Value→Hp→Prop):Prop:=∀pins σ H s e s',Inv X pins σ H s→vS X.prog X.w X.stack H s (fun c _ H'=>R σ c H') e s'→X.xe e s'
theorem pK {P:Program} {w:World} {K:PySem.W.Frag} {mg:Str→Option Value} {base:Heap} {N:List Str} {qual:Str} {scope:Scope} {f:Addr} {cd:Value} {A:Around} {outer:List Env} {s:Shared} {E:XK} :
  EH (vP (vS P w) P w K mg base N qual scope f cd A outer s H E) (fun _ c H'=>E c none H'):=by
 intro pins σ H1 s1 e h' C vs I hx q;have hin:∀env∈(envOfC qual scope s.heap.objs.size f cd::outer),∀b,env.frame=some b→b∈kN (envOfC qual scope s.heap.objs.size f cd::outer):=fun env he b hb=>List.mem_filterMap.mpr ⟨env,he,hb⟩
 have hst:s1.heap.FunFrames base (envOfC qual scope s.heap.objs.size f cd::outer):=I.stack;have hfrees:∀b∈kN (envOfC qual scope s.heap.objs.size f cd::outer),H1 b=none:=I.stkFree;have hfs:kN (envOfC qual scope s.heap.objs.size f cd::outer)=s.heap.objs.size::kN outer:=rfl;have ub:Un (kN outer) [] H H1 s.heap s1.heap:=I.base;have hno:s1.heap.get? e=none:=hx.new;show wpAny (model P w) (A.deeper (envOfC qual scope s.heap.objs.size f cd)) (leaving (envOfC qual scope s.heap.objs.size f cd) (.ref e)) (fun _ s''=>vS P w outer H s E (.ref e) s'') (fun e' s''=>vS P w outer H s E e' s'') {s1 with heap:=h'};refine wpAny_leaves_madeW (base:=PySem.W.hideAll s1.heap (kN (envOfC qual scope s.heap.objs.size f cd::outer))) I.ok.frames rfl (fun b o q=>PySem.W.of_hideAll _ q) (PySem.W.funFrames_hide hst hin) hx fun h2 t fl _ _ up=>?_
 dsimp only at up
 have keep:∀b o,s1.heap.get? b=some o→b∉kN (envOfC qual scope s.heap.objs.size f cd::outer)→(PySem.W.hideAll s1.heap (kN (envOfC qual scope s.heap.objs.size f cd::outer))).get? b=some o:=fun b o q n=>PySem.W.hideAll_get _ q n
 have old:∀b,(∃o',s.heap.get? b=some o')→b∉kN outer→b∉kN (envOfC qual scope s.heap.objs.size f cd::outer):=fun b ⟨o',q⟩ n z=>by
  rw [hfs] at z
  rcases List.mem_cons.mp z with z|z
  ·exact absurd (Heap.lt_size q) (by rw [z];exact Nat.lt_irrefl _)
  ·exact n z
 have JS:∀b,H1 b≠none→b∉kN (envOfC qual scope s.heap.objs.size f cd::outer):=fun b hb z=>hb (hfrees b z)
 refine ⟨e,C,H1,rfl,I.os,I.bare,ub.go (fun b o q n _ z=>fl.1 b o (keep b o q (old b z n))) (fun b o q n _=>?_),I.hok.keepT fun b u hb q=>fl.1 b u (keep b u q (JS b hb)),?_,?_,?_,q⟩
 ·obtain ⟨_,o',ho',hd⟩:=hst.mem (show b∈kN (envOfC qual scope s.heap.objs.size f cd::outer) from by rw [hfs];exact List.mem_cons_of_mem _ n);rw [q] at ho';cases ho'
  exact up b o (hx.keeps b o q) hd
 ·refine ⟨_,_,fl,fun b o q n z=>?_⟩;have hn:b∉kN (envOfC qual scope s.heap.objs.size f cd::outer):=by
   rcases z with z|z
   ·exact JS b z
   ·exact old b z n
  have h1:∃u,s1.heap.get? b=some u:=by
   rcases z with z|⟨o',z⟩
   ·cases r:H1 b with
    |none=>exact absurd r z
    |some v=>exact I.hok.there r
   ·exact ub.there b o' z (by simp)
  obtain ⟨u,hu⟩:=h1;have hB:=keep b u hu hn;have:=fl.1 b u hB;have q':h2.get? b=some o:=q;rw [q'] at this;cases this;exact hB
 ·cases r:H1 e with
  |none=>rfl
  |some v =>
   obtain ⟨u,hu⟩:=I.hok.there r;rw [hno] at hu;cases hu
 ·cases r:s.heap.get? e with
  |none=>rfl
  |some v =>
   obtain ⟨u,hu⟩:=ub.there e v r (by simp);rw [hno] at hu;cases hu
theorem BT {P:Program} {w:World} {K:PySem.W.Frag} {mg:Str→Option Value} {base:Heap} {N:List Str} {qual:Str} {scope:Scope} {f:Addr} {cd:Value} {A:Around} {outer:List Env} {s:Shared} {E:XK} :
  fK (vP (vS P w) P w K mg base N qual scope f cd A outer s H E) (fun _ c H'=>E c none H'):=by
 intro pins σ H1 s1 e s2 I hx;obtain ⟨a,C,H2,rfl,os,bare,un,hok,⟨B,a0,fl,ground⟩,ha,hs,q⟩:=hx;have fl':Heap.FlyingW B (envOfC qual scope s.heap.objs.size f cd::outer) a (.ref C) a0 s2.heap:=fl;have J:Inv (vP (vS P w) P w K mg base N qual scope f cd A outer s H E) pins σ H2 s2:=I.call' (ch:=[]) os un hok bare fun b z=>absurd z (by simp)
 have ub:Un (kN outer) [] H H2 s.heap s2.heap:=J.base;have hfs:kN (envOfC qual scope s.heap.objs.size f cd::outer)=s.heap.objs.size::kN outer:=rfl;have old:∀b,(∃o',s.heap.get? b=some o')→b∉kN outer→b∉kN (envOfC qual scope s.heap.objs.size f cd::outer):=fun b ⟨o',q⟩ n z=>by
  rw [hfs] at z
  rcases List.mem_cons.mp z with z|z
  ·exact absurd (Heap.lt_size q) (by rw [z];exact Nat.lt_irrefl _)
  ·exact n z
 have JS:∀b,H2 b≠none→b∉kN (envOfC qual scope s.heap.objs.size f cd::outer):=fun b hb z=>hb (J.stkFree b z)
 have u1:Un (kN outer) [] H H1 s.heap s1.heap:=I.base;have in1:∀b,(∃o',s.heap.get? b=some o')→∃o',s1.heap.get? b=some o':=fun b ⟨o',z⟩=>u1.there b o' z (by simp)
 have hst:s2.heap.FunFrames base (envOfC qual scope s.heap.objs.size f cd::outer):=J.stack;show wpAny (model P w) (A.deeper (envOfC qual scope s.heap.objs.size f cd)) (leaving (envOfC qual scope s.heap.objs.size f cd) (.ref a)) (fun _ s''=>vS P w outer H s E (.ref a) s'') (fun e' s''=>vS P w outer H s E e' s'') s2;refine wpAny_leaves_onW J.ok.frames rfl fl' fun h3 fl3 up=>?_
 refine ⟨a,C,H2,rfl,J.os,J.bare,ub.go (fun b o q n _ z=>fl3.1 b o (ground b o q (old b z n) (.inr (in1 b z)))) (fun b o q n _=>?_),J.hok.keepT fun b u hb q=>fl3.1 b u (ground b u q (JS b hb) (.inl hb)),?_,ha,?_,q⟩
 ·obtain ⟨_,o',ho',hd⟩:=hst.mem (show b∈kN (envOfC qual scope s.heap.objs.size f cd::outer) from by rw [hfs];exact List.mem_cons_of_mem _ n);rw [q] at ho';cases ho'
  exact up b o q hd
 ·refine ⟨B,a0,fl3,fun b o q n z=>?_⟩;have hn:b∉kN (envOfC qual scope s.heap.objs.size f cd::outer):=by
   rcases z with z|z
   ·exact JS b z
   ·exact old b z n
  have h1:∃u,s2.heap.get? b=some u:=by
   rcases z with z|⟨o',z⟩
   ·cases r:H2 b with
    |none=>exact absurd r z
    |some v=>exact J.hok.there r
   ·exact ub.there b o' z (by simp)
  obtain ⟨u,hu⟩:=h1;have hB:=ground b u hu hn (by
   rcases z with z|z
   ·exact .inl z
   ·exact .inr (in1 b z))
  have:=fl3.1 b u hB;have q':h3.get? b=some o:=q;rw [q'] at this;cases this;exact hB
 ·cases r:s.heap.get? a with
  |none=>rfl
  |some v =>
   obtain ⟨u,hu⟩:=in1 a ⟨v,r⟩;rw [hs] at hu;cases hu
end L2
namespace L2
open PySem PySem.Spec PyProof.Rows
theorem C7 {K:PySem.W.Frag} {h:Heap} {C:Addr} {bmB:List Value} {newId:String} (X:K.In h) (q:PySem.W.excIn K C bmB newId=true) :
  ∃bm N nm qn bs hdct sn sub ab col dd k0 k1 k2 k3 k5 mN,K.lookup C=some (excClassObj nm qn C N bs bm hdct sn sub ab col dd k0 k1 k2 k3 k5 newId)∧h.get? C=some (excClassObj nm qn C N bs bm hdct sn sub ab col dd k0 k1 k2 k3 k5 newId)∧h.Ns N mN∧mN "__init__"=none∧OwnTail h bmB bm:=by
 unfold PySem.W.excIn at q
 split at q
 ·rename_i dd cd sl ho
  split at q
  ·rename_i C' bm k0 k1 k2 k3 n k5 hm hs;simp only [Bool.and_eq_true,beq_iff_eq,Bool.not_eq_true'] at q;obtain ⟨⟨⟨⟨⟨rfl,rfl⟩,hdel⟩,ht⟩,hok⟩,hni⟩:=q;obtain ⟨nm,bs,mro,ns,qn,hd,sn,sub,ab,col,del⟩:=cd
   dsimp only at hm hdel hok hni
   subst hm hdel;have hsl:sl = #[k0,k1,k2,k3,some (.builtin n),k5]:=by
    obtain ⟨l⟩:=sl;simp only at hs;rw [hs]
   subst hsl;exact ⟨bm,ns,nm,qn,bs,hd,sn,sub,ab,col,dd,k0,k1,k2,k3,k5,_,ho,X _ _ ho,.of_isNs (PySem.W.isNs_of_in X hok),PySem.W.nsMap_none_of_in X hok hni,PySem.W.tail_of_in X ht⟩
  ·cases q
 ·cases q
abbrev U3:List Value:=[.type "ValueError",.type "Exception",.type "BaseException",.type "object"]
def fR (K:PySem.W.Frag) (C:Addr):Prop:=PySem.W.excIn K C U3 "ValueError.__new__"=true
section
variable {X:Cx} {R:St→Value→Hp→Prop} {x:Str} {C:Addr} {np cpos pos p:Pos} {e:Expr} {es:List Expr} {t:TA}
theorem rC (hx:EH X R) (hcalm:X.calm=true) (hg:Gl X x) (hm:X.mg x=some (.ref C)) (hc:fR X.K C) (ha:PA X (e::es) t) (hdb:(x == ("__debug__":Str))=false:=by decide)
  (he:starEach (e::es) X.env=(false,eval e X.env)::starEach es X.env:=by rfl) (hpl:(backTo cpos (starEach es X.env)).any (·.1)=false:=by rfl) :
  PS X (.Raise (some (.Call (.Name x np) (e::es) [] cpos)) none pos) (fun _ σ H=>t σ H fun vs H1=>vs.length≤sizeLine∧R σ (.ref C) H1):=by
 intro pins s σ H D I h;obtain ⟨tl,N,nm,q,bs,hdct,sn,sub,ab,col,dd,k0,k1,k2,k3,k5,mN,_,hC,hN,hni,T⟩:=C7 I.ok.mod.kin hc;refine wpAny_Raise_call_subT (C:=C) (nm:=nm) (q:=q) (N:=N) (bs:=bs) (bm:=tl) (hdct:=hdct) (sn:=sn) (sub:=sub) (ab:=ab) (col:=col) (dd:=dd) (k0:=k0) (k1:=k1) (k2:=k2) (k3:=k3) (k5:=k5)
  PySem.F.excBase_ValueError (mN:=mN) (T.hasType PySem.F.excBase_ValueError.hasBase) (I.ok.hd hcalm) (by rw [he];show (false||(backTo cpos (starEach es X.env)).any (·.1))=false;rw [hpl];rfl) hni (bI I hg hm ⟨rfl,?_⟩ hdb)
 have h1:=ha cpos pins s σ H _ I h;rw [he] at h1 ⊢;refine Calls.evalArgs_plain (wpAny_mono h1 (fun us s2 ⟨vs,H2,I2,r2,hl,q2⟩=>⟨rfl,by rw [← r2.length];exact hl,I2.bk _ _ hC,hN.keeps I2.bk,T.keeps I2.bk,fun h' a hm=>hx pins σ H2 s2 a h' C us I2 hm q2⟩) fun _ _ y=>y)
def SG (sp:Sp) (dvs:List V) (R:St→Value→Hp→Prop) (t:TA):TE:=fun σ H Q=>t σ H fun vs H1=>sp (vs++dvs) H1 Q (fun c _ H'=>R σ c H')
theorem P8 {k:Nat} {f:Addr} {fd:FuncData} {ps:List Str} {sp:Sp} {dvs:List V} {ds:List Value} {pins:List (Addr×Obj)} {σ:St} {H:Hp} {s:Shared} {Q:VK} {us:List Value} {vs:List V} (F:FnOk X.prog X.w X.K X.mg X.base (vS X.prog X.w) k f fd ps sp) (hr:Room k X.A) (hb:Binds X.K fd ps ds) (hd:Vals dvs ds) (hx:fK X R)
  (I:Inv X pins σ H s) (r:Vals vs us) (h:sp (vs++dvs) H Q (fun c _ H'=>R σ c H')):wpAny (model X.prog X.w) X.A (call (.ref f) us) (EP X pins σ Q) X.xe s:=by
 have r2:Vals (vs++dvs) (us++ds):=r.append hd;have hl:(us++ds).length=ps.length:=by rw [← r2.length];exact F.len _ _ _ _ h
 refine wpAny_call (codeAny_mono (F.run X.A X.stack s H ⟨us,[]⟩ (us++ds) (vs++dvs) Q _ hr I.env0 (hb s us I.kIn hl) r2 h) fun r s' hq=>?_);cases r with
 |error e=>exact hx pins σ H s e s' I hq
 |ok fl =>
  cases fl with
  |ret u=>exact I.after hq
  |next=>exact False.elim hq
  |brk=>exact False.elim hq
  |cont=>exact False.elim hq
end
structure DefX (P:Program) (w:World) (K:PySem.W.Frag) (mg:Str→Option Value) (base:Heap) (k:Nat) (x:Str) (ps:List Str) (dvs:List V) (sp:Sp):Prop where
 ex:∃(f:Addr) (fd:FuncData) (ds:List Value),FnOk P w K mg base (vS P w) k f fd ps sp∧mg x=some (.ref f)∧PySem.W.keepIn K (.ref f)=true∧Vals dvs ds∧Binds K fd ps ds
variable {X:Cx} {R:St→Value→Hp→Prop}
theorem rV {k k':Nat} {x:Str} {ps:List Str} {dvs:List V} {sp:Sp} {p pos:Pos} {e:Expr} {es:List Expr} {t:TA} (F:DefX X.prog X.w X.K X.mg X.base k x ps dvs sp) (hx:fK X R) (hr:Room k' X.A) (hg:Gl X x) (ha:PA X (e::es) t)
  (hk:k≤k':=by decide) (hdb:(x == ("__debug__":Str))=false:=by decide) (he:starEach (e::es) X.env=(false,eval e X.env)::starEach es X.env:=by rfl) (hpl:(backTo pos (starEach es X.env)).any (·.1)=false:=by rfl) :
  PE X (.Call (.Name x p) (e::es) [] pos) (SG sp dvs R t):=by
 obtain ⟨f,fd,ds,G,m,kp,hv,b⟩:=F.ex;intro pins s σ H Q I h;refine wpAny_Call_Name_kw (bI I hg m ?_ hdb);refine PySem.W.callWith_K (h₀:=X.base) I.ok.mod.kin kp (jN (ha pos pins s σ H _ I h) fun us s1 ⟨vs,H1,I1,r,q⟩=>⟨I1.kIn,?_⟩) he hpl;exact P8 G (hr.mono hk) b hv hx I1 r q
def UK (X:Cx) (pins:List (Addr×Obj)) (a:Addr):Prop:=X.s₀.heap.get? a=none∧a≠X.env.locals∧(∀x c,X.env.cells.lookup x=some c→c≠a)∧∀p∈X.pn++pins,p.1≠a
def ZS (X:Cx) (pins:List (Addr×Obj)) (R:St→Value→Hp→Prop):Cx:={X with
 pn:=X.pn++pins
 xe:=fun e s'=>∃(a C:Addr) (σ':St) (H':Hp),e=.ref a∧Inv X pins σ' H' s'∧FD X.stack (fun b=>H' b≠none∨(∃o,X.s₀.heap.get? b=some o)∨∃p∈X.pn++pins,p.1=b) s'.heap a C∧H' a=none∧UK X pins a∧R σ' (.ref C) H'}
theorem Cx.Ok.intoTry {pins:List (Addr×Obj)} (ok:X.Ok):(ZS X pins R).Ok :=
 ⟨ok.mod,ok.kind,ok.glob,ok.blt,ok.above,ok.inj,ok.has,ok.cab,ok.hd,ok.frames,ok.stk,ok.exf,ok.bs,ok.bsz,ok.noex,ok.exfs,ok.funs,ok.frf⟩
theorem Cx.Ok.outTry {pins:List (Addr×Obj)} (ok:(ZS X pins R).Ok):X.Ok :=
 ⟨ok.mod,ok.kind,ok.glob,ok.blt,ok.above,ok.inj,ok.has,ok.cab,ok.hd,ok.frames,ok.stk,ok.exf,ok.bs,ok.bsz,ok.noex,ok.exfs,ok.funs,ok.frf⟩
section
variable {X:Cx} {pins pins':List (Addr×Obj)} {σ:St} {H:Hp} {s:Shared} {R:St→Value→Hp→Prop}
theorem Inv.intoTry (I:Inv X pins σ H s):Inv (ZS X pins R) [] σ H s :=
 ⟨I.ok.intoTry,I.os,I.bare,I.base,I.loc,I.cell,I.free,I.freeC,fun p hp=>I.pin p (by have hp':p∈(X.pn++pins)++[]:=hp;rw [List.append_nil] at hp';exact hp'),I.hok,I.len⟩
theorem Inv.outTry (I:Inv (ZS X pins R) pins' σ H s):Inv X pins σ H s :=
 ⟨I.ok.outTry,I.os,I.bare,I.base,I.loc,I.cell,I.free,I.freeC,fun p hp=>I.pin p (List.mem_append_left _ hp),I.hok,I.len⟩
theorem SP.outTry {D:Ends} {f:Flow} {s':Shared} (h:SP (ZS X pins R) [] D f s'):SP X pins D f s':=by
 cases f with
 |next=>obtain ⟨σ',H',I,q⟩:=h;exact ⟨σ',H',I.outTry,q⟩
 |brk=>obtain ⟨σ',H',I,q⟩:=h;exact ⟨σ',H',I.outTry,q⟩
 |cont=>obtain ⟨σ',H',I,q⟩:=h;exact ⟨σ',H',I.outTry,q⟩
 |ret u=>obtain ⟨v,σ',H',I,r,q⟩:=h;exact ⟨v,σ',H',I.outTry,r,q⟩
theorem N6 (hex:X.ex=[]):fK (ZS X pins R) R:=by
 intro pins' σ H1 s1 e s2 I hx;obtain ⟨a,C,H2,rfl,os,bare,un,hok,⟨B,a0,fl,ground⟩,ha,hs,q⟩:=hx;have I0:Inv X pins σ H1 s1:=I.outTry;have J:Inv X pins σ H2 s2:=I0.call' (ch:=[]) os un hok bare fun b z=>absurd z (by simp)
 refine ⟨a,C,σ,H2,rfl,J,⟨B,a0,fl,fun b o q n z=>ground b o q n ?_⟩,ha,⟨?_,fun z=>?_,fun x c e z=>?_,fun p hp z=>?_⟩,q⟩
 ·rcases z with z|⟨o',z⟩|⟨p,hp,rfl⟩
  ·exact .inl z
  ·exact .inr (I0.base.there b o' z (by rw [hex];simp))
  ·exact .inr ⟨_,(I0.pin p hp).1⟩
 ·cases r:X.s₀.heap.get? a with
  |none=>rfl
  |some v =>
   obtain ⟨u,hu⟩:=I0.base.there a v r (by rw [hex];simp);rw [hs] at hu;cases hu
 ·obtain ⟨m,⟨o,_,_,ho,_⟩,_⟩:=I0.loc;rw [← z,hs] at ho;cases ho
 ·obtain ⟨v,o,ho,_⟩:=I0.cell x c e;rw [z,hs] at ho;cases ho
 ·have ho:=(I0.pin p hp).1;rw [z,hs] at ho;cases ho
theorem Inv.fly {h':Heap} (I:Inv X pins σ H s) (hstk:X.stack=X.env::X.outer) (hf:X.env.frame=some X.env.locals)
  (k:∀b o,s.heap.get? b=some o→b∉kN X.stack→(H b≠none∨(∃o,X.s₀.heap.get? b=some o)∨∃p∈X.pn++pins,p.1=b)→h'.get? b=some o) (up:s.heap.UpToSlots h'):Inv X pins σ H {s with heap:=h'}:=by
 have hfs:kN X.stack=X.env.locals::X.fs:=by rw [hstk];unfold kN;rw [List.filterMap_cons,hf];rfl
 have cellK:∀c v,s.heap.IsCell c v→h'.IsCell c v:=fun c v ⟨o,ho,hd⟩=>by
  obtain ⟨sl,e⟩:=up c o ho (fun vs q=>by rw [hd] at q;cases q);exact ⟨_,e,hd⟩
 have JS:∀b,H b≠none→b∉kN X.stack:=fun b hb z=>hb (I.stkFree b z)
 refine ⟨I.ok,I.os,I.bare,I.base.go (fun b o q n _ z=>k b o q (fun m=>?_) (.inr (.inl z))) (fun b o q n z=>?_),?_,fun x c e=>?_,I.free,I.freeC,fun p hp=>?_,I.hok.keepT fun b u hb q=>k b u q (JS b hb) (.inl hb),I.len⟩
 ·rw [hfs] at m
  rcases List.mem_cons.mp m with m|m
  ·obtain ⟨o',z⟩:=z;exact absurd (Nat.lt_of_lt_of_le (Heap.lt_size z) I.ok.above) (by rw [m];exact Nat.lt_irrefl _)
  ·exact n m
 ·obtain ⟨_,o',ho',hd⟩:=I.stack.mem (show b∈kN X.stack from by rw [hfs];exact List.mem_cons_of_mem _ n);rw [q] at ho';cases ho'
  exact up b o q hd
 ·obtain ⟨m,hn,hl⟩:=I.loc;refine ⟨m,up.ns hn,fun i x v h1 h2 h3=>?_⟩;obtain ⟨u,r,l⟩:=hl i x v h1 h2 h3;refine ⟨u,r,?_⟩
  rcases l with l|⟨l1,c,l2,l3⟩
  ·exact .inl l
  ·exact .inr ⟨l1,c,l2,cellK c _ l3⟩
 ·obtain ⟨v,q⟩:=I.cell x c e;exact ⟨v,cellK c v q⟩
 ·obtain ⟨h1,h2,h3,h4,h5⟩:=I.pin p hp;refine ⟨k p.1 p.2 h1 (fun m=>?_) (.inr (.inr ⟨p,hp,rfl⟩)),h2,h3,h4,h5⟩;rw [hfs] at m
  rcases List.mem_cons.mp m with m|m
  ·exact h3 m
  ·exact h4 m
end
def iY (X:Cx) (e:Value):Cx:={X with A:=X.A.mark (some e),calm:=false,xe:=fun _ _=>False}
section
variable {X:Cx} {pins:List (Addr×Obj)} {σ:St} {H:Hp} {s:Shared} {e:Value}
theorem Inv.intoSuite (I:Inv X pins σ H s) (e:Value):Inv (iY X e) pins σ H s :=
 ⟨⟨I.ok.mod,I.ok.kind,I.ok.glob,I.ok.blt,I.ok.above,I.ok.inj,I.ok.has,I.ok.cab,fun z=>absurd (show false=true from z) (by decide),I.ok.frames,I.ok.stk,I.ok.exf,I.ok.bs,I.ok.bsz,I.ok.noex,I.ok.exfs,I.ok.funs,I.ok.frf⟩,I.os,I.bare,I.base,I.loc,I.cell,I.free,I.freeC,I.pin,I.hok,I.len⟩
theorem Inv.outSuite (ok:X.Ok) (I:Inv (iY X e) pins σ H s):Inv X pins σ H s:=⟨ok,I.os,I.bare,I.base,I.loc,I.cell,I.free,I.freeC,I.pin,I.hok,I.len⟩
theorem SP.outSuite (ok:X.Ok) {D:Ends} {f:Flow} {s':Shared} (h:SP (iY X e) pins D f s'):SP X pins D f s':=by
 cases f with
 |next=>obtain ⟨σ',H',I,q⟩:=h;exact ⟨σ',H',I.outSuite ok,q⟩
 |brk=>obtain ⟨σ',H',I,q⟩:=h;exact ⟨σ',H',I.outSuite ok,q⟩
 |cont=>obtain ⟨σ',H',I,q⟩:=h;exact ⟨σ',H',I.outSuite ok,q⟩
 |ret u=>obtain ⟨v,σ',H',I,r,q⟩:=h;exact ⟨v,σ',H',I.outSuite ok,r,q⟩
end
def UM (C:Addr) (tb:(St→Value→Hp→Prop)→TS) (ts:TS):TS:=fun D σ H=>∃R:St→Value→Hp→Prop,tb R D σ H∧∀σ' c H',R σ' c H'→c=.ref C∧ts D σ' H'
theorem SN {body:List Stmt} {x:Str} {C:Addr} {np hpos pos:Pos} {b₀:Stmt} {suite:List Stmt} {tb:(St→Value→Hp→Prop)→TS} {ts:TS} (hex:X.ex=[]) (hstk:X.stack=X.env::X.outer) (hf:X.env.frame=some X.env.locals)
  (hg:Gl X x) (hm:X.mg x=some (.ref C)) (hc:fR X.K C) (hb:∀pins R,fK (ZS X pins R) R→PSs (ZS X pins R) body (tb R)) (hs:∀e,PSs (iY X e) (b₀::suite) ts) (hdb:(x == ("__debug__":Str))=false:=by decide) :
  PS X (.Try body [.ExceptHandler (some (.Name x np)) none (b₀::suite) hpos] [] [] pos) (UM C tb ts):=by
 intro pins s σ H D I h;obtain ⟨R,h1,h2⟩:=h;refine wpAny_Try_except (wpAny_mono (hb pins R (N6 hex) [] s σ H D I.intoTry h1) (fun f s1 q=>?_) (fun v s1 q=>?_))
 ·have q':=q.outTry;cases f with
  |next=>exact wpAny_execs_nil q'
  |brk=>exact q'
  |cont=>exact q'
  |ret u=>exact q'
 ·obtain ⟨a,C',σ',H',rfl,J,⟨B,a0,fl,ground⟩,ha,_,r⟩:=q;obtain ⟨e1,h3⟩:=h2 σ' (.ref C') H' r;cases e1;have fl0:Heap.FlyingW B (X.env::X.outer) a (.ref C) a0 s1.heap:=by rw [hstk] at fl;exact fl
  have hfr:X.A.frames=some (X.env::X.outer):=by rw [← hstk];exact J.ok.frames
  refine wpAny_looks_onW hfr hf fl0 fun h4 held4 up4=>?_
  refine wpAny_landsW held4 fun h5 fl5 up5=>?_
  have J5:Inv X pins σ' H' {s1 with heap:=h5}:=J.fly hstk hf (fun b o q n z=>fl5.1 b o (ground b o q n z)) (up4.trans up5);obtain ⟨ob,hob,hobc⟩:=fl5.there;obtain ⟨tl,N,nm,q,bs,hdct,sn,sub,ab,col,dd,k0,k1,k2,k3,k5,mN,_,hC,hN,hni,T⟩:=C7 J5.ok.mod.kin hc;refine wpAny_handleBy_cons (codeAny_handlers_test (bI (J5.intoSuite (.ref a)) hg hm ?_ hdb)) (by intro q;cases q);obtain ⟨hh,g,d,tk,os⟩:=s1;refine wpAny_excMatches_sub_self (J5.bk _ _ hC) hob hobc (T.hasType PySem.F.excBase_ValueError.hasBase) (codeAny_handlers_suite ?_);refine lands_againW fl5 fun h6 fl6 up6=>?_
  have J6:Inv X pins σ' H' {heap:=h6,gens:=g,drawn:=d,toks:=tk,os:=os}:=J.fly hstk hf (fun b o q n z=>fl6.1 b o (ground b o q n z)) ((up4.trans up5).trans up6);exact wpAny_mono (hs (.ref a) pins _ σ' H' D (J6.intoSuite _) h3) (fun f s' q=>q.outSuite J6.ok) fun _ _ z=>False.elim z
end L2
namespace L2
open PySem PySem.Spec PyProof.Rows
section
variable {P:Program} {w:World} {K:PySem.W.Frag} {mg:Str→Option Value} {base:Heap}
theorem Fun.okX {x qual:Str} {st:Stmt} {f:Addr} {fd:FuncData} {N ps:List Str} {k:Nat} {sp:Sp} (F:Fun K x qual st f fd) (S:FnScope N ps (jM st)) (len:∀vs H Q E,sp vs H Q E→vs.length=ps.length)
  (hbody:∀(cdv:Value) (A:Around) (outer:List Env) (s:Shared) (H:Hp) (vs:List V) (Q:VK) (E:XK),Room k (A.deeper (envOfC qual (jM st) s.heap.objs.size f cdv))→sp vs H Q E→
   ∃t,PSs (vP (vS P w) P w K mg base N qual (jM st) f cdv A outer s H E) (kC st) t∧t {nx:=fun _ H'=>Q .non H',rt:=Q} (start N vs) H):FnOk P w K mg base (vS P w) (k+1) f fd ps sp:=by
 obtain ⟨oc,od,kV,doc,pm,an,cdv,ct,osl,rfl,lk,hcd⟩:=F.ex;exact lV lk hcd S len fun A outer s H vs Q E hr hsp=>hbody cdv A outer s H vs Q E hr hsp
theorem FnOk.noX {k:Nat} {f:Addr} {fd:FuncData} {ps:List Str} {sp sp':Sp} (F:FnOk P w K mg base (vS P w) k f fd ps sp) (h:∀vs H Q E,sp' vs H Q E→sp vs H Q (fun _ _ _=>False)):FnOk P w K mg base jK k f fd ps sp' :=
 ⟨fun vs H Q E q=>F.len vs H Q _ (h _ _ _ _ q),fun A outer s H args us vs Q E hr he hb hv hs=>codeAny_mono (F.run A outer s H args us vs Q _ hr he hb hv (h _ _ _ _ hs)) fun r s' hq=>by
  cases r with
  |ok fl=>cases fl<;>exact hq
  |error e=>obtain ⟨_,_,_,_,_,_,_,_,_,_,_,z⟩:=hq;exact z⟩
end
section
variable {X:Cx}
end
section
variable {X:Cx} {pins:List (Addr×Obj)} {σ:St} {H:Hp} {s:Shared}
end
end L2
namespace L2
open PySem PySem.Spec PySem.Calls PyProof.Rows PySem.W
section
variable {prog:Program} {w:World} {A:Around} {E:Value→Shared→Prop} {h:Heap} {g:Array GenState} {d:Drawn} {t:Nat} {os:OsState} {a C:Addr} {o:Obj} {K:PySem.W.Frag}
end
section
variable {X:Cx}
end
end L2
namespace L2
open PySem PySem.Spec PyProof.Rows
section
variable {X:Cx} {x:Str} {C:Addr} {pos p:Pos} {e:Expr} {es:List Expr} {t:TA}
end
section
variable {X:Cx}
end
section
variable {X:Cx} {R:St→Value→Hp→Prop} {k k':Nat} {x m:Str} {C:Addr} {ps:List Str} {sp:Sp} {p pos apos:Pos} {o e:Expr} {es:List Expr} {ta:TE} {t:TA}
theorem DW {CX:vR} {P:Program} {w:World} {K:PySem.W.Frag} {mg:Str→Option Value} {base:Heap} {N:List Str} {qual:Str} {scope:Scope} {f:Addr} {cd:Value} {A:Around} {outer:List Env} {s:Shared} {H:Hp} {E:XK} :
  PassesOwn (model (vP CX P w K mg base N qual scope f cd A outer s H E).prog (vP CX P w K mg base N qual scope f cd A outer s H E).w) (vP CX P w K mg base N qual scope f cd A outer s H E).A (vP CX P w K mg base N qual scope f cd A outer s H E).env (vP CX P w K mg base N qual scope f cd A outer s H E).xe:=by
 intro e s' h;exact PassesOwn.leaving (Q₁:=fun e s''=>CX outer H s E e s'') (E₁:=fun e' s''=>CX outer H s E e' s'') e s' h
end
section
variable {κ:Type} [DecidableEq κ]
def v5 (kvs:List (κ×V)) (k:κ):Option V:=(kvs.find? fun kv=>decide (kv.1=k)).map (·.2)
def zU (kvs:List (κ×V)) (k:κ) (v:V):List (κ×V) :=
 if (kvs.any fun kv=>decide (kv.1=k))=true then kvs.map (fun kv=>if kv.1=k then (kv.1,v) else kv) else kvs++[(k,v)]
theorem valV_nil {k:κ}:v5 ([]:List (κ×V)) k=none:=rfl
theorem bE {p:κ×V} {r:List (κ×V)} {k:κ} (e:p.1=k):v5 (p::r) k=some p.2:=by simp [v5,List.find?_cons,e]
theorem zD {p:κ×V} {r:List (κ×V)} {k:κ} (e:¬p.1=k):v5 (p::r) k=v5 r k:=by simp [v5,List.find?_cons,e]
theorem AU (k:κ):∀kvs:List (κ×V),(kvs.any fun kv=>decide (kv.1=k))=(v5 kvs k).isSome
 |[]=>rfl
 |p::r=>by
  rw [List.any_cons]
  by_cases e:p.1=k
  ·simp only [bE e,decide_eq_true e,Bool.true_or,Option.isSome_some]
  ·rw [zD e,decide_eq_false e,Bool.false_or];exact AU k r
theorem MD (kvs:List (κ×V)) (k:κ) (v:V):(zU kvs k v).length≤kvs.length+1:=by
 unfold zU
 split
 ·rw [List.length_map];omega
 ·rw [List.length_append,List.length_cons,List.length_nil];omega
theorem iS {kvs:List (κ×V)} {k:κ} (v:V) (h:v5 kvs k=none):zU kvs k v=kvs++[(k,v)]:=by
 unfold zU;rw [AU,h];exact if_neg (by decide)
theorem KV.val {kvs:List (κ×V)} {vs:List (κ×Value)} (r:KV kvs vs) (k:κ):RelO (v5 kvs k) (valueAt vs k):=by
 unfold KV at r
 induction r with
 |nil=>exact True.intro
 |@cons p q ps qs h t ih =>
  obtain ⟨h1,h2⟩:=h
  by_cases e:p.1=k
  ·have e':q.1=k:=h1.symm.trans e;have b:valueAt (q::qs) k=some q.2:=by simp [valueAt,List.find?_cons,e']
   rw [bE e,b];exact h2
  ·have e':¬q.1=k:=fun z=>e (h1.trans z)
   have b:valueAt (q::qs) k=valueAt qs k:=by simp [valueAt,List.find?_cons,e']
   rw [zD e,b];exact ih
theorem KV.any {kvs:List (κ×V)} {vs:List (κ×Value)} (r:KV kvs vs) (k:κ):(kvs.any fun kv=>decide (kv.1=k))=vs.any fun kv=>decide (kv.1=k):=by
 unfold KV at r
 induction r with
 |nil=>rfl
 |cons h t ih=>rw [List.any_cons,List.any_cons,ih,h.1]
theorem KV.repl {kvs:List (κ×V)} {vs:List (κ×Value)} (r:KV kvs vs) (k:κ) {y:V} {u:Value} (ry:RelV y u) :
  KV (kvs.map fun kv=>if kv.1=k then (kv.1,y) else kv) (vs.map fun kv=>if kv.1=k then (kv.1,u) else kv):=by
 unfold KV at r ⊢
 induction r with
 |nil=>exact .nil
 |@cons p q ps qs h t ih =>
  rw [List.map_cons,List.map_cons];refine .cons ?_ ih;obtain ⟨h1,h2⟩:=h
  by_cases e:p.1=k
  ·rw [if_pos e,if_pos (h1.symm.trans e)];exact ⟨h1,ry⟩
  ·rw [if_neg e,if_neg (fun z=>e (h1.trans z))];exact ⟨h1,h2⟩
theorem KV.put {kvs:List (κ×V)} {vs:List (κ×Value)} (r:KV kvs vs) (k:κ) {y:V} {u:Value} (ry:RelV y u):KV (zU kvs k y) (stored vs k u):=by
 unfold zU stored;rw [r.any k]
 by_cases e:(vs.any fun kv=>decide (kv.1=k))=true
 ·rw [if_pos e,if_pos e];exact r.repl k ry
 ·rw [if_neg e,if_neg e];exact Paired.snoc r ⟨rfl,ry⟩
end
variable {w:World}
theorem tO {P:Program} {k:kD} {u:Value} (r:RelV (kV k) u):(zF P w).is k u=true:=by
 cases k with
 |inl i=>obtain ⟨t,e⟩:=(show ∃t,u=Value.int i t from r);subst e;exact MA P w i t
 |inr x=>obtain ⟨t,e⟩:=(show ∃t,u=Value.str x t from r);subst e;exact L9 P w x t
theorem AA {P:Program} {w:World}:∀{ks:List kD} {us:List Value},Vals (ks.map kV) us→ItemsAre (zF P w) ks us
 |[],_,r=>by rw [List.map_nil] at r;cases r;exact .nil
 |k::ks,_,r=>by
  rw [List.map_cons] at r;cases r with
  |cons h t=>exact .cons (tO h) (AA t)
abbrev KT (H:Hp):List (List kD×V)→List (List kD×Addr×Value)→Prop:=Paired fun p q=>p.1=q.1∧H q.2.1=some (.tup (p.1.map kV))∧RelV p.2 q.2.2
variable {H:Hp}
theorem KT.val {kvs:List (List kD×V)} {xs:List (List kD×Addr×Value)} (r:KT H kvs xs) (k:List kD):RelO (v5 kvs k) ((atKey xs k).map (·.2)):=by
 induction r with
 |nil=>exact True.intro
 |@cons p q ps qs h t ih =>
  obtain ⟨h1,_,h2⟩:=h
  by_cases e:p.1=k
  ·have e':q.1=k:=h1.symm.trans e;have b:atKey (q::qs) k=some q.2:=by simp [atKey,List.find?_cons,e']
   rw [bE e,b];exact h2
  ·have e':¬q.1=k:=fun z=>e (h1.trans z)
   have b:atKey (q::qs) k=atKey qs k:=by simp [atKey,List.find?_cons,e']
   rw [zD e,b];exact ih
section
variable {P:Program} {w:World} {H:Hp} {h:Heap} {a:Addr}
theorem EL {u:HO} (ok:HOk P w H h) (e:Rd H a u):ObjOk P w H h a u:=e.ok ok
theorem tQ {kvs:List (kD×V)} (ok:HOk P w H h) (e:Rd H a (.dK kvs)):kvs.length≤sizeLine∧(a == sysModules)=false∧∃vs,KV kvs vs∧h.DictOf (zF P w) a vs :=
 show ObjOk P w H h a (.dK kvs) from EL ok e
theorem UH {kvs:List (kD×V)} (ok:HOk P w H h) (e:H a=some (.dK kvs)):kvs.length≤sizeLine∧(a == sysModules)=false∧∃vs,KV kvs vs∧h.DictOf (zF P w) a vs:=tQ ok (.inl e)
theorem D8 {ks:List kD} (ok:HOk P w H h) (e:H a=some (.tup (ks.map kV))):(tupleKind (zF P w)).is h ks a:=by
 obtain ⟨_,its,r,o,h1,h2,n,h3⟩:=(show ObjOk P w H h a (.tup (ks.map kV)) from ok a _ e);exact ⟨o,its.toArray,n,h1,h2,h3,by simpa using AA r⟩
theorem ES {kvs:List (List kD×V)} (ok:HOk P w H h) (e:Rd H a (.dT kvs)):kvs.length≤sizeLine∧(a == sysModules)=false∧
  ∃xs,KT H kvs xs∧h.DictOfH (tupleKind (zF P w)) a xs:=by
 obtain ⟨z,y,xs,r,o,es,ep,h1,h2,h3,h4,h5⟩:=(show ObjOk P w H h a (.dT kvs) from EL ok e);refine ⟨z,y,xs,r,o,es,ep,h1,h2,h3,h4,fun x hx=>?_,h5⟩;have all:∀{l:List (List kD×V)} {m:List (List kD×Addr×Value)},KT H l m→∀x∈m,(tupleKind (zF P w)).is h x.1 x.2.1:=by
  intro l m q
  induction q with
  |nil=>intro x hx;exact nomatch hx
  |@cons p q ps qs hq t ih =>
   intro x hx
   rcases List.mem_cons.mp hx with e|hx
   ·subst e;exact D8 ok (by rw [← hq.1];exact hq.2.1)
   ·exact ih x hx
 exact all r x hx
end
def DGet (H:Hp) (a:Addr) (y:V) (r:Option V):Prop :=
 (∃kvs k,Rd H a (.dK kvs)∧y=kV k∧r=v5 kvs k)∨∃kvs k b,Rd H a (.dT kvs)∧y=.ref b∧H b=some (.tup (k.map kV))∧r=v5 kvs k
theorem DGet.k {a:Addr} {kvs:List (kD×V)} {k:kD} (e:H a=some (.dK kvs)):DGet H a (kV k) (v5 kvs k):=.inl ⟨kvs,k,.inl e,rfl,rfl⟩
section
variable {X:Cx} {pins:List (Addr×Obj)} {σ:St} {H:Hp} {s:Shared} {a:Addr} {y v:V} {u r:Value} {o:Option V} {A:Around} {E:Value→Shared→Prop}
theorem Inv.big (I:Inv X pins σ H s):sysModules<s.heap.objs.size:=by
 have h:mainGlobals<s.heap.objs.size:=(I.mod.glob.keeps I.bk).lt;exact Nat.lt_trans (by decide) h
theorem OD {Q:Value→Shared→Prop} (hu:A.units+1<cLine) (I:Inv X pins σ H s) (g:DGet H a y (some v)) (ry:RelV y u) (h:∀w' s',Inv X pins σ H s'→RelV v w'→Q w' s') :
  wpAny (model X.prog X.w) A (getItem (.ref a) u) Q E s:=by
 rcases g with ⟨kvs,k,e,ey,l⟩|⟨kvs,k,b,e,ey,eb,l⟩
 ·subst ey;obtain ⟨z,hd,vs,rel,dd⟩:=tQ I.hok e;obtain ⟨w',hw,rw'⟩:=RelO.some_of (v:=v) (o:=valueAt vs k) (by rw [l];exact rel.val k);exact wpAny_getItem_of (tO ry) dd.mapOf hw (h w' _ (I.tok _) rw')
 ·subst ey;cases (show u=Value.ref b from ry);obtain ⟨z,hd,xs,rel,dd⟩:=ES I.hok e;obtain ⟨w',hw,rw'⟩:=RelO.some_of (v:=v) (o:=(atKey xs k).map (·.2)) (by rw [l];exact rel.val k);obtain ⟨p,hp,hp2⟩:=Option.map_eq_some_iff.mp hw;refine wpAny_getItem_heap (tupleKind_room_in1 hu) (D8 I.hok eb) dd hp ?_;rw [hp2];exact h w' _ (I.tok _) rw'
theorem sH {h':Heap} {t':Nat} {ob:HO} (I:Inv X pins σ H s) (mu:f7 (H a)) (hs:Heap.SameBut a s.heap h') (he:∃q,h'.get? a=some q) (new:ObjOk X.prog X.w (upd H a ob) h' a ob) :
  Inv X pins σ (upd H a ob) {s with heap:=h',toks:=t'} :=
 I.write (x:=a) (e:=a) mu (.inl rfl) (fun b q hb z=>(hs.2 b hb).trans z) he new
theorem TC {P:Program} {w:World} {H':Hp} {h':Heap} {kvs:List (kD×V)} {vs:List (kD×Value)} (z:kvs.length≤sizeLine) (hd:(a == sysModules)=false) (rel:KV kvs vs) (dd:h'.DictOf (zF P w) a vs) :
  ObjOk P w H' h' a (.dK kvs):=⟨z,hd,vs,rel,dd⟩
end
section
variable {X:Cx} {pins:List (Addr×Obj)} {σ:St} {H:Hp} {s:Shared} {a:Addr} {kvs:List (kD×V)} {k:kD} {u:Value} {A:Around} {E:Value→Shared→Prop}
end
def uD (i:Expr):Prop:=∀ov iv,subscripted i false ov iv=operate [ov,iv] (getItem ov iv)
variable {pos:Pos}
theorem B8 {prog:Program} {A:Around} {E:Value→Shared→Prop} {s:Shared} {env:Env} {value slice:Expr} {T id:String} {Q:Value→Shared→Prop}
  (hl:typeLookup (.type T) "__getitem__"=pure (some (.builtin id))) (hs:uD slice)
  (h:wpAny (model prog w) A (eval value env) (fun o s₁=>wpAny (model prog w) A (eval slice env) (fun i s₂=>s₂.TypeIs o T∧wpAny (model prog w) A (getItem o i) Q E s₂) E s₁) E s) :
  wpAny (model prog w) A (eval (.Subscript value slice pos) env) Q E s:=by
 refine Subscript_ (wpAny_mono h (fun o s₁ h₁=>wpAny_mono h₁ (fun i s₂ h₂=>?_) fun _ _ x=>x) fun _ _ x=>x);obtain ⟨hT,h₂⟩:=h₂;unfold subscriptTail;refine wpAny_bind ?_;rw [getitemInPython_of_ne hT.not_modules];refine wpAny_bind (wpAny_specialOf hT hl ?_);have fin:wpAny (model prog w) A (subscripted slice false o i) (fun r s₃=>wpAny (model prog w) A (letTemporaryGo value o r >>= fun _=>pure r) Q E s₃) E s₂:=by
  rw [hs o i];exact wpAny_operating (wpAny_mono h₂ (fun r s₃ h₃=>wpAny_bind (wpAny_letTemporaryGo (wpAny_pure h₃))) fun _ _ x=>x)
 first
  |exact wpAny_pure (wpAny_bind fin)
  |exact wpAny_bind (wpAny_pure (wpAny_bind fin))
  |exact wpAny_bind fin
variable {X:Cx}
theorem ME {pins:List (Addr×Obj)} {σ:St} {s:Shared} {a:Addr} {y:V} {o:Option V} (I:Inv X pins σ H s) (g:DGet H a y o):s.TypeIs (.ref a) "dict":=by
 rcases g with ⟨kvs,k,e,_,_⟩|⟨kvs,k,b,e,_,_,_⟩
 ·obtain ⟨_,_,vs,_,dd⟩:=tQ I.hok e;exact dd.typeIs
 ·obtain ⟨_,_,xs,_,dd⟩:=ES I.hok e;exact dd.typeIs
def TU (td ty:TE):TE:=fun σ H Q=>td σ H fun x H1=>ty σ H1 fun y H2=>∃a v,x=.ref a∧DGet H2 a y (some v)∧Q v H2
section
variable {X:Cx} {o i e value:Expr} {pos pos' tpos:Pos} {td ty tv:TE}
theorem CV (hu:X.A.units+1<cLine) (ho:PE X o td) (hi:PE X i ty) (hs:uD i):PE X (.Subscript o i pos) (TU td ty):=by
 intro pins s σ H Q I h;refine B8 PySem.F.slot_dict_getitem.lookup hs (jN (ho pins s σ H _ I h) fun u s1 ⟨x,H1,I1,rx,q1⟩=>jN (hi pins s1 σ H1 _ I1 q1) fun iv s2 ⟨y,H2,I2,ry,a,v,ex,g,q2⟩=>?_);subst ex;obtain rfl:u=Value.ref a:=rx;exact ⟨ME I2 g,OD hu I2 g ry fun w' s3 I3 rw'=>⟨v,H2,I3,rw',q2⟩⟩
end
theorem PK {P:Program} (h:Heap) (hb:sysModules<h.objs.size):ObjOk P w H (h.push {cls:=.type "dict",data:=.dict #[]}) h.objs.size (.dK []) :=
 ⟨Nat.zero_le _,beq_eq_false_iff_ne.mpr (Ne.symm (Nat.ne_of_lt hb)),[],.nil,Heap.DictOf.new h⟩
section
variable {X:Cx} {pos:Pos}
end
def sJ:List (TE×TE)→St→Hp→(List (V×V)→Hp→Prop)→Prop
 |[],_,H,Q=>Q [] H
 | (tk,tv)::r,σ,H,Q=>tk σ H fun x H1=>tv σ H1 fun y H2=>sJ r σ H2 fun ps H3=>Q ((x,y)::ps) H3
abbrev VV:List (V×V)→List (Value×Value)→Prop:=Paired fun p q=>RelV p.1 q.1∧RelV p.2 q.2
def mK (X:Cx) (pos:Pos) (keys:List (Option Expr)) (values:List Expr) (trs:List (TE×TE)):Prop :=
 ∀(pins:List (Addr×Obj)) (s:Shared) (σ:St) (H:Hp) (Q:List (V×V)→Hp→Prop),Inv X pins σ H s→sJ trs σ H Q→
  wpAny (model X.prog X.w) X.A (evalPairs (pairTrees keys values X.env pos)) (fun vs s'=>∃ps H',Inv X pins σ H' s'∧VV ps vs∧Q ps H') X.xe s
theorem CP:mK X pos [] [] []:=fun pins s σ H Q I h=>pairTrees_nil_walk ⟨[],H,I,.nil,h⟩
theorem eT {k v:Expr} {ks:List (Option Expr)} {vs:List Expr} {tk tv:TE} {trs:List (TE×TE)} (hk:PE X k tk) (hv:PE X v tv) (hr:mK X pos ks vs trs) :
  mK X pos (some k::ks) (v::vs) ((tk,tv)::trs):=fun pins s σ H Q I h =>
 pairTrees_cons_walk (jN (hk pins s σ H _ I h) fun u s1 ⟨x,H1,I1,rx,q1⟩=>jN (hv pins s1 σ H1 _ I1 q1) fun w2 s2 ⟨y,H2,I2,ry,q2⟩ =>
  jN (hr pins s2 σ H2 _ I2 q2) fun ws s3 ⟨ps,H3,I3,rel,q3⟩=>⟨(x,y)::ps,H3,I3,.cons ⟨rx,ry⟩ rel,q3⟩)
def dG (kvs more:List (kD×V)):List (kD×V):=more.foldl (fun acc kv=>zU acc kv.1 kv.2) kvs
theorem KV.merge:∀{more:List (kD×V)} {rs:List (kD×Value)} {kvs:List (kD×V)} {vs:List (kD×Value)},KV more rs→KV kvs vs→KV (dG kvs more) (merged vs rs):=by
 intro more rs kvs vs r;unfold KV at r
 induction r generalizing kvs vs with
 |nil=>intro q;exact q
 |@cons p q ps qs h t ih =>
  intro r0;have e:KV (zU kvs p.1 p.2) (stored vs q.1 q.2):=by
   have:=r0.put p.1 h.2;rw [← h.1];exact this
  exact ih e
theorem wE:∀(more kvs:List (kD×V)),(dG kvs more).length≤kvs.length+more.length
 |[],kvs=>by show kvs.length≤kvs.length+0;omega
 |p::r,kvs=>by
  have h1:=wE r (zU kvs p.1 p.2);have h2:=MD kvs p.1 p.2;show (dG (zU kvs p.1 p.2) r).length≤_;rw [List.length_cons];omega
theorem xG {P:Program} {w:World}:∀{kvs:List (kD×V)} {ws:List (Value×Value)},VV (kvs.map fun kv=>(kV kv.1,kv.2)) ws→∃rs,Carries (zF P w) ws rs∧KV kvs rs
 |[],_,r=>by rw [List.map_nil] at r;cases r;exact ⟨[],True.intro,.nil⟩
 |p::kvs,_,r=>by
  rw [List.map_cons] at r;cases r with
  |@cons a b as bs h t =>
   obtain ⟨rs,c,q⟩:=xG (P:=P) (w:=w) t;obtain ⟨b1,b2⟩:=b;exact ⟨(p.1,b2)::rs,⟨tO h.1,rfl,c⟩,.cons ⟨rfl,h.2⟩ q⟩
def TQ (trs:List (TE×TE)):TE:=fun σ H Q=>∀p,H p=none→sJ trs σ (upd H p (.dK [])) fun ps H2=>H2 p=some (.dK [])∧∃kvs:List (kD×V),ps=kvs.map (fun kv=>(kV kv.1,kv.2))∧kvs.length≤15∧Q (.ref p) (upd H2 p (.dK (dG [] kvs)))
theorem RG {keys:List (Option Expr)} {values:List Expr} {trs:List (TE×TE)} (h:mK X pos keys values trs) (hall:keys.all (·.isSome)=true) (hl:keys.length=values.length) (h0:keys≠[])
  (h15:keys.length≤15):PE X (.Dict keys values pos) (TQ trs):=by
 intro pins s σ H Q I q;have hn:=I.hok.fresh (Nat.le_refl s.heap.objs.size);have I1:=I.laid (a:=s.heap.objs.size) (o:=.dK []) (h':=s.heap.push {cls:=.type "dict",data:=.dict #[]}) (t':=s.toks) (fun _ _ q=>Heap.get?_push_of_some _ q) (Nat.le_refl _) (PK s.heap I.big);refine wpAny_Dict_walk (knd:=zF X.prog X.w) hall hl h0 h15 (jN (h pins _ σ _ _ I1 (q _ hn)) fun ws s2 ⟨ps,H2,I2,rel,e,kvs,ep,lk,q2⟩=>?_);subst ep;obtain ⟨rs,c,rk⟩:=xG (P:=X.prog) (w:=X.w) rel;obtain ⟨z,hd,vs0,r0,dd⟩:=UH I2.hok e;cases r0;refine ⟨rs,c,dd,fun h' dd' hs=>⟨.ref s.heap.objs.size,_,?_,rfl,q2⟩⟩;have hz:(dG [] kvs).length≤sizeLine:=by
  have h1:=wE kvs [];rw [List.length_nil] at h1;rw [sizeLine_eq];omega
 have he:∃q,h'.get? s.heap.objs.size=some q:=let ⟨q,_,_,hq,_⟩:=dd';⟨q,hq⟩
 exact sH I2 (by rw [e];exact True.intro) hs he (TC hz hd (rk.merge .nil) dd')
end L2
namespace L2
open PySem PySem.Spec PyProof.Rows
section
variable {X:Cx} {tg:Expr}
end
section
variable {X:Cx}
end
inductive Kd where
 |plain|basin|pump
structure MeK (P:Program) (w:World) (K:PySem.W.Frag) (mg:Str→Option Value) (base:Heap) (k:Nat) (cs:Kd→Addr) (m:Str) (ps:List Str) (ss:Kd→Sp):Prop where
 ex:∀kd,MeD P w K mg base k (cs kd) m ps (ss kd)
def DI (cs:Kd→Addr) (m:Str) (ss:Kd→Sp) (ta:TE) (t:TA):TE:=fun σ H Q=>ta σ H fun x H1=>∃(kd:Kd) (a dx:Addr) (fs:List (Str×V)),x=.ref a∧H1 a=some (.ins (cs kd) dx fs)∧fs.lookup m=none∧
 t σ H1 fun vs H2=>ss kd (x::vs) H2 Q E0
section
variable {X:Cx} {k k':Nat} {x m:Str} {cs:Kd→Addr} {ps:List Str} {ss:Kd→Sp} {p pos apos:Pos} {o e:Expr} {es:List Expr} {ta:TE} {t:TA}
theorem EM {pl:Sem Bool} (M:MeK X.prog X.w X.K X.mg X.base k cs m ps ss) (hr:Room k' X.A) (ho:PE X o ta) (ha:PA X (e::es) t) (hk:k≤k':=by decide)
  (hst:starEach (e::es) X.env=(false,eval e X.env)::starEach es X.env:=by rfl) (hpl:(backTo pos (starEach es X.env)).any (·.1)=false:=by rfl)
  (ht:eval (.Call (.Attribute o m apos) (e::es) [] pos) X.env=(do
   let ov ← eval o X.env
   standAt apos.atName
   let (f,first) ← holding [ov] (getMethod ov m pl)
   callWith pos f first (backTo pos (starEach (e::es) X.env)) (backToKw pos (keywordEach [] X.env))):=by rfl) :
  PE X (.Call (.Attribute o m apos) (e::es) [] pos) (DI cs m ss ta t):=by
 intro pins s σ H Q I h;refine PySem.W.methodCall_KW (pl:=pl) (jN (ho pins s σ H _ I h) fun u s1 ⟨x,H1,I1,rx,kd,a,dx,fs,ex,ea,l,q⟩=>?_) ht;obtain ⟨c,f,fd,hm,G,b⟩:=(M.ex kd).ex;subst ex;obtain rfl:u=Value.ref a:=rx;refine iH I1 ea c hm l ?_;refine PySem.W.callWith_K (first:=[.ref a]) (h₀:=X.base) I.ok.mod.kin hm.kp (jN (ha pos pins s1 σ H1 _ I1 q) fun us s2 ⟨vs,H2,I2,r,q2⟩=>⟨I2.kIn,?_⟩) hst hpl;exact dD (us:=.ref a::us) (vs:=.ref a::vs) (dvs:=[]) G (hr.mono hk) b .nil zQ I2 (.cons rfl r) (by rw [List.append_nil];exact q2)
theorem DV {pl:Sem Bool} (M:MeK X.prog X.w X.K X.mg X.base k cs m ps ss) (hr:Room k' X.A) (ho:PE X o ta) (hk:k≤k':=by decide)
  (ht:eval (.Call (.Attribute o m apos) [] [] pos) X.env=(do
   let ov ← eval o X.env
   standAt apos.atName
   let (f,first) ← holding [ov] (getMethod ov m pl)
   callWith pos f first (backTo pos (starEach [] X.env)) (backToKw pos (keywordEach [] X.env))):=by rfl) :
  PE X (.Call (.Attribute o m apos) [] [] pos) (DI cs m ss ta J4):=by
 intro pins s σ H Q I h;refine PySem.W.methodCall_KW (pl:=pl) (jN (ho pins s σ H _ I h) fun u s1 ⟨x,H1,I1,rx,kd,a,dx,fs,ex,ea,l,q⟩=>?_) ht;obtain ⟨c,f,fd,hm,G,b⟩:=(M.ex kd).ex;subst ex;obtain rfl:u=Value.ref a:=rx;refine iH I1 ea c hm l ?_;exact PySem.W.callWith_K0 (first:=[.ref a]) I1.kIn hm.kp (dD (us:=[.ref a]) (vs:=[.ref a]) (dvs:=[]) G (hr.mono hk) b .nil zQ I1 (.cons rfl .nil) q)
end
section
variable {X:Cx} {tg:Expr}
end
section
variable {X:Cx}
def UX:V→Option Int→Option Int→Hp→VK→Prop:=fun x lo hi H Q=>∃z:Str,x=.str z∧z.length≤sizeLine∧Q (.str (Txt.slice z lo hi)) H
theorem lE:FB X UX:=by
 intro pins s σ H x v vl vu lo hi sl Q I rx hs pl pu h;obtain ⟨z,rfl,hz,q⟩:=h;obtain ⟨t,rfl⟩:=rx;refine ⟨"str",_,F.slot_str_getitem.lookup,typeIs_str _ _ _,?_⟩;have fin:∀(l u:Option (Int×Tok)),l.map (·.1)=lo→u.map (·.1)=hi→s.heap.IsSlice sl l u none→wpAny (model X.prog X.w) X.A (getItem (.str z t) (.ref sl)) (EP X pins σ Q) X.xe s:=by
  intro l u e1 e2 hsl;subst e1 e2;exact wpAny_getItem_str_slice hsl rfl (post_val_or_str ⟨Nat.le_trans (Txt.slice_le z _ _) hz,fun t' k=>⟨.str (Txt.slice z (l.map (·.1)) (u.map (·.1))),H,I.tok _,⟨t',rfl⟩,q⟩⟩)
 obtain ⟨o,ho,hc,hd⟩:=hs;cases pl with
 |none =>
  cases pu with
  |none=>exact fin none none rfl rfl ⟨o,ho,hc,hd⟩
  |int j tj=>exact fin none (some (j,tj)) rfl rfl ⟨o,ho,hc,hd⟩
 |int i ti =>
  cases pu with
  |none=>exact fin (some (i,ti)) none rfl rfl ⟨o,ho,hc,hd⟩
  |int j tj=>exact fin (some (i,ti)) (some (j,tj)) rfl rfl ⟨o,ho,hc,hd⟩
end
section
variable {X:Cx} {K:PySem.W.Frag} {w:World} {o i:Expr} {pos:Pos} {td ty:TE}
end
inductive DEq (K:PySem.W.Frag) (H:Hp):V→V→Bool→Prop where
 |flat {x y:V} (hx:yP x=true) (hy:yP y=true):DEq K H x y (y7 x y)
 |same (a:Addr):DEq K H (.ref a) (.ref a) true
 |tup {a b:Addr} {xs ys:List V} (ne:a≠b) (ha:SqT K H a xs) (hb:SqT K H b ys) (fx:xs.all yP=true) (fy:ys.all yP=true):DEq K H (.ref a) (.ref b) (Z6 xs ys)
 |lst {a b:Addr} {xs ys:List V} (ne:a≠b) (ha:SqL K H a xs) (hb:SqL K H b ys) (fx:xs.all yP=true) (fy:ys.all yP=true):DEq K H (.ref a) (.ref b) (Z6 xs ys)
section
variable {X:Cx} {pins:List (Addr×Obj)} {σ:St} {H:Hp} {s:Shared} {A:Around}
theorem DEq.at {x y:V} {u v:Value} {e:Bool} (I:Inv X pins σ H s) (d:DEq X.K H x y e) (rx:RelV x u) (ry:RelV y v) (hu:A.units<cLine):SeqAt.EqAt A s u v e:=by
 cases d with
 |flat hx hy=>exact lL rx ry hx hy
 |same a=>cases rx;cases ry;exact SeqAt.EqAt.same _
 |@tup a b xs ys ne ha hb fx fy =>
  cases rx;cases ry
  obtain ⟨its,r,pl,hz⟩:=I.tuple ha;obtain ⟨its2,r2,pl2,hz2⟩:=I.tuple hb;have hl:=r.length;have hl2:=r2.length;have h:=SeqAt.RcAt.tuples (A:=A) (e:=fun j=>y7 (xs.getD j .non) (ys.getD j .non)) pl pl2 hu (fun j h1 h2=>lL (ZI r h1) (ZI r2 h2) (iO fx (by rw [hl];simpa using h1)) (iO fy (by rw [hl2];simpa using h2)));have e:((List.range (min its.toArray.size its2.toArray.size)).all (fun j=>y7 (xs.getD j .non) (ys.getD j .non))&&its.toArray.size == its2.toArray.size)=Z6 xs ys:=by
   unfold Z6;rw [List.size_toArray,List.size_toArray,← hl,← hl2]
  rw [e] at h;exact SeqAt.EqAt.of_refs ne h
 |@lst a b xs ys ne ha hb fx fy =>
  cases rx;cases ry
  obtain ⟨its,r,pl,hz⟩:=I.list ha;obtain ⟨its2,r2,pl2,hz2⟩:=I.list hb;have hl:=r.length;have hl2:=r2.length
  by_cases he:xs.length=ys.length
  ·have h:=SeqAt.RcAt.lists (A:=A) (e:=fun j=>y7 (xs.getD j .non) (ys.getD j .non)) pl.isList pl2.isList (by rw [List.size_toArray,List.size_toArray,← hl,← hl2,he]) hu (fun j h1 h2=>lL (ZI r h1) (ZI r2 h2) (iO fx (by rw [hl];simpa using h1)) (iO fy (by rw [hl2];simpa using h2)));have e:((List.range its.toArray.size).all (fun j=>y7 (xs.getD j .non) (ys.getD j .non)))=Z6 xs ys:=by
    unfold Z6;rw [List.size_toArray,← hl,← he,Nat.min_self,beq_self_eq_true,Bool.and_true]
   rw [e] at h;exact SeqAt.EqAt.of_refs ne h
  ·have hf:Z6 xs ys=false:=by
    unfold Z6;rw [show (xs.length == ys.length)=false from beq_eq_false_iff_ne.mpr he,Bool.and_false]
   rw [hf];exact SeqAt.EqAt.of_refs ne (SeqAt.RcAt.lists_lengths pl.isList pl2.isList (by rw [List.size_toArray,List.size_toArray,← hl,← hl2];exact bne_iff_ne.mpr he) hu)
end
section
variable {X:Cx}
end
theorem eG {X:Cx} (K:PySem.W.Frag) (h:X.K=K:=by rfl):yQ X (.type "tuple") (fun xs H Q=>∃p ys,xs=[.ref p]∧((SqL K H p ys∧∀l,H l=none→Q (.ref l) (upd H l (.tup ys)))∨(SqT K H p ys∧Q (.ref p) H))):=by subst h;exact LT
section
variable {X:Cx}
end
section
variable {X:Cx} {tg:Expr}
end
section
variable {X:Cx} {pins:List (Addr×Obj)} {σ:List (Option V)} {H:Hp} {s:Shared} {h':Heap}
theorem Inv.turnedN {t':Nat} {fp:List Addr} (I:Inv X pins σ H s) (k:∀b o,b∉fp→s.heap.get? b=some o→h'.get? b=some o) (hf:∀b∈fp,JR X pins H b):Inv X pins σ H {s with heap:=h',toks:=t'}:=by
 have nit:∀b u,H b=some u→b∉fp:=fun b u e z=>by rw [(hf b z).1] at e;cases e
 have hL:X.env.locals∉fp:=fun z=>(hf _ z).2.1 rfl
 refine I.step (g':=s.gens) (d':=s.drawn) (ch:=fp) (fun b hb=>?_) (fun b o _ _ hc e _=>k b o hc e) (fun b o _ _ hc e _=>⟨o.slots,k b o hc e⟩) (fun _ _ _ _ n=>n)
  (fun b o hc e=>⟨o,k b o hc e⟩) (fun _ _ e=>e) (fun _ _ _ e=>e) (fun b ps e=>⟨#[],by rw [e];simp⟩) (fun m hm=>?_) (fun b u e=>?_) I.bare
 ·obtain ⟨f0,f1,f2,f3,f4,f5⟩:=hf b hb;exact ⟨f3,f1,f4,f5⟩
 ·obtain ⟨o,es,ep,ho,r⟩:=hm;exact ⟨o,es,ep,k _ o hL ho,r⟩
 ·refine (I.hok b u e).stay (fun c v hc q=>k c v ?_ q) (fun _ q=>q) fun _ _ q=>q
  rcases hc with z|z
  ·rw [z];exact nit b u e
  ·exact nit c _ z
theorem Inv.laidN {t':Nat} {fp:List Addr} {a:Addr} {o:HO} (I:Inv X pins σ H s) (k:∀b u,b∉fp→s.heap.get? b=some u→h'.get? b=some u) (hf:∀b∈fp,JR X pins H b) (hp:s.heap.objs.size≤a) (new:ObjOk X.prog X.w (upd H a o) h' a o) :
  Inv X pins σ (upd H a o) {s with heap:=h',toks:=t'}:=by
 have hn:=I.hok.fresh hp;have nit:∀b u,H b=some u→b∉fp:=fun b u e z=>by rw [(hf b z).1] at e;cases e
 have hL:X.env.locals∉fp:=fun z=>(hf _ z).2.1 rfl
 refine I.step (g':=s.gens) (d':=s.drawn) (ch:=fp) (fun b hb=>?_) (fun b o _ _ hc e _=>k b o hc e) (fun b o _ _ hc e _=>⟨o.slots,k b o hc e⟩) (fun b u _ e n=>?_)
  (fun b o hc e=>⟨o,k b o hc e⟩) (fun b xs e=>?_) (fun b u v e=>?_) (fun b ps e=>⟨#[],?_⟩) (fun m hm=>?_) (fun b u e=>?_) I.bare
 ·obtain ⟨f0,f1,f2,f3,f4,f5⟩:=hf b hb;exact ⟨f3,f1,f4,f5⟩
 ·rw [jG (Nat.ne_of_lt (Nat.lt_of_lt_of_le (Heap.lt_size e) hp))];exact n
 ·rw [jG (qV e hn)];exact e
 ·rw [jG (qV e hn)];exact e
 ·rw [jG (qV e hn),e];simp
 ·obtain ⟨o,es,ep,ho,r⟩:=hm;exact ⟨o,es,ep,k _ o hL ho,r⟩
 ·by_cases hb:b=a
  ·subst hb;rw [jD] at e;cases e;exact new
  ·rw [jG hb] at e;refine (I.hok b u e).stay (fun c v hc q=>k c v ?_ q) (fun c q=>by rw [jG (qV q hn)];exact q) fun c xs q=>by rw [jG (qV q hn)];exact q
   rcases hc with z|z
   ·rw [z];exact nit b u e
   ·exact nit c _ z
end
def uV (K:PySem.W.Frag) (a:Addr):It :=
 ⟨fun i H=>∃xs x,SqL K H a xs∧xs[i]?=some x,
  fun i H v H'=>∃T x,v=.ref T∧H T=none∧H'=upd H T (.tup [.int (i:Int),x])∧∀xs,SqL K H a xs→xs[i]?=some x,
  fun i H=>∃xs,SqL K H a xs∧xs.length≤i⟩
theorem NJ {P:Program} {w:World} {K:PySem.W.Frag} {elts:List Expr} {x1:Nat} {pos:Pos} {a e it:Addr} (hei:e≠it) :
  Turn P w K (.Tuple elts x1 pos) (uV K a) [e,it] e (fun i h=>(∃old,IsEnum h e it i old)∧h.IsListIter it a i) where
 mem:=by simp
 obj:=fun i h st b hb=>by
  obtain ⟨⟨old,he⟩,⟨o1,e1,c1,d1⟩⟩:=st;simp only [List.mem_cons,List.mem_nil_iff,or_false] at hb
  rcases hb with rfl|rfl
  ·exact ⟨_,he,fun v y=>by have y':Data.fields _=Data.cell v:=y;cases y'⟩
  ·exact ⟨o1,e1,fun v y=>by rw [d1] at y;cases y⟩
 keep:=fun i h h' st k=>by
  obtain ⟨⟨old,he⟩,h1⟩:=st;exact ⟨⟨old,k _ (by simp) _ he⟩,h1.at fun o e=>k _ (by simp) o e⟩
 item:=by
  intro X hP hw hK hc i pins s σ H E I hf st hg;subst hP hw hK;obtain ⟨⟨old,he⟩,h1⟩:=st;obtain ⟨xs,x,hq1,hx⟩:=hg;obtain ⟨its1,rv1,p1,_⟩:=I.list hq1;obtain ⟨u,hu,ru⟩:=rv1.get hx;refine wpAny_pyNext_enum_item he h1 p1.isList (x:=u) (by simpa using hu) hei fun h' he' h1' hT' hsz hk=>?_
  refine ⟨_,rfl,?_⟩;refine wpAny_letOwnedTupleGo_enum he' fun h2 he2 hs2=>?_
  have lt:∀{b:Addr} {o:Obj},s.heap.get? b=some o→b<s.heap.objs.size:=fun e=>Heap.lt_size e
  have nT:s.heap.objs.size≠e:=Nat.ne_of_gt (lt he);have k2:∀b o,b∉[e,it]→s.heap.get? b=some o→h2.get? b=some o:=fun b o hb q=>by
   simp only [List.mem_cons,List.mem_nil_iff,or_false,not_or] at hb;exact (hs2.2 b hb.1).trans (hk b o hb.1 hb.2 q)
  have hT2:=(hs2.2 _ nT).trans hT';refine ⟨.ref s.heap.objs.size,upd H s.heap.objs.size (.tup [.int (i:Int),x]),I.laidN (t':=s.toks+1) (fp:=[e,it]) k2 hf (Nat.le_refl _) ⟨(by show 2≤sizeLine;decide),[.int i s.toks,u],.cons ⟨_,rfl⟩ (.cons ru .nil),⟨_,hT2,rfl,_,rfl⟩⟩,rfl,?_,?_,?_⟩
  ·exact ⟨_,x,rfl,I.hok.fresh (Nat.le_refl _),rfl,fun zs hzs=>by rw [I.list_inj hzs hq1];exact hx⟩
  ·exact ⟨⟨_,he2⟩,h1'.at fun o q=>(hs2.2 _ hei.symm).trans q⟩
  ·intro b hb;have:=(hf b hb).1;rw [jG]
   ·exact this
   ·intro q;simp only [List.mem_cons,List.mem_nil_iff,or_false] at hb;obtain ⟨o1,e1,_⟩:=h1
    rcases hb with rfl|rfl
    ·exact nT q.symm
    ·exact Nat.ne_of_lt (lt e1) q
 done:=by
  intro X hP hw hK hc i pins s σ H E I hf st hg;subst hP hw hK;obtain ⟨⟨old,he⟩,h1⟩:=st;obtain ⟨xs,hq1,hx⟩:=hg;obtain ⟨its1,rv1,p1,_⟩:=I.list hq1;have l1:=rv1.length;refine wpAny_pyNext_enum_end (I.ok.hd hc) he h1 p1.isList (by simp;omega) fun h' hk=>⟨rfl,I.turnedN (t':=s.toks) (fp:=[e,it]) (fun b o hb q=>?_) hf⟩
  simp only [List.mem_cons,List.mem_nil_iff,or_false,not_or] at hb;exact hk b o hb.2 q
 self:=fun _ _ _ _ _ st h=>by obtain ⟨⟨old,he⟩,_⟩:=st;exact wpAny_pyIter_enum he h
section
variable {X:Cx} {elts:List Expr} {x1:Nat} {tpos:Pos}
def UE (K:PySem.W.Frag) (ta:TA):TI:=fun σ H R=>ta σ H fun vs H1=>∃a,vs=[.ref a]∧(∃xs,SqL K H1 a xs)∧R (uV K a) H1
theorem CT {a:Expr} {ta:TA} {p pos:Pos} (hg:Gl X "enumerate") (hm:X.mg "enumerate"=none) (ha:PA X [a] ta) (hs:starEach [a] X.env=[(false,eval a X.env)]:=by rfl) :
  PI X (.Tuple elts x1 tpos) (.Call (.Name "enumerate" p) [a] [] pos) (UE X.K ta):=by
 intro pins s σ H R I h;refine Call_ (Q6 I hg hm boot_enumerate (PyProof.Rows.callWith_type1 (jN (ha pos pins s σ H _ I h) fun us s1 ⟨vs,H1,I1,r1,q1⟩=>?_) hs rfl));obtain ⟨a1,e,⟨xs,hq1⟩,q⟩:=q1;subst e;cases r1 with
 |cons r rr =>
  cases rr;cases r;obtain ⟨its1,rv1,p1,_⟩:=I1.list hq1;refine call_enumerate_list p1.isList fun h' he hit hsz hk=>?_
  refine wpAny_pyIter_enum he ?_;refine ⟨_,_,_,_,H1,rfl,I1.kept (t':=s1.toks) hk,NJ (Nat.succ_ne_self _),⟨⟨_,he⟩,hit⟩,fun b hb=>?_,q⟩;simp only [List.mem_cons,List.mem_nil_iff,or_false] at hb;have hb':s1.heap.objs.size≤b:=by rcases hb with rfl|rfl<;>simp only [Addr] at *<;>omega
  exact I1.fpOk hb' (I1.hok.fresh hb')
end
section
variable {X:Cx}
end
section
variable {prog:Program} {w:World} {A:Around} {s:Shared} {E:Value→Shared→Prop}
theorem wW {j p:Addr} {i:Nat} {vs:Array Value} {v:Value} {Q:Value→Shared→Prop} (hj:s.heap.IsTupleIter j p i) (hp:s.heap.IsTuple p vs) (hv:vs[i]?=some v) (q:∀h',h'.IsTupleIter j p (i+1)→Heap.SameBut j s.heap h'→Q v {s with heap:=h'}):wpAny (model prog w) A (Builtin.SmallTypes.nextOf (.ref j)) Q E s:=by
 obtain ⟨oj,ej,cj,dj⟩:=id hj;obtain ⟨op,ep,_,np,dp⟩:=hp;unfold Builtin.SmallTypes.nextOf
 refine wpAny_bind (wpAny_callSpecial?_slot (name:=Str.ofString "__next__") hj.typeIs F.slot_tuple_iterator_next (wpAny_call_entry F.slot_tuple_iterator_next hj.typeIs F.entry_tuple_iterator_next ?_ (F.args_tuple_iterator_next_1 _)));show wpAny _ _ (field (.ref j) 0 >>= _) _ _ s;refine wpAny_bind (wpAny_field ej dj (x:=.ref p) rfl ?_);show wpAny _ _ (if (Value.ref p == Value.none)=true then _ else _) _ _ s;rw [if_neg (show ¬((Value.ref p == Value.none)=true) from Bool.false_ne_true)];show wpAny _ _ (field (.ref j) 1 >>= _) _ _ s;refine wpAny_bind (wpAny_field ej dj (x:=.int i 0) rfl ?_);show wpAny _ _ (seqItems? (.ref p) >>= _) _ _ s;refine wpAny_bind (wpAny_seqItems ep dp ?_);simp only [Int.toNat_natCast,hv];refine wpAny_bind (wpAny_setField ej dj (by simp) (wpAny_pure ⟨v,rfl,wpAny_pure (q _ ?_ (Heap.SameBut.update ..))⟩));exact ⟨_,Heap.get?_update_self _ ej (Obj.isFreed_of_fields (Obj.data_mapFields dj _)),(Obj.cls_mapFields ..).trans cj,by rw [Obj.data_mapFields dj];simp [rawInt]⟩
theorem pP {j p:Addr} {i:Nat} {vs:Array Value} {Q:Value→Shared→Prop} (hh:A.handled=none) (hj:s.heap.IsTupleIter j p i) (hp:s.heap.IsTuple p vs) (hv:vs[i]?=none)
  (q:∀h' e,Heap.ExtBut j s.heap h'→(∃o,h'.get? e=some o∧o.cls=.type "StopIteration")→E (.ref e) {s with heap:=h'}):wpAny (model prog w) A (Builtin.SmallTypes.nextOf (.ref j)) Q E s:=by
 obtain ⟨oj,ej,cj,dj⟩:=id hj;obtain ⟨op,ep,_,np,dp⟩:=hp;unfold Builtin.SmallTypes.nextOf
 refine wpAny_bind (wpAny_callSpecial?_slot (name:=Str.ofString "__next__") hj.typeIs F.slot_tuple_iterator_next (wpAny_call_entry F.slot_tuple_iterator_next hj.typeIs F.entry_tuple_iterator_next ?_ (F.args_tuple_iterator_next_1 _)));show wpAny _ _ (field (.ref j) 0 >>= _) _ _ s;refine wpAny_bind (wpAny_field ej dj (x:=.ref p) rfl ?_);show wpAny _ _ (if (Value.ref p == Value.none)=true then _ else _) _ _ s;rw [if_neg (show ¬((Value.ref p == Value.none)=true) from Bool.false_ne_true)];show wpAny _ _ (field (.ref j) 1 >>= _) _ _ s;refine wpAny_bind (wpAny_field ej dj (x:=.int i 0) rfl ?_);show wpAny _ _ (seqItems? (.ref p) >>= _) _ _ s;refine wpAny_bind (wpAny_seqItems ep dp ?_);simp only [Int.toNat_natCast,hv];refine wpAny_bind (wpAny_rule (wpAny_bind (wpAny_setField ej dj (by simp) ?_)));refine wpAny_bind ?_
 simp only [newExc,newTuple];refine wpAny_bind (wpAny_newObj_type ?_ (by size_fits))
 refine wpAny_bind (m:=firstArgMember _ _) (wpAny_of_eq (a:=Value.none) (by first|rfl|(simp only [firstArgMember];rfl)) ?_);refine wpAny_newObj_type ?_ (by size_fits)
 simp only [raiseNew];refine wpAny_bind (wpAny_handled ?_);(first|rw [show A.in1.handled=none from hh]|rw [hh])
 refine wpAny_bind (wpAny_pure (wpAny_throw ?_));exact q _ _ (((Heap.SameBut.update ..).extBut.push _).push _) ⟨_,Heap.get?_push_size _ rfl,rfl⟩
theorem NG {z P1 P2 j1 j2 a b:Addr} {k:Nat} {us vs:Array Value} {u v g g':Value} {Q:Value→Shared→Prop} (D:ZipApart z P1 P2 j1 j2 a b)
  (hz:IsZip s.heap z P1 P2 .none) (hP1:IsPair s.heap P1 (.ref j1) (.ref j2)) (hP2:IsPair s.heap P2 g g') (n1:s.heap.IsListIter j1 a k) (n2:s.heap.IsTupleIter j2 b k) (la:s.heap.IsList a us) (tb:s.heap.IsTuple b vs) (hu:us[k]?=some u) (hv:vs[k]?=some v)
  (q:∀h',IsZip h' z P1 P2 (rawInt s.heap.objs.size)→IsPair h' P2 u v→h'.IsListIter j1 a (k+1)→h'.IsTupleIter j2 b (k+1)→IsPair h' s.heap.objs.size u v→(∀c o,c≠z→c≠P2→c≠j1→c≠j2→s.heap.get? c=some o→h'.get? c=some o)→Q (.ref s.heap.objs.size) {s with heap:=h'}):wpAny (model prog w) A (Builtin.«zip.__next__» ⟨[.ref z],[]⟩) (fun fin s'=>∃v,fin=.done (.ret v)∧Q v s') E s:=by
 show wpAny _ _ (field (.ref z) 2 >>= _) _ _ _;refine wpAny_bind (wpAny_field hz rfl (x:=.bool false) rfl ?_);show wpAny _ _ (field (.ref z) 3 >>= _) _ _ _
 refine wpAny_bind (wpAny_field hz rfl (x:=.ref P1) rfl ?_);refine wpAny_bind (wpAny_seqItems hP1 rfl ?_)
 show wpAny _ _ (Builtin.SmallTypes.ownedTupleIsFree (.ref z) >>= _) _ _ _;refine wpAny_bind ?_;unfold Builtin.SmallTypes.ownedTupleIsFree
 refine wpAny_bind (wpAny_field hz rfl (x:=.none) rfl (wpAny_pure ?_));simp only [if_true]
 refine wpAny_bind (wpAny_rule ?_);refine wpAny_bind (wpAny_field hz rfl (x:=.ref P2) rfl ?_)
 refine wpAny_bind (wpAny_setField_rec hz (by simp) fun m1 z1 d1=>?_);have z1:IsZip m1 z P1 P2 .ellipsis:=z1;refine wpAny_bind ?_;simp only [List.zipIdx_cons,List.zipIdx_nil,List.forIn_cons,List.forIn_nil]
 refine wpAny_bind (wpAny_bind (wpAny_onRaise ?_));show wpAny _ _ (Builtin.SmallTypes.nextOf (.ref j1) >>= _) _ _ _
 refine wpAny_bind (wpAny_nextOf_list_item (n1.extBut d1.extBut D.i1z) (la.extBut d1.extBut D.l1z) hu fun m2 n12 d2=>wpAny_pure ?_);have p2:IsPair m2 P2 g g':=d2.extBut _ _ D.TOi1 (d1.extBut _ _ D.TOz hP2);refine wpAny_bind (wpAny_seqItems p2 rfl ?_);refine wpAny_bind (wpAny_updateSeq_pair p2 fun m3 p3 d3=>?_)
 have p3:IsPair m3 P2 u g':=p3;refine wpAny_bind (wpAny_letGo (wpAny_pure ?_));refine wpAny_bind (wpAny_bind (wpAny_onRaise ?_));show wpAny _ _ (Builtin.SmallTypes.nextOf (.ref j2) >>= _) _ _ _
 refine wpAny_bind (wW (((n2.extBut d1.extBut D.i2z).extBut d2.extBut D.i12.symm).extBut d3.extBut D.TOi2.symm) (((tb.extBut d1.extBut D.l2z).extBut d2.extBut D.l2i1).extBut d3.extBut D.l2TO) hv fun m4 n24 d4=>wpAny_pure ?_);have p4:IsPair m4 P2 u g':=d4.extBut _ _ D.TOi2 p3;refine wpAny_bind (wpAny_seqItems p4 rfl ?_);refine wpAny_bind (wpAny_updateSeq_pair p4 fun m5 p5 d5=>?_)
 have p5:IsPair m5 P2 u v:=p5;refine wpAny_bind (wpAny_letGo (wpAny_pure (wpAny_pure ?_)));refine wpAny_bind (wpAny_seqItems p5 rfl ?_);refine wpAny_bind (wpAny_newTuple ?_)
 have sz:m5.objs.size=s.heap.objs.size:=by rw [d5.1,d4.1,d3.1,d2.1,d1.1]
 have z5:IsZip m5 z P1 P2 .ellipsis:=d5.extBut _ _ D.TOz.symm (d4.extBut _ _ D.i2z.symm (d3.extBut _ _ D.TOz.symm (d2.extBut _ _ D.i1z.symm z1)));have kk:∀c o,c≠z→c≠P2→c≠j1→c≠j2→s.heap.get? c=some o→m5.get? c=some o:=fun c o e1 e2 e3 e4 e=>d5.extBut _ _ e2 (d4.extBut _ _ e4 (d3.extBut _ _ e2 (d2.extBut _ _ e3 (d1.extBut _ _ e1 e))))
 have n15:m5.IsListIter j1 a (k+1):=((n12.extBut d3.extBut D.TOi1.symm).extBut d4.extBut D.i12).extBut d5.extBut D.TOi1.symm;have n25:m5.IsTupleIter j2 b (k+1):=n24.extBut d5.extBut D.TOi2.symm;have zl:z<m5.objs.size:=Heap.lt_size z5;show wpAny _ _ (Builtin.SmallTypes.ownedTupleHandOut (.ref z) (.ref m5.objs.size) >>= _) _ _ _;refine wpAny_bind ?_;unfold Builtin.SmallTypes.ownedTupleHandOut
 have z6:IsZip (m5.push {cls:=.type "tuple",data:=.seq #[u,v]}) z P1 P2 .ellipsis:=Heap.get?_push_of_some _ z5;refine wpAny_bind (wpAny_setField_rec z6 (by simp) fun m7 z7 d7=>?_);have z7:IsZip m7 z P1 P2 (rawInt m5.objs.size):=z7;refine wpAny_setField_rec z7 (by simp) fun m8 z8 d8=>?_
 have z8:IsZip m8 z P1 P2 (rawInt m5.objs.size):=z8;have up:∀c o,c≠z→m5.get? c=some o→m8.get? c=some o:=fun c o e1 e=>d8.extBut _ _ e1 (d7.extBut _ _ e1 (Heap.get?_push_of_some _ e))
 have t8:IsPair m8 m5.objs.size u v:=d8.extBut _ _ (Nat.ne_of_gt zl) (d7.extBut _ _ (Nat.ne_of_gt zl) (Heap.get?_push_size _ rfl));rw [sz] at z8 t8;refine wpAny_pure ⟨_,rfl,?_⟩;show Q (.ref m5.objs.size) _;rw [sz]
 exact q m8 z8 (up _ _ D.TOz p5) (n15.at fun o e=>up _ o D.i1z e) (n25.at fun o e=>up _ o D.i2z e) t8 fun c o e1 e2 e3 e4 e=>up c o e1 (kk c o e1 e2 e3 e4 e)
theorem OJ {z P1 P2 j1 j2 a b:Addr} {k:Nat} {us vs:Array Value} {g g':Value} {Q:Fin→Shared→Prop} (hh:A.handled=none) (D:ZipApart z P1 P2 j1 j2 a b)
  (hz:IsZip s.heap z P1 P2 .none) (hP1:IsPair s.heap P1 (.ref j1) (.ref j2)) (hP2:IsPair s.heap P2 g g') (n1:s.heap.IsListIter j1 a k) (n2:s.heap.IsTupleIter j2 b k) (la:s.heap.IsList a us) (tb:s.heap.IsTuple b vs) (he:us[k]?=none∨vs[k]?=none)
  (q:∀h' e,(∀c o,c≠z→c≠P2→c≠j1→c≠j2→s.heap.get? c=some o→h'.get? c=some o)→(∃o,h'.get? e=some o∧o.cls=.type "StopIteration")→E (.ref e) {s with heap:=h'}):wpAny (model prog w) A (Builtin.«zip.__next__» ⟨[.ref z],[]⟩) Q E s:=by
 show wpAny _ _ (field (.ref z) 2 >>= _) _ _ _;refine wpAny_bind (wpAny_field hz rfl (x:=.bool false) rfl ?_);show wpAny _ _ (field (.ref z) 3 >>= _) _ _ _
 refine wpAny_bind (wpAny_field hz rfl (x:=.ref P1) rfl ?_);refine wpAny_bind (wpAny_seqItems hP1 rfl ?_)
 show wpAny _ _ (Builtin.SmallTypes.ownedTupleIsFree (.ref z) >>= _) _ _ _;refine wpAny_bind ?_;unfold Builtin.SmallTypes.ownedTupleIsFree
 refine wpAny_bind (wpAny_field hz rfl (x:=.none) rfl (wpAny_pure ?_));simp only [if_true]
 refine wpAny_bind (wpAny_rule ?_);refine wpAny_bind (wpAny_field hz rfl (x:=.ref P2) rfl ?_)
 refine wpAny_bind (wpAny_setField_rec hz (by simp) fun m1 z1 d1=>?_);have z1:IsZip m1 z P1 P2 .ellipsis:=z1;refine wpAny_bind ?_;simp only [List.zipIdx_cons,List.zipIdx_nil,List.forIn_cons,List.forIn_nil]
 refine wpAny_bind (wpAny_bind (wpAny_onRaise ?_));show wpAny _ _ (Builtin.SmallTypes.nextOf (.ref j1) >>= _) _ _ _
 cases hu:us[k]? with
 |none =>
  refine wpAny_bind (wpAny_nextOf_list_end hh (n1.extBut d1.extBut D.i1z) (la.extBut d1.extBut D.l1z) hu fun m2 e d2 st=>?_);obtain ⟨oe,ee,ce⟩:=st
  have z2:IsZip m2 z P1 P2 .ellipsis:=d2 _ _ D.i1z.symm z1;have ne:e≠z:=fun x=>by subst x;rw [z2] at ee;cases ee;simp at ce
  refine wpAny_setField_rec z2 (by simp) fun m3 _ d3=>q m3 e (fun c o e1 _ e3 _ x=>d3.extBut _ _ e1 (d2 _ _ e3 (d1.extBut _ _ e1 x))) ⟨oe,d3.extBut _ _ ne ee,ce⟩
 |some u =>
  have hv:vs[k]?=none:=by rcases he with h|h;rw [hu] at h;cases h;exact h
  refine wpAny_bind (wpAny_nextOf_list_item (n1.extBut d1.extBut D.i1z) (la.extBut d1.extBut D.l1z) hu fun m2 n12 d2=>wpAny_pure ?_);have p2:IsPair m2 P2 g g':=d2.extBut _ _ D.TOi1 (d1.extBut _ _ D.TOz hP2);refine wpAny_bind (wpAny_seqItems p2 rfl ?_);refine wpAny_bind (wpAny_updateSeq_pair p2 fun m3 p3 d3=>?_)
  refine wpAny_bind (wpAny_letGo (wpAny_pure ?_));refine wpAny_bind (wpAny_bind (wpAny_onRaise ?_));show wpAny _ _ (Builtin.SmallTypes.nextOf (.ref j2) >>= _) _ _ _
  refine wpAny_bind (pP hh (((n2.extBut d1.extBut D.i2z).extBut d2.extBut D.i12.symm).extBut d3.extBut D.TOi2.symm) (((tb.extBut d1.extBut D.l2z).extBut d2.extBut D.l2i1).extBut d3.extBut D.l2TO) hv fun m4 e d4 st=>?_);obtain ⟨oe,ee,ce⟩:=st
  have z4:IsZip m4 z P1 P2 .ellipsis:=d4 _ _ D.i2z.symm (d3.extBut _ _ D.TOz.symm (d2.extBut _ _ D.i1z.symm z1));have ne:e≠z:=fun x=>by subst x;rw [z4] at ee;cases ee;simp at ce
  refine wpAny_setField_rec z4 (by simp) fun m5 _ d5=>q m5 e (fun c o e1 e2 e3 e4 x=>d5.extBut _ _ e1 (d4 _ _ e4 (d3.extBut _ _ e2 (d2.extBut _ _ e3 (d1.extBut _ _ e1 x))))) ⟨oe,d5.extBut _ _ ne ee,ce⟩
end
def uF (K:PySem.W.Frag) (a1 a2:Addr):It :=
 ⟨fun i H=>∃xs ys x y,SqL K H a1 xs∧SqT K H a2 ys∧xs[i]?=some x∧ys[i]?=some y,
  fun i H v H'=>∃T x y,v=.ref T∧H T=none∧H'=upd H T (.tup [x,y])∧(∀xs,SqL K H a1 xs→xs[i]?=some x)∧(∀ys,SqT K H a2 ys→ys[i]?=some y),
  fun i H=>∃xs ys,SqL K H a1 xs∧SqT K H a2 ys∧(xs.length≤i∨ys.length≤i)⟩
theorem NH {P:Program} {w:World} {K:PySem.W.Frag} {elts:List Expr} {x1:Nat} {pos:Pos} {a1 a2 z TI TO i1 i2:Addr} (D:ZipApart z TI TO i1 i2 a1 a2) :
  Turn P w K (.Tuple elts x1 pos) (uF K a1 a2) [z,TI,TO,i1,i2] z (fun i h=>IsZip h z TI TO .none∧IsPair h TI (.ref i1) (.ref i2)∧(∃a b,IsPair h TO a b)∧h.IsListIter i1 a1 i∧h.IsTupleIter i2 a2 i) where
 mem:=by simp
 obj:=fun i h st b hb=>by
  obtain ⟨hz,hTI,⟨p,q,hTO⟩,⟨o1,e1,c1,d1⟩,⟨o2,e2,c2,d2⟩⟩:=st;simp only [List.mem_cons,List.mem_nil_iff,or_false] at hb
  rcases hb with rfl|rfl|rfl|rfl|rfl
  ·exact ⟨_,hz,fun v y=>by have y':Data.fields _=Data.cell v:=y;cases y'⟩
  ·exact ⟨_,hTI,fun v y=>by have y':Data.seq _ _=Data.cell v:=y;cases y'⟩
  ·exact ⟨_,hTO,fun v y=>by have y':Data.seq _ _=Data.cell v:=y;cases y'⟩
  ·exact ⟨o1,e1,fun v y=>by rw [d1] at y;cases y⟩
  ·exact ⟨o2,e2,fun v y=>by rw [d2] at y;cases y⟩
 keep:=fun i h h' st k=>by
  obtain ⟨hz,hTI,⟨p,q,hTO⟩,h1,h2⟩:=st;exact ⟨k _ (by simp) _ hz,k _ (by simp) _ hTI,⟨p,q,k _ (by simp) _ hTO⟩,h1.at fun o e=>k _ (by simp) o e,h2.at fun o e=>k _ (by simp) o e⟩
 item:=by
  intro X hP hw hK hc i pins s σ H E I hf st hg;subst hP hw hK;obtain ⟨hz,hTI,⟨p,q,hTO⟩,h1,h2⟩:=st;obtain ⟨xs,ys,x,y,hq1,hq2,hx,hy⟩:=hg;obtain ⟨its1,rv1,p1,_⟩:=I.list hq1;obtain ⟨its2,rv2,p2,_⟩:=I.tuple hq2;obtain ⟨u,hu,ru⟩:=rv1.get hx;obtain ⟨v,hv,rv⟩:=rv2.get hy;have hTz:s.TypeIs (.ref z) "zip":=⟨_,hz,rfl⟩;unfold pyNext;refine wpAny_bind (wpAny_attempt (wpAny_callSpecial?_slot (name:=Str.ofString "__next__") hTz F.slot_zip_next (wpAny_call_entry F.slot_zip_next hTz F.entry_zip_next (NG D hz hTI hTO h1 h2 p1.isList (show s.heap.IsTuple a2 its2.toArray from p2) (u:=u) (v:=v) (by simpa using hu) (by simpa using hv) fun h' hz' hTO' h1' h2' hT' hk=>wpAny_pure ?_) (F.args_zip_next_1 _))));refine ⟨_,rfl,?_⟩;refine wpAny_letOwnedTupleGo_zip hz' fun hp2 hz2 hs2=>?_
  have lt:∀{b:Addr} {o:Obj},s.heap.get? b=some o→b<s.heap.objs.size:=fun e=>Heap.lt_size e
  have nT:s.heap.objs.size≠z:=Nat.ne_of_gt (lt hz);have k2:∀b o,b∉[z,TI,TO,i1,i2]→s.heap.get? b=some o→hp2.get? b=some o:=fun b o hb e=>by
   simp only [List.mem_cons,List.mem_nil_iff,or_false,not_or] at hb;exact (hs2.2 b hb.1).trans (hk b o hb.1 hb.2.2.1 hb.2.2.2.1 hb.2.2.2.2 e)
  have hT2:IsPair hp2 s.heap.objs.size u v:=(hs2.2 _ nT).trans hT';refine ⟨.ref s.heap.objs.size,upd H s.heap.objs.size (.tup [x,y]),I.laidN (t':=s.toks) (fp:=[z,TI,TO,i1,i2]) k2 hf (Nat.le_refl _) ⟨(by show 2≤sizeLine;decide),[u,v],.cons ru (.cons rv .nil),⟨_,hT2,rfl,_,rfl⟩⟩,rfl,?_,?_,?_⟩
  ·exact ⟨_,x,y,rfl,I.hok.fresh (Nat.le_refl _),rfl,fun zs hzs=>by rw [I.list_inj hzs hq1];exact hx,fun zs hzs=>by rw [I.tuple_inj hzs hq2];exact hy⟩
  ·refine ⟨hz2,(hs2.2 _ D.TIz).trans (hk _ _ D.TIz D.TITO D.TIi1 D.TIi2 hTI),⟨_,_,(hs2.2 _ D.TOz).trans hTO'⟩,h1'.at fun o e=>(hs2.2 _ D.i1z).trans e,h2'.at fun o e=>(hs2.2 _ D.i2z).trans e⟩
  ·intro b hb;have:=(hf b hb).1;rw [jG]
   ·exact this
   ·intro e;simp only [List.mem_cons,List.mem_nil_iff,or_false] at hb;obtain ⟨o1,e1,_⟩:=h1;obtain ⟨o2,e2,_⟩:=h2
    rcases hb with rfl|rfl|rfl|rfl|rfl
    ·exact nT e.symm
    ·exact Nat.ne_of_lt (lt hTI) e
    ·exact Nat.ne_of_lt (lt hTO) e
    ·exact Nat.ne_of_lt (lt e1) e
    ·exact Nat.ne_of_lt (lt e2) e
 done:=by
  intro X hP hw hK hc i pins s σ H E I hf st hg;subst hP hw hK;obtain ⟨hz,hTI,⟨p,q,hTO⟩,h1,h2⟩:=st;obtain ⟨xs,ys,hq1,hq2,he⟩:=hg;obtain ⟨its1,rv1,p1,_⟩:=I.list hq1;obtain ⟨its2,rv2,p2,_⟩:=I.tuple hq2;have l1:=rv1.length;have l2:=rv2.length;have hTz:s.TypeIs (.ref z) "zip":=⟨_,hz,rfl⟩;unfold pyNext;refine wpAny_bind (wpAny_attempt (wpAny_callSpecial?_slot (name:=Str.ofString "__next__") hTz F.slot_zip_next (wpAny_call_entry F.slot_zip_next hTz F.entry_zip_next (OJ (I.ok.hd hc) D hz hTI hTO h1 h2 p1.isList (show s.heap.IsTuple a2 its2.toArray from p2) (he.imp (fun e=>by simp;omega) (fun e=>by simp;omega)) fun h' e hk ho=>?_) (F.args_zip_next_1 _))));obtain ⟨o,ho,hco⟩:=ho;refine wpAny_bind (wpAny_isInstance (T:="StopIteration") (b:=true) ⟨o,ho,hco⟩ isSubtype_stop (wpAny_pure ⟨rfl,I.turnedN (t':=s.toks) (fp:=[z,TI,TO,i1,i2]) (fun b o hb e=>?_) hf⟩));simp only [List.mem_cons,List.mem_nil_iff,or_false,not_or] at hb;exact hk b o hb.1 hb.2.2.1 hb.2.2.2.1 hb.2.2.2.2 e
 self:=fun _ _ _ _ _ st h=>wpAny_pyIter_zip st.1 h
section
variable {X:Cx} {elts:List Expr} {x1:Nat} {tpos:Pos}
abbrev mD (h:Heap) (a:Addr):Heap:=h.push {cls:=.type "list_iterator",data:=.fields #[.ref a,.int 0 0]}
abbrev mC (h:Heap) (a b:Addr):Heap:=(mD h a).push {cls:=.type "tuple_iterator",data:=.fields #[.ref b,.int 0 0]}
abbrev mB (h:Heap) (a b:Addr):Heap:=(mC h a b).push {cls:=.type "tuple",data:=.seq #[.ref h.objs.size,.ref (mD h a).objs.size]}
abbrev l9 (h:Heap) (a b:Addr):Heap:=(mB h a b).push {cls:=.type "tuple",data:=.seq #[.none,.none]}
abbrev dR (h:Heap) (a b:Addr):Heap:=(l9 h a b).push {cls:=.type "zip",data:=.fields #[.none,.bool false,.bool false,.ref (mC h a b).objs.size,.ref (mB h a b).objs.size]}
theorem MU (a b:Addr) (us vs:Array Value):Meets (Builtin.«zip.__new__» ⟨[.type "zip",.ref a,.ref b],[]⟩) (fun _ R s=>s.heap.IsList a us∧s.heap.IsTuple b vs∧R (.ok (.ret (.ref (l9 s.heap a b).objs.size))) {s with heap:=dR s.heap a b}):=.of_wp fun prog w A R s h=>by
  obtain ⟨hp,g,d,tk,os⟩:=s;obtain ⟨la,tb,h⟩:=h;have hsub:=sub_zip
  have A1:Heap.IsList (Shared.heap ⟨hp,g,d,tk,os⟩) a us:=la;have A2:Heap.IsTuple (Shared.heap ⟨hp.push {cls:=.type "list_iterator",data:=.fields #[.ref a,.int 0 0]},g,d,tk,os⟩) b vs:=Heap.IsTuple.push tb _
  wp_walk using wpAny_pyIter_list A1,wpAny_pyIter_tuple A2
  exact ⟨_,rfl,h⟩
theorem OF {prog:Program} {w:World} {A:Around} {s:Shared} {E:Value→Shared→Prop} {a b:Addr} {us vs:Array Value} {Q:Value→Shared→Prop} (la:s.heap.IsList a us) (tb:s.heap.IsTuple b vs)
  (q:∀h',IsZip h' (s.heap.objs.size+4) (s.heap.objs.size+2) (s.heap.objs.size+3) .none→IsPair h' (s.heap.objs.size+2) (.ref s.heap.objs.size) (.ref (s.heap.objs.size+1))→IsPair h' (s.heap.objs.size+3) .none .none→h'.IsListIter s.heap.objs.size a 0→h'.IsTupleIter (s.heap.objs.size+1) b 0→(∀c o,s.heap.get? c=some o→h'.get? c=some o)→Q (.ref (s.heap.objs.size+4)) {s with heap:=h'}) :
  wpAny (model prog w) A (call (.type "zip") [.ref a,.ref b]) Q E s:=by
 refine callType_new F.called_zip (by decide) (F.typeCall_zip_2 _ _) (F.newCall_zip_2 _ _) (fun obj=>F.args_object_init_3 obj _ _) F.entry_zip_new (MU a b us vs) ⟨la,tb,?_⟩;have y1:(mD s.heap a).objs.size=s.heap.objs.size+1:=Heap.size_push ..;have y2:(mC s.heap a b).objs.size=s.heap.objs.size+2:=by rw [Heap.size_push,y1]
 have y3:(mB s.heap a b).objs.size=s.heap.objs.size+3:=by rw [Heap.size_push,y2]
 have y4:(l9 s.heap a b).objs.size=s.heap.objs.size+4:=by rw [Heap.size_push,y3]
 have up:∀{h:Heap} {o:Obj} {c:Addr} {v:Obj},h.get? c=some v→(h.push o).get? c=some v:=fun e=>Heap.get?_push_of_some _ e
 have g5:(dR s.heap a b).get? (l9 s.heap a b).objs.size=some _:=Heap.get?_push_size _ rfl;have g4:(dR s.heap a b).get? (mB s.heap a b).objs.size=some _:=up (Heap.get?_push_size _ rfl);have g3:(dR s.heap a b).get? (mC s.heap a b).objs.size=some _:=up (up (Heap.get?_push_size _ rfl));have g2:(dR s.heap a b).get? (mD s.heap a).objs.size=some _:=up (up (up (Heap.get?_push_size _ rfl)));have g1:(dR s.heap a b).get? s.heap.objs.size=some _:=up (up (up (up (Heap.get?_push_size _ rfl))));show _∧_;rw [y2,y3,y4] at g5;rw [y1,y2] at g3;rw [y3] at g4;rw [y1] at g2;rw [y4]
 exact ⟨⟨_,g5,rfl⟩,q _ g5 g3 g4 ⟨_,g1,rfl,rfl⟩ ⟨_,g2,rfl,rfl⟩ fun c o x=>up (up (up (up (up x))))⟩
def UB (K:PySem.W.Frag) (ta:TA):TI:=fun σ H R=>ta σ H fun vs H1=>∃a1 a2,vs=[.ref a1,.ref a2]∧(∃xs,SqL K H1 a1 xs)∧(∃ys,SqT K H1 a2 ys)∧R (uF K a1 a2) H1
theorem CS {a b:Expr} {ta:TA} {p pos:Pos} (hg:Gl X "zip") (hm:X.mg "zip"=none) (ha:PA X [a,b] ta) (hs:starEach [a,b] X.env=[(false,eval a X.env),(false,eval b X.env)]:=by rfl) (hs2:starEach [b] X.env=[(false,eval b X.env)]:=by rfl) :
  PI X (.Tuple elts x1 tpos) (.Call (.Name "zip" p) [a,b] [] pos) (UB X.K ta):=by
 intro pins s σ H R I h;refine Call_ (Q6 I hg hm boot_zip (PyProof.Rows.callWith_type1 (jN (ha pos pins s σ H _ I h) fun us s1 ⟨vs,H1,I1,r1,q1⟩=>?_) (by rw [hs,hs2]) (by rw [hs2];rfl)));obtain ⟨a1,a2,e,⟨xs,hq1⟩,⟨ys,hq2⟩,q⟩:=q1;subst e;cases r1 with
 |cons r rr =>
  cases rr with
  |cons r' rr =>
   cases rr;cases r;cases r';obtain ⟨its1,rv1,p1,_⟩:=I1.list hq1;obtain ⟨its2,rv2,p2,_⟩:=I1.tuple hq2;have p2:s1.heap.IsTuple a2 its2.toArray:=p2;have lt1:a1<s1.heap.objs.size:=by obtain ⟨o,e,_⟩:=p1.isList;exact Heap.lt_size e
   have lt2:a2<s1.heap.objs.size:=by obtain ⟨o,e,_⟩:=p2;exact Heap.lt_size e
   refine OF p1.isList p2 fun h' hz hTI hTO h1 h2 hk=>?_
   refine wpAny_pyIter_zip hz ?_;have D:ZipApart (s1.heap.objs.size+4) (s1.heap.objs.size+2) (s1.heap.objs.size+3) s1.heap.objs.size (s1.heap.objs.size+1) a1 a2:=by
    constructor<;>(intro e;simp only [Addr] at *;omega)
   refine ⟨_,_,_,_,H1,rfl,I1.kept (t':=s1.toks) hk,NH D,⟨hz,hTI,⟨_,_,hTO⟩,h1,h2⟩,fun b hb=>?_,q⟩;simp only [List.mem_cons,List.mem_nil_iff,or_false] at hb;have hb':s1.heap.objs.size≤b:=by rcases hb with rfl|rfl|rfl|rfl|rfl<;>simp only [Addr] at *<;>omega
   exact I1.fpOk hb' (I1.hok.fresh hb')
end
set_option maxRecDepth 100000
section
variable {X:Cx}
def SK:V→List V→Hp→VK→Prop:=fun x vs H Q=>∃(l:Addr) (xs:List V) (y:V),x=.ref l∧vs=[y]∧H l=some (.lst xs)∧yP y=true∧xs.all yP=true∧Q (.int ((xs.countP fun z=>y7 z y:Nat):Int)) H
theorem xE {y:V}:∀{xs:List V} {us:List Value},Vals xs us→xs.all yP=true→us.countP (mH y)=xs.countP fun z=>y7 z y
 |[],_,r,_=>by cases r;rfl
 |x::xs,_,r,f=>by
  cases r with
  |@cons _ u _ us ru rt =>
   rw [List.all_cons,Bool.and_eq_true] at f;have ih:=xE (y:=y) rt f.2;rw [List.countP_cons,List.countP_cons,ih,ED ru f.1]
theorem O3:uU X "list.count" SK:=by
 intro pins s σ H x vs v us Q I rx rv h;obtain ⟨l,xs,y,rfl,rfl,hH,fy,fx,q⟩:=h;cases rx;obtain ⟨u,rfl,ru⟩:=rv.one;obtain ⟨z,its,n,r,hl,e⟩:=I.lstM hH;refine call_meets F.slot_list_count ⟨_,e,rfl⟩ F.entry_list_count (F.args_list_count_2 _ _) (SeqAt.list_countAt l its.toArray n none #[] u (mH y)) ⟨e,fun w hw=>BO ru fy r fx w (by simpa using hw),?_⟩;rw [show its.toArray.toList=its from rfl,xE r fx];exact ⟨.int ((xs.countP fun z=>y7 z y:Nat):Int),H,I.tok _,⟨_,rfl⟩,q⟩
theorem wQ {K:PySem.W.Frag} {a1 a2 D:Addr} {xs ys:List V} {g:TG} {tc:TT} {te:TE} {σ₀:St} {H:Hp} {Q:Hp→Prop} (Pv:Nat→St→Hp→Prop) (h0:Pv 0 σ₀ (upd H D (.lst []))) (hl:∀i σ H,i≤xs.length→Pv i σ H→SqL K H a1 xs∧SqT K H a2 ys) (hn:xs.length=ys.length)
  (hs:∀i x y σ H T,xs[i]?=some x→ys[i]?=some y→Pv i σ H→H T=none→g (.ref T) σ (upd H T (.tup [x,y])) fun σ2 H3=>tc σ2 H3 fun b H4=>if b=true then te σ2 H4 fun v H5=>∃zs,H5 D=some (.lst zs)∧zs.length<sizeLine∧Pv (i+1) σ2 (upd H5 D (.lst (zs++[v]))) else Pv (i+1) σ2 H4)
  (hd:∀σ H,Pv xs.length σ H→Q H):QO D (uF K a1 a2) g tc te σ₀ H Q:=by
 refine ⟨fun i m σ H=>m=xs.length - i∧i≤xs.length∧Pv i σ H,⟨xs.length,by simp,Nat.zero_le _,h0⟩,?_⟩;rintro i m σ H ⟨rfl,hi,p⟩;obtain ⟨q1,q2⟩:=hl i σ H hi p
 by_cases hlt:i<xs.length
 ·have hlt2:i<ys.length:=by omega
  refine .inr ⟨⟨xs,ys,_,_,q1,q2,List.getElem?_eq_getElem hlt,List.getElem?_eq_getElem hlt2⟩,Pv (i+1),fun σ' H' p'=>⟨xs.length - (i+1),by omega,rfl,hlt,p'⟩,fun v H' hy=>?_⟩;obtain ⟨T,x,y,rfl,hT,rfl,e1,e2⟩:=hy;exact hs i x y σ H T (e1 xs q1) (e2 ys q2) p hT
 ·exact .inl ⟨⟨xs,ys,q1,q2,.inl (by omega)⟩,hd σ H (by rw [show xs.length=i by omega];exact p)⟩
end
end L2
namespace L2
open PySem PySem.Spec PyProof.Rows
section
variable {prog:Program} {w:World} {A:Around} {s:Shared} {E:Value→Shared→Prop}
end
section
variable {X:Cx} {pins:List (Addr×Obj)} {σ:List (Option V)} {H:Hp} {s:Shared} {h':Heap}
end
section
variable {X:Cx}
end
section
variable {prog:Program} {w:World} {A:Around} {s:Shared} {E:Value→Shared→Prop}
end
section
variable {X:Cx} {e se:Expr} {te:TE} {lo hi:Option Expr} {tl th tk:TO} {pos p2:Pos}
end
section
variable {X:Cx}
end
section
theorem wR {K:PySem.W.Frag} {a D:Addr} {xs:List V} {g:TG} {tc:TT} {te:TE} {σ₀:St} {H:Hp} {Q:Hp→Prop} (Pv:Nat→St→Hp→Prop) (h0:Pv 0 σ₀ (upd H D (.lst []))) (hl:∀i σ H,i≤xs.length→Pv i σ H→SqL K H a xs)
  (hs:∀i x σ H T,xs[i]?=some x→Pv i σ H→H T=none→g (.ref T) σ (upd H T (.tup [.int (i:Int),x])) fun σ2 H3=>tc σ2 H3 fun b H4=>if b=true then te σ2 H4 fun v H5=>∃zs,H5 D=some (.lst zs)∧zs.length<sizeLine∧Pv (i+1) σ2 (upd H5 D (.lst (zs++[v]))) else Pv (i+1) σ2 H4)
  (hd:∀σ H,Pv xs.length σ H→Q H):QO D (uV K a) g tc te σ₀ H Q:=by
 refine ⟨fun i m σ H=>m=xs.length - i∧i≤xs.length∧Pv i σ H,⟨xs.length,by simp,Nat.zero_le _,h0⟩,?_⟩;rintro i m σ H ⟨rfl,hi,p⟩;have q1:=hl i σ H hi p
 by_cases hlt:i<xs.length
 ·refine .inr ⟨⟨xs,_,q1,List.getElem?_eq_getElem hlt⟩,Pv (i+1),fun σ' H' p'=>⟨xs.length - (i+1),by omega,rfl,hlt,p'⟩,fun v H' hy=>?_⟩;obtain ⟨T,x,rfl,hT,rfl,e1⟩:=hy;exact hs i x σ H T (e1 xs q1) p hT
 ·exact .inl ⟨⟨xs,q1,by omega⟩,hd σ H (by rw [show xs.length=i by omega];exact p)⟩
end
section
variable {prog:Program} {w:World} {A:Around} {s:Shared} {E:Value→Shared→Prop}
theorem wJ {h h':Heap} {p:Addr} {vs:Array Value} (ht:h.IsTuple p vs) (k:∀o,h.get? p=some o→h'.get? p=some o):h'.IsTuple p vs:=by obtain ⟨o,e,c⟩:=ht;exact ⟨o,k o e,c⟩
theorem OC {it p:Addr} {vs:Array Value} (hh:A.handled=none) (hne:it≠p):Draws prog w A it [it,p] vs.size (fun i x=>vs[i]?=some x) (fun i h=>h.IsTupleIter it p i∧h.IsTuple p vs) where
 live:=fun i h st=>by obtain ⟨⟨o,e,_⟩,_⟩:=st;exact ⟨o,e⟩
 frame:=fun i h h' st k=>⟨st.1.at fun o e=>k _ (by simp) o e,wJ st.2 fun o e=>k _ (by simp) o e⟩
 item:=fun i s Q E hi st hQ=>by
  refine wW st.1 st.2 (Array.getElem?_eq_getElem hi) fun h' h1 sb=>?_
  exact hQ _ h' s.toks (Array.getElem?_eq_getElem hi) ⟨h1,wJ st.2 fun o e=>(sb.2 _ hne.symm).trans e⟩ sb
 done:=fun s Q E st hE=>pP hh st.1 st.2 (by simp) hE
abbrev mG (h:Heap) (q:Addr):Heap:=h.push {cls:=.type "tuple_iterator",data:=.fields #[.ref q,.int 0 0]}
abbrev uN (h:Heap) (q:Addr):Heap:=(mG h q).push {cls:=.type "enumerate",data:=.fields #[.none,.bool false,.ref h.objs.size,rawInt 0,.none,.none]}
theorem MC (q:Addr) (us:Array Value) (m:Nat) (dd:Option Addr) (ss:Array (Option Value)):Meets (Builtin.«enumerate.__new__» ⟨[.type "enumerate",.ref q],[]⟩) (fun _ R s=>s.heap.get? q=some {cls:=.type "tuple",dict:=dd,data:=.seq us m,slots:=ss}∧R (.ok (.ret (.ref (mG s.heap q).objs.size))) {s with heap:=uN s.heap q}):=.of_wp fun prog w A R s h=>by
 obtain ⟨hp,g,d,tk,os⟩:=s;obtain ⟨hq,h⟩:=h;have hsub:=sub_enumerate
 have B1:Heap.IsTuple (Shared.heap ⟨hp,g,d,tk,os⟩) q us:=⟨_,hq,rfl,m,rfl⟩
 wp_walk using AutoSeq1.wpAny_loadPart' hq
 refine wpAny_stack_any fun st=>wpAny_pure ?_;split
 ·rename_i c _ _ _ _ _;cases (c == Value.type "enumerate")<;>(wp_walk using AutoSeq1.wpAny_loadPart' hq,wpAny_pyIter_tuple B1;exact ⟨_,rfl,h⟩)
 ·wp_walk using AutoSeq1.wpAny_loadPart' hq,wpAny_pyIter_tuple B1;exact ⟨_,rfl,h⟩
theorem NC {q:Addr} {us:Array Value} {Q:Value→Shared→Prop} (hL:s.heap.IsTuple q us)
  (k:∀h',IsEnum h' (s.heap.objs.size+1) s.heap.objs.size 0 .none→h'.IsTupleIter s.heap.objs.size q 0→(∀b o,s.heap.get? b=some o→h'.get? b=some o)→Q (.ref (s.heap.objs.size+1)) {s with heap:=h'}):wpAny (model prog w) A (call (.type "enumerate") [.ref q]) Q E s:=by
 obtain ⟨⟨c,dd,dt,ss⟩,hq,hc,m,hd⟩:=hL;have hc:c=.type "tuple":=hc;have hd:dt=.seq us m:=hd;subst hc;subst hd
 refine callType_new F.called_enumerate (by decide) (F.typeCall_enumerate_1 _) (F.newCall_enumerate_1 _) (fun obj=>F.args_object_init_2 obj _) F.entry_enumerate_new (MC q us m dd ss) ⟨hq,?_⟩;have y1:(mG s.heap q).objs.size=s.heap.objs.size+1:=Heap.size_push ..;have g2:(uN s.heap q).get? (mG s.heap q).objs.size=some _:=Heap.get?_push_size _ rfl;have g1:(uN s.heap q).get? s.heap.objs.size=some _:=Heap.get?_push_of_some _ (Heap.get?_push_size _ rfl);show _∧_;rw [y1] at g2 ⊢;exact ⟨⟨_,g2,rfl⟩,k _ g2 ⟨_,g1,rfl,rfl⟩ fun b o x=>Heap.get?_push_of_some _ (Heap.get?_push_of_some _ x)⟩
end
def uG (K:PySem.W.Frag) (a:Addr):It :=
 ⟨fun i H=>∃xs x,SqT K H a xs∧xs[i]?=some x,
  fun i H v H'=>∃T x,v=.ref T∧H T=none∧H'=upd H T (.tup [.int (i:Int),x])∧∀xs,SqT K H a xs→xs[i]?=some x,
  fun i H=>∃xs,SqT K H a xs∧xs.length≤i⟩
theorem MK {P:Program} {w:World} {K:PySem.W.Frag} {elts:List Expr} {x1:Nat} {pos:Pos} {a e it:Addr} (hei:e≠it) (hea:e≠a) (hia:it≠a) :
  Turn P w K (.Tuple elts x1 pos) (uG K a) [e,it] e (fun i h=>(∃old,IsEnum h e it i old)∧h.IsTupleIter it a i) where
 mem:=by simp
 obj:=fun i h st b hb=>by
  obtain ⟨⟨old,he⟩,⟨o1,e1,c1,d1⟩⟩:=st;simp only [List.mem_cons,List.mem_nil_iff,or_false] at hb
  rcases hb with rfl|rfl
  ·exact ⟨_,he,fun v y=>by have y':Data.fields _=Data.cell v:=y;cases y'⟩
  ·exact ⟨o1,e1,fun v y=>by rw [d1] at y;cases y⟩
 keep:=fun i h h' st k=>by
  obtain ⟨⟨old,he⟩,h1⟩:=st;exact ⟨⟨old,k _ (by simp) _ he⟩,h1.at fun o e=>k _ (by simp) o e⟩
 item:=by
  intro X hP hw hK hc i pins s σ H E I hf st hg;subst hP hw hK;obtain ⟨⟨old,he⟩,h1⟩:=st;obtain ⟨xs,x,hq1,hx⟩:=hg;obtain ⟨its1,rv1,p1,_⟩:=I.tuple hq1;have p1:s.heap.IsTuple a its1.toArray:=p1;obtain ⟨u,hu,ru⟩:=rv1.get hx;have hlt:i<its1.toArray.size:=by rw [List.size_toArray];exact (List.getElem?_eq_some_iff.mp hu).1
  refine wpAny_pyNext_enum_itemD (OC (A:=X.A.in1) (I.ok.hd hc) hia) he ⟨h1,p1⟩ hlt hei (by simp [hei,hea]) fun u' h' tk hu' he' st' hT' hsz hk=>?_
  have eu:u'=u:=by
   have e1:its1.toArray[i]?=some u':=hu';rw [List.getElem?_toArray,hu] at e1;exact (Option.some.inj e1).symm
  subst eu;refine ⟨_,rfl,?_⟩;refine wpAny_letOwnedTupleGo_enum he' fun h2 he2 hs2=>?_
  have lt:∀{b:Addr} {o:Obj},s.heap.get? b=some o→b<s.heap.objs.size:=fun e=>Heap.lt_size e
  have nT:s.heap.objs.size≠e:=Nat.ne_of_gt (lt he);have k2:∀b o,b∉[e,it]→s.heap.get? b=some o→h2.get? b=some o:=fun b o hb q=>by
   simp only [List.mem_cons,List.mem_nil_iff,or_false,not_or] at hb;exact (hs2.2 b hb.1).trans (hk b o hb.1 hb.2 q)
  have hT2:=(hs2.2 _ nT).trans hT';refine ⟨.ref s.heap.objs.size,upd H s.heap.objs.size (.tup [.int (i:Int),x]),I.laidN (t':=tk+1) (fp:=[e,it]) k2 hf (Nat.le_refl _) ⟨(by show 2≤sizeLine;decide),[.int i tk,u'],.cons ⟨_,rfl⟩ (.cons ru .nil),⟨_,hT2,rfl,_,rfl⟩⟩,rfl,?_,?_,?_⟩
  ·exact ⟨_,x,rfl,I.hok.fresh (Nat.le_refl _),rfl,fun zs hzs=>by rw [I.tuple_inj hzs hq1];exact hx⟩
  ·exact ⟨⟨_,he2⟩,st'.1.at fun o q=>(hs2.2 _ hei.symm).trans q⟩
  ·intro b hb;have:=(hf b hb).1;rw [jG]
   ·exact this
   ·intro q;simp only [List.mem_cons,List.mem_nil_iff,or_false] at hb;obtain ⟨o1,e1,_⟩:=h1
    rcases hb with rfl|rfl
    ·exact nT q.symm
    ·exact Nat.ne_of_lt (lt e1) q
 done:=by
  intro X hP hw hK hc i pins s σ H E I hf st hg;subst hP hw hK;obtain ⟨⟨old,he⟩,h1⟩:=st;obtain ⟨xs,hq1,hx⟩:=hg;obtain ⟨its1,rv1,p1,_⟩:=I.tuple hq1;have p1:s.heap.IsTuple a its1.toArray:=p1;have l1:=rv1.length;unfold pyNext;refine wpAny_bind (wpAny_attempt (wpAny_callSpecial?_slot (name:=Str.ofString "__next__") ⟨_,he,rfl⟩ F.slot_enumerate_next (wpAny_call_entry F.slot_enumerate_next ⟨_,he,rfl⟩ F.entry_enumerate_next ?_ (F.args_enumerate_next_1 _))));show wpAny _ _ (field (.ref e) 2 >>= _) _ _ _;refine wpAny_bind (wpAny_field he rfl (x:=.ref it) rfl ?_);refine wpAny_bind (pP (A:=X.A.in1) (I.ok.hd hc) h1 p1 (by simp;omega) fun h' z hk hz=>?_);obtain ⟨oz,ez,cz⟩:=hz;refine wpAny_bind (wpAny_isInstance (T:="StopIteration") (b:=true) ⟨oz,ez,cz⟩ isSubtype_stop ?_);refine wpAny_pure ⟨rfl,I.turnedN (t':=s.toks) (fp:=[e,it]) (fun b o hb q=>?_) hf⟩;simp only [List.mem_cons,List.mem_nil_iff,or_false,not_or] at hb;exact hk b o hb.2 q
 self:=fun _ _ _ _ _ st h=>by obtain ⟨⟨old,he⟩,_⟩:=st;exact wpAny_pyIter_enum he h
section
variable {X:Cx} {elts:List Expr} {x1:Nat} {tpos:Pos}
def S7 (K:PySem.W.Frag) (ta:TA):TI:=fun σ H R=>ta σ H fun vs H1=>∃a,vs=[.ref a]∧(∃xs,SqT K H1 a xs)∧R (uG K a) H1
theorem OR {a:Expr} {ta:TA} {p pos:Pos} (hg:Gl X "enumerate") (hm:X.mg "enumerate"=none) (ha:PA X [a] ta) (hs:starEach [a] X.env=[(false,eval a X.env)]:=by rfl) :
  PI X (.Tuple elts x1 tpos) (.Call (.Name "enumerate" p) [a] [] pos) (S7 X.K ta):=by
 intro pins s σ H R I h;refine Call_ (Q6 I hg hm boot_enumerate (PyProof.Rows.callWith_type1 (jN (ha pos pins s σ H _ I h) fun us s1 ⟨vs,H1,I1,r1,q1⟩=>?_) hs rfl));obtain ⟨a1,e,⟨xs,hq1⟩,q⟩:=q1;subst e;cases r1 with
 |cons r rr =>
  cases rr;cases r;obtain ⟨its1,rv1,p1,_⟩:=I1.tuple hq1;have p1:s1.heap.IsTuple a1 its1.toArray:=p1;have lt1:a1<s1.heap.objs.size:=by obtain ⟨o,e,_⟩:=p1;exact Heap.lt_size e
  refine NC p1 fun h' he hit hk=>?_
  refine wpAny_pyIter_enum he ?_;refine ⟨_,_,_,_,H1,rfl,I1.kept (t':=s1.toks) hk,MK (Nat.succ_ne_self _) (by intro z;simp only [Addr] at *;omega) (by intro z;simp only [Addr] at *;omega),⟨⟨_,he⟩,hit⟩,fun b hb=>?_,q⟩;simp only [List.mem_cons,List.mem_nil_iff,or_false] at hb;have hb':s1.heap.objs.size≤b:=by rcases hb with rfl|rfl<;>simp only [Addr] at *<;>omega
  exact I1.fpOk hb' (I1.hok.fresh hb')
theorem L4 {K:PySem.W.Frag} {a D:Addr} {xs:List V} {g:TG} {tc:TT} {te:TE} {σ₀:St} {H:Hp} {Q:Hp→Prop} (Pv:Nat→St→Hp→Prop) (h0:Pv 0 σ₀ (upd H D (.lst []))) (hl:∀i σ H,i≤xs.length→Pv i σ H→SqT K H a xs)
  (hs:∀i x σ H T,xs[i]?=some x→Pv i σ H→H T=none→g (.ref T) σ (upd H T (.tup [.int (i:Int),x])) fun σ2 H3=>tc σ2 H3 fun b H4=>if b=true then te σ2 H4 fun v H5=>∃zs,H5 D=some (.lst zs)∧zs.length<sizeLine∧Pv (i+1) σ2 (upd H5 D (.lst (zs++[v]))) else Pv (i+1) σ2 H4)
  (hd:∀σ H,Pv xs.length σ H→Q H):QO D (uG K a) g tc te σ₀ H Q:=by
 refine ⟨fun i m σ H=>m=xs.length - i∧i≤xs.length∧Pv i σ H,⟨xs.length,by simp,Nat.zero_le _,h0⟩,?_⟩;rintro i m σ H ⟨rfl,hi,p⟩;have q1:=hl i σ H hi p
 by_cases hlt:i<xs.length
 ·refine .inr ⟨⟨xs,_,q1,List.getElem?_eq_getElem hlt⟩,Pv (i+1),fun σ' H' p'=>⟨xs.length - (i+1),by omega,rfl,hlt,p'⟩,fun v H' hy=>?_⟩;obtain ⟨T,x,rfl,hT,rfl,e1⟩:=hy;exact hs i x σ H T (e1 xs q1) p hT
 ·exact .inl ⟨⟨xs,q1,by omega⟩,hd σ H (by rw [show xs.length=i by omega];exact p)⟩
end
section
variable {X:Cx}
def TZ (K:PySem.W.Frag):R2:=fun x y H Q=>∃(a b:Addr) (xs ys:List V) (es:List Bool),x=.ref a∧y=.ref b∧SqT K H a xs∧SqT K H b ys∧xs.length=ys.length∧es.length=xs.length∧(∀j,j<xs.length→DEq K H (xs.getD j .non) (ys.getD j .non) (es.getD j true))∧Q (.bl (es.all id)) H
theorem RK (hu:X.A.units+1<cLine):qZ X (compareOp .Eq) (TZ X.K):=by
 intro pins s σ H x y v u Q I rx ry h;obtain ⟨a,b,xs,ys,es,rfl,rfl,ha,hb,hlen,hes,hd,q⟩:=h;cases rx;cases ry;obtain ⟨its,r,pl,hz⟩:=I.tuple ha;obtain ⟨its2,r2,pl2,hz2⟩:=I.tuple hb;have hl:=r.length;have hl2:=r2.length;refine SeqAt.eq_tupleAt (e:=fun j=>es.getD j true) pl pl2 (by omega) (fun j h1 h2=>?_) ⟨.bl _,H,I,rfl,?_⟩
 ·exact (hd j (by rw [hl];simpa using h1)).at I (ZI r h1) (ZI r2 h2) hu
 ·have e:((List.range (min its.toArray.size its2.toArray.size)).all (fun j=>es.getD j true)&&its.toArray.size == its2.toArray.size)=es.all id:=by
   rw [List.size_toArray,List.size_toArray,← hl,← hl2,← hlen,Nat.min_self,beq_self_eq_true,Bool.and_true,← hes,LP]
  rw [e];exact q
end
variable {K:PySem.W.Frag} {H:Hp} {i:Int} {v:V} {P:V→Prop}
theorem qB {p:Addr} {xs:List V} (h:SqL K H p xs) (t:vC xs i=some v) (q:P v):∃p' xs' i' v',V.ref p=.ref p'∧V.int i=.int i'∧SqL K H p' xs'∧vC xs' i'=some v'∧P v':=⟨p,xs,i,v,rfl,rfl,h,t,q⟩
theorem jY {p:Addr} {xs:List V} (h:SqT K H p xs) (t:vC xs i=some v) (q:P v):∃p' xs' i' v',V.ref p=.ref p'∧V.int i=.int i'∧SqT K H p' xs'∧vC xs' i'=some v'∧P v':=⟨p,xs,i,v,rfl,rfl,h,t,q⟩
theorem j8 {a C dx:Addr} {fs:List (Str×V)} {f:Str} (h:H a=some (.ins C dx fs)) (c:Cls K C) (n:NoAttr K C f) (l:fs.lookup f=some v) (q:P v):∃a' C' dx' fs' v',V.ref a=.ref a'∧H a'=some (.ins C' dx' fs')∧Cls K C'∧NoAttr K C' f∧fs'.lookup f=some v'∧P v':=⟨a,C,dx,fs,v,rfl,h,c,n,l,q⟩
theorem j9 {P:Int→Int→Prop} {j:Int} (h:P i j):∃a b,V.int i=V.int a∧V.int j=V.int b∧P a b:=⟨i,j,rfl,rfl,h⟩
end L2
namespace L2
open PySem PySem.Spec PyProof.Rows
section
variable {X:Cx}
end
end L2
namespace L2
theorem jA {α β:Type} {f:α→β} {b:β} {v:α} {B:α→Prop} (h:b=f v) (q:B v):∃x,b=f x∧B x:=⟨v,h,q⟩
open PySem PySem.Spec PyProof.Rows in
theorem jV {CX:vR} {P:Program} {w:World} {K:PySem.W.Frag} {mg:Str→Option Value} {base:Heap} {N:List Str} {qual:Str} {scope:Scope} {f:Addr} {cd:Value} {A:Around} {outer:List Env} {s:Shared} {H:Hp} {E:XK}:(vP CX P w K mg base N qual scope f cd A outer s H E).K=K:=rfl
open PySem PySem.Spec PyProof.Rows in
theorem jU {CX:vR} {P:Program} {w:World} {K:PySem.W.Frag} {mg:Str→Option Value} {base:Heap} {N:List Str} {qual:Str} {scope:Scope} {f:Addr} {cd:Value} {A:Around} {outer:List Env} {s:Shared} {H:Hp} {E:XK}:(vP CX P w K mg base N qual scope f cd A outer s H E).nox.K=K:=rfl
end L2
namespace L2
variable {α0 α1 α2:Sort _}
theorem v6 {P:α0→α1→α2→Prop} (a0:α0) (a1:α1) (a2:α2) (h:P a0 a1 a2):∃a0 a1 a2,P a0 a1 a2:=⟨a0,a1,a2,h⟩
variable {α3:Sort _}
theorem yA {P:α0→α1→α2→α3→Prop} (a0:α0) (a1:α1) (a2:α2) (a3:α3) (h:P a0 a1 a2 a3):∃a0 a1 a2 a3,P a0 a1 a2 a3:=⟨a0,a1,a2,a3,h⟩
variable {α4:Sort _}
theorem zW {P:α0→α1→α2→α3→α4→Prop} (a0:α0) (a1:α1) (a2:α2) (a3:α3) (a4:α4) (h:P a0 a1 a2 a3 a4):∃a0 a1 a2 a3 a4,P a0 a1 a2 a3 a4:=⟨a0,a1,a2,a3,a4,h⟩
variable {α5 α6:Sort _}
theorem VT {P:α0→α1→α2→α3→α4→α5→α6→Prop} (a0:α0) (a1:α1) (a2:α2) (a3:α3) (a4:α4) (a5:α5) (a6:α6) (h:P a0 a1 a2 a3 a4 a5 a6):∃a0 a1 a2 a3 a4 a5 a6,P a0 a1 a2 a3 a4 a5 a6:=⟨a0,a1,a2,a3,a4,a5,a6,h⟩
variable {α7:Sort _}
theorem J9 {P:α0→α1→α2→α3→α4→α5→α6→α7→Prop} (a0:α0) (a1:α1) (a2:α2) (a3:α3) (a4:α4) (a5:α5) (a6:α6) (a7:α7) (h:P a0 a1 a2 a3 a4 a5 a6 a7):∃a0 a1 a2 a3 a4 a5 a6 a7,P a0 a1 a2 a3 a4 a5 a6 a7:=⟨a0,a1,a2,a3,a4,a5,a6,a7,h⟩
variable {α8:Sort _}
theorem VS {P:α0→α1→α2→α3→α4→α5→α6→α7→α8→Prop} (a0:α0) (a1:α1) (a2:α2) (a3:α3) (a4:α4) (a5:α5) (a6:α6) (a7:α7) (a8:α8) (h:P a0 a1 a2 a3 a4 a5 a6 a7 a8):∃a0 a1 a2 a3 a4 a5 a6 a7 a8,P a0 a1 a2 a3 a4 a5 a6 a7 a8:=⟨a0,a1,a2,a3,a4,a5,a6,a7,a8,h⟩
variable {α9:Sort _}
theorem fP {P:α0→α1→α2→α3→α4→α5→α6→α7→α8→α9→Prop} (a0:α0) (a1:α1) (a2:α2) (a3:α3) (a4:α4) (a5:α5) (a6:α6) (a7:α7) (a8:α8) (a9:α9) (h:P a0 a1 a2 a3 a4 a5 a6 a7 a8 a9):∃a0 a1 a2 a3 a4 a5 a6 a7 a8 a9,P a0 a1 a2 a3 a4 a5 a6 a7 a8 a9:=⟨a0,a1,a2,a3,a4,a5,a6,a7,a8,a9,h⟩
variable {α10 α11:Sort _}
theorem t6 {P:α0→α1→α2→α3→α4→α5→α6→α7→α8→α9→α10→α11→Prop} (a0:α0) (a1:α1) (a2:α2) (a3:α3) (a4:α4) (a5:α5) (a6:α6) (a7:α7) (a8:α8) (a9:α9) (a10:α10) (a11:α11) (h:P a0 a1 a2 a3 a4 a5 a6 a7 a8 a9 a10 a11):∃a0 a1 a2 a3 a4 a5 a6 a7 a8 a9 a10 a11,P a0 a1 a2 a3 a4 a5 a6 a7 a8 a9 a10 a11:=⟨a0,a1,a2,a3,a4,a5,a6,a7,a8,a9,a10,a11,h⟩
variable {α12:Sort _}
theorem tZ {P:α0→α1→α2→α3→α4→α5→α6→α7→α8→α9→α10→α11→α12→Prop} (a0:α0) (a1:α1) (a2:α2) (a3:α3) (a4:α4) (a5:α5) (a6:α6) (a7:α7) (a8:α8) (a9:α9) (a10:α10) (a11:α11) (a12:α12) (h:P a0 a1 a2 a3 a4 a5 a6 a7 a8 a9 a10 a11 a12):∃a0 a1 a2 a3 a4 a5 a6 a7 a8 a9 a10 a11 a12,P a0 a1 a2 a3 a4 a5 a6 a7 a8 a9 a10 a11 a12:=⟨a0,a1,a2,a3,a4,a5,a6,a7,a8,a9,a10,a11,a12,h⟩
theorem bW {α13:Sort _} {P:α0→α1→α2→α3→α4→α5→α6→α7→α8→α9→α10→α11→α12→α13→Prop} (a0:α0) (a1:α1) (a2:α2) (a3:α3) (a4:α4) (a5:α5) (a6:α6) (a7:α7) (a8:α8) (a9:α9) (a10:α10) (a11:α11) (a12:α12) (a13:α13) (h:P a0 a1 a2 a3 a4 a5 a6 a7 a8 a9 a10 a11 a12 a13):∃a0 a1 a2 a3 a4 a5 a6 a7 a8 a9 a10 a11 a12 a13,P a0 a1 a2 a3 a4 a5 a6 a7 a8 a9 a10 a11 a12 a13:=⟨a0,a1,a2,a3,a4,a5,a6,a7,a8,a9,a10,a11,a12,a13,h⟩
theorem E4 {α13:Sort _} {α14:Sort _} {α15:Sort _} {P:α0→α1→α2→α3→α4→α5→α6→α7→α8→α9→α10→α11→α12→α13→α14→α15→Prop} (a0:α0) (a1:α1) (a2:α2) (a3:α3) (a4:α4) (a5:α5) (a6:α6) (a7:α7) (a8:α8) (a9:α9) (a10:α10) (a11:α11) (a12:α12) (a13:α13) (a14:α14) (a15:α15) (h:P a0 a1 a2 a3 a4 a5 a6 a7 a8 a9 a10 a11 a12 a13 a14 a15):∃a0 a1 a2 a3 a4 a5 a6 a7 a8 a9 a10 a11 a12 a13 a14 a15,P a0 a1 a2 a3 a4 a5 a6 a7 a8 a9 a10 a11 a12 a13 a14 a15:=⟨a0,a1,a2,a3,a4,a5,a6,a7,a8,a9,a10,a11,a12,a13,a14,a15,h⟩
variable {A0 A1 A2:Prop}
theorem y8 (h0:A0) (h1:A1) (h2:A2):A0∧A1∧A2:=⟨h0,h1,h2⟩
variable {A3:Prop}
theorem yW (h0:A0) (h1:A1) (h2:A2) (h3:A3):A0∧A1∧A2∧A3:=⟨h0,h1,h2,h3⟩
variable {A4:Prop}
theorem yV (h0:A0) (h1:A1) (h2:A2) (h3:A3) (h4:A4):A0∧A1∧A2∧A3∧A4:=⟨h0,h1,h2,h3,h4⟩
variable {A5:Prop}
theorem yE (h0:A0) (h1:A1) (h2:A2) (h3:A3) (h4:A4) (h5:A5):A0∧A1∧A2∧A3∧A4∧A5:=⟨h0,h1,h2,h3,h4,h5⟩
variable {A6:Prop}
theorem Z7 (h0:A0) (h1:A1) (h2:A2) (h3:A3) (h4:A4) (h5:A5) (h6:A6):A0∧A1∧A2∧A3∧A4∧A5∧A6:=⟨h0,h1,h2,h3,h4,h5,h6⟩
variable {A7:Prop}
theorem fX (h0:A0) (h1:A1) (h2:A2) (h3:A3) (h4:A4) (h5:A5) (h6:A6) (h7:A7):A0∧A1∧A2∧A3∧A4∧A5∧A6∧A7:=⟨h0,h1,h2,h3,h4,h5,h6,h7⟩
variable {A8:Prop}
theorem uQ (h0:A0) (h1:A1) (h2:A2) (h3:A3) (h4:A4) (h5:A5) (h6:A6) (h7:A7) (h8:A8):A0∧A1∧A2∧A3∧A4∧A5∧A6∧A7∧A8:=⟨h0,h1,h2,h3,h4,h5,h6,h7,h8⟩
theorem U9 {A9:Prop} (h0:A0) (h1:A1) (h2:A2) (h3:A3) (h4:A4) (h5:A5) (h6:A6) (h7:A7) (h8:A8) (h9:A9):A0∧A1∧A2∧A3∧A4∧A5∧A6∧A7∧A8∧A9:=⟨h0,h1,h2,h3,h4,h5,h6,h7,h8,h9⟩
theorem E5 {A9 A10:Prop} (h0:A0) (h1:A1) (h2:A2) (h3:A3) (h4:A4) (h5:A5) (h6:A6) (h7:A7) (h8:A8) (h9:A9) (h10:A10):A0∧A1∧A2∧A3∧A4∧A5∧A6∧A7∧A8∧A9∧A10:=⟨h0,h1,h2,h3,h4,h5,h6,h7,h8,h9,h10⟩
end L2
namespace L2
open PySem PySem.Spec PyProof.Rows
section
variable {X:Cx}
end
section
variable {prog:Program} {w:World} {A:Around} {E:Value→Shared→Prop} {s:Shared}
end
section
variable {X:Cx}
end
section
variable {X:Cx} {pins:List (Addr×Obj)} {σ:St} {H:Hp} {s:Shared} {a:Addr} {y d:V} {u r:Value} {o:Option V} {A:Around} {E:Value→Shared→Prop}
end
section
variable {X:Cx} {o e f:Expr} {apos cpos:Pos} {td ty tx:TE}
end
section
variable {M:Model} {A:Around} {E:Value→Shared→Prop} {s:Shared}
end
def tR (X:Cx) (N:List Str) (scope:Scope) (C:Addr) (s:Shared) (H:Hp) (pins:List (Addr×Obj)) (fp:List Addr) (RX:Value→Hp→Prop):Value→Shared→Prop:=fun e s'=>∃pins₁ σ₁ H₁ s₁,Inv (vF X N scope C s H pins fp) pins₁ σ₁ H₁ s₁∧vS X.prog X.w X.stack H₁ s₁ (fun c _ H'=>RX c H') e s'
section
variable {P:Program} {w:World} {K:PySem.W.Frag} {mg:Str→Option Value} {base:Heap} {N:List Str} {qual:Str} {scope:Scope} {f:Addr} {cd:Value} {A:Around} {outer:List Env} {s:Shared} {H:Hp} {E:XK}
end
theorem NB {prog:Program} {w:World} {A:Around} {elt target iter:Expr} {ifs:List Expr} {scope:Scope} {pos:Pos} {it acc:Value} {env:Env} {R:Result→Shared→Prop} {s:Shared} (I:Nat→Shared→Prop)
  (turn:∀n s,I n s→wpAny (model prog w) A (pyNext it) (fun r s₁=>match r with
   |none=>R (.ok .next) s₁
   |some v=>wpAny (model prog w) A (letOwnedTupleGo target it v) (fun _ s₁'=>wpAny (model prog w) A (assign target env v) (fun _ s₂ =>
     wpAny (model prog w) A (forIn ifs true fun c r=>if r=true then do let ok ← isTrue c env (eval c env);pure (ForInStep.yield ok) else pure (ForInStep.yield r)) (fun ok s₃ =>
      if ok=true then wpAny (model prog w) A (eval elt env) (fun x s₄ =>
       wpAny (model prog w) A (call (.builtin "list.append") [acc,x]) (fun _ s₅=>∃m,m<n∧I m s₅) (fun _ _=>False) s₄) (notedBy (model prog w) A env fun e s'=>R (.error e) s') s₃
      else ∃m,m<n∧I m s₃) (fun _ _=>False) s₂) (fun _ _=>False) s₁') (fun _ _=>False) s₁) (fun _ _=>False) s)
  (n:Nat) (h:I n s):codeAny (model prog w) A (.compLoop (.ListComp elt [⟨target,iter,ifs,0⟩] scope pos) 0 it acc env) R s:=by
 refine codeAny_loop rfl I (fun n s hI=>?_) n h;show wpAny _ A ((compTurn (.ListComp elt [⟨target,iter,ifs,0⟩] scope pos) 0 it acc env).onRaise (fun x=>do noteFrame x env;theTreesLotGoes x)) _ _ s;refine wpAny_noted ?_;rw [compTurn_list];refine wpAny_bind (wpAny_standAt (wpAny_bind (wpAny_mono (turn n s hI) (fun r s₁ h₁=>?_) fun _ _ h'=>h'.elim)));cases r with
 |none=>exact wpAny_pure h₁
 |some v =>
  refine wpAny_bind (wpAny_mono h₁ (fun _ s₁' h₁'=>?_) fun _ _ h'=>h'.elim);refine wpAny_bind (wpAny_mono h₁' (fun _ s₂ h₂=>wpAny_bind (wpAny_mono h₂ (fun ok s₃ h₃=>?_) fun _ _ h'=>h'.elim)) fun _ _ h'=>h'.elim);cases ok with
  |false=>exact wpAny_pure ⟨rfl,h₃⟩
  |true =>
   exact wpAny_bind (wpAny_bind (wpAny_mono h₃ (fun x s₄ h₄=>wpAny_bind (wpAny_mono h₄ (fun _ s₅ h₅=>wpAny_pure (wpAny_pure ⟨rfl,h₅⟩)) fun _ _ h'=>h'.elim)) fun _ _ h'=>h'))
section
variable {X:Cx} {N:List Str} {scope:Scope} {pins:List (Addr×Obj)} {σ:St} {H:Hp} {s:Shared} {fp:List Addr}
theorem AI {tg iter elt:Expr} {ifs:List Expr} {pos:Pos} {cap:St→St} {g:TG} {tc:TT} {te:TE} {J:It} {it:Addr} {tn:Nat→Heap→Prop} {Q:Addr→Hp→Prop} {RR:Value→Addr→Result→Shared→Prop} {RX:Value→Hp→Prop}
  (hcalm:X.calm=true) (S:CompScope X scope) (hcap:Z3 X N scope cap) (I:Inv X pins σ H s) (T:Turn X.prog X.w X.K tg J fp it tn) (st:tn 0 s.heap) (hf:∀b∈fp,JR X pins H b)
  (hg:∀C,PG (vF X N scope C s H pins fp) tg g) (hc:∀C,dW (vF X N scope C s H pins fp) ifs tc) (he:∀C,PE ((vF X N scope C s H pins fp).wish (tR X N scope C s H pins fp RX)) elt te)
  (hq:∀D,H D=none→QO D J g tc te (cap σ) H (Q D))
  (hRR:∀D C σc H' s',s.heap.objs.size≤C→Inv (vF X N scope C s H pins fp) [] σc H' s'→Q D H'→RR (.ref D) C (.ok .next) s')
  (hRE:∀D C e s',s.heap.objs.size≤C→tR X N scope C s H pins fp RX e s'→wpAny (model X.prog X.w) X.A (noteFrame e (compEnvC scope (yK X.env.cells scope.names []) C X.env)) (fun _ s''=>RR (.ref D) C (.error e) s'') (fun e' s''=>RR (.ref D) C (.error e') s'') s') :
  wpAny (model X.prog X.w) X.A (newList []) (fun acc s₃=>wpAny (model X.prog X.w) X.A (newFunctionEnv scope X.env.globals (yK X.env.cells scope.names []) [] X.env.qual none .none (some X.env)) (fun cenv s₄ =>
   codeAny (model X.prog X.w) X.A (.compStart (.ListComp elt [⟨tg,iter,ifs,0⟩] scope pos) 0 (.ref it) acc {cenv with scope:=relabel scope X.env}) (RR acc cenv.locals) s₄) X.xe s₃) X.xe s:=by
 refine wpAny_newObj_type (wpAny_newFunctionEnv S.nocell (by intro y hy;simp at hy) (fun h₁ hns₁ hsb₁=>?_) S.kind)
 dsimp only at hns₁ hsb₁ ⊢
 generalize hH2:s.heap.push {cls:=.type "list",dict:=none,data:=.seq ([]:List Value).toArray}=H2 at hns₁ hsb₁ ⊢;have hC:H2.objs.size=s.heap.objs.size+1:=by rw [← hH2,Heap.size_push]
 have hDC:s.heap.objs.size≠H2.objs.size:=by rw [hC];exact Nat.ne_of_lt (Nat.lt_succ_self _)
 have hCle:s.heap.objs.size≤H2.objs.size:=by rw [hC];exact Nat.le_succ _
 have below:∀b,b<s.heap.objs.size→b≠H2.objs.size:=fun b hb=>by rw [hC];exact Nat.ne_of_lt (Nat.lt_succ_of_lt hb)
 have old:∀b o,s.heap.get? b=some o→h₁.get? b=some o:=fun b o e=>hsb₁.extBut b o (below b (Heap.lt_size e)) (Heap.get?_push_of_some _ (hH2▸Heap.get?_push_of_some _ e))
 have hacc:h₁.get? s.heap.objs.size=some {cls:=.type "list",data:=.seq ([]:List Value).toArray}:=hsb₁.extBut _ _ hDC (Heap.get?_push_of_some _ (hH2▸Heap.get?_push_size _ rfl));have obj0:=T.obj 0 s.heap st;have I1:∀t',Inv (vF X N scope H2.objs.size s H pins fp) [] (cap σ) (upd H s.heap.objs.size (.lst [])) {s with heap:=h₁,toks:=t'}:=fun t' =>
  PL S I hcap hf (fun b hb=>let ⟨o,e,_⟩:=obj0 b hb;⟨o,e⟩) (Nat.le_refl _) hCle hDC old hns₁ hacc
 have st1:tn 0 h₁:=T.keep 0 s.heap h₁ st fun b _ o e=>old b o e
 have stat:∀{H':Hp},(∀b∈fp,H' b=none)→∀b∈fp,JR (vF X N scope H2.objs.size s H pins fp) [] H' b:=fun hn b hb=>by
  obtain ⟨_,h2,h3,h4,h5,h6⟩:=hf b hb;obtain ⟨o,ho,_⟩:=obj0 b hb;refine ⟨hn b hb,below b (Heap.lt_size ho),?_,.inl hb,fun x c e=>h5 x c (iF (iI S I) (fun y d q=>by simp at q) e),fun p hp=>?_⟩
  ·intro z
   rcases List.mem_cons.mp (I.stkSub b z) with e|e
   ·exact h2 e
   ·exact h3 e
  ·rcases List.mem_append.mp hp with z|z
   ·exact h6 p z
   ·cases z
 have fr1:∀b∈fp,upd H s.heap.objs.size (.lst []) b=none:=fun b hb=>by
  obtain ⟨o,ho,_⟩:=obj0 b hb;rw [jG (Nat.ne_of_lt (Heap.lt_size ho))];exact (hf b hb).1
 obtain ⟨W,⟨m0,w0⟩,turn⟩:=hq s.heap.objs.size (I.hok.fresh (Nat.le_refl _));have loop:∀s₃:Shared,s₃={s with heap:=h₁,toks:=s.toks+([]:List (Str×Value)).length}→
   codeAny (model X.prog X.w) X.A (.compLoop (.ListComp elt [⟨tg,iter,ifs,0⟩] scope pos) 0 (.ref it) (.ref s.heap.objs.size) (compEnvC scope (yK X.env.cells scope.names []) H2.objs.size X.env))
    (RR (.ref s.heap.objs.size) H2.objs.size) s₃:=by
  rintro s₃ rfl;refine NB (fun n s'=>∃i σ' H',Inv (vF X N scope H2.objs.size s H pins fp) [] σ' H' s'∧tn i s'.heap∧(∀b∈fp,H' b=none)∧W i n σ' H') ?_ m0 ⟨0,cap σ,_,I1 _,st1,fr1,w0⟩;rintro n s3 ⟨i,σ3,H3,I3,st3,fr3,w3⟩
  rcases turn i n σ3 H3 w3 with ⟨stop,qn⟩|⟨go,Nn,hN,step⟩
  ·refine jN (T.done (vF X N scope H2.objs.size s H pins fp) rfl rfl rfl hcalm i [] s3 σ3 H3 (fun _ _=>False) I3 (stat fr3) st3 stop) fun r s4 ⟨hr,I4⟩=>?_
   subst hr;exact hRR _ _ σ3 H3 s4 hCle I4 qn
  ·refine jN (T.item (vF X N scope H2.objs.size s H pins fp) rfl rfl rfl hcalm i [] s3 σ3 H3 (fun _ _=>False) I3 (stat fr3) st3 go) fun r s4 ⟨u,hr,h4⟩=>?_
   subst hr;refine jN h4 fun _ s5 ⟨x,H5,I5,r5,y5,st5,fr5⟩=>?_
   have I5':=I5.pinned (stat fr5) (T.obj _ _ st5);have again:∀{σ7:St} {H7:Hp} {s7:Shared},Inv (vF X N scope H2.objs.size s H pins fp) ([]++fF fp s5.heap) σ7 H7 s7→Nn σ7 H7→
     ∃m,m<n∧∃i σ' H',Inv (vF X N scope H2.objs.size s H pins fp) [] σ' H' s7∧tn i s7.heap∧(∀b∈fp,H' b=none)∧W i m σ' H':=fun {σ7 H7 s7} I7 n7=>by
    obtain ⟨m',hm,w7⟩:=hN σ7 H7 n7;refine ⟨m',hm,i+1,σ7,H7,I7.unpinned,T.keep _ _ _ st5 fun b hb o e=>(I7.pin (b,o) (List.mem_append_right _ (List.mem_append_right _ (iG hb e)))).1,fun b hb=>?_,w7⟩;obtain ⟨o,e,d⟩:=T.obj _ _ st5 b hb;exact (I7.pin (b,o) (List.mem_append_right _ (List.mem_append_right _ (iG hb e)))).2.1
   refine jN (hg _ _ s5 σ3 H5 x u _ I5' r5 (step x H5 y5)) fun _ s6 ⟨σ6,H6,I6,q6⟩=>?_
   refine jN (hc _ _ s6 σ6 H6 _ I6 q6) fun ok s7 ⟨H7,I7,q7⟩=>?_
   cases ok with
   |false=>exact again I7 q7
   |true =>
    refine wpAny_mono (he _ _ s7 σ6 H7 _ (I7.wish _) q7) (fun v s8 ⟨y,H8,I8,r8,xs,hD8,hz8,n8⟩=>?_) fun e se hx=>hRE _ _ e se hCle hx
    have I8:=I8.unwish;refine jN (QE _ s8 σ6 H8 (.ref s.heap.objs.size) [y] (.ref s.heap.objs.size) [v] (fun _ H9=>Nn σ6 H9) I8 rfl (.cons r8 .nil) ⟨_,_,_,rfl,rfl,hD8,hz8,n8⟩) fun _ s9 ⟨_,H9,I9,_,n9⟩=>?_
    exact again I9 n9
 exact codeAny_compStart_list (loop _ rfl) (wpAny_mono (T.self X.A 0 _ (fun v s'=>v=.ref it∧s'=_) (fun _ _=>False) st1 ⟨rfl,rfl⟩) (fun v s' ⟨e1,e2⟩=>by subst e1;subst e2;exact loop _ rfl) fun _ _ z=>z.elim)
end
section
variable {P:Program} {w:World} {K:PySem.W.Frag} {mg:Str→Option Value} {base:Heap} {Nf:List Str} {qual:Str} {scf:Scope} {f:Addr} {cd:Value} {A:Around} {outer:List Env} {s₀:Shared} {H₀:Hp} {E:XK}
end
section
variable {X:Cx}
end
section
variable {P:Program} {w:World} {K:PySem.W.Frag} {mg:Str→Option Value} {base:Heap}
theorem Fun.ok2 {x qual:Str} {st:Stmt} {f:Addr} {fd:FuncData} {N ps:List Str} {k:Nat} {sp:Sp} (F:Fun K x qual st f fd) (S:FnScope N ps (jM st))
  (h:∀vs H Q E,sp vs H Q E→vs.length=ps.length∧∀cdv A outer s,Room k (A.deeper (envOfC qual (jM st) s.heap.objs.size f cdv))→∃t,PSs (vP jK P w K mg base N qual (jM st) f cdv A outer s H E).nox (kC st) t∧t {nx:=fun _ H'=>Q .non H',rt:=Q} (start N vs) H):FnOk P w K mg base jK (k+1) f fd ps sp :=
 F.ok S (fun vs H Q E z=>(h vs H Q E z).1) fun cdv A outer s H vs Q E r z=>(h vs H Q E z).2 cdv A outer s r
theorem Fun.okX2 {x qual:Str} {st:Stmt} {f:Addr} {fd:FuncData} {N ps:List Str} {k:Nat} {sp:Sp} (F:Fun K x qual st f fd) (S:FnScope N ps (jM st))
  (h:∀vs H Q E,sp vs H Q E→vs.length=ps.length∧∀cdv A outer s,Room k (A.deeper (envOfC qual (jM st) s.heap.objs.size f cdv))→∃t,PSs (vP (vS P w) P w K mg base N qual (jM st) f cdv A outer s H E) (kC st) t∧t {nx:=fun _ H'=>Q .non H',rt:=Q} (start N vs) H):FnOk P w K mg base (vS P w) (k+1) f fd ps sp :=
 F.okX S (fun vs H Q E z=>(h vs H Q E z).1) fun cdv A outer s H vs Q E r z=>(h vs H Q E z).2 cdv A outer s r
theorem FunD.ok2 {x qual:Str} {st:Stmt} {f:Addr} {fd:FuncData} {ds:List Value} {N ps:List Str} {k:Nat} {sp:Sp} (F:FunD K x qual st f fd ds) (S:FnScope N ps (jM st))
  (h:∀vs H Q E,sp vs H Q E→vs.length=ps.length∧∀cdv A outer s,Room k (A.deeper (envOfC qual (jM st) s.heap.objs.size f cdv))→∃t,PSs (vP jK P w K mg base N qual (jM st) f cdv A outer s H E).nox (kC st) t∧t {nx:=fun _ H'=>Q .non H',rt:=Q} (start N vs) H):FnOk P w K mg base jK (k+1) f fd ps sp :=
 F.ok S (fun vs H Q E z=>(h vs H Q E z).1) fun cdv A outer s H vs Q E r z=>(h vs H Q E z).2 cdv A outer s r
theorem bN {x:Str} {f:Addr} {fd:FuncData} {ps:List Str} {k:Nat} {sp:Sp} (G:FnOk P w K mg base jK k f fd ps sp) (m:mg x=some (.ref f)) (kp:PySem.W.keepIn K (.ref f)=true) (b:Binds K fd ps []):Def P w K mg base k x ps [] sp:=⟨_,_,[],G,m,kp,.nil,b⟩
theorem DZ {x:Str} {f:Addr} {fd:FuncData} {ps:List Str} {k:Nat} {sp:Sp} (G:FnOk P w K mg base (vS P w) k f fd ps sp) (m:mg x=some (.ref f)) (kp:PySem.W.keepIn K (.ref f)=true) (b:Binds K fd ps []):DefX P w K mg base k x ps [] sp:=⟨_,_,[],G,m,kp,.nil,b⟩
end
section
variable {X:Cx} {a b:Expr} {ta tb:TE} {r:R2} {pos:Pos}
theorem jI (hr:IxR X r) (ha:PE X a ta) (hb:PE X b tb) (hs:DF b:=by exact fun _ _=>rfl):PE X (.Subscript a b pos) (bY r ta tb):=FF hr ha hb hs
theorem J7 {op:CmpOp} (ho:qZ X (compareOp op) r) (ha:PE X a ta) (hb:PE X b tb) (hm:behindInMarks op b=false:=by first|exact uY _|with_unfolding_all rfl):PE X (.Compare a [op] [b] pos) (bY r ta tb):=RH ho ha hb hm
theorem kI {op:CmpOp} (ho:qZ X (compareOp op) r) (ha:PE X a ta) (hb:PE X b tb) (hm:behindInMarks op b=false:=by first|exact uY _|with_unfolding_all rfl):PT X (.Compare a [op] [b] pos) (EI (bY r ta tb)):=FE ho ha hb hm
end
theorem so {K:PySem.W.Frag} {H:Hp} {a:Addr} {xs:List V} (h:H a=some (.lst xs)):SqL K H a xs:=SqL.of h
section
variable {X:Cx} {N:List Str} {scope:Scope} {pins:List (Addr×Obj)} {σ:St} {H:Hp} {s:Shared} {fp:List Addr}
theorem noX {C:Addr} {e:Value} {s':Shared} {p:Prop} (h:tR X N scope C s H pins fp (fun _ _=>False) e s'):p:=by
 obtain ⟨_,_,_,_,_,h⟩:=h;obtain ⟨_,_,_,_,_,_,_,_,_,_,_,z⟩:=h;exact z.elim
theorem QF {tg iter elt:Expr} {ifs:List Expr} {pos:Pos} {wi:TI} {g:TG} {tc:TT} {te:TE} (N:List Str) (cap:St→St) (hcalm:X.calm=true) (S:CompScope X scope) (hcap:Z3 X N scope cap) (hi:PI X tg iter wi)
  (hg:∀C s H pins fp,PG (vF X N scope C s H pins fp) tg g) (hc:∀C s H pins fp,dW (vF X N scope C s H pins fp) ifs tc) (he:∀C s H pins fp,PE (vF X N scope C s H pins fp) elt te)
  (hs:∀x,foldedSetIterable iter X.env x=pure x:=by intro _;rfl):PE X (.ListComp elt [⟨tg,iter,ifs,0⟩] scope pos) (tI wi cap g tc te):=by
 intro pins s σ H Q I h;rw [eval_ListComp];refine wpAny_comprehension_free (use:=none) rfl hs (wF (iI S I)) S.kind S.names (jN (hi pins s σ H _ I h) fun v s1 h1=>jN h1 fun itv s2 h2=>?_);obtain ⟨it,fp,tn,J,H2,e,I2,T,st2,f2,q2⟩:=h2;subst e;refine AI (RX:=fun _ _=>False) (RR:=fun acc C=>compPost (model X.prog X.w) X.A X.xe none (EP X pins σ Q) acc C) (Q:=fun D H'=>Q (.ref D) H') hcalm S hcap I2 T st2 f2 (fun C=>hg C _ _ _ _) (fun C=>hc C _ _ _ _) (fun C=>PE.nox (he C _ _ _ _)) q2 ?_ (fun _ _ _ _ _ hx=>noX hx);intro D C σc H' s' hC Jc q;obtain ⟨m,hn,_⟩:=Jc.loc;refine ⟨m,hn,fun h' hs'=>?_⟩;exact ⟨.ref D,H',B0 I2 hC (AJ (σ':=σ) I2 f2 Jc) Jc.free hs',rfl,q⟩
theorem JV {tg iter elt:Expr} {ifs:List Expr} {pos spos py:Pos} {i:Nat} {y:Str} {wi:TI} {g:TG} {tc:TT} {te:TE} (N:List Str) (cap:St→St) (hN:X.N.Nodup) (hy:X.N[i]?=some y) (hloc:b7 X.env.scope y) (hcalm:X.calm=true) (S:CompScope X scope) (hcap:Z3 X N scope cap) (hi:PI X tg iter wi)
  (hg:∀C s H pins fp,PG (vF X N scope C s H pins fp) tg g) (hc:∀C s H pins fp,dW (vF X N scope C s H pins fp) ifs tc) (he:∀C s H pins fp,PE (vF X N scope C s H pins fp) elt te)
  (hsw:swapsWith (.ListComp elt [⟨tg,iter,ifs,0⟩] scope pos) (some (.Name y py)) spos.line X.env=pure true:=by rfl)
  (hs:∀x,foldedSetIterable iter X.env x=pure x:=by intro _;rfl) (hfn:X.fn y=true∨X.env.scope.names.lookup y=some .local:=by first|exact .inl rfl|exact .inr rfl|assumption) :
  PS X (.Assign [.Name y py] (.ListComp elt [⟨tg,iter,ifs,0⟩] scope pos) spos) (OK i wi cap g tc te):=by
 intro pins s σ H D I h;rw [exec_Assign_Name_used _ _ _ _ hsw];refine wpAny_bind (wpAny_standAt (wpAny_bind ?_));show wpAny _ X.A (do let _ ← comprehension (.ListComp elt [⟨tg,iter,ifs,0⟩] scope pos) scope X.env _ (newList []) false (eval iter X.env) (some (assign (.Name y py) X.env))) _ _ s;refine wpAny_bind (wpAny_mono (wpAny_comprehension_free (use:=some (assign (.Name y py) X.env)) (Q:=fun _ s'=>SP X pins D .next s') rfl hs (wF (iI S I)) S.kind S.names
  (jN (hi pins s σ H _ I h) fun v s1 h1=>jN h1 fun itv s2 h2=>?_)) (fun _ s' hq=>wpAny_pure (wpAny_pure hq)) fun _ _ e=>e)
 obtain ⟨it,fp,tn,J,H2,e,I2,T,st2,f2,q2⟩:=h2;subst e;refine AI (RX:=fun _ _=>False) (RR:=fun acc C=>compPost (model X.prog X.w) X.A X.xe (some (assign (.Name y py) X.env)) (fun _ s'=>SP X pins D .next s') acc C) (Q:=fun d H'=>D.nx (σ.set i (some (.ref d))) H') hcalm S hcap I2 T st2 f2 (fun C=>hg C _ _ _ _) (fun C=>hc C _ _ _ _) (fun C=>PE.nox (he C _ _ _ _)) q2 ?_ (fun _ _ _ _ _ hx=>noX hx);intro d C σc H' s' hC Jc q;obtain ⟨m,hn,_⟩:=Jc.loc;have J1:Inv X pins σ H' s':=AJ (σ':=σ) I2 f2 Jc;show wpAny _ X.A (assign (.Name y py) X.env (.ref d)) _ _ _;refine wpAny_assign_Name (xO (v:=.ref d) J1 hN hy hloc rfl (fun s'' J2 hsb=>?_) hfn);obtain ⟨a,sb,ha⟩:=hsb;have haC:C≠a:=by
  rcases ha with e|e
  ·rw [e];exact Nat.ne_of_gt (Nat.lt_of_lt_of_le I2.lt hC)
  ·obtain ⟨v,q'⟩:=I2.cell y a e;exact Nat.ne_of_gt (Nat.lt_of_lt_of_le q'.lt hC)
 refine ⟨m,hn.sameBut sb haC,fun h' hs'=>?_⟩;exact ⟨_,H',B0 I2 hC J2 Jc.free hs',q⟩
end
theorem jS {N P:List Str} {sc:Scope} (a:sc.kind=.function:=by rfl) (b:sc.isCoroutine=false:=by rfl) (c:sc.isGenerator=false:=by rfl) (d:N.Nodup:=by decide +kernel) (e:N.take P.length=P:=by rfl)
  (f:∀x∈P,sc.names.lookup x=some .local∨sc.names.lookup x=some .cell:=by decide +kernel) (g:∀y∈sc.names,y.2≠.free:=by decide +kernel):FnScope N P sc:=⟨a,b,c,d,e,f,g⟩
theorem qR {X:Cx} {scope:Scope} (sc:Scope) (a:X.env.scope=sc:=by rfl) (b:scope.kind=.function:=by rfl) (c:∀y∈scope.names,y.2≠.cell:=by decide +kernel) (d:∀y∈scope.names,y.2=.local→scope.names.lookup y.1=some .local:=by decide +kernel)
  (e:∀y∈scope.names,y.2=.free→sc.names.lookup y.1=some .cell∨sc.names.lookup y.1=some .free:=by decide +kernel):CompScope X scope:=FJ sc a b c d e
theorem cps {X:Cx} {N:List Str} {scope:Scope} (n:Nat) (js:List Nat) (a:N.length=n+js.length:=by rfl) (b:js.map (fun j=>X.N[j]?)=(N.drop n).map some:=by rfl) (c:∀x∈N.drop n,scope.names.lookup x=some .free:=by decide +kernel):Z3 X N scope (qY n js):=FK n js a b c
inductive GK where
 |i (n:Int)
 |s (t:Str)
 |nil
 |cons (a b:GK)
 deriving DecidableEq
def TupOf (h:Heap) (v:Value) (P:List Value→Prop):Prop :=
 ∃(a:Addr) (o:Obj) (its:Array Value) (n:Nat),v=.ref a∧h.get? a=some o∧o.cls=.type "tuple"∧o.data=.seq its n∧P its.toList
def GR (h:Heap):GK→(Value→Prop)×(List Value→Prop)
 |.i n=>(fun v=>∃t,v=.int n t,fun _=>False)
 |.s x=>(fun v=>∃t,v=.str x t,fun _=>False)
 |.nil=>(fun v=>TupOf h v (fun l=>l=[]),fun l=>l=[])
 |.cons a b=>(fun v=>TupOf h v (fun l=>∃u us,l=u::us∧(GR h a).1 u∧(GR h b).2 us),fun l=>∃u us,l=u::us∧(GR h a).1 u∧(GR h b).2 us)
def gh (w:World):GK→Int×List Int
 |.i n=>(hashInt n,[])
 |.s x=>(hashStr w x,[])
 |.nil=>(reduceHash (Builtin.Tuple.tupleHashOf []),[])
 |.cons a b=>(reduceHash (Builtin.Tuple.tupleHashOf ((gh w a).1::(gh w b).2)),(gh w a).1::(gh w b).2)
def gd:GK→Nat
 |.i _=>1
 |.s _=>1
 |.nil=>1
 |.cons a b=>max (gd a+1) (gd b)
variable {v:Value}
theorem TupOf.mono {h h':Heap} {P P':List Value→Prop} (x:TupOf h v P) (hk:∀a o its n,h.get? a=some o→o.data=.seq its n→h'.get? a=some o) (hp:∀l,P l→P' l):TupOf h' v P' :=
 let ⟨a,o,its,n,e,ho,hc,hd,p⟩:=x
 ⟨a,o,its,n,e,hk a o its n ho hd,hc,hd,hp _ p⟩
def QX:GK→Bool
 |.nil=>true
 |.cons _ _=>true
 |_=>false
theorem GR.tup {h:Heap} {k:GK} (ht:QX k=true):(GR h k).1 v↔TupOf h v (GR h k).2:=by
 cases k<;>first|exact Iff.rfl|cases ht
theorem GR.keep {h h':Heap} (hk:∀a o its n,h.get? a=some o→o.data=.seq its n→h'.get? a=some o):∀k,(∀v,(GR h k).1 v→(GR h' k).1 v)∧(∀l,(GR h k).2 l→(GR h' k).2 l)
 |.i _=>⟨fun _ p=>p,fun _ p=>p⟩
 |.s _=>⟨fun _ p=>p,fun _ p=>p⟩
 |.nil=>⟨fun _ p=>(GR.tup rfl).2 (((GR.tup rfl).1 p).mono hk fun _ q=>q),fun _ p=>p⟩
 |.cons a b=>by
  have c:∀l,(∃u us,l=u::us∧(GR h a).1 u∧(GR h b).2 us)→∃u us,l=u::us∧(GR h' a).1 u∧(GR h' b).2 us :=
   fun l ⟨u,us,e,p,q⟩=>⟨u,us,e,(GR.keep hk a).1 _ p,(GR.keep hk b).2 _ q⟩
  exact ⟨fun _ p=>(GR.tup rfl).2 (((GR.tup rfl).1 p).mono hk c),c⟩
theorem TupOf.typeIs {s:Shared} {P:List Value→Prop} (x:TupOf s.heap v P):s.TypeIs v "tuple":=by
 obtain ⟨a,o,its,n,rfl,ho,hc,_⟩:=x;exact ⟨o,ho,hc⟩
theorem GR.inj {h:Heap}:∀x y,(∀v,(GR h x).1 v→(GR h y).1 v→x=y)∧(∀l,(GR h x).2 l→(GR h y).2 l→x=y):=by
 have tt:∀{v:Value} {P P':List Value→Prop},TupOf h v P→TupOf h v P'→∃l,P l∧P' l:=by
  rintro v P P' ⟨a,o,its,n,rfl,ho,_,hd,p⟩ ⟨a',o',its',n',e,ho',_,hd',p'⟩;cases e;obtain rfl:o=o':=Option.some.inj (ho.symm.trans ho');rw [hd] at hd';injection hd' with e1 _
  subst e1;exact ⟨_,p,p'⟩
 intro x
 induction x with
 |i n =>
  intro y;refine ⟨fun v p q=>?_,fun l p=>p.elim⟩;obtain ⟨t,rfl⟩:=p;cases y with
  |i m=>obtain ⟨u,e⟩:=q;cases e;rfl
  |s z=>obtain ⟨u,e⟩:=q;cases e
  |nil=>obtain ⟨a,_,_,_,e,_⟩:=q;cases e
  |cons a b=>obtain ⟨a,_,_,_,e,_⟩:=q;cases e
 |s z =>
  intro y;refine ⟨fun v p q=>?_,fun l p=>p.elim⟩;obtain ⟨t,rfl⟩:=p;cases y with
  |i m=>obtain ⟨u,e⟩:=q;cases e
  |s z=>obtain ⟨u,e⟩:=q;cases e;rfl
  |nil=>obtain ⟨a,_,_,_,e,_⟩:=q;cases e
  |cons a b=>obtain ⟨a,_,_,_,e,_⟩:=q;cases e
 |nil =>
  intro y;have c:∀l,(GR h .nil).2 l→(GR h y).2 l→GK.nil=y:=by
   intro l p q;cases p;cases y with
   |i m=>exact q.elim
   |s z=>exact q.elim
   |nil=>rfl
   |cons a b=>obtain ⟨u,us,e,_⟩:=q;cases e
  refine ⟨fun v p q=>?_,c⟩;cases y with
  |i m=>obtain ⟨u,rfl⟩:=q;obtain ⟨a,_,_,_,e,_⟩:=p;cases e
  |s z=>obtain ⟨u,rfl⟩:=q;obtain ⟨a,_,_,_,e,_⟩:=p;cases e
  |nil=>rfl
  |cons a b=>obtain ⟨l,p,q⟩:=tt ((GR.tup rfl).1 p) ((GR.tup rfl).1 q);exact c l p q
 |cons a b iha ihb =>
  intro y;have c:∀l,(GR h (.cons a b)).2 l→(GR h y).2 l→GK.cons a b=y:=by
   rintro l ⟨u,us,rfl,p1,p2⟩ q;cases y with
   |i m=>exact q.elim
   |s z=>exact q.elim
   |nil=>cases q
   |cons a' b' =>
    obtain ⟨u',us',e,q1,q2⟩:=q;cases e;rw [(iha a').1 _ p1 q1,(ihb b').2 _ p2 q2]
  refine ⟨fun v p q=>?_,c⟩;cases y with
  |i m=>obtain ⟨u,rfl⟩:=q;obtain ⟨a,_,_,_,e,_⟩:=p;cases e
  |s z=>obtain ⟨u,rfl⟩:=q;obtain ⟨a,_,_,_,e,_⟩:=p;cases e
  |nil=>obtain ⟨l,p,q⟩:=tt ((GR.tup rfl).1 p) ((GR.tup rfl).1 q);exact c l p q
  |cons a b=>obtain ⟨l,p,q⟩:=tt ((GR.tup rfl).1 p) ((GR.tup rfl).1 q);exact c l p q
section
variable {prog:Program} {w:World} {E:Value→Shared→Prop}
abbrev iX (prog:Program) (w:World) (E:Value→Shared→Prop) (k:GK):Prop :=
 ∀(l:List Value) (A:Around) (s:Shared) (b:Array Int) (Q:Array Int→Shared→Prop),(GR s.heap k).2 l→A.units+gd k≤cLine→(∀n b',b'.toList=b.toList++(gh w k).2→Q b' {s with toks:=n})→
  wpAny (model prog w) A (forIn l b fun x r=>do let h ← pyHash x;pure (ForInStep.yield (r.push h))) Q E s
theorem BU {k:GK} (ht:QX k=true) (hs:(gh w k).1=reduceHash (Builtin.Tuple.tupleHashOf (gh w k).2))
  (lp:iX prog w E k)
  {v:Value} {A:Around} {s:Shared} {Q:Int→Shared→Prop} (hv:(GR s.heap k).1 v) (hu:A.units+gd k<cLine) (hq:∀n,Q (gh w k).1 {s with toks:=n}):wpAny (model prog w) A (pyHash v) Q E s:=by
 have hv':=(GR.tup ht).1 hv;have hT:=hv'.typeIs;obtain ⟨a,o,its,n,rfl,ho,hc,hd,hl⟩:=hv';refine PySem.W.pyHash_slot (T:="tuple") hT F.slot_tuple_hash F.entry_tuple_hash (F.args_tuple_hash_1 _) (beq_builtin_none _) (.inr (by omega)) ?_;show wpAny _ A.in1 (Builtin.Tuple.tupleItemsOf _ >>= _) _ E s;refine wpAny_bind (wpAny_tupleItemsOf ho hd (wpAny_bind ?_));rw [← Array.forIn_toList];refine lp its.toList _ s #[] _ hl (by simp only [Around.in1_units];omega) fun m b' hb=>?_
 have e:b'.toList=(gh w k).2:=by rw [hb];rfl
 show wpAny _ _ (retInt (Builtin.Tuple.tupleHashOf b'.toList)) _ _ _;rw [e];exact wpAny_bind (wpAny_mkInt (wpAny_pure ⟨_,_,rfl,hs▸hq _⟩))
theorem iW:∀k:GK,(∀(v:Value) (A:Around) (s:Shared) (Q:Int→Shared→Prop),(GR s.heap k).1 v→A.units+gd k<cLine→(∀n,Q (gh w k).1 {s with toks:=n})→wpAny (model prog w) A (pyHash v) Q E s)∧iX prog w E k
 |.i n=>⟨fun v A s Q p _ q=>by obtain ⟨t,rfl⟩:=p;exact wpAny_pyHash_int (q _),fun _ _ _ _ _ p=>p.elim⟩
 |.s z=>⟨fun v A s Q p _ q=>by obtain ⟨t,rfl⟩:=p;exact wpAny_pyHash_str (q _),fun _ _ _ _ _ p=>p.elim⟩
 |.nil=>by
  have lp:iX prog w E .nil:=fun l A s b Q p _ q=>by
   cases p;exact wpAny_pure (q s.toks b (by simp [gh]))
  exact ⟨fun v A s Q p hu q=>BU rfl (by simp only [gh]) lp p hu q,lp⟩
 |.cons x y=>by
  have lp:iX prog w E (.cons x y):=fun l A s b Q p hu q=>by
   obtain ⟨u,us,rfl,p1,p2⟩:=p;simp only [gd] at hu;rw [List.forIn_cons];refine wpAny_bind (wpAny_bind ((iW x).1 u A s _ p1 (by omega) fun m=>wpAny_pure ?_));exact (iW y).2 us A _ _ Q p2 (by omega) fun m' b' hb=>q m' b' (by simp [hb,gh])
  exact ⟨fun v A s Q p hu q=>BU rfl (by simp only [gh]) lp p hu q,lp⟩
end
section
variable {s:Shared}
theorem LO (n:Nat) (e:Nat→Bool):(List.range (n+1)).all e=(e 0&&(List.range n).all fun j=>e (j+1)):=by
 rw [List.range_succ_eq_map,List.all_cons,List.all_map];rfl
abbrev lC (s:Shared) (x y:GK):Prop :=
 ∀(A:Around) (l m:List Value),(GR s.heap x).2 l→(GR s.heap y).2 m→A.units+gd x≤cLine→∃e:Nat→Bool,(∀j (h1:j<l.length) (h2:j<m.length),SeqAt.EqAt A s l[j] m[j] (e j))∧((List.range (min l.length m.length)).all e&&l.length == m.length)=decide (x=y)
theorem i6 {x y:GK} (hx:QX x=true) (hy:QX y=true) (lp:lC s x y) {v u:Value} {A:Around} (p:(GR s.heap x).1 v) (q:(GR s.heap y).1 u) (hu:A.units+gd x<cLine):SeqAt.EqAt A s v u (decide (x=y)):=by
 obtain ⟨a,o,its,n,rfl,ho,hc,hd,hl⟩:=(GR.tup hx).1 p;obtain ⟨a',o',its',n',rfl,ho',hc',hd',hl'⟩:=(GR.tup hy).1 q
 by_cases ea:a=a'
 ·subst ea;rw [decide_eq_true ((GR.inj x y).1 _ p q)];exact SeqAt.EqAt.same _
 ·obtain ⟨e,he,hr⟩:=lp A.in1 _ _ hl hl' (by simp only [Around.in1_units];omega);have r:=SeqAt.RcAt.tuples (A:=A) (s:=s) (e:=e) (items:=its) (items2:=its') ⟨o,ho,hc,n,hd⟩ ⟨o',ho',hc',n',hd'⟩ (by omega) (fun j h1 h2=>by have:=he j (by simpa using h1) (by simpa using h2);rwa [Array.getElem_toList,Array.getElem_toList] at this);rw [Array.length_toList,Array.length_toList] at hr;rw [hr] at r;exact SeqAt.EqAt.of_refs ea r
theorem lK:∀x y:GK,(∀(A:Around) (v u:Value),(GR s.heap x).1 v→(GR s.heap y).1 u→A.units+gd x<cLine→SeqAt.EqAt A s v u (decide (x=y)))∧lC s x y:=by
 intro x
 induction x with
 |i n =>
  intro y;refine ⟨fun A v u p q hu=>?_,fun _ _ _ p=>p.elim⟩;obtain ⟨t,rfl⟩:=p;cases y with
  |i m=>obtain ⟨t',rfl⟩:=q;rw [show decide (GK.i n=GK.i m)=(n == m) by by_cases e:n=m<;>simp [e]];exact SeqAt.EqAt.int_int n t m t'
  |s z=>obtain ⟨t',rfl⟩:=q;exact SeqAt.EqAt.int_str _ _ _ _
  |nil=>obtain ⟨a,o,its,n,rfl,ho,hc,hd,_⟩:=(GR.tup rfl).1 q;exact SeqAt.EqAt.int_tuple _ _ ⟨o,ho,hc,_,hd⟩ (by omega)
  |cons a b=>obtain ⟨a,o,its,n,rfl,ho,hc,hd,_⟩:=(GR.tup rfl).1 q;exact SeqAt.EqAt.int_tuple _ _ ⟨o,ho,hc,_,hd⟩ (by omega)
 |s n =>
  intro y;refine ⟨fun A v u p q hu=>?_,fun _ _ _ p=>p.elim⟩;obtain ⟨t,rfl⟩:=p;cases y with
  |i m=>obtain ⟨t',rfl⟩:=q;exact SeqAt.EqAt.str_int _ _ _ _
  |s z=>obtain ⟨t',rfl⟩:=q;rw [show decide (GK.s n=GK.s z)=(n == z) by by_cases e:n=z<;>simp [e]];exact SeqAt.EqAt.str_str n t z t'
  |nil=>obtain ⟨a,o,its,n,rfl,ho,hc,hd,_⟩:=(GR.tup rfl).1 q;exact SeqAt.EqAt.str_tuple _ _ ⟨o,ho,hc,_,hd⟩ (by omega)
  |cons a b=>obtain ⟨a,o,its,n,rfl,ho,hc,hd,_⟩:=(GR.tup rfl).1 q;exact SeqAt.EqAt.str_tuple _ _ ⟨o,ho,hc,_,hd⟩ (by omega)
 |nil =>
  intro y;have lp:lC s .nil y:=by
   intro A l m p q _;cases p;cases y with
   |i m=>exact q.elim
   |s m=>exact q.elim
   |nil=>cases q;exact ⟨fun _=>true,fun j h1=>absurd h1 (Nat.not_lt_zero j),rfl⟩
   |cons a b=>obtain ⟨u,us,rfl,_⟩:=q;exact ⟨fun _=>true,fun j h1=>absurd h1 (Nat.not_lt_zero j),by simp⟩
  refine ⟨fun A v u p q hu=>?_,lp⟩;cases y with
  |i m=>obtain ⟨t',rfl⟩:=q;obtain ⟨a,o,its,n,rfl,ho,hc,hd,_⟩:=(GR.tup rfl).1 p;exact SeqAt.EqAt.tuple_int _ _ ⟨o,ho,hc,_,hd⟩ (by omega)
  |s m=>obtain ⟨t',rfl⟩:=q;obtain ⟨a,o,its,n,rfl,ho,hc,hd,_⟩:=(GR.tup rfl).1 p;exact SeqAt.EqAt.tuple_str _ _ ⟨o,ho,hc,_,hd⟩ (by omega)
  |nil=>exact i6 rfl rfl lp p q hu
  |cons a b=>exact i6 rfl rfl lp p q hu
 |cons x1 x2 ih1 ih2 =>
  intro y;have lp:lC s (.cons x1 x2) y:=by
   intro A l m p q hu;simp only [gd] at hu;obtain ⟨u,us,rfl,p1,p2⟩:=p;cases y with
   |i m=>exact q.elim
   |s m=>exact q.elim
   |nil=>cases q;exact ⟨fun _=>true,fun j _ h1=>absurd h1 (Nat.not_lt_zero j),by simp⟩
   |cons a b =>
    obtain ⟨u',us',rfl,q1,q2⟩:=q;obtain ⟨e,he,hr⟩:=(ih2 b).2 A us us' p2 q2 (by omega);have h0:=(ih1 a).1 A u u' p1 q1 (by omega);refine ⟨fun j=>match j with|0=>decide (x1=a)|j+1=>e j,fun j h1 h2=>?_,?_⟩
    ·cases j with
     |zero=>exact h0
     |succ j=>exact he j (by simpa using h1) (by simpa using h2)
    ·rw [List.length_cons,List.length_cons,Nat.succ_min_succ,LO,Bool.and_assoc];have e2:(us.length+1 == us'.length+1)=(us.length == us'.length):=by by_cases e:us.length=us'.length<;>simp [e]
     rw [e2,hr]
     by_cases e1:x1=a<;>by_cases e3:x2=b<;>simp [e1,e3]
  refine ⟨fun A v u p q hu=>?_,lp⟩;cases y with
  |i m=>obtain ⟨t',rfl⟩:=q;obtain ⟨a,o,its,n,rfl,ho,hc,hd,_⟩:=(GR.tup rfl).1 p;exact SeqAt.EqAt.tuple_int _ _ ⟨o,ho,hc,_,hd⟩ (by omega)
  |s m=>obtain ⟨t',rfl⟩:=q;obtain ⟨a,o,its,n,rfl,ho,hc,hd,_⟩:=(GR.tup rfl).1 p;exact SeqAt.EqAt.tuple_str _ _ ⟨o,ho,hc,_,hd⟩ (by omega)
  |nil=>exact i6 rfl rfl lp p q hu
  |cons a b=>exact i6 rfl rfl lp p q hu
end
end L2
namespace L2
open PySem PySem.Spec PyProof.Rows
section
variable {prog:Program} {w:World} {E:Value→Shared→Prop} {s:Shared}
abbrev JK (prog:Program) (w:World) (E:Value→Shared→Prop) (s:Shared) (m:Nat) (v:Value):Prop :=
 ∀(A:Around) (Q:Bool→Shared→Prop),Q true s→wpAny (model prog w) A (eqIsQuiet m v) Q E s
theorem xY {v:Value} {P:List Value→Prop} {m:Nat} (x:TupOf s.heap v P) (hp:∀l,P l→∀y∈l,JK prog w E s m y):JK prog w E s (m+1) v:=by
 intro A Q q;have hT:=x.typeIs;obtain ⟨a,o,its,n,rfl,ho,hc,hd,hl⟩:=x;unfold eqIsQuiet;refine wpAny_bind (wpAny_specialOf hT F.slot_tuple_eq.lookup ?_);show wpAny _ A (isInstance _ (.type "tuple") >>= _) _ E s;refine wpAny_bind (wpAny_isInstance hT isSubtype_tuple_tuple ?_);rw [if_neg (by decide)];refine wpAny_bind (wpAny_seqItems ho hd (wpAny_bind ?_));show wpAny _ A (forIn its _ _) _ E s;rw [← Array.forIn_toList];refine wpAny_forIn_list _ (fun left r s1=>r.1=none∧s1=s∧∀y∈left,JK prog w E s m y) _ ?_ ?_ _ _ ⟨rfl,rfl,hp _ hl⟩
 ·rintro y left r s1 ⟨hr,rfl,hall⟩;refine wpAny_bind (hall y List.mem_cons_self A _ ?_);rw [if_neg (by decide)];exact wpAny_pure ⟨rfl,rfl,fun z hz=>hall z (List.mem_cons_of_mem y hz)⟩
 ·rintro ⟨r1,r2⟩ s1 ⟨hr,rfl,_⟩;cases hr;exact wpAny_pure q
theorem iM:∀(k:GK) (m:Nat),gd k≤m→(∀v,(GR s.heap k).1 v→JK prog w E s m v)∧(∀l,(GR s.heap k).2 l→∀y∈l,JK prog w E s (m - 1) y)
 |.i n,m,_=>⟨fun v p A Q q=>by obtain ⟨t,rfl⟩:=p;rw [eqIsQuiet_byValue m rfl];exact wpAny_pure q,fun _ p=>p.elim⟩
 |.s n,m,_=>⟨fun v p A Q q=>by obtain ⟨t,rfl⟩:=p;rw [eqIsQuiet_byValue m rfl];exact wpAny_pure q,fun _ p=>p.elim⟩
 |.nil,m,hm=>by
  have lp:∀l,(GR s.heap .nil).2 l→∀y∈l,JK prog w E s (m - 1) y:=fun l p y hy=>by cases p;cases hy
  refine ⟨fun v p=>?_,lp⟩;obtain ⟨m',rfl⟩:∃m',m=m'+1:=⟨m - 1,by simp only [gd] at hm;omega⟩;exact xY ((GR.tup rfl).1 p) lp
 |.cons x y,m,hm=>by
  have hm':=hm;simp only [gd] at hm';have lp:∀l,(GR s.heap (.cons x y)).2 l→∀z∈l,JK prog w E s (m - 1) z:=by
   rintro l ⟨u,us,rfl,p1,p2⟩ z hz
   rcases List.mem_cons.mp hz with rfl|hz
   ·exact (iM x (m - 1) (by omega)).1 _ p1
   ·exact (iM y m (by omega)).2 us p2 z hz
  refine ⟨fun v p=>?_,lp⟩;obtain ⟨m',rfl⟩:∃m',m=m'+1:=⟨m - 1,by omega⟩;exact xY ((GR.tup rfl).1 p) lp
abbrev qJ:=GK×Value×Value
def JQ (w:World) (x:qJ):DictEntry:=⟨(gh w x.1).1,x.2.1,x.2.2⟩
structure KEnt (w:World) (h:Heap) (es:Array DictEntry) (xs:List qJ):Prop where
 es:es.toList=xs.map (JQ w)
 is:∀x∈xs,(GR h x.1).1 x.2.1
 deep:∀x∈xs,gd x.1≤8
 once:(xs.map (·.1)).Nodup
theorem KEnt.at {h:Heap} {es:Array DictEntry} {xs:List qJ} (x:KEnt w h es xs) (j:Nat):es[j]?=(xs[j]?).map (JQ w):=by
 rw [← Array.getElem?_toList,x.es,List.getElem?_map]
theorem RL {xs:List qJ} (hn:(xs.map (·.1)).Nodup) {i j:Nat} {k:GK} {p q:Value×Value} (hi:xs[i]?=some (k,p)) (hj:xs[j]?=some (k,q)):i=j:=by
 have a:(xs.map (·.1))[i]?=some k:=by rw [List.getElem?_map,hi];rfl
 have b:(xs.map (·.1))[j]?=some k:=by rw [List.getElem?_map,hj];rfl
 exact (List.getElem?_inj (List.getElem?_eq_some_iff.mp a).1 hn).mp (a.trans b.symm)
def bS (xs:List qJ) (k:GK):Option Nat→Prop
 |none=>∀(j:Nat) (p:Value×Value),xs[j]?≠some (k,p)
 |some j=>∃p,xs[j]?=some (k,p)
theorem L5 {A:Around} {key:Value} {st:List Value} {Q:Bool→Shared→Prop} (hk:JK prog w E s 8 key) (hs:∀v∈st,JK prog w E s 8 v) (q:Q false s):wpAny (model prog w) A (tableMayTell key st) Q E s:=by
 unfold tableMayTell
 by_cases he:st.isEmpty=true
 ·rw [if_pos he];exact wpAny_pure q
 ·rw [if_neg he];refine wpAny_bind (hk A _ ?_);rw [if_neg (by decide)];refine wpAny_bind (wpAny_forIn_list _ (fun left r s1=>s1=s∧r=(none,())∧∀v∈left,JK prog w E s 8 v) _ ?_ ?_ _ _ ⟨rfl,rfl,hs⟩)
  ·rintro v left r s1 ⟨rfl,rfl,hl⟩;refine wpAny_bind (hl v List.mem_cons_self A _ ?_);rw [if_neg (by decide)];exact wpAny_pure ⟨rfl,rfl,fun z hz=>hl z (List.mem_cons_of_mem v hz)⟩
  ·rintro r s1 ⟨rfl,rfl,_⟩;exact wpAny_pure q
theorem MH {A:Around} {d:Addr} {o:Obj} {es:Array DictEntry} {ep:Nat} {xs:List qJ} {k:GK} {key:Value} {pl:List Nat} {Q:Option Nat→Shared→Prop} (hu:∀x∈xs,A.units+gd x.1<cLine) (hkey:(GR s.heap k).1 key)
  (ho:s.heap.get? d=some o) (hd:o.data=.dict es ep) (he:KEnt w s.heap es xs) (hpl:∀j p,xs[j]?=some (k,p)→j∈pl) (q:∀r,bS xs k r→Q r s) :
  wpAny (model prog w) A (dictWalkPlain d key (gh w k).1 es pl) Q E s:=by
 unfold dictWalkPlain;refine wpAny_bind (wpAny_forIn_list _ (fun left r s1=>s1=s∧r=(none,())∧∀j p,xs[j]?=some (k,p)→j∈left) _ ?_ ?_ _ _ ⟨rfl,rfl,hpl⟩)
 ·rintro x left r s1 ⟨rfl,rfl,hl⟩;have next:(∀p,xs[x]?≠some (k,p))→∀j p,xs[j]?=some (k,p)→j∈left:=fun hno j p hj=>by
   rcases List.mem_cons.mp (hl j p hj) with rfl|h
   ·exact absurd hj (hno p)
   ·exact h
  rw [he.at x];cases hx:xs[x]? with
  |none=>exact wpAny_pure ⟨rfl,rfl,next fun p h=>by rw [hx] at h;cases h⟩
  |some y =>
   obtain ⟨k',v',u'⟩:=y;have hm:=List.mem_of_getElem? hx;show wpAny _ A (if ((gh w k').1 == (gh w k).1)=true then _ else _) _ E _
   by_cases hh:((gh w k').1 == (gh w k).1)=true
   ·rw [if_pos hh];refine wpAny_bind (wpAny_dictEpoch ho hd (wpAny_bind ((lK k' k).1 A v' key (he.is _ hm) hkey (hu _ hm) prog w E _ (wpAny_bind (wpAny_dictEpoch ho hd ?_)))));rw [if_neg (by simp)]
    by_cases hkk:k'=k
    ·rw [decide_eq_true hkk,if_pos rfl];exact wpAny_bind (wpAny_rule (wpAny_pure (wpAny_pure (q _ ⟨_,hkk▸hx⟩))))
    ·rw [decide_eq_false hkk,if_neg (by decide)];exact wpAny_bind (wpAny_rule (wpAny_pure ⟨rfl,rfl,next fun p h=>by rw [hx] at h;injection h with h;injection h with h _;exact hkk h⟩))
   ·rw [if_neg hh];exact wpAny_pure ⟨rfl,rfl,next fun p h=>by rw [hx] at h;injection h with h;injection h with h _;rw [h] at hh;simp at hh⟩
 ·rintro r s1 ⟨rfl,rfl,hl⟩;exact wpAny_pure (q none (show bS xs k none from fun j p h=>nomatch hl j p h))
theorem MQ {es:Array DictEntry} {h:Int} {j:Nat}:j∈placesWithHash es.size (fun i=>es[i]?.map (·.hash)) h↔j<es.size∧(es[j]?.map (·.hash) == some h)=true:=by
 unfold placesWithHash;rw [List.mem_filter,List.mem_range]
theorem BW {A:Around} {d:Addr} {o:Obj} {es:Array DictEntry} {ep:Nat} {xs:List qJ} {k:GK} {key:Value} {Q:Option Nat→Shared→Prop} (hu:A.units+8<cLine) (hkey:(GR s.heap k).1 key) (hk8:gd k≤8)
    (ho:s.heap.get? d=some o) (hd:o.data=.dict es ep) (he:KEnt w s.heap es xs) (q:∀r,bS xs k r→Q r s) :
    wpAny (model prog w) A (dictFind d key (gh w k).1) Q E s:=by
  have hu':∀x∈xs,A.units+gd x.1<cLine:=fun x hx=>by have:=he.deep x hx;omega
  have hsz:es.size=xs.length:=by rw [← Array.length_toList,he.es,List.length_map]
  have hpl:∀j p,xs[j]?=some (k,p)→j∈placesWithHash es.size (fun i=>es[i]?.map (·.hash)) (gh w k).1:=fun j p hj=>by
    rw [MQ,he.at j,hj];refine ⟨?_,by simp [JQ]⟩;rw [hsz];exact (List.getElem?_eq_some_iff.mp hj).1
  have hof:∀e∈es,∃x∈xs,e=JQ w x:=fun e hin=>by
    have:e∈xs.map (JQ w):=he.es▸Array.mem_toList_iff.mpr hin;obtain ⟨x,hx,rfl⟩:=List.mem_map.mp this;exact ⟨x,hx,rfl⟩
  have plain:wpAny (model prog w) A (dictWalkPlain d key (gh w k).1 es (placesWithHash es.size (fun i=>es[i]?.map (·.hash)) (gh w k).1)) Q E s:=MH hu' hkey ho hd he hpl q;have hst:∀v∈(placesWithHash es.size (fun i=>es[i]?.map (·.hash)) (gh w k).1).filterMap (fun i=>es[i]?.map (·.key)),JK prog w E s 8 v:=fun v hv=>by
    obtain ⟨i,_,hi⟩:=List.mem_filterMap.mp hv;obtain ⟨e,h1,h2⟩:=Option.map_eq_some_iff.mp hi;obtain ⟨x,hx,rfl⟩:=hof e (Array.mem_of_getElem? h1);subst h2;exact (iM x.1 8 (he.deep x hx)).1 _ (he.is x hx)
  have hchg:∀a,key=.ref a→¬(es.any fun e=>e.key == key&&e.hash != (gh w k).1)=true:=fun a ha hany=>by
    rw [← Array.any_toList,List.any_eq_true] at hany;obtain ⟨e,hin,hc⟩:=hany;obtain ⟨x,hx,rfl⟩:=hof e (Array.mem_toList_iff.mp hin);rw [Bool.and_eq_true] at hc;have e1:x.2.1=key:=eq_of_beq hc.1;have e2:=(GR.inj x.1 k).1 key (e1▸he.is x hx) hkey;have:=hc.2;simp [JQ,e2] at this
  have hkey':=hkey;have hkind:(∃n t,key=.int n t)∨(∃z t,key=.str z t∧k=.s z)∨∃a,key=.ref a:=by
    cases k with
    |i n=>exact .inl ⟨n,hkey⟩
    |s z=>obtain ⟨t,rfl⟩:=hkey;exact .inr (.inl ⟨z,t,rfl,rfl⟩)
    |nil=>obtain ⟨a,o,its,n,e,_⟩:=(GR.tup rfl).1 hkey;exact .inr (.inr ⟨a,e⟩)
    |cons x y=>obtain ⟨a,o,its,n,e,_⟩:=(GR.tup rfl).1 hkey;exact .inr (.inr ⟨a,e⟩)
  have hnd:(placesWithHash es.size (fun i=>es[i]?.map (·.hash)) (gh w k).1).Nodup:=by
    unfold placesWithHash;exact List.Pairwise.filter _ List.nodup_range
  have hquiet:JK prog w E s 8 key:=(iM k 8 hk8).1 key hkey;have texts:∀z t,key=.str z t→k=.s z→(es.all fun e=>isExactStrKey e.key)=true→Q (es.findIdx? fun e=>e.key.isStr z) s:=by
    rintro z t rfl rfl _;cases hf:es.findIdx? fun e=>e.key.isStr z with
    |none =>
      refine q none (show bS xs (.s z) none from fun j p hj=>?_);obtain ⟨u,hu⟩:∃u,p.1=.str z u:=he.is _ (List.mem_of_getElem? hj);have e2:es[j]?=some (JQ w (.s z,p)):=by rw [he.at j,hj];rfl
      have:=Array.findIdx?_eq_none_iff.mp hf _ (Array.mem_of_getElem? e2);simp [JQ,hu,Value.isStr] at this
    |some j =>
      obtain ⟨hlt,hj,_⟩:=Array.findIdx?_eq_some_iff_getElem.mp hf;refine q (some j) ?_;obtain ⟨u,hu⟩:=KTD.kt_isStr hj;have e2:=he.at j;rw [Array.getElem?_eq_getElem hlt] at e2;cases hx:xs[j]? with
      |none=>rw [hx] at e2;cases e2
      |some x =>
        rw [hx] at e2;injection e2 with e2
        have hx1:=he.is x (List.mem_of_getElem? hx);have e3:x.2.1=.str z u:=by rw [← hu,e2];rfl
        have e4:=(GR.inj x.1 (.s z)).1 x.2.1 hx1 ⟨u,e3⟩;exact ⟨x.2,by rw [hx,← e4]⟩
  by_cases htx:(∃z t,key=.str z t∧k=.s z)∧(es.all fun e=>isExactStrKey e.key)=true
  · obtain ⟨⟨z,t,rfl,rfl⟩,hall⟩:=htx
    exact KTD.kt_dictFind_strs ho hd hall (texts z t rfl rfl hall)
  unfold dictFind;refine wpAny_holding (wpAny_bind (wpAny_dictEntries ho hd ?_));generalize hpl0:placesWithHash es.size (fun i=>es[i]?.map (·.hash)) (gh w k).1=pl at *
  rcases hkind with ⟨n,t,rfl⟩|⟨z,t,rfl,hz⟩|⟨a,rfl⟩<;>dsimp only
  case' inr.inl=>rw [if_neg fun hall=>htx ⟨⟨z,t,rfl,hz⟩,hall⟩]
  all_goals refine wpAny_ite_split (fun _=>plain) fun _=>?_
  case' inr.inr=>rw [if_neg (hchg a rfl)]
  all_goals refine wpAny_ite_split (fun _=>wpAny_bind (wpAny_pure ?_)) fun _=>wpAny_bind (L5 hquiet hst ?_)
  all_goals
    rw [if_neg (by simp)];refine wpAny_bind (wpAny_forIn_list _ (fun left b s1=>s1=s∧left.Nodup∧∃hit,b=(none,hit)∧
      ((hit=none∧∀j p,xs[j]?=some (k,p)→j∈left)∨∃j p,hit=some j∧xs[j]?=some (k,p)∧j∉left)) _ ?_ ?_ _ _ ⟨rfl,hnd,none,rfl,.inl ⟨rfl,hpl⟩⟩)
    · rintro x left b s1 ⟨rfl,hno,hit,rfl,hH⟩
      rw [List.nodup_cons] at hno;rw [he.at x];cases hx:xs[x]? with
      |none =>
        refine wpAny_pure ⟨rfl,hno.2,hit,rfl,?_⟩
        rcases hH with ⟨h0,hl⟩|⟨j,p,h1,h2,h3⟩
        · refine .inl ⟨h0,fun j p hj=>?_⟩
          rcases List.mem_cons.mp (hl j p hj) with rfl|h
          · rw [hx] at hj;cases hj
          · exact h
        · exact .inr ⟨j,p,h1,h2,fun h=>h3 (List.mem_cons_of_mem x h)⟩
      |some y =>
        obtain ⟨k',v',u'⟩:=y;have hm:=List.mem_of_getElem? hx;have other:k'≠k→(hit=none∧∀j p,xs[j]?=some (k,p)→j∈left)∨∃j p,hit=some j∧xs[j]?=some (k,p)∧j∉left:=fun hne=>by
          rcases hH with ⟨h0,hl⟩|⟨j,p,h1,h2,h3⟩
          · refine .inl ⟨h0,fun j p hj=>?_⟩
            rcases List.mem_cons.mp (hl j p hj) with rfl|h
            · rw [hx] at hj;injection hj with hj;injection hj with hj _;exact absurd hj hne
            · exact h
          · exact .inr ⟨j,p,h1,h2,fun h=>h3 (List.mem_cons_of_mem x h)⟩
        show wpAny _ A (if ((gh w k').1 == (gh w k).1)=true then _ else _) _ E _;refine wpAny_ite_split (fun hh=>?_) fun hh=>wpAny_pure ⟨rfl,hno.2,hit,rfl,other fun e=>hh (by rw [e];exact beq_self_eq_true _)⟩
        refine wpAny_bind (wpAny_dictEpoch ho hd (wpAny_bind ((lK k' k).1 A v' _ (he.is _ hm) hkey' (hu' _ hm) prog w E _ (wpAny_bind (wpAny_dictEpoch ho hd ?_)))));rw [if_neg (by simp)]
        by_cases hkk:k'=k
        · rw [decide_eq_true hkk,if_pos rfl]
          subst hkk
          rcases hH with ⟨rfl,hl⟩|⟨j,p,rfl,h2,h3⟩
          · rw [if_neg (by simp)]
            refine wpAny_bind (wpAny_rule (wpAny_ite_split (fun _=>wpAny_pure (wpAny_pure (q (some x) ⟨_,hx⟩))) fun _=>wpAny_pure ⟨rfl,hno.2,some x,rfl,.inr ⟨x,_,rfl,hx,hno.1⟩⟩))
          · exact absurd (RL he.once h2 hx▸List.mem_cons_self) h3
        · rw [decide_eq_false hkk,if_neg (by decide)]
          refine wpAny_bind (wpAny_rule ?_);rw [if_neg (by simp)];exact wpAny_pure ⟨rfl,hno.2,hit,rfl,other hkk⟩
    · rintro b s1 ⟨rfl,_,hit,rfl,hH⟩
      rcases hH with ⟨rfl,hl⟩|⟨j,p,rfl,h2,_⟩
      · exact wpAny_pure (q none (show bS xs _ none from fun j p h=>nomatch hl j p h))
      · exact wpAny_pure (q (some j) ⟨p,h2⟩)
end
section
variable {prog:Program} {w:World} {A:Around} {E:Value→Shared→Prop} {s:Shared}
def DictG (w:World) (h:Heap) (d:Addr) (xs:List qJ):Prop:=∃o es ep,h.get? d=some o∧o.ExactDict∧o.data=.dict es ep∧KEnt w h es xs
theorem DictG.typeIs {d:Addr} {xs:List qJ} (x:DictG w s.heap d xs):s.TypeIs (.ref d) "dict":=let ⟨o,_,_,ho,hc,_⟩:=x;⟨o,ho,hc.1⟩
def zK (xs:List qJ) (k:GK):Option Value:=(xs.find? fun x=>decide (x.1=k)).map (·.2.2)
def Z1 (xs:List qJ) (k:GK) (key v:Value):List qJ:=if (xs.any fun x=>decide (x.1=k)) then xs.map (fun x=>if x.1=k then (x.1,x.2.1,v) else x) else xs++[(k,key,v)]
theorem AD {k:GK}:∀{xs:List qJ} (_:(xs.map (·.1)).Nodup) {j:Nat} {p:Value×Value} (_:xs[j]?=some (k,p)),zK xs k=some p.2
 |[],_,j,p,h=>by cases j<;>cases h
 |x::xs,hn,0,p,h=>by cases h;simp [zK]
 |x::xs,hn,j+1,p,h=>by
  rw [List.map_cons,List.nodup_cons] at hn;have h':xs[j]?=some (k,p):=h;have hne:¬x.1=k:=fun e=>hn.1 (e▸List.mem_map.mpr ⟨_,List.mem_of_getElem? h',rfl⟩)
  have:=AD hn.2 h'
  simpa [zK,List.find?_cons,hne] using this
theorem PQ {xs:List qJ} {k:GK} (h:bS xs k none):(xs.any fun x=>decide (x.1=k))=false:=by
 rw [Bool.eq_false_iff];intro hx;rw [List.any_eq_true] at hx;obtain ⟨x,hm,hk⟩:=hx;obtain ⟨j,hj⟩:=List.mem_iff_getElem?.mp hm;exact h j x.2 (by rw [hj,← of_decide_eq_true hk])
theorem N8 {xs:List qJ} {k:GK} (h:bS xs k none):zK xs k=none:=by
 have:xs.find? (fun x=>decide (x.1=k))=none:=by
  rw [List.find?_eq_none];intro x hm hk;obtain ⟨j,hj⟩:=List.mem_iff_getElem?.mp hm;exact h j x.2 (by rw [hj,← of_decide_eq_true hk])
 rw [zK,this];rfl
theorem C3 {d:Addr} {xs:List qJ} {k:GK} {key:Value} {Q:Option Value→Shared→Prop} (hu:A.units+8<cLine) (hkey:(GR s.heap k).1 key) (hk8:gd k≤8) (hm:DictG w s.heap d xs)
  (q:∀n,Q (zK xs k) {s with toks:=n}):wpAny (model prog w) A (dictGet d key) Q E s:=by
 obtain ⟨o,es,ep,ho,hc,hd,he⟩:=hm;unfold dictGet;refine wpAny_holding (wpAny_bind ((iW k).1 key A s _ hkey (by omega) fun n=>wpAny_bind (BW (s:={s with toks:=n}) hu hkey hk8 ho hd he fun r hr=>?_)));cases r with
 |none=>rw [← N8 hr];exact wpAny_pure (q n)
 |some j =>
  obtain ⟨p,hj⟩:=hr;refine wpAny_bind (wpAny_dictEntries (s:={s with toks:=n}) ho hd ?_);rw [he.at j,hj];refine wpAny_pure ?_;have:=q n;rw [AD he.once hj] at this;exact this
theorem wI {h h':Heap} {d:Addr} {o:Obj} {es:Array DictEntry} {ep:Nat} (ho:h.get? d=some o) (hd:o.data=.dict es ep) (hs:Heap.SameBut d h h'):∀a o its n,h.get? a=some o→o.data=.seq its n→h'.get? a=some o:=by
 intro a o' its n ho' hd';have hne:a≠d:=by
  rintro rfl;obtain rfl:o'=o:=Option.some.inj (ho'.symm.trans ho);rw [hd] at hd';cases hd'
 exact (hs.2 a hne).trans ho'
theorem NP {xs:List qJ} {k:GK} {v:Value}:(xs.map (fun x=>if x.1=k then (x.1,x.2.1,v) else x)).map (·.1)=xs.map (·.1):=by
 rw [List.map_map];refine List.map_congr_left fun x _=>?_
 show (if x.1=k then (x.1,x.2.1,v) else x).1=x.1
 split<;>rfl
theorem x9 {k:GK} {v:Value}:∀{xs:List qJ} (_:(xs.map (·.1)).Nodup) {j:Nat} {p:Value×Value} (_:xs[j]?=some (k,p)),
  (xs.map (JQ w)).modify j (fun e=>{e with val:=v})=(xs.map (fun x=>if x.1=k then (x.1,x.2.1,v) else x)).map (JQ w)
 |[],_,j,p,h=>by cases j<;>cases h
 |x::xs,hn,0,p,h=>by
  cases h;rw [List.map_cons,List.nodup_cons] at hn;have e:xs.map (fun x=>if x.1=k then (x.1,x.2.1,v) else x)=xs:=by
   refine (List.map_congr_left fun x hx=>?_).trans (List.map_id xs);have hne:¬x.1=k:=fun e=>hn.1 (List.mem_map.mpr ⟨x,hx,e⟩)
   show (if x.1=k then (x.1,x.2.1,v) else x)=x;rw [if_neg hne]
  rw [List.map_cons,List.map_cons,e];simp [JQ]
 |x::xs,hn,j+1,p,h=>by
  rw [List.map_cons,List.nodup_cons] at hn;have h':xs[j]?=some (k,p):=h;have hne:¬x.1=k:=fun e=>hn.1 (e▸List.mem_map.mpr ⟨_,List.mem_of_getElem? h',rfl⟩)
  rw [List.map_cons,List.map_cons,if_neg hne,List.map_cons,← x9 hn.2 h'];rfl
theorem CL {d:Addr} {xs:List qJ} {k:GK} {key v:Value} {Q:Unit→Shared→Prop} (hu:A.units+8<cLine) (hkey:(GR s.heap k).1 key) (hk8:gd k≤8) (hm:DictG w s.heap d xs) (hsz:xs.length≤sizeLine)
  (q:∀n h',DictG w h' d (Z1 xs k key v)→Heap.SameBut d s.heap h'→Q () {s with heap:=h',toks:=n}):wpAny (model prog w) A (dictSet d key v) Q E s:=by
 obtain ⟨o,es,ep,ho,hc,hd,he⟩:=hm;have hz:es.size=xs.length:=by rw [← Array.length_toList,he.es,List.length_map]
 unfold dictSet;refine wpAny_holding (wpAny_bind ((iW k).1 key A s _ hkey (by omega) fun n=>?_));unfold dictSetHashed;refine wpAny_holding (wpAny_bind (BW (s:={s with toks:=n}) hu hkey hk8 ho hd he fun r hr=>?_));cases r with
 |none =>
  have e0:Z1 xs k key v=xs++[(k,key,v)]:=by rw [Z1,PQ hr];rfl
  refine wpAny_bind (wpAny_rule (wpAny_updateDictKeys (hz:=by omega) (s:={s with toks:=n}) ho hd (q n _ ?_ (Heap.SameBut.update ..))));rw [e0];have kp:=wI ho hd (Heap.SameBut.update (h:=s.heap) (a:=d) (f:=fun o=>o.mapDictKeys fun es=>es.push ⟨(gh w k).1,key,v⟩));refine ⟨_,_,ep+1,Heap.get?_update_self _ ho (Obj.isFreed_of_dict (Obj.data_mapDictKeys hd _)),hc.mapDictKeys _,Obj.data_mapDictKeys hd _,?_,?_,?_,?_⟩
  ·rw [Array.toList_push,he.es,List.map_append];rfl
  ·intro x hx
   rcases List.mem_append.mp hx with hx|hx
   ·exact (GR.keep kp x.1).1 _ (he.is x hx)
   ·cases List.mem_singleton.mp hx;exact (GR.keep kp k).1 _ hkey
  ·intro x hx
   rcases List.mem_append.mp hx with hx|hx
   ·exact he.deep x hx
   ·cases List.mem_singleton.mp hx;exact hk8
  ·rw [List.map_append,List.nodup_append];refine ⟨he.once,by simp,fun a ha b hb e=>?_⟩;cases List.mem_singleton.mp hb;obtain ⟨x,hx,rfl⟩:=List.mem_map.mp ha;obtain ⟨j,hj⟩:=List.mem_iff_getElem?.mp hx;have e':x.1=k:=e;exact hr j x.2 (by rw [hj,← e'])
 |some j =>
  obtain ⟨p,hj⟩:=hr;have e0:Z1 xs k key v=xs.map (fun x=>if x.1=k then (x.1,x.2.1,v) else x):=by
   rw [Z1,if_pos];rw [List.any_eq_true];exact ⟨_,List.mem_of_getElem? hj,decide_eq_true rfl⟩
  refine wpAny_bind (wpAny_rule (wpAny_bind (wpAny_updateDict (s:={s with toks:=n}) ho hd (wpAny_point (q n _ ?_ (Heap.SameBut.update ..))))));rw [e0];have kp:=wI ho hd (Heap.SameBut.update (h:=s.heap) (a:=d) (f:=fun o=>o.mapDict fun es=>es.modify j fun e=>{e with val:=v}));refine ⟨_,_,ep,Heap.get?_update_self _ ho (Obj.isFreed_of_dict (Obj.data_mapDict hd _)),hc.mapDict _,Obj.data_mapDict hd _,?_,?_,?_,?_⟩
  ·rw [← x9 he.once hj,← he.es];simp
  ·intro x hx;obtain ⟨y,hy,rfl⟩:=List.mem_map.mp hx;have:=(GR.keep kp y.1).1 _ (he.is y hy)
   split<;>exact this
  ·intro x hx;obtain ⟨y,hy,rfl⟩:=List.mem_map.mp hx;have:=he.deep y hy
   split<;>exact this
  ·rw [NP];exact he.once
end
section
variable {prog:Program} {w:World} {A:Around} {E:Value→Shared→Prop} {s:Shared} {d:Addr} {xs:List qJ} {k:GK} {key v:Value}
theorem O8 {Q:Value→Shared→Prop} (hu:A.units+9<cLine) (hkey:(GR s.heap k).1 key) (hk8:gd k≤8) (hm:DictG w s.heap d xs) (hv:zK xs k=some v) (q:∀n,Q v {s with toks:=n}) :
  wpAny (model prog w) A (getItem (.ref d) key) Q E s:=by
 have T:=hm.typeIs;unfold getItem;refine wpAny_holding (wpAny_bind (wpAny_sequenceKey T (by decide) (wpAny_bind (wpAny_callSpecial?_slot (name:=Str.ofString "__getitem__") T slot_dict_getitem (wpAny_call_entry slot_dict_getitem T entry_dict_getitem ?_ (args_dict_getitem _ _))))));show wpAny _ A.in1 (dictGet d key >>= _) _ E s;refine wpAny_bind (C3 (by simp only [Around.in1_units];omega) hkey hk8 hm fun n=>?_);rw [hv];exact wpAny_pure ⟨v,rfl,wpAny_pure (q n)⟩
theorem NM {Q:Unit→Shared→Prop} (hu:A.units+9<cLine) (hkey:(GR s.heap k).1 key) (hk8:gd k≤8) (hm:DictG w s.heap d xs) (hsz:xs.length≤sizeLine)
  (q:∀n h',DictG w h' d (Z1 xs k key v)→Heap.SameBut d s.heap h'→Q () {s with heap:=h',toks:=n}):wpAny (model prog w) A (setItem (.ref d) key v) Q E s:=by
 have T:=hm.typeIs;unfold setItem;refine wpAny_holding (wpAny_bind (wpAny_sequenceKey T (by decide) (wpAny_bind (wpAny_callSpecial?_slot (name:=Str.ofString "__setitem__") T slot_dict_setitem (wpAny_call_entry slot_dict_setitem T entry_dict_setitem ?_ (args_dict_setitem _ _ _))))));show wpAny _ A.in1 (Builtin.Dict.notOrdered "__setitem__" _ >>= _) _ E s;refine wpAny_bind (wpAny_notOrdered_dict T ?_);show wpAny _ A.in1 (dictSet d key v >>= _) _ E s;exact wpAny_bind (CL (by simp only [Around.in1_units];omega) hkey hk8 hm hsz fun n h' m sb=>wpAny_pure ⟨.none,rfl,wpAny_pure (q n h' m sb)⟩)
end
def GV (H:Hp):GK→(V→Prop)×(List V→Prop)
 |.i n=>(fun v=>v=.int n,fun _=>False)
 |.s x=>(fun v=>v=.str x,fun _=>False)
 |.nil=>(fun v=>∃a,v=.ref a∧H a=some (.tup []),fun l=>l=[])
 |.cons x y=>(fun v=>∃a l,v=.ref a∧H a=some (.tup l)∧∃u us,l=u::us∧(GV H x).1 u∧(GV H y).2 us,fun l=>∃u us,l=u::us∧(GV H x).1 u∧(GV H y).2 us)
theorem GV.keep {H H':Hp} (hk:∀a l,H a=some (.tup l)→H' a=some (.tup l)):∀k,(∀v,(GV H k).1 v→(GV H' k).1 v)∧(∀l,(GV H k).2 l→(GV H' k).2 l)
 |.i _=>⟨fun _ p=>p,fun _ p=>p⟩
 |.s _=>⟨fun _ p=>p,fun _ p=>p⟩
 |.nil=>⟨fun _ p=>by obtain ⟨a,e,q⟩:=p;exact ⟨a,e,hk _ _ q⟩,fun _ p=>p⟩
 |.cons x y=>by
  have c:∀l,(∃u us,l=u::us∧(GV H x).1 u∧(GV H y).2 us)→∃u us,l=u::us∧(GV H' x).1 u∧(GV H' y).2 us :=
   fun l ⟨u,us,e,p,q⟩=>⟨u,us,e,(GV.keep hk x).1 _ p,(GV.keep hk y).2 _ q⟩
  exact ⟨fun _ p=>by obtain ⟨a,l,e,q,r⟩:=p;exact ⟨a,l,e,hk _ _ q,c l r⟩,c⟩
section
variable {P:Program} {w:World} {H:Hp} {h:Heap}
theorem GV.rel (hok:HOk P w H h):∀k,(∀v u,(GV H k).1 v→RelV v u→(GR h k).1 u)∧(∀l us,(GV H k).2 l→Vals l us→(GR h k).2 us)
 |.i _=>⟨fun v u p r=>by cases p;exact r,fun _ _ p=>p.elim⟩
 |.s _=>⟨fun v u p r=>by cases p;exact r,fun _ _ p=>p.elim⟩
 |.nil=>by
  refine ⟨fun v u p r=>?_,fun l us p r=>by cases p;cases r;exact rfl⟩;obtain ⟨a,rfl,q⟩:=p;cases r;obtain ⟨_,its,r2,o,ho,hc,n,hd⟩:=hok a _ q;cases r2;exact ⟨a,o,_,n,rfl,ho,hc,hd,rfl⟩
 |.cons x y=>by
  have c:∀l us,(∃u vs,l=u::vs∧(GV H x).1 u∧(GV H y).2 vs)→Vals l us→∃u vs,us=u::vs∧(GR h x).1 u∧(GR h y).2 vs:=by
   rintro l us ⟨u,vs,rfl,p1,p2⟩ r;cases r with
   |cons r1 r2=>exact ⟨_,_,rfl,(GV.rel hok x).1 _ _ p1 r1,(GV.rel hok y).2 _ _ p2 r2⟩
  refine ⟨fun v u p r=>?_,c⟩;obtain ⟨a,l,rfl,q,p'⟩:=p;cases r;obtain ⟨_,its,r2,o,ho,hc,n,hd⟩:=hok a _ q;exact ⟨a,o,_,n,rfl,ho,hc,hd,c l its p' r2⟩
end
abbrev qS:=GK×V×V
def RelG (p:qS) (q:qJ):Prop:=p.1=q.1∧RelV p.2.1 q.2.1∧RelV p.2.2 q.2.2
def GO (w:World) (d:Addr) (kvs:List qS):HO:=.ext fun h=>kvs.length≤sizeLine∧(d == sysModules)=false∧∃xs:List qJ,Paired RelG kvs xs∧∃o es ep,h.get? d=some o∧o.ExactDict∧o.data=.dict es ep∧es.toList=xs.map (JQ w)
structure GOk (H:Hp) (kvs:List qS):Prop where
 key:∀p∈kvs,(GV H p.1).1 p.2.1
 deep:∀p∈kvs,gd p.1≤8
 once:(kvs.map (·.1)).Nodup
def zV (kvs:List qS) (k:GK):Option V:=(kvs.find? fun x=>decide (x.1=k)).map (·.2.2)
def vO (kvs:List qS) (k:GK) (y v:V):List qS:=if (kvs.any fun x=>decide (x.1=k)) then kvs.map (fun x=>if x.1=k then (x.1,x.2.1,v) else x) else kvs++[(k,y,v)]
theorem RelG.keys:∀{kvs:List qS} {xs:List qJ},Paired RelG kvs xs→kvs.map (·.1)=xs.map (·.1)
 |_,_,.nil=>rfl
 |_,_,.cons r t=>by rw [List.map_cons,List.map_cons,r.1,RelG.keys t]
theorem RelG.mem {q:qJ}:∀{kvs:List qS} {xs:List qJ},Paired RelG kvs xs→q∈xs→∃p∈kvs,RelG p q
 |_,_,.nil,h=>nomatch h
 |_,_,.cons r t,h=>by
  rcases List.mem_cons.mp h with rfl|h
  ·exact ⟨_,List.mem_cons_self,r⟩
  ·obtain ⟨p,hp,rp⟩:=RelG.mem t h;exact ⟨p,List.mem_cons_of_mem _ hp,rp⟩
theorem RelG.get {k:GK} {v:V}:∀{kvs:List qS} {xs:List qJ},Paired RelG kvs xs→zV kvs k=some v→∃u,zK xs k=some u∧RelV v u
 |_,_,.nil,e=>by cases e
 |p::kvs,q::xs,.cons r t,e=>by
  by_cases h:p.1=k
  ·have h':q.1=k:=r.1▸h;simp only [zV,List.find?_cons,h,decide_true,Option.map_some,Option.some.injEq] at e;exact ⟨q.2.2,by simp [zK,h'],e▸r.2.2⟩
  ·have h':¬q.1=k:=r.1▸h;simp only [zV,List.find?_cons,h,decide_false] at e;obtain ⟨u,e1,e2⟩:=RelG.get t e;exact ⟨u,by simpa [zK,List.find?_cons,h'] using e1,e2⟩
theorem RelG.none {k:GK}:∀{kvs:List qS} {xs:List qJ},Paired RelG kvs xs→(zK xs k).isSome=(zV kvs k).isSome
 |_,_,.nil=>rfl
 |p::kvs,q::xs,.cons r t=>by
  have ih:=RelG.none (k:=k) t
  by_cases h:p.1=k
  ·have h':q.1=k:=r.1▸h;simp [zK,zV,h,h']
  ·have h':¬q.1=k:=r.1▸h
   simpa [zK,zV,List.find?_cons,h,h'] using ih
theorem RelG.any {k:GK}:∀{kvs:List qS} {xs:List qJ},Paired RelG kvs xs→(xs.any fun x=>decide (x.1=k))=(kvs.any fun x=>decide (x.1=k))
 |_,_,.nil=>rfl
 |_,_,.cons r t=>by rw [List.any_cons,List.any_cons,RelG.any t,r.1]
theorem RelG.put {k:GK} {v:V} {u:Value} (rv:RelV v u):∀{kvs:List qS} {xs:List qJ},Paired RelG kvs xs→
  Paired RelG (kvs.map (fun x=>if x.1=k then (x.1,x.2.1,v) else x)) (xs.map (fun x=>if x.1=k then (x.1,x.2.1,u) else x))
 |_,_,.nil=>.nil
 |p::kvs,q::xs,.cons r t=>by
  refine .cons ?_ (RelG.put rv t)
  by_cases h:p.1=k
  ·have h':q.1=k:=r.1▸h
   dsimp only;rw [if_pos h,if_pos h'];exact ⟨r.1,r.2.1,rv⟩
  ·have h':¬q.1=k:=r.1▸h
   dsimp only;rw [if_neg h,if_neg h'];exact r
theorem RelG.app:∀{kvs kvs':List qS} {xs xs':List qJ},Paired RelG kvs xs→Paired RelG kvs' xs'→Paired RelG (kvs++kvs') (xs++xs')
 |_,_,_,_,.nil,t=>t
 |_,_,_,_,.cons r t,t'=>.cons r (RelG.app t t')
theorem RelG.set {k:GK} {y v:V} {key u:Value} (ry:RelV y key) (rv:RelV v u) {kvs:List qS} {xs:List qJ} (r:Paired RelG kvs xs):Paired RelG (vO kvs k y v) (Z1 xs k key u):=by
 unfold vO Z1;rw [RelG.any r]
 split
 ·exact RelG.put rv r
 ·exact RelG.app r (.cons ⟨rfl,ry,rv⟩ .nil)
theorem BH (kvs:List qS) (k:GK) (y v:V):(vO kvs k y v).length≤kvs.length+1:=by
 unfold vO
 split
 ·rw [List.length_map];omega
 ·rw [List.length_append];exact Nat.le_refl _
section
variable {X:Cx} {pins:List (Addr×Obj)} {σ:St} {H:Hp} {s:Shared} {d:Addr} {k:GK} {y v:V} {u r:Value} {A:Around} {E:Value→Shared→Prop} {kvs:List qS}
theorem Inv.gdict (I:Inv X pins σ H s) (e:Rd H d (GO X.w d kvs)) (g:GOk H kvs):kvs.length≤sizeLine∧(d == sysModules)=false∧∃xs,Paired RelG kvs xs∧DictG X.w s.heap d xs:=by
 obtain ⟨⟨hl,hm,xs,rel,o,es,ep,ho,hc,hd,he⟩,_,_⟩:=e.ok I.hok;refine ⟨hl,hm,xs,rel,o,es,ep,ho,hc,hd,he,?_,?_,by rw [← RelG.keys rel];exact g.once⟩
 ·intro q hq;obtain ⟨p,hp,rp⟩:=RelG.mem rel hq;exact rp.1▸(GV.rel I.hok p.1).1 _ _ (g.key p hp) rp.2.1
 ·intro q hq;obtain ⟨p,hp,rp⟩:=RelG.mem rel hq;exact rp.1▸g.deep p hp
theorem S8 {Q:Value→Shared→Prop} (hu:A.units+9<cLine) (I:Inv X pins σ H s) (e:Rd H d (GO X.w d kvs)) (g:GOk H kvs) (hy:(GV H k).1 y) (h8:gd k≤8) (hv:zV kvs k=some v) (ry:RelV y u)
  (h:∀w' s',Inv X pins σ H s'→RelV v w'→Q w' s'):wpAny (model X.prog X.w) A (getItem (.ref d) u) Q E s:=by
 obtain ⟨_,_,xs,rel,dd⟩:=I.gdict e g;obtain ⟨w',hw,rw'⟩:=RelG.get rel hv;exact O8 hu ((GV.rel I.hok k).1 y u hy ry) h8 dd hw fun n=>h w' _ (I.tok n) rw'
theorem R1 {Q:Unit→Shared→Prop} (hu:A.units+9<cLine) (I:Inv X pins σ H s) (e:H d=some (GO X.w d kvs)) (g:GOk H kvs) (hy:(GV H k).1 y) (h8:gd k≤8) (hl:kvs.length<sizeLine) (ry:RelV y u) (rv:RelV v r)
  (h:∀s',Inv X pins σ (upd H d (GO X.w d (vO kvs k y v))) s'→Q () s'):wpAny (model X.prog X.w) A (setItem (.ref d) u r) Q E s:=by
 obtain ⟨_,hm,xs,rel,dd⟩:=I.gdict (.of e) g;refine NM hu ((GV.rel I.hok k).1 y u hy ry) h8 dd (by rw [← Paired.length rel];omega) fun n h' dd' sb=>h _ ?_
 obtain ⟨o,es,ep,ho,hc,hd,he,_⟩:=dd';refine sH I (by rw [e];exact True.intro) sb ⟨o,ho⟩ ⟨⟨by have:=BH kvs k y v;omega,hm,_,RelG.set ry rv rel,o,es,ep,ho,hc,hd,he⟩,⟨o,ho⟩,?_⟩;rintro h1 h2 ⟨a1,a2,xs',a3,o',es',ep',a4,a5⟩ kp;exact ⟨a1,a2,xs',a3,o',es',ep',kp _ a4,a5⟩
end
variable {H:Hp}
theorem GOk.keep {H':Hp} {kvs:List qS} (g:GOk H kvs) (hk:∀a l,H a=some (.tup l)→H' a=some (.tup l)):GOk H' kvs:=⟨fun p hp=>(GV.keep hk p.1).1 _ (g.key p hp),g.deep,g.once⟩
theorem GOk.nil:GOk H []:=⟨fun _ h=>(nomatch h),fun _ h=>(nomatch h),List.nodup_nil⟩
theorem GOk.set {kvs:List qS} {k:GK} {y v:V} (g:GOk H kvs) (hy:(GV H k).1 y) (h8:gd k≤8):GOk H (vO kvs k y v):=by
 unfold vO
 by_cases ha:(kvs.any fun x=>decide (x.1=k))=true
 ·rw [if_pos ha];refine ⟨fun p hp=>?_,fun p hp=>?_,?_⟩
  ·obtain ⟨q,hq,rfl⟩:=List.mem_map.mp hp;have:=g.key q hq
   split<;>exact this
  ·obtain ⟨q,hq,rfl⟩:=List.mem_map.mp hp;have:=g.deep q hq
   split<;>exact this
  ·rw [List.map_map,show ((fun x:qS=>x.1)∘fun x=>if x.1=k then (x.1,x.2.1,v) else x)=(·.1) from funext fun x=>by show (if x.1=k then (x.1,x.2.1,v) else x).1=x.1;split<;>rfl];exact g.once
 ·rw [if_neg ha];refine ⟨fun p hp=>?_,fun p hp=>?_,?_⟩
  ·rcases List.mem_append.mp hp with hp|hp
   ·exact g.key p hp
   ·cases List.mem_singleton.mp hp;exact hy
  ·rcases List.mem_append.mp hp with hp|hp
   ·exact g.deep p hp
   ·cases List.mem_singleton.mp hp;exact h8
  ·rw [List.map_append,List.nodup_append];refine ⟨g.once,by simp,fun a h1 b h2 e=>ha ?_⟩;cases List.mem_singleton.mp h2;obtain ⟨q,hq,rfl⟩:=List.mem_map.mp h1;rw [List.any_eq_true];exact ⟨q,hq,decide_eq_true e⟩
def TM (w:World) (td ty:TE):TE:=fun σ H Q=>td σ H fun x H1=>ty σ H1 fun y H2=>∃(d:Addr) (kvs:List qS) (k:GK) (v:V),x=.ref d∧Rd H2 d (GO w d kvs)∧GOk H2 kvs∧(GV H2 k).1 y∧gd k≤8∧zV kvs k=some v∧Q v H2
def TX (w:World) (td ty tv:TE):TS:=fun D σ H=>tv σ H fun v H1=>td σ H1 fun x H2=>ty σ H2 fun y H3=>∃(d:Addr) (kvs:List qS) (k:GK),x=.ref d∧H3 d=some (GO w d kvs)∧GOk H3 kvs∧(GV H3 k).1 y∧gd k≤8∧kvs.length<sizeLine∧D.nx σ (upd H3 d (GO w d (vO kvs k y v)))
section
variable {X:Cx} {o i e value:Expr} {pos pos':Pos} {td ty tv:TE}
theorem CU (hu:X.A.units+9<cLine) (ho:PE X o td) (hi:PE X i ty) (hs:uD i):PE X (.Subscript o i pos) (TM X.w td ty):=by
 intro pins s σ H Q I h;refine B8 PySem.F.slot_dict_getitem.lookup hs (jN (ho pins s σ H _ I h) fun u s1 ⟨x,H1,I1,rx,q1⟩=>jN (hi pins s1 σ H1 _ I1 q1) fun iv s2 ⟨y,H2,I2,ry,d,kvs,k,v,ex,hd,g,hy,h8,hv,q2⟩=>?_);subst ex;obtain rfl:u=Value.ref d:=rx;obtain ⟨_,_,xs,_,dd⟩:=I2.gdict hd g;exact ⟨dd.typeIs,S8 hu I2 hd g hy h8 hv ry fun w' s3 I3 rw'=>⟨v,H2,I3,rw',q2⟩⟩
theorem CN (hu:X.A.units+9<cLine) (ho:PE X o td) (hi:PE X i ty) (hv:PE X value tv) (hs:swapsWith value (some (.Subscript o i pos')) pos.line X.env=pure false) :
  PS X (.Assign [.Subscript o i pos'] value pos) (TX X.w td ty tv):=by
 intro pins s σ H D I h;refine wpAny_Assign_Subscript (jN (hv pins s σ H _ I h) fun r s1 ⟨v,H1,I1,rv,q1⟩=>jN (ho pins s1 σ H1 _ I1 q1) fun u s2 ⟨x,H2,I2,rx,q2⟩=>jN (hi pins s2 σ H2 _ I2 q2) fun iv s3 ⟨y,H3,I3,ry,d,kvs,k,ex,hd,g,hy,h8,hl,q3⟩=>?_) hs;subst ex;obtain rfl:u=Value.ref d:=rx;exact R1 hu I3 hd g hy h8 hl ry rv fun s4 I4=>⟨σ,_,I4,q3⟩
theorem RA {s:Shared} {A:Around} {x y:GK} {v u:Value} (p:(GR s.heap x).1 v) (q:(GR s.heap y).1 u) (hu:A.units+gd x<cLine):SeqAt.RcAt A s v u (decide (x=y)):=by
 have tt:QX x=true→QX y=true→SeqAt.RcAt A s v u (decide (x=y)):=fun hx hy=>by
  obtain ⟨a,o,its,n,rfl,ho,hc,hd,hl⟩:=(GR.tup hx).1 p;obtain ⟨a',o',its',n',rfl,ho',hc',hd',hl'⟩:=(GR.tup hy).1 q;obtain ⟨e,he,hr⟩:=(lK x y).2 A.in1 _ _ hl hl' (by simp only [Around.in1_units];omega);have r:=SeqAt.RcAt.tuples (A:=A) (s:=s) (e:=e) (items:=its) (items2:=its') ⟨o,ho,hc,n,hd⟩ ⟨o',ho',hc',n',hd'⟩ (by omega) (fun j h1 h2=>by have:=he j (by simpa using h1) (by simpa using h2);rwa [Array.getElem_toList,Array.getElem_toList] at this);rw [Array.length_toList,Array.length_toList] at hr;rw [hr] at r;exact r
 have ti:QX x=true→∀n t,u=.int n t→SeqAt.RcAt A s v u false:=fun hx n t e=>by
  obtain ⟨a,o,its,m,rfl,ho,hc,hd,_⟩:=(GR.tup hx).1 p;subst e;exact SeqAt.RcAt.tuple_int _ _ ⟨o,ho,hc,_,hd⟩ (by omega)
 have ts:QX x=true→∀n t,u=.str n t→SeqAt.RcAt A s v u false:=fun hx n t e=>by
  obtain ⟨a,o,its,m,rfl,ho,hc,hd,_⟩:=(GR.tup hx).1 p;subst e;exact SeqAt.RcAt.tuple_str _ _ ⟨o,ho,hc,_,hd⟩ (by omega)
 have it:QX y=true→∀n t,v=.int n t→SeqAt.RcAt A s v u false:=fun hy n t e=>by
  obtain ⟨a,o,its,m,rfl,ho,hc,hd,_⟩:=(GR.tup hy).1 q;subst e;exact SeqAt.RcAt.int_tuple _ _ ⟨o,ho,hc,_,hd⟩ (by omega)
 have st:QX y=true→∀n t,v=.str n t→SeqAt.RcAt A s v u false:=fun hy n t e=>by
  obtain ⟨a,o,its,m,rfl,ho,hc,hd,_⟩:=(GR.tup hy).1 q;subst e;exact SeqAt.RcAt.str_tuple _ _ ⟨o,ho,hc,_,hd⟩ (by omega)
 cases x with
 |i n =>
  obtain ⟨t,rfl⟩:=p;cases y with
  |i m=>obtain ⟨t',rfl⟩:=q;rw [show decide (GK.i n=GK.i m)=(n == m) by by_cases e:n=m<;>simp [e]];exact SeqAt.RcAt.int_int n t m t'
  |s z=>obtain ⟨t',rfl⟩:=q;exact SeqAt.RcAt.int_str _ _ _ _
  |nil=>exact it rfl n t rfl
  |cons a b=>exact it rfl n t rfl
 |s n =>
  obtain ⟨t,rfl⟩:=p;cases y with
  |i m=>obtain ⟨t',rfl⟩:=q;exact SeqAt.RcAt.str_int _ _ _ _
  |s z=>obtain ⟨t',rfl⟩:=q;rw [show decide (GK.s n=GK.s z)=(n == z) by by_cases e:n=z<;>simp [e]];exact SeqAt.RcAt.str_str n t z t'
  |nil=>exact st rfl n t rfl
  |cons a b=>exact st rfl n t rfl
 |nil =>
  cases y with
  |i m=>obtain ⟨t',e⟩:=q;exact ti rfl m t' e
  |s z=>obtain ⟨t',e⟩:=q;exact ts rfl z t' e
  |nil=>exact tt rfl rfl
  |cons a b=>exact tt rfl rfl
 |cons a b =>
  cases y with
  |i m=>obtain ⟨t',e⟩:=q;exact ti rfl m t' e
  |s z=>obtain ⟨t',e⟩:=q;exact ts rfl z t' e
  |nil=>exact tt rfl rfl
  |cons a b=>exact tt rfl rfl
def U1:R2:=fun x y H Q=>∃k k',(GV H k).1 x∧(GV H k').1 y∧gd k≤8∧Q (.bl (decide (k=k'))) H
theorem SW (hu:X.A.units+9<cLine):qZ X (compareOp .Eq) U1:=by
 intro pins s σ H x y v u Q I rx ry h;obtain ⟨k,k',hx,hy,h8,q⟩:=h;exact RA ((GV.rel I.hok k).1 x v hx rx) ((GV.rel I.hok k').1 y u hy ry) (by omega) X.prog X.w X.xe _ ⟨.bl _,H,I,rfl,q⟩
end
end L2
namespace L2
open PySem PySem.Spec PyProof.Rows
section
variable {X:Cx} {pins:List (Addr×Obj)} {σ:List (Option V)} {H:Hp} {s:Shared}
def FnO (f:Addr) (o:Obj):HO:=.ext fun h=>h.get? f=some o
theorem Inv.fnMade {P:Addr} {ps more:Array Value} {h':Heap} {o:Obj} {t':Nat} (I:Inv X pins σ H s) (hP:H P=some (.tbl ps)) (hx:Heap.ExtBut P s.heap h') (hsz:s.heap.objs.size≤h'.objs.size) (hP':h'.get? P=some {cls:=.none,data:=.fields (ps++more)}) (hfr:o.isFreed=false) :
  Inv X pins σ (upd (upd H P (.tbl (ps++more))) h'.objs.size (FnO h'.objs.size o)) {s with heap:=h'.push o,toks:=t'}:=by
 have hPs:ObjOk X.prog X.w H s.heap P (.tbl ps):=I.hok P _ hP;have key:∀b u,b≠P→s.heap.get? b=some u→(h'.push o).get? b=some u:=fun b u hb e=>Heap.get?_push_of_some _ (hx b u hb e)
 have hlt:∀b,b<s.heap.objs.size→b≠h'.objs.size:=fun b e=>Nat.ne_of_lt (Nat.lt_of_lt_of_le e hsz)
 have hf:∀b u,s.heap.get? b=some u→b≠h'.objs.size:=fun b u e=>hlt b (Heap.lt_size e)
 have ht:∀b u,H b=some u→b≠h'.objs.size:=fun b u e=>hlt b (I.hok b u e).lt
 have hfP:P≠h'.objs.size:=ht P _ hP;have hnP:∀b,H b=none→b≠P:=fun b n z=>by rw [z,hP] at n;cases n
 have hoP:∀b u,H b=some u→u≠.tbl ps→b≠P:=fun b u e n z=>by rw [z,hP] at e;cases e;exact n rfl
 refine I.un ⟨fun b ob e n _ _=>key b ob (hnP b n) e,fun b ob e n _ _=>⟨ob.slots,key b ob (hnP b n) e⟩,fun b ob e n _=>?_,fun b ob e _=>?_,fun b xs e=>?_,fun b ob u e=>?_,fun b qs e=>?_⟩ fun b u e=>?_
 ·rw [jG (hf b ob e),jG (hnP b n)];exact n
 ·by_cases z:b=P
  ·subst z;exact ⟨_,Heap.get?_push_of_some _ hP'⟩
  ·exact ⟨ob,key b ob z e⟩
 ·rw [jG (ht b _ e),jG (hoP b _ e (fun z=>nomatch z))];exact e
 ·rw [jG (ht b _ e),jG (hoP b _ e (fun z=>nomatch z))];exact e
 ·by_cases z:b=P
  ·subst z;rw [hP] at e;cases e
   exact ⟨more,by rw [jG hfP,jD]⟩
  ·exact ⟨#[],by rw [jG (ht b _ e),jG z,e];simp⟩
 ·by_cases z:b=h'.objs.size
  ·subst z;rw [jD] at e;cases e
   exact ⟨Heap.get?_push_size _ hfr,⟨_,Heap.get?_push_size _ hfr⟩,fun h1 h2 q k=>k _ q⟩
  rw [jG z] at e
  by_cases zP:b=P
  ·subst zP;rw [jD] at e;cases e
   exact Heap.get?_push_of_some _ hP'
  rw [jG zP] at e;refine (I.hok b u e).stay (fun c v hc r=>key c v ?_ r) (fun c r=>?_) fun c xs r=>?_
  ·rcases hc with rfl|hc
   ·exact zP
   ·exact hoP c _ hc (fun z=>nomatch z)
  ·rw [jG (ht c _ r),jG (hoP c _ r (fun z=>nomatch z))];exact r
  ·rw [jG (ht c _ r),jG (hoP c _ r (fun z=>nomatch z))];exact r
end
def kW (H:Hp) (cs:List Addr):Hp:=fun b=>if b∈cs then none else H b
def vB (H' H:Hp) (cs:List Addr):Hp:=fun b=>if b∈cs then H b else H' b
variable {H:Hp} {cs:List Addr} {b:Addr}
theorem Q2 (h:b∈cs):kW H cs b=none:=if_pos h
theorem vD (h:b∉cs):kW H cs b=H b:=if_neg h
theorem fD {H':Hp} (h:b∈cs):vB H' H cs b=H b:=if_pos h
theorem vE {H':Hp} (h:b∉cs):vB H' H cs b=H' b:=if_neg h
section
variable {P:Program} {w:World} {H H' HC:Hp} {h h':Heap} {cs fs:List Addr}
theorem FnO.ok {c:Addr} {o:Obj} (e:h.get? c=some o):ObjOk P w H h c (FnO c o):=⟨e,⟨o,e⟩,fun _ _ q k=>k _ q⟩
theorem FnO.get {c:Addr} {o:Obj} (x:HOk P w H h) (e:H c=some (FnO c o)):h.get? c=some o:=(x c _ e).1
def ZY (H:Hp) (cs:List Addr):Prop:=∀c∈cs,∃o,H c=some (FnO c o)
theorem HOk.hide (x:HOk P w H h) (hc:ZY H cs):HOk P w (kW H cs) h:=fun b u e=>by
 by_cases hb:b∈cs
 ·rw [Q2 hb] at e;cases e
 ·rw [vD hb] at e;refine (x b u e).stay (fun _ _ _ q=>q) (fun c q=>?_) fun c xs q=>?_
  ·rw [vD];exact q
   intro hin;obtain ⟨o,e2⟩:=hc c hin;rw [q] at e2;cases e2
  ·rw [vD];exact q
   intro hin;obtain ⟨o,e2⟩:=hc c hin;rw [q] at e2;cases e2
theorem HOk.unhide (x:HOk P w H' h) (hn:∀c∈cs,H' c=none) (hc:∀c∈cs,∃o,H c=some (FnO c o)∧h.get? c=some o):HOk P w (vB H' H cs) h:=fun b u e=>by
 by_cases hb:b∈cs
 ·rw [fD hb] at e;obtain ⟨o,e2,g⟩:=hc b hb;rw [e2] at e;cases e
  exact FnO.ok g
 ·rw [vE hb] at e;refine (x b u e).stay (fun _ _ _ q=>q) (fun c q=>?_) fun c xs q=>?_
  ·rw [vE];exact q
   intro hin;rw [hn c hin] at q;cases q
  ·rw [vE];exact q
   intro hin;rw [hn c hin] at q;cases q
theorem Un.unhide (u:Un fs [] (kW H cs) H' h h') (hc:ZY H cs):Un fs [] H (vB H' H cs) h h':=by
 have no:∀b,H b=none→b∉cs:=fun b n hin=>by obtain ⟨o,e⟩:=hc b hin;rw [n] at e;cases e
 have nt:∀b v,H b=some v→(∀o,v≠FnO b o)→b∉cs:=fun b v e n hin=>by obtain ⟨o,e2⟩:=hc b hin;rw [e] at e2;cases e2;exact n o rfl
 refine ⟨fun b o e n=>u.keep b o e (by rw [vD (no b n)];exact n),fun b o e n=>u.slot b o e (by rw [vD (no b n)];exact n),fun b o e n hx=>?_,fun b o e hx=>u.there b o e hx,fun b xs e=>?_,fun b o v e=>?_,fun b ps e=>?_⟩
 ·rw [vE (no b n)];exact u.free b o e (by rw [vD (no b n)];exact n) hx
 ·have:=nt b _ e (fun _ z=>nomatch z);rw [vE this];exact u.tups b xs (by rw [vD this];exact e)
 ·have:=nt b _ e (fun _ z=>nomatch z);rw [vE this];exact u.frzs b o v (by rw [vD this];exact e)
 ·have:=nt b _ e (fun _ z=>nomatch z);rw [vE this];exact u.tbls b ps (by rw [vD this];exact e)
theorem Un.hide (u:Un fs [] (vB H HC cs) H' h h') (hn:∀c∈cs,H c=none) (hc:∀c∈cs,∃o,HC c=some (FnO c o)∧h.get? c=some o) (he:∀c∈cs,H' c=HC c) (hf:∀c∈cs,c∉fs) (x:HOk P w H' h'):Un fs [] H (kW H' cs) h h':=by
 have nt:∀b v,H b=some v→b∉cs:=fun b v e hin=>by rw [hn b hin] at e;cases e
 refine ⟨fun b o e n h1 h2=>?_,fun b o e n h1 h2=>?_,fun b o e n hx=>?_,fun b o e hx=>u.there b o e hx,fun b xs e=>?_,fun b o v e=>?_,fun b ps e=>?_⟩
 ·by_cases hb:b∈cs
  ·obtain ⟨o',e1,e2⟩:=hc b hb;rw [e] at e2;cases e2
   exact FnO.get x ((he b hb).trans e1)
  ·exact u.keep b o e (by rw [vE hb];exact n) h1 h2
 ·exact u.slot b o e (by rw [vE fun hb=>hf b hb h1];exact n) h1 h2
 ·by_cases hb:b∈cs
  ·exact Q2 hb
  ·rw [vD hb];exact u.free b o e (by rw [vE hb];exact n) hx
 ·have:=nt b _ e;rw [vD this];exact u.tups b xs (by rw [vE this];exact e)
 ·have:=nt b _ e;rw [vD this];exact u.frzs b o v (by rw [vE this];exact e)
 ·have:=nt b _ e;rw [vD this];exact u.tbls b ps (by rw [vE this];exact e)
end
def bQ (CX:vR) (P:Program) (w:World) (K:PySem.W.Frag) (mg:Str→Option Value) (base:Heap) (N:List Str) (qual:Str) (scope:Scope) (f:Addr) (cd:Value) (cl:List (Str×Addr)) (A:Around) (outer:List Env) (s:Shared) (H:Hp) (E:XK):Cx where
 prog:=P
 w:=w
 K:=K
 mg:=mg
 base:=base
 A:=A.deeper (PySem.W.envX qual scope s.heap.objs.size f cd cl)
 N:=N
 s₀:=s
 H₀:=kW H (cl.map (·.2))
 env:=PySem.W.envX qual scope s.heap.objs.size f cd cl
 outer:=outer
 stack:=PySem.W.envX qual scope s.heap.objs.size f cd cl::outer
 ex:=[]
 calm:=true
 fn:=fun _=>false
 pn:=[]
 xe:=fun e s'=>wpAny (model P w) (A.deeper (PySem.W.envX qual scope s.heap.objs.size f cd cl)) (leaving (PySem.W.envX qual scope s.heap.objs.size f cd cl) e) (fun _ s''=>CX outer H s E e s'') (fun e' s''=>CX outer H s E e' s'') s'
end L2
namespace L2
open PySem PySem.Spec PyProof.Rows
structure CloAt (H:Hp) (f:Addr) (qual:Str) (params:Arguments) (body:List Stmt) (scope:Scope) (cl:List (Str×Addr)) (fvs:List V) (cdv:Value) (fd:FuncData):Prop where
 fn:∃fo name doc pm an ct,H f=some (FnO f fo)∧fo.data=.func fd∧fd=PySem.W.fnX name qual params body scope cl .none .none doc pm an cdv ct
 code:∃c oc vs t,cdv=.ref c∧H c=some (FnO c oc)∧oc.data=.fields vs∧vs[1]?=some (.str qual t)
 once:(cl.map (·.2)).Nodup
 len:fvs.length=cl.length
 cell:∀(i:Nat) (x:Str) (c:Addr) (v:V),cl[i]?=some (x,c)→fvs[i]?=some v→∃o u,H c=some (FnO c o)∧o.data=.cell (some u)∧RelV v u
theorem CloAt.cells {H:Hp} {f:Addr} {qual:Str} {params:Arguments} {body:List Stmt} {scope:Scope} {cl:List (Str×Addr)} {fvs:List V} {cdv:Value} {fd:FuncData} (C:CloAt H f qual params body scope cl fvs cdv fd):ZY H (cl.map (·.2)):=fun c hc=>by
 obtain ⟨⟨x,c'⟩,hm,rfl⟩:=List.mem_map.mp hc;obtain ⟨i,hi⟩:=List.mem_iff_getElem?.mp hm;have hlt:i<fvs.length:=by rw [C.len];exact (List.getElem?_eq_some_iff.mp hi).1
 obtain ⟨o,u,e,_⟩:=C.cell i x c' _ hi (List.getElem?_eq_getElem hlt);exact ⟨o,e⟩
theorem OU {cl:List (Str×Addr)} (hn:(cl.map (·.2)).Nodup) {x y:Str} {c:Addr} (h1:cl.lookup x=some c) (h2:cl.lookup y=some c):x=y:=by
 obtain ⟨i,hi⟩:=List.mem_iff_getElem?.mp (PySem.mem_of_lookup h1);obtain ⟨j,hj⟩:=List.mem_iff_getElem?.mp (PySem.mem_of_lookup h2);have a:(cl.map (·.2))[i]?=some c:=by rw [List.getElem?_map,hi];rfl
 have b:(cl.map (·.2))[j]?=some c:=by rw [List.getElem?_map,hj];rfl
 obtain rfl:=(List.getElem?_inj (List.getElem?_eq_some_iff.mp a).1 hn).mp (a.trans b.symm);rw [hi] at hj;cases hj;rfl
section
variable {CX:vR} {P:Program} {w:World} {K:PySem.W.Frag} {mg:Str→Option Value} {base:Heap} {N ps fr:List Str} {qual:Str} {params:Arguments} {body:List Stmt} {scope:Scope} {f:Addr} {cdv:Value} {fd:FuncData} {cl:List (Str×Addr)} {A:Around} {outer:List Env} {s:Shared} {H:Hp} {E:XK} {Q:VK} {us:List Value} {vs fvs:List V} {k:Nat} {args:Args}
end
structure FnV (P:Program) (w:World) (K:PySem.W.Frag) (mg:Str→Option Value) (base:Heap) (CX:vR) (k:Nat) (sp:Addr→Sp):Prop where
 fn:∀f vs H Q E,sp f vs H Q E→∃fo fd,H f=some (FnO f fo)∧fo.data=.func fd
 run:∀(A:Around) (outer:List Env) (s:Shared) (H:Hp) (f:Addr) (us:List Value) (vs:List V) (Q:VK) (E:XK),Room k A→Env0 P w K mg base A outer s H→Vals vs us→sp f vs H Q E→
  codeAny (model P w) A (.call (.ref f) ⟨us,[]⟩) (CR CX outer P w H s Q E) s
def yC (qual:Str) (params:Arguments) (body:List Stmt) (scope:Scope) (ps fr:List Str) (sp:List Addr→List V→Sp) (f:Addr):Sp:=fun vs H Q E=>vs.length=ps.length∧
 ∃cl fvs cdv fd,CloAt H f qual params body scope cl fvs cdv fd∧cl.map (·.1)=fr∧sp (cl.map (·.2)) fvs vs H Q E
theorem LS {M:Model} {A:Around} {E:Value→Shared→Prop} {s:Shared} {env:Env} {pos:Pos} {f:Addr} {e:Expr} {rest:List Expr} {Q:Value→Shared→Prop}
  (h:wpAny M A (spliced (backTo pos (starEach (e::rest) env))) (fun vs s1=>∃fo fd,s1.heap.get? f=some fo∧fo.data=.func fd∧wpAny M A (call (.ref f) vs) Q E s1) E s)
  (he:starEach (e::rest) env=(false,eval e env)::starEach rest env) (hpl:(backTo pos (starEach rest env)).any (·.1)=false):wpAny M A (callWith pos (.ref f) [] (backTo pos (starEach (e::rest) env)) []) Q E s:=by
 rw [he] at h ⊢;refine PySem.W.callWith_of (P:=fun g=>∃fo fd,g.get? f=some fo∧fo.data=.func fd) (by show ((false||(backTo pos (starEach rest env)).any (·.1))||false)=false;rw [hpl];rfl) (fun g hg=>?_) (PySem.Calls.evalArgs_plain (wpAny_mono h (fun vs s1 h1=>?_) fun _ _ y=>y))
 ·obtain ⟨⟨cls,dict,data,slots⟩,fd,ho,hd⟩:=hg;cases hd;exact ⟨.frame,.inl rfl,(PySem.W.Looks.ld (part:=none) ho).andThen .now⟩
 ·obtain ⟨fo,fd,ho,hd,q⟩:=h1;exact ⟨⟨fo,fd,ho,hd⟩,q⟩
section
variable {X:Cx} {CX:vR} {k:Nat} {sp:Addr→Sp} {E:XK} {x:Str} {p pos:Pos} {e:Expr} {es:List Expr} {t:TA} {i:Nat}
def SH (i:Nat) (sp:Addr→Sp) (E:XK) (t:TA):TE:=fun σ H Q=>∃f,σ[i]?=some (some (.ref f))∧t σ H fun vs H1=>sp f vs H1 Q E
theorem bG (F:FnV X.prog X.w X.K X.mg X.base CX k sp) (hr:Room k X.A) (hx:ZR CX X E) (hN:X.N[i]?=some x) (hv:fY X.env.scope x) (ha:PA X (e::es) t) (hd:(x == ("__debug__":Str))=false:=by decide) (hcd:(x == ("__classdict__":Str))=false:=by decide)
  (he:starEach (e::es) X.env=(false,eval e X.env)::starEach es X.env:=by rfl) (hpl:(backTo pos (starEach es X.env)).any (·.1)=false:=by rfl):PE X (.Call (.Name x p) (e::es) [] pos) (SH i sp E t):=by
 intro pins s σ H Q I h;obtain ⟨f,e1,h⟩:=h;refine wpAny_Call_Name_kw (jN (DU hN hv hd hcd pins s σ H (fun v H'=>v=V.ref f∧t σ H' fun vs H1=>sp f vs H1 Q E) I ⟨.ref f,e1,rfl,h⟩) fun u s1 ⟨x',H1,I1,rx,ex,q1⟩=>?_);subst ex;obtain rfl:u=Value.ref f:=rx;refine LS (jN (ha pos pins s1 σ H1 _ I1 q1) fun us s2 ⟨vs,H2,I2,r,q2⟩=>?_) he hpl;obtain ⟨fo,fd,g1,g2⟩:=F.fn _ _ _ _ _ q2;refine ⟨fo,fd,FnO.get I2.hok g1,g2,wpAny_call (codeAny_mono (F.run X.A X.stack s2 H2 f us vs Q E hr I2.env0 r q2) fun r s' hq=>?_)⟩;cases r with
 |error e=>exact hx pins σ H2 s2 e s' I2 hq
 |ok fl =>
  cases fl with
  |ret u=>exact I2.after hq
  |next=>exact False.elim hq
  |brk=>exact False.elim hq
  |cont=>exact False.elim hq
end
def SI (cs:List (Nat×Addr)) (sp:Sp) (dvs:List V) (t:TA):TE:=fun σ H Q=>t σ H fun vs H1=>(∀p∈cs,∃v,σ[p.1]?=some (some v))∧
 ∀HC:Hp,(∀p∈cs,∃v o u,σ[p.1]?=some (some v)∧HC p.2=some (FnO p.2 o)∧o.data=.cell (some u)∧RelV v u)→(∀p∈cs,H1 p.2=none)→
  sp (vs++dvs) (vB H1 HC (cs.map (·.2))) (fun v H'=>(∀p∈cs,H' p.2=HC p.2)∧Q v (kW H' (cs.map (·.2)))) E0
section
variable {X:Cx} {k k':Nat} {f:Addr} {fd:FuncData} {ps:List Str} {sp:Sp} {dvs:List V} {ds:List Value} {x:Str} {p pos:Pos} {e:Expr} {es:List Expr} {t:TA} {cs:List (Nat×Addr)}
def lD (X:Cx) (cs:List (Nat×Addr)):Prop:=∀q∈cs,∃y,X.N[q.1]?=some y∧X.env.scope.names.lookup y=some .cell∧X.env.cells.lookup y=some q.2∧X.fn y=true
theorem ST {pins:List (Addr×Obj)} {σ:St} {H:Hp} {s:Shared} (hcs:lD X cs) (I:Inv X pins σ H s) (hv:∀q∈cs,∃v,σ[q.1]?=some (some v)) :
  ∃HC:Hp,(∀q∈cs,∃v o u,σ[q.1]?=some (some v)∧HC q.2=some (FnO q.2 o)∧o.data=.cell (some u)∧RelV v u)∧(∀q∈cs,H q.2=none)∧Env0 X.prog X.w X.K X.mg X.base X.A X.stack s (vB H HC (cs.map (·.2)))∧
   ∀(f:Addr) (us:List Value) (Q:VK),codeAny (model X.prog X.w) X.A (.call (.ref f) ⟨us,[]⟩) (CR jK X.stack X.prog X.w (vB H HC (cs.map (·.2))) s (fun v H'=>(∀q∈cs,H' q.2=HC q.2)∧Q v (kW H' (cs.map (·.2)))) E0) s→wpAny (model X.prog X.w) X.A (call (.ref f) us) (EP X pins σ Q) X.xe s:=by
 let HC:Hp:=fun b=>(s.heap.get? b).map fun o=>FnO b o
 have hn:∀q∈cs,H q.2=none:=fun q hq=>by
  obtain ⟨y,_,_,e3,_⟩:=hcs q hq;exact I.freeC y q.2 e3
 have hc:∀q∈cs,∃v o u,σ[q.1]?=some (some v)∧HC q.2=some (FnO q.2 o)∧s.heap.get? q.2=some o∧o.data=.cell (some u)∧RelV v u:=fun q hq=>by
  obtain ⟨y,e1,e2,e3,_⟩:=hcs q hq;obtain ⟨v,ev⟩:=hv q hq;obtain ⟨m,_,hl⟩:=I.loc;obtain ⟨u,ru,lk⟩:=hl q.1 y v e1 ev (.inr (.inl e2))
  rcases lk with ⟨hk,_⟩|⟨_,c,hc,o,ho,hd⟩
  ·have hk':X.env.scope.names.lookup y=some .local:=hk;rw [e2] at hk';cases hk'
  ·rw [e3] at hc;cases hc
   exact ⟨v,o,u,ev,by show (s.heap.get? q.2).map _=_;rw [ho];rfl,ho,hd,ru⟩
 have hin:∀c∈cs.map (·.2),∃q∈cs,q.2=c:=fun c hm=>by
  obtain ⟨q,hq,e⟩:=List.mem_map.mp hm;exact ⟨q,hq,e⟩
 have hn':∀c∈cs.map (·.2),H c=none:=fun c hm=>by obtain ⟨q,hq,rfl⟩:=hin c hm;exact hn q hq
 have hc':∀c∈cs.map (·.2),∃o,HC c=some (FnO c o)∧s.heap.get? c=some o:=fun c hm=>by
  obtain ⟨q,hq,rfl⟩:=hin c hm;obtain ⟨_,o,_,_,e1,e2,_⟩:=hc q hq;exact ⟨o,e1,e2⟩
 have hab:∀c∈cs.map (·.2),X.s₀.heap.objs.size≤c:=fun c hm=>by
  obtain ⟨q,hq,rfl⟩:=hin c hm;obtain ⟨y,_,_,e3,e4⟩:=hcs q hq;exact I.ok.cab y q.2 e4 e3
 have hfs:∀c∈cs.map (·.2),c∉kN X.stack:=fun c hm hf=>by
  have hcl:c≠X.env.locals:=by
   obtain ⟨q,hq,rfl⟩:=hin c hm;obtain ⟨y,_,_,e3,_⟩:=hcs q hq;exact I.cne y q.2 e3
  rcases List.mem_cons.mp (I.stkSub c hf) with z|z
  ·exact hcl z
  ·have lt:c<X.s₀.heap.objs.size:=by obtain ⟨_,o,ho,_⟩:=I.ok.funs.mem z;exact Heap.lt_size ho
   have:=hab c hm;exact absurd (Nat.lt_of_lt_of_le lt this) (Nat.lt_irrefl _)
 have e0:=I.env0;have e1:Env0 X.prog X.w X.K X.mg X.base X.A X.stack s (vB H HC (cs.map (·.2))):=by
  refine ⟨e0.frames,e0.mod,fun b o eb=>⟨(e0.bs b o eb).1,?_⟩,e0.bsz,e0.funs,fun b hb'=>?_,HOk.unhide e0.hok hn' hc',e0.bare⟩
  ·rw [vE fun hm=>?_];exact (e0.bs b o eb).2
   have h1:b<X.base.objs.size:=Heap.lt_size eb;have h2:=I.ok.bsz;have h3:=hab b hm;exact absurd (Nat.lt_of_lt_of_le h1 (Nat.le_trans h2 h3)) (Nat.lt_irrefl _)
  ·rw [vE fun hm=>hfs b hm hb'];exact e0.frf b hb'
 refine ⟨HC,fun q hq=>by obtain ⟨v,o,u,a,b,_,d,g⟩:=hc q hq;exact ⟨v,o,u,a,b,d,g⟩,hn,e1,fun f us Q h=>?_⟩;refine wpAny_call (codeAny_mono h fun rr s' hq=>?_);cases rr with
 |error e=>exact hq.elim
 |ok fl =>
  cases fl with
  |ret u =>
   obtain ⟨v,H',os,bare,un,hok,rv,he,q⟩:=hq;have he':∀c∈cs.map (·.2),H' c=HC c:=fun c hm=>by obtain ⟨q,hq,rfl⟩:=hin c hm;exact he q hq
   exact I.after ⟨v,_,os,bare,Un.hide un hn' hc' he' hfs hok,HOk.hide hok (fun c hm=>by obtain ⟨o,e2,_⟩:=hc' c hm;exact ⟨o,(he' c hm).trans e2⟩),rv,q⟩
  |next=>exact False.elim hq
  |brk=>exact False.elim hq
  |cont=>exact False.elim hq
theorem P9 {pins:List (Addr×Obj)} {σ:St} {H:Hp} {s:Shared} {Q:VK} {us:List Value} {vs:List V} (F:FnOk X.prog X.w X.K X.mg X.base jK k f fd ps sp) (hr:Room k X.A) (hb:Binds X.K fd ps ds) (hd:Vals dvs ds) (hcs:lD X cs)
  (I:Inv X pins σ H s) (r:Vals vs us) (hv:∀q∈cs,∃v,σ[q.1]?=some (some v))
  (h:∀HC:Hp,(∀q∈cs,∃v o u,σ[q.1]?=some (some v)∧HC q.2=some (FnO q.2 o)∧o.data=.cell (some u)∧RelV v u)→(∀q∈cs,H q.2=none)→
   sp (vs++dvs) (vB H HC (cs.map (·.2))) (fun v H'=>(∀q∈cs,H' q.2=HC q.2)∧Q v (kW H' (cs.map (·.2)))) E0):wpAny (model X.prog X.w) X.A (call (.ref f) us) (EP X pins σ Q) X.xe s:=by
 obtain ⟨HC,h1,h2,e1,fin⟩:=ST hcs I hv;have r2:Vals (vs++dvs) (us++ds):=r.append hd;have hs:=h HC h1 h2;have hl:(us++ds).length=ps.length:=by rw [← r2.length];exact F.len _ _ _ _ hs
 exact fin f us Q (F.run X.A X.stack s _ ⟨us,[]⟩ (us++ds) (vs++dvs) _ E0 hr e1 (hb s us I.kIn hl) r2 hs)
theorem rD (F:Def X.prog X.w X.K X.mg X.base k x ps dvs sp) (hr:Room k' X.A) (hg:Gl X x) (hcs:lD X cs) (ha:PA X (e::es) t)
  (hk:k≤k':=by decide) (hdb:(x == ("__debug__":Str))=false:=by decide) (he:starEach (e::es) X.env=(false,eval e X.env)::starEach es X.env:=by rfl) (hpl:(backTo pos (starEach es X.env)).any (·.1)=false:=by rfl) :
  PE X (.Call (.Name x p) (e::es) [] pos) (SI cs sp dvs t):=by
 obtain ⟨f,fd,ds,G,m,kp,hv,b⟩:=F.ex;intro pins s σ H Q I h;refine wpAny_Call_Name_kw (bI I hg m ?_ hdb);refine PySem.W.callWith_K (h₀:=X.base) I.ok.mod.kin kp (jN (ha pos pins s σ H _ I h) fun us s1 ⟨vs,H1,I1,r,q1,q2⟩=>⟨I1.kIn,?_⟩) he hpl;exact P9 G (hr.mono hk) b hv hcs I1 r q1 q2
end
section
variable {X:Cx} {pins:List (Addr×Obj)} {σ:List (Option V)} {H:Hp} {s:Shared}
theorem Inv.fnMade2 {P c:Addr} {ps more:Array Value} {h':Heap} {o oc:Obj} {t':Nat} (I:Inv X pins σ H s) (hP:H P=some (.tbl ps)) (hx:Heap.ExtBut P s.heap h') (hsz:s.heap.objs.size≤h'.objs.size) (hP':h'.get? P=some {cls:=.none,data:=.fields (ps++more)}) (hfr:o.isFreed=false)
  (hc1:s.heap.objs.size≤c) (hc2:h'.get? c=some oc) :
  Inv X pins σ (upd (upd (upd H P (.tbl (ps++more))) h'.objs.size (FnO h'.objs.size o)) c (FnO c oc)) {s with heap:=h'.push o,toks:=t'}:=by
 have J:=I.fnMade (o:=o) (t':=t') hP hx hsz hP' hfr;have hcP:c≠P:=fun z=>by have:=(I.hok P _ hP).lt;exact absurd (Nat.lt_of_lt_of_le (z▸this) hc1) (Nat.lt_irrefl _)
 have hcf:c≠h'.objs.size:=fun z=>absurd (Heap.lt_size hc2) (by rw [z];exact Nat.lt_irrefl _)
 have hg:(h'.push o).get? c=some oc:=Heap.get?_push_of_some _ hc2;have hHc:upd (upd H P (.tbl (ps++more))) h'.objs.size (FnO h'.objs.size o) c=none:=by
  rw [jG hcf,jG hcP];exact I.hok.fresh hc1
 have hns:∀b u,s.heap.get? b=some u→b≠c:=fun b u e z=>absurd (Nat.lt_of_lt_of_le (z▸Heap.lt_size e) hc1) (Nat.lt_irrefl _)
 have hks:∀b u,X.s₀.heap.get? b=some u→b≠c:=fun b u e z=>by
  have h1:=Heap.lt_size e;have h2:=I.sz;exact absurd (Nat.lt_of_lt_of_le (Nat.lt_of_lt_of_le (z▸h1) h2) hc1) (Nat.lt_irrefl _)
 refine ⟨J.ok,J.os,J.bare,?_,J.loc,J.cell,?_,fun y d e=>?_,fun p hp=>?_,fun b u e=>?_,J.len⟩
 ·obtain ⟨k1,k2,k3,k4,k5,k6,k7⟩:=J.base;have ne:∀b v,H b=some v→b≠c:=fun b v e z=>absurd (Nat.lt_of_lt_of_le (z▸(I.hok b v e).lt) hc1) (Nat.lt_irrefl _)
  refine ⟨k1,k2,fun b ob e n hx'=>?_,k4,fun b xs e=>?_,fun b ob u e=>?_,fun b qs e=>?_⟩
  ·rw [jG (hks b ob e)];exact k3 b ob e n hx'
  ·rw [jG (ne b _ (I.base.tups b xs e))];exact k5 b xs e
  ·rw [jG (ne b _ (I.base.frzs b ob u e))];exact k6 b ob u e
  ·obtain ⟨more',e'⟩:=I.base.tbls b qs e;rw [jG (ne b _ e')];exact k7 b qs e
 ·rw [jG fun z=>?_];exact J.free
  have:=I.lt;exact absurd (Nat.lt_of_lt_of_le (z▸this) hc1) (Nat.lt_irrefl _)
 ·rw [jG fun z=>?_];exact J.freeC y d e
  obtain ⟨v,o',ho',_⟩:=I.cell y d e;exact hns d o' ho' z
 ·obtain ⟨a1,a2,a3,a4,a5⟩:=J.pin p hp;refine ⟨a1,?_,a3,a4,a5⟩;rw [jG fun z=>?_];exact a2
  exact hns p.1 _ (I.pin p hp).1 z
 ·by_cases z:b=c
  ·subst z;rw [jD] at e;cases e;exact FnO.ok hg
  ·rw [jG z] at e;refine (J.hok b u e).stay (fun _ _ _ q=>q) (fun d q=>?_) fun d xs q=>?_
   ·rw [jG fun z=>?_];exact q
    rw [z,hHc] at q;cases q
   ·rw [jG fun z=>?_];exact q
    rw [z,hHc] at q;cases q
def TR (i:Nat) (P:Addr) (pos:Pos) (qual:Str) (mk:Addr→Value→Value→Obj):TS:=fun D σ H=>∃ps,H P=some (.tbl ps)∧TriplesOk ps.toList∧codeAmong pos ps.toList=none∧
 ∀(f c':Addr) (ctv doc:Value) (oc:Obj),f≠P→c'≠P→c'≠f→H f=none→H c'=none→(∃vs t,oc.data=.fields vs∧vs[1]?=some (.str qual t))→
  D.nx (σ.set i (some (.ref f))) (upd (upd (upd H P (.tbl (ps++#[rawInt pos.line,rawInt pos.col,.ref c']))) f (FnO f (mk c' ctv doc))) c' (FnO c' oc))
theorem CO {i:Nat} {x qual:Str} {params:Arguments} {body:List Stmt} {scope:Scope} {pos:Pos} {c P:Addr} {clos:List (Str×Addr)} (hN:X.N.Nodup) (hi:X.N[i]?=some x) (hx:b7 X.env.scope x)
  (hf:X.fn x=true∨X.env.scope.names.lookup x=some .local) (hd:defaultsOf params X.env=([],[])) (ha:annTrees params none X.env=[]) (hcl:closureFor scope X.env=pure clos) (hge:X.env.globals=mainGlobals)
  (hcode:X.env.code=.ref c) (hC:PySem.W.CodeHd X.base c P) (hgP:mainGlobals≠P) (hb:X.base.BuiltinsAt X.mg P) (hq:qualnameIn X.env x x=qual) :
  PS X (.FunctionDef x params body [] none [] scope none x pos) (TR i P pos qual fun c' ctv doc=>PySem.W.fnMade x qual params body scope clos doc ((X.mg "__name__").getD .none) c' ctv):=by
 intro pins s σ H D I h;obtain ⟨ps,hP,ht,hnf,q⟩:=h;have hPs:s.heap.get? P=some (PySem.W.tabObj ps):=I.hok P _ hP;rw [exec_def,hd,ha,hq];refine wpAny_bind (wpAny_standAt (wpAny_bind (wpAny_holding ?_)));refine wpAny_bind (wpAny_pure ?_);refine wpAny_bind (wpAny_holding (wpAny_pure ?_));refine wpAny_holding ?_;refine wpAny_bind (wpAny_pure ?_);refine PySem.W.makeFunction_K (mg:=X.mg) hcl hge (I.mod.glob.keeps I.bk) hcode (hC.keeps I.bk) hPs ht hnf hgP (hb.keeps I.bk) fun c' ctv doc h' tk hx' hge' hlt hrec htb=>?_
 have hsz:s.heap.objs.size≤h'.objs.size:=Nat.le_trans hge' (Nat.le_of_lt hlt);obtain ⟨c'',oc,fs,t,e,hoc,hoc2⟩:=hrec;cases e;refine wpAny_bind (wpAny_standAt (wpAny_bind (wpAny_bindName ?_)));have J:=I.fnMade2 (o:=PySem.W.fnMade x qual params body scope clos doc ((X.mg "__name__").getD .none) c' ctv) (t':=tk) hP hx' hsz htb rfl hge' hoc;have hPl:=Heap.lt_size hPs;refine pY J hN hi hx (v:=.ref h'.objs.size) rfl (fun s2 I2=>wpAny_pure ?_) hf;exact ⟨_,_,I2,q _ c' ctv doc oc (fun z=>Nat.lt_irrefl _ (z▸Nat.lt_of_lt_of_le hPl hsz)) (fun z=>Nat.lt_irrefl _ (Nat.lt_of_lt_of_le (z▸hPl) hge')) (Nat.ne_of_lt hlt) (I.hok.fresh hsz) (I.hok.fresh hge') ⟨fs,t,hoc2⟩⟩
end
def EO (s:Stmt) (j:Nat):Stmt:=(kC s).getD j (.Pass ⟨0,0,0,0⟩)
theorem lG {sc:Scope} {fr:List Str} (h:∀y∈sc.names,y.2=.free→y.1∈fr):∀x,sc.names.lookup x=some .free→x∈fr:=fun x e=>h _ (PySem.mem_of_lookup e) rfl
theorem QN {A:Around} {k:Nat} (hr:Room k A):A.units+9<cLine:=by have:=hr.units;omega
theorem QJ {A:Around} {k:Nat} (hr:Room k A):A.units+10<cLine:=by have:=hr.units;omega
theorem rN {H:Hp} {cs:List Addr} (hc:ZY H cs):∀a l,H a=some (.tup l)→kW H cs a=some (.tup l):=fun a l e=>by
 rw [vD];exact e
 intro hin;obtain ⟨o,e2⟩:=hc a hin;rw [e] at e2;cases e2
theorem sZ {X:Cx} {i j:Nat} {c d:Addr} (h:∃y,X.N[i]?=some y∧X.env.scope.names.lookup y=some .cell∧X.env.cells.lookup y=some c∧X.fn y=true) (h2:∃y,X.N[j]?=some y∧X.env.scope.names.lookup y=some .cell∧X.env.cells.lookup y=some d∧X.fn y=true):lD X [(i,c),(j,d)]:=fun q hq=>by
 rcases List.mem_cons.mp hq with rfl|hq
 ·exact h
 ·cases List.mem_singleton.mp hq;exact h2
section
variable {P:Program} {w:World} {K:PySem.W.Frag} {mg:Str→Option Value} {base:Heap}
theorem Fun.okC {x qual:Str} {st:Stmt} {f cL:Addr} {fd:FuncData} {N ps:List Str} {k:Nat} {sp:Sp} (F:Fun K x qual st f fd) (hcL:fd.code=.ref cL) (S:FnScope N ps (jM st)) (len:∀vs H Q E,sp vs H Q E→vs.length=ps.length)
  (hbody:∀(A:Around) (outer:List Env) (s:Shared) (H:Hp) (vs:List V) (Q:VK) (E:XK),Room k (A.deeper (envOfC qual (jM st) s.heap.objs.size f (.ref cL)))→sp vs H Q E→
   ∃t,PSs (vP jK P w K mg base N qual (jM st) f (.ref cL) A outer s H E).nox (kC st) t∧t {nx:=fun _ H'=>Q .non H',rt:=Q} (start N vs) H):FnOk P w K mg base jK (k+1) f fd ps sp:=by
 obtain ⟨oc,od,kV,doc,pm,an,cdv,ct,osl,rfl,lk,hcd⟩:=F.ex;obtain rfl:cdv=.ref cL:=hcL;refine lV lk hcd S len fun A outer s H vs Q E hr hsp=>?_
 obtain ⟨t,h,q⟩:=hbody A outer s H vs Q E hr hsp;exact ⟨t,h.nox,q⟩
end
section
variable {prog:Program} {w:World} {A:Around} {E:Value→Shared→Prop} {s:Shared} {d:Addr} {xs:List qJ} {k:GK} {key v:Value}
theorem NX {Q:Value→Shared→Prop} (hu:A.units+9<cLine) (hkey:(GR s.heap k).1 key) (hk8:gd k≤8) (hd:(d == sysModules)=false) (hm:DictG w s.heap d xs) (q:∀n,Q (.bool (!(zK xs k).isSome)) {s with toks:=n}) :
  wpAny (model prog w) A (compareOp .NotIn key (.ref d)) Q E s:=by
 have T:=hm.typeIs;show wpAny _ A (do return .bool (!(← contains (.ref d) key))) Q E s;refine wpAny_bind ?_;unfold contains;refine wpAny_holding (wpAny_bind (wpAny_specialOf T slot_dict_contains.lookup ?_));show wpAny _ A (if (some (Value.builtin "dict.__contains__") == some Value.none)=true then _ else _) _ E s;rw [if_neg (by rw [beq_builtin_none];decide)];refine wpAny_bind (wpAny_callSpecialUnlessNone?_slot (name:=Str.ofString "__contains__") T slot_dict_contains (wpAny_call_entry slot_dict_contains T entry_dict_contains ?_ (args_dict_contains _ _)));show wpAny _ A.in1 (dictGet d key >>= _) _ E s;refine wpAny_bind (C3 (by simp only [Around.in1_units];omega) hkey hk8 hm fun n=>?_);have q':=q n;cases hg:zK xs k with
 |some u =>
  rw [hg] at q';show wpAny _ A.in1 (ret (.bool true)) _ E _;exact wpAny_pure ⟨_,rfl,wpAny_truthy_bool (wpAny_pure q')⟩
 |none =>
  rw [hg] at q';show wpAny _ A.in1 (Builtin.Dict.pendingKey? d key >>= _) _ E _;exact wpAny_bind (wpAny_pendingKey_other hd (wpAny_pure ⟨_,rfl,wpAny_truthy_bool (wpAny_pure q')⟩))
theorem MB (d:Addr) (hd:(d == sysModules)=false) :
  MeetsIn prog w (Builtin.«dict.__len__» ⟨[.ref d],[]⟩) (fun _ R s=>∃xs,DictG w s.heap d xs∧R (.ok (.ret (.int xs.length s.toks))) {s with toks:=s.toks+1}) :=
 .of_wp fun A R s ⟨xs,hm,h⟩=>by
  obtain ⟨o,es,ep,ho,hc,hdat,he⟩:=hm;show wpAny _ _ (dictSize d >>= _) _ _ s;unfold dictSize;refine wpAny_bind (wpAny_bind (wpAny_dictEntries ho hdat (wpAny_pure ?_)));show wpAny _ _ (Builtin.Dict.pendingCount d >>= _) _ _ s;refine wpAny_bind (wpAny_pendingCount_other hd ?_);refine wpAny_ret_mkInt ?_;have:es.size=xs.length:=by rw [← Array.length_toList,he.es,List.length_map]
  rw [Nat.add_zero,this];exact h
theorem T9 {Q:Value→Shared→Prop} (hd:(d == sysModules)=false) (hm:DictG w s.heap d xs) (hfit:(xs.length:Int)<2 ^ 63)
  (h:Q (.int xs.length (s.toks+1)) {s with toks:=s.toks+1+1}):wpAny (model prog w) A (call (.builtin "len") [.ref d]) Q E s:=by
 refine Calls.call_function_entry kind_len plain_len entry_len (args_len1 _) ?_;unfold Builtin.«len»;refine wpAny_bind (m:=oneArg "len" _) (wpAny_pure ?_);refine wpAny_bind (m:=callSpecial? (.ref d) (Str.ofString "__len__")) (wpAny_callSpecial?_slot (name:=Str.ofString "__len__") hm.typeIs PySem.F.slot_dict_len
  (call_meetsIn PySem.F.slot_dict_len hm.typeIs PySem.F.entry_dict_len (PySem.F.args_dict_len_1 _) (MB d hd) ⟨xs,hm,?_⟩))
 show wpAny _ _ _ _ _ {s with toks:=s.toks+1};refine wpAny_bind (wpAny_holding (wpAny_pure ?_));refine wpAny_bind (wpAny_letGo ?_);show wpAny _ _ (if ((xs.length:Nat):Int)<0 then _ else _) _ _ _;rw [if_neg (by omega)];show wpAny _ _ (if ((xs.length:Nat):Int)≥2 ^ 63 then _ else _) _ _ _;rw [if_neg (by omega)];exact wpAny_bind (wpAny_mkInt (wpAny_pure ⟨_,rfl,h⟩))
end
section
variable {X:Cx} {pins:List (Addr×Obj)} {σ:St} {H:Hp} {s:Shared} {d:Addr} {k:GK} {y v:V} {u r:Value} {A:Around} {E:Value→Shared→Prop} {kvs:List qS}
theorem UF {Q:Unit→Shared→Prop} (hu:A.units+8<cLine) (I:Inv X pins σ H s) (e:H d=some (GO X.w d kvs)) (g:GOk H kvs) (hy:(GV H k).1 y) (h8:gd k≤8) (hl:kvs.length<sizeLine) (ry:RelV y u) (rv:RelV v r)
  (h:∀s',Inv X pins σ (upd H d (GO X.w d (vO kvs k y v))) s'→Q () s'):wpAny (model X.prog X.w) A (dictSet d u r) Q E s:=by
 obtain ⟨_,hm,xs,rel,dd⟩:=I.gdict (.of e) g;refine CL hu ((GV.rel I.hok k).1 y u hy ry) h8 dd (by rw [← Paired.length rel];omega) fun n h' dd' sb=>h _ ?_
 obtain ⟨o,es,ep,ho,hc,hd,he,_⟩:=dd';refine sH I (by rw [e];exact True.intro) sb ⟨o,ho⟩ ⟨⟨by have:=BH kvs k y v;omega,hm,_,RelG.set ry rv rel,o,es,ep,ho,hc,hd,he⟩,⟨o,ho⟩,?_⟩;rintro h1 h2 ⟨a1,a2,xs',a3,o',es',ep',a4,a5⟩ kp;exact ⟨a1,a2,xs',a3,o',es',ep',kp _ a4,a5⟩
end
def P3 (w:World) (ty td:TE):TE:=fun σ H Q=>ty σ H fun y H1=>td σ H1 fun x H2=>∃(d:Addr) (kvs:List qS) (k:GK),x=.ref d∧Rd H2 d (GO w d kvs)∧GOk H2 kvs∧(GV H2 k).1 y∧gd k≤8∧Q (.bl (!(zV kvs k).isSome)) H2
def SF (w:World) (tk tv:TE):TE:=fun σ H Q=>∀p,H p=none→tk σ (upd H p (GO w p [])) fun y H1=>tv σ H1 fun v H2=>H2 p=some (GO w p [])∧∃k,(GV H2 k).1 y∧gd k≤8∧Q (.ref p) (upd H2 p (GO w p [(k,y,v)]))
section
variable {X:Cx} {o i e value:Expr} {pos pos':Pos} {td ty tv:TE}
theorem xZ (hu:X.A.units+9<cLine) (hi:PE X i ty) (ho:PE X o td):PC X .NotIn i o (P3 X.w ty td):=by
 intro pins s σ H Q I h;refine jN (hi pins s σ H _ I h) fun iv s1 ⟨y,H1,I1,ry,q1⟩=>jN (ho pins s1 σ H1 _ I1 q1) fun u s2 ⟨x,H2,I2,rx,d,kvs,k,ex,hd,g,hy,h8,q2⟩=>?_
 subst ex;obtain rfl:u=Value.ref d:=rx;obtain ⟨_,hm,xs,rel,dd⟩:=I2.gdict hd g;exact NX hu ((GV.rel I2.hok k).1 y iv hy ry) h8 hm dd fun n=>⟨.bl (!(zV kvs k).isSome),H2,I2.tok n,by rw [RelG.none rel];rfl,q2⟩
theorem xH:yQ X (.builtin "len") (fun xs H Q=>∃p kvs,xs=[.ref p]∧Rd H p (GO X.w p kvs)∧GOk H kvs∧Q (.int kvs.length) H):=by
 intro pins s σ H xs us Q I r h;obtain ⟨p,kvs,rfl,hd,g,q⟩:=h;obtain ⟨u,rfl,rx⟩:=Q9 r;cases rx;obtain ⟨hz,hm,xs,rel,dd⟩:=I.gdict hd g;have hl:=Paired.length rel;have hn:=ZP;exact T9 hm dd (by omega) ⟨.int kvs.length,H,I.tok _,⟨s.toks+1,by rw [hl]⟩,q⟩
theorem BL {a b:Expr} {tk tv:TE} (hu:X.A.units+9<cLine) (hk:PE X a tk) (hv:PE X b tv):PE X (.Dict [some a] [b] pos) (SF X.w tk tv):=by
 intro pins s σ H Q I h;have hn:=I.hok.fresh (Nat.le_refl s.heap.objs.size);have I1:=I.laid (a:=s.heap.objs.size) (o:=GO X.w s.heap.objs.size []) (h':=s.heap.push {cls:=.type "dict",data:=.dict #[]}) (t':=s.toks) (fun _ _ q=>Heap.get?_push_of_some _ q) (Nat.le_refl _)
  ⟨⟨Nat.zero_le _,beq_eq_false_iff_ne.mpr (Ne.symm (Nat.ne_of_lt I.big)),[],.nil,_,#[],0,Heap.get?_push_size _ rfl,⟨rfl,rfl,rfl⟩,rfl,rfl⟩,⟨_,Heap.get?_push_size _ rfl⟩,
   fun h1 h2 ⟨a1,a2,xs',a3,o',es',ep',a4,a5⟩ kp=>⟨a1,a2,xs',a3,o',es',ep',kp _ a4,a5⟩⟩
 refine wpAny_Dict_any rfl rfl (List.cons_ne_nil _ _) (show 1≤15 by decide) (jN (eT (pos:=pos) hk hv CP pins _ σ _ (fun ps H2=>match ps with|[(y,v)]=>H2 s.heap.objs.size=some (GO X.w s.heap.objs.size [])∧∃k,(GV H2 k).1 y∧gd k≤8∧Q (.ref s.heap.objs.size) (upd H2 s.heap.objs.size (GO X.w s.heap.objs.size [(k,y,v)]))|_=>False) I1 ?_) fun ws s2 ⟨ps,H2,I2,rel,hq⟩=>?_)
 ·have h1:=h _ hn;exact h1
 cases rel with
 |nil=>exact (show False from hq).elim
 |@cons x b xs bs r rel =>
  cases rel with
  |cons r2 rel2=>exact (show False from hq).elim
  |nil =>
   obtain ⟨y,v⟩:=x;obtain ⟨e,k,hy,h8,q2⟩:=hq;show wpAny _ _ (storeAll s.heap.objs.size [b]) _ _ _;unfold storeAll;simp only [List.forIn_cons,List.forIn_nil];refine wpAny_bind (wpAny_bind (UF (by omega) I2 e GOk.nil hy h8 (by rw [sizeLine_eq];decide) r.1 r.2 fun s3 I3=>wpAny_pure ?_));exact wpAny_pure ⟨.ref s.heap.objs.size,_,I3,rfl,q2⟩
end
section
variable {X:Cx} {o i:Expr} {pos:Pos} {td ty:TE}
end
def U0 (K:PySem.W.Frag) (neg:Bool):R2:=fun x y H Q=>∃(p:Addr) (xs:List V) (k:GK) (ks:List GK),y=.ref p∧SqL K H p xs∧(GV H k).1 x∧gd k≤8∧(xs.length=ks.length∧∀(i:Nat) z,xs[i]?=some z→∃k',ks[i]?=some k'∧(GV H k').1 z∧gd k'≤8)∧Q (.bl (if neg then !decide (k∈ks) else decide (k∈ks))) H
section
variable {X:Cx} {pins:List (Addr×Obj)} {σ:St} {H:Hp} {s:Shared}
open Classical in
theorem PR {k:GK} {xs:List V} {ks:List GK} {its:List Value} (I:Inv X pins σ H s) (r:Vals xs its) (hk:xs.length=ks.length∧∀(i:Nat) z,xs[i]?=some z→∃k',ks[i]?=some k'∧(GV H k').1 z∧gd k'≤8) :
  its.any (fun y=>decide ((GR s.heap k).1 y))=decide (k∈ks):=by
 have hl:=r.length;rw [Bool.eq_iff_iff];simp only [List.any_eq_true,decide_eq_true_eq];constructor
 ·rintro ⟨w,hw,he⟩;obtain ⟨i,hi⟩:=List.mem_iff_getElem?.mp hw;have hlt:i<xs.length:=by rw [hl];exact (List.getElem?_eq_some_iff.mp hi).1
  obtain ⟨k',e1,e2,_⟩:=hk.2 i _ (List.getElem?_eq_getElem hlt);obtain ⟨u,hu,rv⟩:=r.get (List.getElem?_eq_getElem hlt);rw [hi] at hu;cases hu
  rw [← (GR.inj k' k).1 w ((GV.rel I.hok k').1 _ _ e2 rv) he];exact List.mem_of_getElem? e1
 ·intro hm;obtain ⟨i,hi⟩:=List.mem_iff_getElem?.mp hm;have hlt:i<xs.length:=by rw [hk.1];exact (List.getElem?_eq_some_iff.mp hi).1
  obtain ⟨k',e1,e2,_⟩:=hk.2 i _ (List.getElem?_eq_getElem hlt);rw [hi] at e1;cases e1
  obtain ⟨u,hu,rv⟩:=r.get (List.getElem?_eq_getElem hlt);exact ⟨u,List.mem_of_getElem? hu,(GV.rel I.hok k).1 _ _ e2 rv⟩
open Classical in
theorem R8 {k:GK} {x:V} {v:Value} {xs:List V} {ks:List GK} {its:List Value} {A:Around} (hu:A.units+9<cLine) (I:Inv X pins σ H s) (r:Vals xs its) (hx:(GV H k).1 x) (rx:RelV x v) (hk:xs.length=ks.length∧∀(i:Nat) z,xs[i]?=some z→∃k',ks[i]?=some k'∧(GV H k').1 z∧gd k'≤8) :
  ∀y,y∈its.toArray→SeqAt.EqAt A s y v (decide ((GR s.heap k).1 y)):=by
 intro y hy;have hl:=r.length;obtain ⟨i,hi⟩:=List.mem_iff_getElem?.mp (by simpa using hy:y∈its);have hlt:i<xs.length:=by rw [hl];exact (List.getElem?_eq_some_iff.mp hi).1
 obtain ⟨k',e1,e2,e3⟩:=hk.2 i _ (List.getElem?_eq_getElem hlt);obtain ⟨u,hu',rv⟩:=r.get (List.getElem?_eq_getElem hlt);rw [hi] at hu';cases hu'
 have g1:=(GV.rel I.hok k').1 _ _ e2 rv;have g2:=(GV.rel I.hok k).1 _ _ hx rx;have:=(lK k' k).1 A _ _ g1 g2 (by omega);have e:decide ((GR s.heap k).1 y)=decide (k'=k):=by
  by_cases h:k'=k
  ·subst h;simp [g1]
  ·have:¬(GR s.heap k).1 y:=fun z=>h ((GR.inj k' k).1 y g1 z)
   simp [h,this]
 rw [e];exact this
open Classical in
theorem NV (hu:X.A.units+10<cLine):qZ X (compareOp .NotIn) (U0 X.K true):=by
 intro pins s σ H x y v u Q I rx ry h;obtain ⟨p,xs,k,ks,rfl,hq,hx,h8,hk,q⟩:=h;cases ry;obtain ⟨its,r,pl,hz⟩:=I.list hq;refine SeqAt.notIn_listAt (fun y=>decide ((GR s.heap k).1 y)) pl.isList (R8 (by simp only [Around.in1_units];omega) I r hx rx hk) ⟨.bl _,H,I,rfl,?_⟩;rw [show its.toArray.any (fun y=>decide ((GR s.heap k).1 y))=its.any (fun y=>decide ((GR s.heap k).1 y)) by simp,PR I r hk];exact q
end
theorem NY:typeLookup (.type "list_reverseiterator") "__len__"=pure none:=by rw [typeLookup_type,builtinLookup_eq_fast];kernel_rfl
theorem O9:typeLookup (.type "list_reverseiterator") "__length_hint__"=pure (some (.builtin "list_reverseiterator.__length_hint__")):=by rw [typeLookup_type,builtinLookup_eq_fast];kernel_rfl
section
variable {prog:Program} {w:World} {A:Around} {s:Shared} {E:Value→Shared→Prop}
theorem MO {R:Result→Shared→Prop} (hh:A.handled=none) {I l S:Addr} {items:Array Value} (hne:l≠I) (hSI:S≠I) (hSl:S≠l) (hn:items.size≤sizeLine) (res:Value) (c₀:Nat) (hit:s.heap.IsRevIter I l ((items.size:Int) - 1)) (hl:s.heap.IsList l items)
  (hS:s.heap.get? S=some {cls:=.type "list",data:=.seq #[] c₀})
  (q:∀s' acc' c',Moved [S,I] (fun a b=>b=a) s s'→s'.heap.get? S=some {cls:=.type "list",dict:=none,data:=.seq acc' c',slots := #[]}→ItemsOf (fun i v=>items[items.size - 1 - i]?=some v) acc' items.size→R (.ok (.ret res)) s') :
  wpAny (model prog w) A.in1 (Builtin.List.listExtendWith (.ref S) (.ref I) res)
   (fun fin s'=>match fin with|.done f=>R (.ok f) s'|.again c'=>c'.quiet=true∧codeAny (model prog w) A c' R s') (fun e s'=>R (.error e) s') s:=by
 have W:=(Walks.listRev (prog:=prog) (w:=w) (A:=A.in1) (by simp [hh]) I l hne items).toS;have hT:s.TypeIs (.ref I) "list_reverseiterator":=hit.typeIs;have h1:Builtin.List.listSameRef (.ref S) (.ref I)=false:=by simp [Builtin.List.listSameRef,hSI]
 have e:(items.size:Int) - 1 - ((0:Nat):Int)=(items.size:Int) - 1:=by omega
 have hst:0≤items.size∧s.heap.IsRevIter I l ((items.size:Int) - 1 - ((0:Nat):Int))∧s.heap.IsList l items:=⟨Nat.zero_le _,by rw [e];exact hit,hl⟩;unfold Builtin.List.listExtendWith;refine wpAny_bind (wpAny_typeOf hT ?_);rw [if_neg (by rw [h1];decide)];refine wpAny_bind (W.self 0 _ _ _ hst ?_);refine wpAny_bind (wpAny_holding ?_);unfold Builtin.List.listLengthHint;refine wpAny_bind (wpAny_specialOf hT NY ?_);show wpAny _ A.in1 (specialOf (Value.ref I) (Str.ofString "__length_hint__") >>= _) _ _ _;refine wpAny_bind (wpAny_specialOf hT O9 ?_)
 (generalize hid:("list_reverseiterator.__length_hint__":String)=id0;(fail_if_success (clear hid id0));wp_delta;rw [show splitId id0=some ("list_reverseiterator","__length_hint__") from by subst hid;decide +kernel];subst hid)
 refine wpAny_bind (wpAny_isInstance (b:=true) hT (by rw [isSubtype_type];kernel_rfl) ?_);refine wpAny_pure ?_;rw [if_neg (by decide)];refine wpAny_pure ⟨plainId_quiet F.plain_extend_loop _,codeAny_extend_loopS W hn S (by simp [hSI,hSl]) res items.size 0 _ #[] c₀ rfl (Nat.zero_le _) hst hS (ItemsOf.nil _) fun s' acc' c' hm hS' hacc=>q s' acc' c' hm hS' hacc⟩
theorem LV {Q:Value→Shared→Prop} (hh:A.handled=none) {I l:Addr} {items:Array Value} (hne:l≠I) (hn:items.size≤sizeLine) (hit:s.heap.IsRevIter I l ((items.size:Int) - 1)) (hl:s.heap.IsList l items)
  (q:∀s' acc' c',Moved [s.heap.objs.size,I] (fun a b=>b=a) s s'→s'.heap.get? s.heap.objs.size=some {cls:=.type "list",dict:=none,data:=.seq acc' c',slots := #[]}→ItemsOf (fun i v=>items[items.size - 1 - i]?=some v) acc' items.size→Q (.ref s.heap.objs.size) s') :
  wpAny (model prog w) A (call (.type "list") [.ref I]) Q E s:=by
 have lI:I<s.heap.objs.size:=by obtain ⟨o,ho,_⟩:=hit;exact Heap.lt_size ho
 have ll:l<s.heap.objs.size:=by obtain ⟨o,ho,_⟩:=hl;exact Heap.lt_size ho
 refine callType_codes (Q₁:=fun obj s₁=>obj=.ref s.heap.objs.size∧s₁={s with heap:=s.heap.push {cls:=.type "list",data:=.seq #[]}}) F.called_list (F.typeCall_list_1 _) F.entry_list_init (code_list_new _ ⟨rfl,rfl⟩) fun obj s₁ e₁=>?_
 obtain ⟨rfl,rfl⟩:=e₁;have g1:(s.heap.push {cls:=.type "list",data:=.seq #[]}).get? s.heap.objs.size=some {cls:=.type "list",data:=.seq #[]}:=Heap.get?_push_size _ rfl;have kp0:∀d o,s.heap.get? d=some o→(s.heap.push {cls:=.type "list",data:=.seq #[]}).get? d=some o:=fun d o e=>Heap.get?_push_of_some _ e
 refine ⟨⟨_,g1,rfl⟩,F.args_list_init_2 _ _,?_⟩;show wpAny _ _ (do let old ← Builtin.List.listItems (.ref s.heap.objs.size);Builtin.List.listUpdate (.ref s.heap.objs.size) (fun _ => #[]);letGo old.toList.reverse;Builtin.List.listExtendWith (.ref s.heap.objs.size) (.ref I) .none) _ _ _;refine wpAny_bind ?_;unfold Builtin.List.listItems;refine wpAny_bind (wpAny_seqItems g1 rfl (wpAny_pure ?_));show wpAny _ _ (updateSeq s.heap.objs.size (fun _ => #[]) >>= fun _=>letGo (#[]:Array Value).toList.reverse >>= fun _=>Builtin.List.listExtendWith (.ref s.heap.objs.size) (.ref I) .none) _ _ _;refine wpAny_bind (wpAny_updateSeq g1 rfl ?_);have g2:=Heap.get?_update_self (Obj.mapSeq (fun _=>(#[]:Array Value))) g1 rfl;have kq:∀d o,d≠s.heap.objs.size→s.heap.get? d=some o→((s.heap.push {cls:=.type "list",data:=.seq #[]}).update s.heap.objs.size (Obj.mapSeq (fun _=>(#[]:Array Value)))).get? d=some o:=fun d o hd e=>(Heap.get?_update_other _ _ (Ne.symm hd)).trans (kp0 d o e)
 refine wpAny_bind (wpAny_letGo ?_);refine MO (A:=A.in1) (by simp [hh]) hne (Nat.ne_of_gt lI) (Nat.ne_of_gt ll) hn .none _ (hit.at fun o e=>kq _ o (Nat.ne_of_lt lI) e) (hl.at fun o e=>kq _ o (Nat.ne_of_lt ll) e) g2 fun s' acc' c' hm hS' hp=>⟨rfl,q s' acc' c' ⟨fun b o hb e=>hm.heap b o hb (kq b o (fun z=>hb (by rw [z];simp)) e),hm.gens,hm.drawn,hm.os,hm.toks⟩ hS' hp⟩
end
section
variable {X:Cx}
def OL (K:PySem.W.Frag) (ta:TA):TE:=fun σ H Q=>ta σ H fun vs H1=>∃(a:Addr) (xs:List V),vs=[.ref a]∧SqL K H1 a xs∧∀l,H1 l=none→Q (.ref l) (upd H1 l (.lst xs.reverse))
theorem LX:bootBuiltins "reversed"=some (.type "reversed"):=by kernel_rfl
theorem MR {a:Expr} {ta:TA} {p p1 pos pos1:Pos} (hc:X.calm=true) (hgl:Gl X "list") (hml:X.mg "list"=none) (hg:Gl X "reversed") (hm:X.mg "reversed"=none) (ha:PA X [a] ta) (hs:starEach [a] X.env=[(false,eval a X.env)]:=by rfl)
  (hs3:starEach [.Call (.Name "reversed" p1) [a] [] pos1] X.env=[(false,eval (.Call (.Name "reversed" p1) [a] [] pos1) X.env)]:=by rfl) :
  PE X (.Call (.Name "list" p) [.Call (.Name "reversed" p1) [a] [] pos1] [] pos) (OL X.K ta):=by
 intro pins s σ H Q I h;refine wpAny_Call_Name_kw (Q6 I hgl hml PyProof.Rows.boot_list ?_);refine PyProof.Rows.callWith_type1 ?_ hs3 rfl;rw [hs3];show wpAny _ _ (spliced [(false,eval (.Call (.Name "reversed" p1) [a] [] pos1) X.env)]) _ _ s;refine Calls.spliced_cons ?_;refine Call_ (Q6 I hg hm LX (PyProof.Rows.callWith_type1 (jN (ha pos1 pins s σ H _ I h) fun us s1 ⟨vs,H1,I1,r1,q1⟩=>?_) (by rw [hs];rfl) rfl));obtain ⟨a1,xs,e,hq1,q⟩:=q1;subst e;obtain ⟨u,rfl,rx⟩:=Q9 r1;cases rx;obtain ⟨its,rv,pl,z1⟩:=I1.list hq1;have hlen:=rv.length;have lt1:a1<s1.heap.objs.size:=by obtain ⟨o,e,_⟩:=pl.isList;exact Heap.lt_size e
 refine call_reversed_list pl.isList ?_;refine Calls.spliced_nil ?_;refine LV (items:=its.toArray) (I.ok.hd hc) (Nat.ne_of_lt lt1) (by rw [List.size_toArray];omega) ⟨_,Heap.get?_push_size _ rfl,rfl,rfl⟩ (pl.isList.at fun o e=>Heap.get?_push_of_some _ e) fun s' acc c hmv hS hit=>?_
 have e8:s'={s1 with heap:=s'.heap,toks:=s'.toks}:=by
  have hg:=hmv.gens;have hd:=hmv.drawn;have ho:=hmv.os;cases s';cases s1;simp only at hg hd ho;subst hg hd ho;rfl
 have ea:acc.toList=its.reverse:=by
  refine List.ext_getElem? fun j=>?_
  have hsz:acc.size=its.length:=by rw [hit.1,List.size_toArray]
  by_cases hj:j<its.length
  ·have hja:j<acc.size:=by rw [hsz];exact hj
   have h1:=hit.2 j _ (Array.getElem?_eq_getElem hja);rw [List.size_toArray] at h1;rw [List.getElem?_reverse hj,Array.getElem?_toList,Array.getElem?_eq_getElem hja,← h1];simp
  ·rw [List.getElem?_eq_none (by rw [Array.length_toList,hsz];omega),List.getElem?_eq_none (by rw [List.length_reverse];omega)]
 have kp:∀b u,s1.heap.get? b=some u→s'.heap.get? b=some u:=fun b u e=>by
  refine hmv.heap b u (fun hb=>?_) (Heap.get?_push_of_some _ e);have:=Heap.lt_size e;simp only [List.mem_cons,List.mem_nil_iff,or_false,Heap.size_push] at hb
  rcases hb with rfl|rfl
  ·exact absurd this (by simp only [Addr] at *;omega)
  ·exact absurd this (Nat.lt_irrefl _)
 rw [e8];have hle:s1.heap.objs.size≤(s1.heap.push (revObj a1 ((its.toArray.size:Int) - 1))).objs.size:=by rw [Heap.size_push];exact Nat.le_succ _
 refine ⟨.ref _,_,I1.laid (o:=.lst xs.reverse) kp hle ⟨by rw [List.length_reverse];exact z1,its.reverse,c,rv.reverse,?_⟩,rfl,q _ (I1.hok.fresh hle)⟩;rw [← ea];exact hS
end
section
variable {prog:Program} {w:World} {A:Around} {E:Value→Shared→Prop} {s:Shared} {d it:Addr} {xs:List qJ} {o:Obj} {es:Array DictEntry} {i ep:Nat}
end
section
variable {X:Cx} {tg:Expr}
end
section
variable {X:Cx} {pins:List (Addr×Obj)} {σ:St} {H:Hp} {s:Shared}
end
structure CellsAt (H:Hp) (cl:List (Str×Addr)) (fvs:List V):Prop where
 once:(cl.map (·.2)).Nodup
 len:fvs.length=cl.length
 cell:∀(i:Nat) (x:Str) (c:Addr) (v:V),cl[i]?=some (x,c)→fvs[i]?=some v→∃o u,H c=some (FnO c o)∧o.data=.cell (some u)∧RelV v u
theorem CellsAt.of {H:Hp} {cl:List (Str×Addr)} {fvs:List V} (C:CellsAt H cl fvs) {x:Str} {c:Addr} (h:(x,c)∈cl):∃o u,H c=some (FnO c o)∧o.data=.cell (some u):=by
 obtain ⟨i,hi⟩:=List.mem_iff_getElem?.mp h;have hlt:i<fvs.length:=by rw [C.len];exact (List.getElem?_eq_some_iff.mp hi).1
 obtain ⟨o,u,e,e2,_⟩:=C.cell i x c _ hi (List.getElem?_eq_getElem hlt);exact ⟨o,u,e,e2⟩
theorem CellsAt.cells {H:Hp} {cl:List (Str×Addr)} {fvs:List V} (C:CellsAt H cl fvs):ZY H (cl.map (·.2)):=fun c hc=>by
 obtain ⟨⟨x,c'⟩,hm,rfl⟩:=List.mem_map.mp hc;obtain ⟨o,_,e,_⟩:=C.of hm;exact ⟨o,e⟩
structure LamAt (H:Hp) (f:Addr) (qual:Str) (params:Arguments) (body:Expr) (scope:Scope) (cl:List (Str×Addr)) (cdv:Value):Prop where
 fn:∃fo name pm ct,H f=some (FnO f fo)∧fo.data=.func (PySem.W.kla_fn name qual params body scope cl pm cdv ct)
 code:∃c oc vs t,cdv=.ref c∧H c=some (FnO c oc)∧oc.data=.fields vs∧vs[1]?=some (.str qual t)
structure LamScope (b:Bool) (N:List Str) (x:Str) (fr:List Str) (sc:Scope):Prop where
 kind:sc.kind=.function
 co:sc.isCoroutine=false
 gen:sc.isGenerator=false
 nd:N.Nodup
 pre:N.take (fr.length+1)=x::fr
 par:sc.names.lookup x=some (if b then .cell else .local)
 fre:∀y∈fr,sc.names.lookup y=some .free
 onl:∀y,sc.names.lookup y=some .free→y∈fr
 noc:if b then ∃rest,sc.names=(x,.cell)::rest∧∀y∈rest,y.2≠.cell else ∀y∈sc.names,y.2≠.cell
def qU (b:Bool) (x:Str) (n:Addr) (cl:List (Str×Addr)):List (Str×Addr):=if b then (x,n+1)::cl else cl
theorem rL:∀{rest:List (Str×NameKind)},(∀y∈rest,y.2≠.cell)→∀(n:Nat) (acc:List (Str×Addr)) (h:Heap),cellsFrom n rest acc=acc∧pushCells h rest=h
 |[],_,_,_,_=>⟨rfl,rfl⟩
 | (y,k)::r,hr,n,acc,h=>by
  have hk:(k == NameKind.cell)=false:=by simpa using hr (y,k) List.mem_cons_self
  have:=rL (fun z hz=>hr z (List.mem_cons_of_mem _ hz)) n acc h;unfold cellsFrom pushCells;rw [hk];exact this
section
variable {M:Model} {A:Around} {E:Value→Shared→Prop} {s:Shared}
theorem EE {scope:Scope} {globals:Addr} {closure:List (Str×Addr)} {x:Str} {u:Value} {qual:Str} {func:Option Addr} {code:Value} {builtins:Addr} {Q:Env→Shared→Prop} {rest:List (Str×NameKind)}
  (hn:scope.names=(x,.cell)::rest) (hr:∀y∈rest,y.2≠.cell) (hk:scope.kind=.function)
  (hQ:∀h',h'.Ns s.heap.objs.size (fun _=>none)→h'.IsCell (s.heap.objs.size+1) (some u)→(∀b o,s.heap.get? b=some o→h'.get? b=some o)→
   Q (newEnv scope s.heap.objs.size globals ((x,s.heap.objs.size+1)::closure) qual func code none builtins) {s with heap:=h'}) :
  wpAny M A (newFunctionEnv scope globals closure [(x,u)] qual func code none builtins) Q E s:=by
 simp only [newFunctionEnv,Option.isSome_none,Bool.false_eq_true,if_false];refine wpAny_bind (wpAny_alloc ?_);refine wpAny_bind (wpAny_layCells _ (fun name kind cells=>by cases hkc:kind == NameKind.cell<;>simp [hkc]) _ _ _ _ ?_);have e1:cellsFrom (s.heap.push {cls:=.type "frame",data:=.dict #[]}).objs.size scope.names closure=(x,s.heap.objs.size+1)::closure:=by
  rw [hn,Heap.size_push];exact (rL hr _ _ s.heap).1
 have e2:pushCells (s.heap.push {cls:=.type "frame",data:=.dict #[]}) scope.names=(s.heap.push {cls:=.type "frame",data:=.dict #[]}).push {cls:=.type "cell",data:=.cell none}:=by
  rw [hn];exact (rL hr 0 [] _).2
 show wpAny M A (do
  forIn [(x,u)] PUnit.unit fun p _=>_
  pure _) Q E _
 simp only [e1,e2];have hc:((s.heap.push {cls:=.type "frame",data:=.dict #[]}).push {cls:=.type "cell",data:=.cell none}).IsCell (s.heap.objs.size+1) none:=⟨_,by have:=Heap.get?_push_size (s.heap.push {cls:=.type "frame",data:=.dict #[]}) (o:={cls:=.type "cell",data:=.cell none}) rfl;rw [Heap.size_push] at this;exact this,rfl⟩;rw [List.forIn_cons];refine wpAny_bind (wpAny_bind (wpAny_bind (wpAny_storeName_cell (c:=s.heap.objs.size+1) hk ?_ ?_ hc fun h' hc' hs'=>wpAny_pure ?_)))
 ·show scope.names.lookup x=some .cell;rw [hn,List.lookup_cons,beq_self_eq_true]
 ·show List.lookup x ((x,s.heap.objs.size+1)::closure)=_;rw [List.lookup_cons,beq_self_eq_true]
 ·dsimp only
  rw [List.forIn_nil];refine wpAny_pure (wpAny_pure (hQ h' ?_ hc' fun b o e=>?_))
  ·exact (((Heap.Ns.new s.heap (.type "frame")).push _).sameBut hs' (Nat.ne_of_lt (Nat.lt_succ_self _)))
  ·exact hs'.extBut b o (Nat.ne_of_lt (Nat.lt_succ_of_lt (Heap.lt_size e))) (Heap.get?_push_of_some _ (Heap.get?_push_of_some _ e))
end
section
variable {P:Program} {w:World} {H H':Hp} {h:Heap} {cs:List Addr}
theorem HOk.hideN (x:HOk P w H h) (hc:∀c∈cs,H c=none∨∃o,H c=some (FnO c o)):HOk P w (kW H cs) h:=fun b u e=>by
 by_cases hb:b∈cs
 ·rw [Q2 hb] at e;cases e
 ·rw [vD hb] at e;have no:∀c v,H c=some v→(∀o,v≠FnO c o)→c∉cs:=fun c v q n hin=>by
   rcases hc c hin with z|⟨o,z⟩
   ·rw [q] at z;cases z
   ·rw [q] at z;cases z;exact n o rfl
  refine (x b u e).stay (fun _ _ _ q=>q) (fun c q=>?_) fun c xs q=>?_
  ·rw [vD (no c _ q fun _ z=>nomatch z)];exact q
  ·rw [vD (no c _ q fun _ z=>nomatch z)];exact q
theorem C8 {n:Addr} (hn:H n=none):kW H (n::cs)=kW H cs:=by
 funext b
 by_cases hb:b∈cs
 ·rw [Q2 hb,Q2 (List.mem_cons_of_mem _ hb)]
 ·rw [vD hb]
  by_cases z:b=n
  ·subst z;rw [Q2 List.mem_cons_self,hn]
  ·rw [vD (by simp [z,hb])]
end
section
variable {CX:vR} {P:Program} {w:World} {K:PySem.W.Frag} {mg:Str→Option Value} {base:Heap} {N fr:List Str} {x:Str} {b:Bool} {qual:Str} {params:Arguments} {body:Expr} {scope:Scope} {f:Addr} {cdv:Value} {cl:List (Str×Addr)} {A:Around} {outer:List Env} {s:Shared} {H:Hp} {E:XK} {Q:VK} {u:Value} {v:V} {fvs:List V} {k:Nat} {args:Args}
theorem C0 {h1:Heap} {tk:Nat} {m:Str→Option Value} (S:LamScope b N x fr scope) (hd:A.handled=none) (e0:Env0 P w K mg base A outer s H) (r:RelV v u) (C:CellsAt H cl fvs) (hcl:cl.map (·.1)=fr)
  (hns:h1.Ns s.heap.objs.size m) (hm:b=false→m x=some u) (hC:b=true→h1.IsCell (s.heap.objs.size+1) (some u)) (hk:∀b o,s.heap.get? b=some o→h1.get? b=some o) :
  Inv (bQ CX P w K mg base N qual scope f cdv (qU b x s.heap.objs.size cl) A outer s H E) [] (start N (v::fvs)) (kW H ((qU b x s.heap.objs.size cl).map (·.2))) {s with heap:=h1,toks:=tk}:=by
 have hlen:cl.length=fr.length:=by rw [← hcl,List.length_map]
 have hpl:fr.length+1≤N.length:=by have:=congrArg List.length S.pre;rw [List.length_take,List.length_cons] at this;omega
 have ndF:(x::fr).Nodup:=by rw [← S.pre];exact S.nd.sublist (List.take_sublist _ _)
 have ndC:(cl.map (·.1)).Nodup:=by rw [hcl];exact (List.nodup_cons.mp ndF).2
 have fresh:∀c,s.heap.objs.size≤c→H c=none:=fun c hc=>e0.hok.fresh hc
 have low:∀y c,(y,c)∈cl→c<s.heap.objs.size:=fun y c h=>by
  obtain ⟨o,_,e,_⟩:=C.of h;exact Heap.lt_size (FnO.get e0.hok e)
 have own:∀y c,(y,c)∈qU b x s.heap.objs.size cl→(y=x∧c=s.heap.objs.size+1∧b=true)∨(y,c)∈cl:=fun y c h=>by
  unfold qU at h;cases b with
  |true =>
   rcases List.mem_cons.mp h with e|h
   ·cases e;exact .inl ⟨rfl,rfl,rfl⟩
   ·exact .inr h
  |false=>exact .inr h
 have lookC:∀y c,(y,c)∈cl→(qU b x s.heap.objs.size cl).lookup y=some c:=fun y c h=>by
  have h1:=lookup_of_mem_nodup ndC h;unfold qU;cases b with
  |true =>
   have:(y == x)=false:=beq_eq_false_iff_ne.mpr fun z=>(List.nodup_cons.mp ndF).1 (by rw [← hcl,← z];exact List.mem_map.mpr ⟨_,h,rfl⟩)
   show List.lookup y ((x,_)::cl)=_;rw [List.lookup_cons,this];exact h1
  |false=>exact h1
 have hcs:∀c∈(qU b x s.heap.objs.size cl).map (·.2),H c=none∨∃o,H c=some (FnO c o):=fun c hc=>by
  obtain ⟨⟨y,c'⟩,hm,rfl⟩:=List.mem_map.mp hc
  rcases own y c' hm with ⟨_,rfl,_⟩|h
  ·exact .inl (fresh _ (Nat.le_succ _))
  ·obtain ⟨o,_,e,_⟩:=C.of h;exact .inr ⟨o,e⟩
 have del0:∀b',H b'=none→kW H ((qU b x s.heap.objs.size cl).map (·.2)) b'=none:=fun b' n=>by unfold kW;split;rfl;exact n
 have noA:∀b':Addr,b'∉(bQ CX P w K mg base N qual scope f cdv (qU b x s.heap.objs.size cl) A outer s H E).ex:=fun b' z=>absurd (show b'∈([]:List Addr) from z) (by simp)
 have once:((qU b x s.heap.objs.size cl).map (·.2)).Nodup:=by
  unfold qU;cases b with
  |true =>
   refine List.nodup_cons.mpr ⟨fun h=>?_,C.once⟩;obtain ⟨⟨y,c⟩,hm,e⟩:=List.mem_map.mp h;have:=low y c hm;have e':c=s.heap.objs.size+1:=e;rw [e'] at this;exact absurd (Nat.lt_trans (Nat.lt_succ_self _) this) (Nat.lt_irrefl _)
  |false=>exact C.once
 refine ⟨⟨e0.mod,S.kind,rfl,rfl,Nat.le_refl _,fun y z c h1 h2=>OU once h1 h2,fun y hy=>?_,fun y c q=>(nomatch q),fun _=>hd,Around.frames_deeper e0.frames,.inr ⟨rfl,rfl⟩,fun b z=>absurd z (noA b),fun b o e=>⟨(e0.bs b o e).1,del0 b (e0.bs b o e).2⟩,e0.bsz,fun b _ _=>noA b,fun b z=>absurd z (noA b),e0.funs,fun b hb=>del0 b (e0.frf b hb)⟩,
  rfl,e0.bare,Un.kept hk,⟨_,hns,fun i y v' h1 h2 h3=>?_⟩,fun y c h=>?_,del0 _ (fresh _ (Nat.le_refl _)),fun y c h=>Q2 (List.mem_map.mpr ⟨_,PySem.mem_of_lookup h,rfl⟩),fun p hp=>absurd (show p∈([]:List (Addr×Obj)) from hp) (by simp),(e0.hok.hideN hcs).kept hk,?_⟩
 ·have hy2:scope.names.lookup y=some .cell∨scope.names.lookup y=some .free:=hy;clear hy
  rcases hy2 with hy|hy
  ·have hnoc:=S.noc;cases b with
   |true =>
    obtain ⟨rest,e,hr⟩:=hnoc;rw [e,List.lookup_cons] at hy
    by_cases z:y=x
    ·exact ⟨_,by show List.lookup y ((x,_)::cl)=_;rw [List.lookup_cons,z,beq_self_eq_true]⟩
    ·rw [beq_eq_false_iff_ne.mpr z] at hy;exact absurd rfl (hr _ (PySem.mem_of_lookup hy))
   |false=>exact absurd rfl (hnoc _ (PySem.mem_of_lookup hy))
  ·have:=S.onl y hy;rw [← hcl] at this;obtain ⟨⟨y',c⟩,hm,rfl⟩:=List.mem_map.mp this;exact ⟨c,lookC _ _ hm⟩
 ·have hi:i<(v::fvs).length:=by
   unfold start at h2
   by_cases hi:i<(v::fvs).length
   ·exact hi
   ·rw [List.getElem?_append_right (by simpa using hi),List.getElem?_replicate] at h2
    split at h2<;>cases h2
  have ha:(v::fvs)[i]?=some v':=by
   unfold start at h2;rw [List.getElem?_append_left (by simpa using hi),List.getElem?_map] at h2;cases e:(v::fvs)[i]? with
   |none=>rw [e] at h2;cases h2
   |some a=>rw [e] at h2;cases h2;rfl
  have hp:(x::fr)[i]?=some y:=by
   rw [← S.pre,List.getElem?_take_of_lt (by rw [List.length_cons,C.len,hlen] at hi;exact hi)];exact h1
  cases i with
  |zero =>
   cases hp;cases ha;refine ⟨u,r,?_⟩;have hpar:=S.par;cases b with
   |true=>exact .inr ⟨.inl hpar,_,by show List.lookup x ((x,_)::cl)=_;rw [List.lookup_cons,beq_self_eq_true],hC rfl⟩
   |false=>exact .inl ⟨hpar,hm rfl⟩
  |succ i =>
   rw [List.getElem?_cons_succ] at hp ha;rw [← hcl,List.getElem?_map] at hp;obtain ⟨⟨y',c⟩,hc,rfl⟩:=Option.map_eq_some_iff.mp hp;obtain ⟨o,u',e,e2,rv⟩:=C.cell _ y' c v' hc ha;refine ⟨u',rv,.inr ⟨.inr (S.fre y' ?_),c,lookC _ _ (List.mem_of_getElem? hc),o,hk _ _ (FnO.get e0.hok e),e2⟩⟩;rw [← hcl];exact List.mem_map.mpr ⟨_,List.mem_of_getElem? hc,rfl⟩
 ·rcases own y c (PySem.mem_of_lookup h) with ⟨_,rfl,hb⟩|h
  ·exact ⟨_,hC hb⟩
  ·obtain ⟨o,u',e,e2⟩:=C.of h;exact ⟨some u',o,hk _ _ (FnO.get e0.hok e),e2⟩
 ·unfold start;show _=N.length;rw [List.length_append,List.length_map,List.length_replicate,List.length_cons,C.len,hlen];omega
theorem RU (S:LamScope b N x fr scope) (hr:Room (k+1) A) (e0:Env0 P w K mg base A outer s H) (r:RelV v u) (L:LamAt H f qual params body scope cl cdv) (C:CellsAt H cl fvs) (hcl:cl.map (·.1)=fr)
  (hb:∀(name:Str) (pm ct:Value),bindArgs (PySem.W.kla_fn name qual params body scope cl pm cdv ct) args=pure [(x,u)])
  (hbody:Room k (A.deeper (PySem.W.envX qual scope s.heap.objs.size f cdv (qU b x s.heap.objs.size cl)))→
   ∃t,PE (bQ CX P w K mg base N qual scope f cdv (qU b x s.heap.objs.size cl) A outer s H E) body t∧t (start N (v::fvs)) (kW H (cl.map (·.2))) fun v' H'=>(∀c∈cl.map (·.2),H' c=none)→Q v' (vB H' H (cl.map (·.2)))) :
  codeAny (model P w) A (.call (.ref f) args) (CR CX outer P w H s Q E) s:=by
 obtain ⟨fo,name,pm,ct,hf,hd⟩:=L.fn;have hcode:s.heap.CodeRec cdv qual:=by
  obtain ⟨c,oc,vs',t,e,e1,e2,e3⟩:=L.code;exact ⟨c,oc,vs',t,e,FnO.get e0.hok e1,e2,e3⟩
 have lim:s.heap.NoLimit:=e0.mod.nolimit.keeps fun b o e=>(e0.bs b o e).1
 obtain ⟨t,ht,hq⟩:=hbody (hr.deeper _);have ndF:(x::fr).Nodup:=by rw [← S.pre];exact S.nd.sublist (List.take_sublist _ _)
 have ndC:(cl.map (·.1)).Nodup:=by rw [hcl];exact (List.nodup_cons.mp ndF).2
 have hdel:kW H ((qU b x s.heap.objs.size cl).map (·.2))=kW H (cl.map (·.2)):=by
  unfold qU;cases b with
  |true=>exact C8 (e0.hok.fresh (Nat.le_succ _))
  |false=>rfl
 have hlook:∀c∈cl.map (·.2),∃y,(qU b x s.heap.objs.size cl).lookup y=some c:=fun c hc=>by
  obtain ⟨⟨y,c'⟩,hm,rfl⟩:=List.mem_map.mp hc;have h1:=lookup_of_mem_nodup ndC hm;refine ⟨y,?_⟩;unfold qU;cases b with
  |true =>
   have:(y == x)=false:=beq_eq_false_iff_ne.mpr fun z=>(List.nodup_cons.mp ndF).1 (by rw [← hcl,← z];exact List.mem_map.mpr ⟨_,hm,rfl⟩)
   show List.lookup y ((x,_)::cl)=_;rw [List.lookup_cons,this];exact h1
  |false=>exact h1
 have fin:∀{h1:Heap} {tk:Nat} {m:Str→Option Value},h1.Ns s.heap.objs.size m→(b=false→m x=some u)→(b=true→h1.IsCell (s.heap.objs.size+1) (some u))→(∀b o,s.heap.get? b=some o→h1.get? b=some o)→
   codeAny (model P w) A (.expr body (PySem.W.envX qual scope s.heap.objs.size f cdv (qU b x s.heap.objs.size cl))) (CR CX outer P w H s Q E) {s with heap:=h1,toks:=tk}:=fun {h1 tk m} hns hm hC hk=>by
  have I:=C0 (CX:=CX) (qual:=qual) (f:=f) (cdv:=cdv) (E:=E) (tk:=tk) S hr.hd e0 r C hcl hns hm hC hk;rw [← hdel] at hq;refine PySem.W.kla_codeExpr (wpAny_mono (ht [] _ _ _ _ I hq) (fun u' s' hs=>?_) fun e s' hs=>hs);obtain ⟨v',H',J,rv,q⟩:=hs;have hn:∀c∈cl.map (·.2),H' c=none:=fun c hc=>by
   obtain ⟨y,hy⟩:=hlook c hc;exact J.freeC y c hy
  have un:Un (kN outer) [] (kW H (cl.map (·.2))) H' s.heap s'.heap:=by rw [← hdel];exact J.base
  refine ⟨v',_,J.os,J.bare,Un.unhide un C.cells,HOk.unhide J.hok hn fun c hc=>?_,rv,q hn⟩;obtain ⟨o,e⟩:=C.cells c hc;refine ⟨o,e,un.keep c o (FnO.get e0.hok e) (Q2 hc) (fun hin=>?_) (by intro z;cases z)⟩;have:=e0.frf c hin;rw [e] at this;cases this
 refine PySem.W.kla_callFunE hr.depth (FnO.get e0.hok hf) hd S.co S.gen rfl hcode ?_;rw [hb name pm ct];refine wpAny_pure ?_;have hnoc:=S.noc;have hpar:=S.par;cases b with
 |true =>
  obtain ⟨rest,e1,e2⟩:=hnoc;refine EE e1 e2 S.kind fun h1 hns hc hk=>⟨lim.keeps hk,?_⟩
  exact fin (tk:=s.toks) hns (fun z=>nomatch z) (fun _=>hc) hk
 |false =>
  refine wpAny_newFunctionEnv hnoc (fun y hy=>by cases List.mem_singleton.mp hy;exact hpar) (fun h1 hns hsb=>⟨lim.fresh _ hsb,?_⟩) S.kind;refine fin hns (fun _=>?_) (fun z=>nomatch z) fun b o e=>hsb.extBut b o (Nat.ne_of_lt (Heap.lt_size e)) (Heap.get?_push_of_some _ e)
  show List.lookup x [(x,u)]=some u;rw [List.lookup_cons,beq_self_eq_true]
end
abbrev lJ (qual:Str) (params:Arguments) (body:Expr) (scope:Scope) (clos:List (Str×Addr)) (pm cv ctv:Value):Obj :=
 {cls:=.type "function",data:=.func (PySem.W.kla_fn "<lambda>" qual params body scope clos pm cv ctv)}
def JL (H:Hp) (T:Addr) (pos:Pos) (qual:Str):Prop :=
 H T=some (.tbl #[])∨∃c oc vs t,H T=some (.tbl #[rawInt pos.line,rawInt pos.col,.ref c])∧H c=some (FnO c oc)∧oc.data=.fields vs∧vs[1]?=some (.str qual t)
section
variable {X:Cx} {pins:List (Addr×Obj)} {σ:List (Option V)} {H:Hp} {s:Shared}
theorem Inv.fnHit {h':Heap} {o:Obj} {t':Nat} (I:Inv X pins σ H s) (hx:∀b o,s.heap.get? b=some o→h'.get? b=some o) (hsz:s.heap.objs.size≤h'.objs.size) (hfr:o.isFreed=false) :
  Inv X pins σ (upd H h'.objs.size (FnO h'.objs.size o)) {s with heap:=h'.push o,toks:=t'}:=by
 have key:∀b u,s.heap.get? b=some u→(h'.push o).get? b=some u:=fun b u e=>Heap.get?_push_of_some _ (hx b u e)
 have hlt:∀b,b<s.heap.objs.size→b≠h'.objs.size:=fun b e=>Nat.ne_of_lt (Nat.lt_of_lt_of_le e hsz)
 have ht:∀b u,H b=some u→b≠h'.objs.size:=fun b u e=>hlt b (I.hok b u e).lt
 refine I.un ⟨fun b ob e n _ _=>key b ob e,fun b ob e n _ _=>⟨ob.slots,key b ob e⟩,fun b ob e n _=>?_,fun b ob e _=>⟨ob,key b ob e⟩,fun b xs e=>?_,fun b ob u e=>?_,fun b qs e=>⟨#[],?_⟩⟩ fun b u e=>?_
 ·rw [jG (hlt b (Heap.lt_size e))];exact n
 ·rw [jG (ht b _ e)];exact e
 ·rw [jG (ht b _ e)];exact e
 ·rw [jG (ht b _ e),e];simp
 ·by_cases z:b=h'.objs.size
  ·subst z;rw [jD] at e;cases e
   exact FnO.ok (Heap.get?_push_size _ hfr)
  rw [jG z] at e;refine (I.hok b u e).stay (fun c v hc r=>key c v r) (fun c r=>?_) fun c xs r=>?_
  ·rw [jG (ht c _ r)];exact r
  ·rw [jG (ht c _ r)];exact r
def UQ (T:Addr) (pos:Pos) (qual:Str) (mk:Value→Value→Obj):TE:=fun _ H Q=>JL H T pos qual∧
 ∀(f c:Addr) (ctv:Value) (H':Hp),H f=none→H' f=some (FnO f (mk (.ref c) ctv))→(∃oc vs t,H' T=some (.tbl #[rawInt pos.line,rawInt pos.col,.ref c])∧H' c=some (FnO c oc)∧oc.data=.fields vs∧vs[1]?=some (.str qual t))→
  (∀b o,H b=some o→b≠T→H' b=some o)→(∀b,H b=none→b≠f→b≠c→H' b=none)→Q (.ref f) H'
theorem SR {params:Arguments} {body:Expr} {scope:Scope} {pos:Pos} {c T:Addr} {clos:List (Str×Addr)} {qual:Str} (hd:defaultsOf params X.env=([],[])) (hcl:closureFor scope X.env=pure clos) (hge:X.env.globals=mainGlobals)
  (hcode:X.env.code=.ref c) (hC:PySem.W.CodeHd X.base c T) (hgP:mainGlobals≠T) (hb:X.base.BuiltinsAt X.mg T) (hq:X.env.qual++"<lambda>"=qual) :
  PE X (.Lambda params body scope pos) (UQ T pos qual fun cv ctv=>lJ qual params body scope clos ((X.mg "__name__").getD .none) cv ctv):=by
 intro pins s σ H Q I h;obtain ⟨hT,q⟩:=h;refine PySem.W.kla_eval hd ?_;rw [hq]
 rcases hT with hT|⟨c1,oc,vs,t,hT,h1,h2,h3⟩
 ·have hPs:s.heap.get? T=some (PySem.W.tabObj #[]):=I.hok T _ hT;refine PySem.W.kla_makeFunction (mg:=X.mg) hcl hge (I.mod.glob.keeps I.bk) hcode (hC.keeps I.bk) hPs trivial rfl hgP (hb.keeps I.bk) fun c' ctv h' tk hx' hge' hlt hrec htb=>?_
  have hsz:s.heap.objs.size≤h'.objs.size:=Nat.le_trans hge' (Nat.le_of_lt hlt);obtain ⟨c'',oc,fs,t,e,hoc,hoc2,hoc3⟩:=hrec;cases e;have J:=I.fnMade2 (o:=lJ qual params body scope clos ((X.mg "__name__").getD .none) (.ref c') ctv) (t':=tk) hT hx' hsz htb rfl hge' hoc;have hPl:=Heap.lt_size hPs;have hTf:T≠h'.objs.size:=Nat.ne_of_lt (Nat.lt_of_lt_of_le hPl hsz);have hTc:T≠c':=Nat.ne_of_lt (Nat.lt_of_lt_of_le hPl hge');have hfc:h'.objs.size≠c':=Nat.ne_of_gt hlt;have hf0:H h'.objs.size=none:=I.hok.fresh hsz;have hc0:H c'=none:=I.hok.fresh hge';refine ⟨.ref h'.objs.size,_,J,rfl,q h'.objs.size c' ctv _ hf0 ?_ ⟨oc,fs,t,?_,jD ..,hoc2,hoc3⟩ (fun b o e n=>?_) fun b n n1 n2=>?_⟩
  ·rw [jG hfc,jD]
  ·rw [jG hTc,jG hTf,jD];rfl
  ·rw [jG (fun z=>by rw [z,hc0] at e;cases e),jG (fun z=>by rw [z,hf0] at e;cases e),jG n];exact e
  ·rw [jG n2,jG n1,jG (fun z=>by rw [z,hT] at n;cases n)];exact n
 ·have hPs:s.heap.get? T=some (PySem.W.tabObj #[rawInt pos.line,rawInt pos.col,.ref c1]):=I.hok T _ hT;refine PySem.W.kla_makeFunctionHit (mg:=X.mg) (cv:=.ref c1) hcl hge (I.mod.glob.keeps I.bk) hcode (hC.keeps I.bk) hPs (by exact trivial) (codeAmong_snoc [] trivial rfl) (hb.keeps I.bk) fun ctv h' tk hk hsz=>?_
  have J:=I.fnHit (o:=lJ qual params body scope clos ((X.mg "__name__").getD .none) (.ref c1) ctv) (t':=tk) hk hsz rfl;have hf0:H h'.objs.size=none:=I.hok.fresh hsz;have ne:∀b o,H b=some o→b≠h'.objs.size:=fun b o e z=>by rw [z,hf0] at e;cases e
  refine ⟨.ref h'.objs.size,_,J,rfl,q h'.objs.size c1 ctv _ hf0 (jD ..) ⟨oc,vs,t,?_,?_,h2,h3⟩ (fun b o e n=>?_) fun b n n1 n2=>?_⟩
  ·rw [jG (ne T _ hT)];exact hT
  ·rw [jG (ne c1 _ h1)];exact h1
  ·rw [jG (ne b _ e)];exact e
  ·rw [jG n1];exact n
end
def dC (T:Addr) (n:Nat) (pos:Pos) (lq:Str) (lp:Arguments) (lb:Expr) (ls:Scope) (fr:List Str) (sel:List Nat):Sp:=fun vs H Q _=>vs.length=n∧JL H T pos lq∧
 ∀(f:Addr) (cl:List (Str×Addr)) (cdv:Value) (H':Hp),H f=none→LamAt H' f lq lp lb ls cl cdv→cl.map (·.1)=fr→CellsAt H' cl (sel.map fun i=>vs.getD i .non)→JL H' T pos lq→
  (∀c∈cl.map (·.2),H c=none)→(∀b o,H b=some o→b≠T→H' b=some o)→Q (.ref f) H'
theorem NO {N:List Str} {vs:List V} {j:Nat} {v:V} (h:vs[j]?=some v):(start N vs)[j]?=some (some v):=by
 unfold start;rw [List.getElem?_append_left (by rw [List.length_map];exact (List.getElem?_eq_some_iff.mp h).1),List.getElem?_map,h];rfl
theorem O5 {CX:vR} {P:Program} {w:World} {K:PySem.W.Frag} {mg:Str→Option Value} {base:Heap} {k:Nat} {f cL T:Addr} {name qual lq:Str} {params lp:Arguments} {lb:Expr} {scope ls:Scope} {dV kV doc pm ct oc:Value} {an od:Option Addr}
  {osl:Array (Option Value)} {N ps fr:List Str} {rpos lpos:Pos} {sel:List Nat} (cl:Nat→List (Str×Addr))
  (lk:K.lookup f=some ⟨oc,od,.func (PySem.W.fnOf name qual params [.Return (some (.Lambda lp lb ls lpos)) rpos] scope dV kV doc pm an (.ref cL) ct),osl⟩) (hcd:PySem.W.codeIn K (.ref cL) qual=true) (S:FnScope N ps scope)
  (hC:PySem.W.CodeHd base cL T) (hgP:mainGlobals≠T) (hB:base.BuiltinsAt mg T) (hdf:∀n,defaultsOf lp (envOfC qual scope n f (.ref cL))=([],[])) (hcl:∀n,closureFor ls (envOfC qual scope n f (.ref cL))=pure (cl n))
  (hfr:∀n,(cl n).map (·.1)=fr) (hone:∀n,((cl n).map (·.2)).Nodup) (hlen:∀n,(cl n).length=sel.length)
  (hsel:∀(n i:Nat) (x:Str) (c:Addr),(cl n)[i]?=some (x,c)→∃j,sel[i]?=some j∧j<ps.length∧N[j]?=some x∧scope.names.lookup x=some .cell∧(cellsFrom (n+1) scope.names []).lookup x=some c)
  (hq:qual++".<locals>."++"<lambda>"=lq) :
  FnOk P w K mg base CX (k+1) f (PySem.W.fnOf name qual params [.Return (some (.Lambda lp lb ls lpos)) rpos] scope dV kV doc pm an (.ref cL) ct) ps (dC T ps.length lpos lq lp lb ls fr sel):=by
 refine ⟨fun _ _ _ _ h=>h.1,fun A outer s H args us vs Q E hr e0 hb r hsp=>?_⟩;obtain ⟨hl,hT,q⟩:=hsp;have KX:K.In s.heap:=e0.mod.kin.keeps fun b o e=>(e0.bs b o e).1
 have lim:s.heap.NoLimit:=e0.mod.nolimit.keeps fun b o e=>(e0.bs b o e).1
 have hkind:∀y∈ps.zip us,scope.names.lookup y.1=some .local∨(scope.names.lookup y.1=some .cell∧((cellsFrom (s.heap.objs.size+1) scope.names []).lookup y.1).isSome=true):=fun ⟨n,v⟩ hy=>by
  rcases S.par n (List.of_mem_zip hy).1 with q|q
  ·exact .inl q
  ·exact .inr ⟨q,PySem.W.cellsFrom_some _ _ _ (.inl q)⟩
 refine codeAny_call_function hr.depth (KX _ _ lk) rfl S.co S.gen rfl (PySem.W.codeRec_of KX hcd) (hb _ _ _ _ ?_);refine wpAny_newFunctionEnv_cells S.kind hkind fun env he s1 x=>?_
 subst he;refine ⟨lim.keeps x.toInCall.keep,codeAny_func ?_⟩;have I:Inv (vP CX P w K mg base N qual scope f (.ref cL) A outer s H E) [] (start N vs) H s1:=AB S hr.hd e0 hl r x;have L:=SR (X:=vP CX P w K mg base N qual scope f (.ref cL) A outer s H E) (body:=lb) (pos:=lpos) (hdf _) (hcl _) rfl rfl hC hgP hB hq;have hQ:=L [] s1 _ H (fun v H1=>∃(fa c:Addr) (ctv:Value),v=.ref fa∧H fa=none∧H1 fa=some (FnO fa (lJ lq lp lb ls (cl s.heap.objs.size) ((mg "__name__").getD .none) (.ref c) ctv))∧
   (∃(oc:Obj) (vs:Array Value) (t:Tok),H1 T=some (.tbl #[rawInt lpos.line,rawInt lpos.col,.ref c])∧H1 c=some (FnO c oc)∧oc.data=.fields vs∧vs[1]?=some (.str lq t))∧(∀b o,H b=some o→b≠T→H1 b=some o)) I ⟨hT,fun fa c ctv H1 a1 a2 a3 a4 _=>⟨fa,c,ctv,rfl,a1,a2,a3,a4⟩⟩
 refine wpAny_execs_cons (wpAny_Return_some (wpAny_mono hQ (fun u s' hs=>?_) fun e s' hs=>hs));obtain ⟨_,H1,J,rv,fa,c,ctv,rfl,hf0,hf1,⟨oc1,fs1,t1,g1,g2,g3,g4⟩,keep⟩:=hs;obtain ⟨m,_,hloc⟩:=J.loc;have cellOf:∀(i:Nat) (y:Str) (cc:Addr),(cl s.heap.objs.size)[i]?=some (y,cc)→∃(j:Nat) (v:V) (o:Obj) (u:Value),sel[i]?=some j∧vs[j]?=some v∧s'.heap.get? cc=some o∧o.data=.cell (some u)∧RelV v u∧H1 cc=none∧s.heap.objs.size<cc:=fun i y cc hi=>by
  obtain ⟨j,e1,e2,e3,e4,e5⟩:=hsel _ i y cc hi;have hj:j<vs.length:=by rw [hl];exact e2
  obtain ⟨u,ru,lk⟩:=hloc j y vs[j] e3 (NO (List.getElem?_eq_getElem hj)) (.inr (.inl e4));have fr0:H1 cc=none:=J.freeC y cc e5
  rcases lk with ⟨hk,_⟩|⟨_,c',hc',o,ho,hd⟩
  ·have hk':scope.names.lookup y=some .local:=hk;rw [e4] at hk';cases hk'
  ·have hc2:(cellsFrom (s.heap.objs.size+1) scope.names []).lookup y=some c':=hc';rw [e5] at hc2;cases hc2
   exact ⟨j,vs[j],o,u,e1,List.getElem?_eq_getElem hj,ho,hd,ru,fr0,x.above y cc (PySem.mem_of_lookup e5)⟩
 have inC:∀cc∈(cl s.heap.objs.size).map (·.2),∃(i:Nat) (y:Str),(cl s.heap.objs.size)[i]?=some (y,cc):=fun cc hm=>by
  obtain ⟨⟨y,c'⟩,hm2,rfl⟩:=List.mem_map.mp hm;obtain ⟨i,hi⟩:=List.mem_iff_getElem?.mp hm2;exact ⟨i,y,hi⟩
 let HC:Hp:=fun b=>(s'.heap.get? b).map fun o=>FnO b o
 have hn:∀cc∈(cl s.heap.objs.size).map (·.2),H1 cc=none:=fun cc hm=>by
  obtain ⟨i,y,hi⟩:=inC cc hm;obtain ⟨_,_,_,_,_,_,_,_,_,z,_⟩:=cellOf i y cc hi;exact z
 have hc:∀cc∈(cl s.heap.objs.size).map (·.2),∃o,HC cc=some (FnO cc o)∧s'.heap.get? cc=some o:=fun cc hm=>by
  obtain ⟨i,y,hi⟩:=inC cc hm;obtain ⟨_,_,o,_,_,_,z,_⟩:=cellOf i y cc hi;exact ⟨o,by show (s'.heap.get? cc).map _=_;rw [z];rfl,z⟩
 have out:∀b o,H1 b=some o→b∉(cl s.heap.objs.size).map (·.2):=fun b o e hm=>by rw [hn b hm] at e;cases e
 have old:∀b,b<s.heap.objs.size→b∉(cl s.heap.objs.size).map (·.2):=fun b hb hm=>by
  obtain ⟨i,y,hi⟩:=inC b hm;obtain ⟨_,_,_,_,_,_,_,_,_,_,z⟩:=cellOf i y b hi;exact absurd (Nat.lt_trans hb z) (Nat.lt_irrefl _)
 have oldH:∀b o,H b=some o→b∉(cl s.heap.objs.size).map (·.2):=fun b o e=>old b (e0.hok b o e).lt
 have un:Un (kN outer) [] H (vB H1 HC ((cl s.heap.objs.size).map (·.2))) s.heap s'.heap:=by
  have ub:Un (kN outer) [] H H1 s.heap s'.heap:=J.base;refine ⟨ub.keep,ub.slot,fun b o e n hx=>?_,ub.there,fun b xs e=>?_,fun b o v e=>?_,fun b qs e=>?_⟩
  ·rw [vE (old b (Heap.lt_size e))];exact ub.free b o e n hx
  ·rw [vE (oldH b _ e)];exact ub.tups b xs e
  ·rw [vE (oldH b _ e)];exact ub.frzs b o v e
  ·rw [vE (oldH b _ e)];exact ub.tbls b qs e
 refine ⟨.ref fa,_,J.os,J.bare,un,HOk.unhide J.hok hn hc,rv,q fa (cl s.heap.objs.size) (.ref c) _ hf0 ⟨⟨_,_,_,_,(vE (out fa _ hf1)).trans hf1,rfl⟩,⟨c,oc1,fs1,t1,rfl,(vE (out c _ g2)).trans g2,g3,g4⟩⟩ (hfr _) ⟨hone _,?_,fun i y cc v hi hv=>?_⟩ (.inr ⟨c,oc1,fs1,t1,(vE (out T _ g1)).trans g1,(vE (out c _ g2)).trans g2,g3,g4⟩) (fun cc hm=>?_) fun b o e n=>(vE (oldH b _ e)).trans (keep b o e n)⟩
 ·rw [List.length_map,hlen]
 ·obtain ⟨j,v',o,u',e1,e2,e3,e4,e5,_,_⟩:=cellOf i y cc hi;have hin:cc∈(cl s.heap.objs.size).map (·.2):=List.mem_map.mpr ⟨_,List.mem_of_getElem? hi,rfl⟩;rw [List.getElem?_map,e1] at hv;have hv':vs.getD j .non=v:=Option.some.inj hv;rw [List.getD_eq_getElem?_getD,e2] at hv';cases hv';exact ⟨o,u',by rw [fD hin];show (s'.heap.get? cc).map _=_;rw [e3];rfl,e4,e5⟩
 ·obtain ⟨i,y,hi⟩:=inC cc hm;obtain ⟨_,_,_,_,_,_,_,_,_,_,z⟩:=cellOf i y cc hi;exact e0.hok.fresh (Nat.le_of_lt z)
def JB (qual:Str) (params:Arguments) (body:Expr) (scope:Scope) (fr:List Str) (sp:List Addr→List V→Sp) (f:Addr):Sp:=fun vs H Q E=>∃v,vs=[v]∧
 ∃cl fvs cdv,LamAt H f qual params body scope cl cdv∧CellsAt H cl fvs∧cl.map (·.1)=fr∧sp (cl.map (·.2)) fvs [v] H Q E
variable {x:Str} {k:Nat}
theorem C6 {CX:vR} {P:Program} {w:World} {K:PySem.W.Frag} {mg:Str→Option Value} {base:Heap} {b:Bool} {N fr:List Str} {qual:Str} {params:Arguments} {body:Expr} {scope:Scope} {sp:List Addr→List V→Sp} (S:LamScope b N x fr scope)
  (hb:∀(name:Str) (cl:List (Str×Addr)) (pm cdv ct u:Value),bindArgs (PySem.W.kla_fn name qual params body scope cl pm cdv ct) ⟨[u],[]⟩=pure [(x,u)])
  (hbody:∀(A:Around) (outer:List Env) (s:Shared) (H:Hp) (f:Addr) (cdv:Value) (cl:List (Str×Addr)) (fvs:List V) (v:V) (Q:VK) (E:XK),cl.map (·.1)=fr→Room k (A.deeper (PySem.W.envX qual scope s.heap.objs.size f cdv (qU b x s.heap.objs.size cl)))→ZY H (cl.map (·.2))→sp (cl.map (·.2)) fvs [v] H Q E→
   ∃t,PE (bQ CX P w K mg base N qual scope f cdv (qU b x s.heap.objs.size cl) A outer s H E) body t∧t (start N (v::fvs)) (kW H (cl.map (·.2))) fun v' H'=>(∀c∈cl.map (·.2),H' c=none)→Q v' (vB H' H (cl.map (·.2)))) :
  FnV P w K mg base CX (k+1) (JB qual params body scope fr sp):=by
 refine ⟨fun f vs H Q E h=>?_,fun A outer s H f us vs Q E hr e0 r h=>?_⟩
 ·obtain ⟨_,_,cl,fvs,cdv,L,_⟩:=h;obtain ⟨fo,_,_,_,h1,h2⟩:=L.fn;exact ⟨fo,_,h1,h2⟩
 ·obtain ⟨v,rfl,cl,fvs,cdv,L,C,hcl,hs⟩:=h;cases r with
  |cons rv r =>
   cases r;exact RU S hr e0 rv L C hcl (fun name pm ct=>hb name cl pm cdv ct _) fun hr'=>hbody A outer s H f cdv cl fvs v Q E hcl hr' C.cells hs
def tE (Ts:List Addr) (H:Hp):Prop:=(∀T∈Ts,H T=some (.tbl #[]))∧∀b,b∉Ts→H b=none∨∃o xs,H b=some (.frz o (.lst xs))
theorem M1 {prog:Program} {w:World} {K:PySem.W.Frag} {mg mb:Str→Option Value} {CX:vR} {fa a:Addr} {Ts:List (Addr×Addr)} {fd:FuncData} {sp:Sp} {s₁:Shared} {vs:List Value} {ns:List Int}
  (KX:K.In s₁.heap) (hns:s₁.heap.Ns mainGlobals mg) (hb:s₁.heap.Ns builtinsNs mb) (hbb:∀x:Str,x≠"__name__"→mb x=bootBuiltins x) (hlim:s₁.heap.NoLimit) (hg:s₁.gens = #[])
  (ha:s₁.heap.get? a=some {cls:=.type "list",data:=.seq vs.toArray}) (hi:IntsAre vs ns) (hl:ns.length≤sizeLine) (hr:Room k callerA)
  (hC:∀p∈Ts,PySem.W.CodeHd s₁.heap p.1 p.2) (hT:∀p∈Ts,s₁.heap.TableAt p.1 p.2 #[]) (hKT:PySem.W.noTabs K=true) (hB:∀p∈Ts,s₁.heap.BuiltinsAt mg p.2)
  (F:∀base:Heap,K.In base→base.Ns mainGlobals mg→(∀p∈Ts,PySem.W.CodeHd base p.1 p.2∧base.BuiltinsAt mg p.2∧mainGlobals≠p.2)→FnOk prog w K mg base CX k fa fd [x] sp) (hbind:∀(s:Shared) (u:Value),BindsTo s fd ⟨[u],[]⟩ [(x,u)])
  (hsp:∀H:Hp,tE (Ts.map (·.2)) H→SqL K H a (ns.map V.int)→sp [.ref a] H (fun v _=>v=.bl true) fun _ _ _=>False)
  (hCX:∀H e s',CX [] H s₁ (fun _ _ _=>False) e s'→False) :
  codeAny (model prog w) callerA (.call (.ref fa) ⟨[.ref a],[]⟩) (fun r s'=>r=.ok (.ret (.bool true))∧OldK s₁.heap s'.heap∧s'.os=s₁.os∧AllBare s'.gens) s₁:=by
 have rv:=xN hi;have lenV:=hi.length;have inT:∀b∈Ts.map (·.2),∃p∈Ts,p.2=b:=fun b h=>List.mem_map.mp h
 have hTo:∀b∈Ts.map (·.2),s₁.heap.get? b=some {cls:=.none,data:=.fields #[]}:=fun b h=>by
  obtain ⟨p,hp,rfl⟩:=inT b h;exact (hT p hp).2
 have hKT':∀b∈Ts.map (·.2),K.lookup b=none:=fun b h=>by
  cases q:K.lookup b with
  |none=>rfl
  |some o =>
   have e:=KX b o q;rw [hTo b h] at e;cases e
   have z:=List.all_eq_true.mp hKT _ (PySem.W.mem_of_lookupK q);exact absurd (show false=true from z) Bool.false_ne_true
 have haT:a∉Ts.map (·.2):=fun z=>by rw [hTo a z] at ha;cases ha
 have hgT:mainGlobals∉Ts.map (·.2):=fun z=>by
  obtain ⟨o,es,ep,e,d,_⟩:=hns;rw [hTo _ z] at e;cases e;cases d
 have core:∀H:Hp,tE (Ts.map (·.2)) H→SqL K H a (ns.map V.int)→HOk prog w H s₁.heap→(∀b,H b≠none→b=a∨b∈Ts.map (·.2))→(H a≠none→K.lookup a=none)→
   codeAny (model prog w) callerA (.call (.ref fa) ⟨[.ref a],[]⟩) (fun r s'=>r=.ok (.ret (.bool true))∧OldK s₁.heap s'.heap∧s'.os=s₁.os∧AllBare s'.gens) s₁:=by
  intro H hO hS hok hA hK;have free:∀{b:Addr} {o:Obj},s₁.heap.get? b=some o→o≠{cls:=.type "list",data:=.seq vs.toArray}→o≠{cls:=.none,data:=.fields #[]}→H b=none:=fun {b o} e n1 n2=>by
   cases q:H b with
   |none=>rfl
   |some u =>
    rcases hA b (by rw [q];simp) with z|z
    ·subst z;rw [ha] at e;cases e;exact absurd rfl n1
    ·rw [hTo b z] at e;cases e;exact absurd rfl n2
  have nsK:∀{b:Addr} {m:Str→Option Value},s₁.heap.Ns b m→(QW s₁.heap H).Ns b m:=fun {b m} ⟨o,es,ep,e,d,r⟩=>⟨o,es,ep,iV e (free e (fun z=>by subst z;cases d) fun z=>by subst z;cases d),d,r⟩
  have hKb:K.In (QW s₁.heap H):=fun b o e=>iV (KX b o e) (by
   cases q:H b with
   |none=>rfl
   |some u =>
    rcases hA b (by rw [q];simp) with z|z
    ·subst z;rw [hK (by rw [q];simp)] at e;cases e
    ·rw [hKT' b z] at e;cases e)
  have hCb:∀p∈Ts,PySem.W.CodeHd (QW s₁.heap H) p.1 p.2:=fun p hp=>by
   obtain ⟨o,fs,file,tf,flags,tg,inF,text,tt,e1,e2,rest⟩:=hC p hp;exact ⟨o,fs,file,tf,flags,tg,inF,text,tt,iV e1 (free e1 (fun z=>by subst z;injection e2 with z;exact absurd z (by decide)) fun z=>by subst z;cases e2),e2,rest⟩
  have hBb:∀p∈Ts,(QW s₁.heap H).BuiltinsAt mg p.2:=fun p hp=>by
   obtain ⟨bm,o,b1,b2,b3,b4,e1,e2,e3,e4⟩:=hB p hp;exact ⟨bm,o,b1,b2,b3,b4,iV e1 (free e1 (fun z=>by subst z;injection e2 with z;exact absurd z (by decide)) fun z=>by subst z;cases e2),e2,e3,e4⟩
  have hM:Mod K mg (QW s₁.heap H):=⟨hKb,nsK hns,⟨mb,nsK hb,hbb⟩,let ⟨mc,h1,h2⟩:=hlim;⟨mc,nsK h1,h2⟩⟩;have e0:Env0 prog w K mg (QW s₁.heap H) callerA [] s₁ H:=⟨rfl,hM,fun b o e=>RN e,Nat.le_of_eq (N5 _ _),trivial,fun b hb=>absurd (show b∈([]:List Addr) from hb) (by simp),hok,.of_eq hg⟩;refine codeAny_mono ((F _ hKb (nsK hns) fun p hp=>⟨hCb p hp,hBb p hp,fun z=>hgT (z▸List.mem_map.mpr ⟨p,hp,rfl⟩)⟩).run callerA [] s₁ H ⟨[.ref a],[]⟩ [.ref a] [.ref a] _ _ hr e0 (hbind s₁ (.ref a)) (.cons rfl .nil) (hsp H hO hS)) fun r s' h=>?_
  cases r with
  |error e=>exact (hCX H e s' h).elim
  |ok fl =>
   cases fl with
   |next=>exact False.elim h
   |brk=>exact False.elim h
   |cont=>exact False.elim h
   |ret u =>
    obtain ⟨v,H',os,bare,un,hok',r',q⟩:=h;obtain rfl:v=.bl true:=q;obtain rfl:u=Value.bool true:=r';have nofs:∀b:Addr,b∉kN ([]:List Env):=fun b z=>absurd (show b∈([]:List Addr) from z) (by simp)
    refine ⟨rfl,⟨fun b o e=>?_,fun b o e=>un.there b o e (by simp)⟩,os,bare⟩
    by_cases z:b∈Ts.map (·.2)
    ·rw [hTo b z] at e;cases e
     obtain ⟨more,e2⟩:=un.tbls b #[] (hO.1 b z);obtain ⟨p,hp,rfl⟩:=inT b z;exact .inr (.inl ⟨(hT p hp).isCodeTable,rfl,#[],more,rfl,hok' _ _ e2⟩)
    ·refine .inl ?_
     rcases hO.2 b z with q|⟨ob,xs,q⟩
     ·exact un.keep b o e q (nofs b) (by simp)
     ·have z2:=un.frzs b ob _ q;obtain ⟨e1,_⟩:=hok b _ q;obtain ⟨e2,_⟩:=hok' b _ z2;rw [e] at e1;cases e1
      exact e2
 cases hk:K.lookup a with
 |some o =>
  have e:=KX a o hk;rw [ha] at e;cases e;refine core (fun b=>if b∈Ts.map (·.2) then some (.tbl #[]) else none) ⟨fun b h=>if_pos h,fun b n=>.inl (if_neg n)⟩ (.inr ⟨_,vs.toArray,_,hk,rfl,rfl,rfl,by rw [List.size_toArray,lenV];exact hl,by simpa using rv⟩) (fun b u z=>?_) (fun b z=>?_) fun z=>absurd (if_neg haT) z
  ·by_cases hb:b∈Ts.map (·.2)
   ·have z':=(if_pos hb).symm.trans z;cases z';exact hTo b hb
   ·have z':=(if_neg hb).symm.trans z;cases z'
  ·by_cases hb:b∈Ts.map (·.2)
   ·exact .inr hb
   ·exact absurd (if_neg hb) z
 |none =>
  refine core (fun b=>if b∈Ts.map (·.2) then some (.tbl #[]) else if b=a then some (.frz {cls:=.type "list",data:=.seq vs.toArray} (.lst (ns.map V.int))) else none) ⟨fun b h=>if_pos h,fun b n=>?_⟩ (.inl (.inr ⟨{cls:=.type "list",data:=.seq vs.toArray},(if_neg haT).trans (if_pos rfl)⟩)) (fun b u z=>?_) (fun b z=>?_) fun _=>hk
  ·by_cases hb:b=a
   ·exact .inr ⟨_,_,(if_neg n).trans (if_pos hb)⟩
   ·exact .inl ((if_neg n).trans (if_neg hb))
  ·by_cases hb:b∈Ts.map (·.2)
   ·have z':=(if_pos hb).symm.trans z;cases z';exact hTo b hb
   ·have z1:=(if_neg hb).symm.trans z
    by_cases hb':b=a
    ·have z':=(if_pos hb').symm.trans z1;cases z';subst hb';exact ⟨ha,by rw [List.length_map];exact hl,vs,_,rv,ha⟩
    ·have z':=(if_neg hb').symm.trans z1;cases z'
  ·by_cases hb:b∈Ts.map (·.2)
   ·exact .inr hb
   ·by_cases hb':b=a
    ·exact .inl hb'
    ·exact absurd ((if_neg hb).trans (if_neg hb')) z
theorem walk_ofTs {l:PySem.W.OpenLaw} {n:Nat} {q:Program} {loose:List Str} {XP:(Str→Option Value)→Heap→Prop} {YP:World→Heap→Prop} {d:DefRec} {K:Params→PySem.W.Frag} {CX:World→vR} {sp:World→Sp} (nt:List (Str×Addr×Addr))
  (hn:l.most=some n) (hn2:n≤sizeLine) (hdf:d.params.defaults=[]) (hr:Room k callerA) (hrec:∀e∈nt,((recsOf q).find? (fun r=>r.name == e.1)).isSome=true) (htab:∀P:Params,∀e∈nt,PySem.W.tabIn (K P) e.1=some e.2) (hno:∀P:Params,PySem.W.noTabs (K P)=true)
  (hY:∀(w:World) (h:Heap),YP w h→(K w.params).In h)
  (F:∀(w:World) (mg:Str→Option Value) (fa:Addr) (h:Heap),(K w.params).In h→h.Ns mainGlobals mg→mg d.name=some (.ref fa)→
   ∃fd:FuncData,(∀(s:Shared) (u:Value),BindsTo s fd ⟨[u],[]⟩ [(x,u)])∧
    ∀base:Heap,(K w.params).In base→base.Ns mainGlobals mg→(∀p∈nt.map (·.2),PySem.W.CodeHd base p.1 p.2∧base.BuiltinsAt mg p.2∧mainGlobals≠p.2)→FnOk l.prog w (K w.params) mg base (CX w) k fa fd [x] (sp w))
  (hsp:∀(w:World) (H:Hp) (a:Addr) (ns:List Int),ns.length≤n→tE ((nt.map (·.2)).map (·.2)) H→SqL (K w.params) H a (ns.map V.int)→sp w [.ref a] H (fun v _=>v=.bl true) fun _ _ _=>False)
  (hCX:∀(w:World) (H:Hp) (s:Shared) (e:Value) (s':Shared),CX w [] H s (fun _ _ _=>False) e s'→False) :
  PySem.W.WalkO q loose XP YP l.row.toRowW d [] (fun f vs=>PySem.call f vs):=by
 refine Att.attach_call hn hdf fun w s₀ s₁ mg mb fa o pm cd doc a vs ns G Y ho hd hcd hmg hobj hints hlen hg=>?_
 have KX:=hY w _ Y;obtain ⟨fd,hb,hF⟩:=F w mg fa _ KX G.T.g hmg;have hCT:∀p∈nt.map (·.2),PySem.W.CodeHd s₁.heap p.1 p.2∧s₁.heap.get? p.2=some {cls:=.none,data:=.fields #[]}:=fun p hp=>by
  obtain ⟨e,he,rfl⟩:=List.mem_map.mp hp;obtain ⟨r,hr⟩:=Option.isSome_iff_exists.mp (hrec e he);exact PySem.W.tab_of G.T KX hr (htab w.params e he)
 have hT:∀p∈nt.map (·.2),s₁.heap.TableAt p.1 p.2 #[]:=fun p hp=>by
  obtain ⟨⟨o,fs,file,tf,flags,tg,inF,text,tt,e1,e2,e3,e4,_⟩,hTo⟩:=hCT p hp;exact ⟨⟨o,fs,e1,e2,e3,e4⟩,hTo⟩
 have hB:∀p∈nt.map (·.2),s₁.heap.BuiltinsAt mg p.2:=fun p hp=>by
  have hTo:=(hCT p hp).2;obtain ⟨bm,ob,b1,b2,b3,b4,b5,b6⟩:=G.T.bmain;refine ⟨bm,ob,b1,b2,fun z=>?_,fun z=>?_,b3,b4,b5,b6⟩
  ·obtain ⟨o,es,ep,e,hd,_⟩:=G.T.g;rw [z,e] at b3;cases b3;rw [hd] at b6;cases b6
  ·rw [z,hTo] at b3;cases b3;cases b4
 exact M1 KX G.T.g G.T.b G.T.builtins G.T.nolimit hg hobj hints (Nat.le_trans hlen hn2) hr (fun p hp=>(hCT p hp).1) hT (hno w.params) hB hF hb (fun H hO hS=>hsp w H a ns hlen hO hS) fun H e s'=>hCX w H s₁ e s'
end L2
namespace L2
open PySem PySem.Spec PyProof.Rows
def lS (s:Stmt):Arguments×Expr×Scope×Pos:=match kC s with
 |[.Return (some (.Lambda a b sc p)) _]=>(a,b,sc,p)
 |_=>(kO s,.Name "" ⟨0,0,0,0⟩,jM s,⟨0,0,0,0⟩)
abbrev yM (s:Stmt):Arguments:=(lS s).1
abbrev yY (s:Stmt):Expr:=(lS s).2.1
abbrev vX (s:Stmt):Scope:=(lS s).2.2.1
abbrev vN (s:Stmt):Pos:=(lS s).2.2.2
theorem Fun.maker {P:Program} {w:World} {K:PySem.W.Frag} {mg:Str→Option Value} {base:Heap} {CX:vR} {x qual lq:Str} {st:Stmt} {f cL T:Addr} {fd:FuncData} {N ps fr:List Str} {sel:List Nat} {k:Nat} {rpos:Pos} (F:Fun K x qual st f fd) (hcL:fd.code=.ref cL) (S:FnScope N ps (jM st))
  (hC:PySem.W.CodeHd base cL T) (hB:base.BuiltinsAt mg T) (hgP:mainGlobals≠T) (cl:Nat→List (Str×Addr)) (hbd:kC st=[.Return (some (.Lambda (yM st) (yY st) (vX st) (vN st))) rpos])
  (hdf:∀n,defaultsOf (yM st) (envOfC qual (jM st) n f (.ref cL))=([],[])) (hcl:∀n,closureFor (vX st) (envOfC qual (jM st) n f (.ref cL))=pure (cl n))
  (hfr:∀n,(cl n).map (·.1)=fr) (hone:∀n,((cl n).map (·.2)).Nodup) (hlen:∀n,(cl n).length=sel.length)
  (hsel:∀(n i:Nat) (x:Str) (c:Addr),(cl n)[i]?=some (x,c)→∃j,sel[i]?=some j∧j<ps.length∧N[j]?=some x∧(jM st).names.lookup x=some .cell∧(cellsFrom (n+1) (jM st).names []).lookup x=some c)
  (hq:qual++".<locals>."++"<lambda>"=lq):FnOk P w K mg base CX (k+1) f fd ps (dC T ps.length (vN st) lq (yM st) (yY st) (vX st) fr sel):=by
 obtain ⟨oc,od,kV,doc,pm,an,cdv,ct,osl,rfl,lk,hcd⟩:=F.ex;obtain rfl:cdv=.ref cL:=hcL;rw [hbd] at lk ⊢;exact O5 cl lk hcd S hC hgP hB hdf hcl hfr hone hlen hsel hq
variable {P:List Value→Prop}
theorem VG (h:P []):∀us:List Value,us.length=0→P us
 |[],_=>h
theorem fU (h:∀a0,P [a0]) (us:List Value) (hl:us.length=1):P us:=by
 cases us with
 |nil=>cases hl
 |cons a us=>exact VG (P:=fun l=>P (a::l)) (h a) us (Nat.succ.inj hl)
theorem fT (h:∀a0 a1,P [a0,a1]) (us:List Value) (hl:us.length=2):P us:=by
 cases us with
 |nil=>cases hl
 |cons a us=>exact fU (P:=fun l=>P (a::l)) (fun a1=>h a a1) us (Nat.succ.inj hl)
theorem mE (h:∀a0 a1 a2,P [a0,a1,a2]) (us:List Value) (hl:us.length=3):P us:=by
 cases us with
 |nil=>cases hl
 |cons a us=>exact fT (P:=fun l=>P (a::l)) (fun a1 a2=>h a a1 a2) us (Nat.succ.inj hl)
theorem uJ (h:∀a0 a1 a2 a3,P [a0,a1,a2,a3]) (us:List Value) (hl:us.length=4):P us:=by
 cases us with
 |nil=>cases hl
 |cons a us=>exact mE (P:=fun l=>P (a::l)) (fun a1 a2 a3=>h a a1 a2 a3) us (Nat.succ.inj hl)
theorem uI (h:∀a0 a1 a2 a3 a4,P [a0,a1,a2,a3,a4]) (us:List Value) (hl:us.length=5):P us:=by
 cases us with
 |nil=>cases hl
 |cons a us=>exact uJ (P:=fun l=>P (a::l)) (fun a1 a2 a3 a4=>h a a1 a2 a3 a4) us (Nat.succ.inj hl)
theorem uH (h:∀a0 a1 a2 a3 a4 a5,P [a0,a1,a2,a3,a4,a5]) (us:List Value) (hl:us.length=6):P us:=by
 cases us with
 |nil=>cases hl
 |cons a us=>exact uI (P:=fun l=>P (a::l)) (fun a1 a2 a3 a4 a5=>h a a1 a2 a3 a4 a5) us (Nat.succ.inj hl)
theorem VF (h:∀a0 a1 a2 a3 a4 a5 a6,P [a0,a1,a2,a3,a4,a5,a6]) (us:List Value) (hl:us.length=7):P us:=by
 cases us with
 |nil=>cases hl
 |cons a us=>exact uH (P:=fun l=>P (a::l)) (fun a1 a2 a3 a4 a5 a6=>h a a1 a2 a3 a4 a5 a6) us (Nat.succ.inj hl)
end L2
namespace L2
open PySem PySem.Spec PyProof.Rows
section
variable {CX:vR} {P:Program} {w:World} {K:PySem.W.Frag} {mg:Str→Option Value} {base:Heap} {N fr:List Str} {x:Str} {b:Bool} {qual:Str} {params:Arguments} {body:List Stmt} {scope:Scope} {f:Addr} {cdv:Value} {cl:List (Str×Addr)} {A:Around} {outer:List Env} {s:Shared} {H:Hp} {E:XK} {Q:VK} {u:Value} {v:V} {fvs:List V} {k:Nat} {args:Args} {fd:FuncData}
theorem CloAt.cellsAt (C:CloAt H f qual params body scope cl fvs cdv fd):CellsAt H cl fvs:=⟨C.once,C.len,C.cell⟩
theorem PM (S:LamScope b N x fr scope) (hr:Room (k+1) A) (e0:Env0 P w K mg base A outer s H) (r:RelV v u) (C:CloAt H f qual params body scope cl fvs cdv fd) (hcl:cl.map (·.1)=fr) (hb:bindArgs fd args=pure [(x,u)])
  (hbody:Room k (A.deeper (PySem.W.envX qual scope s.heap.objs.size f cdv (qU b x s.heap.objs.size cl)))→
   ∃t,PSs (bQ CX P w K mg base N qual scope f cdv (qU b x s.heap.objs.size cl) A outer s H E) body t∧t {nx:=fun _ H'=>(∀c∈cl.map (·.2),H' c=none)→Q .non (vB H' H (cl.map (·.2))),rt:=fun v H'=>(∀c∈cl.map (·.2),H' c=none)→Q v (vB H' H (cl.map (·.2)))} (start N (v::fvs)) (kW H (cl.map (·.2)))) :
  codeAny (model P w) A (.call (.ref f) args) (CR CX outer P w H s Q E) s:=by
 obtain ⟨fo,name,doc,pm,an,ct,hf,hd,rfl⟩:=C.fn;have hcode:s.heap.CodeRec cdv qual:=by
  obtain ⟨c,oc,vs',t,e,e1,e2,e3⟩:=C.code;exact ⟨c,oc,vs',t,e,FnO.get e0.hok e1,e2,e3⟩
 have lim:s.heap.NoLimit:=e0.mod.nolimit.keeps fun b o e=>(e0.bs b o e).1
 obtain ⟨t,ht,hq⟩:=hbody (hr.deeper _);have ndF:(x::fr).Nodup:=by rw [← S.pre];exact S.nd.sublist (List.take_sublist _ _)
 have ndC:(cl.map (·.1)).Nodup:=by rw [hcl];exact (List.nodup_cons.mp ndF).2
 have hdel:kW H ((qU b x s.heap.objs.size cl).map (·.2))=kW H (cl.map (·.2)):=by
  unfold qU;cases b with
  |true=>exact C8 (e0.hok.fresh (Nat.le_succ _))
  |false=>rfl
 have hlook:∀c∈cl.map (·.2),∃y,(qU b x s.heap.objs.size cl).lookup y=some c:=fun c hc=>by
  obtain ⟨⟨y,c'⟩,hm,rfl⟩:=List.mem_map.mp hc;have h1:=lookup_of_mem_nodup ndC hm;refine ⟨y,?_⟩;unfold qU;cases b with
  |true =>
   have:(y == x)=false:=beq_eq_false_iff_ne.mpr fun z=>(List.nodup_cons.mp ndF).1 (by rw [← hcl,← z];exact List.mem_map.mpr ⟨_,hm,rfl⟩)
   show List.lookup y ((x,_)::cl)=_;rw [List.lookup_cons,this];exact h1
  |false=>exact h1
 have fin:∀{h1:Heap} {tk:Nat} {m:Str→Option Value},h1.Ns s.heap.objs.size m→(b=false→m x=some u)→(b=true→h1.IsCell (s.heap.objs.size+1) (some u))→(∀b o,s.heap.get? b=some o→h1.get? b=some o)→
   codeAny (model P w) A (.func body (PySem.W.envX qual scope s.heap.objs.size f cdv (qU b x s.heap.objs.size cl))) (CR CX outer P w H s Q E) {s with heap:=h1,toks:=tk}:=fun {h1 tk m} hns hm hC hk=>by
  have I:=C0 (CX:=CX) (qual:=qual) (f:=f) (cdv:=cdv) (E:=E) (tk:=tk) S hr.hd e0 r C.cellsAt hcl hns hm hC hk;rw [← hdel] at hq;refine codeAny_func (wpAny_mono (ht [] _ _ _ _ I hq) (fun fl s' hs=>?_) fun e s' hs=>hs);have fin2:∀{σ':St} {H':Hp} {v:V} {u:Value},Inv (bQ CX P w K mg base N qual scope f cdv (qU b x s.heap.objs.size cl) A outer s H E) [] σ' H' s'→RelV v u→((∀c∈cl.map (·.2),H' c=none)→Q v (vB H' H (cl.map (·.2))))→CE outer P w H s Q u s':=fun {σ' H' v u} J rv q=>by
   have hn:∀c∈cl.map (·.2),H' c=none:=fun c hc=>by
    obtain ⟨y,hy⟩:=hlook c hc;exact J.freeC y c hy
   have un:Un (kN outer) [] (kW H (cl.map (·.2))) H' s.heap s'.heap:=by rw [← hdel];exact J.base
   refine ⟨v,_,J.os,J.bare,Un.unhide un C.cells,HOk.unhide J.hok hn fun c hc=>?_,rv,q hn⟩;obtain ⟨o,e⟩:=C.cells c hc;refine ⟨o,e,un.keep c o (FnO.get e0.hok e) (Q2 hc) (fun hin=>?_) (by intro z;cases z)⟩;have:=e0.frf c hin;rw [e] at this;cases this
  cases fl with
  |ret u =>
   obtain ⟨v,σ',H',J,rv,q⟩:=hs;exact fin2 J rv q
  |next =>
   obtain ⟨σ',H',J,q⟩:=hs;exact fin2 (v:=V.non) (u:=Value.none) J rfl q
  |brk =>
   obtain ⟨_,_,_,q⟩:=hs;exact False.elim q
  |cont =>
   obtain ⟨_,_,_,q⟩:=hs;exact False.elim q
 refine codeAny_call_function hr.depth (FnO.get e0.hok hf) hd S.co S.gen rfl hcode ?_;rw [hb];refine wpAny_pure ?_;have hnoc:=S.noc;have hpar:=S.par;cases b with
 |true =>
  obtain ⟨rest,e1,e2⟩:=hnoc;refine EE e1 e2 S.kind fun h1 hns hc hk=>⟨lim.keeps hk,?_⟩
  exact fin (tk:=s.toks) hns (fun z=>nomatch z) (fun _=>hc) hk
 |false =>
  refine wpAny_newFunctionEnv hnoc (fun y hy=>by cases List.mem_singleton.mp hy;exact hpar) (fun h1 hns hsb=>⟨lim.fresh _ hsb,?_⟩) S.kind;refine fin hns (fun _=>?_) (fun z=>nomatch z) fun b o e=>hsb.extBut b o (Nat.ne_of_lt (Heap.lt_size e)) (Heap.get?_push_of_some _ e)
  show List.lookup x [(x,u)]=some u;rw [List.lookup_cons,beq_self_eq_true]
end
theorem C5 {CX:vR} {P:Program} {w:World} {K:PySem.W.Frag} {mg:Str→Option Value} {base:Heap} {b:Bool} {N fr:List Str} {x qual:Str} {params:Arguments} {body:List Stmt} {scope:Scope} {k:Nat} {sp:List Addr→List V→Sp} (S:LamScope b N x fr scope)
  (hb:∀(name:Str) (cl:List (Str×Addr)) (doc pm:Value) (an:Option Addr) (cdv ct u:Value),bindArgs (PySem.W.fnX name qual params body scope cl .none .none doc pm an cdv ct) ⟨[u],[]⟩=pure [(x,u)])
  (hbody:∀(A:Around) (outer:List Env) (s:Shared) (H:Hp) (f:Addr) (cdv:Value) (cl:List (Str×Addr)) (fvs:List V) (v:V) (Q:VK) (E:XK),cl.map (·.1)=fr→Room k (A.deeper (PySem.W.envX qual scope s.heap.objs.size f cdv (qU b x s.heap.objs.size cl)))→ZY H (cl.map (·.2))→sp (cl.map (·.2)) fvs [v] H Q E→
   ∃t,PSs (bQ CX P w K mg base N qual scope f cdv (qU b x s.heap.objs.size cl) A outer s H E) body t∧t {nx:=fun _ H'=>(∀c∈cl.map (·.2),H' c=none)→Q .non (vB H' H (cl.map (·.2))),rt:=fun v H'=>(∀c∈cl.map (·.2),H' c=none)→Q v (vB H' H (cl.map (·.2)))} (start N (v::fvs)) (kW H (cl.map (·.2)))) :
  FnV P w K mg base CX (k+1) (yC qual params body scope [x] fr sp):=by
 refine ⟨fun f vs H Q E h=>?_,fun A outer s H f us vs Q E hr e0 r h=>?_⟩
 ·obtain ⟨_,cl,fvs,cdv,fd,C,_⟩:=h;obtain ⟨fo,_,_,_,_,_,h1,h2,_⟩:=C.fn;exact ⟨fo,fd,h1,h2⟩
 ·obtain ⟨hl,cl,fvs,cdv,fd,C,hcl,hs⟩:=h;cases r with
  |nil=>cases hl
  |cons rv r =>
   cases r with
   |cons _ _=>cases hl
   |nil =>
    obtain ⟨fo,name,doc,pm,an,ct,_,_,hfd⟩:=C.fn;refine PM S hr e0 rv C hcl ?_ fun hr'=>hbody A outer s H f cdv cl fvs _ Q E hcl hr' C.cells hs
    rw [hfd];exact hb name cl doc pm an cdv ct _
section
variable {X:Cx}
def UZ (K:PySem.W.Frag):R2:=fun x y H Q=>∃(a b:Addr) (xs:List V),x=.ref a∧y=.ref b∧SqL K H a xs∧SqL K H b xs∧(∀z∈xs,∃c,z=.ref c)∧Q (.bl false) H
theorem SV (hu:X.A.units<cLine):qZ X (compareOp .NotEq) (UZ X.K):=by
  intro pins s σ H x y v u Q I rx ry h;obtain ⟨a,b,xs,rfl,rfl,ha,hb,hk,q⟩:=h;cases rx;cases ry;obtain ⟨its,r,pl,hz⟩:=I.list ha;obtain ⟨its2,r2,pl2,hz2⟩:=I.list hb;have hl:=r.length;have hl2:=r2.length;refine SeqAt.RcNeAt.lists (e:=fun _=>true) pl.isList pl2.isList (by rw [List.size_toArray,List.size_toArray,← hl,← hl2]) hu (fun j h1 h2=>?_) X.prog X.w X.xe _ ⟨.bl _,H,I,rfl,?_⟩
  · have hj:j<xs.length:=by rw [hl];simpa using h1
    obtain ⟨c,hc⟩:=hk (xs.getD j .non) (by rw [List.getD_eq_getElem?_getD,List.getElem?_eq_getElem hj];exact List.getElem_mem hj);have r1:=ZI r h1;have r3:=ZI r2 h2;rw [hc] at r1 r3;have e1:its.toArray[j]=Value.ref c:=r1;have e2:its2.toArray[j]=Value.ref c:=r3;rw [e1,e2];exact SeqAt.EqAt.same _
  · have e:(!(List.range its.toArray.size).all fun _=>true)=false:=by simp
    rw [e];exact q
end
section
variable {X:Cx} {a b c d e f g h:Expr} {ta tb tc td te tf tg th:TE}
theorem j5 (h1:PE X a ta) (h2:PE X b tb) (h3:PE X c tc) (s1:starEach [a,b,c] X.env=(false,eval a X.env)::starEach [b,c] X.env:=by rfl) (s2:starEach [b,c] X.env=(false,eval b X.env)::starEach [c] X.env:=by rfl) (s3:starEach [c] X.env=(false,eval c X.env)::starEach [] X.env:=by rfl):PA X [a,b,c] (v8 ta (v8 tb (v8 tc J4))):=jB h1 (jB h2 (jB h3 jE s3) s2) s1
theorem yD (h1:PE X a ta) (h2:PE X b tb) (h3:PE X c tc) (h4:PE X d td) (s1:starEach [a,b,c,d] X.env=(false,eval a X.env)::starEach [b,c,d] X.env:=by rfl) (s2:starEach [b,c,d] X.env=(false,eval b X.env)::starEach [c,d] X.env:=by rfl) (s3:starEach [c,d] X.env=(false,eval c X.env)::starEach [d] X.env:=by rfl) (s4:starEach [d] X.env=(false,eval d X.env)::starEach [] X.env:=by rfl):PA X [a,b,c,d] (v8 ta (v8 tb (v8 tc (v8 td J4)))):=jB h1 (jB h2 (jB h3 (jB h4 jE s4) s3) s2) s1
theorem dS (h1:PE X a ta) (h2:PE X b tb) (h3:PE X c tc) (h4:PE X d td) (h5:PE X e te) (s1:starEach [a,b,c,d,e] X.env=(false,eval a X.env)::starEach [b,c,d,e] X.env:=by rfl) (s2:starEach [b,c,d,e] X.env=(false,eval b X.env)::starEach [c,d,e] X.env:=by rfl) (s3:starEach [c,d,e] X.env=(false,eval c X.env)::starEach [d,e] X.env:=by rfl) (s4:starEach [d,e] X.env=(false,eval d X.env)::starEach [e] X.env:=by rfl) (s5:starEach [e] X.env=(false,eval e X.env)::starEach [] X.env:=by rfl):PA X [a,b,c,d,e] (v8 ta (v8 tb (v8 tc (v8 td (v8 te J4))))):=jB h1 (jB h2 (jB h3 (jB h4 (jB h5 jE s5) s4) s3) s2) s1
theorem VQ (h1:PE X a ta) (h2:PE X b tb) (h3:PE X c tc) (h4:PE X d td) (h5:PE X e te) (h6:PE X f tf) (s1:starEach [a,b,c,d,e,f] X.env=(false,eval a X.env)::starEach [b,c,d,e,f] X.env:=by rfl) (s2:starEach [b,c,d,e,f] X.env=(false,eval b X.env)::starEach [c,d,e,f] X.env:=by rfl) (s3:starEach [c,d,e,f] X.env=(false,eval c X.env)::starEach [d,e,f] X.env:=by rfl) (s4:starEach [d,e,f] X.env=(false,eval d X.env)::starEach [e,f] X.env:=by rfl) (s5:starEach [e,f] X.env=(false,eval e X.env)::starEach [f] X.env:=by rfl) (s6:starEach [f] X.env=(false,eval f X.env)::starEach [] X.env:=by rfl):PA X [a,b,c,d,e,f] (v8 ta (v8 tb (v8 tc (v8 td (v8 te (v8 tf J4)))))):=jB h1 (jB h2 (jB h3 (jB h4 (jB h5 (jB h6 jE s6) s5) s4) s3) s2) s1
theorem jX (i:Nat) {x:Str} {pos pos':Pos} (hN:X.N.Nodup) (he:PE X a ta) (hi:X.N[i]?=some x:=by rfl) (hx:b7 X.env.scope x:=by first|exact .inl rfl|exact .inr rfl) (hs:swapsWith a (some (.Name x pos')) pos.line X.env=pure false:=by rfl) (hf:X.fn x=true∨X.env.scope.names.lookup x=some .local:=by first|exact .inl rfl|exact .inr rfl|assumption):PS X (.Assign [.Name x pos'] a pos) (tT ta (bP i)):=FH hN hi hx he hs hf
theorem kQ (K:PySem.W.Frag) {p pos:Pos} (hm:X.mg "len"=none) (ha:PE X a ta) (hK:X.K=K:=by rfl) (hg:Gl X "len":=by rfl) (he:starEach [a] X.env=(false,eval a X.env)::starEach [] X.env:=by rfl) (hpl:(backTo pos (starEach [] X.env)).any (·.1)=false:=by rfl):PE X (.Call (.Name "len" p) [a] [] pos) (uL (fun xs H Q=>∃p ys,xs=[.ref p]∧(SqL K H p ys∨SqT K H p ys)∧Q (.int ys.length) H) (v8 ta J4)):=y9 (LW K hK) hg hm PySem.boot_len (jB ha jE he) (he:=he) (hpl:=hpl)
theorem jO {pos:Pos} (h:PE X a ta):PSs X [.Return (some a) pos] (EW ta):=qG (FG h)
end
abbrev jT (n:Nat) (N:List Str) (st:Stmt):Prop:=FnScope N (N.take n) (jM st)
abbrev kH (K:PySem.W.Frag) (x:Str) (st:Stmt) (f:Addr) (fd:FuncData):Prop:=Fun K x x st f fd
abbrev kG (K:PySem.W.Frag) (x:Str) (st:Stmt):Prop:=∃f fd,PySem.W.nsIn K mainGlobals x=some (some (.ref f))∧Fun K x x st f fd
section
variable {P:Program} {w:World} {K:PySem.W.Frag} {mg:Str→Option Value} {base h:Heap} {x q:Str} {st:Stmt} {f:Addr} {fd:FuncData} {k:Nat} {sp:Sp} {p0 p1 p2 p3 p4 p5 p6:Str}
theorem fnT_mk {oc:Value} {od an:Option Addr} {osl:Array (Option Value)} {kV doc pm cdv ct:Value} (a:PySem.W.nsIn K mainGlobals x=some (some (.ref f))) (l:K.lookup f=some ⟨oc,od,.func (PySem.W.fnOf x x (kO st) (kC st) (jM st) .none kV doc pm an cdv ct),osl⟩) (c:PySem.W.codeIn K cdv x=true) (k:PySem.W.keepIn K (.ref f)=true):kG K x st:=⟨_,_,a,cD l c k⟩
theorem uO (X:K.In h) (G:h.Ns mainGlobals mg) (a:PySem.W.nsIn K mainGlobals x=some (some (.ref f))) (F:Fun K x q st f fd) (ok:FnOk P w K mg base jK k f fd [p0] sp) (hb:∀(kV doc pm:Value) (an:Option Addr) (cdv ct a0:Value),bindArgs (PySem.W.fnOf x q (kO st) (kC st) (jM st) .none kV doc pm an cdv ct) ⟨[a0],[]⟩=pure ([p0].zip [a0]):=by intros;rfl):Def P w K mg base k x [p0] [] sp:=bN ok (PySem.W.mg_of X G a) F.kp (F.binds fun kV doc pm an cdv ct=>fU (hb kV doc pm an cdv ct))
theorem yU (X:K.In h) (G:h.Ns mainGlobals mg) (a:PySem.W.nsIn K mainGlobals x=some (some (.ref f))) (F:Fun K x q st f fd) (ok:FnOk P w K mg base jK k f fd [p0,p1] sp) (hb:∀(kV doc pm:Value) (an:Option Addr) (cdv ct a0 a1:Value),bindArgs (PySem.W.fnOf x q (kO st) (kC st) (jM st) .none kV doc pm an cdv ct) ⟨[a0,a1],[]⟩=pure ([p0,p1].zip [a0,a1]):=by intros;rfl):Def P w K mg base k x [p0,p1] [] sp:=bN ok (PySem.W.mg_of X G a) F.kp (F.binds fun kV doc pm an cdv ct=>fT (hb kV doc pm an cdv ct))
theorem yT (X:K.In h) (G:h.Ns mainGlobals mg) (a:PySem.W.nsIn K mainGlobals x=some (some (.ref f))) (F:Fun K x q st f fd) (ok:FnOk P w K mg base jK k f fd [p0,p1,p2] sp) (hb:∀(kV doc pm:Value) (an:Option Addr) (cdv ct a0 a1 a2:Value),bindArgs (PySem.W.fnOf x q (kO st) (kC st) (jM st) .none kV doc pm an cdv ct) ⟨[a0,a1,a2],[]⟩=pure ([p0,p1,p2].zip [a0,a1,a2]):=by intros;rfl):Def P w K mg base k x [p0,p1,p2] [] sp:=bN ok (PySem.W.mg_of X G a) F.kp (F.binds fun kV doc pm an cdv ct=>mE (hb kV doc pm an cdv ct))
theorem VU (X:K.In h) (G:h.Ns mainGlobals mg) (a:PySem.W.nsIn K mainGlobals x=some (some (.ref f))) (F:Fun K x q st f fd) (ok:FnOk P w K mg base (vS P w) k f fd [p0,p1,p2] sp) (hb:∀(kV doc pm:Value) (an:Option Addr) (cdv ct a0 a1 a2:Value),bindArgs (PySem.W.fnOf x q (kO st) (kC st) (jM st) .none kV doc pm an cdv ct) ⟨[a0,a1,a2],[]⟩=pure ([p0,p1,p2].zip [a0,a1,a2]):=by intros;rfl):DefX P w K mg base k x [p0,p1,p2] [] sp:=DZ ok (PySem.W.mg_of X G a) F.kp (F.binds fun kV doc pm an cdv ct=>mE (hb kV doc pm an cdv ct))
theorem QA (X:K.In h) (G:h.Ns mainGlobals mg) (a:PySem.W.nsIn K mainGlobals x=some (some (.ref f))) (F:Fun K x q st f fd) (ok:FnOk P w K mg base jK k f fd [p0,p1,p2,p3] sp) (hb:∀(kV doc pm:Value) (an:Option Addr) (cdv ct a0 a1 a2 a3:Value),bindArgs (PySem.W.fnOf x q (kO st) (kC st) (jM st) .none kV doc pm an cdv ct) ⟨[a0,a1,a2,a3],[]⟩=pure ([p0,p1,p2,p3].zip [a0,a1,a2,a3]):=by intros;rfl):Def P w K mg base k x [p0,p1,p2,p3] [] sp:=bN ok (PySem.W.mg_of X G a) F.kp (F.binds fun kV doc pm an cdv ct=>uJ (hb kV doc pm an cdv ct))
theorem mI (X:K.In h) (G:h.Ns mainGlobals mg) (a:PySem.W.nsIn K mainGlobals x=some (some (.ref f))) (F:Fun K x q st f fd) (ok:FnOk P w K mg base (vS P w) k f fd [p0,p1,p2,p3] sp) (hb:∀(kV doc pm:Value) (an:Option Addr) (cdv ct a0 a1 a2 a3:Value),bindArgs (PySem.W.fnOf x q (kO st) (kC st) (jM st) .none kV doc pm an cdv ct) ⟨[a0,a1,a2,a3],[]⟩=pure ([p0,p1,p2,p3].zip [a0,a1,a2,a3]):=by intros;rfl):DefX P w K mg base k x [p0,p1,p2,p3] [] sp:=DZ ok (PySem.W.mg_of X G a) F.kp (F.binds fun kV doc pm an cdv ct=>uJ (hb kV doc pm an cdv ct))
theorem VW (X:K.In h) (G:h.Ns mainGlobals mg) (a:PySem.W.nsIn K mainGlobals x=some (some (.ref f))) (F:Fun K x q st f fd) (ok:FnOk P w K mg base jK k f fd [p0,p1,p2,p3,p4] sp) (hb:∀(kV doc pm:Value) (an:Option Addr) (cdv ct a0 a1 a2 a3 a4:Value),bindArgs (PySem.W.fnOf x q (kO st) (kC st) (jM st) .none kV doc pm an cdv ct) ⟨[a0,a1,a2,a3,a4],[]⟩=pure ([p0,p1,p2,p3,p4].zip [a0,a1,a2,a3,a4]):=by intros;rfl):Def P w K mg base k x [p0,p1,p2,p3,p4] [] sp:=bN ok (PySem.W.mg_of X G a) F.kp (F.binds fun kV doc pm an cdv ct=>uI (hb kV doc pm an cdv ct))
abbrev yG (K:PySem.W.Frag) (C:Addr) (x q:Str) (st:Stmt):Prop:=∃f fd,PySem.W.findIn K (.ref C) x=some (some (.ref f))∧PySem.W.isFn K (.ref f)=true∧Fun K x q st f fd
abbrev vH (K:PySem.W.Frag) (x:Str) (v:Option Value):Prop:=PySem.W.nsIn K mainGlobals x=some v
abbrev qD (K:PySem.W.Frag) (C:Addr) (x:Str) (v:Option Value):Prop:=PySem.W.findIn K (.ref C) x=some v
theorem nsP_mk {v:Option Value} (h:PySem.W.nsIn K mainGlobals x=some v):vH K x v:=h
theorem fnP_mk {C:Addr} {v:Option Value} (h:PySem.W.findIn K (.ref C) x=some v):qD K C x v:=h
theorem fnC_mk {C:Addr} {oc:Value} {od an:Option Addr} {osl:Array (Option Value)} {kV doc pm cdv ct:Value} (a:PySem.W.findIn K (.ref C) x=some (some (.ref f))) (i:PySem.W.isFn K (.ref f)=true) (l:K.lookup f=some ⟨oc,od,.func (PySem.W.fnOf x q (kO st) (kC st) (jM st) .none kV doc pm an cdv ct),osl⟩) (c:PySem.W.codeIn K cdv q=true) (k:PySem.W.keepIn K (.ref f)=true):yG K C x q st:=⟨_,_,a,i,cD l c k⟩
theorem J8 {C:Addr} (cl:Cls K C) (a:PySem.W.findIn K (.ref C) x=some (some (.ref f))) (i:PySem.W.isFn K (.ref f)=true) (F:Fun K x q st f fd) (ok:FnOk P w K mg base jK k f fd [p0] sp) (hb:∀(kV doc pm:Value) (an:Option Addr) (cdv ct a0:Value),bindArgs (PySem.W.fnOf x q (kO st) (kC st) (jM st) .none kV doc pm an cdv ct) ⟨[a0],[]⟩=pure ([p0].zip [a0]):=by intros;rfl):MeD P w K mg base k C x [p0] sp:=⟨cl,_,_,⟨a,i,F.kp⟩,ok,F.binds fun kV doc pm an cdv ct=>fU (hb kV doc pm an cdv ct)⟩
theorem dU {C:Addr} (cl:Cls K C) (a:PySem.W.findIn K (.ref C) x=some (some (.ref f))) (i:PySem.W.isFn K (.ref f)=true) (F:Fun K x q st f fd) (ok:FnOk P w K mg base jK k f fd [p0,p1] sp) (hb:∀(kV doc pm:Value) (an:Option Addr) (cdv ct a0 a1:Value),bindArgs (PySem.W.fnOf x q (kO st) (kC st) (jM st) .none kV doc pm an cdv ct) ⟨[a0,a1],[]⟩=pure ([p0,p1].zip [a0,a1]):=by intros;rfl):MeD P w K mg base k C x [p0,p1] sp:=⟨cl,_,_,⟨a,i,F.kp⟩,ok,F.binds fun kV doc pm an cdv ct=>fT (hb kV doc pm an cdv ct)⟩
theorem VR {C:Addr} (cl:Cls K C) (a:PySem.W.findIn K (.ref C) x=some (some (.ref f))) (i:PySem.W.isFn K (.ref f)=true) (F:Fun K x q st f fd) (ok:FnOk P w K mg base jK k f fd [p0,p1,p2] sp) (hb:∀(kV doc pm:Value) (an:Option Addr) (cdv ct a0 a1 a2:Value),bindArgs (PySem.W.fnOf x q (kO st) (kC st) (jM st) .none kV doc pm an cdv ct) ⟨[a0,a1,a2],[]⟩=pure ([p0,p1,p2].zip [a0,a1,a2]):=by intros;rfl):MeD P w K mg base k C x [p0,p1,p2] sp:=⟨cl,_,_,⟨a,i,F.kp⟩,ok,F.binds fun kV doc pm an cdv ct=>mE (hb kV doc pm an cdv ct)⟩
end
section
variable {X:Cx} {scope:Scope}
theorem bZ {x:Str} {iter elt:Expr} {ifs:List Expr} {p pos:Pos} {wi:TI} {tc:TT} {te:TE} (N:List Str) (is:List Nat) (S:CompScope X scope) (hi:PI X (.Name x p) iter wi) (hc:∀C s H pins fp,dW (vF X N scope C s H pins fp) ifs tc) (he:∀C s H pins fp,PE (vF X N scope C s H pins fp) elt te)
  (hnd:N.Nodup:=by decide +kernel) (hcap:Z3 X N scope (qY 1 is):=by exact cps 1 _) (h0:N[0]?=some x:=by rfl) (hl:∀C s H pins fp,List.lookup x (vF X N scope C s H pins fp).env.scope.names=some .local:=by intros;rfl) (hcalm:X.calm=true:=by rfl) (hs:∀x,foldedSetIterable iter X.env x=pure x:=by intro _;rfl):PE X (.ListComp elt [⟨.Name x p,iter,ifs,0⟩] scope pos) (tI wi (qY 1 is) (bP 0) tc te) :=
 QF N (qY 1 is) hcalm S hcap hi (fun C s H pins fp=>kF (X:=vF X N scope C s H pins fp) hnd h0 (.inl (hl C s H pins fp)) (.inr (hl C s H pins fp))) hc he hs
theorem fN {x:Str} {iter elt:Expr} {p pos:Pos} {wi:TI} {te:TE} (N:List Str) (is:List Nat) (S:CompScope X scope) (hi:PI X (.Name x p) iter wi) (he:∀C s H pins fp,PE (vF X N scope C s H pins fp) elt te)
  (hnd:N.Nodup:=by decide +kernel) (hcap:Z3 X N scope (qY 1 is):=by exact cps 1 _) (h0:N[0]?=some x:=by rfl) (hl:∀C s H pins fp,List.lookup x (vF X N scope C s H pins fp).env.scope.names=some .local:=by intros;rfl) (hcalm:X.calm=true:=by rfl) (hs:∀x,foldedSetIterable iter X.env x=pure x:=by intro _;rfl):PE X (.ListComp elt [⟨.Name x p,iter,[],0⟩] scope pos) (tI wi (qY 1 is) (bP 0) tS te) :=
 QF N (qY 1 is) hcalm S hcap hi (fun C s H pins fp=>kF (X:=vF X N scope C s H pins fp) hnd h0 (.inl (hl C s H pins fp)) (.inr (hl C s H pins fp))) (fun _ _ _ _ _=>zB) he hs
end
section
variable {X:Cx} {k:Nat} {sp:Addr→Sp} {x:Str} {p pos:Pos} {e:Expr} {es:List Expr} {t:TA} {i:Nat} {cs:List (Nat×Addr)}
end
end L2
namespace My
open PySem L2 List
theorem zz0:0≤sizeLine:=by decide
theorem zz1:1≤sizeLine:=by decide
theorem zz2:2≤sizeLine:=by decide
theorem zz3:3≤sizeLine:=by decide
theorem zz4:4≤sizeLine:=by decide
def top (i:Nat):Stmt:=PySem.Challenge.pw_lockhouse_k56_whole_look.main.body.getD i (.Pass ⟨0,0,0,0⟩)
abbrev oG:Stmt:=top 18
abbrev oC:Stmt:=top 20
abbrev nX:Stmt:=top 25
abbrev oM:Stmt:=top 24
abbrev gS:Stmt:=top 22
abbrev oK:Stmt:=top 21
abbrev oR:Stmt:=top 23
abbrev gR:Stmt:=top 60
abbrev mX:Stmt:=vM (top 61) 0
abbrev mL:Stmt:=vM (top 62) 0
abbrev nB:Stmt:=vM (top 63) 0
abbrev nI:Stmt:=vM (top 57) 0
abbrev m6:Stmt:=vM (top 61) 3
abbrev mP:Stmt:=vM (top 62) 3
abbrev nG:Stmt:=vM (top 63) 2
abbrev mY:Stmt:=vM (top 61) 4
abbrev mM:Stmt:=vM (top 62) 4
abbrev nE:Stmt:=vM (top 63) 3
abbrev mZ:Stmt:=vM (top 61) 1
abbrev mO:Stmt:=vM (top 62) 1
abbrev nF:Stmt:=vM (top 63) 1
abbrev m9:Stmt:=vM (top 61) 2
abbrev mQ:Stmt:=vM (top 62) 2
abbrev bA:Stmt:=vM (top 58) 0
abbrev mV:Stmt:=vM (top 58) 6
abbrev mW:Stmt:=vM (top 58) 7
abbrev mU:Stmt:=vM (top 58) 3
abbrev mS:Stmt:=vM (top 58) 4
abbrev mR:Stmt:=vM (top 58) 5
abbrev gE:Stmt:=vM (top 58) 8
abbrev gD:Stmt:=vM (top 58) 9
abbrev mT:Stmt:=vM (top 58) 10
abbrev gL:Stmt:=top 29
abbrev gO:Stmt:=top 30
abbrev gM:Stmt:=top 33
abbrev gJ:Stmt:=top 32
abbrev oF:Stmt:=top 31
abbrev oN:Stmt:=top 9
abbrev nZ:Stmt:=top 8
abbrev oO:Stmt:=top 15
abbrev oI:Stmt:=top 10
abbrev gP:Stmt:=top 11
abbrev cG:Stmt:=top 27
abbrev nV:Stmt:=top 12
abbrev oB:Stmt:=top 16
abbrev gQ:Stmt:=top 45
abbrev nS:Stmt:=top 44
abbrev gK:Stmt:=top 41
abbrev oE:Stmt:=top 39
abbrev nY:Stmt:=top 40
abbrev nW:Stmt:=top 38
abbrev nU:Stmt:=top 37
abbrev oP:Stmt:=top 36
abbrev oQ:Stmt:=top 35
abbrev oH:Stmt:=top 42
abbrev nQ:Stmt:=top 43
abbrev cF:Stmt:=top 46
abbrev gT:Stmt:=top 14
abbrev nR:Stmt:=top 13
abbrev kX:Stmt:=top 54
abbrev kP:Stmt:=top 53
abbrev oJ:Stmt:=top 50
abbrev n5:Stmt:=top 49
abbrev gN:Stmt:=top 48
abbrev n4:Stmt:=top 52
abbrev nJ:Stmt:=top 65
abbrev nO:Stmt:=top 66
abbrev nM:Stmt:=top 67
abbrev dX:Stmt:=top 68
abbrev dY:Stmt:=top 69
abbrev gI:Stmt:=top 70
abbrev nK:Stmt:=top 74
abbrev qP:Stmt:=EO (top 77) 4
abbrev vI:Stmt:=EO (top 77) 5
abbrev gG:Stmt:=top 73
abbrev nL:Stmt:=top 72
abbrev nP:Stmt:=top 75
abbrev gF:Stmt:=top 71
abbrev gH:Stmt:=top 76
abbrev JF:Stmt:=top 77
abbrev gB (K:W.Frag) (x q:Str) (st:Stmt) (f:Addr):Prop:=∃fd,Fun K x q st f fd
variable {K:W.Frag} {H H':Hp} {a:Addr} {xs:List V}
theorem tN (e:Same H H') (h:SqT K H a xs):SqT K H' a xs:=by
 rcases h with (h|⟨o,h⟩)|h
 ·exact .inl (.inl (e _ _ h))
 ·exact .inl (.inr ⟨o,e _ _ h⟩)
 ·exact .inr h
theorem jJ {p:Addr} (h:H p=none) (o:HO):Same H (upd H p o):=fun b u q=>by rw [jG (qV q h)];exact q
variable {n:Nat}
theorem small (h:n≤1000):n≤sizeLine:=Nat.le_of_lt (yJ h)
def Ints (K:W.Frag) (H:Hp) (a:Addr) (ws:List Int):Prop:=SqL K H a (ws.map V.int)∨SqT K H a (ws.map V.int)
theorem Ints.same {ws:List Int} (e:Same H H') (h:Ints K H a ws):Ints K H' a ws:=by
 rcases h with h|h
 ·exact .inl (e.seq h)
 ·exact .inr (tN e h)
variable {s:Nat}
theorem cZ (h:s<n):zL n (s:Int)=some s:=by
 unfold zL;rw [if_pos (by omega),if_pos (by omega)];simp
theorem zE {ws:List Int} (h:s<ws.length):vC (ws.map V.int) (s:Int)=some (.int (ws.getD s 0)):=by
 refine kZ ?_;rw [List.getElem?_map,List.getElem?_eq_getElem h,getD_eq_getElem?_getD,List.getElem?_eq_getElem h];rfl
theorem OQ {p:Addr} {ws:List Int} {Q:VK} (h:Ints K H p ws) (hs:s<ws.length) (q:Q (.int (ws.getD s 0)) H):uM K (.ref p) (.int s) H Q:=by
 rcases h with h|h
 ·exact .inl ⟨p,_,s,_,rfl,rfl,h,zE hs,q⟩
 ·exact .inr (.inl ⟨p,_,s,_,rfl,rfl,h,zE hs,q⟩)
theorem cJ (ws:List Int) (s:Nat) (z:Int):(ws.map V.int).set s (V.int z)=(ws.set s z).map V.int:=by rw [map_set]
theorem NK {a b:Int} (h:0<b):∃k:Nat,a%b=(k:Int)∧(k:Int)<b:=by
 have h1:=Int.emod_nonneg a (by omega:b≠0);have h2:=Int.emod_lt_of_pos a h;exact ⟨(a%b).toNat,by omega,by omega⟩
def pour (ws:List Int) (q:Nat×Nat×Int):List Int:=((ws.set q.1 (ws.getD q.1 0 - q.2.2))).set q.2.1 ((ws.set q.1 (ws.getD q.1 0 - q.2.2)).getD q.2.1 0+q.2.2)
theorem wL (ws:List Int) (q:Nat×Nat×Int):(pour ws q).length=ws.length:=by unfold pour;rw [length_set,length_set]
def kJ (ws:List Int) (qs:List (Nat×Nat×Int)):List Int:=qs.foldl pour ws
theorem JU (qs:List (Nat×Nat×Int)):∀ws:List Int,(kJ ws qs).length=ws.length:=by
 induction qs with
 |nil=>intro ws;rfl
 |cons q r ih=>intro ws;show (kJ (pour ws q) r).length=_;rw [ih,wL]
theorem LZ (ws:List Int) (qs:List (Nat×Nat×Int)) (q:Nat×Nat×Int):kJ ws (qs++[q])=pour (kJ ws qs) q:=by
 unfold kJ;rw [foldl_append];rfl
theorem o0 (ws:List Int) (qs:List (Nat×Nat×Int)) (i:Nat) (q:Nat×Nat×Int) (h:qs[i]?=some q):kJ ws (qs.take (i+1))=pour (kJ ws (qs.take i)) q:=by
 rw [take_add_one,h];exact LZ ..
def DE (K:W.Frag) (H:Hp) (rs:List V) (qs:List (Nat×Nat×Int)) (n:Nat):Prop :=
 rs.length=qs.length∧∀(i:Nat) (r:V),rs[i]?=some r→∃(a:Addr) (s t:Nat) (m:Int),r=.ref a∧qs[i]?=some (s,t,m)∧SqT K H a [.int s,.int t,.int m]∧s<n∧t<n
def fG (K:W.Frag):Sp:=fun vs H Q _=>∃(w p:Addr) (ws:List Int) (rs:List V) (qs:List (Nat×Nat×Int)),vs=[.ref w,.ref p]∧Ints K H w ws∧SqL K H p rs∧DE K H rs qs ws.length∧ws.length≤1000∧
 ∀(r:Addr) (H':Hp),Same H H'→H r=none→H' r=some (.tup ((kJ ws qs).map V.int))→Q (.ref r) H'
def Keep (d:Addr) (H H':Hp):Prop:=∀b o,b≠d→H b=some o→H' b=some o
theorem Keep.refl (d:Addr) (H:Hp):Keep d H H:=fun _ _ _ q=>q
variable {d:Addr}
theorem Keep.of (s:Same H H'):Keep d H H':=fun b o _ q=>s b o q
variable {H1:Hp}
theorem Keep.trans {H2:Hp} (a:Keep d H H1) (b:Keep d H1 H2):Keep d H H2:=fun c o n q=>b c o n (a c o n q)
theorem Keep.upd (k:Keep d H H') (o:HO):Keep d H (upd H' d o):=fun b u n q=>by rw [jG n];exact k b u n q
variable {ys:List V}
theorem Keep.sqt (k:Keep d H H') (hd:H d=some (.lst ys)) (h:SqT K H a xs):SqT K H' a xs:=by
 rcases h with (h|⟨o,h⟩)|h
 ·exact .inl (.inl (k _ _ (QT h hd (fun z=>nomatch z)) h))
 ·exact .inl (.inr ⟨o,k _ _ (QT h hd (fun z=>nomatch z)) h⟩)
 ·exact .inr h
def yN (n h l r:V):List (Str×V):=jW "room" r (jW "low" l (jW "high" h (jW "name" n [])))
theorem T5:¬(("name":Str)="high"):=by decide +kernel
theorem T4:¬(("name":Str)="low"):=by decide +kernel
theorem T3:¬(("name":Str)="room"):=by decide +kernel
theorem T8:¬(("high":Str)="low"):=by decide +kernel
theorem T7:¬(("high":Str)="room"):=by decide +kernel
theorem T6:¬(("low":Str)="room"):=by decide +kernel
theorem RQ (n h l r:V):(yN n h l r).lookup ("name":Str)=some n:=by
 unfold yN;rw [v7,if_neg T3,v7,if_neg T4,v7,if_neg T5,v7,if_pos rfl]
theorem RS (n h l r:V):(yN n h l r).lookup ("high":Str)=some h:=by
 unfold yN;rw [v7,if_neg T7,v7,if_neg T8,v7,if_pos rfl]
theorem SZ (n h l r:V):(yN n h l r).lookup ("low":Str)=some l:=by
 unfold yN;rw [v7,if_neg T6,v7,if_pos rfl]
theorem RP (n h l r:V):(yN n h l r).lookup ("room":Str)=some r:=by
 unfold yN;rw [v7,if_pos rfl]
theorem lR (n h l r:V) {m:Str} (h1:¬m="room") (h2:¬m="low") (h3:¬m="high") (h4:¬m="name"):(yN n h l r).lookup m=none:=by
 unfold yN;rw [v7,if_neg h1,v7,if_neg h2,v7,if_neg h3,v7,if_neg h4];rfl
def PartsAt (H:Hp) (rs:List V) (ps:List (Str×Int)):Prop:=rs.length=ps.length∧∀(i:Nat) (r:V),rs[i]?=some r→∃(a:Addr) (s:Str) (n:Int),r=.ref a∧ps[i]?=some (s,n)∧H a=some (.tup [.str s,.int n])
theorem PartsAt.nil:PartsAt H [] []:=⟨rfl,fun i r hi=>by cases hi⟩
variable {rs:List V}
theorem PartsAt.keep {ps:List (Str×Int)} (k:Keep d H H') (hd:H d=some (.lst ys)) (h:PartsAt H rs ps):PartsAt H' rs ps:=by
 refine ⟨h.1,fun i r hi=>?_⟩;obtain ⟨a,s,n,h1,h2,h3⟩:=h.2 i r hi;exact ⟨a,s,n,h1,h2,k _ _ (QT h3 hd (fun z=>nomatch z)) h3⟩
theorem PartsAt.snoc {ps:List (Str×Int)} {s:Str} {n:Int} (h:PartsAt H rs ps) (ht:H a=some (.tup [.str s,.int n])):PartsAt H (rs++[.ref a]) (ps++[(s,n)]):=by
 refine ⟨by rw [length_append,length_append,h.1];rfl,fun i r hi=>?_⟩
 by_cases hl:i<rs.length
 ·rw [List.getElem?_append_left hl] at hi;obtain ⟨b,s',n',h1,h2,h3⟩:=h.2 i r hi;exact ⟨b,s',n',h1,by rw [List.getElem?_append_left (by rw [← h.1];exact hl)];exact h2,h3⟩
 ·rw [List.getElem?_append_right (by omega)] at hi;have hz:i - rs.length=0:=by
   have:=(List.getElem?_eq_some_iff.mp hi).1;rw [length_singleton] at this;omega
  rw [hz] at hi;have e:V.ref a=r:=Option.some.inj hi;refine ⟨a,s,n,e.symm,?_,ht⟩;rw [List.getElem?_append_right (by rw [← h.1];omega),← h.1,hz];rfl
def zC (q:Str×Int):Bool := !decide (q.2=0)
def dN (K:W.Frag):Sp:=fun vs H Q _=>∃(p:Addr) (rs:List V) (ps:List (Str×Int)),vs=[.ref p]∧SqL K H p rs∧PartsAt H rs ps∧rs.length≤10∧
 ∀(r:Addr) (H':Hp) (rs':List V),Same H H'→H r=none→H' r=some (.lst rs')→PartsAt H' rs' (ps.filter zC)→Q (.ref r) H'
def dL (e:Str) (n h l r v:V):List (Str×V):=jW e v (yN n h l r)
theorem eZ (e:Str) (n h l r v:V):(dL e n h l r v).lookup e=some v:=by
 unfold dL;rw [v7,if_pos rfl]
theorem B7 {e m:Str} (ne:¬m=e) (n h l r v:V):(dL e n h l r v).lookup m=(yN n h l r).lookup m:=by
 unfold dL;rw [v7,if_neg ne]
theorem wX (n h l r:V):(yN n h l r).length<1000:=by
 have h1:=QD "high" h (jW "name" n []);have h2:=QD "low" l (jW "high" h (jW "name" n []));have h3:=QD "room" r (jW "low" l (jW "high" h (jW "name" n [])));have h4:(jW ("name":Str) n []).length=1:=rfl;unfold yN;omega
def wv (b:Bool):V:=if b then .str "up" else .str "down"
theorem TJ:¬(V.str "down"=V.str "up"):=fun h=>absurd (V.str.inj h) (by decide +kernel)
def jF (cP cB cU:Addr):Kd→Addr
 |.plain=>cP
 |.basin=>cB
 |.pump=>cU
def JZ (kd:Kd) (n h l r v:V):List (Str×V):=match kd with
 |.plain=>yN n h l r
 |.basin=>dL "side" n h l r v
 |.pump=>dL "lift" n h l r v
theorem ZQ (kd:Kd) (n h l r v:V) {m:Str} (h1:¬m="side") (h2:¬m="lift"):(JZ kd n h l r v).lookup m=(yN n h l r).lookup m:=by
 cases kd
 ·rfl
 ·exact B7 h1 _ _ _ _ _
 ·exact B7 h2 _ _ _ _ _
theorem R5 (kd:Kd) (n h l r v:V):(JZ kd n h l r v).lookup ("name":Str)=some n:=by rw [ZQ kd _ _ _ _ _ (by decide +kernel) (by decide +kernel)];exact RQ ..
theorem dB (kd:Kd) (n h l r v:V):(JZ kd n h l r v).lookup ("high":Str)=some h:=by rw [ZQ kd _ _ _ _ _ (by decide +kernel) (by decide +kernel)];exact RS ..
theorem dH (kd:Kd) (n h l r v:V):(JZ kd n h l r v).lookup ("low":Str)=some l:=by rw [ZQ kd _ _ _ _ _ (by decide +kernel) (by decide +kernel)];exact SZ ..
theorem dA (kd:Kd) (n h l r v:V):(JZ kd n h l r v).lookup ("room":Str)=some r:=by rw [ZQ kd _ _ _ _ _ (by decide +kernel) (by decide +kernel)];exact RP ..
theorem R7 (kd:Kd) (n h l r v:V):(JZ kd n h l r v).lookup ("fill_parts":Str)=none:=by rw [ZQ kd _ _ _ _ _ (by decide +kernel) (by decide +kernel)];exact lR _ _ _ _ (by decide +kernel) (by decide +kernel) (by decide +kernel) (by decide +kernel)
theorem S9 (kd:Kd) (n h l r v:V):(JZ kd n h l r v).lookup ("let_parts":Str)=none:=by rw [ZQ kd _ _ _ _ _ (by decide +kernel) (by decide +kernel)];exact lR _ _ _ _ (by decide +kernel) (by decide +kernel) (by decide +kernel) (by decide +kernel)
theorem R6 (kd:Kd) (n h l r v:V):(JZ kd n h l r v).lookup ("kind":Str)=none:=by rw [ZQ kd _ _ _ _ _ (by decide +kernel) (by decide +kernel)];exact lR _ _ _ _ (by decide +kernel) (by decide +kernel) (by decide +kernel) (by decide +kernel)
theorem PF (kd:Kd) (n h l r v:V):(JZ kd n h l r v).lookup ("extra":Str)=none:=by rw [ZQ kd _ _ _ _ _ (by decide +kernel) (by decide +kernel)];exact lR _ _ _ _ (by decide +kernel) (by decide +kernel) (by decide +kernel) (by decide +kernel)
def LockAt (cs:Kd→Addr) (H:Hp) (x:Addr) (kd:Kd) (n h l:V) (room v:Int):Prop:=∃dx:Addr,H x=some (.ins (cs kd) dx (JZ kd n h l (.int room) (.int v)))
variable {cs:Kd→Addr} {x:Addr}
theorem LockAt.same {kd:Kd} {n h l:V} {room v:Int} (e:Same H H') (a:LockAt cs H x kd n h l room v):LockAt cs H' x kd n h l room v:=by
 obtain ⟨dx,a⟩:=a;exact ⟨dx,e _ _ a⟩
def ZV (kd:Kd) (room v b:Int):List (Str×Int):=match kd with
 |.plain=>([("high",room)]:List (Str×Int)).filter zC
 |.basin=>([("basin",b),("high",room - b)]:List (Str×Int)).filter zC
 |.pump=>([("low",v),("high",room - v)]:List (Str×Int)).filter zC
def QV (kd:Kd) (room v b:Int):List (Str×Int):=match kd with
 |.basin=>([("basin",v - b),("low",room - (v - b))]:List (Str×Int)).filter zC
 |_=>([("low",room)]:List (Str×Int)).filter zC
theorem AF (kd:Kd) (room v b:Int):(ZV kd room v b).length≤2:=by
 cases kd
 ·exact Nat.le_trans (length_filter_le _ _) (by show 1≤2;decide)
 ·exact Nat.le_trans (length_filter_le _ _) (by show 2≤2;decide)
 ·exact Nat.le_trans (length_filter_le _ _) (by show 2≤2;decide)
theorem BR (kd:Kd) (room v b:Int):(QV kd room v b).length≤2:=by
 cases kd
 ·exact Nat.le_trans (length_filter_le _ _) (by show 1≤2;decide)
 ·exact Nat.le_trans (length_filter_le _ _) (by show 2≤2;decide)
 ·exact Nat.le_trans (length_filter_le _ _) (by show 1≤2;decide)
def JG (cs:Kd→Addr) (F:Kd→Int→Int→Int→List (Str×Int)) (kd:Kd):Sp:=fun vs H Q _=>∃(x:Addr) (n h l:V) (room v b:Int),vs=[.ref x,.int b]∧LockAt cs H x kd n h l room v∧
 ∀(r:Addr) (H':Hp) (rs:List V),Same H H'→H r=none→H' r=some (.lst rs)→PartsAt H' rs (F kd room v b)→Q (.ref r) H'
def P5 (cs:Kd→Addr):Sp:=fun vs H Q _=>∃(kd:Kd) (x:Addr) (n h l:V) (room v b:Int),vs=[.ref x,.int b]∧LockAt cs H x kd n h l room v∧
 ∀(r:Addr) (H':Hp) (rs:List V),Same H H'→H r=none→H' r=some (.lst rs)→PartsAt H' rs (([("low",room)]:List (Str×Int)).filter zC)→Q (.ref r) H'
def cW (cs:Kd→Addr):Sp:=fun vs H Q _=>∃(kd:Kd) (x dx:Addr) (n h l r:V),vs=[.ref x,n,h,l,r]∧H x=some (.ins (cs kd) dx [])∧∀H':Hp,Keep x H H'→H' x=some (.ins (cs kd) dx (yN n h l r))→Q .non H'
def cV (cs:Kd→Addr) (kd:Kd):Sp:=fun vs H Q _=>∃(x dx:Addr) (n h l r v:V),vs=[.ref x,n,h,l,r,v]∧H x=some (.ins (cs kd) dx [])∧∀H':Hp,Keep x H H'→H' x=some (.ins (cs kd) dx (JZ kd n h l r v))→Q .non H'
def QH (cs:Kd→Addr) (F:Kd→Int→V) (kd:Kd):Sp:=fun vs H Q _=>∃(x:Addr) (n h l:V) (room v:Int),vs=[.ref x]∧LockAt cs H x kd n h l room v∧Q (F kd v) H
def PoursS (H:Hp) (rs:List V) (ps:List (Str×Str×Int)):Prop:=rs.length=ps.length∧∀(i:Nat) (r:V),rs[i]?=some r→∃(a:Addr) (s t:Str) (n:Int),r=.ref a∧ps[i]?=some (s,t,n)∧H a=some (.tup [.str s,.str t,.int n])
theorem PoursS.nil:PoursS H [] []:=⟨rfl,fun i r hi=>by cases hi⟩
theorem PoursS.same {ps:List (Str×Str×Int)} (e:Same H H') (h:PoursS H rs ps):PoursS H' rs ps:=by
 refine ⟨h.1,fun i r hi=>?_⟩;obtain ⟨a,s,t,n,h1,h2,h3⟩:=h.2 i r hi;exact ⟨a,s,t,n,h1,h2,e _ _ h3⟩
theorem PoursS.keep {ps:List (Str×Str×Int)} (k:Keep d H H') (hd:H d=some (.lst ys)) (h:PoursS H rs ps):PoursS H' rs ps:=by
 refine ⟨h.1,fun i r hi=>?_⟩;obtain ⟨a,s,t,n,h1,h2,h3⟩:=h.2 i r hi;exact ⟨a,s,t,n,h1,h2,k _ _ (QT h3 hd (fun z=>nomatch z)) h3⟩
theorem PoursS.append {rs':List V} {ps ps':List (Str×Str×Int)} (h:PoursS H rs ps) (h':PoursS H rs' ps'):PoursS H (rs++rs') (ps++ps'):=by
 refine ⟨by rw [length_append,length_append,h.1,h'.1],fun i r hi=>?_⟩
 by_cases hl:i<rs.length
 ·rw [List.getElem?_append_left hl] at hi;obtain ⟨b,s',t',n',h1,h2,h3⟩:=h.2 i r hi;exact ⟨b,s',t',n',h1,by rw [List.getElem?_append_left (by rw [← h.1];exact hl)];exact h2,h3⟩
 ·rw [List.getElem?_append_right (by omega)] at hi;obtain ⟨b,s',t',n',h1,h2,h3⟩:=h'.2 _ r hi;exact ⟨b,s',t',n',h1,by rw [List.getElem?_append_right (by rw [← h.1];omega),← h.1];exact h2,h3⟩
theorem PoursS.one {s t:Str} {n:Int} (ht:H a=some (.tup [.str s,.str t,.int n])):PoursS H [.ref a] [(s,t,n)]:=by
 refine ⟨rfl,fun i r hi=>?_⟩;cases i with
 |zero=>exact ⟨a,s,t,n,(Option.some.inj hi).symm,rfl,ht⟩
 |succ i=>cases hi
def zS (kd:Kd) (room v b:Int):List (Str×Str×Int):=(ZV kd room v b).map fun p=>(p.1,"chamber",p.2)
def y0 (kd:Kd) (room v b:Int):List (Str×Str×Int):=(QV kd room v b).map fun p=>("chamber",p.1,p.2)
theorem eR (kd:Kd) (room v b:Int):(zS kd room v b).length≤2:=by unfold zS;rw [length_map];exact AF ..
theorem bH (kd:Kd) (room v b:Int):(y0 kd room v b).length≤2:=by unfold y0;rw [length_map];exact BR ..
def ZD (p:Str×Str×Int→Bool) (qs:List (Str×Str×Int)):List Int:=(qs.filter p).map (·.2.2)
theorem xI (p:Str×Str×Int→Bool) (qs:List (Str×Str×Int)) (i:Nat) (q:Str×Str×Int) (h:qs[i]?=some q):ZD p (qs.take (i+1))=ZD p (qs.take i)++(if p q=true then [q.2.2] else []):=by
 unfold ZD;rw [take_add_one,h];simp only [Option.toList,filter_append,map_append]
 by_cases c:p q=true
 ·rw [if_pos c];simp [c]
 ·rw [if_neg c];simp [c]
theorem AQ (p:Str×Str×Int→Bool) (qs:List (Str×Str×Int)) (i:Nat):(ZD p (qs.take i)).length≤i:=by
 unfold ZD;rw [length_map];exact Nat.le_trans (length_filter_le _ _) (length_take_le _ _)
def fW (s:Str) (q:Str×Str×Int):Bool:=decide (q.1=s)
def toS (s:Str) (q:Str×Str×Int):Bool:=decide (q.2.1=s)
def EC (s:Str) (qs:List (Str×Str×Int)):Int:=(ZD (fW s) qs).sum
def QP (b:Int) (qs:List (Str×Str×Int)):Int:=b+(ZD (toS "basin") qs).sum - EC "basin" qs
theorem BZ (s t:Str):decide (V.str s=V.str t)=decide (s=t):=decide_eq_decide.mpr ⟨V.str.inj,fun e=>by rw [e]⟩
def eS (cs:Kd→Addr) (F:Kd→Int→Int→Int→List (Str×Str×Int)):Sp:=fun vs H Q _=>∃(x:Addr) (kd:Kd) (n h l:V) (room v b:Int),vs=[.ref x,.int b]∧LockAt cs H x kd n h l room v∧
 ∀(r:Addr) (H':Hp) (rs:List V),Same H H'→H r=none→H' r=some (.lst rs)→PoursS H' rs (F kd room v b)→Q (.ref r) H'
def CI:Sp:=fun vs H Q _=>∃(s:Str) (p:Addr) (rs:List V) (qs:List (Str×Str×Int)),vs=[.str s,.ref p]∧H p=some (.lst rs)∧PoursS H rs qs∧rs.length≤999∧∀H',Same H H'→Q (.int (EC s qs)) H'
def CK:Sp:=fun vs H Q _=>∃(b:Int) (p:Addr) (rs:List V) (qs:List (Str×Str×Int)),vs=[.int b,.ref p]∧H p=some (.lst rs)∧PoursS H rs qs∧rs.length≤999∧∀H',Same H H'→Q (.int (QP b qs)) H'
def lO (kd:Kd) (room v:Int) (f:Bool) (b:Int) (w:Bool):List (Str×Str×Int):=match w,f with
 |true,true=>y0 kd room v b++zS kd room v (QP b (y0 kd room v b))
 |true,false=>zS kd room v b
 |false,true=>y0 kd room v b
 |false,false=>zS kd room v b++y0 kd room v (QP b (zS kd room v b))
theorem xJ (b:Int):QP b []=b:=by show b+0 - 0=b;omega
theorem x6 (kd:Kd) (room v:Int) (f:Bool) (b:Int) (w:Bool):(lO kd room v f b w).length≤4:=by
 have h1:=fun b=>eR kd room v b
 have h2:=fun b=>bH kd room v b
 cases w<;>cases f
 ·show (zS kd room v b++y0 kd room v (QP b (zS kd room v b))).length≤4;rw [length_append];have:=h1 b;have:=h2 (QP b (zS kd room v b));omega
 ·exact Nat.le_trans (h2 b) (by decide)
 ·exact Nat.le_trans (h1 b) (by decide)
 ·show (y0 kd room v b++zS kd room v (QP b (y0 kd room v b))).length≤4;rw [length_append];have:=h2 b;have:=h1 (QP b (y0 kd room v b));omega
def xS (cs:Kd→Addr):Sp:=fun vs H Q _=>∃(x:Addr) (kd:Kd) (n h l:V) (room v b:Int) (f w:Bool),vs=[.ref x,.bl f,.int b,wv w]∧LockAt cs H x kd n h l room v∧
 ∀(r:Addr) (H':Hp) (rs:List V),Same H H'→H r=none→H' r=some (.lst rs)→PoursS H' rs (lO kd room v f b w)→Q (.ref r) H'
variable {α:Type} {i:Nat}
theorem wD {β:Type} {f:α→β} {ps:List α} {p:α} (h:ps[i]?=some p):(ps.take (i+1)).map f=(ps.take i).map f++[f p]:=by
 rw [take_add_one,h,map_append];rfl
def ZC (c m:Int):Int:=if m - c>0 then m - c else 0
def ZM (ws:List (Int×Nat)) (i:Nat):Int:=(ws.getD i (0,0)).1
def kR (ws:List (Int×Nat)) (i:Nat):Nat:=(ws.getD i (0,0)).2
def WeirsAt (K:W.Frag) (H:Hp) (rs:List V) (ws:List (Int×Nat)) (n:Nat):Prop :=
 rs.length=ws.length∧∀(i:Nat) (r:V),rs[i]?=some r→∃(a:Addr) (c:Int) (t:Nat),r=.ref a∧ws[i]?=some (c,t)∧SqT K H a [.int c,.int t]∧t<n
def lX (R:Nat) (ws:List (Int×Nat)):Prop:=∀(i:Nat) (c:Int) (t:Nat),ws[i]?=some (c,t)→t<i∨R≤t
variable {ws:List (Int×Nat)}
theorem WeirsAt.same (e:Same H H') (h:WeirsAt K H rs ws n):WeirsAt K H' rs ws n:=by
 refine ⟨h.1,fun i r hi=>?_⟩;obtain ⟨a,c,t,h1,h2,h3,h4⟩:=h.2 i r hi;exact ⟨a,c,t,h1,h2,tN e h3,h4⟩
theorem iJ (h:WeirsAt K H rs ws n) (hi:i<ws.length):∃a,vC rs (i:Int)=some (V.ref a)∧SqT K H a [.int (ZM ws i),.int (kR ws i)]∧kR ws i<n:=by
 have hk:i<rs.length:=by rw [h.1];exact hi
 obtain ⟨a,c,t,h1,h2,h3,h4⟩:=h.2 i rs[i] (List.getElem?_eq_getElem hk);have e:ws.getD i (0,0)=(c,t):=by rw [getD_eq_getElem?_getD,h2];rfl
 refine ⟨a,kZ (by rw [List.getElem?_eq_getElem hk,h1]),?_,?_⟩
 ·unfold ZM kR;rw [e];exact h3
 ·unfold kR;rw [e];exact h4
theorem PV {R:Nat} (h:lX R ws) (hi:i<ws.length):kR ws i<i∨R≤kR ws i:=by
 have e:ws[i]?=some ((ws.getD i (0,0)).1,(ws.getD i (0,0)).2):=by rw [getD_eq_getElem?_getD,List.getElem?_eq_getElem hi];rfl
 exact h i _ _ e
def DK (K:W.Frag):Sp:=fun vs H Q _=>∃(wq wa:Addr) (rs:List V) (ws:List (Int×Nat)) (n:Nat) (ms:List Int) (at_:Nat),vs=[.ref wq,.ref wa,.int at_]∧SqL K H wq rs∧WeirsAt K H rs ws n∧Ints K H wa ms∧at_<ws.length∧at_<ms.length∧
 Q (.int (ZC (ZM ws at_) (ms.getD at_ 0))) H
def yO (t:Nat→Nat) (g:Nat→Int) (j:Nat):Nat→Int
 |0=>0
 |a+1=>yO t g j a+(if t a=j then g a else 0)
theorem wO {t:Nat→Nat} {g g':Nat→Int} {j:Nat}:∀{R:Nat},(∀a,a<R→t a=j→g a≤g' a)→yO t g j R≤yO t g' j R
 |0,_=>Int.le_refl _
 |R+1,h=>by
  show yO t g j R+_≤yO t g' j R+_;have ih:=wO (R:=R) fun a ha=>h a (by omega)
  by_cases c:t R=j
  ·rw [if_pos c,if_pos c];have:=h R (by omega) c;omega
  ·rw [if_neg c,if_neg c];omega
theorem wN (t:Nat→Nat) (j:Nat):∀R:Nat,yO t (fun _=>0) j R=0
 |0=>rfl
 |R+1=>by
  show yO t (fun _=>0) j R+_=0;rw [wN t j R]
  split<;>rfl
theorem w8 {t:Nat→Nat} {g g':Nat→Int} {i:Nat} (hg:∀a,a≠i→g' a=g a) (j:Nat):∀{R:Nat},yO t g' j R=yO t g j R+(if i<R∧t i=j then g' i - g i else 0)
 |0=>by
  show (0:Int)=0+_;rw [if_neg (by omega)];rfl
 |R+1=>by
  show yO t g' j R+(if t R=j then g' R else 0)=yO t g j R+(if t R=j then g R else 0)+(if i<R+1∧t i=j then g' i - g i else 0);rw [w8 hg j (R:=R)]
  by_cases hi:i=R
  ·subst hi
   repeat' split
   all_goals omega
  ·rw [hg R (fun e=>hi e.symm)]
   repeat' split
   all_goals omega
def fE (R:Nat) (c:Nat→Int) (t:Nat→Nat) (m:Nat→Int) (g:Nat→Int):Prop:=∀i,i<R→g i=ZC (c i) (m i+yO t g i R)
def dJ (R:Nat) (t:Nat→Nat):Prop:=∀a,a<R→t a<a∨R≤t a
theorem MS {c m m':Int} (h:m≤m'):ZC c m≤ZC c m':=by
 unfold ZC
 split<;>split<;>omega
variable {g:Nat→Int}
theorem wS {R:Nat} {c:Nat→Int} {t:Nat→Nat} {m m' g':Nat→Int} (hA:dJ R t) (hm:∀i,i<R→m i≤m' i) (h:fE R c t m g) (h':fE R c t m' g'):∀k,k≤R→∀i,R - k≤i→i<R→g i≤g' i:=by
 intro k
 induction k with
 |zero=>intro _ i h1 h2;omega
 |succ k ih =>
  intro hk i h1 h2
  by_cases e:R - k≤i
  ·exact ih (by omega) i e h2
  ·have hi:i=R - (k+1):=by omega
   rw [h i h2,h' i h2];refine MS ?_;have:=wO (t:=t) (g:=g) (g':=g') (j:=i) (R:=R) fun a ha hta=>ih (by omega) a (by have:=hA a ha;omega) ha
   have:=hm i h2;omega
theorem LY {R:Nat} {c:Nat→Int} {t:Nat→Nat} {m g':Nat→Int} (hA:dJ R t) (h:fE R c t m g) (h':fE R c t m g') (hi:i<R):g i=g' i:=by
 have h1:=wS hA (fun i _=>Int.le_refl (m i)) h h' R (Nat.le_refl _) i (by omega) hi;have h2:=wS hA (fun i _=>Int.le_refl (m i)) h' h R (Nat.le_refl _) i (by omega) hi;omega
def after (R:Nat) (t:Nat→Nat) (m g:Nat→Int) (j:Nat):Int:=m j+yO t g j R - (if j<R then g j else 0)
def ZF:List (Nat×Nat×Int)→Nat→Int
 |[],_=>0
 |q::r,j=>(if q.2.1=j then q.2.2 else 0) - (if q.1=j then q.2.2 else 0)+ZF r j
theorem eH (l:List Int) (i j:Nat) (z:Int) (h:i<l.length):(l.set i z).getD j 0=if i=j then z else l.getD j 0:=by
 rw [getD_eq_getElem?_getD,getD_eq_getElem?_getD]
 by_cases e:i=j
 ·subst e;rw [List.getElem?_set_self h,if_pos rfl];rfl
 ·rw [List.getElem?_set_ne e,if_neg e]
theorem NS (ms:List Int) (q:Nat×Nat×Int) (j:Nat) (h1:q.1<ms.length) (h2:q.2.1<ms.length):(pour ms q).getD j 0=ms.getD j 0+((if q.2.1=j then q.2.2 else 0) - (if q.1=j then q.2.2 else 0)):=by
 unfold pour;rw [eH _ _ _ _ (by rw [length_set];exact h2),eH _ _ _ _ h1,eH _ _ _ _ h1]
 by_cases a:q.2.1=j
 ·rw [if_pos a,if_pos a];rw [a]
  by_cases b:q.1=j
  ·rw [if_pos b,if_pos b];rw [b];omega
  ·rw [if_neg b,if_neg b];omega
 ·rw [if_neg a,if_neg a]
  by_cases b:q.1=j
  ·rw [if_pos b,if_pos b];rw [b];omega
  ·rw [if_neg b,if_neg b];omega
theorem o4:∀(qs:List (Nat×Nat×Int)) (ms:List Int) (j:Nat),(∀q∈qs,q.1<ms.length∧q.2.1<ms.length)→(kJ ms qs).getD j 0=ms.getD j 0+ZF qs j
 |[],ms,j,_=>by
  show ms.getD j 0=ms.getD j 0+0;omega
 |q::r,ms,j,h=>by
  show (kJ (pour ms q) r).getD j 0=_;obtain ⟨h1,h2⟩:=h q mem_cons_self;rw [o4 r (pour ms q) j (fun x hx=>by rw [wL];exact h x (mem_cons_of_mem _ hx)),NS ms q j h1 h2];show _=ms.getD j 0+((if q.2.1=j then q.2.2 else 0) - (if q.1=j then q.2.2 else 0)+ZF r j);omega
theorem mem_downs {a:Nat}:a∈zT n↔a<n:=by
 unfold zT;rw [mem_reverse,mem_range]
theorem eI (n:Nat):(zT n).length=n:=by
 unfold zT;rw [length_reverse,length_range]
theorem AG {k:Nat} (h:k<n):(zT n)[k]?=some (n - 1 - k):=by
 unfold zT;rw [List.getElem?_reverse (by simpa using h),length_range,List.getElem?_range (by omega)]
def zN (t:Nat→Nat) (g:Nat→Int) (R:Nat):List (Nat×Nat×Int):=(zT R).map fun a=>(a,t a,g a)
theorem BX {l l':List Int} (h:l.length=l'.length) (e:∀j,j<l.length→l.getD j 0=l'.getD j 0):l=l':=by
 apply ext_getElem h;intro i h1 h2;have:=e i h1;rw [getD_eq_getElem?_getD,getD_eq_getElem?_getD,List.getElem?_eq_getElem h1,List.getElem?_eq_getElem h2] at this;exact this
def Z0 (ms:List Int) (ws:List (Int×Nat)) (gs:List Int):List Int:=kJ ms (zN (kR ws) (fun a=>gs.getD a 0) ws.length)
theorem L8 (ms:List Int) (ws:List (Int×Nat)) (gs:List Int):(Z0 ms ws gs).length=ms.length:=JU _ _
def Spl (ws:List (Int×Nat)) (ms gs:List Int):Prop:=gs.length=ws.length∧fE ws.length (ZM ws) (kR ws) (fun j=>ms.getD j 0) (fun a=>gs.getD a 0)
variable {ms gs:List Int}
theorem Spl.unique {gs':List Int} (hA:dJ ws.length (kR ws)) (h:Spl ws ms gs) (h':Spl ws ms gs'):gs=gs':=by
 refine BX (by rw [h.1,h'.1]) fun j hj=>?_
 exact LY hA h.2 h'.2 (by rw [← h.1];exact hj)
theorem pW (h:lX ws.length ws):dJ ws.length (kR ws):=fun a ha=>PV h ha
theorem xK (h:WeirsAt K H rs ws n):∀a,a<ws.length→kR ws a<n:=fun a ha=>let ⟨_,_,_,q⟩:=iJ h ha;q
structure SplInv (ws:List (Int×Nat)) (ms hs gs:List Int) (k:Nat):Prop where
 lh:hs.length=ms.length
 lg:gs.length=ws.length
 flow:∀j,j<ms.length→hs.getD j 0=ms.getD j 0+yO (kR ws) (fun a=>gs.getD a 0) j ws.length
 zero:∀a,a<ws.length - k→gs.getD a 0=0
 done:∀a,ws.length - k≤a→a<ws.length→gs.getD a 0=ZC (ZM ws a) (ms.getD a 0+yO (kR ws) (fun a=>gs.getD a 0) a ws.length)
theorem SplInv.start (ws:List (Int×Nat)) (ms:List Int):SplInv ws ms ms (List.replicate ws.length 0) 0:=by
 have ez:(fun a:Nat=>(List.replicate ws.length (0:Int)).getD a 0)=fun _=>0:=by
  funext a;rw [getD_eq_getElem?_getD,List.getElem?_replicate]
  split<;>rfl
 refine ⟨rfl,by simp,fun j _=>?_,fun a _=>congrFun ez a,fun a h1 h2=>by omega⟩;rw [ez,wN];omega
theorem SplInv.step {hs:List Int} {k:Nat} (hA:dJ ws.length (kR ws)) (hR:ws.length≤ms.length) (hk:k<ws.length) (ht:kR ws (ws.length - 1 - k)<ms.length) (h:SplInv ws ms hs gs k) :
  SplInv ws ms (hs.set (kR ws (ws.length - 1 - k)) (hs.getD (kR ws (ws.length - 1 - k)) 0+(gs.set (ws.length - 1 - k) (ZC (ZM ws (ws.length - 1 - k)) (hs.getD (ws.length - 1 - k) 0))).getD (ws.length - 1 - k) 0))
   (gs.set (ws.length - 1 - k) (ZC (ZM ws (ws.length - 1 - k)) (hs.getD (ws.length - 1 - k) 0))) (k+1):=by
 obtain ⟨i,hi⟩:∃i,i=ws.length - 1 - k:=⟨_,rfl⟩;rw [← hi] at ht ⊢;obtain ⟨lh,lg,flow,zero,done⟩:=h;have hil:i<gs.length:=by rw [lg];omega
 obtain ⟨v,hv⟩:∃v,v=ZC (ZM ws i) (hs.getD i 0):=⟨_,rfl⟩;rw [← hv];have gset:∀a,(gs.set i v).getD a 0=if i=a then v else gs.getD a 0:=fun a=>eH gs i a v hil
 have g0:gs.getD i 0=0:=zero i (by omega);have gi:(gs.set i v).getD i 0=v:=by rw [gset,if_pos rfl]
 have infl:∀j,yO (kR ws) (fun a=>(gs.set i v).getD a 0) j ws.length=yO (kR ws) (fun a=>gs.getD a 0) j ws.length+(if kR ws i=j then v else 0):=fun j=>by
  rw [w8 (g:=fun a=>gs.getD a 0) (i:=i) (fun a ha=>by show (gs.set i v).getD a 0=gs.getD a 0;rw [gset,if_neg (Ne.symm ha)]) j];show _+(if i<ws.length∧kR ws i=j then (gs.set i v).getD i 0 - gs.getD i 0 else 0)=_;rw [gi,g0];have hiw:i<ws.length:=by omega
  repeat' split
  all_goals omega
 have hti:=hA i (by omega);refine ⟨by rw [length_set,lh],by rw [length_set,lg],fun j hj=>?_,fun a ha=>?_,fun a h1 h2=>?_⟩
 ·rw [eH _ _ _ _ (by rw [lh];exact ht),infl,gi];have:=flow j hj
  by_cases e:kR ws i=j
  ·rw [if_pos e,if_pos e,e];omega
  ·rw [if_neg e,if_neg e];omega
 ·rw [gset,if_neg (by omega)];exact zero a (by omega)
 ·rw [infl]
  by_cases e:i=a
  ·subst e;rw [gi,if_neg (by omega),Int.add_zero,hv,flow i (by omega)]
  ·rw [gset,if_neg e,if_neg (by omega),Int.add_zero];exact done a (by omega) h2
theorem SplInv.spl {hs:List Int} (h:SplInv ws ms hs gs ws.length):Spl ws ms gs:=⟨h.lg,fun i hi=>h.done i (by omega) hi⟩
theorem BJ (n:Nat):(List.replicate n [V.int 0]).flatten=(List.replicate n (0:Int)).map V.int:=by
 induction n with
 |zero=>rfl
 |succ n ih =>
  rw [replicate_succ,flatten_cons,ih,replicate_succ,map_cons];rfl
theorem NA (a b:Int):decide (V.int a=V.int b)=decide (a=b):=by
 by_cases e:a=b
 ·rw [decide_eq_true e,decide_eq_true (by rw [e])]
 ·rw [decide_eq_false e,decide_eq_false (fun q=>e (V.int.inj q))]
structure Ready (K:W.Frag) (H:Hp) (wq wa:Addr) (rs:List V) (ws:List (Int×Nat)) (ms:List Int):Prop where
 w:SqL K H wq rs
 a:WeirsAt K H rs ws ms.length
 m:Ints K H wa ms
 ah:lX ws.length ws
 le:ws.length≤ms.length
 sm:ms.length≤1000
theorem Ready.same {wq wa:Addr} (e:Same H H') (h:Ready K H wq wa rs ws ms):Ready K H' wq wa rs ws ms:=⟨e.seq h.w,h.a.same e,h.m.same e,h.ah,h.le,h.sm⟩
def sM (K:W.Frag):Sp:=fun vs H Q _=>∃(wq:Addr) (rs:List V),vs=[.ref wq]∧SqL K H wq rs∧rs.length≤1000∧∀(r:Addr) (H':Hp),Same H H'→H r=none→H' r=some (.lst ((zT rs.length).map fun (i:Nat)=>V.int (i:Int)))→Q (.ref r) H'
def AY (K:W.Frag):Sp:=fun vs H Q _=>∃(wq wa:Addr) (rs:List V) (ws:List (Int×Nat)) (ms:List Int),vs=[.ref wq,.ref wa]∧Ready K H wq wa rs ws ms∧
 ∀(r:Addr) (H':Hp) (gs:List Int),Same H H'→H r=none→H' r=some (.lst (gs.map V.int))→Spl ws ms gs→Q (.ref r) H'
def xR (K:W.Frag):Sp:=fun vs H Q _=>∃(wq wa:Addr) (rs:List V) (ws:List (Int×Nat)) (ms:List Int),vs=[.ref wq,.ref wa]∧Ready K H wq wa rs ws ms∧
 ∀(r:Addr) (H':Hp) (gs:List Int),Same H H'→H r=none→H' r=some (.tup ((Z0 ms ws gs).map V.int))→Spl ws ms gs→Q (.ref r) H'
theorem BY {R:Nat} {x:V} (h:((zT R).map fun (i:Nat)=>V.int (i:Int))[i]?=some x):i<R∧x=V.int ((R - 1 - i:Nat):Int):=by
 rw [List.getElem?_map] at h
 by_cases hi:i<R
 ·rw [AG hi] at h;exact ⟨hi,(Option.some.inj h).symm⟩
 ·rw [List.getElem?_eq_none (by rw [eI];omega)] at h;cases h
theorem L6 {t:Nat→Nat} {R:Nat} (h:i<R):(zN t g R)[i]?=some (R - 1 - i,t (R - 1 - i),g (R - 1 - i)):=by
 unfold zN;rw [List.getElem?_map,AG h];rfl
def q9 (q:Nat×Nat×Int):Bool := !decide (q.2.2=0)
theorem r9 (j:Nat):∀qs:List (Nat×Nat×Int),ZF (qs.filter q9) j=ZF qs j
 |[]=>rfl
 |q::r=>by
  rw [filter_cons]
  by_cases h:q.2.2=0
  ·rw [if_neg (by unfold q9;rw [decide_eq_true h];decide)];show ZF (r.filter q9) j=(if q.2.1=j then q.2.2 else 0) - (if q.1=j then q.2.2 else 0)+ZF r j;rw [r9 j r,h]
   repeat' split
   all_goals omega
  ·rw [if_pos (by unfold q9;rw [decide_eq_false h];rfl)];show _+ZF (r.filter q9) j=_+ZF r j;rw [r9 j r]
variable {qs:List (Nat×Nat×Int)}
theorem wV (h:∀q∈qs,q.1<ms.length∧q.2.1<ms.length):kJ ms (qs.filter q9)=kJ ms qs:=by
 refine BX (by rw [JU,JU]) fun j _=>?_
 rw [o4 _ _ _ h,o4 _ _ _ (fun q hq=>h q (mem_filter.mp hq).1),r9]
theorem wT (hR:ws.length≤n) (ht:∀a,a<ws.length→kR ws a<n):∀q∈zN (kR ws) g ws.length,q.1<n∧q.2.1<n:=fun q hq=>by
 obtain ⟨a,ha,rfl⟩:=mem_map.mp hq;have:=mem_downs.mp ha;exact ⟨by show a<n;omega,ht a this⟩
def PoursH (H:Hp) (rs:List V) (qs:List (Nat×Nat×Int)) (n:Nat):Prop:=rs.length=qs.length∧∀(i:Nat) (r:V),rs[i]?=some r→∃(a:Addr) (s t:Nat) (m:Int),r=.ref a∧qs[i]?=some (s,t,m)∧H a=some (.tup [.int s,.int t,.int m])∧s<n∧t<n
theorem PoursH.nil (H:Hp) (n:Nat):PoursH H [] [] n:=⟨rfl,fun i r hi=>by cases hi⟩
theorem PoursH.pa (h:PoursH H rs qs n):DE K H rs qs n:=⟨h.1,fun i r hi=>by
 obtain ⟨a,s,t,m,h1,h2,h3,h4⟩:=h.2 i r hi;exact ⟨a,s,t,m,h1,h2,SqT.of h3,h4⟩⟩
theorem PoursH.same (h:PoursH H rs qs n) (e:Same H H'):PoursH H' rs qs n:=⟨h.1,fun i r hi=>by
 obtain ⟨a,s,t,m,h1,h2,h3,h4⟩:=h.2 i r hi;exact ⟨a,s,t,m,h1,h2,e _ _ h3,h4⟩⟩
variable {o:HO}
theorem PoursH.put (h:PoursH H rs qs n) (hd:H d=some (.lst ys)):PoursH (upd H d o) rs qs n:=⟨h.1,fun i r hi=>by
 obtain ⟨a,s,t,m,h1,h2,h3,h4⟩:=h.2 i r hi;exact ⟨a,s,t,m,h1,h2,by rw [jG (fun z=>by rw [z,hd] at h3;cases h3)];exact h3,h4⟩⟩
theorem PoursH.append {rs':List V} {qs':List (Nat×Nat×Int)} (h:PoursH H rs qs n) (h':PoursH H rs' qs' n):PoursH H (rs++rs') (qs++qs') n:=by
 refine ⟨by rw [length_append,length_append,h.1,h'.1],fun i r hi=>?_⟩
 by_cases hl:i<rs.length
 ·rw [List.getElem?_append_left hl] at hi;obtain ⟨a,s,t,m,h1,h2,h3⟩:=h.2 i r hi;exact ⟨a,s,t,m,h1,by rw [List.getElem?_append_left (by rw [← h.1];exact hl)];exact h2,h3⟩
 ·rw [List.getElem?_append_right (by omega)] at hi;obtain ⟨a,s,t,m,h1,h2,h3⟩:=h'.2 _ r hi;exact ⟨a,s,t,m,h1,by rw [List.getElem?_append_right (by rw [← h.1];omega),← h.1];exact h2,h3⟩
theorem PoursH.snoc {t:Nat} {m:Int} (h:PoursH H rs qs n) (ha:H a=some (.tup [.int s,.int t,.int m])) (hs:s<n) (ht:t<n):PoursH H (rs++[.ref a]) (qs++[(s,t,m)]) n:=h.append ⟨rfl,fun i r hi=>by
 rcases i with _|i
 ·cases hi;exact ⟨a,s,t,m,rfl,rfl,ha,hs,ht⟩
 ·cases hi⟩
def pZ (K:W.Frag):Sp:=fun vs H Q _=>∃(wq wa:Addr) (rs:List V) (ws:List (Int×Nat)) (ms:List Int),vs=[.ref wq,.ref wa]∧Ready K H wq wa rs ws ms∧
 ∀(r:Addr) (H':Hp) (gs:List Int) (ys:List V),Same H H'→H r=none→H' r=some (.lst ys)→PoursH H' ys ((zN (kR ws) (fun a=>gs.getD a 0) ws.length).filter q9) ms.length→Spl ws ms gs→Q (.ref r) H'
def rO (K:W.Frag):Sp:=fun vs H Q _=>∃(wq wa p:Addr) (rs ps:List V) (ws:List (Int×Nat)) (ms:List Int) (qs:List (Nat×Nat×Int)),vs=[.ref wq,.ref wa,.ref p]∧Ready K H wq wa rs ws ms∧H p=some (.lst ps)∧PoursH H ps qs ms.length∧ps.length≤500∧
 ∀(r:Addr) (H':Hp) (gs:List Int) (ys:List V),Same H H'→H r=none→H' r=some (.lst ys)→PoursH H' ys (qs++(zN (kR ws) (fun a=>gs.getD a 0) ws.length).filter q9) ms.length→Spl ws (kJ ms qs) gs→Q (.ref r) H'
theorem L7 (ws:List (Int×Nat)) (g:Nat→Int):((zN (kR ws) g ws.length).filter q9).length≤ws.length:=by
 refine Nat.le_trans (length_filter_le ..) ?_;unfold zN;rw [length_map,eI];exact Nat.le_refl _
structure RC where
 name:Str
 least:Int
 crest:Int
 berths:Int
 water:Int
 target:Int
def RC.good (r:RC) (n:Nat):Prop:=0≤r.least∧r.least≤r.crest∧r.crest≤999999999999∧1≤r.berths∧r.berths≤9∧0≤r.water∧r.water≤999999999999∧-1≤r.target∧r.target<(n:Int)
structure LC where
 name:Str
 high:Int
 low:Int
 room:Int
 kd:Kd
 extra:Int
def LC.good (l:LC) (n:Nat):Prop:=1≤l.high∧l.high<(n:Int)∧0≤l.low∧l.low<l.high∧1≤l.room∧l.room≤999999999999∧(l.kd=.plain→l.extra=0)∧(l.kd≠.plain→1≤l.extra∧l.extra≤l.room)
def AllAt {α:Type} (P:V→α→Prop) (vs:List V) (xs:List α):Prop:=vs.length=xs.length∧∀(i:Nat) (v:V),vs[i]?=some v→∃x,xs[i]?=some x∧P v x
theorem AllAt.nil {P:V→α→Prop}:AllAt P [] ([]:List α):=⟨rfl,fun i v h=>by cases h⟩
variable {vs:List V}
theorem AllAt.mono {P P':V→α→Prop} {xs:List α} (m:∀v x,P v x→P' v x) (h:AllAt P vs xs):AllAt P' vs xs:=⟨h.1,fun i v hv=>by obtain ⟨x,h1,h2⟩:=h.2 i v hv;exact ⟨x,h1,m v x h2⟩⟩
variable {v:V}
theorem AllAt.snoc {P:V→α→Prop} {xs:List α} {x:α} (h:AllAt P vs xs) (hv:P v x):AllAt P (vs++[v]) (xs++[x]):=by
 refine ⟨by rw [length_append,length_append,h.1];rfl,fun i w hw=>?_⟩
 by_cases hl:i<vs.length
 ·rw [List.getElem?_append_left hl] at hw;rw [List.getElem?_append_left (by rw [← h.1];exact hl)];exact h.2 i w hw
 ·rw [List.getElem?_append_right (by omega)] at hw;have e:i=vs.length:=by
   by_cases z:i - vs.length=0
   ·omega
   ·rw [List.getElem?_eq_none (by show 1≤i - vs.length;omega)] at hw;cases hw
  rw [e,Nat.sub_self] at hw;cases hw;refine ⟨x,?_,hv⟩;rw [e,h.1,List.getElem?_append_right (Nat.le_refl _),Nat.sub_self];rfl
theorem AllAt.get {P:V→α→Prop} {xs:List α} (h:AllAt P vs xs) {x:α} (hx:xs[i]?=some x):∃v,vs[i]?=some v∧P v x:=by
 have hi:i<vs.length:=by rw [h.1];exact (List.getElem?_eq_some_iff.mp hx).1
 obtain ⟨y,h1,h2⟩:=h.2 i _ (List.getElem?_eq_getElem hi);rw [hx] at h1;cases h1;exact ⟨_,List.getElem?_eq_getElem hi,h2⟩
def QAt (H:Hp) (v:V) (p:Int×Int):Prop:=∃t,v=.ref t∧H t=some (.tup [.int p.1,.int p.2])
def NAt (D:List Addr) (H:Hp) (v:V) (ps:List (Int×Int)):Prop:=∃(l:Addr) (qs:List V),v=.ref l∧H l=some (.lst qs)∧AllAt (QAt H) qs ps∧l∉D
theorem QAt.same (e:Same H H') (v:V) (r:Int×Int):QAt H v r→QAt H' v r:=fun ⟨t,h1,h2⟩=>⟨t,h1,e _ _ h2⟩
theorem QAt.put (hd:H d=some (.lst ys)) (v:V) (r:Int×Int):QAt H v r→QAt (upd H d o) v r:=fun ⟨t,h1,h2⟩=>⟨t,h1,by rw [jG (fun z=>by rw [z,hd] at h2;cases h2)];exact h2⟩
variable {D:List Addr}
theorem NAt.same (e:Same H H') (v:V) (r:List (Int×Int)):NAt D H v r→NAt D H' v r:=fun ⟨l,qs,h1,h2,h3,h4⟩=>⟨l,qs,h1,e _ _ h2,h3.mono (QAt.same e),h4⟩
theorem NAt.put (hd:H d=some (.lst ys)) (hD:d∈D) (v:V) (r:List (Int×Int)):NAt D H v r→NAt D (upd H d o) v r:=fun ⟨l,qs,h1,h2,h3,h4⟩=>⟨l,qs,h1,by rw [jG (fun z=>h4 (by rw [z];exact hD))];exact h2,h3.mono (QAt.put hd),h4⟩
theorem NAt.less {D':List Addr} (hD:∀d∈D',d∈D) (v:V) (r:List (Int×Int)):NAt D H v r→NAt D' H v r:=fun ⟨l,qs,h1,h2,h3,h4⟩=>⟨l,qs,h1,h2,h3,fun z=>h4 (hD _ z)⟩
variable {fs:List (Str×V)}
theorem Q5 {f:Str}:(jW f v fs).lookup f=some v:=by rw [v7,if_pos rfl]
theorem vY {f g:Str} (h:¬g=f):(jW f v fs).lookup g=fs.lookup g:=by rw [v7,if_neg h]
def rM (fs:List (Str×V)) (v_name v_least v_crest v_berths v_water v_target:V):Prop:=fs.lookup ("name":Str)=some v_name∧fs.lookup ("least":Str)=some v_least∧fs.lookup ("crest":Str)=some v_crest∧fs.lookup ("berths":Str)=some v_berths∧fs.lookup ("water":Str)=some v_water∧fs.lookup ("target":Str)=some v_target
theorem NE (v_name v_least v_crest v_berths v_water v_target:V):rM (jW "target" v_target (jW "water" v_water (jW "berths" v_berths (jW "crest" v_crest (jW "least" v_least (jW "name" v_name [])))))) v_name v_least v_crest v_berths v_water v_target:=by
 refine ⟨?_,?_,?_,?_,?_,?_⟩
 ·rw [vY (f:="target") (g:="name") (by decide +kernel),vY (f:="water") (g:="name") (by decide +kernel),vY (f:="berths") (g:="name") (by decide +kernel),vY (f:="crest") (g:="name") (by decide +kernel),vY (f:="least") (g:="name") (by decide +kernel),Q5]
 ·rw [vY (f:="target") (g:="least") (by decide +kernel),vY (f:="water") (g:="least") (by decide +kernel),vY (f:="berths") (g:="least") (by decide +kernel),vY (f:="crest") (g:="least") (by decide +kernel),Q5]
 ·rw [vY (f:="target") (g:="crest") (by decide +kernel),vY (f:="water") (g:="crest") (by decide +kernel),vY (f:="berths") (g:="crest") (by decide +kernel),Q5]
 ·rw [vY (f:="target") (g:="berths") (by decide +kernel),vY (f:="water") (g:="berths") (by decide +kernel),Q5]
 ·rw [vY (f:="target") (g:="water") (by decide +kernel),Q5]
 ·rw [Q5]
def o7 (c:Addr):Sp:=fun vs H Q _=>∃(x dx:Addr) (v_name v_least v_crest v_berths v_water v_target:V),vs=[.ref x,v_name,v_least,v_crest,v_berths,v_water,v_target]∧H x=some (.ins c dx [])∧∀(H':Hp) (fs:List (Str×V)),Keep x H H'→H' x=some (.ins c dx fs)→rM fs v_name v_least v_crest v_berths v_water v_target→Q .non H'
def RcAt (cR:Addr) (H:Hp) (x:Addr) (r:RC):Prop:=∃(dx:Addr) (fs:List (Str×V)),H x=some (.ins cR dx fs)∧rM fs (.str r.name) (.int r.least) (.int r.crest) (.int r.berths) (.int r.water) (.int r.target)
variable {cR:Addr}
theorem RcAt.same {r:RC} (e:Same H H') (h:RcAt cR H x r):RcAt cR H' x r:=by
 obtain ⟨dx,fs,h1,h2⟩:=h;exact ⟨dx,fs,e _ _ h1,h2⟩
theorem bB {X:Cx} (K:W.Frag) (h:X.K=K:=by rfl):yQ X (.type "list") (fun xs H Q=>∃p ys,xs=[.ref p]∧(SqL K H p ys∨SqT K H p ys)∧∀l,H l=none→Q (.ref l) (upd H l (.lst ys))):=by subst h;exact L0
variable {pos:Pos}
theorem j7 {X:Cx} (K:W.Frag) {e:Expr} {f:Str} {ta:TE} (he:PE X e ta) (hb:attributeBase e f X.env (eval e X.env)=eval e X.env) (h:X.K=K:=by rfl):PE X (.Attribute e f pos) (EX K ta f):=by subst h;exact FI he hb
def CanalFld (fs:List (Str×V)) (r l n:V):Prop:=fs.lookup ("reaches":Str)=some r∧fs.lookup ("locks":Str)=some l∧fs.lookup ("nights":Str)=some n∧∀m:Str,¬m="reaches"→¬m="locks"→¬m="nights"→fs.lookup m=none
theorem NF (r l n:V):CanalFld (jW "nights" n (jW "locks" l (jW "reaches" r []))) r l n:=by
 refine ⟨?_,?_,?_,fun m h1 h2 h3=>?_⟩
 ·rw [vY (f:="nights") (g:="reaches") (by decide +kernel),vY (f:="locks") (g:="reaches") (by decide +kernel),Q5]
 ·rw [vY (f:="nights") (g:="locks") (by decide +kernel),Q5]
 ·rw [Q5]
 ·rw [vY h3,vY h2,vY h1];rfl
theorem CanalFld.no {r l n:V} (h:CanalFld fs r l n) {m:Str} (h1:¬m="reaches") (h2:¬m="locks") (h3:¬m="nights"):fs.lookup m=none:=h.2.2.2 m h1 h2 h3
def RcO (cR:Addr) (H:Hp) (v:V) (r:RC):Prop:=∃x,v=.ref x∧RcAt cR H x r
def LkO (cs:Kd→Addr) (H:Hp) (v:V) (l:LC):Prop:=∃x,v=.ref x∧LockAt cs H x l.kd (.str l.name) (.int l.high) (.int l.low) l.room l.extra
theorem RcO.same (e:Same H H') (v:V) (r:RC):RcO cR H v r→RcO cR H' v r:=fun ⟨x,h1,h2⟩=>⟨x,h1,h2.same e⟩
theorem LkO.same (e:Same H H') (v:V) (l:LC):LkO cs H v l→LkO cs H' v l:=fun ⟨x,h1,h2⟩=>⟨x,h1,h2.same e⟩
theorem RcO.keep {y:Addr} (k:Keep y H H') (hy:H y=some (.lst ys)) (v:V) (r:RC):RcO cR H v r→RcO cR H' v r:=fun ⟨x,h1,dx,fs,h2,h3⟩=>⟨x,h1,dx,fs,k _ _ (QT h2 hy (fun z=>nomatch z)) h2,h3⟩
theorem LkO.keep {y:Addr} (k:Keep y H H') (hy:H y=some (.lst ys)) (v:V) (l:LC):LkO cs H v l→LkO cs H' v l:=fun ⟨x,h1,dx,h2⟩=>⟨x,h1,dx,k _ _ (QT h2 hy (fun z=>nomatch z)) h2⟩
variable {c:Addr}
theorem RcO.keepI {y:Addr} (k:Keep y H H') (hy:H y=some (.ins c d [])) (v:V) (r:RC):RcO cR H v r→RcO cR H' v r:=fun ⟨x,h1,dx,fs,h2,h3⟩=>⟨x,h1,dx,fs,k _ _ (fun z=>by rw [z,hy] at h2;cases h2;cases h3.1) h2,h3⟩
theorem LkO.keepI {y:Addr} (k:Keep y H H') (hy:H y=some (.ins c d [])) (v:V) (l:LC):LkO cs H v l→LkO cs H' v l:=fun ⟨x,h1,dx,h2⟩=>⟨x,h1,dx,k _ _ (fun z=>by
 rw [z,hy] at h2;have e:=R5 l.kd (.str l.name) (.int l.high) (.int l.low) (.int l.room) (.int l.extra);injection h2 with h2;injection h2 with h2 h3 h4
 rw [← h4] at e;cases e) h2⟩
theorem QAt.keep {y:Addr} (k:Keep y H H') (hy:H y=some o) (ho:∀xs,o≠.tup xs) (v:V) (p:Int×Int):QAt H v p→QAt H' v p:=fun ⟨t,h1,h2⟩=>⟨t,h1,k _ _ (fun z=>by rw [z,hy] at h2;exact ho _ (Option.some.inj h2)) h2⟩
def CnAt (cs:Kd→Addr) (cR cN:Addr) (D:List Addr) (H:Hp) (x:Addr) (R:List RC) (L:List LC) (N:List (List (Int×Int))):Prop:=∃(dx rl ll nl:Addr) (fs:List (Str×V)) (rs ls ns:List V),H x=some (.ins cN dx fs)∧CanalFld fs (.ref rl) (.ref ll) (.ref nl)∧H rl=some (.lst rs)∧H ll=some (.lst ls)∧H nl=some (.lst ns)∧AllAt (RcO cR H) rs R∧AllAt (LkO cs H) ls L∧AllAt (NAt D H) ns N∧rl∉D∧ll∉D∧nl∉D
variable {cN:Addr} {R:List RC} {L:List LC} {N:List (List (Int×Int))}
theorem CnAt.same (e:Same H H') (h:CnAt cs cR cN D H x R L N):CnAt cs cR cN D H' x R L N:=by
 obtain ⟨dx,rl,ll,nl,fs,rs,ls,ns,h1,h2,h3,h4,h5,h6,h7,h8,h9⟩:=h;exact ⟨dx,rl,ll,nl,fs,rs,ls,ns,e _ _ h1,h2,e _ _ h3,e _ _ h4,e _ _ h5,h6.mono (RcO.same e),h7.mono (LkO.same e),h8.mono (NAt.same e),h9⟩
def UJ (H:Hp) (nv:V) (N:List (List (Int×Int))):Prop:=(nv=.non∧N=[])∨∃(nl:Addr) (ns:List V),nv=.ref nl∧H nl=some (.lst ns)∧AllAt (NAt [] H) ns N∧ns.length≤100
def o8 (cs:Kd→Addr) (cR cN:Addr):Sp:=fun vs H Q _=>∃(x dx rl ll:Addr) (nv:V) (rs ls:List V) (R:List RC) (L:List LC) (N:List (List (Int×Int))),vs=[.ref x,.ref rl,.ref ll,nv]∧H x=some (.ins cN dx [])∧H rl=some (.lst rs)∧H ll=some (.lst ls)∧AllAt (RcO cR H) rs R∧AllAt (LkO cs H) ls L∧UJ H nv N∧
 ∀H',Keep x H H'→(∀D:List Addr,(∀d∈D,H d≠none)→CnAt cs cR cN D H' x R L N)→Q .non H'
def ZZ (cs:Kd→Addr) (cR cN:Addr) (F:Nat→Nat→Int):Sp:=fun vs H Q _=>∃(x:Addr) (D:List Addr) (R:List RC) (L:List LC) (N:List (List (Int×Int))),vs=[.ref x]∧CnAt cs cR cN D H x R L N∧Q (.int (F R.length L.length)) H
def bL (cs:Kd→Addr) (cR cN:Addr) (F:Nat→Nat→Int→Int):Sp:=fun vs H Q _=>∃(x:Addr) (D:List Addr) (R:List RC) (L:List LC) (N:List (List (Int×Int))) (k:Int),vs=[.ref x,.int k]∧CnAt cs cR cN D H x R L N∧Q (.int (F R.length L.length k)) H
def JI (sea:Int) (r:RC):Int×Int:=(r.crest,if r.target = -1 then sea else r.target)
def JC (n m:Nat):Int:=(n:Int)+2*(m:Int)
def fM (n m:Nat):Int:=(n:Int)+2*(m:Int)+1
def lQ (n m:Nat):Int:=(n:Int)+2*(m:Int)+1+1
def JN (n _m:Nat) (k:Int):Int:=(n:Int)+k
def y6 (n m:Nat) (k:Int):Int:=(n:Int)+(m:Int)+k
def iP (cs:Kd→Addr) (cR cN:Addr):Sp:=fun vs H Q _=>∃(x:Addr) (D:List Addr) (R:List RC) (L:List LC) (N:List (List (Int×Int))),vs=[.ref x]∧CnAt cs cR cN D H x R L N∧R.length≤100∧
 ∀(l:Addr) (ws:List V) (H':Hp),Same H H'→H l=none→H' l=some (.lst ws)→AllAt (QAt H') ws (R.map (JI (JC R.length L.length)))→Q (.ref l) H'
structure Drawn (R:List RC) (L:List LC) (N:List (List (Int×Int))):Prop where
 r8:R.length≤8
 r1:1≤R.length
 l8:L.length≤8
 n6:N.length≤6
 good:∀(i:Nat) (r:RC),R[i]?=some r→r.good i
 lock:∀(i:Nat) (l:LC),L[i]?=some l→l.good R.length
 night:∀p∈N,p.length=R.length
theorem fC {dx:Addr} {o':HO} (nx:H x=none) (ndx:H dx=none):Same H (upd (upd H dx o) x o'):=fun b u e=>by rw [jG (qV e nx),jG (qV e ndx)];exact e
theorem eU {H2:Hp} (nx:H x=none) (u:Same H H1) (k:Keep x H1 H2):Same H H2:=fun b o e=>k b o (qV e nx) (u b o e)
def tF (sea:Nat) (r:RC):Int×Nat:=(r.crest,if r.target = -1 then sea else r.target.toNat)
def qA (R:List RC) (m:Nat):List (Int×Nat):=R.map (tF (R.length+2*m))
def JX (R:List RC) (m:Nat):List Int:=R.map (·.water)++List.replicate (2*m+2) 0
theorem bC (R:List RC) (m:Nat):(qA R m).length=R.length:=length_map _
theorem eM (R:List RC) (m:Nat):(JX R m).length=R.length+2*m+2:=by
 unfold JX;rw [length_append,length_map,length_replicate];omega
def bR (R:List RC):Prop:=∀(i:Nat) (r:RC),R[i]?=some r→-1≤r.target∧r.target<(i:Int)
variable {m:Nat}
theorem iC (h:bR R):lX (qA R m).length (qA R m):=by
 intro i c t hi;rw [bC];unfold qA at hi;rw [List.getElem?_map] at hi;cases hr:R[i]? with
 |none=>rw [hr] at hi;cases hi
 |some r =>
  rw [hr] at hi;have e:tF (R.length+2*m) r=(c,t):=Option.some.inj hi;obtain ⟨h1,h2⟩:=h i r hr;unfold tF at e;have e2:(if r.target = -1 then R.length+2*m else r.target.toNat)=t:=congrArg Prod.snd e
  by_cases ht:r.target = -1
  ·rw [if_pos ht] at e2;omega
  ·rw [if_neg ht] at e2;omega
theorem AS {ws:List V} (hT:bR R) (h:AllAt (QAt H) ws (R.map (JI (JC R.length m)))):WeirsAt K H ws (qA R m) (JX R m).length:=by
 refine ⟨by rw [h.1,length_map,bC],fun i v hv=>?_⟩;obtain ⟨p,hp,t,rfl,ht⟩:=h.2 i v hv;rw [List.getElem?_map] at hp;cases hr:R[i]? with
 |none=>rw [hr] at hp;cases hp
 |some r =>
  rw [hr] at hp;cases hp;obtain ⟨h1,h2⟩:=hT i r hr;have hi:i<R.length:=(List.getElem?_eq_some_iff.mp hr).1;refine ⟨t,r.crest,if r.target = -1 then R.length+2*m else r.target.toNat,rfl,?_,?_,?_⟩
  ·unfold qA;rw [List.getElem?_map,hr];rfl
  ·have e:(((if r.target = -1 then R.length+2*m else r.target.toNat):Nat):Int)=(JI (JC R.length m) r).2:=by
    unfold JI JC
    by_cases ht:r.target = -1
    ·rw [if_pos ht,if_pos ht];omega
    ·rw [if_neg ht,if_neg ht];omega
   rw [e];exact SqT.of ht
  ·rw [eM];split<;>omega
def AX (cs:Kd→Addr) (cR cN:Addr):Sp:=fun vs H Q _=>∃(x:Addr) (D:List Addr) (R:List RC) (L:List LC) (N:List (List (Int×Int))),vs=[.ref x]∧CnAt cs cR cN D H x R L N∧R.length≤100∧L.length≤100∧bR R∧
 ∀(r:Addr) (H':Hp) (gs:List Int),Same H H'→H r=none→H' r=some (.tup ((Z0 (JX R L.length) (qA R L.length) gs).map V.int))→Spl (qA R L.length) (JX R L.length) gs→Q (.ref r) H'
def rR (cs:Kd→Addr) (cR cN:Addr):Sp:=fun vs H Q _=>∃(x wa:Addr) (D:List Addr) (R:List RC) (L:List LC) (N:List (List (Int×Int))) (ms:List Int) (k:Nat),vs=[.ref x,.ref wa,.int (k:Int)]∧CnAt cs cR cN D H x R L N∧H wa=some (.tup (ms.map V.int))∧R.length+k<ms.length∧Q (.bl (decide (0<ms.getD (R.length+k) 0))) H
theorem cK (h:Drawn R L N):bR R:=fun i r hr=>by
 obtain ⟨g1,g2,g3,g4,g5,g6,g7,g8,g9⟩:=h.good i r hr;exact ⟨g8,g9⟩
def bK (K:W.Frag):Sp:=fun vs H Q _=>∃(s:Addr) (ns:List Int) (k:Int) (m:Int),vs=[.ref s,.int k,.int m]∧SqL K H s (ns.map V.int)∧ns.length≤63∧0≤k∧k≤100000∧1≤m∧∀z:Int,0≤z→z<m→Q (.int z) H
theorem UA {k:Int} (h0:0≤k) (h1:k≤100000):0≤k*k∧k*k≤10000000000:=by
 refine ⟨Int.mul_nonneg h0 h0,?_⟩;have:=Int.mul_le_mul h1 h1 h0 (by decide:(0:Int)≤100000);omega
def BB (K:W.Frag) (cR:Addr):Sp:=fun vs H Q _=>∃(s:Addr) (ns:List Int) (k:Nat) (u:Int),vs=[.ref s,.int (k:Int),.int u]∧SqL K H s (ns.map V.int)∧ns.length≤63∧k<8∧1≤u∧u≤10000000000∧∀(x:Addr) (r:RC) (H':Hp),r.good k→Same H H'→H x=none→RcAt cR H' x r→Q (.ref x) H'
def CG (K:W.Frag) (cs:Kd→Addr):Sp:=fun vs H Q _=>∃(s:Addr) (ns:List Int) (k n:Nat) (u:Int),vs=[.ref s,.int (k:Int),.int (n:Int),.int u]∧SqL K H s (ns.map V.int)∧ns.length≤63∧k<4∧2≤n∧n≤8∧1≤u∧u≤10000000000∧∀(x:Addr) (l:LC) (H':Hp),l.good n→Same H H'→H x=none→LkO cs H' (.ref x) l→Q (.ref x) H'
theorem tD (zs:List Int) {i:Int} (h0:0≤i) (h:i<(zs.length:Int)):∃z∈zs,vC (zs.map V.int) i=some (.int z):=by
 have hl:i.toNat<zs.length:=by omega
 have:=kZ (xs:=zs.map V.int) (j:=i.toNat) (v:=.int zs[i.toNat]) (by rw [List.getElem?_map,List.getElem?_eq_getElem hl];rfl);rw [show ((i.toNat:Nat):Int)=i by omega] at this;exact ⟨_,List.getElem_mem hl,this⟩
theorem lH {a u:Int} {m:Int} (h0:0≤a) (h1:a≤m) (u0:1≤u) (u1:u≤10000000000) (hm:0≤m):0≤a*u∧a*u≤m*10000000000:=by
 refine ⟨Int.mul_nonneg h0 (by omega),?_⟩;exact Int.mul_le_mul h1 u1 (by omega) hm
def fV (b:Bool):Str:=if b then "up" else "down"
def vJ (L:List LC) (p:Nat×Bool):Int×Int:=match L[p.1]? with
 |some l=>if p.2 then (l.low,l.high) else (l.high,l.low)
 |none=>(0,0)
theorem bJ {k:Nat} {l:LC} (h:L[k]?=some l):vJ L (k,true)=(l.low,l.high):=by unfold vJ;rw [h];rfl
theorem bD {k:Nat} {l:LC} (h:L[k]?=some l):vJ L (k,false)=(l.high,l.low):=by unfold vJ;rw [h];rfl
def PAt (H:Hp) (v:V) (p:Nat×Bool):Prop:=∃t,v=.ref t∧H t=some (.tup [.int (p.1:Int),.str (fV p.2)])
theorem PAt.same (e:Same H H') (v:V) (p:Nat×Bool):PAt H v p→PAt H' v p:=fun ⟨t,h1,h2⟩=>⟨t,h1,e _ _ h2⟩
theorem PAt.put (hd:H d=some (.lst ys)) (v:V) (p:Nat×Bool):PAt H v p→PAt (upd H d o) v p:=fun ⟨t,h1,h2⟩=>⟨t,h1,by rw [jG (fun z=>by rw [z,hd] at h2;cases h2)];exact h2⟩
def vG (L:List LC) (s:Int) (ps:List (Nat×Bool)):List Int:=s::ps.map fun p=>(vJ L p).2
def Z5 (L:List LC) (s:Int) (ps:List (Nat×Bool)):Prop:=∀(j:Nat) (p:Nat×Bool),ps[j]?=some p→(vG L s ps)[j]?=some (vJ L p).1
theorem pT (L:List LC) (s:Int) (ps:List (Nat×Bool)) (p:Nat×Bool):vG L s (ps++[p])=vG L s ps++[(vJ L p).2]:=by unfold vG;rw [map_append];rfl
theorem eX (L:List LC) (s:Int) (ps:List (Nat×Bool)):(vG L s ps).length=ps.length+1:=by unfold vG;rw [length_cons,length_map]
theorem OB (L:List LC) (s:Int) (ps:List (Nat×Bool)) (i:Nat):(vG L s ps).take (i+1)=vG L s (ps.take i):=by unfold vG;rw [take_succ_cons,map_take]
variable {j:Nat}
theorem R9 {s:Int} {ps:List (Nat×Bool)} (h:j<ps.length+1):(vG L s ps)[j]?=(vG L s (ps.take j))[j]?:=by
 rw [← OB,List.getElem?_take,if_pos (by omega)]
theorem xD (d:Drawn R L N) {p:Nat×Bool} (h:p.1<L.length):∃l,L[p.1]?=some l∧l.good R.length:=⟨_,List.getElem?_eq_getElem h,d.lock _ _ (List.getElem?_eq_getElem h)⟩
def DO (cs:Kd→Addr):Sp:=fun vs H Q _=>∃(y:Addr) (l:LC) (b:Bool),vs=[.ref y,.str (fV b)]∧LkO cs H (.ref y) l∧∀(t:Addr) (H':Hp),Same H H'→H t=none→H' t=some (.tup [.int (if b then l.low else l.high),.int (if b then l.high else l.low)])→Q (.ref t) H'
theorem EF (b:Bool):decide (V.str (fV b)=V.str "up")=b:=by
 cases b
 ·exact decide_eq_false fun h=>absurd (V.str.inj h) (by decide +kernel)
 ·exact decide_eq_true rfl
theorem OV {s:Int} {ps:List (Nat×Bool)} {p:Nat×Bool} {a:Int} (h:(vG L s ps)[ps.length]?=some a):Z5 L s (ps++[p])↔Z5 L s ps∧(vJ L p).1=a:=by
 have e:∀j,j≤ps.length→(vG L s (ps++[p]))[j]?=(vG L s ps)[j]?:=fun j hj=>by
  rw [pT,List.getElem?_append_left (by rw [eX];omega)]
 constructor
 ·intro ok;refine ⟨fun j q hq=>?_,?_⟩
  ·have hj:j<ps.length:=(List.getElem?_eq_some_iff.mp hq).1;have:=ok j q (by rw [List.getElem?_append_left hj];exact hq)
   rwa [e j (by omega)] at this
  ·have:=ok ps.length p (by rw [List.getElem?_append_right (Nat.le_refl _),Nat.sub_self];rfl);rw [e _ (Nat.le_refl _),h] at this;exact (Option.some.inj this).symm
 ·rintro ⟨ok,ha⟩ j q hq
  by_cases hj:j<ps.length
  ·rw [List.getElem?_append_left hj] at hq;rw [e j (by omega)];exact ok j q hq
  ·rw [List.getElem?_append_right (by omega)] at hq;have hz:j - ps.length=0:=by
    have:=(List.getElem?_eq_some_iff.mp hq).1;rw [length_singleton] at this;omega
   rw [hz] at hq;cases hq;rw [show j=ps.length by omega,e _ (Nat.le_refl _),h,ha]
theorem M3 (zs:List Int):(zs.map V.int).all yP=true:=by
 rw [all_eq_true];intro x hx;obtain ⟨z,_,rfl⟩:=mem_map.mp hx;rfl
abbrev j4:=Int×List (Nat×Bool)
def WyAt (H:Hp) (v:V) (y:j4):Prop:=∃(t st:Addr) (us:List V),v=.ref t∧H t=some (.tup [.int y.1,.ref st])∧H st=some (.tup us)∧AllAt (PAt H) us y.2
theorem WyAt.same (e:Same H H') (v:V) (y:j4):WyAt H v y→WyAt H' v y:=fun ⟨t,st,us,h1,h2,h3,h4⟩=>⟨t,st,us,h1,e _ _ h2,e _ _ h3,h4.mono (PAt.same e)⟩
theorem WyAt.put (hd:H d=some (.lst ys)) (v:V) (y:j4):WyAt H v y→WyAt (upd H d o) v y:=fun ⟨t,st,us,h1,h2,h3,h4⟩=>⟨t,st,us,h1,by rw [jG (fun z=>by rw [z,hd] at h2;cases h2)];exact h2,by rw [jG (fun z=>by rw [z,hd] at h3;cases h3)];exact h3,h4.mono (PAt.put hd)⟩
structure WyOk (L:List LC) (y:j4):Prop where
 lt:∀p∈y.2,p.1<L.length
 ok:Z5 L y.1 y.2
 le:y.2.length≤8
def StAt (H:Hp) (t:Addr) (d:Int) (ms:List Int) (pl:List Nat):Prop:=∃wt pt:Addr,H t=some (.tup [.int d,.ref wt,.ref pt])∧H wt=some (.tup (ms.map V.int))∧H pt=some (.tup (pl.map fun (p:Nat)=>V.int (p:Int)))
variable {t:Addr} {pl:List Nat}
theorem StAt.same {d:Int} (e:Same H H') (h:StAt H t d ms pl):StAt H' t d ms pl:=by
 obtain ⟨wt,pt,h1,h2,h3⟩:=h;exact ⟨wt,pt,e _ _ h1,e _ _ h2,e _ _ h3⟩
structure Fleet (L:List LC) (ys:List j4) (pl:List Nat):Prop where
 len:pl.length=ys.length
 n10:ys.length≤10
 ok:∀y∈ys,WyOk L y
 le:∀(i:Nat) (y:j4) (p:Nat),ys[i]?=some y→pl[i]?=some p→p≤y.2.length
def EndAt (L:List LC) (r:Int):Prop:=∃p:Nat×Bool,p.1<L.length∧(vJ L p).1=r
theorem EndAt.next {p:Nat×Bool} (h:p.1<L.length):EndAt L (vJ L p).2:=by
 obtain ⟨pk,pb⟩:=p;have e:=List.getElem?_eq_getElem h;cases pb
 ·exact ⟨(pk,true),h,by rw [bJ e,bD e]⟩
 ·exact ⟨(pk,false),h,by rw [bJ e,bD e]⟩
theorem RM (L:List LC) (s:Int):Z5 L s []:=fun j p hp=>by cases hp
theorem atI_last (hn:xs.length=n+1) (h:xs[n]?=some v):vC xs (-1)=some v:=by
 have e:zL xs.length (-1)=some n:=by
  unfold zL;rw [if_neg (by decide),if_pos (by omega)]
  congr 1
  omega
 unfold vC;rw [e];exact h
def BE (K:W.Frag) (cs:Kd→Addr) (cR cN eL:Addr):Sp:=fun vs H Q E=>∃(x st:Addr) (s:Int) (us:List V) (ps:List (Nat×Bool)) (D:List Addr) (R:List RC) (L:List LC) (N:List (List (Int×Int))),vs=[.ref x,.int s,.ref st]∧CnAt cs cR cN D H x R L N∧H st=some (.tup us)∧AllAt (PAt H) us ps∧(∀p∈ps,p.1<L.length)∧ps.length≤100∧
 (Z5 L s ps→∀(r:Addr) (H':Hp),Same H H'→H r=none→H' r=some (.lst ((vG L s ps).map V.int))→Q (.ref r) H')∧(¬Z5 L s ps→∀H',Same H H'→E (.ref eL) none H')
def pN (K:W.Frag) (cs:Kd→Addr) (cR cN:Addr):Sp:=fun vs H Q _=>∃(x st:Addr) (s:Int) (us:List V) (ps:List (Nat×Bool)) (D:List Addr) (R:List RC) (L:List LC) (N:List (List (Int×Int))),vs=[.ref x,.int s,.ref st]∧CnAt cs cR cN D H x R L N∧H st=some (.tup us)∧AllAt (PAt H) us ps∧(∀p∈ps,p.1<L.length)∧ps.length≤100∧Z5 L s ps∧
 ∀(r:Addr) (H':Hp),Same H H'→H r=none→H' r=some (.lst ((vG L s ps).map V.int))→Q (.ref r) H'
theorem MY {eL:Addr}:∀vs H Q E,pN K cs cR cN vs H Q E→BE K cs cR cN eL vs H Q (fun _ _ _=>False):=by
 rintro vs H Q E ⟨x,st,s,us,ps,D,R,L,N,e,h1,h2,h3,h4,h5,h6,q⟩;exact ⟨x,st,s,us,ps,D,R,L,N,e,h1,h2,h3,h4,h5,fun _=>q,fun hno=>absurd h6 hno⟩
def StI (H:Hp) (t:Addr) (d:Int) (ms ps:List Int):Prop:=∃wt pt:Addr,H t=some (.tup [.int d,.ref wt,.ref pt])∧H wt=some (.tup (ms.map V.int))∧H pt=some (.tup (ps.map V.int))
theorem StI.same {d:Int} {ps:List Int} (e:Same H H') (h:StI H t d ms ps):StI H' t d ms ps:=by
 obtain ⟨wt,pt,h1,h2,h3⟩:=h;exact ⟨wt,pt,e _ _ h1,e _ _ h2,e _ _ h3⟩
theorem StAt.toI {d:Int} (h:StAt H t d ms pl):StI H t d ms (pl.map fun (p:Nat)=>(p:Int)):=by
 obtain ⟨wt,pt,h1,h2,h3⟩:=h;exact ⟨wt,pt,h1,h2,by rw [map_map];exact h3⟩
def dQ (ms:List Int) (W:List (Int×Int)) (r:Nat):Int:=if ms.getD r 0<(W.getD r (0,0)).2 then ms.getD r 0 else (W.getD r (0,0)).2
def bT (k:Nat) (ms:List Int) (W:List (Int×Int)) (n:Nat):List (Nat×Nat×Int):=(List.range n).map fun r=>(r,k,dQ ms W r)
def bM (k:Nat) (W:List (Int×Int)) (n:Nat):List (Nat×Nat×Int):=(List.range n).map fun r=>(k,r,(W.getD r (0,0)).1)
def Q4 (k:Nat) (ms:List Int) (W:List (Int×Int)) (n:Nat):List (Nat×Nat×Int):=bT k ms W n++bM k W n
theorem pX (k:Nat) (ms:List Int) (W:List (Int×Int)) (n:Nat):(bT k ms W n).length=n:=by unfold bT;rw [length_map,length_range]
theorem pO (k:Nat) (W:List (Int×Int)) (n:Nat):(bM k W n).length=n:=by unfold bM;rw [length_map,length_range]
theorem NL {k:Nat} {W:List (Int×Int)} (h:i<n):(bT k ms W n).take (i+1)=(bT k ms W n).take i++[(i,k,dQ ms W i)]:=by
 rw [take_add_one];unfold bT;rw [List.getElem?_map,List.getElem?_range h];rfl
theorem MP {k:Nat} {W:List (Int×Int)} (h:i<n):(bM k W n).take (i+1)=(bM k W n).take i++[(k,i,(W.getD i (0,0)).1)]:=by
 rw [take_add_one];unfold bM;rw [List.getElem?_map,List.getElem?_range h];rfl
theorem E9 {W:List (Int×Int)} {y:Int×Int} (h:W[i]?=some y):W.getD i (0,0)=y:=by rw [getD_eq_getElem?_getD,h];rfl
theorem B6 {W:List (Int×Int)} {y:Int×Int} (h:W[i]?=some y):dQ ms W i=if ms.getD i 0<y.2 then ms.getD i 0 else y.2:=by unfold dQ;rw [E9 h]
theorem OM {W:List (Int×Int)} {y:Int×Int} (h:W[i]?=some y):dQ ms W i=if y.2<ms.getD i 0 then y.2 else ms.getD i 0:=by rw [B6 h];split<;>split<;>omega
def O1 (R:List RC) (m:Nat) (ms:List Int) (W:List (Int×Int)) (gs:List Int):List (Nat×Nat×Int):=(Q4 (R.length+2*m+1) ms W R.length).filter q9++(zN (kR (qA R m)) (fun a=>gs.getD a 0) (qA R m).length).filter q9
def SX (R:List RC) (m:Nat) (ms:List Int) (W:List (Int×Int)):List Int:=kJ ms ((Q4 (R.length+2*m+1) ms W R.length).filter q9)
theorem o6 {wq wa:Addr} {ws:List V} (hT:bR R) (h:AllAt (QAt H) ws (R.map (JI (JC R.length m)))) (hwq:H wq=some (.lst ws)) (hwa:Ints K H wa ms) (hms:ms.length=R.length+2*m+2) (h1:R.length≤100) (h2:m≤100):Ready K H wq wa ws (qA R m) ms :=
 ⟨so hwq,by have:=AS (K:=K) hT h;rw [eM] at this;rw [hms];exact this,hwa,iC hT,by rw [bC];omega,by omega⟩
def BD (K:W.Frag) (cs:Kd→Addr) (cR cN:Addr):Sp:=fun vs H Q _=>∃(x t wl:Addr) (d:Int) (ms ps:List Int) (us:List V) (W:List (Int×Int)) (D:List Addr) (R:List RC) (L:List LC) (N:List (List (Int×Int))),vs=[.ref x,.ref t,.ref wl]∧CnAt cs cR cN D H x R L N∧StI H t d ms ps∧H wl=some (.lst us)∧AllAt (QAt H) us W∧W.length=R.length∧ms.length=R.length+2*L.length+2∧R.length≤100∧L.length≤100∧bR R∧
 ∀(r:Addr) (H':Hp) (gs:List Int) (ys:List V),Same H H'→H r=none→H' r=some (.lst ys)→PoursH H' ys (O1 R L.length ms W gs) ms.length→Spl (qA R L.length) (SX R L.length ms W) gs→Q (.ref r) H'
def vT (L:List LC) (y:j4) (p:Nat):Int:=if p=y.2.length then -1 else (vG L y.1 y.2).getD p 0
def sL:Sp:=fun vs H Q _=>∃(t:Addr) (y:j4) (p:Int),vs=[.ref t,.int p]∧WyAt H (.ref t) y∧Q (.int ((y.2.length:Int) - p)) H
def pM (cs:Kd→Addr) (cR cN:Addr):Sp:=fun vs H Q _=>∃(x t:Addr) (y:j4) (p:Nat) (D:List Addr) (R:List RC) (L:List LC) (N:List (List (Int×Int))),vs=[.ref x,.ref t,.int (p:Int)]∧CnAt cs cR cN D H x R L N∧WyAt H (.ref t) y∧WyOk L y∧p≤y.2.length∧∀H',Same H H'→Q (.int (vT L y p)) H'
def JD (L:List LC) (ys:List j4) (pl:List Nat):List Int:=(List.range ys.length).map fun i=>vT L (ys.getD i (0,[])) (pl.getD i 0)
def bO (ys:List j4) (pl:List Nat):List Int:=(List.range ys.length).map fun i=>((ys.getD i (0,[])).2.length:Int) - ((pl.getD i 0:Nat):Int)
def ZT (ys:List j4) (pl:List Nat):Int:=(bO ys pl).sum
def CD (cs:Kd→Addr) (cR cN:Addr):Sp:=fun vs H Q _=>∃(x wl st:Addr) (r:Int) (us:List V) (ys:List j4) (d:Int) (ms:List Int) (pl:List Nat) (D:List Addr) (R:List RC) (L:List LC) (N:List (List (Int×Int))),vs=[.ref x,.ref wl,.ref st,.int r]∧CnAt cs cR cN D H x R L N∧H wl=some (.lst us)∧AllAt (WyAt H) us ys∧StAt H st d ms pl∧Fleet L ys pl∧∀H',Same H H'→Q (.int (((JD L ys pl).countP fun z=>decide (z=r):Nat):Int)) H'
theorem TH (b:Bool):wv b=.str (fV b):=by cases b<;>rfl
def JA (r l k:Nat) (lc:LC) (s:Str):Nat:=if s="high" then lc.high.toNat else if s="low" then lc.low.toNat else if s="chamber" then r+k else r+l+k
def l7 (r l k:Nat) (lc:LC) (q:Str×Str×Int):Nat×Nat×Int:=(JA r l k lc q.1,JA r l k lc q.2.1,q.2.2)
inductive okW:Str→Prop
 |high:okW "high"
 |low:okW "low"
 |cham:okW "chamber"
 |bas:okW "basin"
theorem AT (r l k:Nat) (lc:LC):JA r l k lc "high"=lc.high.toNat:=if_pos rfl
theorem B4 (r l k:Nat) (lc:LC):JA r l k lc "low"=lc.low.toNat:=by unfold JA;rw [if_neg (show ¬("low":Str)="high" by decide +kernel),if_pos rfl]
theorem xL (r l k:Nat) (lc:LC):JA r l k lc "chamber"=r+k:=by unfold JA;rw [if_neg (show ¬("chamber":Str)="high" by decide +kernel),if_neg (show ¬("chamber":Str)="low" by decide +kernel),if_pos rfl]
theorem xM (r l k:Nat) (lc:LC):JA r l k lc "basin"=r+l+k:=by unfold JA;rw [if_neg (show ¬("basin":Str)="high" by decide +kernel),if_neg (show ¬("basin":Str)="low" by decide +kernel),if_neg (show ¬("basin":Str)="chamber" by decide +kernel)]
theorem DG {r l k:Nat} {lc:LC} {s:Str} (h:okW s) (hg:lc.good r) (hk:k<l):JA r l k lc s<r+2*l+2:=by
 obtain ⟨g1,g2,g3,g4,_⟩:=hg;cases h
 ·rw [AT];omega
 ·rw [B4];omega
 ·rw [xL];omega
 ·rw [xM];omega
def d4 (a b c d:V):List (kD×V):=[(.inr "high",a),(.inr "low",b),(.inr "chamber",c),(.inr "basin",d)]
theorem JT {s t:Str} (h:¬s=t):¬((Sum.inr s:kD)=(Sum.inr t:kD)):=fun e=>h (Sum.inr.inj e)
theorem SY (a b c d:V):dG [] [((.inr "high":kD),a),(.inr "low",b),(.inr "chamber",c),(.inr "basin",d)]=d4 a b c d:=by
 show zU (zU (zU (zU ([]:List (kD×V)) (Sum.inr "high") a) (Sum.inr "low") b) (Sum.inr "chamber") c) (Sum.inr "basin") d=_;rw [iS a (valV_nil:v5 [] (Sum.inr "high":kD)=none)];rw [iS b (by show v5 [((.inr "high":kD),a)] (.inr "low")=none;rw [zD (JT (by decide +kernel))];rfl)];rw [iS c (by show v5 [((.inr "high":kD),a),(.inr "low",b)] (.inr "chamber")=none;rw [zD (JT (by decide +kernel)),zD (JT (by decide +kernel))];rfl)];rw [iS d (by show v5 [((.inr "high":kD),a),(.inr "low",b),(.inr "chamber",c)] (.inr "basin")=none;rw [zD (JT (by decide +kernel)),zD (JT (by decide +kernel)),zD (JT (by decide +kernel))];rfl)];rfl
theorem UI {p:Addr} {a b c d:V} (h:H p=some (.dK (d4 a b c d))):DGet H p (.str "high") (some a)∧DGet H p (.str "low") (some b)∧DGet H p (.str "chamber") (some c)∧DGet H p (.str "basin") (some d):=by
 have e1:v5 (d4 a b c d) (.inr "high")=some a:=by unfold d4;rw [bE rfl]
 have e2:v5 (d4 a b c d) (.inr "low")=some b:=by unfold d4;rw [zD (JT (by decide +kernel)),bE rfl]
 have e3:v5 (d4 a b c d) (.inr "chamber")=some c:=by unfold d4;rw [zD (JT (by decide +kernel)),zD (JT (by decide +kernel)),bE rfl]
 have e4:v5 (d4 a b c d) (.inr "basin")=some d:=by unfold d4;rw [zD (JT (by decide +kernel)),zD (JT (by decide +kernel)),zD (JT (by decide +kernel)),bE rfl]
 refine ⟨?_,?_,?_,?_⟩
 ·rw [← e1];exact DGet.k (k:=.inr "high") h
 ·rw [← e2];exact DGet.k (k:=.inr "low") h
 ·rw [← e3];exact DGet.k (k:=.inr "chamber") h
 ·rw [← e4];exact DGet.k (k:=.inr "basin") h
theorem rK (kd:Kd) (room v b:Int):∀q∈zS kd room v b,okW q.1∧okW q.2.1:=fun q hq=>by
 obtain ⟨p,hp,rfl⟩:=mem_map.mp hq;refine ⟨?_,.cham⟩;cases kd
 ·have:=(mem_filter.mp hp).1;rw [mem_singleton] at this;rw [this];exact .high
 ·have:=(mem_filter.mp hp).1;simp only [mem_cons,mem_nil_iff,or_false] at this
  rcases this with rfl|rfl
  ·exact .bas
  ·exact .high
 ·have:=(mem_filter.mp hp).1;simp only [mem_cons,mem_nil_iff,or_false] at this
  rcases this with rfl|rfl
  ·exact .low
  ·exact .high
theorem i4 (kd:Kd) (room v b:Int):∀q∈y0 kd room v b,okW q.1∧okW q.2.1:=fun q hq=>by
 obtain ⟨p,hp,rfl⟩:=mem_map.mp hq;refine ⟨.cham,?_⟩;cases kd
 ·have:=(mem_filter.mp hp).1;rw [mem_singleton] at this;rw [this];exact .low
 ·have:=(mem_filter.mp hp).1;simp only [mem_cons,mem_nil_iff,or_false] at this
  rcases this with rfl|rfl
  ·exact .bas
  ·exact .low
 ·have:=(mem_filter.mp hp).1;rw [mem_singleton] at this;rw [this];exact .low
theorem OT (kd:Kd) (room v:Int) (f:Bool) (b:Int) (w:Bool):∀q∈lO kd room v f b w,okW q.1∧okW q.2.1:=fun q hq=>by
 cases w<;>cases f
 ·rcases mem_append.mp hq with h|h
  ·exact rK _ _ _ _ q h
  ·exact i4 _ _ _ _ q h
 ·exact i4 _ _ _ _ q hq
 ·exact rK _ _ _ _ q hq
 ·rcases mem_append.mp hq with h|h
  ·exact i4 _ _ _ _ q h
  ·exact rK _ _ _ _ q h
def fJ (r:Nat) (ms:List Int) (k:Nat):Bool:=decide (0<ms.getD (r+k) 0)
def QS (r:Nat) (L:List LC) (ms:List Int) (s:Nat×Bool):List (Nat×Nat×Int):=match L[s.1]? with
 |some l=>(lO l.kd l.room l.extra (fJ r ms s.1) (ms.getD (r+L.length+s.1) 0) s.2).map (l7 r L.length s.1 l)
 |none=>[]
def fO (r:Nat) (L:List LC) (ms:List Int) (k:Nat):List (Nat×Nat×Int):=match L[k]? with
 |some l=>(y0 l.kd l.room l.extra (ms.getD (r+L.length+k) 0)).map (l7 r L.length k l)
 |none=>[]
def ZE (R:List RC) (ms:List Int) (v:Nat):Bool:=match R[v]? with
 |some r=>decide (ms.getD v 0<r.least)
 |none=>false
def QM (R:List RC):List Int→List (Nat×Nat×Int)→Bool
 |_,[]=>false
 |ms,q::qs=>ZE R (pour ms q) q.1||QM R (pour ms q) qs
def eY (R:List RC) (t:Int):Int:=match R[t.toNat]? with
 |some r=>r.berths
 |none=>0
def fL (R:List RC) (L:List LC) (ys:List j4) (ms:List Int) (pl:List Nat) (b:Nat):Str :=
 if pl.getD b 0=(ys.getD b (0,[])).2.length then "home" else
 if ¬vT L (ys.getD b (0,[])) (pl.getD b 0+1) = -1∧eY R (vT L (ys.getD b (0,[])) (pl.getD b 0+1))≤(((JD L ys pl).countP fun z=>decide (z=vT L (ys.getD b (0,[])) (pl.getD b 0+1)):Nat):Int) then "berth" else
 if QM R ms (QS R.length L ms ((ys.getD b (0,[])).2.getD (pl.getD b 0) (0,true)))=true then "water" else ""
inductive Deed
 |pass (b:Nat)
 |let (k:Nat)
 |night
def ZW:Deed→List V
 |.pass b=>[.str "pass",.int (b:Int)]
 |.let k=>[.str "let",.int (k:Int)]
 |.night=>[.str "night"]
def v0 (R:List RC) (L:List LC) (n:Nat) (ys:List j4) (d:Int) (ms:List Int) (pl:List Nat):Deed→Str
 |.pass b=>fL R L ys ms pl b
 |.let k=>if fJ R.length ms k=true then "" else "empty"
 |.night=>if d<(n:Int) then "" else "over"
def dI (nb nl:Nat):Deed→Prop
 |.pass b=>b<nb
 |.let k=>k<nl
 |.night=>True
def rS (cs:Kd→Addr) (cR cN:Addr):Sp:=fun vs H Q _=>∃(x p:Addr) (k:Nat) (l:LC) (rs:List V) (ps:List (Str×Str×Int)) (D:List Addr) (R:List RC) (L:List LC) (N:List (List (Int×Int))),vs=[.ref x,.int (k:Int),.ref p]∧CnAt cs cR cN D H x R L N∧L[k]?=some l∧l.good R.length∧H p=some (.lst rs)∧PoursS H rs ps∧(∀q∈ps,okW q.1∧okW q.2.1)∧ps.length≤10∧
 ∀(r:Addr) (H':Hp) (zs:List V),Same H H'→H r=none→H' r=some (.lst zs)→PoursH H' zs (ps.map (l7 R.length L.length k l)) (R.length+2*L.length+2)→Q (.ref r) H'
structure Stage (cs:Kd→Addr) (cR cN:Addr) (D:List Addr) (H:Hp) (x wl st:Addr) (us:List V) (R:List RC) (L:List LC) (N:List (List (Int×Int))) (ys:List j4) (d:Int) (ms:List Int) (pl:List Nat):Prop where
 cn:CnAt cs cR cN D H x R L N
 dr:Drawn R L N
 wls:H wl=some (.lst us)
 wys:AllAt (WyAt H) us ys
 sts:StAt H st d ms pl
 fl:Fleet L ys pl
 ml:ms.length=R.length+2*L.length+2
variable {wl st:Addr} {us:List V}
theorem Stage.same {ys:List j4} {d:Int} (h:Stage cs cR cN D H x wl st us R L N ys d ms pl) (e:Same H H'):Stage cs cR cN D H' x wl st us R L N ys d ms pl:=⟨h.cn.same e,h.dr,e _ _ h.wls,h.wys.mono (WyAt.same e),h.sts.same e,h.fl,h.ml⟩
def DL:Sp:=fun vs H Q _=>∃(t:Addr) (y:j4) (p:Nat) (s:Nat×Bool),vs=[.ref t,.int (p:Int)]∧WyAt H (.ref t) y∧y.2[p]?=some s∧∀v,PAt H v s→Q v H
def xT (cs:Kd→Addr) (cR cN:Addr):Sp:=fun vs H Q _=>∃(x wl st:Addr) (b:Nat) (r:RC) (us:List V) (ys:List j4) (d:Int) (ms:List Int) (pl:List Nat) (D:List Addr) (R:List RC) (L:List LC) (N:List (List (Int×Int))),vs=[.ref x,.ref wl,.ref st,.int (b:Int)]∧Stage cs cR cN D H x wl st us R L N ys d ms pl∧R[b]?=some r∧∀H',Same H H'→Q (.bl (decide (r.berths≤(((JD L ys pl).countP fun z=>decide (z=(b:Int)):Nat):Int)))) H'
def rQ (cs:Kd→Addr) (cR cN:Addr):Sp:=fun vs H Q _=>∃(x wl st:Addr) (b:Nat) (us:List V) (ys:List j4) (y:j4) (p:Nat) (s:Nat×Bool) (d:Int) (ms:List Int) (pl:List Nat) (D:List Addr) (R:List RC) (L:List LC) (N:List (List (Int×Int))),vs=[.ref x,.ref wl,.ref st,.int (b:Int)]∧Stage cs cR cN D H x wl st us R L N ys d ms pl∧ys[b]?=some y∧pl[b]?=some p∧y.2[p]?=some s∧
 ∀(r:Addr) (H':Hp) (zs:List V),Same H H'→H r=none→H' r=some (.lst zs)→PoursH H' zs (QS R.length L ms s) ms.length→Q (.ref r) H'
def CH (cs:Kd→Addr) (cR cN:Addr):Sp:=fun vs H Q _=>∃(x wl st:Addr) (k:Nat) (us:List V) (ys:List j4) (d:Int) (ms:List Int) (pl:List Nat) (D:List Addr) (R:List RC) (L:List LC) (N:List (List (Int×Int))),vs=[.ref x,.ref st,.int (k:Int)]∧Stage cs cR cN D H x wl st us R L N ys d ms pl∧k<L.length∧
 ∀(r:Addr) (H':Hp) (zs:List V),Same H H'→H r=none→H' r=some (.lst zs)→PoursH H' zs (fO R.length L ms k) ms.length→Q (.ref r) H'
def EK (cs:Kd→Addr) (cR cN:Addr):Sp:=fun vs H Q _=>∃(x w:Addr) (v:Nat) (ms:List Int) (D:List Addr) (R:List RC) (L:List LC) (N:List (List (Int×Int))),vs=[.ref x,.ref w,.int (v:Int)]∧CnAt cs cR cN D H x R L N∧H w=some (.tup (ms.map V.int))∧v<ms.length∧Q (.bl (ZE R ms v)) H
def AZ (cs:Kd→Addr) (cR cN:Addr):Sp:=fun vs H Q _=>∃(x w p:Addr) (ms:List Int) (zs:List V) (qs:List (Nat×Nat×Int)) (D:List Addr) (R:List RC) (L:List LC) (N:List (List (Int×Int))),vs=[.ref x,.ref w,.ref p]∧CnAt cs cR cN D H x R L N∧H w=some (.tup (ms.map V.int))∧H p=some (.lst zs)∧PoursH H zs qs ms.length∧ms.length≤1000∧∀H',Same H H'→Q (.bl (QM R ms qs)) H'
def DJ (cs:Kd→Addr) (cR cN:Addr):Sp:=fun vs H Q _=>∃(x wl st:Addr) (b:Nat) (us:List V) (ys:List j4) (d:Int) (ms:List Int) (pl:List Nat) (D:List Addr) (R:List RC) (L:List LC) (N:List (List (Int×Int))),vs=[.ref x,.ref wl,.ref st,.int (b:Int)]∧Stage cs cR cN D H x wl st us R L N ys d ms pl∧b<ys.length∧∀H',Same H H'→Q (.str (fL R L ys ms pl b)) H'
def sK (cs:Kd→Addr) (cR cN:Addr):Sp:=fun vs H Q _=>∃(x wl st dd:Addr) (de:Deed) (us:List V) (ys:List j4) (d:Int) (ms:List Int) (pl:List Nat) (D:List Addr) (R:List RC) (L:List LC) (N:List (List (Int×Int))),vs=[.ref x,.ref wl,.ref st,.ref dd]∧Stage cs cR cN D H x wl st us R L N ys d ms pl∧H dd=some (.tup (ZW de))∧dI ys.length L.length de∧∀H',Same H H'→Q (.str (v0 R L N.length ys d ms pl de)) H'
theorem SO {y:j4} {p:Nat} {s:Nat×Bool} (ok:WyOk L y) (hs:y.2[p]?=some s):vT L y p=(vJ L s).1:=by
 have hp:=(List.getElem?_eq_some_iff.mp hs).1;unfold vT;rw [if_neg (by omega),getD_eq_getElem?_getD,ok.ok p s hs];rfl
theorem PJ (d:Drawn R L N) {s:Nat×Bool} (h:s.1<L.length):0≤(vJ L s).1∧(vJ L s).1<(R.length:Int):=by
 obtain ⟨l,hl,g1,g2,g3,g4,_⟩:=xD d h;obtain ⟨k,b⟩:=s;cases b
 ·rw [bD hl];show 0≤l.high∧l.high<_;omega
 ·rw [bJ hl];show 0≤l.low∧l.low<_;omega
theorem DT (d:Drawn R L N) {y:j4} (ok:WyOk L y) {p:Nat} (hp:p<y.2.length):0≤vT L y p∧vT L y p<(R.length:Int):=by
 have hs:=List.getElem?_eq_getElem hp;rw [SO ok hs];exact PJ d (ok.lt _ (mem_of_getElem? hs))
theorem CQ (L:List LC) (y:j4):vT L y y.2.length = -1:=if_pos rfl
def QU (R:List RC) (L:List LC) (N:List (List (Int×Int))) (ys:List j4) (d:Int) (ms:List Int) (pl:List Nat):Deed→List (Nat×Nat×Int)
 |.pass b=>QS R.length L ms ((ys.getD b (0,[])).2.getD (pl.getD b 0) (0,true))
 |.let k=>fO R.length L ms k
 |.night=>(Q4 (R.length+2*L.length+1) ms (N.getD d.toNat []) R.length).filter q9
def QK (R:List RC) (L:List LC) (N:List (List (Int×Int))) (ys:List j4) (d:Int) (ms:List Int) (pl:List Nat) (de:Deed) (gs:List Int):List (Nat×Nat×Int):=QU R L N ys d ms pl de++(zN (kR (qA R L.length)) (fun a=>gs.getD a 0) (qA R L.length).length).filter q9
def JJ (pl:List Nat) (b:Nat):List Nat:=(List.range pl.length).map fun i=>if i=b then pl.getD i 0+1 else pl.getD i 0
def ZX (d:Int):Deed→Int
 |.night=>d+1
 |_=>d
def QZ (pl:List Nat):Deed→List Nat
 |.pass b=>JJ pl b
 |_=>pl
def rA (cs:Kd→Addr) (cR cN eW:Addr):Sp:=fun vs H Q E=>∃(x wl st dd:Addr) (de:Deed) (us:List V) (ys:List j4) (d:Int) (ms:List Int) (pl:List Nat) (D:List Addr) (R:List RC) (L:List LC) (N:List (List (Int×Int))),vs=[.ref x,.ref wl,.ref st,.ref dd]∧Stage cs cR cN D H x wl st us R L N ys d ms pl∧H dd=some (.tup (ZW de))∧dI ys.length L.length de∧0≤d∧
 (v0 R L N.length ys d ms pl de=""→∀(r:Addr) (H':Hp) (gs:List Int) (zs:List V),Same H H'→H r=none→H' r=some (.lst zs)→PoursH H' zs (QK R L N ys d ms pl de gs) ms.length→Spl (qA R L.length) (kJ ms (QU R L N ys d ms pl de)) gs→Q (.ref r) H')∧
 (¬v0 R L N.length ys d ms pl de=""→∀H',Same H H'→E (.ref eW) none H')
def BF (cs:Kd→Addr) (cR cN eW:Addr):Sp:=fun vs H Q E=>∃(x wl st dd:Addr) (de:Deed) (us:List V) (ys:List j4) (d:Int) (ms:List Int) (pl:List Nat) (D:List Addr) (R:List RC) (L:List LC) (N:List (List (Int×Int))),vs=[.ref x,.ref wl,.ref st,.ref dd]∧Stage cs cR cN D H x wl st us R L N ys d ms pl∧H dd=some (.tup (ZW de))∧dI ys.length L.length de∧0≤d∧
 (v0 R L N.length ys d ms pl de=""→∀(r:Addr) (H':Hp) (gs:List Int),Same H H'→H r=none→StAt H' r (ZX d de) (kJ ms (QK R L N ys d ms pl de gs)) (QZ pl de)→Spl (qA R L.length) (kJ ms (QU R L N ys d ms pl de)) gs→Q (.ref r) H')∧
 (¬v0 R L N.length ys d ms pl de=""→∀H',Same H H'→E (.ref eW) none H')
def AW:Sp:=fun vs H Q _=>∃(pt:Addr) (pl:List Nat) (b:Nat),vs=[.ref pt,.int (b:Int)]∧H pt=some (.tup (pl.map fun (p:Nat)=>V.int (p:Int)))∧pl.length≤100∧∀(r:Addr) (H':Hp),Same H H'→H r=none→H' r=some (.tup ((JJ pl b).map fun (p:Nat)=>V.int (p:Int)))→Q (.ref r) H'
theorem AR {ys:List j4} {b:Nat} (h:fL R L ys ms pl b=""):¬pl.getD b 0=(ys.getD b (0,[])).2.length:=fun e=>by
 unfold fL at h;rw [if_pos e] at h;exact absurd h (by decide +kernel)
theorem NU (r:Nat) (L:List LC) (ms:List Int) (s:Nat×Bool):(QS r L ms s).length≤4:=by
 unfold QS
 split
 ·rw [length_map];exact x6 _ _ _ _ _ _
 ·exact Nat.zero_le _
theorem O7 (r:Nat) (L:List LC) (ms:List Int) (k:Nat):(fO r L ms k).length≤4:=by
 unfold fO
 split
 ·rw [length_map];exact Nat.le_trans (bH _ _ _ _) (by decide)
 ·exact Nat.zero_le _
theorem eK (pl:List Nat) (b:Nat):(JJ pl b).length=pl.length:=by unfold JJ;rw [length_map,length_range]
theorem wK {b:Nat} (h:i<pl.length):(JJ pl b).take (i+1)=(JJ pl b).take i++[if i=b then pl.getD i 0+1 else pl.getD i 0]:=by
 rw [take_add_one];unfold JJ;rw [List.getElem?_map,List.getElem?_range h];rfl
def xV:Sp:=fun vs H Q _=>∃(st dd wo:Addr) (de:Deed) (d:Int) (ms mo:List Int) (pl:List Nat),vs=[.ref st,.ref dd,.ref wo]∧StAt H st d ms pl∧H dd=some (.tup (ZW de))∧H wo=some (.tup (mo.map V.int))∧pl.length≤100∧∀(r:Addr) (H':Hp),Same H H'→H r=none→StAt H' r (ZX d de) mo (QZ pl de)→Q (.ref r) H'
def BC (cs:Kd→Addr) (cR cN:Addr):Sp:=fun vs H Q _=>∃(x wl st dd:Addr) (de:Deed) (us:List V) (ys:List j4) (d:Int) (ms:List Int) (pl:List Nat) (D:List Addr) (R:List RC) (L:List LC) (N:List (List (Int×Int))),vs=[.ref x,.ref wl,.ref st,.ref dd]∧Stage cs cR cN D H x wl st us R L N ys d ms pl∧H dd=some (.tup (ZW de))∧dI ys.length L.length de∧0≤d∧v0 R L N.length ys d ms pl de=""∧
 ∀(r:Addr) (H':Hp) (gs:List Int) (zs:List V),Same H H'→H r=none→H' r=some (.lst zs)→PoursH H' zs (QK R L N ys d ms pl de gs) ms.length→Spl (qA R L.length) (kJ ms (QU R L N ys d ms pl de)) gs→Q (.ref r) H'
variable {eW:Addr}
theorem NR:∀vs H Q E,BC cs cR cN vs H Q E→rA cs cR cN eW vs H Q (fun _ _ _=>False):=by
 rintro vs H Q E ⟨x,wl,st,dd,de,us,ys,d,ms,pl,D,R,L,N,e,h1,h2,h3,h4,h5,q⟩;exact ⟨x,wl,st,dd,de,us,ys,d,ms,pl,D,R,L,N,e,h1,h2,h3,h4,fun _=>q,fun h=>absurd h5 h⟩
def iL (cs:Kd→Addr) (cR cN:Addr):Sp:=fun vs H Q _=>∃(x wl st dd:Addr) (de:Deed) (us:List V) (ys:List j4) (d:Int) (ms:List Int) (pl:List Nat) (D:List Addr) (R:List RC) (L:List LC) (N:List (List (Int×Int))),vs=[.ref x,.ref wl,.ref st,.ref dd]∧Stage cs cR cN D H x wl st us R L N ys d ms pl∧H dd=some (.tup (ZW de))∧dI ys.length L.length de∧0≤d∧v0 R L N.length ys d ms pl de=""∧
 ∀(r:Addr) (H':Hp) (gs:List Int),Same H H'→H r=none→StAt H' r (ZX d de) (kJ ms (QK R L N ys d ms pl de gs)) (QZ pl de)→Spl (qA R L.length) (kJ ms (QU R L N ys d ms pl de)) gs→Q (.ref r) H'
theorem OI:∀vs H Q E,iL cs cR cN vs H Q E→BF cs cR cN eW vs H Q (fun _ _ _=>False):=by
 rintro vs H Q E ⟨x,wl,st,dd,de,us,ys,d,ms,pl,D,R,L,N,e,h1,h2,h3,h4,h5,q⟩;exact ⟨x,wl,st,dd,de,us,ys,d,ms,pl,D,R,L,N,e,h1,h2,h3,h4,fun _=>q,fun h=>absurd h5 h⟩
def DdAt (H:Hp) (v:V) (de:Deed):Prop:=∃t,v=.ref t∧H t=some (.tup (ZW de))
theorem DdAt.same (e:Same H H') (v:V) (de:Deed):DdAt H v de→DdAt H' v de:=fun ⟨t,h1,h2⟩=>⟨t,h1,e _ _ h2⟩
theorem DdAt.put (hd:H d=some (.lst ys)) (v:V) (de:Deed):DdAt H v de→DdAt (upd H d o) v de:=fun ⟨t,h1,h2⟩=>⟨t,h1,by rw [jG (fun z=>by rw [z,hd] at h2;cases h2)];exact h2⟩
def passes (n:Nat):List Deed:=(List.range n).map Deed.pass
def lets (n:Nat):List Deed:=(List.range n).map Deed.let
def yX (nb nl:Nat):List Deed:=passes nb++lets nl++[.night]
variable {de:Deed}
theorem pD {nb nl:Nat} (h:de∈yX nb nl):dI nb nl de:=by
 rcases mem_append.mp h with h|h
 ·rcases mem_append.mp h with h|h
  ·obtain ⟨i,hi,rfl⟩:=mem_map.mp h;exact mem_range.mp hi
  ·obtain ⟨i,hi,rfl⟩:=mem_map.mp h;exact mem_range.mp hi
 ·rw [mem_singleton.mp h];trivial
theorem AllAt.app {P:V→α→Prop} {xs ys:List α} (h:AllAt P vs xs) (h':AllAt P us ys):AllAt P (vs++us) (xs++ys):=by
 refine ⟨by rw [length_append,length_append,h.1,h'.1],fun i v hi=>?_⟩
 by_cases hl:i<vs.length
 ·rw [List.getElem?_append_left hl] at hi;obtain ⟨x,h1,h2⟩:=h.2 i v hi;exact ⟨x,by rw [List.getElem?_append_left (by rw [← h.1];exact hl)];exact h1,h2⟩
 ·rw [List.getElem?_append_right (by omega)] at hi;obtain ⟨x,h1,h2⟩:=h'.2 _ v hi;exact ⟨x,by rw [List.getElem?_append_right (by rw [← h.1];omega),← h.1];exact h1,h2⟩
def v9 (R:List RC) (L:List LC) (n:Nat) (ys:List j4) (d:Int) (ms:List Int) (pl:List Nat):List Deed:=(yX ys.length L.length).filter fun de=>decide (v0 R L n ys d ms pl de="")
theorem iD (nb nl:Nat):(yX nb nl).length=nb+nl+1:=by unfold yX passes lets;rw [length_append,length_append,length_map,length_map,length_range,length_range];rfl
def tK (cs:Kd→Addr) (cR cN:Addr):Sp:=fun vs H Q _=>∃(x wl st:Addr) (us:List V) (ys:List j4) (d:Int) (ms:List Int) (pl:List Nat) (D:List Addr) (R:List RC) (L:List LC) (N:List (List (Int×Int))),vs=[.ref x,.ref wl,.ref st]∧Stage cs cR cN D H x wl st us R L N ys d ms pl∧∀(r:Addr) (zs:List V) (H':Hp),Same H H'→H r=none→H' r=some (.lst zs)→AllAt (DdAt H') zs (v9 R L N.length ys d ms pl)→Q (.ref r) H'
theorem BP {ys:List j4} {d:Int} (h:(yX ys.length L.length)[i]?=some de):((yX ys.length L.length).take (i+1)).filter (fun de=>decide (v0 R L n ys d ms pl de=""))=((yX ys.length L.length).take i).filter (fun de=>decide (v0 R L n ys d ms pl de=""))++(if v0 R L n ys d ms pl de="" then [de] else []):=by
 rw [take_add_one,h,filter_append];show _++[de].filter _=_;rw [filter_cons]
 by_cases hw:v0 R L n ys d ms pl de=""
 ·rw [if_pos (decide_eq_true hw),if_pos hw];rfl
 ·rw [if_neg (by rw [decide_eq_true_eq];exact hw),if_neg hw];rfl
theorem MM (hA:dJ ws.length (kR ws)) (hR:ws.length≤ms.length) (ht:∀a,a<ws.length→kR ws a<ms.length):∃gs,Spl ws ms gs:=by
 have:∀k,k≤ws.length→∃hs gs,SplInv ws ms hs gs k:=by
  intro k
  induction k with
  |zero=>intro _;exact ⟨_,_,SplInv.start ws ms⟩
  |succ k ih =>
   intro hk;obtain ⟨hs,gs,h⟩:=ih (by omega);exact ⟨_,_,h.step hA hR (by omega) (ht _ (by omega))⟩
 obtain ⟨hs,gs,h⟩:=this ws.length (Nat.le_refl _);exact ⟨gs,h.spl⟩
theorem ML {r:RC} (h:R[i]?=some r):kR (qA R m) i=if r.target = -1 then R.length+2*m else r.target.toNat:=by
 unfold kR qA;rw [getD_eq_getElem?_getD,List.getElem?_map,h];rfl
theorem xP (hT:bR R):∀a,a<(qA R m).length→kR (qA R m) a<R.length+2*m+2:=fun a ha=>by
 rw [bC] at ha;have hr:=List.getElem?_eq_getElem ha;rw [ML hr];have:=hT a _ hr
 split<;>omega
theorem PD {ys:List j4} {d:Int} (hf:Fleet L ys pl) (hw:v0 R L n ys d ms pl de=""):Fleet L ys (QZ pl de):=by
 cases de with
 |night=>exact hf
 |«let» j=>exact hf
 |pass b =>
  refine ⟨by show (JJ pl b).length=_;rw [eK];exact hf.len,hf.n10,hf.ok,fun i y p hy hp=>?_⟩;have hi:i<pl.length:=by have:=(List.getElem?_eq_some_iff.mp hp).1;rw [show QZ pl (.pass b)=JJ pl b from rfl,eK] at this;exact this
  have hp:(JJ pl b)[i]?=some p:=hp;unfold JJ at hp;rw [List.getElem?_map,List.getElem?_range hi] at hp;have hp:some (if i=b then pl.getD i 0+1 else pl.getD i 0)=some p:=hp;have hp:=Option.some.inj hp;have eg:pl[i]?=some (pl.getD i 0):=by rw [getD_eq_getElem?_getD,List.getElem?_eq_getElem hi];rfl
  have h1:=hf.le i y _ hy eg
  by_cases hb:i=b
  ·rw [if_pos hb] at hp;subst hb;have hne:=AR hw;rw [show ys.getD i (0,[])=y by rw [getD_eq_getElem?_getD,hy];rfl] at hne;omega
  ·rw [if_neg hb] at hp;omega
theorem PU {ys:List j4} {d:Int} (hd:Drawn R L N) (hm:ms.length=R.length+2*L.length+2):kJ ms (QK R L N ys d ms pl de gs)=Z0 (kJ ms (QU R L N ys d ms pl de)) (qA R L.length) gs:=by
 unfold QK;show List.foldl pour ms _=_;rw [foldl_append];show kJ (kJ ms _) _=_;exact wV (wT (by rw [bC,JU];omega) (by rw [JU,hm];exact xP (cK hd)))
noncomputable def tW (R:List RC) (L:List LC) (ms:List Int):List Int:=open Classical in if h:∃gs,Spl (qA R L.length) ms gs then Z0 ms (qA R L.length) (Classical.choose h) else ms
theorem P7 (hd:Drawn R L N) (h:Spl (qA R L.length) ms gs):Z0 ms (qA R L.length) gs=tW R L ms:=by
 have hex:∃gs,Spl (qA R L.length) ms gs:=⟨gs,h⟩;unfold tW;rw [dif_pos hex,Spl.unique (pW (iC (m:=L.length) (cK hd))) h (Classical.choose_spec hex)]
abbrev yF:=Int×List Int×List Nat
noncomputable def J0 (R:List RC) (L:List LC) (N:List (List (Int×Int))) (ys:List j4) (s:yF) (de:Deed):yF:=(ZX s.1 de,tW R L (kJ s.2.1 (QU R L N ys s.1 s.2.1 s.2.2 de)),QZ s.2.2 de)
theorem rW {ys:List j4} {s:yF} (hd:Drawn R L N) (hm:s.2.1.length=R.length+2*L.length+2) (h:Spl (qA R L.length) (kJ s.2.1 (QU R L N ys s.1 s.2.1 s.2.2 de)) gs):J0 R L N ys s de=(ZX s.1 de,kJ s.2.1 (QK R L N ys s.1 s.2.1 s.2.2 de gs),QZ s.2.2 de):=by
 unfold J0;rw [PU hd hm,P7 hd h]
variable {H0:Hp}
theorem iQ {cs:List Addr} (s:Same H0 H) (h:∀c∈cs,H0 c=none):Same H0 (kW H cs):=fun b o e=>by
 rw [vD fun hin=>by rw [h b hin] at e;cases e];exact s b o e
theorem iR {cs:List Addr} (s:Same (kW H cs) H'):Same H (vB H' H cs):=fun b o e=>by
 by_cases hb:b∈cs
 ·rw [fD hb];exact e
 ·rw [vE hb];exact s b o (by rw [vD hb];exact e)
variable {b:Addr}
theorem lA {cs:List Addr} (hn:∀c∈cs,H' c=none) (e:H' b=some o):vB H' H cs b=some o:=by
 rw [vE fun hin=>by rw [hn b hin] at e;cases e];exact e
theorem StAt.del {cs:List Addr} {d:Int} (hc:ZY H cs) (h:StAt H t d ms pl):StAt (kW H cs) t d ms pl:=by
 obtain ⟨wt,pt,h1,h2,h3⟩:=h;exact ⟨wt,pt,rN hc _ _ h1,rN hc _ _ h2,rN hc _ _ h3⟩
def zX:List Addr→List V→Sp:=fun cs fvs vs H Q _=>∃(wl st:Addr) (H0:Hp) (us:List V) (ys:List j4) (d:Int) (ms:List Int) (pl:List Nat) (L:List LC),fvs=[.ref wl]∧vs=[.ref st]∧Same H0 H∧(∀c∈cs,H0 c=none)∧H0 wl=some (.lst us)∧AllAt (WyAt H0) us ys∧StAt H st d ms pl∧Fleet L ys pl∧∀H',Same H H'→Q (.bl (decide (ZT ys pl=0))) H'
theorem JY (h:n≤4000):n<sizeLine:=by rw [sizeLine_eq];omega
variable {k:GK}
theorem qW (s:Same H H') (h:(GV H k).1 v):(GV H' k).1 v:=(GV.keep (fun a l e=>s _ _ e) k).1 v h
variable {kvs:List qS}
theorem cT (s:Same H H') (h:GOk H kvs):GOk H' kvs:=h.keep fun a l e=>s _ _ e
def zG (H:Hp) (xs:List V) (ps:List (GK×GK)):Prop:=xs.length=ps.length∧∀(i:Nat) (x:V),xs[i]?=some x→∃(p:GK×GK) (a:Addr) (b c:V),ps[i]?=some p∧x=.ref a∧H a=some (.tup [b,c])∧(GV H p.1).1 b∧(GV H p.2).1 c∧gd p.1≤8∧gd p.2≤8
variable {ps:List (GK×GK)}
theorem eN (hk:∀a l,H a=some (.tup l)→H' a=some (.tup l)) (h:zG H xs ps):zG H' xs ps:=⟨h.1,fun i x e=>by
 obtain ⟨p,a,b,c,e1,e2,e3,e4,e5,e6⟩:=h.2 i x e;exact ⟨p,a,b,c,e1,e2,hk _ _ e3,(GV.keep hk _).1 _ e4,(GV.keep hk _).1 _ e5,e6⟩⟩
variable {p:GK×GK}
theorem pF {b c:V} (h:zG H xs ps) (ht:H t=some (.tup [b,c])) (h1:(GV H p.1).1 b) (h2:(GV H p.2).1 c) (g1:gd p.1≤8) (g2:gd p.2≤8):zG H (xs++[.ref t]) (ps++[p]):=by
 refine ⟨by rw [length_append,length_append,h.1];rfl,fun i x e=>?_⟩
 by_cases hi:i<xs.length
 ·rw [List.getElem?_append_left hi] at e;obtain ⟨q,a,b',c',e1,e2⟩:=h.2 i x e;exact ⟨q,a,b',c',by rw [List.getElem?_append_left (by rw [← h.1];exact hi)];exact e1,e2⟩
 ·rw [List.getElem?_append_right (by omega)] at e;have hz:i - xs.length=0:=by have:=(List.getElem?_eq_some_iff.mp e).1;rw [length_singleton] at this;omega
  rw [hz] at e;cases e;exact ⟨p,t,b,c,by rw [List.getElem?_append_right (by rw [← h.1];omega),← h.1,hz];rfl,rfl,ht,h1,h2,g1,g2⟩
def KeysAt (H:Hp) (xs:List V) (ks:List GK):Prop:=xs.length=ks.length∧∀(i:Nat) x,xs[i]?=some x→∃k,ks[i]?=some k∧(GV H k).1 x∧gd k≤8
variable {ks:List GK}
theorem KeysAt.same (s:Same H H') (h:KeysAt H xs ks):KeysAt H' xs ks:=⟨h.1,fun i x e=>by
 obtain ⟨k,e1,e2,e3⟩:=h.2 i x e;exact ⟨k,e1,qW s e2,e3⟩⟩
theorem KeysAt.snoc (h:KeysAt H xs ks) (hk:∀a l,H a=some (.tup l)→H' a=some (.tup l)) (hv:(GV H k).1 v) (h8:gd k≤8):KeysAt H' (xs++[v]) (ks++[k]):=by
 refine ⟨by rw [length_append,length_append,h.1];rfl,fun i x e=>?_⟩
 by_cases hi:i<xs.length
 ·rw [List.getElem?_append_left hi] at e;obtain ⟨k',e1,e2,e3⟩:=h.2 i x e;exact ⟨k',by rw [List.getElem?_append_left (by rw [← h.1];exact hi)];exact e1,(GV.keep hk k').1 _ e2,e3⟩
 ·rw [List.getElem?_append_right (by omega)] at e;obtain ⟨h1,h2⟩:=List.getElem?_eq_some_iff.mp e;have hz:i - xs.length=0:=by rw [length_singleton] at h1;omega
  rw [List.getElem?_append_right (by rw [← h.1];omega),← h.1,hz];rw [hz] at e;cases e;exact ⟨k,rfl,(GV.keep hk k).1 _ hv,h8⟩
theorem KeysAt.keep (tk:∀a l,H a=some (.tup l)→H' a=some (.tup l)) (h:KeysAt H xs ks):KeysAt H' xs ks:=⟨h.1,fun i x e=>by
 obtain ⟨k,e1,e2,e3⟩:=h.2 i x e;exact ⟨k,e1,(GV.keep tk k).1 _ e2,e3⟩⟩
abbrev Gr:=(GK→List (GK×GK))×(GK→Prop)
abbrev Q7 (T:Gr) (k:GK):List (GK×GK):=T.1 k
def yR (met acc:List GK) (p:GK×GK):List GK:=if p.2∈met++acc then acc else acc++[p.2]
def vU (met acc:List GK) (ps:List (GK×GK)):List GK:=ps.foldl (yR met) acc
def qK (T:Gr) (met acc lay:List GK):List GK:=lay.foldl (fun a k=>vU met a (Q7 T k)) acc
variable {met acc:List GK}
theorem eJ:vU met acc (ps++[p])=yR met (vU met acc ps) p:=by
 unfold vU;rw [foldl_append];rfl
variable {lay:List GK}
theorem pC {T:Gr}:qK T met acc (lay++[k])=vU met (qK T met acc lay) (Q7 T k):=by
 unfold qK;rw [foldl_append];rfl
def jP (T:Gr) (k0:GK):Nat→List (List GK)
 |0=>[[k0]]
 |i+1=>jP T k0 i++[qK T (jP T k0 i).flatten [] ((jP T k0 i).getLast?.getD [])]
def j3 (T:Gr) (k0:GK) (i:Nat):List GK:=(jP T k0 i).getLast?.getD []
def J3 (T:Gr) (k0:GK) (i:Nat):List GK:=qK T (jP T k0 i).flatten [] (j3 T k0 i)
def JM (T:Gr) (M:GK→Bool) (k0:GK) (i:Nat):Prop:=(j3 T k0 i).any M=true∨J3 T k0 i=[]
variable {k0:GK}
theorem eO {T:Gr}:jP T k0 (i+1)=jP T k0 i++[J3 T k0 i]:=rfl
theorem pI {T:Gr}:j3 T k0 (i+1)=J3 T k0 i:=by
 unfold j3;rw [eO];simp
theorem ZJ {T:Gr} {k0:GK}:∀i,(jP T k0 i).length=i+1
 |0=>rfl
 |i+1=>by rw [eO,length_append,ZJ i];rfl
theorem zZ {T:Gr}:(jP T k0 (i+1)).flatten=(jP T k0 i).flatten++J3 T k0 i:=by
 rw [eO,flatten_append];simp
theorem iN {T:Gr} {k0:GK} {i:Nat}:∀d,(jP T k0 i).flatten.length≤(jP T k0 (i+d)).flatten.length
 |0=>Nat.le_refl _
 |d+1=>by
  have h1:=iN (T:=T) (k0:=k0) (i:=i) d;have h2:(jP T k0 (i+(d+1))).flatten=(jP T k0 (i+d)).flatten++J3 T k0 (i+d):=zZ;rw [h2,length_append];omega
theorem rG {T:Gr} (i:Nat):(jP T k0 i)[i]?=some (j3 T k0 i):=by
 unfold j3;have hl:=ZJ (T:=T) (k0:=k0) i;rw [List.getLast?_eq_getElem?,hl,Nat.add_sub_cancel,List.getElem?_eq_getElem (by omega)];rfl
theorem PX {x:GK} (h:x∈yR met acc p):x∈acc∨x=p.2:=by
 unfold yR at h
 split at h
 ·exact .inl h
 ·rcases mem_append.mp h with h|h
  ·exact .inl h
  ·exact .inr (mem_singleton.mp h)
theorem w9 {met:List GK} {x:GK}:∀(ps:List (GK×GK)) (acc:List GK),x∈vU met acc ps→x∈acc∨∃p∈ps,x=p.2
 |[],acc,h=>.inl h
 |p::ps,acc,h=>by
  rcases w9 ps _ (show x∈vU met (yR met acc p) ps from h) with h|⟨q,hq,e⟩
  ·rcases PX h with h|h
   ·exact .inl h
   ·exact .inr ⟨p,mem_cons_self,h⟩
  ·exact .inr ⟨q,mem_cons_of_mem _ hq,e⟩
theorem xB {T:Gr} {met:List GK} {x:GK}:∀(lay acc:List GK),x∈qK T met acc lay→x∈acc∨∃k∈lay,∃p∈Q7 T k,x=p.2
 |[],acc,h=>.inl h
 |k::lay,acc,h=>by
  rcases xB lay _ (show x∈qK T met (vU met acc (Q7 T k)) lay from h) with h|⟨q,hq,e⟩
  ·rcases w9 _ _ h with h|⟨p,hp,e⟩
   ·exact .inl h
   ·exact .inr ⟨k,mem_cons_self,p,hp,e⟩
  ·exact .inr ⟨q,mem_cons_of_mem _ hq,e⟩
def Z2 (T:Gr):Prop:=∀k p,T.2 k→p∈T.1 k→T.2 p.2
theorem N9 {T:Gr} (h:Z2 T) (hl:∀k∈lay,T.2 k) {x:GK} (hx:x∈qK T met [] lay):T.2 x:=by
 rcases xB lay [] hx with hx|⟨k,hk,p,hp,rfl⟩
 ·cases hx
 ·exact h k p (hl k hk) hp
theorem Q1 {T:Gr} {x:GK} (hx:x∈j3 T k0 i):x∈(jP T k0 i).flatten :=
 mem_flatten.mpr ⟨_,mem_of_getElem? (rG i),hx⟩
theorem cX {T:Gr} (h:Z2 T) {k0:GK} (h0:T.2 k0):∀(i:Nat) (x:GK),x∈(jP T k0 i).flatten→T.2 x
 |0,x,hx=>by
  have:x=k0:=by simpa [jP] using hx
  rw [this];exact h0
 |i+1,x,hx=>by
  rw [zZ] at hx
  rcases mem_append.mp hx with hx|hx
  ·exact cX h h0 i x hx
  ·exact N9 h (fun k hk=>cX h h0 i k (Q1 hk)) hx
theorem ND (h:(met++acc).Nodup):(met++yR met acc p).Nodup:=by
 unfold yR
 split
 ·exact h
 ·rename_i hp;rw [← append_assoc,nodup_append];exact ⟨h,by simp,fun a ha b hb e=>by cases mem_singleton.mp hb;subst e;exact hp ha⟩
theorem wG {met:List GK}:∀(ps:List (GK×GK)) (acc:List GK),(met++acc).Nodup→(met++vU met acc ps).Nodup
 |[],_,h=>h
 |p::ps,acc,h=>wG ps _ (ND h)
theorem wH {T:Gr} {met:List GK}:∀(lay acc:List GK),(met++acc).Nodup→(met++qK T met acc lay).Nodup
 |[],_,h=>h
 |k::lay,acc,h=>wH lay _ (wG _ _ h)
theorem xX {T:Gr} {k0:GK}:∀i,(jP T k0 i).flatten.Nodup
 |0=>by simp [jP]
 |i+1=>by
  rw [zZ];exact wH _ [] (by rw [append_nil];exact xX i)
theorem AC:(zV kvs k).isSome=decide (k∈kvs.map (·.1)):=by
 unfold zV;rw [Option.isSome_map,Bool.eq_iff_iff];simp only [List.find?_isSome,decide_eq_true_eq,mem_map]
variable {y:V}
theorem BG (h:k∉kvs.map (·.1)):vO kvs k y v=kvs++[(k,y,v)]:=by
 unfold vO;rw [if_neg];rw [any_eq_true];rintro ⟨x,hx,e⟩;exact h (mem_map.mpr ⟨x,hx,of_decide_eq_true e⟩)
theorem C4 (hn:(kvs.map (·.1)).Nodup) {p:qS} (h:kvs[i]?=some p):zV kvs p.1=some p.2.2:=by
 unfold zV;have:kvs.find? (fun x=>decide (x.1=p.1))=some p:=by
  induction kvs generalizing i with
  |nil=>cases h
  |cons q t ih =>
   rw [map_cons,nodup_cons] at hn;cases i with
   |zero=>cases h;simp
   |succ i =>
    have h':t[i]?=some p:=h;have hne:¬q.1=p.1:=fun e=>hn.1 (e▸mem_map.mpr ⟨p,mem_of_getElem? h',rfl⟩)
    rw [List.find?_cons_of_neg (by simpa using hne)];exact ih hn.2 h'
 rw [this];rfl
abbrev CR:=(GK→Prop)×(GK→GK→GK→Prop)
def uE (T:Gr) (k0 kp x:GK):Prop:=∃j,kp∈j3 T k0 j∧x∈j3 T k0 (j+1)
def uP (T:Gr) (k0:GK):CR:=(fun x=>x=k0,fun kp de x=>(de,x)∈Q7 T kp∧uE T k0 kp x)
def CameV (H:Hp) (T:CR) (met:List GK) (i:Nat) (p:qS):Prop:=(p.2.2=.non∧T.1 p.1)∨∃(t:Addr) (yp dv:V) (kp de:GK) (j:Nat),p.2.2=.ref t∧H t=some (.tup [yp,dv])∧(GV H kp).1 yp∧gd kp≤8∧(GV H de).1 dv∧gd de≤8∧j<i∧met[j]?=some kp∧T.2 kp de p.1
structure CameAt (w:World) (H:Hp) (d:Addr) (T:CR) (met:List GK):Prop where
 ex:∃kvs,H d=some (GO w d kvs)∧GOk H kvs∧kvs.map (·.1)=met∧∀(i:Nat) p,kvs[i]?=some p→CameV H T met i p
def lW (b:Addr) (H H':Hp):Prop:=∀a o,a≠b→H a=some o→H' a=some o
theorem CameV.keep {T:CR} {met':List GK} {p:qS} (h:CameV H T met i p) (hk:∀a l,H a=some (.tup l)→H' a=some (.tup l)) (hm:∀(j:Nat) x,met[j]?=some x→met'[j]?=some x):CameV H' T met' i p:=by
 rcases h with h|⟨t,yp,dv,kp,de,j,e1,e2,e3,e4,e5,e6,e7,e8,e9⟩
 ·exact .inl h
 ·exact .inr ⟨t,yp,dv,kp,de,j,e1,hk _ _ e2,(GV.keep hk kp).1 _ e3,e4,(GV.keep hk de).1 _ e5,e6,e7,hm _ _ e8,e9⟩
variable {w:World}
theorem CameAt.same {T:CR} (s:Same H H') (h:CameAt w H d T met):CameAt w H' d T met:=by
 obtain ⟨kvs,e1,g,e2,e3⟩:=h.ex;exact ⟨kvs,s _ _ e1,cT s g,e2,fun i p hp=>(e3 i p hp).keep (fun a l e=>s _ _ e) fun _ _ e=>e⟩
theorem rY {l m:List α} {x:α} (h:l[j]?=some x):(l++m)[j]?=some x:=by rw [List.getElem?_append_left (List.getElem?_eq_some_iff.mp h).1];exact h
theorem CameAt.put {T:CR} {kp de:GK} {yp dv:V} (e1:H1 d=some (GO w d kvs)) (g:GOk H1 kvs) (e2:kvs.map (·.1)=met) (e3:∀(i:Nat) p,kvs[i]?=some p→CameV H1 T met i p) (hk:k∉met) (hy:(GV H1 k).1 y) (h8:gd k≤8) (ht:H1 t=some (.tup [yp,dv])) (hp:(GV H1 kp).1 yp) (hp8:gd kp≤8) (hd:(GV H1 de).1 dv) (hd8:gd de≤8) (hm:kp∈met) (ha:T.2 kp de k)
  (tk:∀a l,H1 a=some (.tup l)→H' a=some (.tup l)) (hd':H' d=some (GO w d (vO kvs k y (.ref t)))):CameAt w H' d T (met++[k]):=by
 have g2:=(g.set (v:=.ref t) hy h8).keep tk;rw [BG (by rw [e2];exact hk)] at hd' g2;refine ⟨_,hd',g2,by rw [map_append,e2];rfl,fun i p hp'=>?_⟩
 by_cases hi:i<kvs.length
 ·rw [List.getElem?_append_left hi] at hp';exact (e3 i p hp').keep tk fun _ _ e=>rY e
 ·rw [List.getElem?_append_right (by omega)] at hp';have hz:i - kvs.length=0:=by have:=(List.getElem?_eq_some_iff.mp hp').1;rw [length_singleton] at this;omega
  rw [hz] at hp';cases hp';obtain ⟨j,hj⟩:=mem_iff_getElem?.mp hm;have hlt:=(List.getElem?_eq_some_iff.mp hj).1;have hl:kvs.length=met.length:=by rw [← e2,length_map]
  exact .inr ⟨t,yp,dv,kp,de,j,rfl,tk _ _ ht,(GV.keep tk kp).1 _ hp,hp8,(GV.keep tk de).1 _ hd,hd8,by omega,rY hj,ha⟩
theorem pB {met:List GK} {x:GK}:∀(ps:List (GK×GK)) (acc:List GK),x∈acc→x∈vU met acc ps
 |[],_,h=>h
 |p::ps,acc,h=>pB ps _ (by unfold yR;split;exact h;exact mem_append_left _ h)
theorem wP {T:Gr} {met:List GK} {x:GK}:∀(lay acc:List GK),x∈acc→x∈qK T met acc lay
 |[],_,h=>h
 |k::lay,acc,h=>wP lay _ (pB _ _ h)
theorem M5 {a b:List (GK×GK)}:vU met acc (a++b)=vU met (vU met acc a) b:=by unfold vU;rw [foldl_append]
theorem M6 {T:Gr} {a b:List GK}:qK T met acc (a++b)=qK T met (qK T met acc a) b:=by unfold qK;rw [foldl_append]
theorem rJ {T:Gr} {x:GK} (hk:lay[i]?=some k) (ha:Q7 T k=ps) (h:x∈vU met (qK T met [] (lay.take i)) (ps.take j)):x∈qK T met [] lay:=by
 have h1:x∈qK T met [] (lay.take (i+1)):=by
  rw [take_add_one,hk];show x∈qK T met [] (lay.take i++[k]);rw [pC,ha,← take_append_drop j ps,M5];exact pB _ _ h
 rw [← take_append_drop (i+1) lay,M6];exact wP _ _ h1
theorem BQ {T:Gr} {x:GK} {a b:Nat} (ha:x∈j3 T k0 a) (hb:x∈j3 T k0 b):a=b:=by
 have key:∀a b:Nat,a<b→x∈j3 T k0 a→x∈j3 T k0 b→False:=fun a b hab ha hb=>by
  obtain ⟨c,rfl⟩:∃c,b=c+1:=⟨b - 1,by omega⟩;rw [pI] at hb;have hn:=xX (T:=T) (k0:=k0) (c+1);rw [zZ,nodup_append] at hn;have hm:x∈(jP T k0 c).flatten:=by
   obtain ⟨e,rfl⟩:∃e,c=a+e:=⟨c - a,by omega⟩;clear hn hb hab
   induction e with
   |zero=>exact Q1 ha
   |succ e ih=>rw [show a+(e+1)=(a+e)+1 by omega,zZ];exact mem_append_left _ ih
  exact hn.2.2 x hm x hb rfl
 rcases Nat.lt_trichotomy a b with h|h|h
 ·exact (key a b h ha hb).elim
 ·exact h
 ·exact (key b a h hb ha).elim
def JO (T:Gr):GK→List GK→GK→Prop
 |a,[],c=>a=c
 |a,de::r,c=>∃b,(de,b)∈Q7 T a∧JO T b r c
theorem rE {α:Type} [DecidableEq α]:∀{l m:List α},l.Nodup→(∀x∈l,x∈m)→l.length≤m.length
 |[],_,_,_=>Nat.zero_le _
 |a::l,m,hn,hs=>by
  rw [nodup_cons] at hn;have h1:=hs a mem_cons_self;have ih:=rE (l:=l) (m:=m.erase a) hn.2 (fun x hx=>(mem_erase_of_ne (fun e:x=a=>hn.1 (by rw [← e];exact hx))).mpr (hs x (mem_cons_of_mem _ hx)));rw [length_erase_of_mem h1] at ih;have:0<m.length:=length_pos_of_mem h1;rw [length_cons];omega
structure NextIn (R0:CR) (w:World) (H Hi:Hp) (dc r:Addr) (T:Gr) (met acc:List GK):Prop where
 keep:lW dc H Hi
 rn:H r=none
 nr:r≠dc
 row:∃ys,Hi r=some (.lst ys)∧KeysAt Hi ys acc
 came:CameAt w Hi dc R0 (met++acc)
 dom:∀x∈acc,T.2 x
theorem NextIn.put {R0:CR} {Hj:Hp} {dc r t2:Addr} {T:Gr} {pr:GK×GK} {x b c:V} (h:NextIn R0 w H Hj dc r T met acc) (e1:Hj dc=some (GO w dc kvs)) (g:GOk Hj kvs) (e2:kvs.map (·.1)=met++acc) (e3:∀(i:Nat) p,kvs[i]?=some p→CameV Hj R0 (met++acc) i p) (er:Hj r=some (.lst ys)) (hks:KeysAt Hj ys acc)
  (hn:pr.2∉met++acc) (ht:Hj t2=none) (hx:(GV Hj k).1 x) (hx8:gd k≤8) (hm:k∈met) (hb:(GV Hj pr.1).1 b) (hb8:gd pr.1≤8) (hc:(GV Hj pr.2).1 c) (hc8:gd pr.2≤8) (ha:R0.2 k pr.1 pr.2) (hd:T.2 pr.2) :
  NextIn R0 w H (upd (upd (upd Hj t2 (.tup [x,b])) dc (GO w dc (vO kvs pr.2 c (.ref t2)))) r (.lst (ys++[c]))) dc r T met (acc++[pr.2]):=by
 have u:=jJ ht (.tup [x,b]);have tk1:∀a l,upd Hj t2 (.tup [x,b]) a=some (.tup l)→upd (upd (upd Hj t2 (.tup [x,b])) dc (GO w dc (vO kvs pr.2 c (.ref t2)))) r (.lst (ys++[c])) a=some (.tup l):=fun a l e=>by
  rw [jG (fun z=>by rw [z,u _ _ er] at e;cases e),jG (fun z=>by rw [z,u _ _ e1] at e;cases e)];exact e
 have tk:∀a l,Hj a=some (.tup l)→upd (upd (upd Hj t2 (.tup [x,b])) dc (GO w dc (vO kvs pr.2 c (.ref t2)))) r (.lst (ys++[c])) a=some (.tup l):=fun a l e=>tk1 a l (u _ _ e)
 refine ⟨fun a o n e=>?_,h.rn,h.nr,⟨_,jD,hks.snoc tk hc hc8⟩,?_,fun y hy=>?_⟩
 ·rw [jG (qV e h.rn),jG n];exact u _ _ (h.keep a o n e)
 ·have:=CameAt.put (H':=upd (upd (upd Hj t2 (.tup [x,b])) dc (GO w dc (vO kvs pr.2 c (.ref t2)))) r (.lst (ys++[c]))) (u _ _ e1) (cT u g) e2 (fun i p hp=>(e3 i p hp).keep (fun a l e=>u _ _ e) fun _ _ e=>e) hn (qW u hc) hc8 (show upd Hj t2 (.tup [x,b]) t2=_ from jD) (qW u hx) hx8 (qW u hb) hb8 (mem_append_left _ hm) ha
   tk1 (by rw [jG h.nr.symm,jD])
  rwa [append_assoc] at this
 ·rcases mem_append.mp hy with hy|hy
  ·exact h.dom y hy
  ·rw [mem_singleton.mp hy];exact hd
theorem cQ (hn:xs.length=n+1) (h:xs[n]?=some v):vC xs (-1)=some v:=by
 have e:zL xs.length (-1)=some n:=by
  unfold zL;rw [if_neg (by decide),if_pos (by omega)]
  congr 1
  omega
 unfold vC;rw [e];exact h
structure LayersAt (H:Hp) (lr:Addr) (L:List (List GK)):Prop where
 ex:∃xs,H lr=some (.lst xs)∧xs.length=L.length∧∀(j:Nat) x,xs[j]?=some x→∃a ys lay,x=.ref a∧a≠lr∧L[j]?=some lay∧H a=some (.lst ys)∧KeysAt H ys lay
variable {lr:Addr}
theorem LayersAt.same {L:List (List GK)} (s:Same H H') (h:LayersAt H lr L):LayersAt H' lr L:=by
 obtain ⟨xs,e1,e2,e3⟩:=h.ex;refine ⟨xs,s _ _ e1,e2,fun j x hx=>?_⟩;obtain ⟨a,ys,lay,f1,f2,f3,f4,f5⟩:=e3 j x hx;exact ⟨a,ys,lay,f1,f2,f3,s _ _ f4,f5.same s⟩
theorem LayersAt.keepB {dc:Addr} {L:List (List GK)} (s:lW dc H H') (hd:H dc=some (GO w dc kvs)) (h:LayersAt H lr L):LayersAt H' lr L:=by
 have any:∀a o,H a=some o→o≠GO w dc kvs→H' a=some o:=fun a o e n=>s a o (fun z=>n (by rw [z,hd] at e;cases e;rfl)) e
 obtain ⟨xs,e1,e2,e3⟩:=h.ex;refine ⟨xs,any _ _ e1 (fun z=>by cases z),e2,fun j x hx=>?_⟩;obtain ⟨a,ys,lay,f1,f2,f3,f4,f5⟩:=e3 j x hx;exact ⟨a,ys,lay,f1,f2,f3,any _ _ f4 (fun z=>by cases z),f5.keep fun a l e=>any _ _ e (fun z=>by cases z)⟩
theorem LayersAt.put {r:Addr} {L:List (List GK)} (h:LayersAt H lr L) (e:H lr=some (.lst xs)) (hr:H r=some (.lst ys)) (hk:KeysAt H ys lay) (n:r≠lr):LayersAt (upd H lr (.lst (xs++[.ref r]))) lr (L++[lay]):=by
 obtain ⟨xs',e1,e2,e3⟩:=h.ex;rw [e] at e1;cases e1
 have tk:∀a l,H a=some (.tup l)→upd H lr (.lst (xs++[.ref r])) a=some (.tup l):=fun a l e'=>by rw [jG (fun z=>by rw [z,e] at e';cases e')];exact e'
 refine ⟨_,jD,by rw [length_append,length_append,e2];rfl,fun j x hx=>?_⟩
 by_cases hj:j<xs.length
 ·rw [List.getElem?_append_left hj] at hx;obtain ⟨a,zs,l2,f1,f2,f3,f4,f5⟩:=e3 j x hx;exact ⟨a,zs,l2,f1,f2,rY f3,by rw [jG f2];exact f4,f5.keep tk⟩
 ·rw [List.getElem?_append_right (by omega)] at hx;have hz:j - xs.length=0:=by have:=(List.getElem?_eq_some_iff.mp hx).1;rw [length_singleton] at this;omega
  rw [hz] at hx;cases hx;exact ⟨r,ys,lay,rfl,n,by rw [List.getElem?_append_right (by omega),← e2,hz];rfl,by rw [jG n];exact hr,hk.keep tk⟩
theorem LayersAt.last {T:Gr} (h:LayersAt H lr (jP T k0 i)):∃xs a ys,H lr=some (.lst xs)∧vC xs (-1)=some (.ref a)∧a≠lr∧H a=some (.lst ys)∧KeysAt H ys (j3 T k0 i)∧xs.length=i+1:=by
 obtain ⟨xs,e1,e2,e3⟩:=h.ex;rw [ZJ] at e2;have hx:xs[i]?=some (xs[i]'(by omega)):=List.getElem?_eq_getElem (by omega);obtain ⟨a,ys,lay,f1,f2,f3,f4,f5⟩:=e3 i _ hx;rw [rG] at f3;cases f3
 exact ⟨xs,a,ys,e1,cQ e2 (by rw [hx,f1]),f2,f4,f5,e2⟩
theorem PN {T:CR} (hz:T.1 k) (e:H d=some (GO w d [(k,y,.non)])) (hy:(GV H k).1 y) (h8:gd k≤8):CameAt w H d T [k]:=by
 refine ⟨_,e,⟨fun p hp=>?_,fun p hp=>?_,by simp⟩,rfl,fun i p hp=>?_⟩
 ·cases mem_singleton.mp hp;exact hy
 ·cases mem_singleton.mp hp;exact h8
 ·cases i with
  |zero=>cases hp;exact .inl ⟨rfl,hz⟩
  |succ i=>cases hp
theorem wY {l1:Addr} (e:H lr=some (.lst [.ref l1])) (e1:H l1=some (.lst [y])) (n:l1≠lr) (hy:(GV H k).1 y) (h8:gd k≤8):LayersAt H lr [[k]]:=by
 refine ⟨_,e,rfl,fun j x hx=>?_⟩;cases j with
 |zero =>
  cases hx;refine ⟨l1,[y],[k],rfl,n,rfl,e1,rfl,fun i z hz=>?_⟩;cases i with
  |zero=>cases hz;exact ⟨k,rfl,hy,h8⟩
  |succ i=>cases hz
 |succ j=>cases hx
theorem OE {T:CR} (h:CameAt w H d T met) (e:H lr=some (.lst xs)):CameAt w (upd H lr o) d T met:=by
 obtain ⟨kvs,e1,g,e2,e3⟩:=h.ex;have tk:∀a l,H a=some (.tup l)→upd H lr o a=some (.tup l):=fun a l e'=>by rw [jG (fun z=>by rw [z,e] at e';cases e')];exact e'
 exact ⟨kvs,by rw [jG (fun z=>by rw [z,e] at e1;cases e1)];exact e1,g.keep tk,e2,fun i p hp=>(e3 i p hp).keep tk fun _ _ e=>e⟩
variable {M:GK→Bool}
theorem iZ {T:Gr} {N:Nat} (hN:∀j,j<N→¬JM T M k0 j) (hm:m+i=N) (h:JM T M k0 i):i=N:=by
 by_cases hi:i<N
 ·exact absurd h (hN i hi)
 ·omega
theorem bF {T:Gr} {M:GK→Bool} {k0:GK}:∀i,(∀j,j<i→¬JM T M k0 j)→i+1≤(jP T k0 i).flatten.length
 |0,_=>by simp [jP]
 |i+1,h=>by
  have ih:=bF i (fun j hj=>h j (by omega));rw [zZ,length_append];have:0<(J3 T k0 i).length:=length_pos_iff.mpr fun z=>h i (by omega) (.inr z)
  omega
theorem B3 {l:List GK}:l.any M = !(l.filter M).isEmpty:=by
 induction l with
 |nil=>rfl
 |cons a l ih =>
  rw [any_cons,filter_cons];cases M a with
  |true=>rfl
  |false=>simpa using ih
theorem none_of (s:Same H H') (h:H' a=none):H a=none:=by
 cases e:H a with
 |none=>rfl
 |some o=>have:=s _ _ e;rw [h] at this;cases this
def BA (w:World):Sp:=fun vs H Q _=>∃(d:Addr) (y:V) (T:Gr) (met:List GK) (k k0:GK) (j0:Nat),vs=[.ref d,y]∧CameAt w H d (uP T k0) met∧met.length≤1000∧(GV H k).1 y∧gd k≤8∧k∈met∧k∈j3 T k0 j0∧∀r xs des H',Same H H'→H r=none→H' r=some (.lst xs)→KeysAt H' xs des→JO T k0 des k→des.length=j0→Q (.ref r) H'
def ET (H:Hp) (d:Addr) (y:V) (r:Addr) (met:List GK) (T:Gr) (k k0:GK) (j0 m:Nat) (σ:St) (Hi:Hp):Prop:=∃sv xs rd c jc,σ=[some (.ref d),some y,some (.ref r),some sv]∧Same H Hi∧Hi r=some (.lst xs)∧KeysAt Hi xs rd∧rd.length+m≤1000∧JO T c rd.reverse k∧c∈j3 T k0 jc∧rd.length+jc=j0∧
 ((sv=.non∧c=k0)∨∃t yp dv kp de j,sv=.ref t∧Hi t=some (.tup [yp,dv])∧(GV Hi kp).1 yp∧gd kp≤8∧(GV Hi de).1 dv∧gd de≤8∧(de,c)∈Q7 T kp∧uE T k0 kp c∧met[j]?=some kp∧j<m)
theorem KeysAt.rev (h:KeysAt H xs ks):KeysAt H xs.reverse ks.reverse:=⟨by rw [length_reverse,length_reverse,h.1],fun i x e=>by
  have hi:=(List.getElem?_eq_some_iff.mp e).1;rw [length_reverse] at hi;rw [List.getElem?_reverse hi] at e;rw [List.getElem?_reverse (by rw [← h.1];exact hi),← h.1];exact h.2 _ x e⟩
def bX (spA:Addr→Sp) (H0:Hp) (f:Addr) (T:Gr):Prop:=∀(H:Hp) (y:V) (k:GK) (Q:VK) (E:XK),Same H0 H→T.2 k→(GV H k).1 y→(∀(r:Addr) (zs:List V) (H':Hp),Same H H'→H r=none→H' r=some (.lst zs)→zG H' zs (T.1 k)→Q (.ref r) H')→spA f [y] H Q E
def fS (spE:Addr→Sp) (H0:Hp) (f:Addr) (T:Gr) (M:GK→Bool):Prop:=∀(H:Hp) (y:V) (k:GK) (Q:VK) (E:XK),Same H0 H→T.2 k→(GV H k).1 y→(∀H',Same H H'→Q (.bl (M k)) H')→spE f [y] H Q E
def CC (w:World) (spA:Addr→Sp):Sp:=fun vs H Q _=>∃(l fa dc:Addr) (H0:Hp) (T:Gr) (xs:List V) (lay met:List GK) (R0:CR),vs=[.ref l,.ref fa,.ref dc]∧Same H0 H∧H0 dc=none∧bX spA H0 fa T∧Z2 T∧(met++qK T met [] lay).length≤1000∧
 H l=some (.lst xs)∧KeysAt H xs lay∧(∀k∈lay,k∈met)∧(∀k∈met,T.2 k)∧CameAt w H dc R0 met∧(∀kp∈lay,∀p∈T.1 kp,p.2∈qK T met [] lay→R0.2 kp p.1 p.2)∧
 ∀r ys H',H r=none→r≠dc→lW dc H H'→H' r=some (.lst ys)→KeysAt H' ys (qK T met [] lay)→CameAt w H' dc R0 (met++qK T met [] lay)→Q (.ref r) H'
def wU (w:World) (spA spE:Addr→Sp) (eW:Addr):Sp:=fun vs H Q E=>∃(y:V) (fa fe:Addr) (most:Int) (T:Gr) (M:GK→Bool) (k0:GK) (N:Nat),vs=[y,.ref fa,.ref fe,.int most]∧
 bX spA H fa T∧fS spE H fe T M∧Z2 T∧(∀i,i≤N+1→(jP T k0 i).flatten.length≤1000)∧(GV H k0).1 y∧gd k0≤8∧T.2 k0∧(∀j,j<N→¬JM T M k0 j)∧(JM T M k0 N∨most<(((jP T k0 N).flatten.length:Nat):Int))∧
 ((((jP T k0 N).flatten.length:Nat):Int)≤most→(j3 T k0 N).any M=true→∀t rr lr xs des kf H',Same H H'→H' t=some (.tup [.str "found",.ref rr,.ref lr])→H' rr=some (.lst xs)→KeysAt H' xs des→JO T k0 des kf→M kf=true→des.length=N→LayersAt H' lr (jP T k0 N)→H rr=none→H lr=none→H t=none→rr≠lr→Q (.ref t) H')∧
 ((((jP T k0 N).flatten.length:Nat):Int)≤most→(j3 T k0 N).any M=false→∀t lr H',Same H H'→H' t=some (.tup [.str "closed",.ref lr])→LayersAt H' lr (jP T k0 N)→H lr=none→H t=none→Q (.ref t) H')∧
 (most<(((jP T k0 N).flatten.length:Nat):Int)→∀H',Same H H'→E (.ref eW) none H')
def E8 (w:World) (H:Hp) (y:V) (fa fe:Addr) (most:Int) (dc lr:Addr) (T:Gr) (k0:GK) (N m:Nat) (σ:St) (Hi:Hp):Prop:=∃i c6 c7,σ=[some y,some (.ref fa),some (.ref fe),some (.int most),some (.ref dc),some (.ref lr),c6,c7]∧m+i=N∧Same H Hi∧CameAt w Hi dc (uP T k0) (jP T k0 i).flatten∧LayersAt Hi lr (jP T k0 i)
def behind (T:Gr) (k de:GK):List GK:=((T.1 k).filter fun p=>decide (p.1=de)).map (·.2)
def lM (T:Gr):GK→List GK→Option GK
 |k,[]=>some k
 |k,de::r=>match behind T k de with
  |[]=>none
  |k'::_=>lM T k' r
def EA (T:Gr) (M:GK→Bool) (k:GK) (r:List GK):Bool:=match lM T k r with
 |none=>false
 |some k'=>M k'
def vZ:List Int→GK
 |[]=>.nil
 |n::r=>.cons (.i n) (vZ r)
def jZ (s:yF):GK:=.cons (.i s.1) (.cons (vZ s.2.1) (.cons (vZ (s.2.2.map fun (p:Nat)=>(p:Int))) .nil))
def yS:Deed→GK
 |.pass b=>.cons (.s "pass") (.cons (.i (b:Int)) .nil)
 |.let k=>.cons (.s "let") (.cons (.i (k:Int)) .nil)
 |.night=>.cons (.s "night") .nil
theorem BV {H:Hp}:∀ms:List Int,(GV H (vZ ms)).2 (ms.map V.int)
 |[]=>rfl
 |n::r=>⟨_,_,rfl,rfl,BV r⟩
theorem C2 (h:H t=some (.tup (ms.map V.int))):(GV H (vZ ms)).1 (.ref t):=by
 cases ms with
 |nil=>exact ⟨t,rfl,h⟩
 |cons n r=>exact ⟨t,_,rfl,h,_,_,rfl,rfl,BV r⟩
theorem rZ:∀ms:List Int,gd (vZ ms)≤2
 |[]=>by show 1≤2;omega
 |n::r=>by
  show max (1+1) (gd (vZ r))≤2;have:=rZ r;omega
theorem lU (s:yF):gd (jZ s)≤8:=by
 show max (1+1) (max (gd (vZ s.2.1)+1) (max (gd (vZ _)+1) 1))≤8;have:=rZ s.2.1;have:=rZ (s.2.2.map fun (p:Nat)=>(p:Int));omega
theorem ER (de:Deed):gd (yS de)≤8:=by cases de<;>(show _≤_;simp [yS,gd])
theorem fI {s:yF} (h:StAt H t s.1 s.2.1 s.2.2):(GV H (jZ s)).1 (.ref t):=by
 obtain ⟨wt,pt,h1,h2,h3⟩:=h;refine ⟨t,_,rfl,h1,_,_,rfl,rfl,_,_,rfl,C2 h2,_,_,rfl,C2 ?_,rfl⟩;rw [map_map];exact h3
theorem EQ (h:H t=some (.tup (ZW de))):(GV H (yS de)).1 (.ref t):=by
 cases de with
 |pass b=>exact ⟨t,_,rfl,h,_,_,rfl,rfl,_,_,rfl,rfl,rfl⟩
 |«let» k=>exact ⟨t,_,rfl,h,_,_,rfl,rfl,_,_,rfl,rfl,rfl⟩
 |night=>exact ⟨t,_,rfl,h,_,_,rfl,rfl,rfl⟩
noncomputable def zO (R:List RC) (L:List LC) (N:List (List (Int×Int))) (ys:List j4) (s:yF) (ds:List Deed):List (GK×GK):=ds.map fun de=>(yS de,jZ (J0 R L N ys s de))
def yL (ck:Kd→Addr) (cR cN:Addr):List Addr→List V→Sp:=fun cs fvs vs H Q _=>∃(x wl st:Addr) (H0:Hp) (us:List V) (ys:List j4) (d:Int) (ms:List Int) (pl:List Nat) (D:List Addr) (R:List RC) (L:List LC) (N:List (List (Int×Int))),fvs=[.ref wl,.ref x]∧vs=[.ref st]∧Same H0 H∧(∀c∈cs,H0 c=none)∧CnAt ck cR cN D H0 x R L N∧Drawn R L N∧H0 wl=some (.lst us)∧AllAt (WyAt H0) us ys∧StAt H st d ms pl∧Fleet L ys pl∧ms.length=R.length+2*L.length+2∧0≤d∧
 ∀(r:Addr) (zs:List V) (H':Hp),Same H H'→H r=none→H' r=some (.lst zs)→zG H' zs (zO R L N ys (d,ms,pl) (v9 R L N.length ys d ms pl))→Q (.ref r) H'
theorem pR:∀{a b:List Int},vZ a=vZ b→a=b
 |[],[],_=>rfl
 |[],y::b,h=>by
  have h:GK.nil=GK.cons (.i y) (vZ b):=h;cases h
 |x::a,[],h=>by
  have h:GK.cons (.i x) (vZ a)=GK.nil:=h;cases h
 |x::a,y::b,h=>by
  have h:GK.cons (.i x) (vZ a)=GK.cons (.i y) (vZ b):=h;injection h with h1 h2
  injection h1 with h1
  rw [h1,pR h2]
theorem BN:∀{a b:List Nat},(a.map fun (p:Nat)=>(p:Int))=(b.map fun (p:Nat)=>(p:Int))→a=b
 |[],[],_=>rfl
 |[],y::b,h=>by cases h
 |x::a,[],h=>by cases h
 |x::a,y::b,h=>by
  rw [map_cons,map_cons] at h;injection h with h1 h2
  rw [BN h2,show x=y by omega]
theorem P4 {s t:yF} (h:jZ s=jZ t):s=t:=by
 obtain ⟨d,ms,pl⟩:=s;obtain ⟨d',ms',pl'⟩:=t;have h:GK.cons (.i d) (.cons (vZ ms) (.cons (vZ (pl.map fun (p:Nat)=>(p:Int))) .nil))=GK.cons (.i d') (.cons (vZ ms') (.cons (vZ (pl'.map fun (p:Nat)=>(p:Int))) .nil)):=h;injection h with h1 h2
 injection h1 with h1
 injection h2 with h2 h3
 injection h3 with h3 _
 rw [h1,pR h2,BN (pR h3)]
theorem ZL {a b:Str} {x y:GK} (h:GK.cons (.s a) x=GK.cons (.s b) y):a=b∧x=y:=by
 injection h with h1 h2
 injection h1 with h1
 exact ⟨h1,h2⟩
theorem DC {a b:Int} {x y:GK} (h:GK.cons (.i a) x=GK.cons (.i b) y):a=b:=by
 injection h with h1 h2
 injection h1 with h1
theorem DD {a b:Deed} (h:yS a=yS b):a=b:=by
 cases a with
 |pass i =>
  cases b with
  |pass j=>have e:=DC (ZL h).2;rw [show i=j by omega]
  |«let» j=>exact absurd (ZL h).1 (by decide +kernel)
  |night=>exact absurd (ZL h).1 (by decide +kernel)
 |«let» i =>
  cases b with
  |pass j=>exact absurd (ZL h).1 (by decide +kernel)
  |«let» j=>have e:=DC (ZL h).2;rw [show i=j by omega]
  |night=>exact absurd (ZL h).1 (by decide +kernel)
 |night =>
  cases b with
  |pass j=>exact absurd (ZL h).1 (by decide +kernel)
  |«let» j=>exact absurd (ZL h).1 (by decide +kernel)
  |night=>rfl
noncomputable def JP (k:GK):yF:=open Classical in if h:∃s,k=jZ s then Classical.choose h else (0,[],[])
theorem B9 (s:yF):JP (jZ s)=s:=by
 have h:∃t,jZ s=jZ t:=⟨s,rfl⟩;unfold JP;rw [dif_pos h];exact (P4 (Classical.choose_spec h)).symm
def t7 (R:List RC) (L:List LC) (ys:List j4) (s:yF):Prop:=0≤s.1∧Fleet L ys s.2.2∧s.2.1.length=R.length+2*L.length+2
noncomputable def kM (R:List RC) (L:List LC) (N:List (List (Int×Int))) (ys:List j4):Gr:=(fun k=>zO R L N ys (JP k) (v9 R L N.length ys (JP k).1 (JP k).2.1 (JP k).2.2),fun k=>∃s,k=jZ s∧t7 R L ys s)
noncomputable def vQ (ys:List j4) (k:GK):Bool:=decide (ZT ys (JP k).2.2=0)
section
variable {R:List RC} {L:List LC} {N:List (List (Int×Int))} {ys:List j4}
theorem sY (s:yF):(kM R L N ys).1 (jZ s)=zO R L N ys s (v9 R L N.length ys s.1 s.2.1 s.2.2):=by
 show zO R L N ys (JP (jZ s)) (v9 R L N.length ys (JP (jZ s)).1 (JP (jZ s)).2.1 (JP (jZ s)).2.2)=_;rw [B9]
theorem EB (s:yF):vQ ys (jZ s)=decide (ZT ys s.2.2=0):=by
 unfold vQ;rw [B9]
theorem rX {s:yF} {p:GK×GK} (h:p∈(kM R L N ys).1 (jZ s)):∃de,p=(yS de,jZ (J0 R L N ys s de))∧de∈yX ys.length L.length∧v0 R L N.length ys s.1 s.2.1 s.2.2 de="":=by
 rw [sY] at h;obtain ⟨de,hd,rfl⟩:=mem_map.mp h;exact ⟨de,rfl,(mem_filter.mp hd).1,of_decide_eq_true (mem_filter.mp hd).2⟩
theorem RY (k:GK):((kM R L N ys).1 k).length≤ys.length+L.length+1:=by
 have h:∀s:yF,(zO R L N ys s (v9 R L N.length ys s.1 s.2.1 s.2.2)).length≤ys.length+L.length+1:=fun s=>by
  unfold zO;rw [length_map];have h1:=length_filter_le (fun de=>decide (v0 R L N.length ys s.1 s.2.1 s.2.2 de="")) (yX ys.length L.length);rw [iD] at h1;exact h1
 exact h (JP k)
theorem SJ {ms:List Int} (hd:Drawn R L N) (hm:ms.length=R.length+2*L.length+2):∃gs,Spl (qA R L.length) ms gs:=MM (pW (iC (m:=L.length) (cK hd))) (by rw [bC];omega) (by rw [hm];exact xP (cK hd))
theorem TD {d:Int} (h:0≤d) (de:Deed):0≤ZX d de:=by
 cases de with
 |night=>show 0≤d+1;omega
 |«let» j=>exact h
 |pass b=>exact h
theorem O2 {s:yF} {de:Deed} (hd:Drawn R L N) (h:t7 R L ys s) (hw:v0 R L N.length ys s.1 s.2.1 s.2.2 de=""):t7 R L ys (J0 R L N ys s de):=by
 obtain ⟨h1,h2,h3⟩:=h;obtain ⟨gs,hS⟩:=SJ (ms:=kJ s.2.1 (QU R L N ys s.1 s.2.1 s.2.2 de)) hd (by rw [JU];exact h3);rw [rW hd h3 hS];exact ⟨TD h1 de,PD h2 hw,by show (kJ _ _).length=_;rw [JU];exact h3⟩
theorem tM (hd:Drawn R L N):Z2 (kM R L N ys):=by
 rintro k p ⟨s,rfl,hs⟩ hp;obtain ⟨de,rfl,hin,hw⟩:=rX hp;exact ⟨_,rfl,O2 hd hs hw⟩
theorem x0:∀(r:List GK) (s:yF) (kf:GK),JO (kM R L N ys) (jZ s) r kf→lM (kM R L N ys) (jZ s) r=some kf
 |[],s,kf,e=>by
  have e:jZ s=kf:=e;subst e;rfl
 |de::r,s,kf,⟨b,hb,e⟩=>by
  obtain ⟨dd,eq,hin,hw⟩:=rX hb;cases eq;have hm:jZ (J0 R L N ys s dd)∈behind (kM R L N ys) (jZ s) (yS dd):=mem_map.mpr ⟨_,mem_filter.mpr ⟨hb,decide_eq_true rfl⟩,rfl⟩;have hall:∀x∈behind (kM R L N ys) (jZ s) (yS dd),x=jZ (J0 R L N ys s dd):=fun x hx=>by
   obtain ⟨p,hp,rfl⟩:=mem_map.mp hx;obtain ⟨hp1,hp2⟩:=mem_filter.mp hp;obtain ⟨d2,rfl,_,_⟩:=rX hp1;have hp2:yS d2=yS dd:=of_decide_eq_true hp2;rw [DD hp2]
  rw [lM];cases hb2:behind (kM R L N ys) (jZ s) (yS dd) with
  |nil=>rw [hb2] at hm;cases hm
  |cons x l =>
   have hx:=hall x (by rw [hb2];exact mem_cons_self);subst hx;exact x0 r _ kf e
theorem VX {r:List GK} {s:yF} {kf:GK} (h:JO (kM R L N ys) (jZ s) r kf) (hm:vQ ys kf=true):EA (kM R L N ys) (vQ ys) (jZ s) r=true:=by
 unfold EA;rw [x0 r s kf h];exact hm
end
theorem xA {met:List GK}:∀(ps:List (GK×GK)) (acc:List GK),(vU met acc ps).length≤acc.length+ps.length
 |[],acc=>Nat.le_refl _
 |p::ps,acc=>by
  have h:=xA (met:=met) ps (yR met acc p);have h2:(yR met acc p).length≤acc.length+1:=by
   unfold yR
   split
   ·omega
   ·rw [length_append];exact Nat.le_refl _
  show (vU met (yR met acc p) ps).length≤acc.length+(ps.length+1);omega
theorem xC {T:Gr} {met:List GK} {m:Nat} (hm:∀k,(T.1 k).length≤m):∀(lay acc:List GK),(qK T met acc lay).length≤acc.length+lay.length*m
 |[],acc=>by rw [length_nil,Nat.zero_mul];exact Nat.le_refl _
 |k::lay,acc=>by
  have h:=xC (T:=T) (met:=met) hm lay (vU met acc (T.1 k));have h1:=xA (met:=met) (T.1 k) acc;have h2:=hm k;show (qK T met (vU met acc (T.1 k)) lay).length≤_;rw [length_cons,Nat.succ_mul];omega
theorem iU {T:Gr}:∀i,(j3 T k0 i).length≤(jP T k0 i).flatten.length
 |0=>by simp [j3,jP]
 |i+1=>by rw [pI,zZ,length_append];omega
theorem pS {T:Gr} (hm:∀k,(T.1 k).length≤m) (i:Nat):(jP T k0 (i+1)).flatten.length≤(jP T k0 i).flatten.length*(m+1):=by
 have h:=xC (T:=T) (met:=(jP T k0 i).flatten) hm (j3 T k0 i) [];have h2:=Nat.mul_le_mul_right m (iU (T:=T) (k0:=k0) i);rw [zZ,length_append,Nat.mul_succ];have h3:(J3 T k0 i).length≤0+(j3 T k0 i).length*m:=h;omega
theorem PH {P:Nat→Prop} (n:Nat) (h:P n):∃N,P N∧∀j,j<N→¬P j:=by
 have key:∀n,(∃N,P N∧∀j,j<N→¬P j)∨∀j,j<n→¬P j:=fun n=>by
  induction n with
  |zero=>exact .inr fun j hj=>absurd hj (Nat.not_lt_zero _)
  |succ n ih =>
   rcases ih with ih|ih
   ·exact .inl ih
   ·rcases Classical.em (P n) with hp|hp
    ·exact .inl ⟨n,hp,ih⟩
    ·refine .inr fun j hj=>?_
     rcases Nat.lt_or_eq_of_le (Nat.le_of_lt_succ hj) with h|h
     ·exact ih j h
     ·rw [h];exact hp
 rcases key (n+1) with h1|h1
 ·exact h1
 ·exact absurd h (h1 n (Nat.lt_succ_self _))
def noT (H:Hp):Hp:=fun b=>match H b with
 |some (.tbl _)=>none
 |o=>o
theorem vL (e:H b=some o) (n:∀q,o≠.tbl q):noT H b=some o:=by
 unfold noT;rw [e];cases o with
 |tbl q=>exact absurd rfl (n q)
 |_=>rfl
theorem sX (e:noT H b=some o):H b=some o∧∀q,o≠.tbl q:=by
 unfold noT at e;cases h:H b with
 |none=>rw [h] at e;cases e
 |some u =>
  rw [h] at e;cases u with
  |tbl q=>cases e
  |_=>cases e;exact ⟨rfl,fun q z=>nomatch z⟩
theorem O0 (h:H b=none):noT H b=none:=by unfold noT;rw [h]
theorem OZ (s:Same H H'):Same (noT H) H':=fun b o e=>s b o (sX e).1
theorem x8 (s:Same (noT H) H1) (s':Same (noT H1) H'):Same (noT H) H':=fun b o e=>s' b o (vL (s b o e) (sX e).2)
theorem rF {q:Array Value} (h:H t=some (.tbl q)) (k:∀b o,H b=some o→b≠t→H' b=some o):Same (noT H) H':=fun b o e=>by
 obtain ⟨e1,e2⟩:=sX e;exact k b o e1 fun z=>by rw [z,h] at e1;cases e1;exact e2 _ rfl
theorem RcO.noT (v:V) (r:RC):RcO cR H v r→RcO cR (noT H) v r:=fun ⟨x,h1,dx,fs,h2,h3⟩=>⟨x,h1,dx,fs,vL h2 (fun _ z=>nomatch z),h3⟩
theorem LkO.noT (v:V) (l:LC):LkO cs H v l→LkO cs (noT H) v l:=fun ⟨x,h1,dx,h2⟩=>⟨x,h1,dx,vL h2 (fun _ z=>nomatch z)⟩
theorem QAt.noT (v:V) (p:Int×Int):QAt H v p→QAt (noT H) v p:=fun ⟨t,h1,h2⟩=>⟨t,h1,vL h2 (fun _ z=>nomatch z)⟩
theorem NAt.noT (v:V) (p:List (Int×Int)):NAt D H v p→NAt D (noT H) v p:=fun ⟨l,qs,h1,h2,h3,h4⟩=>⟨l,qs,h1,vL h2 (fun _ z=>nomatch z),h3.mono QAt.noT,h4⟩
theorem CnAt.noT (h:CnAt cs cR cN D H x R L N):CnAt cs cR cN D (noT H) x R L N:=by
 obtain ⟨dx,rl,ll,nl,fs,rs,ls,ns,h1,h2,h3,h4,h5,h6,h7,h8,h9⟩:=h;exact ⟨dx,rl,ll,nl,fs,rs,ls,ns,vL h1 (fun _ z=>nomatch z),h2,vL h3 (fun _ z=>nomatch z),vL h4 (fun _ z=>nomatch z),vL h5 (fun _ z=>nomatch z),h6.mono RcO.noT,h7.mono LkO.noT,h8.mono NAt.noT,h9⟩
theorem PAt.noT (v:V) (p:Nat×Bool):PAt H v p→PAt (noT H) v p:=fun ⟨t,h1,h2⟩=>⟨t,h1,vL h2 (fun _ z=>nomatch z)⟩
theorem WyAt.noT (v:V) (y:j4):WyAt H v y→WyAt (noT H) v y:=fun ⟨t,st,us,h1,h2,h3,h4⟩=>⟨t,st,us,h1,vL h2 (fun _ z=>nomatch z),vL h3 (fun _ z=>nomatch z),h4.mono PAt.noT⟩
theorem StAt.noT {d:Int} (h:StAt H t d ms pl):StAt (noT H) t d ms pl:=by
 obtain ⟨wt,pt,h1,h2,h3⟩:=h;exact ⟨wt,pt,vL h1 (fun _ z=>nomatch z),vL h2 (fun _ z=>nomatch z),vL h3 (fun _ z=>nomatch z)⟩
theorem Stage.noT {ys:List j4} {d:Int} (h:Stage cs cR cN D H x wl st us R L N ys d ms pl):Stage cs cR cN D (noT H) x wl st us R L N ys d ms pl:=⟨h.cn.noT,h.dr,vL h.wls (fun _ z=>nomatch z),h.wys.mono WyAt.noT,h.sts.noT,h.fl,h.ml⟩
variable {q:Str}
theorem wM {T:Addr} (s:Same H H') (h:JL H T pos q):JL H' T pos q:=by
 rcases h with h|⟨c,oc,vs,t,h1,h2,h3,h4⟩
 ·exact .inl (s _ _ h)
 ·exact .inr ⟨c,oc,vs,t,s _ _ h1,s _ _ h2,h3,h4⟩
theorem wZ {T:Addr} (h:JL H T pos q):∃z,H T=some (.tbl z):=by
 rcases h with h|⟨c,oc,vs,t,h1,h2,h3,h4⟩
 ·exact ⟨_,h⟩
 ·exact ⟨_,h1⟩
theorem iE {T T':Addr} {z:Array Value} (n:T≠T') (h':H T'=some (.tbl z)) (k:∀b o,H b=some o→b≠T'→H' b=some o) (h:JL H T pos q):JL H' T pos q:=by
 rcases h with h|⟨c,oc,vs,t,h1,h2,h3,h4⟩
 ·exact .inl (k _ _ h n)
 ·exact .inr ⟨c,oc,vs,t,k _ _ h1 n,k _ _ h2 (fun e=>by rw [e,h'] at h2;cases h2),h3,h4⟩
variable {f:Addr} {cl:List (Str×Addr)} {cdv:Value}
theorem N1 {qual:Str} {params:Arguments} {body:Expr} {scope:Scope} (h:LamAt H f qual params body scope cl cdv):LamAt (noT H) f qual params body scope cl cdv:=by
 obtain ⟨⟨fo,name,pm,ct,h1,h2⟩,⟨c,oc,vs,t,h3,h4,h5,h6⟩⟩:=h;exact ⟨⟨fo,name,pm,ct,vL h1 (fun _ z=>nomatch z),h2⟩,⟨c,oc,vs,t,h3,vL h4 (fun _ z=>nomatch z),h5,h6⟩⟩
theorem pJ {qual:Str} {params:Arguments} {body:Expr} {scope:Scope} (s:Same H H') (h:LamAt H f qual params body scope cl cdv):LamAt H' f qual params body scope cl cdv:=by
 obtain ⟨⟨fo,name,pm,ct,h1,h2⟩,⟨c,oc,vs,t,h3,h4,h5,h6⟩⟩:=h;exact ⟨⟨fo,name,pm,ct,s _ _ h1,h2⟩,⟨c,oc,vs,t,h3,s _ _ h4,h5,h6⟩⟩
theorem MF {fvs:List V} (h:CellsAt H cl fvs):CellsAt (noT H) cl fvs:=⟨h.once,h.len,fun i x c v h1 h2=>by
 obtain ⟨o,u,e1,e2⟩:=h.cell i x c v h1 h2;exact ⟨o,u,vL e1 (fun _ z=>nomatch z),e2⟩⟩
theorem o5 {fvs:List V} (s:Same H H') (h:CellsAt H cl fvs):CellsAt H' cl fvs:=⟨h.once,h.len,fun i x c v h1 h2=>by
 obtain ⟨o,u,e1,e2⟩:=h.cell i x c v h1 h2;exact ⟨o,u,s _ _ e1,e2⟩⟩
theorem BS {H:Hp}:∀(ms:List Int) (xs:List V),(GV H (vZ ms)).2 xs→xs=ms.map V.int
 |[],xs,h=>h
 |n::r,xs,h=>by
  obtain ⟨a,b,rfl,e1,e2⟩:=h;have e1:a=.int n:=e1;rw [e1,BS r b e2];rfl
theorem C1 (h:(GV H (vZ ms)).1 y):∃t,y=.ref t∧H t=some (.tup (ms.map V.int)):=by
 cases ms with
 |nil =>
  obtain ⟨t,rfl,h⟩:=h;exact ⟨t,rfl,h⟩
 |cons n r =>
  obtain ⟨t,xs,rfl,h1,h2⟩:=h;exact ⟨t,rfl,by rw [h1,BS (n::r) xs h2]⟩
theorem dM {s:yF} (h:(GV H (jZ s)).1 y):∃t,y=.ref t∧StAt H t s.1 s.2.1 s.2.2:=by
 obtain ⟨t,xs,rfl,h1,a,b,rfl,e1,a2,b2,rfl,e2,a3,b3,rfl,e3,e4⟩:=h;have e1:a=.int s.1:=e1;have e4:b3=[]:=e4;obtain ⟨w,rfl,hw⟩:=C1 e2;obtain ⟨p,rfl,hp⟩:=C1 e3;subst e1 e4;refine ⟨t,rfl,w,p,h1,hw,?_⟩;rw [hp,map_map];rfl
structure Tabs (H:Hp) (tA tH:Addr) (pA pH:Pos):Prop where
 ne:tA≠tH
 a:JL H tA pA "ahead_on.<locals>.<lambda>"
 h:JL H tH pH "homecoming.<locals>.<lambda>"
variable {tA tH:Addr}
theorem Tabs.same {pA pH:Pos} (s:Same H H') (h:Tabs H tA tH pA pH):Tabs H' tA tH pA pH:=⟨h.ne,wM s h.a,wM s h.h⟩
theorem TF {ck:Kd→Addr} {lp:Arguments} {lb:Expr} {ls:Scope} {Hm:Hp} {ys:List j4} {d:Int} (hG:Stage ck cR cN D H0 x wl st us R L N ys d ms pl) (s0:Same H0 Hm) (hc:∀c∈cl.map (·.2),H0 c=none) (hL:LamAt Hm f "ahead_on.<locals>.<lambda>" lp lb ls cl cdv) (hn:cl.map (·.1)=([("ways":Str),"canal"]:List Str)) (hC:CellsAt Hm cl [.ref wl,.ref x]) :
  bX (JB "ahead_on.<locals>.<lambda>" lp lb ls ["ways","canal"] (yL ck cR cN)) Hm f (kM R L N ys):=by
 rintro H y k Q E s ⟨t,rfl,h1,h2,h3⟩ hy q;obtain ⟨a,rfl,hst⟩:=dM hy;refine ⟨_,rfl,cl,_,cdv,pJ s hL,o5 s hC,hn,x,wl,a,H0,us,ys,t.1,t.2.1,t.2.2,D,R,L,N,rfl,rfl,s0.trans s,hc,hG.cn,hG.dr,hG.wls,hG.wys,hst,h2,h3,h1,fun r zs H' s' hr0 hr hP=>q r zs H' s' hr0 hr ?_⟩;rw [sY];exact hP
theorem TB {lp:Arguments} {lb:Expr} {ls:Scope} {ck:Kd→Addr} {Hm:Hp} {ys:List j4} {d:Int} (hG:Stage ck cR cN D H0 x wl st us R L N ys d ms pl) (s0:Same H0 Hm) (hc:∀c∈cl.map (·.2),H0 c=none) (hL:LamAt Hm f "homecoming.<locals>.<lambda>" lp lb ls cl cdv) (hn:cl.map (·.1)=[("ways":Str)]) (hC:CellsAt Hm cl [.ref wl]) :
  fS (JB "homecoming.<locals>.<lambda>" lp lb ls ["ways"] zX) Hm f (kM R L N ys) (vQ ys):=by
 rintro H y k Q E s ⟨t,rfl,h1,h2,h3⟩ hy q;obtain ⟨a,rfl,hst⟩:=dM hy;refine ⟨_,rfl,cl,_,cdv,pJ s hL,o5 s hC,hn,wl,a,H0,us,ys,t.1,t.2.1,t.2.2,L,rfl,rfl,s0.trans s,hc,hG.wls,hG.wys,hst,h2,fun H' s'=>?_⟩;have:=q H' s';rw [EB] at this;exact this
def DM:Sp:=fun vs H Q _=>∃(wl st:Addr) (us:List V) (ys:List j4) (d:Int) (ms:List Int) (pl:List Nat) (L:List LC),vs=[.ref wl,.ref st]∧H wl=some (.lst us)∧AllAt (WyAt H) us ys∧StAt H st d ms pl∧Fleet L ys pl∧∀H',Same H H'→Q (.int (ZT ys pl)) H'
def DN:Sp:=fun vs H Q _=>∃(wl st:Addr) (us:List V) (ys:List j4) (d:Int) (ms:List Int) (pl:List Nat) (L:List LC),vs=[.ref wl,.ref st]∧H wl=some (.lst us)∧AllAt (WyAt H) us ys∧StAt H st d ms pl∧Fleet L ys pl∧∀H',Same H H'→Q (.bl (decide (ZT ys pl=0))) H'
theorem MZ {T:Gr} {most:Int} (hmost:most≤16) (hm:∀k,(T.1 k).length≤5):∃N,(∀j,j<N→¬JM T M k0 j)∧(JM T M k0 N∨most<(((jP T k0 N).flatten.length:Nat):Int))∧∀i,i≤N+1→(jP T k0 i).flatten.length≤1000:=by
 have h16:∃n,JM T M k0 n∨most<(((jP T k0 n).flatten.length:Nat):Int):=by
  rcases Classical.em (∃n,n<16∧JM T M k0 n) with ⟨n,_,h⟩|h
  ·exact ⟨n,.inl h⟩
  ·have:=bF (T:=T) (M:=M) (k0:=k0) 16 fun j hj hs=>h ⟨j,hj,hs⟩
   exact ⟨16,.inr (by omega)⟩
 obtain ⟨n,hn⟩:=h16;obtain ⟨N,hN,hlow⟩:=PH (P:=fun n=>JM T M k0 n∨most<(((jP T k0 n).flatten.length:Nat):Int)) n hn;refine ⟨N,fun j hj hs=>hlow j hj (.inl hs),hN,fun i hi=>?_⟩;have top:(jP T k0 (N+1)).flatten.length≤1000:=by
  cases N with
  |zero =>
   have h1:=pS (T:=T) (k0:=k0) hm 0;have h0:(jP T k0 0).flatten.length=1:=by simp [jP]
   omega
  |succ m =>
   have h1:=pS (T:=T) (k0:=k0) hm m;have h2:=pS (T:=T) (k0:=k0) hm (m+1);have h3:¬(most<(((jP T k0 m).flatten.length:Nat):Int)):=fun z=>hlow m (Nat.lt_succ_self _) (.inr z)
   omega
 obtain ⟨e,he⟩:∃e,N+1=i+e:=⟨N+1 - i,by omega⟩;have:=iN (T:=T) (k0:=k0) (i:=i) e;rw [← he] at this;omega
structure FirstM (T:Gr) (M:GK→Bool) (k0:GK) (most:Int) (N:Nat):Prop where
 fit:∀i,i≤N+1→(jP T k0 i).flatten.length≤1000
 low:∀j,j<N→¬JM T M k0 j
 stop:JM T M k0 N∨most<(((jP T k0 N).flatten.length:Nat):Int)
theorem OA {T:Gr} {most:Int} (hmost:most≤16) (hm:∀k,(T.1 k).length≤5):∃N,FirstM T M k0 most N:=by
 obtain ⟨N,h1,h2,h3⟩:=MZ (M:=M) (k0:=k0) hmost hm;exact ⟨N,h3,h1,h2⟩
def CF (cs:Kd→Addr) (cR cN tA tH:Addr) (pA pH:Pos) (eW:Addr):Sp:=fun vs H Q E=>∃(x wl st:Addr) (us:List V) (ys:List j4) (d:Int) (ms:List Int) (pl:List Nat) (D:List Addr) (R:List RC) (L:List LC) (N:List (List (Int×Int))) (NN:Nat) (most:Int),vs=[.ref x,.ref wl,.ref st,.int most]∧Stage cs cR cN D H x wl st us R L N ys d ms pl∧0≤d∧Tabs H tA tH pA pH∧FirstM (kM R L N ys) (vQ ys) (jZ (d,ms,pl)) most NN∧
 ((((jP (kM R L N ys) (jZ (d,ms,pl)) NN).flatten.length:Nat):Int)≤most→(j3 (kM R L N ys) (jZ (d,ms,pl)) NN).any (vQ ys)=true→∀(t rr lr:Addr) (xs:List V) (des:List GK) (kf:GK) (H':Hp),Same (noT H) H'→Tabs H' tA tH pA pH→H' t=some (.tup [.str "home",.ref rr,.ref lr])→H' rr=some (.lst xs)→KeysAt H' xs des→JO (kM R L N ys) (jZ (d,ms,pl)) des kf→vQ ys kf=true→des.length=NN→LayersAt H' lr (jP (kM R L N ys) (jZ (d,ms,pl)) NN)→noT H rr=none→noT H lr=none→rr≠lr→Q (.ref t) H')∧
 ((((jP (kM R L N ys) (jZ (d,ms,pl)) NN).flatten.length:Nat):Int)≤most→(j3 (kM R L N ys) (jZ (d,ms,pl)) NN).any (vQ ys)=false→∀(t lr:Addr) (H':Hp),Same (noT H) H'→Tabs H' tA tH pA pH→H' t=some (.tup [.str "doomed",.ref lr])→LayersAt H' lr (jP (kM R L N ys) (jZ (d,ms,pl)) NN)→noT H lr=none→Q (.ref t) H')∧
 (most<(((jP (kM R L N ys) (jZ (d,ms,pl)) NN).flatten.length:Nat):Int)→∀H',Same (noT H) H'→Tabs H' tA tH pA pH→E (.ref eW) none H')
def rP (cs:Kd→Addr) (cR cN tA tH:Addr) (pA pH:Pos):Sp:=fun vs H Q _=>∃(x wl st:Addr) (us:List V) (ys:List j4) (d:Int) (ms:List Int) (pl:List Nat) (D:List Addr) (R:List RC) (L:List LC) (N:List (List (Int×Int))) (NN:Nat) (most:Int),vs=[.ref x,.ref wl,.ref st,.int most]∧Stage cs cR cN D H x wl st us R L N ys d ms pl∧0≤d∧Tabs H tA tH pA pH∧FirstM (kM R L N ys) (vQ ys) (jZ (d,ms,pl)) most NN∧
 ((((jP (kM R L N ys) (jZ (d,ms,pl)) NN).flatten.length:Nat):Int)≤most→(j3 (kM R L N ys) (jZ (d,ms,pl)) NN).any (vQ ys)=true→∀(t rr lr:Addr) (xs:List V) (des:List GK) (kf:GK) (H':Hp),Same (noT H) H'→Tabs H' tA tH pA pH→H' t=some (.tup [.str "home",.ref rr,.ref lr])→H' rr=some (.lst xs)→KeysAt H' xs des→JO (kM R L N ys) (jZ (d,ms,pl)) des kf→vQ ys kf=true→des.length=NN→LayersAt H' lr (jP (kM R L N ys) (jZ (d,ms,pl)) NN)→noT H rr=none→noT H lr=none→rr≠lr→Q (.ref t) H')∧
 ((((jP (kM R L N ys) (jZ (d,ms,pl)) NN).flatten.length:Nat):Int)≤most→(j3 (kM R L N ys) (jZ (d,ms,pl)) NN).any (vQ ys)=false→∀(t lr:Addr) (H':Hp),Same (noT H) H'→Tabs H' tA tH pA pH→H' t=some (.tup [.str "doomed",.ref lr])→LayersAt H' lr (jP (kM R L N ys) (jZ (d,ms,pl)) NN)→noT H lr=none→Q (.ref t) H')∧
 (most<(((jP (kM R L N ys) (jZ (d,ms,pl)) NN).flatten.length:Nat):Int)→∀(t a:Addr) (H':Hp),Same (noT H) H'→Tabs H' tA tH pA pH→H' t=some (.tup [.str "wide",.ref a])→H' a=some (.lst [])→noT H a=none→Q (.ref t) H')
structure Txt (P:Program) (w:World) (base:Heap) (K:W.Frag) (mg:Str→Option Value) (cP cB cU:Addr) (cR:Addr) (cN:Addr) (tkS:Tok) (eW eL eTW:Addr) (tkH:Tok):Prop where
 xn:mg "list"=none
 xq:mg "tuple"=none
 vx:mg "max"=none
 xi:mg "range"=none
 xf:mg "len"=none
 vk:mg "sum"=none
 vy:mg "zip"=none
 xj:mg "enumerate"=none
 ul:mg "min"=none
 xt:mg "reversed"=none
 um:mg "int"=none
 xh:mg "isinstance"=none
 uo:mg "str"=none
 cl:∀kd,Cls K ((jF cP cB cU) kd)
 xar:∀kd,NoAttr K ((jF cP cB cU) kd) "name"
 zt:∀kd,NoAttr K ((jF cP cB cU) kd) "high"
 vm:∀kd,NoAttr K ((jF cP cB cU) kd) "low"
 zu:∀kd,NoAttr K ((jF cP cB cU) kd) "room"
 ur:NoAttr K cB "side"
 vz:NoAttr K cU "lift"
 zv:mg "PlainLock"=some (.ref cP)
 vn:mg "BasinLock"=some (.ref cB)
 wb:mg "PumpLock"=some (.ref cU)
 clR:Cls K cR
 zx:NoAttr K cR "name"
 xx:NoAttr K cR "least"
 xy:NoAttr K cR "crest"
 xu:NoAttr K cR "berths"
 xz:NoAttr K cR "water"
 xr:NoAttr K cR "target"
 xaj:mg "Reach"=some (.ref cR)
 clN:Cls K cN
 xg:NoAttr K cN "reaches"
 xb:NoAttr K cN "locks"
 xl:NoAttr K cN "nights"
 xak:mg "Canal"=some (.ref cN)
 xaM:mg "SEA"=some (.int (-1) tkS)
 jk:mg "NotNow"=some (.ref eW)
 vo:mg "NotLinked"=some (.ref eL)
 ve:mg "TooWide"=some (.ref eTW)
 jm:fR K eW
 vp:fR K eL
 vf:fR K eTW
 uu:mg "HOME"=some (.int (-1) tkH)
set_option maxHeartbeats 4000000
section
variable {P:Program} {w:World} {K:W.Frag} {mg:Str→Option Value} {base:Heap} {cP cB cU:Addr} {cR:Addr} {cN:Addr} {tkS:Tok} {eW eL eTW:Addr} {tkH:Tok} {tA tH:Addr} {f:Addr} {fd:FuncData}
variable (T:Txt P w base K mg cP cB cU cR cN tkS eW eL eTW tkH)
theorem eF:jT 2 ["waters","pours","held","source","target","amount"] oG:=jS
include T in
theorem IG (F:kH K "poured_all" oG f fd) : FnOk P w K mg base jK 1 f fd ["waters","pours"] (fG K):=by
 refine F.ok2 eF fun vs H Q E h=>?_
 obtain ⟨w,p,ws,rs,qs,rfl,hW,hP,hA,hn,q⟩:=h;refine ⟨rfl,fun _ _ _ _ hr=>?_⟩;refine ⟨_,(@jH _ _ _ _ _ (jX 2 eF.nd (zA (bB K) (by rfl) T.xn PyProof.Rows.boot_list (jB (pv 0) jE)))
   (@jH _ _ _ _ _ (yZ PassesOwn.never rfl (q0 (pv 1)) (lF rfl (qT (kF (i:=3) eF.nd rfl (.inl rfl)) (qT (kF (i:=4) eF.nd rfl (.inl rfl)) (qT (kF (i:=5) eF.nd rfl (.inl rfl)) z3))))
    (@jH _ _ _ _ _ (rT (pv 2) (pv 3) rH (pv 5) S6 cS)
   (@qG _ _ _ (rT (pv 2) (pv 4) rH (pv 5) D9 cS))))
   (jO (zA (eG K) (by rfl) T.xq PyProof.Rows.boot_tuple (jB (pv 2) jE))))),?_⟩
 try dsimp only [jV,jU]
 refine (jA rfl (⟨w,jA rfl (⟨hW,fun l hl=>?_⟩)⟩));have s0:Same H (upd H l (.lst (ws.map V.int))):=jJ hl _;refine ⟨_,rfl,p,rfl,⟨rs,s0.seq hP⟩,QG (K:=K) (a:=p) (xs:=rs) (fun i σ Hi=>∃c3 c4 c5,σ=[some (.ref w),some (.ref p),some (.ref l),c3,c4,c5]∧Hi l=some (.lst ((kJ ws (qs.take i)).map V.int))∧Same H Hi)
  (v6 none none none (y8 rfl jD s0)) (fun i σ Hi _ ⟨_,_,_,_,_,s⟩=>s.seq hP) ?_ ?_⟩
 ·rintro i x σ Hi hx ⟨c3,c4,c5,rfl,hH,sm⟩;obtain ⟨a,s,t,m,rfl,hq,hT,hs,ht⟩:=hA.2 i x hx;have e0:(kJ ws (qs.take i)).length=ws.length:=JU _ _;refine ⟨a,jA rfl (⟨tN sm hT,rfl,_,jA rfl (⟨_,jA rfl (⟨_,_,rfl,rfl,?_⟩)⟩)⟩)⟩;refine (jA rfl (jA rfl (⟨_,_,_,_,rfl,rfl,so hH,zE (by rw [e0];exact hs),jA rfl (j9 (⟨_,_,_,_,rfl,rfl,hH,cZ (by rw [length_map,e0];exact hs),?_⟩))⟩)))
  try dsimp only
  rw [cJ];refine (jA rfl (jA rfl (⟨_,_,_,_,rfl,rfl,so jD,zE (by rw [length_set,e0];exact ht),jA rfl (j9 (⟨_,_,_,_,rfl,rfl,jD,cZ (by rw [length_map,length_set,e0];exact ht),?_⟩))⟩)))
  try dsimp only
  rw [cJ];refine ⟨_,_,jA rfl (⟨?_,qH hl (qH hl sm)⟩)⟩;rw [jD,o0 ws qs i _ hq];rfl
 ·rintro σ Hi ⟨c3,c4,c5,rfl,hH,sm⟩;refine (jA rfl (⟨_,jA rfl (.inl ⟨so hH,fun r hr=>?_⟩)⟩));refine q r _ (qH (sm.free hr) sm) (sm.free hr) ?_;rw [jD,hA.1,take_length]
theorem wA:jT 3 ["weirs","waters","at","crest"] oC:=jS
include T in
theorem IC (F:kH K "over" oC f fd) : FnOk P w K mg base jK 1 f fd ["weirs","waters","at"] (DK K):=by
 refine F.ok2 wA fun vs H Q E h=>?_
 obtain ⟨wq,wa,rs,ws,n,ms,i₁,rfl,hW,hA,hM,h1,h2,q⟩:=h;refine ⟨rfl,fun _ _ _ _ hr=>?_⟩;refine ⟨_,(@jH _ _ _ _ _ (jX 3 wA.nd (jI (jR K) (jI (kL K) (pv 0) (pv 2)) jC))
   (jO (y9 (AK rfl) (by rfl) T.vx PyProof.Rows.boot_max (jB jC (jB (@jL _ _ _ _ _ _ _ _ z9 (jI (RV K) (pv 1) (pv 2)) (pv 3)) jE))))),?_⟩
 try dsimp only [jV,jU]
 obtain ⟨ta,hat,hT,_⟩:=iJ hA h1;refine (jA rfl (jA rfl (⟨wq,_,_,_,rfl,rfl,hW,hat,ta,_,_,_,rfl,rfl,hT,rfl,?_⟩)));refine (jA rfl (jA rfl (OQ hM h2 ?_)));exact (jA rfl (j9 (⟨_,jA rfl (q)⟩)))
theorem K6:jT 1 ["weirs"] nX:=jS
include T in
theorem HM (F:kH K "last_first" nX f fd) : FnOk P w K mg base jK 1 f fd ["weirs"] (sM K):=by
 refine F.ok2 K6 fun vs H Q E h=>?_
 obtain ⟨wq,rs,rfl,hW,hn,q⟩:=h;refine ⟨rfl,fun _ _ _ _ hr=>?_⟩;refine ⟨_,(jO (zA (LU rfl) (by rfl) T.xn PyProof.Rows.boot_list (jB (zA MG (by rfl) T.xi PyProof.Rows.boot_range (j5 (@jL _ _ _ _ _ _ _ _ z9 (kQ K T.xf (pv 0)) jC) (QQ QL jC) (QQ QL jC))) jE))),?_⟩
 try dsimp only [jV,jU]
 refine (jA rfl (⟨wq,jA rfl (⟨.inl hW,_,_,rfl,rfl,jA rfl (jA rfl (⟨_,_,jA rfl (⟨(by decide),(by decide),fun p hp=>?_⟩)⟩))⟩)⟩));refine (zW p _ _ _ rs.length (yE rfl jD (M8 hn) (AH _) hn (fun l hl=>?_)));refine q l _ ((jJ hp _).trans (jJ hl _)) ((jJ hp _).free hl) ?_;rw [jD];exact congrArg (fun x=>some (HO.lst x)) (M7 rs.length)
theorem iB:jT 2 ["weirs","waters","held","given","at"] oM:=jS
include T in
theorem IM (F:kH K "spills" oM f fd) (zg:Def P w K mg base 1 "last_first" ["weirs"] [] (sM K)) (xaN:Def P w K mg base 1 "over" ["weirs","waters","at"] [] (DK K)):FnOk P w K mg base jK 2 f fd ["weirs","waters"] (AY K):=by
 refine F.ok2 iB fun vs H Q E h=>?_
 obtain ⟨wq,wa,rs,ws,ms,rfl,hRd,q⟩:=h;refine ⟨rfl,fun _ _ _ _ hr=>?_⟩;refine ⟨_,(@jH _ _ _ _ _ (jX 2 iB.nd (zA (bB K) (by rfl) T.xn PyProof.Rows.boot_list (jB (pv 1) jE)))
   (@jH _ _ _ _ _ (jX 3 iB.nd (@jL _ _ _ _ _ _ _ _ DX (qO (jB jC jE)) (kQ K T.xf (pv 0))))
   (@jH _ _ _ _ _ (yZ PassesOwn.never rfl (q0 (jQ zg hr rfl (jB (pv 0) jE))) (kF (i:=4) iB.nd rfl (.inl rfl))
    (@jH _ _ _ _ _ (sP (jQ xaN hr rfl (j5 (pv 0) (pv 2) (pv 4))) (sQ (pv 3) (pv 4) cS))
   (@qG _ _ _ (rT (pv 2) (jI (jR K) (jI (kL K) (pv 0) (pv 4)) jC) rH (jI (kL K) (pv 3) (pv 4)) D9 cS))))
   (jO (pv 3))))),?_⟩
 try dsimp only [jV,jU]
 obtain ⟨hW,hA,hM,hAh,hRn,hn⟩:=id hRd;have hAF:=pW hAh;refine (jA rfl (⟨wa,jA rfl (⟨hM,fun hl hhl=>?_⟩)⟩));have t1:=jJ hhl (.lst (ms.map V.int));refine ⟨zz1,fun lp hlp=>?_⟩;have t2:=jJ hlp (.lst [V.int 0]);refine (jA rfl (⟨wq,jA rfl (⟨.inl ((t1.trans t2).seq hW),lp,_,_,rfl,rfl,jD,by omega,by rw [hA.1];omega,?_,fun gp hgp=>?_⟩)⟩))
 ·rw [Int.toNat_natCast,length_singleton,Nat.one_mul,hA.1];exact small (by omega)
 rw [Int.toNat_natCast,BJ,hA.1];have t3:=jJ hgp (.lst ((List.replicate ws.length (0:Int)).map V.int));have u3:=(t1.trans t2).trans t3;have hlp':hl≠gp:=qV (t2 _ _ jD) hgp;refine (jA rfl (⟨wq,rs,rfl,u3.seq hW,by rw [hA.1];omega,fun df H1 s1 hdf0 hdf=>?_⟩));have hl1:=s1 _ _ (t3 _ _ (t2 _ _ (jD:upd H hl (.lst (ms.map V.int)) hl=_)));have gp1:=s1 _ _ (jD:upd _ gp (.lst ((List.replicate ws.length (0:Int)).map V.int)) gp=_);have dhl:hl≠df:=qV (t3 _ _ (t2 _ _ jD)) hdf0;have dgp:gp≠df:=qV jD hdf0;have gf:H gp=none:=(t1.trans t2).free hgp;refine ⟨df,rfl,⟨_,so hdf⟩,QG (K:=K) (a:=df) (xs:=(zT rs.length).map fun (i:Nat)=>V.int (i:Int)) (fun k σ Hi=>∃(hs gs:List Int) (c:Option V),σ=[some (.ref wq),some (.ref wa),some (.ref hl),some (.ref gp),c]∧Hi hl=some (.lst (hs.map V.int))∧Hi gp=some (.lst (gs.map V.int))∧
   Hi df=some (.lst ((zT rs.length).map fun (i:Nat)=>V.int (i:Int)))∧SplInv ws ms hs gs k∧Same H Hi)
  ⟨ms,List.replicate ws.length 0,none,rfl,hl1,gp1,hdf,SplInv.start ws ms,u3.trans s1⟩ (fun i σ Hi _ ⟨_,_,_,_,_,_,hd,_⟩=>so hd) ?_ ?_⟩
 ·rintro k x σ Hi hx ⟨hs,gs,c,rfl,hH,hG,hD,hI,sm⟩;obtain ⟨hk,rfl⟩:=BY hx;rw [hA.1] at hk ⊢;obtain ⟨i₁,hi₁⟩:∃i,i=ws.length - 1 - k:=⟨_,rfl⟩;have hi:i₁<ws.length:=by omega
  have hst:=hI.step hAF hRn hk (by rw [← hi₁];exact xK hA i₁ hi);rw [← hi₁] at hst ⊢;obtain ⟨ta,hat,hT,ht⟩:=iJ (hA.same sm) hi;have hAl:WeirsAt K Hi rs ws hs.length:=by rw [hI.lh];exact hA.same sm
  refine (jA rfl (jA rfl (jA rfl (⟨wq,hl,rs,ws,_,hs,i₁,rfl,sm.seq hW,hAl,.inl (so hH),hi,by rw [hI.lh];omega,?_⟩))));refine (jA rfl (jA rfl (⟨gp,_,_,_,rfl,rfl,hG,cZ (by rw [length_map,hI.lg];exact hi),?_⟩)));rw [cJ];have k1:∀o,Keep gp Hi (upd Hi gp o):=fun o=>(Keep.refl gp Hi).upd o
  have sG:∀o,Same H (upd Hi gp o):=fun o=>qH gf sm
  have hH':∀o,upd Hi gp o hl=some (.lst (hs.map V.int)):=fun o=>(k1 o) hl _ hlp' hH
  refine (jA rfl (jA rfl (jA rfl (⟨wq,_,_,_,rfl,rfl,(sG _).seq hW,hat,ta,_,_,_,rfl,rfl,(k1 _).sqt hG hT,rfl,qB (so (hH' _)) (zE (by rw [hI.lh];exact ht)) ((jA rfl (jA rfl (qB (so jD) (zE (by rw [length_set,hI.lg];exact hi)) (j9 (⟨hl,_,_,_,rfl,rfl,hH' _,cZ (by rw [length_map,hI.lh];exact ht),?_⟩))))))⟩))));rw [cJ];refine ⟨_,_,jA rfl (⟨jD,?_,?_,hst,qH hhl (sG _)⟩)⟩
  ·rw [jG (Ne.symm hlp'),jD]
  ·rw [jG (Ne.symm dhl),jG (Ne.symm dgp),hD,hA.1]
 ·rintro σ Hi ⟨hs,gs,c,rfl,hH,hG,hD,hI,sm⟩;rw [length_map,eI,hA.1] at hI;refine (jA rfl (?_));exact q gp Hi gs sm gf hG hI.spl
theorem wB:jT 2 ["weirs","waters","given"] gS:=jS
include T in
theorem IL (F:kH K "spill_pours" gS f fd) (xas:Def P w K mg base 2 "spills" ["weirs","waters"] [] (AY K)) (zg:Def P w K mg base 1 "last_first" ["weirs"] [] (sM K)):FnOk P w K mg base jK 3 f fd ["weirs","waters"] (pZ K):=by
 refine F.ok2 wB fun vs H Q E h=>?_
 obtain ⟨wq,wa,rs,ws,ms,rfl,hRd,q⟩:=h;refine ⟨rfl,fun _ _ _ _ hr=>?_⟩;refine ⟨_,(@jH _ _ _ _ _ (jX 2 wB.nd (jQ xas hr rfl (jB (pv 0) (jB (pv 1) jE))))
   (jO (bZ ["at","given","weirs"] [2,0] (qR (jM gS)) (q0 (jQ zg hr rfl (jB (pv 0) jE))) (fun _ _ _ _ _=>(JH (kI zR (jI (kL K) (pv 1) (pv 0)) jC))) (fun _ _ _ _ _=>(kY (j5 (pv 0) (jI (jR K) (jI (kL K) (pv 2) (pv 0)) jC) (jI (kL K) (pv 1) (pv 0)))))))),?_⟩
 try dsimp only [jV,jU]
 refine (jA rfl (jA rfl ((zW wq wa rs ws ms (y8 rfl hRd (fun gp H1 gs s1 hgp0 hgp hS=>?_))))));obtain ⟨hW,hA,hM,hAh,hRn,hn⟩:=hRd.same s1;refine (jA rfl (⟨wq,rs,rfl,hW,by rw [hA.1];omega,fun df H2 s2 hdf0 hdf=>?_⟩));refine ⟨df,rfl,⟨_,so hdf⟩,fun D hD=>?_⟩;refine zM (K:=K) (a:=df) (xs:=(zT rs.length).map fun (i:Nat)=>V.int (i:Int)) (caps:=[some (.ref gp),some (.ref wq)]) (fun i ys Hi=>PoursH Hi ys (((zN (kR ws) (fun a=>gs.getD a 0) ws.length).take i).filter q9) ms.length) hD (so hdf) (PoursH.nil _ _) ?_ ?_
 ·rintro i x ys Hi hx hi hle sm hY hR;obtain ⟨hk,rfl⟩:=BY hx;rw [hA.1] at hk ⊢;obtain ⟨i₁,hi₁⟩:∃i',i'=ws.length - 1 - i:=⟨_,rfl⟩;have hi':i₁<ws.length:=by omega
  rw [← hi₁];have s12:=s2.trans sm;obtain ⟨ta,hat,hT,ht⟩:=iJ (hA.same s12) hi';have ef:((zN (kR ws) (fun a=>gs.getD a 0) ws.length).take (i+1)).filter q9=((zN (kR ws) (fun a=>gs.getD a 0) ws.length).take i).filter q9++[(i₁,kR ws i₁,gs.getD i₁ 0)].filter q9:=by
   rw [take_add_one,L6 hk,← hi₁,filter_append];rfl
  refine (jA rfl (jA rfl (qB (so (s12 _ _ hgp)) (zE (by rw [hS.1];exact hi')) (⟨rfl,jA rfl (?_)⟩))))
  by_cases hz:gs.getD i₁ 0=0
  ·refine zJ (congrArg V.int hz) (JW sm hY hle (Same.refl _) ?_);rw [ef,filter_cons,if_neg (by unfold q9;rw [decide_eq_true (show gs.getD i₁ 0=0 from hz)];decide)];show PoursH Hi ys (_++[]) _;rw [append_nil];exact hR
  refine ZU (fun e=>hz (V.int.inj e)) ?_;refine (jA rfl (jA rfl (jA rfl (⟨wq,_,_,_,rfl,rfl,s12.seq hW,hat,ta,_,_,_,rfl,rfl,hT,rfl,jA rfl (jA rfl (qB (so (s12 _ _ hgp)) (zE (by rw [hS.1];exact hi')) (⟨zz3,fun tp htp=>?_⟩)))⟩))));have st:=jJ htp (.tup [.int (i₁:Int),.int (kR ws i₁:Int),.int (gs.getD i₁ 0)]);refine vV hD sm hY hle (by omega) st ?_;rw [ef,filter_cons,if_pos (by unfold q9;rw [decide_eq_false (show ¬gs.getD i₁ 0=0 from hz)];rfl)];exact ((hR.same st).snoc jD (by omega) ht).put (st _ _ hY)
 ·intro ys Hf sm hY hle hR;rw [length_map,eI,hA.1,take_of_length_le (by unfold zN;rw [length_map,eI];exact Nat.le_refl _)] at hR;have s12:=s2.trans sm;exact q D Hf gs ys (s1.trans s12) ((s1.trans s2).free hD) hY hR hS
theorem LG:jT 2 ["weirs","waters"] oK:=jS
include T in
theorem IK (F:kH K "settled" oK f fd) (xk:Def P w K mg base 1 "poured_all" ["waters","pours"] [] (fG K)) (zb:Def P w K mg base 3 "spill_pours" ["weirs","waters"] [] (pZ K)):FnOk P w K mg base jK 4 f fd ["weirs","waters"] (xR K):=by
 refine F.ok2 LG fun vs H Q E h=>?_
 obtain ⟨wq,wa,rs,ws,ms,rfl,hRd,q⟩:=h;refine ⟨rfl,fun _ _ _ _ hr=>?_⟩;refine ⟨_,(jO (jQ xk hr rfl (jB (pv 1) (jB (jQ zb hr rfl (jB (pv 0) (jB (pv 1) jE))) jE)))),?_⟩
 try dsimp only [jV,jU]
 obtain ⟨hW,hA,hM,hAh,hRn,hn⟩:=id hRd;refine (jA rfl (jA rfl (jA rfl ((zW wq wa rs ws ms (y8 rfl hRd (fun p H1 gs ys s1 hp0 hp hP hS=>?_)))))));refine ⟨wa,p,ms,ys,jA rfl (⟨hM.same s1,so hp,hP.pa,hn,fun r H' s' hr0 hr=>?_⟩)⟩;rw [wV (wT hRn (xK hA))] at hr;exact q r H' gs (s1.trans s') (s1.free hr0) hr hS
theorem LM:jT 3 ["weirs","waters","pours"] oR:=jS
include T in
theorem IS (F:kH K "with_spills" oR f fd) (zb:Def P w K mg base 3 "spill_pours" ["weirs","waters"] [] (pZ K)) (xk:Def P w K mg base 1 "poured_all" ["waters","pours"] [] (fG K)):FnOk P w K mg base jK 4 f fd ["weirs","waters","pours"] (rO K):=by
 refine F.ok2 LM fun vs H Q E h=>?_
 obtain ⟨wq,wa,p,rs,ps,ws,ms,qs,rfl,hRd,hp,hP,h500,q⟩:=h;refine ⟨rfl,fun _ _ _ _ hr=>?_⟩;refine ⟨_,(jO (@jL _ _ _ _ _ _ _ _ ZO (pv 2) (jQ zb hr rfl (jB (pv 0) (jB (jQ xk hr rfl (jB (pv 1) (jB (pv 2) jE))) jE))))),?_⟩
 try dsimp only [jV,jU]
 obtain ⟨hW,hA,hM,hAh,hRn,hn⟩:=id hRd;refine (jA rfl (jA rfl (jA rfl (jA rfl ((zW wa p ms ps qs (yE rfl hM (so hp) hP.pa hn (fun wt H1 s1 hwt0 hwt=>?_))))))));have el:(kJ ms qs).length=ms.length:=JU _ _;refine ⟨wq,wt,rs,ws,kJ ms qs,rfl,⟨s1.seq hW,by rw [el];exact hA.same s1,.inr (SqT.of hwt),hAh,by rw [el];exact hRn,by rw [el];exact hn⟩,fun sp H2 gs ys s2 hsp0 hsp hPs hS=>?_⟩;rw [el] at hPs;have hl:=L7 ws (fun a=>gs.getD a 0);refine ⟨p,sp,_,_,rfl,rfl,s2 _ _ (s1 _ _ hp),hsp,Nat.le_trans (show ps.length+ys.length≤1500 by rw [hPs.1];omega) (by decide),fun al hal=>?_⟩;have s3:=jJ hal (.lst (ps++ys));have s12:=s1.trans s2;exact q al _ gs _ (s12.trans s3) (s12.free hal) jD ((hP.same (s12.trans s3)).append (hPs.same s3)) hS
theorem LD:jT 1 ["parts"] gR:=jS
include T in
theorem ID (F:kH K "parts_not_nought" gR f fd) : FnOk P w K mg base jK 1 f fd ["parts"] (dN K):=by
  refine F.ok2 LD fun vs H Q E h=>?_
  obtain ⟨p,rs,ps,rfl,hP,hA,hn,q⟩:=h;refine ⟨rfl,fun _ _ _ _ hr=>?_⟩;refine ⟨_,(jO (bZ ["part"] [] (qR (jM gR)) (q0 (pv 0)) (fun _ _ _ _ _=>(JH (kI zR (jI (jR K) (pv 0) jC) jC))) (fun _ _ _ _ _=>(pv 0)))),?_⟩
  try dsimp only [jV,jU]
  refine (jA rfl (⟨p,rfl,⟨rs,hP⟩,fun l hl=>?_⟩));refine zM (K:=K) (a:=p) (xs:=rs) (caps:=[]) (fun i ys Hi=>PartsAt Hi ys ((ps.take i).filter zC)) hl hP PartsAt.nil ?_ ?_
  · rintro i x ys Hi hx hi hle sm hY hR
    obtain ⟨t,sN,nN,rfl,hps,hT⟩:=hA.2 i x hx;have et:(ps.take (i+1)).filter zC=(ps.take i).filter zC++[(sN,nN)].filter zC:=by
      rw [take_add_one,hps,filter_append];rfl
    refine (jA rfl (jY (SqT.of (sm _ _ hT)) rfl (⟨rfl,jA rfl (?_)⟩)))
    by_cases hz:nN=0
    · refine zJ (by rw [hz]) ?_
      refine JW sm hY hle (Same.refl _) ?_;have e2:[(sN,nN)].filter zC=[]:=by rw [hz];rfl
      rw [et,e2,append_nil];exact hR
    · refine ZU (fun e=>hz (V.int.inj e)) ?_
      refine (jA rfl (vV hl sm hY hle (by omega) (Same.refl _) ?_));have e2:[(sN,nN)].filter zC=[(sN,nN)]:=by
        rw [filter_cons,if_pos (show zC (sN,nN)=true by unfold zC;rw [decide_eq_false hz];rfl)];rfl
      rw [et,e2];exact (hR.snoc (sm _ _ hT)).keep ((Keep.refl l Hi).upd _) hY
  · intro ys Hf sm hY hle hR
    rw [hA.1,take_length] at hR;exact q l Hf ys sm hl hY hR
theorem KK:jT 5 ["self","name","high","low","room"] mX:=jS
include T in
theorem GE (F:Fun K "__init__" "PlainLock.__init__" mX f fd) : FnOk P w K mg base jK 1 f fd ["self","name","high","low","room"] (cW (jF cP cB cU)):=by
 refine F.ok2 KK fun vs H Q E h=>?_
 obtain ⟨kd,x,dx,n,h₁,l,r,rfl,hx,q⟩:=h;refine ⟨rfl,fun _ _ _ _ hr=>?_⟩;refine ⟨_,(@jH _ _ _ _ _ (zH (pv 0) (pv 1) rfl)
   (@jH _ _ _ _ _ (zH (pv 0) (pv 2) rfl)
   (@jH _ _ _ _ _ (zH (pv 0) (pv 3) rfl)
   (@qG _ _ _ (zH (pv 0) (pv 4) rfl))))),?_⟩
 try dsimp only [jV,jU]
 refine (jA rfl (jA rfl (⟨x,_,dx,jA rfl (⟨hx,T.cl kd,T.xar kd,(by show 0<1000;decide),?_⟩)⟩)));refine (jA rfl (jA rfl (⟨x,_,dx,jA rfl (⟨jD,T.cl kd,T.zt kd,(by show 1<1000;decide),?_⟩)⟩)));refine (jA rfl (jA rfl (⟨x,_,dx,jA rfl (⟨jD,T.cl kd,T.vm kd,?_,?_⟩)⟩)))
 ·have:=QD "high" h₁ (jW "name" n []);have h2:(jW ("name":Str) n []).length=1:=rfl;omega
 refine (jA rfl (jA rfl (⟨x,_,dx,jA rfl (⟨jD,T.cl kd,T.zu kd,?_,?_⟩)⟩)))
 ·have:=QD "low" l (jW "high" h₁ (jW "name" n []));have h1:=QD "high" h₁ (jW "name" n []);have h2:(jW ("name":Str) n []).length=1:=rfl;omega
 exact q _ (((((Keep.refl x H).upd _).upd _).upd _).upd _) jD
theorem IT:jT 6 ["self","name","high","low","room","side"] mL:=jS
include T in
theorem FM (F:Fun K "__init__" "BasinLock.__init__" mL f fd) (xm:CmD P w K mg base 1 "PlainLock" cP "__init__" ["self","name","high","low","room"] (cW (jF cP cB cU))):FnOk P w K mg base jK 2 f fd ["self","name","high","low","room","side"] (cV (jF cP cB cU) .basin):=by
 refine F.ok2 IT fun vs H Q E h=>?_
 obtain ⟨x,dx,n,h₁,l,r,v,rfl,hx,q⟩:=h;refine ⟨rfl,fun _ _ _ _ hr=>?_⟩;refine ⟨_,(@jH _ _ _ _ _ (JE (CW xm hr rfl (dS (pv 0) (pv 1) (pv 2) (pv 3) (pv 4))))
   (@qG _ _ _ (zH (pv 0) (pv 5) rfl))),?_⟩
 try dsimp only [jV,jU]
 refine (jA rfl (jA rfl (jA rfl (jA rfl (jA rfl (⟨.basin,x,dx,n,h₁,l,r,rfl,hx,fun H' kp hx'=>?_⟩))))));refine (jA rfl (jA rfl (⟨x,_,dx,jA rfl (⟨hx',T.cl .basin,T.ur,wX _ _ _ _,?_⟩)⟩)));exact q _ (kp.upd _) jD
theorem KP:jT 6 ["self","name","high","low","room","lift"] nB:=jS
include T in
theorem GJ (F:Fun K "__init__" "PumpLock.__init__" nB f fd) (xm:CmD P w K mg base 1 "PlainLock" cP "__init__" ["self","name","high","low","room"] (cW (jF cP cB cU))):FnOk P w K mg base jK 2 f fd ["self","name","high","low","room","lift"] (cV (jF cP cB cU) .pump):=by
 refine F.ok2 KP fun vs H Q E h=>?_
 obtain ⟨x,dx,n,h₁,l,r,v,rfl,hx,q⟩:=h;refine ⟨rfl,fun _ _ _ _ hr=>?_⟩;refine ⟨_,(@jH _ _ _ _ _ (JE (CW xm hr rfl (dS (pv 0) (pv 1) (pv 2) (pv 3) (pv 4))))
   (@qG _ _ _ (zH (pv 0) (pv 5) rfl))),?_⟩
 try dsimp only [jV,jU]
 refine (jA rfl (jA rfl (jA rfl (jA rfl (jA rfl (⟨.pump,x,dx,n,h₁,l,r,rfl,hx,fun H' kp hx'=>?_⟩))))));refine (jA rfl (jA rfl (⟨x,_,dx,jA rfl (⟨hx',T.cl .pump,T.vz,wX _ _ _ _,?_⟩)⟩)));exact q _ (kp.upd _) jD
theorem KU:jT 7 ["self","name","least","crest","berths","water","target"] nI:=jS
include T in
theorem GP (F:Fun K "__init__" "Reach.__init__" nI f fd) : FnOk P w K mg base jK 1 f fd ["self","name","least","crest","berths","water","target"] (o7 cR):=by
 refine F.ok2 KU fun vs H Q E h=>?_
 obtain ⟨x,dx,v_name,v_least,v_crest,v_berths,v_water,v_target,rfl,hx,q⟩:=h;refine ⟨rfl,fun _ _ _ _ hr=>?_⟩;refine ⟨_,(@jH _ _ _ _ _ (zH (pv 0) (pv 1) rfl)
   (@jH _ _ _ _ _ (zH (pv 0) (pv 2) rfl)
   (@jH _ _ _ _ _ (zH (pv 0) (pv 3) rfl)
   (@jH _ _ _ _ _ (zH (pv 0) (pv 4) rfl)
   (@jH _ _ _ _ _ (zH (pv 0) (pv 5) rfl)
   (@qG _ _ _ (zH (pv 0) (pv 6) rfl))))))),?_⟩
 try dsimp only [jV,jU]
 have ln:∀(f:Str) (z:V) (fs:List (Str×V)) (m:Nat),fs.length≤m→(jW f z fs).length≤m+1:=fun f z fs m h=>Nat.le_trans (QD f z fs) (by omega)
 have l0:([]:List (Str×V)).length≤0:=Nat.le_refl _;refine (jA rfl (jA rfl (⟨x,cR,dx,jA rfl (⟨hx,T.clR,T.zx,by omega,?_⟩)⟩)));have l1:=ln "name" v_name _ _ l0;refine (jA rfl (jA rfl (⟨x,cR,dx,jA rfl (⟨jD,T.clR,T.xx,by omega,?_⟩)⟩)));have l2:=ln "least" v_least _ _ l1;refine (jA rfl (jA rfl (⟨x,cR,dx,jA rfl (⟨jD,T.clR,T.xy,by omega,?_⟩)⟩)));have l3:=ln "crest" v_crest _ _ l2;refine (jA rfl (jA rfl (⟨x,cR,dx,jA rfl (⟨jD,T.clR,T.xu,by omega,?_⟩)⟩)));have l4:=ln "berths" v_berths _ _ l3;refine (jA rfl (jA rfl (⟨x,cR,dx,jA rfl (⟨jD,T.clR,T.xz,by omega,?_⟩)⟩)));have l5:=ln "water" v_water _ _ l4;refine (jA rfl (jA rfl (⟨x,cR,dx,jA rfl (⟨jD,T.clR,T.xr,by omega,?_⟩)⟩)));have l6:=ln "target" v_target _ _ l5;exact q _ _ (((((((Keep.refl x H).upd _).upd _).upd _).upd _).upd _).upd _) jD (NE _ _ _ _ _ _)
theorem KN:jT 1 ["self"] m6:=jS
include T in
theorem GH (F:Fun K "kind" "PlainLock.kind" m6 f fd) : FnOk P w K mg base jK 1 f fd ["self"] (QH (jF cP cB cU) (fun kd _=>V.str (match kd with|.plain=>"plain"|.basin=>"basin"|.pump=>"pump")) .plain):=by
 refine F.ok2 KN fun vs H Q E h=>?_
 obtain ⟨x,n,h₁,l,room,v,rfl,⟨dx,hx⟩,q⟩:=h;refine ⟨rfl,fun _ _ _ _ hr=>?_⟩;refine ⟨_,(jO j6),?_⟩
 try dsimp only [jV,jU]
 exact q
theorem IW:jT 1 ["self"] mP:=jS
include T in
theorem FP (F:Fun K "kind" "BasinLock.kind" mP f fd) : FnOk P w K mg base jK 1 f fd ["self"] (QH (jF cP cB cU) (fun kd _=>V.str (match kd with|.plain=>"plain"|.basin=>"basin"|.pump=>"pump")) .basin):=by
 refine F.ok2 IW fun vs H Q E h=>?_
 obtain ⟨x,n,h₁,l,room,v,rfl,⟨dx,hx⟩,q⟩:=h;refine ⟨rfl,fun _ _ _ _ hr=>?_⟩;refine ⟨_,(jO j6),?_⟩
 try dsimp only [jV,jU]
 exact q
theorem KS:jT 1 ["self"] nG:=jS
include T in
theorem GN (F:Fun K "kind" "PumpLock.kind" nG f fd) : FnOk P w K mg base jK 1 f fd ["self"] (QH (jF cP cB cU) (fun kd _=>V.str (match kd with|.plain=>"plain"|.basin=>"basin"|.pump=>"pump")) .pump):=by
 refine F.ok2 KS fun vs H Q E h=>?_
 obtain ⟨x,n,h₁,l,room,v,rfl,⟨dx,hx⟩,q⟩:=h;refine ⟨rfl,fun _ _ _ _ hr=>?_⟩;refine ⟨_,(jO j6),?_⟩
 try dsimp only [jV,jU]
 exact q
theorem KL:jT 1 ["self"] mY:=jS
include T in
theorem GF (F:Fun K "extra" "PlainLock.extra" mY f fd) : FnOk P w K mg base jK 1 f fd ["self"] (QH (jF cP cB cU) (fun kd v=>V.int (match kd with|.plain=>0|.basin=>v|.pump=>v)) .plain):=by
 refine F.ok2 KL fun vs H Q E h=>?_
 obtain ⟨x,n,h₁,l,room,v,rfl,⟨dx,hx⟩,q⟩:=h;refine ⟨rfl,fun _ _ _ _ hr=>?_⟩;refine ⟨_,(jO jC),?_⟩
 try dsimp only [jV,jU]
 exact q
theorem IU:jT 1 ["self"] mM:=jS
include T in
theorem FN (F:Fun K "extra" "BasinLock.extra" mM f fd) : FnOk P w K mg base jK 1 f fd ["self"] (QH (jF cP cB cU) (fun kd v=>V.int (match kd with|.plain=>0|.basin=>v|.pump=>v)) .basin):=by
 refine F.ok2 IU fun vs H Q E h=>?_
 obtain ⟨x,n,h₁,l,room,v,rfl,⟨dx,hx⟩,q⟩:=h;refine ⟨rfl,fun _ _ _ _ hr=>?_⟩;refine ⟨_,(jO (j7 K (pv 0) rfl)),?_⟩
 try dsimp only [jV,jU]
 exact (jA rfl (j8 hx (T.cl .basin) (T.ur) (eZ _ _ _ _ _ _) (q)))
theorem KQ:jT 1 ["self"] nE:=jS
include T in
theorem GL (F:Fun K "extra" "PumpLock.extra" nE f fd) : FnOk P w K mg base jK 1 f fd ["self"] (QH (jF cP cB cU) (fun kd v=>V.int (match kd with|.plain=>0|.basin=>v|.pump=>v)) .pump):=by
 refine F.ok2 KQ fun vs H Q E h=>?_
 obtain ⟨x,n,h₁,l,room,v,rfl,⟨dx,hx⟩,q⟩:=h;refine ⟨rfl,fun _ _ _ _ hr=>?_⟩;refine ⟨_,(jO (j7 K (pv 0) rfl)),?_⟩
 try dsimp only [jV,jU]
 exact (jA rfl (j8 hx (T.cl .pump) (T.vz) (eZ _ _ _ _ _ _) (q)))
theorem KM:jT 2 ["self","basin"] mZ:=jS
include T in
theorem GG (F:Fun K "fill_parts" "PlainLock.fill_parts" mZ f fd) (xc:Def P w K mg base 1 "parts_not_nought" ["parts"] [] (dN K)):FnOk P w K mg base jK 2 f fd ["self","basin"] (JG (jF cP cB cU) ZV .plain):=by
 refine F.ok2 KM fun vs H Q E h=>?_
 obtain ⟨x,n,h₁,l,room,v,b,rfl,⟨dx,hx⟩,q⟩:=h;refine ⟨rfl,fun _ _ _ _ hr=>?_⟩;refine ⟨_,(jO (jQ xc hr rfl (jB (qO (jB (kY (jB j6 (jB (j7 K (pv 0) rfl) jE))) jE)) jE))),?_⟩
 try dsimp only [jV,jU]
 refine (jA rfl (j8 hx (T.cl .plain) (T.zu .plain) (dA .plain _ _ _ _ _) (⟨zz2,fun tp htp=>⟨zz1,fun lp hlp=>?_⟩⟩)));have s1:=jJ htp (.tup [.str "high",.int room]);have s2:=jJ hlp (.lst [V.ref tp]);refine (v6 lp ([.ref tp]) ([("high",room)]) (yV rfl (so jD) (PartsAt.nil.snoc (s2 _ _ jD)) (by show 1≤10;decide) (fun rr H' rs' sm hrr0 hrr hP=>?_)));exact q rr H' rs' ((s1.trans s2).trans sm) ((s1.trans s2).free hrr0) hrr hP
theorem IV:jT 2 ["self","basin"] mO:=jS
include T in
theorem FO (F:Fun K "fill_parts" "BasinLock.fill_parts" mO f fd) (xc:Def P w K mg base 1 "parts_not_nought" ["parts"] [] (dN K)):FnOk P w K mg base jK 2 f fd ["self","basin"] (JG (jF cP cB cU) ZV .basin):=by
 refine F.ok2 IV fun vs H Q E h=>?_
 obtain ⟨x,n,h₁,l,room,v,b,rfl,⟨dx,hx0⟩,q⟩:=h;refine ⟨rfl,fun _ _ _ _ hr=>?_⟩;refine ⟨_,(jO (jQ xc hr rfl (jB (qO (jB (kY (jB j6 (jB (pv 1) jE))) (jB (kY (jB j6 (jB (@jL _ _ _ _ _ _ _ _ z9 (j7 K (pv 0) rfl) (pv 1)) jE))) jE))) jE))),?_⟩
 try dsimp only [jV,jU]
 refine (jA rfl (⟨zz2,fun tp htp=>?_⟩));have s1:=jJ htp (.tup [.str "basin",.int b]);have hx:=s1 _ _ hx0;refine (jA rfl (j8 hx (T.cl .basin) (T.zu .basin) (dA .basin _ _ _ _ _) ((jA rfl (j9 (⟨zz2,fun tq htq=>⟨zz2,fun lp hlp=>?_⟩⟩))))));have s2:=jJ htq (.tup [.str "high",.int (room - b)]);have s3:=jJ hlp (.lst [V.ref tp,V.ref tq]);refine (v6 lp ([.ref tp,.ref tq]) ([("basin",b),("high",room - b)]) (yV rfl (so jD) ((PartsAt.nil.snoc (s3 _ _ (s2 _ _ jD))).snoc (s3 _ _ jD)) (by show 2≤10;decide) (fun rr H' rs' sm hrr0 hrr hP=>?_)));exact q rr H' rs' (((s1.trans s2).trans s3).trans sm) (((s1.trans s2).trans s3).free hrr0) hrr hP
theorem KR:jT 2 ["self","basin"] nF:=jS
include T in
theorem GM (F:Fun K "fill_parts" "PumpLock.fill_parts" nF f fd) (xc:Def P w K mg base 1 "parts_not_nought" ["parts"] [] (dN K)):FnOk P w K mg base jK 2 f fd ["self","basin"] (JG (jF cP cB cU) ZV .pump):=by
 refine F.ok2 KR fun vs H Q E h=>?_
 obtain ⟨x,n,h₁,l,room,v,b,rfl,⟨dx,hx0⟩,q⟩:=h;refine ⟨rfl,fun _ _ _ _ hr=>?_⟩;refine ⟨_,(jO (jQ xc hr rfl (jB (qO (jB (kY (jB j6 (jB (j7 K (pv 0) rfl) jE))) (jB (kY (jB j6 (jB (@jL _ _ _ _ _ _ _ _ z9 (j7 K (pv 0) rfl) (j7 K (pv 0) rfl)) jE))) jE))) jE))),?_⟩
 try dsimp only [jV,jU]
 refine (jA rfl (j8 hx0 (T.cl .pump) (T.vz) (eZ _ _ _ _ _ _) (⟨zz2,fun tp htp=>?_⟩)));have s1:=jJ htp (.tup [.str "low",.int v]);have hx:=s1 _ _ hx0;refine (jA rfl (j8 hx (T.cl .pump) (T.zu .pump) (dA .pump _ _ _ _ _) ((jA rfl (j8 hx (T.cl .pump) (T.vz) (eZ _ _ _ _ _ _) (j9 (⟨zz2,fun tq htq=>⟨zz2,fun lp hlp=>?_⟩⟩)))))));have s2:=jJ htq (.tup [.str "high",.int (room - v)]);have s3:=jJ hlp (.lst [V.ref tp,V.ref tq]);refine (v6 lp ([.ref tp,.ref tq]) ([("low",v),("high",room - v)]) (yV rfl (so jD) ((PartsAt.nil.snoc (s3 _ _ (s2 _ _ jD))).snoc (s3 _ _ jD)) (by show 2≤10;decide) (fun rr H' rs' sm hrr0 hrr hP=>?_)));exact q rr H' rs' (((s1.trans s2).trans s3).trans sm) (((s1.trans s2).trans s3).free hrr0) hrr hP
theorem KO:jT 2 ["self","basin"] m9:=jS
include T in
theorem GI (F:Fun K "let_parts" "PlainLock.let_parts" m9 f fd) (xc:Def P w K mg base 1 "parts_not_nought" ["parts"] [] (dN K)):FnOk P w K mg base jK 2 f fd ["self","basin"] (P5 (jF cP cB cU)):=by
 refine F.ok2 KO fun vs H Q E h=>?_
 obtain ⟨kd,x,n,h₁,l,room,v,b,rfl,⟨dx,hx⟩,q⟩:=h;refine ⟨rfl,fun _ _ _ _ hr=>?_⟩;refine ⟨_,(jO (jQ xc hr rfl (jB (qO (jB (kY (jB j6 (jB (j7 K (pv 0) rfl) jE))) jE)) jE))),?_⟩
 try dsimp only [jV,jU]
 refine (jA rfl (j8 hx (T.cl kd) (T.zu kd) (dA kd _ _ _ _ _) (⟨zz2,fun tp htp=>⟨zz1,fun lp hlp=>?_⟩⟩)));have s1:=jJ htp (.tup [.str "low",.int room]);have s2:=jJ hlp (.lst [V.ref tp]);refine (v6 lp ([.ref tp]) ([("low",room)]) (yV rfl (so jD) (PartsAt.nil.snoc (s2 _ _ jD)) (by show 1≤10;decide) (fun rr H' rs' sm hrr0 hrr hP=>?_)));exact q rr H' rs' ((s1.trans s2).trans sm) ((s1.trans s2).free hrr0) hrr hP
theorem uZ:jT 2 ["self","basin","saved"] mQ:=jS
include T in
theorem FQ (F:Fun K "let_parts" "BasinLock.let_parts" mQ f fd) (xc:Def P w K mg base 1 "parts_not_nought" ["parts"] [] (dN K)):FnOk P w K mg base jK 2 f fd ["self","basin"] (JG (jF cP cB cU) QV .basin):=by
 refine F.ok2 uZ fun vs H Q E h=>?_
 obtain ⟨x,n,h₁,l,room,v,b,rfl,⟨dx,hx0⟩,q⟩:=h;refine ⟨rfl,fun _ _ _ _ hr=>?_⟩;refine ⟨_,(@jH _ _ _ _ _ (jX 2 uZ.nd (@jL _ _ _ _ _ _ _ _ z9 (j7 K (pv 0) rfl) (pv 1)))
   (jO (jQ xc hr rfl (jB (qO (jB (kY (jB j6 (jB (pv 2) jE))) (jB (kY (jB j6 (jB (@jL _ _ _ _ _ _ _ _ z9 (j7 K (pv 0) rfl) (pv 2)) jE))) jE))) jE)))),?_⟩
 try dsimp only [jV,jU]
 have hx:=hx0;refine (jA rfl (j8 hx (T.cl .basin) (T.ur) (eZ _ _ _ _ _ _) ((jA rfl (j9 (?_))))));refine (jA rfl (⟨zz2,fun tp htp=>?_⟩));have s1:=jJ htp (.tup [.str "basin",.int (v - b)]);have hx:=s1 _ _ hx0;refine (jA rfl (j8 hx (T.cl .basin) (T.zu .basin) (dA .basin _ _ _ _ _) ((jA rfl (j9 (⟨zz2,fun tq htq=>⟨zz2,fun lp hlp=>?_⟩⟩))))));have s2:=jJ htq (.tup [.str "low",.int (room - (v - b))]);have s3:=jJ hlp (.lst [V.ref tp,V.ref tq]);refine (v6 lp ([.ref tp,.ref tq]) ([("basin",v - b),("low",room - (v - b))]) (yV rfl (so jD) ((PartsAt.nil.snoc (s3 _ _ (s2 _ _ jD))).snoc (s3 _ _ jD)) (by show 2≤10;decide) (fun rr H' rs' sm hrr0 hrr hP=>?_)));exact q rr H' rs' (((s1.trans s2).trans s3).trans sm) (((s1.trans s2).trans s3).free hrr0) hrr hP
theorem IZ:jT 4 ["self","reaches","locks","nights"] bA:=jS
include T in
theorem FT {ds:List Value} (F:FunD K "__init__" "Canal.__init__" bA f fd ds) : FnOk P w K mg base jK 1 f fd ["self","reaches","locks","nights"] (o8 (jF cP cB cU) cR cN):=by
 refine F.ok2 IZ fun vs H Q E h=>?_
 obtain ⟨x,dx,rl,ll,nv,rs,ls,R,L,N,rfl,hx,hrl,hll,hR,hL,hN,q⟩:=h;refine ⟨rfl,fun _ _ _ _ hr=>?_⟩;refine ⟨_,(@jH _ _ _ _ _ (zH (pv 0) (zA (bB K) (by rfl) T.xn PyProof.Rows.boot_list (jB (pv 1) jE)) rfl)
   (@jH _ _ _ _ _ (zH (pv 0) (zA (bB K) (by rfl) T.xn PyProof.Rows.boot_list (jB (pv 2) jE)) rfl)
   (@qG _ _ _ (zH (pv 0) (Q0 (kI DY (pv 3) ZN) (qO jE) (fN ["night"] [] (qR (jM bA)) (q0 (pv 3)) (fun _ _ _ _ _=>(zA (bB K) (by rfl) T.xn PyProof.Rows.boot_list (jB (pv 0) jE))))) rfl)))),?_⟩
 try dsimp only [jV,jU]
 have ln:∀(f:Str) (z:V) (fs:List (Str×V)) (m:Nat),fs.length≤m→(jW f z fs).length≤m+1:=fun f z fs m h=>Nat.le_trans (QD f z fs) (by omega)
 have nrx:rl≠x:=QT hrl hx (fun z=>nomatch z);have nlx:ll≠x:=QT hll hx (fun z=>nomatch z);refine (jA rfl (⟨rl,jA rfl (⟨.inl (so hrl),fun r2 hr20=>?_⟩)⟩));have s1:=jJ hr20 (.lst rs);have nr2:r2≠x:=(qV hx hr20).symm;refine (jA rfl (⟨x,cN,dx,jA rfl (⟨s1 _ _ hx,T.clN,T.xg,(by show 0<1000;decide),?_⟩)⟩));have k1:Keep x H (upd (upd H r2 (.lst rs)) x (.ins cN dx (jW "reaches" (.ref r2) []))):=(Keep.of s1).upd _;have hr2:upd (upd H r2 (.lst rs)) x (.ins cN dx (jW "reaches" (.ref r2) [])) r2=some (.lst rs):=by rw [jG nr2];exact jD
 have hx1:upd (upd H r2 (.lst rs)) x (.ins cN dx (jW "reaches" (.ref r2) [])) x=some (.ins cN dx (jW "reaches" (.ref r2) [])):=jD;generalize upd (upd H r2 (.lst rs)) x (.ins cN dx (jW "reaches" (.ref r2) []))=H1 at k1 hr2 hx1 ⊢;have l1:=ln "reaches" (.ref r2) [] 0 (Nat.le_refl _);refine (jA rfl (⟨ll,jA rfl (⟨.inl (so (k1 _ _ nlx hll)),fun l2 hl20=>?_⟩)⟩));have s2:=jJ hl20 (.lst ls);have nl2:l2≠x:=(qV hx1 hl20).symm;refine (jA rfl (⟨x,cN,dx,jA rfl (⟨s2 _ _ hx1,T.clN,T.xb,by omega,?_⟩)⟩));have l2':=ln "locks" (.ref l2) _ _ l1;have k2:Keep x H (upd (upd H1 l2 (.lst ls)) x (.ins cN dx (jW "locks" (.ref l2) (jW "reaches" (.ref r2) [])))):=(k1.trans (Keep.of s2)).upd _;have hr2b:upd (upd H1 l2 (.lst ls)) x (.ins cN dx (jW "locks" (.ref l2) (jW "reaches" (.ref r2) []))) r2=some (.lst rs):=by rw [jG nr2];exact s2 _ _ hr2
 have hl2:upd (upd H1 l2 (.lst ls)) x (.ins cN dx (jW "locks" (.ref l2) (jW "reaches" (.ref r2) []))) l2=some (.lst ls):=by rw [jG nl2];exact jD
 have hx2:upd (upd H1 l2 (.lst ls)) x (.ins cN dx (jW "locks" (.ref l2) (jW "reaches" (.ref r2) []))) x=some (.ins cN dx (jW "locks" (.ref l2) (jW "reaches" (.ref r2) []))):=jD;generalize upd (upd H1 l2 (.lst ls)) x (.ins cN dx (jW "locks" (.ref l2) (jW "reaches" (.ref r2) [])))=H2 at k2 hr2b hl2 hx2 ⊢;have frR:∀D:List Addr,(∀d∈D,H d≠none)→r2∉D:=fun D hD z=>hD _ z hr20
 have frL:∀D:List Addr,(∀d∈D,H d≠none)→l2∉D:=fun D hD z=>by
  by_cases e:l2=x
  ·exact nl2 e
  ·cases hh:H l2 with
   |none=>exact hD _ z hh
   |some o=>rw [k1 _ _ e hh] at hl20;cases hl20
 have done:∀(n2:Addr) (ns:List V) (H3:Hp),Keep x H2 H3→H2 n2=none→H3 x=some (.ins cN dx (jW "locks" (.ref l2) (jW "reaches" (.ref r2) [])))→H3 n2=some (.lst ns)→(∀D:List Addr,(∀d∈D,H2 d≠none)→AllAt (NAt D H3) ns N)→Q .non (upd H3 x (.ins cN dx (jW "nights" (.ref n2) (jW "locks" (.ref l2) (jW "reaches" (.ref r2) []))))):=by
  intro n2 ns H3 k3 hn20 hx3 hn2 hNs;have kf:Keep x H (upd H3 x (.ins cN dx (jW "nights" (.ref n2) (jW "locks" (.ref l2) (jW "reaches" (.ref r2) []))))):=(k2.trans k3).upd _;have kl:Keep x H3 (upd H3 x (.ins cN dx (jW "nights" (.ref n2) (jW "locks" (.ref l2) (jW "reaches" (.ref r2) []))))):=(Keep.refl x H3).upd _;have nn2:n2≠x:=fun z=>by rw [z,hx2] at hn20;cases hn20
  have old:∀d,H d≠none→H2 d≠none:=fun d hd=>by
   by_cases e:d=x
   ·rw [e,hx2];exact fun z=>nomatch z
   ·cases hh:H d with
    |none=>exact absurd hh hd
    |some o=>rw [k2 _ _ e hh];exact fun z=>nomatch z
  refine q _ kf fun D hD=>⟨dx,r2,l2,n2,_,rs,ls,ns,jD,NF _ _ _,?_,?_,?_,hR.mono (RcO.keepI kf hx),hL.mono (LkO.keepI kf hx),?_,frR D hD,frL D hD,fun z=>old _ (hD _ z) hn20⟩
  ·rw [jG nr2];exact k3 _ _ nr2 hr2b
  ·rw [jG nl2];exact k3 _ _ nl2 hl2
  ·rw [jG nn2];exact hn2
  ·refine (hNs D (fun d hd=>old d (hD d hd))).mono ?_;rintro v p ⟨l,qs,e1,e2,e3,e4⟩;exact ⟨l,qs,e1,kl _ _ (fun z=>by rw [z,hx3] at e2;cases e2) e2,e3.mono (QAt.keep kl hx3 (fun _ z=>nomatch z)),e4⟩
 refine ⟨_,rfl,rfl,jA rfl (?_)⟩
 rcases hN with ⟨rfl,rfl⟩|⟨nl,ns,rfl,hnl,hN,hnl100⟩
 ·refine vK rfl ⟨zz0,fun n2 hn20=>?_⟩;have s3:=jJ hn20 (.lst []);refine (jA rfl (⟨x,cN,dx,jA rfl (⟨s3 _ _ hx2,T.clN,T.xl,by omega,?_⟩)⟩));exact done n2 [] _ (Keep.of s3) hn20 (s3 _ _ hx2) jD (fun D _=>AllAt.nil)
 ·have nnx:nl≠x:=QT hnl hx (fun z=>nomatch z);have hnl2:=k2 _ _ nnx hnl;have hN2:AllAt (NAt [] H2) ns N:=hN.mono fun v p=>by
   rintro ⟨l,qs,e1,e2,e3,e4⟩;exact ⟨l,qs,e1,k2 _ _ (QT e2 hx (fun z=>nomatch z)) e2,e3.mono (QAt.keep k2 hx (fun _ z=>nomatch z)),e4⟩
  refine qX (fun z=>nomatch z) (jA rfl (⟨nl,rfl,⟨_,so hnl2⟩,fun n2 hn20=>?_⟩));refine zM (K:=K) (a:=nl) (xs:=ns) (caps:=[]) (fun i ys Hi=>(∀D:List Addr,n2∈D→(∀d∈D,d≠n2→H2 d≠none)→AllAt (NAt D Hi) ys (N.take i))) hn20 (so hnl2) (fun D _ _=>AllAt.nil) ?_ ?_
  ·rintro i v ys Hi hv hi hle sm hY hI;obtain ⟨p,hp,l,qs,rfl,hl,hq,_⟩:=hN2.2 i v hv;refine yB (kS ?_);refine (jA rfl (⟨l,qs,rfl,.inl (so (sm _ _ hl)),fun c hc0=>?_⟩));have u:=jJ hc0 (.lst qs);refine vV hn20 sm hY hle (by omega) u ?_;intro D hnD hD;rw [take_add_one,hp];refine (((hI D hnD hD).mono (NAt.same u)).snoc (v:=.ref c) (x:=p) ⟨c,qs,rfl,jD,(hq.mono (QAt.same sm)).mono (QAt.same u),fun z=>?_⟩).mono (NAt.put (u _ _ hY) hnD)
   by_cases e:c=n2
   ·rw [e,hY] at hc0;cases hc0
   ·cases hh:H2 c with
    |none=>exact hD _ z e hh
    |some o=>rw [sm _ _ hh] at hc0;cases hc0
  rintro ys H3 s3 hY hle hI;rw [hN2.1,take_length] at hI;refine (jA rfl (⟨x,cN,dx,jA rfl (⟨s3 _ _ hx2,T.clN,T.xl,by omega,?_⟩)⟩));exact done n2 ys H3 (Keep.of s3) hn20 (s3 _ _ hx2) hY (fun D hD=>(hI (n2::D) mem_cons_self (fun d hd ne=>(mem_cons.mp hd).elim (fun z=>absurd z ne) (hD d))).mono (NAt.less (fun d hd=>mem_cons_of_mem _ hd)))
theorem KF:jT 1 ["self"] mV:=jS
include T in
theorem FY (F:Fun K "sea" "Canal.sea" mV f fd) : FnOk P w K mg base jK 1 f fd ["self"] (ZZ (jF cP cB cU) cR cN JC):=by
 refine F.ok2 KF fun vs H Q E h=>?_
 obtain ⟨x,D,R,L,N,rfl,⟨dx,rl,ll,nl,fs,rs,ls,ns,hx,hf,hrl,hll,hnl,hR,hL,hN,d1,d2,d3⟩,q⟩:=h;refine ⟨rfl,fun _ _ _ _ hr=>?_⟩;refine ⟨_,(jO (@jL _ _ _ _ _ _ _ _ kK (kQ K T.xf (j7 K (pv 0) rfl)) (@jL _ _ _ _ _ _ _ _ q8 jC (kQ K T.xf (j7 K (pv 0) rfl))))),?_⟩
 try dsimp only [jV,jU]
 refine (jA rfl (j8 hx (T.clN) (T.xg) (hf.1) (⟨_,jA rfl (⟨.inl (so hrl),jA rfl (j8 hx (T.clN) (T.xb) (hf.2.1) (⟨_,jA rfl (⟨.inl (so hll),_,_,rfl,rfl,.inl ⟨by decide,by decide⟩,_,_,rfl,rfl,?_⟩)⟩))⟩)⟩)));rw [hR.1,hL.1];exact q
theorem KG:jT 1 ["self"] mW:=jS
include T in
theorem FZ (F:Fun K "sky" "Canal.sky" mW f fd) (zi:MeD P w K mg base 1 cN "sea" ["self"] (ZZ (jF cP cB cU) cR cN JC)):FnOk P w K mg base jK 2 f fd ["self"] (ZZ (jF cP cB cU) cR cN fM):=by
 refine F.ok2 KG fun vs H Q E h=>?_
 obtain ⟨x,D,R,L,N,rfl,hc,q⟩:=h;refine ⟨rfl,fun _ _ _ _ hr=>?_⟩;refine ⟨_,(jO (@jL _ _ _ _ _ _ _ _ kK (ZB zi hr (pv 0)) jC)),?_⟩
 try dsimp only [jV,jU]
 have hc0:=hc;obtain ⟨dx,rl,ll,nl,fs,rs,ls,ns,hx,hf,hrl,hll,hnl,hR,hL,hN,d1,d2,d3⟩:=hc;exact (jA rfl (⟨x,dx,jA rfl (⟨hx,hf.no (by decide +kernel) (by decide +kernel) (by decide +kernel),x,D,R,L,N,rfl,hc0,_,_,rfl,rfl,q⟩)⟩))
theorem KD:jT 1 ["self"] mU:=jS
include T in
theorem FX (F:Fun K "many" "Canal.many" mU f fd) (zj:MeD P w K mg base 2 cN "sky" ["self"] (ZZ (jF cP cB cU) cR cN fM)):FnOk P w K mg base jK 3 f fd ["self"] (ZZ (jF cP cB cU) cR cN lQ):=by
 refine F.ok2 KD fun vs H Q E h=>?_
 obtain ⟨x,D,R,L,N,rfl,hc,q⟩:=h;refine ⟨rfl,fun _ _ _ _ hr=>?_⟩;refine ⟨_,(jO (@jL _ _ _ _ _ _ _ _ kK (ZB zj hr (pv 0)) jC)),?_⟩
 try dsimp only [jV,jU]
 have hc0:=hc;obtain ⟨dx,rl,ll,nl,fs,rs,ls,ns,hx,hf,hrl,hll,hnl,hR,hL,hN,d1,d2,d3⟩:=hc;exact (jA rfl (⟨x,dx,jA rfl (⟨hx,hf.no (by decide +kernel) (by decide +kernel) (by decide +kernel),x,D,R,L,N,rfl,hc0,_,_,rfl,rfl,q⟩)⟩))
theorem KB:jT 2 ["self","k"] mS:=jS
include T in
theorem FV (F:Fun K "chamber" "Canal.chamber" mS f fd) : FnOk P w K mg base jK 1 f fd ["self","k"] (bL (jF cP cB cU) cR cN JN):=by
 refine F.ok2 KB fun vs H Q E h=>?_
 obtain ⟨x,D,R,L,N,k,rfl,⟨dx,rl,ll,nl,fs,rs,ls,ns,hx,hf,hrl,hll,hnl,hR,hL,hN,d1,d2,d3⟩,q⟩:=h;refine ⟨rfl,fun _ _ _ _ hr=>?_⟩;refine ⟨_,(jO (@jL _ _ _ _ _ _ _ _ kK (kQ K T.xf (j7 K (pv 0) rfl)) (pv 1))),?_⟩
 try dsimp only [jV,jU]
 refine (jA rfl (j8 hx (T.clN) (T.xg) (hf.1) (⟨_,jA rfl (⟨.inl (so hrl),jA rfl (j9 (?_))⟩)⟩)));rw [hR.1];exact q
theorem KA:jT 2 ["self","k"] mR:=jS
include T in
theorem FU (F:Fun K "basin" "Canal.basin" mR f fd) : FnOk P w K mg base jK 1 f fd ["self","k"] (bL (jF cP cB cU) cR cN y6):=by
 refine F.ok2 KA fun vs H Q E h=>?_
 obtain ⟨x,D,R,L,N,k,rfl,⟨dx,rl,ll,nl,fs,rs,ls,ns,hx,hf,hrl,hll,hnl,hR,hL,hN,d1,d2,d3⟩,q⟩:=h;refine ⟨rfl,fun _ _ _ _ hr=>?_⟩;refine ⟨_,(jO (@jL _ _ _ _ _ _ _ _ kK (@jL _ _ _ _ _ _ _ _ kK (kQ K T.xf (j7 K (pv 0) rfl)) (kQ K T.xf (j7 K (pv 0) rfl))) (pv 1))),?_⟩
 try dsimp only [jV,jU]
 refine (jA rfl (j8 hx (T.clN) (T.xg) (hf.1) (⟨_,jA rfl (⟨.inl (so hrl),jA rfl (j8 hx (T.clN) (T.xb) (hf.2.1) (⟨_,jA rfl (⟨.inl (so hll),_,_,rfl,rfl,jA rfl (j9 (?_))⟩)⟩))⟩)⟩)));rw [hR.1,hL.1];exact q
theorem KH:jT 1 ["self"] gE:=jS
include T in
theorem GB (F:Fun K "weirs" "Canal.weirs" gE f fd) (zi:MeD P w K mg base 1 cN "sea" ["self"] (ZZ (jF cP cB cU) cR cN JC)):FnOk P w K mg base jK 2 f fd ["self"] (iP (jF cP cB cU) cR cN):=by
 refine F.ok2 KH fun vs H Q E h=>?_
 obtain ⟨x,D,R,L,N,rfl,hc,hR100,q⟩:=h;refine ⟨rfl,fun _ _ _ _ hr=>?_⟩;refine ⟨_,(jO (fN ["reach","self"] [0] (qR (jM gE)) (q0 (j7 K (pv 0) rfl)) (fun _ _ _ _ _=>(kY (jB (j7 K (pv 0) rfl) (jB (Q0 (kI qQ (j7 K (pv 0) rfl) (fB (v:=.int (-1)) rfl T.xaM ⟨_,rfl⟩)) (ZB zi hr (pv 1)) (j7 K (pv 0) rfl)) jE)))))),?_⟩
 try dsimp only [jV,jU]
 have hc0:=hc;obtain ⟨dx,rl,ll,nl,fs,rs,ls,ns,hx,hf,hrl,hll,hnl,hR,hL,hN,d1,d2,d3⟩:=hc;refine (jA rfl (j8 hx (T.clN) (T.xg) (hf.1) (⟨rl,rfl,⟨_,so hrl⟩,fun wl hwl0=>?_⟩)));refine zM (K:=K) (a:=rl) (xs:=rs) (caps:=[some (.ref x)]) (fun i ys Hi=>AllAt (QAt Hi) ys ((R.take i).map (JI (JC R.length L.length)))) hwl0 (so hrl) AllAt.nil ?_ ?_
 ·rintro i v ys Hi hv hi hle sm hY hW;obtain ⟨r,hr,y,rfl,dy,gs,hy,hg⟩:=hR.2 i v hv;have hy:=sm _ _ hy;have hi100:i<100:=by rw [hR.1] at hi;omega
  refine yB (kS ?_);refine (jA rfl (j8 hy (T.clR) (T.xy) (hg.2.2.1) ((jA rfl (j8 hy (T.clR) (T.xr) (hg.2.2.2.2.2) (⟨rfl,jA rfl (?_)⟩))))));have put:∀z:Int,z=(JI (JC R.length L.length) r).2→∀tp,Hi tp=none→∃ys',upd Hi tp (.tup [.int r.crest,.int z]) wl=some (.lst ys')∧ys'.length<sizeLine∧Q8 H wl [some (.ref x)] (fun i ys Hi=>AllAt (QAt Hi) ys ((R.take i).map (JI (JC R.length L.length)))) (i+1) [some (.ref y),some (.ref x)] (upd (upd Hi tp (.tup [.int r.crest,.int z])) wl (.lst (ys'++[.ref tp]))):=by
   intro z hz tp htp;have u:=jJ htp (.tup [V.int r.crest,V.int z]);exact vV (R:=fun i ys Hi=>AllAt (QAt Hi) ys ((R.take i).map (JI (JC R.length L.length)))) (c:=some (.ref y)) (caps:=[some (.ref x)]) (v:=.ref tp) hwl0 sm hY hle (by omega) u (by
    rw [take_add_one,hr,map_append];exact ((hW.mono (QAt.same u)).snoc (v:=.ref tp) (x:=JI (JC R.length L.length) r) ⟨tp,rfl,by rw [← hz];exact jD⟩).mono (QAt.put (u _ _ hY)))
  by_cases ht:r.target = -1
  ·refine vK (congrArg V.int ht) (jA rfl (⟨x,dx,jA rfl (⟨(sm _ _ hx),hf.no (by decide +kernel) (by decide +kernel) (by decide +kernel),zW x D R L N (yW rfl (hc0.same sm) zz2 (fun tp htp=>?_))⟩)⟩));exact put _ (by unfold JI;rw [if_pos ht]) tp htp
  ·refine qX (fun z=>ht (V.int.inj z)) (jA rfl (j8 hy (T.clR) (T.xr) (hg.2.2.2.2.2) (⟨zz2,fun tp htp=>?_⟩)));exact put _ (by unfold JI;rw [if_neg ht]) tp htp
 rintro ys Hf sm hY hle hW;rw [hR.1,take_length] at hW;exact q wl ys Hf sm hwl0 hY hW
theorem oS:jT 1 ["self","waters","others"] gD:=jS
include T in
theorem GA (F:Fun K "start" "Canal.start" gD f fd) (ug:MeD P w K mg base 3 cN "many" ["self"] (ZZ (jF cP cB cU) cR cN lQ)) (xam:Def P w K mg base 4 "settled" ["weirs","waters"] [] (xR K)) (xo:MeD P w K mg base 2 cN "weirs" ["self"] (iP (jF cP cB cU) cR cN)):FnOk P w K mg base jK 5 f fd ["self"] (AX (jF cP cB cU) cR cN):=by
 refine F.ok2 oS fun vs H Q E h=>?_
 obtain ⟨x,D,R,L,N,rfl,hc,hR100,hL100,hT,q⟩:=h;refine ⟨rfl,fun _ _ _ _ hr=>?_⟩;refine ⟨_,(@jH _ _ _ _ _ (JV (i:=1) ["reach"] (qY 1 []) oS.nd rfl (.inl rfl) rfl (qR (jM gD)) (cps 1 []) (q0 (j7 K (pv 0) rfl)) (fun _ _ _ _ _=>(kF (i:=0) (show List.Nodup (["reach"]:List Str) from by decide +kernel) rfl (.inl rfl))) (fun _ _ _ _ _=>zB) (fun _ _ _ _ _=>(j7 K (pv 0) rfl)))
   (@jH _ _ _ _ _ (jX 2 oS.nd (@jL _ _ _ _ _ _ _ _ DX (qO (jB jC jE)) (@jL _ _ _ _ _ _ _ _ z9 (ZB ug hr (pv 0)) (kQ K T.xf (pv 1)))))
   (jO (jQ xam hr rfl (jB (ZB xo hr (pv 0)) (jB (@jL _ _ _ _ _ _ _ _ ZO (pv 1) (pv 2)) jE)))))),?_⟩
 try dsimp only [jV,jU]
 have hc0:=hc;obtain ⟨dx,rl,ll,nl,fs,rs,ls,ns,hx,hf,hrl,hll,hnl,hR,hL,hN,d1,d2,d3⟩:=hc;refine (jA rfl (j8 hx (T.clN) (T.xg) (hf.1) (⟨rl,rfl,⟨_,so hrl⟩,fun wl hwl0=>?_⟩)));refine zM (K:=K) (a:=rl) (xs:=rs) (caps:=[]) (fun i ys Hi=>ys=((R.take i).map (·.water)).map V.int) hwl0 (so hrl) rfl ?_ ?_
 ·rintro i v ys Hi hv hi hle sm hY rfl;obtain ⟨r,hr,y,rfl,dy,gs,hy,hg⟩:=hR.2 i v hv;have hy:=sm _ _ hy;have hi100:i<100:=by rw [hR.1] at hi;omega
  refine yB (kS (jA rfl (j8 hy (T.clR) (T.xz) (hg.2.2.2.2.1) (vV hwl0 sm hY hle (by omega) (Same.refl _) ?_))));rw [take_add_one,hr,map_append,map_append];rfl
 rintro ys H1 s1 hwl hle rfl;rw [hR.1,take_length] at hwl;refine ⟨zz1,fun lp hlp=>?_⟩;have s2:=jJ hlp (.lst [V.int 0]);have s12:=s1.trans s2;refine (jA rfl (⟨x,dx,jA rfl (⟨(s12 _ _ hx),hf.no (by decide +kernel) (by decide +kernel) (by decide +kernel),zW x D R L N (y8 rfl (hc0.same s12) (jA rfl (⟨wl,jA rfl (⟨.inl (so (s2 _ _ hwl)),_,_,rfl,rfl,?_⟩)⟩)))⟩)⟩));have e1:lQ R.length L.length - (((((R.map (·.water)).map V.int).length:Nat)):Int)=((2*L.length+2:Nat):Int):=by
  rw [length_map,length_map];unfold lQ;omega
 try dsimp only
 rw [e1];refine ⟨lp,_,_,rfl,rfl,jD,by omega,by omega,?_,fun gp hgp=>?_⟩
 ·rw [Int.toNat_natCast,length_singleton,Nat.one_mul];exact small (by omega)
 rw [Int.toNat_natCast,BJ];have s3:=jJ hgp (.lst ((List.replicate (2*L.length+2) (0:Int)).map V.int));have s13:=s12.trans s3;have hgp3:upd (upd H1 lp (.lst [V.int 0])) gp (.lst ((List.replicate (2*L.length+2) (0:Int)).map V.int)) gp=_:=jD;have hwl3:=s3 _ _ (s2 _ _ hwl);generalize upd (upd H1 lp (.lst [V.int 0])) gp (.lst ((List.replicate (2*L.length+2) (0:Int)).map V.int))=H3 at s3 s13 hgp3 hwl3 ⊢;refine (jA rfl (⟨x,dx,jA rfl (⟨(s13 _ _ hx),hf.no (by decide +kernel) (by decide +kernel) (by decide +kernel),zW x D R L N (yW rfl (hc0.same s13) hR100 (fun wq ws H4 s4 hwq0 hwq hW=>?_))⟩)⟩));refine (jA rfl (jA rfl (⟨wl,gp,_,_,rfl,rfl,s4 _ _ hwl3,s4 _ _ hgp3,?_,fun al hal=>?_⟩)))
 ·rw [length_map,length_map,length_map,length_replicate];exact small (by omega)
 have e2:(R.map (·.water)).map V.int++(List.replicate (2*L.length+2) (0:Int)).map V.int=(JX R L.length).map V.int:=by unfold JX;rw [map_append]
 rw [e2];have s5:=jJ hal (.lst ((JX R L.length).map V.int));have s15:=(s13.trans s4).trans s5;refine ⟨wq,al,ws,qA R L.length,JX R L.length,rfl,⟨so (s5 _ _ hwq),AS hT (hW.mono (QAt.same s5)),.inl (so jD),iC hT,by rw [bC,eM];omega,by rw [eM];omega⟩,fun r H' gs s' hr0 hr hSp=>?_⟩;exact q r H' gs (s15.trans s') (s15.free hr0) hr hSp
theorem KC:jT 3 ["self","waters","k"] mT:=jS
include T in
theorem FW (F:Fun K "full" "Canal.full" mT f fd) (xv:MeD P w K mg base 1 cN "chamber" ["self","k"] (bL (jF cP cB cU) cR cN JN)):FnOk P w K mg base jK 2 f fd ["self","waters","k"] (rR (jF cP cB cU) cR cN):=by
 refine F.ok2 KC fun vs H Q E h=>?_
 obtain ⟨x,wa,D,R,L,N,ms,k,rfl,hc,hwa,hk,q⟩:=h;refine ⟨rfl,fun _ _ _ _ hr=>?_⟩;refine ⟨_,(jO (J7 EN (jI (jR K) (pv 1) (bU xv hr (pv 0) (jB (pv 2) jE))) jC)),?_⟩
 try dsimp only [jV,jU]
 have hc0:=hc;obtain ⟨dx,rl,ll,nl,fs,rs,ls,ns,hx,hf,hrl,hll,hnl,hR,hL,hN,d1,d2,d3⟩:=hc;have hat:vC (ms.map V.int) (JN R.length L.length (k:Int))=some (.int (ms.getD (R.length+k) 0)):=by
  rw [show JN R.length L.length (k:Int)=((R.length+k:Nat):Int) by unfold JN;omega];exact zE hk
 exact (jA rfl (jA rfl (⟨x,dx,jA rfl (⟨hx,hf.no (by decide +kernel) (by decide +kernel) (by decide +kernel),jA rfl (⟨x,D,R,L,N,jA rfl (⟨hc0,jY (SqT.of hwa) hat (j9 (q))⟩)⟩)⟩)⟩)))
theorem K1:jT 2 ["lock","basin"] gL:=jS
include T in
theorem HH (F:kH K "filling" gL f fd) (zc:MeK P w K mg base 2 (jF cP cB cU) "fill_parts" ["self","basin"] (JG (jF cP cB cU) ZV)):FnOk P w K mg base jK 3 f fd ["lock","basin"] (eS (jF cP cB cU) zS):=by
 refine F.ok2 K1 fun vs H Q E h=>?_
 obtain ⟨x,kd,n,h₁,l,room,v,b,rfl,⟨dx,hx⟩,q⟩:=h;refine ⟨rfl,fun _ _ _ _ hr=>?_⟩;refine ⟨_,(jO (QF ["giver","amount"] (qY 2 []) rfl (qR (jM gL)) (cps 2 []) (q0 (EM zc hr (pv 0) (jB (pv 1) jE))) (fun _ _ _ _ _=>(QI (n:=2) K rfl (qT (kF (i:=0) (show List.Nodup (["giver","amount"]:List Str) from by decide +kernel) rfl (.inl rfl)) (qT (kF (i:=1) (show List.Nodup (["giver","amount"]:List Str) from by decide +kernel) rfl (.inl rfl)) z3)))) (fun _ _ _ _ _=>zB) (fun _ _ _ _ _=>(kY (j5 (pv 0) j6 (pv 1)))))),?_⟩
 try dsimp only [jV,jU]
 refine (jA rfl (⟨kd,x,dx,jA rfl (⟨hx,R7 kd _ _ _ _ _,jA rfl (⟨x,n,h₁,yA l room v b (y8 rfl ⟨dx,hx⟩ (fun pl H1 rs s1 hpl0 hpl hP=>?_))⟩)⟩)⟩));have hplen:=AF kd room v b;refine ⟨pl,rfl,⟨_,so hpl⟩,fun D hD=>?_⟩;have u0:=jJ hD (.lst []);refine cM (K:=K) (a:=pl) (xs:=rs) (fun i σ Hi=>∃(c1 c2:Option V) (ys:List V),σ=[c1,c2]∧Hi D=some (.lst ys)∧PoursS Hi ys ((ZV kd room v b).take i |>.map (fun p=>(p.1,"chamber",p.2)))∧Same H1 Hi)
  (v6 none none ([]) (yW rfl jD PoursS.nil u0)) (fun i σ Hi _ ⟨_,_,_,_,_,_,s⟩=>so (s _ _ hpl)) ?_ ?_
 ·rintro i y σ Hi hy ⟨c1,c2,ys,rfl,hY,hA,sm⟩;have hi:i<rs.length:=(List.getElem?_eq_some_iff.mp hy).1;obtain ⟨t,sN,nN,rfl,hps,hT⟩:=hP.2 i y hy;have hl:ys.length≤i:=by rw [hA.1,length_map];exact length_take_le _ _
  refine ⟨t,jA rfl (⟨SqT.of (sm _ _ hT),rfl,_,jA rfl (⟨_,_,rfl,rfl,?_⟩)⟩)⟩;refine yB (kS ?_);refine (jA rfl (jA rfl (⟨zz3,fun tp htp=>?_⟩)));have v1:∀o,Same Hi (upd Hi tp o):=fun o=>jJ htp o
  refine ⟨ys,v1 _ _ _ hY,yJ (by rw [hP.1] at hi;omega),_,_,ys++[.ref tp],rfl,jD,?_,qH hD (sm.trans (v1 _))⟩;rw [wD hps];exact PoursS.keep ((Keep.refl D _).upd _) (v1 _ _ _ hY) ((hA.same (v1 _)).append (PoursS.one jD))
 ·rintro σ Hi ⟨c1,c2,ys,rfl,hY,hA,sm⟩;rw [hP.1,take_length] at hA;exact q D Hi ys (s1.trans sm) (s1.free hD) hY hA
theorem K8:jT 2 ["lock","basin"] gO:=jS
include T in
theorem HS (F:kH K "letting" gO f fd) (zk:MeK P w K mg base 2 (jF cP cB cU) "let_parts" ["self","basin"] (JG (jF cP cB cU) QV)):FnOk P w K mg base jK 3 f fd ["lock","basin"] (eS (jF cP cB cU) y0):=by
 refine F.ok2 K8 fun vs H Q E h=>?_
 obtain ⟨x,kd,n,h₁,l,room,v,b,rfl,⟨dx,hx⟩,q⟩:=h;refine ⟨rfl,fun _ _ _ _ hr=>?_⟩;refine ⟨_,(jO (QF ["taker","amount"] (qY 2 []) rfl (qR (jM gO)) (cps 2 []) (q0 (EM zk hr (pv 0) (jB (pv 1) jE))) (fun _ _ _ _ _=>(QI (n:=2) K rfl (qT (kF (i:=0) (show List.Nodup (["taker","amount"]:List Str) from by decide +kernel) rfl (.inl rfl)) (qT (kF (i:=1) (show List.Nodup (["taker","amount"]:List Str) from by decide +kernel) rfl (.inl rfl)) z3)))) (fun _ _ _ _ _=>zB) (fun _ _ _ _ _=>(kY (j5 j6 (pv 0) (pv 1)))))),?_⟩
 try dsimp only [jV,jU]
 refine (jA rfl (⟨kd,x,dx,jA rfl (⟨hx,S9 kd _ _ _ _ _,jA rfl (⟨x,n,h₁,yA l room v b (y8 rfl ⟨dx,hx⟩ (fun pl H1 rs s1 hpl0 hpl hP=>?_))⟩)⟩)⟩));have hplen:=BR kd room v b;refine ⟨pl,rfl,⟨_,so hpl⟩,fun D hD=>?_⟩;have u0:=jJ hD (.lst []);refine cM (K:=K) (a:=pl) (xs:=rs) (fun i σ Hi=>∃(c1 c2:Option V) (ys:List V),σ=[c1,c2]∧Hi D=some (.lst ys)∧PoursS Hi ys ((QV kd room v b).take i |>.map (fun p=>("chamber",p.1,p.2)))∧Same H1 Hi)
  (v6 none none ([]) (yW rfl jD PoursS.nil u0)) (fun i σ Hi _ ⟨_,_,_,_,_,_,s⟩=>so (s _ _ hpl)) ?_ ?_
 ·rintro i y σ Hi hy ⟨c1,c2,ys,rfl,hY,hA,sm⟩;have hi:i<rs.length:=(List.getElem?_eq_some_iff.mp hy).1;obtain ⟨t,sN,nN,rfl,hps,hT⟩:=hP.2 i y hy;have hl:ys.length≤i:=by rw [hA.1,length_map];exact length_take_le _ _
  refine ⟨t,jA rfl (⟨SqT.of (sm _ _ hT),rfl,_,jA rfl (⟨_,_,rfl,rfl,?_⟩)⟩)⟩;refine yB (kS ?_);refine (jA rfl (jA rfl (⟨zz3,fun tp htp=>?_⟩)));have v1:∀o,Same Hi (upd Hi tp o):=fun o=>jJ htp o
  refine ⟨ys,v1 _ _ _ hY,yJ (by rw [hP.1] at hi;omega),_,_,ys++[.ref tp],rfl,jD,?_,qH hD (sm.trans (v1 _))⟩;rw [wD hps];exact PoursS.keep ((Keep.refl D _).upd _) (v1 _ _ _ hY) ((hA.same (v1 _)).append (PoursS.one jD))
 ·rintro σ Hi ⟨c1,c2,ys,rfl,hY,hA,sm⟩;rw [hP.1,take_length] at hA;exact q D Hi ys (s1.trans sm) (s1.free hD) hY hA
theorem K2:jT 2 ["vessel","pours"] gM:=jS
include T in
theorem HI (F:kH K "given_by" gM f fd) : FnOk P w K mg base jK 1 f fd ["vessel","pours"] (CI):=by
 refine F.ok2 K2 fun vs H Q E h=>?_
 obtain ⟨s₁,p,rs,qs,rfl,hP,hA,hn,q⟩:=h;refine ⟨rfl,fun _ _ _ _ hr=>?_⟩;refine ⟨_,(jO (y9 (pU rfl) (by rfl) T.vk PyProof.Rows.boot_sum (jB (QF ["source","target","amount","vessel"] (qY 3 [0]) rfl (qR (jM gM)) (cps 3 [0]) (q0 (pv 1)) (fun _ _ _ _ _=>(QI (n:=3) K rfl (qT (kF (i:=0) (show List.Nodup (["source","target","amount","vessel"]:List Str) from by decide +kernel) rfl (.inl rfl)) (qT (kF (i:=1) (show List.Nodup (["source","target","amount","vessel"]:List Str) from by decide +kernel) rfl (.inl rfl)) (qT (kF (i:=2) (show List.Nodup (["source","target","amount","vessel"]:List Str) from by decide +kernel) rfl (.inl rfl)) z3))))) (fun _ _ _ _ _=>(JH (kI qQ (pv 0) (pv 3)))) (fun _ _ _ _ _=>(pv 2))) jE))),?_⟩
 try dsimp only [jV,jU]
 refine (jA rfl (⟨p,rfl,⟨_,so hP⟩,fun D hD=>?_⟩));have u0:=jJ hD (.lst []);refine cM (K:=K) (a:=p) (xs:=rs) (fun i σ Hi=>∃(c1 c2 c3:Option V),σ=[c1,c2,c3,some (.str s₁)]∧Hi D=some (.lst ((ZD (fW s₁) (qs.take i)).map V.int))∧Same H Hi)
  (v6 none none none (y8 rfl jD u0)) (fun i σ Hi _ ⟨_,_,_,_,_,s⟩=>so (s _ _ hP)) ?_ ?_
 ·rintro i y σ Hi hy ⟨c1,c2,c3,rfl,hY,sm⟩;have hi:i<rs.length:=(List.getElem?_eq_some_iff.mp hy).1;obtain ⟨t,sS,sT,nN,rfl,hq,hT⟩:=hA.2 i y hy;have hat:=xI (fW s₁) qs i _ hq;have hal:=AQ (fW s₁) qs i;refine ⟨t,jA rfl (⟨SqT.of (sm _ _ hT),rfl,_,jA rfl (⟨_,jA rfl (⟨_,_,rfl,rfl,?_⟩)⟩)⟩)⟩;refine (jA rfl (⟨_,rfl,rfl,jA rfl (?_)⟩));rw [BZ]
  by_cases c:(fW s₁) (sS,sT,nN)=true
  ·rw [if_pos c] at hat
   have c':=of_decide_eq_true c;refine vK c' (jA rfl (⟨_,hY,yJ (by rw [length_map];omega),_,_,jA rfl (⟨?_,qH hD sm⟩)⟩));rw [jD,hat,map_append];rfl
  ·rw [if_neg c,append_nil] at hat
   have c':¬_:=of_decide_eq_false (Bool.eq_false_iff.mpr c);refine qX c' ⟨_,_,jA rfl (⟨?_,sm⟩)⟩;rw [hY,hat]
 ·rintro σ Hi ⟨c1,c2,c3,rfl,hY,sm⟩;rw [hA.1,take_length] at hY;exact ⟨D,jA rfl (⟨so hY,q Hi sm⟩)⟩
theorem u7:jT 2 ["basin","pours","got"] gJ:=jS
include T in
theorem G7 (F:kH K "basin_after" gJ f fd) (jz:Def P w K mg base 1 "given_by" ["vessel","pours"] [] (CI)):FnOk P w K mg base jK 2 f fd ["basin","pours"] (CK):=by
 refine F.ok2 u7 fun vs H Q E h=>?_
 obtain ⟨b,p,rs,qs,rfl,hP,hA,hn,q⟩:=h;refine ⟨rfl,fun _ _ _ _ hr=>?_⟩;refine ⟨_,(@jH _ _ _ _ _ (jX 2 u7.nd (y9 (pU rfl) (by rfl) T.vk PyProof.Rows.boot_sum (jB (QF ["source","target","amount"] (qY 3 []) rfl (qR (jM gJ)) (cps 3 []) (q0 (pv 1)) (fun _ _ _ _ _=>(QI (n:=3) K rfl (qT (kF (i:=0) (show List.Nodup (["source","target","amount"]:List Str) from by decide +kernel) rfl (.inl rfl)) (qT (kF (i:=1) (show List.Nodup (["source","target","amount"]:List Str) from by decide +kernel) rfl (.inl rfl)) (qT (kF (i:=2) (show List.Nodup (["source","target","amount"]:List Str) from by decide +kernel) rfl (.inl rfl)) z3))))) (fun _ _ _ _ _=>(JH (kI qQ (pv 1) j6))) (fun _ _ _ _ _=>(pv 2))) jE)))
   (jO (@jL _ _ _ _ _ _ _ _ z9 (@jL _ _ _ _ _ _ _ _ kK (pv 0) (pv 2)) (jQ jz hr rfl (jB j6 (jB (pv 1) jE)))))),?_⟩
 try dsimp only [jV,jU]
 refine (jA rfl (⟨p,rfl,⟨_,so hP⟩,fun D hD=>?_⟩));have u0:=jJ hD (.lst []);refine cM (K:=K) (a:=p) (xs:=rs) (fun i σ Hi=>∃(c1 c2 c3:Option V),σ=[c1,c2,c3]∧Hi D=some (.lst ((ZD (toS "basin") (qs.take i)).map V.int))∧Same H Hi)
  (v6 none none none (y8 rfl jD u0)) (fun i σ Hi _ ⟨_,_,_,_,_,s⟩=>so (s _ _ hP)) ?_ ?_
 ·rintro i y σ Hi hy ⟨c1,c2,c3,rfl,hY,sm⟩;have hi:i<rs.length:=(List.getElem?_eq_some_iff.mp hy).1;obtain ⟨t,sS,sT,nN,rfl,hq,hT⟩:=hA.2 i y hy;have hat:=xI (toS "basin") qs i _ hq;have hal:=AQ (toS "basin") qs i;refine ⟨t,jA rfl (⟨SqT.of (sm _ _ hT),rfl,_,jA rfl (⟨_,jA rfl (⟨_,_,rfl,rfl,?_⟩)⟩)⟩)⟩;refine ⟨_,rfl,rfl,jA rfl (?_)⟩;rw [BZ]
  by_cases c:(toS "basin") (sS,sT,nN)=true
  ·rw [if_pos c] at hat
   have c':=of_decide_eq_true c;refine vK c' (jA rfl (⟨_,hY,yJ (by rw [length_map];omega),_,_,jA rfl (⟨?_,qH hD sm⟩)⟩));rw [jD,hat,map_append];rfl
  ·rw [if_neg c,append_nil] at hat
   have c':¬_:=of_decide_eq_false (Bool.eq_false_iff.mpr c);refine qX c' ⟨_,_,jA rfl (⟨?_,sm⟩)⟩;rw [hY,hat]
 ·rintro σ Hi ⟨c1,c2,c3,rfl,hY,sm⟩;rw [hA.1,take_length] at hY;refine ⟨D,jA rfl (⟨so hY,?_⟩)⟩;refine (jA rfl (jA rfl (j9 ((jA rfl (⟨"basin",v6 p rs qs (yV rfl (sm _ _ hP) (hA.same sm) hn (fun H' s2=>⟨_,_,rfl,rfl,q H' (sm.trans s2)⟩))⟩))))))
theorem oX:jT 4 ["lock","full","basin","way","made_ready"] oF:=jS
include T in
theorem IF (F:kH K "passage" oF f fd) (zy:Def P w K mg base 3 "letting" ["lock","basin"] [] (eS (jF cP cB cU) y0)) (uq:Def P w K mg base 3 "filling" ["lock","basin"] [] (eS (jF cP cB cU) zS)) (va:Def P w K mg base 2 "basin_after" ["basin","pours"] [] (CK)):FnOk P w K mg base jK 4 f fd ["lock","full","basin","way"] (xS (jF cP cB cU)):=by
 refine F.ok2 oX fun vs H Q E h=>?_
 obtain ⟨x,kd,n,h₁,l,room,v,b,f,w,rfl,hx,q⟩:=h;refine ⟨rfl,fun _ _ _ _ hr=>?_⟩;refine ⟨_,(@jH _ _ _ _ _ (kU (kI qQ (pv 3) j6) (@jH _ _ _ _ _ (jX 4 oX.nd (Q0 (yH (pv 1)) (jQ zy hr rfl (jB (pv 0) (jB (pv 2) jE))) (qO jE)))
   (jO (@jL _ _ _ _ _ _ _ _ ZO (pv 4) (jQ uq hr rfl (jB (pv 0) (jB (jQ va hr rfl (jB (pv 2) (jB (pv 4) jE))) jE)))))) kT)
   (@jH _ _ _ _ _ (jX 4 oX.nd (Q0 (yH (pv 1)) (qO jE) (jQ uq hr rfl (jB (pv 0) (jB (pv 2) jE)))))
   (jO (@jL _ _ _ _ _ _ _ _ ZO (pv 4) (jQ zy hr rfl (jB (pv 0) (jB (jQ va hr rfl (jB (pv 2) (jB (pv 4) jE))) jE))))))),?_⟩
 try dsimp only [jV,jU]
 cases w with
 |true =>
  refine ⟨_,rfl,rfl,jA rfl (vK rfl ?_)⟩;cases f with
  |true =>
   refine (jA rfl (jA rfl (kS (jA rfl (jA rfl (⟨x,kd,n,h₁,yA l room v b (y8 rfl hx (fun m H1 rs s1 hm0 hm hA=>?_))⟩))))));have hl:=bH kd room v b;have hl2:=eR kd room v (QP b (y0 kd room v b));refine (jA rfl (jA rfl (jA rfl (jA rfl (⟨b,m,rs,jA rfl (⟨hm,hA,by rw [hA.1];omega,fun H2 s2=>?_⟩)⟩)))));refine ⟨x,kd,n,h₁,l,room,v,jA rfl (⟨(hx.same s1).same s2,fun z H3 rs3 s3 hz0 hz hA3=>?_⟩)⟩;refine ⟨m,z,_,_,rfl,rfl,s3 _ _ (s2 _ _ hm),hz,small (by rw [hA.1,hA3.1];omega),fun y hy0=>?_⟩;have s4:=jJ hy0 (.lst (rs++rs3));exact q y _ (rs++rs3) (((s1.trans s2).trans s3).trans s4) (((s1.trans s2).trans s3).free hy0) jD ((((hA.same s2).same s3).append hA3).same s4)
  |false =>
   refine (jA rfl (jA rfl (qI ⟨zz0,fun m hm0=>?_⟩)));have s1:=jJ hm0 (.lst []);have hm:upd H m (.lst []) m=some (.lst []):=jD;generalize upd H m (.lst [])=H1 at s1 hm ⊢;refine (jA rfl (jA rfl (jA rfl (jA rfl ((yA b m ([]) ([]) (yV rfl hm PoursS.nil (by decide) (fun H2 s2=>?_))))))));rw [xJ];refine ⟨x,kd,n,h₁,yA l room v b (y8 rfl ((hx.same s1).same s2) (fun z H3 rs3 s3 hz0 hz hA3=>?_))⟩;refine ⟨m,z,_,_,rfl,rfl,s3 _ _ (s2 _ _ hm),hz,small (by rw [hA3.1];have:=eR kd room v b;have:=bH kd room v b;show 0+_≤1000;omega),fun y hy0=>?_⟩;have s4:=jJ hy0 (.lst ([]++rs3));exact q y _ rs3 (((s1.trans s2).trans s3).trans s4) (((s1.trans s2).trans s3).free hy0) jD (hA3.same s4)
 |false =>
  refine ⟨_,rfl,rfl,jA rfl (qX TJ ?_)⟩;cases f with
  |false =>
   refine (jA rfl (jA rfl (qI (jA rfl (jA rfl (⟨x,kd,n,h₁,yA l room v b (y8 rfl hx (fun m H1 rs s1 hm0 hm hA=>?_))⟩))))));have hl:=eR kd room v b;have hl2:=bH kd room v (QP b (zS kd room v b));refine (jA rfl (jA rfl (jA rfl (jA rfl (⟨b,m,rs,jA rfl (⟨hm,hA,by rw [hA.1];omega,fun H2 s2=>?_⟩)⟩)))));refine ⟨x,kd,n,h₁,l,room,v,jA rfl (⟨(hx.same s1).same s2,fun z H3 rs3 s3 hz0 hz hA3=>?_⟩)⟩;refine ⟨m,z,_,_,rfl,rfl,s3 _ _ (s2 _ _ hm),hz,small (by rw [hA.1,hA3.1];omega),fun y hy0=>?_⟩;have s4:=jJ hy0 (.lst (rs++rs3));exact q y _ (rs++rs3) (((s1.trans s2).trans s3).trans s4) (((s1.trans s2).trans s3).free hy0) jD ((((hA.same s2).same s3).append hA3).same s4)
  |true =>
   refine (jA rfl (jA rfl (kS ⟨zz0,fun m hm0=>?_⟩)));have s1:=jJ hm0 (.lst []);have hm:upd H m (.lst []) m=some (.lst []):=jD;generalize upd H m (.lst [])=H1 at s1 hm ⊢;refine (jA rfl (jA rfl (jA rfl (jA rfl ((yA b m ([]) ([]) (yV rfl hm PoursS.nil (by decide) (fun H2 s2=>?_))))))));rw [xJ];refine ⟨x,kd,n,h₁,yA l room v b (y8 rfl ((hx.same s1).same s2) (fun z H3 rs3 s3 hz0 hz hA3=>?_))⟩;refine ⟨m,z,_,_,rfl,rfl,s3 _ _ (s2 _ _ hm),hz,small (by rw [hA3.1];have:=eR kd room v b;have:=bH kd room v b;show 0+_≤1000;omega),fun y hy0=>?_⟩;have s4:=jJ hy0 (.lst ([]++rs3));exact q y _ rs3 (((s1.trans s2).trans s3).trans s4) (((s1.trans s2).trans s3).free hy0) jD (hA3.same s4)
theorem LH:jT 2 ["lock","side"] oN:=jS
include T in
theorem IN (F:kH K "step_ends" oN f fd) : FnOk P w K mg base jK 1 f fd ["lock","side"] (DO (jF cP cB cU)):=by
 refine F.ok2 LH fun vs H Q E h=>?_
 obtain ⟨y,l,b,rfl,⟨y₂,e,dl,hl⟩,q⟩:=h;refine ⟨rfl,fun _ _ _ _ hr=>?_⟩;refine ⟨_,(jO (Q0 (kI qQ (pv 1) j6) (kY (jB (j7 K (pv 0) rfl) (jB (j7 K (pv 0) rfl) jE))) (kY (jB (j7 K (pv 0) rfl) (jB (j7 K (pv 0) rfl) jE))))),?_⟩
 try dsimp only [jV,jU]
 cases e;refine ⟨_,rfl,rfl,jA rfl (?_)⟩;rw [EF];cases b with
 |true=>exact kS (jA rfl (j8 hl (T.cl l.kd) (T.vm l.kd) (dH l.kd _ _ _ _ _) ((jA rfl (j8 hl (T.cl l.kd) (T.zt l.kd) (dB l.kd _ _ _ _ _) (⟨zz2,fun t ht=>q t _ (jJ ht _) ht jD⟩))))))
 |false=>exact qI (jA rfl (j8 hl (T.cl l.kd) (T.zt l.kd) (dB l.kd _ _ _ _ _) ((jA rfl (j8 hl (T.cl l.kd) (T.vm l.kd) (dH l.kd _ _ _ _ _) (⟨zz2,fun t ht=>q t _ (jJ ht _) ht jD⟩))))))
theorem eC:jT 3 ["canal","start","steps","along","k","side","ends"] nZ:=jS
include T in
theorem HU (F:kH K "linked" nZ f fd) (jn:Def P w K mg base 1 "step_ends" ["lock","side"] [] (DO (jF cP cB cU))):FnOk P w K mg base (vS P w) 2 f fd ["canal","start","steps"] (BE K (jF cP cB cU) cR cN eL):=by
 refine F.okX2 eC fun vs H Q E h=>?_
 obtain ⟨x,st,s₁,us,ps,D,R,L,N,rfl,⟨dx,rl,ll,nl,fs,rs,ls,ns,hx,hf,hrl,hll,hnl,hR,hL,hN,d1,d2,d3⟩,hst,hP,hlt,h100,qv,qe⟩:=h;refine ⟨rfl,fun _ _ _ _ hr=>?_⟩;refine ⟨_,(@jH _ _ _ _ _ (jX 3 eC.nd (qO (jB (pv 1) jE)))
   (@jH _ _ _ _ _ (yZ DW rfl (SQ (pv 2)) (lF rfl (qT (kF (i:=4) eC.nd rfl (.inl rfl)) (qT (kF (i:=5) eC.nd rfl (.inl rfl)) z3)))
    (@jH _ _ _ _ _ (jX 6 eC.nd (jQ jn hr rfl (jB (jI (kL K) (j7 K (pv 0) rfl) (pv 4)) (jB (pv 5) jE))))
   (@jH _ _ _ _ _ (kU (kI zR (jI (jR K) (pv 6) jC) (jI (kL K) (pv 3) (QQ QL jC))) (@qG _ _ _ (rC pK rfl rfl T.vo T.vp (jB j6 jE))) kT)
   (@qG _ _ _ (JE (QR PySem.F.plainAttrs_list PySem.F.slot_list_append PySem.F.type_list_append QE (pv 3) (jB (jI (jR K) (pv 6) jC) jE)))))))
   (jO (pv 3)))),?_⟩
 try dsimp only [jV,jU]
 refine (jA rfl (⟨zz1,fun al hal0=>?_⟩));have s1:=jJ hal0 (.lst [V.int s₁]);refine ⟨_,rfl,st,rfl,⟨_,SqT.of (s1 _ _ hst)⟩,R4 (K:=K) (a:=st) (xs:=us) (fun i σ Hi=>∃c4 c5 c6:Option V,σ=[some (.ref x),some (.int s₁),some (.ref st),some (.ref al),c4,c5,c6]∧Hi al=some (.lst ((vG L s₁ (ps.take i)).map V.int))∧(∀(j:Nat) (p:Nat×Bool),j<i→ps[j]?=some p→(vG L s₁ ps)[j]?=some (vJ L p).1)∧Same H Hi)
  (v6 none none none (yW rfl jD (fun j p hj=>absurd hj (Nat.not_lt_zero j)) s1)) (fun i σ Hi _ ⟨_,_,_,_,_,_,s⟩=>SqT.of (s _ _ hst)) ?_ ?_⟩
 ·rintro i v σ Hi hv ⟨c4,c5,c6,rfl,hal,hok,sm⟩;obtain ⟨⟨pk,pb⟩,hp,t,rfl,ht⟩:=hP.2 i v hv;have hpl:pk<L.length:=hlt _ (mem_of_getElem? hp);have hi:i<ps.length:=(List.getElem?_eq_some_iff.mp hp).1;obtain ⟨l,hl'⟩:∃l,L[pk]?=some l:=⟨_,List.getElem?_eq_getElem hpl⟩;obtain ⟨w,hw,y,rfl,dl,hl⟩:=hL.get hl';have hdl:(vG L s₁ (ps.take i)).length=i+1:=by rw [eX,length_take];omega
  obtain ⟨z,hz⟩:∃z,(vG L s₁ (ps.take i))[i]?=some z:=⟨_,List.getElem?_eq_getElem (by omega)⟩;have hlast:vC ((vG L s₁ (ps.take i)).map V.int) (-1)=some (.int z):=atI_last (n:=i) (by rw [length_map,hdl]) (by rw [List.getElem?_map,hz];rfl);refine ⟨t,jA rfl (⟨SqT.of (sm _ _ ht),rfl,_,jA rfl (⟨_,_,rfl,rfl,?_⟩)⟩)⟩;refine (jA rfl (j8 ((sm _ _ hx)) (T.clN) (T.xb) (hf.2.1) ((jA rfl (qB (so (sm _ _ hll)) (kZ hw) ((jA rfl ((v6 y l pb (y8 rfl ⟨y,rfl,dl,sm _ _ hl⟩ (fun te He se hte0 hte=>?_)))))))))));have smE:=sm.trans se;have halE:=se _ _ hal;have ee:vJ L (pk,pb)=(if pb then l.low else l.high,if pb then l.high else l.low):=by cases pb;exact bD hl';exact bJ hl'
  have hdue:(vG L s₁ ps)[i]?=some z:=by rw [R9 (by omega)];exact hz
  refine (jA rfl (jY (SqT.of hte) rfl ((jA rfl (jA rfl (qB (so halE) hlast (⟨rfl,jA rfl (?_)⟩)))))))
  by_cases h:(if pb then l.low else l.high)=z
  ·refine zJ (congrArg V.int h) ?_;refine (jA rfl (⟨.inl ⟨rfl,_,so halE⟩,jA rfl (jY (SqT.of hte) rfl (⟨al,_,_,rfl,rfl,halE,yJ (by rw [length_map,hdl];omega),?_⟩))⟩));refine ⟨_,_,jA rfl (⟨?_,fun j p hj hpj=>?_,qH hal0 smE⟩)⟩
   ·rw [jD,take_add_one,hp];show _=some (HO.lst ((vG L s₁ (ps.take i++[(pk,pb)])).map V.int));rw [pT,map_append,ee];rfl
   ·by_cases c:j=i
    ·subst c;rw [hp] at hpj;cases hpj;rw [hdue,ee,h]
    ·exact hok j p (by omega) hpj
  ·refine ZU (fun e=>h (V.int.inj e)) ⟨by show 1≤sizeLine;decide,qe (fun ok=>h ?_) _ smE⟩;have:=ok i _ hp;rw [hdue,ee] at this;exact (Option.some.inj this).symm
 rintro σ Hi ⟨c4,c5,c6,rfl,hal,hok,sm⟩;rw [hP.1,take_length] at hal;exact (jA rfl (qv (fun j p hp=>hok j p (by rw [hP.1];exact (List.getElem?_eq_some_iff.mp hp).1) hp) al Hi sm hal0 hal))
theorem LJ:jT 2 ["way","place"] oO:=jS
include T in
theorem IP (F:kH K "steps_to_do" oO f fd) : FnOk P w K mg base jK 1 f fd ["way","place"] (sL):=by
 refine F.ok2 LJ fun vs H Q E h=>?_
 obtain ⟨t,y,p,rfl,⟨t₂,st,us,e,h1,h2,h3⟩,q⟩:=h;refine ⟨rfl,fun _ _ _ _ hr=>?_⟩;refine ⟨_,(jO (@jL _ _ _ _ _ _ _ _ z9 (kQ K T.xf (jI (jR K) (pv 0) jC)) (pv 1))),?_⟩
 try dsimp only [jV,jU]
 cases e;refine (jA rfl (jY (SqT.of h1) rfl (⟨st,jA rfl (⟨.inr (SqT.of h2),jA rfl (j9 (?_))⟩)⟩)));rw [h3.1];exact q
theorem LE:jT 3 ["canal","way","place"] oI:=jS
include T in
theorem II (F:kH K "reach_of" oI f fd) (zd:Def P w K mg base 1 "steps_to_do" ["way","place"] [] (sL)) (xat:Def P w K mg base 2 "linked" ["canal","start","steps"] [] (pN K (jF cP cB cU) cR cN)):FnOk P w K mg base jK 3 f fd ["canal","way","place"] (pM (jF cP cB cU) cR cN):=by
 refine F.ok2 LE fun vs H Q E h=>?_
 obtain ⟨x,t,y,p,D,R,L,N,rfl,hc,hwy,ok,hp,q⟩:=h;refine ⟨rfl,fun _ _ _ _ hr=>?_⟩;refine ⟨_,(@jH _ _ _ _ _ (kU (kI qQ (jQ zd hr rfl (jB (pv 1) (jB (pv 2) jE))) jC) (jO (fB (v:=.int (-1)) rfl T.uu ⟨_,rfl⟩)) kT)
   (jO (jI (kL K) (jQ xat hr rfl (j5 (pv 0) (jI (jR K) (pv 1) jC) (jI (jR K) (pv 1) jC))) (pv 2)))),?_⟩
 try dsimp only [jV,jU]
 obtain ⟨t₂,st,us,e,h1,h2,h3⟩:=id hwy;cases e;refine (jA rfl (jA rfl (⟨t,y,jA rfl (⟨hwy,rfl,jA rfl (?_)⟩)⟩)))
 by_cases h:p=y.2.length
 ·refine vK (congrArg V.int (by omega)) ?_;have:=q H (Same.refl _);rw [show vT L y p = -1 from if_pos h] at this;exact this
 ·refine qX (fun z=>h (by have:=V.int.inj z;omega)) ?_;have hle:=ok.le;refine (jA rfl (jA rfl (jY (SqT.of h1) rfl ((jA rfl (jY (SqT.of h1) rfl ((VS x st y.1 us y.2 D R L N (fX rfl hc h2 h3 ok.lt (by omega) ok.ok (fun r H' s' hr0 hr=>?_))))))))));have hl:p<(vG L y.1 y.2).length:=by rw [eX];omega
  refine (jA rfl (qB (so hr) (zE hl) (?_)));have:=q H' s';rw [show vT L y p=(vG L y.1 y.2).getD p 0 from if_neg h] at this;exact this
theorem K9:jT 4 ["canal","ways","state","reach"] gP:=jS
include T in
theorem HW (F:kH K "lying" gP f fd) (zm:Def P w K mg base 3 "reach_of" ["canal","way","place"] [] (pM (jF cP cB cU) cR cN)):FnOk P w K mg base jK 4 f fd ["canal","ways","state","reach"] (CD (jF cP cB cU) cR cN):=by
 refine F.ok2 K9 fun vs H Q E h=>?_
 obtain ⟨x,wl,st,r,us,ys,d,ms,pl,D,R,L,N,rfl,hc,hwl,hA,⟨wt,pt,hst,hwt,hpt⟩,hfl,q⟩:=h;refine ⟨rfl,fun _ _ _ _ hr=>?_⟩;refine ⟨_,(jO (QR PySem.F.plainAttrs_list PySem.F.slot_list_count PySem.F.type_list_count O3 (QF ["way","place","canal"] (qY 2 [0]) rfl (qR (jM gP)) (cps 2 [0]) (CS (by rfl) T.vy (jB (pv 1) (jB (jI (jR K) (pv 2) jC) jE))) (fun _ _ _ _ _=>(QI (n:=2) K rfl (qT (kF (i:=0) (show List.Nodup (["way","place","canal"]:List Str) from by decide +kernel) rfl (.inl rfl)) (qT (kF (i:=1) (show List.Nodup (["way","place","canal"]:List Str) from by decide +kernel) rfl (.inl rfl)) z3)))) (fun _ _ _ _ _=>zB) (fun _ _ _ _ _=>(jQ zm hr rfl (j5 (pv 2) (pv 0) (pv 1))))) (jB (pv 3) jE))),?_⟩
 try dsimp only [jV,jU]
 refine (jA rfl (jA rfl (jY (SqT.of hst) rfl (⟨wl,pt,rfl,⟨_,so hwl⟩,⟨_,SqT.of hpt⟩,fun D₁ hD₁=>?_⟩))));refine wQ (K:=K) (a1:=wl) (a2:=pt) (xs:=us) (ys:=pl.map fun (p:Nat)=>V.int (p:Int)) (fun i σ Hi=>∃c1 c2:Option V,σ=[c1,c2,some (.ref x)]∧Hi D₁=some (.lst (((JD L ys pl).take i).map V.int))∧Same H Hi)
  ⟨none,none,rfl,by rw [jD,take_zero];rfl,jJ hD₁ _⟩ (fun i σ Hi _ ⟨_,_,_,_,s⟩=>⟨so (s _ _ hwl),SqT.of (s _ _ hpt)⟩) (by rw [hA.1,length_map,hfl.len]) ?_ ?_
 ·rintro i v z σ Hi T₁ hv hz ⟨c1,c2,rfl,hY,sm⟩ hT;obtain ⟨y,hy,hwy⟩:=hA.2 i v hv;have hi:i<ys.length:=(List.getElem?_eq_some_iff.mp hy).1;obtain ⟨t,st₂,us₂,rfl,hw1,hw2,hw3⟩:=id hwy;have hip:i<pl.length:=by rw [hfl.len];exact hi
  rw [List.getElem?_map,List.getElem?_eq_getElem hip] at hz;cases hz;have u:=jJ hT (.tup [V.ref t,V.int ((pl[i]:Nat):Int)]);have smu:=sm.trans u;have hwy2:=WyAt.same smu _ _ hwy;have hp:=hfl.le i y pl[i] hy (List.getElem?_eq_getElem hip);have hg1:ys.getD i (0,[])=y:=by rw [getD_eq_getElem?_getD,hy];rfl
  have hg2:pl.getD i 0=pl[i]:=by rw [getD_eq_getElem?_getD,List.getElem?_eq_getElem hip];rfl
  have h10:=hfl.n10;have hYu:=u _ _ hY;refine ⟨T₁,jA rfl (⟨SqT.of jD,rfl,_,jA rfl (⟨_,_,rfl,rfl,?_⟩)⟩)⟩;generalize upd Hi T₁ (.tup [V.ref t,V.int ((pl[i]:Nat):Int)])=Hj at u smu hwy2 hYu ⊢;refine yB (kS ?_);refine (jA rfl (jA rfl (jA rfl (⟨x,t,y,pl[i],yA D R L N (yE rfl (hc.same smu) hwy2 (hfl.ok y (mem_of_getElem? hy)) hp (fun H' s'=>?_))⟩))));refine ⟨_,s' _ _ hYu,yJ (by rw [length_map,length_take];unfold JD;rw [length_map,length_range];omega),_,jA rfl (⟨?_,qH hD₁ (smu.trans s')⟩)⟩;rw [jD,take_add_one,show (JD L ys pl)[i]?=some (vT L y pl[i]) by unfold JD;rw [List.getElem?_map,List.getElem?_range hi,← hg1,← hg2];rfl,map_append];rfl
 rintro σ Hf ⟨c1,c2,rfl,hY,sm⟩;rw [hA.1,take_of_length_le (by unfold JD;rw [length_map,length_range];exact Nat.le_refl _)] at hY;refine ⟨.inl ⟨rfl,_,so hY⟩,jA rfl (⟨D₁,_,_,rfl,rfl,hY,rfl,M3 _,?_⟩)⟩;have e:((JD L ys pl).map V.int).countP (fun z=>y7 z (.int r))=(JD L ys pl).countP fun z=>decide (z=r):=by rw [countP_map];rfl
 rw [e];exact q Hf sm
theorem eE:jT 3 ["canal","state","weather","waters","sky","sun","rain"] cG:=jS
include T in
theorem IA (F:kH K "night_pours" cG f fd) (zj:MeD P w K mg base 2 cN "sky" ["self"] (ZZ (jF cP cB cU) cR cN fM)) (ze:Def P w K mg base 4 "with_spills" ["weirs","waters","pours"] [] (rO K)) (xo:MeD P w K mg base 2 cN "weirs" ["self"] (iP (jF cP cB cU) cR cN)):FnOk P w K mg base jK 5 f fd ["canal","state","weather"] (BD K (jF cP cB cU) cR cN):=by
 refine F.ok2 eE fun vs H Q E h=>?_
 obtain ⟨x,t,wl,d,ms,ps,us,W,D,R,L,N,rfl,hc,⟨wt,pt,h1,h2,h3⟩,hwl,hA,hWR,hms,hR100,hL100,hTg,q⟩:=h;refine ⟨rfl,fun _ _ _ _ hr=>?_⟩;refine ⟨_,(@jH _ _ _ _ _ (jX 3 eE.nd (jI (jR K) (pv 1) jC))
   (@jH _ _ _ _ _ (jX 4 eE.nd (ZB zj hr (pv 0)))
   (@jH _ _ _ _ _ (JV (i:=5) ["at","pair","sky","waters"] (qY 2 [4,3]) eE.nd rfl (.inl rfl) rfl (qR (jM cG)) (cps 2 [4,3]) (CT (by rfl) T.xj (jB (pv 2) jE)) (fun _ _ _ _ _=>(QI (n:=2) K rfl (qT (kF (i:=0) (show List.Nodup (["at","pair","sky","waters"]:List Str) from by decide +kernel) rfl (.inl rfl)) (qT (kF (i:=1) (show List.Nodup (["at","pair","sky","waters"]:List Str) from by decide +kernel) rfl (.inl rfl)) z3)))) (fun _ _ _ _ _=>zB) (fun _ _ _ _ _=>(kY (j5 (pv 0) (pv 2) (y9 (OG rfl) (by rfl) T.ul PyProof.Rows.boot_min (jB (jI (jR K) (pv 1) jC) (jB (jI (jR K) (pv 3) (pv 0)) jE)))))))
   (@jH _ _ _ _ _ (JV (i:=6) ["at","pair","sky"] (qY 2 [4]) eE.nd rfl (.inl rfl) rfl (qR (jM cG)) (cps 2 [4]) (CT (by rfl) T.xj (jB (pv 2) jE)) (fun _ _ _ _ _=>(QI (n:=2) K rfl (qT (kF (i:=0) (show List.Nodup (["at","pair","sky"]:List Str) from by decide +kernel) rfl (.inl rfl)) (qT (kF (i:=1) (show List.Nodup (["at","pair","sky"]:List Str) from by decide +kernel) rfl (.inl rfl)) z3)))) (fun _ _ _ _ _=>zB) (fun _ _ _ _ _=>(kY (j5 (pv 2) (pv 0) (jI (jR K) (pv 1) jC)))))
   (jO (jQ ze hr rfl (j5 (ZB xo hr (pv 0)) (pv 3) (bZ ["pour"] [] (qR (jM cG)) (q0 (@jL _ _ _ _ _ _ _ _ ZO (pv 5) (pv 6))) (fun _ _ _ _ _=>(JH (kI zR (jI (jR K) (pv 0) jC) jC))) (fun _ _ _ _ _=>(pv 0)))))))))),?_⟩
 try dsimp only [jV,jU]
 have hc0:=hc;obtain ⟨dx,rl,ll,nl,fs,rs,ls,nv,hx,hf,hrl,hll,hnl,hR,hL,hN,d1,d2,d3⟩:=hc;obtain ⟨sk,hsk⟩:∃sk,sk=R.length+2*L.length+1:=⟨_,rfl⟩;have esk:fM R.length L.length=(sk:Int):=by unfold fM;omega
 refine (jA rfl (jY (SqT.of h1) rfl (?_)));refine (jA rfl (⟨x,dx,jA rfl (⟨hx,hf.no (by decide +kernel) (by decide +kernel) (by decide +kernel),zW x D R L N (y8 rfl hc0 (?_))⟩)⟩));rw [esk];refine (jA rfl (⟨wl,rfl,⟨_,so hwl⟩,fun D₁ hD₁=>?_⟩));refine wR (K:=K) (a:=wl) (xs:=us) (fun i σ Hi=>∃c1 c2:Option V,σ=[c1,c2,some (.int (sk:Int)),some (.ref wt)]∧∃ys:List V,Hi D₁=some (.lst ys)∧PoursH Hi ys ((bT sk ms W R.length).take i) ms.length∧Same H Hi) ⟨none,none,rfl,[],jD,PoursH.nil _ _,jJ hD₁ _⟩ (fun i σ Hi _ ⟨_,_,_,_,_,_,s⟩=>so (s _ _ hwl)) ?_ ?_
 ·rintro i v σ Hi T₁ hv ⟨c1,c2,rfl,ys,hY,hP,sm⟩ hT;have hi:i<us.length:=(List.getElem?_eq_some_iff.mp hv).1;rw [hA.1] at hi;obtain ⟨y,hy,t1,rfl,ht1⟩:=hA.2 i v hv;have u:=jJ hT (.tup [V.int (i:Int),V.ref t1]);have smu:=sm.trans u;have hYu:=u _ _ hY;refine ⟨T₁,jA rfl (⟨SqT.of jD,rfl,_,jA rfl (⟨_,_,rfl,rfl,?_⟩)⟩)⟩;generalize upd Hi T₁ (.tup [V.int (i:Int),V.ref t1])=Hj at u smu hYu ⊢;refine yB (kS ?_);refine (jA rfl (jA rfl (jA rfl (jY (SqT.of (smu _ _ ht1)) rfl ((jA rfl (jA rfl (jY (SqT.of (smu _ _ h2)) (zE (by omega)) (⟨_,jA rfl (?_)⟩)))))))))
  try dsimp only
  first|rw [← B6 hy]|rw [← OM hy]
  refine ⟨zz3,fun tp htp=>?_⟩;have u2:=jJ htp (.tup [V.int (i:Int),V.int (sk:Int),V.int (dQ ms W i)]);have hY2:=u2 _ _ hYu;have hlen:=hP.1;rw [length_take,pX] at hlen;refine ⟨ys,hY2,yJ (by omega),_,jA rfl (⟨ys++[.ref tp],jD,?_,qH hD₁ (smu.trans u2)⟩)⟩;rw [NL (by omega)];exact (((hP.same u).same u2).snoc jD (by omega) (by omega)).put hY2
 rintro σ H1 ⟨c1,c2,rfl,ys1,hY1,hP1,s1⟩;rw [hA.1,hWR,take_of_length_le (by rw [pX];exact Nat.le_refl _)] at hP1;refine (jA rfl (⟨wl,rfl,⟨_,so (s1 _ _ hwl)⟩,fun D₂ hD₂=>?_⟩));refine wR (K:=K) (a:=wl) (xs:=us) (fun i σ Hi=>∃c1 c2:Option V,σ=[c1,c2,some (.int (sk:Int))]∧∃ys:List V,Hi D₂=some (.lst ys)∧PoursH Hi ys ((bM sk W R.length).take i) ms.length∧Same H1 Hi) ⟨none,none,rfl,[],jD,PoursH.nil _ _,jJ hD₂ _⟩ (fun i σ Hi _ ⟨_,_,_,_,_,_,s⟩=>so (s _ _ (s1 _ _ hwl))) ?_ ?_
 ·rintro i v σ Hi T₁ hv ⟨c1,c2,rfl,ys,hY,hP,sm⟩ hT;have hi:i<us.length:=(List.getElem?_eq_some_iff.mp hv).1;rw [hA.1] at hi;obtain ⟨y,hy,t1,rfl,ht1⟩:=hA.2 i v hv;have ht1:=s1 _ _ ht1;have u:=jJ hT (.tup [V.int (i:Int),V.ref t1]);have smu:=sm.trans u;have hYu:=u _ _ hY;refine ⟨T₁,jA rfl (⟨SqT.of jD,rfl,_,jA rfl (⟨_,_,rfl,rfl,?_⟩)⟩)⟩;generalize upd Hi T₁ (.tup [V.int (i:Int),V.ref t1])=Hj at u smu hYu ⊢;refine yB (kS ?_);refine (jA rfl (jA rfl (jA rfl (jY (SqT.of (smu _ _ ht1)) rfl (?_)))));rw [show y.1=(W.getD i (0,0)).1 by rw [E9 hy]];refine ⟨zz3,fun tp htp=>?_⟩;have u2:=jJ htp (.tup [V.int (sk:Int),V.int (i:Int),V.int (W.getD i (0,0)).1]);have hY2:=u2 _ _ hYu;have hlen:=hP.1;rw [length_take,pO] at hlen;refine ⟨ys,hY2,yJ (by omega),_,jA rfl (⟨ys++[.ref tp],jD,?_,qH hD₂ (smu.trans u2)⟩)⟩;rw [MP (by omega)];exact (((hP.same u).same u2).snoc jD (by omega) (by omega)).put hY2
 rintro σ H2 ⟨c1',c2',rfl,ys2,hY2,hP2,s2⟩;rw [hA.1,hWR,take_of_length_le (by rw [pO];exact Nat.le_refl _)] at hP2;have s12:=s1.trans s2;have hl1:=hP1.1;have hl2:=hP2.1;rw [pX] at hl1;rw [pO] at hl2;refine (jA rfl (⟨x,dx,jA rfl (⟨(s12 _ _ hx),hf.no (by decide +kernel) (by decide +kernel) (by decide +kernel),zW x D R L N (yW rfl (hc0.same s12) hR100 (fun wq ws H3 s3 hwq0 hwq hW=>?_))⟩)⟩));have s13:=s12.trans s3;refine (jA rfl (jA rfl (jA rfl (⟨D₁,D₂,_,_,rfl,rfl,s3 _ _ (s2 _ _ hY1),s3 _ _ hY2,small (by omega),fun al hal=>?_⟩))));have s4:=jJ hal (.lst (ys1++ys2));have hal4:upd H3 al (.lst (ys1++ys2)) al=_:=jD;have hP4:PoursH (upd H3 al (.lst (ys1++ys2))) (ys1++ys2) (Q4 sk ms W R.length) ms.length:=(((hP1.same s2).same s3).same s4).append ((hP2.same s3).same s4);have s14:=s13.trans s4;have hwq4:=s4 _ _ hwq;have hW4:=hW.mono (QAt.same s4);generalize upd H3 al (.lst (ys1++ys2))=H4 at s4 hal4 hP4 s14 hwq4 hW4 ⊢;refine ⟨al,rfl,⟨_,so hal4⟩,fun Df hDf=>?_⟩;refine zM (K:=K) (a:=al) (xs:=ys1++ys2) (caps:=[]) (fun i ys Hi=>PoursH Hi ys (((Q4 sk ms W R.length).take i).filter q9) ms.length) hDf (so hal4) (PoursH.nil _ _) ?_ ?_
 ·rintro i v ys Hi hv hi hle sm hY hP;rw [length_append] at hi;obtain ⟨a,s,tt,m,rfl,hq,hT,hs,ht⟩:=hP4.2 i v hv;have ef:((Q4 sk ms W R.length).take (i+1)).filter q9=((Q4 sk ms W R.length).take i).filter q9++[(s,tt,m)].filter q9:=by
   rw [take_add_one,hq,filter_append];rfl
  refine (jA rfl (jY (SqT.of (sm _ _ hT)) rfl (⟨rfl,jA rfl (?_)⟩)))
  by_cases hz:m=0
  ·refine zJ (congrArg V.int hz) (JW sm hY hle (Same.refl _) ?_);rw [ef,filter_cons,if_neg (by unfold q9;rw [decide_eq_true (show m=0 from hz)];decide)];show PoursH Hi ys (_++[]) _;rw [append_nil];exact hP
  refine ZU (fun e=>hz (V.int.inj e)) (jA rfl (vV hDf sm hY hle (by omega) (Same.refl _) ?_));rw [ef,filter_cons,if_pos (by unfold q9;rw [decide_eq_false (show ¬m=0 from hz)];rfl)];exact (hP.snoc (sm _ _ hT) hs ht).put hY
 rintro ys H5 s5 hY5 hle5 hP5;rw [hP4.1,take_of_length_le (Nat.le_refl _)] at hP5;have s15:=s14.trans s5;refine ⟨wq,wt,Df,ws,ys,qA R L.length,ms,jA rfl (⟨o6 hTg (hW4.mono (QAt.same s5)) (s5 _ _ hwq4) (.inr (SqT.of (s15 _ _ h2))) hms hR100 hL100,hY5,hP5,?_,fun r H' gs zs s' hr0 hr hP' hS=>?_⟩)⟩
 ·rw [length_append] at hle5;omega
 subst hsk;exact q r H' gs zs (s15.trans s') (s15.free hr0) hr hP' hS
theorem K3:jT 4 ["canal","ways","state","reach"] nV:=jS
include T in
theorem HJ (F:kH K "has_no_berth" nV f fd) (xaH:Def P w K mg base 4 "lying" ["canal","ways","state","reach"] [] (CD (jF cP cB cU) cR cN)):FnOk P w K mg base jK 5 f fd ["canal","ways","state","reach"] (xT (jF cP cB cU) cR cN):=by
 refine F.ok2 K3 fun vs H Q E h=>?_
 obtain ⟨x,wl,st,b,r,us,ys,d,ms,pl,D,R,L,N,rfl,hG,hrc,q⟩:=h;refine ⟨rfl,fun _ _ _ _ hr=>?_⟩;refine ⟨_,(jO (J7 T2 (jQ xaH hr rfl (yD (pv 0) (pv 1) (pv 2) (pv 3))) (j7 K (jI (kL K) (j7 K (pv 0) rfl) (pv 3)) rfl))),?_⟩
 try dsimp only [jV,jU]
 obtain ⟨hc,hdr,hwl,hA,hst,hfl,hml⟩:=id hG;have hc0:=hc;obtain ⟨dx,rl,ll,nl,fs,rs,ls,nv,hx,hf,hrl,hll,hnl,hR,hL,hN,d1,d2,d3⟩:=hc;obtain ⟨z,hz,yr,rfl,dy,gs,hyr,hg⟩:=hR.get hrc;refine (jA rfl (jA rfl (jA rfl (jA rfl ((tZ x wl st _ us ys d ms pl D R L N (Z7 rfl hc0 hwl hA hst hfl (fun H3 s3=>?_))))))));exact (jA rfl (j8 ((s3 _ _ hx)) (T.clN) (T.xg) (hf.1) ((jA rfl (qB (so (s3 _ _ hrl)) (kZ hz) (j8 ((s3 _ _ hyr)) (T.clR) (T.xu) (hg.2.2.2.1) (j9 (q H3 s3))))))))
theorem LA:jT 2 ["way","place"] oB:=jS
include T in
theorem HZ (F:kH K "next_step" oB f fd) : FnOk P w K mg base jK 1 f fd ["way","place"] (DL):=by
 refine F.ok2 LA fun vs H Q E h=>?_
 obtain ⟨t,y,p,s₁,rfl,⟨t₂,st₂,vs₂,e,hw1,hw2,hw3⟩,hs,q⟩:=h;refine ⟨rfl,fun _ _ _ _ hr=>?_⟩;refine ⟨_,(jO (jI (jR K) (jI (jR K) (pv 0) jC) (pv 1))),?_⟩
 try dsimp only [jV,jU]
 cases e;obtain ⟨v3,hv3,hP3⟩:=hw3.get hs;exact (jA rfl (jY (SqT.of hw1) rfl ((jA rfl (jY (SqT.of hw2) (kZ hv3) (q _ hP3))))))
theorem LB:jT 2 ["places","boat"] gQ:=jS
include T in
theorem IB (F:kH K "one_step_on" gQ f fd) : FnOk P w K mg base jK 1 f fd ["places","boat"] (AW):=by
 refine F.ok2 LB fun vs H Q E h=>?_
 obtain ⟨pt,pl,b,rfl,hpt,h100,q⟩:=h;refine ⟨rfl,fun _ _ _ _ hr=>?_⟩;refine ⟨_,(jO (zA (eG K) (by rfl) T.xq PyProof.Rows.boot_tuple (jB (QF ["at","place","boat"] (qY 2 [1]) rfl (qR (jM gQ)) (cps 2 [1]) (OR (by rfl) T.xj (jB (pv 0) jE)) (fun _ _ _ _ _=>(QI (n:=2) K rfl (qT (kF (i:=0) (show List.Nodup (["at","place","boat"]:List Str) from by decide +kernel) rfl (.inl rfl)) (qT (kF (i:=1) (show List.Nodup (["at","place","boat"]:List Str) from by decide +kernel) rfl (.inl rfl)) z3)))) (fun _ _ _ _ _=>zB) (fun _ _ _ _ _=>(Q0 (kI qQ (pv 0) (pv 2)) (@jL _ _ _ _ _ _ _ _ kK (pv 1) jC) (pv 1)))) jE))),?_⟩
 try dsimp only [jV,jU]
 refine (jA rfl (⟨pt,rfl,⟨_,SqT.of hpt⟩,fun D₁ hD₁=>?_⟩));refine L4 (K:=K) (a:=pt) (xs:=pl.map fun (p:Nat)=>V.int (p:Int)) (fun i σ Hi=>∃c1 c2:Option V,σ=[c1,c2,some (.int (b:Int))]∧Hi D₁=some (.lst (((JJ pl b).take i).map fun (p:Nat)=>V.int (p:Int)))∧Same H Hi) ⟨none,none,rfl,jD,jJ hD₁ _⟩ (fun i σ Hi _ ⟨_,_,_,_,s⟩=>SqT.of (s _ _ hpt)) ?_ ?_
 ·rintro i v σ Hi T₁ hv ⟨c1,c2,rfl,hY,sm⟩ hT;have hi:i<pl.length:=by have:=(List.getElem?_eq_some_iff.mp hv).1;rw [length_map] at this;exact this
  rw [List.getElem?_map,List.getElem?_eq_getElem hi] at hv;cases hv;have u:=jJ hT (.tup [V.int (i:Int),V.int ((pl[i]:Nat):Int)]);have smu:=sm.trans u;have hYu:=u _ _ hY;refine ⟨T₁,jA rfl (⟨SqT.of jD,rfl,_,jA rfl (⟨_,_,rfl,rfl,?_⟩)⟩)⟩;generalize upd Hi T₁ (.tup [V.int (i:Int),V.int ((pl[i]:Nat):Int)])=Hj at u smu hYu ⊢;have eg:pl.getD i 0=pl[i]:=by rw [getD_eq_getElem?_getD,List.getElem?_eq_getElem hi];rfl
  refine yB (kS ?_);refine (jA rfl (⟨_,rfl,rfl,jA rfl (?_)⟩))
  by_cases h:i=b
  ·refine vK (by rw [h]) (jA rfl (j9 (⟨_,hYu,yJ (by rw [length_map,length_take,eK];omega),_,jA rfl (⟨?_,qH hD₁ smu⟩)⟩)));rw [jD,wK hi,if_pos h,eg,map_append];rfl
  ·refine qX (fun e=>h (by have:=V.int.inj e;omega)) (jA rfl (⟨_,hYu,yJ (by rw [length_map,length_take,eK];omega),_,jA rfl (⟨?_,qH hD₁ smu⟩)⟩));rw [jD,wK hi,if_neg h,eg,map_append];rfl
 rintro σ Hf ⟨c1,c2,rfl,hY,sm⟩;rw [length_map,take_of_length_le (by rw [eK];exact Nat.le_refl _)] at hY;refine ⟨D₁,jA rfl (.inl ⟨so hY,fun r hr0=>?_⟩)⟩;exact q r _ (sm.trans (jJ hr0 _)) (sm.free hr0) jD
theorem K0:jT 3 ["state","deed","waters"] nS:=jS
include T in
theorem HF (F:kH K "counted_on" nS f fd) (uh:Def P w K mg base 1 "one_step_on" ["places","boat"] [] (AW)):FnOk P w K mg base jK 2 f fd ["state","deed","waters"] (xV):=by
 refine F.ok2 K0 fun vs H Q E h=>?_
 obtain ⟨st,dd,wo,de,d,ms,mo,pl,rfl,hst,hdd,hwo,h100,q⟩:=h;refine ⟨rfl,fun _ _ _ _ hr=>?_⟩;refine ⟨_,(@jH _ _ _ _ _ (kU (kI qQ (jI (jR K) (pv 1) jC) j6) (jO (kY (j5 (@jL _ _ _ _ _ _ _ _ kK (jI (jR K) (pv 0) jC) jC) (pv 2) (jI (jR K) (pv 0) jC)))) kT)
   (@jH _ _ _ _ _ (kU (kI qQ (jI (jR K) (pv 1) jC) j6) (jO (kY (j5 (jI (jR K) (pv 0) jC) (pv 2) (jQ uh hr rfl (jB (jI (jR K) (pv 0) jC) (jB (jI (jR K) (pv 1) jC) jE)))))) kT)
   (jO (kY (j5 (jI (jR K) (pv 0) jC) (pv 2) (jI (jR K) (pv 0) jC)))))),?_⟩
 try dsimp only [jV,jU]
 obtain ⟨wt,pt,hst1,hwt,hpt⟩:=id hst;cases de with
 |night =>
  refine (jA rfl (jY (SqT.of hdd) rfl (⟨rfl,jA rfl (vK rfl ?_)⟩)));refine (jA rfl (jY (SqT.of hst1) rfl (j9 ((jA rfl (jA rfl (jY (SqT.of hst1) rfl (⟨zz3,fun t3 ht3=>?_⟩))))))));have s3:=jJ ht3 (.tup [V.int (d+1),V.ref wo,V.ref pt]);exact q t3 _ s3 ht3 ⟨wo,pt,jD,s3 _ _ hwo,s3 _ _ hpt⟩
 |pass b =>
  refine (jA rfl (jY (SqT.of hdd) rfl (⟨rfl,jA rfl (qX (fun e=>absurd (V.str.inj e) (by decide +kernel)) ?_)⟩)));refine (jA rfl (jY (SqT.of hdd) rfl (⟨rfl,jA rfl (vK rfl ?_)⟩)));refine (jA rfl (jY (SqT.of hst1) rfl ((jA rfl (jA rfl (jY (SqT.of hst1) rfl ((jA rfl (jY (SqT.of hdd) rfl ((v6 pt pl b (yW rfl hpt h100 (fun po H3 s3 hpo0 hpo=>?_)))))))))))));refine ⟨zz3,fun t3 ht3=>?_⟩;have s4:=jJ ht3 (.tup [V.int d,V.ref wo,V.ref po]);exact q t3 _ (s3.trans s4) (s3.free ht3) ⟨wo,po,jD,s4 _ _ (s3 _ _ hwo),s4 _ _ hpo⟩
 |«let» k =>
  refine (jA rfl (jY (SqT.of hdd) rfl (⟨rfl,jA rfl (qX (fun e=>absurd (V.str.inj e) (by decide +kernel)) ?_)⟩)));refine (jA rfl (jY (SqT.of hdd) rfl (⟨rfl,jA rfl (qX (fun e=>absurd (V.str.inj e) (by decide +kernel)) ?_)⟩)));refine (jA rfl (jY (SqT.of hst1) rfl ((jA rfl (jA rfl (jY (SqT.of hst1) rfl (⟨zz3,fun t3 ht3=>?_⟩)))))));have s3:=jJ ht3 (.tup [V.int d,V.ref wo,V.ref pt]);exact q t3 _ s3 ht3 ⟨wo,pt,jD,s3 _ _ hwo,s3 _ _ hpt⟩
theorem oU:jT 3 ["canal","k","named","lock","vessel"] gK:=jS
include T in
theorem HE (F:kH K "by_number" gK f fd) (xp:MeD P w K mg base 1 cN "basin" ["self","k"] (bL (jF cP cB cU) cR cN y6)) (xv:MeD P w K mg base 1 cN "chamber" ["self","k"] (bL (jF cP cB cU) cR cN JN)):FnOk P w K mg base jK 2 f fd ["canal","k","named"] (rS (jF cP cB cU) cR cN):=by
 refine F.ok2 oU fun vs H Q E h=>?_
 obtain ⟨x,p,k,l,rp,ps,D,R,L,N,rfl,hc,hl',hg,hp,hP,hok,h10,q⟩:=h;refine ⟨rfl,fun _ _ _ _ hr=>?_⟩;have hu1:=dP hr;refine ⟨_,(@jH _ _ _ _ _ (jX 3 oU.nd (jI (kL K) (j7 K (pv 0) rfl) (pv 1)))
   (@jH _ _ _ _ _ (jX 4 oU.nd (RG (eT j6 (j7 K (pv 3) rfl) (eT j6 (j7 K (pv 3) rfl) (eT j6 (bU xv hr (pv 0) (jB (pv 1) jE)) (eT j6 (bU xp hr (pv 0) (jB (pv 1) jE)) CP)))) rfl rfl (cons_ne_nil _ _) (by decide)))
   (jO (QF ["source","target","amount","vessel"] (qY 3 [4]) rfl (qR (jM gK)) (cps 3 [4]) (q0 (pv 2)) (fun _ _ _ _ _=>(QI (n:=3) K rfl (qT (kF (i:=0) (show List.Nodup (["source","target","amount","vessel"]:List Str) from by decide +kernel) rfl (.inl rfl)) (qT (kF (i:=1) (show List.Nodup (["source","target","amount","vessel"]:List Str) from by decide +kernel) rfl (.inl rfl)) (qT (kF (i:=2) (show List.Nodup (["source","target","amount","vessel"]:List Str) from by decide +kernel) rfl (.inl rfl)) z3))))) (fun _ _ _ _ _=>zB) (fun _ _ _ _ _=>(kY (j5 (CV hu1 (pv 3) (pv 0) (fun _ _=>rfl)) (CV hu1 (pv 3) (pv 1) (fun _ _=>rfl)) (pv 2)))))))),?_⟩
 try dsimp only [jV,jU]
 have hc0:=hc;obtain ⟨dx,rl,ll,nl,fs,rs,ls,nv,hx,hf,hrl,hll,hnl,hR,hL,hN,d1,d2,d3⟩:=hc;obtain ⟨v,hv,y,rfl,dl,hl⟩:=hL.get hl';have hkL:k<L.length:=(List.getElem?_eq_some_iff.mp hl').1;refine (jA rfl (j8 hx (T.clN) (T.xb) (hf.2.1) ((jA rfl (qB (so hll) (kZ hv) (?_))))));refine fun w hw0=>?_
 have s0:=jJ hw0 (.dK []);refine (jA rfl (j8 ((s0 _ _ hl)) (T.cl l.kd) (T.zt l.kd) (dB l.kd _ _ _ _ _) ((jA rfl (j8 ((s0 _ _ hl)) (T.cl l.kd) (T.vm l.kd) (dH l.kd _ _ _ _ _) ((jA rfl (⟨x,dx,jA rfl (⟨(s0 _ _ hx),hf.no (by decide +kernel) (by decide +kernel) (by decide +kernel),jA rfl (⟨x,D,R,L,N,jA rfl (⟨hc0.same s0,jA rfl (⟨x,dx,jA rfl (⟨(s0 _ _ hx),hf.no (by decide +kernel) (by decide +kernel) (by decide +kernel),jA rfl (⟨x,D,R,L,N,jA rfl (⟨hc0.same s0,?_⟩)⟩)⟩)⟩)⟩)⟩)⟩)⟩))))))));refine ⟨jD,[(.inr "high",.int l.high),(.inr "low",.int l.low),(.inr "chamber",.int (JN R.length L.length (k:Int))),(.inr "basin",.int (y6 R.length L.length (k:Int)))],rfl,(by show 4≤15;decide),?_⟩;rw [SY];have s1:Same H (upd (upd H w (.dK [])) w (.dK (d4 (.int l.high) (.int l.low) (.int (JN R.length L.length (k:Int))) (.int (y6 R.length L.length (k:Int)))))):=qH hw0 s0;have hw:upd (upd H w (.dK [])) w (.dK (d4 (.int l.high) (.int l.low) (.int (JN R.length L.length (k:Int))) (.int (y6 R.length L.length (k:Int))))) w=_:=jD;generalize upd (upd H w (.dK [])) w (.dK (d4 (.int l.high) (.int l.low) (.int (JN R.length L.length (k:Int))) (.int (y6 R.length L.length (k:Int)))))=H1 at s1 hw ⊢;have hdg:∀(Hi:Hp) (s:Str),Same H1 Hi→okW s→DGet Hi w (.str s) (some (.int ((JA R.length L.length k l s:Nat):Int))):=fun Hi s sm hs=>by
  obtain ⟨e1,e2,e3,e4⟩:=UI (sm _ _ hw);obtain ⟨g1,g2,g3,g4,_⟩:=hg;cases hs
  ·rw [AT,show ((l.high.toNat:Nat):Int)=l.high by omega];exact e1
  ·rw [B4,show ((l.low.toNat:Nat):Int)=l.low by omega];exact e2
  ·rw [xL,show ((R.length+k:Nat):Int)=JN R.length L.length (k:Int) by unfold JN;omega];exact e3
  ·rw [xM,show ((R.length+L.length+k:Nat):Int)=y6 R.length L.length (k:Int) by unfold y6;omega];exact e4
 refine (jA rfl (⟨p,rfl,⟨_,so (s1 _ _ hp)⟩,fun D₁ hD₁=>?_⟩));refine cM (K:=K) (a:=p) (xs:=rp) (fun i σ Hi=>∃(c1 c2 c3:Option V) (zs:List V),σ=[c1,c2,c3,some (.ref w)]∧Hi D₁=some (.lst zs)∧PoursH Hi zs ((ps.take i).map (l7 R.length L.length k l)) (R.length+2*L.length+2)∧Same H1 Hi)
  (yA none none none ([]) (yW rfl jD (PoursH.nil _ _) (jJ hD₁ _))) (fun i σ Hi _ ⟨_,_,_,_,_,_,_,s⟩=>so (s _ _ (s1 _ _ hp))) ?_ ?_
 ·rintro i v σ Hi hv ⟨c1,c2,c3,zs,rfl,hY,hA,sm⟩;have hi:i<rp.length:=(List.getElem?_eq_some_iff.mp hv).1;rw [hP.1] at hi;obtain ⟨t,sS,sT,nN,rfl,hps,hT⟩:=hP.2 i v hv;obtain ⟨o1,o2⟩:=hok _ (mem_of_getElem? hps);have hlz:zs.length≤i:=by rw [hA.1,length_map];exact length_take_le _ _
  refine ⟨t,jA rfl (⟨SqT.of (sm _ _ (s1 _ _ hT)),rfl,_,jA rfl (⟨_,jA rfl (⟨_,_,rfl,rfl,?_⟩)⟩)⟩)⟩;refine yB (kS ?_);refine (jA rfl (jA rfl (⟨w,jA rfl (⟨hdg Hi _ sm o1,jA rfl (jA rfl (⟨w,jA rfl (⟨hdg Hi _ sm o2,jA rfl (⟨zz3,fun tp htp=>?_⟩)⟩)⟩))⟩)⟩)));have u:=jJ htp (.tup [V.int ((JA R.length L.length k l sS:Nat):Int),V.int ((JA R.length L.length k l sT:Nat):Int),V.int nN]);refine ⟨zs,u _ _ hY,yJ (by omega),_,_,_,zs++[.ref tp],rfl,jD,?_,qH hD₁ (sm.trans u)⟩;rw [take_add_one,hps,map_append];exact ((hA.same u).snoc jD (DG o1 hg hkL) (DG o2 hg hkL)).put (u _ _ hY)
 rintro σ Hf ⟨c1,c2,c3,zs,rfl,hY,hA,sm⟩;rw [hP.1,take_length] at hA;exact q D₁ Hf zs (s1.trans sm) (s1.free hD₁) hY hA
theorem gY:jT 4 ["canal","ways","state","boat","step","k","basin"] oE:=jS
include T in
theorem IE (F:kH K "pass_pours" oE f fd) (jo:Def P w K mg base 1 "next_step" ["way","place"] [] (DL)) (xp:MeD P w K mg base 1 cN "basin" ["self","k"] (bL (jF cP cB cU) cR cN y6)) (zw:Def P w K mg base 2 "by_number" ["canal","k","named"] [] (rS (jF cP cB cU) cR cN)) (xan:Def P w K mg base 4 "passage" ["lock","full","basin","way"] [] (xS (jF cP cB cU))) (zf:MeD P w K mg base 2 cN "full" ["self","waters","k"] (rR (jF cP cB cU) cR cN)):FnOk P w K mg base jK 6 f fd ["canal","ways","state","boat"] (rQ (jF cP cB cU) cR cN):=by
 refine F.ok2 gY fun vs H Q E h=>?_
 obtain ⟨x,wl,st,b,us,ys,y,p,s₁,d,ms,pl,D,R,L,N,rfl,hG,hy,hpp,hs,q⟩:=h;refine ⟨rfl,fun _ _ _ _ hr=>?_⟩;refine ⟨_,(@jH _ _ _ _ _ (jX 4 gY.nd (jQ jo hr rfl (jB (jI (kL K) (pv 1) (pv 3)) (jB (jI (jR K) (jI (jR K) (pv 2) jC) (pv 3)) jE))))
   (@jH _ _ _ _ _ (jX 5 gY.nd (jI (jR K) (pv 4) jC))
   (@jH _ _ _ _ _ (jX 6 gY.nd (jI (jR K) (jI (jR K) (pv 2) jC) (bU xp hr (pv 0) (jB (pv 5) jE))))
   (jO (jQ zw hr rfl (j5 (pv 0) (pv 5) (jQ xan hr rfl (yD (jI (kL K) (j7 K (pv 0) rfl) (pv 5)) (bU zf hr (pv 0) (jB (jI (jR K) (pv 2) jC) (jB (pv 5) jE))) (pv 6) (jI (jR K) (pv 4) jC))))))))),?_⟩
 try dsimp only [jV,jU]
 obtain ⟨hc,hdr,hwl,hA,⟨wt,pt,hst1,hwt,hpt⟩,hfl,hml⟩:=id hG;have hc0:=hc;obtain ⟨dx,rl,ll,nl,fs,rs,ls,nv,hx,hf,hrl,hll,hnl,hR,hL,hN,d1,d2,d3⟩:=hc;obtain ⟨v,hvy,t,st₂,vs₂,rfl,hw1,hw2,hw3⟩:=hA.get hy;have hyok:=hfl.ok y (mem_of_getElem? hy);have hkL:=hyok.lt s₁ (mem_of_getElem? hs);obtain ⟨l,hl'⟩:∃l,L[s₁.1]?=some l:=⟨_,List.getElem?_eq_getElem hkL⟩;obtain ⟨v4,hv4,y4,rfl,dl,hl⟩:=hL.get hl';have hgd:=hdr.lock _ _ hl';have ebas:y6 R.length L.length (s₁.1:Int)=((R.length+L.length+s₁.1:Nat):Int):=by unfold y6;omega
 have hat:vC (ms.map V.int) (y6 R.length L.length (s₁.1:Int))=some (.int (ms.getD (R.length+L.length+s₁.1) 0)):=by rw [ebas];exact zE (by omega)
 refine (jA rfl (jA rfl (⟨wl,_,_,_,rfl,rfl,so hwl,kZ hvy,jA rfl (⟨st,_,_,_,rfl,rfl,SqT.of hst1,rfl,jA rfl (⟨pt,_,_,_,rfl,rfl,SqT.of hpt,kZ (v:=.int (p:Int)) (by rw [List.getElem?_map,hpp];rfl),yA t y p s₁ (yW rfl (v6 t st₂ vs₂ (yW rfl hw1 hw2 hw3)) hs (fun v3 ⟨t3,e3,ht3⟩=>?_))⟩)⟩)⟩)));subst e3;refine (jA rfl (⟨t3,_,_,_,rfl,rfl,SqT.of ht3,rfl,?_⟩));refine (jA rfl (⟨st,_,_,_,rfl,rfl,SqT.of hst1,rfl,jA rfl (⟨x,dx,jA rfl (⟨hx,hf.no (by decide +kernel) (by decide +kernel) (by decide +kernel),jA rfl (⟨x,D,R,L,N,jA rfl (⟨hc0,wt,_,_,_,rfl,rfl,SqT.of hwt,hat,?_⟩)⟩)⟩)⟩)⟩));refine (jA rfl (jA rfl (jA rfl (⟨x,cN,dx,_,jA rfl (⟨hx,T.clN,T.xb,hf.2.1,jA rfl (⟨ll,_,_,_,rfl,rfl,so hll,kZ hv4,jA rfl (⟨x,dx,jA rfl (⟨hx,hf.no (by decide +kernel) (by decide +kernel) (by decide +kernel),jA rfl (⟨st,_,_,_,rfl,rfl,SqT.of hst1,rfl,jA rfl ((J9 x wt D R L N ms s₁.1 (yV rfl hc0 hwt (by omega) (jA rfl (jA rfl (⟨t3,_,_,_,rfl,rfl,SqT.of ht3,rfl,y4,l.kd,_,_,_,l.room,l.extra,_,_,s₁.2,(by rw [TH];rfl),⟨dl,hl⟩,fun r H1 rs s1 hr0 hr hP=>?_⟩))))))⟩)⟩)⟩)⟩)⟩)⟩))));refine (fP x r s₁.1 l rs _ D R L N (uQ rfl (hc0.same s1) hl' hgd hr hP (OT _ _ _ _ _ _) (Nat.le_trans (x6 _ _ _ _ _ _) (by decide)) (fun r2 H2 zs s2 hr20 hr2 hP2=>?_)));refine q r2 H2 zs (s1.trans s2) (s1.free hr20) hr2 ?_;unfold QS fJ;rw [hl',hml];exact hP2
theorem K7:jT 3 ["canal","state","k"] nY:=jS
include T in
theorem HR (F:kH K "let_pours" nY f fd) (zw:Def P w K mg base 2 "by_number" ["canal","k","named"] [] (rS (jF cP cB cU) cR cN)) (zy:Def P w K mg base 3 "letting" ["lock","basin"] [] (eS (jF cP cB cU) y0)) (xp:MeD P w K mg base 1 cN "basin" ["self","k"] (bL (jF cP cB cU) cR cN y6)):FnOk P w K mg base jK 4 f fd ["canal","state","k"] (CH (jF cP cB cU) cR cN):=by
 refine F.ok2 K7 fun vs H Q E h=>?_
 obtain ⟨x,wl,st,k,us,ys,d,ms,pl,D,R,L,N,rfl,hG,hkL,q⟩:=h;refine ⟨rfl,fun _ _ _ _ hr=>?_⟩;refine ⟨_,(jO (jQ zw hr rfl (j5 (pv 0) (pv 2) (jQ zy hr rfl (jB (jI (kL K) (j7 K (pv 0) rfl) (pv 2)) (jB (jI (jR K) (jI (jR K) (pv 1) jC) (bU xp hr (pv 0) (jB (pv 2) jE))) jE)))))),?_⟩
 try dsimp only [jV,jU]
 obtain ⟨hc,hdr,hwl,hA,⟨wt,pt,hst1,hwt,hpt⟩,hfl,hml⟩:=id hG;have hc0:=hc;obtain ⟨dx,rl,ll,nl,fs,rs,ls,nv,hx,hf,hrl,hll,hnl,hR,hL,hN,d1,d2,d3⟩:=hc;obtain ⟨l,hl'⟩:∃l,L[k]?=some l:=⟨_,List.getElem?_eq_getElem hkL⟩;obtain ⟨v4,hv4,y4,rfl,dl,hl⟩:=hL.get hl';have hgd:=hdr.lock _ _ hl';have hat:vC (ms.map V.int) (y6 R.length L.length (k:Int))=some (.int (ms.getD (R.length+L.length+k) 0)):=by
  rw [show y6 R.length L.length (k:Int)=((R.length+L.length+k:Nat):Int) by unfold y6;omega];exact zE (by omega)
 refine (jA rfl (jA rfl (jA rfl (j8 hx (T.clN) (T.xb) (hf.2.1) ((jA rfl (qB (so hll) (kZ hv4) ((jA rfl (jY (SqT.of hst1) rfl ((jA rfl (⟨x,dx,jA rfl (⟨hx,hf.no (by decide +kernel) (by decide +kernel) (by decide +kernel),jA rfl (⟨x,D,R,L,N,jA rfl (⟨hc0,jY (SqT.of hwt) hat (⟨y4,l.kd,_,_,_,l.room,l.extra,jA rfl (⟨⟨dl,hl⟩,fun r H1 rs s1 hr0 hr hP=>?_⟩)⟩)⟩)⟩)⟩)⟩)))))))))))));refine (fP x r k l rs _ D R L N (uQ rfl (hc0.same s1) hl' hgd hr hP (i4 _ _ _ _) (Nat.le_trans (bH _ _ _ _) (by decide)) (fun r2 H2 zs s2 hr20 hr2 hP2=>?_)));refine q r2 H2 zs (s1.trans s2) (s1.free hr20) hr2 ?_;unfold fO;rw [hl',hml];exact hP2
theorem K5:jT 3 ["canal","waters","vessel"] nW:=jS
include T in
theorem HL (F:kH K "is_below_least" nW f fd) : FnOk P w K mg base jK 1 f fd ["canal","waters","vessel"] (EK (jF cP cB cU) cR cN):=by
 refine F.ok2 K5 fun vs H Q E h=>?_
 obtain ⟨x,w,v,ms,D,R,L,N,rfl,hc,hw,hv,q⟩:=h;refine ⟨rfl,fun _ _ _ _ hr=>?_⟩;refine ⟨_,(jO (sV (J7 lP (pv 2) (kQ K T.xf (j7 K (pv 0) rfl))) (sU (J7 lP (jI (jR K) (pv 1) (pv 2)) (j7 K (jI (kL K) (j7 K (pv 0) rfl) (pv 2)) rfl))))),?_⟩
 try dsimp only [jV,jU]
 obtain ⟨dx,rl,ll,nl,fs,rs,ls,nv,hx,hf,hrl,hll,hnl,hR,hL,hN,d1,d2,d3⟩:=hc;refine (jA rfl (jA rfl (j8 hx (T.clN) (T.xg) (hf.1) (⟨rl,jA rfl (⟨.inl (so hrl),_,_,rfl,rfl,jA rfl (?_)⟩)⟩))));rw [hR.1]
 by_cases h:v<R.length
 ·obtain ⟨r,hr⟩:∃r,R[v]?=some r:=⟨_,List.getElem?_eq_getElem h⟩;obtain ⟨z,hz,y,rfl,dy,gs,hy,hg⟩:=hR.get hr;refine vK (by omega) (jA rfl (jA rfl (jY (SqT.of hw) (zE hv) ((jA rfl (j8 hx (T.clN) (T.xg) (hf.1) ((jA rfl (qB (so hrl) (kZ hz) (j8 hy (T.clR) (T.xx) (hg.2.1) (j9 (?_))))))))))));rw [show ZE R ms v=decide (ms.getD v 0<r.least) by unfold ZE;rw [hr]] at q;exact q
 ·refine qX (by omega) ?_;rw [show ZE R ms v=false by unfold ZE;rw [List.getElem?_eq_none (by omega)]] at q;exact q
theorem gX:jT 3 ["canal","waters","moved","held","pour"] nU:=jS
include T in
theorem HG (F:kH K "falls_short" nU f fd) (xk:Def P w K mg base 1 "poured_all" ["waters","pours"] [] (fG K)) (vg:Def P w K mg base 1 "is_below_least" ["canal","waters","vessel"] [] (EK (jF cP cB cU) cR cN)):FnOk P w K mg base jK 2 f fd ["canal","waters","moved"] (AZ (jF cP cB cU) cR cN):=by
 refine F.ok2 gX fun vs H Q E h=>?_
 obtain ⟨x,w,p,ms,zs,qs,D,R,L,N,rfl,hc,hw,hp,hP,h1000,q⟩:=h;refine ⟨rfl,fun _ _ _ _ hr=>?_⟩;refine ⟨_,(@jH _ _ _ _ _ (jX 3 gX.nd (pv 1))
   (@jH _ _ _ _ _ (yZ PassesOwn.never rfl (q0 (pv 2)) (kF (i:=4) gX.nd rfl (.inl rfl))
    (@jH _ _ _ _ _ (jX 3 gX.nd (jQ xk hr rfl (jB (pv 3) (jB (qO (jB (pv 4) jE)) jE))))
   (@qG _ _ _ (kU (yH (jQ vg hr rfl (j5 (pv 0) (pv 3) (jI (jR K) (pv 4) jC)))) (jO zI) kT))))
   (jO zI))),?_⟩
 try dsimp only [jV,jU]
 refine (jA rfl (?_));refine ⟨_,rfl,p,rfl,⟨_,so hp⟩,QG (K:=K) (a:=p) (xs:=zs) (fun i σ Hi=>∃(h:Addr) (c:Option V),σ=[some (.ref x),some (.ref w),some (.ref p),some (.ref h),c]∧Hi h=some (.tup ((kJ ms (qs.take i)).map V.int))∧QM R ms qs=QM R (kJ ms (qs.take i)) (qs.drop i)∧Same H Hi)
  ⟨w,none,rfl,hw,rfl,Same.refl _⟩ (fun i σ Hi _ ⟨_,_,_,_,_,s⟩=>so (s _ _ hp)) ?_ ?_⟩
 ·rintro i v σ Hi hv ⟨h,c,rfl,hh,he,sm⟩;obtain ⟨a,s,t,m,rfl,hq,hT,hs,ht⟩:=hP.2 i v hv;have el:(kJ ms (qs.take i)).length=ms.length:=JU _ _;refine (jA rfl (jA rfl (⟨zz1,fun lp hlp=>?_⟩)));have u:=jJ hlp (.lst [V.ref a]);refine ⟨h,yA lp _ ([.ref a]) ([(s,t,m)]) (yE rfl (.inr (SqT.of (u _ _ hh))) (so jD) ((PoursH.nil _ _ |>.snoc (u _ _ (sm _ _ hT)) (by rw [el];exact hs) (by rw [el];exact ht)).pa) (by rw [el];exact h1000) (fun r H' s' hr0 hr=>?_))⟩;have sm2:=(sm.trans u).trans s';have ep:kJ (kJ ms (qs.take i)) [(s,t,m)]=kJ ms (qs.take (i+1)):=by rw [o0 ms qs i _ hq];rfl
  rw [ep] at hr;have ed:qs.drop i=(s,t,m)::qs.drop (i+1):=(drop_eq_getElem_cons (List.getElem?_eq_some_iff.mp hq).1).trans (by rw [(List.getElem?_eq_some_iff.mp hq).2]);have he2:QM R ms qs=(ZE R (kJ ms (qs.take (i+1))) s||QM R (kJ ms (qs.take (i+1))) (qs.drop (i+1))):=by
   rw [he,ed];show (ZE R (pour (kJ ms (qs.take i)) (s,t,m)) s||QM R (pour (kJ ms (qs.take i)) (s,t,m)) (qs.drop (i+1)))=_;rw [o0 ms qs i _ hq]
  have el2:(kJ ms (qs.take (i+1))).length=ms.length:=JU _ _;refine (jA rfl (jA rfl (jA rfl (jY (SqT.of (sm2 _ _ hT)) rfl ((J9 x r s _ D R L N (yV rfl (hc.same sm2) hr (by rw [el2];exact hs) (jA rfl (?_)))))))));cases hb:ZE R (kJ ms (qs.take (i+1))) s with
  |true =>
   refine kS ?_;have:=q H' sm2;rw [he2,hb] at this;exact this
  |false =>
   refine qI ⟨r,jA rfl (⟨hr,?_,sm2⟩)⟩;rw [he2,hb];rfl
 rintro σ Hi ⟨h,c,rfl,hh,he,sm⟩;rw [hP.1,drop_length] at he;have:=q Hi sm;rw [he] at this;exact this
theorem oY:jT 4 ["canal","ways","state","boat","place","target"] oP:=jS
include T in
theorem IQ (F:kH K "why_no_pass" oP f fd) (zm:Def P w K mg base 3 "reach_of" ["canal","way","place"] [] (pM (jF cP cB cU) cR cN)) (wc:Def P w K mg base 5 "has_no_berth" ["canal","ways","state","reach"] [] (xT (jF cP cB cU) cR cN)) (ui:Def P w K mg base 2 "falls_short" ["canal","waters","moved"] [] (AZ (jF cP cB cU) cR cN)) (zn:Def P w K mg base 6 "pass_pours" ["canal","ways","state","boat"] [] (rQ (jF cP cB cU) cR cN)):FnOk P w K mg base jK 7 f fd ["canal","ways","state","boat"] (DJ (jF cP cB cU) cR cN):=by
  refine F.ok2 oY fun vs H Q E h=>?_
  obtain ⟨x,wl,st,b,us,ys,d,ms,pl,D,R,L,N,rfl,hG,hb,q⟩:=h;refine ⟨rfl,fun _ _ _ _ hr=>?_⟩;refine ⟨_,(@jH _ _ _ _ _ (jX 4 oY.nd (jI (jR K) (jI (jR K) (pv 2) jC) (pv 3)))
      (@jH _ _ _ _ _ (kU (kI qQ (jQ zm hr rfl (j5 (pv 0) (jI (kL K) (pv 1) (pv 3)) (pv 4))) (fB (v:=.int (-1)) rfl T.uu ⟨_,rfl⟩)) (jO j6) kT)
      (@jH _ _ _ _ _ (jX 5 oY.nd (jQ zm hr rfl (j5 (pv 0) (jI (kL K) (pv 1) (pv 3)) (@jL _ _ _ _ _ _ _ _ kK (pv 4) jC))))
      (fA (kU (PW.pt (SM (kI zR (pv 5) (fB (v:=.int (-1)) rfl T.uu ⟨_,rfl⟩)) (RD (yH (jQ wc hr rfl (yD (pv 0) (pv 1) (pv 2) (pv 5))))))) (jO j6) kT)
      (@jH _ _ _ _ _ (kU (yH (jQ ui hr rfl (j5 (pv 0) (jI (jR K) (pv 2) jC) (jQ zn hr rfl (yD (pv 0) (pv 1) (pv 2) (pv 3)))))) (jO j6) kT)
      (jO j6)))))),?_⟩
  try dsimp only [jV,jU]
  obtain ⟨hc,hdr,hwl,hA,hst,hfl,hml⟩:=id hG;obtain ⟨wt,pt,hst1,hwt,hpt⟩:=id hst;have hc0:=hc;obtain ⟨dx,rl,ll,nl,fs,rs,ls,nv,hx,hf,hrl,hll,hnl,hR,hL,hN,d1,d2,d3⟩:=hc;have b1:=hdr.r8;have b2:=hdr.l8;obtain ⟨y,hy⟩:∃y,ys[b]?=some y:=⟨_,List.getElem?_eq_getElem hb⟩;obtain ⟨p,hp⟩:∃p,pl[b]?=some p:=⟨_,List.getElem?_eq_getElem (by rw [hfl.len];exact hb)⟩;obtain ⟨v,hvy,hwy⟩:=hA.get hy;obtain ⟨t,st₂,vs₂,rfl,hw1,hw2,hw3⟩:=id hwy;have hple:=hfl.le b y p hy hp;have hyok:=hfl.ok y (mem_of_getElem? hy);have ey:ys.getD b (0,[])=y:=by rw [getD_eq_getElem?_getD,hy];rfl
  have ep:pl.getD b 0=p:=by rw [getD_eq_getElem?_getD,hp];rfl
  unfold fL at q;rw [ey,ep] at q;refine (jA rfl (jY (SqT.of hst1) rfl ((jA rfl (jY (SqT.of hpt) (kZ (v:=.int (p:Int)) (by rw [List.getElem?_map,hp];rfl)) (?_))))));refine (jA rfl (jA rfl (jA rfl (qB (so hwl) (kZ hvy) ((jA rfl ((J9 x t y p D R L N (yE rfl hc0 hwy hyok hple (fun H1 s1=>⟨rfl,jA rfl (?_)⟩))))))))))
  by_cases h0:p=y.2.length
  · refine vK (by rw [h0,CQ]) ?_
    have:=q H1 s1;rw [if_pos h0] at this;exact this
  have hlt:p<y.2.length:=by omega
  have hpin:=DT hdr hyok hlt;refine qX (fun e=>by have:=V.int.inj e;omega) ?_;have q:∀H',Same H H'→Q (.str (if ¬vT L y (p+1) = -1∧eY R (vT L y (p+1))≤(((JD L ys pl).countP fun z=>decide (z=vT L y (p+1)):Nat):Int) then "berth" else if QM R ms (QS R.length L ms (y.2.getD p (0,true)))=true then "water" else "")) H':=fun H' s'=>by
    have:=q H' s';rw [if_neg h0] at this;exact this
  have s01:=s1;refine (jA rfl (jA rfl (jA rfl (qB (so (s1 _ _ hwl)) (kZ hvy) ((jA rfl (j9 ((J9 x t y (p+1) D R L N (yE rfl (hc0.same s1) (WyAt.same s1 _ _ hwy) hyok (by omega) (fun H2 s2=>?_)))))))))));have s02:=s1.trans s2;refine ⟨fun σ' Ha=>σ'=[some (.ref x),some (.ref wl),some (.ref st),some (.int (b:Int)),some (.int (p:Int)),some (.int (vT L y (p+1)))]∧Same H Ha∧¬(¬vT L y (p+1) = -1∧eY R (vT L y (p+1))≤(((JD L ys pl).countP fun z=>decide (z=vT L y (p+1)):Nat):Int)),?_,?_⟩
  · refine ⟨_,rfl,rfl,jA rfl (?_)⟩
    by_cases h1:vT L y (p+1) = -1
    · exact zJ (congrArg V.int h1) (qI ⟨rfl,s02,fun z=>z.1 h1⟩)
    refine ZU (fun e=>h1 (V.int.inj e)) ?_;have hlt2:p+1<y.2.length:=by
      by_cases e:p+1=y.2.length
      · rw [e,CQ] at h1;exact absurd rfl h1
      · omega
    have hpin2:=DT hdr hyok hlt2;obtain ⟨tn,htn⟩:∃tn:Nat,vT L y (p+1)=(tn:Int):=⟨(vT L y (p+1)).toNat,by omega⟩;rw [htn] at h1 ⊢;obtain ⟨r,hr⟩:∃r,R[tn]?=some r:=⟨_,List.getElem?_eq_getElem (by omega)⟩;have eb:eY R (tn:Int)=r.berths:=by unfold eY;rw [show ((tn:Nat):Int).toNat=tn from rfl,hr]
    refine (jA rfl (jA rfl (jA rfl (jA rfl ((bW x wl st tn r us ys d ms pl D R L N (yW rfl (hG.same s02) hr (fun H3 s3=>(jA rfl (?_))))))))));have s03:=s02.trans s3
    by_cases h2:r.berths≤(((JD L ys pl).countP fun z=>decide (z=(tn:Int)):Nat):Int)
    · rw [decide_eq_true h2]
      refine kS ?_;have:=q H3 s03;rw [htn,eb,if_pos ⟨h1,h2⟩] at this;exact this
    · rw [decide_eq_false h2]
      exact qI ⟨rfl,s03,fun z=>h2 (by rw [eb] at z;exact z.2)⟩
  rintro σ' H3 ⟨rfl,s03,hno⟩;obtain ⟨s₁,hs⟩:∃s,y.2[p]?=some s:=⟨_,List.getElem?_eq_getElem hlt⟩;have es:y.2.getD p (0,true)=s₁:=by rw [getD_eq_getElem?_getD,hs];rfl
  refine (jA rfl (jA rfl (jY (SqT.of (s03 _ _ hst1)) rfl ((jA rfl (jA rfl (jA rfl (jA rfl ((E4 x wl st b us ys y p s₁ d ms pl D R L N (yE rfl (hG.same s03) hy hp hs (fun r H4 zs s4 hr0 hr hP=>?_))))))))))));have s04:=s03.trans s4;refine (fP x wt r ms zs _ D R L N (Z7 rfl (hc0.same s04) (s04 _ _ hwt) hr hP (by omega) (fun H5 s5=>(jA rfl (?_)))));have:=q H5 (s04.trans s5);rw [if_neg hno,es] at this;cases hsb:QM R ms (QS R.length L ms s₁) with
  |true =>
    refine kS ?_;rw [hsb,if_pos rfl] at this;exact this
  |false =>
    refine qI ?_;rw [hsb,if_neg (by decide)] at this;exact this
theorem LK:jT 4 ["canal","ways","state","deed"] oQ:=jS
include T in
theorem IR (F:kH K "why_not" oQ f fd) (uj:Def P w K mg base 7 "why_no_pass" ["canal","ways","state","boat"] [] (DJ (jF cP cB cU) cR cN)) (zf:MeD P w K mg base 2 cN "full" ["self","waters","k"] (rR (jF cP cB cU) cR cN)):FnOk P w K mg base jK 8 f fd ["canal","ways","state","deed"] (sK (jF cP cB cU) cR cN):=by
 refine F.ok2 LK fun vs H Q E h=>?_
 obtain ⟨x,wl,st,dd,de,us,ys,d,ms,pl,D,R,L,N,rfl,hG,hdd,hin,q⟩:=h;refine ⟨rfl,fun _ _ _ _ hr=>?_⟩;refine ⟨_,(@jH _ _ _ _ _ (kU (kI qQ (jI (jR K) (pv 3) jC) j6) (jO (jQ uj hr rfl (yD (pv 0) (pv 1) (pv 2) (jI (jR K) (pv 3) jC)))) kT)
   (@jH _ _ _ _ _ (kU (kI qQ (jI (jR K) (pv 3) jC) j6) (jO (Q0 (yH (bU zf hr (pv 0) (jB (jI (jR K) (pv 2) jC) (jB (jI (jR K) (pv 3) jC) jE)))) j6 j6)) kT)
   (jO (Q0 (kI lP (jI (jR K) (pv 2) jC) (kQ K T.xf (j7 K (pv 0) rfl))) j6 j6)))),?_⟩
 try dsimp only [jV,jU]
 obtain ⟨hc,hdr,hwl,hA,hst,hfl,hml⟩:=id hG;obtain ⟨wt,pt,hst1,hwt,hpt⟩:=id hst;have hc0:=hc;obtain ⟨dx,rl,ll,nl,fs,rs,ls,nv,hx,hf,hrl,hll,hnl,hR,hL,hN,d1,d2,d3⟩:=hc;cases de with
 |pass b =>
  refine (jA rfl (jY (SqT.of hdd) rfl (⟨rfl,jA rfl (vK rfl ?_)⟩)));exact (jA rfl (jA rfl (jA rfl (jA rfl (jY (SqT.of hdd) rfl ((tZ x wl st b us ys d ms pl D R L N (yW rfl hG hin q))))))))
 |«let» k =>
  have hk:k<L.length:=hin;refine (jA rfl (jY (SqT.of hdd) rfl (⟨rfl,jA rfl (qX (fun e=>absurd (V.str.inj e) (by decide +kernel)) ?_)⟩)));refine (jA rfl (jY (SqT.of hdd) rfl (⟨rfl,jA rfl (vK rfl ?_)⟩)));refine (jA rfl (⟨x,dx,jA rfl (⟨hx,hf.no (by decide +kernel) (by decide +kernel) (by decide +kernel),jA rfl (jY (SqT.of hst1) rfl ((jA rfl (jY (SqT.of hdd) rfl ((J9 x wt D R L N ms k (yV rfl hc0 hwt (by omega) (jA rfl (?_)))))))))⟩)⟩));have:=q H (Same.refl _)
  change Q (.str (if fJ R.length ms k=true then "" else "empty")) H at this
  unfold fJ at this
  by_cases h:0<ms.getD (R.length+k) 0
  ·rw [if_pos (decide_eq_true h)] at this;exact vK h this
  ·rw [if_neg (by rw [decide_eq_true_eq];exact h)] at this;exact qX h this
 |night =>
  refine (jA rfl (jY (SqT.of hdd) rfl (⟨rfl,jA rfl (qX (fun e=>absurd (V.str.inj e) (by decide +kernel)) ?_)⟩)));refine (jA rfl (jY (SqT.of hdd) rfl (⟨rfl,jA rfl (qX (fun e=>absurd (V.str.inj e) (by decide +kernel)) ?_)⟩)));refine (jA rfl (jY (SqT.of hst1) rfl ((jA rfl (j8 hx (T.clN) (T.xl) (hf.2.2.1) (⟨nl,jA rfl (⟨.inl (so hnl),_,_,rfl,rfl,jA rfl (?_)⟩)⟩))))));rw [hN.1];have:=q H (Same.refl _)
  change Q (.str (if d<(N.length:Int) then "" else "over")) H at this
  by_cases h:d<(N.length:Int)
  ·rw [if_pos h] at this;exact vK h this
  ·rw [if_neg h] at this;exact qX h this
theorem gZ:jT 4 ["canal","ways","state","deed","word","passes","moved"] oH:=jS
include T in
theorem IH (F:kH K "pours" oH f fd) (vh:Def P w K mg base 8 "why_not" ["canal","ways","state","deed"] [] (sK (jF cP cB cU) cR cN)) (uk:Def P w K mg base 5 "night_pours" ["canal","state","weather"] [] (BD K (jF cP cB cU) cR cN)) (zn:Def P w K mg base 6 "pass_pours" ["canal","ways","state","boat"] [] (rQ (jF cP cB cU) cR cN)) (jp:Def P w K mg base 4 "let_pours" ["canal","state","k"] [] (CH (jF cP cB cU) cR cN)) (ze:Def P w K mg base 4 "with_spills" ["weirs","waters","pours"] [] (rO K)) (xo:MeD P w K mg base 2 cN "weirs" ["self"] (iP (jF cP cB cU) cR cN)):FnOk P w K mg base (vS P w) 9 f fd ["canal","ways","state","deed"] (rA (jF cP cB cU) cR cN eW):=by
 refine F.okX2 gZ fun vs H Q E h=>?_
 obtain ⟨x,wl,st,dd,de,us,ys,d,ms,pl,D,R,L,N,rfl,hG,hdd,hin,hd0,qv,qe⟩:=h;refine ⟨rfl,fun _ _ _ _ hr=>?_⟩;refine ⟨_,(@jH _ _ _ _ _ (jX 4 gZ.nd (jQ vh hr rfl (yD (pv 0) (pv 1) (pv 2) (pv 3))))
   (@jH _ _ _ _ _ (kU (kI zR (pv 4) j6) (@qG _ _ _ (rC pK rfl rfl T.jk T.jm (jB (pv 4) jE))) kT)
   (@jH _ _ _ _ _ (kU (kI qQ (jI (jR K) (pv 3) jC) j6) (jO (jQ uk hr rfl (j5 (pv 0) (pv 2) (jI (kL K) (j7 K (pv 0) rfl) (jI (jR K) (pv 2) jC))))) kT)
   (@jH _ _ _ _ _ (jX 5 gZ.nd (J7 qQ (jI (jR K) (pv 3) jC) j6))
   (@jH _ _ _ _ _ (jX 6 gZ.nd (Q0 (yH (pv 5)) (jQ zn hr rfl (yD (pv 0) (pv 1) (pv 2) (jI (jR K) (pv 3) jC))) (jQ jp hr rfl (j5 (pv 0) (pv 2) (jI (jR K) (pv 3) jC)))))
   (jO (jQ ze hr rfl (j5 (ZB xo hr (pv 0)) (jI (jR K) (pv 2) jC) (pv 6))))))))),?_⟩
 try dsimp only [jV,jU]
 obtain ⟨hc,hdr,hwl,hA,hst,hfl,hml⟩:=id hG;obtain ⟨wt,pt,hst1,hwt,hpt⟩:=id hst;have hc0:=hc;obtain ⟨dx,rl,ll,nl,fs,rs,ls,nv,hx,hf,hrl,hll,hnl,hR,hL,hN,d1,d2,d3⟩:=hc;have b1:=hdr.r8;have b2:=hdr.l8;have hTg:=cK hdr;refine (jA rfl (jA rfl (jA rfl (jA rfl ((bW x wl st dd de us ys d ms pl D R L N (yV rfl hG hdd hin (fun H1 s1=>?_))))))));refine ⟨_,rfl,rfl,jA rfl (?_)⟩
 by_cases hw:v0 R L N.length ys d ms pl de=""
 rotate_left
 ·exact ZU (fun e=>hw (V.str.inj e)) (jA rfl (⟨by show 1≤sizeLine;decide,qe hw _ s1⟩))
 refine zJ (congrArg V.str hw) ?_;have qv:=qv hw;have hdd1:=s1 _ _ hdd;have hst11:=s1 _ _ hst1;cases de with
 |night =>
  have hdN:d<(N.length:Int):=by
   change (if d<(N.length:Int) then ("":Str) else "over")="" at hw
   by_cases h:d<(N.length:Int)
   ·exact h
   ·rw [if_neg h] at hw;exact absurd hw (by decide +kernel)
  obtain ⟨dn,hdn⟩:∃dn:Nat,d=(dn:Int):=⟨d.toNat,by omega⟩;subst hdn;obtain ⟨W,hWn⟩:∃W,N[dn]?=some W:=⟨_,List.getElem?_eq_getElem (by omega)⟩;obtain ⟨v,hv,wn,qs,rfl,hwn,hqs,_⟩:=hN.get hWn;have eW:N.getD (dn:Int).toNat []=W:=by rw [Int.toNat_natCast,getD_eq_getElem?_getD,hWn];rfl
  refine (jA rfl (jY (SqT.of hdd1) rfl (⟨rfl,jA rfl (vK rfl ?_)⟩)));refine (jA rfl (jA rfl (jA rfl (j8 ((s1 _ _ hx)) (T.clN) (T.xl) (hf.2.2.1) ((jA rfl (jY (SqT.of hst11) rfl (qB (so (s1 _ _ hnl)) (kZ hv) ((t6 x st wn _ ms _ qs W D R L N (E5 rfl (hc0.same s1) (hst.toI.same s1) (s1 _ _ hwn) (hqs.mono (QAt.same s1)) (hdr.night W (mem_of_getElem? hWn)) hml (by omega) (by omega) hTg (fun r H2 gs zs s2 hr0 hr hP hS=>?_))))))))))));refine qv r H2 gs zs (s1.trans s2) (s1.free hr0) hr ?_ ?_
  ·show PoursH H2 zs ((Q4 (R.length+2*L.length+1) ms (N.getD (dn:Int).toNat []) R.length).filter q9++_) _;rw [eW];exact hP
  ·show Spl _ (kJ ms ((Q4 (R.length+2*L.length+1) ms (N.getD (dn:Int).toNat []) R.length).filter q9)) gs;rw [eW];exact hS
 |pass b =>
  have hb:b<ys.length:=hin;obtain ⟨y,hy⟩:∃y,ys[b]?=some y:=⟨_,List.getElem?_eq_getElem hb⟩;obtain ⟨p,hp⟩:∃p,pl[b]?=some p:=⟨_,List.getElem?_eq_getElem (by rw [hfl.len];exact hb)⟩;have hple:=hfl.le b y p hy hp;have ey:ys.getD b (0,[])=y:=by rw [getD_eq_getElem?_getD,hy];rfl
  have ep:pl.getD b 0=p:=by rw [getD_eq_getElem?_getD,hp];rfl
  have hne:=AR hw;rw [ey,ep] at hne;obtain ⟨s₁,hs⟩:∃s,y.2[p]?=some s:=⟨_,List.getElem?_eq_getElem (by omega)⟩;have es:y.2.getD p (0,true)=s₁:=by rw [getD_eq_getElem?_getD,hs];rfl
  refine (jA rfl (jY (SqT.of hdd1) rfl (⟨rfl,jA rfl (qX (fun e=>absurd (V.str.inj e) (by decide +kernel)) ?_)⟩)));refine (jA rfl (jY (SqT.of hdd1) rfl (⟨rfl,?_⟩)));rw [decide_eq_true rfl];refine (jA rfl (jA rfl (kS ?_)));refine (jA rfl (jA rfl (jA rfl (jA rfl (jY (SqT.of hdd1) rfl ((E4 x wl st b us ys y p s₁ d ms pl D R L N (yE rfl (hG.same s1) hy hp hs (fun m H2 zs s2 hm0 hm hP=>?_)))))))));have s12:=s1.trans s2;refine (jA rfl (⟨x,dx,jA rfl (⟨(s12 _ _ hx),hf.no (by decide +kernel) (by decide +kernel) (by decide +kernel),zW x D R L N (yW rfl (hc0.same s12) (by omega) (fun wq ws H3 s3 hwq0 hwq hW=>?_))⟩)⟩));have s13:=s12.trans s3;have hl:=hP.1;refine (jA rfl (jY (SqT.of (s13 _ _ hst1)) rfl ((jA rfl (⟨wq,wt,m,ws,zs,qA R L.length,ms,jA rfl (⟨o6 hTg hW hwq (.inr (SqT.of (s13 _ _ hwt))) hml (by omega) (by omega),s3 _ _ hm,hP.same s3,?_,fun r H4 gs zs4 s4 hr0 hr hP4 hS=>?_⟩)⟩)))))
  ·rw [hl];exact Nat.le_trans (NU _ _ _ _) (by decide)
  have e:QU R L N ys d ms pl (.pass b)=QS R.length L ms s₁:=by show QS R.length L ms _=_;rw [ey,ep,es]
  refine qv r H4 gs zs4 (s13.trans s4) (s13.free hr0) hr ?_ ?_
  ·unfold QK;rw [e];exact hP4
  ·rw [e];exact hS
 |«let» k =>
  have hk:k<L.length:=hin;refine (jA rfl (jY (SqT.of hdd1) rfl (⟨rfl,jA rfl (qX (fun e=>absurd (V.str.inj e) (by decide +kernel)) ?_)⟩)));refine (jA rfl (jY (SqT.of hdd1) rfl (⟨rfl,?_⟩)));rw [decide_eq_false (fun e=>absurd (V.str.inj e) (show ¬("let":Str)="pass" by decide +kernel))];refine (jA rfl (jA rfl (qI ?_)));refine (jA rfl (jA rfl (jA rfl (jY (SqT.of hdd1) rfl ((tZ x wl st k us ys d ms pl D R L N (yW rfl (hG.same s1) hk (fun m H2 zs s2 hm0 hm hP=>?_))))))));have s12:=s1.trans s2;refine (jA rfl (⟨x,dx,jA rfl (⟨(s12 _ _ hx),hf.no (by decide +kernel) (by decide +kernel) (by decide +kernel),zW x D R L N (yW rfl (hc0.same s12) (by omega) (fun wq ws H3 s3 hwq0 hwq hW=>?_))⟩)⟩));have s13:=s12.trans s3;have hl:=hP.1;refine (jA rfl (jY (SqT.of (s13 _ _ hst1)) rfl ((jA rfl (⟨wq,wt,m,ws,zs,qA R L.length,ms,jA rfl (⟨o6 hTg hW hwq (.inr (SqT.of (s13 _ _ hwt))) hml (by omega) (by omega),s3 _ _ hm,hP.same s3,?_,fun r H4 gs zs4 s4 hr0 hr hP4 hS=>?_⟩)⟩)))))
  ·rw [hl];exact Nat.le_trans (O7 _ _ _ _) (by decide)
  exact qv r H4 gs zs4 (s13.trans s4) (s13.free hr0) hr hP4 hS
theorem KW:jT 4 ["canal","ways","state","deed"] nQ:=jS
include T in
theorem G4 (F:kH K "after" nQ f fd) (uv:Def P w K mg base 2 "counted_on" ["state","deed","waters"] [] (xV)) (xk:Def P w K mg base 1 "poured_all" ["waters","pours"] [] (fG K)) (xau:DefX P w K mg base 9 "pours" ["canal","ways","state","deed"] [] (rA (jF cP cB cU) cR cN eW)):FnOk P w K mg base (vS P w) 10 f fd ["canal","ways","state","deed"] (BF (jF cP cB cU) cR cN eW):=by
 refine F.okX2 KW fun vs H Q E h=>?_
 obtain ⟨x,wl,st,dd,de,us,ys,d,ms,pl,D,R,L,N,rfl,hG,hdd,hin,hd0,qv,qe⟩:=h;refine ⟨rfl,fun _ _ _ _ hr=>?_⟩;refine ⟨_,(jO (jQ uv hr rfl (j5 (pv 2) (pv 3) (jQ xk hr rfl (jB (jI (jR K) (pv 2) jC) (jB (rV xau BT hr rfl (yD (pv 0) (pv 1) (pv 2) (pv 3))) jE)))))),?_⟩
 try dsimp only [jV,jU]
 obtain ⟨hc,hdr,hwl,hA,hst,hfl,hml⟩:=id hG;obtain ⟨wt,pt,hst1,hwt,hpt⟩:=id hst;have b1:=hdr.r8;have b2:=hdr.l8;have h10:=hfl.n10;have hln:=hfl.len;refine (jA rfl (jA rfl (jA rfl (jY (SqT.of hst1) rfl ((jA rfl (jA rfl (jA rfl (jA rfl ((bW x wl st dd de us ys d ms pl D R L N (Z7 rfl hG hdd hin hd0 (fun hw r H1 gs zs s1 hr0 hr hP hS=>?_) (fun hw H1 s1=>qe hw _ s1)))))))))))));have qv:=qv hw;refine ⟨wt,r,ms,zs,jA rfl (⟨.inr (SqT.of (s1 _ _ hwt)),so hr,hP.pa,by omega,fun wo H2 s2 hwo0 hwo=>?_⟩)⟩;have s12:=s1.trans s2;exact (J9 st dd wo de d ms _ pl (yE rfl (hst.same s12) (s12 _ _ hdd) hwo (by omega) (fun r3 H3 s3 hr30 h3=>qv r3 H3 gs (s12.trans s3) (s12.free hr30) h3 hS)))
theorem oV:jT 3 ["canal","ways","state","passes","lets"] cF:=jS
include T in
theorem HX (F:kH K "may" cF f fd) (vh:Def P w K mg base 8 "why_not" ["canal","ways","state","deed"] [] (sK (jF cP cB cU) cR cN)):FnOk P w K mg base jK 9 f fd ["canal","ways","state"] (tK (jF cP cB cU) cR cN):=by
 refine F.ok2 oV fun vs H Q E h=>?_
 obtain ⟨x,wl,st,us,ys,d,ms,pl,D,R,L,N,rfl,hG,q⟩:=h;refine ⟨rfl,fun _ _ _ _ hr=>?_⟩;refine ⟨_,(@jH _ _ _ _ _ (JV (i:=3) ["boat"] (qY 1 []) oV.nd rfl (.inl rfl) rfl (qR (jM cF)) (cps 1 []) (zY (by rfl) T.xi (jB (kQ K T.xf (pv 1)) jE)) (fun _ _ _ _ _=>(kF (i:=0) (show List.Nodup (["boat"]:List Str) from by decide +kernel) rfl (.inl rfl))) (fun _ _ _ _ _=>zB) (fun _ _ _ _ _=>(kY (jB j6 (jB (pv 0) jE)))))
   (@jH _ _ _ _ _ (JV (i:=4) ["k"] (qY 1 []) oV.nd rfl (.inl rfl) rfl (qR (jM cF)) (cps 1 []) (zY (by rfl) T.xi (jB (kQ K T.xf (j7 K (pv 0) rfl)) jE)) (fun _ _ _ _ _=>(kF (i:=0) (show List.Nodup (["k"]:List Str) from by decide +kernel) rfl (.inl rfl))) (fun _ _ _ _ _=>zB) (fun _ _ _ _ _=>(kY (jB j6 (jB (pv 0) jE)))))
   (jO (bZ ["deed","canal","ways","state"] [0,1,2] (qR (jM cF)) (q0 (@jL _ _ _ _ _ _ _ _ ZO (@jL _ _ _ _ _ _ _ _ ZO (pv 3) (pv 4)) (qO (jB (kY (jB j6 jE)) jE)))) (fun _ _ _ _ _=>(JH (kI qQ (jQ vh hr rfl (yD (pv 1) (pv 2) (pv 3) (pv 0))) j6))) (fun _ _ _ _ _=>(pv 0)))))),?_⟩
 try dsimp only [jV,jU]
 obtain ⟨hc,hdr,hwl,hA,hst,hfl,hml⟩:=id hG;obtain ⟨dx,rl,ll,nl,fs,rs,ls,nv,hx,hf,hrl,hll,hnl,hR,hL,hN,d1,d2,d3⟩:=hc;have b1:=hdr.r8;have b2:=hdr.l8;have h10:=hfl.n10;have hul:=hA.1;refine (jA rfl (⟨wl,jA rfl (⟨.inl (so hwl),jA rfl (⟨by omega,by omega,fun D₁ hD₁=>?_⟩)⟩)⟩));refine ZH (n:=((us.length:Nat):Int).toNat) (caps:=[]) (fun i zs Hi=>AllAt (DdAt Hi) zs (passes i)) hD₁ AllAt.nil ?_ ?_
 ·rintro i zs Hi hi hle sm hY hZ;rw [Int.toNat_natCast] at hi;rw [Int.zero_add];refine yB (kS (jA rfl (⟨zz2,fun tp htp=>?_⟩)));have u:=jJ htp (.tup [V.str "pass",V.int (i:Int)]);refine vV hD₁ sm hY hle (by omega) u ?_;rw [show passes (i+1)=passes i++[.pass i] by unfold passes;rw [range_succ,map_append];rfl];exact ((hZ.mono (DdAt.same u)).snoc (v:=.ref tp) (x:=.pass i) ⟨tp,rfl,jD⟩).mono (DdAt.put (u _ _ hY))
 rintro zs H1 s1 hY1 hle1 hZ1;rw [Int.toNat_natCast] at hZ1;refine (jA rfl (j8 ((s1 _ _ hx)) (T.clN) (T.xb) (hf.2.1) (⟨ll,jA rfl (⟨.inl (so (s1 _ _ hll)),jA rfl (⟨by omega,by rw [hL.1];omega,fun D₂ hD₂=>?_⟩)⟩)⟩)));refine ZH (n:=((ls.length:Nat):Int).toNat) (caps:=[]) (fun i zs Hi=>AllAt (DdAt Hi) zs (lets i)) hD₂ AllAt.nil ?_ ?_
 ·rintro i zs Hi hi hle sm hY hZ;rw [Int.toNat_natCast,hL.1] at hi;rw [Int.zero_add];refine yB (kS (jA rfl (⟨zz2,fun tp htp=>?_⟩)));have u:=jJ htp (.tup [V.str "let",V.int (i:Int)]);refine vV hD₂ sm hY hle (by omega) u ?_;rw [show lets (i+1)=lets i++[.let i] by unfold lets;rw [range_succ,map_append];rfl];exact ((hZ.mono (DdAt.same u)).snoc (v:=.ref tp) (x:=.let i) ⟨tp,rfl,jD⟩).mono (DdAt.put (u _ _ hY))
 rintro zs2 H2 s2 hY2 hle2 hZ2;rw [Int.toNat_natCast,hL.1] at hZ2;have l1:=hZ1.1;have l2:=hZ2.1;unfold passes at l1;unfold lets at l2;rw [length_map,length_range] at l1 l2;refine (jA rfl (jA rfl (⟨D₁,D₂,_,_,rfl,rfl,s2 _ _ hY1,hY2,small (by omega),fun al hal=>?_⟩)));have s3:=jJ hal (.lst (zs++zs2));refine ⟨zz1,fun tp htp=>?_⟩;have s4:=jJ htp (.tup [V.str "night"]);refine ⟨zz1,fun lp hlp=>?_⟩;have s5:=jJ hlp (.lst [V.ref tp]);have hal5:=s5 _ _ (s4 _ _ (jD:upd H2 al (.lst (zs++zs2)) al=_));refine ⟨al,lp,_,_,rfl,rfl,hal5,jD,small (by rw [length_append,l1,l2];show _+1≤1000;omega),fun rr hrr=>?_⟩;have s6:=jJ hrr (.lst (zs++zs2++[V.ref tp]));have s36:=((s3.trans s4).trans s5).trans s6;have s26:=s2.trans s36;have s16:=s1.trans s26;have hZ:AllAt (DdAt (upd (upd (upd (upd H2 al (.lst (zs++zs2))) tp (.tup [V.str "night"])) lp (.lst [V.ref tp])) rr (.lst (zs++zs2++[V.ref tp])))) (zs++zs2++[V.ref tp]) (yX ys.length L.length):=by
  unfold yX;rw [← hul];exact ((hZ1.mono (DdAt.same s26)).app (hZ2.mono (DdAt.same s36))).snoc (v:=.ref tp) (x:=.night) ⟨tp,rfl,s6 _ _ (s5 _ _ jD)⟩
 have hrr1:upd (upd (upd (upd H2 al (.lst (zs++zs2))) tp (.tup [V.str "night"])) lp (.lst [V.ref tp])) rr (.lst (zs++zs2++[V.ref tp])) rr=_:=jD;generalize upd (upd (upd (upd H2 al (.lst (zs++zs2))) tp (.tup [V.str "night"])) lp (.lst [V.ref tp])) rr (.lst (zs++zs2++[V.ref tp]))=H6 at hZ hrr1 s16 ⊢;have hln:=hZ.1;rw [iD] at hln;generalize zs++zs2++[V.ref tp]=za at hZ hrr1 hln ⊢;refine ⟨rr,rfl,⟨_,so hrr1⟩,fun Df hDf=>?_⟩;refine zM (K:=K) (a:=rr) (xs:=za) (caps:=[some (.ref x),some (.ref wl),some (.ref st)]) (fun i zs Hi=>AllAt (DdAt Hi) zs (((yX ys.length L.length).take i).filter fun de=>decide (v0 R L N.length ys d ms pl de=""))) hDf (so hrr1) AllAt.nil ?_ ?_
 ·rintro i v zs Hi hv hi hle sm hY hzz;obtain ⟨de,hde,t,rfl,ht⟩:=hZ.2 i v hv;have hin:=pD (mem_of_getElem? hde);refine (jA rfl (jA rfl (jA rfl (jA rfl ((bW x wl st t de us ys d ms pl D R L N (yV rfl (hG.same (s16.trans sm)) (sm _ _ ht) hin (fun H7 s7=>⟨rfl,jA rfl (?_)⟩))))))))
  by_cases hw:v0 R L N.length ys d ms pl de=""
  ·refine vK (congrArg V.str hw) (jA rfl (vV hDf sm hY hle (by omega) s7 ?_));rw [BP hde,if_pos hw];exact ((hzz.mono (DdAt.same s7)).snoc (v:=.ref t) (x:=de) ⟨t,rfl,s7 _ _ (sm _ _ ht)⟩).mono (DdAt.put (s7 _ _ hY))
  ·refine qX (fun e=>hw (V.str.inj e)) (JW sm hY hle s7 ?_);rw [BP hde,if_neg hw,append_nil];exact hzz.mono (DdAt.same s7)
 rintro zr H8 s8 hY hle hzz;rw [hZ.1,take_length] at hzz;exact q Df zr H8 (s16.trans s8) (s16.free hDf) hY hzz
theorem LI:jT 2 ["ways","state"] gT:=jS
include T in
theorem IO (F:kH K "steps_left" gT f fd) (zd:Def P w K mg base 1 "steps_to_do" ["way","place"] [] (sL)):FnOk P w K mg base jK 2 f fd ["ways","state"] (DM):=by
 refine F.ok2 LI fun vs H Q E h=>?_
 obtain ⟨wl,st,us,ys,d,ms,pl,L,rfl,hwl,hA,⟨wt,pt,hst,hwt,hpt⟩,hfl,q⟩:=h;refine ⟨rfl,fun _ _ _ _ hr=>?_⟩;refine ⟨_,(jO (y9 (pU rfl) (by rfl) T.vk PyProof.Rows.boot_sum (jB (QF ["way","place"] (qY 2 []) rfl (qR (jM gT)) (cps 2 []) (CS (by rfl) T.vy (jB (pv 0) (jB (jI (jR K) (pv 1) jC) jE))) (fun _ _ _ _ _=>(QI (n:=2) K rfl (qT (kF (i:=0) (show List.Nodup (["way","place"]:List Str) from by decide +kernel) rfl (.inl rfl)) (qT (kF (i:=1) (show List.Nodup (["way","place"]:List Str) from by decide +kernel) rfl (.inl rfl)) z3)))) (fun _ _ _ _ _=>zB) (fun _ _ _ _ _=>(jQ zd hr rfl (jB (pv 0) (jB (pv 1) jE))))) jE))),?_⟩
 try dsimp only [jV,jU]
 refine (jA rfl (jA rfl (jY (SqT.of hst) rfl (⟨wl,pt,rfl,⟨_,so hwl⟩,⟨_,SqT.of hpt⟩,fun D₁ hD₁=>?_⟩))));refine wQ (K:=K) (a1:=wl) (a2:=pt) (xs:=us) (ys:=pl.map fun (p:Nat)=>V.int (p:Int)) (fun i σ Hi=>∃c1 c2:Option V,σ=[c1,c2]∧Hi D₁=some (.lst (((bO ys pl).take i).map V.int))∧Same H Hi)
  ⟨none,none,rfl,by rw [jD,take_zero];rfl,jJ hD₁ _⟩ (fun i σ Hi _ ⟨_,_,_,_,s⟩=>⟨so (s _ _ hwl),SqT.of (s _ _ hpt)⟩) (by rw [hA.1,length_map,hfl.len]) ?_ ?_
 ·rintro i v z σ Hi T₁ hv hz ⟨c1,c2,rfl,hY,sm⟩ hT;obtain ⟨y,hy,hwy⟩:=hA.2 i v hv;have hi:i<ys.length:=(List.getElem?_eq_some_iff.mp hy).1;obtain ⟨t,st₂,us₂,rfl,hw1,hw2,hw3⟩:=id hwy;have hip:i<pl.length:=by rw [hfl.len];exact hi
  rw [List.getElem?_map,List.getElem?_eq_getElem hip] at hz;cases hz;have u:=jJ hT (.tup [V.ref t,V.int ((pl[i]:Nat):Int)]);have smu:=sm.trans u;have hwy2:=WyAt.same smu _ _ hwy;have hp:=hfl.le i y pl[i] hy (List.getElem?_eq_getElem hip);have hg1:ys.getD i (0,[])=y:=by rw [getD_eq_getElem?_getD,hy];rfl
  have hg2:pl.getD i 0=pl[i]:=by rw [getD_eq_getElem?_getD,List.getElem?_eq_getElem hip];rfl
  have h10:=hfl.n10;have hYu:=u _ _ hY;refine ⟨T₁,jA rfl (⟨SqT.of jD,rfl,_,jA rfl (⟨_,_,rfl,rfl,?_⟩)⟩)⟩;generalize upd Hi T₁ (.tup [V.ref t,V.int ((pl[i]:Nat):Int)])=Hj at u smu hwy2 hYu ⊢;refine yB (kS ?_);refine (jA rfl (jA rfl (⟨t,y,jA rfl (⟨hwy2,?_⟩)⟩)));refine ⟨_,hYu,yJ (by rw [length_map,length_take];unfold bO;rw [length_map,length_range];omega),_,jA rfl (⟨?_,qH hD₁ smu⟩)⟩;rw [jD,take_add_one,show (bO ys pl)[i]?=some ((y.2.length:Int) - ((pl[i]:Nat):Int)) by unfold bO;rw [List.getElem?_map,List.getElem?_range hi,← hg1,← hg2];rfl,map_append];rfl
 rintro σ Hf ⟨c1,c2,rfl,hY,sm⟩;rw [hA.1,take_of_length_le (by unfold bO;rw [length_map,length_range];exact Nat.le_refl _)] at hY;exact ⟨D₁,jA rfl (⟨so hY,q Hf sm⟩)⟩
theorem KZ:jT 2 ["ways","state"] nR:=jS
include T in
theorem G6 (F:kH K "all_home" nR f fd) (uw:Def P w K mg base 2 "steps_left" ["ways","state"] [] (DM)):FnOk P w K mg base jK 3 f fd ["ways","state"] (DN):=by
 refine F.ok2 KZ fun vs H Q E h=>?_
 obtain ⟨wl,st,us,ys,d,ms,pl,L,rfl,hwl,hA,hst,hfl,q⟩:=h;refine ⟨rfl,fun _ _ _ _ hr=>?_⟩;refine ⟨_,(jO (J7 qQ (jQ uw hr rfl (jB (pv 0) (jB (pv 1) jE))) jC)),?_⟩
 try dsimp only [jV,jU]
 refine (jA rfl (jA rfl ((J9 wl st us ys d ms pl L (yE rfl hwl hA hst hfl (fun H1 s1=>⟨rfl,?_⟩))))));rw [NA];exact q H1 s1
theorem KJ:LamScope false ["state","ways"] "state" ["ways"] (vX kX):=⟨rfl,rfl,rfl,by decide +kernel,rfl,rfl,by decide +kernel,lG (by decide +kernel),(show ∀y∈(vX kX).names,y.2≠.cell by decide +kernel)⟩
theorem GD (T:Txt P w base K mg cP cB cU cR cN tkS eW eL eTW tkH) (xaa:Def P w K mg base 3 "all_home" ["ways","state"] [] (DN)):FnV P w K mg base jK 5 (JB "homecoming.<locals>.<lambda>" (yM kX) (yY kX) (vX kX) ["ways"] (zX)):=by
 refine C6 (k:=4) KJ (fun _ _ _ _ _ _=>rfl) fun A outer s H f cdv cl fvs v Q E hcl hr hc h=>?_
 obtain ⟨wl,st,H0,us,ys,d,ms,pl,L,rfl,⟨⟩,s0,h0,hwl,hA,hst,hfl,q⟩:=h;have hu:_<cLine:=hr.units0;have hu1:=dP hr;have hu9:=QN hr;have hu10:=QJ hr;refine ⟨_,(jQ xaa hr rfl (jB (pv 1) (jB (pv 0) jE))),?_⟩;have sd:=iQ s0 h0;refine (jA rfl (jA rfl ((J9 wl st us ys d ms pl L (yE rfl (sd _ _ hwl) (hA.mono (WyAt.same sd)) (hst.del hc) hfl (fun H1 s1 hn=>?_))))));exact q _ (iR s1)
theorem KI:LamScope true ["state","ways","canal"] "state" ["ways","canal"] (vX kP):=⟨rfl,rfl,rfl,by decide +kernel,rfl,rfl,by decide +kernel,lG (by decide +kernel),⟨_,rfl,by decide +kernel⟩⟩
theorem GC (T:Txt P w base K mg cP cB cU cR cN tkS eW eL eTW tkH) (xav:Def P w K mg base 9 "may" ["canal","ways","state"] [] (tK (jF cP cB cU) cR cN)) (ux:Def P w K mg base 10 "after" ["canal","ways","state","deed"] [] (iL (jF cP cB cU) cR cN)):FnV P w K mg base jK 14 (JB "ahead_on.<locals>.<lambda>" (yM kP) (yY kP) (vX kP) ["ways","canal"] (yL (jF cP cB cU) cR cN)):=by
 refine C6 (k:=13) KI (fun _ _ _ _ _ _=>rfl) fun A outer s H f cdv cl fvs v Q E hcl hr hc h=>?_
 obtain ⟨x,wl,st,H0,us,ys,d,ms,pl,D,R,L,N,rfl,⟨⟩,s0,h0,hcn,hdr,hwl,hA,hst,hfl,hml,hd0,q⟩:=h;have hu:_<cLine:=hr.units0;have hu1:=dP hr;have hu9:=QN hr;have hu10:=QJ hr;refine ⟨_,(fN ["deed","canal","ways","state"] [2,1,0] (qR (vX kP)) (q0 (jQ xav hr rfl (j5 (pv 2) (pv 1) (pv 0)))) (fun _ _ _ _ _=>(kY (jB (pv 0) (jB (jQ ux hr rfl (yD (pv 1) (pv 2) (pv 3) (pv 0))) jE))))),?_⟩;have sd:=iQ s0 h0;have hG:Stage _ _ _ D (kW H (cl.map (·.2))) x wl st us R L N ys d ms pl:=⟨hcn.same sd,hdr,sd _ _ hwl,hA.mono (WyAt.same sd),hst.del hc,hfl,hml⟩;refine (jA rfl (jA rfl (jA rfl ((t6 x wl st us ys d ms pl D R L N (y8 rfl hG (fun r zs H1 s1 hr0 hr1 hdd=>⟨r,rfl,⟨_,so hr1⟩,fun bt hbt=>?_⟩)))))));have hml0:(v9 R L N.length ys d ms pl).length≤999:=by
  have h1:=length_filter_le (fun de=>decide (v0 R L N.length ys d ms pl de="")) (yX ys.length L.length);rw [iD] at h1;have h2:=hfl.n10;have h3:=hdr.l8;exact Nat.le_trans h1 (by omega)
 refine zM (K:=K) (a:=r) (xs:=zs) (caps:=[some (.ref x),some (.ref wl),some (.ref st)]) (fun j ws Hk=>zG Hk ws (zO R L N ys (d,ms,pl) ((v9 R L N.length ys d ms pl).take j))) hbt (so hr1) ⟨rfl,fun i x e=>by cases e⟩ ?_ ?_
 ·rintro j v ws Hk hv hj hle sm hY hR;obtain ⟨de,hde,ta,rfl,hta⟩:=hdd.2 j v hv;have hin:=mem_filter.mp (mem_of_getElem? hde);have hj9:j<(v9 R L N.length ys d ms pl).length:=(List.getElem?_eq_some_iff.mp hde).1;refine yB (kS ?_);refine (jA rfl (jA rfl (jA rfl (jA rfl (jA rfl ((bW x wl st ta de us ys d ms pl D R L N (Z7 rfl ((hG.same s1).same sm) (sm _ _ hta) (pD hin.1) hd0 (of_decide_eq_true hin.2) (fun r2 H2 gs s2 hr2 hs2 hSp=>⟨small (by show 2≤1000;decide),fun tp htp=>?_⟩)))))))));have u:=jJ htp (.tup [V.ref ta,V.ref r2]);have hnx:=rW (s:=(d,ms,pl)) (ys:=ys) (N:=N) (de:=de) hdr hml hSp;refine vV (R:=fun j ws Hk=>zG Hk ws (zO R L N ys (d,ms,pl) ((v9 R L N.length ys d ms pl).take j))) hbt sm hY hle (by omega) (s2.trans u) ?_;have tk:∀a l,Hk a=some (.tup l)→upd (upd H2 tp (.tup [V.ref ta,V.ref r2])) bt (.lst (ws++[.ref tp])) a=some (.tup l):=fun a l e=>by rw [jG fun z=>by subst z;rw [hY] at e;cases e];exact u _ _ (s2 _ _ e)
  have hbt2:upd H2 tp (.tup [V.ref ta,V.ref r2]) bt=some (.lst ws):=u _ _ (s2 _ _ hY);have tk2:∀a l,upd H2 tp (.tup [V.ref ta,V.ref r2]) a=some (.tup l)→upd (upd H2 tp (.tup [V.ref ta,V.ref r2])) bt (.lst (ws++[.ref tp])) a=some (.tup l):=fun a l e=>by rw [jG fun z=>by subst z;rw [hbt2] at e;cases e];exact e
  have ht:(v9 R L N.length ys d ms pl).take (j+1)=(v9 R L N.length ys d ms pl).take j++[de]:=by rw [take_add_one,hde];rfl
  show zG _ _ (zO R L N ys (d,ms,pl) ((v9 R L N.length ys d ms pl).take (j+1)));rw [ht];unfold zO;rw [map_append];refine pF (p:=(yS de,jZ (J0 R L N ys (d,ms,pl) de))) (eN tk hR) (tk2 _ _ jD) (EQ (tk _ _ (sm _ _ hta))) ?_ (ER de) (lU _);have h3:(GV (upd H2 tp (.tup [V.ref ta,V.ref r2])) (jZ (J0 R L N ys (d,ms,pl) de))).1 (.ref r2):=by
   rw [hnx];exact fI (s:=(ZX d de,kJ ms (QK R L N ys d ms pl de gs),QZ pl de)) (hs2.same u)
  exact (GV.keep tk2 _).1 _ h3
 ·rintro ws Hg sg hbg hleg hR hn;rw [hdd.1,take_length] at hR;have sa:=(s1.trans sg);refine q _ _ _ (iR sa) ?_ (lA hn hbg) ?_
  ·have hb:bt∉cl.map (·.2):=fun hin=>by rw [hn bt hin] at hbg;cases hbg
   cases e:H bt with
   |none=>rfl
   |some o=>have:=s1 bt o (by rw [vD hb];exact e);rw [hbt] at this;cases this
  ·exact eN (fun a l e=>lA hn e) hR
theorem K4:jT 1 ["ways"] kX:=jS
theorem HK {f:Addr} {fd:FuncData} (F:Fun K "homecoming" "homecoming" kX f fd) {cL tH:Addr} (hcL:fd.code=.ref cL) (hC:W.CodeHd base cL tH) (hB:base.BuiltinsAt mg tH) (hgT:PySem.mainGlobals≠tH):FnOk P w K mg base jK 1 f fd ["ways"] (dC tH 1 (vN kX) "homecoming.<locals>.<lambda>" (yM kX) (yY kX) (vX kX) ["ways"] [0]) :=
  F.maker (k:=0) hcL K4 hC hB hgT (fun n=>[("ways",n+1)]) rfl (fun _=>rfl) (fun _=>rfl) (fun _=>rfl) (fun n=>by simp) (fun _=>rfl) (fun n i x c h=>by
    match i,h with
    |0,h=>cases h;exact ⟨0,rfl,by decide,rfl,rfl,rfl⟩
    |i+1,h=>cases h) rfl
theorem KY:jT 2 ["canal","ways"] kP:=jS
theorem G5 {f:Addr} {fd:FuncData} (F:Fun K "ahead_on" "ahead_on" kP f fd) {cL tA:Addr} (hcL:fd.code=.ref cL) (hC:W.CodeHd base cL tA) (hB:base.BuiltinsAt mg tA) (hgT:PySem.mainGlobals≠tA):FnOk P w K mg base jK 1 f fd ["canal","ways"] (dC tA 2 (vN kP) "ahead_on.<locals>.<lambda>" (yM kP) (yY kP) (vX kP) ["ways","canal"] [1,0]) :=
  F.maker (k:=0) hcL KY hC hB hgT (fun n=>[("ways",n+2),("canal",n+1)]) rfl (fun _=>rfl) (fun _=>rfl) (fun _=>rfl) (fun n=>by simp) (fun _=>rfl) (fun n i x c h=>by
    match i,h with
    |0,h=>cases h;exact ⟨1,rfl,by decide,rfl,rfl,rfl⟩
    |1,h=>cases h;exact ⟨0,rfl,by decide,rfl,rfl,rfl⟩
    |i+2,h=>cases h) rfl
theorem iA:jT 2 ["came","state","row","step"] oJ:=jS
include T in
theorem IJ (F:kH K "row_to" oJ f fd) : FnOk P w K mg base jK 2 f fd ["came","state"] (BA w):=by
  refine F.ok2 iA fun vs H Q E h=>?_
  obtain ⟨d,y,T0,met,k,k0,j0,rfl,hC,hl,hy,h8,hk,hlev,q⟩:=h;refine ⟨rfl,fun _ _ _ _ hr=>?_⟩;have hu9:=QN hr;have hu10:=QJ hr;refine ⟨_,(@jH _ _ _ _ _ (jX 2 iA.nd (qO jE))
      (@jH _ _ _ _ _ (jX 3 iA.nd (CU hu9 (pv 0) (pv 1) (fun _ _=>rfl)))
      (@jH _ _ _ _ _ (rB PassesOwn.never (kI CY (pv 3) ZN) (@jH _ _ _ _ _ (JE (QR PySem.F.plainAttrs_list PySem.F.slot_list_append PySem.F.type_list_append QE (pv 2) (jB (jI (jR K) (pv 3) jC) jE)))
      (@qG _ _ _ (jX 3 iA.nd (CU hu9 (pv 0) (jI (jR K) (pv 3) jC) (fun _ _=>rfl))))))
      (jO (MR rfl (by rfl) T.xn (by rfl) T.xt (jB (pv 2) jE)))))),?_⟩
  try dsimp only [jV,jU]
  refine ⟨Nat.zero_le _,fun r hr0=>?_⟩;have u0:=jJ hr0 (.lst []);obtain ⟨kvs,e1,g,e2,e3⟩:=hC.ex;obtain ⟨i,hi⟩:=mem_iff_getElem?.mp hk;have hil:=(List.getElem?_eq_some_iff.mp hi).1;have at_:∀(i:Nat) (k:GK),met[i]?=some k→∃p:qS,kvs[i]?=some p∧p.1=k:=fun i k h=>by
    rw [← e2,List.getElem?_map] at h;exact Option.map_eq_some_iff.mp h
  obtain ⟨p,hp,hpk⟩:=at_ i k hi;refine (jA rfl (jA rfl (⟨d,kvs,k,jA rfl (⟨.of (u0 _ _ e1),cT u0 g,qW u0 hy,h8,by rw [← hpk];exact C4 g.once hp,?_⟩)⟩)));have step:∀(Hi:Hp) (i:Nat) (p:qS),Same H Hi→kvs[i]?=some p→((p.2.2=.non∧p.1=k0)∨∃t yp dv kp de j,p.2.2=.ref t∧Hi t=some (.tup [yp,dv])∧(GV Hi kp).1 yp∧gd kp≤8∧(GV Hi de).1 dv∧gd de≤8∧(de,p.1)∈Q7 T0 kp∧uE T0 k0 kp p.1∧met[j]?=some kp∧j<i):=fun Hi i p s hp=>by
    rcases e3 i p hp with ⟨h,hz⟩|⟨t,yp,dv,kp,de,j,a1,a2,a3,a4,a5,a6,a7,a8,a9⟩
    · exact .inl ⟨h,hz⟩
    · exact .inr ⟨t,yp,dv,kp,de,j,a1,s _ _ a2,qW s a3,a4,qW s a5,a6,a9.1,a9.2,a8,a7⟩
  refine ⟨ET H d y r met T0 k k0 j0,⟨i,p.2.2,[],[],k,j0,rfl,u0,jD,⟨rfl,fun i x e=>by cases e⟩,by show 0+i≤1000;omega,rfl,hlev,Nat.zero_add j0,by rw [← hpk];exact step _ i p u0 hp⟩,?_⟩;rintro m σ Hi ⟨sv,xs,rd,c,jc,rfl,s,hr,hks,hlm,hpa,hlc,hj0,hs⟩;refine ⟨_,rfl,rfl,jA rfl (?_)⟩
  rcases hs with ⟨rfl,rfl⟩|⟨t,yp,dv,kp,de,j,rfl,ht,hyp,hp8,hde,hde8,hah,⟨jl,hl1,hl2⟩,hj,hjm⟩
  · refine zJ rfl ?_
    refine (jA rfl (⟨r,xs,rfl,so hr,fun l hl=>q l _ rd.reverse _ (s.trans (jJ hl _)) ?_ jD ?_ hpa ?_⟩))
    · cases e:H l with
      |none=>rfl
      |some o=>have:=s _ _ e;rw [hl] at this;cases this
    · exact (hks.rev).same (jJ hl _)
    · have h0:c∈j3 T0 c 0:=by show c∈[c];simp
      rw [length_reverse];have:=BQ hlc h0;omega
  · refine ZU (fun z=>by cases z) ⟨fun σ' H'=>∃m',m'<m∧ET H d y r met T0 k k0 j0 m' σ' H',fun _ _ h=>h,?_⟩
    obtain ⟨p',hp',hpk'⟩:=at_ j kp hj;have hxl:=hks.1;refine (jA rfl (⟨.inl ⟨rfl,_,so hr⟩,jA rfl (⟨t,_,_,dv,rfl,rfl,SqT.of ht,rfl,r,_,_,rfl,rfl,hr,JY (by omega),?_⟩)⟩));have tk:∀a l,Hi a=some (.tup l)→upd Hi r (.lst (xs++[dv])) a=some (.tup l):=fun a l e=>by rw [jG (fun z=>by rw [z,hr] at e;cases e)];exact e
    have s2:Same H (upd Hi r (.lst (xs++[dv]))):=qH hr0 s;refine (jA rfl (jA rfl (⟨t,_,_,yp,rfl,rfl,SqT.of (tk _ _ ht),rfl,d,kvs,kp,jA rfl (⟨.of (s2 _ _ e1),cT s2 g,(GV.keep tk _).1 _ hyp,hp8,by rw [← hpk'];exact C4 g.once hp',?_⟩)⟩)));have hjl:=BQ hlc hl2;refine ⟨j,hjm,p'.2.2,xs++[dv],rd++[de],kp,jl,rfl,s2,jD,hks.snoc tk hde hde8,by rw [length_append,length_singleton];omega,?_,hl1,by rw [length_append,length_singleton];omega,by rw [← hpk'];exact step _ j p' s2 hp'⟩;rw [reverse_append];exact ⟨c,hah,hpa⟩
theorem eD:jT 3 ["layer","ahead","came","fresh","state","deed","behind"] n5:=jS
include T in
theorem HY (F:kH K "next_layer" n5 f fd) (jq:FnV P w K mg base jK 14 (JB "ahead_on.<locals>.<lambda>" (yM kP) (yY kP) (vX kP) ["ways","canal"] (yL (jF cP cB cU) cR cN))):FnOk P w K mg base jK 16 f fd ["layer","ahead","came"] (CC w (JB "ahead_on.<locals>.<lambda>" (yM kP) (yY kP) (vX kP) ["ways","canal"] (yL (jF cP cB cU) cR cN))):=by
 refine F.ok2 eD fun vs H Q E h=>?_
 obtain ⟨l,fa,dc,H0,T0,xs,lay,met,R0,rfl,s0,hdc,hA,hsh,hsz,hl,hks,hsub,hdom,hC,hR0,q⟩:=h;refine ⟨rfl,fun _ _ _ _ hr=>?_⟩;have hu9:=QN hr;have hu10:=QJ hr;refine ⟨_,(@jH _ _ _ _ _ (jX 3 eD.nd (qO jE))
   (@jH _ _ _ _ _ (yZ PassesOwn.never rfl (q0 (pv 0)) (kF (i:=4) eD.nd rfl (.inl rfl))
    (@qG _ _ _ (yZ PassesOwn.never rfl (q0 (bG (i:=1) jq (hr.mono (by decide)) zQ rfl (by first|exact .inl rfl|exact .inr rfl|exact .inr (.inl rfl)|exact .inr (.inr rfl)) (jB (pv 4) jE))) (lF rfl (qT (kF (i:=5) eD.nd rfl (.inl rfl)) (qT (kF (i:=6) eD.nd rfl (.inl rfl)) z3)))
    (@qG _ _ _ (kU (DS (xZ hu9 (pv 6) (pv 2))) (@jH _ _ _ _ _ (CN hu9 (pv 2) (pv 6) (kY (jB (pv 4) (jB (pv 5) jE))) rfl)
   (@qG _ _ _ (JE (QR PySem.F.plainAttrs_list PySem.F.slot_list_append PySem.F.type_list_append QE (pv 3) (jB (pv 6) jE))))) kT)))))
   (jO (pv 3)))),?_⟩
 try dsimp only [jV,jU]
 refine ⟨Nat.zero_le _,fun r hr0=>?_⟩;have u0:=jJ hr0 (.lst []);obtain ⟨kvs0,c1,_⟩:=hC.ex;have hne:r≠dc:=fun z=>by rw [z,c1] at hr0;cases hr0
 have lne:l≠dc:=fun z=>by rw [z,c1] at hl;cases hl
 refine (jA rfl (⟨l,rfl,⟨_,so (u0 _ _ hl)⟩,?_⟩));refine QG (K:=K) (xs:=xs) (fun i σ Hi=>∃acc c4 c5 c6,σ=[some (.ref l),some (.ref fa),some (.ref dc),some (.ref r),c4,c5,c6]∧NextIn R0 w H Hi dc r T0 met acc∧acc=qK T0 met [] (lay.take i)) ⟨[],none,none,none,rfl,⟨fun a o _ e=>u0 _ _ e,hr0,hne,⟨[],jD,rfl,fun i x e=>by cases e⟩,by rw [append_nil];exact hC.same u0,fun x hx=>by cases hx⟩,rfl⟩ (fun i σ Hi _ ⟨_,_,_,_,_,hI,_⟩=>so (hI.keep l _ lne hl)) ?_ ?_
 ·rintro i x σ Hi hx ⟨acc,c4,c5,c6,rfl,hI,hacc⟩;obtain ⟨k,hk,hyk,h8⟩:=hks.2 i x hx;have hkm:=hsub k (mem_of_getElem? hk);have hps:=hdom k hkm;have tkI:∀a z,H a=some (.tup z)→Hi a=some (.tup z):=fun a z e=>hI.keep a _ (fun y=>by rw [y,c1] at e;cases e) e
  have sI:Same H0 Hi:=fun a o e=>hI.keep a o (qV e hdc) (s0 _ _ e)
  have hyk':=(GV.keep tkI k).1 _ hyk;refine ⟨fa,rfl,jA rfl (hA _ _ k _ _ sI hps hyk' fun p zs HP up hp0 hpl hPP=>⟨p,rfl,⟨_,so hpl⟩,?_⟩)⟩;obtain ⟨kvsI,d1,_⟩:=hI.came.ex;obtain ⟨ysI,r1,_⟩:=hI.row;have pne:p≠dc:=fun z=>by rw [z,d1] at hp0;cases hp0
  have pnr:p≠r:=fun z=>by rw [z,r1] at hp0;cases hp0
  have hah:T0.1 k=T0.1 k:=rfl;refine QG (K:=K) (a:=p) (xs:=zs) (fun j σ Hj=>∃acc' c5 c6,σ=[some (.ref l),some (.ref fa),some (.ref dc),some (.ref r),some x,c5,c6]∧NextIn R0 w H Hj dc r T0 met acc'∧(∀a o,a≠dc→a≠r→HP a=some o→Hj a=some o)∧acc'=vU met acc ((T0.1 k).take j)) ⟨acc,c5,c6,rfl,⟨fun a o n e=>up _ _ (hI.keep a o n e),hI.rn,hI.nr,⟨ysI,up _ _ r1,?_⟩,hI.came.same up,hI.dom⟩,fun _ _ _ _ e=>e,rfl⟩ (fun j σ Hj _ ⟨_,_,_,_,_,kp,_⟩=>so (kp p _ pne pnr hpl)) ?_ ?_
  ·obtain ⟨ys',r1',r2'⟩:=hI.row;rw [r1] at r1';cases r1'
   exact r2'.same up
  ·rintro j z σ Hj hz ⟨acc',c5,c6,rfl,hJ,kp,hacc'⟩;obtain ⟨pr,t,b,c,p1,rfl,p3,p4,p5,p6,p7⟩:=hPP.2 j z hz;have tkJ:∀a z,HP a=some (.tup z)→Hj a=some (.tup z):=fun a z e=>kp a _ (fun y=>by rw [y,up _ _ d1] at e;cases e) (fun y=>by rw [y,up _ _ r1] at e;cases e) e
   have p3':=tkJ _ _ p3;have p4':=(GV.keep tkJ _).1 _ p4;have p5':=(GV.keep tkJ _).1 _ p5;have hxJ:=(GV.keep tkJ _).1 _ (qW up hyk');have hin:pr∈T0.1 k:=by exact mem_of_getElem? p1
   have ht:((T0.1 k).take (j+1))=(T0.1 k).take j++[pr]:=by rw [take_add_one,p1];rfl
   obtain ⟨kvs,e1,g,e2,e3⟩:=hJ.came.ex;refine ⟨t,[b,c],rfl,.inl (.inl p3'),rfl,_,jA rfl (⟨_,_,rfl,rfl,jA rfl (jA rfl ((v6 dc kvs pr.2 (yE rfl (.of e1) g p5' p7 (jA rfl (?_))))))⟩)⟩;rw [AC,e2]
   by_cases hm:pr.2∈met++acc'
   ·rw [decide_eq_true hm];refine qI ⟨acc',_,jA rfl (⟨hJ,kp,?_⟩)⟩;rw [ht,eJ,← hacc',yR,if_pos hm]
   ·rw [decide_eq_false hm];obtain ⟨ys,er,hky⟩:=hJ.row;have hlen:(met++acc').length≤1000:=by
     have:=rE (l:=met++acc') (m:=met++qK T0 met [] lay) (by rw [← e2];exact g.once) (fun x hx=>(mem_append.mp hx).elim (fun h=>mem_append_left _ h) fun h=>mem_append_right _ (rJ (i:=i) (j:=j) hk rfl (by rw [← hacc,← hacc'];exact h)));omega
    have hkl:kvs.length=(met++acc').length:=by rw [← e2,length_map]
    refine kS (jA rfl (jA rfl (⟨small (by show 2≤1000;decide),fun t2 ht2=>(jA rfl (jA rfl ((v6 dc kvs pr.2 (Z7 rfl (jJ ht2 _ _ _ e1) (cT (jJ ht2 _) g) (qW (jJ ht2 _) p5') p7 (JY (by omega)) (?_))))))⟩)));have er3:upd (upd Hj t2 (.tup [x,b])) dc (GO w dc (vO kvs pr.2 c (.ref t2))) r=some (.lst ys):=by rw [jG hJ.nr];exact jJ ht2 _ _ _ er
    refine (jA rfl (⟨.inl ⟨rfl,_,so er3⟩,jA rfl (⟨r,_,_,rfl,rfl,er3,JY (by have:=hky.1;rw [length_append] at hlen;omega),?_⟩)⟩));refine ⟨acc'++[pr.2],_,jA rfl (⟨hJ.put e1 g e2 e3 er hky hm ht2 hxJ h8 hkm p4' p6 p5' p7 (hR0 k (mem_of_getElem? hk) pr hin (rJ (i:=i) (j:=j+1) hk hah (by rw [← hacc,ht,eJ,← hacc',yR,if_neg hm];exact mem_append_right _ (mem_singleton.mpr rfl)))) (hsh k pr hps hin),fun a o n1 n2 e=>?_,?_⟩)⟩
    ·rw [jG n2,jG n1];exact jJ ht2 _ _ _ (kp a o n1 n2 e)
    ·rw [ht,eJ,← hacc',yR,if_neg hm]
  ·rintro σ Hj ⟨acc',c5,c6,rfl,hJ,kp,hacc'⟩;refine ⟨acc',_,_,jA rfl (⟨hJ,?_⟩)⟩;rw [hPP.1,take_length] at hacc';rw [hacc',take_add_one,hk];show _=qK T0 met [] (lay.take i++[k]);rw [pC,← hacc]
 ·rintro σ Hf ⟨acc,c4,c5,c6,rfl,hI,hacc⟩;rw [hks.1,take_length] at hacc;subst hacc;obtain ⟨ys,er,hky⟩:=hI.row;exact (jA rfl (q r ys Hf hI.rn hI.nr hI.keep er hky hI.came))
theorem eB:jT 4 ["first","ahead","ended","most","came","layers","ended_ones","layer"] gN:=jS
include T in
theorem HQ (F:kH K "layered" gN f fd) (xab:FnV P w K mg base jK 5 (JB "homecoming.<locals>.<lambda>" (yM kX) (yY kX) (vX kX) ["ways"] (zX))) (xaw:Def P w K mg base 2 "row_to" ["came","state"] [] (BA w)) (uy:Def P w K mg base 16 "next_layer" ["layer","ahead","came"] [] (CC w (JB "ahead_on.<locals>.<lambda>" (yM kP) (yY kP) (vX kP) ["ways","canal"] (yL (jF cP cB cU) cR cN)))):FnOk P w K mg base (vS P w) 18 f fd ["first","ahead","ended","most"] (wU w (JB "ahead_on.<locals>.<lambda>" (yM kP) (yY kP) (vX kP) ["ways","canal"] (yL (jF cP cB cU) cR cN)) (JB "homecoming.<locals>.<lambda>" (yM kX) (yY kX) (vX kX) ["ways"] zX) eTW):=by
 refine F.okX2 eB fun vs H Q E h=>?_
 obtain ⟨y,fa,fe,most,T0,M,k0,N,rfl,hA,hE,hsh,hfit,hy,h8,hk0,hN,hSt,qF,qC,qE⟩:=h;refine ⟨rfl,fun _ _ _ _ hr=>?_⟩;have hu9:=QN hr;have hu10:=QJ hr;refine ⟨_,(@jH _ _ _ _ _ (jX 4 eB.nd (BL hu9 (pv 0) ZN))
   (@jH _ _ _ _ _ (jX 5 eB.nd (qO (jB (qO (jB (pv 0) jE)) jE)))
   (@jH _ _ _ _ _ (rB DW (kI T1 (y9 xH (by rfl) T.xf PySem.boot_len (jB (pv 4) jE)) (pv 3)) (@jH _ _ _ _ _ (JV (i:=6) ["state","ended"] (qY 1 [2]) eB.nd rfl (.inl rfl) rfl (qR (jM gN)) (cps 1 [2]) (q0 (jI (kL K) (pv 5) (QQ QL jC))) (fun _ _ _ _ _=>(kF (i:=0) (show List.Nodup (["state","ended"]:List Str) from by decide +kernel) rfl (.inl rfl))) (fun _ _ _ _ _=>(JH (yH (bG (i:=1) xab (hr.mono (by decide)) zQ rfl (by first|exact .inl rfl|exact .inr rfl|exact .inr (.inl rfl)|exact .inr (.inr rfl)) (jB (pv 0) jE))))) (fun _ _ _ _ _=>(pv 0)))
   (@jH _ _ _ _ _ (kU (BK (pv 6) (fun _=>rfl)) (jO (kY (j5 j6 (jQ xaw hr rfl (jB (pv 4) (jB (jI (kL K) (pv 6) jC) jE))) (pv 5)))) kT)
   (@jH _ _ _ _ _ (jX 7 eB.nd (jQ uy hr rfl (j5 (jI (kL K) (pv 5) (QQ QL jC)) (pv 1) (pv 4))))
   (@jH _ _ _ _ _ (kU (Q3 (BK (pv 7) (fun _=>rfl))) (jO (kY (jB j6 (jB (pv 5) jE)))) kT)
   (@qG _ _ _ (JE (QR PySem.F.plainAttrs_list PySem.F.slot_list_append PySem.F.type_list_append QE (pv 5) (jB (pv 7) jE)))))))))
   (@qG _ _ _ (rC pK rfl rfl T.ve T.vf (jB j6 jE)))))),?_⟩
 try dsimp only [jV,jU]
 have dom:=fun i x (h:x∈(jP T0 k0 i).flatten)=>cX hsh hk0 i x h
 refine fun dc hdc=>(jA rfl (⟨jD,k0,qW (jJ hdc _) hy,h8,?_⟩))
 have s1:Same H (upd (upd H dc (GO w dc [])) dc (GO w dc [(k0,y,.non)])):=qH hdc (jJ hdc _);have d1:upd (upd H dc (GO w dc [])) dc (GO w dc [(k0,y,.non)]) dc=some (GO w dc [(k0,y,.non)]):=jD;refine (jA rfl (⟨small (by show 1≤1000;decide),fun l1 hl1=>⟨small (by show 1≤1000;decide),fun lr hlr=>?_⟩⟩));have u1:=jJ hl1 (.lst [y]);have u2:=jJ hlr (.lst [.ref l1]);have s2:=(s1.trans u1).trans u2;have ne1:l1≠lr:=fun z=>by rw [← z,jD] at hlr;cases hlr
 have hlr0:H lr=none:=by
  cases e:H lr with
  |none=>rfl
  |some o=>have:=(s1.trans u1) _ _ e;rw [hlr] at this;cases this
 refine ⟨E8 w H y fa fe most dc lr T0 k0 N,(yA N 0 none none (yV rfl (Nat.add_zero N) s2 (PN rfl (u2 _ _ (u1 _ _ d1)) (qW s2 hy) h8) (wY jD (u2 _ _ jD) ne1 (qW s2 hy) h8))),?_⟩;rintro m σ Hi ⟨i,c6,c7,rfl,hm,s,hC,hL⟩;obtain ⟨kvs,e1,g,e2,e3⟩:=hC.ex;have hkl:kvs.length=(jP T0 k0 i).flatten.length:=by rw [← e2,length_map]
 refine (jA rfl (⟨dc,kvs,rfl,.of e1,g,jA rfl (j9 ((jA rfl (bV (fun c=>?_) (fun c=>?_)))))⟩))
 case refine_2 =>
  have c':¬((kvs.length:Nat):Int)≤most:=of_decide_eq_false (Bool.eq_false_iff.mpr c);have:=iN (T:=T0) (k0:=k0) (i:=i) m;rw [show i+m=N by omega] at this;exact ⟨by show 1≤sizeLine;decide,qE (by omega) _ s⟩
 have c':((kvs.length:Nat):Int)≤most:=of_decide_eq_true c;refine ⟨fun σ' H'=>∃m',m'<m∧E8 w H y fa fe most dc lr T0 k0 N m' σ' H',fun _ _ h=>h,?_⟩;obtain ⟨xs,la,ys,f1,f2,f3,f4,f5,f6⟩:=hL.last;have hyl:ys.length≤1000:=by
  rw [f5.1];have:=hfit i (by omega);have h2:(j3 T0 k0 i).length≤(jP T0 k0 i).flatten.length:=(sublist_flatten_of_mem (mem_of_getElem? (rG i))).length_le;omega
 refine (jA rfl (jA rfl (⟨lr,xs,_,_,rfl,rfl,so f1,f2,la,rfl,⟨_,so f4⟩,fun bt hbt=>?_⟩)));refine zM (K:=K) (a:=la) (xs:=ys) (caps:=[some (.ref fe)]) (fun j zs Hj=>KeysAt Hj zs (((j3 T0 k0 i).take j).filter M)) hbt (so f4) ⟨rfl,fun i x e=>by cases e⟩ ?_ ?_
 ·rintro j x zs Hj hx hj hle sm hY hR;obtain ⟨kj,hkj,hgj,h8j⟩:=f5.2 j x hx;have hdj:=dom i kj (Q1 (mem_of_getElem? hkj));refine ⟨fe,rfl,jA rfl (hE _ _ kj _ _ (s.trans sm) hdj (qW sm hgj) fun He se=>(jA rfl (?_)))⟩;have ht:((j3 T0 k0 i).take (j+1))=(j3 T0 k0 i).take j++[kj]:=by rw [take_add_one,hkj];rfl
  cases hMk:M kj with
  |true =>
   refine kS (jA rfl (vV hbt sm hY hle (by omega) se ?_));show KeysAt _ _ (((j3 T0 k0 i).take (j+1)).filter M);rw [ht,filter_append,filter_cons,if_pos hMk];exact hR.snoc (k:=kj) (fun a l e=>by rw [jG fun z=>by subst z;rw [hY] at e;cases e];exact se _ _ e) (qW sm hgj) h8j
  |false =>
   refine qI (JW sm hY hle se ?_);show KeysAt _ _ (((j3 T0 k0 i).take (j+1)).filter M);rw [ht,filter_append,filter_cons,if_neg (by rw [hMk];decide)];have hR2:=hR.same se
   simpa using hR2
 rintro zs Hg sg hbtg hleg hR;rw [f5.1,take_length] at hR;have hany:=B3 (M:=M) (l:=j3 T0 k0 i);have sG:=s.trans sg;cases hf:(j3 T0 k0 i).filter M with
 |cons kf rest =>
  rw [hf] at hR hany;have hi:i=N:=iZ hN hm (.inl hany);subst hi
  match zs,hR with
  |[],hR=>exact absurd hR.1 (by simp)
  |z0::zs',hR =>
   obtain ⟨k',a1,a2,a3⟩:=hR.2 0 z0 rfl;cases a1;have hkf:kf∈j3 T0 k0 i:=(mem_filter.mp (by rw [hf];exact mem_cons_self:kf∈(j3 T0 k0 i).filter M)).1;refine (jA rfl (⟨true,.inl ⟨_,so hbtg,rfl⟩,kS ?_⟩));refine (jA rfl (jA rfl (⟨bt,_,0,z0,rfl,rfl,so hbtg,kZ (j:=0) rfl,VT dc z0 T0 _ kf k0 i (fX rfl (hC.same sg) (hfit i (by omega)) a2 a3 (Q1 hkf) hkf (fun rr xs' des H' s' hrr0 hrr hkd hpa hdl=>(jA rfl (⟨small (by show 3≤1000;decide),fun t ht=>?_⟩))))⟩)));have ut:=jJ ht (.tup [.str "found",.ref rr,.ref lr]);exact qF (by omega) hany t rr lr xs' des kf _ ((sG.trans s').trans ut) jD (ut _ _ hrr) (hkd.same ut) hpa (mem_filter.mp (by rw [hf];exact mem_cons_self:kf∈(j3 T0 k0 i).filter M)).2 hdl (hL.same ((sg.trans s').trans ut)) (none_of sG hrr0) hlr0 (none_of (sG.trans s') ht) (fun z=>by rw [z,sg _ _ f1] at hrr0;cases hrr0)
 |nil =>
  rw [hf] at hR hany;obtain rfl:zs=[]:=eq_nil_of_length_eq_zero hR.1;refine (jA rfl (⟨false,.inl ⟨_,so hbtg,rfl⟩,qI ?_⟩));refine (jA rfl (jA rfl (⟨lr,xs,_,_,rfl,rfl,so (sg _ _ f1),f2,jA rfl (jA rfl (⟨la,fa,dc,H,T0,ys,j3 T0 k0 i,(jP T0 k0 i).flatten,uP T0 k0,rfl,sG,hdc,hA,hsh,(by have:=hfit (i+1) (by omega);rw [zZ] at this;exact this),sg _ _ f4,f5.same sg,fun k hk=>Q1 hk,dom i,hC.same sg,(fun kp hkp p hp hx=>⟨hp,i,hkp,by rw [pI];exact hx⟩),fun r zs2 H' hr0 hrn kB hr2 hk2 hc2=>?_⟩))⟩)));have hL':=hL.same sg |>.keepB kB (sg _ _ e1)
  have sH':Same H H':=fun a o e=>kB a o (qV e hdc) (sG _ _ e)
  have rlr:r≠lr:=fun z=>by rw [z,sg _ _ f1] at hr0;cases hr0
  cases hnx:J3 T0 k0 i with
  |nil =>
   have hi:i=N:=iZ hN hm (.inr hnx);subst hi;rw [show qK T0 (jP T0 k0 i).flatten [] (j3 T0 k0 i)=[] from hnx] at hk2;obtain rfl:zs2=[]:=eq_nil_of_length_eq_zero hk2.1;refine (jA rfl (⟨false,.inl ⟨_,so hr2,rfl⟩,kS (jA rfl (⟨small (by show 2≤1000;decide),fun t ht=>?_⟩))⟩));have ut:=jJ ht (.tup [.str "closed",.ref lr]);exact qC (by omega) hany t lr _ (sH'.trans ut) jD (hL'.same ut) hlr0 (none_of sH' ht)
  |cons kx rest =>
   have hk2':=hk2;rw [show qK T0 (jP T0 k0 i).flatten [] (j3 T0 k0 i)=kx::rest from hnx] at hk2';have hlt:m≠0:=fun z=>by
    have hi:i=N:=by omega
    rw [← hi] at hSt
    rcases hSt with (h|h)|h
    ·rw [hany] at h;cases h
    ·rw [hnx] at h;cases h
    ·omega
   match zs2,hk2',hr2,hk2 with
   |[],hk2',_,_=>exact absurd hk2'.1 (by simp)
   |z1::zs3,_,hr2,hk2 =>
    obtain ⟨xs2,g1,g2,_⟩:=hL'.ex;rw [ZJ] at g2;refine (jA rfl (⟨true,.inl ⟨_,so hr2,rfl⟩,qI (jA rfl (⟨.inl ⟨rfl,_,so g1⟩,jA rfl (⟨lr,_,_,rfl,rfl,g1,JY ?_,?_⟩)⟩))⟩))
    ·have h2:=bF (T:=T0) (M:=M) (k0:=k0) i (fun j hj=>hN j (by omega));have:=hfit i (by omega);omega
    ·refine ⟨m - 1,by omega,i+1,_,jA rfl (⟨by omega,qH hlr0 sH',?_,?_⟩)⟩
     ·rw [zZ];exact OE hc2 g1
     ·rw [eO];exact hL'.put g1 hr2 hk2 rlr
theorem u9:jT 4 ["canal","ways","state","most","answer"] n4:=jS
include T in
theorem HV (F:kH K "look" n4 f fd) (xac:DefX P w K mg base 18 "layered" ["first","ahead","ended","most"] [] (wU w (JB "ahead_on.<locals>.<lambda>" (yM kP) (yY kP) (vX kP) ["ways","canal"] (yL (jF cP cB cU) cR cN)) (JB "homecoming.<locals>.<lambda>" (yM kX) (yY kX) (vX kX) ["ways"] zX) eTW)) (xad:Def P w K mg base 1 "ahead_on" ["canal","ways"] [] (dC tA 2 (vN kP) "ahead_on.<locals>.<lambda>" (yM kP) (yY kP) (vX kP) ["ways","canal"] [1,0])) (uz:Def P w K mg base 1 "homecoming" ["ways"] [] (dC tH 1 (vN kX) "homecoming.<locals>.<lambda>" (yM kX) (yY kX) (vX kX) ["ways"] [0])):FnOk P w K mg base (vS P w) 19 f fd ["canal","ways","state","most"] (CF (jF cP cB cU) cR cN tA tH (vN kP) (vN kX) eTW):=by
 refine F.okX2 u9 fun vs H Q E h=>?_
 obtain ⟨x,wl,st,us,ys,d,ms,pl,D,R,L,N,NN,most,rfl,hG,hd0,hT,hF,qF,qC,qE⟩:=h;refine ⟨rfl,fun _ _ _ _ hr=>?_⟩;refine ⟨_,(@jH _ _ _ _ _ (jX 4 u9.nd (rV xac BT hr rfl (yD (pv 2) (jQ xad hr rfl (jB (pv 0) (jB (pv 1) jE))) (jQ uz hr rfl (jB (pv 1) jE)) (pv 3))))
   (@jH _ _ _ _ _ (kU (kI qQ (jI (jR K) (pv 4) jC) j6) (jO (kY (jB j6 (jB (jI (jR K) (pv 4) jC) jE)))) kT)
   (jO (kY (j5 j6 (jI (jR K) (pv 4) jC) (jI (jR K) (pv 4) jC)))))),?_⟩
 try dsimp only [jV,jU]
 refine (jA rfl (jA rfl (⟨_,rfl,rfl,hT.a,fun fa cA cdA H1 hfa0 hLA hnA hCA hTA hcA kA=>?_⟩)));obtain ⟨za,hza⟩:=wZ hT.a;have sT1:=rF hza kA;have hTh1:=iE hT.ne.symm hza kA hT.h;obtain ⟨zh,hzh⟩:=wZ hTh1;refine ⟨_,rfl,rfl,hTh1,fun fe cE cdE H2 hfe0 hLE hnE hCE hTE hcE kE=>?_⟩;have sT2:=rF hzh kE;have s12:=x8 sT1 sT2;have hT2:Tabs H2 tA tH (vN kP) (vN kX):=⟨hT.ne,iE hT.ne hzh kE hTA,hTE⟩;have hG0:=hG.noT;have hAh:=TF hG0 s12 (fun c hc=>O0 (hcA c hc)) (pJ sT2 (N1 hLA)) hnA (o5 sT2 (MF hCA));have hEn:=TB hG0 s12 (fun c hc=>none_of sT1 (hcE c hc)) hLE hnE hCE;refine (jA rfl (⟨_,fa,fe,most,kM R L N ys,vQ ys,jZ (d,ms,pl),NN,rfl,hAh,hEn,tM hG.dr,hF.fit,fI (s:=(d,ms,pl)) (hG0.sts.same s12),lU _,(jA rfl (⟨hd0,hG.fl,hG.ml⟩)),hF.low,hF.stop,fun hle hany t rr lr xs des kf H' s' ht hrr hks hp hmk hdl hLay hr0 hl0 _ hne=>?_,fun hle hany t lr H' s' ht hLay hl0 _=>?_,fun hlt H' s'=>qE hlt H' (s12.trans s') (hT2.same s')⟩))
 ·refine (jA rfl (jY (SqT.of ht) rfl (⟨rfl,jA rfl (qX (fun e=>absurd (V.str.inj e) (by decide +kernel)) (jA rfl (jY (SqT.of ht) rfl ((jA rfl (jY (SqT.of ht) rfl (⟨zz3,fun t2 ht20=>?_⟩)))))))⟩)));have u:=jJ ht20 (.tup [V.str "home",V.ref rr,V.ref lr]);exact qF hle hany t2 rr lr xs des kf _ ((s12.trans s').trans u) ((hT2.same s').same u) jD (u _ _ hrr) (hks.same u) hp hmk hdl (hLay.same u) (none_of s12 hr0) (none_of s12 hl0) hne
 ·refine (jA rfl (jY (SqT.of ht) rfl (⟨rfl,jA rfl (vK rfl (jA rfl (jY (SqT.of ht) rfl (⟨zz2,fun t2 ht20=>?_⟩))))⟩)));have u:=jJ ht20 (.tup [V.str "doomed",V.ref lr]);exact qC hle hany t2 lr _ ((s12.trans s').trans u) ((hT2.same s').same u) jD (hLay.same u) (none_of s12 hl0)
def xW (K:W.Frag) (cs:Kd→Addr) (cR cN:Addr):Sp:=fun vs H Q _=>∃(s:Addr) (ns:List Int),vs=[.ref s]∧SqL K H s (ns.map V.int)∧ns.length≤63∧∀(x:Addr) (R:List RC) (L:List LC) (N:List (List (Int×Int))) (H':Hp),Drawn R L N→2≤R.length→1≤L.length→L.length≤2→Same H H'→H x=none→CnAt cs cR cN [] H' x R L N→Q (.ref x) H'
def CB (K:W.Frag) (cs:Kd→Addr) (cR cN:Addr):Sp:=fun vs H Q _=>∃(s x:Addr) (ns:List Int) (k:Nat) (D:List Addr) (R:List RC) (L:List LC) (N:List (List (Int×Int))),vs=[.ref s,.int (k:Int),.ref x]∧SqL K H s (ns.map V.int)∧ns.length≤63∧k<20∧CnAt cs cR cN D H x R L N∧Drawn R L N∧1≤L.length∧∀(t:Addr) (y:j4) (H':Hp),WyOk L y→Same H H'→H t=none→WyAt H' (.ref t) y→Q (.ref t) H'
def xQ (K:W.Frag) (cs:Kd→Addr) (cR cN:Addr):Sp:=fun vs H Q _=>∃(s x wl:Addr) (ns:List Int) (us:List V) (ys:List j4) (D:List Addr) (R:List RC) (L:List LC) (N:List (List (Int×Int))),vs=[.ref s,.ref x,.ref wl]∧SqL K H s (ns.map V.int)∧ns.length≤63∧CnAt cs cR cN D H x R L N∧Drawn R L N∧H wl=some (.lst us)∧AllAt (WyAt H) us ys∧ys.length≤10∧(∀y∈ys,WyOk L y)∧
 ∀(st:Addr) (d:Int) (ms:List Int) (pl:List Nat) (H':Hp),Same H H'→StAt H' st d ms pl→Fleet L ys pl→0≤d→ms.length=R.length+2*L.length+2→Q (.ref st) H'
def yI (L:List LC) (a:Int) (b:Bool) (i:Nat):List (Nat×Bool):=((List.range i).filter fun k=>decide ((vJ L (k,b)).1=a)).map fun k=>(k,b)
theorem CM {L:List LC} {a:Int} {b:Bool} {i:Nat} (h:(vJ L (i,b)).1=a):yI L a b (i+1)=yI L a b i++[(i,b)]:=by
 unfold yI;rw [range_succ,filter_append,filter_cons,if_pos (decide_eq_true h),map_append];rfl
theorem DQ {L:List LC} {a:Int} {b:Bool} {i:Nat} (h:¬(vJ L (i,b)).1=a):yI L a b (i+1)=yI L a b i:=by
 unfold yI;rw [range_succ,filter_append,filter_cons,if_neg (by rw [decide_eq_false h];decide),map_append];exact append_nil _
theorem sdT_mem {L:List LC} {a:Int} {b:Bool} {i:Nat} {p:Nat×Bool}:p∈yI L a b i↔p.1<i∧p.2=b∧(vJ L p).1=a:=by
 unfold yI;rw [mem_map];constructor
 ·rintro ⟨k,hk,rfl⟩;exact ⟨mem_range.mp (mem_filter.mp hk).1,rfl,of_decide_eq_true (mem_filter.mp hk).2⟩
 ·rintro ⟨h1,h2,h3⟩;obtain ⟨k,c⟩:=p;have h2:c=b:=h2;subst h2;exact ⟨k,mem_filter.mpr ⟨mem_range.mpr h1,decide_eq_true h3⟩,rfl⟩
theorem DR {L:List LC} {a:Int} {b:Bool} {i:Nat}:(yI L a b i).length≤i:=by
 unfold yI;rw [length_map];have:=length_filter_le (fun k=>decide ((vJ L (k,b)).1=a)) (List.range i)
 rwa [length_range] at this
theorem PZ {L:List LC} {a:Int} {p:Nat×Bool} (h:p∈yI L a true L.length++yI L a false L.length):p.1<L.length∧(vJ L p).1=a:=by
 rcases mem_append.mp h with h|h
 ·exact ⟨(sdT_mem.mp h).1,(sdT_mem.mp h).2.2⟩
 ·exact ⟨(sdT_mem.mp h).1,(sdT_mem.mp h).2.2⟩
theorem PY {L:List LC} {a:Int} (h:EndAt L a):0<(yI L a true L.length++yI L a false L.length).length:=by
 obtain ⟨p,h1,h2⟩:=h;obtain ⟨k,b⟩:=p;refine length_pos_of_mem (a:=(k,b)) ?_;cases b with
 |true=>exact mem_append_left _ (sdT_mem.mpr ⟨h1,rfl,h2⟩)
 |false=>exact mem_append_right _ (sdT_mem.mpr ⟨h1,rfl,h2⟩)
theorem AV:∀(l:List Int),(∀x∈l,0≤x)→(l.sum=0↔∀x∈l,x=0)
 |[],_=>⟨(fun _ x hx=>by cases hx),fun _=>rfl⟩
 |a::l,h=>by
  have ha:=h a mem_cons_self;have hl:∀x∈l,0≤x:=fun x hx=>h x (mem_cons_of_mem _ hx)
  have ih:=AV l hl;have hs:0≤l.sum:=by
   clear ih ha h
   induction l with
   |nil=>exact Int.le_refl _
   |cons b l ih2 =>
    have h1:=hl b mem_cons_self;have h2:=ih2 fun x hx=>hl x (mem_cons_of_mem _ hx)
    rw [sum_cons];omega
  rw [sum_cons];constructor
  ·intro e x hx
   rcases mem_cons.mp hx with rfl|hx
   ·omega
   ·exact ih.mp (by omega) x hx
  ·intro e;have e1:=e a mem_cons_self;have e2:=ih.mpr fun x hx=>e x (mem_cons_of_mem _ hx)
   omega
theorem N0 {L:List LC} {ys:List j4} {pl:List Nat} (hf:Fleet L ys pl):ZT ys pl=0↔∀i,i<ys.length→pl.getD i 0=(ys.getD i (0,[])).2.length:=by
 have hle:∀i,i<ys.length→pl.getD i 0≤(ys.getD i (0,[])).2.length:=fun i hi=>by
  have hp:i<pl.length:=by rw [hf.len];exact hi
  rw [getD_eq_getElem?_getD,getD_eq_getElem?_getD,List.getElem?_eq_getElem hi,List.getElem?_eq_getElem hp];exact hf.le i _ _ (List.getElem?_eq_getElem hi) (List.getElem?_eq_getElem hp)
 unfold ZT bO;rw [AV _ fun x hx=>by
  obtain ⟨i,hi,rfl⟩:=mem_map.mp hx;have:=hle i (mem_range.mp hi);omega]
 constructor
 ·intro h i hi;have:=h _ (mem_map.mpr ⟨i,mem_range.mpr hi,rfl⟩);omega
 ·intro h x hx;obtain ⟨i,hi,rfl⟩:=mem_map.mp hx;have:=h i (mem_range.mp hi);omega
def xU:Sp:=fun vs H Q _=>∃(wl st:Addr) (us:List V) (ys:List j4) (d:Int) (ms:List Int) (pl:List Nat) (L:List LC),vs=[.ref wl,.ref st]∧H wl=some (.lst us)∧AllAt (WyAt H) us ys∧StAt H st d ms pl∧Fleet L ys pl∧Q (.bl (decide (ZT ys pl=0))) H
def DP (spA:Addr→Sp):Sp:=fun vs H Q _=>∃(y:V) (fa rr:Addr) (T:Gr) (k0 kf:GK) (xs:List V) (des:List GK),vs=[y,.ref fa,.ref rr]∧bX spA H fa T∧Z2 T∧(∀k,(T.1 k).length≤900)∧(∀k de,T.2 k→((T.1 k).filter fun z=>decide (z.1=de)).length≤1)∧(GV H k0).1 y∧T.2 k0∧H rr=some (.lst xs)∧KeysAt H xs des∧JO T k0 des kf∧
 ∀v H',Same H H'→(GV H' kf).1 v→T.2 kf→Q v H'
theorem M9 (nb nl:Nat):(yX nb nl).Nodup:=by
 have hp:(passes nb).Nodup:=by
  unfold passes;rw [List.Nodup,pairwise_map];exact (nodup_range (n:=nb)).imp fun h e=>h (by injection e)
 have hl:(lets nl).Nodup:=by
  unfold lets;rw [List.Nodup,pairwise_map];exact (nodup_range (n:=nl)).imp fun h e=>h (by injection e)
 unfold yX;rw [nodup_append,nodup_append];refine ⟨⟨hp,hl,fun a ha b hb e=>?_⟩,by simp,fun a ha b hb e=>?_⟩
 ·obtain ⟨i,_,rfl⟩:=mem_map.mp ha;obtain ⟨j,_,rfl⟩:=mem_map.mp hb;cases e
 ·cases mem_singleton.mp hb;subst e
  rcases mem_append.mp ha with ha|ha
  ·obtain ⟨i,_,e⟩:=mem_map.mp ha;cases e
  ·obtain ⟨i,_,e⟩:=mem_map.mp ha;cases e
theorem MT {ds:List Deed} (hn:ds.Nodup) (g:Deed→GK) (de:GK):((ds.map fun d=>(yS d,g d)).filter fun z=>decide (z.1=de)).length≤1:=by
 induction ds with
 |nil=>exact Nat.zero_le _
 |cons d ds ih =>
  rw [nodup_cons] at hn;rw [map_cons,filter_cons]
  by_cases h:yS d=de
  ·rw [if_pos (decide_eq_true h)];have:(ds.map fun d=>(yS d,g d)).filter (fun z=>decide (z.1=de))=[]:=filter_eq_nil_iff.mpr fun z hz=>by
    obtain ⟨d2,h2,rfl⟩:=mem_map.mp hz;rw [decide_eq_true_eq];exact fun e=>hn.1 (by rw [DD (h.trans e.symm)];exact h2)
   rw [this];exact Nat.le_refl _
  ·rw [if_neg (by rw [decide_eq_true_eq];exact h)];exact ih hn.2
theorem RW {R:List RC} {L:List LC} {N:List (List (Int×Int))} {ys:List j4} (k de:GK):(((kM R L N ys).1 k).filter fun z=>decide (z.1=de)).length≤1:=MT ((M9 _ _).sublist filter_sublist) _ _
def CJ:Sp:=fun vs H Q _=>∃(f d:Addr) (LL:List (List GK)),vs=[.ref f,.ref d]∧LayersAt H f LL∧LayersAt H d LL∧LL.length≤1000∧(∀lay∈LL,∀k∈lay,∃s,k=jZ s)∧∀H',Same H H'→Q (.bl true) H'
structure MetAt (w:World) (H:Hp) (d:Addr) (met:List GK):Prop where
 ex:∃kvs,H d=some (GO w d kvs)∧GOk H kvs∧kvs.map (·.1)=met
theorem MetAt.same {w:World} {H H':Hp} {d:Addr} {met:List GK} (s:Same H H') (h:MetAt w H d met):MetAt w H' d met:=by
 obtain ⟨kvs,e1,g,e2⟩:=h.ex;exact ⟨kvs,s _ _ e1,cT s g,e2⟩
theorem RO {w:World} {H:Hp} {d:Addr} {k:GK} {y v:V} (e:H d=some (GO w d [(k,y,v)])) (hy:(GV H k).1 y) (h8:gd k≤8):MetAt w H d [k]:=by
 refine ⟨_,e,⟨fun p hp=>?_,fun p hp=>?_,by simp⟩,rfl⟩
 ·cases mem_singleton.mp hp;exact hy
 ·cases mem_singleton.mp hp;exact h8
theorem MetAt.put {w:World} {H:Hp} {d:Addr} {met:List GK} {kvs:List qS} {k:GK} {y v:V} (e1:H d=some (GO w d kvs)) (g:GOk H kvs) (e2:kvs.map (·.1)=met) (hk:k∉met) (hy:(GV H k).1 y) (h8:gd k≤8):MetAt w (upd H d (GO w d (vO kvs k y v))) d (met++[k]):=by
 have tk:∀a l,H a=some (.tup l)→upd H d (GO w d (vO kvs k y v)) a=some (.tup l):=fun a l e=>by rw [jG (fun z=>by rw [z,e1] at e;cases e)];exact e
 refine ⟨_,jD,(g.set hy h8).keep tk,?_⟩;rw [BG (by rw [e2];exact hk),map_append,e2];rfl
theorem MetAt.keep {w:World} {H:Hp} {d lr:Addr} {met:List GK} {xs:List V} {o:HO} (h:MetAt w H d met) (e:H lr=some (.lst xs)):MetAt w (upd H lr o) d met:=by
 obtain ⟨kvs,e1,g,e2⟩:=h.ex;have tk:∀a l,H a=some (.tup l)→upd H lr o a=some (.tup l):=fun a l e'=>by rw [jG (fun z=>by rw [z,e] at e';cases e')];exact e'
 exact ⟨kvs,by rw [jG (fun z=>by rw [z,e] at e1;cases e1)];exact e1,g.keep tk,e2⟩
structure NextM (w:World) (H Hi:Hp) (dc r:Addr) (met acc:List GK):Prop where
 keep:lW dc H Hi
 rn:H r=none
 nr:r≠dc
 row:∃ys,Hi r=some (.lst ys)∧KeysAt Hi ys acc
 came:MetAt w Hi dc (met++acc)
theorem NextM.put {w:World} {H Hj:Hp} {dc r:Addr} {met acc:List GK} {kvs:List qS} {ys:List V} {k:GK} {c:V} (h:NextM w H Hj dc r met acc) (e1:Hj dc=some (GO w dc kvs)) (g:GOk Hj kvs) (e2:kvs.map (·.1)=met++acc) (er:Hj r=some (.lst ys)) (hks:KeysAt Hj ys acc) (hn:k∉met++acc) (hc:(GV Hj k).1 c) (hc8:gd k≤8) :
  NextM w H (upd (upd Hj dc (GO w dc (vO kvs k c (.bl true)))) r (.lst (ys++[c]))) dc r met (acc++[k]):=by
 have hm:=MetAt.put (v:=.bl true) e1 g e2 hn hc hc8;have er2:upd Hj dc (GO w dc (vO kvs k c (.bl true))) r=some (.lst ys):=by rw [jG h.nr];exact er
 have tk:∀a l,Hj a=some (.tup l)→upd (upd Hj dc (GO w dc (vO kvs k c (.bl true)))) r (.lst (ys++[c])) a=some (.tup l):=fun a l e=>by
  rw [jG (fun z=>by rw [z,er] at e;cases e),jG (fun z=>by rw [z,e1] at e;cases e)];exact e
 refine ⟨fun a o n e=>?_,h.rn,h.nr,⟨_,jD,hks.snoc tk hc hc8⟩,?_⟩
 ·rw [jG (qV e h.rn),jG n];exact h.keep a o n e
 ·have:=hm.keep (o:=.lst (ys++[c])) er2
  rwa [append_assoc] at this
def sO (w:World) (spA spE:Addr→Sp):Sp:=fun vs H Q _=>∃(y:V) (fa fe:Addr) (most:Int) (T:Gr) (M:GK→Bool) (k0:GK) (N:Nat),vs=[y,.ref fa,.ref fe,.int most]∧bX spA H fa T∧fS spE H fe T M∧Z2 T∧FirstM T M k0 most N∧1≤most∧most≤16∧(GV H k0).1 y∧gd k0≤8∧T.2 k0∧
 ((((jP T k0 N).flatten.length:Nat):Int)≤most→∀(lr:Addr) (H':Hp),Same H H'→LayersAt H' lr (jP T k0 N)→Q (.ref lr) H')∧(most<(((jP T k0 N).flatten.length:Nat):Int)→∀H',Same H H'→Q .non H')
def EU (w:World) (H:Hp) (y:V) (fa fe:Addr) (most:Int) (lr dm:Addr) (T:Gr) (k0:GK) (N m:Nat) (σ:St) (Hi:Hp):Prop:=∃i c6 c7 c8,σ=[some y,some (.ref fa),some (.ref fe),some (.int most),some (.ref lr),some (.ref dm),c6,c7,c8]∧m+i=N∧Same H Hi∧(((jP T k0 i).flatten.length:Nat):Int)≤most∧MetAt w Hi dm (jP T k0 i).flatten∧LayersAt Hi lr (jP T k0 i)
inductive ToldR (H:Hp) (T:Gr) (M:GK→Bool) (k0:GK) (N:Nat) (t:Addr):V→Prop where
 |wide (a:Addr):H t=some (.tup [.str "wide",.ref a])→H a=some (.lst [])→ToldR H T M k0 N t .non
 |doomed (ll lr:Addr):(j3 T k0 N).any M=false→LayersAt H ll (jP T k0 N)→H t=some (.tup [.str "doomed",.ref lr])→LayersAt H lr (jP T k0 N)→ToldR H T M k0 N t (.ref ll)
 |home (ll rr lr:Addr) (xs:List V) (des:List GK) (kf:GK):(j3 T k0 N).any M=true→LayersAt H ll (jP T k0 N)→H t=some (.tup [.str "home",.ref rr,.ref lr])→LayersAt H lr (jP T k0 N)→H rr=some (.lst xs)→KeysAt H xs des→JO T k0 des kf→M kf=true→des.length=N→ToldR H T M k0 N t (.ref ll)
theorem ToldR.same {H H':Hp} {T:Gr} {M:GK→Bool} {k0:GK} {N:Nat} {t:Addr} {v:V} (s:Same H H') (h:ToldR H T M k0 N t v):ToldR H' T M k0 N t v:=by
 cases h with
 |wide a h1 h2=>exact .wide a (s _ _ h1) (s _ _ h2)
 |doomed ll lr h0 h1 h2 h3=>exact .doomed ll lr h0 (h1.same s) (s _ _ h2) (h3.same s)
 |home ll rr lr xs des kf h0 h1 h2 h3 h4 h5 h6 h7 h8=>exact .home ll rr lr xs des kf h0 (h1.same s) (s _ _ h2) (h3.same s) (s _ _ h4) (h5.same s) h6 h7 h8
def pL (spA spE:Addr→Sp):Sp:=fun vs H Q _=>∃(t:Addr) (y:V) (fa fe:Addr) (lv:V) (T:Gr) (M:GK→Bool) (k0:GK) (N:Nat),vs=[.ref t,y,.ref fa,.ref fe,lv]∧bX spA H fa T∧fS spE H fe T M∧Z2 T∧(∀k,(T.1 k).length≤900)∧(∀k de,T.2 k→((T.1 k).filter fun z=>decide (z.1=de)).length≤1)∧(GV H k0).1 y∧T.2 k0∧(jP T k0 N).flatten.length≤1000∧N+1≤1000∧(∀k,T.2 k→∃s,k=jZ s)∧ToldR H T M k0 N t lv∧∀H',Same H H'→Q (.bl true) H'
theorem OX {M:GK→Bool} {l:List GK} (h:l.any M=false):l.filter M=[]:=filter_eq_nil_iff.mpr fun k hk hm=>by
 have:=any_eq_true.mpr ⟨k,hk,hm⟩;rw [h] at this;cases this
theorem ON {M:GK→Bool} {l:List GK} (h:l.any M=true):(l.filter M).length≠0:=fun z=>by
 obtain ⟨k,hk,hm⟩:=any_eq_true.mp h;have:=length_pos_of_mem (mem_filter.mpr ⟨hk,hm⟩);omega
theorem tY {α:Type} {P:α→Prop} {a b:α} (h1:P a) (h2:P b):∀q∈[a,b],P q:=fun q hq=>by
 rcases mem_cons.mp hq with rfl|hq
 ·exact h1
 ·cases mem_singleton.mp hq;exact h2
def KeepT (tL:Addr) (H H':Hp):Prop:=∀a o,a≠tL→H a=some o→H' a=some o
theorem eP {H HC:Hp} {cs:List Addr} (hn:∀c∈cs,H c=none):Same H (vB H HC cs):=fun b v e=>by rw [vE fun z=>by rw [hn b z] at e;cases e];exact e
theorem pV {H H' HC:Hp} {cs:List Addr} (hn:∀c∈cs,H c=none) (s:Same (vB H HC cs) H'):Same H (kW H' cs):=fun b v e=>by
 rw [vD fun z=>by rw [hn b z] at e;cases e];exact s _ _ (eP hn _ _ e)
theorem i7 {H:Hp} {P f c:Addr} {o2 o3:HO} {tp:Array Value} (n1:f≠P) (n2:c≠P):upd (upd (upd H P (.tbl tp)) f o2) c o3 P=some (.tbl tp):=by rw [jG n2.symm,jG n1.symm,jD]
theorem eV {H:Hp} {P f c:Addr} {o1 o2 o3:HO} (h1:H f=none) (h2:H c=none):KeepT P H (upd (upd (upd H P o1) f o2) c o3):=fun a o n e=>by
 rw [jG (qV e h2),jG (qV e h1),jG n];exact e
theorem M0 {H':Hp} {cs:List Addr} {lr:Addr} {L:List (List GK)} (out:∀b xs,H' b=some (.lst xs)→b∉cs) (outT:∀b xs,H' b=some (.tup xs)→b∉cs) (h:LayersAt H' lr L):LayersAt (kW H' cs) lr L:=by
 obtain ⟨xs,e1,e2,e3⟩:=h.ex;refine ⟨xs,by rw [vD (out _ _ e1)];exact e1,e2,fun j x hx=>?_⟩;obtain ⟨a,ys,lay,f1,f2,f3,f4,f5⟩:=e3 j x hx;exact ⟨a,ys,lay,f1,f2,f3,by rw [vD (out _ _ f4)];exact f4,f5.keep fun a l e=>by rw [vD (outT _ _ e)];exact e⟩
theorem xF {H H':Hp} {f:Addr} {qual:Str} {params:Arguments} {body:List Stmt} {scope:Scope} {cl:List (Str×Addr)} {fvs:List V} {cdv:Value} {fd:FuncData} (s:Same H H') (C:CloAt H f qual params body scope cl fvs cdv fd):CloAt H' f qual params body scope cl fvs cdv fd:=by
 obtain ⟨⟨fo,name,doc,pm,an,ct,h1,h2⟩,⟨c,oc,vs,t,g1,g2,g3⟩,once,len,cell⟩:=C;refine ⟨⟨fo,name,doc,pm,an,ct,s _ _ h1,h2⟩,⟨c,oc,vs,t,g1,s _ _ g2,g3⟩,once,len,fun i x c v k1 k2=>?_⟩;obtain ⟨o,u,e1,e2⟩:=cell i x c v k1 k2;exact ⟨o,u,s _ _ e1,e2⟩
def FnM (st:Stmt) (q:Str) (cl:List (Str×Addr)) (H:Hp) (f:Addr):Prop:=∃(fo:Obj) (name:Str) (doc pm:Value) (an:Option Addr) (ct:Value) (c':Addr) (oc:Obj),H f=some (FnO f fo)∧fo.data=.func (W.fnX name q (kO st) (kC st) (jM st) cl .none .none doc pm an (.ref c') ct)∧H c'=some (FnO c' oc)∧∃vs t,oc.data=.fields vs∧vs[1]?=some (.str q t)
section
variable {st:Stmt} {q:Str} {cl:List (Str×Addr)} {H H':Hp} {f:Addr}
theorem FnM.same (s:Same H H') (h:FnM st q cl H f):FnM st q cl H' f:=by
 obtain ⟨fo,name,doc,pm,an,ct,c',oc,e1,e2,e3,e4⟩:=h;exact ⟨fo,name,doc,pm,an,ct,c',oc,s _ _ e1,e2,s _ _ e3,e4⟩
theorem FnM.noT (h:FnM st q cl H f):FnM st q cl (noT H) f:=by
 obtain ⟨fo,name,doc,pm,an,ct,c',oc,e1,e2,e3,e4⟩:=h;exact ⟨fo,name,doc,pm,an,ct,c',oc,vL e1 (fun _ z=>nomatch z),e2,vL e3 (fun _ z=>nomatch z),e4⟩
theorem FnM.clo {HC:Hp} {cs:List Addr} {fvs:List V} (h:FnM st q cl H f) (hn:∀c∈cs,H c=none) (hcl:∀c∈cl.map (·.2),c∈cs) (once:(cl.map (·.2)).Nodup) (len:fvs.length=cl.length) (hce:∀(i:Nat) (x:Str) (c:Addr) (v:V),cl[i]?=some (x,c)→fvs[i]?=some v→∃o u,HC c=some (FnO c o)∧o.data=.cell (some u)∧RelV v u):∃cdv fd,CloAt (vB H HC cs) f q (kO st) (kC st) (jM st) cl fvs cdv fd:=by
 obtain ⟨fo,name,doc,pm,an,ct,c',oc,f1,f2,f3,vs,t,f4,f5⟩:=h;have s:=eP (HC:=HC) hn;refine ⟨.ref c',_,⟨fo,name,doc,pm,an,ct,s _ _ f1,f2,rfl⟩,⟨c',oc,vs,t,rfl,s _ _ f3,f4,f5⟩,once,len,fun i y c v k1 k2=>?_⟩;obtain ⟨o,u,e1,e2⟩:=hce i y c v k1 k2;exact ⟨o,u,by rw [fD (hcl c (mem_map.mpr ⟨_,mem_of_getElem? k1,rfl⟩))];exact e1,e2⟩
end
structure LF (ck:Kd→Addr) (cR cN:Addr) (sA sE:Stmt) (c1 c2:Addr) (H:Hp) (fa fe x wl st:Addr) (us:List V) (R:List RC) (L:List LC) (N:List (List (Int×Int))) (ys:List j4) (d:Int) (ms:List Int) (pl:List Nat):Prop where
 g:Stage ck cR cN [] H x wl st us R L N ys d ms pl
 d0:0≤d
 five:∀k,((kM R L N ys).1 k).length≤5
 a:FnM sA "law.<locals>._law_ahead" [("_law_ways",c2),("_law_canal_here",c1)] H fa
 e:FnM sE "law.<locals>._law_ended" [("_law_ways",c2)] H fe
section
variable {ck:Kd→Addr} {cR cN:Addr} {sA sE:Stmt} {c1 c2:Addr} {H H':Hp} {fa fe x wl st:Addr} {us:List V} {R:List RC} {L:List LC} {N:List (List (Int×Int))} {ys:List j4} {d:Int} {ms:List Int} {pl:List Nat}
theorem LF.same (h:LF ck cR cN sA sE c1 c2 H fa fe x wl st us R L N ys d ms pl) (s:Same H H'):LF ck cR cN sA sE c1 c2 H' fa fe x wl st us R L N ys d ms pl:=⟨h.g.same s,h.d0,h.five,h.a.same s,h.e.same s⟩
theorem LF.noT (h:LF ck cR cN sA sE c1 c2 H fa fe x wl st us R L N ys d ms pl):LF ck cR cN sA sE c1 c2 (noT H) fa fe x wl st us R L N ys d ms pl:=⟨h.g.noT,h.d0,h.five,h.a.noT,h.e.noT⟩
abbrev tV (ck:Kd→Addr) (cR cN:Addr) (sA:Stmt):Addr→Sp:=yC "law.<locals>._law_ahead" (kO sA) (kC sA) (jM sA) ["_law_one"] ["_law_ways","_law_canal_here"] (yL ck cR cN)
abbrev tU (sE:Stmt):Addr→Sp:=yC "law.<locals>._law_ended" (kO sE) (kC sE) (jM sE) ["_law_one"] ["_law_ways"] zX
theorem LF.clos {HC:Hp} {σ:St} (h:LF ck cR cN sA sE c1 c2 H fa fe x wl st us R L N ys d ms pl) (hne:c1≠c2) (e1:σ[1]?=some (some (.ref x))) (e2:σ[2]?=some (some (.ref wl)))
    (hHC:∀q∈[(1,c1),(2,c2)],∃v o u,σ[q.1]?=some (some v)∧HC q.2=some (FnO q.2 o)∧o.data=.cell (some u)∧RelV v u) (hn:∀q∈[(1,c1),(2,c2)],H q.2=none) :
    bX (tV ck cR cN sA) (vB H HC ([(1,c1),(2,c2)].map (·.2))) fa (kM R L N ys)∧fS (tU sE) (vB H HC ([(1,c1),(2,c2)].map (·.2))) fe (kM R L N ys) (vQ ys):=by
  have hn':∀c∈([(1,c1),(2,c2)]:List (Nat×Addr)).map (·.2),H c=none:=fun c hc=>by
    obtain ⟨q,hq,rfl⟩:=mem_map.mp hc;exact hn q hq
  obtain ⟨vA,oA,uA,x1,x2,x3,x4⟩:=hHC (1,c1) (by simp);obtain ⟨vW,oW,uW,w1,w2,w3,w4⟩:=hHC (2,c2) (by simp);rw [e1] at x1;cases x1
  rw [e2] at w1;cases w1
  have s:=eP (HC:=HC) hn';obtain ⟨cdA,fdA,CA⟩:=h.a.clo (HC:=HC) (fvs:=[.ref wl,.ref x]) hn' (by simp) (by simp [hne.symm]) rfl fun i y c v k1 k2=>by
    match i,k1,k2 with
    |0,k1,k2=>cases k1;cases k2;exact ⟨oW,uW,w2,w3,w4⟩
    |1,k1,k2=>cases k1;cases k2;exact ⟨oA,uA,x2,x3,x4⟩
    |i+2,k1,_=>cases k1
  obtain ⟨cdE,fdE,CE⟩:=h.e.clo (HC:=HC) (fvs:=[.ref wl]) hn' (by simp) (by simp) rfl fun i y c v k1 k2=>by
    match i,k1,k2 with
    |0,k1,k2=>cases k1;cases k2;exact ⟨oW,uW,w2,w3,w4⟩
    |i+1,k1,_=>cases k1
  constructor
  · rintro H1 y k Q E s1 ⟨t,rfl,h1,h2,h3⟩ hy q
    obtain ⟨a,rfl,hst⟩:=dM hy;refine ⟨rfl,_,_,cdA,fdA,xF s1 CA,rfl,x,wl,a,H,us,ys,t.1,t.2.1,t.2.2,[],R,L,N,rfl,rfl,s.trans s1,(fun c hc=>hn' c (by simp at hc;simp;rcases hc with rfl|rfl<;>simp)),h.g.cn,h.g.dr,h.g.wls,h.g.wys,hst,h2,h3,h1,fun r zs H' s' hr0 hr hP=>q r zs H' s' hr0 hr ?_⟩;rw [sY];exact hP
  · rintro H1 y k Q E s1 ⟨t,rfl,h1,h2,h3⟩ hy q
    obtain ⟨a,rfl,hst⟩:=dM hy;refine ⟨rfl,_,_,cdE,fdE,xF s1 CE,rfl,wl,a,H,us,ys,t.1,t.2.1,t.2.2,L,rfl,rfl,s.trans s1,(fun c hc=>hn' c (by simp at hc;simp [hc])),h.g.wls,h.g.wys,hst,h2,fun H' s'=>?_⟩;have:=q H' s';rw [EB] at this;exact this
theorem sW {HC:Hp} {cs:List (Nat×Addr)} {σ:St} (hHC:∀q∈cs,∃v o u,σ[q.1]?=some (some v)∧HC q.2=some (FnO q.2 o)∧o.data=.cell (some u)∧RelV v u) (s':Same (vB H HC (cs.map (·.2))) H'):(∀q∈cs,H' q.2=HC q.2)∧(∀b o,H' b=some o→(∀ob,o≠FnO b ob)→b∉cs.map (·.2)):=by
 have key:∀q∈cs,H' q.2=HC q.2:=fun q hq=>by
  obtain ⟨v,o,u,_,e,_⟩:=hHC q hq;rw [s' q.2 _ (by rw [fD (mem_map.mpr ⟨q,hq,rfl⟩)];exact e),e]
 refine ⟨key,fun b o e hno hb=>?_⟩;obtain ⟨q,hq,rfl⟩:=mem_map.mp hb;obtain ⟨v,ob,u,_,e2,_⟩:=hHC q hq;rw [key q hq,e2] at e;cases e;exact hno _ rfl
inductive BookR (H:Hp) (T:Gr) (k0:GK) (N:Nat) (most:Int):V→Prop where
 |wide:most<(((jP T k0 N).flatten.length:Nat):Int)→BookR H T k0 N most .non
 |full (ll:Addr):(((jP T k0 N).flatten.length:Nat):Int)≤most→LayersAt H ll (jP T k0 N)→BookR H T k0 N most (.ref ll)
theorem LayersAt.keepA {H H':Hp} {lr:Addr} {L:List (List GK)} (k1:∀b xs,H b=some (.lst xs)→H' b=some (.lst xs)) (k2:∀b xs,H b=some (.tup xs)→H' b=some (.tup xs)) (h:LayersAt H lr L):LayersAt H' lr L:=by
 obtain ⟨xs,e1,e2,e3⟩:=h.ex;refine ⟨xs,k1 _ _ e1,e2,fun j x hx=>?_⟩;obtain ⟨a,ys,lay,f1,f2,f3,f4,f5⟩:=e3 j x hx;exact ⟨a,ys,lay,f1,f2,f3,k1 _ _ f4,f5.keep k2⟩
theorem LayersAt.noT {lr:Addr} {L:List (List GK)} (h:LayersAt H lr L):LayersAt (noT H) lr L:=h.keepA (fun b xs e=>vL e (fun _ z=>nomatch z)) (fun b xs e=>vL e (fun _ z=>nomatch z))
theorem BookR.on {T:Gr} {k0:GK} {NN:Nat} {most:Int} {v:V} (s:Same (My.noT H) H') (h:BookR H T k0 NN most v):BookR H' T k0 NN most v:=by
 cases h with
 |wide h=>exact .wide h
 |full ll h1 h2=>exact .full ll h1 (h2.noT.same s)
theorem SA {w:World} {HC:Hp} {σ:St} {P:VK} {most:Int} {NN:Nat} (h:LF ck cR cN sA sE c1 c2 H fa fe x wl st us R L N ys d ms pl) (hF:FirstM (kM R L N ys) (vQ ys) (jZ (d,ms,pl)) most NN) (hm1:1≤most) (hm16:most≤16) (hne:c1≠c2) (e1:σ[1]?=some (some (.ref x))) (e2:σ[2]?=some (some (.ref wl)))
  (hHC:∀q∈[(1,c1),(2,c2)],∃v o u,σ[q.1]?=some (some v)∧HC q.2=some (FnO q.2 o)∧o.data=.cell (some u)∧RelV v u) (hn:∀q∈[(1,c1),(2,c2)],H q.2=none)
  (hP:∀lv H',(∀q∈[(1,c1),(2,c2)],H' q.2=HC q.2)→Same H (kW H' ([(1,c1),(2,c2)].map (·.2)))→BookR (kW H' ([(1,c1),(2,c2)].map (·.2))) (kM R L N ys) (jZ (d,ms,pl)) NN most lv→P lv H') :
  sO w (tV ck cR cN sA) (tU sE) [.ref st,.ref fa,.ref fe,.int most] (vB H HC ([(1,c1),(2,c2)].map (·.2))) P E0:=by
 have hn':∀c∈([(1,c1),(2,c2)]:List (Nat×Addr)).map (·.2),H c=none:=fun c hc=>by
  obtain ⟨q,hq,rfl⟩:=mem_map.mp hc;exact hn q hq
 obtain ⟨hA,hE⟩:=h.clos hne e1 e2 hHC hn;have s:=eP (HC:=HC) hn';refine ⟨_,fa,fe,most,_,_,_,NN,rfl,hA,hE,tM h.g.dr,hF,hm1,hm16,fI (s:=(d,ms,pl)) (h.g.sts.same s),lU _,⟨_,rfl,h.d0,h.g.fl,h.g.ml⟩,fun hle lr H' s' hL=>?_,fun hlt H' s'=>?_⟩
 ·obtain ⟨f1,o⟩:=sW hHC s';exact hP _ H' f1 (pV hn' s') (.full lr hle (M0 (fun b xs e=>o b _ e fun _ z=>by cases z) (fun b xs e=>o b _ e fun _ z=>by cases z) hL))
 ·obtain ⟨f1,o⟩:=sW hHC s';exact hP _ H' f1 (pV hn' s') (.wide hlt)
theorem BI {HC:Hp} {σ:St} {P:VK} {most:Int} {NN:Nat} {t:Addr} {lv:V} (h:LF ck cR cN sA sE c1 c2 H fa fe x wl st us R L N ys d ms pl) (hF:FirstM (kM R L N ys) (vQ ys) (jZ (d,ms,pl)) most NN) (hne:c1≠c2) (e1:σ[1]?=some (some (.ref x))) (e2:σ[2]?=some (some (.ref wl)))
  (hHC:∀q∈[(1,c1),(2,c2)],∃v o u,σ[q.1]?=some (some v)∧HC q.2=some (FnO q.2 o)∧o.data=.cell (some u)∧RelV v u) (hn:∀q∈[(1,c1),(2,c2)],H q.2=none) (hTo:ToldR H (kM R L N ys) (vQ ys) (jZ (d,ms,pl)) NN t lv)
  (hP:∀H',(∀q∈[(1,c1),(2,c2)],H' q.2=HC q.2)→Same H (kW H' ([(1,c1),(2,c2)].map (·.2)))→P (.bl true) H') :
  pL (tV ck cR cN sA) (tU sE) [.ref t,.ref st,.ref fa,.ref fe,lv] (vB H HC ([(1,c1),(2,c2)].map (·.2))) P E0:=by
 have hn':∀c∈([(1,c1),(2,c2)]:List (Nat×Addr)).map (·.2),H c=none:=fun c hc=>by
  obtain ⟨q,hq,rfl⟩:=mem_map.mp hc;exact hn q hq
 obtain ⟨hA,hE⟩:=h.clos hne e1 e2 hHC hn;have s:=eP (HC:=HC) hn';have hl:=bF (T:=kM R L N ys) (M:=vQ ys) (k0:=jZ (d,ms,pl)) NN hF.low;have hf:=hF.fit NN (by omega);refine ⟨t,_,fa,fe,lv,_,_,_,NN,rfl,hA,hE,tM h.g.dr,(fun k=>Nat.le_trans (h.five k) (by decide)),(fun k de _=>RW k de),fI (s:=(d,ms,pl)) (h.g.sts.same s),⟨_,rfl,h.d0,h.g.fl,h.g.ml⟩,hf,by omega,(fun k ⟨s,e,_⟩=>⟨s,e⟩),hTo.same s,fun H' s'=>?_⟩;exact hP H' (sW hHC s').1 (pV hn' s')
inductive ToldN (H0 H:Hp) (T:Gr) (M:GK→Bool) (k0:GK) (N:Nat) (most:Int) (t:Addr):Prop where
 |wide (a:Addr):most<(((jP T k0 N).flatten.length:Nat):Int)→H t=some (.tup [.str "wide",.ref a])→H a=some (.lst [])→H0 a=none→ToldN H0 H T M k0 N most t
 |doomed (lr:Addr):(((jP T k0 N).flatten.length:Nat):Int)≤most→(j3 T k0 N).any M=false→H t=some (.tup [.str "doomed",.ref lr])→LayersAt H lr (jP T k0 N)→H0 lr=none→ToldN H0 H T M k0 N most t
 |home (rr lr:Addr) (xs:List V) (des:List GK) (kf:GK):(((jP T k0 N).flatten.length:Nat):Int)≤most→(j3 T k0 N).any M=true→H t=some (.tup [.str "home",.ref rr,.ref lr])→LayersAt H lr (jP T k0 N)→H rr=some (.lst xs)→KeysAt H xs des→JO T k0 des kf→M kf=true→des.length=N→H0 rr=none→H0 lr=none→rr≠lr→ToldN H0 H T M k0 N most t
theorem ToldN.right {H0:Hp} {T:Gr} {M:GK→Bool} {k0:GK} {NN:Nat} {most:Int} {t:Addr} {lv:V} (h:ToldN H0 H T M k0 NN most t) (b:BookR H T k0 NN most lv):ToldR H T M k0 NN t lv:=by
 cases h with
 |wide a h1 h2 h3 h4 =>
  cases b with
  |wide _=>exact .wide a h2 h3
  |full ll g1 g2=>exact absurd h1 (by omega)
 |doomed lr h1 h2 h3 h4 h5 =>
  cases b with
  |wide g1=>exact absurd g1 (by omega)
  |full ll g1 g2=>exact .doomed ll lr h2 g2 h3 h4
 |home rr lr xs des kf h1 h2 h3 h4 h5 h6 h7 h8 h9 h10 h11 h12 =>
  cases b with
  |wide g1=>exact absurd g1 (by omega)
  |full ll g1 g2=>exact .home ll rr lr xs des kf h2 g2 h3 h4 h5 h6 h7 h8 h9
theorem B5 {tA tH:Addr} {pA pH:Pos} {P:VK} {E:XK} {most:Int} {NN:Nat} {hd:Addr} (h:LF ck cR cN sA sE c1 c2 H fa fe x wl st us R L N ys d ms pl) (hhd:H hd=some (.lst us)) (hT:Tabs H tA tH pA pH) (hF:FirstM (kM R L N ys) (vQ ys) (jZ (d,ms,pl)) most NN)
  (hP:∀t H',Same (My.noT H) H'→Tabs H' tA tH pA pH→ToldN (My.noT H) H' (kM R L N ys) (vQ ys) (jZ (d,ms,pl)) NN most t→P (.ref t) H'):rP ck cR cN tA tH pA pH [.ref x,.ref hd,.ref st,.int most] H P E :=
 ⟨x,hd,st,us,ys,d,ms,pl,[],R,L,N,NN,most,rfl,⟨h.g.cn,h.g.dr,hhd,h.g.wys,h.g.sts,h.g.fl,h.g.ml⟩,h.d0,hT,hF,fun hle hany t rr lr xs des kf H' s' hT' ht hrr hks hp hmk hdl hLy g1 g2 g3=>hP t H' s' hT' (.home rr lr xs des kf hle hany ht hLy hrr hks hp hmk hdl g1 g2 g3),fun hle hany t lr H' s' hT' ht hLy g1=>hP t H' s' hT' (.doomed lr hle hany ht hLy g1),fun hlt t a H' s' hT' ht ha g1=>hP t H' s' hT' (.wide a hlt ht ha g1)⟩
end
theorem w5 {H:Hp} {T c:Addr} {pos:Pos} {q:Str} {xs:List V} {o:HO} (e:H c=some (.lst xs)) (h:JL H T pos q):JL (upd H c o) T pos q:=by
 have k:∀b o',H b=some o'→(∀l,o'≠.lst l)→upd H c o b=some o':=fun b o' e' n=>by
  rw [jG (fun z=>by rw [z,e] at e';cases e';exact n _ rfl)];exact e'
 rcases h with h|⟨c,oc,vs,t,h1,h2,h3,h4⟩
 ·exact .inl (k _ _ h (fun _ z=>nomatch z))
 ·exact .inr ⟨c,oc,vs,t,k _ _ h1 (fun _ z=>nomatch z),k _ _ h2 (fun _ z=>nomatch z),h3,h4⟩
theorem Tabs.lst {H:Hp} {tA tH c:Addr} {pA pH:Pos} {xs:List V} {o:HO} (e:H c=some (.lst xs)) (h:Tabs H tA tH pA pH):Tabs (upd H c o) tA tH pA pH:=⟨h.ne,w5 e h.a,w5 e h.h⟩
theorem Tabs.keepT {H H':Hp} {tA tH tL:Addr} {pA pH:Pos} {z:Array Value} (k:KeepT tL H H') (ht:H tL=some (.tbl z)) (nA:tL≠tA) (nH:tL≠tH) (h:Tabs H tA tH pA pH):Tabs H' tA tH pA pH:=⟨h.ne,iE nA.symm ht (fun b o e n=>k b o n e) h.a,iE nH.symm ht (fun b o e n=>k b o n e) h.h⟩
theorem KeepT.noT {H H':Hp} {tL:Addr} {z:Array Value} (k:KeepT tL H H') (ht:H tL=some (.tbl z)):Same (My.noT H) H':=rF ht fun b o e n=>k b o n e
def i0 (tA tH tL:Addr) (K:W.Frag):Sp:=fun vs H Q _=>∃(s:Addr) (ns:List Int),vs=[.ref s]∧SqL K H s (ns.map V.int)∧ns.length≤63∧tA≠tH∧tL≠tA∧tL≠tH∧H tA=some (.tbl #[])∧H tH=some (.tbl #[])∧H tL=some (.tbl #[])∧∀H',Q (.bl true) H'
theorem LR (L f:Addr) (cd:Value):closureFor (jM qP) (PyProof.Rows.envOfC "law" (jM JF) L f cd)=pure [(("_law_ways":Str),L+3),(("_law_canal_here":Str),L+2)]:=rfl
theorem LQ (L f:Addr) (cd:Value):closureFor (jM vI) (PyProof.Rows.envOfC "law" (jM JF) L f cd)=pure [(("_law_ways":Str),L+3)]:=rfl
theorem u4:jT 3 ["_law_script","_law_k","_law_many","_law_cell"] nJ:=jS
include T in
theorem GU (F:kH K "_law_draw" nJ f fd) : FnOk P w K mg base jK 1 f fd ["_law_script","_law_k","_law_many"] (bK K):=by
 refine F.ok2 u4 fun vs H Q E h=>?_
 obtain ⟨s,ns,k,m,rfl,hS,h63,hk0,hk1,hm,q⟩:=h;refine ⟨rfl,fun _ _ _ _ hr=>?_⟩;refine ⟨_,(@jH _ _ _ _ _ (kU (kI qQ (kQ K T.xf (pv 0)) jC) (jO (@jL _ _ _ _ _ _ _ _ dF (@jL _ _ _ _ _ _ _ _ kK (@jL _ _ _ _ _ _ _ _ q8 (@jL _ _ _ _ _ _ _ _ q8 (pv 1) (pv 1)) jC) (@jL _ _ _ _ _ _ _ _ q8 jC (pv 1))) (pv 2))) kT)
   (@jH _ _ _ _ _ (jX 3 u4.nd (@jL _ _ _ _ _ _ _ _ dF (jI (kL K) (pv 0) (@jL _ _ _ _ _ _ _ _ dF (pv 1) (kQ K T.xf (pv 0)))) jC))
   (jO (@jL _ _ _ _ _ _ _ _ dF (@jL _ _ _ _ _ _ _ _ dF (@jL _ _ _ _ _ _ _ _ kK (@jL _ _ _ _ _ _ _ _ q8 (pv 3) (@jL _ _ _ _ _ _ _ _ kK (@jL _ _ _ _ _ _ _ _ q8 (pv 1) (pv 1)) jC)) (@jL _ _ _ _ _ _ _ _ q8 (pv 1) jC)) jC) (pv 2))))),?_⟩
 try dsimp only [jV,jU]
 have hml:(ns.map V.int).length=ns.length:=length_map _;obtain ⟨kk0,kk1⟩:=UA hk0 hk1;have hm0:(0:Int)<m:=by omega
 refine (jA rfl (⟨s,jA rfl (⟨.inl hS,rfl,jA rfl (?_)⟩)⟩))
 by_cases h0:ns.length=0
 ·refine vK (by rw [hml,h0];rfl) ?_;refine (jA rfl (jA rfl (j9 (⟨.inl ⟨by omega,by omega⟩,_,_,rfl,rfl,.inr ⟨by decide,by decide⟩,jA rfl (j9 (⟨.inl ⟨by decide,by decide⟩,_,_,rfl,rfl,jA rfl (j9 (⟨hm0,?_⟩))⟩))⟩))));exact q _ (Int.emod_nonneg _ (by omega)) (Int.emod_lt_of_pos _ hm0)
 refine qX (fun z=>h0 (by have:=V.int.inj z;rw [hml] at this;omega)) ?_;have hl0:(0:Int)<(((ns.map V.int).length:Nat):Int):=by rw [hml];omega
 obtain ⟨j,ej,lj⟩:=NK (a:=k) hl0;have lj:j<ns.length:=by rw [hml] at lj;omega
 refine (jA rfl (jA rfl (jA rfl (⟨s,jA rfl (⟨.inl hS,_,_,rfl,rfl,hl0,?_⟩)⟩))))
 try dsimp only
 rw [ej];refine ⟨s,_,_,_,rfl,rfl,hS,zE lj,_,_,rfl,rfl,(by show (0:Int)<1000003;decide),?_⟩;have c0:=Int.emod_nonneg (ns.getD j 0) (by decide:(1000003:Int)≠0);have c1:=Int.emod_lt_of_pos (ns.getD j 0) (by decide:(0:Int)<1000003)
 try dsimp only
 generalize ns.getD j 0%1000003=cell at c0 c1 ⊢;refine (jA rfl (jA rfl (jA rfl (j9 (⟨.inl ⟨by omega,by omega⟩,_,_,rfl,rfl,_,_,rfl,rfl,.inl ⟨by omega,by omega⟩,jA rfl (j9 (⟨.inr ⟨by decide,by decide⟩,_,_,rfl,rfl,_,_,rfl,rfl,(by show (0:Int)<2147483647;decide),jA rfl (j9 (⟨hm0,?_⟩))⟩))⟩)))));exact q _ (Int.emod_nonneg _ (by omega)) (Int.emod_lt_of_pos _ hm0)
theorem d9:jT 3 ["_law_script","_law_k","_law_unit","_law_least","_law_crest","_law_berths","_law_water"] nO:=jS
include T in
theorem GZ (F:kH K "_law_reach" nO f fd) (xa:Def P w K mg base 1 "_law_draw" ["_law_script","_law_k","_law_many"] [] (bK K)) (xaI:MkD P w K mg base 1 "Reach" cR ["self","name","least","crest","berths","water","target"] (o7 cR)):FnOk P w K mg base jK 3 f fd ["_law_script","_law_k","_law_unit"] (BB K cR):=by
 refine F.ok2 d9 fun vs H Q E h=>?_
 obtain ⟨s,ns,k,u,rfl,hS,h63,hk,hv0,hv1,q⟩:=h;refine ⟨rfl,fun _ _ _ _ hr=>?_⟩;refine ⟨_,(@jH _ _ _ _ _ (jX 3 d9.nd (@jL _ _ _ _ _ _ _ _ q8 (jQ xa hr rfl (j5 (pv 0) (@jL _ _ _ _ _ _ _ _ kK (@jL _ _ _ _ _ _ _ _ q8 jC (pv 1)) jC) jC)) (pv 2)))
   (@jH _ _ _ _ _ (jX 4 d9.nd (@jL _ _ _ _ _ _ _ _ kK (pv 3) (@jL _ _ _ _ _ _ _ _ q8 (jQ xa hr rfl (j5 (pv 0) (@jL _ _ _ _ _ _ _ _ kK (@jL _ _ _ _ _ _ _ _ q8 jC (pv 1)) jC) jC)) (pv 2))))
   (@jH _ _ _ _ _ (jX 5 d9.nd (jI (kL K) (qO (yD jC jC jC jC)) (jQ xa hr rfl (j5 (pv 0) (@jL _ _ _ _ _ _ _ _ kK (@jL _ _ _ _ _ _ _ _ q8 jC (pv 1)) jC) jC))))
   (@jH _ _ _ _ _ (jX 6 d9.nd (@jL _ _ _ _ _ _ _ _ q8 (jQ xa hr rfl (j5 (pv 0) (@jL _ _ _ _ _ _ _ _ kK (@jL _ _ _ _ _ _ _ _ q8 jC (pv 1)) jC) jC)) (pv 2)))
   (jO (fH xaI hr rfl (VQ (iT lE j6 (gC (pv 1)) i3) (pv 3) (pv 4) (pv 5) (pv 6) (@jL _ _ _ _ _ _ _ _ z9 (jQ xa hr rfl (j5 (pv 0) (@jL _ _ _ _ _ _ _ _ kK (@jL _ _ _ _ _ _ _ _ q8 jC (pv 1)) jC) (@jL _ _ _ _ _ _ _ _ kK (pv 1) jC))) jC)))))))),?_⟩
 try dsimp only [jV,jU]
 refine (jA rfl (jA rfl (j9 (⟨.inl ⟨by decide,by decide⟩,_,_,rfl,rfl,s,ns,_,jA rfl (⟨hS,h63,by omega,by omega,by omega,fun d1 d10 d11=>?_⟩)⟩))));obtain ⟨a1,a2⟩:=lH d10 (show d1≤2 by omega) hv0 hv1 (by decide);refine (jA rfl (j9 (⟨.inl ⟨by omega,by omega⟩,?_⟩)))
 try dsimp only
 generalize d1*u=le at a1 a2 ⊢;refine (jA rfl (jA rfl (jA rfl (j9 (⟨.inl ⟨by decide,by decide⟩,_,_,rfl,rfl,s,ns,_,jA rfl (⟨hS,h63,by omega,by omega,by omega,fun d2 d20 d21=>?_⟩)⟩)))));obtain ⟨b1,b2⟩:=lH d20 (show d2≤8 by omega) hv0 hv1 (by decide);refine (jA rfl (j9 (⟨.inl ⟨by omega,by omega⟩,_,_,rfl,rfl,?_⟩)))
 try dsimp only
 generalize d2*u=cr at b1 b2 ⊢;refine ⟨zz4,fun p2 hp2=>?_⟩;have s2:=jJ hp2 (.lst ([(1:Int),1,2,9].map V.int));have hS2:=s2.seq hS;refine (jA rfl (jA rfl (j9 (⟨.inl ⟨by decide,by decide⟩,_,_,rfl,rfl,s,ns,_,jA rfl (⟨hS2,h63,by omega,by omega,by omega,fun d6 d60 d61=>?_⟩)⟩))));obtain ⟨be,hbe,hat⟩:=tD [(1:Int),1,2,9] d60 d61;refine (qB (so jD) hat (?_));have hbe':1≤be∧be≤9:=by
  simp only [mem_cons,mem_nil_iff,or_false] at hbe
  rcases hbe with rfl|rfl|rfl|rfl<;>decide
 refine (jA rfl (jA rfl (j9 (⟨.inl ⟨by decide,by decide⟩,_,_,rfl,rfl,s,ns,_,jA rfl (⟨hS2,h63,by omega,by omega,by omega,fun d4 d40 d41=>?_⟩)⟩))));obtain ⟨c1,c2⟩:=lH d40 (show d4≤9 by omega) hv0 hv1 (by decide);refine (jA rfl (j9 (⟨.inl ⟨by omega,by omega⟩,?_⟩)))
 try dsimp only
 generalize d4*u=wa at c1 c2 ⊢;refine (jA rfl (jA rfl (jA rfl (⟨(show ("mere":Str).length≤sizeLine by decide +kernel),jA rfl (jA rfl (jA rfl (jA rfl (?_))))⟩))));refine (jA rfl (jA rfl (j9 (⟨.inl ⟨by decide,by decide⟩,_,_,rfl,rfl,jA rfl (j9 (⟨s,ns,_,jA rfl (⟨hS2,h63,by omega,by omega,by omega,fun d7 d70 d71=>?_⟩)⟩))⟩))));refine ⟨_,_,rfl,rfl,?_⟩;intro x dx nx ndx nex;refine ⟨x,dx,_,_,_,_,_,jA rfl (⟨jD,fun H' fs kp hx hfl=>⟨rfl,?_⟩⟩)⟩;exact q x ⟨_,le,le+cr,be,wa,d7 - 1⟩ H' ⟨a1,by show le≤le+cr;omega,by show le+cr≤999999999999;omega,hbe'.1,hbe'.2,c1,by show wa≤999999999999;omega,by show -1≤d7 - 1;omega,by show d7 - 1<(k:Int);omega⟩ (s2.trans (eU nx (fC nx ndx) kp)) (s2.free nx) ⟨dx,fs,hx,hfl⟩
theorem cI:jT 4 ["_law_script","_law_k","_law_reaches","_law_unit","_law_high","_law_low","_law_room","_law_part","_law_made"] nM:=jS
include T in
theorem GY (F:kH K "_law_lock" nM f fd) (xa:Def P w K mg base 1 "_law_draw" ["_law_script","_law_k","_law_many"] [] (bK K)) (jr:MkD P w K mg base 2 "BasinLock" cB ["self","name","high","low","room","side"] (cV (jF cP cB cU) .basin)) (xae:MkD P w K mg base 2 "PumpLock" cU ["self","name","high","low","room","lift"] (cV (jF cP cB cU) .pump)) (jt:MkD P w K mg base 1 "PlainLock" cP ["self","name","high","low","room"] (cW (jF cP cB cU))):FnOk P w K mg base jK 4 f fd ["_law_script","_law_k","_law_reaches","_law_unit"] (CG K (jF cP cB cU)):=by
 refine F.ok2 cI fun vs H Q E h=>?_
 obtain ⟨s,ns,k,n,u,rfl,hS,h63,hk,hn2,hn8,hv0,hv1,q⟩:=h;refine ⟨rfl,fun _ _ _ _ hr=>?_⟩;refine ⟨_,(@jH _ _ _ _ _ (jX 4 cI.nd (@jL _ _ _ _ _ _ _ _ kK jC (jQ xa hr rfl (j5 (pv 0) (@jL _ _ _ _ _ _ _ _ kK jC (@jL _ _ _ _ _ _ _ _ q8 jC (pv 1))) (@jL _ _ _ _ _ _ _ _ z9 (pv 2) jC)))))
   (@jH _ _ _ _ _ (jX 5 cI.nd (jQ xa hr rfl (j5 (pv 0) (@jL _ _ _ _ _ _ _ _ kK jC (@jL _ _ _ _ _ _ _ _ q8 jC (pv 1))) (pv 4))))
   (@jH _ _ _ _ _ (jX 6 cI.nd (@jL _ _ _ _ _ _ _ _ q8 (@jL _ _ _ _ _ _ _ _ kK jC (jQ xa hr rfl (j5 (pv 0) (@jL _ _ _ _ _ _ _ _ kK jC (@jL _ _ _ _ _ _ _ _ q8 jC (pv 1))) jC))) (pv 3)))
   (@jH _ _ _ _ _ (jX 7 cI.nd (jI (kL K) (qO (j5 jC (pv 6) (@jL _ _ _ _ _ _ _ _ kK jC (@jL _ _ _ _ _ _ _ _ RJ (pv 6) jC)))) (jQ xa hr rfl (j5 (pv 0) (@jL _ _ _ _ _ _ _ _ kK jC (@jL _ _ _ _ _ _ _ _ q8 jC (pv 1))) jC))))
   (@jH _ _ _ _ _ (jX 8 cI.nd (jQ xa hr rfl (j5 (pv 0) (@jL _ _ _ _ _ _ _ _ kK jC (@jL _ _ _ _ _ _ _ _ q8 jC (pv 1))) jC)))
   (@jH _ _ _ _ _ (kU (kI qQ (pv 8) jC) (jO (fH jr hr rfl (dS (@jL _ _ _ _ _ _ _ _ pG j6 (iT lE j6 (gC (pv 1)) i3)) (pv 4) (pv 5) (pv 6) (pv 7)))) kT)
   (@jH _ _ _ _ _ (kU (kI qQ (pv 8) jC) (jO (fH xae hr rfl (dS (@jL _ _ _ _ _ _ _ _ pG j6 (iT lE j6 (gC (pv 1)) i3)) (pv 4) (pv 5) (pv 6) (pv 7)))) kT)
   (jO (fH jt hr rfl (yD (@jL _ _ _ _ _ _ _ _ pG j6 (iT lE j6 (gC (pv 1)) i3)) (pv 4) (pv 5) (pv 6))))))))))),?_⟩
 try dsimp only [jV,jU]
 refine (jA rfl (jA rfl (j9 (⟨.inl ⟨by decide,by decide⟩,_,_,rfl,rfl,jA rfl (j9 (⟨s,ns,_,jA rfl (⟨hS,h63,by omega,by omega,by omega,fun h1 h10 h11=>?_⟩)⟩))⟩))));refine ⟨_,_,rfl,rfl,?_⟩;refine (jA rfl (jA rfl (j9 (⟨.inl ⟨by decide,by decide⟩,_,_,rfl,rfl,jA rfl (⟨s,ns,_,jA rfl (⟨hS,h63,by omega,by omega,by omega,fun lo lo0 lo1=>?_⟩)⟩)⟩))));refine (jA rfl (jA rfl (j9 (⟨.inl ⟨by decide,by decide⟩,_,_,rfl,rfl,s,ns,_,jA rfl (⟨hS,h63,by omega,by omega,by omega,fun d2 d20 d21=>?_⟩)⟩))));obtain ⟨b1,b2⟩:=lH (a:=1+d2) (by omega) (show 1+d2≤3 by omega) hv0 hv1 (by decide);refine ⟨_,_,rfl,rfl,jA rfl (j9 (⟨.inl ⟨by omega,by omega⟩,?_⟩))⟩;have b3:1≤(1+d2)*u:=by
  have:=Int.mul_le_mul (show (1:Int)≤1+d2 by omega) hv0 (by decide) (by omega);omega
 try dsimp only
 have ro1:1≤(1+d2)*u:=b3;have ro2:(1+d2)*u≤999999999999:=by omega
 generalize (1+d2)*u=ro at ro1 ro2 ⊢;refine (jA rfl (jA rfl (j9 (⟨⟨by decide,by decide⟩,_,_,rfl,rfl,zz3,fun p2 hp2=>?_⟩))));have s2:=jJ hp2 (.lst ([(1:Int),ro,1+ro / 2].map V.int));have hS2:=s2.seq hS;refine (jA rfl (jA rfl (j9 (⟨.inl ⟨by decide,by decide⟩,_,_,rfl,rfl,s,ns,_,jA rfl (⟨hS2,h63,by omega,by omega,by omega,fun d4 d40 d41=>?_⟩)⟩))));obtain ⟨pa,hpa,hat⟩:=tD [(1:Int),ro,1+ro / 2] d40 d41;refine (qB (so jD) hat (?_));have hpa:1≤pa∧pa≤ro:=by
  simp only [mem_cons,mem_nil_iff,or_false] at hpa
  rcases hpa with rfl|rfl|rfl<;>omega
 refine (jA rfl (jA rfl (j9 (⟨.inl ⟨by decide,by decide⟩,_,_,rfl,rfl,s,ns,_,jA rfl (⟨hS2,h63,by omega,by omega,by omega,fun d5 d50 d51=>?_⟩)⟩))));refine ⟨_,rfl,rfl,jA rfl (bV (fun _=>?_) (fun _=>?_))⟩
 ·refine (jA rfl (jA rfl (jA rfl (⟨(show ("ate":Str).length≤sizeLine by decide +kernel),_,_,rfl,rfl,Nat.le_trans (Nat.add_le_add_left (Txt.slice_le _ _ _) _) (show ("g":Str).length+("ate":Str).length≤sizeLine by decide +kernel),jA rfl (jA rfl (jA rfl (jA rfl (?_))))⟩))));intro x dx nx ndx nex;refine ⟨x,dx,_,_,_,_,jA rfl (⟨jD,fun H' kp hx=>⟨rfl,?_⟩⟩)⟩;refine q x ⟨_,1+h1,lo,ro,.basin,pa⟩ H' ⟨by show 1≤1+h1;omega,by show 1+h1<(n:Int);omega,lo0,by show lo<1+h1;omega,ro1,ro2,(fun z=>nomatch z),fun _=>hpa⟩ (s2.trans (eU nx (fC nx ndx) kp)) (s2.free nx) ⟨x,rfl,dx,hx⟩
 refine ⟨_,rfl,rfl,jA rfl (bV (fun _=>?_) (fun _=>?_))⟩
 ·refine (jA rfl (jA rfl (jA rfl (⟨(show ("ate":Str).length≤sizeLine by decide +kernel),_,_,rfl,rfl,Nat.le_trans (Nat.add_le_add_left (Txt.slice_le _ _ _) _) (show ("g":Str).length+("ate":Str).length≤sizeLine by decide +kernel),jA rfl (jA rfl (jA rfl (jA rfl (?_))))⟩))));intro x dx nx ndx nex;refine ⟨x,dx,_,_,_,_,jA rfl (⟨jD,fun H' kp hx=>⟨rfl,?_⟩⟩)⟩;refine q x ⟨_,1+h1,lo,ro,.pump,pa⟩ H' ⟨by show 1≤1+h1;omega,by show 1+h1<(n:Int);omega,lo0,by show lo<1+h1;omega,ro1,ro2,(fun z=>nomatch z),fun _=>hpa⟩ (s2.trans (eU nx (fC nx ndx) kp)) (s2.free nx) ⟨x,rfl,dx,hx⟩
 refine (jA rfl (jA rfl (jA rfl (⟨(show ("ate":Str).length≤sizeLine by decide +kernel),_,_,rfl,rfl,Nat.le_trans (Nat.add_le_add_left (Txt.slice_le _ _ _) _) (show ("g":Str).length+("ate":Str).length≤sizeLine by decide +kernel),jA rfl (jA rfl (jA rfl (?_)))⟩))));intro x dx nx ndx nex;refine ⟨.plain,x,dx,_,_,_,jA rfl (⟨jD,fun H' kp hx=>⟨rfl,?_⟩⟩)⟩;refine q x ⟨_,1+h1,lo,ro,.plain,0⟩ H' ⟨by show 1≤1+h1;omega,by show 1+h1<(n:Int);omega,lo0,by show lo<1+h1;omega,ro1,ro2,fun _=>rfl,fun z=>absurd rfl z⟩ (s2.trans (eU nx (fC nx ndx) kp)) (s2.free nx) ⟨x,rfl,dx,hx⟩
theorem ZG:jT 1 ["_law_script","_law_unit","_law_many","_law_reaches","_law_locks","_law_nights","_law_r"] dX:=jS
include T in
theorem GS (F:kH K "_law_canal" dX f fd) (xa:Def P w K mg base 1 "_law_draw" ["_law_script","_law_k","_law_many"] [] (bK K)) (ja:Def P w K mg base 3 "_law_reach" ["_law_script","_law_k","_law_unit"] [] (BB K cR)) (ju:Def P w K mg base 4 "_law_lock" ["_law_script","_law_k","_law_reaches","_law_unit"] [] (CG K (jF cP cB cU))) (xaJ:MkD P w K mg base 1 "Canal" cN ["self","reaches","locks","nights"] (o8 (jF cP cB cU) cR cN)):FnOk P w K mg base jK 6 f fd ["_law_script"] (xW K (jF cP cB cU) cR cN):=by
 refine F.ok2 ZG fun vs H Q E h=>?_
 obtain ⟨s,ns,rfl,hS,h63,q⟩:=h;refine ⟨rfl,fun _ _ _ _ hr=>?_⟩;refine ⟨_,(@jH _ _ _ _ _ (jX 1 ZG.nd (@jL _ _ _ _ _ _ _ _ kK jC (@jL _ _ _ _ _ _ _ _ q8 (jQ xa hr rfl (j5 (pv 0) jC jC)) (@jL _ _ _ _ _ _ _ _ kK (jQ xa hr rfl (j5 (pv 0) jC (@jL _ _ _ _ _ _ _ _ SU jC jC))) jC))))
   (@jH _ _ _ _ _ (jX 2 ZG.nd (@jL _ _ _ _ _ _ _ _ kK jC (jQ xa hr rfl (j5 (pv 0) jC jC))))
   (@jH _ _ _ _ _ (JV (i:=3) ["_law_k","_law_script","_law_unit"] (qY 1 [0,1]) ZG.nd rfl (.inl rfl) rfl (qR (jM dX)) (cps 1 [0,1]) (zY (by rfl) T.xi (jB (pv 2) jE)) (fun _ _ _ _ _=>(kF (i:=0) (show List.Nodup (["_law_k","_law_script","_law_unit"]:List Str) from by decide +kernel) rfl (.inl rfl))) (fun _ _ _ _ _=>zB) (fun _ _ _ _ _=>(jQ ja hr rfl (j5 (pv 1) (pv 0) (pv 2)))))
   (@jH _ _ _ _ _ (JV (i:=4) ["_law_k","_law_script","_law_many","_law_unit"] (qY 1 [0,2,1]) ZG.nd rfl (.inl rfl) rfl (qR (jM dX)) (cps 1 [0,2,1]) (zY (by rfl) T.xi (jB (@jL _ _ _ _ _ _ _ _ kK jC (jQ xa hr rfl (j5 (pv 0) jC jC))) jE)) (fun _ _ _ _ _=>(kF (i:=0) (show List.Nodup (["_law_k","_law_script","_law_many","_law_unit"]:List Str) from by decide +kernel) rfl (.inl rfl))) (fun _ _ _ _ _=>zB) (fun _ _ _ _ _=>(jQ ju hr rfl (yD (pv 1) (pv 0) (pv 2) (pv 3)))))
   (@jH _ _ _ _ _ (jX 5 ZG.nd (qO jE))
   (fA (kU (kI qQ (jQ xa hr rfl (j5 (pv 0) jC jC)) jC) (@jH _ _ _ _ _ (yZ PassesOwn.never rfl (zY (by rfl) T.xi (jB (pv 2) jE)) (kF (i:=6) ZG.nd rfl (.inl rfl))
    (@qG _ _ _ (JE (QR PySem.F.plainAttrs_list PySem.F.slot_list_append PySem.F.type_list_append QE (pv 5) (jB (kY (jB (@jL _ _ _ _ _ _ _ _ q8 (jQ xa hr rfl (j5 (pv 0) (@jL _ _ _ _ _ _ _ _ kK jC (pv 6)) jC)) (pv 1)) (jB (@jL _ _ _ _ _ _ _ _ q8 (jQ xa hr rfl (j5 (pv 0) (@jL _ _ _ _ _ _ _ _ kK jC (pv 6)) jC)) (pv 1)) jE))) jE)))))
   (@qG _ _ _ (jX 5 ZG.nd (qO (jB (pv 5) jE))))) kT)
   (jO (fH xaJ hr rfl (j5 (pv 3) (pv 4) (pv 5)))))))))),?_⟩
 try dsimp only [jV,jU]
 have e9:(10:Int) ^ Int.toNat 9=1000000000:=by decide +kernel
 refine (jA rfl (⟨s,ns,_,jA rfl (⟨hS,h63,by decide,by decide,by decide,fun a a0 a1=>?_⟩)⟩));refine (jA rfl (j9 (⟨⟨by decide,by decide,by decide⟩,s,ns,_,jA rfl (⟨hS,h63,by decide,by decide,(show (1:Int)≤10 ^ Int.toNat 9 by decide +kernel),fun b b0 b1=>?_⟩)⟩)));rw [e9] at b1;obtain ⟨u,hu2,hv0,hv1⟩:∃u:Int,u=1+a*(b+1)∧1≤u∧u≤10000000000:=by
  have h1:=Int.mul_le_mul (show a≤4 by omega) (show b+1≤1000000000 by omega) (by omega) (by decide);have h2:=Int.mul_nonneg a0 (show (0:Int)≤b+1 by omega);exact Exists.intro (1+a*(b+1)) (And.intro rfl (And.intro (by omega) (by omega)))
 refine ⟨_,_,rfl,rfl,_,_,rfl,rfl,.inl ⟨by omega,by omega⟩,_,_,rfl,rfl,?_⟩
 try dsimp only
 rw [← hu2];refine (jA rfl (⟨s,ns,_,jA rfl (⟨hS,h63,by omega,by omega,by omega,fun m0 m00 m01=>?_⟩)⟩));refine ⟨_,_,rfl,rfl,?_⟩;obtain ⟨n,hn⟩:∃n:Nat,2+m0=(n:Int):=⟨(2+m0).toNat,by omega⟩
 try dsimp only
 rw [hn];have hn2:2≤n:=by omega
 have hn8:n≤8:=by omega
 refine (jA rfl (jA rfl (⟨by omega,by omega,fun rl hrl0=>?_⟩)));refine ZH (n:=((n:Nat):Int).toNat) (caps:=[some (.ref s),some (.int u)]) (fun i ys Hi=>∃R:List RC,AllAt (RcO cR Hi) ys R∧R.length=i∧∀(j:Nat) (r:RC),R[j]?=some r→r.good j) hrl0 ⟨[],AllAt.nil,rfl,fun j r hj=>by cases hj⟩ ?_ ?_
 ·rintro i ys Hi hi hle sm hY ⟨R,hR,hRl,hRg⟩;rw [Int.toNat_natCast] at hi;rw [Int.zero_add];refine yB (kS (jA rfl (jA rfl (jA rfl ((yA s ns i u (Z7 rfl (sm.seq hS) h63 (by omega) hv0 hv1 (fun x r H' hg s' hx0 hx=>vV hrl0 sm hY hle (by omega) s' ?_))))))));refine ⟨R++[r],((hR.mono (RcO.same s')).snoc (v:=.ref x) (x:=r) ⟨x,rfl,hx⟩).mono (RcO.keep ((Keep.refl rl H').upd _) (s' _ _ hY)),by rw [length_append,hRl];rfl,fun j r' hj=>?_⟩
  by_cases hl:j<R.length
  ·rw [List.getElem?_append_left hl] at hj;exact hRg j r' hj
  ·rw [List.getElem?_append_right (by omega)] at hj;have hz:j - R.length=0:=by
    have:=(List.getElem?_eq_some_iff.mp hj).1;rw [length_singleton] at this;omega
   rw [hz] at hj;cases hj;rw [show j=i by omega];exact hg
 rintro rs H1 s1 hrl hle1 ⟨R,hR,hRl,hRg⟩;rw [Int.toNat_natCast] at hRl;refine (jA rfl (⟨s,ns,_,jA rfl (⟨s1.seq hS,h63,by omega,by omega,by omega,fun m1 m10 m11=>?_⟩)⟩));refine ⟨_,_,rfl,rfl,?_⟩;obtain ⟨m,hm⟩:∃m:Nat,1+m1=(m:Int):=⟨(1+m1).toNat,by omega⟩
 try dsimp only
 rw [hm];refine (jA rfl (⟨by omega,by omega,fun ll hll0=>?_⟩));refine ZH (n:=((m:Nat):Int).toNat) (caps:=[some (.ref s),some (.int (n:Int)),some (.int u)]) (fun i ys Hi=>∃L:List LC,AllAt (LkO (jF cP cB cU) Hi) ys L∧L.length=i∧∀l∈L,l.good n) hll0 ⟨[],AllAt.nil,rfl,fun l hl=>by cases hl⟩ ?_ ?_
 ·rintro i ys Hi hi hle sm hY ⟨L,hL,hLl,hLg⟩;rw [Int.toNat_natCast] at hi;rw [Int.zero_add];refine yB (kS (jA rfl (jA rfl (jA rfl (jA rfl ((zW s ns i n u (uQ rfl ((s1.trans sm).seq hS) h63 (by omega) hn2 hn8 hv0 hv1 (fun x l H' hg s' hx0 hx=>vV hll0 sm hY hle (by omega) s' ?_)))))))));refine ⟨L++[l],((hL.mono (LkO.same s')).snoc (v:=.ref x) (x:=l) hx).mono (LkO.keep ((Keep.refl ll H').upd _) (s' _ _ hY)),by rw [length_append,hLl];rfl,fun l' hl'=>?_⟩
  rcases mem_append.mp hl' with hl'|hl'
  ·exact hLg l' hl'
  ·rw [mem_singleton.mp hl'];exact hg
 rintro ls H2 s2 hll hle2 ⟨L,hL,hLl,hLg⟩;rw [Int.toNat_natCast] at hLl;have s12:=s1.trans s2;refine ⟨zz0,fun n0 hn00=>?_⟩;have s3:=jJ hn00 (.lst []);have hn0:upd H2 n0 (.lst []) n0=_:=jD;generalize upd H2 n0 (.lst [])=H3 at s3 hn0 ⊢;have s13:=s12.trans s3;refine ⟨fun σ' H'=>∃(nl:Addr) (nv:List V) (N:List (List (Int×Int))) (c:Option V),σ'=[some (.ref s),some (.int u),some (.int (n:Int)),some (.ref rl),some (.ref ll),some (.ref nl),c]∧H' nl=some (.lst nv)∧AllAt (NAt [] H') nv N∧N.length≤1∧(∀p∈N,p.length=n)∧Same H2 H',?_,?_⟩
 ·refine (jA rfl (⟨s,ns,_,jA rfl (⟨s13.seq hS,h63,by omega,by omega,by omega,fun m2 m20 m21=>?_⟩)⟩));refine ⟨rfl,jA rfl (bV (fun _=>?_) (fun _=>?_))⟩
  ·refine (jA rfl (jA rfl (⟨by omega,by omega,eQ (n:=((n:Nat):Int).toNat) (fun i σ Hi=>∃(us:List V) (p:List (Int×Int)) (c:Option V),σ=[some (.ref s),some (.int u),some (.int (n:Int)),some (.ref rl),some (.ref ll),some (.ref n0),c]∧Hi n0=some (.lst us)∧AllAt (QAt Hi) us p∧p.length=i∧Same H2 Hi) ⟨[],[],none,rfl,hn0,AllAt.nil,rfl,s3⟩ ?_ ?_⟩)))
   ·rintro i σ Hi hi ⟨us,p,c,rfl,hl,hA,hp,sm⟩;rw [Int.toNat_natCast] at hi;rw [Int.zero_add];have hSi:=(s12.trans sm).seq hS;refine (jA rfl (⟨.inl ⟨rfl,_,so hl⟩,jA rfl (jA rfl (j9 (⟨s,ns,_,jA rfl (⟨hSi,h63,by omega,by omega,by omega,fun d1 d10 d11=>?_⟩)⟩)))⟩));refine (jA rfl (j9 (⟨.inl ⟨by omega,by omega⟩,?_⟩)));refine (jA rfl (jA rfl (j9 (⟨s,ns,_,jA rfl (⟨hSi,h63,by omega,by omega,by omega,fun d2 d20 d21=>?_⟩)⟩))));refine (jA rfl (j9 (⟨.inl ⟨by omega,by omega⟩,zz2,fun tp htp=>?_⟩)));have v:=jJ htp (.tup [V.int (d1*u),V.int (d2*u)]);refine ⟨n0,_,_,rfl,rfl,v _ _ hl,yJ (by rw [hA.1];omega),?_⟩;refine ⟨us++[.ref tp],p++[(d1*u,d2*u)],jA rfl (⟨jD,?_,by rw [length_append,hp];rfl,qH hn00 (sm.trans v)⟩)⟩;exact ((hA.mono (QAt.same v)).snoc (v:=.ref tp) (x:=(d1*u,d2*u)) ⟨tp,rfl,jD⟩).mono (QAt.put (v _ _ hl))
   rintro σ Hi ⟨us,p,c,rfl,hl,hA,hp,sm⟩;rw [Int.toNat_natCast] at hp;refine (jA rfl (⟨zz1,fun nl hnl0=>?_⟩));have v:=jJ hnl0 (.lst [V.ref n0]);exact (yA nl _ ([p]) c (yE rfl jD (AllAt.nil.snoc ⟨n0,us,rfl,v _ _ hl,hA.mono (QAt.same v),by simp⟩) (Nat.le_refl _) (fun p' hp'=>by rw [mem_singleton.mp hp'];exact hp) (sm.trans v)))
  ·exact (yA n0 ([]) ([]) none (yE rfl hn0 AllAt.nil (Nat.zero_le _) (fun p hp=>by cases hp) s3))
 rintro σ' H4 ⟨nl,nv,N,c,rfl,hnl,hN,hN1,hNg,s4⟩;have hNl:=hN.1;refine (jA rfl (jA rfl (jA rfl (?_))));intro x dx nx ndx nex;have v:=fun o o'=>fC (o:=o) (o':=o') nx ndx
 refine (fP x dx rl ll _ rs ls R L N (fX rfl jD (v _ _ _ _ (s4 _ _ (s2 _ _ hrl))) (v _ _ _ _ (s4 _ _ hll)) ((hR.mono (RcO.same (s2.trans s4))).mono (RcO.same (v _ _))) ((hL.mono (LkO.same s4)).mono (LkO.same (v _ _))) (.inr ⟨nl,nv,rfl,v _ _ _ _ hnl,hN.mono (NAt.same (v _ _)),by omega⟩) (fun H' kp hC=>⟨rfl,?_⟩)));have w:=s12.trans s4;exact q x R L N H' ⟨by omega,by omega,by omega,by omega,hRg,fun i l hl=>by rw [hRl];exact hLg l (mem_of_getElem? hl),fun p hp=>by rw [hRl];exact hNg p hp⟩ (by omega) (by omega) (by omega) (w.trans (eU nx (v _ _) kp)) (w.free nx) (hC [] (fun d hd=>nomatch hd))
theorem QB:jT 3 ["_law_script","_law_k","_law_canal_here","_law_lock_here","_law_at","_law_start","_law_steps","_law_j","_law_some","_law_step"] dY:=jS
include T in
theorem G3 (F:kH K "_law_way" dY f fd) (xa:Def P w K mg base 1 "_law_draw" ["_law_script","_law_k","_law_many"] [] (bK K)):FnOk P w K mg base jK 2 f fd ["_law_script","_law_k","_law_canal_here"] (CB K (jF cP cB cU) cR cN):=by
 refine F.ok2 QB fun vs H Q E h=>?_
 obtain ⟨s,x,ns,k,D,R,L,N,rfl,hS,h63,hk,hc,hdr,b1,q⟩:=h;refine ⟨rfl,fun _ _ _ _ hr=>?_⟩;refine ⟨_,(@jH _ _ _ _ _ (jX 3 QB.nd (jI (kL K) (j7 K (pv 2) rfl) (jQ xa hr rfl (j5 (pv 0) (@jL _ _ _ _ _ _ _ _ kK jC (@jL _ _ _ _ _ _ _ _ q8 jC (pv 1))) (kQ K T.xf (j7 K (pv 2) rfl))))))
   (@jH _ _ _ _ _ (jX 4 QB.nd (jI (kL K) (qO (jB (j7 K (pv 3) rfl) (jB (j7 K (pv 3) rfl) jE))) (jQ xa hr rfl (j5 (pv 0) (@jL _ _ _ _ _ _ _ _ kK jC (@jL _ _ _ _ _ _ _ _ q8 jC (pv 1))) jC))))
   (@jH _ _ _ _ _ (jX 5 QB.nd (pv 4))
   (@jH _ _ _ _ _ (jX 6 QB.nd (qO jE))
   (@jH _ _ _ _ _ (yZ PassesOwn.never rfl (zY (by rfl) T.xi (jB (@jL _ _ _ _ _ _ _ _ kK jC (jQ xa hr rfl (j5 (pv 0) (@jL _ _ _ _ _ _ _ _ kK jC (@jL _ _ _ _ _ _ _ _ q8 jC (pv 1))) jC))) jE)) (kF (i:=7) QB.nd rfl (.inl rfl))
    (@jH _ _ _ _ _ (JV (i:=8) ["_law_n","_law_at","_law_canal_here"] (qY 1 [4,2]) QB.nd rfl (.inl rfl) rfl (qR (jM dY)) (cps 1 [4,2]) (zY (by rfl) T.xi (jB (kQ K T.xf (j7 K (pv 2) rfl)) jE)) (fun _ _ _ _ _=>(kF (i:=0) (show List.Nodup (["_law_n","_law_at","_law_canal_here"]:List Str) from by decide +kernel) rfl (.inl rfl))) (fun _ _ _ _ _=>(JH (kI qQ (j7 K (jI (kL K) (j7 K (pv 2) rfl) (pv 0)) rfl) (pv 1)))) (fun _ _ _ _ _=>(kY (jB (pv 0) (jB j6 jE)))))
   (@jH _ _ _ _ _ (jX 8 QB.nd (@jL _ _ _ _ _ _ _ _ ZO (pv 8) (bZ ["_law_n","_law_at","_law_canal_here"] [4,2] (qR (jM dY)) (zY (by rfl) T.xi (jB (kQ K T.xf (j7 K (pv 2) rfl)) jE)) (fun _ _ _ _ _=>(JH (kI qQ (j7 K (jI (kL K) (j7 K (pv 2) rfl) (pv 0)) rfl) (pv 1)))) (fun _ _ _ _ _=>(kY (jB (pv 0) (jB j6 jE)))))))
   (@jH _ _ _ _ _ (jX 9 QB.nd (jI (kL K) (pv 8) (jQ xa hr rfl (j5 (pv 0) (@jL _ _ _ _ _ _ _ _ kK (@jL _ _ _ _ _ _ _ _ kK jC (@jL _ _ _ _ _ _ _ _ q8 jC (pv 1))) (pv 7)) (kQ K T.xf (pv 8))))))
   (@jH _ _ _ _ _ (JE (QR PySem.F.plainAttrs_list PySem.F.slot_list_append PySem.F.type_list_append QE (pv 6) (jB (pv 9) jE)))
   (@qG _ _ _ (jX 4 QB.nd (jI (kL K) (qO (jB (j7 K (jI (kL K) (j7 K (pv 2) rfl) (jI (jR K) (pv 9) jC)) rfl) (jB (j7 K (jI (kL K) (j7 K (pv 2) rfl) (jI (jR K) (pv 9) jC)) rfl) jE))) (zA OH (by rfl) T.um PyProof.Rows.boot_int (jB (J7 qQ (jI (jR K) (pv 9) jC) j6) jE))))))))))
   (jO (kY (jB (pv 5) (jB (zA (eG K) (by rfl) T.xq PyProof.Rows.boot_tuple (jB (pv 6) jE)) jE))))))))),?_⟩
 try dsimp only [jV,jU]
 have hc0:=hc;obtain ⟨dx,rl,ll,nl,fs,rs,ls,nv,hx,hf,hrl,hll,hnl,hR,hL,hN,d1,d2,d3⟩:=hc;have b8:=hdr.l8;refine (jA rfl (j8 hx (T.clN) (T.xb) (hf.2.1) ((jA rfl (jA rfl (j9 (⟨.inl ⟨by decide,by decide⟩,_,_,rfl,rfl,jA rfl (j8 hx (T.clN) (T.xb) (hf.2.1) (⟨ll,jA rfl (⟨.inl (so hll),s,ns,_,jA rfl (⟨hS,h63,by omega,by omega,by rw [hL.1];omega,fun d1 d10 d11=>?_⟩)⟩)⟩))⟩)))))));obtain ⟨k1,hk1⟩:∃k1:Nat,d1=(k1:Int):=⟨d1.toNat,by omega⟩;subst hk1;have hk1L:k1<L.length:=by rw [hL.1] at d11;omega
 obtain ⟨l0,hl0⟩:∃l,L[k1]?=some l:=⟨_,List.getElem?_eq_getElem hk1L⟩;obtain ⟨v,hv,yl,rfl,dl,hl⟩:=hL.get hl0;refine (qB (so hll) (kZ hv) (?_));refine (jA rfl (j8 hl (T.cl l0.kd) (T.vm l0.kd) (dH l0.kd _ _ _ _ _) ((jA rfl (j8 hl (T.cl l0.kd) (T.zt l0.kd) (dB l0.kd _ _ _ _ _) (⟨zz2,fun p1 hp1=>?_⟩))))));have s1:=jJ hp1 (.lst [V.int l0.low,V.int l0.high]);refine (jA rfl (jA rfl (j9 (⟨.inl ⟨by decide,by decide⟩,_,_,rfl,rfl,s,ns,_,jA rfl (⟨s1.seq hS,h63,by omega,by omega,by omega,fun d2 d20 d21=>?_⟩)⟩))));obtain ⟨a0,hat,hend⟩:∃a0:Int,vC [V.int l0.low,V.int l0.high] d2=some (.int a0)∧EndAt L a0:=by
  obtain ⟨k2,hk2⟩:∃k2:Nat,d2=(k2:Int):=⟨d2.toNat,by omega⟩;subst hk2
  rcases k2 with _|_|k2
  ·exact ⟨l0.low,rfl,(k1,true),hk1L,by rw [bJ hl0]⟩
  ·exact ⟨l0.high,rfl,(k1,false),hk1L,by rw [bD hl0]⟩
  ·omega
 refine (qB (so jD) hat (?_));refine (jA rfl (⟨zz0,fun sp hsp0=>?_⟩));have s2:=jJ hsp0 (.lst []);have s12:=s1.trans s2;have hsp:upd (upd H p1 (.lst [V.int l0.low,V.int l0.high])) sp (.lst []) sp=some (.lst []):=jD;have hspf:=s1.free hsp0;generalize upd (upd H p1 (.lst [V.int l0.low,V.int l0.high])) sp (.lst [])=H2 at s2 s12 hsp ⊢;refine (jA rfl (jA rfl (j9 (⟨.inl ⟨by decide,by decide⟩,_,_,rfl,rfl,s,ns,_,jA rfl (⟨s12.seq hS,h63,by omega,by omega,by omega,fun m0 m00 m01=>?_⟩)⟩))));obtain ⟨n,hn⟩:∃n:Nat,1+m0=(n:Int):=⟨(1+m0).toNat,by omega⟩;refine ⟨_,_,rfl,rfl,(n:Int),(by show [V.int (1+m0)]=_;rw [hn]),by omega,by omega,?_⟩;refine eQ (n:=((n:Nat):Int).toNat) (fun i σ Hi=>∃(a:Int) (ps:List (Nat×Bool)) (us:List V) (c8 c9 c10:Option V),σ=[some (.ref s),some (.int (k:Int)),some (.ref x),some (.ref yl),some (.int a),some (.int a0),some (.ref sp),c8,c9,c10]∧Hi sp=some (.lst us)∧AllAt (PAt Hi) us ps∧(∀p∈ps,p.1<L.length)∧ps.length=i∧(vG L a0 ps)[ps.length]?=some a∧Z5 L a0 ps∧EndAt L a∧Same H Hi)
  ⟨a0,[],[],none,none,none,rfl,hsp,AllAt.nil,fun p hp=>(by cases hp),rfl,rfl,RM _ _,hend,s12⟩ ?_ ?_
 ·rintro i σ Hi hi ⟨a,ps,us,c8,c9,c10,rfl,hsp,hA,hlt,hpl,hlast,hok,hen,sm⟩;rw [Int.toNat_natCast] at hi;rw [Int.zero_add];refine (jA rfl (j8 ((sm _ _ hx)) (T.clN) (T.xb) (hf.2.1) (⟨ll,jA rfl (⟨.inl (so (sm _ _ hll)),jA rfl (⟨by omega,by rw [hL.1];omega,fun c1 hc10=>?_⟩)⟩)⟩)));refine ZH (n:=((ls.length:Nat):Int).toNat) (caps:=[some (.int a),some (.ref x)]) (fun j zs Hj=>AllAt (PAt Hj) zs (yI L a true j)) hc10 AllAt.nil ?_ ?_
  ·rintro j zs Hj hj hle sj hY hA1;rw [Int.toNat_natCast,hL.1] at hj;rw [Int.zero_add];obtain ⟨l,hl'⟩:∃l,L[j]?=some l:=⟨_,List.getElem?_eq_getElem hj⟩;obtain ⟨w,hw,y,rfl,dl,hl⟩:=hL.get hl';have smj:=sm.trans sj;have ee:(vJ L (j,true)).1=l.low:=by rw [bJ hl']
   refine (jA rfl (j8 ((smj _ _ hx)) (T.clN) (T.xb) (hf.2.1) ((jA rfl (qB (so (smj _ _ hll)) (kZ hw) (j8 ((smj _ _ hl)) (T.cl l.kd) (T.vm l.kd) (dH l.kd _ _ _ _ _) (⟨_,rfl,rfl,jA rfl (?_)⟩)))))))
   by_cases he:l.low=a
   ·refine vK (congrArg V.int he) (jA rfl (⟨zz2,fun tp htp=>vV hc10 sj hY hle (by omega) (jJ htp _) ?_⟩));rw [CM (ee.trans he)];have v:=jJ htp (.tup [V.int (j:Int),V.str "up"]);exact ((hA1.mono (PAt.same v)).snoc (v:=.ref tp) (x:=(j,true)) ⟨tp,rfl,jD⟩).mono (PAt.put (v _ _ hY))
   ·refine qX (fun z=>he (V.int.inj z)) (JW sj hY hle (Same.refl _) ?_);rw [DQ (fun z=>he (ee.symm.trans z))];exact hA1
  rintro z1 Ha sa hc1 hle1 hA1;rw [Int.toNat_natCast,hL.1] at hA1;have sma:=sm.trans sa;refine (jA rfl (jA rfl (j8 ((sma _ _ hx)) (T.clN) (T.xb) (hf.2.1) (⟨ll,jA rfl (⟨.inl (so (sma _ _ hll)),jA rfl (⟨by omega,by rw [hL.1];omega,fun c2 hc20=>?_⟩)⟩)⟩))));refine ZH (n:=((ls.length:Nat):Int).toNat) (caps:=[some (.int a),some (.ref x)]) (fun j zs Hj=>AllAt (PAt Hj) zs (yI L a false j)) hc20 AllAt.nil ?_ ?_
  ·rintro j zs Hj hj hle sj hY hA1;rw [Int.toNat_natCast,hL.1] at hj;rw [Int.zero_add];obtain ⟨l,hl'⟩:∃l,L[j]?=some l:=⟨_,List.getElem?_eq_getElem hj⟩;obtain ⟨w,hw,y,rfl,dl,hl⟩:=hL.get hl';have smj:=sma.trans sj;have ee:(vJ L (j,false)).1=l.high:=by rw [bD hl']
   refine (jA rfl (j8 ((smj _ _ hx)) (T.clN) (T.xb) (hf.2.1) ((jA rfl (qB (so (smj _ _ hll)) (kZ hw) (j8 ((smj _ _ hl)) (T.cl l.kd) (T.zt l.kd) (dB l.kd _ _ _ _ _) (⟨_,rfl,rfl,jA rfl (?_)⟩)))))))
   by_cases he:l.high=a
   ·refine vK (congrArg V.int he) (jA rfl (⟨zz2,fun tp htp=>vV hc20 sj hY hle (by omega) (jJ htp _) ?_⟩));rw [CM (ee.trans he)];have v:=jJ htp (.tup [V.int (j:Int),V.str "down"]);exact ((hA1.mono (PAt.same v)).snoc (v:=.ref tp) (x:=(j,false)) ⟨tp,rfl,jD⟩).mono (PAt.put (v _ _ hY))
   ·refine qX (fun z=>he (V.int.inj z)) (JW sj hY hle (Same.refl _) ?_);rw [DQ (fun z=>he (ee.symm.trans z))];exact hA1
  rintro z2 Hb sb hc2 hle2 hA2;rw [Int.toNat_natCast,hL.1] at hA2;have smb:=sma.trans sb;have hl1:=DR (L:=L) (a:=a) (b:=true) (i:=L.length);have hl2:=DR (L:=L) (a:=a) (b:=false) (i:=L.length);have hz1:=hA1.1;have hz2:=hA2.1;refine ⟨c1,c2,_,_,rfl,rfl,sb _ _ hc1,hc2,small (by omega),fun sOo hso0=>?_⟩;have s4':=jJ hso0 (.lst (z1++z2));have hTA:AllAt (PAt (upd Hb sOo (.lst (z1++z2)))) (z1++z2) (yI L a true L.length++yI L a false L.length):=((hA1.mono (PAt.same sb)).app hA2).mono (PAt.same s4');have hso:upd Hb sOo (.lst (z1++z2)) sOo=_:=jD;have s4:=(sa.trans sb).trans s4';generalize upd Hb sOo (.lst (z1++z2))=H4 at s4 hTA hso ⊢;have sm4:=sm.trans s4;have htl:=PY hen;generalize z1++z2=tus at hTA hso ⊢;refine (jA rfl (jA rfl (jA rfl (j9 (⟨.inl ⟨by decide,by decide⟩,_,_,rfl,rfl,jA rfl (j9 ((jA rfl (⟨sOo,jA rfl (⟨.inl (so hso),s,ns,_,jA rfl (⟨sm4.seq hS,h63,by omega,by omega,by rw [hTA.1];omega,fun d4 d40 d41=>?_⟩)⟩)⟩))))⟩)))));obtain ⟨m,hm⟩:∃m:Nat,d4=(m:Int):=⟨d4.toNat,by omega⟩;subst hm;have hml:m<tus.length:=by omega
  obtain ⟨p,hp,t,et,ht⟩:=hTA.2 m _ (List.getElem?_eq_getElem hml);obtain ⟨hpL,hpe⟩:=PZ (mem_of_getElem? hp);refine (qB (so hso) (kZ (v:=.ref t) (by rw [List.getElem?_eq_getElem hml,et])) (?_));have hsp4:=s4 _ _ hsp;refine (jA rfl (⟨.inl ⟨rfl,_,so hsp4⟩,jA rfl (⟨sp,_,_,rfl,rfl,hsp4,yJ (by rw [hA.1];omega),?_⟩)⟩));have hA5:AllAt (PAt (upd H4 sp (.lst (us++[.ref t])))) (us++[.ref t]) (ps++[p]):=((hA.mono (PAt.same s4)).snoc ⟨t,rfl,ht⟩).mono (PAt.put hsp4);have sm5:Same H (upd H4 sp (.lst (us++[.ref t]))):=qH hspf sm4;have hsp5:upd H4 sp (.lst (us++[.ref t])) sp=some (.lst (us++[.ref t])):=jD;have ht:upd H4 sp (.lst (us++[.ref t])) t=some (.tup [.int (p.1:Int),.str (fV p.2)]):=by rw [jG (fun z=>by rw [z,hsp4] at ht;cases ht)];exact ht
  generalize upd H4 sp (.lst (us++[.ref t]))=H5 at hA5 sm5 hsp5 ht ⊢;obtain ⟨l,hl',hlg⟩:=xD hdr hpL;obtain ⟨w,hw,y,rfl,dl,hl⟩:=hL.get hl';refine (jA rfl (j8 ((sm5 _ _ hx)) (T.clN) (T.xb) (hf.2.1) ((jA rfl (jY (SqT.of ht) rfl (qB (so (sm5 _ _ hll)) (kZ hw) (j8 ((sm5 _ _ hl)) (T.cl l.kd) (T.vm l.kd) (dH l.kd _ _ _ _ _) ((jA rfl (j8 ((sm5 _ _ hx)) (T.clN) (T.xb) (hf.2.1) ((jA rfl (jY (SqT.of ht) rfl (qB (so (sm5 _ _ hll)) (kZ hw) (j8 ((sm5 _ _ hl)) (T.cl l.kd) (T.zt l.kd) (dB l.kd _ _ _ _ _) (⟨zz2,fun pl hpl0=>?_⟩))))))))))))))));have u:=jJ hpl0 (.lst [V.int l.low,V.int l.high]);refine (jA rfl (jY (SqT.of (u _ _ ht)) rfl (⟨rfl,.inr (jA rfl (?_))⟩)));rw [EF];have hat:vC [V.int l.low,V.int l.high] (if p.2=true then 1 else 0)=some (.int (vJ L p).2):=by
   obtain ⟨pk,pb⟩:=p;cases pb
   ·rw [bD hl'];rfl
   ·rw [bJ hl'];rfl
  refine (qB (so jD) hat (?_));refine ⟨_,ps++[p],us++[.ref t],_,_,jA rfl (⟨u _ _ hsp5,hA5.mono (PAt.same u),fun p' hp'=>?_,by rw [length_append,hpl];rfl,?_,(OV hlast).mpr ⟨hok,hpe⟩,EndAt.next hpL,sm5.trans u⟩)⟩
  ·rcases mem_append.mp hp' with h|h
   ·exact hlt p' h
   ·rw [mem_singleton.mp h];exact hpL
  ·rw [pT,length_append,List.getElem?_append_right (by rw [eX];exact Nat.le_refl _),eX];show [(vJ L p).2][ps.length+1 - (ps.length+1)]?=_;rw [Nat.sub_self];rfl
 rintro σ Hi ⟨a,ps,us,c8,c9,c10,rfl,hsp,hA,hlt,hpl,hlast,hok,hen,sm⟩;rw [Int.toNat_natCast] at hpl;refine (jA rfl (jA rfl (⟨sp,us,rfl,.inl ⟨so hsp,fun st hst0=>?_⟩⟩)));have v1:=jJ hst0 (.tup us);refine ⟨zz2,fun t ht0=>?_⟩;have v2:=jJ ht0 (.tup [V.int a0,V.ref st]);have w:=(sm.trans v1).trans v2;exact q t (a0,ps) _ ⟨hlt,hok,by show ps.length≤8;omega⟩ w ((sm.trans v1).free ht0) (v6 t st us (yW rfl jD (v2 _ _ jD) (hA.mono (PAt.same (v1.trans v2)))))
theorem eA:jT 3 ["_law_script","_law_canal_here","_law_ways","_law_waters","_law_k","_law_held","_law_places"] gI:=jS
include T in
theorem G1 (F:kH K "_law_state" gI f fd) (wd:MeD P w K mg base 5 cN "start" ["self"] (AX (jF cP cB cU) cR cN)) (xa:Def P w K mg base 1 "_law_draw" ["_law_script","_law_k","_law_many"] [] (bK K)) (jb:MeK P w K mg base 1 (jF cP cB cU) "kind" ["self"] (QH (jF cP cB cU) (fun kd _=>V.str (match kd with|.plain=>"plain"|.basin=>"basin"|.pump=>"pump")))) (we:MeK P w K mg base 1 (jF cP cB cU) "extra" ["self"] (QH (jF cP cB cU) (fun kd v=>V.int (match kd with|.plain=>0|.basin=>v|.pump=>v)))):FnOk P w K mg base jK 6 f fd ["_law_script","_law_canal_here","_law_ways"] (xQ K (jF cP cB cU) cR cN):=by
 refine F.ok2 eA fun vs H Q E h=>?_
 obtain ⟨s,x,wl,ns,us,ys,D,R,L,N,rfl,hS,h63,hc,hdr,hwl,hA,h10,hok,q⟩:=h;refine ⟨rfl,fun _ _ _ _ hr=>?_⟩;refine ⟨_,(@jH _ _ _ _ _ (jX 3 eA.nd (zA (bB K) (by rfl) T.xn PyProof.Rows.boot_list (jB (ZB wd hr (pv 1)) jE)))
   (@jH _ _ _ _ _ (yZ PassesOwn.never rfl (zY (by rfl) T.xi (jB (kQ K T.xf (j7 K (pv 1) rfl)) jE)) (kF (i:=4) eA.nd rfl (.inl rfl))
    (fA (kU (kI qQ (jQ xa hr rfl (j5 (pv 0) (@jL _ _ _ _ _ _ _ _ kK jC (pv 4)) jC)) jC) (@qG _ _ _ (sP (j7 K (jI (kL K) (j7 K (pv 1) rfl) (pv 4)) rfl) (sQ (pv 3) (@jL _ _ _ _ _ _ _ _ kK (kQ K T.xf (j7 K (pv 1) rfl)) (pv 4)) cS))) kT)
   (@qG _ _ _ (kU (kI qQ (DV jb hr (jI (kL K) (j7 K (pv 1) rfl) (pv 4))) j6) (@jH _ _ _ _ _ (jX 5 eA.nd (jI (kL K) (qO (jB jC (jB (DV we hr (jI (kL K) (j7 K (pv 1) rfl) (pv 4))) jE))) (jQ xa hr rfl (j5 (pv 0) (@jL _ _ _ _ _ _ _ _ kK jC (pv 4)) jC))))
   (@qG _ _ _ (sP (pv 5) (sQ (pv 3) (@jL _ _ _ _ _ _ _ _ kK (@jL _ _ _ _ _ _ _ _ kK (kQ K T.xf (j7 K (pv 1) rfl)) (kQ K T.xf (j7 K (pv 1) rfl))) (pv 4)) cS)))) kT))))
   (@jH _ _ _ _ _ (JV (i:=6) ["_law_k","_law_script","_law_ways"] (qY 1 [0,2]) eA.nd rfl (.inl rfl) rfl (qR (jM gI)) (cps 1 [0,2]) (zY (by rfl) T.xi (jB (kQ K T.xf (pv 2)) jE)) (fun _ _ _ _ _=>(kF (i:=0) (show List.Nodup (["_law_k","_law_script","_law_ways"]:List Str) from by decide +kernel) rfl (.inl rfl))) (fun _ _ _ _ _=>zB) (fun _ _ _ _ _=>(@jL _ _ _ _ _ _ _ _ dF (y9 (AK rfl) (by rfl) T.vx PyProof.Rows.boot_max (jB jC (jB (@jL _ _ _ _ _ _ _ _ z9 (jQ xa hr rfl (j5 (pv 1) (@jL _ _ _ _ _ _ _ _ kK jC (pv 0)) jC)) jC) jE))) (@jL _ _ _ _ _ _ _ _ kK jC (kQ K T.xf (jI (jR K) (jI (kL K) (pv 2) (pv 0)) jC))))))
   (jO (kY (j5 (jQ xa hr rfl (j5 (pv 0) jC (@jL _ _ _ _ _ _ _ _ kK (kQ K T.xf (j7 K (pv 1) rfl)) jC))) (zA (eG K) (by rfl) T.xq PyProof.Rows.boot_tuple (jB (pv 3) jE)) (zA (eG K) (by rfl) T.xq PyProof.Rows.boot_tuple (jB (pv 6) jE)))))))),?_⟩
 try dsimp only [jV,jU]
 have hc0:=hc;obtain ⟨dx,rl,ll,nl,fs,rs,ls,nv,hx,hf,hrl,hll,hnl,hR,hL,hN,d1,d2,d3⟩:=hc;have b1:=hdr.r8;have b2:=hdr.l8;have b3:=hdr.n6;refine (jA rfl (⟨x,dx,jA rfl (⟨hx,hf.no (by decide +kernel) (by decide +kernel) (by decide +kernel),zW x D R L N (yE rfl hc0 (by omega) (by omega) (cK hdr) (fun t0 H0 gs s0 ht00 ht0 hSp=>?_))⟩)⟩));refine ⟨t0,jA rfl (⟨.inr (SqT.of ht0),fun wa hwa0=>?_⟩)⟩;have hm0:(Z0 (JX R L.length) (qA R L.length) gs).length=R.length+2*L.length+2:=by rw [L8,eM]
 generalize Z0 (JX R L.length) (qA R L.length) gs=m0 at hm0 ⊢;have s1:=jJ hwa0 (.lst (m0.map V.int));have hwaH:=s0.free hwa0;refine (jA rfl (j8 ((s1 _ _ (s0 _ _ hx))) (T.clN) (T.xb) (hf.2.1) (⟨ll,jA rfl (⟨.inl (so (s1 _ _ (s0 _ _ hll))),jA rfl (⟨by omega,by rw [hL.1];omega,eQ (n:=((ls.length:Nat):Int).toNat) (fun i σ Hi=>∃(ms:List Int) (c1 c2:Option V),σ=[some (.ref s),some (.ref x),some (.ref wl),some (.ref wa),c1,c2,none]∧Hi wa=some (.lst (ms.map V.int))∧ms.length=R.length+2*L.length+2∧Same H Hi) (v6 m0 none none (yW rfl jD hm0 (s0.trans s1))) ?_ ?_⟩)⟩)⟩)))
 ·rintro i σ Hi hi ⟨ms,c1,c2,rfl,hwa,hml,sm⟩;rw [Int.toNat_natCast,hL.1] at hi;rw [Int.zero_add];obtain ⟨l,hl'⟩:∃l,L[i]?=some l:=⟨_,List.getElem?_eq_getElem hi⟩;obtain ⟨v,hv,y,rfl,dl,hl⟩:=hL.get hl';refine ⟨fun σ' H'=>∃ms:List Int,σ'=[some (.ref s),some (.ref x),some (.ref wl),some (.ref wa),some (.int (i:Int)),c2,none]∧H' wa=some (.lst (ms.map V.int))∧ms.length=R.length+2*L.length+2∧Same H H',?_,?_⟩
  ·refine (jA rfl (jA rfl (j9 (⟨s,ns,_,jA rfl (⟨sm.seq hS,h63,by omega,by omega,by omega,fun d1 d10 d11=>?_⟩)⟩))));refine ⟨rfl,jA rfl (bV (fun _=>?_) (fun _=>⟨ms,rfl,hwa,hml,sm⟩))⟩;refine (jA rfl (j8 ((sm _ _ hx)) (T.clN) (T.xb) (hf.2.1) ((jA rfl (qB (so (sm _ _ hll)) (kZ hv) (j8 ((sm _ _ hl)) (T.cl l.kd) (T.zu l.kd) (dA l.kd _ _ _ _ _) ((jA rfl (jA rfl (j8 ((sm _ _ hx)) (T.clN) (T.xg) (hf.1) (⟨rl,jA rfl (⟨.inl (so (sm _ _ hrl)),jA rfl (j9 ((yA wa _ _ (R.length+i) (yV rfl (by rw [hR.1];rfl) hwa (cZ (by rw [length_map];omega)) (?_)))))⟩)⟩)))))))))));rw [cJ];exact ⟨ms.set (R.length+i) l.room,rfl,jD,by rw [length_set];exact hml,qH hwaH sm⟩
  rintro σ' H1 ⟨ms,rfl,hwa,hml,sm⟩;have hl2:=sm _ _ hl;refine (jA rfl (j8 ((sm _ _ hx)) (T.clN) (T.xb) (hf.2.1) ((jA rfl (qB (so (sm _ _ hll)) (kZ hv) (⟨l.kd,y,dl,jA rfl (⟨hl2,R6 l.kd _ _ _ _ _,y,_,_,_,_,jA rfl (⟨⟨dl,hl2⟩,rfl,jA rfl (bV (fun _=>?_) (fun _=>⟨ms,_,jA rfl (⟨hwa,hml,sm⟩)⟩))⟩)⟩)⟩))))));refine (jA rfl (j8 ((sm _ _ hx)) (T.clN) (T.xb) (hf.2.1) ((jA rfl (qB (so (sm _ _ hll)) (kZ hv) (⟨l.kd,y,dl,jA rfl (⟨hl2,PF l.kd _ _ _ _ _,y,_,_,_,_,jA rfl (⟨⟨dl,hl2⟩,zz2,fun p1 hp1=>?_⟩)⟩)⟩))))))
  try dsimp only
  generalize hex:(match l.kd with|.plain=>(0:Int)|.basin=>l.extra|.pump=>l.extra)=ex;have u:=jJ hp1 (.lst ([(0:Int),ex].map V.int));have smu:=sm.trans u;refine (jA rfl (jA rfl (j9 (⟨s,ns,_,jA rfl (⟨smu.seq hS,h63,by omega,by omega,by omega,fun d1 d10 d11=>?_⟩)⟩))));obtain ⟨he,hhe,hat⟩:=tD [(0:Int),ex] d10 d11;refine (qB (so jD) hat (?_));have hwau:=u _ _ hwa;refine (jA rfl (jA rfl (jA rfl (j8 ((smu _ _ hx)) (T.clN) (T.xg) (hf.1) (⟨rl,jA rfl (⟨.inl (so (smu _ _ hrl)),jA rfl (j8 ((smu _ _ hx)) (T.clN) (T.xb) (hf.2.1) (⟨ll,jA rfl (⟨.inl (so (smu _ _ hll)),_,_,rfl,rfl,jA rfl (j9 ((yA wa _ _ (R.length+L.length+i) (yV rfl (by rw [hR.1,hL.1];rfl) hwau (cZ (by rw [length_map];omega)) (?_)))))⟩)⟩))⟩)⟩)))));rw [cJ];exact ⟨ms.set (R.length+L.length+i) he,_,jA rfl (⟨jD,by rw [length_set];exact hml,qH hwaH smu⟩)⟩
 rintro σ H2 ⟨ms,c1,c2,rfl,hwa2,hml,sm2⟩;have hA2:=hA.mono (WyAt.same sm2);refine (jA rfl (⟨wl,jA rfl (⟨.inl (so (sm2 _ _ hwl)),jA rfl (⟨by omega,by rw [hA.1];omega,fun pb hpb0=>?_⟩)⟩)⟩));refine ZH (n:=((us.length:Nat):Int).toNat) (caps:=[some (.ref s),some (.ref wl)]) (fun i zs _=>∃ps:List Nat,zs=ps.map (fun (p:Nat)=>V.int (p:Int))∧ps.length=i∧∀(j:Nat) (y:j4) (p:Nat),ys[j]?=some y→ps[j]?=some p→p≤y.2.length) hpb0 ⟨[],rfl,rfl,fun j y p _ h=>by cases h⟩ ?_ ?_
 ·rintro i zs Hj hi hle sj hY ⟨ps,rfl,hpl,hple⟩;rw [Int.toNat_natCast,hA.1] at hi;rw [Int.zero_add];obtain ⟨y,hy⟩:∃y,ys[i]?=some y:=⟨_,List.getElem?_eq_getElem hi⟩;obtain ⟨v,hv,t,st,vs,rfl,h1,h2,h3⟩:=hA2.get hy;have smj:=sm2.trans sj;refine yB (kS ?_);refine (jA rfl (jA rfl (j9 (⟨s,ns,_,jA rfl (⟨smj.seq hS,h63,by omega,by omega,by omega,fun d d0 d1=>?_⟩)⟩))));refine ⟨_,_,rfl,rfl,_,jA rfl (?_)⟩;refine (jA rfl (jA rfl (qB (so (smj _ _ hwl)) (kZ hv) (jY (SqT.of (sj _ _ h1)) rfl (⟨st,jA rfl (⟨.inr (SqT.of (sj _ _ h2)),_,_,rfl,rfl,_,_,rfl,rfl,(by omega),?_⟩)⟩)))));have hl3:=h3.1;obtain ⟨p,hp,hpy⟩:∃p:Nat,(if 0<d - 1 then d - 1 else 0)%(1+((vs.length:Nat):Int))=(p:Int)∧p≤y.2.length:=by
   have e0:=Int.emod_nonneg (if 0<d - 1 then d - 1 else 0) (show (1+((vs.length:Nat):Int))≠0 by omega);have e1:=Int.emod_lt_of_pos (if 0<d - 1 then d - 1 else 0) (show (0:Int)<1+((vs.length:Nat):Int) by omega);exact ⟨_,(Int.toNat_of_nonneg e0).symm,by omega⟩
  try dsimp only
  rw [hp];refine vV hpb0 sj hY hle (by omega) (Same.refl _) ⟨ps++[p],by rw [map_append];rfl,by rw [length_append,hpl];rfl,fun j y' p' hj hp'=>?_⟩
  by_cases hl:j<ps.length
  ·rw [List.getElem?_append_left hl] at hp';exact hple j y' p' hj hp'
  ·rw [List.getElem?_append_right (by omega)] at hp';have hz:j - ps.length=0:=by
    have:=(List.getElem?_eq_some_iff.mp hp').1;rw [length_singleton] at this;omega
   rw [hz] at hp';cases hp';rw [show j=i by omega,hy] at hj;cases hj;exact hpy
 rintro zs H4 s4 hpb hle4 ⟨pl,rfl,hpl,hple⟩;rw [Int.toNat_natCast,hA.1] at hpl;have sm4:=sm2.trans s4;refine (jA rfl (jA rfl (j8 ((sm4 _ _ hx)) (T.clN) (T.xl) (hf.2.2.1) (⟨nl,jA rfl (⟨.inl (so (sm4 _ _ hnl)),_,_,rfl,rfl,s,ns,_,jA rfl (⟨sm4.seq hS,h63,by omega,by omega,by rw [hN.1];omega,fun dd dd0 dd1=>?_⟩)⟩)⟩))));refine (jA rfl (⟨wa,jA rfl (.inl ⟨so (s4 _ _ hwa2),fun t1 ht10=>?_⟩)⟩));have v1:=jJ ht10 (.tup (ms.map V.int));refine (jA rfl (⟨pb,jA rfl (.inl ⟨so (v1 _ _ hpb),fun t2 ht20=>?_⟩)⟩));have v2:=jJ ht20 (.tup (pl.map fun (p:Nat)=>V.int (p:Int)));refine ⟨zz3,fun t3 ht30=>?_⟩;have v3:=jJ ht30 (.tup [V.int dd,V.ref t1,V.ref t2]);exact q t3 dd ms pl _ (((sm4.trans v1).trans v2).trans v3) ⟨t1,t2,jD,v3 _ _ (v2 _ _ jD),v3 _ _ jD⟩ ⟨hpl,h10,hok,hple⟩ dd0 hml
theorem u5:jT 2 ["_law_ways","_law_state_here","_law_k"] nK:=jS
include T in
theorem GW (F:kH K "_law_home" nK f fd) : FnOk P w K mg base jK 1 f fd ["_law_ways","_law_state_here"] (xU):=by
  refine F.ok2 u5 fun vs H Q E h=>?_
  obtain ⟨wl,st,us,ys,d,ms,pl,L,rfl,hwl,hA,⟨wt,pt,h1,h2,h3⟩,hf,q⟩:=h;refine ⟨rfl,fun _ _ _ _ hr=>?_⟩;refine ⟨_,(@jH _ _ _ _ _ (yZ PassesOwn.never rfl (zY (by rfl) T.xi (jB (kQ K T.xf (pv 0)) jE)) (kF (i:=2) u5.nd rfl (.inl rfl))
        (@qG _ _ _ (kU (kI zR (jI (jR K) (jI (jR K) (pv 1) jC) (pv 2)) (kQ K T.xf (jI (jR K) (jI (kL K) (pv 0) (pv 2)) jC))) (jO zI) kT)))
      (jO zI)),?_⟩
  try dsimp only [jV,jU]
  have h10:=hf.n10;have hul:=hA.1;have hz:=N0 hf;refine (jA rfl (⟨wl,jA rfl (⟨.inl (so hwl),jA rfl (⟨by omega,by omega,eQ (n:=((us.length:Nat):Int).toNat) (fun i σ Hi=>∃c:Option V,σ=[some (.ref wl),some (.ref st),c]∧(∀j,j<i→pl.getD j 0=(ys.getD j (0,[])).2.length)∧Hi=H) ⟨none,rfl,(fun j hj=>absurd hj (Nat.not_lt_zero _)),rfl⟩ ?_ ?_⟩)⟩)⟩))
  · rintro i σ Hi hi ⟨c,rfl,hall,rfl⟩
    rw [Int.toNat_natCast,hul] at hi;rw [Int.zero_add];obtain ⟨y,hy⟩:∃y,ys[i]?=some y:=⟨_,List.getElem?_eq_getElem hi⟩;obtain ⟨v,hv,t,sp,vs,rfl,g1,g2,g3⟩:=hA.get hy;obtain ⟨p,hp⟩:∃p,pl[i]?=some p:=⟨_,List.getElem?_eq_getElem (by rw [hf.len];exact hi)⟩;have ep:pl.getD i 0=p:=by rw [getD_eq_getElem?_getD,hp];rfl
    have ey:ys.getD i (0,[])=y:=by rw [getD_eq_getElem?_getD,hy];rfl
    have gl:=g3.1;refine (jA rfl (jY (SqT.of h1) rfl ((jA rfl (jY (SqT.of h3) (kZ (v:=.int (p:Int)) (by rw [List.getElem?_map,hp];rfl)) ((jA rfl (jA rfl (qB (so hwl) (kZ hv) (jY (SqT.of g1) rfl (⟨sp,jA rfl (⟨.inr (SqT.of g2),rfl,jA rfl (?_)⟩)⟩)))))))))))
    by_cases e:p=y.2.length
    · refine zJ (congrArg V.int (by rw [gl,e])) (jA rfl (⟨fun j hj=>?_,rfl⟩))
      by_cases hji:j<i
      · exact hall j hji
      · rw [show j=i by omega,ep,ey];exact e
    · refine ZU (fun z=>e (by have:=V.int.inj z;omega)) ?_
      rw [decide_eq_false (fun z=>e (by have:=hz.mp z i hi;rw [ep,ey] at this;exact this))] at q;exact q
  rintro σ Hi ⟨c,rfl,hall,rfl⟩;rw [Int.toNat_natCast,hul] at hall;rw [decide_eq_true (hz.mpr hall)] at q;exact q
theorem IX:LamScope true ["_law_one","_law_ways","_law_canal_here"] "_law_one" ["_law_ways","_law_canal_here"] (jM qP):=⟨rfl,rfl,rfl,by decide +kernel,rfl,rfl,by decide +kernel,lG (by decide +kernel),⟨_,rfl,by decide +kernel⟩⟩
theorem FR (T:Txt P w base K mg cP cB cU cR cN tkS eW eL eTW tkH) (xav:Def P w K mg base 9 "may" ["canal","ways","state"] [] (tK (jF cP cB cU) cR cN)) (ux:Def P w K mg base 10 "after" ["canal","ways","state","deed"] [] (iL (jF cP cB cU) cR cN)):FnV P w K mg base jK 14 (yC "law.<locals>._law_ahead" (kO qP) (kC qP) (jM qP) ["_law_one"] ["_law_ways","_law_canal_here"] (yL (jF cP cB cU) cR cN)):=by
 refine C5 (k:=13) IX (fun _ _ _ _ _ _ _ _=>rfl) fun A outer s H f cdv cl fvs v Q E hcl hr hc h=>?_
 obtain ⟨x,wl,st,H0,us,ys,d,ms,pl,D,R,L,N,rfl,⟨⟩,s0,h0,hcn,hdr,hwl,hA,hst,hfl,hml,hd0,q⟩:=h;have hu:_<cLine:=hr.units0;have hu1:=dP hr;have hu9:=QN hr;have hu10:=QJ hr;refine ⟨_,(jO (fN ["_law_deed","_law_canal_here","_law_ways","_law_one"] [2,1,0] (qR (jM qP)) (q0 (jQ xav hr rfl (j5 (pv 2) (pv 1) (pv 0)))) (fun _ _ _ _ _=>(kY (jB (pv 0) (jB (jQ ux hr rfl (yD (pv 1) (pv 2) (pv 3) (pv 0))) jE)))))),?_⟩;have sd:=iQ s0 h0;have hG:Stage _ _ _ D (kW H (cl.map (·.2))) x wl st us R L N ys d ms pl:=⟨hcn.same sd,hdr,sd _ _ hwl,hA.mono (WyAt.same sd),hst.del hc,hfl,hml⟩;refine (jA rfl (jA rfl (jA rfl ((t6 x wl st us ys d ms pl D R L N (y8 rfl hG (fun r zs H1 s1 hr0 hr1 hdd=>⟨r,rfl,⟨_,so hr1⟩,fun bt hbt=>?_⟩)))))));have hml0:(v9 R L N.length ys d ms pl).length≤999:=by
  have h1:=length_filter_le (fun de=>decide (v0 R L N.length ys d ms pl de="")) (yX ys.length L.length);rw [iD] at h1;have h2:=hfl.n10;have h3:=hdr.l8;exact Nat.le_trans h1 (by omega)
 refine zM (K:=K) (a:=r) (xs:=zs) (caps:=[some (.ref x),some (.ref wl),some (.ref st)]) (fun j ws Hk=>zG Hk ws (zO R L N ys (d,ms,pl) ((v9 R L N.length ys d ms pl).take j))) hbt (so hr1) ⟨rfl,fun i x e=>by cases e⟩ ?_ ?_
 ·rintro j v ws Hk hv hj hle sm hY hR;obtain ⟨de,hde,ta,rfl,hta⟩:=hdd.2 j v hv;have hin:=mem_filter.mp (mem_of_getElem? hde);have hj9:j<(v9 R L N.length ys d ms pl).length:=(List.getElem?_eq_some_iff.mp hde).1;refine yB (kS ?_);refine (jA rfl (jA rfl (jA rfl (jA rfl (jA rfl ((bW x wl st ta de us ys d ms pl D R L N (Z7 rfl ((hG.same s1).same sm) (sm _ _ hta) (pD hin.1) hd0 (of_decide_eq_true hin.2) (fun r2 H2 gs s2 hr2 hs2 hSp=>⟨small (by show 2≤1000;decide),fun tp htp=>?_⟩)))))))));have u:=jJ htp (.tup [V.ref ta,V.ref r2]);have hnx:=rW (s:=(d,ms,pl)) (ys:=ys) (N:=N) (de:=de) hdr hml hSp;refine vV (R:=fun j ws Hk=>zG Hk ws (zO R L N ys (d,ms,pl) ((v9 R L N.length ys d ms pl).take j))) hbt sm hY hle (by omega) (s2.trans u) ?_;have tk:∀a l,Hk a=some (.tup l)→upd (upd H2 tp (.tup [V.ref ta,V.ref r2])) bt (.lst (ws++[.ref tp])) a=some (.tup l):=fun a l e=>by rw [jG fun z=>by subst z;rw [hY] at e;cases e];exact u _ _ (s2 _ _ e)
  have hbt2:upd H2 tp (.tup [V.ref ta,V.ref r2]) bt=some (.lst ws):=u _ _ (s2 _ _ hY);have tk2:∀a l,upd H2 tp (.tup [V.ref ta,V.ref r2]) a=some (.tup l)→upd (upd H2 tp (.tup [V.ref ta,V.ref r2])) bt (.lst (ws++[.ref tp])) a=some (.tup l):=fun a l e=>by rw [jG fun z=>by subst z;rw [hbt2] at e;cases e];exact e
  have ht:(v9 R L N.length ys d ms pl).take (j+1)=(v9 R L N.length ys d ms pl).take j++[de]:=by rw [take_add_one,hde];rfl
  show zG _ _ (zO R L N ys (d,ms,pl) ((v9 R L N.length ys d ms pl).take (j+1)));rw [ht];unfold zO;rw [map_append];refine pF (p:=(yS de,jZ (J0 R L N ys (d,ms,pl) de))) (eN tk hR) (tk2 _ _ jD) (EQ (tk _ _ (sm _ _ hta))) ?_ (ER de) (lU _);have h3:(GV (upd H2 tp (.tup [V.ref ta,V.ref r2])) (jZ (J0 R L N ys (d,ms,pl) de))).1 (.ref r2):=by
   rw [hnx];exact fI (s:=(ZX d de,kJ ms (QK R L N ys d ms pl de gs),QZ pl de)) (hs2.same u)
  exact (GV.keep tk2 _).1 _ h3
 ·rintro ws Hg sg hbg hleg hR hn;rw [hdd.1,take_length] at hR;have sa:=(s1.trans sg);refine q _ _ _ (iR sa) ?_ (lA hn hbg) ?_
  ·have hb:bt∉cl.map (·.2):=fun hin=>by rw [hn bt hin] at hbg;cases hbg
   cases e:H bt with
   |none=>rfl
   |some o=>have:=s1 bt o (by rw [vD hb];exact e);rw [hbt] at this;cases this
  ·exact eN (fun a l e=>lA hn e) hR
theorem IY:LamScope false ["_law_one","_law_ways"] "_law_one" ["_law_ways"] (jM vI):=⟨rfl,rfl,rfl,by decide +kernel,rfl,rfl,by decide +kernel,lG (by decide +kernel),(show ∀y∈(jM vI).names,y.2≠.cell by decide +kernel)⟩
theorem FS (T:Txt P w base K mg cP cB cU cR cN tkS eW eL eTW tkH) (jv:Def P w K mg base 1 "_law_home" ["_law_ways","_law_state_here"] [] (xU)):FnV P w K mg base jK 3 (yC "law.<locals>._law_ended" (kO vI) (kC vI) (jM vI) ["_law_one"] ["_law_ways"] (zX)):=by
 refine C5 (k:=2) IY (fun _ _ _ _ _ _ _ _=>rfl) fun A outer s H f cdv cl fvs v Q E hcl hr hc h=>?_
 obtain ⟨wl,st,H0,us,ys,d,ms,pl,L,rfl,⟨⟩,s0,h0,hwl,hA,hst,hfl,q⟩:=h;have hu:_<cLine:=hr.units0;have hu1:=dP hr;have hu9:=QN hr;have hu10:=QJ hr;refine ⟨_,(jO (jQ jv hr rfl (jB (pv 1) (jB (pv 0) jE)))),?_⟩;have sd:=iQ s0 h0;refine (jA rfl (jA rfl ((J9 wl st us ys d ms pl L (yE rfl (sd _ _ hwl) (hA.mono (WyAt.same sd)) (hst.del hc) hfl (fun hn=>?_))))));exact q _ (iR (Same.refl _))
theorem dZ:jT 3 ["_law_first","_law_ahead","_law_row","_law_state_here","_law_deed","_law_pairs"] gG:=jS
include T in
theorem GT (F:kH K "_law_come" gG f fd) (zo:FnV P w K mg base jK 14 (yC "law.<locals>._law_ahead" (kO qP) (kC qP) (jM qP) ["_law_one"] ["_law_ways","_law_canal_here"] (yL (jF cP cB cU) cR cN))):FnOk P w K mg base jK 16 f fd ["_law_first","_law_ahead","_law_row"] (DP (yC "law.<locals>._law_ahead" (kO qP) (kC qP) (jM qP) ["_law_one"] ["_law_ways","_law_canal_here"] (yL (jF cP cB cU) cR cN))):=by
 refine F.ok2 dZ fun vs H Q E h=>?_
 obtain ⟨y,fa,rr,T0,k0,kf,row,des,rfl,hA,hsh,hfew,hone,hy,hk0,hrr,hks,hpa,q⟩:=h;refine ⟨rfl,fun _ _ _ _ hr=>?_⟩;have hu9:=QN hr;have hu10:=QJ hr;refine ⟨_,(@jH _ _ _ _ _ (jX 3 dZ.nd (pv 0))
   (@jH _ _ _ _ _ (yZ PassesOwn.never rfl (q0 (pv 2)) (kF (i:=4) dZ.nd rfl (.inr rfl))
    (@jH _ _ _ _ _ (JV (i:=5) ["_law_pair","_law_deed"] (qY 1 [4]) dZ.nd rfl (.inl rfl) rfl (qR (jM gG)) (cps 1 [4]) (q0 (bG (i:=1) zo (hr.mono (by decide)) zQ rfl (by first|exact .inl rfl|exact .inr rfl|exact .inr (.inl rfl)|exact .inr (.inr rfl)) (jB (pv 3) jE))) (fun _ _ _ _ _=>(kF (i:=0) (show List.Nodup (["_law_pair","_law_deed"]:List Str) from by decide +kernel) rfl (.inl rfl))) (fun _ _ _ _ _=>(JH (kI (SW hu9) (jI (jR K) (pv 0) jC) (pv 1)))) (fun _ _ _ _ _=>(pv 0)))
   (@jH _ _ _ _ _ (kU (kI zR (kQ K T.xf (pv 5)) jC) (jO ZN) kT)
   (@qG _ _ _ (jX 3 dZ.nd (jI (jR K) (jI (kL K) (pv 5) jC) jC))))))
   (jO (pv 3)))),?_⟩
 try dsimp only [jV,jU]
 have hrl:=hks.1;refine (jA rfl (jA rfl (⟨rr,rfl,⟨_,so hrr⟩,?_⟩)));refine QG (K:=K) (xs:=row) (fun i σ Hi=>∃yi ki c4 c5,σ=[some y,some (.ref fa),some (.ref rr),some yi,c4,c5]∧Same H Hi∧(GV Hi ki).1 yi∧T0.2 ki∧JO T0 ki (des.drop i) kf) (yA y k0 none none (yV rfl (Same.refl _) hy hk0 hpa)) (fun i σ Hi _ ⟨_,_,_,_,_,s,_⟩=>so (s _ _ hrr)) ?_ ?_
 ·rintro i x σ Hi hx ⟨yi,ki,c4,c5,rfl,s,hyi,hki,hpi⟩;obtain ⟨de,hde,hxk,hx8⟩:=hks.2 i x hx;have few:=hfew ki;obtain ⟨hlt,hdeE⟩:=List.getElem?_eq_some_iff.mp hde;rw [drop_eq_getElem_cons hlt,hdeE] at hpi;obtain ⟨kb,hb1,hb2⟩:=hpi;refine ⟨fa,rfl,jA rfl (hA _ _ ki _ _ s hki hyi fun p zs HP sp hp0 hpl hP1=>⟨p,rfl,⟨_,so hpl⟩,fun bt hbt=>?_⟩)⟩;have hzp:=hP1.1;have hxP:=qW (s.trans sp) hxk;refine zM (K:=K) (a:=p) (xs:=zs) (caps:=[some x]) (fun j ys Hj=>zG Hj ys (((T0.1 ki).take j).filter fun z=>decide (z.1=de))) hbt (so hpl) ⟨rfl,fun i x e=>by cases e⟩ ?_ ?_
  ·rintro j z ys Hj hz hj hle sm hY hR;obtain ⟨pr,t,b,b',p1,rfl,p3,p4,p5,p6,p7⟩:=hP1.2 j z hz;have p3':=sm _ _ p3;have ht:((T0.1 ki).take (j+1))=(T0.1 ki).take j++[pr]:=by rw [take_add_one,p1];rfl
   refine (jA rfl (⟨t,_,_,b,rfl,rfl,SqT.of p3',rfl,jA rfl (⟨pr.1,de,qW sm p4,qW sm hxP,p6,jA rfl (?_)⟩)⟩))
   by_cases hd:pr.1=de
   ·rw [decide_eq_true hd];refine kS (jA rfl (⟨ys,hY,JY (by omega),ys++[.ref t],jA rfl (⟨qH hbt sm,jD,by rw [length_append,length_singleton];omega,?_⟩)⟩));show zG _ _ (((T0.1 ki).take (j+1)).filter fun z=>decide (z.1=de));rw [ht,filter_append,filter_cons,if_pos (decide_eq_true hd)];have tk:∀a l,Hj a=some (.tup l)→upd Hj bt (.lst (ys++[.ref t])) a=some (.tup l):=fun a l e=>by rw [jG fun z=>by subst z;rw [hY] at e;cases e];exact e
    exact pF (eN tk hR) (tk _ _ p3') ((GV.keep tk _).1 _ (qW sm p4)) ((GV.keep tk _).1 _ (qW sm p5)) p6 p7
   ·rw [decide_eq_false hd];refine qI (JW sm hY hle (Same.refl _) ?_);show zG _ _ (((T0.1 ki).take (j+1)).filter fun z=>decide (z.1=de));rw [ht,filter_append,filter_cons,if_neg (by simpa using hd)]
    simpa using hR
  rintro ys Hg sg hbtg hleg hR;rw [hP1.1,take_length] at hR;have h1:=hone ki de hki;have hbm:(de,kb)∈(T0.1 ki).filter (fun z=>decide (z.1=de)):=mem_filter.mpr ⟨hb1,decide_eq_true rfl⟩;have sF:=(s.trans sp).trans sg;refine (jA rfl (⟨bt,jA rfl (⟨.inl (so hbtg),rfl,jA rfl (?_)⟩)⟩));generalize (T0.1 ki).filter (fun z=>decide (z.1=de))=fs at hR h1 hbm
  match fs,h1,hbm,hR with
  |[],_,hbm,_=>exact absurd hbm (by simp)
  |[pr],_,hbm,hR =>
   obtain rfl:pr=(de,kb):=(mem_singleton.mp hbm).symm
   match ys,hR with
   |[],hR=>exact absurd hR.1 (by simp)
   |_::_::_,hR=>exact absurd hR.1 (by simp)
   |[z],hR =>
    obtain ⟨pr',t,b,b',p1,rfl,p3,p4,p5,p6,p7⟩:=hR.2 0 z rfl;cases p1;exact zJ rfl (jA rfl (⟨bt,_,0,.ref t,rfl,rfl,so hbtg,kZ (j:=0) rfl,t,_,_,b',rfl,rfl,SqT.of p3,rfl,_,kb,_,jA rfl (⟨sF,p5,hsh ki _ hki hb1,hb2⟩)⟩))
  |_::_::_,h1,_,_=>exact absurd h1 (by simp)
 ·rintro σ Hf ⟨yi,ki,c4,c5,rfl,s,hyi,hki,hpi⟩;rw [hrl,drop_length] at hpi;obtain rfl:ki=kf:=hpi;exact (jA rfl (q yi Hf s hyi hki))
theorem gU:jT 2 ["_law_found","_law_due","_law_k","_law_state_here"] nL:=jS
include T in
theorem GX (F:kH K "_law_layers_alike" nL f fd) : FnOk P w K mg base jK 2 f fd ["_law_found","_law_due"] (CJ):=by
 refine F.ok2 gU fun vs H Q E h=>?_
 obtain ⟨f,d,LL,rfl,hf,hd,hll,hst,q⟩:=h;refine ⟨rfl,fun _ _ _ _ hr=>?_⟩;have hu9:=QN hr;have hu10:=QJ hr;refine ⟨_,(@jH _ _ _ _ _ (kU (PW.pt (ZA (Q3 (yH (y9 (cO (K:=K)) (by rfl) T.xh PyProof.Rows.boot_isinstance (jB (pv 0) (jB (cY (v:=.ty "list") rfl T.xn PyProof.Rows.boot_list rfl) jE))))) (dE (kI zR (kQ K T.xf (pv 0)) (kQ K T.xf (pv 1)))))) (jO zI) kT)
   (@jH _ _ _ _ _ (yZ PassesOwn.never rfl (zY (by rfl) T.xi (jB (kQ K T.xf (pv 1)) jE)) (kF (i:=2) gU.nd rfl (.inl rfl))
    (@jH _ _ _ _ _ (kU (PW.pt (ZA (Q3 (yH (y9 (cO (K:=K)) (by rfl) T.xh PyProof.Rows.boot_isinstance (jB (jI (kL K) (pv 0) (pv 2)) (jB (cY (v:=.ty "list") rfl T.xn PyProof.Rows.boot_list rfl) jE))))) (dE (kI zR (kQ K T.xf (jI (kL K) (pv 0) (pv 2))) (kQ K T.xf (jI (kL K) (pv 1) (pv 2))))))) (jO zI) kT)
   (@jH _ _ _ _ _ (yZ PassesOwn.never rfl (q0 (jI (kL K) (pv 1) (pv 2))) (kF (i:=3) gU.nd rfl (.inl rfl))
    (@qG _ _ _ (kU (kI (NV hu10) (pv 3) (jI (kL K) (pv 0) (pv 2))) (jO zI) kT)))
   (@qG _ _ _ (yZ PassesOwn.never rfl (q0 (jI (kL K) (pv 0) (pv 2))) (kF (i:=3) gU.nd rfl (.inl rfl))
    (@qG _ _ _ (kU (PW.pt (ZA (Q3 (yH (y9 (cO (K:=K)) (by rfl) T.xh PyProof.Rows.boot_isinstance (jB (pv 3) (jB (cY (v:=.ty "tuple") rfl T.xq PyProof.Rows.boot_tuple rfl) jE))))) (dE (kI zR (kQ K T.xf (pv 3)) jC)))) (jO zI) kT)))))))
   (jO zI))),?_⟩
 try dsimp only [jV,jU]
 obtain ⟨fs,f1,f2,f3⟩:=hf.ex;obtain ⟨ds,g1,g2,g3⟩:=hd.ex;refine (jA rfl (⟨_,_,_,_,_,rfl,rfl,TyOf.lst f1,ZK "list",jA rfl (qI ?_)⟩));refine (jA rfl (⟨f,jA rfl (⟨.inl (so f1),jA rfl (⟨d,jA rfl (⟨.inl (so g1),rfl,jA rfl (zJ (by rw [f2,g2]) ?_)⟩)⟩)⟩)⟩));refine (jA rfl (⟨d,jA rfl (⟨.inl (so g1),jA rfl (⟨by omega,by omega,eQ (n:=((ds.length:Nat):Int).toNat) (fun i σ Hi=>∃c3 c4:Option V,σ=[some (.ref f),some (.ref d),c3,c4]∧Hi=H) ⟨none,none,rfl,rfl⟩ ?_ ?_⟩)⟩)⟩))
 ·rintro i σ Hi hi ⟨c3,c4,rfl,rfl⟩;rw [Int.toNat_natCast,g2] at hi;rw [Int.zero_add];obtain ⟨a1,ys1,lay,x1,n1,e1,h1,k1⟩:=f3 i _ (List.getElem?_eq_getElem (show i<fs.length by omega));obtain ⟨a2,ys2,lay2,x2,n2,e2,h2,k2⟩:=g3 i _ (List.getElem?_eq_getElem (show i<ds.length by omega));rw [e1] at e2;cases e2;have hfi:fs[i]?=some (.ref a1):=by rw [List.getElem?_eq_getElem (show i<fs.length by omega),x1]
  have hdi:ds[i]?=some (.ref a2):=by rw [List.getElem?_eq_getElem (show i<ds.length by omega),x2]
  refine (jA rfl (jA rfl (qB (so f1) (kZ hfi) (⟨_,_,_,_,_,rfl,rfl,TyOf.lst h1,ZK "list",jA rfl (qI ?_)⟩))));refine (jA rfl (jA rfl (qB (so f1) (kZ hfi) (⟨a1,jA rfl (⟨.inl (so h1),jA rfl (jA rfl (qB (so g1) (kZ hdi) (⟨a2,jA rfl (⟨.inl (so h2),rfl,jA rfl (zJ (by rw [k1.1,k2.1]) ?_)⟩)⟩)))⟩)⟩))));refine (jA rfl (jA rfl (qB (so g1) (kZ hdi) (⟨a2,rfl,⟨_,so h2⟩,QG (K:=K) (a:=a2) (xs:=ys2) (fun j σ Hj=>∃c:Option V,σ=[some (.ref f),some (.ref d),some (.int (i:Int)),c]∧Hj=Hi) ⟨c4,rfl,rfl⟩ (fun j σ Hj _ ⟨_,_,e⟩=>by rw [e];exact so h2) ?_ ?_⟩))))
  ·rintro j x σ Hj hx ⟨c,rfl,rfl⟩;obtain ⟨k,hk,hg,h8⟩:=k2.2 j x hx;refine (jA rfl (jA rfl (jA rfl (qB (so f1) (kZ hfi) ((yA a1 ys1 k lay (yE rfl (so h1) hg h8 k1 (jA rfl (?_)))))))));rw [decide_eq_true (mem_of_getElem? hk)];exact qI ⟨_,rfl,rfl⟩
  rintro σ Hj ⟨c,rfl,rfl⟩;refine (jA rfl (jA rfl (qB (so f1) (kZ hfi) (⟨a1,rfl,⟨_,so h1⟩,QG (K:=K) (a:=a1) (xs:=ys1) (fun j σ Hi=>∃c:Option V,σ=[some (.ref f),some (.ref d),some (.int (i:Int)),c]∧Hi=Hj) ⟨c,rfl,rfl⟩ (fun j σ Hj _ ⟨_,_,e⟩=>by rw [e];exact so h1) ?_ ?_⟩))))
  ·rintro j x σ Hi hx ⟨c,rfl,rfl⟩;obtain ⟨k,hk,hg,h8⟩:=k1.2 j x hx;obtain ⟨s,rfl⟩:=hst lay (mem_of_getElem? e1) k (mem_of_getElem? hk);obtain ⟨t,rfl,wt,pt,t1,_⟩:=dM hg;exact (jA rfl (⟨_,_,_,_,_,rfl,rfl,TyOf.tup t1,ZK "tuple",jA rfl (qI (jA rfl (⟨t,jA rfl (⟨.inr (SqT.of t1),rfl,jA rfl (zJ rfl ⟨_,rfl,rfl⟩)⟩)⟩)))⟩))
  rintro σ Hi ⟨c,rfl,rfl⟩;exact ⟨_,_,rfl,rfl⟩
 rintro σ Hi ⟨c3,c4,rfl,rfl⟩;exact q _ (Same.refl _)
theorem gW:jT 4 ["_law_canal_here","_law_ways","_law_state_here","_law_most","_law_told_here"] nP:=jS
include T in
theorem G2 (F:kH K "_law_told" nP f fd) (xaK:DefX P w K mg base 19 "look" ["canal","ways","state","most"] [] (CF (jF cP cB cU) cR cN tA tH (vN kP) (vN kX) eTW)):FnOk P w K mg base jK 20 f fd ["_law_canal_here","_law_ways","_law_state_here","_law_most"] (rP (jF cP cB cU) cR cN tA tH (vN kP) (vN kX)):=by
 refine F.ok2 gW fun vs H Q E h=>?_
 obtain ⟨x,wl,st,us,ys,d,ms,pl,D,R,L,N,NN,most,rfl,hG,hd0,hT,hF,qF,qC,qE⟩:=h;refine ⟨rfl,fun _ _ _ _ hr=>?_⟩;refine ⟨_,(@jH _ _ _ _ _ (jX 4 gW.nd ZN)
   (@jH _ _ _ _ _ (SN rfl rfl rfl rfl T.ve T.vf (fun _ _ hx=>(qG (jX 4 gW.nd (rV xaK hx hr rfl (yD (pv 0) (pv 1) (pv 2) (pv 3)))))) (fun _=>(@qG _ _ _ (jX 4 gW.nd (kY (jB j6 (jB (qO jE) jE)))))))
   (jO (pv 4)))),?_⟩
 try dsimp only [jV,jU]
 refine ⟨fun σ' c H'=>σ'=[some (.ref x),some (.ref wl),some (.ref st),some (.int most),some .non]∧c=.ref eTW∧most<(((jP (kM R L N ys) (jZ (d,ms,pl)) NN).flatten.length:Nat):Int)∧Same (noT H) H'∧Tabs H' tA tH (vN kP) (vN kX),?_,?_⟩
 ·refine (jA rfl (jA rfl (jA rfl (jA rfl ((bW x wl st us ys d ms pl D R L N NN most (fX rfl hG hd0 hT hF (fun hle hany t rr lr xs des kf H' s' hT' ht hrr hks hp hmk hdl hLy h1 h2 h3=>(jA rfl (qF hle hany t rr lr xs des kf H' s' hT' ht hrr hks hp hmk hdl hLy h1 h2 h3))) (fun hle hany t lr H' s' hT' ht hLy h1=>(jA rfl (qC hle hany t lr H' s' hT' ht hLy h1))) (fun hlt H' s' hT'=>⟨rfl,rfl,hlt,s',hT'⟩))))))))
 rintro σ' c H2 ⟨rfl,rfl,hlt,s2,hT2⟩;refine ⟨rfl,zz0,fun a ha0=>?_⟩;have u1:=jJ ha0 (.lst []);refine ⟨zz2,fun t ht0=>?_⟩;have u2:=jJ ht0 (.tup [V.str "wide",V.ref a]);have u:=u1.trans u2;exact (jA rfl (qE hlt t a _ (s2.trans u) (hT2.same u) jD (u2 _ _ jD) (none_of s2 ha0)))
theorem cH:jT 4 ["_law_first","_law_ahead","_law_ended","_law_most","_law_layers","_law_met","_law_following","_law_state_here","_law_pair"] gF:=jS
include T in
theorem GQ (F:kH K "_law_book" gF f fd) (xw:FnV P w K mg base jK 3 (yC "law.<locals>._law_ended" (kO vI) (kC vI) (jM vI) ["_law_one"] ["_law_ways"] (zX))) (zo:FnV P w K mg base jK 14 (yC "law.<locals>._law_ahead" (kO qP) (kC qP) (jM qP) ["_law_one"] ["_law_ways","_law_canal_here"] (yL (jF cP cB cU) cR cN))):FnOk P w K mg base jK 18 f fd ["_law_first","_law_ahead","_law_ended","_law_most"] (sO w (yC "law.<locals>._law_ahead" (kO qP) (kC qP) (jM qP) ["_law_one"] ["_law_ways","_law_canal_here"] (yL (jF cP cB cU) cR cN)) (yC "law.<locals>._law_ended" (kO vI) (kC vI) (jM vI) ["_law_one"] ["_law_ways"] zX)):=by
 refine F.ok2 cH fun vs H Q E h=>?_
 obtain ⟨y,fa,fe,most,T0,M,k0,N,rfl,hA,hE,hsh,hF,hm1,hm16,hy,h8,hk0,qL,qN⟩:=h;refine ⟨rfl,fun _ _ _ _ hr=>?_⟩;have hu9:=QN hr;have hu10:=QJ hr;refine ⟨_,(@jH _ _ _ _ _ (jX 4 cH.nd (qO (jB (qO (jB (pv 0) jE)) jE)))
   (@jH _ _ _ _ _ (jX 5 cH.nd (BL hu9 (pv 0) zI))
   (@jH _ _ _ _ _ (rB PassesOwn.never (kI qQ (kQ K T.xf (bZ ["_law_state_here","_law_ended"] [2] (qR (jM gF)) (q0 (jI (kL K) (pv 4) (QQ QL jC))) (fun _ _ _ _ _=>(JH (yH (bG (i:=1) xw (hr.mono (by decide)) zQ rfl (by first|exact .inl rfl|exact .inr rfl|exact .inr (.inl rfl)|exact .inr (.inr rfl)) (jB (pv 0) jE))))) (fun _ _ _ _ _=>(pv 0)))) jC) (@jH _ _ _ _ _ (jX 6 cH.nd (qO jE))
   (@jH _ _ _ _ _ (yZ PassesOwn.never rfl (q0 (jI (kL K) (pv 4) (QQ QL jC))) (kF (i:=7) cH.nd rfl (.inl rfl))
    (@qG _ _ _ (yZ PassesOwn.never rfl (q0 (bG (i:=1) zo (hr.mono (by decide)) zQ rfl (by first|exact .inl rfl|exact .inr rfl|exact .inr (.inl rfl)|exact .inr (.inr rfl)) (jB (pv 7) jE))) (kF (i:=8) cH.nd rfl (.inl rfl))
    (@qG _ _ _ (kU (DS (xZ hu9 (jI (jR K) (pv 8) jC) (pv 5))) (@jH _ _ _ _ _ (CN hu9 (pv 5) (jI (jR K) (pv 8) jC) zI rfl)
   (@jH _ _ _ _ _ (JE (QR PySem.F.plainAttrs_list PySem.F.slot_list_append PySem.F.type_list_append QE (pv 6) (jB (jI (jR K) (pv 8) jC) jE)))
   (@qG _ _ _ (kU (kI EN (y9 xH (by rfl) T.xf PySem.boot_len (jB (pv 5) jE)) (pv 3)) (jO ZN) kT)))) kT)))))
   (@jH _ _ _ _ _ (kU (kI qQ (kQ K T.xf (pv 6)) jC) (jO (pv 4)) kT)
   (@qG _ _ _ (JE (QR PySem.F.plainAttrs_list PySem.F.slot_list_append PySem.F.type_list_append QE (pv 4) (jB (pv 6) jE))))))))
   (jO (pv 4))))),?_⟩
 try dsimp only [jV,jU]
 have dom:=fun i x (h:x∈(jP T0 k0 i).flatten)=>cX hsh hk0 i x h
 have hfit:=hF.fit;have hN:=hF.low;have hSt:=hF.stop;refine (jA rfl (⟨small (by show 1≤1000;decide),fun l1 hl1=>⟨small (by show 1≤1000;decide),fun lr hlr=>?_⟩⟩));have u1:=jJ hl1 (.lst [y]);have u2:=jJ hlr (.lst [.ref l1]);have ne1:l1≠lr:=fun z=>by rw [← z,jD] at hlr;cases hlr
 refine fun dm hdm=>(jA rfl (⟨jD,k0,qW ((u1.trans u2).trans (jJ hdm _)) hy,h8,?_⟩))
 have u3:Same (upd (upd H l1 (.lst [y])) lr (.lst [.ref l1])) (upd (upd (upd (upd H l1 (.lst [y])) lr (.lst [.ref l1])) dm (GO w dm [])) dm (GO w dm [(k0,y,.bl true)])):=qH hdm (jJ hdm _);have s3:=(u1.trans u2).trans u3;have hlr0:H lr=none:=none_of u1 hlr;have hdm0:H dm=none:=none_of (u1.trans u2) hdm;have hl0:(jP T0 k0 0).flatten.length=1:=rfl;refine ⟨EU w H y fa fe most lr dm T0 k0 N,(zW N 0 none none none (yE rfl (Nat.add_zero N) s3 (by rw [hl0];exact hm1) (RO jD (qW s3 hy) h8) (wY (u3 _ _ jD) (u3 _ _ (u2 _ _ jD)) ne1 (qW s3 hy) h8))),?_⟩;rintro m σ Hi ⟨i,c6,c7,c8,rfl,hm,s,hsz,hMt,hL⟩;obtain ⟨xs,la,ys,f1,f2,f3,f4,f5,f6⟩:=hL.last;have hyl:ys.length≤1000:=by
  rw [f5.1];have:=iU (T:=T0) (k0:=k0) i;omega
 refine (jA rfl (jA rfl (⟨lr,xs,_,_,rfl,rfl,so f1,f2,la,rfl,⟨_,so f4⟩,fun bt hbt=>?_⟩)));refine zM (K:=K) (a:=la) (xs:=ys) (caps:=[some (.ref fe)]) (fun j zs Hj=>KeysAt Hj zs (((j3 T0 k0 i).take j).filter M)) hbt (so f4) ⟨rfl,fun i x e=>by cases e⟩ ?_ ?_
 ·rintro j x zs Hj hx hj hle sm hY hR;obtain ⟨kj,hkj,hgj,h8j⟩:=f5.2 j x hx;have hdj:=dom i kj (Q1 (mem_of_getElem? hkj));refine ⟨fe,rfl,jA rfl (hE _ _ kj _ _ (s.trans sm) hdj (qW sm hgj) fun He se=>(jA rfl (?_)))⟩;have ht:((j3 T0 k0 i).take (j+1))=(j3 T0 k0 i).take j++[kj]:=by rw [take_add_one,hkj];rfl
  cases hMk:M kj with
  |true =>
   refine kS (jA rfl (vV hbt sm hY hle (by omega) se ?_));show KeysAt _ _ (((j3 T0 k0 i).take (j+1)).filter M);rw [ht,filter_append,filter_cons,if_pos hMk];exact hR.snoc (k:=kj) (fun a l e=>by rw [jG fun z=>by subst z;rw [hY] at e;cases e];exact se _ _ e) (qW sm hgj) h8j
  |false =>
   refine qI (JW sm hY hle se ?_);show KeysAt _ _ (((j3 T0 k0 i).take (j+1)).filter M);rw [ht,filter_append,filter_cons,if_neg (by rw [hMk];decide)];have hR2:=hR.same se
   simpa using hR2
 rintro zs Hg sg hbtg hleg hR;rw [f5.1,take_length] at hR;have hany:=B3 (M:=M) (l:=j3 T0 k0 i);have sG:=s.trans sg;refine ⟨bt,jA rfl (⟨.inl (so hbtg),rfl,jA rfl (?_)⟩)⟩;cases hf:(j3 T0 k0 i).filter M with
 |cons kf rest =>
  rw [hf] at hR hany;have hi:i=N:=iZ hN hm (.inl hany);subst hi;have hz:=hR.1;exact qX (fun e=>by have e:=V.int.inj e;rw [hz,length_cons] at e;omega) (jA rfl (qL hsz lr Hg sG (hL.same sg)))
 |nil =>
  rw [hf] at hR hany;obtain rfl:zs=[]:=eq_nil_of_length_eq_zero hR.1;refine vK rfl ⟨fun σ' H'=>∃m',m'<m∧EU w H y fa fe most lr dm T0 k0 N m' σ' H',fun _ _ h=>h,?_⟩;have hMg:=hMt.same sg;have hLg:=hL.same sg;have f1g:=sg _ _ f1;have f4g:=sg _ _ f4;have f5g:=f5.same sg;obtain ⟨kvs0,d0,_⟩:=hMg.ex;refine ⟨Nat.zero_le _,fun r hr0=>?_⟩;have u0:=jJ hr0 (.lst []);have hne:r≠dm:=fun z=>by rw [z,d0] at hr0;cases hr0
  have lane:la≠dm:=fun z=>by rw [z,d0] at f4g;cases f4g
  have lrne:lr≠dm:=fun z=>by rw [z,d0] at f1g;cases f1g
  have rlr:r≠lr:=fun z=>by rw [z,f1g] at hr0;cases hr0
  refine (jA rfl (jA rfl (⟨lr,xs,_,_,rfl,rfl,so (u0 _ _ f1g),f2,la,rfl,⟨_,so (u0 _ _ f4g)⟩,?_⟩)));have hiN:J3 T0 k0 i≠[]→i+1≤N:=fun hnx=>by
   by_cases h:i=N
   ·subst h
    rcases hSt with (h|h)|h
    ·rw [hany] at h;cases h
    ·exact absurd h hnx
    ·omega
   ·omega
  refine QG (K:=K) (a:=la) (xs:=ys) (fun j σ Hj=>∃acc c7 c8,σ=[some y,some (.ref fa),some (.ref fe),some (.int most),some (.ref lr),some (.ref dm),some (.ref r),c7,c8]∧NextM w Hg Hj dm r (jP T0 k0 i).flatten acc∧acc=qK T0 (jP T0 k0 i).flatten [] ((j3 T0 k0 i).take j)∧((((jP T0 k0 i).flatten++acc).length:Nat):Int)≤most) ⟨[],c7,c8,rfl,⟨fun a o _ e=>u0 _ _ e,hr0,hne,⟨[],jD,rfl,fun i x e=>by cases e⟩,by rw [append_nil];exact hMg.same u0⟩,rfl,by rw [append_nil];exact hsz⟩ (fun j σ Hj _ ⟨_,_,_,_,hI,_⟩=>so (hI.keep la _ lane f4g)) ?_ ?_
  ·rintro j x σ Hj hx ⟨acc,c7,c8,rfl,hI,hacc,hle⟩;obtain ⟨k,hk,hyk,h8k⟩:=f5g.2 j x hx;have hps:=dom i k (Q1 (mem_of_getElem? hk));have tkI:∀a z,Hg a=some (.tup z)→Hj a=some (.tup z):=fun a z e=>hI.keep a _ (fun y=>by rw [y,d0] at e;cases e) e
   have sI:Same H Hj:=fun a o e=>hI.keep a o (qV e hdm0) (sG _ _ e)
   have hyk':=(GV.keep tkI k).1 _ hyk;refine ⟨fa,rfl,jA rfl (hA _ _ k _ _ sI hps hyk' fun p zs HP up hp0 hpl hPP=>⟨p,rfl,⟨_,so hpl⟩,?_⟩)⟩;obtain ⟨kvsI,d1,_⟩:=hI.came.ex;obtain ⟨ysI,r1,r2⟩:=hI.row;have pne:p≠dm:=fun z=>by rw [z,d1] at hp0;cases hp0
   have pnr:p≠r:=fun z=>by rw [z,r1] at hp0;cases hp0
   refine QG (K:=K) (a:=p) (xs:=zs) (fun l σ Hl=>∃acc' c8,σ=[some y,some (.ref fa),some (.ref fe),some (.int most),some (.ref lr),some (.ref dm),some (.ref r),some x,c8]∧NextM w Hg Hl dm r (jP T0 k0 i).flatten acc'∧(∀a o,a≠dm→a≠r→HP a=some o→Hl a=some o)∧acc'=vU (jP T0 k0 i).flatten acc ((T0.1 k).take l)∧((((jP T0 k0 i).flatten++acc').length:Nat):Int)≤most) ⟨acc,c8,rfl,⟨fun a o n e=>up _ _ (hI.keep a o n e),hI.rn,hI.nr,⟨ysI,up _ _ r1,r2.same up⟩,hI.came.same up⟩,fun _ _ _ _ e=>e,rfl,hle⟩ (fun l σ Hl _ ⟨_,_,_,_,kp,_⟩=>so (kp p _ pne pnr hpl)) ?_ ?_
   ·rintro l z σ Hl hz ⟨acc',c8,rfl,hJ,kp,hacc',hle'⟩;obtain ⟨pr,t,b,c,p1,rfl,p3,p4,p5,p6,p7⟩:=hPP.2 l z hz;have tkJ:∀a z,HP a=some (.tup z)→Hl a=some (.tup z):=fun a z e=>kp a _ (fun y=>by rw [y,up _ _ d1] at e;cases e) (fun y=>by rw [y,up _ _ r1] at e;cases e) e
    have p3':=tkJ _ _ p3;have p5':=(GV.keep tkJ _).1 _ p5;have ht:((T0.1 k).take (l+1))=(T0.1 k).take l++[pr]:=by rw [take_add_one,p1];rfl
    obtain ⟨kvs,e1,g,e2⟩:=hJ.came.ex;refine (jA rfl (⟨t,_,_,c,rfl,rfl,SqT.of p3',rfl,jA rfl ((v6 dm kvs pr.2 (yE rfl (.of e1) g p5' p7 (jA rfl (?_)))))⟩));rw [AC,e2]
    by_cases hmm:pr.2∈(jP T0 k0 i).flatten++acc'
    ·rw [decide_eq_true hmm];refine qI ⟨acc',jA rfl (⟨hJ,kp,?_,hle'⟩)⟩;rw [ht,eJ,← hacc',yR,if_pos hmm]
    ·rw [decide_eq_false hmm];obtain ⟨ysr,er,hky⟩:=hJ.row;have hkl:kvs.length=((jP T0 k0 i).flatten++acc').length:=by rw [← e2,length_map]
     have hnw:acc'++[pr.2]=vU (jP T0 k0 i).flatten acc ((T0.1 k).take (l+1)):=by rw [ht,eJ,← hacc',yR,if_neg hmm]
     have hin:∀x∈acc'++[pr.2],x∈qK T0 (jP T0 k0 i).flatten [] (j3 T0 k0 i):=fun x hx=>rJ (i:=j) (j:=l+1) hk rfl (by rw [← hacc,← hnw];exact hx)
     refine kS (jA rfl (jA rfl (⟨t,_,_,c,rfl,rfl,SqT.of p3',rfl,v6 dm kvs pr.2 (Z7 rfl e1 g p5' p7 (JY (by omega)) (?_))⟩)));have er3:upd Hl dm (GO w dm (vO kvs pr.2 c (.bl true))) r=some (.lst ysr):=by rw [jG hJ.nr];exact er
     have t3:upd Hl dm (GO w dm (vO kvs pr.2 c (.bl true))) t=some (.tup [b,c]):=by rw [jG (fun z=>by rw [z,e1] at p3';cases p3')];exact p3'
     refine (jA rfl (⟨.inl ⟨rfl,_,so er3⟩,jA rfl (⟨t,_,_,c,rfl,rfl,SqT.of t3,rfl,r,_,_,rfl,rfl,er3,JY (by have:=hky.1;rw [length_append] at hle';omega),?_⟩)⟩));have hJ':=hJ.put e1 g e2 er hky hmm p5' p7;obtain ⟨kvs2,e1',g',e2'⟩:=hJ'.came.ex;have hk2:kvs2.length=((jP T0 k0 i).flatten++(acc'++[pr.2])).length:=by rw [← e2',length_map]
     refine (jA rfl (⟨dm,kvs2,rfl,.of e1',g',jA rfl (j9 ((jA rfl (bV (fun c=>?_) (fun c=>?_)))))⟩))
     ·have c':most<((kvs2.length:Nat):Int):=of_decide_eq_true c;have h1N:=hiN (ne_nil_of_mem (hin pr.2 (by simp)));have hle2:=rE (l:=(jP T0 k0 i).flatten++(acc'++[pr.2])) (m:=(jP T0 k0 (i+1)).flatten) (by rw [← e2'];exact g'.once) (fun x hx=>by rw [zZ];exact (mem_append.mp hx).elim (fun h=>mem_append_left _ h) fun h=>mem_append_right _ (hin x h));have hgrow:=iN (T:=T0) (k0:=k0) (i:=i+1) (N - (i+1));rw [show i+1+(N - (i+1))=N by omega] at hgrow;exact qN (by omega) _ (fun a o e=>hJ'.keep a o (qV e hdm0) (sG _ _ e))
     ·have c':¬most<((kvs2.length:Nat):Int):=of_decide_eq_false (Bool.eq_false_iff.mpr c);exact ⟨acc'++[pr.2],jA rfl (⟨hJ',(fun a o n1 n2 e=>by rw [jG n2,jG n1];exact kp a o n1 n2 e),hnw,by omega⟩)⟩
   ·rintro σ Hl ⟨acc',c8,rfl,hJ,kp,hacc',hle'⟩;refine ⟨acc',_,jA rfl (⟨hJ,?_,hle'⟩)⟩;rw [hPP.1,take_length] at hacc';rw [hacc',take_add_one,hk];show _=qK T0 _ [] ((j3 T0 k0 i).take j++[k]);rw [pC,← hacc]
  ·rintro σ Hf ⟨acc,c7,c8,rfl,hI,hacc,hle⟩;rw [f5g.1,take_length] at hacc;have hacc:acc=J3 T0 k0 i:=hacc;subst hacc;obtain ⟨ysr,er,hky⟩:=hI.row;have hzl:=hky.1;have hLf:=hLg.keepB hI.keep d0;have sF:Same H Hf:=fun a o e=>hI.keep a o (qV e hdm0) (sG _ _ e)
   have f1f:=hI.keep lr _ lrne f1g;refine (jA rfl (⟨r,jA rfl (⟨.inl (so er),rfl,jA rfl (?_)⟩)⟩));cases hnx:J3 T0 k0 i with
   |nil =>
    have hi:i=N:=iZ hN hm (.inr hnx);subst hi;rw [hnx] at hzl;exact vK (congrArg V.int (by rw [hzl];rfl)) (jA rfl (qL hsz lr Hf sF hLf))
   |cons kx rest =>
    have h1N:=hiN (by rw [hnx];simp);rw [hnx,length_cons] at hzl;have hll:=bF (T:=T0) (M:=M) (k0:=k0) i (fun j hj=>hN j (by omega));refine qX (fun e=>by have e:=V.int.inj e;omega) (jA rfl (⟨.inl ⟨rfl,_,so f1f⟩,jA rfl (⟨lr,_,_,rfl,rfl,f1f,JY (by omega),?_⟩)⟩));refine ⟨m - 1,by omega,i+1,_,_,jA rfl (⟨by omega,qH hlr0 sF,?_,?_,?_⟩)⟩
    ·rw [zZ];exact hle
    ·rw [zZ];exact hI.came.keep f1f
    ·rw [eO];exact hLf.put f1f er hky rlr
theorem u6:jT 5 ["_law_told_here","_law_state_here","_law_ahead","_law_ended","_law_layers","_law_come_here"] gH:=jS
include T in
theorem G0 (F:kH K "_law_right" gH f fd) (zz:Def P w K mg base 2 "_law_layers_alike" ["_law_found","_law_due"] [] (CJ)) (xw:FnV P w K mg base jK 3 (yC "law.<locals>._law_ended" (kO vI) (kC vI) (jM vI) ["_law_one"] ["_law_ways"] (zX))) (jw:Def P w K mg base 16 "_law_come" ["_law_first","_law_ahead","_law_row"] [] (DP (yC "law.<locals>._law_ahead" (kO qP) (kC qP) (jM qP) ["_law_one"] ["_law_ways","_law_canal_here"] (yL (jF cP cB cU) cR cN)))):FnOk P w K mg base jK 19 f fd ["_law_told_here","_law_state_here","_law_ahead","_law_ended","_law_layers"] (pL (yC "law.<locals>._law_ahead" (kO qP) (kC qP) (jM qP) ["_law_one"] ["_law_ways","_law_canal_here"] (yL (jF cP cB cU) cR cN)) (yC "law.<locals>._law_ended" (kO vI) (kC vI) (jM vI) ["_law_one"] ["_law_ways"] zX)):=by
 refine F.ok2 u6 fun vs H Q E h=>?_
 obtain ⟨t,y,fa,fe,lv,T0,M,k0,N,rfl,hA,hE,hsh,hfew,hone,hy,hk0,hfit,hN,hdm,hTo,q⟩:=h;refine ⟨rfl,fun _ _ _ _ hr=>?_⟩;have hu1:=dP hr;refine ⟨_,(@jH _ _ _ _ _ (kU (kI DY (pv 4) ZN) (jO (J7 (RK hu1) (pv 0) (kY (jB j6 (jB (qO jE) jE))))) kT)
   (@jH _ _ _ _ _ (kU (PW.pt (ZA (Q3 (yH (y9 (cO (K:=K)) (by rfl) T.xh PyProof.Rows.boot_isinstance (jB (pv 0) (jB (cY (v:=.ty "tuple") rfl T.xq PyProof.Rows.boot_tuple rfl) jE))))) (ZA (kI lP (kQ K T.xf (pv 0)) jC) (dE (Q3 (yH (y9 (cO (K:=K)) (by rfl) T.xh PyProof.Rows.boot_isinstance (jB (jI (jR K) (pv 0) jC) (jB (cY (v:=.ty "str") rfl T.uo PyProof.Rows.boot_str rfl) jE))))))))) (jO zI) kT)
   (@jH _ _ _ _ _ (kU (Q3 (yH (jQ zz hr rfl (jB (jI (jR K) (pv 0) (QQ QL jC)) (jB (pv 4) jE))))) (jO zI) kT)
   (@jH _ _ _ _ _ (kU (kI qQ (kQ K T.xf (bZ ["_law_one","_law_ended"] [3] (qR (jM gH)) (q0 (jI (kL K) (pv 4) (QQ QL jC))) (fun _ _ _ _ _=>(JH (yH (bG (i:=1) xw (hr.mono (by decide)) zQ rfl (by first|exact .inl rfl|exact .inr rfl|exact .inr (.inl rfl)|exact .inr (.inr rfl)) (jB (pv 0) jE))))) (fun _ _ _ _ _=>(pv 0)))) jC) (jO (sV (J7 qQ (jI (jR K) (pv 0) jC) j6) (sU (J7 qQ (kQ K T.xf (pv 0)) jC)))) kT)
   (@jH _ _ _ _ _ (kU (PW.pt (ZA (kI zR (jI (jR K) (pv 0) jC) j6) (ZA (kI zR (kQ K T.xf (pv 0)) jC) (ZA (Q3 (yH (y9 (cO (K:=K)) (by rfl) T.xh PyProof.Rows.boot_isinstance (jB (jI (jR K) (pv 0) jC) (jB (cY (v:=.ty "list") rfl T.xn PyProof.Rows.boot_list rfl) jE))))) (dE (kI zR (kQ K T.xf (jI (jR K) (pv 0) jC)) (@jL _ _ _ _ _ _ _ _ z9 (kQ K T.xf (pv 4)) jC))))))) (jO zI) kT)
   (@jH _ _ _ _ _ (jX 5 u6.nd (jQ jw hr rfl (j5 (pv 1) (pv 2) (jI (jR K) (pv 0) jC))))
   (jO (sV (J7 CY (pv 5) ZN) (sU (bG (i:=3) xw (hr.mono (by decide)) zQ rfl (by first|exact .inl rfl|exact .inr rfl|exact .inr (.inl rfl)|exact .inr (.inr rfl)) (jB (pv 5) jE))))))))))),?_⟩
 try dsimp only [jV,jU]
 have hst:∀lay∈jP T0 k0 N,∀k∈lay,∃s,k=jZ s:=fun lay hl k hk=>hdm k (cX hsh hk0 N k (mem_flatten.mpr ⟨lay,hl,hk⟩))
 have dom:=fun i x (h:x∈(jP T0 k0 i).flatten)=>cX hsh hk0 i x h
 cases hTo with
 |wide a h1 h2 =>
  refine ⟨_,rfl,rfl,jA rfl (vK rfl (jA rfl (⟨zz0,fun b hb0=>⟨zz2,fun t2 ht20=>?_⟩⟩)))⟩;have u1:=jJ hb0 (.lst []);have u2:=jJ ht20 (.tup [V.str "wide",V.ref b]);have u:=u1.trans u2;have hab:a≠b:=fun z=>by rw [z,hb0] at h2;cases h2
  refine ⟨t,t2,_,_,[true,true],rfl,rfl,SqT.of (u _ _ h1),SqT.of jD,rfl,rfl,fun j hj=>?_,q _ u⟩
  match j,hj with
  |0,_=>exact .flat rfl rfl
  |1,_=>exact .lst hab (so (u _ _ h2)) (so (u2 _ _ jD)) rfl rfl
  |j+2,hj=>exact absurd hj (by show ¬j+2<2;omega)
 |doomed ll lr hany hll h1 hlr =>
  refine ⟨_,rfl,rfl,jA rfl (qX (fun e=>nomatch e) ?_)⟩;refine (jA rfl (⟨_,_,_,_,_,rfl,rfl,TyOf.tup h1,ZK "tuple",jA rfl (qI ?_)⟩));refine (jA rfl (⟨t,jA rfl (⟨.inr (SqT.of h1),_,_,rfl,rfl,jA rfl (qI ?_)⟩)⟩));refine (jA rfl (⟨t,_,_,.str "doomed",rfl,rfl,SqT.of h1,rfl,_,_,_,_,_,rfl,rfl,TyOf.str _,ZK "str",jA rfl (qI ?_)⟩));refine (jA rfl (jA rfl (⟨t,_,_,.ref lr,rfl,rfl,SqT.of h1,cQ (n:=1) rfl rfl,jA rfl (⟨lr,ll,jA rfl (⟨hlr,hll,by rw [ZJ];exact hN,hst,fun H1 s=>(jA rfl (qI ?_))⟩)⟩)⟩)));have hll1:=hll.same s;obtain ⟨xs1,la,ys,f1,f2,f3,f4,f5,f6⟩:=hll1.last;have hyl:ys.length≤1000:=by
   rw [f5.1];have:=iU (T:=T0) (k0:=k0) N;omega
  refine (jA rfl (jA rfl (⟨ll,xs1,_,_,rfl,rfl,so f1,f2,la,rfl,⟨_,so f4⟩,fun bt hbt=>?_⟩)));refine zM (K:=K) (a:=la) (xs:=ys) (caps:=[some (.ref fe)]) (fun j zs Hj=>KeysAt Hj zs (((j3 T0 k0 N).take j).filter M)) hbt (so f4) ⟨rfl,fun i x e=>by cases e⟩ ?_ ?_
  ·rintro j x zs Hj hx hj hle sm hY hR;obtain ⟨kj,hkj,hgj,h8j⟩:=f5.2 j x hx;have hdj:=dom N kj (Q1 (mem_of_getElem? hkj));refine ⟨fe,rfl,jA rfl (hE _ _ kj _ _ (s.trans sm) hdj (qW sm hgj) fun He se=>(jA rfl (?_)))⟩;have ht:((j3 T0 k0 N).take (j+1))=(j3 T0 k0 N).take j++[kj]:=by rw [take_add_one,hkj];rfl
   cases hMk:M kj with
   |true =>
    refine kS (jA rfl (vV hbt sm hY hle (by omega) se ?_));show KeysAt _ _ (((j3 T0 k0 N).take (j+1)).filter M);rw [ht,filter_append,filter_cons,if_pos hMk];exact hR.snoc (k:=kj) (fun a l e=>by rw [jG fun z=>by subst z;rw [hY] at e;cases e];exact se _ _ e) (qW sm hgj) h8j
   |false =>
    refine qI (JW sm hY hle se ?_);show KeysAt _ _ (((j3 T0 k0 N).take (j+1)).filter M);rw [ht,filter_append,filter_cons,if_neg (by rw [hMk];decide)];have hR2:=hR.same se
    simpa using hR2
  rintro zs Hg sg hbtg hleg hR;rw [f5.1,take_length] at hR;have sG:=s.trans sg;refine ⟨bt,jA rfl (⟨.inl (so hbtg),rfl,jA rfl (?_)⟩)⟩;rw [OX hany] at hR;have hz:=hR.1;have h1g:=sG _ _ h1;refine vK (congrArg V.int (by rw [hz];rfl)) (jA rfl (⟨t,_,_,.str "doomed",rfl,rfl,SqT.of h1g,rfl,rfl,true,rfl,kS (jA rfl (⟨t,jA rfl (⟨.inr (SqT.of h1g),rfl,q _ sG⟩)⟩))⟩))
 |home ll rr lr xs des kf hany hll h1 hlr hrr hks hpa hmk hdl =>
  refine ⟨_,rfl,rfl,jA rfl (qX (fun e=>nomatch e) ?_)⟩;refine (jA rfl (⟨_,_,_,_,_,rfl,rfl,TyOf.tup h1,ZK "tuple",jA rfl (qI ?_)⟩));refine (jA rfl (⟨t,jA rfl (⟨.inr (SqT.of h1),_,_,rfl,rfl,jA rfl (qI ?_)⟩)⟩));refine (jA rfl (⟨t,_,_,.str "home",rfl,rfl,SqT.of h1,rfl,_,_,_,_,_,rfl,rfl,TyOf.str _,ZK "str",jA rfl (qI ?_)⟩));refine (jA rfl (jA rfl (⟨t,_,_,.ref lr,rfl,rfl,SqT.of h1,cQ (n:=2) rfl rfl,jA rfl (⟨lr,ll,jA rfl (⟨hlr,hll,by rw [ZJ];exact hN,hst,fun H1 s=>(jA rfl (qI ?_))⟩)⟩)⟩)));have hll1:=hll.same s;obtain ⟨xs1,la,ys,f1,f2,f3,f4,f5,f6⟩:=hll1.last;have hyl:ys.length≤1000:=by
   rw [f5.1];have:=iU (T:=T0) (k0:=k0) N;omega
  refine (jA rfl (jA rfl (⟨ll,xs1,_,_,rfl,rfl,so f1,f2,la,rfl,⟨_,so f4⟩,fun bt hbt=>?_⟩)));refine zM (K:=K) (a:=la) (xs:=ys) (caps:=[some (.ref fe)]) (fun j zs Hj=>KeysAt Hj zs (((j3 T0 k0 N).take j).filter M)) hbt (so f4) ⟨rfl,fun i x e=>by cases e⟩ ?_ ?_
  ·rintro j x zs Hj hx hj hle sm hY hR;obtain ⟨kj,hkj,hgj,h8j⟩:=f5.2 j x hx;have hdj:=dom N kj (Q1 (mem_of_getElem? hkj));refine ⟨fe,rfl,jA rfl (hE _ _ kj _ _ (s.trans sm) hdj (qW sm hgj) fun He se=>(jA rfl (?_)))⟩;have ht:((j3 T0 k0 N).take (j+1))=(j3 T0 k0 N).take j++[kj]:=by rw [take_add_one,hkj];rfl
   cases hMk:M kj with
   |true =>
    refine kS (jA rfl (vV hbt sm hY hle (by omega) se ?_));show KeysAt _ _ (((j3 T0 k0 N).take (j+1)).filter M);rw [ht,filter_append,filter_cons,if_pos hMk];exact hR.snoc (k:=kj) (fun a l e=>by rw [jG fun z=>by subst z;rw [hY] at e;cases e];exact se _ _ e) (qW sm hgj) h8j
   |false =>
    refine qI (JW sm hY hle se ?_);show KeysAt _ _ (((j3 T0 k0 N).take (j+1)).filter M);rw [ht,filter_append,filter_cons,if_neg (by rw [hMk];decide)];have hR2:=hR.same se
    simpa using hR2
  rintro zs Hg sg hbtg hleg hR;rw [f5.1,take_length] at hR;have sG:=s.trans sg;refine ⟨bt,jA rfl (⟨.inl (so hbtg),rfl,jA rfl (?_)⟩)⟩;have hz:=hR.1;have hne:=ON hany;have h1g:=sG _ _ h1;have hrg:=sG _ _ hrr;have hkg:=hks.same sG;have hkl:=hks.1;refine qX (fun e=>by have e:=V.int.inj e;omega) ?_;refine (jA rfl (⟨t,_,_,.str "home",rfl,rfl,SqT.of h1g,rfl,rfl,jA rfl (zJ rfl ?_)⟩));refine (jA rfl (⟨t,jA rfl (⟨.inr (SqT.of h1g),rfl,jA rfl (zJ rfl ?_)⟩)⟩));refine (jA rfl (⟨t,_,_,.ref rr,rfl,rfl,SqT.of h1g,rfl,_,_,_,_,_,rfl,rfl,TyOf.lst hrg,ZK "list",jA rfl (qI ?_)⟩));refine (jA rfl (⟨t,_,_,.ref rr,rfl,rfl,SqT.of h1g,rfl,rr,jA rfl (⟨.inl (so hrg),jA rfl (⟨ll,jA rfl (⟨.inl (so (sg _ _ f1)),_,_,rfl,rfl,rfl,jA rfl (zJ (congrArg V.int (by omega)) ?_)⟩)⟩)⟩)⟩));refine (jA rfl (jA rfl (jA rfl (⟨t,_,_,.ref rr,rfl,rfl,SqT.of h1g,rfl,J9 y fa rr T0 k0 kf xs des (E5 rfl (fun H y k Q E s=>hA H y k Q E (sG.trans s)) hsh hfew hone (qW sG hy) hk0 hrg hkg hpa (fun v H2 s2 hv hkd=>?_))⟩))));have hvn:v≠.non:=fun z=>by
   subst z;obtain ⟨s,rfl⟩:=hdm kf hkd;obtain ⟨t,e,_⟩:=dM hv;cases e
  refine ⟨_,rfl,rfl,true,(by rw [decide_eq_false hvn];rfl),kS ⟨fe,rfl,jA rfl (hE _ _ kf _ _ (sG.trans s2) hkd hv fun H3 s3=>?_)⟩⟩;rw [hmk];exact q _ ((sG.trans s2).trans s3)
theorem QC:jT 1 ["_law_script","_law_canal_here","_law_ways","_law_state_here","_law_most","_law_ahead","_law_ended","_law_layers","_law_handed","_law_told_here"] JF:=jS
include T in
theorem HN (F:kH K "law" JF f fd) {cL tL:Addr} (hcL:fd.code=.ref cL) (hC:W.CodeHd base cL tL) (hB:base.BuiltinsAt mg tL) (hgT:PySem.mainGlobals≠tL) (jd:Def P w K mg base 6 "_law_canal" ["_law_script"] [] (xW K (jF cP cB cU) cR cN)) (xa:Def P w K mg base 1 "_law_draw" ["_law_script","_law_k","_law_many"] [] (bK K)) (xaf:Def P w K mg base 2 "_law_way" ["_law_script","_law_k","_law_canal_here"] [] (CB K (jF cP cB cU) cR cN)) (je:Def P w K mg base 6 "_law_state" ["_law_script","_law_canal_here","_law_ways"] [] (xQ K (jF cP cB cU) cR cN)) (jx:Def P w K mg base 18 "_law_book" ["_law_first","_law_ahead","_law_ended","_law_most"] [] (sO w (yC "law.<locals>._law_ahead" (kO qP) (kC qP) (jM qP) ["_law_one"] ["_law_ways","_law_canal_here"] (yL (jF cP cB cU) cR cN)) (yC "law.<locals>._law_ended" (kO vI) (kC vI) (jM vI) ["_law_one"] ["_law_ways"] zX))) (vq:Def P w K mg base 20 "_law_told" ["_law_canal_here","_law_ways","_law_state_here","_law_most"] [] (rP (jF cP cB cU) cR cN tA tH (vN kP) (vN kX))) (vd:Def P w K mg base 19 "_law_right" ["_law_told_here","_law_state_here","_law_ahead","_law_ended","_law_layers"] [] (pL (yC "law.<locals>._law_ahead" (kO qP) (kC qP) (jM qP) ["_law_one"] ["_law_ways","_law_canal_here"] (yL (jF cP cB cU) cR cN)) (yC "law.<locals>._law_ended" (kO vI) (kC vI) (jM vI) ["_law_one"] ["_law_ways"] zX))):FnOk P w K mg base jK 21 f fd ["_law_script"] (i0 tA tH tL K):=by
 refine F.okC hcL QC (fun vs H Q E h=>?_) (fun A outer s H vs Q E hr h=>?_)
 ·obtain ⟨a,ns,rfl,hS,h63,hne,hLA,hLH,hTA0,hTH0,htL,q⟩:=h;rfl
 obtain ⟨a,ns,rfl,hS,h63,hne,hLA,hLH,hTA0,hTH0,htL,q⟩:=h;have hu:_<cLine:=hr.units0;refine ⟨_,(@jH _ _ _ _ _ (jX 1 QC.nd (jQ jd hr rfl (jB (pv 0) jE)))
   (@jH _ _ _ _ _ (jX 2 QC.nd (fN ["_law_k","_law_script","_law_canal_here"] [0,1] (qR (jM JF)) (zY (by rfl) T.xi (jB (jQ xa hr rfl (j5 (pv 0) jC jC)) jE)) (fun _ _ _ _ _=>(jQ xaf hr rfl (j5 (pv 1) (pv 0) (pv 2))))))
   (@jH _ _ _ _ _ (jX 3 QC.nd (jQ je hr rfl (j5 (pv 0) (pv 1) (pv 2))))
   (@jH _ _ _ _ _ (jX 4 QC.nd (@jL _ _ _ _ _ _ _ _ kK jC (jQ xa hr rfl (j5 (pv 0) jC jC))))
   (@jH _ _ _ _ _ (CO (i:=5) (c:=cL) (P:=tL) QC.nd rfl (.inl rfl) (.inr rfl) rfl rfl (LR _ _ _) rfl rfl hC hgT hB rfl)
   (fA (CO (i:=6) (c:=cL) (P:=tL) QC.nd rfl (.inl rfl) (.inr rfl) rfl rfl (LQ _ _ _) rfl rfl hC hgT hB rfl)
   (@jH _ _ _ _ _ (jX 7 QC.nd (rD (cs:=[(1,s.heap.objs.size+2),(2,s.heap.objs.size+3)]) jx hr rfl (sZ ⟨"_law_canal_here",rfl,rfl,rfl,rfl⟩ ⟨"_law_ways",rfl,rfl,rfl,rfl⟩) (yD (pv 3) (pv 5) (pv 6) (pv 4))))
   (@jH _ _ _ _ _ (jX 8 QC.nd (zA (bB K) (by rfl) T.xn PyProof.Rows.boot_list (jB (pv 2) jE)))
   (@jH _ _ _ _ _ (jX 9 QC.nd (jQ vq hr rfl (yD (pv 1) (pv 8) (pv 3) (pv 4))))
   (@jH _ _ _ _ _ (kU (PW.pt (ZA (Q3 (yH (rD (cs:=[(1,s.heap.objs.size+2),(2,s.heap.objs.size+3)]) vd hr rfl (sZ ⟨"_law_canal_here",rfl,rfl,rfl,rfl⟩ ⟨"_law_ways",rfl,rfl,rfl,rfl⟩) (dS (pv 9) (pv 3) (pv 5) (pv 6) (pv 7))))) (dE (kI (SV hu) (pv 8) (pv 2))))) (jO zI) kT)
   (fA (JE (QR PySem.F.plainAttrs_list PySem.F.slot_list_append PySem.F.type_list_append QE (jI (jR K) (pv 9) (QQ QL jC)) (jB (qO jE) jE)))
   (@jH _ _ _ _ _ (JE (SS PySem.F.plainAttrs_list PySem.F.slot_list_clear PySem.F.type_list_clear O4 (jI (jR K) (pv 9) jC)))
   (jO (rD (cs:=[(1,s.heap.objs.size+2),(2,s.heap.objs.size+3)]) vd hr rfl (sZ ⟨"_law_canal_here",rfl,rfl,rfl,rfl⟩ ⟨"_law_ways",rfl,rfl,rfl,rfl⟩) (dS (jQ vq hr rfl (yD (pv 1) (pv 8) (pv 3) (pv 4))) (pv 3) (pv 5) (pv 6) (pv 7)))))))))))))))),?_⟩
 try dsimp only [jV,jU]
 have hT0:Tabs H tA tH (vN kP) (vN kX):=⟨hne,.inl hTA0,.inl hTH0⟩;refine (jA rfl (⟨a,ns,rfl,hS,h63,fun x R L N H1 hdr hr2 hl1 hl2 s1 hx0 hcn=>?_⟩));have b1:=hdr.r8;have b3:=hdr.n6;have hS1:=s1.seq hS;refine (jA rfl (⟨a,ns,_,jA rfl (⟨hS1,h63,by omega,by omega,by omega,fun m0 m00 m01=>?_⟩)⟩));obtain ⟨n,hn⟩:∃n:Nat,m0=(n:Int):=⟨m0.toNat,by omega⟩;subst hn;refine (jA rfl (⟨by omega,by omega,fun wl hwl0=>?_⟩));refine ZH (n:=((n:Nat):Int).toNat) (caps:=[some (.ref a),some (.ref x)]) (fun i us Hi=>∃ys:List j4,AllAt (WyAt Hi) us ys∧ys.length=i∧∀y∈ys,WyOk L y) hwl0 ⟨[],AllAt.nil,rfl,fun y hy=>by cases hy⟩ ?_ ?_
 ·rintro i us Hi hi hle sm hY ⟨ys,hA,hyl,hok⟩;rw [Int.toNat_natCast] at hi;rw [Int.zero_add];refine yB (kS (jA rfl (jA rfl (jA rfl ((J9 a x ns i _ R L N (fX rfl (sm.seq hS1) h63 (by omega) (hcn.same sm) hdr hl1 (fun t y H' hyo s' ht0 hwy=>vV hwl0 sm hY hle (by omega) s' ?_))))))));refine ⟨ys++[y],((hA.mono (WyAt.same s')).snoc hwy).mono (WyAt.put (s' _ _ hY)),by rw [length_append,hyl];rfl,fun y' hy'=>?_⟩
  rcases mem_append.mp hy' with h|h
  ·exact hok y' h
  ·rw [mem_singleton.mp h];exact hyo
 rintro us H2 s2 hwl hle2 ⟨ys,hA,hyl,hok⟩;rw [Int.toNat_natCast] at hyl;have hcn2:=hcn.same s2;refine (jA rfl (jA rfl (jA rfl ((fP a x wl ns us ys _ R L N (U9 rfl (s2.seq hS1) h63 hcn2 hdr hwl hA (by omega) hok (fun st d ms pl H3 s3 hst hfl hd0 hml=>?_)))))));have hG:Stage (jF cP cB cU) cR cN [] H3 x wl st us R L N ys d ms pl:=⟨hcn2.same s3,hdr,s3 _ _ hwl,hA.mono (WyAt.same s3),hst,hfl,hml⟩;have s13:=(s1.trans s2).trans s3;have hS3:=s13.seq hS;have few:∀k,((kM R L N ys).1 k).length≤5:=fun k=>Nat.le_trans (RY k) (by omega)
 refine (jA rfl (⟨a,ns,_,jA rfl (⟨hS3,h63,by omega,by omega,by omega,fun md md0 md1=>⟨_,_,rfl,rfl,?_⟩⟩)⟩));obtain ⟨NN,hF⟩:=OA (most:=1+md) (M:=vQ ys) (k0:=jZ (d,ms,pl)) (by omega) few;have ht3:=s13 _ _ htL;have hT3:=hT0.same s13;refine ⟨_,ht3,trivial,rfl,fun fa ca cta doca oca n1 n2 n3 hfa hca hoc=>?_⟩;refine ⟨fun σ Hj=>∃fa fe,σ=[some (.ref a),some (.ref x),some (.ref wl),some (.ref st),some (.int (1+md)),some (.ref fa),some (.ref fe),none,none,none]∧LF (jF cP cB cU) cR cN qP vI (s.heap.objs.size+2) (s.heap.objs.size+3) Hj fa fe x wl st us R L N ys d ms pl∧Tabs Hj tA tH (vN kP) (vN kX),?_,?_⟩
 ·refine ⟨_,i7 n1 n2,trivial,rfl,fun fe ce cte doce oce m1 m2 m3 hfe hce hoce=>⟨fa,fe,rfl,⟨hG.noT.same (x8 (KeepT.noT (eV hfa hca) ht3) (KeepT.noT (eV hfe hce) (i7 n1 n2))),hd0,few,FnM.same (KeepT.noT (eV hfe hce) (i7 n1 n2)) (FnM.noT ⟨_,_,_,_,_,_,ca,oca,by rw [jG n3.symm,jD],rfl,jD,hoc⟩),⟨_,_,_,_,_,_,ce,oce,by rw [jG m3.symm,jD],rfl,jD,hoce⟩⟩,Tabs.keepT (eV hfe hce) (i7 n1 n2) hLA hLH (Tabs.keepT (eV hfa hca) ht3 hLA hLH hT3)⟩⟩
 clear hoc n1 n2 n3 hfa hca;rintro σ H6 ⟨fa,fe,rfl,hLF,hT6⟩;have hcc:s.heap.objs.size+2≠s.heap.objs.size+3:=fun z=>by simp only [Addr] at *;omega
 refine (jA rfl (jA rfl (jA rfl (jA rfl (⟨tY ⟨_,rfl⟩ ⟨_,rfl⟩,fun HC hHC hn0=>SA hLF hF (by omega) (by omega) hcc rfl rfl hHC hn0 fun lv H' hcs sT hB=>⟨hcs,?_⟩⟩)))));clear hcs hHC hn0;generalize kW H' _=H7 at sT hB ⊢;have hL7:=hLF.same sT;refine (jA rfl (⟨wl,us,rfl,.inl (so hL7.g.wls),fun hd hhd0=>?_⟩));have u8:=jJ hhd0 (.lst us);have hL8:=hL7.same u8;have hT8:=(hT6.same sT).same u8;have hB8:=hB.on (OZ u8);have hh8:upd H7 hd (.lst us) hd=some (.lst us):=jD;generalize upd H7 hd (.lst us)=H8 at u8 hL8 hT8 hB8 hh8 ⊢;refine (jA rfl (jA rfl (jA rfl (jA rfl (?_)))))
 dsimp only [J4]
 refine B5 hL8 hh8 hT8 hF fun t H9 s9 hT9 hTo=>?_
 have hL9:=hL8.noT.same s9;have hB9:=hB8.on s9;have hhN:=vL hh8 (fun _ z=>nomatch z);refine (jA rfl (jA rfl (jA rfl (jA rfl (jA rfl (⟨tY ⟨_,rfl⟩ ⟨_,rfl⟩,fun HC hHC hn0=>BI hL9 hF hcc rfl rfl hHC hn0 (hTo.right hB9) fun H' hcs sR=>⟨hcs,jA rfl (qI ?_)⟩⟩))))));clear hcs hHC hn0;generalize kW H' _=HA at sR ⊢;have sA:=s9.trans sR;have hL10:=hL9.same sR;have hTA:=hT9.same sR;refine ⟨_,rfl,_,rfl,hd,wl,us,rfl,rfl,so (sA _ _ hhN),so hL10.g.wls,(fun z hz=>by
  obtain ⟨i,hi⟩:=mem_iff_getElem?.mp hz;obtain ⟨y,_,c,_,_,e,_⟩:=hL10.g.wys.2 i z hi;exact ⟨c,e⟩),_,rfl,qI ?_⟩
 refine ⟨fun σ Hj=>σ=[some (.ref a),some (.ref x),some (.ref wl),some (.ref st),some (.int (1+md)),some (.ref fa),some (.ref fe),some lv,some (.ref hd),some (.ref t)]∧Same (noT H8) Hj∧Tabs Hj tA tH (vN kP) (vN kX)∧∃(c:Addr) (ws items:List V),Hj t=some (.tup items)∧vC items 1=some (.ref c)∧Hj c=some (.lst ws)∧noT H8 c=none,?_,?_⟩
 ·cases hTo with
  |wide c h1 h2 h3 hl0 =>
   have t1:=sR _ _ h2;have c1:=sR _ _ h3;refine (jA rfl (jA rfl (⟨t,_,_,.ref c,rfl,rfl,SqT.of t1,cQ (n:=1) rfl rfl,.inl ⟨rfl,_,so c1⟩,Nat.zero_le _,fun n0 hn00=>?_⟩)));have u:=jJ hn00 (.lst []);have c2:=u _ _ c1;have tne:t≠c:=fun z=>by rw [z,c1] at t1;cases t1
   refine ⟨c,_,_,rfl,rfl,c2,JY (Nat.zero_le _),rfl,qH hl0 (sA.trans u),(hTA.same u).lst c2,c,_,_,by rw [jG tne];exact u _ _ t1,rfl,jD,hl0⟩
  |doomed lr h1 h2 h3 h4 hl0 =>
   have t1:=sR _ _ h3;obtain ⟨zs,c1,hz,_⟩:=(h4.same sR).ex;have hlong:=bF (T:=kM R L N ys) (M:=vQ ys) (k0:=jZ (d,ms,pl)) NN hF.low;rw [ZJ] at hz;refine (jA rfl (jA rfl (⟨t,_,_,.ref lr,rfl,rfl,SqT.of t1,cQ (n:=1) rfl rfl,.inl ⟨rfl,_,so c1⟩,Nat.zero_le _,fun n0 hn00=>?_⟩)));have u:=jJ hn00 (.lst []);have c2:=u _ _ c1;have tne:t≠lr:=fun z=>by rw [z,c1] at t1;cases t1
   refine ⟨lr,_,_,rfl,rfl,c2,JY (by omega),rfl,qH hl0 (sA.trans u),(hTA.same u).lst c2,lr,_,_,by rw [jG tne];exact u _ _ t1,rfl,jD,hl0⟩
  |home rr lr xs des kf h1 h2 h3 h4 h5 h6 h7 h8 h9 hr0 hl0 hrl =>
   have t1:=sR _ _ h3;have r1:=sR _ _ h5;obtain ⟨zs,c1,hz,_⟩:=(h4.same sR).ex;have hlong:=bF (T:=kM R L N ys) (M:=vQ ys) (k0:=jZ (d,ms,pl)) NN hF.low;rw [ZJ] at hz;refine (jA rfl (jA rfl (⟨t,_,_,.ref lr,rfl,rfl,SqT.of t1,cQ (n:=2) rfl rfl,.inl ⟨rfl,_,so c1⟩,Nat.zero_le _,fun n0 hn00=>?_⟩)));have u:=jJ hn00 (.lst []);have c2:=u _ _ c1;have tne:t≠lr:=fun z=>by rw [z,c1] at t1;cases t1
   refine ⟨lr,_,_,rfl,rfl,c2,JY (by omega),rfl,qH hl0 (sA.trans u),(hTA.same u).lst c2,rr,_,_,by rw [jG tne];exact u _ _ t1,rfl,by rw [jG hrl];exact u _ _ r1,hr0⟩
 rintro σ HB ⟨rfl,sB,hTB,c,ws,items,t1,hat,c1,hc0⟩;refine (jA rfl (⟨t,_,_,.ref c,rfl,rfl,SqT.of t1,hat,.inl ⟨rfl,_,so c1⟩,c,_,rfl,rfl,c1,?_⟩));have sC:Same (noT H8) (upd HB c (.lst [])):=qH hc0 sB;have hLC:=hL8.noT.same sC;have hTC:=hTB.lst c1 (o:=.lst []);have hBC:=hB8.on sC;refine (jA rfl (jA rfl (jA rfl (jA rfl (?_)))))
 dsimp only [J4]
 refine B5 hLC (sC _ _ hhN) hTC hF fun t2 HD sD hTD hTo2=>(jA rfl (jA rfl (jA rfl (jA rfl (⟨tY ⟨_,rfl⟩ ⟨_,rfl⟩,fun HC hHC hn0=>BI (hLC.noT.same sD) hF hcc rfl rfl hHC hn0 (hTo2.right (hBC.on sD)) fun H' hcs sR=>⟨hcs,q _⟩⟩)))))
end
theorem all_mk {l:W.OpenLaw} {h:Heap} {mg:Str→Option Value} {fa f8 f9 f10 f11 f21 f23 f61 f62 f81:Addr} {ctA ctH ctL tL:Addr} {cP cB cU:Addr} {dn0:Nat} {tkS:Tok} {eL eTW:Addr} {tkH:Tok} (X:K.In h) (G:h.Ns mainGlobals mg) (hfa:mg "law"=some (.ref fa))
 {od23 an23 od61 an61 od62 an62 od81 an81:Option Addr} {sl23 sl61 sl62 sl81:Array (Option Value)} {oc23 kV23 dc23 pm23 cd23 ct23 oc61 kV61 dc61 pm61 cd61 ct61 oc62 kV62 dc62 pm62 cd62 ct62 oc81 kV81 dc81 pm81 cd81 ct81:Value} {T23:Addr} {oT23:Obj}
  (xaO:vH K "PlainLock" (some (.ref cP)))
  (xaP:vH K "BasinLock" (some (.ref cB)))
  (xaQ:vH K "PumpLock" (some (.ref cU)))
  (xaR:vH K "Reach" (some (.ref cR)))
  (xaS:vH K "Canal" (some (.ref cN)))
  (vi:vH K "NotNow" (some (.ref eW)))
  (zp:vH K "NotLinked" (some (.ref eL)))
  (vb:vH K "TooWide" (some (.ref eTW)))
  (p0:kG K "poured_all" oG)
  (p1:kG K "over" oC)
  (p2:kG K "last_first" nX)
  (p3:kG K "spills" oM)
  (p4:kG K "spill_pours" gS)
  (p5:kG K "settled" oK)
  (p6:kG K "with_spills" oR)
  (p7:kG K "parts_not_nought" gR)
  (a8:qD K cP "__init__" (some (.ref f8)))
  (i8:W.isFn K (.ref f8)=true)
  (ac8:W.findCls K (.ref cP) (.type "type") "__init__"=some (.val (.ref f8)))
  (p8:gB K "__init__" "PlainLock.__init__" mX f8)
  (a9:qD K cB "__init__" (some (.ref f9)))
  (i9:W.isFn K (.ref f9)=true)
  (p9:gB K "__init__" "BasinLock.__init__" mL f9)
  (a10:qD K cU "__init__" (some (.ref f10)))
  (i10:W.isFn K (.ref f10)=true)
  (p10:gB K "__init__" "PumpLock.__init__" nB f10)
  (a11:qD K cR "__init__" (some (.ref f11)))
  (i11:W.isFn K (.ref f11)=true)
  (p11:gB K "__init__" "Reach.__init__" nI f11)
  (p12:yG K cP "kind" "PlainLock.kind" m6)
  (p13:yG K cB "kind" "BasinLock.kind" mP)
  (p14:yG K cU "kind" "PumpLock.kind" nG)
  (p15:yG K cP "extra" "PlainLock.extra" mY)
  (p16:yG K cB "extra" "BasinLock.extra" mM)
  (p17:yG K cU "extra" "PumpLock.extra" nE)
  (p18:yG K cP "fill_parts" "PlainLock.fill_parts" mZ)
  (p19:yG K cB "fill_parts" "BasinLock.fill_parts" mO)
  (p20:yG K cU "fill_parts" "PumpLock.fill_parts" nF)
  (a21:qD K cP "let_parts" (some (.ref f21)))
  (a21_U:qD K cU "let_parts" (some (.ref f21)))
  (i21:W.isFn K (.ref f21)=true)
  (p21:gB K "let_parts" "PlainLock.let_parts" m9 f21)
  (p22:yG K cB "let_parts" "BasinLock.let_parts" mQ)
  (a23:qD K cN "__init__" (some (.ref f23)))
  (i23:W.isFn K (.ref f23)=true)
  (l23:K.lookup f23=some ⟨oc23,od23,.func (W.fnOf "__init__" "Canal.__init__" (kO bA) (kC bA) (jM bA) (.ref T23) kV23 dc23 pm23 an23 cd23 ct23),sl23⟩)
  (c23:W.codeIn K cd23 "Canal.__init__"=true)
  (k23:W.keepIn K (.ref f23)=true)
  (lT23:K.lookup T23=some oT23)
  (dT23:oT23.data=.seq ([.none]:List Value).toArray dn0)
  (p24:yG K cN "sea" "Canal.sea" mV)
  (p25:yG K cN "sky" "Canal.sky" mW)
  (p26:yG K cN "many" "Canal.many" mU)
  (p27:yG K cN "chamber" "Canal.chamber" mS)
  (p28:yG K cN "basin" "Canal.basin" mR)
  (p29:yG K cN "weirs" "Canal.weirs" gE)
  (p30:yG K cN "start" "Canal.start" gD)
  (p31:yG K cN "full" "Canal.full" mT)
  (p32:kG K "filling" gL)
  (p33:kG K "letting" gO)
  (p34:kG K "given_by" gM)
  (p35:kG K "basin_after" gJ)
  (p36:kG K "passage" oF)
  (p37:kG K "step_ends" oN)
  (p38:kG K "linked" nZ)
  (p39:kG K "steps_to_do" oO)
  (p40:kG K "reach_of" oI)
  (p41:kG K "lying" gP)
  (p42:kG K "night_pours" cG)
  (p43:kG K "has_no_berth" nV)
  (p44:kG K "next_step" oB)
  (p45:kG K "one_step_on" gQ)
  (p46:kG K "counted_on" nS)
  (p47:kG K "by_number" gK)
  (p48:kG K "pass_pours" oE)
  (p49:kG K "let_pours" nY)
  (p50:kG K "is_below_least" nW)
  (p51:kG K "falls_short" nU)
  (p52:kG K "why_no_pass" oP)
  (p53:kG K "why_not" oQ)
  (p54:kG K "pours" oH)
  (p55:kG K "after" nQ)
  (p56:kG K "may" cF)
  (p57:kG K "steps_left" gT)
  (p58:kG K "all_home" nR)
  (a61:vH K "homecoming" (some (.ref f61)))
  (l61:K.lookup f61=some ⟨oc61,od61,.func (W.fnOf "homecoming" "homecoming" (kO kX) (kC kX) (jM kX) .none kV61 dc61 pm61 an61 cd61 ct61),sl61⟩)
  (c61:W.codeIn K cd61 "homecoming"=true)
  (k61:W.keepIn K (.ref f61)=true)
  (a62:vH K "ahead_on" (some (.ref f62)))
  (l62:K.lookup f62=some ⟨oc62,od62,.func (W.fnOf "ahead_on" "ahead_on" (kO kP) (kC kP) (jM kP) .none kV62 dc62 pm62 an62 cd62 ct62),sl62⟩)
  (c62:W.codeIn K cd62 "ahead_on"=true)
  (k62:W.keepIn K (.ref f62)=true)
  (p63:kG K "row_to" oJ)
  (p64:kG K "next_layer" n5)
  (p65:kG K "layered" gN)
  (p66:kG K "look" n4)
  (p67:kG K "_law_draw" nJ)
  (p68:kG K "_law_reach" nO)
  (p69:kG K "_law_lock" nM)
  (p70:kG K "_law_canal" dX)
  (p71:kG K "_law_way" dY)
  (p72:kG K "_law_state" gI)
  (p73:kG K "_law_home" nK)
  (p76:kG K "_law_come" gG)
  (p77:kG K "_law_layers_alike" nL)
  (p78:kG K "_law_told" nP)
  (p79:kG K "_law_book" gF)
  (p80:kG K "_law_right" gH)
  (a81:vH K "law" (some (.ref f81)))
  (l81:K.lookup f81=some ⟨oc81,od81,.func (W.fnOf "law" "law" (kO JF) (kC JF) (jM JF) .none kV81 dc81 pm81 an81 cd81 ct81),sl81⟩)
  (c81:W.codeIn K cd81 "law"=true)
  (k81:W.keepIn K (.ref f81)=true)
  (xn:vH K "list" none)
  (xq:vH K "tuple" none)
  (vx:vH K "max" none)
  (xi:vH K "range" none)
  (xf:vH K "len" none)
  (vk:vH K "sum" none)
  (vy:vH K "zip" none)
  (xj:vH K "enumerate" none)
  (ul:vH K "min" none)
  (xt:vH K "reversed" none)
  (um:vH K "int" none)
  (xh:vH K "isinstance" none)
  (uo:vH K "str" none)
  (xaT:W.plainGet K cP Str.empty=true)
  (xax:W.hasDictIn K cP=true)
  (xaU:W.plainOver K cP=true)
  (xaV:qD K cP "__setattr__" (some (.builtin "object.__setattr__")))
  (xaW:W.makesIn K cP=true)
  (xaX:W.keepIn K (.ref cP)=true)
  (wf:qD K cP "name" none)
  (wg:qD K cP "high" none)
  (jf:qD K cP "low" none)
  (wj:qD K cP "room" none)
  (xaY:W.plainGet K cB Str.empty=true)
  (xay:W.hasDictIn K cB=true)
  (xaZ:W.plainOver K cB=true)
  (xa0:qD K cB "__setattr__" (some (.builtin "object.__setattr__")))
  (xa1:W.makesIn K cB=true)
  (xa2:W.keepIn K (.ref cB)=true)
  (wk:qD K cB "name" none)
  (wm:qD K cB "high" none)
  (jg:qD K cB "low" none)
  (wp:qD K cB "room" none)
  (wr:qD K cB "side" none)
  (xa3:W.plainGet K cU Str.empty=true)
  (xaz:W.hasDictIn K cU=true)
  (xa4:W.plainOver K cU=true)
  (xa5:qD K cU "__setattr__" (some (.builtin "object.__setattr__")))
  (xa6:W.makesIn K cU=true)
  (xa7:W.keepIn K (.ref cU)=true)
  (wu:qD K cU "name" none)
  (ww:qD K cU "high" none)
  (jh:qD K cU "low" none)
  (wx:qD K cU "room" none)
  (wy:qD K cU "lift" none)
  (g1:W.specialIn K (.ref cP) "__getattribute__"=some (some (.builtin "type.__getattribute__")))
  (g2:W.readsIn K cP (.type "type")=true)
  (xa8:W.plainGet K cR Str.empty=true)
  (xaA:W.hasDictIn K cR=true)
  (xa9:W.plainOver K cR=true)
  (xba:qD K cR "__setattr__" (some (.builtin "object.__setattr__")))
  (xbb:W.makesIn K cR=true)
  (xbc:W.keepIn K (.ref cR)=true)
  (zx:qD K cR "name" none)
  (xx:qD K cR "least" none)
  (xy:qD K cR "crest" none)
  (xu:qD K cR "berths" none)
  (xz:qD K cR "water" none)
  (xr:qD K cR "target" none)
  (xbd:W.plainGet K cN Str.empty=true)
  (xaB:W.hasDictIn K cN=true)
  (xbe:W.plainOver K cN=true)
  (xbf:qD K cN "__setattr__" (some (.builtin "object.__setattr__")))
  (xbg:W.makesIn K cN=true)
  (xbh:W.keepIn K (.ref cN)=true)
  (xg:qD K cN "reaches" none)
  (xb:qD K cN "locks" none)
  (xl:qD K cN "nights" none)
  (gSEA:vH K "SEA" (some (.int (-1) tkS)))
  (vj:W.excIn K eW [.type "ValueError",.type "Exception",.type "BaseException",.type "object"] "ValueError.__new__"=true)
  (zq:W.excIn K eL [.type "ValueError",.type "Exception",.type "BaseException",.type "object"] "ValueError.__new__"=true)
  (vc:W.excIn K eTW [.type "ValueError",.type "Exception",.type "BaseException",.type "object"] "ValueError.__new__"=true)
  (gHOME:vH K "HOME" (some (.int (-1) tkH)))
  (ht62:W.tabIn K "ahead_on"=some (ctA,tA))
  (ht61:W.tabIn K "homecoming"=some (ctH,tH))
  (ht81:W.tabIn K "law"=some (ctL,tL)) :
  ∃fd:FuncData,(∀(s:Shared) (v:Value),BindsTo s fd ⟨[v],[]⟩ [("_law_script",v)])∧∀base:Heap,K.In base→base.Ns mainGlobals mg→(∀p∈([(ctA,tA),(ctH,tH),(ctL,tL)]:List (Addr×Addr)),W.CodeHd base p.1 p.2∧base.BuiltinsAt mg p.2∧PySem.mainGlobals≠p.2)→FnOk l.prog w K mg base jK 21 fa fd ["_law_script"] (i0 tA tH tL K):=by
 have e:=hfa.symm.trans (W.mg_of X G a81);cases e;obtain ⟨_,_,a0,F0⟩:=p0;obtain ⟨_,_,a1,F1⟩:=p1;obtain ⟨_,_,a2,F2⟩:=p2;obtain ⟨_,_,a3,F3⟩:=p3;obtain ⟨_,_,a4,F4⟩:=p4;obtain ⟨_,_,a5,F5⟩:=p5;obtain ⟨_,_,a6,F6⟩:=p6;obtain ⟨_,_,a7,F7⟩:=p7;obtain ⟨_,F8⟩:=p8;have k8:=F8.kp;have b8:=F8.binds (ps:=["self","name","high","low","room"]) fun _ _ _ _ _ _=>uI fun _ _ _ _ _=>rfl
 obtain ⟨_,F9⟩:=p9;have k9:=F9.kp;have b9:=F9.binds (ps:=["self","name","high","low","room","side"]) fun _ _ _ _ _ _=>uH fun _ _ _ _ _ _=>rfl
 obtain ⟨_,F10⟩:=p10;have k10:=F10.kp;have b10:=F10.binds (ps:=["self","name","high","low","room","lift"]) fun _ _ _ _ _ _=>uH fun _ _ _ _ _ _=>rfl
 obtain ⟨_,F11⟩:=p11;have k11:=F11.kp;have b11:=F11.binds (ps:=["self","name","least","crest","berths","water","target"]) fun _ _ _ _ _ _=>VF fun _ _ _ _ _ _ _=>rfl
 obtain ⟨_,_,a12,i12,F12⟩:=p12;obtain ⟨_,_,a13,i13,F13⟩:=p13;obtain ⟨_,_,a14,i14,F14⟩:=p14;obtain ⟨_,_,a15,i15,F15⟩:=p15;obtain ⟨_,_,a16,i16,F16⟩:=p16;obtain ⟨_,_,a17,i17,F17⟩:=p17;obtain ⟨_,_,a18,i18,F18⟩:=p18;obtain ⟨_,_,a19,i19,F19⟩:=p19;obtain ⟨_,_,a20,i20,F20⟩:=p20;obtain ⟨_,F21⟩:=p21;have k21:=F21.kp;have b21:=F21.binds (ps:=["self","basin"]) fun _ _ _ _ _ _=>fT fun _ _=>rfl
 obtain ⟨_,_,a22,i22,F22⟩:=p22;have F23:=R3 (st:=bA) (ds:=[.none]) (n:=dn0) l23 c23 k23 lT23 (by first|exact dT23|rfl);have b23:Binds K _ ["self","reaches","locks","nights"] []:=F23.binds [] 4 rfl fun _ _ _ _ _ _ _ us hl=>match us,hl with|[_,_,_,_],_=>⟨_,rfl,rfl⟩
 have b23_1:Binds K _ ["self","reaches","locks","nights"] [.none]:=F23.binds [.none] 3 rfl fun _ _ _ _ _ _ _ us hl=>match us,hl with|[_,_,_],_=>⟨_,rfl,rfl⟩
 obtain ⟨_,_,a24,i24,F24⟩:=p24;obtain ⟨_,_,a25,i25,F25⟩:=p25;obtain ⟨_,_,a26,i26,F26⟩:=p26;obtain ⟨_,_,a27,i27,F27⟩:=p27;obtain ⟨_,_,a28,i28,F28⟩:=p28;obtain ⟨_,_,a29,i29,F29⟩:=p29;obtain ⟨_,_,a30,i30,F30⟩:=p30;obtain ⟨_,_,a31,i31,F31⟩:=p31;obtain ⟨_,_,a32,F32⟩:=p32;obtain ⟨_,_,a33,F33⟩:=p33;obtain ⟨_,_,a34,F34⟩:=p34;obtain ⟨_,_,a35,F35⟩:=p35;obtain ⟨_,_,a36,F36⟩:=p36;obtain ⟨_,_,a37,F37⟩:=p37;obtain ⟨_,_,a38,F38⟩:=p38;obtain ⟨_,_,a39,F39⟩:=p39;obtain ⟨_,_,a40,F40⟩:=p40;obtain ⟨_,_,a41,F41⟩:=p41;obtain ⟨_,_,a42,F42⟩:=p42;obtain ⟨_,_,a43,F43⟩:=p43;obtain ⟨_,_,a44,F44⟩:=p44;obtain ⟨_,_,a45,F45⟩:=p45;obtain ⟨_,_,a46,F46⟩:=p46;obtain ⟨_,_,a47,F47⟩:=p47;obtain ⟨_,_,a48,F48⟩:=p48;obtain ⟨_,_,a49,F49⟩:=p49;obtain ⟨_,_,a50,F50⟩:=p50;obtain ⟨_,_,a51,F51⟩:=p51;obtain ⟨_,_,a52,F52⟩:=p52;obtain ⟨_,_,a53,F53⟩:=p53;obtain ⟨_,_,a54,F54⟩:=p54;obtain ⟨_,_,a55,F55⟩:=p55;obtain ⟨_,_,a56,F56⟩:=p56;obtain ⟨_,_,a57,F57⟩:=p57;obtain ⟨_,_,a58,F58⟩:=p58;have F61:=cD (st:=kX) l61 c61 k61;have b61:=F61.binds (ps:=["ways"]) fun _ _ _ _ _ _=>fU fun _=>rfl
 have F62:=cD (st:=kP) l62 c62 k62;have b62:=F62.binds (ps:=["canal","ways"]) fun _ _ _ _ _ _=>fT fun _ _=>rfl
 obtain ⟨_,_,a63,F63⟩:=p63;obtain ⟨_,_,a64,F64⟩:=p64;obtain ⟨_,_,a65,F65⟩:=p65;obtain ⟨_,_,a66,F66⟩:=p66;obtain ⟨_,_,a67,F67⟩:=p67;obtain ⟨_,_,a68,F68⟩:=p68;obtain ⟨_,_,a69,F69⟩:=p69;obtain ⟨_,_,a70,F70⟩:=p70;obtain ⟨_,_,a71,F71⟩:=p71;obtain ⟨_,_,a72,F72⟩:=p72;obtain ⟨_,_,a73,F73⟩:=p73;obtain ⟨_,_,a76,F76⟩:=p76;obtain ⟨_,_,a77,F77⟩:=p77;obtain ⟨_,_,a78,F78⟩:=p78;obtain ⟨_,_,a79,F79⟩:=p79;obtain ⟨_,_,a80,F80⟩:=p80;have F81:=cD (st:=JF) l81 c81 k81;have b81:=F81.binds (ps:=["_law_script"]) fun _ _ _ _ _ _=>fU fun _=>rfl
 refine ⟨W.fnOf "law" "law" (kO JF) (kC JF) (jM JF) .none kV81 dc81 pm81 an81 cd81 ct81,fun s v=>.of_eq rfl,fun base _ _ hTs=>?_⟩;have T:Txt l.prog w base K mg cP cB cU cR cN tkS eW eL eTW tkH:={xn:=W.mg_none_of X G xn,xq:=W.mg_none_of X G xq,vx:=W.mg_none_of X G vx,xi:=W.mg_none_of X G xi,xf:=W.mg_none_of X G xf,vk:=W.mg_none_of X G vk,vy:=W.mg_none_of X G vy,xj:=W.mg_none_of X G xj,ul:=W.mg_none_of X G ul,xt:=W.mg_none_of X G xt,um:=W.mg_none_of X G um,xh:=W.mg_none_of X G xh,uo:=W.mg_none_of X G uo,cl:=fun kd=>match kd with|.plain=>⟨xaT,xax,xaU,xaV⟩|.basin=>⟨xaY,xay,xaZ,xa0⟩|.pump=>⟨xa3,xaz,xa4,xa5⟩,xar:=fun kd=>match kd with|.plain=>wf|.basin=>wk|.pump=>wu,zt:=fun kd=>match kd with|.plain=>wg|.basin=>wm|.pump=>ww,vm:=fun kd=>match kd with|.plain=>jf|.basin=>jg|.pump=>jh,zu:=fun kd=>match kd with|.plain=>wj|.basin=>wp|.pump=>wx,ur:=wr,vz:=wy,zv:=W.mg_of X G xaO,vn:=W.mg_of X G xaP,wb:=W.mg_of X G xaQ,clR:=⟨xa8,xaA,xa9,xba⟩,zx:=zx,xx:=xx,xy:=xy,xu:=xu,xz:=xz,xr:=xr,xaj:=W.mg_of X G xaR,clN:=⟨xbd,xaB,xbe,xbf⟩,xg:=xg,xb:=xb,xl:=xl,xak:=W.mg_of X G xaS,xaM:=W.mg_of X G gSEA,jk:=W.mg_of X G vi,vo:=W.mg_of X G zp,ve:=W.mg_of X G vb,jm:=vj,vp:=zq,vf:=vc,uu:=W.mg_of X G gHOME};have D0:=yU X G a0 F0 (IG T F0);have D1:=yT X G a1 F1 (IC T F1);have D2:=uO X G a2 F2 (HM T F2);have D3:=yU X G a3 F3 (IM T F3 D2 D1);have D4:=yU X G a4 F4 (IL T F4 D3 D2);have D5:=yU X G a5 F5 (IK T F5 D0 D4);have D6:=yT X G a6 F6 (IS T F6 D4 D0);have D7:=uO X G a7 F7 (ID T F7);have G8:=GE T F8;have ji:MkD l.prog w K mg base 1 "PlainLock" cP ["self","name","high","low","room"] (cW (jF cP cB cU)):=⟨T.zv,_,_,⟨xaW,a8,i8,xaX⟩,G8,b8⟩;have CM8:CmD l.prog w K mg base 1 "PlainLock" cP "__init__" ["self","name","high","low","room"] (cW (jF cP cB cU)):=⟨T.zv,_,_,⟨g1,g2,ac8,k8⟩,G8,b8⟩;have G9:=FM T F9 CM8;have jj:MkD l.prog w K mg base 2 "BasinLock" cB ["self","name","high","low","room","side"] (cV (jF cP cB cU) .basin):=⟨T.vn,_,_,⟨xa1,a9,i9,xa2⟩,G9,b9⟩;have G10:=GJ T F10 CM8;have jy:MkD l.prog w K mg base 2 "PumpLock" cU ["self","name","high","low","room","lift"] (cV (jF cP cB cU) .pump):=⟨T.wb,_,_,⟨xa6,a10,i10,xa7⟩,G10,b10⟩;have G11:=GP T F11;have xaC:MkD l.prog w K mg base 1 "Reach" cR ["self","name","least","crest","berths","water","target"] (o7 cR):=⟨T.xaj,_,_,⟨xbb,a11,i11,xbc⟩,G11,b11⟩;have G12:=GH T F12;have xao:=J8 (T.cl .plain) a12 i12 F12 G12;have G13:=FP T F13;have xap:=J8 (T.cl .basin) a13 i13 F13 G13;have G14:=GN T F14;have xaq:=J8 (T.cl .pump) a14 i14 F14 G14;have jb:MeK l.prog w K mg base 1 (jF cP cB cU) "kind" ["self"] (QH (jF cP cB cU) (fun kd _=>V.str (match kd with|.plain=>"plain"|.basin=>"basin"|.pump=>"pump"))):=⟨fun kd=>match kd with|.plain=>xao|.basin=>xap|.pump=>xaq⟩;have G15:=GF T F15;have xag:=J8 (T.cl .plain) a15 i15 F15 G15;have G16:=FN T F16;have xah:=J8 (T.cl .basin) a16 i16 F16 G16;have G17:=GL T F17;have xai:=J8 (T.cl .pump) a17 i17 F17 G17;have we:MeK l.prog w K mg base 1 (jF cP cB cU) "extra" ["self"] (QH (jF cP cB cU) (fun kd v=>V.int (match kd with|.plain=>0|.basin=>v|.pump=>v))):=⟨fun kd=>match kd with|.plain=>xag|.basin=>xah|.pump=>xai⟩
 have G18:=GG T F18 D7;have vt:=dU (T.cl .plain) a18 i18 F18 G18;have G19:=FO T F19 D7;have vv:=dU (T.cl .basin) a19 i19 F19 G19;have G20:=GM T F20 D7;have vw:=dU (T.cl .pump) a20 i20 F20 G20;have zc:MeK l.prog w K mg base 2 (jF cP cB cU) "fill_parts" ["self","basin"] (JG (jF cP cB cU) ZV):=⟨fun kd=>match kd with|.plain=>vt|.basin=>vv|.pump=>vw⟩;have G21:=GI T F21 D7;have wz:MeD l.prog w K mg base 2 cP "let_parts" ["self","basin"] (JG (jF cP cB cU) QV .plain):=⟨T.cl .plain,_,_,⟨a21,i21,k21⟩,(G21.imp (sp':=JG (jF cP cB cU) QV .plain) (fun vs H Q E ⟨x,n,h,l,room,v,b,e,a,q⟩=>⟨.plain,x,n,h,l,room,v,b,e,a,q⟩)),b21⟩;have ua:MeD l.prog w K mg base 2 cU "let_parts" ["self","basin"] (JG (jF cP cB cU) QV .pump):=⟨T.cl .pump,_,_,⟨a21_U,i21,k21⟩,(G21.imp (sp':=JG (jF cP cB cU) QV .pump) (fun vs H Q E ⟨x,n,h,l,room,v,b,e,a,q⟩=>⟨.pump,x,n,h,l,room,v,b,e,a,q⟩)),b21⟩;have G22:=FQ T F22 D7;have uc:=dU (T.cl .basin) a22 i22 F22 G22;have zk:MeK l.prog w K mg base 2 (jF cP cB cU) "let_parts" ["self","basin"] (JG (jF cP cB cU) QV):=⟨fun kd=>match kd with|.plain=>wz|.basin=>uc|.pump=>ua⟩;have G23:=FT T F23;have xaD:MkD l.prog w K mg base 1 "Canal" cN ["self","reaches","locks","nights"] (o8 (jF cP cB cU) cR cN):=⟨T.xak,_,_,⟨xbg,a23,i23,xbh⟩,G23,b23⟩;have G24:=FY T F24;have xaE:=J8 T.clN a24 i24 F24 G24;have G25:=FZ T F25 xaE;have xaF:=J8 T.clN a25 i25 F25 G25;have G26:=FX T F26 xaF;have xaL:=J8 T.clN a26 i26 F26 G26;have G27:=FV T F27;have ud:=dU T.clN a27 i27 F27 G27;have G28:=FU T F28;have ue:=dU T.clN a28 i28 F28 G28;have G29:=GB T F29 xaE;have uf:=J8 T.clN a29 i29 F29 G29;have G30:=GA T F30 xaL D5 uf;have xaG:=J8 T.clN a30 i30 F30 G30;have G31:=FW T F31 ud;have xal:=VR T.clN a31 i31 F31 G31;have D32:=yU X G a32 F32 (HH T F32 zc);have D33:=yU X G a33 F33 (HS T F33 zk);have D34:=yU X G a34 F34 (HI T F34);have D35:=yU X G a35 F35 (G7 T F35 D34);have D36:=QA X G a36 F36 (IF T F36 D33 D32 D35);have D37:=yU X G a37 F37 (IN T F37);have GX38:=(HU T F38 D37);have DX38:=VU X G a38 F38 GX38;have D38:=yT X G a38 F38 (GX38.noX (sp':=pN K (jF cP cB cU) cR cN) MY);have D39:=yU X G a39 F39 (IP T F39);have D40:=yT X G a40 F40 (II T F40 D39 D38);have D41:=QA X G a41 F41 (HW T F41 D40);have D42:=yT X G a42 F42 (IA T F42 xaF D6 uf);have D43:=QA X G a43 F43 (HJ T F43 D41);have D44:=yU X G a44 F44 (HZ T F44);have D45:=yU X G a45 F45 (IB T F45);have D46:=yT X G a46 F46 (HF T F46 D45);have D47:=yT X G a47 F47 (HE T F47 ue ud);have D48:=QA X G a48 F48 (IE T F48 D44 ue D47 D36 xal);have D49:=yT X G a49 F49 (HR T F49 D47 D33 ue);have D50:=yT X G a50 F50 (HL T F50);have D51:=yT X G a51 F51 (HG T F51 D0 D50);have D52:=QA X G a52 F52 (IQ T F52 D40 D43 D51 D48);have D53:=QA X G a53 F53 (IR T F53 D52 xal);have GX54:=(IH T F54 D53 D42 D48 D49 D6 uf);have DX54:=mI X G a54 F54 GX54;have D54:=QA X G a54 F54 (GX54.noX (sp':=BC (jF cP cB cU) cR cN) NR);have GX55:=(G4 T F55 D46 D0 DX54);have DX55:=mI X G a55 F55 GX55;have D55:=QA X G a55 F55 (GX55.noX (sp':=iL (jF cP cB cU) cR cN) OI);have D56:=yT X G a56 F56 (HX T F56 D53)
 have D57:=yU X G a57 F57 (IO T F57 D39);have D58:=yU X G a58 F58 (G6 T F58 D57);have V59:=GD T D58;have V60:=GC T D56 D55;have hcL61:=W.law_code X G ht61 (W.mg_of X G a61) (X _ _ l61) rfl;have D61:=bN (HK (P:=l.prog) (w:=w) (base:=base) (mg:=mg) F61 hcL61 (hTs (ctH,tH) (by simp)).1 (hTs (ctH,tH) (by simp)).2.1 (hTs (ctH,tH) (by simp)).2.2) (W.mg_of X G a61) k61 b61;have hcL62:=W.law_code X G ht62 (W.mg_of X G a62) (X _ _ l62) rfl;have D62:=bN (G5 (P:=l.prog) (w:=w) (base:=base) (mg:=mg) F62 hcL62 (hTs (ctA,tA) (by simp)).1 (hTs (ctA,tA) (by simp)).2.1 (hTs (ctA,tA) (by simp)).2.2) (W.mg_of X G a62) k62 b62;have D63:=yU X G a63 F63 (IJ T F63);have D64:=yT X G a64 F64 (HY T F64 V60);have GX65:=(HQ T F65 V59 D63 D64);have DX65:=mI X G a65 F65 GX65;have GX66:=(HV T F66 DX65 D62 D61);have DX66:=mI X G a66 F66 GX66;have D67:=yT X G a67 F67 (GU T F67);have D68:=yT X G a68 F68 (GZ T F68 D67 xaC);have D69:=QA X G a69 F69 (GY T F69 D67 jj jy ji);have D70:=uO X G a70 F70 (GS T F70 D67 D68 D69 xaD);have D71:=yT X G a71 F71 (G3 T F71 D67);have D72:=yT X G a72 F72 (G1 T F72 xaG D67 jb we);have D73:=yU X G a73 F73 (GW T F73);have V74:=FR T D56 D55;have V75:=FS T D73;have D76:=yT X G a76 F76 (GT T F76 V74);have D77:=yU X G a77 F77 (GX T F77);have D78:=QA X G a78 F78 (G2 T F78 DX66);have D79:=QA X G a79 F79 (GQ T F79 V75 V74);have D80:=VW X G a80 F80 (G0 T F80 D77 V75 D76);have hcL81:=W.law_code X G ht81 hfa (X _ _ l81) rfl;have G81:=HN T F81 hcL81 (hTs (ctL,tL) (by simp)).1 (hTs (ctL,tL) (by simp)).2.1 (hTs (ctL,tL) (by simp)).2.2 D70 D67 D71 D72 D79 D78 D80;exact G81
theorem tabIn_mk {x:Str} {P:Addr} {oc oc2:Value} {od od2:Option Addr} {fd:FuncData} {sl sl2:Array (Option Value)} {vs:Array Value} (h1:W.nsIn K mainGlobals x=some (some (.ref f))) (h2:K.lookup f=some ⟨oc,od,.func fd,sl⟩) (h3:fd.code=.ref c) (h4:K.lookup c=some ⟨oc2,od2,.fields vs,sl2⟩) (h5:(vs[11]?:Option Value)=some (.ref P)):W.tabIn K x=some (c,P):=by
 unfold W.tabIn;simp only [h1,h2,h3,h4,h5]
theorem walk {l:W.OpenLaw} {q:Program} {loose:List Str} {XP:(Str→Option Value)→Heap→Prop} {YP:World→Heap→Prop} {d:DefRec} {K:Params→W.Frag} {ctA ctH ctL tL:Addr} (hn:l.most=some 63) (hdf:d.params.defaults=[])
  (hrtA:((PyProof.Rows.recsOf q).find? (fun e=>e.name == ("ahead_on":Str))).isSome=true) (hrtH:((PyProof.Rows.recsOf q).find? (fun e=>e.name == ("homecoming":Str))).isSome=true) (hrtL:((PyProof.Rows.recsOf q).find? (fun e=>e.name == ("law":Str))).isSome=true) (httA:∀P:Params,W.tabIn (K P) "ahead_on"=some (ctA,tA)) (httH:∀P:Params,W.tabIn (K P) "homecoming"=some (ctH,tH)) (httL:∀P:Params,W.tabIn (K P) "law"=some (ctL,tL)) (hno:∀P:Params,W.noTabs (K P)=true) (hne:tA≠tH) (hne1:tL≠tA) (hne2:tL≠tH)
  (hY:∀(w:World) (h:Heap),YP w h→(K w.params).In h)
  (F:∀(w:World) (mg:Str→Option Value) (fa:Addr) (h:Heap),(K w.params).In h→h.Ns mainGlobals mg→mg d.name=some (.ref fa)→
   ∃fd:FuncData,(∀(s:Shared) (u:Value),BindsTo s fd ⟨[u],[]⟩ [("_law_script",u)])∧∀base:Heap,(K w.params).In base→base.Ns mainGlobals mg→(∀p∈([(ctA,tA),(ctH,tH),(ctL,tL)]:List (Addr×Addr)),W.CodeHd base p.1 p.2∧base.BuiltinsAt mg p.2∧PySem.mainGlobals≠p.2)→FnOk l.prog w (K w.params) mg base jK 21 fa fd ["_law_script"] (i0 tA tH tL (K w.params))) :
  W.WalkO q loose XP YP l.row.toRowW d [] (fun f vs=>PySem.call f vs) :=
 L2.walk_ofTs [("ahead_on",ctA,tA),("homecoming",ctH,tH),("law",ctL,tL)] (n:=63) (k:=21) (x:="_law_script") (CX:=fun _=>jK) (sp:=fun w=>i0 tA tH tL (K w.params)) hn (by decide) hdf ⟨rfl,by decide,by decide⟩ (fun e he=>by
  simp only [mem_cons,mem_nil_iff,or_false] at he
  rcases he with rfl|rfl|rfl
  ·exact hrtA
  ·exact hrtH
  ·exact hrtL) (fun P e he=>by
  simp only [mem_cons,mem_nil_iff,or_false] at he
  rcases he with rfl|rfl|rfl
  ·exact httA P
  ·exact httH P
  ·exact httL P) hno hY F (fun _ _ a ns hl hO hS=>⟨a,ns,rfl,hS,hl,hne,hne1,hne2,hO.1 tA (by simp),hO.1 tH (by simp),hO.1 tL (by simp),fun _=>rfl⟩) fun _ _ _ _ _ z=>z
end My
/- These names are taken here so that the head below leaves out its twins of whole states (they are not needed,and make the compiled file larger than a hand-in may be). -/
namespace PySem.W.Fast
def tw8950458723397781018:Nat:=0
def tw13954033760178875128:Nat:=0
def tw1720780545245022870:Nat:=0
def tw5487570510528604213:Nat:=0
def tw12384727318425169204:Nat:=0
def tw4003732187158572649:Nat:=0
def tw17223316822906091102:Nat:=0
def tw18285127644315982829:Nat:=0
def tw17075868375204360476:Nat:=0
def tw1688001721273451400:Nat:=0
def tw6838904709691486004:Nat:=0
def tw4023867133139234539:Nat:=0
def tw9194507028042063744:Nat:=0
def tw16234350368644283700:Nat:=0
def tw12892735363500235722:Nat:=0
def tw12120939649358433577:Nat:=0
def tw7929937891229763610:Nat:=0
def tw12324987070239103919:Nat:=0
def tw17898693352317489560:Nat:=0
def tw17826793022249711074:Nat:=0
def tw14834570859382962025:Nat:=0
def tw11731138337809607717:Nat:=0
def tw18268956066874277440:Nat:=0
def tw9701543804193407479:Nat:=0
def tw7833122145271726624:Nat:=0
def tw11576763757712301828:Nat:=0
def tw10376276638974408644:Nat:=0
def tw6760037212934894320:Nat:=0
def tw17329483533704612675:Nat:=0
def tw5091133675074920647:Nat:=0
def tw8427217723215412680:Nat:=0
def tw8078515074847252719:Nat:=0
def tw16876119212535780277:Nat:=0
def tw7829137676585579892:Nat:=0
def tw10634230719173569447:Nat:=0
def tw16920320196633592557:Nat:=0
def tw3722377760077028684:Nat:=0
def tw13748484366480158763:Nat:=0
def tw14152500498331686851:Nat:=0
def tw17728263345104827791:Nat:=0
def tw9014665225467196613:Nat:=0
def tw14647370888001877855:Nat:=0
def tw4081192405334074044:Nat:=0
def tw16887171956853746769:Nat:=0
def tw9003240756424289794:Nat:=0
def tw16889422368088455189:Nat:=0
def tw8340491701378655762:Nat:=0
def tw17364738055383641512:Nat:=0
def tw4843634163915978252:Nat:=0
def tw7686492597149176457:Nat:=0
def tw4729866467482824784:Nat:=0
def tw1954204627217278863:Nat:=0
def tw12968334990210801814:Nat:=0
def tw10146553033158391482:Nat:=0
def tw2165102834181981018:Nat:=0
def tw2696129627203609727:Nat:=0
def tw1430219186057867247:Nat:=0
def tw6984129020459173399:Nat:=0
def tw4574304767388270246:Nat:=0
def tw16408047424379714097:Nat:=0
def tw9496622947606995111:Nat:=0
def tw15679902086577704604:Nat:=0
def tw16178953276735700499:Nat:=0
def tw1787373409015058626:Nat:=0
def tw3789667555598441760:Nat:=0
def tw15683078862903020471:Nat:=0
def tw17012860253427602199:Nat:=0
def tw11934254376855885553:Nat:=0
def tw4599884870452091592:Nat:=0
def tw17941574175748733249:Nat:=0
def tw15644940913666515054:Nat:=0
def tw4295374519193131973:Nat:=0
def tw13391482031543046178:Nat:=0
def tw8489639326180413991:Nat:=0
def tw18113187949970522341:Nat:=0
def tw17590901517530655783:Nat:=0
def tw348780534526598932:Nat:=0
def tw9043095461096892987:Nat:=0
def tw364911089526288538:Nat:=0
def tw12470609323961443083:Nat:=0
def tw2819932647600625955:Nat:=0
def tw7523239939279947902:Nat:=0
def tw14288646056785287631:Nat:=0
def tw10131151949437403040:Nat:=0
def tw6639625383618795407:Nat:=0
def tw7759815842964174263:Nat:=0
def tw9814041393724627336:Nat:=0
def tw16141073969983225975:Nat:=0
def tw13214835455377389201:Nat:=0
def tw7870215485440316455:Nat:=0
def tw16814606812469164919:Nat:=0
def tw7647570507825713853:Nat:=0
def tw11236279915746045001:Nat:=0
def tw12712250489194231038:Nat:=0
def tw13154145786599268263:Nat:=0
def tw1594153791066874713:Nat:=0
def tw13446385707062778143:Nat:=0
def tw11861775834146961472:Nat:=0
def tw133070692671272954:Nat:=0
def tw3856502371222037466:Nat:=0
def tw10496856954720771902:Nat:=0
def tw14770590312825685508:Nat:=0
def tw8200326447305691984:Nat:=0
def tw8445055507366383412:Nat:=0
def tw18313380278768135862:Nat:=0
def tw12813659973330824147:Nat:=0
def tw16586851664600639095:Nat:=0
def tw3254025571036761271:Nat:=0
def tw1647898151192735899:Nat:=0
def tw8632811479720045899:Nat:=0
def tw5684581617361383154:Nat:=0
def tw9361945694937097789:Nat:=0
def tw18141200641172107179:Nat:=0
def tw3138468871584740048:Nat:=0
def tw18230124651012128385:Nat:=0
def tw2192060428715926006:Nat:=0
def tw14128709190207992589:Nat:=0
def tw1145735735224241632:Nat:=0
def tw10813395801923373752:Nat:=0
def tw5057873395767692458:Nat:=0
def tw16717624258773397694:Nat:=0
def tw8745828588785434029:Nat:=0
def tw17726974154566172653:Nat:=0
def tw7352875619545978368:Nat:=0
def tw1791181865143119855:Nat:=0
def tw5334094820466477497:Nat:=0
def tw6804024043104059814:Nat:=0
def tw1863294854057001300:Nat:=0
def tw11755247385929343169:Nat:=0
def tw9001090572810950514:Nat:=0
def tw4865389407337342787:Nat:=0
def tw16933846061233483163:Nat:=0
def tw3270726386191242108:Nat:=0
def tw12379001341171725737:Nat:=0
def tw16188653748082796811:Nat:=0
def tw15137127725578829592:Nat:=0
def tw1976989804287605795:Nat:=0
def tw2047802110542125476:Nat:=0
def tw4461994360212642163:Nat:=0
def tw11640076734137790032:Nat:=0
def tw2153634666941548565:Nat:=0
def tw6133490676659336880:Nat:=0
def tw14788539756675971751:Nat:=0
def tw17685209472669862770:Nat:=0
def tw12378098110449629546:Nat:=0
def tw14715914296980375134:Nat:=0
def tw11547625164990263205:Nat:=0
def tw7882999392000830663:Nat:=0
def tw6266284155722976915:Nat:=0
def tw17771343200059869204:Nat:=0
def tw425450220037585583:Nat:=0
def tw4037679504745819416:Nat:=0
def tw15266274034324023782:Nat:=0
def tw7880556544673350949:Nat:=0
def tw80680110800001381:Nat:=0
def tw16419756311405635248:Nat:=0
def tw3871604660120727913:Nat:=0
def tw12264901054628733876:Nat:=0
def tw278483946134027185:Nat:=0
def tw10819100673216914479:Nat:=0
def tw4797045246884378774:Nat:=0
def tw28273176715189261:Nat:=0
def tw7107219576350144970:Nat:=0
def tw3273709480067288153:Nat:=0
def tw13460925453752607631:Nat:=0
def tw2274265329583136270:Nat:=0
def tw2552675281162721323:Nat:=0
def tw14701445207232455913:Nat:=0
def tw13416711251621584068:Nat:=0
def tw19984047791308697:Nat:=0
def tw17143156058042477481:Nat:=0
def tw15847602536546968075:Nat:=0
def tw8659651169621149498:Nat:=0
def tw2514549439223058962:Nat:=0
def tw4742161218013651939:Nat:=0
def tw15012084294917625246:Nat:=0
def tw18411905838310196252:Nat:=0
def tw2054373042454640099:Nat:=0
def tw13951587317600850568:Nat:=0
def tw1971150353405699447:Nat:=0
def tw8727139924733137157:Nat:=0
def tw13027041716694196393:Nat:=0
end PySem.W.Fast
open PySem PySem.W PyProof.Rows
set_option maxRecDepth 100000 in
set_option maxHeartbeats 0 in
theorem PySem.Challenge.cw_lockhouse_k56_whole_look_holds : PySem.Challenge.rw_lockhouse_k56_whole_look.Holds := by
 w_on;o_law;k_head;(case hw=>w_witness2)
 k_fill
 refine' My.walk (l:=PySem.Challenge.rw_lockhouse_k56_whole_look) rfl rfl ?rectA ?rectH ?rectL ?tabtA ?tabtH ?tabtL ?no ?ne ?ne1 ?ne2 (fun w h Y=>PySem.W.km_in_of Y) ?F
 case tabtA|tabtH|tabtL =>
  intro P
  refine' My.tabIn_mk ?t1 ?t2 ?t3 ?t4 ?t5
  (case t1=>k_is)
  (case t2=>k_is)
  (case t3=>rfl)
  (case t4=>k_is)
  (case t5=>rfl)
 case rectA|rectH|rectL=>kernel_rfl
 case no=>intro P;kernel_rfl
 case ne=>decide
 case ne1=>decide
 case ne2=>decide
 case F =>
  intro w mg fa h KX G hmg
  refine' My.all_mk KX G hmg ?xaO ?xaP ?xaQ ?xaR ?xaS ?vi ?zp ?vb ?p0 ?p1 ?p2 ?p3 ?p4 ?p5 ?p6 ?p7 ?a8 ?i8 ?ac8 ?p8 ?a9 ?i9 ?p9 ?a10 ?i10 ?p10 ?a11 ?i11 ?p11 ?p12 ?p13 ?p14 ?p15 ?p16 ?p17 ?p18 ?p19 ?p20 ?a21 ?a21_U ?i21 ?p21 ?p22 ?a23 ?i23 ?l23 ?c23 ?k23 ?lT23 ?dT23 ?p24 ?p25 ?p26 ?p27 ?p28 ?p29 ?p30 ?p31 ?p32 ?p33 ?p34 ?p35 ?p36 ?p37 ?p38 ?p39 ?p40 ?p41 ?p42 ?p43 ?p44 ?p45 ?p46 ?p47 ?p48 ?p49 ?p50 ?p51 ?p52 ?p53 ?p54 ?p55 ?p56 ?p57 ?p58 ?a61 ?l61 ?c61 ?k61 ?a62 ?l62 ?c62 ?k62 ?p63 ?p64 ?p65 ?p66 ?p67 ?p68 ?p69 ?p70 ?p71 ?p72 ?p73 ?p76 ?p77 ?p78 ?p79 ?p80 ?a81 ?l81 ?c81 ?k81 ?xn ?xq ?vx ?xi ?xf ?vk ?vy ?xj ?ul ?xt ?um ?xh ?uo ?xaT ?xax ?xaU ?xaV ?xaW ?xaX ?wf ?wg ?jf ?wj ?xaY ?xay ?xaZ ?xa0 ?xa1 ?xa2 ?wk ?wm ?jg ?wp ?wr ?xa3 ?xaz ?xa4 ?xa5 ?xa6 ?xa7 ?wu ?ww ?jh ?wx ?wy ?g1 ?g2 ?xa8 ?xaA ?xa9 ?xba ?xbb ?xbc ?zx ?xx ?xy ?xu ?xz ?xr ?xbd ?xaB ?xbe ?xbf ?xbg ?xbh ?xg ?xb ?xl ?gSEA ?vj ?zq ?vc ?gHOME ?ht62 ?ht61 ?ht81
  (case xaO|xaP|xaQ|xaR|xaS|vi|zp|vb|a61|a62|a81|xn|xq|vx|xi|xf|vk|vy|xj|ul|xt|um|xh|uo|gSEA|gHOME=>refine' L2.nsP_mk ?_;first|k_is|k_exc|kit_is|kts_exm|rfl)
  (case a8|a9|a10|a11|a21|a21_U|a23|xaV|wf|wg|jf|wj|xa0|wk|wm|jg|wp|wr|xa5|wu|ww|jh|wx|wy|xba|zx|xx|xy|xu|xz|xr|xbf|xg|xb|xl=>refine' L2.fnP_mk ?_;first|k_is|k_exc|kit_is|kts_exm|rfl)
  (case i8|ac8|i9|i10|i11|i21|i23|l23|c23|k23|lT23|dT23|l61|c61|k61|l62|c62|k62|l81|c81|k81|xaT|xax|xaU|xaW|xaX|xaY|xay|xaZ|xa1|xa2|xa3|xaz|xa4|xa6|xa7|g1|g2|xa8|xaA=>first|k_is|k_exc|kit_is|kts_exm|rfl)
  (case xa9|xbb|xbc|xbd|xaB|xbe|xbg|xbh|vj|zq|vc=>first|k_is|k_exc|kit_is|kts_exm|rfl)
  (case ht62=>kernel_rfl)
  (case ht61=>kernel_rfl)
  (case ht81=>kernel_rfl)
  (case p8|p9|p10|p11|p21=>refine' ⟨_,L2.cD ?l ?c ?k⟩;(case l=>k_is);(case c=>k_is);(case k=>k_is))
  (case p0|p1|p2|p3|p4|p5|p6|p7|p32|p33|p34|p35|p36|p37|p38|p39|p40|p41|p42|p43|p44|p45|p46|p47|p48|p49|p50|p51|p52|p53|p54|p55|p56|p57|p58|p63|p64|p65|p66|p67=>refine' L2.fnT_mk ?a ?l ?c ?k;(case a=>k_is);(case l=>k_is);(case c=>k_is);(case k=>k_is))
  (case p68|p69|p70|p71|p72|p73|p76|p77|p78|p79|p80=>refine' L2.fnT_mk ?a ?l ?c ?k;(case a=>k_is);(case l=>k_is);(case c=>k_is);(case k=>k_is))
  (case p12|p13|p14|p15|p16|p17|p18|p19|p20|p22|p24|p25|p26|p27|p28|p29|p30|p31=>refine' L2.fnC_mk ?a ?i ?l ?c ?k;(case a=>k_is);(case i=>first|k_is|rfl);(case l=>k_is);(case c=>k_is);(case k=>k_is))
