import PyProof.Rows.All
import Wide.All
import OpenK.AllK
import Wide.FinOn
import Lean
import PyProof.EqAt
import PyProof.EqKinds
import PyProof.TupleCall
import PyProof.NeKinds
import OpenK.KOwn
import KE.KTryMore
import KE.RegKTryMore
import PyProof.NsDelKeeps
import KE.KIntText
import PySem.Challenge.RW_lockhouse_k46_a_deed_done
set_option Elab.async false
set_option linter.all false
set_option maxRecDepth 100000
namespace L2
open PySem PySem.Spec PyProof.Rows
abbrev j6:=Sum Int Str
def dB:j6→Value→Bool
 |.inl k,v=>Value.isInt k v
 |.inr x,v=>Value.isStrOf x v
def IE (w:World):j6→Int
 |.inl k=>hashInt k
 |.inr x=>hashStr w x
theorem z3:∀{k:j6} {v:Value},dB k v=true→(∃i t,k=Sum.inl i∧v=Value.int i t)∨(∃x t,k=Sum.inr x∧v=Value.str x t)
 |.inl i,v,h=>by
  obtain ⟨t,e⟩:=Value.isInt_shape (k:=i) (v:=v) h
  exact .inl ⟨i,t,rfl,e⟩
 |.inr x,v,h=>by
  obtain ⟨t,e⟩:=Value.isStrOf_shape (x:=x) (v:=v) h
  exact .inr ⟨x,t,rfl,e⟩
theorem DA (i:Int) (t:Tok):dB (.inl i) (.int i t)=true:=by simp [dB,Value.isInt]
theorem C9 (x:Str) (t:Tok):dB (.inr x) (.str x t)=true:=by simp [dB,Value.isStrOf]
theorem GI (a b:Int):decide ((Sum.inl a:j6)=Sum.inl b)=(a == b):=by
 by_cases e:a=b
 ·subst e;simp
 ·have h:¬(Sum.inl a:j6)=Sum.inl b:=fun q=>e (Sum.inl.inj q)
  rw [decide_eq_false h]
  exact (beq_eq_false_iff_ne.mpr e).symm
theorem GF (a b:Str):decide ((Sum.inr a:j6)=Sum.inr b)=decide (a=b):=by
 by_cases e:a=b
 ·subst e;simp
 ·have h:¬(Sum.inr a:j6)=Sum.inr b:=fun q=>e (Sum.inr.inj q)
  rw [decide_eq_false h,decide_eq_false e]
theorem GH (a:Int) (b:Str):decide ((Sum.inl a:j6)=Sum.inr b)=false:=decide_eq_false (fun q=>nomatch q)
theorem GG (a:Str) (b:Int):decide ((Sum.inr a:j6)=Sum.inl b)=false:=decide_eq_false (fun q=>nomatch q)
def yA (prog:Program) (w:World):PySem.KeyKind prog w j6 where
 is:=dB
 hash:=IE w
 inj:=fun v a b ha hb=>by
  rcases z3 ha with ⟨i,t,rfl,rfl⟩|⟨x,t,rfl,rfl⟩
  ·rcases z3 hb with ⟨j,u,rfl,e⟩|⟨y,u,rfl,e⟩
   ·injection e with e1 _;rw [e1]
   ·exact nomatch e
  ·rcases z3 hb with ⟨j,u,rfl,e⟩|⟨y,u,rfl,e⟩
   ·exact nomatch e
   ·injection e with e1 _;rw [e1]
 byValue:=fun k v h=>by
  rcases z3 h with ⟨i,t,rfl,rfl⟩|⟨x,t,rfl,rfl⟩<;>rfl
 pyHash:=fun hv h=>by
  rcases z3 hv with ⟨i,t,rfl,rfl⟩|⟨x,t,rfl,rfl⟩
  ·exact wpAny_pyHash_int h
  ·exact wpAny_pyHash_str h
 eqBool:=fun hu hv h=>by
  rcases z3 hu with ⟨i,t,rfl,rfl⟩|⟨x,t,rfl,rfl⟩
  ·rcases z3 hv with ⟨j,u,rfl,rfl⟩|⟨y,u,rfl,rfl⟩
   ·rw [GI] at h;exact wpAny_eqBool_int h
   ·rw [GH] at h;exact SeqAt.EqAt.int_str i t y u _ _ _ _ h
  ·rcases z3 hv with ⟨j,u,rfl,rfl⟩|⟨y,u,rfl,rfl⟩
   ·rw [GG] at h;exact SeqAt.EqAt.str_int x t j u _ _ _ _ h
   ·rw [GF] at h;exact wpAny_eqBool_str h
 «strs»:=fun k x t v h=>by
  rcases z3 h with ⟨i,u,rfl,e⟩|⟨y,u,rfl,e⟩
  ·exact nomatch e
  ·injection e with e1 _
   subst e1
   cases v<;>rfl
theorem BV (prog:Program) (w:World) (i:Int) (t:Tok):(yA prog w).is (.inl i) (.int i t)=true:=DA i t
theorem BU (prog:Program) (w:World) (x:Str) (t:Tok):(yA prog w).is (.inr x) (.str x t)=true:=C9 x t
end L2
namespace L2
open PySem PySem.Spec PyProof.Rows
inductive V where
 |non|bl (b:Bool)|int (i:Int)|str (x:Str)|byt (b:Array UInt8)|flt (b:UInt64)|ref (a:Addr)|ty (n:String)
 deriving DecidableEq
def RelV:V→Value→Prop
 |.non,u=>u=Value.none
 |.bl b,u=>u=Value.bool b
 |.int i,u=>∃t,u=Value.int i t
 |.str x,u=>∃t,u=Value.str x t
 |.byt b,u=>∃t,u=Value.bytes b t
 |.flt b,u=>∃t,u=Value.float b t
 |.ref a,u=>u=Value.ref a
 |.ty n,u=>u=Value.type n
abbrev Vals:List V→List Value→Prop:=Paired RelV
theorem Vals.length {xs:List V} {us:List Value} (r:Vals xs us):xs.length=us.length:=Paired.length r
theorem Vals.get:∀{xs:List V} {us:List Value} {i:Nat} {x:V},Vals xs us→xs[i]?=some x→∃u,us[i]?=some u∧RelV x u
 |_,_,_,_,.nil,e=>by simp at e
 |_,_,0,_,.cons r _,e=>by simp at e;subst e;exact ⟨_,rfl,r⟩
 |_,_,i+1,x,.cons _ t,e=>by
  obtain ⟨u,h1,h2⟩:=Vals.get (i:=i) (x:=x) t (by simpa using e)
  exact ⟨u,by simpa using h1,h2⟩
theorem Vals.set {x:V} {u:Value} (r:RelV x u):∀{xs:List V} {us:List Value} (i:Nat),Vals xs us→Vals (xs.set i x) (us.set i u)
 |_,_,_,.nil=>.nil
 |_,_,0,.cons _ t=>.cons r t
 |_,_,i+1,.cons q t=>.cons q (Vals.set r i t)
theorem Vals.append:∀{xs ys:List V} {us ws:List Value},Vals xs us→Vals ys ws→Vals (xs++ys) (us++ws)
 |_,_,_,_,.nil,s=>s
 |_,_,_,_,.cons r t,s=>.cons r (Vals.append t s)
def RelO:Option V→Option Value→Prop
 |some v,some u=>RelV v u
 |none,none=>True
 |_,_=>False
def KV {κ:Type}:List (κ×V)→List (κ×Value)→Prop:=Paired fun (p:κ×V) (q:κ×Value)=>p.1=q.1∧RelV p.2 q.2
def kV:j6→V
 |.inl i=>.int i
 |.inr x=>.str x
inductive HO where
 /-- a list -/
 |lst (xs:List V)
 /-- a tuple (never changes) -/
 |tup (xs:List V)
 /-- a dict whose keys are ints and texts;one whose keys are tuples of ints and texts (the empty one is both) -/
 |dK (kvs:List (j6×V))|dT (kvs:List (List j6×V))
 /-- a set of ints: its members,its size -/
 |set (S:Int→Bool) (n:Nat)
 /-- an instance of the class at C,its dict at dx,its attributes -/
 |ins (C dx:Addr) (fs:List (Str×V))
 /-- the dict of the instance at x -/
 |own (x:Addr)
 /-- the dict of an exception -/
 |xd (fs:List (Str×V))
 /-- a bound method,f of x -/
 |met (f x:Addr)
 /-- a range object lo,lo+1,.. below hi -/
 |rng (lo hi:Int)
 /-- a thing that is known to the object (the script;a dict while a loop walks it): read,never written while it is so -/
 |frz (o:Obj) (u:HO)
 /-- a code object's table -/
 |tbl (ps:Array Value)
 /-- any other thing,by what is true of its one object (a def of one's own: SetO a S n:=HO.ext fun h=>..) -/
 |ext (φ:Heap→Prop)
abbrev Hp:=Addr→Option HO
def upd (H:Hp) (a:Addr) (o:HO):Hp:=fun b=>if b=a then some o else H b
theorem jE {H:Hp} {a:Addr} {o:HO}:upd H a o a=some o:=by unfold upd;rw [if_pos rfl]
theorem kC {H:Hp} {a b:Addr} {o:HO} (h:b≠a):upd H a o b=H b:=by unfold upd;rw [if_neg h]
theorem zS {H:Hp} {a b:Addr} {o u:HO} (h:H a=some o) (h':H b=some u) (d:o≠u):a≠b:=by
 intro e;subst e;rw [h] at h';exact d (Option.some.inj h')
theorem qI {H:Hp} {a b:Addr} {o:HO} (h:H a=some o) (h':H b=none):a≠b:=by
 intro e;subst e;rw [h] at h';cases h'
section
variable (P:Program) (w:World)
def ObjOk (H:Hp) (h:Heap) (a:Addr):HO→Prop
 |.lst xs=>xs.length≤sizeLine∧∃(its:List Value) (n:Nat),Vals xs its∧h.get? a=some {cls:=.type "list",data:=.seq its.toArray n}
 |.tup xs=>xs.length≤sizeLine∧∃its:List Value,Vals xs its∧IsTup h a its.toArray
 |.dK kvs=>kvs.length≤sizeLine∧(a == sysModules)=false∧∃vs,KV kvs vs∧h.DictOf (yA P w) a vs
 |.dT kvs=>kvs.length≤sizeLine∧(a == sysModules)=false∧∃xs:List (List j6×Addr×Value),
   Paired (fun (p:List j6×V) (q:List j6×Addr×Value)=>p.1=q.1∧H q.2.1=some (.tup (p.1.map kV))∧RelV p.2 q.2.2) kvs xs∧
   ∃o es ep,h.get? a=some o∧o.ExactDict∧o.data=.dict es ep∧es.toList=xs.map (entryOfKey (tupleKind (yA P w)))∧(xs.map (·.1)).Nodup
 |.set S n=>h.SetOf (intKind P w) a S n
 |.ins C dx fs=>H dx=some (.own a)∧fs.length≤1000∧dx≠a∧h.get? a=some (PySem.W.instObj C dx)∧
   ∃mA,h.Ns1 dx mA∧(∀f,RelO (fs.lookup f) (mA f))∧PySem.Within mA (fs.map (·.1))
 |.own _=>∃o,h.get? a=some o
 |.xd fs=>∃mA,h.Ns1 a mA∧∀f,RelO (fs.lookup f) (mA f)
 |.rng lo hi=>∃t u v,h.get? a=some {cls:=.type "range",data:=.fields #[.int lo t,.int hi u,.int 1 v]}
 |.frz o u=>h.get? a=some o∧ObjOk H h a u
 |.tbl ps=>h.get? a=some {cls:=.none,data:=.fields ps}
 |.met f x=>h.get? a=some (PySem.W.methodObj (.ref f) (.ref x))
 |.ext φ=>φ h∧(∃o,h.get? a=some o)∧∀h1 h2:Heap,φ h1→(∀o,h1.get? a=some o→h2.get? a=some o)→φ h2
def HOk (H:Hp) (h:Heap):Prop:=∀a o,H a=some o→ObjOk P w H h a o
end
section
variable {P:Program} {w:World} {H H':Hp} {h h':Heap} {a:Addr} {o:HO}
theorem ObjOk.lt (x:ObjOk P w H h a o):a<h.objs.size:=by
 cases o with
 |lst xs=>obtain ⟨_,_,_,_,e⟩:=x;exact Heap.lt_size e
 |tup xs=>obtain ⟨_,_,_,p⟩:=x;exact p.lt
 |dK kvs=>obtain ⟨_,_,_,_,o,_,_,e,_⟩:=x;exact Heap.lt_size e
 |dT kvs=>obtain ⟨_,_,_,_,o,_,_,e,_⟩:=x;exact Heap.lt_size e
 |set S n=>obtain ⟨o,_,_,_,e,_⟩:=x;exact Heap.lt_size e
 |ins C dx fs=>obtain ⟨_,_,_,e,_⟩:=x;exact Heap.lt_size e
 |own y=>obtain ⟨_,e⟩:=x;exact Heap.lt_size e
 |xd fs=>obtain ⟨_,⟨_,_,_,e,_⟩,_⟩:=x;exact Heap.lt_size e
 |rng lo hi=>obtain ⟨_,_,_,e⟩:=x;exact Heap.lt_size e
 |frz ob u=>obtain ⟨e,_⟩:=x;exact Heap.lt_size e
 |tbl ps=>exact Heap.lt_size (show h.get? a=some _ from x)
 |met f y=>exact Heap.lt_size (show h.get? a=some _ from x)
 |ext φ=>obtain ⟨_,⟨_,e⟩,_⟩:=x;exact Heap.lt_size e
theorem Paired.mapP {α β:Type} {F G:α→β→Prop}:∀{l₁:List α} {l₂:List β},Paired F l₁ l₂→(∀a b,F a b→G a b)→Paired G l₁ l₂
 |_,_,.nil,_=>.nil
 |_,_,.cons r t,f=>.cons (f _ _ r) (Paired.mapP t f)
theorem ObjOk.stay (x:ObjOk P w H h a o) (k:∀b u,(b=a∨H b=some (.own a))→h.get? b=some u→h'.get? b=some u)
  (ho:∀b,H b=some (.own a)→H' b=some (.own a)) (ht:∀b xs,H b=some (.tup xs)→H' b=some (.tup xs)):ObjOk P w H' h' a o:=by
 induction o with
 |lst xs=>obtain ⟨z,its,n,r,e⟩:=x;exact ⟨z,its,n,r,k _ _ (.inl rfl) e⟩
 |tup xs=>obtain ⟨z,its,r,ob,e,c⟩:=x;exact ⟨z,its,r,ob,k _ _ (.inl rfl) e,c⟩
 |dK kvs=>obtain ⟨z,y,vs,r,ob,es,ep,e,c⟩:=x;exact ⟨z,y,vs,r,ob,es,ep,k _ _ (.inl rfl) e,c⟩
 |dT kvs =>
  obtain ⟨z,y,xs,r,ob,es,ep,e,c⟩:=x
  exact ⟨z,y,xs,Paired.mapP r fun p q z=>⟨z.1,ht _ _ z.2.1,z.2.2⟩,ob,es,ep,k _ _ (.inl rfl) e,c⟩
 |set S n=>obtain ⟨ob,es,ep,t,e,c⟩:=x;exact ⟨ob,es,ep,t,k _ _ (.inl rfl) e,c⟩
 |ins C dx fs =>
  obtain ⟨d,z,ne,e,mA,⟨od,es,ep,e2,c⟩,r⟩:=x
  exact ⟨ho _ d,z,ne,k _ _ (.inl rfl) e,mA,⟨od,es,ep,k _ _ (.inr d) e2,c⟩,r⟩
 |own y=>obtain ⟨ob,e⟩:=x;exact ⟨ob,k _ _ (.inl rfl) e⟩
 |xd fs=>obtain ⟨mA,⟨od,es,ep,e,c⟩,r⟩:=x;exact ⟨mA,⟨od,es,ep,k _ _ (.inl rfl) e,c⟩,r⟩
 |rng lo hi=>obtain ⟨t,u,v,e⟩:=x;exact ⟨t,u,v,k _ _ (.inl rfl) e⟩
 |frz ob u ih=>obtain ⟨e,q⟩:=x;exact ⟨k _ _ (.inl rfl) e,ih q⟩
 |tbl ps =>
  have e:h.get? a=some {cls:=.none,data:=.fields ps}:=x
  show h'.get? a=some {cls:=.none,data:=.fields ps}
  exact k a _ (.inl rfl) e
 |met f y =>
  have e:h.get? a=some (PySem.W.methodObj (.ref f) (.ref y)):=x
  show h'.get? a=some (PySem.W.methodObj (.ref f) (.ref y))
  exact k a _ (.inl rfl) e
 |ext φ=>obtain ⟨p,⟨o,e⟩,st⟩:=x;exact ⟨st _ _ p fun o q=>k _ _ (.inl rfl) q,⟨o,k _ _ (.inl rfl) e⟩,st⟩
theorem HOk.lt (x:HOk P w H h) (e:H a=some o):a<h.objs.size:=(x a o e).lt
theorem HOk.fresh (x:HOk P w H h) (e:h.objs.size≤a):H a=none:=by
 cases q:H a with
 |none=>rfl
 |some u=>exact absurd (Nat.lt_of_lt_of_le (x.lt q) e) (Nat.lt_irrefl _)
theorem HOk.kept (x:HOk P w H h) (k:∀b u,h.get? b=some u→h'.get? b=some u):HOk P w H h':=fun a o e =>
 (x a o e).stay (fun b u _ q=>k b u q) (fun _ q=>q) fun _ _ q=>q
theorem HOk.laid (x:HOk P w H h) (k:∀b u,h.get? b=some u→h'.get? b=some u) (hp:h.objs.size≤a) (new:ObjOk P w (upd H a o) h' a o):HOk P w (upd H a o) h':=fun b u e=>by
 have hn:=x.fresh hp
 by_cases hb:b=a
 ·subst hb;rw [jE] at e;cases e;exact new
 ·rw [kC hb] at e
  exact (x b u e).stay (fun c v _ q=>k c v q) (fun c q=>by rw [kC (qI q hn)];exact q) fun c xs q=>by rw [kC (qI q hn)];exact q
end
def Rd (H:Hp) (a:Addr) (u:HO):Prop:=H a=some u∨∃o,H a=some (.frz o u)
theorem Rd.ok {P:Program} {w:World} {H:Hp} {h:Heap} {a:Addr} {u:HO} (r:Rd H a u) (x:HOk P w H h):ObjOk P w H h a u:=by
 rcases r with r|⟨o,r⟩
 ·exact x a u r
 ·obtain ⟨_,q⟩:=x a _ r
  exact q
def eT:Option HO→Prop
 |some (.lst _)=>True
 |some (.dK _)=>True
 |some (.dT _)=>True
 |some (.set _ _)=>True
 |some (.ins _ _ _)=>True
 |some (.ext _)=>True
 |_=>False
section
variable {P:Program} {w:World} {H:Hp} {h h':Heap} {x e:Addr} {o':HO}
theorem HOk.write (ok:HOk P w H h) (mu:eT (H x)) (he:e=x∨H e=some (.own x)) (k:∀b u,b≠e→h.get? b=some u→h'.get? b=some u) (heo:∃u,h'.get? e=some u)
  (new:ObjOk P w (upd H x o') h' x o'):HOk P w (upd H x o') h':=fun b u q=>by
 have nown:∀c y,H c=some (.own y)→c≠x:=fun c y r z=>by subst z;rw [r] at mu;exact mu
 have ntup:∀c xs,H c=some (.tup xs)→c≠x:=fun c xs r z=>by subst z;rw [r] at mu;exact mu
 by_cases hb:b=x
 ·subst hb;rw [jE] at q;cases q;exact new
 ·rw [kC hb] at q
  by_cases hbe:b=e
  ·have q':H b=some (.own x):=by
    rcases he with z|z
    ·exact absurd (hbe.trans z) hb
    ·rw [hbe];exact z
   rw [q] at q';cases q'
   obtain ⟨v,hv⟩:=heo
   exact ⟨v,by rw [hbe];exact hv⟩
  ·refine (ok b u q).stay (fun c v hc r=>k c v ?_ r) (fun c r=>by rw [kC (nown c b r)];exact r) fun c xs r=>by rw [kC (ntup c xs r)];exact r
   rcases hc with rfl|hc
   ·exact hbe
   ·rintro rfl
    rcases he with z|z
    ·exact nown c b hc z
    ·rw [hc] at z;cases z;exact hb rfl
end
structure Un (fs ex:List Addr) (H H':Hp) (h h':Heap):Prop where
 keep:∀b o,h.get? b=some o→H b=none→b∉fs→b∉ex→h'.get? b=some o
 slot:∀b o,h.get? b=some o→H b=none→b∈fs→b∉ex→∃sl,h'.get? b=some {o with slots:=sl}
 free:∀b o,h.get? b=some o→H b=none→b∉ex→H' b=none
 there:∀b o,h.get? b=some o→b∉ex→∃o',h'.get? b=some o'
 tups:∀b xs,H b=some (.tup xs)→H' b=some (.tup xs)
 frzs:∀b o u,H b=some (.frz o u)→H' b=some (.frz o u)
 tbls:∀b ps,H b=some (.tbl ps)→∃more,H' b=some (.tbl (ps++more))
section
variable {fs fs' ex ex':List Addr} {H H1 H2:Hp} {h h1 h2 h':Heap} {a x e:Addr} {o:HO}
theorem Un.any (u:Un fs ex H H1 h h1) {b:Addr} {ob:Obj} (q:h.get? b=some ob) (n:H b=none) (hx:b∉ex):∃sl,h1.get? b=some {ob with slots:=sl}:=by
 by_cases hb:b∈fs
 ·exact u.slot b ob q n hb hx
 ·exact ⟨ob.slots,u.keep b ob q n hb hx⟩
theorem Un.kept (k:∀b u,h.get? b=some u→h'.get? b=some u):Un fs ex H H h h' :=
 ⟨fun b ob q _ _ _=>k b ob q,fun b ob q _ _ _=>⟨ob.slots,k b ob q⟩,fun _ _ _ n _=>n,fun b ob q _=>⟨ob,k b ob q⟩,fun _ _ q=>q,fun _ _ _ q=>q,fun _ ps q=>⟨#[],by rw [q];simp⟩⟩
theorem Un.refl:Un fs ex H H h h:=Un.kept fun _ _ q=>q
theorem Un.laid (k:∀b u,h.get? b=some u→h'.get? b=some u) (hp:h.objs.size≤a) (hn:H a=none):Un fs ex H (upd H a o) h h' where
 keep:=fun b u q _ _ _=>k b u q
 slot:=fun b u q _ _ _=>⟨u.slots,k b u q⟩
 free:=fun b u q n _=>by rw [kC (Nat.ne_of_lt (Nat.lt_of_lt_of_le (Heap.lt_size q) hp))];exact n
 there:=fun b u q _=>⟨u,k b u q⟩
 tups:=fun b xs q=>by rw [kC (qI q hn)];exact q
 frzs:=fun b u xs q=>by rw [kC (qI q hn)];exact q
 tbls:=fun b ps q=>⟨#[],by rw [kC (qI q hn),q];simp⟩
theorem Un.write (mu:eT (H x)) (he:e=x∨H e=some (.own x)) (k:∀b u,b≠e→h.get? b=some u→h'.get? b=some u) (heo:∃u,h'.get? e=some u):Un fs ex H (upd H x o) h h':=by
 have hx:∀b,H b=none→b≠x:=fun b n z=>by subst z;rw [n] at mu;exact mu
 have hb:∀b,H b=none→b≠e:=fun b n z=>by
  subst z
  rcases he with r|r
  ·exact hx b n r
  ·rw [n] at r;cases r
 have hm:∀b u,H b=some u→¬eT (some u)→b≠x:=fun b u q nm z=>by subst z;rw [q] at mu;exact nm mu
 refine ⟨fun b u q n _ _=>k b u (hb b n) q,fun b u q n _ _=>⟨u.slots,k b u (hb b n) q⟩,fun b u q n _=>by rw [kC (hx b n)];exact n,fun b u q _=>?_,
  fun b xs q=>by rw [kC (hm b _ q fun z=>z)];exact q,fun b u xs q=>by rw [kC (hm b _ q fun z=>z)];exact q,fun b ps q=>⟨#[],by rw [kC (hm b _ q fun z=>z),q];simp⟩⟩
 by_cases hbe:b=e
 ·subst hbe;exact heo
 ·exact ⟨u,k b u hbe q⟩
end
def zT (h:Heap) (H:Hp):List Addr:=(List.range h.objs.size).filter fun a=>(H a).isSome
def JP (h:Heap) (H:Hp):Heap:=PySem.W.hideAll h (zT h H)
theorem DD (h:Heap) (H:Hp):(JP h H).objs.size=h.objs.size:=PySem.W.hideAll_size _ _
theorem EG {h:Heap} {H:Hp} {b:Addr} {o:Obj} (e:h.get? b=some o) (n:H b=none):(JP h H).get? b=some o :=
 PySem.W.hideAll_get _ e fun hm=>by
  have q:(H b).isSome=true:=(List.mem_filter.mp hm).2
  rw [n] at q;simp at q
theorem E8 {h:Heap} {H:Hp} {b:Addr} {o:Obj} (e:(JP h H).get? b=some o):h.get? b=some o∧H b=none:=by
 have e':h.get? b=some o:=PySem.W.of_hideAll (zT h H) e
 refine ⟨e',?_⟩
 cases q:H b with
 |none=>rfl
 |some x =>
  have hm:b∈zT h H:=List.mem_filter.mpr ⟨List.mem_range.mpr (Heap.lt_size e'),by simp [q]⟩
  have z:(JP h H).get? b=none:=PySem.W.hideAll_none (zT h H) hm
  rw [z] at e;cases e
def FM (g h:Heap) (L:Addr):List (Addr×Obj):=(List.range h.objs.size).filterMap fun a=>if a=L∨(g.get? a).isSome=true then none else (h.get? a).map fun o=>(a,o)
def rest (g h:Heap) (L d:Addr):List (Addr×Obj):=(FM g h L).filter fun p=>decide (p.1≠d)
end L2
namespace L2
open PySem PySem.Spec PyProof.Rows
structure Mod (K:PySem.W.Frag) (mg:Str→Option Value) (base:Heap):Prop where
 kin:K.In base
 glob:base.Ns mainGlobals mg
 blt:∃mb,base.Ns builtinsNs mb∧∀x:Str,x≠"__name__"→mb x=bootBuiltins x
 nolimit:base.NoLimit
structure Cx where
 prog:Program
 w:World
 K:PySem.W.Frag
 mg:Str→Option Value
 base:Heap
 A:Around
 N:List Str
 s₀:Shared
 H₀:Hp
 env:Env
 outer:List Env
 stack:List Env
 ex:List Addr
 fn:Str→Bool
 calm:Bool
 pn:List (Addr×Obj)
 xe:Value→Shared→Prop
def kS (l:List Env):List Addr:=l.filterMap (·.frame)
abbrev Cx.fs (X:Cx):List Addr:=kS X.outer
def gT (sc:Scope) (x:Str):Prop:=sc.names.lookup x=some .local∨sc.names.lookup x=some .cell∨sc.names.lookup x=some .free
def eU (sc:Scope) (x:Str):Prop:=sc.names.lookup x=some .local∨sc.names.lookup x=some .cell
def IK (env:Env) (h:Heap) (m:Str→Option Value) (x:Str) (u:Value):Prop :=
 (env.kindOf x=some .local∧m x=some u)∨((env.kindOf x=some .cell∨env.kindOf x=some .free)∧∃c,env.cells.lookup x=some c∧h.IsCell c (some u))
structure Cx.Ok (X:Cx):Prop where
 mod:Mod X.K X.mg X.base
 kind:X.env.scope.kind=.function
 glob:X.env.globals=mainGlobals
 blt:X.env.builtins=builtinsNs
 above:X.s₀.heap.objs.size≤X.env.locals
 inj:∀x y c,X.env.cells.lookup x=some c→X.env.cells.lookup y=some c→x=y
 has:∀x,(X.env.kindOf x=some .cell∨X.env.kindOf x=some .free)→∃c,X.env.cells.lookup x=some c
 cab:∀x c,X.fn x=true→X.env.cells.lookup x=some c→X.s₀.heap.objs.size≤c
 hd:X.calm=true→X.A.handled=none
 frames:X.A.frames=some X.stack
 stk:X.stack=X.outer∨(X.stack=X.env::X.outer∧X.env.frame=some X.env.locals)
 exf:∀b∈X.ex,b≠X.env.locals∧∀x c,X.env.cells.lookup x=some c→c≠b
 bs:∀b o,X.base.get? b=some o→X.s₀.heap.get? b=some o∧X.H₀ b=none
 bsz:X.base.objs.size≤X.s₀.heap.objs.size
 noex:∀b o,X.base.get? b=some o→b∉X.ex
 exfs:∀b∈X.ex,b∉X.fs
 funs:X.s₀.heap.FunFrames X.base X.outer
 frf:∀b∈X.fs,X.H₀ b=none
structure Inv (X:Cx) (pins:List (Addr×Obj)) (σ:List (Option V)) (H:Hp) (s:Shared):Prop where
 ok:X.Ok
 os:s.os=X.s₀.os
 bare:AllBare s.gens
 base:Un X.fs X.ex X.H₀ H X.s₀.heap s.heap
 loc:∃m,s.heap.Ns X.env.locals m∧∀(i:Nat) (x:Str) (v:V),X.N[i]?=some x→σ[i]?=some (some v)→gT X.env.scope x→∃u,RelV v u∧IK X.env s.heap m x u
 cell:∀x c,X.env.cells.lookup x=some c→∃v,s.heap.IsCell c v
 free:H X.env.locals=none
 freeC:∀x c,X.env.cells.lookup x=some c→H c=none
 pin:∀p∈X.pn++pins,s.heap.get? p.1=some p.2∧H p.1=none∧p.1≠X.env.locals∧p.1∉X.fs∧∀v,p.2.data≠.cell v
 hok:HOk X.prog X.w H s.heap
 len:σ.length=X.N.length
section
variable {X:Cx} {pins:List (Addr×Obj)} {σ:List (Option V)} {H H':Hp} {s:Shared} {h':Heap}
theorem Cx.Ok.nofr (ok:X.Ok) {b:Addr} {o:Obj} (e:X.base.get? b=some o):b∉X.fs:=fun hb=>by
 have:=(ok.funs.mem hb).1
 rw [e] at this;cases this
theorem Inv.bs (I:Inv X pins σ H s):∀b o,X.base.get? b=some o→s.heap.get? b=some o∧H b=none:=fun b o e =>
 ⟨I.base.keep b o (I.ok.bs b o e).1 (I.ok.bs b o e).2 (I.ok.nofr e) (I.ok.noex b o e),I.base.free b o (I.ok.bs b o e).1 (I.ok.bs b o e).2 (I.ok.noex b o e)⟩
theorem Inv.bk (I:Inv X pins σ H s):∀b o,X.base.get? b=some o→s.heap.get? b=some o:=fun b o e=>(I.bs b o e).1
theorem Inv.mod (I:Inv X pins σ H s):Mod X.K X.mg X.base:=I.ok.mod
theorem Inv.kIn (I:Inv X pins σ H s):X.K.In s.heap:=I.ok.mod.kin.keeps I.bk
theorem Inv.lt (I:Inv X pins σ H s):X.env.locals<s.heap.objs.size:=let ⟨_,hn,_⟩:=I.loc;hn.lt
theorem Inv.sz (I:Inv X pins σ H s):X.s₀.heap.objs.size≤s.heap.objs.size:=Nat.le_trans I.ok.above (Nat.le_of_lt I.lt)
theorem Inv.nofs (I:Inv X pins σ H s) {a:Addr} (h:s.heap.objs.size≤a):a∉X.fs:=fun hb=>by
 obtain ⟨_,o,ho,_⟩:=I.ok.funs.mem hb
 exact absurd (Nat.lt_of_lt_of_le (Heap.lt_size ho) (Nat.le_trans I.sz h)) (Nat.lt_irrefl _)
theorem Inv.cne (I:Inv X pins σ H s):∀x c,X.env.cells.lookup x=some c→c≠X.env.locals:=fun x c e z=>by
 obtain ⟨v,o,ho,hd⟩:=I.cell x c e
 obtain ⟨m,⟨o',es,ep,ho',hd',_⟩,_⟩:=I.loc
 rw [z,ho'] at ho;cases ho;rw [hd'] at hd;cases hd
theorem Inv.funs (I:Inv X pins σ H s):s.heap.FunFrames X.base X.outer:=by
 have all:∀(l:List Env),(∀b∈kS l,b∈X.fs)→X.s₀.heap.FunFrames X.base l→s.heap.FunFrames X.base l:=by
  intro l
  induction l with
  |nil=>intro _ _;trivial
  |cons env r ih =>
   intro hs hl
   obtain ⟨hk,⟨L,o,hf,hn,ho,hd⟩,hr⟩:=hl
   have hL:L∈X.fs:=hs L (by unfold kS;rw [List.filterMap_cons,hf];exact List.mem_cons_self)
   obtain ⟨sl,e⟩:=I.base.slot L o ho (I.ok.frf L hL) hL fun z=>I.ok.exfs L z hL
   exact ⟨hk,⟨L,_,hf,hn,e,hd⟩,ih (fun b hb=>hs b (by unfold kS;rw [List.filterMap_cons,hf];exact List.mem_cons_of_mem _ hb)) hr⟩
 exact all X.outer (fun _ hb=>hb) I.ok.funs
theorem Inv.stack (I:Inv X pins σ H s):s.heap.FunFrames X.base X.stack:=by
 rcases I.ok.stk with e|⟨e,hf⟩
 ·rw [e];exact I.funs
 ·rw [e]
  obtain ⟨m,hn,_⟩:=I.loc
  refine .cons (by rw [I.ok.kind];decide) hf hn ?_ I.funs
  exact Heap.get?_none_of_le (Nat.le_trans I.ok.bsz I.ok.above)
theorem Inv.stkSub (I:Inv X pins σ H s):∀b∈kS X.stack,b∈X.env.locals::X.fs:=fun b hb=>by
 rcases I.ok.stk with e|⟨e,hf⟩
 ·rw [e] at hb;exact List.mem_cons_of_mem _ hb
 ·rw [e] at hb
  unfold kS at hb
  rw [List.filterMap_cons,hf] at hb
  exact hb
theorem Inv.stkFree (I:Inv X pins σ H s):∀b∈kS X.stack,H b=none:=fun b hb=>by
 rcases List.mem_cons.mp (I.stkSub b hb) with e|hb
 ·rw [e];exact I.free
 ·obtain ⟨_,o,ho,_⟩:=I.ok.funs.mem hb
  exact I.base.free b o ho (I.ok.frf b hb) fun z=>I.ok.exfs b z hb
theorem Inv.step {g':Array GenState} {t':Nat} {d':Drawn} {ch:List Addr} (I:Inv X pins σ H s)
  (hch:∀b∈ch,(b∈X.ex∨X.s₀.heap.objs.size≤b)∧b≠X.env.locals∧(∀x c,X.env.cells.lookup x=some c→c≠b)∧∀p∈X.pn++pins,p.1≠b)
  (keep:∀b o,b≠X.env.locals→b∉X.fs→b∉ch→s.heap.get? b=some o→H b=none→h'.get? b=some o)
  (slot:∀b o,b≠X.env.locals→b∈X.fs→b∉ch→s.heap.get? b=some o→H b=none→∃sl,h'.get? b=some {o with slots:=sl}) (free:∀b o,b∉ch→s.heap.get? b=some o→H b=none→H' b=none)
  (there:∀b o,b∉ch→s.heap.get? b=some o→∃o',h'.get? b=some o')
  (tups:∀b xs,H b=some (.tup xs)→H' b=some (.tup xs)) (frzs:∀b o u,H b=some (.frz o u)→H' b=some (.frz o u)) (tbls:∀b ps,H b=some (.tbl ps)→∃more,H' b=some (.tbl (ps++more)))
  (ns:∀m,s.heap.Ns X.env.locals m→h'.Ns X.env.locals m) (hok:HOk X.prog X.w H' h') (hg:AllBare g') :
  Inv X pins σ H' {s with heap:=h',gens:=g',drawn:=d',toks:=t'}:=by
 have neL:∀b o,X.s₀.heap.get? b=some o→b≠X.env.locals:=fun b o e=>Nat.ne_of_lt (Nat.lt_of_lt_of_le (Heap.lt_size e) I.ok.above)
 have neC:∀b o,X.s₀.heap.get? b=some o→b∉X.ex→b∉ch:=fun b o e hx hb=>by
  rcases (hch b hb).1 with z|z
  ·exact hx z
  ·exact absurd (Nat.lt_of_lt_of_le (Heap.lt_size e) z) (Nat.lt_irrefl _)
 have cellK:∀x c,X.env.cells.lookup x=some c→∀v,s.heap.IsCell c v→h'.IsCell c v:=fun x c e v ⟨o,ho,hd⟩=>by
  have nch:c∉ch:=fun z=>(hch c z).2.2.1 x c e rfl
  by_cases hc:c∈X.fs
  ·obtain ⟨sl,q⟩:=slot c o (I.cne x c e) hc nch ho (I.freeC x c e)
   exact ⟨_,q,hd⟩
  ·exact ⟨o,keep c o (I.cne x c e) hc nch ho (I.freeC x c e),hd⟩
 refine ⟨I.ok,I.os,hg,⟨fun b o e n hb hx=>?_,fun b o e n hb hx=>?_,fun b o e n hx=>?_,fun b o e hx=>?_,fun b xs e=>tups b xs (I.base.tups b xs e),fun b o xs e=>frzs b o xs (I.base.frzs b o xs e),fun b ps e=>?_⟩,?_,fun x c e=>?_,?_,fun x c e=>?_,fun p hp=>?_,hok,I.len⟩
 ·exact keep b o (neL b o e) hb (neC b o e hx) (I.base.keep b o e n hb hx) (I.base.free b o e n hx)
 ·obtain ⟨sl,e1⟩:=I.base.slot b o e n hb hx
  obtain ⟨sl',e2⟩:=slot b _ (neL b o e) hb (neC b o e hx) e1 (I.base.free b o e n hx)
  exact ⟨sl',e2⟩
 ·obtain ⟨o',e1⟩:=I.base.there b o e hx
  exact free b o' (neC b o e hx) e1 (I.base.free b o e n hx)
 ·obtain ⟨o',e1⟩:=I.base.there b o e hx
  exact there b o' (neC b o e hx) e1
 ·obtain ⟨m1,e1⟩:=I.base.tbls b ps e
  obtain ⟨m2,e2⟩:=tbls b _ e1
  exact ⟨m1++m2,by rw [e2,Array.append_assoc]⟩
 ·obtain ⟨m,hn,hl⟩:=I.loc
  refine ⟨m,ns m hn,fun i x v e1 e2 e3=>?_⟩
  obtain ⟨u,r,l⟩:=hl i x v e1 e2 e3
  refine ⟨u,r,?_⟩
  rcases l with l|⟨k,c,e,z⟩
  ·exact .inl l
  ·exact .inr ⟨k,c,e,cellK x c e _ z⟩
 ·obtain ⟨v,z⟩:=I.cell x c e
  exact ⟨v,cellK x c e v z⟩
 ·obtain ⟨m,⟨o,_,_,ho,_⟩,_⟩:=I.loc
  exact free _ o (fun z=>(hch _ z).2.1 rfl) ho I.free
 ·obtain ⟨v,o,ho,hd⟩:=I.cell x c e
  exact free c o (fun z=>(hch c z).2.2.1 x c e rfl) ho (I.freeC x c e)
 ·obtain ⟨e,n,ne,nf,d⟩:=I.pin p hp
  have nch:p.1∉ch:=fun z=>(hch p.1 z).2.2.2 p hp rfl
  exact ⟨keep p.1 p.2 ne nf nch e n,free p.1 p.2 nch e n,ne,nf,d⟩
theorem Inv.un {t':Nat} (I:Inv X pins σ H s) (u:Un X.fs [] H H' s.heap h') (hok:HOk X.prog X.w H' h'):Inv X pins σ H' {s with heap:=h',toks:=t'}:=by
  obtain ⟨m,⟨o,es,ep,ho,r⟩,_⟩:=id I.loc
  obtain ⟨sl,hL⟩:=u.any ho I.free (by simp)
  exact I.step (g':=s.gens) (d':=s.drawn) (ch:=[]) (fun _ z=>nomatch z) (fun b o _ hb _ e n=>u.keep b o e n hb (by simp)) (fun b o _ hb _ e n=>u.slot b o e n hb (by simp)) (fun b o _ e n=>u.free b o e n (by simp)) (fun b o _ e=>u.there b o e (by simp)) u.tups u.frzs u.tbls (fun m' hm=>by
    obtain ⟨o',es',ep',ho',r'⟩:=hm
    rw [ho] at ho';cases ho'
    exact ⟨_,es',ep',hL,r'⟩) hok I.bare
theorem Inv.call {g':Array GenState} {t':Nat} {d':Drawn} {ch:List Addr} (I:Inv X pins σ H s) (u:Un (kS X.stack) ch H H' s.heap h') (hok:HOk X.prog X.w H' h') (hg:AllBare g')
  (hch:∀b∈ch,(b∈X.ex∨X.s₀.heap.objs.size≤b)∧b≠X.env.locals∧(∀x c,X.env.cells.lookup x=some c→c≠b)∧∀p∈X.pn++pins,p.1≠b) :
  Inv X pins σ H' {s with heap:=h',gens:=g',drawn:=d',toks:=t'}:=by
 obtain ⟨m,⟨o,es,ep,ho,r⟩,_⟩:=id I.loc
 obtain ⟨sl,hL⟩:=u.any ho I.free fun z=>(hch _ z).2.1 rfl
 exact I.step (ch:=ch) hch (fun b o hL hb hc e n=>u.keep b o e n (fun z=>(List.mem_cons.mp (I.stkSub b z)).elim hL hb) hc) (fun b o _ _ hc e n=>u.any e n hc) (fun b o hc e n=>u.free b o e n hc) (fun b o hc e=>u.there b o e hc) u.tups u.frzs u.tbls (fun m' hm=>by
  obtain ⟨o',es',ep',ho',r'⟩:=hm
  rw [ho] at ho';cases ho'
  exact ⟨_,es',ep',hL,r'⟩) hok hg
theorem Inv.turned {t':Nat} {it:Addr} (I:Inv X pins σ H s) (k:∀b o,b≠it→s.heap.get? b=some o→h'.get? b=some o) (hn:H it=none) (hL:it≠X.env.locals)
    (h1:it∈X.ex∨X.s₀.heap.objs.size≤it) (h2:∀x c,X.env.cells.lookup x=some c→c≠it) (h3:∀p∈X.pn++pins,p.1≠it):Inv X pins σ H {s with heap:=h',toks:=t'}:=by
  have nit:∀b u,H b=some u→b≠it:=fun b u e z=>by rw [z,hn] at e;cases e
  refine I.step (g':=s.gens) (d':=s.drawn) (ch:=[it]) (fun b hb=>?_) (fun b o _ _ hc e _=>k b o (fun z=>hc (by simp [z])) e) (fun b o _ _ hc e _=>⟨o.slots,k b o (fun z=>hc (by simp [z])) e⟩) (fun _ _ _ _ n=>n)
    (fun b o hc e=>⟨o,k b o (fun z=>hc (by simp [z])) e⟩) (fun _ _ e=>e) (fun _ _ _ e=>e) (fun b ps e=>⟨#[],by rw [e];simp⟩) (fun m hm=>?_) (fun b u e=>?_) I.bare
  · have e:b=it:=by simpa using hb
    subst e
    exact ⟨h1,hL,h2,h3⟩
  · obtain ⟨o,es,ep,ho,r⟩:=hm
    exact ⟨o,es,ep,k _ o (Ne.symm hL) ho,r⟩
  · refine (I.hok b u e).stay (fun c v hc q=>k c v ?_ q) (fun _ q=>q) fun _ _ q=>q
    rcases hc with z|z
    · rw [z];exact nit b u e
    · exact nit c _ z
theorem Inv.tok (I:Inv X pins σ H s) (t:Nat):Inv X pins σ H {s with toks:=t}:=I.un (h':=s.heap) (t':=t) Un.refl I.hok
theorem Inv.kept {t':Nat} (I:Inv X pins σ H s) (k:∀b u,s.heap.get? b=some u→h'.get? b=some u):Inv X pins σ H {s with heap:=h',toks:=t'}:=I.un (Un.kept k) (I.hok.kept k)
theorem Inv.laid {a:Addr} {o:HO} {t':Nat} (I:Inv X pins σ H s) (k:∀b u,s.heap.get? b=some u→h'.get? b=some u) (hp:s.heap.objs.size≤a) (new:ObjOk X.prog X.w (upd H a o) h' a o) :
  Inv X pins σ (upd H a o) {s with heap:=h',toks:=t'}:=I.un (Un.laid k hp (I.hok.fresh hp)) (I.hok.laid k hp new)
theorem Inv.write {x e:Addr} {o:HO} {t':Nat} (I:Inv X pins σ H s) (mu:eT (H x)) (he:e=x∨H e=some (.own x)) (k:∀b u,b≠e→s.heap.get? b=some u→h'.get? b=some u) (heo:∃u,h'.get? e=some u)
  (new:ObjOk X.prog X.w (upd H x o) h' x o):Inv X pins σ (upd H x o) {s with heap:=h',toks:=t'}:=I.un (Un.write mu he k heo) (I.hok.write mu he k heo new)
theorem Inv.pins_of {pins':List (Addr×Obj)} (I:Inv X pins σ H s) (h:∀p∈pins',s.heap.get? p.1=some p.2∧H p.1=none∧p.1≠X.env.locals∧p.1∉X.fs∧∀v,p.2.data≠.cell v):Inv X pins' σ H s :=
 ⟨I.ok,I.os,I.bare,I.base,I.loc,I.cell,I.free,I.freeC,fun p hp=>(List.mem_append.mp hp).elim (fun z=>I.pin p (List.mem_append_left _ z)) (h p),I.hok,I.len⟩
theorem rB {N:List Str} (hN:N.Nodup) {i j:Nat} {x:Str} (a:N[i]?=some x) (b:N[j]?=some x):i=j:=by
 obtain ⟨h1,e1⟩:=List.getElem?_eq_some_iff.mp a
 obtain ⟨h2,e2⟩:=List.getElem?_eq_some_iff.mp b
 exact (List.getElem_inj hN).mp (e1.trans e2.symm)
theorem oU {M:Model} {A:Around} {E:Value→Shared→Prop} {i:Nat} {x:Str} {v:V} {u:Value} {Q:Unit→Shared→Prop} (I:Inv X pins σ H s) (hN:X.N.Nodup) (hi:X.N[i]?=some x) (hx:eU X.env.scope x) (r:RelV v u)
  (h:∀s',Inv X pins (σ.set i (some v)) H s'→(∃a,Heap.SameBut a s.heap s'.heap∧(a=X.env.locals∨X.env.cells.lookup x=some a))→Q () s') (hf:X.fn x=true∨X.env.scope.names.lookup x=some .local:=by first|exact .inl rfl|exact .inr rfl|assumption):wpAny M A (storeName X.env x u) Q E s:=by
 obtain ⟨m,hn,hl⟩:=id I.loc
 have hcls:(X.env.scope.kind == .class||(X.env.scope.kind == .module&&X.env.locals != X.env.globals))=false:=by rw [I.ok.kind];rfl
 have hiσ:i<σ.length:=by rw [I.len];exact (List.getElem?_eq_some_iff.mp hi).1
 have cne:=I.cne
 have tracked:∀{a:Addr} {h':Heap},(∃o,s.heap.get? a=some o∧H a=none)→Heap.SameBut a s.heap h'→HOk X.prog X.w H h':=fun {a h'} ha hs b ob e=>by
  obtain ⟨_,_,hfree⟩:=ha
  refine (I.hok b ob e).stay (fun c w' hc q=>(hs.2 c ?_).trans q) (fun _ q=>q) fun _ _ q=>q
  rintro rfl
  rcases hc with rfl|hc
  ·rw [hfree] at e;cases e
  ·rw [hfree] at hc;cases hc
 rcases hx with hk|hk
 ·refine wpAny_storeName_local hk hn (fun h' hn' hs=>?_) hcls
  obtain ⟨oL,_,_,hoL,_⟩:=id hn
  refine h _ ⟨I.ok,I.os,I.bare,⟨fun b o e n hb hx=>?_,fun b o e n hb hx=>?_,I.base.free,fun b o e hx=>?_,I.base.tups,I.base.frzs,I.base.tbls⟩,⟨_,hn',fun j y v' e1 e2 e3=>?_⟩,fun y c e=>?_,I.free,I.freeC,fun p hp=>?_,tracked ⟨oL,hoL,I.free⟩ hs,by simpa using I.len⟩ ⟨_,hs,.inl rfl⟩
  ·exact (hs.2 b (Nat.ne_of_lt (Nat.lt_of_lt_of_le (Heap.lt_size e) I.ok.above))).trans (I.base.keep b o e n hb hx)
  ·obtain ⟨sl,e1⟩:=I.base.slot b o e n hb hx
   exact ⟨sl,(hs.2 b (Nat.ne_of_lt (Nat.lt_of_lt_of_le (Heap.lt_size e) I.ok.above))).trans e1⟩
  ·obtain ⟨o',e1⟩:=I.base.there b o e hx
   exact ⟨o',(hs.2 b (Nat.ne_of_lt (Nat.lt_of_lt_of_le (Heap.lt_size e) I.ok.above))).trans e1⟩
  ·by_cases hj:j=i
   ·subst hj
    rw [hi] at e1;cases e1
    rw [List.getElem?_set_self hiσ] at e2
    cases e2
    exact ⟨u,r,.inl ⟨hk,by simp⟩⟩
   ·rw [List.getElem?_set_ne (Ne.symm hj)] at e2
    obtain ⟨u',r',q⟩:=hl j y v' e1 e2 e3
    refine ⟨u',r',?_⟩
    rcases q with ⟨k,e⟩|⟨k,c,e,z⟩
    ·refine .inl ⟨k,?_⟩
     have:y≠x:=fun e=>hj (rB hN e1 (e▸hi))
     simp [this,e]
    ·exact .inr ⟨k,c,e,z.sameBut hs (cne y c e)⟩
  ·obtain ⟨w',z⟩:=I.cell y c e
   exact ⟨w',z.sameBut hs (cne y c e)⟩
  ·obtain ⟨e,n,ne,nf,d⟩:=I.pin p hp
   exact ⟨(hs.2 p.1 ne).trans e,n,ne,nf,d⟩
 ·have hfn:X.fn x=true:=by
   rcases hf with z|z
   ·exact z
   ·rw [z] at hk;cases hk
  obtain ⟨c,hc⟩:=I.ok.has x (.inl hk)
  obtain ⟨w',z⟩:=I.cell x c hc
  refine wpAny_storeName_cell I.ok.kind hk hc z (fun h' hc' hs=>?_)
  obtain ⟨oc,hoc,hocd⟩:=id z
  refine h {s with heap:=h'} ⟨I.ok,I.os,I.bare,⟨fun b o e n hb hx=>?_,fun b o e n hb hx=>?_,I.base.free,fun b o e hx=>?_,I.base.tups,I.base.frzs,I.base.tbls⟩,⟨m,hn.sameBut hs (Ne.symm (cne x c hc)),fun j y v' e1 e2 e3=>?_⟩,fun y c' e=>?_,I.free,I.freeC,fun p hp=>?_,tracked ⟨oc,hoc,I.freeC x c hc⟩ hs,by simpa using I.len⟩ ⟨c,hs,.inr hc⟩
  ·exact (hs.2 b (Nat.ne_of_lt (Nat.lt_of_lt_of_le (Heap.lt_size e) (I.ok.cab x c hfn hc)))).trans (I.base.keep b o e n hb hx)
  ·obtain ⟨sl,e1⟩:=I.base.slot b o e n hb hx
   exact ⟨sl,(hs.2 b (Nat.ne_of_lt (Nat.lt_of_lt_of_le (Heap.lt_size e) (I.ok.cab x c hfn hc)))).trans e1⟩
  ·obtain ⟨o',e1⟩:=I.base.there b o e hx
   exact ⟨o',(hs.2 b (Nat.ne_of_lt (Nat.lt_of_lt_of_le (Heap.lt_size e) (I.ok.cab x c hfn hc)))).trans e1⟩
  ·by_cases hj:j=i
   ·subst hj
    rw [hi] at e1;cases e1
    rw [List.getElem?_set_self hiσ] at e2
    cases e2
    exact ⟨u,r,.inr ⟨.inl hk,c,hc,hc'⟩⟩
   ·rw [List.getElem?_set_ne (Ne.symm hj)] at e2
    obtain ⟨u',r',q⟩:=hl j y v' e1 e2 e3
    refine ⟨u',r',?_⟩
    rcases q with q|⟨k,c',e,z'⟩
    ·exact .inl q
    ·refine .inr ⟨k,c',e,z'.sameBut hs ?_⟩
     rintro rfl
     exact hj (rB hN e1 (I.ok.inj _ _ _ e hc▸hi))
  ·by_cases hcc:c'=c
   ·subst hcc;exact ⟨_,hc'⟩
   ·obtain ⟨w2,z2⟩:=I.cell y c' e
    exact ⟨w2,z2.sameBut hs hcc⟩
  ·obtain ⟨e,n,ne,nf,d⟩:=I.pin p hp
   refine ⟨(hs.2 p.1 ?_).trans e,n,ne,nf,d⟩
   intro q
   rw [q,hoc] at e
   have q':oc=p.2:=Option.some.inj e
   exact d w' (by rw [← q'];exact hocd)
theorem pQ {M:Model} {A:Around} {E:Value→Shared→Prop} {i:Nat} {x:Str} {v:V} {u:Value} {Q:Unit→Shared→Prop} (I:Inv X pins σ H s) (hN:X.N.Nodup) (hi:X.N[i]?=some x) (hx:eU X.env.scope x) (r:RelV v u)
  (h:∀s',Inv X pins (σ.set i (some v)) H s'→Q () s') (hf:X.fn x=true∨X.env.scope.names.lookup x=some .local:=by first|exact .inl rfl|exact .inr rfl|assumption):wpAny M A (storeName X.env x u) Q E s :=
 oU I hN hi hx r (fun s' I' _=>h s' I') hf
theorem Inv.call' {s':Shared} {ch:List Addr} (I:Inv X pins σ H s) (ho:s'.os=s.os) (u:Un (kS X.stack) ch H H' s.heap s'.heap) (hok:HOk X.prog X.w H' s'.heap) (hg:AllBare s'.gens)
  (hch:∀b∈ch,(b∈X.ex∨X.s₀.heap.objs.size≤b)∧b≠X.env.locals∧(∀x c,X.env.cells.lookup x=some c→c≠b)∧∀p∈X.pn++pins,p.1≠b):Inv X pins σ H' s':=by
 obtain ⟨h',g',d',t',o'⟩:=s'
 have e:o'=s.os:=ho
 subst e
 exact I.call (g':=g') (t':=t') (d':=d') u hok hg hch
end
abbrev XK:=Value→Option Addr→Hp→Prop
abbrev St:=List (Option V)
abbrev VK:=V→Hp→Prop
abbrev TE:=St→Hp→VK→Prop
abbrev TT:=St→Hp→(Bool→Hp→Prop)→Prop
abbrev TA:=St→Hp→(List V→Hp→Prop)→Prop
structure Ends where
 nx:St→Hp→Prop
 rt:VK
 bk:St→Hp→Prop:=fun _ _=>False
 ct:St→Hp→Prop:=fun _ _=>False
abbrev TS:=Ends→St→Hp→Prop
def EP (X:Cx) (pins:List (Addr×Obj)) (σ:St) (Q:VK) (u:Value) (s':Shared):Prop:=∃v H',Inv X pins σ H' s'∧RelV v u∧Q v H'
def TP (X:Cx) (pins:List (Addr×Obj)) (σ:St) (Q:Bool→Hp→Prop) (b:Bool) (s':Shared):Prop:=∃H',Inv X pins σ H' s'∧Q b H'
def AP (X:Cx) (pins:List (Addr×Obj)) (σ:St) (Q:List V→Hp→Prop) (us:List Value) (s':Shared):Prop:=∃vs H',Inv X pins σ H' s'∧Vals vs us∧Q vs H'
def SP (X:Cx) (pins:List (Addr×Obj)) (D:Ends) (f:Flow) (s':Shared):Prop :=
 match f with
 |.next=>∃σ' H',Inv X pins σ' H' s'∧D.nx σ' H'
 |.brk=>∃σ' H',Inv X pins σ' H' s'∧D.bk σ' H'
 |.cont=>∃σ' H',Inv X pins σ' H' s'∧D.ct σ' H'
 |.ret u=>∃v σ' H',Inv X pins σ' H' s'∧RelV v u∧D.rt v H'
def PE (X:Cx) (e:Expr) (t:TE):Prop :=
 ∀(pins:List (Addr×Obj)) (s:Shared) (σ:St) (H:Hp) (Q:VK),Inv X pins σ H s→t σ H Q→wpAny (model X.prog X.w) X.A (eval e X.env) (EP X pins σ Q) X.xe s
def PT (X:Cx) (e:Expr) (t:TT):Prop :=
 ∀(pins:List (Addr×Obj)) (s:Shared) (σ:St) (H:Hp) (Q:Bool→Hp→Prop),Inv X pins σ H s→t σ H Q→wpAny (model X.prog X.w) X.A (isTrue e X.env (eval e X.env)) (TP X pins σ Q) X.xe s
def PW (X:Cx) (e:Expr) (t:TT):Prop :=
 ∀(whole:Sem Value) (pins:List (Addr×Obj)) (s:Shared) (σ:St) (H:Hp) (Q:Bool→Hp→Prop),Inv X pins σ H s→t σ H Q→wpAny (model X.prog X.w) X.A (isTrue e X.env whole) (TP X pins σ Q) X.xe s
theorem PW.pt {X:Cx} {e:Expr} {t:TT} (h:PW X e t):PT X e t:=h _
def PA (X:Cx) (es:List Expr) (t:TA):Prop :=
 ∀(pos:Pos) (pins:List (Addr×Obj)) (s:Shared) (σ:St) (H:Hp) (Q:List V→Hp→Prop),Inv X pins σ H s→t σ H Q→wpAny (model X.prog X.w) X.A (spliced (backTo pos (starEach es X.env))) (AP X pins σ Q) X.xe s
def PS (X:Cx) (st:Stmt) (t:TS):Prop :=
 ∀(pins:List (Addr×Obj)) (s:Shared) (σ:St) (H:Hp) (D:Ends),Inv X pins σ H s→t D σ H→wpAny (model X.prog X.w) X.A (exec st X.env) (SP X pins D) X.xe s
def PSs (X:Cx) (st:List Stmt) (t:TS):Prop :=
 ∀(pins:List (Addr×Obj)) (s:Shared) (σ:St) (H:Hp) (D:Ends),Inv X pins σ H s→t D σ H→wpAny (model X.prog X.w) X.A (execs st X.env) (SP X pins D) X.xe s
theorem jW {α:Type} {t:Sem α} {Q Q':α→Shared→Prop} {M:Model} {A:Around} {E:Value→Shared→Prop} {s:Shared} (h:wpAny M A t Q E s) (hQ:∀a s,Q a s→Q' a s):wpAny M A t Q' E s:=wpAny_mono h hQ fun _ _ x=>x
end L2
namespace L2
open PySem PySem.Spec PyProof.Rows
section
variable {X:Cx}
def t6 (i:Nat):TE:=fun σ H Q=>∃v,σ[i]?=some (some v)∧Q v H
def tC (v:V):TE:=fun _ H Q=>Q v H
theorem FS {i:Nat} {x:Str} {pos:Pos} (hN:X.N[i]?=some x) (hv:gT X.env.scope x) (hd:(x == ("__debug__":Str))=false:=by decide) (hcd:(x == ("__classdict__":Str))=false:=by decide):PE X (.Name x pos) (t6 i):=by
 intro pins s σ H Q I h
 obtain ⟨v,e,h⟩:=h
 obtain ⟨m,hn,hl⟩:=I.loc
 obtain ⟨u,r,l⟩:=hl i x v hN e hv
 have fin:EP X pins σ Q u s:=⟨v,H,I,r,h⟩
 rcases l with ⟨hk,hm⟩|⟨hk,c,hc,hcell⟩
 ·exact wpAny_Name (wpAny_loadName_local I.ok.kind hk hn hm fin) hd
 ·rcases hk with hk|hk
  ·exact wpAny_Name (wpAny_loadName_cell I.ok.kind hk hc hcell fin) hd
  ·exact wpAny_Name (wpAny_loadName_free I.ok.kind hk hc hcell fin hcd) hd
theorem jC {i j pos}:PE X (.Constant (.int i) j pos) (tC (.int i)):=fun _ _ _ H _ I h=>wpAny_Constant_int ⟨.int i,H,I.tok _,⟨_,rfl⟩,h⟩
theorem yT {b j pos}:PE X (.Constant (.bool b) j pos) (tC (.bl b)):=fun _ _ _ H _ I h=>Constant_bool ⟨.bl b,H,I,rfl,h⟩
theorem FU {j pos}:PE X (.Constant .none j pos) (tC .non):=fun _ _ _ H _ I h=>Constant_none ⟨.non,H,I,rfl,h⟩
theorem jO {x j pos}:PE X (.Constant (.str x) j pos) (tC (.str x)):=fun _ _ _ H _ I h=>Calls.Constant_str ⟨.str x,H,I.tok _,⟨_,rfl⟩,h⟩
def Gl (X:Cx) (x:Str):Prop:=X.env.kindOf x=some .globalImplicit
theorem eF {E:Value→Shared→Prop} {pins:List (Addr×Obj)} {s:Shared} {σ:St} {H:Hp} {x:Str} {u:Value} {pos:Pos} {Q:Value→Shared→Prop} (I:Inv X pins σ H s) (hg:Gl X x) (hm:X.mg x=some u) (h:Q u s)
  (hd:(x == ("__debug__":Str))=false:=by decide):wpAny (model X.prog X.w) X.A (eval (.Name x pos) X.env) Q E s :=
 Calls.Name_function_global I.ok.kind hg (Calls.loadGlobal_global (by rw [I.ok.glob];exact I.mod.glob.keeps I.bk) hm h) hd
theorem Q4 {E:Value→Shared→Prop} {pins:List (Addr×Obj)} {s:Shared} {σ:St} {H:Hp} {x:Str} {u:Value} {pos:Pos} {Q:Value→Shared→Prop} (I:Inv X pins σ H s) (hg:Gl X x) (hm:X.mg x=none) (hv:bootBuiltins x=some u) (h:Q u s)
  (hn:x≠"__name__":=by decide) (hd:(x == ("__debug__":Str))=false:=by decide):wpAny (model X.prog X.w) X.A (eval (.Name x pos) X.env) Q E s:=by
 obtain ⟨mb,h1,h2⟩:=I.mod.blt
 exact Calls.Name_function_global I.ok.kind hg (Calls.loadGlobal_builtin (by rw [I.ok.glob];exact I.mod.glob.keeps I.bk) hm (by rw [I.ok.blt];exact h1.keeps I.bk) ((h2 x hn).trans hv) h) hd
theorem eC {x:Str} {v:V} {u:Value} {pos:Pos} (hg:Gl X x) (hm:X.mg x=some u) (r:RelV v u) (hd:(x == ("__debug__":Str))=false:=by decide):PE X (.Name x pos) (tC v) :=
 fun _ _ _ H _ I h=>eF I hg hm ⟨v,H,I,r,h⟩ hd
theorem Q2 {x:Str} {v:V} {u:Value} {pos:Pos} (hg:Gl X x) (hm:X.mg x=none) (hv:bootBuiltins x=some u) (r:RelV v u) (hn:x≠"__name__":=by decide) (hd:(x == ("__debug__":Str))=false:=by decide):PE X (.Name x pos) (tC v) :=
 fun _ _ _ H _ I h=>Q4 I hg hm hv ⟨v,H,I,r,h⟩ hn hd
variable {a b:Expr} {ta tb:TE} {pos:Pos}
def tB (t:TE):TT:=fun σ H Q=>t σ H fun x H1=>∃c,x=.bl c∧Q c H1
theorem vG {e:Expr} {t:TE} (h:PE X e t) (he:∀whole,isTrue e X.env whole=(do let v ← whole;standAt e.pos;holding [v] (truthy v)):=by intro _;rfl):PT X e (tB t):=by
 intro pins s σ H Q I hw
 refine isTrue_plain (jW (h pins s σ H _ I hw) fun v s1 ⟨x,H1,I1,r1,q1⟩=>?_) (he _)
 obtain ⟨d,rfl,q⟩:=q1
 cases r1
 exact wpAny_truthy_bool ⟨H1,I1,q⟩
variable {tA tB':TT} {rest:List Expr}
def HY (t u:TT):TT:=fun σ H Q=>t σ H fun c H1=>if c=true then u σ H1 Q else Q false H1
def IP (t u:TT):TT:=fun σ H Q=>t σ H fun c H1=>if c=true then Q true H1 else u σ H1 Q
def HS (t:TT):TT:=fun σ H Q=>t σ H fun c H1=>Q (!c) H1
theorem sJ (ha:PT X a tA):PW X (.BoolOp .And [a] pos) tA:=by
 intro wh pins s σ H Q I h
 refine isTrue_and (jW (ha pins s σ H Q I h) fun c s1 e=>?_)
 cases c with
 |true=>exact isTrue_and_nil e
 |false=>exact e
theorem cV (ha:PT X a tA):PW X (.BoolOp .Or [a] pos) tA:=by
 intro wh pins s σ H Q I h
 refine isTrue_or (jW (ha pins s σ H Q I h) fun c s1 e=>?_)
 cases c with
 |false=>exact isTrue_or_nil e
 |true=>exact e
theorem tJ (ha:PT X a tA) (hb:PW X (.BoolOp .And (b::rest) pos) tB'):PW X (.BoolOp .And (a::b::rest) pos) (HY tA tB'):=by
 intro wh pins s σ H Q I h
 refine isTrue_and (jW (ha pins s σ H _ I h) fun c s1 ⟨H1,I1,q1⟩=>?_)
 cases c with
 |true=>exact hb wh pins s1 σ H1 Q I1 q1
 |false=>exact ⟨H1,I1,q1⟩
theorem JL (ha:PT X a tA) (hb:PW X (.BoolOp .Or (b::rest) pos) tB'):PW X (.BoolOp .Or (a::b::rest) pos) (IP tA tB'):=by
 intro wh pins s σ H Q I h
 refine isTrue_or (jW (ha pins s σ H _ I h) fun c s1 ⟨H1,I1,q1⟩=>?_)
 cases c with
 |true=>exact ⟨H1,I1,q1⟩
 |false=>exact hb wh pins s1 σ H1 Q I1 q1
theorem yQ (ha:PT X a tA):PT X (.UnaryOp .Not a pos) (HS tA):=by
 intro pins s σ H Q I h
 exact isTrue_not (ha pins s σ H (fun c H1=>Q (!c) H1) I h)
def GZ (ta tb:TE):TE:=fun σ H Q=>ta σ H fun x H1=>∃c,x=.bl c∧if c=true then tb σ H1 Q else Q (.bl false) H1
def GR (ta:TE):TE:=fun σ H Q=>ta σ H fun x H1=>∃c,x=.bl c∧Q (.bl (!c)) H1
theorem lW {op} {t:TE} (h:PE X a t):PE X (.BoolOp op [a] pos) t:=fun pins s σ H Q I hw=>BoolOp_one (h pins s σ H Q I hw)
theorem lX (ha:PE X a ta) (hb:PE X (.BoolOp .And (b::rest) pos) tb):PE X (.BoolOp .And (a::b::rest) pos) (GZ ta tb):=by
 intro pins s σ H Q I h
 refine BoolOp_and (jW (ha pins s σ H _ I h) fun v s1 ⟨x,H1,I1,r1,q1⟩=>?_)
 obtain ⟨c,rfl,q1⟩:=q1
 cases r1
 refine wpAny_truthy_bool ?_
 cases c with
 |true=>exact hb pins s1 σ H1 Q I1 q1
 |false=>exact ⟨.bl false,H1,I1,rfl,q1⟩
theorem FT (ha:PE X a ta):PE X (.UnaryOp .Not a pos) (GR ta):=by
 intro pins s σ H Q I h
 refine UnaryOp_ (jW (ha pins s σ H _ I h) fun v s1 ⟨x,H1,I1,r1,q1⟩=>?_)
 obtain ⟨c,rfl,q1⟩:=q1
 cases r1
 exact not_of (wpAny_truthy_bool ⟨.bl (!c),H1,I1,rfl,q1⟩)
def IQ (t:TT) (ta tb:TE):TE:=fun σ H Q=>t σ H fun c H1=>if c=true then ta σ H1 Q else tb σ H1 Q
theorem JB {c:Expr} (hc:PT X c tA) (ha:PE X a ta) (hb:PE X b tb):PE X (.IfExp c a b pos) (IQ tA ta tb):=by
 intro pins s σ H Q I h
 refine wpAny_IfExp (jW (hc pins s σ H _ I h) fun d s1 ⟨H1,I1,q1⟩=>?_)
 cases d with
 |true=>exact ha pins s1 σ H1 Q I1 q1
 |false=>exact hb pins s1 σ H1 Q I1 q1
end
end L2
namespace L2
open PySem PySem.Spec PyProof.Rows
def SqL (K:PySem.W.Frag) (H:Hp) (a:Addr) (xs:List V):Prop :=
 Rd H a (.lst xs)∨
  ∃(o:Obj) (its:Array Value) (n:Nat),K.lookup a=some o∧o.cls=.type "list"∧o.dict=none∧o.data=.seq its n∧its.size≤sizeLine∧Vals xs its.toList
def SqT (K:PySem.W.Frag) (H:Hp) (a:Addr) (xs:List V):Prop :=
 Rd H a (.tup xs)∨
  ∃(o:Obj) (its:Array Value) (n:Nat),K.lookup a=some o∧o.cls=.type "tuple"∧o.data=.seq its n∧its.size≤sizeLine∧Vals xs its.toList
def IJ:Value→Option V
 |.none=>some .non
 |.bool b=>some (.bl b)
 |.int i _=>some (.int i)
 |.str x _=>some (.str x)
 |.bytes b _=>some (.byt b)
 |.float b _=>some (.flt b)
 |.ref a=>some (.ref a)
 |.type n=>some (.ty n)
 |_=>none
theorem RelV.abs {x:V} {u:Value} (r:RelV x u):IJ u=some x:=by
 cases x with
 |non=>cases r;rfl
 |bl _=>cases r;rfl
 |int _=>obtain ⟨t,rfl⟩:=r;rfl
 |str _=>obtain ⟨t,rfl⟩:=r;rfl
 |byt _=>obtain ⟨t,rfl⟩:=r;rfl
 |flt _=>obtain ⟨t,rfl⟩:=r;rfl
 |ref _=>cases r;rfl
 |ty _=>cases r;rfl
theorem RelV.inj {x y:V} {u:Value} (r:RelV x u) (q:RelV y u):x=y:=Option.some.inj (r.abs.symm.trans q.abs)
theorem Vals.inj:∀{xs ys:List V} {us:List Value},Vals xs us→Vals ys us→xs=ys
 |_,_,_,.nil,.nil=>rfl
 |_,_,_,.cons r t,.cons r' t'=>by rw [r.inj r',Vals.inj t t']
section
variable {X:Cx} {pins:List (Addr×Obj)} {σ:St} {H:Hp} {s:Shared} {a:Addr} {xs ys:List V}
theorem SqL.of {K:PySem.W.Frag} (h:H a=some (.lst xs)):SqL K H a xs:=.inl (.inl h)
theorem SqT.of {K:PySem.W.Frag} (h:H a=some (.tup xs)):SqT K H a xs:=.inl (.inl h)
theorem Inv.list (I:Inv X pins σ H s) (h:SqL X.K H a xs):∃its:List Value,Vals xs its∧PlainL s.heap a its.toArray∧xs.length≤sizeLine:=by
 rcases h with h|⟨o,its,n,hk,hc,hd,hs,hz,r⟩
 ·obtain ⟨z,its,n,r,e⟩:=h.ok I.hok
  exact ⟨its,r,⟨_,n,e,rfl,rfl,rfl⟩,z⟩
 ·refine ⟨its.toList,r,⟨o,n,I.kIn a o hk,hc,hd,by simpa using hs⟩,?_⟩
  have e:=r.length
  simp only [Array.length_toList] at e
  omega
theorem Inv.tuple (I:Inv X pins σ H s) (h:SqT X.K H a xs):∃its:List Value,Vals xs its∧IsTup s.heap a its.toArray∧xs.length≤sizeLine:=by
 rcases h with h|⟨o,its,n,hk,hc,hs,hz,r⟩
 ·obtain ⟨z,its,r,p⟩:=h.ok I.hok
  exact ⟨its,r,p,z⟩
 ·refine ⟨its.toList,r,⟨o,I.kIn a o hk,hc,n,by simpa using hs⟩,?_⟩
  have e:=r.length
  simp only [Array.length_toList] at e
  omega
theorem Inv.list_inj (I:Inv X pins σ H s) (h:SqL X.K H a xs) (h':SqL X.K H a ys):xs=ys:=by
 obtain ⟨its,r,⟨o,n,e,_,_,d⟩,_⟩:=I.list h
 obtain ⟨its',r',⟨o',n',e',_,_,d'⟩,_⟩:=I.list h'
 rw [e] at e';cases e'
 rw [d] at d'
 injection d' with d1 _
 have:its=its':=by simpa using congrArg Array.toList d1
 subst this
 exact r.inj r'
theorem Inv.tuple_inj (I:Inv X pins σ H s) (h:SqT X.K H a xs) (h':SqT X.K H a ys):xs=ys:=by
 obtain ⟨its,r,⟨o,e,_,n,d⟩,_⟩:=I.tuple h
 obtain ⟨its',r',⟨o',e',_,n',d'⟩,_⟩:=I.tuple h'
 rw [e] at e';cases e'
 rw [d] at d'
 injection d' with d1 _
 have:its=its':=by simpa using congrArg Array.toList d1
 subst this
 exact r.inj r'
end
abbrev Cx.wish (X:Cx) (E:Value→Shared→Prop):Cx:={X with xe:=E}
abbrev Cx.nox (X:Cx):Cx:=X.wish fun _ _=>False
theorem Cx.Ok.wish {X:Cx} (ok:X.Ok) (E:Value→Shared→Prop):(X.wish E).Ok :=
 ⟨ok.mod,ok.kind,ok.glob,ok.blt,ok.above,ok.inj,ok.has,ok.cab,ok.hd,ok.frames,ok.stk,ok.exf,ok.bs,ok.bsz,ok.noex,ok.exfs,ok.funs,ok.frf⟩
theorem Cx.Ok.unwish {X:Cx} {E:Value→Shared→Prop} (ok:(X.wish E).Ok):X.Ok :=
 ⟨ok.mod,ok.kind,ok.glob,ok.blt,ok.above,ok.inj,ok.has,ok.cab,ok.hd,ok.frames,ok.stk,ok.exf,ok.bs,ok.bsz,ok.noex,ok.exfs,ok.funs,ok.frf⟩
section
variable {X:Cx} {pins:List (Addr×Obj)} {σ:St} {H:Hp} {s:Shared} {E:Value→Shared→Prop}
theorem Inv.wish (I:Inv X pins σ H s) (E:Value→Shared→Prop):Inv (X.wish E) pins σ H s:=⟨I.ok.wish E,I.os,I.bare,I.base,I.loc,I.cell,I.free,I.freeC,I.pin,I.hok,I.len⟩
theorem Inv.unwish (I:Inv (X.wish E) pins σ H s):Inv X pins σ H s:=⟨I.ok.unwish,I.os,I.bare,I.base,I.loc,I.cell,I.free,I.freeC,I.pin,I.hok,I.len⟩
theorem SP.unwish {D:Ends} {f:Flow} {s':Shared} (h:SP (X.wish E) pins D f s'):SP X pins D f s':=by
 cases f with
 |next=>obtain ⟨σ',H',I,q⟩:=h;exact ⟨σ',H',I.unwish,q⟩
 |brk=>obtain ⟨σ',H',I,q⟩:=h;exact ⟨σ',H',I.unwish,q⟩
 |cont=>obtain ⟨σ',H',I,q⟩:=h;exact ⟨σ',H',I.unwish,q⟩
 |ret u=>obtain ⟨v,σ',H',I,r,q⟩:=h;exact ⟨v,σ',H',I.unwish,r,q⟩
theorem PSs.nox {st:List Stmt} {t:TS} (h:PSs X.nox st t):PSs X st t:=fun pins s σ H D I hw =>
 wpAny_mono (h pins s σ H D (I.wish _) hw) (fun _ _ q=>q.unwish) fun _ _ z=>False.elim z
end
section
variable {X:Cx} {st:Stmt} {rest:List Stmt} {t u:TS} {e:Expr} {te:TE} {pos:Pos}
def GS:TS:=fun D σ H=>D.nx σ H
def HQ (t u:TS):TS:=fun D σ H=>t {D with nx:=u D} σ H
theorem kJ:PSs X [] GS:=fun _ _ σ H _ I h=>wpAny_execs_nil ⟨σ,H,I,h⟩
theorem jH (h1:PS X st t) (h2:PSs X rest u):PSs X (st::rest) (HQ t u):=by
 intro pins s σ H D I h
 refine wpAny_execs_cons (jW (h1 pins s σ H {D with nx:=u D} I h) fun f s1 q=>?_)
 cases f with
 |next =>
  obtain ⟨σ',H',I',q⟩:=q
  exact h2 pins s1 σ' H' D I' q
 |ret v=>exact q
 |brk=>exact q
 |cont=>exact q
theorem jJ (h1:PS X st t):PSs X [st] t:=by
 intro pins s σ H D I h
 refine wpAny_execs_cons (jW (h1 pins s σ H D I h) fun f s1 q=>?_)
 cases f with
 |next=>exact wpAny_execs_nil q
 |ret v=>exact q
 |brk=>exact q
 |cont=>exact q
theorem Inv.quiet {pins:List (Addr×Obj)} {σ:St} {H:Hp} {s:Shared} (I:Inv X pins σ H s):interactive X.env=false:=by simp [interactive,I.ok.kind]
def GT (te:TE):TS:=fun D σ H=>te σ H fun _ H1=>D.nx σ H1
theorem yG (he:PE X e te) (hs:swapsWith e none pos.line X.env=pure false:=by rfl):PS X (.Expr e pos) (GT te):=by
 intro pins s σ H D I h
 exact wpAny_Expr_any (jW (he pins s σ H _ I h) fun v s1 ⟨x,H1,I1,r1,q1⟩=>⟨σ,H1,I1,q1⟩) I.quiet hs
def HR (te:TE):TS:=fun D σ H=>te σ H D.rt
theorem jN (he:PE X e te):PS X (.Return (some e) pos) (HR te):=by
 intro pins s σ H D I h
 exact wpAny_Return_some (jW (he pins s σ H _ I h) fun v s1 ⟨x,H1,I1,r1,q1⟩=>⟨x,σ,H1,I1,r1,q1⟩)
def HV (c:TT) (t u:TS):TS:=fun D σ H=>c σ H fun b H1=>if b=true then t D σ H1 else u D σ H1
theorem kH {c:Expr} {a b:List Stmt} {tc:TT} (hc:PT X c tc) (ha:PSs X a t) (hb:PSs X b u):PS X (.If c a b pos) (HV tc t u):=by
 intro pins s σ H D I h
 refine wpAny_If (jW (hc pins s σ H _ I h) fun d s1 ⟨H1,I1,q1⟩=>?_)
 cases d with
 |true=>exact ha pins s1 σ H1 D I1 q1
 |false=>exact hb pins s1 σ H1 D I1 q1
end
abbrev TG:=V→St→Hp→(St→Hp→Prop)→Prop
abbrev QE:=List V→St→Hp→(St→Hp→Prop)→Prop
def PG (X:Cx) (target:Expr) (t:TG):Prop :=
 ∀(pins:List (Addr×Obj)) (s:Shared) (σ:St) (H:Hp) (v:V) (u:Value) (Q:St→Hp→Prop),Inv X pins σ H s→RelV v u→t v σ H Q→
  wpAny (model X.prog X.w) X.A (assign target X.env u) (fun _ s'=>∃σ' H',Inv X pins σ' H' s'∧Q σ' H') X.xe s
def eS (X:Cx) (ts:List Expr) (t:QE):Prop :=
 ∀(pins:List (Addr×Obj)) (s:Shared) (σ:St) (H:Hp) (vs:List V) (us:List Value) (Q:St→Hp→Prop),Inv X pins σ H s→Vals vs us→t vs σ H Q→
  wpAny (model X.prog X.w) X.A (assignInOrder ((assignEach ts X.env).map (·.2)) us) (fun _ s'=>∃σ' H',Inv X pins σ' H' s'∧Q σ' H') X.xe s
abbrev eP:=V→V→V→Hp→(Hp→Prop)→Prop
def mS (X:Cx) (t:eP):Prop :=
 ∀(pins:List (Addr×Obj)) (s:Shared) (σ:St) (H:Hp) (o i v:V) (ov iv u:Value) (Q:Hp→Prop),Inv X pins σ H s→RelV o ov→RelV i iv→RelV v u→t o i v H Q→
  wpAny (model X.prog X.w) X.A (setItem ov iv u) (fun _ s'=>∃H',Inv X pins σ H' s'∧Q H') X.xe s
abbrev gU:=V→V→Hp→VK→Prop
def m6 (X:Cx) (op:Operator) (t:gU):Prop :=
 ∀(pins:List (Addr×Obj)) (s:Shared) (σ:St) (H:Hp) (x y:V) (v u:Value) (Q:VK),Inv X pins σ H s→RelV x v→RelV y u→t x y H Q→
  wpAny (model X.prog X.w) X.A (inplaceOp op v u) (EP X pins σ Q) X.xe s
section
variable {X:Cx} {pos:Pos}
def gG (i:Nat):TG:=fun v σ H Q=>Q (σ.set i (some v)) H
theorem j8 {i:Nat} {x:Str} (hN:X.N.Nodup) (hi:X.N[i]?=some x) (hx:eU X.env.scope x) (hf:X.fn x=true∨X.env.scope.names.lookup x=some .local:=by first|exact .inl rfl|exact .inr rfl|assumption):PG X (.Name x pos) (gG i):=by
 intro pins s σ H v u Q I r h
 exact wpAny_assign_Name (pQ I hN hi hx r (fun s' I'=>⟨_,H,I',h⟩) hf)
def IH:QE:=fun vs σ H Q=>vs=[]∧Q σ H
def HJ (t:TG) (u:QE):QE:=fun vs σ H Q=>∃v r,vs=v::r∧t v σ H fun σ' H'=>u r σ' H' Q
theorem y8:eS X [] IH:=by
 intro pins s σ H vs us Q I r h
 obtain ⟨e,h⟩:=h
 subst e
 cases r
 exact assignInOrder_nil ⟨σ,H,I,h⟩
theorem qG {e:Expr} {es:List Expr} {t:TG} {u:QE} (h1:PG X e t) (h2:eS X es u)
  (hs:(assignEach (e::es) X.env).map (·.2)=assign e X.env::(assignEach es X.env).map (·.2):=by rfl):eS X (e::es) (HJ t u):=by
 intro pins s σ H vs us Q I r h
 obtain ⟨v,vr,e1,h⟩:=h
 subst e1
 cases r with
 |cons r rr =>
  rw [hs]
  refine assignInOrder_cons (jW (h1 pins s σ H _ _ _ I r h) fun _ s1 ⟨σ1,H1,I1,q1⟩=>?_)
  exact h2 pins s1 σ1 H1 _ _ Q I1 rr q1
def uE (K:PySem.W.Frag) (n:Nat) (t:QE):TG:=fun v σ H Q=>∃a xs,v=.ref a∧SqT K H a xs∧xs.length=n∧t xs σ H Q
theorem lV {es:List Expr} {k:Nat} {t:QE} {n:Nat} (hc:X.calm=true) (h:eS X es t)
  (hn:(assignEach es X.env).length=n:=by rfl) (hst:(assignEach es X.env).findIdx? (·.1)=none:=by rfl):PG X (.Tuple es k pos) (uE X.K n t):=by
 intro pins s σ H v u Q I r hw
 obtain ⟨a,xs,e1,hq,hl,hw⟩:=hw
 subst e1
 cases r
 obtain ⟨its,rv,ht,hz⟩:=I.tuple hq
 refine assign_Tuple_tuple (I.ok.hd hc) ht (by simp [hn,← hl,rv.length]) hst fun h' hx=>?_
 have I1:Inv X pins σ H {s with heap:=h'}:=I.kept (t':=s.toks) fun b o e=>hx b o (Nat.ne_of_lt (Heap.lt_size e)) e
 exact h pins _ σ H xs _ Q I1 (by simpa using rv) hw
def IG (to ti:TE) (t:eP):TG:=fun v σ H Q=>to σ H fun o H1=>ti σ H1 fun i H2=>t o i v H2 fun H3=>Q σ H3
theorem J0 {o i:Expr} {to ti:TE} {t:eP} (ho:PE X o to) (hi:PE X i ti) (hs:mS X t)
  (ha:∀v,assign (.Subscript o i pos) X.env v=(do
   let ov ← holding [v] (eval o X.env)
   let iv ← holding [v,ov] (eval i X.env)
   standAt pos
   holding [v,ov,iv] (setItem ov iv v)
   release [v,ov,iv] []):=by intro _;rfl):PG X (.Subscript o i pos) (IG to ti t):=by
 intro pins s σ H v u Q I r h
 rw [ha]
 refine wpAny_bind (wpAny_holding (jW (ho pins s σ H _ I h) fun ov s1 ⟨x,H1,I1,r1,q1⟩=>?_))
 refine wpAny_bind (wpAny_holding (jW (hi pins s1 σ H1 _ I1 q1) fun iv s2 ⟨y,H2,I2,r2,q2⟩=>?_))
 refine wpAny_bind (wpAny_standAt (wpAny_bind (wpAny_holding (jW (hs pins s2 σ H2 x y v ov iv u _ I2 r1 r2 r q2) fun _ s3 ⟨H3,I3,q3⟩=>?_))))
 exact wpAny_release ⟨σ,H3,I3,q3⟩
def t9 (te:TE) (g:TG):TS:=fun D σ H=>te σ H fun x H1=>g x σ H1 D.nx
theorem JZ {tg e:Expr} {te:TE} {g:TG} (he:PE X e te) (hg:PG X tg g) (hs:swapsWithSole [tg] e pos.line X.env=pure false:=by rfl) (hw:swappedStores [tg] e X.env=pure none:=by rfl)
  (h1:(assignEach [tg] X.env).map (·.2)=[assign tg X.env]:=by rfl):PS X (.Assign [tg] e pos) (t9 te g):=by
 intro pins s σ H D I h
 refine wpAny_Assign_stores (jW (he pins s σ H _ I h) fun v s1 ⟨x,H1,I1,r1,q1⟩=>?_) hs hw
 rw [h1]
 exact jW (hg pins s1 σ H1 x v _ I1 r1 q1) fun _ s2 q=>q
theorem jQ {i:Nat} {x:Str} {e:Expr} {te:TE} {pos':Pos} (hN:X.N.Nodup) (hi:X.N[i]?=some x) (hx:eU X.env.scope x) (he:PE X e te) (hs:swapsWith e (some (.Name x pos')) pos.line X.env=pure false:=by rfl) (hf:X.fn x=true∨X.env.scope.names.lookup x=some .local:=by first|exact .inl rfl|exact .inr rfl|assumption) :
  PS X (.Assign [.Name x pos'] e pos) (t9 te (gG i)):=by
 intro pins s σ H D I h
 refine wpAny_Assign_Name (jW (he pins s σ H _ I h) fun v s1 ⟨y,H1,I1,r1,q1⟩=>?_) hs
 exact pQ I1 hN hi hx r1 (fun s2 I2=>⟨_,H1,I2,q1⟩) hf
def GY (to ti te:TE) (tget:V→V→Hp→VK→Prop) (tip:gU) (tset:eP):TS:=fun D σ H=>to σ H fun o H1=>ti σ H1 fun i H2=>tget o i H2 fun x H3=>te σ H3 fun y H4=>tip x y H4 fun z H5=>tset o i z H5 fun H6=>D.nx σ H6
def uF (X:Cx) (t:V→V→Hp→VK→Prop):Prop :=
 ∀(pins:List (Addr×Obj)) (s:Shared) (σ:St) (H:Hp) (o i:V) (ov iv:Value) (Q:VK),Inv X pins σ H s→RelV o ov→RelV i iv→t o i H Q→
  wpAny (model X.prog X.w) X.A (getItem ov iv) (EP X pins σ Q) X.xe s
theorem lI {o i e:Expr} {to ti te:TE} {tget:V→V→Hp→VK→Prop} {tip:gU} {tset:eP} {op:Operator} {tpos:Pos} (ho:PE X o to) (hi:PE X i ti) (hg:uF X tget) (he:PE X e te) (hp:m6 X op tip) (hs:mS X tset)
  (ha:∀ov iv new,augStore i ov iv new=(do holding [new,ov,iv] (setItem ov iv new);release [new,ov,iv] [];pure .next):=by intros;rfl):PS X (.AugAssign (.Subscript o i tpos) op e pos) (GY to ti te tget tip tset):=by
 intro pins s σ H D I h
 refine wpAny_AugAssign_SubscriptAny (jW (ho pins s σ H _ I h) fun ov s1 ⟨x1,H1,I1,r1,q1⟩=>?_) ha
 refine jW (hi pins s1 σ H1 _ I1 q1) fun iv s2 ⟨x2,H2,I2,r2,q2⟩=>?_
 refine jW (hg pins s2 σ H2 x1 x2 ov iv _ I2 r1 r2 q2) fun old s3 ⟨x3,H3,I3,r3,q3⟩=>?_
 refine jW (he pins s3 σ H3 _ I3 q3) fun v s4 ⟨x4,H4,I4,r4,q4⟩=>?_
 refine jW (hp pins s4 σ H4 x3 x4 old v _ I4 r3 r4 q4) fun new s5 ⟨x5,H5,I5,r5,q5⟩=>?_
 exact jW (hs pins s5 σ H5 x1 x2 x5 ov iv new _ I5 r1 r2 r5 q5) fun _ s6 ⟨H6,I6,q6⟩=>⟨σ,H6,I6,q6⟩
def uK (f:Int→Int→Int):gU:=fun x y H Q=>∃i j,x=.int i∧y=.int j∧Q (.int (f i j)) H
theorem tN:m6 X .Add (uK fun i j=>i+j):=by
 intro pins s σ H x y v u Q I r1 r2 h
 obtain ⟨i,j,e1,e2,q⟩:=h
 subst e1;subst e2
 obtain ⟨t,rfl⟩:=r1
 obtain ⟨t',rfl⟩:=r2
 exact iadd_int ⟨.int _,H,I.tok _,⟨_,rfl⟩,q⟩
theorem GK:m6 X .Sub (uK fun i j=>i - j):=by
 intro pins s σ H x y v u Q I r1 r2 h
 obtain ⟨i,j,e1,e2,q⟩:=h
 subst e1;subst e2
 obtain ⟨t,rfl⟩:=r1
 obtain ⟨t',rfl⟩:=r2
 exact isub_int ⟨.int _,H,I.tok _,⟨_,rfl⟩,q⟩
end
section
variable {X:Cx} {pos:Pos}
end
structure It where
 go:Nat→Hp→Prop
 yld:Nat→Hp→V→Hp→Prop
 stop:Nat→Hp→Prop
def yW (X:Cx) (pins:List (Addr×Obj)) (H:Hp) (b:Addr):Prop :=
 H b=none∧b≠X.env.locals∧b∉X.fs∧(b∈X.ex∨X.s₀.heap.objs.size≤b)∧(∀x c,X.env.cells.lookup x=some c→c≠b)∧∀p∈X.pn++pins,p.1≠b
theorem Inv.fpOk {X:Cx} {pins:List (Addr×Obj)} {σ:St} {H H':Hp} {s:Shared} {b:Addr} (I:Inv X pins σ H s) (hb:s.heap.objs.size≤b) (hn:H' b=none):yW X pins H' b:=by
 refine ⟨hn,Nat.ne_of_gt (Nat.lt_of_lt_of_le I.lt hb),I.nofs hb,.inr (Nat.le_trans I.sz hb),fun x c e z=>?_,fun p hp z=>?_⟩
 ·obtain ⟨v,q⟩:=I.cell x c e
  exact absurd (Nat.lt_of_lt_of_le q.lt (by rw [z];exact hb)) (Nat.lt_irrefl _)
 ·exact absurd (Nat.lt_of_lt_of_le (Heap.lt_size (I.pin p hp).1) (by rw [z];exact hb)) (Nat.lt_irrefl _)
structure Turn (P:Program) (w:World) (K:PySem.W.Frag) (tg:Expr) (J:It) (fp:List Addr) (it:Addr) (tn:Nat→Heap→Prop):Prop where
 mem:it∈fp
 obj:∀i h,tn i h→∀b∈fp,∃o,h.get? b=some o∧∀v,o.data≠.cell v
 keep:∀i h h',tn i h→(∀b∈fp,∀o,h.get? b=some o→h'.get? b=some o)→tn i h'
 item:∀(X:Cx),X.prog=P→X.w=w→X.K=K→X.calm=true→∀(i:Nat) (pins:List (Addr×Obj)) (s:Shared) (σ:St) (H:Hp) (E:Value→Shared→Prop),Inv X pins σ H s→(∀b∈fp,yW X pins H b)→tn i s.heap→J.go i H→
  wpAny (model P w) X.A (pyNext (.ref it)) (fun r s1=>∃u,r=some u∧
   wpAny (model P w) X.A (letOwnedTupleGo tg (.ref it) u) (fun _ s2=>∃x H',Inv X pins σ H' s2∧RelV x u∧J.yld i H x H'∧tn (i+1) s2.heap∧∀b∈fp,H' b=none) E s1) E s
 done:∀(X:Cx),X.prog=P→X.w=w→X.K=K→X.calm=true→∀(i:Nat) (pins:List (Addr×Obj)) (s:Shared) (σ:St) (H:Hp) (E:Value→Shared→Prop),Inv X pins σ H s→(∀b∈fp,yW X pins H b)→tn i s.heap→J.stop i H→
  wpAny (model P w) X.A (pyNext (.ref it)) (fun r s1=>r=none∧Inv X pins σ H s1) E s
 self:∀(A:Around) (i:Nat) (s:Shared) (Q:Value→Shared→Prop) (E:Value→Shared→Prop),tn i s.heap→Q (.ref it) s→wpAny (model P w) A (pyIter (.ref it)) Q E s
abbrev TI:=St→Hp→(It→Hp→Prop)→Prop
def uL (X:Cx) (pins:List (Addr×Obj)) (σ:St) (tg:Expr) (R:It→Hp→Prop) (itv:Value) (s2:Shared):Prop :=
 ∃(it:Addr) (fp:List Addr) (tn:Nat→Heap→Prop) (J:It) (H':Hp),itv=.ref it∧Inv X pins σ H' s2∧Turn X.prog X.w X.K tg J fp it tn∧tn 0 s2.heap∧(∀b∈fp,yW X pins H' b)∧R J H'
def PI (X:Cx) (tg iter:Expr) (wi:TI):Prop :=
 ∀(pins:List (Addr×Obj)) (s:Shared) (σ:St) (H:Hp) (R:It→Hp→Prop),Inv X pins σ H s→wi σ H R→
  wpAny (model X.prog X.w) X.A (eval iter X.env) (fun v s1=>wpAny (model X.prog X.w) X.A (pyIter v) (uL X pins σ tg R) X.xe s1) X.xe s
theorem mG {M:Model} {A:Around} {E:Value→Shared→Prop} {s:Shared} {tg:Expr} {it:Addr} {u:Value} {o:Obj} {n:String} {vs:Array Value} {Q:Unit→Shared→Prop} (ho:s.heap.get? it=some o) (hc:o.cls=.type n) (hd:o.data=.fields vs)
    (hn:["enumerate","zip","dict_itemiterator","dict_reverseitemiterator","odict_iterator","itertools.zip_longest","itertools.pairwise"].contains n=false) (hQ:Q () s):wpAny M A (letOwnedTupleGo tg (.ref it) u) Q E s:=by
  unfold letOwnedTupleGo
  cases tg<;>first
    |exact wpAny_pure hQ
    | (cases u<;>first
        |exact wpAny_pure hQ
        | (refine wpAny_bind (wpAny_load ho ?_)
           rw [hc,hd]
           show wpAny M A (if (["enumerate","zip","dict_itemiterator","dict_reverseitemiterator","odict_iterator","itertools.zip_longest","itertools.pairwise"].contains n&&vs[0]? == some (rawInt _))=true then _ else _) Q E s
           rw [if_neg (by intro h;rw [hn,Bool.false_and] at h;cases h)]
           exact wpAny_pure hQ))
def ZD (K:PySem.W.Frag) (a:Addr):It :=
 ⟨fun i H=>∃xs x,SqL K H a xs∧xs[i]?=some x,fun i H x H'=>H'=H∧∀xs,SqL K H a xs→xs[i]?=some x,fun i H=>∃xs,SqL K H a xs∧xs.length≤i⟩
def eV (K:PySem.W.Frag) (a:Addr):It :=
 ⟨fun i H=>∃xs x,SqT K H a xs∧xs[i]?=some x,fun i H x H'=>H'=H∧∀xs,SqT K H a xs→xs[i]?=some x,fun i H=>∃xs,SqT K H a xs∧xs.length≤i⟩
def QF (lo:Int) (n:Nat):It:=⟨fun i _=>i<n,fun i H x H'=>H'=H∧x=.int (lo+i),fun i _=>n≤i⟩
theorem CW {P:Program} {w:World} {K:PySem.W.Frag} {tg:Expr} (a it:Addr):Turn P w K tg (ZD K a) [it] it (fun i h=>h.IsListIter it a i) where
 mem:=by simp
 obj:=fun i h st b hb=>by
  have e:b=it:=by simpa using hb
  subst e
  obtain ⟨o,e,c,d⟩:=st
  exact ⟨o,e,fun v z=>by rw [d] at z;cases z⟩
 keep:=fun i h h' st k=>st.at fun o e=>k it (by simp) o e
 item:=by
  intro X hP hw hK hc i pins s σ H E I hf st hg
  subst hP hw hK
  obtain ⟨xs,x,hq,hx⟩:=hg
  obtain ⟨its,rv,p,hz⟩:=I.list hq
  obtain ⟨u,hu,ru⟩:=rv.get hx
  obtain ⟨f0,f1,f2,f3,f4,f5⟩:=hf it (by simp)
  refine wpAny_pyNext_list_item st p.isList (x:=u) (by simpa using hu) fun h' st' sb=>?_
  have I1:Inv X pins σ H {s with heap:=h'}:=I.turned (t':=s.toks) (fun b o hb e=>(sb.2 b hb).trans e) f0 f1 f3 f4 f5
  obtain ⟨o,e,c,d⟩:=id st'
  exact ⟨u,rfl,mG (s:={s with heap:=h'}) e c d (by decide) ⟨x,H,I1,ru,⟨rfl,fun ys hy=>by rw [I.list_inj hy hq];exact hx⟩,st',fun b hb=>(hf b hb).1⟩⟩
 done:=by
  intro X hP hw hK hc i pins s σ H E I hf st hg
  subst hP hw hK
  obtain ⟨xs,hq,hx⟩:=hg
  obtain ⟨its,rv,p,hz⟩:=I.list hq
  obtain ⟨f0,f1,f2,f3,f4,f5⟩:=hf it (by simp)
  have hl:=rv.length
  exact wpAny_pyNext_list_end (I.ok.hd hc) st p.isList (by simp;omega) fun h' eb=>⟨rfl,I.turned (t':=s.toks) (fun b o hb e=>eb b o hb e) f0 f1 f3 f4 f5⟩
 self:=fun _ _ _ _ _ st h=>wpAny_pyIter_listiter st h
theorem B3 {P:Program} {w:World} {K:PySem.W.Frag} {tg:Expr} (a it:Addr):Turn P w K tg (eV K a) [it] it (fun i h=>h.IsTupleIter it a i) where
 mem:=by simp
 obj:=fun i h st b hb=>by
  have e:b=it:=by simpa using hb
  subst e
  obtain ⟨o,e,c,d⟩:=st
  exact ⟨o,e,fun v z=>by rw [d] at z;cases z⟩
 keep:=fun i h h' st k=>st.at fun o e=>k it (by simp) o e
 item:=by
  intro X hP hw hK hc i pins s σ H E I hf st hg
  subst hP hw hK
  obtain ⟨xs,x,hq,hx⟩:=hg
  obtain ⟨its,rv,p,hz⟩:=I.tuple hq
  obtain ⟨u,hu,ru⟩:=rv.get hx
  obtain ⟨f0,f1,f2,f3,f4,f5⟩:=hf it (by simp)
  refine wpAny_pyNext_tuple_item st (show s.heap.IsTuple a its.toArray from p) (x:=u) (by simpa using hu) fun h' st' sb=>?_
  have I1:Inv X pins σ H {s with heap:=h'}:=I.turned (t':=s.toks) (fun b o hb e=>(sb.2 b hb).trans e) f0 f1 f3 f4 f5
  obtain ⟨o,e,c,d⟩:=id st'
  exact ⟨u,rfl,mG (s:={s with heap:=h'}) e c d (by decide) ⟨x,H,I1,ru,⟨rfl,fun ys hy=>by rw [I.tuple_inj hy hq];exact hx⟩,st',fun b hb=>(hf b hb).1⟩⟩
 done:=by
  intro X hP hw hK hc i pins s σ H E I hf st hg
  subst hP hw hK
  obtain ⟨xs,hq,hx⟩:=hg
  obtain ⟨its,rv,p,hz⟩:=I.tuple hq
  obtain ⟨f0,f1,f2,f3,f4,f5⟩:=hf it (by simp)
  have hl:=rv.length
  exact wpAny_pyNext_tuple_end (I.ok.hd hc) st (show s.heap.IsTuple a its.toArray from p) (by simp;omega) fun h' eb=>⟨rfl,I.turned (t':=s.toks) (fun b o hb e=>eb b o hb e) f0 f1 f3 f4 f5⟩
 self:=fun _ _ _ _ _ st h=>wpAny_pyIter_tupleiter st h
theorem B4 {P:Program} {w:World} {K:PySem.W.Frag} {tg:Expr} (it:Addr) (lo:Int) (n:Nat):Turn P w K tg (QF lo n) [it] it (fun i h=>IsRangeIter h it (lo+(i:Nat)*1) ((n:Int) - (i:Nat)) 1) where
 mem:=by simp
 obj:=fun i h st b hb=>by
  have e:b=it:=by simpa using hb
  subst e
  exact ⟨_,st,fun v z=>by
   have z':Data.fields _=Data.cell v:=z
   cases z'⟩
 keep:=fun i h h' st k=>k it (by simp) _ st
 item:=by
  intro X hP hw hK hc i pins s σ H E I hf st hg
  subst hP hw hK
  obtain ⟨f0,f1,f2,f3,f4,f5⟩:=hf it (by simp)
  have W:=Walks.range (prog:=X.prog) (w:=X.w) (I.ok.hd hc) it lo 1 n
  refine W.item i s _ _ hg st fun v h' tk hv st' kk=>?_
  obtain ⟨t,rfl⟩:=hv
  have I1:Inv X pins σ H {s with heap:=h',toks:=tk}:=I.turned (fun b o hb e=>kk b o (by simpa using hb) e) f0 f1 f3 f4 f5
  refine ⟨_,rfl,mG (s:={s with heap:=h',toks:=tk}) (n:="range_iterator") st' rfl rfl (by decide) ⟨.int (lo+i),H,I1,⟨t,?_⟩,⟨rfl,rfl⟩,st',fun b hb=>(hf b hb).1⟩⟩
  rw [Int.mul_one]
 done:=by
  intro X hP hw hK hc i pins s σ H E I hf st hg
  subst hP hw hK
  obtain ⟨f0,f1,f2,f3,f4,f5⟩:=hf it (by simp)
  exact wpAny_pyNext_range_end (I.ok.hd hc) st (by have:n≤i:=hg;omega) fun h' eb=>⟨rfl,I.turned (t':=s.toks) (fun b o hb e=>eb b o hb e) f0 f1 f3 f4 f5⟩
 self:=fun _ _ _ _ _ st h=>wpAny_pyIter_rangeiter st h
end L2
namespace L2
open PySem PySem.Spec PyProof.Rows
section
variable {X:Cx} {tg:Expr}
def HH (K:PySem.W.Frag) (tl:TE):TI:=fun σ H R=>tl σ H fun x H1=>∃a,x=.ref a∧(∃xs,SqL K H1 a xs)∧R (ZD K a) H1
def IF (K:PySem.W.Frag) (tl:TE):TI:=fun σ H R=>tl σ H fun x H1=>∃a,x=.ref a∧(∃xs,SqT K H1 a xs)∧R (eV K a) H1
theorem qR {l:Expr} {tl:TE} (hl:PE X l tl):PI X tg l (HH X.K tl):=by
 intro pins s σ H R I h
 refine jW (hl pins s σ H _ I h) fun v s1 ⟨x,H1,I1,r1,q1⟩=>?_
 obtain ⟨a,e,⟨xs,hq⟩,q⟩:=q1
 subst e
 cases r1
 obtain ⟨its,rv,p,hz⟩:=I1.list hq
 refine wpAny_pyIter_list p.isList ?_
 refine ⟨s1.heap.objs.size,[s1.heap.objs.size],_,_,H1,rfl,I1.kept (t':=s1.toks) fun b o e=>Heap.get?_push_of_some _ e,CW a _,⟨_,Heap.get?_push_size _ rfl,rfl,rfl⟩,fun b hb=>?_,q⟩
 have e:b=s1.heap.objs.size:=by simpa using hb
 subst e
 exact I1.fpOk (Nat.le_refl _) (I1.hok.fresh (Nat.le_refl _))
theorem tK {l:Expr} {tl:TE} (hl:PE X l tl):PI X tg l (IF X.K tl):=by
 intro pins s σ H R I h
 refine jW (hl pins s σ H _ I h) fun v s1 ⟨x,H1,I1,r1,q1⟩=>?_
 obtain ⟨a,e,⟨xs,hq⟩,q⟩:=q1
 subst e
 cases r1
 obtain ⟨its,rv,p,hz⟩:=I1.tuple hq
 refine wpAny_pyIter_tuple (show s1.heap.IsTuple a its.toArray from p) ?_
 refine ⟨s1.heap.objs.size,[s1.heap.objs.size],_,_,H1,rfl,I1.kept (t':=s1.toks) fun b o e=>Heap.get?_push_of_some _ e,B3 a _,⟨_,Heap.get?_push_size _ rfl,rfl,rfl⟩,fun b hb=>?_,q⟩
 have e:b=s1.heap.objs.size:=by simpa using hb
 subst e
 exact I1.fpOk (Nat.le_refl _) (I1.hok.fresh (Nat.le_refl _))
theorem DW {pins:List (Addr×Obj)} {σ:St} {H:Hp} {s:Shared} {R:It→Hp→Prop} {E:Value→Shared→Prop} {lo hi:Int} {t u v:Tok} {tk:Nat} (I:Inv X pins σ H s) (h1 : -(2 ^ 62)≤lo) (h2:lo<2 ^ 62) (h3 : -(2 ^ 62)≤hi) (h4:hi<2 ^ 62)
    (q:R (QF lo (hi - lo).toNat) H):wpAny (model X.prog X.w) X.A (pyIter (.ref s.heap.objs.size)) (uL X pins σ tg R) E {s with heap:=s.heap.push {cls:=.type "range",data:=.fields #[.int lo t,.int hi u,.int 1 v]},toks:=tk}:=by
  refine wpAny_pyIter_range (IsRange.new ..) (small_one h1 h2 h3 h4) ?_
  have I1:Inv X pins σ H {s with heap:=s.heap.push {cls:=.type "range",data:=.fields #[.int lo t,.int hi u,.int 1 v]},toks:=tk}:=I.kept fun b o e=>Heap.get?_push_of_some _ e
  refine ⟨(s.heap.push {cls:=.type "range",data:=.fields #[.int lo t,.int hi u,.int 1 v]}).objs.size,[(s.heap.push {cls:=.type "range",data:=.fields #[.int lo t,.int hi u,.int 1 v]}).objs.size],_,_,H,rfl,
    I1.kept (t':=tk) fun b o e=>Heap.get?_push_of_some _ e,B4 _ lo (hi - lo).toNat,?_,fun b hb=>?_,q⟩
  · have e1:lo+((0:Nat):Int)*1=lo:=by simp
    have e2:(((hi - lo).toNat:Nat):Int) - ((0:Nat):Int)=Builtin.Range.rangeSize lo hi 1:=by rw [rangeSize_one];split<;>omega
    show IsRangeIter _ _ (lo+((0:Nat):Int)*1) ((((hi - lo).toNat:Nat):Int) - ((0:Nat):Int)) 1
    rw [e1,e2]
    exact Heap.get?_push_size _ rfl
  · have e:b=(s.heap.push {cls:=.type "range",data:=.fields #[.int lo t,.int hi u,.int 1 v]}).objs.size:=by simpa using hb
    subst e
    exact I1.fpOk (Nat.le_refl _) (I1.hok.fresh (Nat.le_refl _))
def HG (ta:TA):TI:=fun σ H R=>ta σ H fun vs H1=>∃j:Int,vs=[.int j]∧-(2 ^ 62)≤j∧j<2 ^ 62∧R (QF 0 j.toNat) H1
theorem vD {a:Expr} {ta:TA} {p pos:Pos} (hg:Gl X "range") (hm:X.mg "range"=none) (ha:PA X [a] ta) (hs:starEach [a] X.env=[(false,eval a X.env)]:=by rfl):PI X tg (.Call (.Name "range" p) [a] [] pos) (HG ta):=by
 intro pins s σ H R I h
 refine Call_ (Q4 I hg hm boot_range (PyProof.Rows.callWith_type1 (jW (ha pos pins s σ H _ I h) fun us s1 ⟨vs,H1,I1,r1,q1⟩=>?_) hs rfl))
 obtain ⟨j,e,q1,q2,q⟩:=q1
 subst e
 cases r1 with
 |cons r rr =>
  cases rr
  obtain ⟨t,rfl⟩:=r
  exact call_range_1 (DW I1 (by omega) (by omega) q1 q2 (by simpa using q))
def HW (wi:TI) (g:TG) (tb:TS):TS:=fun D σ H=>wi σ H fun J H1=>∃W:Nat→Nat→St→Hp→Prop,(∃m,W 0 m σ H1)∧∀i m σ H,W i m σ H→
 (J.stop i H∧D.nx σ H)∨(J.go i H∧∃N:St→Hp→Prop,(∀σ' H',N σ' H'→∃m',m'<m∧W (i+1) m' σ' H')∧∀x H',J.yld i H x H'→g x σ H' fun σ2 H2=>tb {D with nx:=N,ct:=N,bk:=D.nx} σ2 H2)
def eI (fp:List Addr) (h:Heap):List (Addr×Obj):=fp.filterMap fun b=>(h.get? b).map fun o=>(b,o)
theorem fD {fp:List Addr} {h:Heap} {b:Addr} {o:Obj} (hb:b∈fp) (e:h.get? b=some o):(b,o)∈eI fp h:=List.mem_filterMap.mpr ⟨b,hb,by rw [e];rfl⟩
theorem C5 {fp:List Addr} {h:Heap} {p:Addr×Obj} (hp:p∈eI fp h):p.1∈fp∧h.get? p.1=some p.2:=by
 obtain ⟨b,hb,e⟩:=List.mem_filterMap.mp hp
 cases q:h.get? b with
 |none=>rw [q] at e;cases e
 |some o =>
  rw [q] at e
  have e':(b,o)=p:=Option.some.inj e
  subst e'
  exact ⟨hb,q⟩
theorem Inv.pinned {pins:List (Addr×Obj)} {σ:St} {H:Hp} {s:Shared} {fp:List Addr} (I:Inv X pins σ H s) (hf:∀b∈fp,yW X pins H b) (ho:∀b∈fp,∃o,s.heap.get? b=some o∧∀v,o.data≠.cell v):Inv X (pins++eI fp s.heap) σ H s :=
 I.pins_of fun p hp=>(List.mem_append.mp hp).elim (fun z=>I.pin p (List.mem_append_right _ z)) fun z=>by
  obtain ⟨hb,e⟩:=C5 z
  obtain ⟨f0,f1,f2,_⟩:=hf p.1 hb
  obtain ⟨o,e',d⟩:=ho p.1 hb
  rw [e] at e';cases e'
  exact ⟨e,f0,f1,f2,d⟩
theorem Inv.unpinned {pins pl:List (Addr×Obj)} {σ:St} {H:Hp} {s:Shared} (I:Inv X (pins++pl) σ H s):Inv X pins σ H s:=I.pins_of fun p hp=>I.pin p (List.mem_append_right _ (List.mem_append_left _ hp))
theorem vJ {iter:Expr} {body:List Stmt} {wi:TI} {g:TG} {tb:TS} {pos:Pos} (hp:PassesOwn (model X.prog X.w) X.A X.env X.xe) (hc:X.calm=true) (hi:PI X tg iter wi) (hg:PG X tg g) (hb:PSs X body tb)
  (hs:∀x,foldedSetIterable iter X.env x=pure x:=by intro _;rfl):PS X (.For tg iter body [] pos) (HW wi g tb):=by
 intro pins s σ H D I h
 refine wpAny_For (jW (hi pins s σ H _ I h) fun v s1 h1=>jW h1 fun itv s2 h2=>?_) hs
 obtain ⟨it,fp,tn,J,H2,e,I2,T,st2,f2,W,⟨m0,w0⟩,turn⟩:=h2
 subst e
 have stat:∀{H':Hp},(∀b∈fp,H' b=none)→∀b∈fp,yW X pins H' b:=fun hn b hb=>⟨hn b hb,(f2 b hb).2⟩
 refine codeAny_forLoop_any (fun n s'=>∃i σ' H',Inv X pins σ' H' s'∧tn i s'.heap∧(∀b∈fp,H' b=none)∧W i n σ' H') ?_ m0 ⟨0,σ,H2,I2,st2,fun b hb=>(f2 b hb).1,w0⟩
 rintro n s3 ⟨i,σ3,H3,I3,st3,fr3,w3⟩
 rcases turn i n σ3 H3 w3 with ⟨stop,qn⟩|⟨go,N,hN,step⟩
 ·refine wpAny_passesOwn hp (jW (T.done X rfl rfl rfl hc i pins s3 σ3 H3 X.xe I3 (stat fr3) st3 stop) fun r s4 ⟨hr,I4⟩=>?_)
  subst hr
  exact wpAny_execs_nil ⟨σ3,H3,I4,qn⟩
 ·refine wpAny_passesOwn hp (jW (T.item X rfl rfl rfl hc i pins s3 σ3 H3 X.xe I3 (stat fr3) st3 go) fun r s4 ⟨u,hr,h4⟩=>?_)
  subst hr
  refine wpAny_passesOwn hp (jW h4 fun _ s5 ⟨x,H5,I5,r5,y5,st5,fr5⟩=>?_)
  have I5':=I5.pinned (stat fr5) (T.obj _ _ st5)
  refine wpAny_passesOwn hp (jW (hg _ s5 σ3 H5 x u _ I5' r5 (step x H5 y5)) fun _ s6 ⟨σ6,H6,I6,q6⟩=>?_)
  refine wpAny_passesOwn hp (jW (hb _ s6 σ6 H6 _ I6 q6) fun f s7 q7=>?_)
  have again:∀{σ7:St} {H7:Hp},Inv X (pins++eI fp s5.heap) σ7 H7 s7→N σ7 H7→∃m,m<n∧∃i σ' H',Inv X pins σ' H' s7∧tn i s7.heap∧(∀b∈fp,H' b=none)∧W i m σ' H':=fun {σ7 H7} I7 n7=>by
   obtain ⟨m',hm,w7⟩:=hN σ7 H7 n7
   refine ⟨m',hm,i+1,σ7,H7,I7.unpinned,T.keep _ _ _ st5 fun b hb o e=>(I7.pin (b,o) (List.mem_append_right _ (List.mem_append_right _ (fD hb e)))).1,fun b hb=>?_,w7⟩
   obtain ⟨o,e,d⟩:=T.obj _ _ st5 b hb
   exact (I7.pin (b,o) (List.mem_append_right _ (List.mem_append_right _ (fD hb e)))).2.1
  cases f with
  |next=>obtain ⟨σ7,H7,I7,n7⟩:=q7;exact again I7 n7
  |cont=>obtain ⟨σ7,H7,I7,n7⟩:=q7;exact again I7 n7
  |brk=>obtain ⟨σ7,H7,I7,q7⟩:=q7;exact ⟨σ7,H7,I7.unpinned,q7⟩
  |ret v=>obtain ⟨x7,σ7,H7,I7,r7,q7⟩:=q7;exact ⟨x7,σ7,H7,I7.unpinned,r7,q7⟩
end
theorem QZ {K:PySem.W.Frag} {a:Addr} {xs:List V} {g:TG} {tb:TS} {D:Ends} {σ:St} {H:Hp} (Pv:Nat→St→Hp→Prop) (h0:Pv 0 σ H) (hl:∀i σ H,i≤xs.length→Pv i σ H→SqL K H a xs)
    (hs:∀i x σ H,xs[i]?=some x→Pv i σ H→g x σ H fun σ2 H2=>tb {D with nx:=Pv (i+1),ct:=Pv (i+1),bk:=D.nx} σ2 H2) (hd:∀σ H,Pv xs.length σ H→D.nx σ H) :
    ∃W:Nat→Nat→St→Hp→Prop,(∃m,W 0 m σ H)∧∀i m σ H,W i m σ H→
      ((ZD K a).stop i H∧D.nx σ H)∨((ZD K a).go i H∧∃N:St→Hp→Prop,(∀σ' H',N σ' H'→∃m',m'<m∧W (i+1) m' σ' H')∧∀x H',(ZD K a).yld i H x H'→g x σ H' fun σ2 H2=>tb {D with nx:=N,ct:=N,bk:=D.nx} σ2 H2):=by
  refine ⟨fun i m σ H=>m=xs.length - i∧i≤xs.length∧Pv i σ H,⟨xs.length,by simp,Nat.zero_le _,h0⟩,?_⟩
  rintro i m σ H ⟨rfl,hi,p⟩
  have q:=hl i σ H hi p
  by_cases hlt:i<xs.length
  · refine .inr ⟨⟨xs,xs[i],q,by simp [hlt]⟩,Pv (i+1),fun σ' H' p'=>⟨xs.length - (i+1),by omega,rfl,hlt,p'⟩,fun x H' y=>?_⟩
    obtain ⟨e,y⟩:=y
    subst e
    exact hs i x σ _ (y xs q) p
  · have e:i=xs.length:=by omega
    subst e
    exact .inl ⟨⟨xs,q,Nat.le_refl _⟩,hd σ H p⟩
theorem lN {K:PySem.W.Frag} {a:Addr} {xs:List V} {g:TG} {tb:TS} {D:Ends} {σ:St} {H:Hp} (Pv:Nat→St→Hp→Prop) (h0:Pv 0 σ H) (hl:∀i σ H,i≤xs.length→Pv i σ H→SqT K H a xs)
    (hs:∀i x σ H,xs[i]?=some x→Pv i σ H→g x σ H fun σ2 H2=>tb {D with nx:=Pv (i+1),ct:=Pv (i+1),bk:=D.nx} σ2 H2) (hd:∀σ H,Pv xs.length σ H→D.nx σ H) :
    ∃W:Nat→Nat→St→Hp→Prop,(∃m,W 0 m σ H)∧∀i m σ H,W i m σ H→
      ((eV K a).stop i H∧D.nx σ H)∨((eV K a).go i H∧∃N:St→Hp→Prop,(∀σ' H',N σ' H'→∃m',m'<m∧W (i+1) m' σ' H')∧∀x H',(eV K a).yld i H x H'→g x σ H' fun σ2 H2=>tb {D with nx:=N,ct:=N,bk:=D.nx} σ2 H2):=by
  refine ⟨fun i m σ H=>m=xs.length - i∧i≤xs.length∧Pv i σ H,⟨xs.length,by simp,Nat.zero_le _,h0⟩,?_⟩
  rintro i m σ H ⟨rfl,hi,p⟩
  have q:=hl i σ H hi p
  by_cases hlt:i<xs.length
  · refine .inr ⟨⟨xs,xs[i],q,by simp [hlt]⟩,Pv (i+1),fun σ' H' p'=>⟨xs.length - (i+1),by omega,rfl,hlt,p'⟩,fun x H' y=>?_⟩
    obtain ⟨e,y⟩:=y
    subst e
    exact hs i x σ _ (y xs q) p
  · have e:i=xs.length:=by omega
    subst e
    exact .inl ⟨⟨xs,q,Nat.le_refl _⟩,hd σ H p⟩
theorem JA {lo:Int} {n:Nat} {g:TG} {tb:TS} {D:Ends} {σ:St} {H:Hp} (Pv:Nat→St→Hp→Prop) (h0:Pv 0 σ H)
  (hs:∀i σ H,i<n→Pv i σ H→g (.int (lo+i)) σ H fun σ2 H2=>tb {D with nx:=Pv (i+1),ct:=Pv (i+1),bk:=D.nx} σ2 H2) (hd:∀σ H,Pv n σ H→D.nx σ H) :
  ∃W:Nat→Nat→St→Hp→Prop,(∃m,W 0 m σ H)∧∀i m σ H,W i m σ H→
   ((QF lo n).stop i H∧D.nx σ H)∨((QF lo n).go i H∧∃N:St→Hp→Prop,(∀σ' H',N σ' H'→∃m',m'<m∧W (i+1) m' σ' H')∧∀x H',(QF lo n).yld i H x H'→g x σ H' fun σ2 H2=>tb {D with nx:=N,ct:=N,bk:=D.nx} σ2 H2):=by
 refine ⟨fun i m σ H=>m=n - i∧i≤n∧Pv i σ H,⟨n,by simp,Nat.zero_le _,h0⟩,?_⟩
 rintro i m σ H ⟨rfl,hi,p⟩
 by_cases hlt:i<n
 ·refine .inr ⟨hlt,Pv (i+1),fun σ' H' p'=>⟨n - (i+1),by omega,rfl,hlt,p'⟩,fun x H' y=>?_⟩
  obtain ⟨e,y⟩:=y
  subst e y
  exact hs i σ _ hlt p
 ·have e:i=n:=by omega
  subst e
  exact .inl ⟨Nat.le_refl _,hd σ H p⟩
end L2
namespace L2
open PySem PySem.Spec PyProof.Rows
abbrev R2:=V→V→Hp→VK→Prop
def qQ (X:Cx) (f:Value→Value→Sem Value) (r:R2):Prop :=
 ∀(pins:List (Addr×Obj)) (s:Shared) (σ:St) (H:Hp) (x y:V) (v u:Value) (Q:VK),Inv X pins σ H s→RelV x v→RelV y u→r x y H Q→
  wpAny (model X.prog X.w) X.A (f v u) (EP X pins σ Q) X.xe s
def mZ (X:Cx) (f:Value→Sem Value) (r:V→Hp→VK→Prop):Prop :=
 ∀(pins:List (Addr×Obj)) (s:Shared) (σ:St) (H:Hp) (x:V) (v:Value) (Q:VK),Inv X pins σ H s→RelV x v→r x H Q→
  wpAny (model X.prog X.w) X.A (f v) (EP X pins σ Q) X.xe s
def v7 (X:Cx) (f:Value) (r:List V→Hp→VK→Prop):Prop :=
 ∀(pins:List (Addr×Obj)) (s:Shared) (σ:St) (H:Hp) (xs:List V) (us:List Value) (Q:VK),Inv X pins σ H s→Vals xs us→r xs H Q→
  wpAny (model X.prog X.w) X.A (call f us) (EP X pins σ Q) X.xe s
def gP (r:R2) (ta tb:TE):TE:=fun σ H Q=>ta σ H fun x H1=>tb σ H1 fun y H2=>r x y H2 Q
def IO (r:V→Hp→VK→Prop) (ta:TE):TE:=fun σ H Q=>ta σ H fun x H1=>r x H1 Q
def rI (C:Int→Int→Prop) (g:Int→Int→V):R2:=fun x y H Q=>∃i j,x=.int i∧y=.int j∧C i j∧Q (g i j) H
def ZC (g:Int→Int→V):R2:=fun x y H Q=>∃i j,x=.int i∧y=.int j∧Q (g i j) H
def rU (g:Int→V):V→Hp→VK→Prop:=fun x H Q=>∃i,x=.int i∧Q (g i) H
section
variable {X:Cx} {a b c:Expr} {ta tb tc:TE} {pos:Pos}
theorem mQ (ha:PE X a ta) (hb:PE X b tb) {pins:List (Addr×Obj)} {s:Shared} {σ:St} {H:Hp} {R:V→V→Hp→Prop} (I:Inv X pins σ H s)
  (h:ta σ H fun x H1=>tb σ H1 fun y H2=>R x y H2) {Q:Value→Shared→Prop} {f:Value→Value→Sem Value}
  (hf:∀v u s2 x y H2,Inv X pins σ H2 s2→RelV x v→RelV y u→R x y H2→wpAny (model X.prog X.w) X.A (f v u) Q X.xe s2) :
  wpAny (model X.prog X.w) X.A (eval a X.env) (fun v s₁=>wpAny (model X.prog X.w) X.A (eval b X.env) (fun u s₂=>wpAny (model X.prog X.w) X.A (f v u) Q X.xe s₂) X.xe s₁) X.xe s:=by
 refine jW (ha pins s σ H _ I h) fun v s1 ⟨x,H1,I1,r1,q1⟩=>?_
 refine jW (hb pins s1 σ H1 _ I1 q1) fun u s2 ⟨y,H2,I2,r2,q2⟩=>?_
 exact hf v u s2 x y H2 I2 r1 r2 q2
theorem jI {op:Operator} {r:R2} (ho:qQ X (binaryOp op) r) (ha:PE X a ta) (hb:PE X b tb):PE X (.BinOp a op b pos) (gP r ta tb):=by
 intro pins s σ H Q I h
 exact wpAny_BinOp (mQ ha hb I h fun v u s2 x y H2 I2 rx ry q=>ho pins s2 σ H2 x y v u Q I2 rx ry q)
theorem gE {op:UnaryOp} {r:V→Hp→VK→Prop} (ho:mZ X (unaryOp op) r) (ha:PE X a ta):PE X (.UnaryOp op a pos) (IO r ta):=by
 intro pins s σ H Q I h
 exact UnaryOp_ (jW (ha pins s σ H _ I h) fun v s1 ⟨x,H1,I1,r1,q1⟩=>ho pins s1 σ H1 x v Q I1 r1 q1)
theorem gQ {f:Value→Value→Sem Value} {C:Int→Int→Prop} {g:Int→Int→Int}
  (rule:∀(i j:Int) (t u:Tok) (s:Shared) (Q:Value→Shared→Prop) (E:Value→Shared→Prop),C i j→Q (.int (g i j) s.toks) {s with toks:=s.toks+1}→wpAny (model X.prog X.w) X.A (f (.int i t) (.int j u)) Q E s) :
  qQ X f (rI C fun i j=>.int (g i j)):=by
 intro pins s σ H x y v u Q I rx ry h
 obtain ⟨i,j,rfl,rfl,hc,q⟩:=h
 obtain ⟨t,rfl⟩:=rx
 obtain ⟨t',rfl⟩:=ry
 exact rule i j t t' s _ _ hc ⟨.int (g i j),H,I.tok _,⟨_,rfl⟩,q⟩
theorem uC {f:Value→Value→Sem Value} {g:Int→Int→Int}
  (rule:∀(i j:Int) (t u:Tok) (s:Shared) (Q:Value→Shared→Prop) (E:Value→Shared→Prop),Q (.int (g i j) s.toks) {s with toks:=s.toks+1}→wpAny (model X.prog X.w) X.A (f (.int i t) (.int j u)) Q E s) :
  qQ X f (ZC fun i j=>.int (g i j)):=by
 intro pins s σ H x y v u Q I rx ry h
 obtain ⟨i,j,rfl,rfl,q⟩:=h
 obtain ⟨t,rfl⟩:=rx
 obtain ⟨t',rfl⟩:=ry
 exact rule i j t t' s _ _ ⟨.int (g i j),H,I.tok _,⟨_,rfl⟩,q⟩
theorem mO {f:Value→Value→Sem Value} {g:Int→Int→Bool}
  (rule:∀(i j:Int) (t u:Tok) (s:Shared) (Q:Value→Shared→Prop) (E:Value→Shared→Prop),Q (.bool (g i j)) s→wpAny (model X.prog X.w) X.A (f (.int i t) (.int j u)) Q E s) :
  qQ X f (ZC fun i j=>.bl (g i j)):=by
 intro pins s σ H x y v u Q I rx ry h
 obtain ⟨i,j,rfl,rfl,q⟩:=h
 obtain ⟨t,rfl⟩:=rx
 obtain ⟨t',rfl⟩:=ry
 exact rule i j t t' s _ _ ⟨.bl (g i j),H,I,rfl,q⟩
def IM (i j:Int):Prop:=0<j∧j<1073741824
def IL (i j:Int):Prop:=0≤j∧j≤1000000∧i.natAbs<2 ^ 64
def CMul (i j:Int):Prop:=(-(2 ^ 64)<i∧i<2 ^ 64)∨(-(2 ^ 64)<j∧j<2 ^ 64)
theorem CMul.ok {i j:Int} (h:CMul i j):IntMulOk i j:=by
 rcases h with ⟨h1,h2⟩|⟨h1,h2⟩
 ·exact .of_left (intBits_le_64 h1 h2)
 ·exact .of_right (intBits_le_64 h1 h2)
theorem jX:qQ X (binaryOp .Add) (ZC fun i j=>.int (i+j)):=uC fun _ _ _ _ _ _ _ q=>add_int q
theorem qK:qQ X (binaryOp .Sub) (ZC fun i j=>.int (i - j)):=uC fun _ _ _ _ _ _ _ q=>sub_int q
theorem kK:qQ X (binaryOp .Mult) (rI CMul fun i j=>.int (i*j)):=gQ fun _ _ _ _ _ _ _ hc q=>mul_int q hc.ok
theorem fR:qQ X (binaryOp .FloorDiv) (rI IM fun i j=>.int (i / j)):=gQ fun i j _ _ _ _ _ hc q=>by
 have h1:(0:Int)<j:=hc.1
 have h2:j<1073741824:=hc.2
 exact floordiv_int (by omega) (by rw [Int.fdiv_eq_ediv_of_nonneg i (by omega)];exact q) (.inl (PyProof.noPylong_small (by omega)))
theorem cW:qQ X (binaryOp .Mod) (rI (fun _ j=>0<j) fun i j=>.int (i%j)):=gQ fun i j _ _ _ _ _ hc q=>by
 have h1:(0:Int)<j:=hc
 exact mod_int' (by omega) (by rw [Int.fmod_eq_emod_of_nonneg i (by omega)];exact q)
theorem FX:qQ X (binaryOp .Pow) (rI IL fun i j=>.int (i ^ j.toNat)):=gQ fun _ _ _ _ _ _ _ hc q=>pow_int_small hc.1 hc.2.1 hc.2.2 q
theorem IN {f:Value→Sem Value} {g:Int→Int}
  (rule:∀(i:Int) (t:Tok) (s:Shared) (Q:Value→Shared→Prop) (E:Value→Shared→Prop),Q (.int (g i) s.toks) {s with toks:=s.toks+1}→wpAny (model X.prog X.w) X.A (f (.int i t)) Q E s) :
  mZ X f (rU fun i=>.int (g i)):=by
 intro pins s σ H x v Q I rx h
 obtain ⟨i,rfl,q⟩:=h
 obtain ⟨t,rfl⟩:=rx
 exact rule i t s _ _ ⟨.int (g i),H,I.tok _,⟨_,rfl⟩,q⟩
theorem fW:mZ X (unaryOp .USub) (rU fun i=>.int (-i)):=IN fun _ _ _ _ _ q=>neg_int q
end
def uA:V→V→Bool
 |.non,.non=>true|.non,.int _=>true|.int _,.non=>true|.non,.bl _=>true|.bl _,.non=>true|.non,.str _=>true|.str _,.non=>true
 |.int _,.int _=>true|.bl _,.bl _=>true|.str _,.str _=>true|.byt _,.byt _=>true
 |.int _,.str _=>true|.str _,.int _=>true|.bl _,.str _=>true|.str _,.bl _=>true
 |_,_=>false
def IT:R2:=fun x y H Q=>uA x y=true∧Q (.bl (decide (x=y))) H
def IS:R2:=fun x y H Q=>uA x y=true∧Q (.bl (!decide (x=y))) H
theorem sW {i j:Int}:decide (V.int i=V.int j)=(i == j):=by
 rw [Bool.eq_iff_iff]
 simp
theorem tP {i j:Bool}:decide (V.bl i=V.bl j)=(i == j):=by
 rw [Bool.eq_iff_iff]
 simp
theorem sV {i j:Str}:decide (V.str i=V.str j)=(i == j):=by
 rw [Bool.eq_iff_iff]
 simp
theorem sX {i j:Array UInt8}:decide (V.byt i=V.byt j)=(i.toList == j.toList):=by
 rw [Bool.eq_iff_iff]
 cases i
 cases j
 simp
section
variable {X:Cx} {a b c:Expr} {ta tb tc:TE} {pos:Pos}
theorem qB {pins:List (Addr×Obj)} {σ:St} {H:Hp} {s:Shared} {Q:VK} {k k':Bool} (I:Inv X pins σ H s) (q:Q (.bl k) H) (e:k=k'):EP X pins σ Q (.bool k') s:=by
 subst e
 exact ⟨.bl k,H,I,rfl,q⟩
theorem kQ:qQ X (compareOp .Eq) IT:=by
 intro pins s σ H x y v u Q I rx ry h
 obtain ⟨hs,q⟩:=h
 cases x with
 |non =>
  cases rx
  cases y with
  |non=>cases ry;exact PySem.EqNone.eq_none_none (qB I q (by simp))
  |bl j=>cases ry;exact PySem.EqNone.eq_none_bool (qB I q (by simp))
  |int j=>obtain ⟨t',rfl⟩:=ry;exact PySem.EqNone.eq_none_int (qB I q (by simp))
  |str j=>obtain ⟨t',rfl⟩:=ry;exact PySem.EqNone.eq_none_str (qB I q (by simp))
  |_=>exact absurd (show false=true from hs) Bool.false_ne_true
 |bl i =>
  cases rx
  cases y with
  |non=>cases ry;exact PySem.EqNone.eq_bool_none (qB I q (by simp))
  |bl j=>cases ry;exact eq_bool (qB I q tP)
  |str j=>obtain ⟨t',rfl⟩:=ry;exact PySem.EqMixed.eq_bool_str (qB I q (by simp))
  |_=>exact absurd (show false=true from hs) Bool.false_ne_true
 |int i =>
  obtain ⟨t,rfl⟩:=rx
  cases y with
  |non=>cases ry;exact PySem.EqNone.eq_int_none (qB I q (by simp))
  |int j=>obtain ⟨t',rfl⟩:=ry;exact eq_int (qB I q sW)
  |str j=>obtain ⟨t',rfl⟩:=ry;exact PySem.EqMixed.eq_int_str (qB I q (by simp))
  |_=>exact absurd (show false=true from hs) Bool.false_ne_true
 |str i =>
  obtain ⟨t,rfl⟩:=rx
  cases y with
  |non=>cases ry;exact PySem.EqNone.eq_str_none (qB I q (by simp))
  |bl j=>cases ry;exact PySem.EqMixed.eq_str_bool (qB I q (by simp))
  |int j=>obtain ⟨t',rfl⟩:=ry;exact PySem.EqMixed.eq_str_int (qB I q (by simp))
  |str j=>obtain ⟨t',rfl⟩:=ry;exact eq_str (qB I q sV)
  |_=>exact absurd (show false=true from hs) Bool.false_ne_true
 |byt i =>
  obtain ⟨t,rfl⟩:=rx
  cases y with
  |byt j=>obtain ⟨t',rfl⟩:=ry;exact PySem.W.eq_bytes (qB I q sX)
  |_=>exact absurd (show false=true from hs) Bool.false_ne_true
 |_=>cases y<;>exact absurd (show false=true from hs) Bool.false_ne_true
theorem JM:qQ X (compareOp .NotEq) IS:=by
 intro pins s σ H x y v u Q I rx ry h
 obtain ⟨hs,q⟩:=h
 cases x with
 |non =>
  cases rx
  cases y with
  |non=>cases ry;exact PySem.EqNone.ne_none_none (qB I q (by simp))
  |bl j=>cases ry;exact PySem.EqNone.ne_none_bool (qB I q (by simp))
  |int j=>obtain ⟨t',rfl⟩:=ry;exact PySem.EqNone.ne_none_int (qB I q (by simp))
  |str j=>obtain ⟨t',rfl⟩:=ry;exact PySem.EqNone.ne_none_str (qB I q (by simp))
  |_=>exact absurd (show false=true from hs) Bool.false_ne_true
 |bl i =>
  cases rx
  cases y with
  |non=>cases ry;exact PySem.EqNone.ne_bool_none (qB I q (by simp))
  |bl j=>cases ry;exact ne_bool (qB I q (congrArg not tP))
  |str j=>obtain ⟨t',rfl⟩:=ry;exact PySem.EqMixed.ne_bool_str (qB I q (by simp))
  |_=>exact absurd (show false=true from hs) Bool.false_ne_true
 |int i =>
  obtain ⟨t,rfl⟩:=rx
  cases y with
  |non=>cases ry;exact PySem.EqNone.ne_int_none (qB I q (by simp))
  |int j=>obtain ⟨t',rfl⟩:=ry;exact ne_int (qB I q (congrArg not sW))
  |str j=>obtain ⟨t',rfl⟩:=ry;exact PySem.EqMixed.ne_int_str (qB I q (by simp))
  |_=>exact absurd (show false=true from hs) Bool.false_ne_true
 |str i =>
  obtain ⟨t,rfl⟩:=rx
  cases y with
  |non=>cases ry;exact PySem.EqNone.ne_str_none (qB I q (by simp))
  |bl j=>cases ry;exact PySem.EqMixed.ne_str_bool (qB I q (by simp))
  |int j=>obtain ⟨t',rfl⟩:=ry;exact PySem.EqMixed.ne_str_int (qB I q (by simp))
  |str j=>obtain ⟨t',rfl⟩:=ry;exact ne_str (qB I q (congrArg not sV))
  |_=>exact absurd (show false=true from hs) Bool.false_ne_true
 |byt i =>
  obtain ⟨t,rfl⟩:=rx
  cases y with
  |byt j=>obtain ⟨t',rfl⟩:=ry;exact PySem.W.ne_bytes (qB I q (congrArg not sX))
  |_=>exact absurd (show false=true from hs) Bool.false_ne_true
 |_=>cases y<;>exact absurd (show false=true from hs) Bool.false_ne_true
theorem QA:qQ X (compareOp .Lt) (ZC fun i j=>.bl (decide (i<j))):=mO fun _ _ _ _ _ _ _ q=>lt_int q
theorem Q7:qQ X (compareOp .Gt) (ZC fun i j=>.bl (decide (j<i))):=mO fun _ _ _ _ _ _ _ q=>gt_int q
theorem tY:qQ X (compareOp .GtE) (ZC fun i j=>.bl (decide (j≤i))):=mO fun _ _ _ _ _ _ _ q=>ge_int q
theorem GA:qQ X (compareOp .Is) (fun x y H Q=>y=.non∧Q (.bl (decide (x=.non))) H):=by
 intro pins s σ H x y v u Q I rx ry h
 obtain ⟨rfl,q⟩:=h
 cases ry
 refine is_none_gen (qB I q ?_)
 cases x<;>first
  | (cases rx;rfl)
  | (obtain ⟨t,rfl⟩:=rx;rfl)
theorem j3 (b:Expr) {op:CmpOp} (h:op≠.In:=by decide) (h2:op≠.NotIn:=by decide):behindInMarks op b=false:=by
 have e1:(op == CmpOp.In)=false:=by cases op<;>first|rfl|exact absurd rfl h
 have e2:(op == CmpOp.NotIn)=false:=by cases op<;>first|rfl|exact absurd rfl h2
 cases b<;>simp [behindInMarks,e1,e2]
theorem v9 {op:CmpOp} {r:R2} (ho:qQ X (compareOp op) r) (ha:PE X a ta) (hb:PE X b tb) (hm:behindInMarks op b=false):PE X (.Compare a [op] [b] pos) (gP r ta tb):=by
 intro pins s σ H Q I h
 exact wpAny_Compare1 (mQ ha hb I h fun v u s2 x y H2 I2 rx ry q=>ho pins s2 σ H2 x y v u Q I2 rx ry q) hm
def GQ (t:TE):TT:=fun σ H Q=>t σ H fun x H'=>∃k,x=.bl k∧Q k H'
theorem kD {op:CmpOp} {r:R2} (ho:qQ X (compareOp op) r) (ha:PE X a ta) (hb:PE X b tb) (hm:behindInMarks op b=false):PT X (.Compare a [op] [b] pos) (GQ (gP r ta tb)):=by
 intro pins s σ H Q I h
 refine wpAny_isTrue_Compare1 (jW (ha pins s σ H _ I h) fun v s1 ⟨x,H1,I1,r1,q1⟩=>jW (hb pins s1 σ H1 _ I1 q1) fun u s2 ⟨y,H2,I2,r2,q2⟩ =>
  jW (ho pins s2 σ H2 x y v u _ I2 r1 r2 q2) fun c s3 ⟨z,H3,I3,r3,k,e,q3⟩=>?_) hm
 subst e
 cases r3
 exact wpAny_truthy_bool ⟨H3,I3,q3⟩
theorem cX:(sizeLine:Nat)<2 ^ 63:=by rw [sizeLine_eq];decide
theorem J7 {x:V} {us:List Value} (r:Vals [x] us):∃u,us=[u]∧RelV x u:=by
 cases r with
 |cons r1 r2=>cases r2;exact ⟨_,rfl,r1⟩
theorem mC {x y:V} {us:List Value} (r:Vals [x,y] us):∃u w',us=[u,w']∧RelV x u∧RelV y w':=by
 cases r with
 |cons r1 r2 =>
  cases r2 with
  |cons r3 r4=>cases r4;exact ⟨_,_,rfl,r1,r3⟩
theorem DM (hc:X.calm=true):v7 X (.builtin "max") (fun xs H Q=>∃i j,xs=[.int i,.int j]∧Q (.int (if j>i then j else i)) H):=by
 intro pins s σ H xs us Q I r h
 obtain ⟨i,j,rfl,q⟩:=h
 obtain ⟨u,w',rfl,⟨t,rfl⟩,⟨t',rfl⟩⟩:=mC r
 refine max_two_ints (I.ok.hd hc) fun h' tk k=>⟨_,H,I.kept k,?_,q⟩
 by_cases hj:j>i
 ·rw [if_pos hj,if_pos hj];exact ⟨_,rfl⟩
 ·rw [if_neg hj,if_neg hj];exact ⟨_,rfl⟩
theorem iW (hc:X.calm=true):v7 X (.builtin "min") (fun xs H Q=>∃i j,xs=[.int i,.int j]∧Q (.int (if j<i then j else i)) H):=by
 intro pins s σ H xs us Q I r h
 obtain ⟨i,j,rfl,q⟩:=h
 obtain ⟨u,w',rfl,⟨t,rfl⟩,⟨t',rfl⟩⟩:=mC r
 refine min_two_ints (I.ok.hd hc) fun h' tk k=>⟨_,H,I.kept k,?_,q⟩
 by_cases hj:j<i
 ·rw [if_pos hj,if_pos hj];exact ⟨_,rfl⟩
 ·rw [if_neg hj,if_neg hj];exact ⟨_,rfl⟩
theorem QV:v7 X (.type "int") (fun xs H Q=>(∃i,xs=[.int i]∧Q (.int i) H)∨∃k,xs=[.bl k]∧Q (.int (if k then 1 else 0)) H):=by
 intro pins s σ H xs us Q I r h
 rcases h with ⟨i,rfl,q⟩|⟨k,rfl,q⟩
 ·obtain ⟨u,rfl,t,rfl⟩:=J7 r
  exact call_int_int ⟨.int i,H,I,⟨_,rfl⟩,q⟩
 ·obtain ⟨u,rfl,r1⟩:=J7 r
  cases r1
  exact call_int_bool ⟨.int (if k then 1 else 0),H,I.tok _,⟨_,rfl⟩,q⟩
end
end L2
namespace L2
open PySem PySem.Spec PyProof.Rows
structure ObjM (h:Heap) (x dx C:Addr) (mA:Str→Option Value):Prop where
 obj:h.get? x=some (PySem.W.instObj C dx)
 ns:h.Ns1 dx mA
 ne:dx≠x
theorem C7 {h:Heap} {dx:Addr} {mA:Str→Option Value} (n:h.Ns1 dx mA):∃od,h.get? dx=some od∧∀name,PySem.W.lookIn name od=some (mA name):=by
 obtain ⟨o,es,ep,ho,hd,hk,_,hm⟩:=n
 refine ⟨o,ho,fun name=>?_⟩
 have e:=hm name
 unfold nsFind findBy at e
 rw [← Array.find?_toList] at e
 unfold PySem.W.lookIn
 rw [hd]
 dsimp only
 split
 ·rename_i y q
  rw [q] at e
  exact congrArg some e
 ·rename_i q
  rw [q] at e
  have a:es.toList.any (·.refKey)=false:=by
   rw [List.any_eq_false]
   intro y hy
   obtain ⟨z,t,hkey⟩:=hk y (Array.mem_toList_iff.mp hy)
   simp [DictEntry.refKey,hkey]
  have a':¬es.toList.any (·.refKey)=true:=by rw [a];exact Bool.false_ne_true
  rw [if_neg a']
  exact congrArg some e
theorem ObjM.look {h:Heap} {x dx C:Addr} {mA:Str→Option Value} (I:ObjM h x dx C mA):∃od,PySem.W.InstAt h x (PySem.W.instObj C dx) C (some od)∧∀name,PySem.W.lookIn name od=some (mA name) :=
 let ⟨od,ho,hl⟩:=C7 I.ns
 ⟨od,⟨I.obj,rfl,rfl,ho⟩,hl⟩
section
variable {prog:Program} {w:World} {A:Around} {E:Value→Shared→Prop} {s:Shared} {K:PySem.W.Frag} {x dx C f:Addr} {mA:Str→Option Value} {name:Str} {v:Value}
theorem FE {expr:Bool} {Q:Value→Shared→Prop} (X:K.In s.heap) (I:ObjM s.heap x dx C mA) (hg:PySem.W.plainGet K C name=true) (hh:PySem.W.hasDictIn K C=true)
  (ha:PySem.W.findIn K (.ref C) name=some none) (hv:mA name=some v) (hv':PySem.W.handedIn v=true) (h:Q v {s with toks:=s.toks+1}) :
  wpAny (model prog w) A (getAttr (.ref x) name expr) Q E s:=by
 obtain ⟨od,J,hl⟩:=I.look
 exact PySem.W.get_value X J (PySem.W.plainGet_of hg).1 (PySem.W.findObj_own hh ha rfl (by rw [hl,hv])) hv' h
theorem EJ {pl:Sem Bool} {Q:Value×List Value→Shared→Prop} (X:K.In s.heap) (I:ObjM s.heap x dx C mA) (hg:PySem.W.plainGet K C name=true)
  (hf:PySem.W.findIn K (.ref C) name=some (some (.ref f))) (ht:PySem.W.isFn K (.ref f)=true) (hv:mA name=none) (h:Q (.ref f,[.ref x]) s) :
  wpAny (model prog w) A (getMethod (.ref x) name pl) Q E s:=by
 obtain ⟨od,J,hl⟩:=I.look
 exact PySem.W.method_fn X J (PySem.W.plainGet_of hg).1 (PySem.W.plainGet_of hg).2 hf (beq_iff_eq.mp ht) (by show (PySem.W.lookIn name od).map (·.isSome)=some false;rw [hl,hv];rfl) h
theorem EW {ns:List Str} {Q:Unit→Shared→Prop} (X:K.In s.heap) (I:ObjM s.heap x dx C mA)
  (hs:PySem.W.findIn K (.ref C) "__setattr__"=some (some (.builtin "object.__setattr__"))) (hp:PySem.W.plainOver K C=true) (ht:PySem.W.takerIn K C name=some none) (hh:PySem.W.hasDictIn K C=true)
  (hw:PySem.Within mA ns) (hsz:ns.length≤sizeLine)
  (h:∀h',ObjM h' x dx C (fun y=>if y=name then some v else mA y)→Heap.SameBut dx s.heap h'→Q () {s with heap:=h',toks:=s.toks+2}) :
  wpAny (model prog w) A (setAttr (.ref x) name v) Q E s:=by
 obtain ⟨od,J,hl⟩:=I.look
 refine PySem.W.set_plain X J hs (PySem.W.osa_open (s:={s with toks:=s.toks+1}) (r:=none) X J hp ht fun b=>?_)
 obtain ⟨cd,hc,hd'⟩:=PySem.W.any_some hh
 have hx:s.heap.get? x=some ⟨.ref C,some dx,.plain,#[]⟩:=I.obj
 refine wpAny_bind (wpAny_pure (wpAny_bind (wpAny_bind (wpAny_loadPart hx (wpAny_bind (PySem.W.Looks.here (s:={s with toks:=s.toks+1}) (PySem.W.looks_clsIn X hc) ?_))))))
 rw [hd']
 refine wpAny_pure (a:=some dx) (wpAny_bind (wpAny_pure (wpAny_bind ?_)))
 refine wpAny_nsSet1 (s:={s with toks:=s.toks+1}) I.ns fun h' hn2 hs2=>?_
 obtain ⟨oD,esD,epD,hoD,hdD,hcD⟩:=hn2.count (PySem.Within.cons name v hw)
 refine wpAny_bind (wpAny_lookBehind hoD (by rw [hdD];exact pastItsLine_dict (Nat.le_trans hcD (by rw [List.length_cons];omega))) ?_)
 exact wpAny_pure (h _ ⟨(hs2.2 _ (Ne.symm I.ne)).trans I.obj,hn2,I.ne⟩ hs2)
theorem ED {R:Result→Shared→Prop} {vs:List Value} {kw:List (Str×Value)} (X:K.In s.heap) (hm:PySem.W.makesIn K C=true)
  (hi:PySem.W.findIn K (.ref C) "__init__"=some (some (.ref f))) (hf:PySem.W.typeIn K (.ref f)=some (.type "function"))
  (h:codeAny (model prog w) (A.under (.builtin "type.__call__" ⟨.ref C::vs,kw⟩)) (.call (.ref f) ⟨.ref (s.heap.objs.size+1)::vs,kw⟩) (PySem.W.InitBack (s.heap.objs.size+1) R)
   {s with heap:=(s.heap.push PySem.W.emptyDict).push (PySem.W.instObj C s.heap.objs.size)}) :
  codeAny (model prog w) A (.call (.ref C) ⟨vs,kw⟩) R s:=by
 obtain ⟨hh,g,d,t,os⟩:=s
 exact PySem.W.make_core (PySem.W.makes_of X hm) (PySem.W.looks_findIn X hi) (fun self=>PySem.W.bind_fn X self hf) (.inl rfl) h
end
def j0 (f:Str) (v:V):List (Str×V)→List (Str×V)
 |[]=>[(f,v)]
 | (g,x)::r=>if g=f then (g,v)::r else (g,x)::j0 f v r
theorem vC (f g:Str) (v:V):∀fs:List (Str×V),(j0 f v fs).lookup g=if g=f then some v else fs.lookup g
 |[]=>by
  show List.lookup g [(f,v)]=_
  by_cases h:g=f
  ·have hb:(g == f)=true:=beq_iff_eq.mpr h
   simp only [List.lookup,hb,if_pos h]
  ·have hb:(g == f)=false:=beq_eq_false_iff_ne.mpr h
   simp only [List.lookup,hb,if_neg h]
 | (k,x)::r=>by
  have ih:=vC f g v r
  rw [show j0 f v ((k,x)::r)=(if k=f then (k,v)::r else (k,x)::j0 f v r) from rfl]
  by_cases hk:k=f
  ·rw [if_pos hk]
   by_cases h:g=k
   ·have hb:(g == k)=true:=beq_iff_eq.mpr h
    simp only [List.lookup,hb,if_pos (h.trans hk)]
   ·have hb:(g == k)=false:=beq_eq_false_iff_ne.mpr h
    simp only [List.lookup,hb,if_neg (fun e:g=f=>h (e.trans hk.symm))]
  ·rw [if_neg hk]
   by_cases h:g=k
   ·have hb:(g == k)=true:=beq_iff_eq.mpr h
    simp only [List.lookup,hb,if_neg (fun e:g=f=>hk (h.symm.trans e))]
   ·have hb:(g == k)=false:=beq_eq_false_iff_ne.mpr h
    simp only [List.lookup,hb]
    exact ih
theorem iU (f:Str) (v:V):∀fs:List (Str×V),f∈(j0 f v fs).map (·.1)∧∀g,g∈fs.map (·.1)→g∈(j0 f v fs).map (·.1)
 |[]=>⟨by simp [j0],fun g h=>by simp at h⟩
 | (k,x)::r=>by
  obtain ⟨i1,i2⟩:=iU f v r
  rw [show j0 f v ((k,x)::r)=(if k=f then (k,v)::r else (k,x)::j0 f v r) from rfl]
  by_cases hk:k=f
  ·rw [if_pos hk]
   subst hk
   exact ⟨by simp,fun g h=>by simpa using h⟩
  ·rw [if_neg hk]
   refine ⟨?_,fun g h=>?_⟩
   ·rw [List.map_cons]
    exact List.mem_cons_of_mem _ i1
   ·rw [List.map_cons] at h ⊢
    rcases List.mem_cons.mp h with e|e
    ·exact List.mem_cons.mpr (.inl e)
    ·exact List.mem_cons_of_mem _ (i2 g e)
theorem zJ (f:Str) (v:V):∀fs:List (Str×V),(j0 f v fs).length≤fs.length+1
 |[]=>by simp [j0]
 | (k,x)::r=>by
  have ih:=zJ f v r
  rw [show j0 f v ((k,x)::r)=(if k=f then (k,v)::r else (k,x)::j0 f v r) from rfl]
  by_cases hk:k=f
  ·rw [if_pos hk,List.length_cons,List.length_cons];omega
  ·rw [if_neg hk,List.length_cons,List.length_cons];omega
theorem RelO.some_of {v:V} {o:Option Value} (r:RelO (some v) o):∃u,o=some u∧RelV v u:=by
 cases o with
 |none=>exact (show False from r).elim
 |some u=>exact ⟨u,rfl,r⟩
theorem RelO.none_of {o:Option Value} (r:RelO none o):o=none:=by
 cases o with
 |none=>rfl
 |some u=>exact (show False from r).elim
theorem DF {v:V} {u:Value} (r:RelV v u):PySem.W.handedIn u=true:=by
 cases v with
 |non=>cases (show u=Value.none from r);rfl
 |bl b=>cases (show u=Value.bool b from r);rfl
 |int i=>obtain ⟨t,e⟩:=(show ∃t,u=Value.int i t from r);cases e;rfl
 |str x=>obtain ⟨t,e⟩:=(show ∃t,u=Value.str x t from r);cases e;rfl
 |byt b=>obtain ⟨t,e⟩:=(show ∃t,u=Value.bytes b t from r);cases e;rfl
 |flt b=>obtain ⟨t,e⟩:=(show ∃t,u=Value.float b t from r);cases e;rfl
 |ref a=>cases (show u=Value.ref a from r);rfl
 |ty n=>cases (show u=Value.type n from r);rfl
section
variable {P:Program} {w:World} {H H':Hp} {h h':Heap} {a C dx:Addr} {fs fs':List (Str×V)}
theorem fS (hok:HOk P w H h) (e:H a=some (.ins C dx fs)):∃mA,ObjM h a dx C mA∧(∀f,RelO (fs.lookup f) (mA f))∧PySem.Within mA (fs.map (·.1))∧fs.length≤1000∧H dx=some (.own a):=by
 obtain ⟨d,z,ne,ob,mA,n,r,q⟩:=(show ObjOk P w H h a (.ins C dx fs) from hok a _ e)
 exact ⟨mA,⟨ob,n,ne⟩,r,q,z,d⟩
end
structure Cls (K:PySem.W.Frag) (C:Addr):Prop where
 pg:PySem.W.plainGet K C Str.empty=true
 hd:PySem.W.hasDictIn K C=true
 po:PySem.W.plainOver K C=true
 sa:PySem.W.findIn K (.ref C) "__setattr__"=some (some (.builtin "object.__setattr__"))
theorem Cls.get {K:PySem.W.Frag} {C:Addr} (c:Cls K C) (f:Str):PySem.W.plainGet K C f=true:=c.pg
def NoAttr (K:PySem.W.Frag) (C:Addr) (f:Str):Prop:=PySem.W.findIn K (.ref C) f=some none
theorem NoAttr.taker {K:PySem.W.Frag} {C:Addr} {f:Str} (n:NoAttr K C f):PySem.W.takerIn K C f=some none:=by
 unfold PySem.W.takerIn
 rw [show PySem.W.findIn K (.ref C) f=some none from n]
 rfl
structure Meth (K:PySem.W.Frag) (C:Addr) (m:Str) (f:Addr):Prop where
 at_:PySem.W.findIn K (.ref C) m=some (some (.ref f))
 fn:PySem.W.isFn K (.ref f)=true
 kp:PySem.W.keepIn K (.ref f)=true
section
variable {X:Cx} {pins:List (Addr×Obj)} {σ:St} {H:Hp} {s:Shared} {a C dx:Addr} {fs:List (Str×V)} {f:Str} {v:V} {A:Around} {E:Value→Shared→Prop}
theorem CJ {b:Bool} {Q:Value→Shared→Prop} (I:Inv X pins σ H s) (e:H a=some (.ins C dx fs)) (c:Cls X.K C) (n:NoAttr X.K C f) (l:fs.lookup f=some v)
  (h:∀u s',Inv X pins σ H s'→RelV v u→Q u s'):wpAny (model X.prog X.w) A (getAttr (.ref a) f b) Q E s:=by
 obtain ⟨mA,O,r,_,_,_⟩:=fS I.hok e
 obtain ⟨u,hu,ru⟩:=RelO.some_of (v:=v) (o:=mA f) (by rw [← l];exact r f)
 exact FE I.kIn O (c.get f) c.hd n hu (DF ru) (h u _ (I.tok _) ru)
theorem fF {m:Str} {g:Addr} {pl:Sem Bool} {Q:Value×List Value→Shared→Prop} (I:Inv X pins σ H s) (e:H a=some (.ins C dx fs)) (c:Cls X.K C) (k:Meth X.K C m g) (l:fs.lookup m=none)
  (h:Q (.ref g,[.ref a]) s):wpAny (model X.prog X.w) A (getMethod (.ref a) m pl) Q E s:=by
 obtain ⟨mA,O,r,_,_,_⟩:=fS I.hok e
 have hn:mA m=none:=RelO.none_of (by rw [← l];exact r m)
 exact EJ I.kIn O (c.get m) k.at_ k.fn hn h
theorem B8 {y:V} {u:Value} {Q:Unit→Shared→Prop} (I:Inv X pins σ H s) (e:H a=some (.ins C dx fs)) (c:Cls X.K C) (n:NoAttr X.K C f) (hl:fs.length<1000) (ry:RelV y u)
  (h:∀s',Inv X pins σ (upd H a (.ins C dx (j0 f y fs))) s'→Q () s'):wpAny (model X.prog X.w) A (setAttr (.ref a) f u) Q E s:=by
 obtain ⟨mA,O,r,wi,_,ho⟩:=fS I.hok e
 have hz:(fs.map (·.1)).length≤sizeLine:=by rw [List.length_map,sizeLine_eq];omega
 refine EW I.kIn O c.sa c.po n.taker c.hd wi hz fun h' O' sb=>h _ ?_
 have hd:∃o,h'.get? dx=some o:=let ⟨o,_,_,e',_⟩:=O'.ns;⟨o,e'⟩
 refine I.write (x:=a) (e:=dx) (by rw [e];exact True.intro) (.inr ho) (fun b q hb z=>(sb.2 b hb).trans z) hd ?_
 refine ⟨by rw [kC O.ne];exact ho,?_,O.ne,O'.obj,_,O'.ns,fun g=>?_,fun g hg=>?_⟩
 ·have:=zJ f y fs;omega
 ·show RelO ((j0 f y fs).lookup g) (if g=f then some u else mA g)
  rw [vC]
  by_cases q:g=f
  ·rw [if_pos q,if_pos q];exact ry
  ·rw [if_neg q,if_neg q];exact r g
 ·by_cases q:g=f
  ·rw [q];exact (iU f y fs).1
  ·refine (iU f y fs).2 g (wi g fun z=>hg ?_)
   show (if g=f then some u else mA g)=none
   rw [if_neg q];exact z
theorem Inv.made (I:Inv X pins σ H s):Inv X pins σ (upd (upd H s.heap.objs.size (.own (s.heap.objs.size+1))) (s.heap.objs.size+1) (.ins C s.heap.objs.size []))
  {s with heap:=(s.heap.push PySem.W.emptyDict).push (PySem.W.instObj C s.heap.objs.size)}:=by
 have e1:(s.heap.push PySem.W.emptyDict).get? s.heap.objs.size=some PySem.W.emptyDict:=Heap.get?_push_size s.heap rfl
 have e2:((s.heap.push PySem.W.emptyDict).push (PySem.W.instObj C s.heap.objs.size)).get? (s.heap.objs.size+1)=some (PySem.W.instObj C s.heap.objs.size):=by
  have:=Heap.get?_push_size (s.heap.push PySem.W.emptyDict) (o:=PySem.W.instObj C s.heap.objs.size) rfl
  rwa [Heap.size_push] at this
 have e3:(s.heap.push PySem.W.emptyDict).Ns s.heap.objs.size (fun _=>none):=⟨PySem.W.emptyDict,#[],_,e1,rfl,(fun e he=>absurd he (by simp)),fun _=>rfl⟩
 have I1:=I.laid (a:=s.heap.objs.size) (o:=.own (s.heap.objs.size+1)) (h':=s.heap.push PySem.W.emptyDict) (t':=s.toks) (fun b u q=>Heap.get?_push_of_some _ q) (Nat.le_refl _) ⟨_,e1⟩
 refine I1.laid (a:=s.heap.objs.size+1) (o:=.ins C s.heap.objs.size []) (t':=s.toks) (fun b u q=>Heap.get?_push_of_some _ q) (Nat.le_of_eq (Heap.size_push _ _)) ?_
 have ne:s.heap.objs.size≠s.heap.objs.size+1:=Nat.ne_of_lt (Nat.lt_succ_self _)
 refine ⟨by rw [kC ne,jE],Nat.zero_le _,ne,e2,fun _=>none,(Heap.Ns1.of_empty e3).at fun o q=>Heap.get?_push_of_some _ q,fun _=>True.intro,fun y hy=>absurd rfl hy⟩
theorem FL {prog:Program} {w:World} {env:Env} {e:Expr} {f:Str} {pos:Pos} {s:Shared} {Q:Value→Shared→Prop} (hb:attributeBase e f env (eval e env)=eval e env)
  (h:wpAny (model prog w) A (eval e env) (fun o s₁=>wpAny (model prog w) A (getAttr o f true) Q E s₁) E s):wpAny (model prog w) A (eval (.Attribute e f pos) env) Q E s :=
 Attribute_any_ h (by rw [arm_eval_Attribute,hb])
end
def t7 (K:PySem.W.Frag) (ta:TE) (f:Str):TE:=fun σ H Q=>ta σ H fun x H1=>∃a C dx fs v,x=.ref a∧H1 a=some (.ins C dx fs)∧Cls K C∧NoAttr K C f∧fs.lookup f=some v∧Q v H1
def HZ (K:PySem.W.Frag) (ta tv:TE) (f:Str):TS:=fun D σ H=>tv σ H fun y H1=>ta σ H1 fun x H2=>∃a C dx fs,x=.ref a∧H2 a=some (.ins C dx fs)∧Cls K C∧NoAttr K C f∧fs.length<1000∧
 D.nx σ (upd H2 a (.ins C dx (j0 f y fs)))
section
variable {X:Cx} {o e value:Expr} {f:Str} {pos pos' tpos:Pos} {ta tv:TE}
theorem jR (he:PE X e ta) (hb:attributeBase e f X.env (eval e X.env)=eval e X.env):PE X (.Attribute e f pos) (t7 X.K ta f):=by
 intro pins s σ H Q I h
 refine FL hb (jW (he pins s σ H _ I h) fun u s1 ⟨x,H1,I1,rx,a,C,dx,fs,v,ex,ea,c,n,l,q⟩=>?_)
 subst ex
 obtain rfl:u=Value.ref a:=rx
 exact CJ I1 ea c n l fun u' s2 I2 ru=>⟨v,H1,I2,ru,q⟩
theorem v0 (ha:PE X o ta) (hv:PE X value tv) (hs:swapsWith value (some (.Attribute o f pos')) pos.line X.env=pure false):PS X (.Assign [.Attribute o f pos'] value pos) (HZ X.K ta tv f):=by
 intro pins s σ H D I h
 refine plainObj_wpAny_Assign_Attribute (jW (hv pins s σ H _ I h) fun u s1 ⟨y,H1,I1,ry,q⟩=>jW (ha pins s1 σ H1 _ I1 q) fun ov s2 ⟨x,H2,I2,rx,a,C,dx,fs,ex,ea,c,n,l,q2⟩=>?_) hs
 subst ex
 obtain rfl:ov=Value.ref a:=rx
 exact B8 I2 ea c n l ry fun s3 I3=>⟨σ,_,I3,q2⟩
end
section
variable {X:Cx} {pins:List (Addr×Obj)} {σ:St} {H:Hp} {s:Shared} {A:Around} {E:Value→Shared→Prop} {Q:Value→Shared→Prop} {c:Value} {b:Bool}
inductive TyOf (K:PySem.W.Frag) (H:Hp):V→Value→Prop where
 |non:TyOf K H .non (.type "NoneType")
 |bl (x:Bool):TyOf K H (.bl x) (.type "bool")
 |int (i:Int):TyOf K H (.int i) (.type "int")
 |str (x:Str):TyOf K H (.str x) (.type "str")
 |flt (x:UInt64):TyOf K H (.flt x) (.type "float")
 |lst {a:Addr} {xs:List V} (e:H a=some (.lst xs)):TyOf K H (.ref a) (.type "list")
 |frz {a:Addr} {o:Obj} {xs:List V} (e:H a=some (.frz o (.lst xs))):TyOf K H (.ref a) (.type "list")
 |tup {a:Addr} {xs:List V} (e:H a=some (.tup xs)):TyOf K H (.ref a) (.type "tuple")
 |dK {a:Addr} {kvs:List (j6×V)} (e:H a=some (.dK kvs)):TyOf K H (.ref a) (.type "dict")
 |dT {a:Addr} {kvs:List (List j6×V)} (e:H a=some (.dT kvs)):TyOf K H (.ref a) (.type "dict")
 |ins {a C dx:Addr} {fs:List (Str×V)} (e:H a=some (.ins C dx fs)) (cl:Cls K C) (ha:PySem.W.findIn K (.ref C) "__class__"=some (some (.builtin "object.__class__")))
   (hn:PySem.W.specialIn K (.builtin "object.__class__") "__get__"=some (some (.builtin "getset_descriptor.__get__"))) (htk:PySem.W.takesIn K (.builtin "object.__class__")=some true)
   (hm:PySem.W.mroIn K C (.type "object")=some true):TyOf K H (.ref a) (.ref C)
theorem DB {x:V} {u t:Value} (I:Inv X pins σ H s) (rx:RelV x u) (ty:TyOf X.K H x t) (e:PySem.W.kitOne X.K t c=some b) (h:∀tk,Q (.bool b) {s with toks:=tk}) :
  wpAny (model X.prog X.w) A (call (.builtin "isinstance") [u,c]) Q E s:=by
 cases ty with
 |non=>cases (show u=Value.none from rx);exact PySem.W.kia_one PySem.W.kitx_none I.kIn True.intro e (fun z=>nomatch z) h
 |bl y=>cases (show u=Value.bool y from rx);exact PySem.W.kia_one PySem.W.kitx_bool I.kIn True.intro e (fun z=>nomatch z) h
 |int i=>obtain ⟨t,q⟩:=(show ∃t,u=Value.int i t from rx);cases q;exact PySem.W.kia_one PySem.W.kitx_int I.kIn True.intro e (fun z=>nomatch z) h
 |str y=>obtain ⟨t,q⟩:=(show ∃t,u=Value.str y t from rx);cases q;exact PySem.W.kia_one PySem.W.kitx_str I.kIn True.intro e (fun z=>nomatch z) h
 |flt y=>obtain ⟨t,q⟩:=(show ∃t,u=Value.float y t from rx);cases q;exact PySem.W.kia_one PySem.W.kitx_float I.kIn True.intro e (fun z=>nomatch z) h
 |@lst a xs ea =>
  cases (show u=Value.ref a from rx)
  obtain ⟨_,_,n,_,h1⟩:=(show ObjOk X.prog X.w H s.heap a (.lst xs) from I.hok a _ ea)
  exact PySem.W.kia_one PySem.W.kitx_list I.kIn ⟨_,h1,rfl⟩ e (fun z=>nomatch z) h
 |@frz a ob xs ea =>
  cases (show u=Value.ref a from rx)
  obtain ⟨_,_,_,n,_,h1⟩:=(show ObjOk X.prog X.w H s.heap a (.frz ob (.lst xs)) from I.hok a _ ea)
  exact PySem.W.kia_one PySem.W.kitx_list I.kIn ⟨_,h1,rfl⟩ e (fun z=>nomatch z) h
 |@tup a xs ea =>
  cases (show u=Value.ref a from rx)
  obtain ⟨_,_,_,p⟩:=(show ObjOk X.prog X.w H s.heap a (.tup xs) from I.hok a _ ea)
  obtain ⟨o,h1,h2,_⟩:=p
  exact PySem.W.kia_one PySem.W.kitx_tuple I.kIn ⟨o,h1,h2⟩ e (fun z=>nomatch z) h
 |@dK a kvs ea =>
  cases (show u=Value.ref a from rx)
  obtain ⟨_,_,vs,_,p⟩:=(show ObjOk X.prog X.w H s.heap a (.dK kvs) from I.hok a _ ea)
  obtain ⟨o,es,ep,h1,h2,_⟩:=p
  exact PySem.W.kia_one PySem.W.kitx_dict I.kIn ⟨o,h1,h2.1⟩ e (fun z=>nomatch z) h
 |@dT a kvs ea =>
  cases (show u=Value.ref a from rx)
  obtain ⟨_,_,xs,_,o,es,ep,h1,h2,_⟩:=(show ObjOk X.prog X.w H s.heap a (.dT kvs) from I.hok a _ ea)
  exact PySem.W.kia_one PySem.W.kitx_dict I.kIn ⟨o,h1,h2.1⟩ e (fun z=>nomatch z) h
 |@ins a C dx fs ea cl ha hn htk hm =>
  cases (show u=Value.ref a from rx)
  obtain ⟨mA,O,_⟩:=fS I.hok ea
  obtain ⟨od,J,_⟩:=O.look
  exact PySem.W.kia_one (PySem.W.kitx_own (cl.get _) cl.hd ha hn htk hm) I.kIn J e (fun z=>nomatch z) h
end
end L2
namespace L2
open PySem PySem.Spec PyProof.Rows
structure Room (k:Nat) (A:Around):Prop where
 hd:A.handled=none
 dp:A.depth+3*k+5<recursionLimit
 un:A.units+16*k+200<cLine
theorem Room.mono {j k:Nat} {A:Around} (r:Room k A) (h:j≤k):Room j A:=⟨r.hd,by have:=r.dp;omega,by have:=r.un;omega⟩
theorem Room.deeper {k:Nat} {A:Around} (r:Room (k+1) A) (env:Env):Room k (A.deeper env) :=
 ⟨r.hd,by have:=r.dp;show A.depth+1+3*k+5<_;omega,by have:=r.un;show A.units+3+16*k+200<_;omega⟩
theorem CH {A:Around} {C:Addr} {us:List Value} {kw:List (Str×Value)}:(A.under (.builtin "type.__call__" ⟨.ref C::us,kw⟩)).depth=A.depth+1:=by
 first|rfl|simp [Around.under,Code.weight,Code.isCreation,Code.isGuard,Code.isCaller,Code.frames,Code.isFrame,guardIds]
theorem CG {A:Around} {C:Addr} {us:List Value} {kw:List (Str×Value)}:(A.under (.builtin "type.__call__" ⟨.ref C::us,kw⟩)).units=A.units+1:=by
 first|rfl|simp [Around.under,Code.cUnits,Code.frames,Code.isFrame]
theorem Room.make {k:Nat} {A:Around} (r:Room (k+1) A) (C:Addr) (us:List Value) (kw:List (Str×Value)):Room k (A.under (.builtin "type.__call__" ⟨.ref C::us,kw⟩)) :=
 ⟨r.hd,by have:=r.dp;rw [CH];omega,by have:=r.un;rw [CG];omega⟩
theorem Room.depth {k:Nat} {A:Around} (r:Room k A):A.depth<recursionLimit:=by have:=r.dp;omega
theorem Room.units {k:Nat} {A:Around} (r:Room k A):A.units+64<cLine:=by have:=r.un;omega
theorem Room.units0 {k:Nat} {A:Around} (r:Room k A):A.units<cLine:=by have:=r.un;omega
def gI:TA:=fun _ H Q=>Q [] H
def GW (ta:TE) (tr:TA):TA:=fun σ H Q=>ta σ H fun x H1=>tr σ H1 fun xs H2=>Q (x::xs) H2
section
variable {X:Cx} {e:Expr} {es:List Expr} {te:TE} {t:TA} {pos:Pos}
theorem jB:PA X [] gI:=fun _ _ _ _ H Q I h=>Calls.spliced_nil ⟨[],H,I,.nil,h⟩
theorem jA (ha:PE X e te) (hr:PA X es t) (hs:starEach (e::es) X.env=(false,eval e X.env)::starEach es X.env:=by rfl):PA X (e::es) (GW te t):=by
 intro pos pins s σ H Q I h
 rw [hs]
 show wpAny _ _ (spliced ((false,eval e X.env)::backTo pos (starEach es X.env))) _ _ s
 refine Calls.spliced_cons (jW (ha pins s σ H _ I h) fun u s1 ⟨x,H1,I1,r1,q1⟩=>?_)
 exact jW (hr pos pins s1 σ H1 _ I1 q1) fun us s2 ⟨xs,H2,I2,r2,q2⟩=>⟨x::xs,H2,I2,.cons r1 r2,q2⟩
def HP (t:TA):TE:=fun σ H Q=>t σ H fun xs H1=>xs.length≤sizeLine∧∀p,H1 p=none→Q (.ref p) (upd H1 p (.tup xs))
def HU (t:TA):TE:=fun σ H Q=>t σ H fun xs H1=>xs.length≤sizeLine∧∀p,H1 p=none→Q (.ref p) (upd H1 p (.lst xs))
theorem kL {x1} (h:PA X es t):PE X (.Tuple es x1 pos) (HP t):=by
 intro pins s σ H Q I hq
 refine wpAny_Tuple_spliced (jW (h pos pins s σ H _ I hq) fun us s1 ⟨xs,H1,I1,r,z,q⟩=>⟨by rw [← r.length];exact z,?_⟩)
 have hf:H1 s1.heap.objs.size=none:=I1.hok.fresh (Nat.le_refl _)
 refine ⟨.ref s1.heap.objs.size,upd H1 s1.heap.objs.size (.tup xs),I1.laid (t':=s1.toks) (fun b u e=>Heap.get?_push_of_some _ e) (Nat.le_refl _) ?_,rfl,q _ hf⟩
 exact ⟨z,us,r,⟨_,Heap.get?_push_size _ rfl,rfl,_,rfl⟩⟩
theorem kN (h:PA X es t):PE X (.List es pos) (HU t):=by
 intro pins s σ H Q I hq
 refine wpAny_List_spliced (jW (h pos pins s σ H _ I hq) fun us s1 ⟨xs,H1,I1,r,z,q⟩=>⟨by rw [← r.length];exact z,?_⟩)
 have hf:H1 s1.heap.objs.size=none:=I1.hok.fresh (Nat.le_refl _)
 refine ⟨.ref s1.heap.objs.size,upd H1 s1.heap.objs.size (.lst xs),I1.laid (t':=s1.toks) (fun b u e=>Heap.get?_push_of_some _ e) (Nat.le_refl _) ?_,rfl,q _ hf⟩
 exact ⟨z,us,0,r,Heap.get?_push_size _ rfl⟩
end
abbrev Sp:=List V→Hp→VK→XK→Prop
abbrev yF:=List Env→Hp→Shared→XK→Value→Shared→Prop
structure Env0 (P:Program) (w:World) (K:PySem.W.Frag) (mg:Str→Option Value) (base:Heap) (A:Around) (outer:List Env) (s:Shared) (H:Hp):Prop where
 frames:A.frames=some outer
 mod:Mod K mg base
 bs:∀b o,base.get? b=some o→s.heap.get? b=some o∧H b=none
 bsz:base.objs.size≤s.heap.objs.size
 funs:s.heap.FunFrames base outer
 frf:∀b∈kS outer,H b=none
 hok:HOk P w H s.heap
 bare:AllBare s.gens
def CE (outer:List Env) (P:Program) (w:World) (H:Hp) (s:Shared) (Q:VK) (u:Value) (s':Shared):Prop :=
 ∃v H',s'.os=s.os∧AllBare s'.gens∧Un (kS outer) [] H H' s.heap s'.heap∧HOk P w H' s'.heap∧RelV v u∧Q v H'
def CR (CX:yF) (outer:List Env) (P:Program) (w:World) (H:Hp) (s:Shared) (Q:VK) (E:XK) (r:Result) (s':Shared):Prop :=
 match r with
 |.ok (.ret u)=>CE outer P w H s Q u s'
 |.ok _=>False
 |.error e=>CX outer H s E e s'
structure FnOk (P:Program) (w:World) (K:PySem.W.Frag) (mg:Str→Option Value) (base:Heap) (CX:yF) (k:Nat) (f:Addr) (fd:FuncData) (ps:List Str) (sp:Sp):Prop where
 len:∀vs H Q E,sp vs H Q E→vs.length=ps.length
 run:∀(A:Around) (outer:List Env) (s:Shared) (H:Hp) (args:Args) (us:List Value) (vs:List V) (Q:VK) (E:XK),Room k A→Env0 P w K mg base A outer s H→BindsTo s fd args (ps.zip us)→Vals vs us→sp vs H Q E→
  codeAny (model P w) A (.call (.ref f) args) (CR CX outer P w H s Q E) s
theorem FnOk.imp {P:Program} {w:World} {K:PySem.W.Frag} {mg:Str→Option Value} {base:Heap} {CX:yF} {k:Nat} {f:Addr} {fd:FuncData} {ps:List Str} {sp sp':Sp} (F:FnOk P w K mg base CX k f fd ps sp)
  (h:∀vs H Q E,sp' vs H Q E→sp vs H Q E):FnOk P w K mg base CX k f fd ps sp' :=
 ⟨fun vs H Q E q=>F.len vs H Q E (h _ _ _ _ q),fun A outer s H args us vs Q E hr he hb hv hs=>F.run A outer s H args us vs Q E hr he hb hv (h _ _ _ _ hs)⟩
theorem Env0.make {P:Program} {w:World} {K:PySem.W.Frag} {mg:Str→Option Value} {base:Heap} {A:Around} {outer:List Env} {s:Shared} {H:Hp} (e:Env0 P w K mg base A outer s H) (C:Addr) (us:List Value) (kw:List (Str×Value)) :
  Env0 P w K mg base (A.under (.builtin "type.__call__" ⟨.ref C::us,kw⟩)) outer s H:=⟨by first|exact e.frames|(simpa [Around.under,Code.envs,Code.isFrame,pushEnvs] using e.frames),e.mod,e.bs,e.bsz,e.funs,e.frf,e.hok,e.bare⟩
section
variable {X:Cx} {pins:List (Addr×Obj)} {σ:St} {H:Hp} {s s':Shared}
theorem Inv.env0 (I:Inv X pins σ H s):Env0 X.prog X.w X.K X.mg X.base X.A X.stack s H :=
 ⟨I.ok.frames,I.ok.mod,I.bs,Nat.le_trans I.ok.bsz I.sz,I.stack,I.stkFree,I.hok,I.bare⟩
theorem Inv.after {Q:VK} {u:Value} (I:Inv X pins σ H s) (h:CE X.stack X.prog X.w H s Q u s'):EP X pins σ Q u s':=by
 obtain ⟨v,H',os,bare,un,hok,r,q⟩:=h
 obtain ⟨hh,g,d,t,os'⟩:=s'
 obtain rfl:os'=s.os:=os
 exact ⟨v,H',I.call (h':=hh) (g':=g) (d':=d) (t':=t) (ch:=[]) un hok bare (fun b z=>absurd z (by simp)),r,q⟩
end
def mD (sp:Sp) (dvs:List V) (E:XK) (t:TA):TE:=fun σ H Q=>t σ H fun vs H1=>sp (vs++dvs) H1 Q E
def gB (C:Addr) (m:Str) (sp:Sp) (dvs:List V) (E:XK) (ta:TE) (t:TA):TE:=fun σ H Q=>ta σ H fun x H1=>∃a dx fs,x=.ref a∧H1 a=some (.ins C dx fs)∧fs.lookup m=none∧
 t σ H1 fun vs H2=>sp (x::(vs++dvs)) H2 Q E
def tT (C:Addr) (sp:Sp) (dvs:List V) (E:XK) (t:TA):TE:=fun σ H Q=>t σ H fun vs H1=>∀x dx,H1 x=none→H1 dx=none→dx≠x→
 sp (.ref x::(vs++dvs)) (upd (upd H1 dx (.own x)) x (.ins C dx [])) (fun v H2=>v=.non∧Q (.ref x) H2) E
def Binds (K:PySem.W.Frag) (fd:FuncData) (ps:List Str) (ds:List Value):Prop :=
 ∀(s:Shared) (us:List Value),K.In s.heap→(us++ds).length=ps.length→BindsTo s fd ⟨us,[]⟩ (ps.zip (us++ds))
theorem Binds.all {K:PySem.W.Frag} {fd:FuncData} {ps:List Str} (h:∀us:List Value,us.length=ps.length→bindArgs fd ⟨us,[]⟩=pure (ps.zip us)):Binds K fd ps []:=fun s us _ hl=>by
 rw [List.append_nil] at hl ⊢
 exact .of_eq (h us hl)
def Q5 (CX:yF) (X:Cx) (E:XK):Prop:=∀(pins:List (Addr×Obj)) (σ:St) (H:Hp) (s:Shared) (e:Value) (s':Shared),Inv X pins σ H s→CX X.stack H s E e s'→X.xe e s'
section
variable {X:Cx} {CX:yF} {k:Nat} {f C:Addr} {fd:FuncData} {ps:List Str} {sp:Sp} {dvs:List V} {ds:List Value} {E:XK} {x m:Str} {p pos apos:Pos} {e o:Expr} {es:List Expr} {ta:TE} {t:TA}
theorem cT {pins:List (Addr×Obj)} {σ:St} {H:Hp} {s:Shared} {Q:VK} {us:List Value} {vs:List V} (F:FnOk X.prog X.w X.K X.mg X.base CX k f fd ps sp) (hr:Room k X.A) (hb:Binds X.K fd ps ds) (hd:Vals dvs ds) (hx:Q5 CX X E)
  (I:Inv X pins σ H s) (r:Vals vs us) (h:sp (vs++dvs) H Q E):wpAny (model X.prog X.w) X.A (call (.ref f) us) (EP X pins σ Q) X.xe s:=by
 have r2:Vals (vs++dvs) (us++ds):=r.append hd
 have hl:(us++ds).length=ps.length:=by rw [← r2.length];exact F.len _ _ _ _ h
 refine wpAny_call (codeAny_mono (F.run X.A X.stack s H ⟨us,[]⟩ (us++ds) (vs++dvs) Q E hr I.env0 (hb s us I.kIn hl) r2 h) fun r s' hq=>?_)
 cases r with
 |error e=>exact hx pins σ H s e s' I hq
 |ok fl =>
  cases fl with
  |ret u=>exact I.after hq
  |next=>exact False.elim hq
  |brk=>exact False.elim hq
  |cont=>exact False.elim hq
theorem E4 (F:FnOk X.prog X.w X.K X.mg X.base CX k f fd ps sp) (hr:Room k X.A) (hg:Gl X x) (hm:X.mg x=some (.ref f)) (hk:PySem.W.keepIn X.K (.ref f)=true) (hb:Binds X.K fd ps ds) (hd:Vals dvs ds) (hx:Q5 CX X E)
  (ha:PA X (e::es) t) (hdb:(x == ("__debug__":Str))=false:=by decide) (he:starEach (e::es) X.env=(false,eval e X.env)::starEach es X.env:=by rfl) (hpl:(backTo pos (starEach es X.env)).any (·.1)=false:=by rfl) :
  PE X (.Call (.Name x p) (e::es) [] pos) (mD sp dvs E t):=by
 intro pins s σ H Q I h
 refine wpAny_Call_Name_kw (eF I hg hm ?_ hdb)
 refine PySem.W.callWith_K (h₀:=X.base) I.ok.mod.kin hk (jW (ha pos pins s σ H _ I h) fun us s1 ⟨vs,H1,I1,r,q⟩=>⟨I1.kIn,?_⟩) he hpl
 exact cT F hr hb hd hx I1 r q
theorem E1 {pl:Sem Bool} (he:PE X o ta) (c:Cls X.K C) (hm:Meth X.K C m f) (F:FnOk X.prog X.w X.K X.mg X.base CX k f fd ps sp) (hr:Room k X.A) (hb:Binds X.K fd ps ds) (hd:Vals dvs ds) (hx:Q5 CX X E) (ha:PA X (e::es) t)
  (hst:starEach (e::es) X.env=(false,eval e X.env)::starEach es X.env:=by rfl) (hpl:(backTo pos (starEach es X.env)).any (·.1)=false:=by rfl)
  (ht:eval (.Call (.Attribute o m apos) (e::es) [] pos) X.env=(do
   let ov ← eval o X.env
   standAt apos.atName
   let (f,first) ← holding [ov] (getMethod ov m pl)
   callWith pos f first (backTo pos (starEach (e::es) X.env)) (backToKw pos (keywordEach [] X.env))):=by rfl) :
  PE X (.Call (.Attribute o m apos) (e::es) [] pos) (gB C m sp dvs E ta t):=by
 intro pins s σ H Q I h
 refine PySem.W.methodCall_KW (pl:=pl) (jW (he pins s σ H _ I h) fun u s1 ⟨x,H1,I1,rx,a,dx,fs,ex,ea,l,q⟩=>?_) ht
 subst ex
 obtain rfl:u=Value.ref a:=rx
 refine fF I1 ea c hm l ?_
 refine PySem.W.callWith_K (first:=[.ref a]) (h₀:=X.base) I.ok.mod.kin hm.kp (jW (ha pos pins s1 σ H1 _ I1 q) fun us s2 ⟨vs,H2,I2,r,q2⟩=>⟨I2.kIn,?_⟩) hst hpl
 exact cT (us:=.ref a::us) (vs:=.ref a::vs) F hr hb hd hx I2 (.cons rfl r) q2
theorem D8 {pl:Sem Bool} (he:PE X o ta) (c:Cls X.K C) (hm:Meth X.K C m f) (F:FnOk X.prog X.w X.K X.mg X.base CX k f fd ps sp) (hr:Room k X.A) (hb:Binds X.K fd ps ds) (hd:Vals dvs ds) (hx:Q5 CX X E)
  (ht:eval (.Call (.Attribute o m apos) [] [] pos) X.env=(do
   let ov ← eval o X.env
   standAt apos.atName
   let (f,first) ← holding [ov] (getMethod ov m pl)
   callWith pos f first (backTo pos (starEach [] X.env)) (backToKw pos (keywordEach [] X.env))):=by rfl) :
  PE X (.Call (.Attribute o m apos) [] [] pos) (gB C m sp dvs E ta gI):=by
 intro pins s σ H Q I h
 refine PySem.W.methodCall_KW (pl:=pl) (jW (he pins s σ H _ I h) fun u s1 ⟨x,H1,I1,rx,a,dx,fs,ex,ea,l,q⟩=>?_) ht
 subst ex
 obtain rfl:u=Value.ref a:=rx
 refine fF I1 ea c hm l ?_
 exact PySem.W.callWith_K0 (first:=[.ref a]) I1.kIn hm.kp (cT (us:=[.ref a]) (vs:=[.ref a]) F hr hb hd hx I1 (.cons rfl .nil) q)
structure Mk (K:PySem.W.Frag) (C f:Addr):Prop where
 makes:PySem.W.makesIn K C=true
 init:PySem.W.findIn K (.ref C) "__init__"=some (some (.ref f))
 fn:PySem.W.isFn K (.ref f)=true
 kp:PySem.W.keepIn K (.ref C)=true
theorem DU {pins:List (Addr×Obj)} {σ:St} {H:Hp} {s:Shared} {Q:VK} {us:List Value} {vs:List V} (M:Mk X.K C f) (F:FnOk X.prog X.w X.K X.mg X.base CX k f fd ps sp) (hr:Room (k+1) X.A) (hb:Binds X.K fd ps ds) (hd:Vals dvs ds)
  (hx:Q5 CX X E) (I:Inv X pins σ H s) (r:Vals vs us)
  (h:∀x dx,H x=none→H dx=none→dx≠x→sp (.ref x::(vs++dvs)) (upd (upd H dx (.own x)) x (.ins C dx [])) (fun v H2=>v=.non∧Q (.ref x) H2) E) :
  wpAny (model X.prog X.w) X.A (call (.ref C) us) (EP X pins σ Q) X.xe s:=by
 have hq:=h (s.heap.objs.size+1) s.heap.objs.size (I.hok.fresh (Nat.le_succ _)) (I.hok.fresh (Nat.le_refl _)) (Nat.ne_of_lt (Nat.lt_succ_self _))
 have I2:=Inv.made (C:=C) I
 have r2:Vals (V.ref (s.heap.objs.size+1)::(vs++dvs)) (Value.ref (s.heap.objs.size+1)::(us++ds)):=.cons rfl (r.append hd)
 have hl:(Value.ref (s.heap.objs.size+1)::us++ds).length=ps.length:=by
  have e:=r2.length
  rw [F.len _ _ _ _ hq] at e
  exact e.symm
 refine wpAny_call (ED (f:=f) I.kIn M.makes M.init (beq_iff_eq.mp M.fn) (codeAny_mono (F.run _ X.stack _ _ ⟨Value.ref (s.heap.objs.size+1)::us,[]⟩ (Value.ref (s.heap.objs.size+1)::(us++ds)) _ _ E (hr.make C us [])
  (I2.env0.make C us []) (hb _ (Value.ref (s.heap.objs.size+1)::us) I2.kIn hl) r2 hq) fun r s' hq'=>?_))
 cases r with
 |error e=>exact hx pins σ _ _ e s' I2 hq'
 |ok fl =>
  cases fl with
  |ret u =>
   obtain ⟨v,H',I3,rv,ev,q3⟩:=I2.after hq'
   subst ev
   exact ⟨rv,⟨V.ref (s.heap.objs.size+1),H',I3,rfl,q3⟩⟩
  |next=>exact False.elim hq'
  |brk=>exact False.elim hq'
  |cont=>exact False.elim hq'
theorem E2 (M:Mk X.K C f) (F:FnOk X.prog X.w X.K X.mg X.base CX k f fd ps sp) (hr:Room (k+1) X.A) (hg:Gl X x) (hm:X.mg x=some (.ref C)) (hb:Binds X.K fd ps ds) (hd:Vals dvs ds) (hx:Q5 CX X E)
  (ha:PA X (e::es) t) (hdb:(x == ("__debug__":Str))=false:=by decide) (he:starEach (e::es) X.env=(false,eval e X.env)::starEach es X.env:=by rfl) (hpl:(backTo pos (starEach es X.env)).any (·.1)=false:=by rfl) :
  PE X (.Call (.Name x p) (e::es) [] pos) (tT C sp dvs E t):=by
 intro pins s σ H Q I h
 refine wpAny_Call_Name_kw (eF I hg hm ?_ hdb)
 refine PySem.W.callWith_K (h₀:=X.base) I.ok.mod.kin M.kp (jW (ha pos pins s σ H _ I h) fun us s1 ⟨vs,H1,I1,r,q⟩=>⟨I1.kIn,?_⟩) he hpl
 exact DU M F hr hb hd hx I1 r q
end
section
variable {X:Cx} {CX:yF} {k:Nat} {f C:Addr} {fd:FuncData} {ps ks:List Str} {sp:Sp} {E:XK} {x m:Str} {p pos apos kpos:Pos} {e o:Expr} {es:List Expr} {kws:List Keyword} {te ta:TE} {t tk:TA} {nm:Option Str}
variable {g:List Value→List Value→List Value} {gV:List V→List V→List V}
end
structure FnScope (N P:List Str) (sc:Scope):Prop where
 kind:sc.kind=.function
 co:sc.isCoroutine=false
 gen:sc.isGenerator=false
 nd:N.Nodup
 pre:N.take P.length=P
 par:∀x∈P,sc.names.lookup x=some .local∨sc.names.lookup x=some .cell
 nofree:∀y∈sc.names,y.2≠.free
theorem pI {kindOf:Str→Option NameKind} {x:Str}:∀{binds:List (Str×Value)} {m:Str→Option Value},(∀v,(x,v)∉binds)→bindL kindOf binds m x=m x
 |[],_,_=>rfl
 | (n,v)::r,m,h=>by
  unfold bindL
  rw [pI fun w hw=>h w (List.mem_cons_of_mem _ hw)]
  split
  ·have:x≠n:=by rintro rfl;exact h v List.mem_cons_self
   simp [this]
  ·rfl
theorem pK {kindOf:Str→Option NameKind} {x:Str}:∀{binds:List (Str×Value)} {m:Str→Option Value},(∀v,(x,v)∉binds)→bindC kindOf binds m x=m x
 |[],_,_=>rfl
 | (n,v)::r,m,h=>by
  unfold bindC
  rw [pK fun w hw=>h w (List.mem_cons_of_mem _ hw)]
  split
  ·rfl
  ·have:x≠n:=by rintro rfl;exact h v List.mem_cons_self
   simp [this]
theorem pJ {kindOf:Str→Option NameKind} {x:Str} {v:Value}:∀{P:List Str} {vs:List Value} {i:Nat} {m:Str→Option Value},P.Nodup→P[i]?=some x→vs[i]?=some v→kindOf x=some .local→
  bindL kindOf (P.zip vs) m x=some v
 |[],_,_,_,_,h,_,_=>by simp at h
 |_::_,[],_,_,_,_,h,_=>by simp at h
 |p::P,w::vs,0,m,nd,h1,h2,hk=>by
  simp at h1 h2;subst h1;subst h2
  show bindL kindOf ((p,w)::P.zip vs) m p=_
  unfold bindL
  rw [pI fun v hv=>(List.nodup_cons.mp nd).1 (List.of_mem_zip hv).1,if_pos hk]
  simp
 |p::P,w::vs,i+1,m,nd,h1,h2,hk=>by
  show bindL kindOf ((p,w)::P.zip vs) m x=_
  unfold bindL
  exact pJ (i:=i) (List.nodup_cons.mp nd).2 (by simpa using h1) (by simpa using h2) hk
theorem pL {kindOf:Str→Option NameKind} {x:Str} {v:Value}:∀{P:List Str} {vs:List Value} {i:Nat} {m:Str→Option Value},P.Nodup→P[i]?=some x→vs[i]?=some v→kindOf x≠some .local→
  bindC kindOf (P.zip vs) m x=some v
 |[],_,_,_,_,h,_,_=>by simp at h
 |_::_,[],_,_,_,_,h,_=>by simp at h
 |p::P,w::vs,0,m,nd,h1,h2,hk=>by
  simp at h1 h2;subst h1;subst h2
  show bindC kindOf ((p,w)::P.zip vs) m p=_
  unfold bindC
  rw [pK fun v hv=>(List.nodup_cons.mp nd).1 (List.of_mem_zip hv).1,if_neg hk]
  simp
 |p::P,w::vs,i+1,m,nd,h1,h2,hk=>by
  show bindC kindOf ((p,w)::P.zip vs) m x=_
  unfold bindC
  exact pL (i:=i) (List.nodup_cons.mp nd).2 (by simpa using h1) (by simpa using h2) hk
def start (N:List Str) (vs:List V):St:=vs.map some++List.replicate (N.length - vs.length) none
def vX (CX:yF) (P:Program) (w:World) (K:PySem.W.Frag) (mg:Str→Option Value) (base:Heap) (N:List Str) (qual:Str) (scope:Scope) (f:Addr) (cd:Value) (A:Around) (outer:List Env) (s:Shared) (H:Hp) (E:XK):Cx where
 prog:=P
 w:=w
 K:=K
 mg:=mg
 base:=base
 A:=A.deeper (envOfC qual scope s.heap.objs.size f cd)
 N:=N
 s₀:=s
 H₀:=H
 env:=envOfC qual scope s.heap.objs.size f cd
 outer:=outer
 stack:=envOfC qual scope s.heap.objs.size f cd::outer
 ex:=[]
 calm:=true
 fn:=fun _=>true
 pn:=[]
 xe:=fun e s'=>wpAny (model P w) (A.deeper (envOfC qual scope s.heap.objs.size f cd)) (leaving (envOfC qual scope s.heap.objs.size f cd) e) (fun _ s''=>CX outer H s E e s'') (fun e' s''=>CX outer H s E e' s'') s'
theorem rP {sc:Scope} {n:Nat} {x:Str} (h:sc.names.lookup x=some .cell):∃c,(cellsFrom n sc.names []).lookup x=some c:=by
 have q:=PySem.W.cellsFrom_some sc.names n [] (.inl h)
 exact Option.isSome_iff_exists.mp q
theorem DC {CX:yF} {P:Program} {w:World} {K:PySem.W.Frag} {mg:Str→Option Value} {base:Heap} {N ps:List Str} {qual:Str} {scope:Scope} {f:Addr} {cd:Value} {A:Around} {outer:List Env} {s s1:Shared} {H:Hp} {E:XK} {us:List Value} {vs:List V}
  (S:FnScope N ps scope) (hd:A.handled=none) (e0:Env0 P w K mg base A outer s H) (hl:vs.length=ps.length) (r:Vals vs us)
  (x:InCallC s s.heap.objs.size (bindL (envOfC qual scope s.heap.objs.size f cd).kindOf (ps.zip us) fun _=>none) (cellsFrom (s.heap.objs.size+1) scope.names []) (bindC (envOfC qual scope s.heap.objs.size f cd).kindOf (ps.zip us) fun _=>none) s1) :
  Inv (vX CX P w K mg base N qual scope f cd A outer s H E) [] (start N vs) H s1:=by
 have hpl:ps.length≤N.length:=by have:=congrArg List.length S.pre;rw [List.length_take] at this;omega
 obtain ⟨h1,tk,rfl,hk⟩:=x.done
 have noA:∀b:Addr,b∉(vX CX P w K mg base N qual scope f cd A outer s H E).ex:=fun b z=>absurd (show b∈([]:List Addr) from z) (by simp)
 refine ⟨⟨e0.mod,S.kind,rfl,rfl,Nat.le_refl _,fun y z c h1 h2=>?_,fun y hy=>?_,fun y c _ h=>?_,fun _=>hd,Around.frames_deeper e0.frames,.inr ⟨rfl,rfl⟩,fun b z=>absurd z (noA b),e0.bs,e0.bsz,fun b _ _=>noA b,fun b z=>absurd z (noA b),e0.funs,e0.frf⟩,
  rfl,e0.bare,Un.kept hk,⟨_,x.toInCall.ns,fun i y v h1 h2 h3=>?_⟩,fun y c h=>⟨_,x.cell y c h⟩,e0.hok.fresh (Nat.le_refl _),fun y c h=>?_,fun p hp=>absurd (show p∈([]:List (Addr×Obj)) from hp) (by simp),e0.hok.kept hk,?_⟩
 ·exact name_of_addr x.apart (PySem.mem_of_lookup h1) (PySem.mem_of_lookup h2)
 ·have hy:scope.names.lookup y=some .cell∨scope.names.lookup y=some .free:=hy
  rcases hy with hy|hy
  ·exact rP hy
  ·exact absurd rfl (S.nofree _ (PySem.mem_of_lookup hy))
 ·exact Nat.le_of_lt (x.above y c (PySem.mem_of_lookup h))
 ·have hi:i<vs.length:=by
   unfold start at h2
   by_cases hi:i<vs.length
   ·exact hi
   ·rw [List.getElem?_append_right (by simpa using hi)] at h2
    rw [List.getElem?_replicate] at h2
    split at h2<;>cases h2
  have ha:vs[i]?=some v:=by
   unfold start at h2
   rw [List.getElem?_append_left (by simpa using hi),List.getElem?_map] at h2
   cases e:vs[i]? with
   |none=>rw [e] at h2;cases h2
   |some a=>rw [e] at h2;cases h2;rfl
  obtain ⟨u,hu,rv⟩:=r.get ha
  have hp:ps[i]?=some y:=by
   rw [← S.pre,List.getElem?_take_of_lt (by omega)];exact h1
  have ndP:ps.Nodup:=by rw [← S.pre];exact S.nd.sublist (List.take_sublist _ _)
  refine ⟨u,rv,?_⟩
  rcases S.par y (List.mem_of_getElem? hp) with k|k
  ·exact .inl ⟨k,pJ ndP hp hu k⟩
  ·obtain ⟨c,e⟩:=rP (n:=s.heap.objs.size+1) k
   refine .inr ⟨.inl k,c,e,?_⟩
   have q:=x.cell y c e
   rw [pL ndP hp hu (by show scope.names.lookup y≠_;rw [k];decide)] at q
   exact q
 ·exact e0.hok.fresh (Nat.le_of_lt (x.above y c (PySem.mem_of_lookup h)))
 ·unfold start
  show _=N.length
  rw [List.length_append,List.length_map,List.length_replicate]
  omega
theorem mI {CX:yF} {P:Program} {w:World} {K:PySem.W.Frag} {mg:Str→Option Value} {base:Heap} {k:Nat} {f:Addr} {name qual:Str} {params:Arguments} {body:List Stmt} {scope:Scope} {dV kV doc pm cdv ct oc:Value} {an od:Option Addr}
  {osl:Array (Option Value)} {N ps:List Str} {sp:Sp} (lk:K.lookup f=some ⟨oc,od,.func (PySem.W.fnOf name qual params body scope dV kV doc pm an cdv ct),osl⟩) (hcd:PySem.W.codeIn K cdv qual=true) (S:FnScope N ps scope)
  (len:∀vs H Q E,sp vs H Q E→vs.length=ps.length)
  (hbody:∀(A:Around) (outer:List Env) (s:Shared) (H:Hp) (vs:List V) (Q:VK) (E:XK),Room k (A.deeper (envOfC qual scope s.heap.objs.size f cdv))→sp vs H Q E→
   ∃t,PSs (vX CX P w K mg base N qual scope f cdv A outer s H E) body t∧t {nx:=fun _ H'=>Q .non H',rt:=Q} (start N vs) H) :
  FnOk P w K mg base CX (k+1) f (PySem.W.fnOf name qual params body scope dV kV doc pm an cdv ct) ps sp:=by
 refine ⟨len,fun A outer s H args us vs Q E hr e0 hb r hsp=>?_⟩
 have hl:=len _ _ _ _ hsp
 have KX:K.In s.heap:=e0.mod.kin.keeps fun b o e=>(e0.bs b o e).1
 have lim:s.heap.NoLimit:=e0.mod.nolimit.keeps fun b o e=>(e0.bs b o e).1
 have hkind:∀y∈ps.zip us,scope.names.lookup y.1=some .local∨(scope.names.lookup y.1=some .cell∧((cellsFrom (s.heap.objs.size+1) scope.names []).lookup y.1).isSome=true):=fun ⟨n,v⟩ hy=>by
  rcases S.par n (List.of_mem_zip hy).1 with q|q
  ·exact .inl q
  ·exact .inr ⟨q,PySem.W.cellsFrom_some _ _ _ (.inl q)⟩
 refine codeAny_call_function hr.depth (KX _ _ lk) rfl S.co S.gen rfl (PySem.W.codeRec_of KX hcd) (hb _ _ _ _ ?_)
 refine wpAny_newFunctionEnv_cells S.kind hkind fun env he s1 x=>?_
 subst he
 refine ⟨lim.keeps x.toInCall.keep,codeAny_func ?_⟩
 obtain ⟨t,ht,hq⟩:=hbody A outer s H vs Q E (hr.deeper _) hsp
 have I:Inv (vX CX P w K mg base N qual scope f cdv A outer s H E) [] (start N vs) H s1:=DC S hr.hd e0 hl r x
 refine wpAny_mono (ht [] s1 (start N vs) H _ I hq) (fun fl s' hs=>?_) fun e s' hs=>hs
 have fin:∀{σ':St} {H':Hp} {v:V} {u:Value},Inv (vX CX P w K mg base N qual scope f cdv A outer s H E) [] σ' H' s'→RelV v u→Q v H'→CE outer P w H s Q u s' :=
  fun {σ' H' v u} J rv q=>⟨v,H',J.os,J.bare,J.base,J.hok,rv,q⟩
 cases fl with
 |ret u =>
  obtain ⟨v,σ',H',J,rv,q⟩:=hs
  exact fin J rv q
 |next =>
  obtain ⟨σ',H',J,q⟩:=hs
  exact fin (v:=V.non) (u:=Value.none) J rfl q
 |brk =>
  obtain ⟨_,_,_,q⟩:=hs
  exact False.elim q
 |cont =>
  obtain ⟨_,_,_,q⟩:=hs
  exact False.elim q
end L2
namespace L2
open PySem PySem.Spec PyProof.Rows
section
variable {X:Cx} {x:Str} {p pos:Pos} {e:Expr} {es:List Expr} {t:TA} {id T:String} {r:List V→Hp→VK→Prop}
def uI (r:List V→Hp→VK→Prop) (t:TA):TE:=fun σ H Q=>t σ H fun vs H1=>r vs H1 Q
theorem kB (hc:v7 X (.builtin id) r) (hg:Gl X x) (hm:X.mg x=none) (hv:bootBuiltins x=some (.builtin id)) (ha:PA X (e::es) t) (hn:x≠"__name__":=by decide) (hdb:(x == ("__debug__":Str))=false:=by decide)
  (he:starEach (e::es) X.env=(false,eval e X.env)::starEach es X.env:=by rfl) (hpl:(backTo pos (starEach es X.env)).any (·.1)=false:=by rfl):PE X (.Call (.Name x p) (e::es) [] pos) (uI r t):=by
 intro pins s σ H Q I h
 refine wpAny_Call_Name_kw (Q4 I hg hm hv ?_ hn hdb)
 exact PyProof.Rows.callWith_builtin1 (jW (ha pos pins s σ H _ I h) fun us s1 ⟨vs,H1,I1,r1,q1⟩=>hc pins s1 σ H1 vs us Q I1 r1 q1) he hpl
theorem qJ (hc:v7 X (.type T) r) (hg:Gl X x) (hm:X.mg x=none) (hv:bootBuiltins x=some (.type T)) (ha:PA X (e::es) t) (hn:x≠"__name__":=by decide) (hdb:(x == ("__debug__":Str))=false:=by decide)
  (he:starEach (e::es) X.env=(false,eval e X.env)::starEach es X.env:=by rfl) (hpl:(backTo pos (starEach es X.env)).any (·.1)=false:=by rfl):PE X (.Call (.Name x p) (e::es) [] pos) (uI r t):=by
 intro pins s σ H Q I h
 refine wpAny_Call_Name_kw (Q4 I hg hm hv ?_ hn hdb)
 exact PyProof.Rows.callWith_type1 (jW (ha pos pins s σ H _ I h) fun us s1 ⟨vs,H1,I1,r1,q1⟩=>hc pins s1 σ H1 vs us Q I1 r1 q1) he hpl
end
end L2
namespace HT
open PySem PyProof.Rows
section
open PySem.SeqAt
open PySem.AutoSeq1 (wpAny_loadPart')
open PySem.MeetsSeq PySem.MeetsSeq2 PySem.MeetsSeq3
end
section
variable {prog:Program} {w:World} {A:Around} {E:Value→Shared→Prop} {s:Shared}
theorem cat_tup {t b:Addr} {vs ws:List Value} {Q:Value→Shared→Prop} (ht:IsTup s.heap t vs.toArray) (hb:IsTup s.heap b ws.toArray) (hv:vs≠[])
  (h1:ws=[]→Q (.ref t) s) (h2:ws≠[]→Q (.ref s.heap.objs.size) {s with heap:=s.heap.push {cls:=.type "tuple",data:=.seq (vs++ws).toArray}})
  (hsz:vs.length+ws.length≤sizeLine):wpAny (model prog w) A (binaryOp .Add (.ref t) (.ref b)) Q E s:=by
 obtain ⟨⟨cls,dd,data,sl⟩,ho,hc,n,hd⟩:=id ht
 obtain ⟨⟨cls2,dd2,data2,sl2⟩,ho2,hc2,n2,hd2⟩:=id hb
 simp only at hc hd hc2 hd2
 subst hc hd hc2 hd2
 have e:vs.toArray++ws.toArray=(vs++ws).toArray:=by simp
 by_cases hw:ws=[]
 ·exact concat_meets ⟨_,ho,rfl⟩ ⟨_,ho2,rfl⟩ noFill_tuple_add seq_tuple_add PySem.F.slot_tuple_add PySem.F.entry_tuple_add (PySem.F.args_tuple_add_2 _ _)
   (tuple_addW1 t b vs.toArray ws.toArray n n2 dd dd2 sl sl2 (by simpa using hv) (by simp [hw])) ⟨ho,ho2,h1 hw⟩
 ·refine concat_meets ⟨_,ho,rfl⟩ ⟨_,ho2,rfl⟩ noFill_tuple_add seq_tuple_add PySem.F.slot_tuple_add PySem.F.entry_tuple_add (PySem.F.args_tuple_add_2 _ _)
   (tuple_addW2 t b vs.toArray ws.toArray n n2 dd dd2 sl sl2 (by simpa using hv) (by simpa using hw) (by rw [List.size_toArray,List.size_toArray];exact hsz)) ⟨ho,ho2,?_⟩
  rw [e]
  exact h2 hw
end
end HT
namespace L2
open PySem PySem.Spec PyProof.Rows
abbrev TO:=St→Hp→(Option Int→Hp→Prop)→Prop
section
variable {X:Cx} {e:Expr} {te:TE} {lo hi:Option Expr} {tl th:TO} {pos p2:Pos}
def G3 (K:PySem.W.Frag):R2:=fun x y H Q=>∃a b xs ys,x=.ref a∧y=.ref b∧SqT K H a xs∧SqT K H b ys∧xs≠[]∧xs.length+ys.length≤sizeLine∧
 (ys=[]→Q (.ref a) H)∧(ys≠[]→∀p,H p=none→Q (.ref p) (upd H p (.tup (xs++ys))))
theorem Vals.nil_iff {xs:List V} {us:List Value} (r:Vals xs us):us=[]↔xs=[]:=by
 cases r with
 |nil=>simp
 |cons _ _=>simp
theorem E6:qQ X (binaryOp .Add) (G3 X.K):=by
 intro pins s σ H x y v u Q I rx ry h
 obtain ⟨a,b,xs,ys,rfl,rfl,ha,hb,hx,hz,q1,q2⟩:=h
 cases rx
 cases ry
 obtain ⟨its,r1,p1,_⟩:=I.tuple ha
 obtain ⟨its2,r2,p2,_⟩:=I.tuple hb
 refine HT.cat_tup p1 p2 (fun z=>hx (r1.nil_iff.mp z)) (fun z=>⟨.ref a,H,I,rfl,q1 (r2.nil_iff.mp z)⟩) (fun z=>?_) (by rw [← r1.length,← r2.length];exact hz)
 refine ⟨.ref s.heap.objs.size,_,I.laid (t':=s.toks) (o:=.tup (xs++ys)) (fun b ob q=>Heap.get?_push_of_some _ q) (Nat.le_refl _) ?_,rfl,q2 (fun w=>z (r2.nil_iff.mpr w)) _ (I.hok.fresh (Nat.le_refl _))⟩
 exact ⟨by rw [List.length_append];exact hz,_,r1.append r2,IsTup.new _ _⟩
end
end L2
namespace L2
open PySem PySem.Spec PyProof.Rows
def yL (n:Nat) (i:Int):Option Nat:=if 0≤i then (if i<n then some i.toNat else none) else if -(n:Int)≤i then some (i+n).toNat else none
def qC {α:Type} (xs:List α) (i:Int):Option α:=(yL xs.length i).bind fun j=>xs[j]?
theorem sR {n:Nat} {i:Int} {j:Nat} (h:yL n i=some j):seqIndex? i n=some j∧j<n∧-(n:Int)≤i∧i<n:=by
 unfold yL at h
 by_cases h0:0≤i
 ·rw [if_pos h0] at h
  by_cases h1:i<n
  ·rw [if_pos h1] at h
   have e:i.toNat=j:=Option.some.inj h
   exact ⟨by rw [seqIndex_of h0 h1,e],by omega,by omega,h1⟩
  ·rw [if_neg h1] at h;cases h
 ·rw [if_neg h0] at h
  by_cases h1 : -(n:Int)≤i
  ·rw [if_pos h1] at h
   have e:(i+n).toNat=j:=Option.some.inj h
   exact ⟨by rw [seqIndex_neg (by omega) h1,e],by omega,h1,by omega⟩
  ·rw [if_neg h1] at h;cases h
theorem fU {α:Type} {xs:List α} {i:Int} {v:α} (h:qC xs i=some v):∃j,seqIndex? i xs.length=some j∧xs[j]?=some v∧j<xs.length∧-(xs.length:Int)≤i∧i<xs.length:=by
 unfold qC at h
 cases e:yL xs.length i with
 |none=>rw [e] at h;cases h
 |some j =>
  rw [e] at h
  obtain ⟨h1,h2,h3,h4⟩:=sR e
  exact ⟨j,h1,h,h2,h3,h4⟩
theorem kE {α:Type} {xs:List α} {j:Nat} {v:α} (h:xs[j]?=some v):qC xs (j:Int)=some v:=by
 have hj:j<xs.length:=(List.getElem?_eq_some_iff.mp h).1
 have e:yL xs.length (j:Int)=some j:=by
  unfold yL
  rw [if_pos (by omega),if_pos (by omega)];simp
 unfold qC;rw [e];exact h
theorem atI_last {α:Type} (xs:List α) (v:α):qC (xs++[v]) (-1)=some v:=by
 have hl:(xs++[v]).length=xs.length+1:=by simp
 have e:yL (xs++[v]).length (-1)=some xs.length:=by
  unfold yL
  rw [hl,if_neg (by decide),if_pos (by omega)]
  congr 1
  omega
 unfold qC
 rw [e]
 show (xs++[v])[xs.length]?=some v
 simp
def FN (b:Expr):Prop:=∀o i,subscripted b false o i=operate [o,i] (getItem o i)
def IxR (X:Cx) (r:R2):Prop :=
 ∀(value slice:Expr) (pins:List (Addr×Obj)) (s:Shared) (σ:St) (H:Hp) (x y:V) (v u:Value) (Q:VK),Inv X pins σ H s→RelV x v→RelV y u→r x y H Q→
  subscripted slice false v u=operate [v,u] (getItem v u)→wpAny (model X.prog X.w) X.A (subscriptTail value slice v u) (EP X pins σ Q) X.xe s
def uM (X:Cx) (id:String) (r:V→List V→Hp→VK→Prop):Prop :=
 ∀(pins:List (Addr×Obj)) (s:Shared) (σ:St) (H:Hp) (x:V) (xs:List V) (v:Value) (us:List Value) (Q:VK),Inv X pins σ H s→RelV x v→Vals xs us→r x xs H Q→
  wpAny (model X.prog X.w) X.A (call (.builtin id) (v::us)) (EP X pins σ Q) X.xe s
section
variable {X:Cx} {a b:Expr} {ta tb:TE} {pos:Pos}
theorem IxR.or {r r':R2} (h:IxR X r) (h':IxR X r'):IxR X (fun x y H Q=>r x y H Q∨r' x y H Q):=by
 intro value slice pins s σ H x y v u Q I rx ry q hs
 rcases q with q|q
 ·exact h value slice pins s σ H x y v u Q I rx ry q hs
 ·exact h' value slice pins s σ H x y v u Q I rx ry q hs
theorem jD {r:R2} (hr:IxR X r) (ha:PE X a ta) (hb:PE X b tb) (hs:FN b):PE X (.Subscript a b pos) (gP r ta tb):=by
 intro pins s σ H Q I h
 exact Subscript_ (mQ ha hb I h fun v u s2 x y H2 I2 rx ry q=>hr a b pins s2 σ H2 x y v u Q I2 rx ry q (hs _ _))
def gJ (K:PySem.W.Frag):R2:=fun x y H Q=>∃p xs i v,x=.ref p∧y=.int i∧SqL K H p xs∧qC xs i=some v∧Q v H
def mM (K:PySem.W.Frag):R2:=fun x y H Q=>∃p xs i v,x=.ref p∧y=.int i∧SqT K H p xs∧qC xs i=some v∧Q v H
def uB:R2:=fun x y H Q=>∃z i c,x=.str z∧y=.int i∧z.length≤sizeLine∧qC z.cps.toList i=some c∧Q (.str ⟨#[c]⟩) H
theorem j5:IxR X (gJ X.K):=by
 intro value slice pins s σ H x y v u Q I rx ry h hs
 obtain ⟨p,xs,i,z,rfl,rfl,hq,he,q⟩:=h
 cases rx
 obtain ⟨t,rfl⟩:=ry
 obtain ⟨its,r,pl,hz⟩:=I.list hq
 obtain ⟨j,h1,h2,h3,h4,h5⟩:=fU he
 obtain ⟨w,ew,rw'⟩:=r.get h2
 have hl:=r.length
 have hn:=cX
 have fin:EP X pins σ Q w s:=⟨z,H,I,rw',q⟩
 by_cases h0:0≤i
 ·have hj:i.toNat=j:=by
   rw [seqIndex_of h0 h5] at h1
   exact Option.some.inj h1
  exact item_listR pl.isList h0 (by omega) (by rw [hj];simpa using ew) fin hs
 ·have hj:(i+(its.toArray.size:Int)).toNat=j:=by
   rw [seqIndex_neg (by omega) h4] at h1
   rw [List.size_toArray,← hl]
   exact Option.some.inj h1
  exact subscriptTail_builtinR (x:=w) pl.isList.typeIs slot_list_getitem.lookup
   (wpAny_getItem_list_neg (Q:=fun r s'=>r=w∧EP X pins σ Q r s') pl.isList (by omega) (by rw [List.size_toArray]<;>omega) (by omega) (by rw [hj];simpa using ew) ⟨rfl,fin⟩) hs
theorem ix_tup:IxR X (mM X.K):=by
 intro value slice pins s σ H x y v u Q I rx ry h hs
 obtain ⟨p,xs,i,z,rfl,rfl,hq,he,q⟩:=h
 cases rx
 obtain ⟨t,rfl⟩:=ry
 obtain ⟨its,r,pl,hz⟩:=I.tuple hq
 obtain ⟨j,h1,h2,h3,h4,h5⟩:=fU he
 obtain ⟨w,ew,rw'⟩:=r.get h2
 have hl:=r.length
 have hn:=cX
 have fin:EP X pins σ Q w s:=⟨z,H,I,rw',q⟩
 exact subscriptTail_builtinR (x:=w) pl.typeIs slot_tuple_getitem.lookup
  (getItem_tuple (j:=j) (Q:=fun r s'=>r=w∧EP X pins σ Q r s') pl (by omega) (by omega) (by rw [List.size_toArray,← hl];exact h1) (by simpa using ew) ⟨rfl,fin⟩) hs
theorem GJ:IxR X uB:=by
 intro value slice pins s σ H x y v u Q I rx ry h hs
 obtain ⟨z,i,c,rfl,rfl,hz,he,q⟩:=h
 obtain ⟨t,rfl⟩:=rx
 obtain ⟨t',rfl⟩:=ry
 obtain ⟨j,h1,h2,h3,h4,h5⟩:=fU he
 have hl:z.cps.toList.length=z.length:=by simp [Str.length]
 rw [hl] at h1 h4 h5
 have hn:=cX
 exact tail_any (typeIs_str s z t) slot_str_getitem.lookup (getItem_str (c:=c) (by
  have e1:decide (i < -(2 ^ 63:Int))=false:=decide_eq_false (by omega)
  have e2:decide (i≥2 ^ 63)=false:=decide_eq_false (by omega)
  rw [e1,e2,Bool.or_false]) (by rw [h1];simpa using h2) ⟨.str ⟨#[c]⟩,H,I.tok _,⟨_,rfl⟩,q⟩) hs
def uJ (K:PySem.W.Frag):R2:=fun x y H Q=>gJ K x y H Q∨mM K x y H Q∨uB x y H Q
theorem tM:IxR X (uJ X.K):=j5.or (ix_tup.or GJ)
theorem CF (its:List Value) (n j:Nat) (u:Value):Obj.mapSeq (·.setIfInBounds j u) {cls:=.type "list",data:=.seq its.toArray n}={cls:=.type "list",data:=.seq (its.set j u).toArray n}:=by
 simp [Obj.mapSeq]
theorem Inv.lst {pins:List (Addr×Obj)} {σ:St} {H:Hp} {s:Shared} {p:Addr} {xs:List V} (I:Inv X pins σ H s) (h:H p=some (.lst xs)) :
  ∃(its:List Value) (n:Nat),Vals xs its∧s.heap.get? p=some {cls:=.type "list",data:=.seq its.toArray n}∧xs.length≤sizeLine:=by
 obtain ⟨z,its,n,r,e⟩:=I.hok p _ h
 exact ⟨its,n,r,e,z⟩
theorem Inv.lstUpd {pins:List (Addr×Obj)} {σ:St} {H:Hp} {s:Shared} {p:Addr} {xs ys:List V} {its its':List Value} {n n':Nat} {f:Obj→Obj} (I:Inv X pins σ H s) (h:H p=some (.lst xs))
  (ho:s.heap.get? p=some {cls:=.type "list",data:=.seq its.toArray n}) (hf:f {cls:=.type "list",data:=.seq its.toArray n}={cls:=.type "list",data:=.seq its'.toArray n'}) (r:Vals ys its') (hz:ys.length≤sizeLine) (t:Nat) :
  Inv X pins σ (upd H p (.lst ys)) {s with heap:=s.heap.update p f,toks:=t}:=by
 have e:(s.heap.update p f).get? p=some {cls:=.type "list",data:=.seq its'.toArray n'}:=by
  rw [Heap.get?_update_self f ho (by rw [hf]<;>rfl),hf]
 refine I.write (x:=p) (e:=p) (by rw [h];trivial) (.inl rfl) (fun b u hb q=>(Heap.get?_update_other _ _ (Ne.symm hb)).trans q) ⟨_,e⟩ ?_
 exact ⟨hz,its',n',r,e⟩
def G0:V→V→V→Hp→(Hp→Prop)→Prop:=fun o i v H Q=>∃p xs k j,o=.ref p∧i=.int k∧H p=some (.lst xs)∧yL xs.length k=some j∧Q (upd H p (.lst (xs.set j v)))
theorem y7:mS X G0:=by
 intro pins s σ H o i v ov iv u Q I ro ri rv h
 obtain ⟨p,xs,k,j,rfl,rfl,hp,hj,q⟩:=h
 cases ro
 obtain ⟨t,rfl⟩:=ri
 obtain ⟨its,n,r,ho,hz⟩:=I.lst hp
 obtain ⟨h1,h2,h3,h4⟩:=sR hj
 have hl:=r.length
 have hn:=cX
 have I':Inv X pins σ (upd H p (.lst (xs.set j v))) {s with heap:=s.heap.update p (Obj.mapSeq (·.setIfInBounds j u))} :=
  I.lstUpd hp ho (CF its n j u) (r.set rv j) (by rw [List.length_set];exact hz) s.toks
 by_cases h0:0≤k
 ·have hk:k.toNat=j:=by
   rw [seqIndex_of h0 h4] at h1
   exact Option.some.inj h1
  exact PySem.W.ki_setAt ho h0 (by omega) (by rw [List.size_toArray,← hl];exact h4) (by rw [hk];exact ⟨_,I',q⟩)
 ·have hk:(k+(its.toArray.size:Int)).toNat=j:=by
   rw [seqIndex_neg (by omega) h3] at h1
   rw [List.size_toArray,← hl]
   exact Option.some.inj h1
  exact PySem.W.ki_setBack ho (by omega) (by rw [List.size_toArray,← hl];exact h3) (by omega) (by rw [hk];exact ⟨_,I',q⟩)
def qY:V→Bool
 |.non=>true
 |.bl _=>true
 |.int _=>true
 |.str _=>true
 |_=>false
def vI:V→V→Bool
 |.non,.non=>true
 |.bl a,.bl b=>a == b
 |.bl a,.int b=>(if a then 1 else 0) == b
 |.int a,.bl b=>a == (if b then 1 else 0)
 |.int a,.int b=>a == b
 |.str a,.str b=>a == b
 |_,_=>false
theorem JI {A:Around} {s:Shared} {y x:V} {u v:Value} (ry:RelV y u) (rx:RelV x v) (fy:qY y=true) (fx:qY x=true):SeqAt.EqAt A s u v (vI y x):=by
 cases y with
 |non =>
  cases ry
  cases x with
  |non=>cases rx;exact SeqAt.EqAt.same _
  |bl b=>cases rx;exact SeqAt.EqAt.none_bool b
  |int b=>obtain ⟨t,rfl⟩:=rx;exact SeqAt.EqAt.none_int b t
  |str b=>obtain ⟨t,rfl⟩:=rx;exact SeqAt.EqAt.none_str b t
  |_=>exact absurd (show false=true from fx) Bool.false_ne_true
 |bl a =>
  cases ry
  cases x with
  |non=>cases rx;exact SeqAt.EqAt.bool_none a
  |bl b=>cases rx;exact SeqAt.EqAt.bool_bool a b
  |int b=>obtain ⟨t,rfl⟩:=rx;exact SeqAt.EqAt.bool_int a b t
  |str b=>obtain ⟨t,rfl⟩:=rx;exact SeqAt.EqAt.bool_str a b t
  |_=>exact absurd (show false=true from fx) Bool.false_ne_true
 |int a =>
  obtain ⟨t',rfl⟩:=ry
  cases x with
  |non=>cases rx;exact SeqAt.EqAt.int_none a t'
  |bl b=>cases rx;exact SeqAt.EqAt.int_bool a t' b
  |int b=>obtain ⟨t,rfl⟩:=rx;exact SeqAt.EqAt.int_int a t' b t
  |str b=>obtain ⟨t,rfl⟩:=rx;exact SeqAt.EqAt.int_str a t' b t
  |_=>exact absurd (show false=true from fx) Bool.false_ne_true
 |str a =>
  obtain ⟨t',rfl⟩:=ry
  cases x with
  |non=>cases rx;exact SeqAt.EqAt.str_none a t'
  |bl b=>cases rx;exact SeqAt.EqAt.str_bool a t' b
  |int b=>obtain ⟨t,rfl⟩:=rx;exact SeqAt.EqAt.str_int a t' b t
  |str b=>obtain ⟨t,rfl⟩:=rx;exact SeqAt.EqAt.str_str a t' b t
  |_=>exact absurd (show false=true from fx) Bool.false_ne_true
 |_=>exact absurd (show false=true from fy) Bool.false_ne_true
def gS (x:V) (u:Value):Bool:=match u with
 |.none=>vI .non x
 |.bool b=>vI (.bl b) x
 |.int i _=>vI (.int i) x
 |.str z _=>vI (.str z) x
 |_=>false
theorem tO {x y:V} {u:Value} (r:RelV y u) (f:qY y=true):gS x u=vI y x:=by
 cases y with
 |non=>cases r;rfl
 |bl b=>cases r;rfl
 |int i=>obtain ⟨t,rfl⟩:=r;rfl
 |str z=>obtain ⟨t,rfl⟩:=r;rfl
 |_=>exact absurd (show false=true from f) Bool.false_ne_true
theorem rC {A:Around} {s:Shared} {x:V} {v:Value} (rx:RelV x v) (fx:qY x=true):∀{xs:List V} {us:List Value},Vals xs us→xs.all qY=true→∀u∈us,SeqAt.EqAt A s u v (gS x u)
 |_,_,.nil,_=>fun u hu=>by cases hu
 |y::xs,u::us,.cons r t,f=>fun u' hu=>by
  rw [List.all_cons,Bool.and_eq_true] at f
  rcases List.mem_cons.mp hu with rfl|hu
  ·rw [tO r f.1];exact JI r rx f.1 fx
  ·exact rC rx fx t f.2 u' hu
theorem kI:v7 X (.builtin "len") (fun xs H Q=>∃p ys,xs=[.ref p]∧(SqL X.K H p ys∨SqT X.K H p ys)∧Q (.int ys.length) H):=by
 intro pins s σ H xs us Q I r h
 obtain ⟨p,ys,rfl,hq,q⟩:=h
 obtain ⟨u,rfl,rx⟩:=J7 r
 cases rx
 have hn:=cX
 rcases hq with hq|hq
 ·obtain ⟨its,r',pl,hz⟩:=I.list hq
  have hlen:=r'.length
  exact Calls.call_len_list pl.isList (by simp only [List.size_toArray]<;>omega) ⟨.int ys.length,H,I.tok _,⟨s.toks+1,by rw [List.size_toArray,hlen]⟩,q⟩
 ·obtain ⟨its,r',pl,hz⟩:=I.tuple hq
  have hlen:=r'.length
  exact len_tuple pl (by simp only [List.size_toArray]<;>omega) ⟨.int ys.length,H,I.tok _,⟨s.toks+1,by rw [List.size_toArray,hlen]⟩,q⟩
theorem zZ:v7 X (.type "list") (fun xs H Q=>∃p ys,xs=[.ref p]∧(SqL X.K H p ys∨SqT X.K H p ys)∧∀l,H l=none→Q (.ref l) (upd H l (.lst ys))):=by
 intro pins s σ H xs us Q I r h
 obtain ⟨p,ys,rfl,hq,q⟩:=h
 obtain ⟨u,rfl,rx⟩:=J7 r
 cases rx
 have fin:∀(its:List Value),Vals ys its→ys.length≤sizeLine→∀(h':Heap) (c':Nat),(∀b o',s.heap.get? b=some o'→h'.get? b=some o')→
   h'.get? s.heap.objs.size=some {cls:=.type "list",dict:=none,data:=.seq its.toArray c',slots := #[]}→EP X pins σ Q (.ref s.heap.objs.size) {s with heap:=h'}:=fun its r' hz h' c' kp e =>
  ⟨.ref s.heap.objs.size,_,I.laid (t':=s.toks) kp (Nat.le_refl _) (show ObjOk X.prog X.w _ h' _ (.lst ys) from ⟨hz,its,c',r',e⟩),rfl,q _ (I.hok.fresh (Nat.le_refl _))⟩
 rcases hq with hq|hq
 ·obtain ⟨its,r',pl,hz⟩:=I.list hq
  have hlen:=r'.length
  obtain ⟨o,ho,hc,n,hd⟩:=pl.isList
  exact call_list_seq p (.inl rfl) ho hc hd (fun h' c' kp e=>fin its r' hz h' c' kp e) (by simp only [List.size_toArray]<;>omega)
 ·obtain ⟨its,r',pl,hz⟩:=I.tuple hq
  have hlen:=r'.length
  obtain ⟨o,ho,hc,n,hd⟩:=pl
  exact call_list_seq p (.inr rfl) ho hc hd (fun h' c' kp e=>fin its r' hz h' c' kp e) (by simp only [List.size_toArray]<;>omega)
theorem QU:v7 X (.type "tuple") (fun xs H Q=>∃p ys,xs=[.ref p]∧((SqL X.K H p ys∧∀l,H l=none→Q (.ref l) (upd H l (.tup ys)))∨(SqT X.K H p ys∧Q (.ref p) H))):=by
 intro pins s σ H xs us Q I r h
 obtain ⟨p,ys,rfl,h⟩:=h
 obtain ⟨u,rfl,rx⟩:=J7 r
 cases rx
 rcases h with ⟨hq,q⟩|⟨hq,q⟩
 ·obtain ⟨its,r',pl,hz⟩:=I.list hq
  have hlen:=r'.length
  refine call_tuple_list pl.isList (fun h' kp=>?_) (by simp only [List.size_toArray]<;>omega)
  have I1:Inv X pins σ H {s with heap:=h'}:=I.kept (t':=s.toks) kp
  have I2:Inv X pins σ (upd H h'.objs.size (.tup ys)) {s with heap:=h'.push {cls:=.type "tuple",data:=.seq its.toArray}} :=
   I1.laid (t':=s.toks) (fun b o e=>Heap.get?_push_of_some _ e) (Nat.le_refl _) (show ObjOk X.prog X.w _ _ _ (.tup ys) from ⟨hz,its,r',IsTup.new _ _⟩)
  exact ⟨.ref h'.objs.size,_,I2,rfl,q _ (I1.hok.fresh (Nat.le_refl _))⟩
 ·obtain ⟨its,r',pl,hz⟩:=I.tuple hq
  exact call_tuple_same pl ⟨.ref p,H,I,rfl,q⟩
def uH (K:PySem.W.Frag) (T:String) (x:V) (H:Hp):Prop:=match x with
 |.str _=>T="str"
 |.int _=>T="int"
 |.ref p=>(T="list"∧∃xs,SqL K H p xs)∨(T="tuple"∧∃o,K.lookup p=some o∧o.cls=.type "tuple"∧o.dict=none)∨
   (T="dict"∧((∃kvs,H p=some (.dK kvs))∨∃kvs,H p=some (.dT kvs)))∨(T="set"∧∃S n,H p=some (.set S n))
 |_=>False
theorem FO {pins:List (Addr×Obj)} {σ:St} {H:Hp} {s:Shared} {T:String} {x:V} {v:Value} (I:Inv X pins σ H s) (r:RelV x v) (ty:uH X.K T x H) :
  s.TypeIs v T∧∀a,v=.ref a→∃ob,s.heap.get? a=some ob∧ob.dict=none:=by
 cases x with
 |str z =>
  obtain ⟨t,rfl⟩:=r
  cases (show T="str" from ty)
  exact ⟨typeIs_str s z t,fun _ e=>nomatch e⟩
 |int i =>
  obtain ⟨t,rfl⟩:=r
  cases (show T="int" from ty)
  exact ⟨typeIs_int s i t,fun _ e=>nomatch e⟩
 |ref p =>
  cases r
  rcases ty with ⟨rfl,xs,hq⟩|⟨rfl,o,hk,hc,hd⟩|⟨rfl,hk⟩|⟨rfl,S,n,hk⟩
  ·obtain ⟨its,_,pl,_⟩:=I.list hq
   refine ⟨pl.isList.typeIs,fun a e=>?_⟩
   cases e
   obtain ⟨o,n,e,c,hd,_⟩:=pl
   exact ⟨o,e,hd⟩
  ·refine ⟨⟨o,I.kIn p o hk,hc⟩,fun a e=>?_⟩
   cases e
   exact ⟨o,I.kIn _ o hk,hd⟩
  ·have z:∃o,s.heap.get? p=some o∧o.ExactDict:=by
    rcases hk with ⟨kvs,hk⟩|⟨kvs,hk⟩
    ·obtain ⟨_,_,_,_,o,_,_,e,ex,_⟩:=I.hok p _ hk
     exact ⟨o,e,ex⟩
    ·obtain ⟨_,_,_,_,o,_,_,e,ex,_⟩:=I.hok p _ hk
     exact ⟨o,e,ex⟩
   obtain ⟨o,e,ex⟩:=z
   refine ⟨⟨o,e,ex.1⟩,fun a e2=>?_⟩
   cases e2
   exact ⟨o,e,ex.2.1⟩
  ·obtain ⟨o,_,_,_,e,ex,_⟩:=I.hok p _ hk
   refine ⟨⟨o,e,ex.1⟩,fun a e2=>?_⟩
   cases e2
   exact ⟨o,e,ex.2.1⟩
 |_=>exact False.elim ty
def IR (K:PySem.W.Frag) (T:String) (r:V→List V→Hp→VK→Prop) (to:TE) (t:TA):TE:=fun σ H Q=>to σ H fun x H1=>uH K T x H1∧t σ H1 fun xs H2=>r x xs H2 Q
variable {o e:Expr} {es:List Expr} {to:TE} {t:TA} {name:Str} {apos cpos:Pos} {T id:String} {r:V→List V→Hp→VK→Prop}
theorem yS (pa:PlainAttrs T) (slot:Slot T name id) (hty:typeOf (.builtin id)=pure (.type "method_descriptor")) (hm:uM X id r) (ho:PE X o to) (ha:PA X (e::es) t)
  (hbase:attributeBase o name X.env (eval o X.env)=eval o X.env:=by rfl)
  (hfew:((backTo cpos (starEach (e::es) X.env)).all (fun x => !x.1)&&(backToKw cpos (keywordEach [] X.env)).all (fun x=>x.1.isSome)
   && decide ((e::es).length+([]:List Keyword).length+(if ([]:List Keyword).isEmpty then 0 else 1)<30))=true:=by rfl)
  (hline:(apos.endLine == cpos.line)=true:=by rfl) (hs:starEach (e::es) X.env=(false,eval e X.env)::starEach es X.env:=by rfl) (hplain:(backTo cpos (starEach es X.env)).any (·.1)=false:=by rfl) :
  PE X (.Call (.Attribute o name apos) (e::es) [] cpos) (IR X.K T r to t):=by
 intro pins s σ H Q I h
 refine wpAny_Call_method_late hbase hfew hline rfl (jW (ho pins s σ H _ I h) fun v s1 ⟨x,H1,I1,r1,ty,q1⟩=>?_)
 obtain ⟨h1,h2⟩:=FO I1 r1 ty
 refine ⟨T,id,pa,slot,hty,h1,h2,?_⟩
 have hA:=ha cpos pins s1 σ H1 _ I1 q1
 rw [hs] at hA ⊢
 refine Calls.callWith_builtin (by show (false||(backTo cpos (starEach es X.env)).any (·.1))=false;rw [hplain]<;>rfl) (Calls.evalArgs_plain ?_)
 exact jW hA fun us s2 ⟨vs,H2,I2,r2,q2⟩=>hm pins s2 σ H2 x vs v us Q I2 r1 r2 q2
/- xs.append(e),list.index on a module's tuple .. are uM facts of 06m -/
end
end L2
namespace L2
open PySem PySem.Spec PyProof.Rows
def uN (X:Cx) (id:String) (r:V→List V→Hp→VK→Prop):Prop :=
 ∀(pins:List (Addr×Obj)) (s:Shared) (σ:St) (H:Hp) (x:V) (xs:List V) (v:Value) (us:List Value) (Q:VK),Inv X pins σ H s→RelV x v→Vals xs us→r x xs H Q→
  wpAny (model X.prog X.w) X.A (call (.builtin id) (v::us)) (EP X pins σ Q) X.xe s
theorem Vals.one:∀{x:V} {us:List Value},Vals [x] us→∃u,us=[u]∧RelV x u
 |_,_,.cons r .nil=>⟨_,rfl,r⟩
theorem Vals.rep {xs:List V} {us:List Value} (h:Vals xs us):∀k:Nat,Vals (List.replicate k xs).flatten (List.replicate k us).flatten
 |0=>.nil
 |k+1=>by
  rw [List.replicate_succ,List.replicate_succ,List.flatten_cons,List.flatten_cons]
  exact Vals.append h (Vals.rep h k)
theorem pA (its:List Value):∀(k:Nat) (acc:List Value),
  List.foldl (fun x1 x2=>x1++x2) acc.toArray (List.replicate k its.toArray)=(acc++(List.replicate k its).flatten).toArray
 |0,acc=>by simp
 |k+1,acc=>by
  have e:acc.toArray++its.toArray=(acc++its).toArray:=by simp
  have e2:(acc++its)++(List.replicate k its).flatten=acc++(List.replicate (k+1) its).flatten:=by
   rw [List.replicate_succ,List.flatten_cons,List.append_assoc]
  rw [← e2,← pA its k (acc++its),← e,List.replicate_succ,List.foldl_cons]
section
variable {X:Cx} {pins:List (Addr×Obj)} {σ:St} {H:Hp} {s:Shared} {l b:Addr} {xs ys zs:List V}
theorem Inv.lset {its its':List Value} {n:Nat} {f:Array Value→Array Value} {t':Nat} (I:Inv X pins σ H s) (hH:H l=some (.lst xs))
  (e:s.heap.get? l=some {cls:=.type "list",data:=.seq its.toArray n}) (hf:f its.toArray=its'.toArray) (hv:Vals ys its') (hz:ys.length≤sizeLine) :
  Inv X pins σ (upd H l (.lst ys)) {s with heap:=s.heap.update l (Obj.mapSeq f),toks:=t'}:=by
 have q:=PySem.IsL.update e f
 rw [hf] at q
 refine I.write (x:=l) (e:=l) (by rw [hH];exact trivial) (.inl rfl) (fun b' u hb hu=>(Heap.get?_update_other s.heap (Obj.mapSeq f) (Ne.symm hb)).trans hu) ⟨_,q⟩ ?_
 exact ⟨hz,its',_,hv,q⟩
theorem Inv.lnew {its:List Value} {t':Nat} (I:Inv X pins σ H s) (hv:Vals ys its) (hz:ys.length≤sizeLine) :
  Inv X pins σ (upd H s.heap.objs.size (.lst ys)) {s with heap:=s.heap.push {cls:=.type "list",data:=.seq its.toArray},toks:=t'} :=
 I.laid (fun _ _ q=>Heap.get?_push_of_some _ q) (Nat.le_refl _) ⟨hz,its,0,hv,Heap.get?_push_size _ rfl⟩
theorem Inv.fresh (I:Inv X pins σ H s):H s.heap.objs.size=none:=I.hok.fresh (Nat.le_refl _)
theorem Inv.lstM (I:Inv X pins σ H s) (hH:H l=some (.lst xs)):xs.length≤sizeLine∧∃(its:List Value) (n:Nat),Vals xs its∧xs.length=its.length∧s.heap.get? l=some {cls:=.type "list",data:=.seq its.toArray n}:=by
 obtain ⟨z,its,n,r,e⟩:=I.hok l _ hH
 exact ⟨z,its,n,r,r.length,e⟩
theorem EA {n:Nat} (h:n≤sizeLine):Builtin.List.listTooLong n=false:=by
 unfold Builtin.List.listTooLong
 exact decide_eq_false (by omega)
end
section
variable {X:Cx}
def EY:V→List V→Hp→VK→Prop:=fun x vs H Q=>∃l xs y,x=.ref l∧vs=[y]∧H l=some (.lst xs)∧xs.length<sizeLine∧Q .non (upd H l (.lst (xs++[y])))
theorem yM:uN X "list.append" EY:=by
 intro pins s σ H x vs v us Q I rx rv h
 obtain ⟨l,xs,y,rfl,rfl,hH,hz,q⟩:=h
 cases rx
 obtain ⟨u,rfl,ru⟩:=rv.one
 obtain ⟨z,its,n,r,hl,e⟩:=I.lstM hH
 refine call_meets F.slot_list_append ⟨_,e,rfl⟩ F.entry_list_append (F.args_list_append_2 _ _) (PySem.list_append l its.toArray n u (by rw [List.size_toArray];omega)) ⟨e,?_⟩
 refine ⟨.non,_,I.lset (its':=its++[u]) hH e (by simp) (r.append (.cons ru .nil)) ?_,rfl,q⟩
 rw [List.length_append,List.length_singleton]
 omega
def IC:R2:=fun x y H Q=>∃l b xs zs,x=.ref l∧y=.ref b∧H l=some (.lst xs)∧H b=some (.lst zs)∧xs.length+zs.length≤sizeLine∧∀p,H p=none→Q (.ref p) (upd H p (.lst (xs++zs)))
theorem JG:qQ X (binaryOp .Add) IC:=by
 intro pins s σ H x y v u Q I rx ry h
 obtain ⟨l,b,xs,zs,rfl,rfl,hH,hB,hz,q⟩:=h
 cases rx
 cases ry
 obtain ⟨z,its,n,r,hl,e⟩:=I.lstM hH
 obtain ⟨z2,its2,n2,r2,hl2,e2⟩:=I.lstM hB
 refine PySem.P.add_list e e2 ?_ (by rw [List.size_toArray,List.size_toArray];omega)
 have ea:its.toArray++its2.toArray=(its++its2).toArray:=by simp
 rw [ea]
 exact ⟨.ref _,_,I.lnew (t':=s.toks) (r.append r2) (by rw [List.length_append];omega),rfl,q _ I.fresh⟩
def H0:R2:=fun x y H Q=>∃l k xs,x=.ref l∧y=.int k∧H l=some (.lst xs)∧-(2 ^ 63)≤k∧k<2 ^ 63∧xs.length*k.toNat≤sizeLine∧
 ∀p,H p=none→Q (.ref p) (upd H p (.lst (List.replicate k.toNat xs).flatten))
theorem FD {α:Type} (xs:List α) (k:Nat):(List.replicate k xs).flatten.length=k*xs.length:=by
 induction k with
 |zero=>simp
 |succ k ih=>rw [List.replicate_succ,List.flatten_cons,List.length_append,ih,Nat.succ_mul,Nat.add_comm]
theorem FW:qQ X (binaryOp .Mult) H0:=by
 intro pins s σ H x y v u Q I rx ry h
 obtain ⟨l,k,xs,rfl,rfl,hH,h1,h2,hz,q⟩:=h
 cases rx
 obtain ⟨t,rfl⟩:=ry
 obtain ⟨z,its,n,r,hl,e⟩:=I.lstM hH
 have hlen:its.toArray.size*k.toNat≤sizeLine:=by rw [List.size_toArray,← hl];exact hz
 have hcap:¬its.toArray.size*k.toNat>(2 ^ 63 - 1) / 8:=by
  have:(sizeLine:Nat)≤(2 ^ 63 - 1) / 8:=by decide
  omega
 have hfit:¬(!Builtin.List.listFitsIndex k)=true:=by
  rw [fitsIndex_both h1 h2]
  exact Bool.false_ne_true
 have hlong:¬Builtin.List.listTooLong (its.toArray.size*k.toNat)=true:=by
  rw [EA hlen]
  exact Bool.false_ne_true
 have hnew:List.foldl (fun x1 x2=>x1++x2) #[] (List.replicate (if its.toArray.isEmpty=true then 0 else k.toNat) its.toArray)=(List.replicate k.toNat its).flatten.toArray:=by
  have f0:∀m:Nat,List.foldl (fun x1 x2=>x1++x2) #[] (List.replicate m its.toArray)=(List.replicate m its).flatten.toArray:=fun m=>by
   have:=pA its m []
   rw [List.nil_append] at this
   exact this
  rw [f0]
  cases its with
  |nil=>simp
  |cons a r'=>rw [if_neg (by simp)]
 refine wpAny_binaryOp_repeat_ref (T:="list") (U:="int") (by decide) ⟨_,e,rfl⟩ (fun s'=>typeIs_int s' k t) noFill_list_mul F.fills_int_mul F.slot_int_rmul repeat_list F.slot_int_index.lookup
  (call_meets F.slot_int_rmul (typeIs_int s k t) F.entry_int_rmul (F.args_int_rmul_2 _ _) (int___rmul___int_list k t l its.toArray n)
   ⟨e,rfl,⟨_,e,rfl⟩,call_meets F.slot_list_mul ⟨_,e,rfl⟩ F.entry_list_mul (F.args_list_mul_2 _ _) (AutoListH.list___mul___list_int_3 l its.toArray n k t hfit hcap hlong) ⟨e,?_⟩⟩)
 rw [hnew]
 exact ⟨.ref _,_,I.lnew (t':=s.toks) (r.rep k.toNat) (by rw [FD,Nat.mul_comm];exact hz),rfl,q _ I.fresh⟩
end
section
variable {prog:Program} {w:World} {A:Around} {E:Value→Shared→Prop} {s:Shared}
end
section
variable {X:Cx}
end
end L2
namespace Att
open PySem PySem.W PySem.Calls PyProof.Rows
theorem BK {P:Params} {h:Heap}:∀(ns:List Int) (vs:List Value),WellAll P h vs (ns.map WData.int)→IntsAre vs ns:=by
 intro ns
 induction ns with
 |nil =>
  intro vs w
  rw [List.map_nil] at w
  cases w
  exact .nil
 |cons n ns ih =>
  intro vs w
  rw [List.map_cons] at w
  cases w with
  |cons a b =>
   cases a
   exact .cons _ _ (ih _ b)
theorem C1 {l:OpenLaw} {n:Nat} (hn:l.most=some n) {P:Params} {h:Heap} {args:List WData} {vals:List Value}
  (hpre:l.row.toRowW.claim.pre args=true) (hwl:WellAll P h vals args) :
  ∃a vs ns,vals=[Value.ref a]∧args=[WData.list (ns.map WData.int)]∧h.get? a=some {cls:=.type "list",data:=.seq vs.toArray}∧IntsAre vs ns∧ns.length≤n:=by
 have hsh:WShape.hasAll [] args [.list .int]=true:=(pre_splitW hpre).1
 have hc:l.pre.holds [] {args:=args}=true:=(pre_splitW hpre).2
 obtain ⟨d,r,rfl,h1,h2⟩:=hasAllW_cons hsh
 obtain rfl:=hasAllW_nil h2
 obtain ⟨xs,rfl,h3⟩:=hasW_list h1
 obtain ⟨ns,rfl⟩:=items_int h3
 have hlen:ns.length≤n:=by
  unfold OpenLaw.pre at hc
  have h4:(WTm.not (.lt (.lit (.int (n:Int))) (.len (.arg 0)))).holds [] {args:=[.list (ns.map .int)]}=true:=by
   have h4:=(holds_andW hc).1
   rw [hn] at h4
   exact h4
  have h5:=condW_of h4 (w_not (w_lt w_lit (w_len_list (w_arg rfl))))
  rw [List.length_map] at h5
  refine Nat.le_of_not_lt fun q=>?_
  have q':(n:Int)<((ns.length:Nat):Int):=by omega
  first
   | (rw [decide_eq_true q'] at h5;exact absurd h5 (by decide))
   | (simp at h5;omega)
 cases hwl with
 |cons w1 w2 =>
  cases w2
  cases w1 with
  |list ho hall=>exact ⟨_,_,ns,rfl,rfl,ho,BK ns _ hall,hlen⟩
theorem C4 (l:OpenLaw) (args:List WData):l.row.toRowW.claim.post args (.bool true) args=true :=
 postW_of (r:=l.row.toRowW) (X:=(true == true))
  (show WShape.has [] (.bool true) .bool=true by first|rfl|decide|simp [WShape.has,WShape.arms,WShape.armsAll])
  (show (WTm.eq .res (.lit (.bool true))).value [] {args:=args,res:=some (.bool true),after:=args}=some (.bool (true == true)) from w_eq_bool (w_res rfl) w_lit) rfl
theorem attach_call {l:OpenLaw} {n:Nat} {q:Program} {loose:List Str} {XP:(Str→Option Value)→Heap→Prop} {YP:World→Heap→Prop} {d:DefRec}
  (hn:l.most=some n) (hdf:d.params.defaults=[])
  (call:∀(w:World) (s₀ s₁:Shared) (mg mb:Str→Option Value) (fa:Addr) (o:Obj) (pm cd doc:Value) (a:Addr) (vs:List Value) (ns:List Int),
   Ground q loose [] XP w s₀ mg mb s₁.heap→YP w s₁.heap→
   s₁.heap.get? fa=some o→o.data=.func (docDef d.name d.params d.body d.scope pm cd doc)→s₁.heap.CodeRec cd d.name→mg d.name=some (.ref fa)→
   s₁.heap.get? a=some {cls:=.type "list",data:=.seq vs.toArray}→IntsAre vs ns→ns.length≤n→s₁.gens = #[]→
   codeAny (model l.prog w) callerA (.call (.ref fa) ⟨[.ref a],[]⟩) (fun r s'=>r=.ok (.ret (.bool true))∧OldK s₁.heap s'.heap∧s'.os=s₁.os∧AllBare s'.gens) s₁) :
  WalkO q loose XP YP l.row.toRowW d [] (fun f vs=>PySem.call f vs):=by
 intro w s₀ s₁ mg mb G Y fa o pm cd doc dV kV ho hd hcd hD hmg hg args vals as hpre hlay hrd hwl hlo
 obtain rfl:dV=.none:=Dflts.none hD hdf
 obtain rfl:kV=.none:=Dflts.noKw hD
 obtain ⟨a,vs,ns,rfl,rfl,hobj,hints,hlen⟩:=C1 hn hpre hwl
 refine enter_call (codeAny_mono (call w s₀ s₁ mg mb fa o pm cd doc a vs ns G Y ho (fd_plain hd) hcd hmg hobj hints hlen hg) fun r s' hq=>?_)
 obtain ⟨rfl,h2,h3,h4⟩:=hq
 exact ⟨.inl ⟨.bool true,.bool true,[],rfl,fun _=>rfl,.bool true,C4 l _,fun _=>⟨List.Pairwise.nil,fun _ hm=>(nomatch hm)⟩⟩,h2,h3,h4⟩
section
variable {prog:Program} {w:World} {A:Around} {E:Value→Shared→Prop} {s:Shared} {K:Frag}
def IV (h:Heap) (L d:Addr):List (Addr×Obj):=(List.range h.objs.size).filterMap fun a=>if a=L∨a=d then none else (h.get? a).map fun o=>(a,o)
end
end Att
namespace L2
open PySem PySem.Spec PyProof.Rows
theorem oQ:∀{vs:List Value} {ns:List Int},IntsAre vs ns→Vals (ns.map V.int) vs
 |_,_,.nil=>.nil
 |_,_,.cons n t h=>.cons ⟨t,rfl⟩ (oQ h)
def mT (H:Hp):Prop:=∀b,H b=none∨∃o xs,H b=some (.frz o (.lst xs))
theorem EF {P:Program} {w:World} {K:PySem.W.Frag} {mg mb:Str→Option Value} {CX:yF} {k:Nat} {fa a:Addr} {fd:FuncData} {x:Str} {sp:Sp} {s₁:Shared} {vs:List Value} {ns:List Int}
  (KX:K.In s₁.heap) (hns:s₁.heap.Ns mainGlobals mg) (hb:s₁.heap.Ns builtinsNs mb) (hbb:∀x:Str,x≠"__name__"→mb x=bootBuiltins x) (hlim:s₁.heap.NoLimit) (hg:s₁.gens = #[])
  (ha:s₁.heap.get? a=some {cls:=.type "list",data:=.seq vs.toArray}) (hi:IntsAre vs ns) (hl:ns.length≤sizeLine) (hr:Room k callerA)
  (F:∀base:Heap,K.In base→base.Ns mainGlobals mg→FnOk P w K mg base CX k fa fd [x] sp) (hbind:∀(s:Shared) (u:Value),BindsTo s fd ⟨[u],[]⟩ [(x,u)])
  (hsp:∀H:Hp,mT H→SqL K H a (ns.map V.int)→sp [.ref a] H (fun v _=>v=.bl true) fun _ _ _=>False)
  (hCX:∀H e s',CX [] H s₁ (fun _ _ _=>False) e s'→False) :
  codeAny (model P w) callerA (.call (.ref fa) ⟨[.ref a],[]⟩) (fun r s'=>r=.ok (.ret (.bool true))∧OldK s₁.heap s'.heap∧s'.os=s₁.os∧AllBare s'.gens) s₁:=by
 have rv:=oQ hi
 have lenV:=hi.length
 have core:∀H:Hp,mT H→SqL K H a (ns.map V.int)→HOk P w H s₁.heap→(∀b,H b≠none→b=a)→(H a≠none→K.lookup a=none)→
   codeAny (model P w) callerA (.call (.ref fa) ⟨[.ref a],[]⟩) (fun r s'=>r=.ok (.ret (.bool true))∧OldK s₁.heap s'.heap∧s'.os=s₁.os∧AllBare s'.gens) s₁:=by
  intro H hO hS hok hA hK
  have base_of:∀{b:Addr} {o:Obj},s₁.heap.get? b=some o→H b=none→(JP s₁.heap H).get? b=some o:=fun e n=>EG e n
  have noA:∀{b:Addr} {o:Obj} {es:Array DictEntry} {ep:Nat},s₁.heap.get? b=some o→o.data=.dict es ep→H b=none:=fun {b o es ep} e d=>by
   cases q:H b with
   |none=>rfl
   |some u =>
    have e':b=a:=hA b (by rw [q];simp)
    subst e'
    rw [ha] at e;cases e
    have d':Data.seq vs.toArray _=Data.dict es ep:=d
    cases d'
  have nsK:∀{b:Addr} {m:Str→Option Value},s₁.heap.Ns b m→(JP s₁.heap H).Ns b m:=fun {b m} ⟨o,es,ep,e,d,r⟩=>⟨o,es,ep,base_of e (noA e d),d,r⟩
  have hKb:K.In (JP s₁.heap H):=fun b o e=>base_of (KX b o e) (by
   cases q:H b with
   |none=>rfl
   |some u =>
    have e':b=a:=hA b (by rw [q];simp)
    subst e'
    rw [hK (by rw [q];simp)] at e;cases e)
  have hM:Mod K mg (JP s₁.heap H):=⟨hKb,nsK hns,⟨mb,nsK hb,hbb⟩,let ⟨mc,h1,h2⟩:=hlim;⟨mc,nsK h1,h2⟩⟩
  have e0:Env0 P w K mg (JP s₁.heap H) callerA [] s₁ H:=⟨rfl,hM,fun b o e=>E8 e,Nat.le_of_eq (DD _ _),trivial,fun b hb=>absurd (show b∈([]:List Addr) from hb) (by simp),hok,.of_eq hg⟩
  refine codeAny_mono ((F _ hKb (nsK hns)).run callerA [] s₁ H ⟨[.ref a],[]⟩ [.ref a] [.ref a] _ _ hr e0 (hbind s₁ (.ref a)) (.cons rfl .nil) (hsp H hO hS)) fun r s' h=>?_
  cases r with
  |error e=>exact (hCX H e s' h).elim
  |ok fl =>
   cases fl with
   |next=>exact False.elim h
   |brk=>exact False.elim h
   |cont=>exact False.elim h
   |ret u =>
    obtain ⟨v,H',os,bare,un,hok',r',q⟩:=h
    have q':v=.bl true:=q
    subst q'
    obtain rfl:u=Value.bool true:=r'
    refine ⟨rfl,OldK.of_keep fun b o e=>?_,os,bare⟩
    cases q:H b with
    |none=>exact un.keep b o e q (by intro z;exact absurd (show b∈([]:List Addr) from z) (by simp)) (by simp)
    |some u =>
     rcases hO b with z|⟨ob,xs,z⟩
     ·rw [q] at z;cases z
     ·have z2:=un.frzs b ob _ z
      obtain ⟨e1,_⟩:=hok b _ z
      obtain ⟨e2,_⟩:=hok' b _ z2
      rw [e] at e1;cases e1
      exact e2
 cases hk:K.lookup a with
 |some o =>
  have e:=KX a o hk
  rw [ha] at e
  cases e
  refine core (fun _=>none) (fun _=>.inl rfl) (.inr ⟨_,vs.toArray,_,hk,rfl,rfl,rfl,by rw [List.size_toArray,lenV];exact hl,by simpa using rv⟩) (fun b u z=>by have z':(none:Option HO)=some u:=z;cases z') (fun b z=>absurd rfl z) fun z=>absurd rfl z
 |none =>
  refine core (fun b=>if b=a then some (.frz {cls:=.type "list",data:=.seq vs.toArray} (.lst (ns.map V.int))) else none) (fun b=>?_) (.inl (.inr ⟨{cls:=.type "list",data:=.seq vs.toArray},if_pos rfl⟩)) (fun b u z=>?_) (fun b z=>?_) fun _=>hk
  ·by_cases hb:b=a
   ·exact .inr ⟨_,_,if_pos hb⟩
   ·exact .inl (if_neg hb)
  ·by_cases hb:b=a
   ·have z':=(if_pos hb).symm.trans z
    cases z'
    subst hb
    exact ⟨ha,by rw [List.length_map];exact hl,vs,_,rv,ha⟩
   ·have z':=(if_neg hb).symm.trans z
    cases z'
  ·by_cases hb:b=a
   ·exact hb
   ·exact absurd (if_neg hb) z
end L2
namespace L2
open PySem PySem.Spec PyProof.Rows
abbrev KOf {K:PySem.W.Frag} {h:Heap} (_:K.In h):PySem.W.Frag:=K
theorem walk_of {l:PySem.W.OpenLaw} {n k:Nat} {q:Program} {loose:List Str} {XP:(Str→Option Value)→Heap→Prop} {YP:World→Heap→Prop} {d:DefRec} {K:Params→PySem.W.Frag} {CX:World→yF} {sp:World→Sp} {x:Str}
  (hn:l.most=some n) (hn2:n≤sizeLine) (hdf:d.params.defaults=[]) (hr:Room k callerA)
  (hY:∀(w:World) (h:Heap),YP w h→(K w.params).In h)
  (F:∀(w:World) (mg:Str→Option Value) (fa:Addr) (h:Heap),(K w.params).In h→h.Ns mainGlobals mg→mg d.name=some (.ref fa)→
   ∃fd:FuncData,(∀(s:Shared) (u:Value),BindsTo s fd ⟨[u],[]⟩ [(x,u)])∧
    ∀base:Heap,(K w.params).In base→base.Ns mainGlobals mg→FnOk l.prog w (K w.params) mg base (CX w) k fa fd [x] (sp w))
  (hsp:∀(w:World) (H:Hp) (a:Addr) (ns:List Int),ns.length≤n→mT H→SqL (K w.params) H a (ns.map V.int)→sp w [.ref a] H (fun v _=>v=.bl true) fun _ _ _=>False)
  (hCX:∀(w:World) (H:Hp) (s:Shared) (e:Value) (s':Shared),CX w [] H s (fun _ _ _=>False) e s'→False) :
  PySem.W.WalkO q loose XP YP l.row.toRowW d [] (fun f vs=>PySem.call f vs):=by
 refine Att.attach_call hn hdf fun w s₀ s₁ mg mb fa o pm cd doc a vs ns G Y ho hd hcd hmg hobj hints hlen hg=>?_
 have KX:=hY w _ Y
 obtain ⟨fd,hb,hF⟩:=F w mg fa _ KX G.T.g hmg
 exact EF KX G.T.g G.T.b G.T.builtins G.T.nolimit hg hobj hints (Nat.le_trans hlen hn2) hr hF hb (fun H hO hS=>hsp w H a ns hlen hO hS) fun H e s'=>hCX w H s₁ e s'
end L2
/- THE LAST THEOREM (shape;LID,My.* are yours):
  My.Adr: a structure of the addresses that your layer names (classes,functions);My.Txt K t: a structure (Prop) of the equations over K;
  My.txt_mk:{K} {implicit addresses ..} (e1:nsIn K mainGlobals "law"=some (some (.ref f))) (e2:K.lookup f=some ⟨oc,od,.func (fnOf "law" "law" params body scope dV kV doc pm an cdv ct),sl⟩) (e3:codeIn K cdv "law"=true) .. : ∃t,My.Txt K t
set_option maxRecDepth 100000 in
set_option maxHeartbeats 0 in
theorem PySem.Challenge.cw_LID_holds : PySem.Challenge.rw_LID.Holds := by
 w_on;o_law;k_head;(case hw=>w_witness2)
 k_fill
 refine L2.walk_of (l:=PySem.Challenge.rw_LID) (n:=63) (k:=40) (x:="script") (CX:=fun w=>..) (sp:=fun _=>My.sp_law) rfl (by decide) rfl ⟨rfl,by decide,by decide⟩ (fun w h Y=>PySem.W.kIn_of Y) ?F ?S ?C
 case F =>
  intro w mg fa h KX G hmg
  have T:∃t,My.Txt (L2.KOf KX) t:=by
   dsimp only [L2.KOf] -- K must stand as «<heap const> w.params» for k_is
   refine' My.txt_mk ?e1 ?e2 ?e3 ..
   (case e1=>PySem.W.k_is) -- in the order: a name -> its address -> its object -> its parts
   (case e2=>PySem.W.k_is)
   ..
  obtain ⟨t,T⟩:=T
  have e0:=hmg.symm.trans (PySem.W.mg_of KX G T.law)
  cases e0 -- fa is the law's own address
  exact ⟨_,fun s u=>.of_eq rfl,fun base kb nb=>My.law_fn T kb nb⟩ -- if «.of_eq rfl» comes too early: refine' ⟨_,?b,fun base kb nb=>My.law_fn T kb nb⟩;exact fun s u=>.of_eq rfl
 case S=>exact fun w H a ns hl hO hS=>..
 case C=>exact ..
(the tactic k_is has no namespace: write k_is) -/
namespace L2
open PySem PySem.Spec PyProof.Rows
def qW (s:Stmt) (j:Nat):Stmt:=match s with
 |.ClassDef _ _ _ body _ _ _ _ _ _ _=>body.getD j (.Pass ⟨0,0,0,0⟩)
 |_=>.Pass ⟨0,0,0,0⟩
def jV (s:Stmt):Arguments:=match s with
 |.FunctionDef _ a _ _ _ _ _ _ _ _=>a
 |_=>{posonlyargs:=[],args:=[],vararg:=none,kwonlyargs:=[],kw_defaults:=[],kwarg:=none,defaults:=[]}
def jS (s:Stmt):List Stmt:=match s with
 |.FunctionDef _ _ b _ _ _ _ _ _ _=>b
 |_=>[]
def jF (s:Stmt):Scope:=match s with
 |.FunctionDef _ _ _ _ _ _ sc _ _ _=>sc
 |_=>{kind:=.function,names:=[],isGenerator:=false,isCoroutine:=false}
abbrev jU:yF:=fun _ _ _ _ _ _=>False
abbrev E0:XK:=fun _ _ _=>False
theorem Q6 {X:Cx}:Q5 jU X E0:=fun _ _ _ _ _ _ _ h=>h.elim
structure Fun (K:PySem.W.Frag) (x qual:Str) (st:Stmt) (f:Addr) (fd:FuncData):Prop where
 ex:∃(oc:Value) (od:Option Addr) (kV doc pm:Value) (an:Option Addr) (cdv ct:Value) (osl:Array (Option Value)),
  fd=PySem.W.fnOf x qual (jV st) (jS st) (jF st) .none kV doc pm an cdv ct∧K.lookup f=some ⟨oc,od,.func fd,osl⟩∧PySem.W.codeIn K cdv qual=true
 kp:PySem.W.keepIn K (.ref f)=true
section
variable {P:Program} {w:World} {K:PySem.W.Frag} {mg:Str→Option Value} {base:Heap}
theorem Fun.ok {x qual:Str} {st:Stmt} {f:Addr} {fd:FuncData} {N ps:List Str} {k:Nat} {sp:Sp} (F:Fun K x qual st f fd) (S:FnScope N ps (jF st)) (len:∀vs H Q E,sp vs H Q E→vs.length=ps.length)
  (hbody:∀(cdv:Value) (A:Around) (outer:List Env) (s:Shared) (H:Hp) (vs:List V) (Q:VK) (E:XK),Room k (A.deeper (envOfC qual (jF st) s.heap.objs.size f cdv))→sp vs H Q E→
   ∃t,PSs (vX jU P w K mg base N qual (jF st) f cdv A outer s H E).nox (jS st) t∧t {nx:=fun _ H'=>Q .non H',rt:=Q} (start N vs) H):FnOk P w K mg base jU (k+1) f fd ps sp:=by
 obtain ⟨oc,od,kV,doc,pm,an,cdv,ct,osl,rfl,lk,hcd⟩:=F.ex
 refine mI lk hcd S len fun A outer s H vs Q E hr hsp=>?_
 obtain ⟨t,h,q⟩:=hbody cdv A outer s H vs Q E hr hsp
 exact ⟨t,h.nox,q⟩
theorem Fun.binds {x qual:Str} {st:Stmt} {f:Addr} {fd:FuncData} {ps:List Str} (F:Fun K x qual st f fd)
  (h:∀(kV doc pm:Value) (an:Option Addr) (cdv ct:Value) (us:List Value),us.length=ps.length→bindArgs (PySem.W.fnOf x qual (jV st) (jS st) (jF st) .none kV doc pm an cdv ct) ⟨us,[]⟩=pure (ps.zip us)):Binds K fd ps []:=by
 obtain ⟨oc,od,kV,doc,pm,an,cdv,ct,osl,rfl,lk,hcd⟩:=F.ex
 exact .all (h kV doc pm an cdv ct)
theorem jZ {x qual:Str} {st:Stmt} {f:Addr} {oc:Value} {od an:Option Addr} {osl:Array (Option Value)} {kV doc pm cdv ct:Value} (l:K.lookup f=some ⟨oc,od,.func (PySem.W.fnOf x qual (jV st) (jS st) (jF st) .none kV doc pm an cdv ct),osl⟩)
  (c:PySem.W.codeIn K cdv qual=true) (k:PySem.W.keepIn K (.ref f)=true):Fun K x qual st f (PySem.W.fnOf x qual (jV st) (jS st) (jF st) .none kV doc pm an cdv ct):=⟨⟨oc,od,kV,doc,pm,an,cdv,ct,osl,rfl,l,c⟩,k⟩
end
theorem jY {A:Around} {k:Nat} (hr:Room k A):A.units+1<cLine:=Nat.lt_of_le_of_lt (Nat.add_le_add_left (by decide:1≤64) _) hr.units
theorem qM {n:Nat} (h:n≤1000):n<sizeLine:=Nat.lt_of_le_of_lt h (by decide)
section
variable {X:Cx}
theorem pv (i:Nat) {x:Str} {pos:Pos} (hN:X.N[i]?=some x:=by rfl) (hv:gT X.env.scope x:=by first|exact Or.inl rfl|exact Or.inr (Or.inl rfl)|exact Or.inr (Or.inr rfl)) (hd:(x == ("__debug__":Str))=false:=by decide)
  (hcd:(x == ("__classdict__":Str))=false:=by decide):PE X (.Name x pos) (t6 i):=FS hN hv hd hcd
end
theorem qF {A B:Prop} (h:B):if false=true then A else B:=by
 rw [if_neg Bool.false_ne_true]
 exact h
theorem kU {A B:Prop} (h:A):if true=true then A else B:=by
 rw [if_pos rfl]
 exact h
theorem uD {c A B:Prop} [Decidable c] (h1:c→A) (h2:¬c→B):if c then A else B:=by
 by_cases h:c
 ·rw [if_pos h]
  exact h1 h
 ·rw [if_neg h]
  exact h2 h
theorem JN {c A B:Prop} [Decidable c] (hc:c) (h:B):if (!decide c)=true then A else B:=by
 rw [decide_eq_true hc]
 exact qF h
def Same (H H':Hp):Prop:=∀b o,H b=some o→H' b=some o
theorem Same.refl (H:Hp):Same H H:=fun _ _ h=>h
theorem Same.trans {H H1 H2:Hp} (a:Same H H1) (b:Same H1 H2):Same H H2:=fun c o h=>b c o (a c o h)
theorem Same.free {H H':Hp} (e:Same H H') {l:Addr} (h:H' l=Option.none):H l=Option.none:=by
 cases q:H l with
 |none=>rfl
 |some o =>
  rw [e l o q] at h
  cases h
theorem Same.seq {K:PySem.W.Frag} {H H':Hp} {a:Addr} {xs:List V} (e:Same H H') (h:SqL K H a xs):SqL K H' a xs:=by
 rcases h with (h|⟨o,h⟩)|h
 ·exact .inl (.inl (e _ _ h))
 ·exact .inl (.inr ⟨o,e _ _ h⟩)
 ·exact .inr h
end L2
namespace L2
open PySem PySem.Spec PyProof.Rows
def vS (cells:List (Str×Addr)):List (Str×NameKind)→List (Str×Addr)→List (Str×Addr)
 |[],cs=>cs
 | (n,k)::r,cs=>if (k == NameKind.free)=true then vS cells r ((n,(cells.lookup n).getD 0)::cs) else vS cells r cs
theorem nK {scope:Scope} {env:Env} (h:∀x∈scope.names,x.2=.free→∃c,env.cells.lookup x.1=some c):closureFor scope env=pure (vS env.cells scope.names []):=by
 simp only [closureFor]
 have go:∀(l:List (Str×NameKind)) (cs:List (Str×Addr)),(∀x∈l,x.2=.free→∃c,env.cells.lookup x.1=some c)→
   (forIn l cs fun x r=>match x with|(name,kind)=>if (kind == NameKind.free)=true then do let a ← cellOf env name;pure (ForInStep.yield ((name,a)::r)) else pure (ForInStep.yield r):Sem (List (Str×Addr)))=pure (vS env.cells l cs):=by
  intro l
  induction l with
  |nil=>intro cs _;rfl
  |cons p r ih =>
   intro cs hp
   obtain ⟨n,k⟩:=p
   rw [List.forIn_cons]
   have hr:=fun cs=>ih cs fun x hx=>hp x (List.mem_cons_of_mem _ hx)
   by_cases hk:(k == NameKind.free)=true
   ·have hk':k=NameKind.free:=by simpa using hk
    obtain ⟨c,hc⟩:=hp (n,k) List.mem_cons_self hk'
    have hc':env.cells.lookup n=some c:=hc
    simp only [hk,if_true,vS,cellOf,hc',Option.getD_some,pure_bind]
    exact hr _
   ·simp only [hk,if_false,vS,pure_bind]
    exact hr _
 rw [go scope.names [] h]
 rfl
theorem fB {cells:List (Str×Addr)}:∀{l:List (Str×NameKind)} {cs:List (Str×Addr)} {x:Str} {c:Addr},(∀y∈l,y.2=.free→∃c,cells.lookup y.1=some c)→(∀y d,cs.lookup y=some d→cells.lookup y=some d)→
  (vS cells l cs).lookup x=some c→cells.lookup x=some c
 |[],cs,x,c,_,hc,e=>hc x c e
 | (n,k)::r,cs,x,c,hl,hc,e=>by
  unfold vS at e
  by_cases hk:(k == NameKind.free)=true
  ·rw [if_pos hk] at e
   obtain ⟨d,hd⟩:=hl (n,k) List.mem_cons_self (by simpa using hk)
   have hd':cells.lookup n=some d:=hd
   refine fB (fun y hy=>hl y (List.mem_cons_of_mem _ hy)) (fun y d' q=>?_) e
   rw [List.lookup_cons] at q
   by_cases hy:(y == n)=true
   ·rw [hy] at q
    have hyn:y=n:=by simpa using hy
    subst hyn
    rw [hd'] at q ⊢
    exact q
   ·rw [Bool.not_eq_true] at hy
    rw [hy] at q
    exact hc y d' q
  ·rw [if_neg hk] at e
   exact fB (fun y hy=>hl y (List.mem_cons_of_mem _ hy)) hc e
theorem iL {cells:List (Str×Addr)}:∀{l:List (Str×NameKind)} {cs:List (Str×Addr)} {x:Str},(∃c,cs.lookup x=some c)→∃c,(vS cells l cs).lookup x=some c
 |[],_,_,h=>h
 | (n,k)::r,cs,x,h=>by
  unfold vS
  by_cases hk:(k == NameKind.free)=true
  ·rw [if_pos hk]
   refine iL ?_
   rw [List.lookup_cons]
   by_cases hy:(x == n)=true
   ·rw [hy];exact ⟨_,rfl⟩
   ·rw [Bool.not_eq_true] at hy
    rw [hy];exact h
  ·rw [if_neg hk];exact iL h
theorem fJ {cells:List (Str×Addr)}:∀{l:List (Str×NameKind)} {cs:List (Str×Addr)} {x:Str},(x,NameKind.free)∈l→∃c,(vS cells l cs).lookup x=some c
 | (n,k)::r,cs,x,h=>by
  unfold vS
  rcases List.mem_cons.mp h with e|e
  ·cases e
   rw [if_pos (by rfl)]
   exact iL (by rw [List.lookup_cons,beq_self_eq_true];exact ⟨_,rfl⟩)
  ·by_cases hk:(k == NameKind.free)=true
   ·rw [if_pos hk];exact fJ e
   ·rw [if_neg hk];exact fJ e
theorem DK {prog:Program} {w:World} {A:Around} {elt target iter:Expr} {ifs:List Expr} {scope:Scope} {pos:Pos} {it acc:Value} {env:Env} {R:Result→Shared→Prop} {s:Shared} (I:Nat→Shared→Prop)
  (turn:∀n s,I n s→wpAny (model prog w) A (pyNext it) (fun r s₁=>match r with
   |none=>R (.ok .next) s₁
   |some v=>wpAny (model prog w) A (letOwnedTupleGo target it v) (fun _ s₁'=>wpAny (model prog w) A (assign target env v) (fun _ s₂ =>
     wpAny (model prog w) A (forIn ifs true fun c r=>if r=true then do let ok ← isTrue c env (eval c env);pure (ForInStep.yield ok) else pure (ForInStep.yield r)) (fun ok s₃ =>
      if ok=true then wpAny (model prog w) A (eval elt env) (fun x s₄ =>
       wpAny (model prog w) A (call (.builtin "list.append") [acc,x]) (fun _ s₅=>∃m,m<n∧I m s₅) (fun _ _=>False) s₄) (fun _ _=>False) s₃
      else ∃m,m<n∧I m s₃) (fun _ _=>False) s₂) (fun _ _=>False) s₁') (fun _ _=>False) s₁) (fun _ _=>False) s)
  (n:Nat) (h:I n s):codeAny (model prog w) A (.compLoop (.ListComp elt [⟨target,iter,ifs,0⟩] scope pos) 0 it acc env) R s:=by
 refine codeAny_loop rfl I (fun n s hI=>?_) n h
 show wpAny _ A ((compTurn (.ListComp elt [⟨target,iter,ifs,0⟩] scope pos) 0 it acc env).onRaise (fun x=>do noteFrame x env;theTreesLotGoes x)) _ _ s
 refine wpAny_noted ?_
 rw [compTurn_list]
 refine wpAny_bind (wpAny_standAt (wpAny_bind (wpAny_mono (turn n s hI) (fun r s₁ h₁=>?_) fun _ _ h'=>h'.elim)))
 cases r with
 |none=>exact wpAny_pure h₁
 |some v =>
  refine wpAny_bind (wpAny_mono h₁ (fun _ s₁' h₁'=>?_) fun _ _ h'=>h'.elim)
  refine wpAny_bind (wpAny_mono h₁' (fun _ s₂ h₂=>wpAny_bind (wpAny_mono h₂ (fun ok s₃ h₃=>?_) fun _ _ h'=>h'.elim)) fun _ _ h'=>h'.elim)
  cases ok with
  |false=>exact wpAny_pure ⟨rfl,h₃⟩
  |true =>
   exact wpAny_bind (wpAny_bind (wpAny_mono h₃ (fun x s₄ h₄=>wpAny_bind (wpAny_mono h₄ (fun _ s₅ h₅=>wpAny_pure (wpAny_pure ⟨rfl,h₅⟩)) fun _ _ h'=>h'.elim)) fun _ _ h'=>h'.elim))
def vH (X:Cx) (N:List Str) (scope:Scope) (C:Addr) (s:Shared) (H:Hp) (pins:List (Addr×Obj)) (fp:List Addr):Cx where
 prog:=X.prog
 w:=X.w
 K:=X.K
 mg:=X.mg
 base:=X.base
 A:=X.A
 N:=N
 s₀:=s
 H₀:=H
 env:=compEnvC scope (vS X.env.cells scope.names []) C X.env
 outer:=X.stack
 stack:=X.stack
 ex:=fp
 fn:=fun _=>false
 calm:=X.calm
 pn:=X.pn++pins
 xe:=fun _ _=>False
structure CompScope (X:Cx) (scope:Scope):Prop where
 kind:scope.kind=.function
 nocell:∀y∈scope.names,y.2≠.cell
 names:∀y∈scope.names,y.2=.local→scope.names.lookup y.1=some .local
 free:∀y∈scope.names,y.2=.free→X.env.kindOf y.1=some .cell∨X.env.kindOf y.1=some .free
theorem iD {env:Env} {x:Str}:∀{names:List (Str×NameKind)} {k:NameKind},(names.map fun (n,k)=>if (k == NameKind.free&&env.scope.kind == .function&&env.kindOf n == some .cell) then (n,NameKind.cell) else (n,k)).lookup x=some k→
  ∃k',names.lookup x=some k'∧(k'=k∨(k'=.free∧k=.cell∧env.kindOf x=some .cell))
 |[],k,h=>by simp at h
 | (n,k0)::r,k,h=>by
  have ih:=@iD env x r k
  have h':List.lookup x ((if (k0 == NameKind.free&&env.scope.kind == .function&&env.kindOf n == some .cell)=true then (n,NameKind.cell) else (n,k0))::r.map fun (n,k)=>if (k == NameKind.free&&env.scope.kind == .function&&env.kindOf n == some .cell)=true then (n,NameKind.cell) else (n,k))=some k:=h
  by_cases hc:(k0 == NameKind.free&&env.scope.kind == .function&&env.kindOf n == some .cell)=true
  ·rw [if_pos hc] at h'
   rw [List.lookup_cons] at h'
   cases hx:x == n with
   |true =>
    rw [hx] at h'
    have hk:NameKind.cell=k:=Option.some.inj h'
    simp only [Bool.and_eq_true,beq_iff_eq] at hc
    have hxn:x=n:=by simpa using hx
    refine ⟨k0,by rw [List.lookup_cons,hx],.inr ⟨hc.1.1,hk.symm,by rw [hxn];exact hc.2⟩⟩
   |false =>
    rw [hx] at h'
    obtain ⟨k',e1,e2⟩:=ih h'
    exact ⟨k',by rw [List.lookup_cons,hx];exact e1,e2⟩
  ·rw [if_neg hc] at h'
   rw [List.lookup_cons] at h'
   cases hx:x == n with
   |true =>
    rw [hx] at h'
    exact ⟨k0,by rw [List.lookup_cons,hx],.inl (Option.some.inj h')⟩
   |false =>
    rw [hx] at h'
    obtain ⟨k',e1,e2⟩:=ih h'
    exact ⟨k',by rw [List.lookup_cons,hx];exact e1,e2⟩
theorem iK {α:Type}:∀{l:List (Str×α)} {x:Str} {k:α},l.lookup x=some k→(x,k)∈l
 |[],_,_,h=>by simp at h
 | (n,a)::r,x,k,h=>by
  rw [List.lookup_cons] at h
  cases hx:x == n with
  |true =>
   rw [hx] at h
   have e:a=k:=Option.some.inj h
   have hxn:x=n:=by simpa using hx
   subst e;subst hxn
   exact List.mem_cons_self
  |false =>
   rw [hx] at h
   exact List.mem_cons_of_mem _ (iK h)
def eR (X:Cx) (ifs:List Expr) (t:TT):Prop :=
 ∀(pins:List (Addr×Obj)) (s:Shared) (σ:St) (H:Hp) (Q:Bool→Hp→Prop),Inv X pins σ H s→t σ H Q→
  wpAny (model X.prog X.w) X.A (forIn ifs true fun c r=>if r=true then do let ok ← isTrue c X.env (eval c X.env);pure (ForInStep.yield ok) else pure (ForInStep.yield r)) (TP X pins σ Q) X.xe s
def t5:TT:=fun _ H Q=>Q true H
theorem qZ {X:Cx}:eR X [] t5:=fun _ _ _ H _ I h=>wpAny_tests_nil ⟨H,I,h⟩
theorem zM {X:Cx} {c:Expr} {t:TT} (hc:PT X c t):eR X [c] t:=fun pins s σ H Q I h=>wpAny_tests_one (hc pins s σ H Q I h)
def zQ (D:Addr) (J:It) (g:TG) (tc:TT) (te:TE) (σ₀:St) (H:Hp) (Q:Hp→Prop):Prop :=
 ∃W:Nat→Nat→St→Hp→Prop,(∃m,W 0 m σ₀ (upd H D (.lst [])))∧∀i m σ' H',W i m σ' H'→
  (J.stop i H'∧Q H')∨(J.go i H'∧∃N:St→Hp→Prop,(∀σ'' H'',N σ'' H''→∃m',m'<m∧W (i+1) m' σ'' H'')∧∀x H2,J.yld i H' x H2→g x σ' H2 fun σ2 H3=>tc σ2 H3 fun b H4 =>
   if b=true then te σ2 H4 fun v H5=>∃xs,H5 D=some (.lst xs)∧xs.length<sizeLine∧N σ2 (upd H5 D (.lst (xs++[v]))) else N σ2 H4)
def GX (wi:TI) (cap:St→St) (g:TG) (tc:TT) (te:TE):TE:=fun σ H Q=>wi σ H fun J H1=>∀D,H1 D=none→zQ D J g tc te (cap σ) H1 fun H'=>Q (.ref D) H'
def DT (i:Nat) (wi:TI) (cap:St→St) (g:TG) (tc:TT) (te:TE):TS:=fun D σ H=>wi σ H fun J H1=>∀d,H1 d=none→zQ d J g tc te (cap σ) H1 fun H'=>D.nx (σ.set i (some (.ref d))) H'
def eQ (X:Cx) (N:List Str) (scope:Scope) (cap:St→St):Prop :=
 ∀σ:St,σ.length=X.N.length→(cap σ).length=N.length∧∀(i:Nat) (x:Str) (v:V),N[i]?=some x→(cap σ)[i]?=some (some v)→scope.names.lookup x=some .free∧∃j:Nat,X.N[j]?=some x∧σ[j]?=some (some v)
def kW (n:Nat) (js:List Nat):St→St:=fun σ=>List.replicate n none++js.map fun j=>(σ[j]?).join
theorem qA {X:Cx} {N:List Str} {scope:Scope} (n:Nat) (js:List Nat) (h1:N.length=n+js.length) (h2:js.map (fun j=>X.N[j]?)=(N.drop n).map some) (h3:∀x∈N.drop n,scope.names.lookup x=some .free):eQ X N scope (kW n js):=by
 intro σ hσ
 refine ⟨by unfold kW;rw [List.length_append,List.length_replicate,List.length_map,h1],fun i x v e1 e2=>?_⟩
 unfold kW at e2
 by_cases hi:i<n
 ·rw [List.getElem?_append_left (by simpa using hi),List.getElem?_replicate,if_pos hi] at e2
  cases e2
 ·rw [List.getElem?_append_right (by simpa using hi),List.length_replicate,List.getElem?_map] at e2
  cases hj:js[i - n]? with
  |none=>rw [hj] at e2;cases e2
  |some j =>
   rw [hj] at e2
   have e3:(σ[j]?).join=some v:=Option.some.inj e2
   have e4:σ[j]?=some (some v):=by
    cases q:σ[j]? with
    |none=>rw [q] at e3;cases e3
    |some o =>
     rw [q] at e3
     have e5:o=some v:=e3
     rw [e5]
   have hd:(N.drop n)[i - n]?=some x:=by
    rw [List.getElem?_drop,show n+(i - n)=i by omega]
    exact e1
   have e5:=congrArg (fun l=>l[i - n]?) h2
   simp only [List.getElem?_map,hj,hd,Option.map_some] at e5
   exact ⟨h3 x (List.mem_of_getElem? hd),j,Option.some.inj e5,e4⟩
theorem kZ {X:Cx} {scope:Scope} (sc:Scope) (hsc:X.env.scope=sc) (kind:scope.kind=.function) (nocell:∀y∈scope.names,y.2≠.cell) (names:∀y∈scope.names,y.2=.local→scope.names.lookup y.1=some .local)
  (free:∀y∈scope.names,y.2=.free→sc.names.lookup y.1=some .cell∨sc.names.lookup y.1=some .free):CompScope X scope:=⟨kind,nocell,names,fun y hy hf=>by
 subst hsc
 exact free y hy hf⟩
section
variable {X:Cx} {N:List Str} {scope:Scope} {pins:List (Addr×Obj)} {σ:St} {H:Hp} {s:Shared} {fp:List Addr}
theorem fG (S:CompScope X scope) (I:Inv X pins σ H s):∀y∈scope.names,y.2=.free→∃c,X.env.cells.lookup y.1=some c:=fun y hy hf=>I.ok.has y.1 (S.free y hy hf)
theorem EQ {cap:St→St} {D C:Addr} {h₁:Heap} {t':Nat} {m:Str→Option Value} (S:CompScope X scope) (I:Inv X pins σ H s) (hcap:eQ X N scope cap) (hf:∀b∈fp,yW X pins H b) (hfo:∀b∈fp,∃o,s.heap.get? b=some o)
  (hD:s.heap.objs.size≤D) (hC:s.heap.objs.size≤C) (hDC:D≠C) (old:∀b o,s.heap.get? b=some o→h₁.get? b=some o) (hns:h₁.Ns C m) (hl:h₁.get? D=some {cls:=.type "list",data:=.seq ([]:List Value).toArray}) :
  Inv (vH X N scope C s H pins fp) [] (cap σ) (upd H D (.lst [])) {s with heap:=h₁,toks:=t'}:=by
 have cellsOk:=fG S I
 have look:∀x c,(vS X.env.cells scope.names []).lookup x=some c→X.env.cells.lookup x=some c:=fun x c e=>fB cellsOk (fun y d q=>by simp at q) e
 have lt:∀{b:Addr} {o:Obj},s.heap.get? b=some o→b<s.heap.objs.size:=fun e=>Heap.lt_size e
 have cellLt:∀x c,X.env.cells.lookup x=some c→c<s.heap.objs.size:=fun x c e=>by
  obtain ⟨v,o,ho,_⟩:=I.cell x c e
  exact lt ho
 have nD:H D=none:=I.hok.fresh hD
 have nC:H C=none:=I.hok.fresh hC
 have stkNe:∀b:Addr,b≠X.env.locals→b∉X.fs→b∉kS X.stack:=fun b h1 h2 z=>by
  rcases List.mem_cons.mp (I.stkSub b z) with e|e
  ·exact h1 e
  ·exact h2 e
 refine ⟨⟨I.ok.mod,S.kind,I.ok.glob,I.ok.blt,hC,fun x y c h1 h2=>I.ok.inj x y c (look x c h1) (look y c h2),fun x hx=>?_,fun x c hfn _=>(nomatch hfn),I.ok.hd,I.ok.frames,.inl rfl,fun b hb=>⟨?_,fun x c e=>(hf b hb).2.2.2.2.1 x c (look x c e)⟩,
   I.bs,Nat.le_trans I.ok.bsz I.sz,fun b o e hb=>?_,fun b hb=>stkNe b (hf b hb).2.1 (hf b hb).2.2.1,I.stack,I.stkFree⟩,
  rfl,I.bare,Un.laid old hD nD,⟨m,hns,fun i x v h1 h2 h3=>?_⟩,fun x c e=>?_,?_,fun x c e=>?_,fun p hp=>?_,?_,(hcap σ I.len).1⟩
 ·-- has
  have hx':∃k,(relabel scope X.env).names.lookup x=some k∧(k=.cell∨k=.free):=by
   rcases hx with e|e
   ·exact ⟨_,e,.inl rfl⟩
   ·exact ⟨_,e,.inr rfl⟩
  obtain ⟨k,e,hk⟩:=hx'
  obtain ⟨k',e1,e2⟩:=iD e
  have hm:=iK e1
  have hfree:k'=.free:=by
   rcases e2 with e2|e2
   ·subst e2
    rcases hk with hk|hk
    ·subst hk
     exact absurd rfl (S.nocell _ hm)
    ·exact hk
   ·exact e2.1
  subst hfree
  exact fJ hm
 ·obtain ⟨o,ho⟩:=hfo b hb
  exact Nat.ne_of_lt (Nat.lt_of_lt_of_le (lt ho) hC)
 ·rcases (hf b hb).2.2.2.1 with z|z
  ·exact I.ok.noex b o e z
  ·exact absurd (Nat.lt_of_lt_of_le (Heap.lt_size e) (Nat.le_trans I.ok.bsz z)) (Nat.lt_irrefl _)
 ·-- names
  obtain ⟨hfr,j,hj,hv⟩:=(hcap σ I.len).2 i x v h1 h2
  have hm:=iK hfr
  have hk:=S.free _ hm rfl
  obtain ⟨m0,_,hl0⟩:=I.loc
  have vis:gT X.env.scope x:=by
   rcases hk with k|k
   ·exact .inr (.inl k)
   ·exact .inr (.inr k)
  obtain ⟨u,r,l⟩:=hl0 j x v hj hv vis
  refine ⟨u,r,.inr ⟨?_,?_⟩⟩
  ·have hvis:∃k,(relabel scope X.env).names.lookup x=some k:=by
    rcases h3 with e|e|e<;>exact ⟨_,e⟩
   obtain ⟨k,e⟩:=hvis
   obtain ⟨k',e1,e2⟩:=iD e
   rw [hfr] at e1
   cases e1
   rcases e2 with e2|e2
   ·subst e2;exact .inr e
   ·rw [e2.2.1] at e;exact .inl e
  ·rcases l with ⟨k,_⟩|⟨_,c,hc,hcell⟩
   ·exfalso
    rcases hk with q|q
    ·have q':X.env.kindOf x=some .cell:=q
     rw [k] at q';cases q'
    ·have q':X.env.kindOf x=some .free:=q
     rw [k] at q';cases q'
   ·obtain ⟨c',e'⟩:=fJ (cells:=X.env.cells) (cs:=[]) hm
    have e2:=look x c' e'
    have e2':X.env.cells.lookup x=some c':=e2
    rw [hc] at e2'
    cases e2'
    obtain ⟨o,ho,hd⟩:=hcell
    exact ⟨c,e',o,old _ _ ho,hd⟩
 ·obtain ⟨v,o,ho,hd⟩:=I.cell x c (look x c e)
  exact ⟨v,o,old _ _ ho,hd⟩
 ·show upd H D (.lst []) C=none
  rw [kC (Ne.symm hDC)]
  exact nC
 ·have hc:=look x c e
  rw [kC (Nat.ne_of_lt (Nat.lt_of_lt_of_le (cellLt x c hc) hD))]
  exact I.freeC x c hc
 ·have hp':p∈X.pn++pins:=by
   rcases List.mem_append.mp hp with z|z
   ·exact z
   ·cases z
  obtain ⟨e,n,ne,nf,d⟩:=I.pin p hp'
  refine ⟨old _ _ e,?_,Nat.ne_of_lt (Nat.lt_of_lt_of_le (lt e) hC),stkNe p.1 ne nf,d⟩
  rw [kC (Nat.ne_of_lt (Nat.lt_of_lt_of_le (lt e) hD))]
  exact n
 ·refine I.hok.laid old hD ?_
  exact ⟨Nat.zero_le _,[],0,.nil,hl⟩
theorem pG {σ':St} {H':Hp} {s':Shared} {C:Addr} {σc:St} {Nc:List Str} (I:Inv X pins σ H s) (hf:∀b∈fp,yW X pins H b) (J:Inv (vH X Nc scope C s H pins fp) [] σc H' s'):Inv X pins σ H' s':=by
 refine I.call' (ch:=fp) J.os J.base J.hok J.bare fun b hb=>?_
 obtain ⟨_,h2,_,h4,h5,h6⟩:=hf b hb
 exact ⟨h4,h2,h5,h6⟩
theorem rO {σ':St} {H':Hp} {s':Shared} {C:Addr} {h':Heap} (I:Inv X pins σ H s) (hC:s.heap.objs.size≤C) (J:Inv X pins σ' H' s') (hn:H' C=none) (sb:Heap.SameBut C s'.heap h'):Inv X pins σ' H' {s' with heap:=h'}:=by
 refine J.turned (t':=s'.toks) (it:=C) (fun b o hb e=>(sb.2 b hb).trans e) hn (Nat.ne_of_gt (Nat.lt_of_lt_of_le I.lt hC)) (.inr (Nat.le_trans I.sz hC)) (fun x c e z=>?_) fun p hp z=>?_
 ·obtain ⟨v,q⟩:=I.cell x c e
  exact absurd (Nat.lt_of_lt_of_le q.lt (by rw [z];exact hC)) (Nat.lt_irrefl _)
 ·exact absurd (Nat.lt_of_lt_of_le (Heap.lt_size (I.pin p hp).1) (by rw [z];exact hC)) (Nat.lt_irrefl _)
theorem rN {tg iter elt:Expr} {ifs:List Expr} {pos:Pos} {cap:St→St} {g:TG} {tc:TT} {te:TE} {J:It} {it:Addr} {tn:Nat→Heap→Prop} {Q:Addr→Hp→Prop} {RR:Value→Addr→Result→Shared→Prop}
  (hcalm:X.calm=true) (S:CompScope X scope) (hcap:eQ X N scope cap) (I:Inv X pins σ H s) (T:Turn X.prog X.w X.K tg J fp it tn) (st:tn 0 s.heap) (hf:∀b∈fp,yW X pins H b)
  (hg:∀C,PG (vH X N scope C s H pins fp) tg g) (hc:∀C,eR (vH X N scope C s H pins fp) ifs tc) (he:∀C,PE (vH X N scope C s H pins fp) elt te)
  (hq:∀D,H D=none→zQ D J g tc te (cap σ) H (Q D))
  (hRR:∀D C σc H' s',s.heap.objs.size≤C→Inv (vH X N scope C s H pins fp) [] σc H' s'→Q D H'→RR (.ref D) C (.ok .next) s') :
  wpAny (model X.prog X.w) X.A (newList []) (fun acc s₃=>wpAny (model X.prog X.w) X.A (newFunctionEnv scope X.env.globals (vS X.env.cells scope.names []) [] X.env.qual none .none (some X.env)) (fun cenv s₄ =>
   codeAny (model X.prog X.w) X.A (.compStart (.ListComp elt [⟨tg,iter,ifs,0⟩] scope pos) 0 (.ref it) acc {cenv with scope:=relabel scope X.env}) (RR acc cenv.locals) s₄) X.xe s₃) X.xe s:=by
 refine wpAny_newObj_type (wpAny_newFunctionEnv S.nocell (by intro y hy;simp at hy) (fun h₁ hns₁ hsb₁=>?_) S.kind)
 dsimp only at hns₁ hsb₁ ⊢
 generalize hH2:s.heap.push {cls:=.type "list",dict:=none,data:=.seq ([]:List Value).toArray}=H2 at hns₁ hsb₁ ⊢
 have hC:H2.objs.size=s.heap.objs.size+1:=by rw [← hH2,Heap.size_push]
 have hDC:s.heap.objs.size≠H2.objs.size:=by rw [hC];exact Nat.ne_of_lt (Nat.lt_succ_self _)
 have hCle:s.heap.objs.size≤H2.objs.size:=by rw [hC];exact Nat.le_succ _
 have below:∀b,b<s.heap.objs.size→b≠H2.objs.size:=fun b hb=>by rw [hC];exact Nat.ne_of_lt (Nat.lt_succ_of_lt hb)
 have old:∀b o,s.heap.get? b=some o→h₁.get? b=some o:=fun b o e=>hsb₁.extBut b o (below b (Heap.lt_size e)) (Heap.get?_push_of_some _ (hH2▸Heap.get?_push_of_some _ e))
 have hacc:h₁.get? s.heap.objs.size=some {cls:=.type "list",data:=.seq ([]:List Value).toArray}:=hsb₁.extBut _ _ hDC (Heap.get?_push_of_some _ (hH2▸Heap.get?_push_size _ rfl))
 have obj0:=T.obj 0 s.heap st
 have I1:∀t',Inv (vH X N scope H2.objs.size s H pins fp) [] (cap σ) (upd H s.heap.objs.size (.lst [])) {s with heap:=h₁,toks:=t'}:=fun t' =>
  EQ S I hcap hf (fun b hb=>let ⟨o,e,_⟩:=obj0 b hb;⟨o,e⟩) (Nat.le_refl _) hCle hDC old hns₁ hacc
 have st1:tn 0 h₁:=T.keep 0 s.heap h₁ st fun b _ o e=>old b o e
 have stat:∀{H':Hp},(∀b∈fp,H' b=none)→∀b∈fp,yW (vH X N scope H2.objs.size s H pins fp) [] H' b:=fun hn b hb=>by
  obtain ⟨_,h2,h3,h4,h5,h6⟩:=hf b hb
  obtain ⟨o,ho,_⟩:=obj0 b hb
  refine ⟨hn b hb,below b (Heap.lt_size ho),?_,.inl hb,fun x c e=>h5 x c (fB (fG S I) (fun y d q=>by simp at q) e),fun p hp=>?_⟩
  ·intro z
   rcases List.mem_cons.mp (I.stkSub b z) with e|e
   ·exact h2 e
   ·exact h3 e
  ·rcases List.mem_append.mp hp with z|z
   ·exact h6 p z
   ·cases z
 have fr1:∀b∈fp,upd H s.heap.objs.size (.lst []) b=none:=fun b hb=>by
  obtain ⟨o,ho,_⟩:=obj0 b hb
  rw [kC (Nat.ne_of_lt (Heap.lt_size ho))]
  exact (hf b hb).1
 obtain ⟨W,⟨m0,w0⟩,turn⟩:=hq s.heap.objs.size (I.hok.fresh (Nat.le_refl _))
 have loop:∀s₃:Shared,s₃={s with heap:=h₁,toks:=s.toks+([]:List (Str×Value)).length}→
   codeAny (model X.prog X.w) X.A (.compLoop (.ListComp elt [⟨tg,iter,ifs,0⟩] scope pos) 0 (.ref it) (.ref s.heap.objs.size) (compEnvC scope (vS X.env.cells scope.names []) H2.objs.size X.env))
    (RR (.ref s.heap.objs.size) H2.objs.size) s₃:=by
  rintro s₃ rfl
  refine DK (fun n s'=>∃i σ' H',Inv (vH X N scope H2.objs.size s H pins fp) [] σ' H' s'∧tn i s'.heap∧(∀b∈fp,H' b=none)∧W i n σ' H') ?_ m0 ⟨0,cap σ,_,I1 _,st1,fr1,w0⟩
  rintro n s3 ⟨i,σ3,H3,I3,st3,fr3,w3⟩
  rcases turn i n σ3 H3 w3 with ⟨stop,qn⟩|⟨go,Nn,hN,step⟩
  ·refine jW (T.done (vH X N scope H2.objs.size s H pins fp) rfl rfl rfl hcalm i [] s3 σ3 H3 (fun _ _=>False) I3 (stat fr3) st3 stop) fun r s4 ⟨hr,I4⟩=>?_
   subst hr
   exact hRR _ _ σ3 H3 s4 hCle I4 qn
  ·refine jW (T.item (vH X N scope H2.objs.size s H pins fp) rfl rfl rfl hcalm i [] s3 σ3 H3 (fun _ _=>False) I3 (stat fr3) st3 go) fun r s4 ⟨u,hr,h4⟩=>?_
   subst hr
   refine jW h4 fun _ s5 ⟨x,H5,I5,r5,y5,st5,fr5⟩=>?_
   have I5':=I5.pinned (stat fr5) (T.obj _ _ st5)
   have again:∀{σ7:St} {H7:Hp} {s7:Shared},Inv (vH X N scope H2.objs.size s H pins fp) ([]++eI fp s5.heap) σ7 H7 s7→Nn σ7 H7→
     ∃m,m<n∧∃i σ' H',Inv (vH X N scope H2.objs.size s H pins fp) [] σ' H' s7∧tn i s7.heap∧(∀b∈fp,H' b=none)∧W i m σ' H':=fun {σ7 H7 s7} I7 n7=>by
    obtain ⟨m',hm,w7⟩:=hN σ7 H7 n7
    refine ⟨m',hm,i+1,σ7,H7,I7.unpinned,T.keep _ _ _ st5 fun b hb o e=>(I7.pin (b,o) (List.mem_append_right _ (List.mem_append_right _ (fD hb e)))).1,fun b hb=>?_,w7⟩
    obtain ⟨o,e,d⟩:=T.obj _ _ st5 b hb
    exact (I7.pin (b,o) (List.mem_append_right _ (List.mem_append_right _ (fD hb e)))).2.1
   refine jW (hg _ _ s5 σ3 H5 x u _ I5' r5 (step x H5 y5)) fun _ s6 ⟨σ6,H6,I6,q6⟩=>?_
   refine jW (hc _ _ s6 σ6 H6 _ I6 q6) fun ok s7 ⟨H7,I7,q7⟩=>?_
   cases ok with
   |false=>exact again I7 q7
   |true =>
    refine jW (he _ _ s7 σ6 H7 _ I7 q7) fun v s8 ⟨y,H8,I8,r8,xs,hD8,hz8,n8⟩=>?_
    refine jW (yM _ s8 σ6 H8 (.ref s.heap.objs.size) [y] (.ref s.heap.objs.size) [v] (fun _ H9=>Nn σ6 H9) I8 rfl (.cons r8 .nil) ⟨_,_,_,rfl,rfl,hD8,hz8,n8⟩) fun _ s9 ⟨_,H9,I9,_,n9⟩=>?_
    exact again I9 n9
 exact codeAny_compStart_list (loop _ rfl) (wpAny_mono (T.self X.A 0 _ (fun v s'=>v=.ref it∧s'=_) (fun _ _=>False) st1 ⟨rfl,rfl⟩) (fun v s' ⟨e1,e2⟩=>by subst e1;subst e2;exact loop _ rfl) fun _ _ z=>z.elim)
theorem qV {tg iter elt:Expr} {ifs:List Expr} {pos:Pos} {wi:TI} {g:TG} {tc:TT} {te:TE} (N:List Str) (cap:St→St) (hcalm:X.calm=true) (S:CompScope X scope) (hcap:eQ X N scope cap) (hi:PI X tg iter wi)
  (hg:∀C s H pins fp,PG (vH X N scope C s H pins fp) tg g) (hc:∀C s H pins fp,eR (vH X N scope C s H pins fp) ifs tc) (he:∀C s H pins fp,PE (vH X N scope C s H pins fp) elt te)
  (hs:∀x,foldedSetIterable iter X.env x=pure x:=by intro _;rfl):PE X (.ListComp elt [⟨tg,iter,ifs,0⟩] scope pos) (GX wi cap g tc te):=by
 intro pins s σ H Q I h
 rw [eval_ListComp]
 refine wpAny_comprehension_free (use:=none) rfl hs (nK (fG S I)) S.kind S.names (jW (hi pins s σ H _ I h) fun v s1 h1=>jW h1 fun itv s2 h2=>?_)
 obtain ⟨it,fp,tn,J,H2,e,I2,T,st2,f2,q2⟩:=h2
 subst e
 refine rN (RR:=fun acc C=>compPost (model X.prog X.w) X.A X.xe none (EP X pins σ Q) acc C) (Q:=fun D H'=>Q (.ref D) H') hcalm S hcap I2 T st2 f2 (fun C=>hg C _ _ _ _) (fun C=>hc C _ _ _ _) (fun C=>he C _ _ _ _) q2 ?_
 intro D C σc H' s' hC Jc q
 obtain ⟨m,hn,_⟩:=Jc.loc
 refine ⟨m,hn,fun h' hs'=>?_⟩
 exact ⟨.ref D,H',rO I2 hC (pG (σ':=σ) I2 f2 Jc) Jc.free hs',rfl,q⟩
theorem z9 {tg iter elt:Expr} {ifs:List Expr} {pos spos py:Pos} {i:Nat} {y:Str} {wi:TI} {g:TG} {tc:TT} {te:TE} (N:List Str) (cap:St→St) (hN:X.N.Nodup) (hy:X.N[i]?=some y) (hloc:eU X.env.scope y) (hcalm:X.calm=true) (S:CompScope X scope) (hcap:eQ X N scope cap) (hi:PI X tg iter wi)
  (hg:∀C s H pins fp,PG (vH X N scope C s H pins fp) tg g) (hc:∀C s H pins fp,eR (vH X N scope C s H pins fp) ifs tc) (he:∀C s H pins fp,PE (vH X N scope C s H pins fp) elt te)
  (hsw:swapsWith (.ListComp elt [⟨tg,iter,ifs,0⟩] scope pos) (some (.Name y py)) spos.line X.env=pure true:=by rfl)
  (hs:∀x,foldedSetIterable iter X.env x=pure x:=by intro _;rfl) (hfn:X.fn y=true∨X.env.scope.names.lookup y=some .local:=by first|exact .inl rfl|exact .inr rfl|assumption) :
  PS X (.Assign [.Name y py] (.ListComp elt [⟨tg,iter,ifs,0⟩] scope pos) spos) (DT i wi cap g tc te):=by
 intro pins s σ H D I h
 rw [exec_Assign_Name_used _ _ _ _ hsw]
 refine wpAny_bind (wpAny_standAt (wpAny_bind ?_))
 show wpAny _ X.A (do let _ ← comprehension (.ListComp elt [⟨tg,iter,ifs,0⟩] scope pos) scope X.env _ (newList []) false (eval iter X.env) (some (assign (.Name y py) X.env))) _ _ s
 refine wpAny_bind (wpAny_mono (wpAny_comprehension_free (use:=some (assign (.Name y py) X.env)) (Q:=fun _ s'=>SP X pins D .next s') rfl hs (nK (fG S I)) S.kind S.names
  (jW (hi pins s σ H _ I h) fun v s1 h1=>jW h1 fun itv s2 h2=>?_)) (fun _ s' hq=>wpAny_pure (wpAny_pure hq)) fun _ _ e=>e)
 obtain ⟨it,fp,tn,J,H2,e,I2,T,st2,f2,q2⟩:=h2
 subst e
 refine rN (RR:=fun acc C=>compPost (model X.prog X.w) X.A X.xe (some (assign (.Name y py) X.env)) (fun _ s'=>SP X pins D .next s') acc C) (Q:=fun d H'=>D.nx (σ.set i (some (.ref d))) H') hcalm S hcap I2 T st2 f2 (fun C=>hg C _ _ _ _) (fun C=>hc C _ _ _ _) (fun C=>he C _ _ _ _) q2 ?_
 intro d C σc H' s' hC Jc q
 obtain ⟨m,hn,_⟩:=Jc.loc
 have J1:Inv X pins σ H' s':=pG (σ':=σ) I2 f2 Jc
 show wpAny _ X.A (assign (.Name y py) X.env (.ref d)) _ _ _
 refine wpAny_assign_Name (oU (v:=.ref d) J1 hN hy hloc rfl (fun s'' J2 hsb=>?_) hfn)
 obtain ⟨a,sb,ha⟩:=hsb
 have haC:C≠a:=by
  rcases ha with e|e
  ·rw [e];exact Nat.ne_of_gt (Nat.lt_of_lt_of_le I2.lt hC)
  ·obtain ⟨v,q'⟩:=I2.cell y a e
   exact Nat.ne_of_gt (Nat.lt_of_lt_of_le q'.lt hC)
 refine ⟨m,hn.sameBut sb haC,fun h' hs'=>?_⟩
 exact ⟨_,H',rO I2 hC J2 Jc.free hs',q⟩
end
end L2
namespace L2
open PySem PySem.Spec PyProof.Rows
theorem q9 {σ:St} {H:Hp} {Q:Bool→Hp→Prop} (h:Q true H):t5 σ H Q:=h
theorem cF {K:PySem.W.Frag} {a D:Addr} {xs:List V} {g:TG} {tc:TT} {te:TE} {σ₀:St} {H:Hp} {Q:Hp→Prop} (Pv:Nat→St→Hp→Prop) (h0:Pv 0 σ₀ (upd H D (.lst []))) (hl:∀i σ H,i≤xs.length→Pv i σ H→SqL K H a xs)
    (hs:∀i x σ H,xs[i]?=some x→Pv i σ H→g x σ H fun σ2 H3=>tc σ2 H3 fun b H4=>if b=true then te σ2 H4 fun v H5=>∃ys,H5 D=some (.lst ys)∧ys.length<sizeLine∧Pv (i+1) σ2 (upd H5 D (.lst (ys++[v]))) else Pv (i+1) σ2 H4)
    (hd:∀σ H,Pv xs.length σ H→Q H):zQ D (ZD K a) g tc te σ₀ H Q:=by
  refine ⟨fun i m σ H=>m=xs.length - i∧i≤xs.length∧Pv i σ H,⟨xs.length,by simp,Nat.zero_le _,h0⟩,?_⟩
  rintro i m σ H ⟨rfl,hi,p⟩
  have q:=hl i σ H hi p
  by_cases hlt:i<xs.length
  · refine .inr ⟨⟨xs,xs[i],q,by simp [hlt]⟩,Pv (i+1),fun σ' H' p'=>⟨xs.length - (i+1),by omega,rfl,hlt,p'⟩,fun x H' y=>?_⟩
    obtain ⟨e,y⟩:=y
    subst e
    exact hs i x σ _ (y xs q) p
  · have e:i=xs.length:=by omega
    subst e
    exact .inl ⟨⟨xs,q,Nat.le_refl _⟩,hd σ H p⟩
theorem BR {lo:Int} {n:Nat} {D:Addr} {g:TG} {tc:TT} {te:TE} {σ₀:St} {H:Hp} {Q:Hp→Prop} (Pv:Nat→St→Hp→Prop) (h0:Pv 0 σ₀ (upd H D (.lst [])))
  (hs:∀i σ H,i<n→Pv i σ H→g (.int (lo+i)) σ H fun σ2 H3=>tc σ2 H3 fun b H4=>if b=true then te σ2 H4 fun v H5=>∃ys,H5 D=some (.lst ys)∧ys.length<sizeLine∧Pv (i+1) σ2 (upd H5 D (.lst (ys++[v]))) else Pv (i+1) σ2 H4)
  (hd:∀σ H,Pv n σ H→Q H):zQ D (QF lo n) g tc te σ₀ H Q:=by
 refine ⟨fun i m σ H=>m=n - i∧i≤n∧Pv i σ H,⟨n,by simp,Nat.zero_le _,h0⟩,?_⟩
 rintro i m σ H ⟨rfl,hi,p⟩
 by_cases hlt:i<n
 ·refine .inr ⟨hlt,Pv (i+1),fun σ' H' p'=>⟨n - (i+1),by omega,rfl,hlt,p'⟩,fun x H' y=>?_⟩
  obtain ⟨e,y⟩:=y
  subst e y
  exact hs i σ _ hlt p
 ·have e:i=n:=by omega
  subst e
  exact .inl ⟨Nat.le_refl _,hd σ H p⟩
theorem kT {H H':Hp} {D:Addr} {o:HO} (hD:H D=none) (s:Same H H'):Same H (upd H' D o):=fun b u q=>by
 rw [kC (qI q hD)]
 exact s b u q
def JJ (H:Hp) (D:Addr) (caps:St) (R:Nat→List V→Hp→Prop) (i:Nat) (σ:St) (Hi:Hp):Prop:=∃ys c,σ=c::caps∧Same H Hi∧Hi D=some (.lst ys)∧ys.length≤i∧R i ys Hi
theorem qU {H Hi H5:Hp} {D:Addr} {caps:St} {R:Nat→List V→Hp→Prop} {i:Nat} {ys:List V} {c:Option V} {v:V} (hD:H D=none) (s:Same H Hi) (hY:Hi D=some (.lst ys)) (hl:ys.length≤i) (hi:i≤999) (s5:Same Hi H5)
  (r:R (i+1) (ys++[v]) (upd H5 D (.lst (ys++[v])))):∃zs,H5 D=some (.lst zs)∧zs.length<sizeLine∧JJ H D caps R (i+1) (c::caps) (upd H5 D (.lst (zs++[v]))):=by
 refine ⟨ys,s5 _ _ hY,qM (by omega),ys++[v],c,rfl,kT hD (s.trans s5),jE,?_,r⟩
 rw [List.length_append,List.length_singleton];omega
theorem JU {H Hi H4:Hp} {D:Addr} {caps:St} {R:Nat→List V→Hp→Prop} {i:Nat} {ys:List V} {c:Option V} (s:Same H Hi) (hY:Hi D=some (.lst ys)) (hl:ys.length≤i) (s4:Same Hi H4) (r:R (i+1) ys H4) :
  JJ H D caps R (i+1) (c::caps) H4:=⟨ys,c,rfl,s.trans s4,s4 _ _ hY,by omega,r⟩
theorem yX {K:PySem.W.Frag} {a D:Addr} {xs:List V} {tc:TT} {te:TE} {caps:St} {H:Hp} {Q:Hp→Prop} (R:Nat→List V→Hp→Prop) (hD:H D=none) (hS:SqL K H a xs) (h0:R 0 [] (upd H D (.lst [])))
  (hs:∀i x ys Hi,xs[i]?=some x→i<xs.length→ys.length≤i→Same H Hi→Hi D=some (.lst ys)→R i ys Hi→tc (some x::caps) Hi fun b H4=>if b=true then te (some x::caps) H4 fun v H5=>∃zs,H5 D=some (.lst zs)∧zs.length<sizeLine∧JJ H D caps R (i+1) (some x::caps) (upd H5 D (.lst (zs++[v])))
   else JJ H D caps R (i+1) (some x::caps) H4)
  (hd:∀ys Hf,Same H Hf→Hf D=some (.lst ys)→ys.length≤xs.length→R xs.length ys Hf→Q Hf):zQ D (ZD K a) (gG 0) tc te (none::caps) H Q:=by
 refine cF (xs:=xs) (JJ H D caps R) ⟨[],none,rfl,kT hD (Same.refl H),jE,Nat.le_refl _,h0⟩ (fun i σ Hi _ ⟨_,_,_,s,_⟩=>s.seq hS) ?_ ?_
 ·rintro i x σ Hi hx ⟨ys,c,rfl,s,hY,hl,r⟩
  exact hs i x ys Hi hx (List.getElem?_eq_some_iff.mp hx).1 hl s hY r
 ·rintro σ Hf ⟨ys,c,rfl,s,hY,hl,r⟩
  exact hd ys Hf s hY hl r
theorem y6 {lo:Int} {n:Nat} {D:Addr} {tc:TT} {te:TE} {caps:St} {H:Hp} {Q:Hp→Prop} (R:Nat→List V→Hp→Prop) (hD:H D=none) (h0:R 0 [] (upd H D (.lst [])))
  (hs:∀i ys Hi,i<n→ys.length≤i→Same H Hi→Hi D=some (.lst ys)→R i ys Hi→tc (some (.int (lo+i))::caps) Hi fun b H4=>if b=true then te (some (.int (lo+i))::caps) H4 fun v H5=>∃zs,H5 D=some (.lst zs)∧zs.length<sizeLine∧JJ H D caps R (i+1) (some (.int (lo+i))::caps) (upd H5 D (.lst (zs++[v])))
   else JJ H D caps R (i+1) (some (.int (lo+i))::caps) H4)
  (hd:∀ys Hf,Same H Hf→Hf D=some (.lst ys)→ys.length≤n→R n ys Hf→Q Hf):zQ D (QF lo n) (gG 0) tc te (none::caps) H Q:=by
 refine BR (JJ H D caps R) ⟨[],none,rfl,kT hD (Same.refl H),jE,Nat.le_refl _,h0⟩ ?_ ?_
 ·rintro i σ Hi hi ⟨ys,c,rfl,s,hY,hl,r⟩
  exact hs i ys Hi hi hl s hY r
 ·rintro σ Hf ⟨ys,c,rfl,s,hY,hl,r⟩
  exact hd ys Hf s hY hl r
def II:V→Option Value
 |.ty n=>some (.type n)
 |.ref a=>some (.ref a)
 |_=>none
section
variable {X:Cx}
def IA (K:PySem.W.Frag):List V→Hp→VK→Prop:=fun xs H Q=>∃(x c:V) (t u:Value) (b:Bool),xs=[x,c]∧II c=some u∧TyOf K H x t∧PySem.W.kitOne K t u=some b∧Q (.bl b) H
theorem Q0:v7 X (.builtin "isinstance") (IA X.K):=by
 intro pins s σ H xs us Q I r h
 obtain ⟨x,c,t,u,b,rfl,hc,ty,e,q⟩:=h
 obtain ⟨u1,u2,rfl,r1,r2⟩:=mC r
 have e2:u2=u:=by
  cases c with
  |ty n=>cases (show u2=Value.type n from r2);exact Option.some.inj hc
  |ref a=>cases (show u2=Value.ref a from r2);exact Option.some.inj hc
  |_=>cases hc
 subst e2
 exact DB I r1 ty e fun tk=>⟨.bl b,H,I.tok _,rfl,q⟩
end
theorem cK {K:PySem.W.Frag} (n:String):PySem.W.kitOne K (.type n) (.type n)=some true:=by
 unfold PySem.W.kitOne
 rw [if_pos (beq_self_eq_true _)]
theorem BQ {K:PySem.W.Frag}:PySem.W.kitOne K (.type "int") (.type "bool")=some false:=by kernel_rfl
def v8 (xs ys:List V):Bool:=(List.range (min xs.length ys.length)).all (fun j=>vI (xs.getD j .non) (ys.getD j .non))&&xs.length == ys.length
theorem cM {x:V} (h:qY x=true):vI x x=true:=by
 cases x with
 |non=>rfl
 |bl b=>show (b == b)=true;simp
 |int i=>show (i == i)=true;simp
 |str z=>show (z == z)=true;simp
 |_=>exact absurd (show false=true from h) Bool.false_ne_true
theorem rJ {xs:List V} (h:xs.all qY=true):v8 xs xs=true:=by
 unfold v8
 rw [Bool.and_eq_true]
 refine ⟨?_,by simp⟩
 rw [List.all_eq_true]
 intro j hj
 have hj':j<xs.length:=by simpa using hj
 refine cM ?_
 rw [List.getD_eq_getElem?_getD,List.getElem?_eq_getElem hj']
 exact List.all_eq_true.mp h _ (List.getElem_mem hj')
theorem zK {xs:List V} {us:List Value} (r:Vals xs us) {j:Nat} (h:j<us.toArray.size):RelV (xs.getD j .non) us.toArray[j]:=by
 have hj:j<us.length:=by simpa using h
 have hx:j<xs.length:=by rw [r.length];exact hj
 obtain ⟨u,e,q⟩:=r.get (List.getElem?_eq_getElem hx)
 rw [List.getElem?_eq_getElem hj] at e
 have e':=Option.some.inj e
 rw [List.getD_eq_getElem?_getD,List.getElem?_eq_getElem hx]
 show RelV xs[j] us.toArray[j]
 rw [List.getElem_toArray,e']
 exact q
theorem cI {xs:List V} (h:xs.all qY=true) {j:Nat} (hj:j<xs.length):qY (xs.getD j .non)=true:=by
 rw [List.getD_eq_getElem?_getD,List.getElem?_eq_getElem hj]
 exact List.all_eq_true.mp h _ (List.getElem_mem hj)
section
variable {X:Cx}
def IB (K:PySem.W.Frag) (neg:Bool):R2:=fun x y H Q=>∃a b xs ys,x=.ref a∧y=.ref b∧SqT K H a xs∧SqT K H b ys∧xs.all qY=true∧ys.all qY=true∧Q (.bl (if neg then !v8 xs ys else v8 xs ys)) H
theorem FY (hu:X.A.units<cLine):qQ X (compareOp .NotEq) (IB X.K true):=by
 intro pins s σ H x y v u Q I rx ry h
 obtain ⟨a,b,xs,ys,rfl,rfl,ha,hb,fx,fy,q⟩:=h
 cases rx
 cases ry
 obtain ⟨its,r,pl,hz⟩:=I.tuple ha
 obtain ⟨its2,r2,pl2,hz2⟩:=I.tuple hb
 have hl:=r.length
 have hl2:=r2.length
 refine SeqAt.RcNeAt.tuples (e:=fun j=>vI (xs.getD j .non) (ys.getD j .non)) pl pl2 hu (fun j h1 h2=>?_) X.prog X.w X.xe _ ⟨.bl _,H,I,rfl,?_⟩
 ·exact JI (zK r h1) (zK r2 h2) (cI fx (by rw [hl];simpa using h1)) (cI fy (by rw [hl2];simpa using h2))
 ·have e:(!((List.range (min its.toArray.size its2.toArray.size)).all (fun j=>vI (xs.getD j .non) (ys.getD j .non))&&its.toArray.size == its2.toArray.size)) = !v8 xs ys:=by
   unfold v8
   rw [List.size_toArray,List.size_toArray,← hl,← hl2]
  rw [e]
  exact q
end
end L2
namespace L2
open PySem PySem.Spec PyProof.Rows
def mJ:V→Bool
 |.ref _=>true
 |x=>qY x
theorem DG {A:Around} {s:Shared} {x:V} {u v:Value} (ru:RelV x u) (rv:RelV x v) (f:mJ x=true):SeqAt.EqAt A s u v true:=by
 cases x with
 |ref a =>
  cases ru
  cases rv
  exact SeqAt.EqAt.same _
 |non=>have:=JI (A:=A) (s:=s) ru rv rfl rfl;rwa [cM (x:=.non) rfl] at this
 |bl b=>have:=JI (A:=A) (s:=s) ru rv rfl rfl;rwa [cM (x:=.bl b) rfl] at this
 |int i=>have:=JI (A:=A) (s:=s) ru rv rfl rfl;rwa [cM (x:=.int i) rfl] at this
 |str z=>have:=JI (A:=A) (s:=s) ru rv rfl rfl;rwa [cM (x:=.str z) rfl] at this
 |_=>exact absurd (show false=true from f) Bool.false_ne_true
section
variable {X:Cx}
def G1 (K:PySem.W.Frag):R2:=fun x y H Q=>∃a b xs,x=.ref a∧y=.ref b∧SqL K H a xs∧SqL K H b xs∧xs.all mJ=true∧Q (.bl false) H
theorem FZ (hu:X.A.units<cLine):qQ X (compareOp .NotEq) (G1 X.K):=by
  intro pins s σ H x y v u Q I rx ry h
  obtain ⟨a,b,xs,rfl,rfl,ha,hb,fx,q⟩:=h
  cases rx
  cases ry
  obtain ⟨its,r,pl,hz⟩:=I.list ha
  obtain ⟨its2,r2,pl2,hz2⟩:=I.list hb
  have hl:=r.length
  have hl2:=r2.length
  refine SeqAt.RcNeAt.lists (e:=fun _=>true) pl.isList pl2.isList (by rw [List.size_toArray,List.size_toArray,← hl,hl2]) hu (fun j h1 h2=>?_) X.prog X.w X.xe _ ⟨.bl _,H,I,rfl,?_⟩
  · refine DG (zK r h1) (zK r2 h2) ?_
    have hj:j<xs.length:=by rw [hl];simpa using h1
    rw [List.getD_eq_getElem?_getD,List.getElem?_eq_getElem hj]
    exact List.all_eq_true.mp fx _ (List.getElem_mem hj)
  · have e:(!(List.range its.toArray.size).all fun _=>true)=false:=by simp
    rw [e]
    exact q
end
end L2
namespace L2
open PySem PySem.Spec PyProof.Rows
section
variable {X:Cx} (K:PySem.W.Frag)
theorem JC (h:X.K=K:=by rfl):IxR X (gJ K):=by subst h;exact j5
theorem qO (h:X.K=K:=by rfl):IxR X (mM K):=by subst h;exact ix_tup
theorem nL (h:X.K=K:=by rfl):v7 X (.builtin "len") (fun xs H Q=>∃p ys,xs=[.ref p]∧(SqL K H p ys∨SqT K H p ys)∧Q (.int ys.length) H):=by subst h;exact kI
theorem JE {es:List Expr} {k:Nat} {t:QE} {n:Nat} {pos:Pos} (hc:X.calm=true) (h:eS X es t) (hK:X.K=K:=by rfl)
  (hn:(assignEach es X.env).length=n:=by rfl) (hst:(assignEach es X.env).findIdx? (·.1)=none:=by rfl):PG X (.Tuple es k pos) (uE K n t):=by subst hK;exact lV hc h hn hst
end
end L2
namespace L2
open PySem PySem.Spec PyProof.Rows
section
variable {X:Cx}
end
end L2
namespace L2
open PySem PySem.Spec PyProof.Rows
section
variable {X:Cx}
def HX (t u:TS):TS:=fun D σ H=>∃P:St→Hp→Prop,t {D with nx:=P} σ H∧∀σ' H',P σ' H'→u D σ' H'
theorem eB {st:Stmt} {rest:List Stmt} {t u:TS} (h1:PS X st t) (h2:PSs X rest u):PSs X (st::rest) (HX t u):=by
 intro pins s σ H D I h
 obtain ⟨P,hP,hu⟩:=h
 refine wpAny_execs_cons (jW (h1 pins s σ H {D with nx:=P} I hP) fun f s1 q=>?_)
 cases f with
 |next =>
  obtain ⟨σ',H',I',q⟩:=q
  exact h2 pins s1 σ' H' D I' (hu σ' H' q)
 |ret v=>exact q
 |brk=>exact q
 |cont=>exact q
end
end L2
namespace L2
open PySem PySem.Spec PyProof.Rows
structure Def (P:Program) (w:World) (K:PySem.W.Frag) (mg:Str→Option Value) (base:Heap) (k:Nat) (x:Str) (ps:List Str) (dvs:List V) (sp:Sp):Prop where
 ex:∃(f:Addr) (fd:FuncData) (ds:List Value),FnOk P w K mg base jU k f fd ps sp∧mg x=some (.ref f)∧PySem.W.keepIn K (.ref f)=true∧Vals dvs ds∧Binds K fd ps ds
theorem jM {X:Cx} {k k':Nat} {x:Str} {ps:List Str} {dvs:List V} {sp:Sp} {p pos:Pos} {e:Expr} {es:List Expr} {t:TA} (F:Def X.prog X.w X.K X.mg X.base k x ps dvs sp) (hr:Room k' X.A) (hg:Gl X x) (ha:PA X (e::es) t)
  (hk:k≤k':=by decide) (hdb:(x == ("__debug__":Str))=false:=by decide) (he:starEach (e::es) X.env=(false,eval e X.env)::starEach es X.env:=by rfl) (hpl:(backTo pos (starEach es X.env)).any (·.1)=false:=by rfl) :
  PE X (.Call (.Name x p) (e::es) [] pos) (mD sp dvs E0 t):=by
 obtain ⟨f,fd,ds,G,m,kp,hv,b⟩:=F.ex
 exact E4 G (hr.mono hk) hg m kp b hv Q6 ha hdb he hpl
structure FunD (K:PySem.W.Frag) (x qual:Str) (st:Stmt) (f:Addr) (fd:FuncData) (ds:List Value):Prop where
 ex:∃(oc:Value) (od:Option Addr) (T:Addr) (kV doc pm:Value) (an:Option Addr) (cdv ct:Value) (osl:Array (Option Value)) (oT:Obj) (n:Nat),
  fd=PySem.W.fnOf x qual (jV st) (jS st) (jF st) (.ref T) kV doc pm an cdv ct∧K.lookup f=some ⟨oc,od,.func fd,osl⟩∧PySem.W.codeIn K cdv qual=true∧K.lookup T=some oT∧oT.data=.seq ds.toArray n
 kp:PySem.W.keepIn K (.ref f)=true
section
variable {P:Program} {w:World} {K:PySem.W.Frag} {mg:Str→Option Value} {base:Heap}
theorem FunD.ok {x qual:Str} {st:Stmt} {f:Addr} {fd:FuncData} {ds:List Value} {N ps:List Str} {k:Nat} {sp:Sp} (F:FunD K x qual st f fd ds) (S:FnScope N ps (jF st)) (len:∀vs H Q E,sp vs H Q E→vs.length=ps.length)
  (hbody:∀(cdv:Value) (A:Around) (outer:List Env) (s:Shared) (H:Hp) (vs:List V) (Q:VK) (E:XK),Room k (A.deeper (envOfC qual (jF st) s.heap.objs.size f cdv))→sp vs H Q E→
   ∃t,PSs (vX jU P w K mg base N qual (jF st) f cdv A outer s H E).nox (jS st) t∧t {nx:=fun _ H'=>Q .non H',rt:=Q} (start N vs) H):FnOk P w K mg base jU (k+1) f fd ps sp:=by
 obtain ⟨oc,od,T,kV,doc,pm,an,cdv,ct,osl,oT,n,rfl,lk,hcd,_,_⟩:=F.ex
 refine mI lk hcd S len fun A outer s H vs Q E hr hsp=>?_
 obtain ⟨t,h,q⟩:=hbody cdv A outer s H vs Q E hr hsp
 exact ⟨t,h.nox,q⟩
theorem FunD.binds {x qual:Str} {st:Stmt} {f:Addr} {fd:FuncData} {ds:List Value} {ps:List Str} (ds':List Value) (m:Nat) (hm:m+ds'.length=ps.length) (F:FunD K x qual st f fd ds)
  (h:∀(T:Addr) (kV doc pm:Value) (an:Option Addr) (cdv ct:Value) (us:List Value),us.length=m→∃k,bindArgs (PySem.W.fnOf x qual (jV st) (jS st) (jF st) (.ref T) kV doc pm an cdv ct) ⟨us,[]⟩=seqItems? (.ref T) >>= k∧
   k (some ds.toArray)=pure (ps.zip (us++ds'))):Binds K fd ps ds':=by
 obtain ⟨oc,od,T,kV,doc,pm,an,cdv,ct,osl,oT,n,rfl,lk,hcd,lT,dT⟩:=F.ex
 intro s us hK hl
 obtain ⟨k,h1,h2⟩:=h T kV doc pm an cdv ct us (by rw [List.length_append] at hl;omega)
 exact BindsTo.of_defaults rfl (hK _ _ lT) dT h1 h2
theorem FF {x qual:Str} {st:Stmt} {f T:Addr} {oc:Value} {od an:Option Addr} {osl:Array (Option Value)} {kV doc pm cdv ct:Value} {oT:Obj} {n:Nat} {ds:List Value}
  (l:K.lookup f=some ⟨oc,od,.func (PySem.W.fnOf x qual (jV st) (jS st) (jF st) (.ref T) kV doc pm an cdv ct),osl⟩)
  (c:PySem.W.codeIn K cdv qual=true) (k:PySem.W.keepIn K (.ref f)=true) (lT:K.lookup T=some oT) (dT:oT.data=.seq ds.toArray n):FunD K x qual st f (PySem.W.fnOf x qual (jV st) (jS st) (jF st) (.ref T) kV doc pm an cdv ct) ds :=
 ⟨⟨oc,od,T,kV,doc,pm,an,cdv,ct,osl,oT,n,rfl,l,c,lT,dT⟩,k⟩
end
section
variable {X:Cx}
theorem i4:uF X (gJ X.K):=by
 intro pins s σ H o i ov iv Q I ro ri h
 obtain ⟨p,xs,k,z,rfl,rfl,hq,he,q⟩:=h
 cases ro
 obtain ⟨t,rfl⟩:=ri
 obtain ⟨its,r,pl,hz⟩:=I.list hq
 obtain ⟨j,h1,h2,h3,h4,h5⟩:=fU he
 obtain ⟨w,ew,rw'⟩:=r.get h2
 have hl:=r.length
 have hn:=cX
 have fin:EP X pins σ Q w s:=⟨z,H,I,rw',q⟩
 by_cases h0:0≤k
 ·have hj:k.toNat=j:=by
   rw [seqIndex_of h0 h5] at h1
   exact Option.some.inj h1
  exact wpAny_getItem_list pl.isList h0 (by omega) (by rw [hj];simpa using ew) fin
 ·have hj:(k+(its.toArray.size:Int)).toNat=j:=by
   rw [seqIndex_neg (by omega) h4] at h1
   rw [List.size_toArray,← hl]
   exact Option.some.inj h1
  exact wpAny_getItem_list_neg pl.isList (by omega) (by rw [List.size_toArray]<;>omega) (by omega) (by rw [hj];simpa using ew) fin
end
end L2
namespace L2
open PySem
theorem dC {c A B:Prop} [Decidable c] (hc:¬c) (h:A):if (!decide c)=true then A else B:=by
 rw [decide_eq_false hc]
 exact kU h
theorem kF {c A B:Prop} [Decidable c] (hc:¬c) (h:B):if decide c=true then A else B:=by
 rw [decide_eq_false hc]
 exact qF h
theorem kM {c A B:Prop} [Decidable c] (hc:c) (h:A):if decide c=true then A else B:=by
 rw [decide_eq_true hc]
 exact kU h
end L2
namespace L2
open PySem PySem.Spec PyProof.Rows
end L2
namespace L2
open PySem PySem.Spec PyProof.Rows
structure MkD (P:Program) (w:World) (K:PySem.W.Frag) (mg:Str→Option Value) (base:Heap) (k:Nat) (x:Str) (C:Addr) (ps:List Str) (sp:Sp):Prop where
 ex:mg x=some (.ref C)∧∃(f:Addr) (fd:FuncData),Mk K C f∧FnOk P w K mg base jU k f fd ps sp∧Binds K fd ps []
structure MeD (P:Program) (w:World) (K:PySem.W.Frag) (mg:Str→Option Value) (base:Heap) (k:Nat) (C:Addr) (m:Str) (ps:List Str) (sp:Sp):Prop where
 ex:Cls K C∧∃(f:Addr) (fd:FuncData),Meth K C m f∧FnOk P w K mg base jU k f fd ps sp∧Binds K fd ps []
section
variable {X:Cx} {k k':Nat} {x m:Str} {C:Addr} {ps:List Str} {sp:Sp} {p pos apos:Pos} {o e:Expr} {es:List Expr} {ta:TE} {t:TA}
theorem eK (M:MkD X.prog X.w X.K X.mg X.base k x C ps sp) (hr:Room k' X.A) (hg:Gl X x) (ha:PA X (e::es) t)
  (hk:k+1≤k':=by decide) (hdb:(x == ("__debug__":Str))=false:=by decide) (he:starEach (e::es) X.env=(false,eval e X.env)::starEach es X.env:=by rfl) (hpl:(backTo pos (starEach es X.env)).any (·.1)=false:=by rfl) :
  PE X (.Call (.Name x p) (e::es) [] pos) (tT C sp [] E0 t):=by
 obtain ⟨hm,f,fd,M,G,b⟩:=M.ex
 exact E2 M G (hr.mono hk) hg hm b .nil Q6 ha hdb he hpl
theorem ZB {pl:Sem Bool} (M:MeD X.prog X.w X.K X.mg X.base k C m ps sp) (hr:Room k' X.A) (ho:PE X o ta) (ha:PA X (e::es) t) (hk:k≤k':=by decide)
  (hst:starEach (e::es) X.env=(false,eval e X.env)::starEach es X.env:=by rfl) (hpl:(backTo pos (starEach es X.env)).any (·.1)=false:=by rfl)
  (ht:eval (.Call (.Attribute o m apos) (e::es) [] pos) X.env=(do
   let ov ← eval o X.env
   standAt apos.atName
   let (f,first) ← holding [ov] (getMethod ov m pl)
   callWith pos f first (backTo pos (starEach (e::es) X.env)) (backToKw pos (keywordEach [] X.env))):=by rfl) :
  PE X (.Call (.Attribute o m apos) (e::es) [] pos) (gB C m sp [] E0 ta t):=by
 obtain ⟨c,f,fd,M,G,b⟩:=M.ex
 exact E1 (pl:=pl) ho c M G (hr.mono hk) b .nil Q6 ha hst hpl ht
theorem eM {pl:Sem Bool} (M:MeD X.prog X.w X.K X.mg X.base k C m ps sp) (hr:Room k' X.A) (ho:PE X o ta) (hk:k≤k':=by decide)
  (ht:eval (.Call (.Attribute o m apos) [] [] pos) X.env=(do
   let ov ← eval o X.env
   standAt apos.atName
   let (f,first) ← holding [ov] (getMethod ov m pl)
   callWith pos f first (backTo pos (starEach [] X.env)) (backToKw pos (keywordEach [] X.env))):=by rfl) :
  PE X (.Call (.Attribute o m apos) [] [] pos) (gB C m sp [] E0 ta gI):=by
 obtain ⟨c,f,fd,M,G,b⟩:=M.ex
 exact D8 (pl:=pl) ho c M G (hr.mono hk) b .nil Q6 ht
end
end L2
namespace L2
open PySem PySem.Spec PyProof.Rows
structure ClsM (K:PySem.W.Frag) (C:Addr) (m:Str) (f:Addr):Prop where
 sp:PySem.W.specialIn K (.ref C) "__getattribute__"=some (some (.builtin "type.__getattribute__"))
 rd:PySem.W.readsIn K C (.type "type")=true
 fc:PySem.W.findCls K (.ref C) (.type "type") m=some (.val (.ref f))
 kp:PySem.W.keepIn K (.ref f)=true
structure CmD (P:Program) (w:World) (K:PySem.W.Frag) (mg:Str→Option Value) (base:Heap) (k:Nat) (x:Str) (C:Addr) (m:Str) (ps:List Str) (sp:Sp):Prop where
 ex:mg x=some (.ref C)∧∃(f:Addr) (fd:FuncData),ClsM K C m f∧FnOk P w K mg base jU k f fd ps sp∧Binds K fd ps []
theorem sQ {X:Cx} {k k':Nat} {x m:Str} {C:Addr} {ps:List Str} {sp:Sp} {p pos apos:Pos} {e:Expr} {es:List Expr} {t:TA} {pl:Sem Bool} (M:CmD X.prog X.w X.K X.mg X.base k x C m ps sp) (hr:Room k' X.A) (hg:Gl X x) (ha:PA X (e::es) t) (hk:k≤k':=by decide)
  (hdb:(x == ("__debug__":Str))=false:=by decide) (hst:starEach (e::es) X.env=(false,eval e X.env)::starEach es X.env:=by rfl) (hpl:(backTo pos (starEach es X.env)).any (·.1)=false:=by rfl)
  (ht:eval (.Call (.Attribute (.Name x p) m apos) (e::es) [] pos) X.env=(do
   let ov ← eval (.Name x p) X.env
   standAt apos.atName
   let (f,first) ← holding [ov] (getMethod ov m pl)
   callWith pos f first (backTo pos (starEach (e::es) X.env)) (backToKw pos (keywordEach [] X.env))):=by rfl) :
  PE X (.Call (.Attribute (.Name x p) m apos) (e::es) [] pos) (mD sp [] E0 t):=by
 obtain ⟨hm,f,fd,c,G,b⟩:=M.ex
 intro pins s σ H Q I h
 refine PySem.W.methodCall_KW (pl:=pl) (jW ((eC (v:=.ref C) hg hm rfl hdb:PE X (.Name x p) (tC (.ref C))) pins s σ H (fun v H1=>v=.ref C∧H1=H) I ⟨rfl,rfl⟩) fun u s1 ⟨v,H1,I1,rv,e1,e2⟩=>?_) ht
 subst e1 e2
 obtain rfl:u=Value.ref C:=rv
 refine PySem.W.method_cls I1.kIn c.sp (PySem.W.cls_value I1.kIn c.rd c.fc rfl ?_)
 have I2:=I1.tok (s1.toks+1)
 refine PySem.W.callWith_K (first:=[]) (h₀:=X.base) I.ok.mod.kin c.kp (jW (ha pos pins _ σ H1 _ I2 h) fun us s2 ⟨vs,H2,I3,r,q2⟩=>⟨I3.kIn,?_⟩) hst hpl
 exact cT (us:=us) (vs:=vs) G (hr.mono hk) b .nil Q6 I3 r q2
end L2
namespace L2
open PySem PySem.Spec PyProof.Rows
section
variable {X:Cx}
theorem nO {ns:List Int} {its:List Value} (rv:Vals (ns.map V.int) its) {i:Nat} {v:Value} (h:its.toArray[i]?=some v):∃t,v=Value.int (ns.getD i 0) t:=by
 have h':its[i]?=some v:=by simpa using h
 have hi:i<its.length:=(List.getElem?_eq_some_iff.mp h').1
 have hn:i<ns.length:=by have:=rv.length;rw [List.length_map] at this;omega
 obtain ⟨u,e,q⟩:=rv.get (x:=V.int (ns.getD i 0)) (i:=i) (by rw [List.getElem?_map,List.getElem?_eq_getElem hn,List.getD_eq_getElem?_getD,List.getElem?_eq_getElem hn];rfl)
 rw [h'] at e
 cases e
 exact q
theorem BL (bs:List Bool):(List.range bs.length).all (fun i=>bs.getD i true)=bs.all id:=by
 rw [Bool.eq_iff_iff,List.all_eq_true,List.all_eq_true]
 constructor
 ·intro h x hx
  obtain ⟨i,hi,e⟩:=List.mem_iff_getElem.mp hx
  have:=h i (by simpa using hi)
  rw [List.getD_eq_getElem?_getD,List.getElem?_eq_getElem hi,e] at this
  exact this
 ·intro h i hi
  have hi':i<bs.length:=by simpa using hi
  rw [List.getD_eq_getElem?_getD,List.getElem?_eq_getElem hi']
  exact h _ (List.getElem_mem hi')
theorem fK (hc:X.calm=true):v7 X (.builtin "sum") (fun xs H Q=>∃(p:Addr) (ns:List Int),xs=[.ref p]∧SqL X.K H p (ns.map V.int)∧Q (.int ns.sum) H):=by
 intro pins s σ H xs us Q I r h
 obtain ⟨p,ns,rfl,hq,q⟩:=h
 obtain ⟨u,rfl,rx⟩:=J7 r
 cases rx
 obtain ⟨its,rv,pl,hz⟩:=I.list hq
 have hlen:=rv.length
 rw [List.length_map] at hlen
 have hp:p<s.heap.objs.size:=by obtain ⟨o,n,e,_⟩:=pl;exact Heap.lt_size e
 refine call_sum_walkAnyS (wpAny_pyIter_list pl.isList ?_)
 refine ⟨s.heap.objs.size,_,_,_,_,_,_,fun i=>ns.getD i 0,rfl,(Walks.list (A:=X.A.in1) (I.ok.hd hc) s.heap.objs.size p (Nat.ne_of_lt hp) its.toArray).toS,⟨⟨_,Heap.get?_push_size _ rfl,rfl,rfl⟩,pl.isList.at fun o e=>Heap.get?_push_of_some _ e⟩,fun b hb=>?_,fun i v h=>nO rv h,fun s' t' m=>?_⟩
 ·rw [Heap.size_push]
  rcases List.mem_cons.mp hb with e|e
  ·rw [e];exact Nat.lt_succ_self _
  ·have e':b=p:=by simpa using e
   rw [e'];exact Nat.lt_succ_of_lt hp
 ·obtain ⟨hh,g,d,t,os⟩:=s'
  obtain ⟨m1,m2,m3,m4,m5⟩:=m
  have m2':g=s.gens:=m2
  have m3':d=s.drawn:=m3
  have m4':os=s.os:=m4
  subst m2' m3' m4'
  have e:preSum (fun i=>ns.getD i 0) its.toArray.size=ns.sum:=by rw [preSum_getD,List.size_toArray,← hlen,List.take_length]
  rw [e]
  refine ⟨.int ns.sum,H,I.kept (t':=t) fun b o e=>m1 b o (fun hb=>?_) (Heap.get?_push_of_some _ e),⟨_,rfl⟩,q⟩
  have e':b=s.heap.objs.size:=by simpa using hb
  exact absurd (Heap.lt_size e) (by rw [e'];exact Nat.lt_irrefl _)
end
end L2
namespace L2
open PySem PySem.Spec PyProof.Rows
def mR (p:Addr) (a b c:Int):HO:=.ext fun h=>∃t u v,IsRange h p a b c t u v
section
variable {X:Cx}
theorem BZ:v7 X (.type "range") (fun xs H Q=>∃a b c:Int,xs=[.int a,.int b,.int c]∧c≠0∧c.natAbs<1073741824∧∀p,H p=none→Q (.ref p) (upd H p (mR p a b c))):=by
 intro pins s σ H xs us Q I r h
 obtain ⟨a,b,c,rfl,hc,hs,q⟩:=h
 cases r with
 |cons r1 r2 =>
  cases r2 with
  |cons r3 r4 =>
   cases r4 with
   |cons r5 r6 =>
    cases r6
    obtain ⟨t,rfl⟩:=r1
    obtain ⟨u,rfl⟩:=r3
    obtain ⟨v,rfl⟩:=r5
    refine call_range_3 hc ?_ (.inl (PyProof.noPylong_small hs))
    refine ⟨.ref s.heap.objs.size,_,I.laid (t':=s.toks) (o:=mR s.heap.objs.size a b c) (fun b o e=>Heap.get?_push_of_some _ e) (Nat.le_refl _) ?_,rfl,q _ (I.hok.fresh (Nat.le_refl _))⟩
    exact ⟨⟨t,u,v,Heap.get?_push_size _ rfl⟩,⟨_,Heap.get?_push_size _ rfl⟩,fun h1 h2 ⟨t,u,v,e⟩ k=>⟨t,u,v,k _ e⟩⟩
theorem nI {f:Nat→Int}:∀{n:Nat} {acc:List Value},acc.length=n→(∀i v,acc[i]?=some v→∃t,v=Value.int (f i) t)→Vals ((List.range n).map fun (i:Nat)=>V.int (f i)) acc
 |0,acc,hl,h=>by
  cases acc with
  |nil=>exact .nil
  |cons x r=>cases hl
 |n+1,acc,hl,h=>by
  obtain ⟨init,last,rfl⟩:∃init last,acc=init++[last]:=by
   have hne:acc≠[]:=by intro e;rw [e] at hl;cases hl
   exact ⟨acc.dropLast,acc.getLast hne,(List.dropLast_concat_getLast hne).symm⟩
  rw [List.length_append,List.length_singleton] at hl
  have hi:init.length=n:=by omega
  rw [List.range_succ,List.map_append]
  refine Vals.append (nI hi fun i v e=>h i v ?_) (.cons ?_ .nil)
  ·rw [List.getElem?_append_left (List.getElem?_eq_some_iff.mp e).1]
   exact e
  ·exact h n last (by rw [List.getElem?_append_right (by omega),hi,Nat.sub_self];rfl)
theorem BM (hc:X.calm=true):v7 X (.type "list") (fun xs H Q=>∃(p:Addr) (a b c:Int) (n:Nat),xs=[.ref p]∧H p=some (mR p a b c)∧Builtin.Range.small a b c=true∧Builtin.Range.rangeSize a b c=n∧n≤1000∧
  ∀l,H l=none→Q (.ref l) (upd H l (.lst ((List.range n).map fun (i:Nat)=>V.int (a+(i:Int)*c))))):=by
 intro pins s σ H xs us Q I r h
 obtain ⟨p,a,b,c,n,rfl,hp,hsm,hn,hz,q⟩:=h
 obtain ⟨u,rfl,rx⟩:=J7 r
 cases rx
 obtain ⟨⟨t,u,v,e⟩,_,_⟩:=I.hok p _ hp
 refine call_list_range (I.ok.hd hc) e hsm hn (by omega) fun h' tk acc' c' hk hS' hacc=>?_
 have hl:acc'.toList.length=n:=by have:=hacc.1;simpa using this
 refine ⟨.ref s.heap.objs.size,_,I.laid (t':=tk) (o:=.lst ((List.range n).map fun (i:Nat)=>V.int (a+(i:Int)*c))) hk (Nat.le_refl _) ?_,rfl,q _ (I.hok.fresh (Nat.le_refl _))⟩
 refine ⟨by rw [List.length_map,List.length_range];exact Nat.le_of_lt (qM hz),acc'.toList,c',nI hl fun i v e=>hacc.2 i v (by simpa using e),by simpa using hS'⟩
end
end L2
namespace L2
open PySem PySem.Spec PyProof.Rows
def vF (n:Nat):List Nat:=(List.range n).reverse
theorem CK (n:Nat):((List.range n).map fun (i:Nat)=>V.int (((n:Int) - 1)+(i:Int) * -1))=(vF n).map fun (i:Nat)=>V.int (i:Int):=by
 apply List.ext_getElem?
 intro k
 unfold vF
 rw [List.getElem?_map,List.getElem?_map]
 by_cases hk:k<n
 ·rw [List.getElem?_range hk,List.getElem?_reverse (by simpa using hk),List.length_range,List.getElem?_range (by omega)]
  show some (V.int ((n:Int) - 1+(k:Int) * -1))=some (V.int ((n - 1 - k:Nat):Int))
  congr 2
  omega
 ·rw [List.getElem?_eq_none (by simp;omega),List.getElem?_eq_none (by simp;omega)]
  rfl
theorem pF (n:Nat):Builtin.Range.rangeSize ((n:Int) - 1) (-1) (-1)=n:=by
 unfold Builtin.Range.rangeSize
 rw [if_neg (by decide)]
 by_cases h:(n:Int) - 1 > -1
 ·rw [if_pos h]
  have e:((n:Int) - 1 - -1 - 1) / (- (-1:Int))=(n:Int) - 1:=by
   have e1:(-(-1:Int))=1:=rfl
   rw [e1,Int.ediv_one]
   omega
  rw [e]
  omega
 ·rw [if_neg h]
  omega
theorem CL {n:Nat} (h:n≤1000):Builtin.Range.small ((n:Int) - 1) (-1) (-1)=true:=by
 unfold Builtin.Range.small
 rw [pF]
 simp only [Builtin.Range.rangeFitsLong,Bool.and_eq_true,Bool.or_eq_true,decide_eq_true_eq,beq_iff_eq]
 simp
 omega
end L2
namespace L2
open PySem PySem.Spec PyProof.Rows
section
variable {P:Program} {w:World} {H:Hp} {h h':Heap} {a:Addr} {o:HO}
theorem ObjOk.there (x:ObjOk P w H h a o):∃u,h.get? a=some u:=by
 cases o with
 |lst xs=>obtain ⟨_,_,_,_,e⟩:=x;exact ⟨_,e⟩
 |tup xs=>obtain ⟨_,_,_,o,e,_⟩:=x;exact ⟨_,e⟩
 |dK kvs=>obtain ⟨_,_,_,_,o,_,_,e,_⟩:=x;exact ⟨_,e⟩
 |dT kvs=>obtain ⟨_,_,_,_,o,_,_,e,_⟩:=x;exact ⟨_,e⟩
 |set S n=>obtain ⟨o,_,_,_,e,_⟩:=x;exact ⟨_,e⟩
 |ins C dx fs=>obtain ⟨_,_,_,e,_⟩:=x;exact ⟨_,e⟩
 |own y=>obtain ⟨_,e⟩:=x;exact ⟨_,e⟩
 |xd fs=>obtain ⟨_,⟨_,_,_,e,_⟩,_⟩:=x;exact ⟨_,e⟩
 |rng lo hi=>obtain ⟨_,_,_,e⟩:=x;exact ⟨_,e⟩
 |frz ob u=>obtain ⟨e,_⟩:=x;exact ⟨_,e⟩
 |tbl ps=>exact ⟨_,(show h.get? a=some _ from x)⟩
 |met f y=>exact ⟨_,(show h.get? a=some _ from x)⟩
 |ext φ=>obtain ⟨_,e,_⟩:=x;exact e
theorem HOk.there (x:HOk P w H h) (e:H a=some o):∃u,h.get? a=some u:=(x a o e).there
theorem HOk.keepT (x:HOk P w H h) (k:∀b u,H b≠none→h.get? b=some u→h'.get? b=some u):HOk P w H h':=fun a o e =>
 (x a o e).stay (fun b u hb q=>k b u (by
  rcases hb with rfl|hb
  ·rw [e];exact fun z=>nomatch z
  ·rw [hb];exact fun z=>nomatch z) q) (fun _ q=>q) fun _ _ q=>q
end
theorem Un.go {fs ex:List Addr} {H H1:Hp} {h0 h h':Heap} (u:Un fs ex H H1 h0 h) (k:∀b o,h.get? b=some o→b∉fs→b∉ex→(∃o',h0.get? b=some o')→h'.get? b=some o)
  (ks:∀b o,h.get? b=some o→b∈fs→(∃o',h0.get? b=some o')→∃sl,h'.get? b=some {o with slots:=sl}):Un fs ex H H1 h0 h' where
 keep:=fun b o q n hb hx=>k b o (u.keep b o q n hb hx) hb hx ⟨o,q⟩
 slot:=fun b o q n hb hx=>by
  obtain ⟨sl,e⟩:=u.slot b o q n hb hx
  obtain ⟨sl',e'⟩:=ks b _ e hb ⟨o,q⟩
  exact ⟨sl',e'⟩
 free:=u.free
 there:=fun b o q hx=>by
  obtain ⟨o',e⟩:=u.there b o q hx
  by_cases hb:b∈fs
  ·obtain ⟨sl,e'⟩:=ks b o' e hb ⟨o,q⟩
   exact ⟨_,e'⟩
  ·exact ⟨o',k b o' e hb hx ⟨o,q⟩⟩
 tups:=u.tups
 frzs:=u.frzs
 tbls:=u.tbls
def IU (fr:List Env) (Z:Addr→Prop) (h:Heap) (a C:Addr):Prop :=
 ∃(B:Heap) (a0:Value),Heap.FlyingW B fr a (.ref C) a0 h∧∀b o,h.get? b=some o→b∉kS fr→Z b→B.get? b=some o
def vY (P:Program) (w:World):yF:=fun outer H s E e s'=>∃(a C:Addr) (H':Hp),e=.ref a∧s'.os=s.os∧AllBare s'.gens∧Un (kS outer) [] H H' s.heap s'.heap∧HOk P w H' s'.heap∧
 IU outer (fun b=>H' b≠none∨∃o',s.heap.get? b=some o') s'.heap a C∧H' a=none∧s.heap.get? a=none∧E (.ref C) none H'
def tR (X:Cx) (R:St→Value→Hp→Prop):Prop:=∀pins σ H s e h' C vs,Inv X pins σ H s→Heap.MadeExcOf s.heap h' e (.ref C) vs→R σ (.ref C) H→X.xe (.ref e) {s with heap:=h'}
def mL (X:Cx) (R:St→Value→Hp→Prop):Prop:=∀pins σ H s e s',Inv X pins σ H s→vY X.prog X.w X.stack H s (fun c _ H'=>R σ c H') e s'→X.xe e s'
theorem oR {P:Program} {w:World} {K:PySem.W.Frag} {mg:Str→Option Value} {base:Heap} {N:List Str} {qual:Str} {scope:Scope} {f:Addr} {cd:Value} {A:Around} {outer:List Env} {s:Shared} {H:Hp} {E:XK} :
  tR (vX (vY P w) P w K mg base N qual scope f cd A outer s H E) (fun _ c H'=>E c none H'):=by
 intro pins σ H1 s1 e h' C vs I hx q
 have hin:∀env∈(envOfC qual scope s.heap.objs.size f cd::outer),∀b,env.frame=some b→b∈kS (envOfC qual scope s.heap.objs.size f cd::outer):=fun env he b hb=>List.mem_filterMap.mpr ⟨env,he,hb⟩
 have hst:s1.heap.FunFrames base (envOfC qual scope s.heap.objs.size f cd::outer):=I.stack
 have hfrees:∀b∈kS (envOfC qual scope s.heap.objs.size f cd::outer),H1 b=none:=I.stkFree
 have hfs:kS (envOfC qual scope s.heap.objs.size f cd::outer)=s.heap.objs.size::kS outer:=rfl
 have ub:Un (kS outer) [] H H1 s.heap s1.heap:=I.base
 have hno:s1.heap.get? e=none:=hx.new
 show wpAny (model P w) (A.deeper (envOfC qual scope s.heap.objs.size f cd)) (leaving (envOfC qual scope s.heap.objs.size f cd) (.ref e)) (fun _ s''=>vY P w outer H s E (.ref e) s'') (fun e' s''=>vY P w outer H s E e' s'') {s1 with heap:=h'}
 refine wpAny_leaves_madeW (base:=PySem.W.hideAll s1.heap (kS (envOfC qual scope s.heap.objs.size f cd::outer))) I.ok.frames rfl (fun b o q=>PySem.W.of_hideAll _ q) (PySem.W.funFrames_hide hst hin) hx fun h2 t fl _ _ up=>?_
 dsimp only at up
 have keep:∀b o,s1.heap.get? b=some o→b∉kS (envOfC qual scope s.heap.objs.size f cd::outer)→(PySem.W.hideAll s1.heap (kS (envOfC qual scope s.heap.objs.size f cd::outer))).get? b=some o:=fun b o q n=>PySem.W.hideAll_get _ q n
 have old:∀b,(∃o',s.heap.get? b=some o')→b∉kS outer→b∉kS (envOfC qual scope s.heap.objs.size f cd::outer):=fun b ⟨o',q⟩ n z=>by
  rw [hfs] at z
  rcases List.mem_cons.mp z with z|z
  ·exact absurd (Heap.lt_size q) (by rw [z];exact Nat.lt_irrefl _)
  ·exact n z
 have zT:∀b,H1 b≠none→b∉kS (envOfC qual scope s.heap.objs.size f cd::outer):=fun b hb z=>hb (hfrees b z)
 refine ⟨e,C,H1,rfl,I.os,I.bare,ub.go (fun b o q n _ z=>fl.1 b o (keep b o q (old b z n))) (fun b o q n _=>?_),I.hok.keepT fun b u hb q=>fl.1 b u (keep b u q (zT b hb)),?_,?_,?_,q⟩
 ·obtain ⟨_,o',ho',hd⟩:=hst.mem (show b∈kS (envOfC qual scope s.heap.objs.size f cd::outer) from by rw [hfs];exact List.mem_cons_of_mem _ n)
  rw [q] at ho';cases ho'
  exact up b o (hx.keeps b o q) hd
 ·refine ⟨_,_,fl,fun b o q n z=>?_⟩
  have hn:b∉kS (envOfC qual scope s.heap.objs.size f cd::outer):=by
   rcases z with z|z
   ·exact zT b z
   ·exact old b z n
  have h1:∃u,s1.heap.get? b=some u:=by
   rcases z with z|⟨o',z⟩
   ·cases r:H1 b with
    |none=>exact absurd r z
    |some v=>exact I.hok.there r
   ·exact ub.there b o' z (by simp)
  obtain ⟨u,hu⟩:=h1
  have hB:=keep b u hu hn
  have:=fl.1 b u hB
  have q':h2.get? b=some o:=q
  rw [q'] at this
  cases this
  exact hB
 ·cases r:H1 e with
  |none=>rfl
  |some v =>
   obtain ⟨u,hu⟩:=I.hok.there r
   rw [hno] at hu;cases hu
 ·cases r:s.heap.get? e with
  |none=>rfl
  |some v =>
   obtain ⟨u,hu⟩:=ub.there e v r (by simp)
   rw [hno] at hu;cases hu
theorem EI {P:Program} {w:World} {K:PySem.W.Frag} {mg:Str→Option Value} {base:Heap} {N:List Str} {qual:Str} {scope:Scope} {f:Addr} {cd:Value} {A:Around} {outer:List Env} {s:Shared} {H:Hp} {E:XK} :
  mL (vX (vY P w) P w K mg base N qual scope f cd A outer s H E) (fun _ c H'=>E c none H'):=by
 intro pins σ H1 s1 e s2 I hx
 obtain ⟨a,C,H2,rfl,os,bare,un,hok,⟨B,a0,fl,ground⟩,ha,hs,q⟩:=hx
 have fl':Heap.FlyingW B (envOfC qual scope s.heap.objs.size f cd::outer) a (.ref C) a0 s2.heap:=fl
 have J:Inv (vX (vY P w) P w K mg base N qual scope f cd A outer s H E) pins σ H2 s2:=I.call' (ch:=[]) os un hok bare fun b z=>absurd z (by simp)
 have ub:Un (kS outer) [] H H2 s.heap s2.heap:=J.base
 have hfs:kS (envOfC qual scope s.heap.objs.size f cd::outer)=s.heap.objs.size::kS outer:=rfl
 have old:∀b,(∃o',s.heap.get? b=some o')→b∉kS outer→b∉kS (envOfC qual scope s.heap.objs.size f cd::outer):=fun b ⟨o',q⟩ n z=>by
  rw [hfs] at z
  rcases List.mem_cons.mp z with z|z
  ·exact absurd (Heap.lt_size q) (by rw [z];exact Nat.lt_irrefl _)
  ·exact n z
 have zT:∀b,H2 b≠none→b∉kS (envOfC qual scope s.heap.objs.size f cd::outer):=fun b hb z=>hb (J.stkFree b z)
 have u1:Un (kS outer) [] H H1 s.heap s1.heap:=I.base
 have in1:∀b,(∃o',s.heap.get? b=some o')→∃o',s1.heap.get? b=some o':=fun b ⟨o',z⟩=>u1.there b o' z (by simp)
 have hst:s2.heap.FunFrames base (envOfC qual scope s.heap.objs.size f cd::outer):=J.stack
 show wpAny (model P w) (A.deeper (envOfC qual scope s.heap.objs.size f cd)) (leaving (envOfC qual scope s.heap.objs.size f cd) (.ref a)) (fun _ s''=>vY P w outer H s E (.ref a) s'') (fun e' s''=>vY P w outer H s E e' s'') s2
 refine wpAny_leaves_onW J.ok.frames rfl fl' fun h3 fl3 up=>?_
 refine ⟨a,C,H2,rfl,J.os,J.bare,ub.go (fun b o q n _ z=>fl3.1 b o (ground b o q (old b z n) (.inr (in1 b z)))) (fun b o q n _=>?_),J.hok.keepT fun b u hb q=>fl3.1 b u (ground b u q (zT b hb) (.inl hb)),?_,ha,?_,q⟩
 ·obtain ⟨_,o',ho',hd⟩:=hst.mem (show b∈kS (envOfC qual scope s.heap.objs.size f cd::outer) from by rw [hfs];exact List.mem_cons_of_mem _ n)
  rw [q] at ho';cases ho'
  exact up b o q hd
 ·refine ⟨B,a0,fl3,fun b o q n z=>?_⟩
  have hn:b∉kS (envOfC qual scope s.heap.objs.size f cd::outer):=by
   rcases z with z|z
   ·exact zT b z
   ·exact old b z n
  have h1:∃u,s2.heap.get? b=some u:=by
   rcases z with z|⟨o',z⟩
   ·cases r:H2 b with
    |none=>exact absurd r z
    |some v=>exact J.hok.there r
   ·exact ub.there b o' z (by simp)
  obtain ⟨u,hu⟩:=h1
  have hB:=ground b u hu hn (by
   rcases z with z|z
   ·exact .inl z
   ·exact .inr (in1 b z))
  have:=fl3.1 b u hB
  have q':h3.get? b=some o:=q
  rw [q'] at this
  cases this
  exact hB
 ·cases r:s.heap.get? a with
  |none=>rfl
  |some v =>
   obtain ⟨u,hu⟩:=in1 a ⟨v,r⟩
   rw [hs] at hu;cases hu
end L2
namespace L2
open PySem PySem.Spec PyProof.Rows
theorem FI {K:PySem.W.Frag} {h:Heap} {C:Addr} {bmB:List Value} {newId:String} (X:K.In h) (q:PySem.W.excIn K C bmB newId=true) :
  ∃bm N nm qn bs hdct sn sub ab col dd k0 k1 k2 k3 k5 mN,K.lookup C=some (excClassObj nm qn C N bs bm hdct sn sub ab col dd k0 k1 k2 k3 k5 newId)∧h.get? C=some (excClassObj nm qn C N bs bm hdct sn sub ab col dd k0 k1 k2 k3 k5 newId)∧h.Ns N mN∧mN "__init__"=none∧OwnTail h bmB bm:=by
 unfold PySem.W.excIn at q
 split at q
 ·rename_i dd cd sl ho
  split at q
  ·rename_i C' bm k0 k1 k2 k3 n k5 hm hs
   simp only [Bool.and_eq_true,beq_iff_eq,Bool.not_eq_true'] at q
   obtain ⟨⟨⟨⟨⟨rfl,rfl⟩,hdel⟩,ht⟩,hok⟩,hni⟩:=q
   obtain ⟨nm,bs,mro,ns,qn,hd,sn,sub,ab,col,del⟩:=cd
   dsimp only at hm hdel hok hni
   subst hm hdel
   have hsl:sl = #[k0,k1,k2,k3,some (.builtin n),k5]:=by
    obtain ⟨l⟩:=sl
    simp only at hs
    rw [hs]
   subst hsl
   exact ⟨bm,ns,nm,qn,bs,hd,sn,sub,ab,col,dd,k0,k1,k2,k3,k5,_,ho,X _ _ ho,.of_isNs (PySem.W.isNs_of_in X hok),PySem.W.nsMap_none_of_in X hok hni,PySem.W.tail_of_in X ht⟩
  ·cases q
 ·cases q
abbrev ID:List Value:=[.type "ValueError",.type "Exception",.type "BaseException",.type "object"]
def mW (K:PySem.W.Frag) (C:Addr):Prop:=PySem.W.excIn K C ID "ValueError.__new__"=true
section
variable {X:Cx} {R:St→Value→Hp→Prop} {x:Str} {C:Addr} {np cpos pos p:Pos} {e:Expr} {es:List Expr} {t:TA}
theorem p9 (hx:tR X R) (hcalm:X.calm=true) (hg:Gl X x) (hm:X.mg x=some (.ref C)) (hc:mW X.K C) (ha:PA X (e::es) t) (hdb:(x == ("__debug__":Str))=false:=by decide)
  (he:starEach (e::es) X.env=(false,eval e X.env)::starEach es X.env:=by rfl) (hpl:(backTo cpos (starEach es X.env)).any (·.1)=false:=by rfl) :
  PS X (.Raise (some (.Call (.Name x np) (e::es) [] cpos)) none pos) (fun _ σ H=>t σ H fun vs H1=>vs.length≤sizeLine∧R σ (.ref C) H1):=by
 intro pins s σ H D I h
 obtain ⟨tl,N,nm,q,bs,hdct,sn,sub,ab,col,dd,k0,k1,k2,k3,k5,mN,_,hC,hN,hni,T⟩:=FI I.ok.mod.kin hc
 refine wpAny_Raise_call_subT (C:=C) (nm:=nm) (q:=q) (N:=N) (bs:=bs) (bm:=tl) (hdct:=hdct) (sn:=sn) (sub:=sub) (ab:=ab) (col:=col) (dd:=dd) (k0:=k0) (k1:=k1) (k2:=k2) (k3:=k3) (k5:=k5)
  PySem.F.excBase_ValueError (mN:=mN) (T.hasType PySem.F.excBase_ValueError.hasBase) (I.ok.hd hcalm) (by rw [he];show (false||(backTo cpos (starEach es X.env)).any (·.1))=false;rw [hpl];rfl) hni (eF I hg hm ⟨rfl,?_⟩ hdb)
 have h1:=ha cpos pins s σ H _ I h
 rw [he] at h1 ⊢
 refine Calls.evalArgs_plain (wpAny_mono h1 (fun us s2 ⟨vs,H2,I2,r2,hl,q2⟩=>⟨rfl,by rw [← r2.length];exact hl,I2.bk _ _ hC,hN.keeps I2.bk,T.keeps I2.bk,fun h' a hm=>hx pins σ H2 s2 a h' C us I2 hm q2⟩) fun _ _ y=>y)
def FP (sp:Sp) (dvs:List V) (R:St→Value→Hp→Prop) (t:TA):TE:=fun σ H Q=>t σ H fun vs H1=>sp (vs++dvs) H1 Q (fun c _ H'=>R σ c H')
theorem EX {k:Nat} {f:Addr} {fd:FuncData} {ps:List Str} {sp:Sp} {dvs:List V} {ds:List Value} {pins:List (Addr×Obj)} {σ:St} {H:Hp} {s:Shared} {Q:VK} {us:List Value} {vs:List V} (F:FnOk X.prog X.w X.K X.mg X.base (vY X.prog X.w) k f fd ps sp) (hr:Room k X.A) (hb:Binds X.K fd ps ds) (hd:Vals dvs ds) (hx:mL X R)
  (I:Inv X pins σ H s) (r:Vals vs us) (h:sp (vs++dvs) H Q (fun c _ H'=>R σ c H')):wpAny (model X.prog X.w) X.A (call (.ref f) us) (EP X pins σ Q) X.xe s:=by
 have r2:Vals (vs++dvs) (us++ds):=r.append hd
 have hl:(us++ds).length=ps.length:=by rw [← r2.length];exact F.len _ _ _ _ h
 refine wpAny_call (codeAny_mono (F.run X.A X.stack s H ⟨us,[]⟩ (us++ds) (vs++dvs) Q _ hr I.env0 (hb s us I.kIn hl) r2 h) fun r s' hq=>?_)
 cases r with
 |error e=>exact hx pins σ H s e s' I hq
 |ok fl =>
  cases fl with
  |ret u=>exact I.after hq
  |next=>exact False.elim hq
  |brk=>exact False.elim hq
  |cont=>exact False.elim hq
end
structure DefX (P:Program) (w:World) (K:PySem.W.Frag) (mg:Str→Option Value) (base:Heap) (k:Nat) (x:Str) (ps:List Str) (dvs:List V) (sp:Sp):Prop where
 ex:∃(f:Addr) (fd:FuncData) (ds:List Value),FnOk P w K mg base (vY P w) k f fd ps sp∧mg x=some (.ref f)∧PySem.W.keepIn K (.ref f)=true∧Vals dvs ds∧Binds K fd ps ds
theorem E3 {X:Cx} {R:St→Value→Hp→Prop} {k k':Nat} {x:Str} {ps:List Str} {dvs:List V} {sp:Sp} {p pos:Pos} {e:Expr} {es:List Expr} {t:TA} (F:DefX X.prog X.w X.K X.mg X.base k x ps dvs sp) (hx:mL X R) (hr:Room k' X.A) (hg:Gl X x) (ha:PA X (e::es) t)
  (hk:k≤k':=by decide) (hdb:(x == ("__debug__":Str))=false:=by decide) (he:starEach (e::es) X.env=(false,eval e X.env)::starEach es X.env:=by rfl) (hpl:(backTo pos (starEach es X.env)).any (·.1)=false:=by rfl) :
  PE X (.Call (.Name x p) (e::es) [] pos) (FP sp dvs R t):=by
 obtain ⟨f,fd,ds,G,m,kp,hv,b⟩:=F.ex
 intro pins s σ H Q I h
 refine wpAny_Call_Name_kw (eF I hg m ?_ hdb)
 refine PySem.W.callWith_K (h₀:=X.base) I.ok.mod.kin kp (jW (ha pos pins s σ H _ I h) fun us s1 ⟨vs,H1,I1,r,q⟩=>⟨I1.kIn,?_⟩) he hpl
 exact EX G (hr.mono hk) b hv hx I1 r q
section
variable {X:Cx} {pins pins':List (Addr×Obj)} {σ:St} {H:Hp} {s:Shared} {R:St→Value→Hp→Prop}
end
section
variable {X:Cx} {pins:List (Addr×Obj)} {σ:St} {H:Hp} {s:Shared} {e:Value}
end
end L2
namespace L2
open PySem PySem.Spec PyProof.Rows
section
variable {P:Program} {w:World} {K:PySem.W.Frag} {mg:Str→Option Value} {base:Heap}
theorem Fun.okX {x qual:Str} {st:Stmt} {f:Addr} {fd:FuncData} {N ps:List Str} {k:Nat} {sp:Sp} (F:Fun K x qual st f fd) (S:FnScope N ps (jF st)) (len:∀vs H Q E,sp vs H Q E→vs.length=ps.length)
  (hbody:∀(cdv:Value) (A:Around) (outer:List Env) (s:Shared) (H:Hp) (vs:List V) (Q:VK) (E:XK),Room k (A.deeper (envOfC qual (jF st) s.heap.objs.size f cdv))→sp vs H Q E→
   ∃t,PSs (vX (vY P w) P w K mg base N qual (jF st) f cdv A outer s H E) (jS st) t∧t {nx:=fun _ H'=>Q .non H',rt:=Q} (start N vs) H):FnOk P w K mg base (vY P w) (k+1) f fd ps sp:=by
 obtain ⟨oc,od,kV,doc,pm,an,cdv,ct,osl,rfl,lk,hcd⟩:=F.ex
 exact mI lk hcd S len fun A outer s H vs Q E hr hsp=>hbody cdv A outer s H vs Q E hr hsp
theorem FnOk.noX {k:Nat} {f:Addr} {fd:FuncData} {ps:List Str} {sp sp':Sp} (F:FnOk P w K mg base (vY P w) k f fd ps sp) (h:∀vs H Q E,sp' vs H Q E→sp vs H Q (fun _ _ _=>False)):FnOk P w K mg base jU k f fd ps sp' :=
 ⟨fun vs H Q E q=>F.len vs H Q _ (h _ _ _ _ q),fun A outer s H args us vs Q E hr he hb hv hs=>codeAny_mono (F.run A outer s H args us vs Q _ hr he hb hv (h _ _ _ _ hs)) fun r s' hq=>by
  cases r with
  |ok fl=>cases fl<;>exact hq
  |error e=>obtain ⟨_,_,_,_,_,_,_,_,_,_,_,z⟩:=hq;exact z⟩
end
section
variable {X:Cx}
theorem pH (hc:X.calm=true):v7 X (.builtin "sum") (fun xs H Q=>∃(p:Addr) (ns:List Int),xs=[.ref p]∧SqT X.K H p (ns.map V.int)∧Q (.int ns.sum) H):=by
 intro pins s σ H xs us Q I r h
 obtain ⟨p,ns,rfl,hq,q⟩:=h
 obtain ⟨u,rfl,rx⟩:=J7 r
 cases rx
 obtain ⟨its,rv,pl,hz⟩:=I.tuple hq
 have hlen:=rv.length
 rw [List.length_map] at hlen
 have pt:s.heap.IsTuple p its.toArray:=pl
 have hp:p<s.heap.objs.size:=by obtain ⟨o,e,_⟩:=pt;exact Heap.lt_size e
 refine call_sum_walkAnyS (wpAny_pyIter_tuple pt ?_)
 refine ⟨s.heap.objs.size,_,_,_,_,_,_,fun i=>ns.getD i 0,rfl,(Walks.tuple (A:=X.A.in1) (I.ok.hd hc) s.heap.objs.size p (Nat.ne_of_lt hp) its.toArray).toS,⟨⟨_,Heap.get?_push_size _ rfl,rfl,rfl⟩,pt.at fun o e=>Heap.get?_push_of_some _ e⟩,fun b hb=>?_,fun i v h=>nO rv h,fun s' t' m=>?_⟩
 ·rw [Heap.size_push]
  rcases List.mem_cons.mp hb with e|e
  ·rw [e];exact Nat.lt_succ_self _
  ·have e':b=p:=by simpa using e
   rw [e'];exact Nat.lt_succ_of_lt hp
 ·obtain ⟨hh,g,d,t,os⟩:=s'
  obtain ⟨m1,m2,m3,m4,m5⟩:=m
  have m2':g=s.gens:=m2
  have m3':d=s.drawn:=m3
  have m4':os=s.os:=m4
  subst m2' m3' m4'
  have e:preSum (fun i=>ns.getD i 0) its.toArray.size=ns.sum:=by rw [preSum_getD,List.size_toArray,← hlen,List.take_length]
  rw [e]
  refine ⟨.int ns.sum,H,I.kept (t':=t) fun b o e=>m1 b o (fun hb=>?_) (Heap.get?_push_of_some _ e),⟨_,rfl⟩,q⟩
  have e':b=s.heap.objs.size:=by simpa using hb
  exact absurd (Heap.lt_size e) (by rw [e'];exact Nat.lt_irrefl _)
end
end L2
namespace L2
open PySem PySem.Spec PyProof.Rows
section
variable {X:Cx} {pins:List (Addr×Obj)} {σ:St} {H:Hp} {s:Shared}
end
end L2
namespace L2
open PySem PySem.Spec PySem.Calls PyProof.Rows PySem.W
section
variable {prog:Program} {w:World} {A:Around} {E:Value→Shared→Prop} {h:Heap} {g:Array GenState} {d:Drawn} {t:Nat} {os:OsState} {a C:Addr} {o:Obj} {K:PySem.W.Frag}
open PySem.Builtin PySem.Builtin.ObjectAttr PySem.Builtin.Getset_descriptor in
end
section
variable {X:Cx}
end
end L2
namespace L2
open PySem PySem.Spec PyProof.Rows
end L2
namespace L2
open PySem PySem.Spec PyProof.Rows
section
variable {X:Cx} {x:Str} {C:Addr} {pos p:Pos} {e:Expr} {es:List Expr} {t:TA}
end
end L2
namespace L2
open PySem PySem.Spec PyProof.Rows
section
variable {X:Cx}
end
end L2
namespace L2
open PySem PySem.Spec PyProof.Rows
section
variable {X:Cx} {R:St→Value→Hp→Prop} {k k':Nat} {x m:Str} {C:Addr} {ps:List Str} {sp:Sp} {p pos apos:Pos} {o e:Expr} {es:List Expr} {ta:TE} {t:TA}
theorem FV {CX:yF} {P:Program} {w:World} {K:PySem.W.Frag} {mg:Str→Option Value} {base:Heap} {N:List Str} {qual:Str} {scope:Scope} {f:Addr} {cd:Value} {A:Around} {outer:List Env} {s:Shared} {H:Hp} {E:XK} :
  PassesOwn (model (vX CX P w K mg base N qual scope f cd A outer s H E).prog (vX CX P w K mg base N qual scope f cd A outer s H E).w) (vX CX P w K mg base N qual scope f cd A outer s H E).A (vX CX P w K mg base N qual scope f cd A outer s H E).env (vX CX P w K mg base N qual scope f cd A outer s H E).xe:=by
 intro e s' h
 exact PassesOwn.leaving (Q₁:=fun e s''=>CX outer H s E e s'') (E₁:=fun e' s''=>CX outer H s E e' s'') e s' h
end
end L2
namespace L2
open PySem PySem.Spec PyProof.Rows
section
variable {κ:Type} [DecidableEq κ]
def qE (kvs:List (κ×V)) (k:κ):Option V:=(kvs.find? fun kv=>decide (kv.1=k)).map (·.2)
def vA (kvs:List (κ×V)) (k:κ) (v:V):List (κ×V) :=
 if (kvs.any fun kv=>decide (kv.1=k))=true then kvs.map (fun kv=>if kv.1=k then (kv.1,v) else kv) else kvs++[(k,v)]
theorem valV_nil {k:κ}:qE ([]:List (κ×V)) k=none:=rfl
theorem zL {p:κ×V} {r:List (κ×V)} {k:κ} (e:p.1=k):qE (p::r) k=some p.2:=by simp [qE,List.find?_cons,e]
theorem q0 {p:κ×V} {r:List (κ×V)} {k:κ} (e:¬p.1=k):qE (p::r) k=qE r k:=by simp [qE,List.find?_cons,e]
theorem pO (k:κ):∀kvs:List (κ×V),(kvs.any fun kv=>decide (kv.1=k))=(qE kvs k).isSome
 |[]=>rfl
 |p::r=>by
  rw [List.any_cons]
  by_cases e:p.1=k
  ·simp only [zL e,decide_eq_true e,Bool.true_or,Option.isSome_some]
  ·rw [q0 e,decide_eq_false e,Bool.false_or];exact pO k r
theorem BX (kvs:List (κ×V)) (k:κ) (v:V):(vA kvs k v).length≤kvs.length+1:=by
 unfold vA
 split
 ·rw [List.length_map];omega
 ·rw [List.length_append,List.length_cons,List.length_nil];omega
theorem QW {kvs:List (κ×V)} {k:κ} (v:V) (h:qE kvs k=none):vA kvs k v=kvs++[(k,v)]:=by
 unfold vA
 rw [pO,h]
 exact if_neg (by decide)
theorem KV.val {kvs:List (κ×V)} {vs:List (κ×Value)} (r:KV kvs vs) (k:κ):RelO (qE kvs k) (valueAt vs k):=by
 unfold KV at r
 induction r with
 |nil=>exact True.intro
 |@cons p q ps qs h t ih =>
  obtain ⟨h1,h2⟩:=h
  by_cases e:p.1=k
  ·have e':q.1=k:=h1.symm.trans e
   have b:valueAt (q::qs) k=some q.2:=by simp [valueAt,List.find?_cons,e']
   rw [zL e,b];exact h2
  ·have e':¬q.1=k:=fun z=>e (h1.trans z)
   have b:valueAt (q::qs) k=valueAt qs k:=by simp [valueAt,List.find?_cons,e']
   rw [q0 e,b];exact ih
theorem KV.any {kvs:List (κ×V)} {vs:List (κ×Value)} (r:KV kvs vs) (k:κ):(kvs.any fun kv=>decide (kv.1=k))=vs.any fun kv=>decide (kv.1=k):=by
 unfold KV at r
 induction r with
 |nil=>rfl
 |cons h t ih=>rw [List.any_cons,List.any_cons,ih,h.1]
theorem KV.repl {kvs:List (κ×V)} {vs:List (κ×Value)} (r:KV kvs vs) (k:κ) {y:V} {u:Value} (ry:RelV y u) :
  KV (kvs.map fun kv=>if kv.1=k then (kv.1,y) else kv) (vs.map fun kv=>if kv.1=k then (kv.1,u) else kv):=by
 unfold KV at r ⊢
 induction r with
 |nil=>exact .nil
 |@cons p q ps qs h t ih =>
  rw [List.map_cons,List.map_cons]
  refine .cons ?_ ih
  obtain ⟨h1,h2⟩:=h
  by_cases e:p.1=k
  ·rw [if_pos e,if_pos (h1.symm.trans e)];exact ⟨h1,ry⟩
  ·rw [if_neg e,if_neg (fun z=>e (h1.trans z))];exact ⟨h1,h2⟩
theorem KV.put {kvs:List (κ×V)} {vs:List (κ×Value)} (r:KV kvs vs) (k:κ) {y:V} {u:Value} (ry:RelV y u):KV (vA kvs k y) (stored vs k u):=by
 unfold vA stored
 rw [r.any k]
 by_cases e:(vs.any fun kv=>decide (kv.1=k))=true
 ·rw [if_pos e,if_pos e];exact r.repl k ry
 ·rw [if_neg e,if_neg e];exact Paired.snoc r ⟨rfl,ry⟩
theorem KV.length {kvs:List (κ×V)} {vs:List (κ×Value)} (r:KV kvs vs):kvs.length=vs.length:=Paired.length r
end
theorem mF {P:Program} {w:World} {k:j6} {u:Value} (r:RelV (kV k) u):(yA P w).is k u=true:=by
 cases k with
 |inl i=>obtain ⟨t,e⟩:=(show ∃t,u=Value.int i t from r);subst e;exact BV P w i t
 |inr x=>obtain ⟨t,e⟩:=(show ∃t,u=Value.str x t from r);subst e;exact BU P w x t
theorem o9 {P:Program} {w:World}:∀{ks:List j6} {us:List Value},Vals (ks.map kV) us→ItemsAre (yA P w) ks us
 |[],_,r=>by rw [List.map_nil] at r;cases r;exact .nil
 |k::ks,_,r=>by
  rw [List.map_cons] at r
  cases r with
  |cons h t=>exact .cons (mF h) (o9 t)
abbrev KT (H:Hp):List (List j6×V)→List (List j6×Addr×Value)→Prop:=Paired fun p q=>p.1=q.1∧H q.2.1=some (.tup (p.1.map kV))∧RelV p.2 q.2.2
theorem KT.val {H:Hp} {kvs:List (List j6×V)} {xs:List (List j6×Addr×Value)} (r:KT H kvs xs) (k:List j6):RelO (qE kvs k) ((atKey xs k).map (·.2)):=by
 induction r with
 |nil=>exact True.intro
 |@cons p q ps qs h t ih =>
  obtain ⟨h1,_,h2⟩:=h
  by_cases e:p.1=k
  ·have e':q.1=k:=h1.symm.trans e
   have b:atKey (q::qs) k=some q.2:=by simp [atKey,List.find?_cons,e']
   rw [zL e,b];exact h2
  ·have e':¬q.1=k:=fun z=>e (h1.trans z)
   have b:atKey (q::qs) k=atKey qs k:=by simp [atKey,List.find?_cons,e']
   rw [q0 e,b];exact ih
section
variable {P:Program} {w:World} {H:Hp} {h:Heap} {a:Addr}
theorem tW {u:HO} (ok:HOk P w H h) (e:Rd H a u):ObjOk P w H h a u:=e.ok ok
theorem mK {kvs:List (j6×V)} (ok:HOk P w H h) (e:Rd H a (.dK kvs)):kvs.length≤sizeLine∧(a == sysModules)=false∧∃vs,KV kvs vs∧h.DictOf (yA P w) a vs :=
 show ObjOk P w H h a (.dK kvs) from tW ok e
theorem HK {kvs:List (j6×V)} (ok:HOk P w H h) (e:H a=some (.dK kvs)):kvs.length≤sizeLine∧(a == sysModules)=false∧∃vs,KV kvs vs∧h.DictOf (yA P w) a vs:=mK ok (.inl e)
theorem tL {ks:List j6} (ok:HOk P w H h) (e:H a=some (.tup (ks.map kV))):(tupleKind (yA P w)).is h ks a:=by
 obtain ⟨_,its,r,o,h1,h2,n,h3⟩:=(show ObjOk P w H h a (.tup (ks.map kV)) from ok a _ e)
 exact ⟨o,its.toArray,n,h1,h2,h3,by simpa using o9 r⟩
theorem tZ {kvs:List (List j6×V)} (ok:HOk P w H h) (e:Rd H a (.dT kvs)):kvs.length≤sizeLine∧(a == sysModules)=false∧
  ∃xs,KT H kvs xs∧h.DictOfH (tupleKind (yA P w)) a xs:=by
 obtain ⟨z,y,xs,r,o,es,ep,h1,h2,h3,h4,h5⟩:=(show ObjOk P w H h a (.dT kvs) from tW ok e)
 refine ⟨z,y,xs,r,o,es,ep,h1,h2,h3,h4,fun x hx=>?_,h5⟩
 have all:∀{l:List (List j6×V)} {m:List (List j6×Addr×Value)},KT H l m→∀x∈m,(tupleKind (yA P w)).is h x.1 x.2.1:=by
  intro l m q
  induction q with
  |nil=>intro x hx;exact nomatch hx
  |@cons p q ps qs hq t ih =>
   intro x hx
   rcases List.mem_cons.mp hx with e|hx
   ·subst e
    exact tL ok (by rw [← hq.1];exact hq.2.1)
   ·exact ih x hx
 exact all r x hx
end
def DGet (H:Hp) (a:Addr) (y:V) (r:Option V):Prop :=
 (∃kvs k,Rd H a (.dK kvs)∧y=kV k∧r=qE kvs k)∨∃kvs k b,Rd H a (.dT kvs)∧y=.ref b∧H b=some (.tup (k.map kV))∧r=qE kvs k
def DPut (H:Hp) (a:Addr) (y v:V) (H':Hp):Prop :=
 (∃kvs k,H a=some (.dK kvs)∧y=kV k∧kvs.length<sizeLine∧H'=upd H a (.dK (vA kvs k v)))∨
 ∃kvs k b,H a=some (.dT kvs)∧y=.ref b∧H b=some (.tup (k.map kV))∧kvs.length<sizeLine∧H'=upd H a (.dT (vA kvs k v))
theorem DGet.k {H:Hp} {a:Addr} {kvs:List (j6×V)} {k:j6} (e:H a=some (.dK kvs)):DGet H a (kV k) (qE kvs k):=.inl ⟨kvs,k,.inl e,rfl,rfl⟩
theorem DGet.t {H:Hp} {a b:Addr} {kvs:List (List j6×V)} {k:List j6} (e:H a=some (.dT kvs)) (eb:H b=some (.tup (k.map kV))):DGet H a (.ref b) (qE kvs k):=.inr ⟨kvs,k,b,.inl e,rfl,eb,rfl⟩
theorem DPut.k {H:Hp} {a:Addr} {kvs:List (j6×V)} {k:j6} {v:V} (e:H a=some (.dK kvs)) (hl:kvs.length<sizeLine):DPut H a (kV k) v (upd H a (.dK (vA kvs k v))):=.inl ⟨kvs,k,e,rfl,hl,rfl⟩
theorem DPut.t {H:Hp} {a b:Addr} {kvs:List (List j6×V)} {k:List j6} {v:V} (e:H a=some (.dT kvs)) (eb:H b=some (.tup (k.map kV))) (hl:kvs.length<sizeLine) :
  DPut H a (.ref b) v (upd H a (.dT (vA kvs k v))):=.inr ⟨kvs,k,b,e,rfl,eb,hl,rfl⟩
section
variable {X:Cx} {pins:List (Addr×Obj)} {σ:St} {H:Hp} {s:Shared} {a:Addr} {y v:V} {u r:Value} {o:Option V} {A:Around} {E:Value→Shared→Prop}
theorem Inv.big (I:Inv X pins σ H s):sysModules<s.heap.objs.size:=by
 have h:mainGlobals<s.heap.objs.size:=(I.mod.glob.keeps I.bk).lt
 exact Nat.lt_trans (by decide) h
theorem DJ {Q:Value→Shared→Prop} (hu:A.units+1<cLine) (I:Inv X pins σ H s) (g:DGet H a y (some v)) (ry:RelV y u) (h:∀w' s',Inv X pins σ H s'→RelV v w'→Q w' s') :
  wpAny (model X.prog X.w) A (getItem (.ref a) u) Q E s:=by
 rcases g with ⟨kvs,k,e,ey,l⟩|⟨kvs,k,b,e,ey,eb,l⟩
 ·subst ey
  obtain ⟨z,hd,vs,rel,dd⟩:=mK I.hok e
  obtain ⟨w',hw,rw'⟩:=RelO.some_of (v:=v) (o:=valueAt vs k) (by rw [l];exact rel.val k)
  exact wpAny_getItem_of (mF ry) dd.mapOf hw (h w' _ (I.tok _) rw')
 ·subst ey
  cases (show u=Value.ref b from ry)
  obtain ⟨z,hd,xs,rel,dd⟩:=tZ I.hok e
  obtain ⟨w',hw,rw'⟩:=RelO.some_of (v:=v) (o:=(atKey xs k).map (·.2)) (by rw [l];exact rel.val k)
  obtain ⟨p,hp,hp2⟩:=Option.map_eq_some_iff.mp hw
  refine wpAny_getItem_heap (tupleKind_room_in1 hu) (tL I.hok eb) dd hp ?_
  rw [hp2]
  exact h w' _ (I.tok _) rw'
theorem FK {h':Heap} {t':Nat} {ob:HO} (I:Inv X pins σ H s) (mu:eT (H a)) (hs:Heap.SameBut a s.heap h') (he:∃q,h'.get? a=some q) (new:ObjOk X.prog X.w (upd H a ob) h' a ob) :
  Inv X pins σ (upd H a ob) {s with heap:=h',toks:=t'} :=
 I.write (x:=a) (e:=a) mu (.inl rfl) (fun b q hb z=>(hs.2 b hb).trans z) he new
theorem GN {P:Program} {w:World} {H':Hp} {h':Heap} {kvs:List (j6×V)} {vs:List (j6×Value)} (z:kvs.length≤sizeLine) (hd:(a == sysModules)=false) (rel:KV kvs vs) (dd:h'.DictOf (yA P w) a vs) :
  ObjOk P w H' h' a (.dK kvs):=⟨z,hd,vs,rel,dd⟩
end
section
variable {X:Cx} {pins:List (Addr×Obj)} {σ:St} {H:Hp} {s:Shared} {a:Addr} {kvs:List (j6×V)} {k:j6} {u:Value} {A:Around} {E:Value→Shared→Prop}
end
def uG (i:Expr):Prop:=∀ov iv,subscripted i false ov iv=operate [ov,iv] (getItem ov iv)
theorem ET {prog:Program} {w:World} {A:Around} {E:Value→Shared→Prop} {s:Shared} {env:Env} {value slice:Expr} {pos:Pos} {T id:String} {Q:Value→Shared→Prop}
  (hl:typeLookup (.type T) "__getitem__"=pure (some (.builtin id))) (hs:uG slice)
  (h:wpAny (model prog w) A (eval value env) (fun o s₁=>wpAny (model prog w) A (eval slice env) (fun i s₂=>s₂.TypeIs o T∧wpAny (model prog w) A (getItem o i) Q E s₂) E s₁) E s) :
  wpAny (model prog w) A (eval (.Subscript value slice pos) env) Q E s:=by
 refine Subscript_ (wpAny_mono h (fun o s₁ h₁=>wpAny_mono h₁ (fun i s₂ h₂=>?_) fun _ _ x=>x) fun _ _ x=>x)
 obtain ⟨hT,h₂⟩:=h₂
 unfold subscriptTail
 refine wpAny_bind ?_
 rw [getitemInPython_of_ne hT.not_modules]
 refine wpAny_bind (wpAny_specialOf hT hl ?_)
 have fin:wpAny (model prog w) A (subscripted slice false o i) (fun r s₃=>wpAny (model prog w) A (letTemporaryGo value o r >>= fun _=>pure r) Q E s₃) E s₂:=by
  rw [hs o i]
  exact wpAny_operating (wpAny_mono h₂ (fun r s₃ h₃=>wpAny_bind (wpAny_letTemporaryGo (wpAny_pure h₃))) fun _ _ x=>x)
 first
  |exact wpAny_pure (wpAny_bind fin)
  |exact wpAny_bind (wpAny_pure (wpAny_bind fin))
  |exact wpAny_bind fin
theorem BY {X:Cx} {pins:List (Addr×Obj)} {σ:St} {H:Hp} {s:Shared} {a:Addr} {y:V} {o:Option V} (I:Inv X pins σ H s) (g:DGet H a y o):s.TypeIs (.ref a) "dict":=by
 rcases g with ⟨kvs,k,e,_,_⟩|⟨kvs,k,b,e,_,_,_⟩
 ·obtain ⟨_,_,vs,_,dd⟩:=mK I.hok e
  exact dd.typeIs
 ·obtain ⟨_,_,xs,_,dd⟩:=tZ I.hok e
  exact dd.typeIs
def GV (td ty:TE):TE:=fun σ H Q=>td σ H fun x H1=>ty σ H1 fun y H2=>∃a v,x=.ref a∧DGet H2 a y (some v)∧Q v H2
section
variable {X:Cx} {o i e value:Expr} {pos pos' tpos:Pos} {td ty tv:TE}
theorem Q1 (hu:X.A.units+1<cLine) (ho:PE X o td) (hi:PE X i ty) (hs:uG i):PE X (.Subscript o i pos) (GV td ty):=by
 intro pins s σ H Q I h
 refine ET PySem.F.slot_dict_getitem.lookup hs (jW (ho pins s σ H _ I h) fun u s1 ⟨x,H1,I1,rx,q1⟩=>jW (hi pins s1 σ H1 _ I1 q1) fun iv s2 ⟨y,H2,I2,ry,a,v,ex,g,q2⟩=>?_)
 subst ex
 obtain rfl:u=Value.ref a:=rx
 exact ⟨BY I2 g,DJ hu I2 g ry fun w' s3 I3 rw'=>⟨v,H2,I3,rw',q2⟩⟩
end
theorem EN {P:Program} {w:World} {H:Hp} (h:Heap) (hb:sysModules<h.objs.size):ObjOk P w H (h.push {cls:=.type "dict",data:=.dict #[]}) h.objs.size (.dK []) :=
 ⟨Nat.zero_le _,beq_eq_false_iff_ne.mpr (Ne.symm (Nat.ne_of_lt hb)),[],.nil,Heap.DictOf.new h⟩
section
variable {X:Cx} {pos:Pos}
end
def lQ:List (TE×TE)→St→Hp→(List (V×V)→Hp→Prop)→Prop
 |[],_,H,Q=>Q [] H
 | (tk,tv)::r,σ,H,Q=>tk σ H fun x H1=>tv σ H1 fun y H2=>lQ r σ H2 fun ps H3=>Q ((x,y)::ps) H3
abbrev VV:List (V×V)→List (Value×Value)→Prop:=Paired fun p q=>RelV p.1 q.1∧RelV p.2 q.2
def gW (X:Cx) (pos:Pos) (keys:List (Option Expr)) (values:List Expr) (trs:List (TE×TE)):Prop :=
 ∀(pins:List (Addr×Obj)) (s:Shared) (σ:St) (H:Hp) (Q:List (V×V)→Hp→Prop),Inv X pins σ H s→lQ trs σ H Q→
  wpAny (model X.prog X.w) X.A (evalPairs (pairTrees keys values X.env pos)) (fun vs s'=>∃ps H',Inv X pins σ H' s'∧VV ps vs∧Q ps H') X.xe s
theorem sK {X:Cx} {pos:Pos}:gW X pos [] [] []:=fun pins s σ H Q I h=>pairTrees_nil_walk ⟨[],H,I,.nil,h⟩
theorem QX {X:Cx} {pos:Pos} {k v:Expr} {ks:List (Option Expr)} {vs:List Expr} {tk tv:TE} {trs:List (TE×TE)} (hk:PE X k tk) (hv:PE X v tv) (hr:gW X pos ks vs trs) :
  gW X pos (some k::ks) (v::vs) ((tk,tv)::trs):=fun pins s σ H Q I h =>
 pairTrees_cons_walk (jW (hk pins s σ H _ I h) fun u s1 ⟨x,H1,I1,rx,q1⟩=>jW (hv pins s1 σ H1 _ I1 q1) fun w2 s2 ⟨y,H2,I2,ry,q2⟩ =>
  jW (hr pins s2 σ H2 _ I2 q2) fun ws s3 ⟨ps,H3,I3,rel,q3⟩=>⟨(x,y)::ps,H3,I3,.cons ⟨rx,ry⟩ rel,q3⟩)
def Q3 (kvs more:List (j6×V)):List (j6×V):=more.foldl (fun acc kv=>vA acc kv.1 kv.2) kvs
theorem KV.merge:∀{more:List (j6×V)} {rs:List (j6×Value)} {kvs:List (j6×V)} {vs:List (j6×Value)},KV more rs→KV kvs vs→KV (Q3 kvs more) (merged vs rs):=by
 intro more rs kvs vs r
 unfold KV at r
 induction r generalizing kvs vs with
 |nil=>intro q;exact q
 |@cons p q ps qs h t ih =>
  intro r0
  have e:KV (vA kvs p.1 p.2) (stored vs q.1 q.2):=by
   have:=r0.put p.1 h.2
   rw [← h.1];exact this
  exact ih e
theorem nJ:∀(more kvs:List (j6×V)),(Q3 kvs more).length≤kvs.length+more.length
 |[],kvs=>by show kvs.length≤kvs.length+0;omega
 |p::r,kvs=>by
  have h1:=nJ r (vA kvs p.1 p.2)
  have h2:=BX kvs p.1 p.2
  show (Q3 (vA kvs p.1 p.2) r).length≤_
  rw [List.length_cons];omega
theorem oN {P:Program} {w:World}:∀{kvs:List (j6×V)} {ws:List (Value×Value)},VV (kvs.map fun kv=>(kV kv.1,kv.2)) ws→∃rs,Carries (yA P w) ws rs∧KV kvs rs
 |[],_,r=>by rw [List.map_nil] at r;cases r;exact ⟨[],True.intro,.nil⟩
 |p::kvs,_,r=>by
  rw [List.map_cons] at r
  cases r with
  |@cons a b as bs h t =>
   obtain ⟨rs,c,q⟩:=oN (P:=P) (w:=w) t
   obtain ⟨b1,b2⟩:=b
   exact ⟨(p.1,b2)::rs,⟨mF h.1,rfl,c⟩,.cons ⟨rfl,h.2⟩ q⟩
def GU (trs:List (TE×TE)):TE:=fun σ H Q=>∀p,H p=none→lQ trs σ (upd H p (.dK [])) fun ps H2=>H2 p=some (.dK [])∧∃kvs:List (j6×V),ps=kvs.map (fun kv=>(kV kv.1,kv.2))∧kvs.length≤15∧Q (.ref p) (upd H2 p (.dK (Q3 [] kvs)))
theorem sP {X:Cx} {pos:Pos} {keys:List (Option Expr)} {values:List Expr} {trs:List (TE×TE)} (h:gW X pos keys values trs) (hall:keys.all (·.isSome)=true) (hl:keys.length=values.length) (h0:keys≠[])
  (h15:keys.length≤15):PE X (.Dict keys values pos) (GU trs):=by
 intro pins s σ H Q I q
 have hn:=I.hok.fresh (Nat.le_refl s.heap.objs.size)
 have I1:=I.laid (a:=s.heap.objs.size) (o:=.dK []) (h':=s.heap.push {cls:=.type "dict",data:=.dict #[]}) (t':=s.toks) (fun _ _ q=>Heap.get?_push_of_some _ q) (Nat.le_refl _) (EN s.heap I.big)
 refine wpAny_Dict_walk (knd:=yA X.prog X.w) hall hl h0 h15 (jW (h pins _ σ _ _ I1 (q _ hn)) fun ws s2 ⟨ps,H2,I2,rel,e,kvs,ep,lk,q2⟩=>?_)
 subst ep
 obtain ⟨rs,c,rk⟩:=oN (P:=X.prog) (w:=X.w) rel
 obtain ⟨z,hd,vs0,r0,dd⟩:=HK I2.hok e
 cases r0
 refine ⟨rs,c,dd,fun h' dd' hs=>⟨.ref s.heap.objs.size,_,?_,rfl,q2⟩⟩
 have hz:(Q3 [] kvs).length≤sizeLine:=by
  have h1:=nJ kvs []
  rw [List.length_nil] at h1
  rw [sizeLine_eq];omega
 have he:∃q,h'.get? s.heap.objs.size=some q:=let ⟨q,_,_,hq,_⟩:=dd';⟨q,hq⟩
 exact FK I2 (by rw [e];exact True.intro) hs he (GN hz hd (rk.merge .nil) dd')
end L2
namespace L2
open PySem PySem.Spec PyProof.Rows
section
variable {X:Cx} {tg:Expr}
end
section
variable {X:Cx}
end
end L2
namespace L2
open PySem PySem.Spec PyProof.Rows
inductive Kd where
 |plain|basin|pump
structure MeK (P:Program) (w:World) (K:PySem.W.Frag) (mg:Str→Option Value) (base:Heap) (k:Nat) (cs:Kd→Addr) (m:Str) (ps:List Str) (ss:Kd→Sp):Prop where
 ex:∀kd,MeD P w K mg base k (cs kd) m ps (ss kd)
def sZ (cs:Kd→Addr) (m:Str) (ss:Kd→Sp) (ta:TE) (t:TA):TE:=fun σ H Q=>ta σ H fun x H1=>∃(kd:Kd) (a dx:Addr) (fs:List (Str×V)),x=.ref a∧H1 a=some (.ins (cs kd) dx fs)∧fs.lookup m=none∧
 t σ H1 fun vs H2=>ss kd (x::vs) H2 Q E0
section
variable {X:Cx} {k k':Nat} {x m:Str} {cs:Kd→Addr} {ps:List Str} {ss:Kd→Sp} {p pos apos:Pos} {o e:Expr} {es:List Expr} {ta:TE} {t:TA}
theorem tX {pl:Sem Bool} (M:MeK X.prog X.w X.K X.mg X.base k cs m ps ss) (hr:Room k' X.A) (ho:PE X o ta) (ha:PA X (e::es) t) (hk:k≤k':=by decide)
  (hst:starEach (e::es) X.env=(false,eval e X.env)::starEach es X.env:=by rfl) (hpl:(backTo pos (starEach es X.env)).any (·.1)=false:=by rfl)
  (ht:eval (.Call (.Attribute o m apos) (e::es) [] pos) X.env=(do
   let ov ← eval o X.env
   standAt apos.atName
   let (f,first) ← holding [ov] (getMethod ov m pl)
   callWith pos f first (backTo pos (starEach (e::es) X.env)) (backToKw pos (keywordEach [] X.env))):=by rfl) :
  PE X (.Call (.Attribute o m apos) (e::es) [] pos) (sZ cs m ss ta t):=by
 intro pins s σ H Q I h
 refine PySem.W.methodCall_KW (pl:=pl) (jW (ho pins s σ H _ I h) fun u s1 ⟨x,H1,I1,rx,kd,a,dx,fs,ex,ea,l,q⟩=>?_) ht
 obtain ⟨c,f,fd,hm,G,b⟩:=(M.ex kd).ex
 subst ex
 obtain rfl:u=Value.ref a:=rx
 refine fF I1 ea c hm l ?_
 refine PySem.W.callWith_K (first:=[.ref a]) (h₀:=X.base) I.ok.mod.kin hm.kp (jW (ha pos pins s1 σ H1 _ I1 q) fun us s2 ⟨vs,H2,I2,r,q2⟩=>⟨I2.kIn,?_⟩) hst hpl
 exact cT (us:=.ref a::us) (vs:=.ref a::vs) (dvs:=[]) G (hr.mono hk) b .nil Q6 I2 (.cons rfl r) (by rw [List.append_nil];exact q2)
theorem zO {pl:Sem Bool} (M:MeK X.prog X.w X.K X.mg X.base k cs m ps ss) (hr:Room k' X.A) (ho:PE X o ta) (hk:k≤k':=by decide)
  (ht:eval (.Call (.Attribute o m apos) [] [] pos) X.env=(do
   let ov ← eval o X.env
   standAt apos.atName
   let (f,first) ← holding [ov] (getMethod ov m pl)
   callWith pos f first (backTo pos (starEach [] X.env)) (backToKw pos (keywordEach [] X.env))):=by rfl) :
  PE X (.Call (.Attribute o m apos) [] [] pos) (sZ cs m ss ta gI):=by
 intro pins s σ H Q I h
 refine PySem.W.methodCall_KW (pl:=pl) (jW (ho pins s σ H _ I h) fun u s1 ⟨x,H1,I1,rx,kd,a,dx,fs,ex,ea,l,q⟩=>?_) ht
 obtain ⟨c,f,fd,hm,G,b⟩:=(M.ex kd).ex
 subst ex
 obtain rfl:u=Value.ref a:=rx
 refine fF I1 ea c hm l ?_
 exact PySem.W.callWith_K0 (first:=[.ref a]) I1.kIn hm.kp (cT (us:=[.ref a]) (vs:=[.ref a]) (dvs:=[]) G (hr.mono hk) b .nil Q6 I1 (.cons rfl .nil) q)
end
end L2
namespace L2
open PySem PySem.Spec PyProof.Rows
section
variable {X:Cx} {tg:Expr}
end
section
variable {X:Cx}
end
end L2
namespace L2
open PySem PySem.Spec PyProof.Rows
section
variable {X:Cx} {K:PySem.W.Frag} {w:World} {o i:Expr} {pos:Pos} {td ty:TE}
end
end L2
namespace L2
open PySem PySem.Spec PyProof.Rows
inductive DEq (K:PySem.W.Frag) (H:Hp):V→V→Bool→Prop where
 |flat {x y:V} (hx:qY x=true) (hy:qY y=true):DEq K H x y (vI x y)
 |same (a:Addr):DEq K H (.ref a) (.ref a) true
 |tup {a b:Addr} {xs ys:List V} (ne:a≠b) (ha:SqT K H a xs) (hb:SqT K H b ys) (fx:xs.all qY=true) (fy:ys.all qY=true):DEq K H (.ref a) (.ref b) (v8 xs ys)
 |lst {a b:Addr} {xs ys:List V} (ne:a≠b) (ha:SqL K H a xs) (hb:SqL K H b ys) (fx:xs.all qY=true) (fy:ys.all qY=true):DEq K H (.ref a) (.ref b) (v8 xs ys)
section
variable {X:Cx} {pins:List (Addr×Obj)} {σ:St} {H:Hp} {s:Shared} {A:Around}
theorem DEq.at {x y:V} {u v:Value} {e:Bool} (I:Inv X pins σ H s) (d:DEq X.K H x y e) (rx:RelV x u) (ry:RelV y v) (hu:A.units<cLine):SeqAt.EqAt A s u v e:=by
 cases d with
 |flat hx hy=>exact JI rx ry hx hy
 |same a=>cases rx;cases ry;exact SeqAt.EqAt.same _
 |@tup a b xs ys ne ha hb fx fy =>
  cases rx;cases ry
  obtain ⟨its,r,pl,hz⟩:=I.tuple ha
  obtain ⟨its2,r2,pl2,hz2⟩:=I.tuple hb
  have hl:=r.length
  have hl2:=r2.length
  have h:=SeqAt.RcAt.tuples (A:=A) (e:=fun j=>vI (xs.getD j .non) (ys.getD j .non)) pl pl2 hu (fun j h1 h2=>JI (zK r h1) (zK r2 h2) (cI fx (by rw [hl];simpa using h1)) (cI fy (by rw [hl2];simpa using h2)))
  have e:((List.range (min its.toArray.size its2.toArray.size)).all (fun j=>vI (xs.getD j .non) (ys.getD j .non))&&its.toArray.size == its2.toArray.size)=v8 xs ys:=by
   unfold v8
   rw [List.size_toArray,List.size_toArray,← hl,← hl2]
  rw [e] at h
  exact SeqAt.EqAt.of_refs ne h
 |@lst a b xs ys ne ha hb fx fy =>
  cases rx;cases ry
  obtain ⟨its,r,pl,hz⟩:=I.list ha
  obtain ⟨its2,r2,pl2,hz2⟩:=I.list hb
  have hl:=r.length
  have hl2:=r2.length
  by_cases he:xs.length=ys.length
  ·have h:=SeqAt.RcAt.lists (A:=A) (e:=fun j=>vI (xs.getD j .non) (ys.getD j .non)) pl.isList pl2.isList (by rw [List.size_toArray,List.size_toArray,← hl,← hl2,he]) hu (fun j h1 h2=>JI (zK r h1) (zK r2 h2) (cI fx (by rw [hl];simpa using h1)) (cI fy (by rw [hl2];simpa using h2)))
   have e:((List.range its.toArray.size).all (fun j=>vI (xs.getD j .non) (ys.getD j .non)))=v8 xs ys:=by
    unfold v8
    rw [List.size_toArray,← hl,← he,Nat.min_self,beq_self_eq_true,Bool.and_true]
   rw [e] at h
   exact SeqAt.EqAt.of_refs ne h
  ·have hf:v8 xs ys=false:=by
    unfold v8
    rw [show (xs.length == ys.length)=false from beq_eq_false_iff_ne.mpr he,Bool.and_false]
   rw [hf]
   exact SeqAt.EqAt.of_refs ne (SeqAt.RcAt.lists_lengths pl.isList pl2.isList (by rw [List.size_toArray,List.size_toArray,← hl,← hl2];exact bne_iff_ne.mpr he) hu)
end
section
variable {X:Cx}
end
end L2
namespace L2
open PySem PySem.Spec PyProof.Rows
end L2
namespace L2
open PySem PySem.Spec PyProof.Rows
end L2
namespace L2
open PySem PySem.Spec PyProof.Rows
end L2
namespace L2
open PySem PySem.Spec PyProof.Rows
section
variable {X:Cx}
end
end L2
namespace L2
open PySem PySem.Spec PyProof.Rows
end L2
namespace L2
open PySem PySem.Spec PyProof.Rows
section
variable {X:Cx}
end
end L2
namespace L2
open PySem PySem.Spec PyProof.Rows
end L2
namespace L2
open PySem PySem.Spec PyProof.Rows
section
variable {X:Cx} {tg:Expr}
end
end L2
namespace L2
open PySem PySem.Spec PyProof.Rows
end L2
namespace L2
open PySem PySem.Spec PyProof.Rows
section
variable {X:Cx} {pins:List (Addr×Obj)} {σ:List (Option V)} {H:Hp} {s:Shared} {h':Heap}
theorem Inv.turnedN {t':Nat} {fp:List Addr} (I:Inv X pins σ H s) (k:∀b o,b∉fp→s.heap.get? b=some o→h'.get? b=some o) (hf:∀b∈fp,yW X pins H b):Inv X pins σ H {s with heap:=h',toks:=t'}:=by
 have nit:∀b u,H b=some u→b∉fp:=fun b u e z=>by rw [(hf b z).1] at e;cases e
 have hL:X.env.locals∉fp:=fun z=>(hf _ z).2.1 rfl
 refine I.step (g':=s.gens) (d':=s.drawn) (ch:=fp) (fun b hb=>?_) (fun b o _ _ hc e _=>k b o hc e) (fun b o _ _ hc e _=>⟨o.slots,k b o hc e⟩) (fun _ _ _ _ n=>n)
  (fun b o hc e=>⟨o,k b o hc e⟩) (fun _ _ e=>e) (fun _ _ _ e=>e) (fun b ps e=>⟨#[],by rw [e];simp⟩) (fun m hm=>?_) (fun b u e=>?_) I.bare
 ·obtain ⟨f0,f1,f2,f3,f4,f5⟩:=hf b hb
  exact ⟨f3,f1,f4,f5⟩
 ·obtain ⟨o,es,ep,ho,r⟩:=hm
  exact ⟨o,es,ep,k _ o hL ho,r⟩
 ·refine (I.hok b u e).stay (fun c v hc q=>k c v ?_ q) (fun _ q=>q) fun _ _ q=>q
  rcases hc with z|z
  ·rw [z];exact nit b u e
  ·exact nit c _ z
theorem Inv.laidN {t':Nat} {fp:List Addr} {a:Addr} {o:HO} (I:Inv X pins σ H s) (k:∀b u,b∉fp→s.heap.get? b=some u→h'.get? b=some u) (hf:∀b∈fp,yW X pins H b) (hp:s.heap.objs.size≤a) (new:ObjOk X.prog X.w (upd H a o) h' a o) :
  Inv X pins σ (upd H a o) {s with heap:=h',toks:=t'}:=by
 have hn:=I.hok.fresh hp
 have nit:∀b u,H b=some u→b∉fp:=fun b u e z=>by rw [(hf b z).1] at e;cases e
 have hL:X.env.locals∉fp:=fun z=>(hf _ z).2.1 rfl
 refine I.step (g':=s.gens) (d':=s.drawn) (ch:=fp) (fun b hb=>?_) (fun b o _ _ hc e _=>k b o hc e) (fun b o _ _ hc e _=>⟨o.slots,k b o hc e⟩) (fun b u _ e n=>?_)
  (fun b o hc e=>⟨o,k b o hc e⟩) (fun b xs e=>?_) (fun b u v e=>?_) (fun b ps e=>⟨#[],?_⟩) (fun m hm=>?_) (fun b u e=>?_) I.bare
 ·obtain ⟨f0,f1,f2,f3,f4,f5⟩:=hf b hb
  exact ⟨f3,f1,f4,f5⟩
 ·rw [kC (Nat.ne_of_lt (Nat.lt_of_lt_of_le (Heap.lt_size e) hp))];exact n
 ·rw [kC (qI e hn)];exact e
 ·rw [kC (qI e hn)];exact e
 ·rw [kC (qI e hn),e];simp
 ·obtain ⟨o,es,ep,ho,r⟩:=hm
  exact ⟨o,es,ep,k _ o hL ho,r⟩
 ·by_cases hb:b=a
  ·subst hb;rw [jE] at e;cases e;exact new
  ·rw [kC hb] at e
   refine (I.hok b u e).stay (fun c v hc q=>k c v ?_ q) (fun c q=>by rw [kC (qI q hn)];exact q) fun c xs q=>by rw [kC (qI q hn)];exact q
   rcases hc with z|z
   ·rw [z];exact nit b u e
   ·exact nit c _ z
end
def m9 (K:PySem.W.Frag) (a:Addr):It :=
 ⟨fun i H=>∃xs x,SqL K H a xs∧xs[i]?=some x,
  fun i H v H'=>∃T x,v=.ref T∧H T=none∧H'=upd H T (.tup [.int (i:Int),x])∧∀xs,SqL K H a xs→xs[i]?=some x,
  fun i H=>∃xs,SqL K H a xs∧xs.length≤i⟩
theorem CY {P:Program} {w:World} {K:PySem.W.Frag} {elts:List Expr} {x1:Nat} {pos:Pos} {a e it:Addr} (hei:e≠it) :
  Turn P w K (.Tuple elts x1 pos) (m9 K a) [e,it] e (fun i h=>(∃old,IsEnum h e it i old)∧h.IsListIter it a i) where
 mem:=by simp
 obj:=fun i h st b hb=>by
  obtain ⟨⟨old,he⟩,⟨o1,e1,c1,d1⟩⟩:=st
  simp only [List.mem_cons,List.mem_nil_iff,or_false] at hb
  rcases hb with rfl|rfl
  ·exact ⟨_,he,fun v y=>by have y':Data.fields _=Data.cell v:=y;cases y'⟩
  ·exact ⟨o1,e1,fun v y=>by rw [d1] at y;cases y⟩
 keep:=fun i h h' st k=>by
  obtain ⟨⟨old,he⟩,h1⟩:=st
  exact ⟨⟨old,k _ (by simp) _ he⟩,h1.at fun o e=>k _ (by simp) o e⟩
 item:=by
  intro X hP hw hK hc i pins s σ H E I hf st hg
  subst hP hw hK
  obtain ⟨⟨old,he⟩,h1⟩:=st
  obtain ⟨xs,x,hq1,hx⟩:=hg
  obtain ⟨its1,rv1,p1,_⟩:=I.list hq1
  obtain ⟨u,hu,ru⟩:=rv1.get hx
  refine wpAny_pyNext_enum_item he h1 p1.isList (x:=u) (by simpa using hu) hei fun h' he' h1' hT' hsz hk=>?_
  refine ⟨_,rfl,?_⟩
  refine wpAny_letOwnedTupleGo_enum he' fun h2 he2 hs2=>?_
  have lt:∀{b:Addr} {o:Obj},s.heap.get? b=some o→b<s.heap.objs.size:=fun e=>Heap.lt_size e
  have nT:s.heap.objs.size≠e:=Nat.ne_of_gt (lt he)
  have k2:∀b o,b∉[e,it]→s.heap.get? b=some o→h2.get? b=some o:=fun b o hb q=>by
   simp only [List.mem_cons,List.mem_nil_iff,or_false,not_or] at hb
   exact (hs2.2 b hb.1).trans (hk b o hb.1 hb.2 q)
  have hT2:=(hs2.2 _ nT).trans hT'
  refine ⟨.ref s.heap.objs.size,upd H s.heap.objs.size (.tup [.int (i:Int),x]),I.laidN (t':=s.toks+1) (fp:=[e,it]) k2 hf (Nat.le_refl _) ⟨(by show 2≤sizeLine;decide),[.int i s.toks,u],.cons ⟨_,rfl⟩ (.cons ru .nil),⟨_,hT2,rfl,_,rfl⟩⟩,rfl,?_,?_,?_⟩
  ·exact ⟨_,x,rfl,I.hok.fresh (Nat.le_refl _),rfl,fun zs hzs=>by rw [I.list_inj hzs hq1];exact hx⟩
  ·exact ⟨⟨_,he2⟩,h1'.at fun o q=>(hs2.2 _ hei.symm).trans q⟩
  ·intro b hb
   have:=(hf b hb).1
   rw [kC]
   ·exact this
   ·intro q
    simp only [List.mem_cons,List.mem_nil_iff,or_false] at hb
    obtain ⟨o1,e1,_⟩:=h1
    rcases hb with rfl|rfl
    ·exact nT q.symm
    ·exact Nat.ne_of_lt (lt e1) q
 done:=by
  intro X hP hw hK hc i pins s σ H E I hf st hg
  subst hP hw hK
  obtain ⟨⟨old,he⟩,h1⟩:=st
  obtain ⟨xs,hq1,hx⟩:=hg
  obtain ⟨its1,rv1,p1,_⟩:=I.list hq1
  have l1:=rv1.length
  refine wpAny_pyNext_enum_end (I.ok.hd hc) he h1 p1.isList (by simp;omega) fun h' hk=>⟨rfl,I.turnedN (t':=s.toks) (fp:=[e,it]) (fun b o hb q=>?_) hf⟩
  simp only [List.mem_cons,List.mem_nil_iff,or_false,not_or] at hb
  exact hk b o hb.2 q
 self:=fun _ _ _ _ _ st h=>by obtain ⟨⟨old,he⟩,_⟩:=st;exact wpAny_pyIter_enum he h
section
variable {X:Cx} {elts:List Expr} {x1:Nat} {tpos:Pos}
def HI (K:PySem.W.Frag) (ta:TA):TI:=fun σ H R=>ta σ H fun vs H1=>∃a,vs=[.ref a]∧(∃xs,SqL K H1 a xs)∧R (m9 K a) H1
theorem sO {a:Expr} {ta:TA} {p pos:Pos} (hg:Gl X "enumerate") (hm:X.mg "enumerate"=none) (ha:PA X [a] ta) (hs:starEach [a] X.env=[(false,eval a X.env)]:=by rfl) :
  PI X (.Tuple elts x1 tpos) (.Call (.Name "enumerate" p) [a] [] pos) (HI X.K ta):=by
 intro pins s σ H R I h
 refine Call_ (Q4 I hg hm boot_enumerate (PyProof.Rows.callWith_type1 (jW (ha pos pins s σ H _ I h) fun us s1 ⟨vs,H1,I1,r1,q1⟩=>?_) hs rfl))
 obtain ⟨a1,e,⟨xs,hq1⟩,q⟩:=q1
 subst e
 cases r1 with
 |cons r rr =>
  cases rr
  cases r
  obtain ⟨its1,rv1,p1,_⟩:=I1.list hq1
  refine call_enumerate_list p1.isList fun h' he hit hsz hk=>?_
  refine wpAny_pyIter_enum he ?_
  refine ⟨_,_,_,_,H1,rfl,I1.kept (t':=s1.toks) hk,CY (Nat.succ_ne_self _),⟨⟨_,he⟩,hit⟩,fun b hb=>?_,q⟩
  simp only [List.mem_cons,List.mem_nil_iff,or_false] at hb
  have hb':s1.heap.objs.size≤b:=by rcases hb with rfl|rfl<;>simp only [Addr] at *<;>omega
  exact I1.fpOk hb' (I1.hok.fresh hb')
end
end L2
namespace L2
open PySem PySem.Spec PyProof.Rows
end L2
namespace L2
open PySem PySem.Spec PyProof.Rows
section
variable {X:Cx}
end
end L2
namespace L2
open PySem PySem.Spec PyProof.Rows
section
variable {prog:Program} {w:World} {A:Around} {s:Shared} {E:Value→Shared→Prop}
theorem oF {j p:Addr} {i:Nat} {vs:Array Value} {v:Value} {Q:Value→Shared→Prop} (hj:s.heap.IsTupleIter j p i) (hp:s.heap.IsTuple p vs) (hv:vs[i]?=some v) (q:∀h',h'.IsTupleIter j p (i+1)→Heap.SameBut j s.heap h'→Q v {s with heap:=h'}):wpAny (model prog w) A (Builtin.SmallTypes.nextOf (.ref j)) Q E s:=by
 obtain ⟨oj,ej,cj,dj⟩:=id hj;obtain ⟨op,ep,_,np,dp⟩:=hp;unfold Builtin.SmallTypes.nextOf
 refine wpAny_bind (wpAny_callSpecial?_slot (name:=Str.ofString "__next__") hj.typeIs F.slot_tuple_iterator_next (wpAny_call_entry F.slot_tuple_iterator_next hj.typeIs F.entry_tuple_iterator_next ?_ (F.args_tuple_iterator_next_1 _)))
 show wpAny _ _ (field (.ref j) 0 >>= _) _ _ s
 refine wpAny_bind (wpAny_field ej dj (x:=.ref p) rfl ?_)
 show wpAny _ _ (if (Value.ref p == Value.none)=true then _ else _) _ _ s
 rw [if_neg (show ¬((Value.ref p == Value.none)=true) from Bool.false_ne_true)]
 show wpAny _ _ (field (.ref j) 1 >>= _) _ _ s
 refine wpAny_bind (wpAny_field ej dj (x:=.int i 0) rfl ?_)
 show wpAny _ _ (seqItems? (.ref p) >>= _) _ _ s
 refine wpAny_bind (wpAny_seqItems ep dp ?_)
 simp only [Int.toNat_natCast,hv]
 refine wpAny_bind (wpAny_setField ej dj (by simp) (wpAny_pure ⟨v,rfl,wpAny_pure (q _ ?_ (Heap.SameBut.update ..))⟩))
 exact ⟨_,Heap.get?_update_self _ ej (Obj.isFreed_of_fields (Obj.data_mapFields dj _)),(Obj.cls_mapFields ..).trans cj,by rw [Obj.data_mapFields dj];simp [rawInt]⟩
theorem iT {j p:Addr} {i:Nat} {vs:Array Value} {Q:Value→Shared→Prop} (hh:A.handled=none) (hj:s.heap.IsTupleIter j p i) (hp:s.heap.IsTuple p vs) (hv:vs[i]?=none)
  (q:∀h' e,Heap.ExtBut j s.heap h'→(∃o,h'.get? e=some o∧o.cls=.type "StopIteration")→E (.ref e) {s with heap:=h'}):wpAny (model prog w) A (Builtin.SmallTypes.nextOf (.ref j)) Q E s:=by
 obtain ⟨oj,ej,cj,dj⟩:=id hj;obtain ⟨op,ep,_,np,dp⟩:=hp;unfold Builtin.SmallTypes.nextOf
 refine wpAny_bind (wpAny_callSpecial?_slot (name:=Str.ofString "__next__") hj.typeIs F.slot_tuple_iterator_next (wpAny_call_entry F.slot_tuple_iterator_next hj.typeIs F.entry_tuple_iterator_next ?_ (F.args_tuple_iterator_next_1 _)))
 show wpAny _ _ (field (.ref j) 0 >>= _) _ _ s
 refine wpAny_bind (wpAny_field ej dj (x:=.ref p) rfl ?_)
 show wpAny _ _ (if (Value.ref p == Value.none)=true then _ else _) _ _ s
 rw [if_neg (show ¬((Value.ref p == Value.none)=true) from Bool.false_ne_true)]
 show wpAny _ _ (field (.ref j) 1 >>= _) _ _ s
 refine wpAny_bind (wpAny_field ej dj (x:=.int i 0) rfl ?_)
 show wpAny _ _ (seqItems? (.ref p) >>= _) _ _ s
 refine wpAny_bind (wpAny_seqItems ep dp ?_)
 simp only [Int.toNat_natCast,hv]
 refine wpAny_bind (wpAny_rule (wpAny_bind (wpAny_setField ej dj (by simp) ?_)));refine wpAny_bind ?_
 simp only [newExc,newTuple];refine wpAny_bind (wpAny_newObj_type ?_ (by size_fits))
 refine wpAny_bind (m:=firstArgMember _ _) (wpAny_of_eq (a:=Value.none) (by first|rfl|(simp only [firstArgMember];rfl)) ?_);refine wpAny_newObj_type ?_ (by size_fits)
 simp only [raiseNew];refine wpAny_bind (wpAny_handled ?_);(first|rw [show A.in1.handled=none from hh]|rw [hh])
 refine wpAny_bind (wpAny_pure (wpAny_throw ?_));exact q _ _ (((Heap.SameBut.update ..).extBut.push _).push _) ⟨_,Heap.get?_push_size _ rfl,rfl⟩
theorem CQ {z P1 P2 j1 j2 a b:Addr} {k:Nat} {us vs:Array Value} {u v g g':Value} {Q:Value→Shared→Prop} (D:ZipApart z P1 P2 j1 j2 a b)
  (hz:IsZip s.heap z P1 P2 .none) (hP1:IsPair s.heap P1 (.ref j1) (.ref j2)) (hP2:IsPair s.heap P2 g g') (n1:s.heap.IsListIter j1 a k) (n2:s.heap.IsTupleIter j2 b k) (la:s.heap.IsList a us) (tb:s.heap.IsTuple b vs) (hu:us[k]?=some u) (hv:vs[k]?=some v)
  (q:∀h',IsZip h' z P1 P2 (rawInt s.heap.objs.size)→IsPair h' P2 u v→h'.IsListIter j1 a (k+1)→h'.IsTupleIter j2 b (k+1)→IsPair h' s.heap.objs.size u v→(∀c o,c≠z→c≠P2→c≠j1→c≠j2→s.heap.get? c=some o→h'.get? c=some o)→Q (.ref s.heap.objs.size) {s with heap:=h'}):wpAny (model prog w) A (Builtin.«zip.__next__» ⟨[.ref z],[]⟩) (fun fin s'=>∃v,fin=.done (.ret v)∧Q v s') E s:=by
 show wpAny _ _ (field (.ref z) 2 >>= _) _ _ _;refine wpAny_bind (wpAny_field hz rfl (x:=.bool false) rfl ?_);show wpAny _ _ (field (.ref z) 3 >>= _) _ _ _
 refine wpAny_bind (wpAny_field hz rfl (x:=.ref P1) rfl ?_);refine wpAny_bind (wpAny_seqItems hP1 rfl ?_)
 show wpAny _ _ (Builtin.SmallTypes.ownedTupleIsFree (.ref z) >>= _) _ _ _;refine wpAny_bind ?_;unfold Builtin.SmallTypes.ownedTupleIsFree
 refine wpAny_bind (wpAny_field hz rfl (x:=.none) rfl (wpAny_pure ?_));simp only [if_true]
 refine wpAny_bind (wpAny_rule ?_);refine wpAny_bind (wpAny_field hz rfl (x:=.ref P2) rfl ?_)
 refine wpAny_bind (wpAny_setField_rec hz (by simp) fun m1 z1 d1=>?_)
 have z1:IsZip m1 z P1 P2 .ellipsis:=z1
 refine wpAny_bind ?_;simp only [List.zipIdx_cons,List.zipIdx_nil,List.forIn_cons,List.forIn_nil]
 refine wpAny_bind (wpAny_bind (wpAny_onRaise ?_));show wpAny _ _ (Builtin.SmallTypes.nextOf (.ref j1) >>= _) _ _ _
 refine wpAny_bind (wpAny_nextOf_list_item (n1.extBut d1.extBut D.i1z) (la.extBut d1.extBut D.l1z) hu fun m2 n12 d2=>wpAny_pure ?_)
 have p2:IsPair m2 P2 g g':=d2.extBut _ _ D.TOi1 (d1.extBut _ _ D.TOz hP2)
 refine wpAny_bind (wpAny_seqItems p2 rfl ?_);refine wpAny_bind (wpAny_updateSeq_pair p2 fun m3 p3 d3=>?_)
 have p3:IsPair m3 P2 u g':=p3
 refine wpAny_bind (wpAny_letGo (wpAny_pure ?_));refine wpAny_bind (wpAny_bind (wpAny_onRaise ?_));show wpAny _ _ (Builtin.SmallTypes.nextOf (.ref j2) >>= _) _ _ _
 refine wpAny_bind (oF (((n2.extBut d1.extBut D.i2z).extBut d2.extBut D.i12.symm).extBut d3.extBut D.TOi2.symm) (((tb.extBut d1.extBut D.l2z).extBut d2.extBut D.l2i1).extBut d3.extBut D.l2TO) hv fun m4 n24 d4=>wpAny_pure ?_)
 have p4:IsPair m4 P2 u g':=d4.extBut _ _ D.TOi2 p3
 refine wpAny_bind (wpAny_seqItems p4 rfl ?_);refine wpAny_bind (wpAny_updateSeq_pair p4 fun m5 p5 d5=>?_)
 have p5:IsPair m5 P2 u v:=p5
 refine wpAny_bind (wpAny_letGo (wpAny_pure (wpAny_pure ?_)));refine wpAny_bind (wpAny_seqItems p5 rfl ?_);refine wpAny_bind (wpAny_newTuple ?_)
 have sz:m5.objs.size=s.heap.objs.size:=by rw [d5.1,d4.1,d3.1,d2.1,d1.1]
 have z5:IsZip m5 z P1 P2 .ellipsis:=d5.extBut _ _ D.TOz.symm (d4.extBut _ _ D.i2z.symm (d3.extBut _ _ D.TOz.symm (d2.extBut _ _ D.i1z.symm z1)))
 have kk:∀c o,c≠z→c≠P2→c≠j1→c≠j2→s.heap.get? c=some o→m5.get? c=some o:=fun c o e1 e2 e3 e4 e=>d5.extBut _ _ e2 (d4.extBut _ _ e4 (d3.extBut _ _ e2 (d2.extBut _ _ e3 (d1.extBut _ _ e1 e))))
 have n15:m5.IsListIter j1 a (k+1):=((n12.extBut d3.extBut D.TOi1.symm).extBut d4.extBut D.i12).extBut d5.extBut D.TOi1.symm
 have n25:m5.IsTupleIter j2 b (k+1):=n24.extBut d5.extBut D.TOi2.symm
 have zl:z<m5.objs.size:=Heap.lt_size z5
 show wpAny _ _ (Builtin.SmallTypes.ownedTupleHandOut (.ref z) (.ref m5.objs.size) >>= _) _ _ _;refine wpAny_bind ?_;unfold Builtin.SmallTypes.ownedTupleHandOut
 have z6:IsZip (m5.push {cls:=.type "tuple",data:=.seq #[u,v]}) z P1 P2 .ellipsis:=Heap.get?_push_of_some _ z5
 refine wpAny_bind (wpAny_setField_rec z6 (by simp) fun m7 z7 d7=>?_)
 have z7:IsZip m7 z P1 P2 (rawInt m5.objs.size):=z7
 refine wpAny_setField_rec z7 (by simp) fun m8 z8 d8=>?_
 have z8:IsZip m8 z P1 P2 (rawInt m5.objs.size):=z8
 have up:∀c o,c≠z→m5.get? c=some o→m8.get? c=some o:=fun c o e1 e=>d8.extBut _ _ e1 (d7.extBut _ _ e1 (Heap.get?_push_of_some _ e))
 have t8:IsPair m8 m5.objs.size u v:=d8.extBut _ _ (Nat.ne_of_gt zl) (d7.extBut _ _ (Nat.ne_of_gt zl) (Heap.get?_push_size _ rfl))
 rw [sz] at z8 t8
 refine wpAny_pure ⟨_,rfl,?_⟩;show Q (.ref m5.objs.size) _;rw [sz]
 exact q m8 z8 (up _ _ D.TOz p5) (n15.at fun o e=>up _ o D.i1z e) (n25.at fun o e=>up _ o D.i2z e) t8 fun c o e1 e2 e3 e4 e=>up c o e1 (kk c o e1 e2 e3 e4 e)
theorem DQ {z P1 P2 j1 j2 a b:Addr} {k:Nat} {us vs:Array Value} {g g':Value} {Q:Fin→Shared→Prop} (hh:A.handled=none) (D:ZipApart z P1 P2 j1 j2 a b)
  (hz:IsZip s.heap z P1 P2 .none) (hP1:IsPair s.heap P1 (.ref j1) (.ref j2)) (hP2:IsPair s.heap P2 g g') (n1:s.heap.IsListIter j1 a k) (n2:s.heap.IsTupleIter j2 b k) (la:s.heap.IsList a us) (tb:s.heap.IsTuple b vs) (he:us[k]?=none∨vs[k]?=none)
  (q:∀h' e,(∀c o,c≠z→c≠P2→c≠j1→c≠j2→s.heap.get? c=some o→h'.get? c=some o)→(∃o,h'.get? e=some o∧o.cls=.type "StopIteration")→E (.ref e) {s with heap:=h'}):wpAny (model prog w) A (Builtin.«zip.__next__» ⟨[.ref z],[]⟩) Q E s:=by
 show wpAny _ _ (field (.ref z) 2 >>= _) _ _ _;refine wpAny_bind (wpAny_field hz rfl (x:=.bool false) rfl ?_);show wpAny _ _ (field (.ref z) 3 >>= _) _ _ _
 refine wpAny_bind (wpAny_field hz rfl (x:=.ref P1) rfl ?_);refine wpAny_bind (wpAny_seqItems hP1 rfl ?_)
 show wpAny _ _ (Builtin.SmallTypes.ownedTupleIsFree (.ref z) >>= _) _ _ _;refine wpAny_bind ?_;unfold Builtin.SmallTypes.ownedTupleIsFree
 refine wpAny_bind (wpAny_field hz rfl (x:=.none) rfl (wpAny_pure ?_));simp only [if_true]
 refine wpAny_bind (wpAny_rule ?_);refine wpAny_bind (wpAny_field hz rfl (x:=.ref P2) rfl ?_)
 refine wpAny_bind (wpAny_setField_rec hz (by simp) fun m1 z1 d1=>?_)
 have z1:IsZip m1 z P1 P2 .ellipsis:=z1
 refine wpAny_bind ?_;simp only [List.zipIdx_cons,List.zipIdx_nil,List.forIn_cons,List.forIn_nil]
 refine wpAny_bind (wpAny_bind (wpAny_onRaise ?_));show wpAny _ _ (Builtin.SmallTypes.nextOf (.ref j1) >>= _) _ _ _
 cases hu:us[k]? with
 |none =>
  refine wpAny_bind (wpAny_nextOf_list_end hh (n1.extBut d1.extBut D.i1z) (la.extBut d1.extBut D.l1z) hu fun m2 e d2 st=>?_);obtain ⟨oe,ee,ce⟩:=st
  have z2:IsZip m2 z P1 P2 .ellipsis:=d2 _ _ D.i1z.symm z1
  have ne:e≠z:=fun x=>by subst x;rw [z2] at ee;cases ee;simp at ce
  refine wpAny_setField_rec z2 (by simp) fun m3 _ d3=>q m3 e (fun c o e1 _ e3 _ x=>d3.extBut _ _ e1 (d2 _ _ e3 (d1.extBut _ _ e1 x))) ⟨oe,d3.extBut _ _ ne ee,ce⟩
 |some u =>
  have hv:vs[k]?=none:=by rcases he with h|h;rw [hu] at h;cases h;exact h
  refine wpAny_bind (wpAny_nextOf_list_item (n1.extBut d1.extBut D.i1z) (la.extBut d1.extBut D.l1z) hu fun m2 n12 d2=>wpAny_pure ?_)
  have p2:IsPair m2 P2 g g':=d2.extBut _ _ D.TOi1 (d1.extBut _ _ D.TOz hP2)
  refine wpAny_bind (wpAny_seqItems p2 rfl ?_);refine wpAny_bind (wpAny_updateSeq_pair p2 fun m3 p3 d3=>?_)
  refine wpAny_bind (wpAny_letGo (wpAny_pure ?_));refine wpAny_bind (wpAny_bind (wpAny_onRaise ?_));show wpAny _ _ (Builtin.SmallTypes.nextOf (.ref j2) >>= _) _ _ _
  refine wpAny_bind (iT hh (((n2.extBut d1.extBut D.i2z).extBut d2.extBut D.i12.symm).extBut d3.extBut D.TOi2.symm) (((tb.extBut d1.extBut D.l2z).extBut d2.extBut D.l2i1).extBut d3.extBut D.l2TO) hv fun m4 e d4 st=>?_);obtain ⟨oe,ee,ce⟩:=st
  have z4:IsZip m4 z P1 P2 .ellipsis:=d4 _ _ D.i2z.symm (d3.extBut _ _ D.TOz.symm (d2.extBut _ _ D.i1z.symm z1))
  have ne:e≠z:=fun x=>by subst x;rw [z4] at ee;cases ee;simp at ce
  refine wpAny_setField_rec z4 (by simp) fun m5 _ d5=>q m5 e (fun c o e1 e2 e3 e4 x=>d5.extBut _ _ e1 (d4 _ _ e4 (d3.extBut _ _ e2 (d2.extBut _ _ e3 (d1.extBut _ _ e1 x))))) ⟨oe,d5.extBut _ _ ne ee,ce⟩
end
def mU (K:PySem.W.Frag) (a1 a2:Addr):It :=
 ⟨fun i H=>∃xs ys x y,SqL K H a1 xs∧SqT K H a2 ys∧xs[i]?=some x∧ys[i]?=some y,
  fun i H v H'=>∃T x y,v=.ref T∧H T=none∧H'=upd H T (.tup [x,y])∧(∀xs,SqL K H a1 xs→xs[i]?=some x)∧(∀ys,SqT K H a2 ys→ys[i]?=some y),
  fun i H=>∃xs ys,SqL K H a1 xs∧SqT K H a2 ys∧(xs.length≤i∨ys.length≤i)⟩
theorem CV {P:Program} {w:World} {K:PySem.W.Frag} {elts:List Expr} {x1:Nat} {pos:Pos} {a1 a2 z TI TO i1 i2:Addr} (D:ZipApart z TI TO i1 i2 a1 a2) :
  Turn P w K (.Tuple elts x1 pos) (mU K a1 a2) [z,TI,TO,i1,i2] z (fun i h=>IsZip h z TI TO .none∧IsPair h TI (.ref i1) (.ref i2)∧(∃a b,IsPair h TO a b)∧h.IsListIter i1 a1 i∧h.IsTupleIter i2 a2 i) where
 mem:=by simp
 obj:=fun i h st b hb=>by
  obtain ⟨hz,hTI,⟨p,q,hTO⟩,⟨o1,e1,c1,d1⟩,⟨o2,e2,c2,d2⟩⟩:=st
  simp only [List.mem_cons,List.mem_nil_iff,or_false] at hb
  rcases hb with rfl|rfl|rfl|rfl|rfl
  ·exact ⟨_,hz,fun v y=>by have y':Data.fields _=Data.cell v:=y;cases y'⟩
  ·exact ⟨_,hTI,fun v y=>by have y':Data.seq _ _=Data.cell v:=y;cases y'⟩
  ·exact ⟨_,hTO,fun v y=>by have y':Data.seq _ _=Data.cell v:=y;cases y'⟩
  ·exact ⟨o1,e1,fun v y=>by rw [d1] at y;cases y⟩
  ·exact ⟨o2,e2,fun v y=>by rw [d2] at y;cases y⟩
 keep:=fun i h h' st k=>by
  obtain ⟨hz,hTI,⟨p,q,hTO⟩,h1,h2⟩:=st
  exact ⟨k _ (by simp) _ hz,k _ (by simp) _ hTI,⟨p,q,k _ (by simp) _ hTO⟩,h1.at fun o e=>k _ (by simp) o e,h2.at fun o e=>k _ (by simp) o e⟩
 item:=by
  intro X hP hw hK hc i pins s σ H E I hf st hg
  subst hP hw hK
  obtain ⟨hz,hTI,⟨p,q,hTO⟩,h1,h2⟩:=st
  obtain ⟨xs,ys,x,y,hq1,hq2,hx,hy⟩:=hg
  obtain ⟨its1,rv1,p1,_⟩:=I.list hq1
  obtain ⟨its2,rv2,p2,_⟩:=I.tuple hq2
  obtain ⟨u,hu,ru⟩:=rv1.get hx
  obtain ⟨v,hv,rv⟩:=rv2.get hy
  have hTz:s.TypeIs (.ref z) "zip":=⟨_,hz,rfl⟩
  unfold pyNext
  refine wpAny_bind (wpAny_attempt (wpAny_callSpecial?_slot (name:=Str.ofString "__next__") hTz F.slot_zip_next (wpAny_call_entry F.slot_zip_next hTz F.entry_zip_next (CQ D hz hTI hTO h1 h2 p1.isList (show s.heap.IsTuple a2 its2.toArray from p2) (u:=u) (v:=v) (by simpa using hu) (by simpa using hv) fun h' hz' hTO' h1' h2' hT' hk=>wpAny_pure ?_) (F.args_zip_next_1 _))))
  refine ⟨_,rfl,?_⟩
  refine wpAny_letOwnedTupleGo_zip hz' fun hp2 hz2 hs2=>?_
  have lt:∀{b:Addr} {o:Obj},s.heap.get? b=some o→b<s.heap.objs.size:=fun e=>Heap.lt_size e
  have nT:s.heap.objs.size≠z:=Nat.ne_of_gt (lt hz)
  have k2:∀b o,b∉[z,TI,TO,i1,i2]→s.heap.get? b=some o→hp2.get? b=some o:=fun b o hb e=>by
   simp only [List.mem_cons,List.mem_nil_iff,or_false,not_or] at hb
   exact (hs2.2 b hb.1).trans (hk b o hb.1 hb.2.2.1 hb.2.2.2.1 hb.2.2.2.2 e)
  have hT2:IsPair hp2 s.heap.objs.size u v:=(hs2.2 _ nT).trans hT'
  refine ⟨.ref s.heap.objs.size,upd H s.heap.objs.size (.tup [x,y]),I.laidN (t':=s.toks) (fp:=[z,TI,TO,i1,i2]) k2 hf (Nat.le_refl _) ⟨(by show 2≤sizeLine;decide),[u,v],.cons ru (.cons rv .nil),⟨_,hT2,rfl,_,rfl⟩⟩,rfl,?_,?_,?_⟩
  ·exact ⟨_,x,y,rfl,I.hok.fresh (Nat.le_refl _),rfl,fun zs hzs=>by rw [I.list_inj hzs hq1];exact hx,fun zs hzs=>by rw [I.tuple_inj hzs hq2];exact hy⟩
  ·refine ⟨hz2,(hs2.2 _ D.TIz).trans (hk _ _ D.TIz D.TITO D.TIi1 D.TIi2 hTI),⟨_,_,(hs2.2 _ D.TOz).trans hTO'⟩,h1'.at fun o e=>(hs2.2 _ D.i1z).trans e,h2'.at fun o e=>(hs2.2 _ D.i2z).trans e⟩
  ·intro b hb
   have:=(hf b hb).1
   rw [kC]
   ·exact this
   ·intro e
    simp only [List.mem_cons,List.mem_nil_iff,or_false] at hb
    obtain ⟨o1,e1,_⟩:=h1
    obtain ⟨o2,e2,_⟩:=h2
    rcases hb with rfl|rfl|rfl|rfl|rfl
    ·exact nT e.symm
    ·exact Nat.ne_of_lt (lt hTI) e
    ·exact Nat.ne_of_lt (lt hTO) e
    ·exact Nat.ne_of_lt (lt e1) e
    ·exact Nat.ne_of_lt (lt e2) e
 done:=by
  intro X hP hw hK hc i pins s σ H E I hf st hg
  subst hP hw hK
  obtain ⟨hz,hTI,⟨p,q,hTO⟩,h1,h2⟩:=st
  obtain ⟨xs,ys,hq1,hq2,he⟩:=hg
  obtain ⟨its1,rv1,p1,_⟩:=I.list hq1
  obtain ⟨its2,rv2,p2,_⟩:=I.tuple hq2
  have l1:=rv1.length
  have l2:=rv2.length
  have hTz:s.TypeIs (.ref z) "zip":=⟨_,hz,rfl⟩
  unfold pyNext
  refine wpAny_bind (wpAny_attempt (wpAny_callSpecial?_slot (name:=Str.ofString "__next__") hTz F.slot_zip_next (wpAny_call_entry F.slot_zip_next hTz F.entry_zip_next (DQ (I.ok.hd hc) D hz hTI hTO h1 h2 p1.isList (show s.heap.IsTuple a2 its2.toArray from p2) (he.imp (fun e=>by simp;omega) (fun e=>by simp;omega)) fun h' e hk ho=>?_) (F.args_zip_next_1 _))))
  obtain ⟨o,ho,hco⟩:=ho
  refine wpAny_bind (wpAny_isInstance (T:="StopIteration") (b:=true) ⟨o,ho,hco⟩ isSubtype_stop (wpAny_pure ⟨rfl,I.turnedN (t':=s.toks) (fp:=[z,TI,TO,i1,i2]) (fun b o hb e=>?_) hf⟩))
  simp only [List.mem_cons,List.mem_nil_iff,or_false,not_or] at hb
  exact hk b o hb.1 hb.2.2.1 hb.2.2.2.1 hb.2.2.2.2 e
 self:=fun _ _ _ _ _ st h=>wpAny_pyIter_zip st.1 h
section
variable {X:Cx} {elts:List Expr} {x1:Nat} {tpos:Pos}
abbrev gN (h:Heap) (a:Addr):Heap:=h.push {cls:=.type "list_iterator",data:=.fields #[.ref a,.int 0 0]}
abbrev gM (h:Heap) (a b:Addr):Heap:=(gN h a).push {cls:=.type "tuple_iterator",data:=.fields #[.ref b,.int 0 0]}
abbrev gL (h:Heap) (a b:Addr):Heap:=(gM h a b).push {cls:=.type "tuple",data:=.seq #[.ref h.objs.size,.ref (gN h a).objs.size]}
abbrev gK (h:Heap) (a b:Addr):Heap:=(gL h a b).push {cls:=.type "tuple",data:=.seq #[.none,.none]}
abbrev dF (h:Heap) (a b:Addr):Heap:=(gK h a b).push {cls:=.type "zip",data:=.fields #[.none,.bool false,.bool false,.ref (gM h a b).objs.size,.ref (gL h a b).objs.size]}
theorem CD (a b:Addr) (us vs:Array Value):Meets (Builtin.«zip.__new__» ⟨[.type "zip",.ref a,.ref b],[]⟩) (fun _ R s=>s.heap.IsList a us∧s.heap.IsTuple b vs∧R (.ok (.ret (.ref (gK s.heap a b).objs.size))) {s with heap:=dF s.heap a b}):=.of_wp fun prog w A R s h=>by
  obtain ⟨hp,g,d,tk,os⟩:=s;obtain ⟨la,tb,h⟩:=h;have hsub:=sub_zip
  have A1:Heap.IsList (Shared.heap ⟨hp,g,d,tk,os⟩) a us:=la
  have A2:Heap.IsTuple (Shared.heap ⟨hp.push {cls:=.type "list_iterator",data:=.fields #[.ref a,.int 0 0]},g,d,tk,os⟩) b vs:=Heap.IsTuple.push tb _
  wp_walk using wpAny_pyIter_list A1,wpAny_pyIter_tuple A2
  exact ⟨_,rfl,h⟩
theorem DL {prog:Program} {w:World} {A:Around} {s:Shared} {E:Value→Shared→Prop} {a b:Addr} {us vs:Array Value} {Q:Value→Shared→Prop} (la:s.heap.IsList a us) (tb:s.heap.IsTuple b vs)
  (q:∀h',IsZip h' (s.heap.objs.size+4) (s.heap.objs.size+2) (s.heap.objs.size+3) .none→IsPair h' (s.heap.objs.size+2) (.ref s.heap.objs.size) (.ref (s.heap.objs.size+1))→IsPair h' (s.heap.objs.size+3) .none .none→h'.IsListIter s.heap.objs.size a 0→h'.IsTupleIter (s.heap.objs.size+1) b 0→(∀c o,s.heap.get? c=some o→h'.get? c=some o)→Q (.ref (s.heap.objs.size+4)) {s with heap:=h'}) :
  wpAny (model prog w) A (call (.type "zip") [.ref a,.ref b]) Q E s:=by
 refine callType_new F.called_zip (by decide) (F.typeCall_zip_2 _ _) (F.newCall_zip_2 _ _) (fun obj=>F.args_object_init_3 obj _ _) F.entry_zip_new (CD a b us vs) ⟨la,tb,?_⟩
 have y1:(gN s.heap a).objs.size=s.heap.objs.size+1:=Heap.size_push ..
 have y2:(gM s.heap a b).objs.size=s.heap.objs.size+2:=by rw [Heap.size_push,y1]
 have y3:(gL s.heap a b).objs.size=s.heap.objs.size+3:=by rw [Heap.size_push,y2]
 have y4:(gK s.heap a b).objs.size=s.heap.objs.size+4:=by rw [Heap.size_push,y3]
 have up:∀{h:Heap} {o:Obj} {c:Addr} {v:Obj},h.get? c=some v→(h.push o).get? c=some v:=fun e=>Heap.get?_push_of_some _ e
 have g5:(dF s.heap a b).get? (gK s.heap a b).objs.size=some _:=Heap.get?_push_size _ rfl
 have g4:(dF s.heap a b).get? (gL s.heap a b).objs.size=some _:=up (Heap.get?_push_size _ rfl)
 have g3:(dF s.heap a b).get? (gM s.heap a b).objs.size=some _:=up (up (Heap.get?_push_size _ rfl))
 have g2:(dF s.heap a b).get? (gN s.heap a).objs.size=some _:=up (up (up (Heap.get?_push_size _ rfl)))
 have g1:(dF s.heap a b).get? s.heap.objs.size=some _:=up (up (up (up (Heap.get?_push_size _ rfl))))
 show _∧_
 rw [y2,y3,y4] at g5;rw [y1,y2] at g3;rw [y3] at g4;rw [y1] at g2;rw [y4]
 exact ⟨⟨_,g5,rfl⟩,q _ g5 g3 g4 ⟨_,g1,rfl,rfl⟩ ⟨_,g2,rfl,rfl⟩ fun c o x=>up (up (up (up (up x))))⟩
def HE (K:PySem.W.Frag) (ta:TA):TI:=fun σ H R=>ta σ H fun vs H1=>∃a1 a2,vs=[.ref a1,.ref a2]∧(∃xs,SqL K H1 a1 xs)∧(∃ys,SqT K H1 a2 ys)∧R (mU K a1 a2) H1
theorem EZ {a b:Expr} {ta:TA} {p pos:Pos} (hg:Gl X "zip") (hm:X.mg "zip"=none) (ha:PA X [a,b] ta) (hs:starEach [a,b] X.env=[(false,eval a X.env),(false,eval b X.env)]:=by rfl) (hs2:starEach [b] X.env=[(false,eval b X.env)]:=by rfl) :
  PI X (.Tuple elts x1 tpos) (.Call (.Name "zip" p) [a,b] [] pos) (HE X.K ta):=by
 intro pins s σ H R I h
 refine Call_ (Q4 I hg hm boot_zip (PyProof.Rows.callWith_type1 (jW (ha pos pins s σ H _ I h) fun us s1 ⟨vs,H1,I1,r1,q1⟩=>?_) (by rw [hs,hs2]) (by rw [hs2];rfl)))
 obtain ⟨a1,a2,e,⟨xs,hq1⟩,⟨ys,hq2⟩,q⟩:=q1
 subst e
 cases r1 with
 |cons r rr =>
  cases rr with
  |cons r' rr =>
   cases rr
   cases r
   cases r'
   obtain ⟨its1,rv1,p1,_⟩:=I1.list hq1
   obtain ⟨its2,rv2,p2,_⟩:=I1.tuple hq2
   have p2:s1.heap.IsTuple a2 its2.toArray:=p2
   have lt1:a1<s1.heap.objs.size:=by obtain ⟨o,e,_⟩:=p1.isList;exact Heap.lt_size e
   have lt2:a2<s1.heap.objs.size:=by obtain ⟨o,e,_⟩:=p2;exact Heap.lt_size e
   refine DL p1.isList p2 fun h' hz hTI hTO h1 h2 hk=>?_
   refine wpAny_pyIter_zip hz ?_
   have D:ZipApart (s1.heap.objs.size+4) (s1.heap.objs.size+2) (s1.heap.objs.size+3) s1.heap.objs.size (s1.heap.objs.size+1) a1 a2:=by
    constructor<;>(intro e;simp only [Addr] at *;omega)
   refine ⟨_,_,_,_,H1,rfl,I1.kept (t':=s1.toks) hk,CV D,⟨hz,hTI,⟨_,_,hTO⟩,h1,h2⟩,fun b hb=>?_,q⟩
   simp only [List.mem_cons,List.mem_nil_iff,or_false] at hb
   have hb':s1.heap.objs.size≤b:=by rcases hb with rfl|rfl|rfl|rfl|rfl<;>simp only [Addr] at *<;>omega
   exact I1.fpOk hb' (I1.hok.fresh hb')
end
end L2
namespace L2
open PySem PySem.Spec PyProof.Rows
set_option maxRecDepth 100000
section
variable {X:Cx}
def FQ:V→List V→Hp→VK→Prop:=fun x vs H Q=>∃(l:Addr) (xs:List V) (y:V),x=.ref l∧vs=[y]∧H l=some (.lst xs)∧qY y=true∧xs.all qY=true∧Q (.int ((xs.countP fun z=>vI z y:Nat):Int)) H
theorem oM {y:V}:∀{xs:List V} {us:List Value},Vals xs us→xs.all qY=true→us.countP (gS y)=xs.countP fun z=>vI z y
 |[],_,r,_=>by cases r;rfl
 |x::xs,_,r,f=>by
  cases r with
  |@cons _ u _ us ru rt =>
   rw [List.all_cons,Bool.and_eq_true] at f
   have ih:=oM (y:=y) rt f.2
   rw [List.countP_cons,List.countP_cons,ih,tO ru f.1]
theorem EC:uN X "list.count" FQ:=by
 intro pins s σ H x vs v us Q I rx rv h
 obtain ⟨l,xs,y,rfl,rfl,hH,fy,fx,q⟩:=h
 cases rx
 obtain ⟨u,rfl,ru⟩:=rv.one
 obtain ⟨z,its,n,r,hl,e⟩:=I.lstM hH
 refine call_meets F.slot_list_count ⟨_,e,rfl⟩ F.entry_list_count (F.args_list_count_2 _ _) (SeqAt.list_countAt l its.toArray n none #[] u (gS y)) ⟨e,fun w hw=>rC ru fy r fx w (by simpa using hw),?_⟩
 rw [show its.toArray.toList=its from rfl,oM r fx]
 exact ⟨.int ((xs.countP fun z=>vI z y:Nat):Int),H,I.tok _,⟨_,rfl⟩,q⟩
theorem B2 {K:PySem.W.Frag} {a1 a2 D:Addr} {xs ys:List V} {g:TG} {tc:TT} {te:TE} {σ₀:St} {H:Hp} {Q:Hp→Prop} (Pv:Nat→St→Hp→Prop) (h0:Pv 0 σ₀ (upd H D (.lst []))) (hl:∀i σ H,i≤xs.length→Pv i σ H→SqL K H a1 xs∧SqT K H a2 ys) (hn:xs.length=ys.length)
  (hs:∀i x y σ H T,xs[i]?=some x→ys[i]?=some y→Pv i σ H→H T=none→g (.ref T) σ (upd H T (.tup [x,y])) fun σ2 H3=>tc σ2 H3 fun b H4=>if b=true then te σ2 H4 fun v H5=>∃zs,H5 D=some (.lst zs)∧zs.length<sizeLine∧Pv (i+1) σ2 (upd H5 D (.lst (zs++[v]))) else Pv (i+1) σ2 H4)
  (hd:∀σ H,Pv xs.length σ H→Q H):zQ D (mU K a1 a2) g tc te σ₀ H Q:=by
 refine ⟨fun i m σ H=>m=xs.length - i∧i≤xs.length∧Pv i σ H,⟨xs.length,by simp,Nat.zero_le _,h0⟩,?_⟩
 rintro i m σ H ⟨rfl,hi,p⟩
 obtain ⟨q1,q2⟩:=hl i σ H hi p
 by_cases hlt:i<xs.length
 ·have hlt2:i<ys.length:=by omega
  refine .inr ⟨⟨xs,ys,_,_,q1,q2,List.getElem?_eq_getElem hlt,List.getElem?_eq_getElem hlt2⟩,Pv (i+1),fun σ' H' p'=>⟨xs.length - (i+1),by omega,rfl,hlt,p'⟩,fun v H' hy=>?_⟩
  obtain ⟨T,x,y,rfl,hT,rfl,e1,e2⟩:=hy
  exact hs i x y σ H T (e1 xs q1) (e2 ys q2) p hT
 ·exact .inl ⟨⟨xs,ys,q1,q2,.inl (by omega)⟩,hd σ H (by rw [show xs.length=i by omega];exact p)⟩
end
end L2
namespace L2
open PySem PySem.Spec PyProof.Rows
section
variable {prog:Program} {w:World} {A:Around} {s:Shared} {E:Value→Shared→Prop}
end
end L2
namespace L2
open PySem PySem.Spec PyProof.Rows
section
variable {X:Cx} {pins:List (Addr×Obj)} {σ:List (Option V)} {H:Hp} {s:Shared} {h':Heap}
end
section
variable {X:Cx}
open Classical in
end
end L2
namespace L2
open PySem PySem.Spec PyProof.Rows
section
variable {prog:Program} {w:World} {A:Around} {s:Shared} {E:Value→Shared→Prop}
end
end L2
namespace L2
open PySem PySem.Spec PyProof.Rows
section
variable {X:Cx} {e se:Expr} {te:TE} {lo hi:Option Expr} {tl th tk:TO} {pos p2:Pos}
end
section
variable {X:Cx}
end
end L2
namespace L2
open PySem PySem.Spec PyProof.Rows
section
theorem nZ {K:PySem.W.Frag} {a D:Addr} {xs:List V} {g:TG} {tc:TT} {te:TE} {σ₀:St} {H:Hp} {Q:Hp→Prop} (Pv:Nat→St→Hp→Prop) (h0:Pv 0 σ₀ (upd H D (.lst []))) (hl:∀i σ H,i≤xs.length→Pv i σ H→SqL K H a xs)
  (hs:∀i x σ H T,xs[i]?=some x→Pv i σ H→H T=none→g (.ref T) σ (upd H T (.tup [.int (i:Int),x])) fun σ2 H3=>tc σ2 H3 fun b H4=>if b=true then te σ2 H4 fun v H5=>∃zs,H5 D=some (.lst zs)∧zs.length<sizeLine∧Pv (i+1) σ2 (upd H5 D (.lst (zs++[v]))) else Pv (i+1) σ2 H4)
  (hd:∀σ H,Pv xs.length σ H→Q H):zQ D (m9 K a) g tc te σ₀ H Q:=by
 refine ⟨fun i m σ H=>m=xs.length - i∧i≤xs.length∧Pv i σ H,⟨xs.length,by simp,Nat.zero_le _,h0⟩,?_⟩
 rintro i m σ H ⟨rfl,hi,p⟩
 have q1:=hl i σ H hi p
 by_cases hlt:i<xs.length
 ·refine .inr ⟨⟨xs,_,q1,List.getElem?_eq_getElem hlt⟩,Pv (i+1),fun σ' H' p'=>⟨xs.length - (i+1),by omega,rfl,hlt,p'⟩,fun v H' hy=>?_⟩
  obtain ⟨T,x,rfl,hT,rfl,e1⟩:=hy
  exact hs i x σ H T (e1 xs q1) p hT
 ·exact .inl ⟨⟨xs,q1,by omega⟩,hd σ H (by rw [show xs.length=i by omega];exact p)⟩
end
end L2
namespace L2
open PySem PySem.Spec PyProof.Rows
section
variable {prog:Program} {w:World} {A:Around} {s:Shared} {E:Value→Shared→Prop}
theorem nP {h h':Heap} {p:Addr} {vs:Array Value} (ht:h.IsTuple p vs) (k:∀o,h.get? p=some o→h'.get? p=some o):h'.IsTuple p vs:=by obtain ⟨o,e,c⟩:=ht;exact ⟨o,k o e,c⟩
theorem DI {it p:Addr} {vs:Array Value} (hh:A.handled=none) (hne:it≠p):Draws prog w A it [it,p] vs.size (fun i x=>vs[i]?=some x) (fun i h=>h.IsTupleIter it p i∧h.IsTuple p vs) where
 live:=fun i h st=>by obtain ⟨⟨o,e,_⟩,_⟩:=st;exact ⟨o,e⟩
 frame:=fun i h h' st k=>⟨st.1.at fun o e=>k _ (by simp) o e,nP st.2 fun o e=>k _ (by simp) o e⟩
 item:=fun i s Q E hi st hQ=>by
  refine oF st.1 st.2 (Array.getElem?_eq_getElem hi) fun h' h1 sb=>?_
  exact hQ _ h' s.toks (Array.getElem?_eq_getElem hi) ⟨h1,nP st.2 fun o e=>(sb.2 _ hne.symm).trans e⟩ sb
 done:=fun s Q E st hE=>iT hh st.1 st.2 (by simp) hE
abbrev gR (h:Heap) (q:Addr):Heap:=h.push {cls:=.type "tuple_iterator",data:=.fields #[.ref q,.int 0 0]}
abbrev mY (h:Heap) (q:Addr):Heap:=(gR h q).push {cls:=.type "enumerate",data:=.fields #[.none,.bool false,.ref h.objs.size,rawInt 0,.none,.none]}
theorem BW (q:Addr) (us:Array Value) (m:Nat) (dd:Option Addr) (ss:Array (Option Value)):Meets (Builtin.«enumerate.__new__» ⟨[.type "enumerate",.ref q],[]⟩) (fun _ R s=>s.heap.get? q=some {cls:=.type "tuple",dict:=dd,data:=.seq us m,slots:=ss}∧R (.ok (.ret (.ref (gR s.heap q).objs.size))) {s with heap:=mY s.heap q}):=.of_wp fun prog w A R s h=>by
 obtain ⟨hp,g,d,tk,os⟩:=s;obtain ⟨hq,h⟩:=h;have hsub:=sub_enumerate
 have B1:Heap.IsTuple (Shared.heap ⟨hp,g,d,tk,os⟩) q us:=⟨_,hq,rfl,m,rfl⟩
 wp_walk using AutoSeq1.wpAny_loadPart' hq
 refine wpAny_stack_any fun st=>wpAny_pure ?_;split
 ·rename_i c _ _ _ _ _;cases (c == Value.type "enumerate")<;>(wp_walk using AutoSeq1.wpAny_loadPart' hq,wpAny_pyIter_tuple B1;exact ⟨_,rfl,h⟩)
 ·wp_walk using AutoSeq1.wpAny_loadPart' hq,wpAny_pyIter_tuple B1;exact ⟨_,rfl,h⟩
theorem CM {q:Addr} {us:Array Value} {Q:Value→Shared→Prop} (hL:s.heap.IsTuple q us)
  (k:∀h',IsEnum h' (s.heap.objs.size+1) s.heap.objs.size 0 .none→h'.IsTupleIter s.heap.objs.size q 0→(∀b o,s.heap.get? b=some o→h'.get? b=some o)→Q (.ref (s.heap.objs.size+1)) {s with heap:=h'}):wpAny (model prog w) A (call (.type "enumerate") [.ref q]) Q E s:=by
 obtain ⟨⟨c,dd,dt,ss⟩,hq,hc,m,hd⟩:=hL
 have hc:c=.type "tuple":=hc;have hd:dt=.seq us m:=hd;subst hc;subst hd
 refine callType_new F.called_enumerate (by decide) (F.typeCall_enumerate_1 _) (F.newCall_enumerate_1 _) (fun obj=>F.args_object_init_2 obj _) F.entry_enumerate_new (BW q us m dd ss) ⟨hq,?_⟩
 have y1:(gR s.heap q).objs.size=s.heap.objs.size+1:=Heap.size_push ..
 have g2:(mY s.heap q).get? (gR s.heap q).objs.size=some _:=Heap.get?_push_size _ rfl
 have g1:(mY s.heap q).get? s.heap.objs.size=some _:=Heap.get?_push_of_some _ (Heap.get?_push_size _ rfl)
 show _∧_
 rw [y1] at g2 ⊢
 exact ⟨⟨_,g2,rfl⟩,k _ g2 ⟨_,g1,rfl,rfl⟩ fun b o x=>Heap.get?_push_of_some _ (Heap.get?_push_of_some _ x)⟩
end
def mV (K:PySem.W.Frag) (a:Addr):It :=
 ⟨fun i H=>∃xs x,SqT K H a xs∧xs[i]?=some x,
  fun i H v H'=>∃T x,v=.ref T∧H T=none∧H'=upd H T (.tup [.int (i:Int),x])∧∀xs,SqT K H a xs→xs[i]?=some x,
  fun i H=>∃xs,SqT K H a xs∧xs.length≤i⟩
theorem B5 {P:Program} {w:World} {K:PySem.W.Frag} {elts:List Expr} {x1:Nat} {pos:Pos} {a e it:Addr} (hei:e≠it) (hea:e≠a) (hia:it≠a) :
  Turn P w K (.Tuple elts x1 pos) (mV K a) [e,it] e (fun i h=>(∃old,IsEnum h e it i old)∧h.IsTupleIter it a i) where
 mem:=by simp
 obj:=fun i h st b hb=>by
  obtain ⟨⟨old,he⟩,⟨o1,e1,c1,d1⟩⟩:=st
  simp only [List.mem_cons,List.mem_nil_iff,or_false] at hb
  rcases hb with rfl|rfl
  ·exact ⟨_,he,fun v y=>by have y':Data.fields _=Data.cell v:=y;cases y'⟩
  ·exact ⟨o1,e1,fun v y=>by rw [d1] at y;cases y⟩
 keep:=fun i h h' st k=>by
  obtain ⟨⟨old,he⟩,h1⟩:=st
  exact ⟨⟨old,k _ (by simp) _ he⟩,h1.at fun o e=>k _ (by simp) o e⟩
 item:=by
  intro X hP hw hK hc i pins s σ H E I hf st hg
  subst hP hw hK
  obtain ⟨⟨old,he⟩,h1⟩:=st
  obtain ⟨xs,x,hq1,hx⟩:=hg
  obtain ⟨its1,rv1,p1,_⟩:=I.tuple hq1
  have p1:s.heap.IsTuple a its1.toArray:=p1
  obtain ⟨u,hu,ru⟩:=rv1.get hx
  have hlt:i<its1.toArray.size:=by rw [List.size_toArray];exact (List.getElem?_eq_some_iff.mp hu).1
  refine wpAny_pyNext_enum_itemD (DI (A:=X.A.in1) (I.ok.hd hc) hia) he ⟨h1,p1⟩ hlt hei (by simp [hei,hea]) fun u' h' tk hu' he' st' hT' hsz hk=>?_
  have eu:u'=u:=by
   have e1:its1.toArray[i]?=some u':=hu'
   rw [List.getElem?_toArray,hu] at e1
   exact (Option.some.inj e1).symm
  subst eu
  refine ⟨_,rfl,?_⟩
  refine wpAny_letOwnedTupleGo_enum he' fun h2 he2 hs2=>?_
  have lt:∀{b:Addr} {o:Obj},s.heap.get? b=some o→b<s.heap.objs.size:=fun e=>Heap.lt_size e
  have nT:s.heap.objs.size≠e:=Nat.ne_of_gt (lt he)
  have k2:∀b o,b∉[e,it]→s.heap.get? b=some o→h2.get? b=some o:=fun b o hb q=>by
   simp only [List.mem_cons,List.mem_nil_iff,or_false,not_or] at hb
   exact (hs2.2 b hb.1).trans (hk b o hb.1 hb.2 q)
  have hT2:=(hs2.2 _ nT).trans hT'
  refine ⟨.ref s.heap.objs.size,upd H s.heap.objs.size (.tup [.int (i:Int),x]),I.laidN (t':=tk+1) (fp:=[e,it]) k2 hf (Nat.le_refl _) ⟨(by show 2≤sizeLine;decide),[.int i tk,u'],.cons ⟨_,rfl⟩ (.cons ru .nil),⟨_,hT2,rfl,_,rfl⟩⟩,rfl,?_,?_,?_⟩
  ·exact ⟨_,x,rfl,I.hok.fresh (Nat.le_refl _),rfl,fun zs hzs=>by rw [I.tuple_inj hzs hq1];exact hx⟩
  ·exact ⟨⟨_,he2⟩,st'.1.at fun o q=>(hs2.2 _ hei.symm).trans q⟩
  ·intro b hb
   have:=(hf b hb).1
   rw [kC]
   ·exact this
   ·intro q
    simp only [List.mem_cons,List.mem_nil_iff,or_false] at hb
    obtain ⟨o1,e1,_⟩:=h1
    rcases hb with rfl|rfl
    ·exact nT q.symm
    ·exact Nat.ne_of_lt (lt e1) q
 done:=by
  intro X hP hw hK hc i pins s σ H E I hf st hg
  subst hP hw hK
  obtain ⟨⟨old,he⟩,h1⟩:=st
  obtain ⟨xs,hq1,hx⟩:=hg
  obtain ⟨its1,rv1,p1,_⟩:=I.tuple hq1
  have p1:s.heap.IsTuple a its1.toArray:=p1
  have l1:=rv1.length
  unfold pyNext
  refine wpAny_bind (wpAny_attempt (wpAny_callSpecial?_slot (name:=Str.ofString "__next__") ⟨_,he,rfl⟩ F.slot_enumerate_next (wpAny_call_entry F.slot_enumerate_next ⟨_,he,rfl⟩ F.entry_enumerate_next ?_ (F.args_enumerate_next_1 _))))
  show wpAny _ _ (field (.ref e) 2 >>= _) _ _ _
  refine wpAny_bind (wpAny_field he rfl (x:=.ref it) rfl ?_)
  refine wpAny_bind (iT (A:=X.A.in1) (I.ok.hd hc) h1 p1 (by simp;omega) fun h' z hk hz=>?_)
  obtain ⟨oz,ez,cz⟩:=hz
  refine wpAny_bind (wpAny_isInstance (T:="StopIteration") (b:=true) ⟨oz,ez,cz⟩ isSubtype_stop ?_)
  refine wpAny_pure ⟨rfl,I.turnedN (t':=s.toks) (fp:=[e,it]) (fun b o hb q=>?_) hf⟩
  simp only [List.mem_cons,List.mem_nil_iff,or_false,not_or] at hb
  exact hk b o hb.2 q
 self:=fun _ _ _ _ _ st h=>by obtain ⟨⟨old,he⟩,_⟩:=st;exact wpAny_pyIter_enum he h
section
variable {X:Cx} {elts:List Expr} {x1:Nat} {tpos:Pos}
def GL (K:PySem.W.Frag) (ta:TA):TI:=fun σ H R=>ta σ H fun vs H1=>∃a,vs=[.ref a]∧(∃xs,SqT K H1 a xs)∧R (mV K a) H1
theorem D7 {a:Expr} {ta:TA} {p pos:Pos} (hg:Gl X "enumerate") (hm:X.mg "enumerate"=none) (ha:PA X [a] ta) (hs:starEach [a] X.env=[(false,eval a X.env)]:=by rfl) :
  PI X (.Tuple elts x1 tpos) (.Call (.Name "enumerate" p) [a] [] pos) (GL X.K ta):=by
 intro pins s σ H R I h
 refine Call_ (Q4 I hg hm boot_enumerate (PyProof.Rows.callWith_type1 (jW (ha pos pins s σ H _ I h) fun us s1 ⟨vs,H1,I1,r1,q1⟩=>?_) hs rfl))
 obtain ⟨a1,e,⟨xs,hq1⟩,q⟩:=q1
 subst e
 cases r1 with
 |cons r rr =>
  cases rr
  cases r
  obtain ⟨its1,rv1,p1,_⟩:=I1.tuple hq1
  have p1:s1.heap.IsTuple a1 its1.toArray:=p1
  have lt1:a1<s1.heap.objs.size:=by obtain ⟨o,e,_⟩:=p1;exact Heap.lt_size e
  refine CM p1 fun h' he hit hk=>?_
  refine wpAny_pyIter_enum he ?_
  refine ⟨_,_,_,_,H1,rfl,I1.kept (t':=s1.toks) hk,B5 (Nat.succ_ne_self _) (by intro z;simp only [Addr] at *;omega) (by intro z;simp only [Addr] at *;omega),⟨⟨_,he⟩,hit⟩,fun b hb=>?_,q⟩
  simp only [List.mem_cons,List.mem_nil_iff,or_false] at hb
  have hb':s1.heap.objs.size≤b:=by rcases hb with rfl|rfl<;>simp only [Addr] at *<;>omega
  exact I1.fpOk hb' (I1.hok.fresh hb')
theorem BS {K:PySem.W.Frag} {a D:Addr} {xs:List V} {g:TG} {tc:TT} {te:TE} {σ₀:St} {H:Hp} {Q:Hp→Prop} (Pv:Nat→St→Hp→Prop) (h0:Pv 0 σ₀ (upd H D (.lst []))) (hl:∀i σ H,i≤xs.length→Pv i σ H→SqT K H a xs)
  (hs:∀i x σ H T,xs[i]?=some x→Pv i σ H→H T=none→g (.ref T) σ (upd H T (.tup [.int (i:Int),x])) fun σ2 H3=>tc σ2 H3 fun b H4=>if b=true then te σ2 H4 fun v H5=>∃zs,H5 D=some (.lst zs)∧zs.length<sizeLine∧Pv (i+1) σ2 (upd H5 D (.lst (zs++[v]))) else Pv (i+1) σ2 H4)
  (hd:∀σ H,Pv xs.length σ H→Q H):zQ D (mV K a) g tc te σ₀ H Q:=by
 refine ⟨fun i m σ H=>m=xs.length - i∧i≤xs.length∧Pv i σ H,⟨xs.length,by simp,Nat.zero_le _,h0⟩,?_⟩
 rintro i m σ H ⟨rfl,hi,p⟩
 have q1:=hl i σ H hi p
 by_cases hlt:i<xs.length
 ·refine .inr ⟨⟨xs,_,q1,List.getElem?_eq_getElem hlt⟩,Pv (i+1),fun σ' H' p'=>⟨xs.length - (i+1),by omega,rfl,hlt,p'⟩,fun v H' hy=>?_⟩
  obtain ⟨T,x,rfl,hT,rfl,e1⟩:=hy
  exact hs i x σ H T (e1 xs q1) p hT
 ·exact .inl ⟨⟨xs,q1,by omega⟩,hd σ H (by rw [show xs.length=i by omega];exact p)⟩
end
end L2
namespace L2
open PySem PySem.Spec PyProof.Rows
section
variable {X:Cx}
def G2 (K:PySem.W.Frag):R2:=fun x y H Q=>∃(a b:Addr) (xs ys:List V) (es:List Bool),x=.ref a∧y=.ref b∧SqT K H a xs∧SqT K H b ys∧xs.length=ys.length∧es.length=xs.length∧(∀j,j<xs.length→DEq K H (xs.getD j .non) (ys.getD j .non) (es.getD j true))∧Q (.bl (es.all id)) H
theorem E5 (hu:X.A.units+1<cLine):qQ X (compareOp .Eq) (G2 X.K):=by
 intro pins s σ H x y v u Q I rx ry h
 obtain ⟨a,b,xs,ys,es,rfl,rfl,ha,hb,hlen,hes,hd,q⟩:=h
 cases rx
 cases ry
 obtain ⟨its,r,pl,hz⟩:=I.tuple ha
 obtain ⟨its2,r2,pl2,hz2⟩:=I.tuple hb
 have hl:=r.length
 have hl2:=r2.length
 refine SeqAt.eq_tupleAt (e:=fun j=>es.getD j true) pl pl2 (by omega) (fun j h1 h2=>?_) ⟨.bl _,H,I,rfl,?_⟩
 ·exact (hd j (by rw [hl];simpa using h1)).at I (zK r h1) (zK r2 h2) hu
 ·have e:((List.range (min its.toArray.size its2.toArray.size)).all (fun j=>es.getD j true)&&its.toArray.size == its2.toArray.size)=es.all id:=by
   rw [List.size_toArray,List.size_toArray,← hl,← hl2,← hlen,Nat.min_self,beq_self_eq_true,Bool.and_true,← hes,BL]
  rw [e]
  exact q
end
end L2
namespace L2
open PySem PySem.Spec PyProof.Rows
theorem j4 {K:PySem.W.Frag} {H:Hp} {p:Addr} {xs:List V} {i:Int} {v:V} {P:V→Prop} (h:SqL K H p xs) (t:qC xs i=some v) (q:P v):∃p' xs' i' v',V.ref p=.ref p'∧V.int i=.int i'∧SqL K H p' xs'∧qC xs' i'=some v'∧P v':=⟨p,xs,i,v,rfl,rfl,h,t,q⟩
theorem jL {K:PySem.W.Frag} {H:Hp} {p:Addr} {xs:List V} {i:Int} {v:V} {P:V→Prop} (h:SqT K H p xs) (t:qC xs i=some v) (q:P v):∃p' xs' i' v',V.ref p=.ref p'∧V.int i=.int i'∧SqT K H p' xs'∧qC xs' i'=some v'∧P v':=⟨p,xs,i,v,rfl,rfl,h,t,q⟩
theorem jT {K:PySem.W.Frag} {H:Hp} {a C dx:Addr} {fs:List (Str×V)} {v:V} {f:Str} {P:V→Prop} (h:H a=some (.ins C dx fs)) (c:Cls K C) (n:NoAttr K C f) (l:fs.lookup f=some v) (q:P v):∃a' C' dx' fs' v',V.ref a=.ref a'∧H a'=some (.ins C' dx' fs')∧Cls K C'∧NoAttr K C' f∧fs'.lookup f=some v'∧P v':=⟨a,C,dx,fs,v,rfl,h,c,n,l,q⟩
theorem jP {P:Int→Int→Prop} {i j:Int} (h:P i j):∃a b,V.int i=V.int a∧V.int j=V.int b∧P a b:=⟨i,j,rfl,rfl,h⟩
end L2
namespace L2
open PySem PySem.Spec PyProof.Rows
section
variable {X:Cx}
end
end L2
namespace My
open PySem L2
theorem zz0:0≤sizeLine:=by decide
theorem zz1:1≤sizeLine:=by decide
theorem zz2:2≤sizeLine:=by decide
theorem zz3:3≤sizeLine:=by decide
theorem zz4:4≤sizeLine:=by decide
theorem zz8:8≤sizeLine:=by decide
def top (i:Nat):Stmt:=PySem.Challenge.pw_lockhouse_k46_a_deed_done.main.body.getD i (.Pass ⟨0,0,0,0⟩)
abbrev bR:Stmt:=top 15
abbrev bO:Stmt:=top 17
abbrev bK:Stmt:=top 22
abbrev bU:Stmt:=top 21
abbrev QR:Stmt:=top 19
abbrev bZ:Stmt:=top 20
abbrev QQ:Stmt:=top 48
abbrev ZO:Stmt:=qW (top 49) 0
abbrev ZE:Stmt:=qW (top 50) 0
abbrev ZT:Stmt:=qW (top 51) 0
abbrev ZX:Stmt:=qW (top 45) 0
abbrev ZR:Stmt:=qW (top 49) 3
abbrev ZH:Stmt:=qW (top 50) 3
abbrev ZW:Stmt:=qW (top 51) 2
abbrev ZP:Stmt:=qW (top 49) 4
abbrev ZF:Stmt:=qW (top 50) 4
abbrev ZU:Stmt:=qW (top 51) 3
abbrev ZQ:Stmt:=qW (top 49) 1
abbrev ZG:Stmt:=qW (top 50) 1
abbrev ZV:Stmt:=qW (top 51) 1
abbrev ZS:Stmt:=qW (top 49) 2
abbrev ZI:Stmt:=qW (top 50) 2
abbrev QG:Stmt:=qW (top 46) 0
abbrev ZM:Stmt:=qW (top 46) 6
abbrev ZN:Stmt:=qW (top 46) 7
abbrev ZK:Stmt:=qW (top 46) 4
abbrev ZJ:Stmt:=qW (top 46) 5
abbrev QH:Stmt:=qW (top 46) 8
abbrev ZL:Stmt:=qW (top 46) 10
abbrev QL:Stmt:=top 26
abbrev QN:Stmt:=top 27
abbrev QM:Stmt:=top 30
abbrev QJ:Stmt:=top 29
abbrev bQ:Stmt:=top 28
abbrev bV:Stmt:=top 8
abbrev bM:Stmt:=top 7
abbrev bW:Stmt:=top 12
abbrev bT:Stmt:=top 9
abbrev QO:Stmt:=top 10
abbrev zW:Stmt:=top 24
abbrev bI:Stmt:=top 11
abbrev bN:Stmt:=top 13
abbrev QP:Stmt:=top 42
abbrev bG:Stmt:=top 41
abbrev QK:Stmt:=top 38
abbrev bP:Stmt:=top 36
abbrev bL:Stmt:=top 37
abbrev bJ:Stmt:=top 35
abbrev bH:Stmt:=top 34
abbrev bX:Stmt:=top 33
abbrev bY:Stmt:=top 32
abbrev bS:Stmt:=top 39
abbrev bF:Stmt:=top 40
abbrev bC:Stmt:=top 53
abbrev ZZ:Stmt:=top 54
abbrev Z9:Stmt:=top 55
abbrev Z5:Stmt:=top 56
abbrev Z3:Stmt:=top 57
abbrev bB:Stmt:=top 58
abbrev zU:Stmt:=top 59
abbrev Z8:Stmt:=top 60
abbrev bA:Stmt:=top 61
abbrev JR:Stmt:=top 62
abbrev Z0:Stmt:=top 63
abbrev Z2:Stmt:=top 64
abbrev yY:Stmt:=top 65
abbrev bE:Stmt:=top 66
abbrev Z6:Stmt:=top 67
abbrev QI:Stmt:=top 68
abbrev bD:Stmt:=top 69
abbrev JQ:Stmt:=top 70
abbrev zV:Stmt:=top 71
abbrev Z4:Stmt:=top 73
abbrev Z1:Stmt:=top 72
abbrev Z7:Stmt:=top 74
abbrev ZY:Stmt:=top 75
abbrev zF:Stmt:=top 76
theorem mE {K:W.Frag} {H H':Hp} {a:Addr} {xs:List V} (e:Same H H') (h:SqT K H a xs):SqT K H' a xs:=by
 rcases h with (h|⟨o,h⟩)|h
 ·exact .inl (.inl (e _ _ h))
 ·exact .inl (.inr ⟨o,e _ _ h⟩)
 ·exact .inr h
theorem jK {H:Hp} {p:Addr} (h:H p=none) (o:HO):Same H (upd H p o):=fun b u q=>by rw [kC (qI q h)];exact q
theorem small {n:Nat} (h:n≤1000):n≤sizeLine:=Nat.le_of_lt (qM h)
def Ints (K:W.Frag) (H:Hp) (a:Addr) (ws:List Int):Prop:=SqL K H a (ws.map V.int)∨SqT K H a (ws.map V.int)
theorem Ints.same {K:W.Frag} {H H':Hp} {a:Addr} {ws:List Int} (e:Same H H') (h:Ints K H a ws):Ints K H' a ws:=by
 rcases h with h|h
 ·exact .inl (e.seq h)
 ·exact .inr (mE e h)
theorem y9 {n s:Nat} (h:s<n):yL n (s:Int)=some s:=by
 unfold yL
 rw [if_pos (by omega),if_pos (by omega)]
 simp
theorem qD {ws:List Int} {s:Nat} (h:s<ws.length):qC (ws.map V.int) (s:Int)=some (.int (ws.getD s 0)):=by
 refine kE ?_
 rw [List.getElem?_map,List.getElem?_eq_getElem h,List.getD_eq_getElem?_getD,List.getElem?_eq_getElem h]
 rfl
theorem DX {K:W.Frag} {H:Hp} {p:Addr} {ws:List Int} {s:Nat} {Q:VK} (h:Ints K H p ws) (hs:s<ws.length) (q:Q (.int (ws.getD s 0)) H):uJ K (.ref p) (.int s) H Q:=by
 rcases h with h|h
 ·exact .inl ⟨p,_,s,_,rfl,rfl,h,qD hs,q⟩
 ·exact .inr (.inl ⟨p,_,s,_,rfl,rfl,h,qD hs,q⟩)
theorem zI (ws:List Int) (s:Nat) (z:Int):(ws.map V.int).set s (V.int z)=(ws.set s z).map V.int:=by rw [List.map_set]
theorem rG {ms:List Int} {i:Nat} {x:V} (h:(ms.map V.int)[i]?=some x):∃z,x=V.int z∧ms[i]?=some z:=by
 rw [List.getElem?_map] at h
 cases e:ms[i]? with
 |none=>rw [e] at h;cases h
 |some z=>rw [e] at h;exact ⟨z,(Option.some.inj h).symm,rfl⟩
theorem dR (ms:List Int) (z:Int):ms.map V.int++[V.int z]=(ms++[z]).map V.int:=by simp
theorem C0 {a b:Int} (h:0<b):∃k:Nat,a%b=(k:Int)∧(k:Int)<b:=by
 have h1:=Int.emod_nonneg a (by omega:b≠0)
 have h2:=Int.emod_lt_of_pos a h
 exact ⟨(a%b).toNat,by omega,by omega⟩
def lE:Sp:=fun vs H Q _=>∃i:Int,vs=[.int i]∧Q (.bl true) H
def gC (K:W.Frag):Sp:=fun vs H Q _=>∃(a:Addr) (ns:List Int),vs=[.ref a]∧SqL K H a (ns.map V.int)∧ns.length≤63∧∀H',Q (.bl true) H'
def pour (ws:List Int) (q:Nat×Nat×Int):List Int:=((ws.set q.1 (ws.getD q.1 0 - q.2.2))).set q.2.1 ((ws.set q.1 (ws.getD q.1 0 - q.2.2)).getD q.2.1 0+q.2.2)
theorem dP (ws:List Int) (q:Nat×Nat×Int):(pour ws q).length=ws.length:=by unfold pour;rw [List.length_set,List.length_set]
def j9 (ws:List Int) (qs:List (Nat×Nat×Int)):List Int:=qs.foldl pour ws
theorem y0 (qs:List (Nat×Nat×Int)):∀ws:List Int,(j9 ws qs).length=ws.length:=by
 induction qs with
 |nil=>intro ws;rfl
 |cons q r ih=>intro ws;show (j9 (pour ws q) r).length=_;rw [ih,dP]
theorem nM (ws:List Int) (qs:List (Nat×Nat×Int)) (q:Nat×Nat×Int):j9 ws (qs++[q])=pour (j9 ws qs) q:=by
 unfold j9;rw [List.foldl_append];rfl
theorem dN (ws:List Int) (qs:List (Nat×Nat×Int)) (i:Nat) (q:Nat×Nat×Int) (h:qs[i]?=some q):j9 ws (qs.take (i+1))=pour (j9 ws (qs.take i)) q:=by
 rw [List.take_add_one,h];exact nM ..
def sY (K:W.Frag) (H:Hp) (rs:List V) (qs:List (Nat×Nat×Int)) (n:Nat):Prop :=
 rs.length=qs.length∧∀(i:Nat) (r:V),rs[i]?=some r→∃(a:Addr) (s t:Nat) (m:Int),r=.ref a∧qs[i]?=some (s,t,m)∧SqT K H a [.int s,.int t,.int m]∧s<n∧t<n
def gD (K:W.Frag):Sp:=fun vs H Q _=>∃(w p:Addr) (ws:List Int) (rs:List V) (qs:List (Nat×Nat×Int)),vs=[.ref w,.ref p]∧Ints K H w ws∧SqL K H p rs∧sY K H rs qs ws.length∧ws.length≤1000∧
 ∀(r:Addr) (H':Hp),Same H H'→H r=none→H' r=some (.tup ((j9 ws qs).map V.int))→Q (.ref r) H'
def Keep (d:Addr) (H H':Hp):Prop:=∀b o,b≠d→H b=some o→H' b=some o
theorem Keep.refl (d:Addr) (H:Hp):Keep d H H:=fun _ _ _ q=>q
theorem Keep.of {d:Addr} {H H':Hp} (s:Same H H'):Keep d H H':=fun b o _ q=>s b o q
theorem Keep.trans {d:Addr} {H H1 H2:Hp} (a:Keep d H H1) (b:Keep d H1 H2):Keep d H H2:=fun c o n q=>b c o n (a c o n q)
theorem Keep.upd {d:Addr} {H H':Hp} (k:Keep d H H') (o:HO):Keep d H (upd H' d o):=fun b u n q=>by rw [kC n];exact k b u n q
theorem Keep.sqt {K:W.Frag} {d a:Addr} {H H':Hp} {xs:List V} {ys:List V} (k:Keep d H H') (hd:H d=some (.lst ys)) (h:SqT K H a xs):SqT K H' a xs:=by
 rcases h with (h|⟨o,h⟩)|h
 ·exact .inl (.inl (k _ _ (zS h hd (fun z=>nomatch z)) h))
 ·exact .inl (.inr ⟨o,k _ _ (zS h hd (fun z=>nomatch z)) h⟩)
 ·exact .inr h
def vP (n h l r:V):List (Str×V):=j0 "room" r (j0 "low" l (j0 "high" h (j0 "name" n [])))
theorem G6:¬(("name":Str)="high"):=by decide +kernel
theorem G5:¬(("name":Str)="low"):=by decide +kernel
theorem G4:¬(("name":Str)="room"):=by decide +kernel
theorem HC:¬(("high":Str)="low"):=by decide +kernel
theorem HB:¬(("high":Str)="room"):=by decide +kernel
theorem HA:¬(("low":Str)="room"):=by decide +kernel
theorem FA (n h l r:V):(vP n h l r).lookup ("name":Str)=some n:=by
 unfold vP
 rw [vC,if_neg G4,vC,if_neg G5,vC,if_neg G6,vC,if_pos rfl]
theorem FB (n h l r:V):(vP n h l r).lookup ("high":Str)=some h:=by
 unfold vP
 rw [vC,if_neg HB,vC,if_neg HC,vC,if_pos rfl]
theorem GE (n h l r:V):(vP n h l r).lookup ("low":Str)=some l:=by
 unfold vP
 rw [vC,if_neg HA,vC,if_pos rfl]
theorem E9 (n h l r:V):(vP n h l r).lookup ("room":Str)=some r:=by
 unfold vP
 rw [vC,if_pos rfl]
theorem gF (n h l r:V) {m:Str} (h1:¬m="room") (h2:¬m="low") (h3:¬m="high") (h4:¬m="name"):(vP n h l r).lookup m=none:=by
 unfold vP
 rw [vC,if_neg h1,vC,if_neg h2,vC,if_neg h3,vC,if_neg h4]
 rfl
def PartsAt (H:Hp) (rs:List V) (ps:List (Str×Int)):Prop:=rs.length=ps.length∧∀(i:Nat) (r:V),rs[i]?=some r→∃(a:Addr) (s:Str) (n:Int),r=.ref a∧ps[i]?=some (s,n)∧H a=some (.tup [.str s,.int n])
theorem PartsAt.nil {H:Hp}:PartsAt H [] []:=⟨rfl,fun i r hi=>by cases hi⟩
theorem PartsAt.keep {H H':Hp} {d:Addr} {ys rs:List V} {ps:List (Str×Int)} (k:Keep d H H') (hd:H d=some (.lst ys)) (h:PartsAt H rs ps):PartsAt H' rs ps:=by
 refine ⟨h.1,fun i r hi=>?_⟩
 obtain ⟨a,s,n,h1,h2,h3⟩:=h.2 i r hi
 exact ⟨a,s,n,h1,h2,k _ _ (zS h3 hd (fun z=>nomatch z)) h3⟩
theorem PartsAt.snoc {H:Hp} {rs:List V} {ps:List (Str×Int)} {s:Str} {n:Int} {a:Addr} (h:PartsAt H rs ps) (ht:H a=some (.tup [.str s,.int n])):PartsAt H (rs++[.ref a]) (ps++[(s,n)]):=by
 refine ⟨by rw [List.length_append,List.length_append,h.1];rfl,fun i r hi=>?_⟩
 by_cases hl:i<rs.length
 ·rw [List.getElem?_append_left hl] at hi
  obtain ⟨b,s',n',h1,h2,h3⟩:=h.2 i r hi
  exact ⟨b,s',n',h1,by rw [List.getElem?_append_left (by rw [← h.1];exact hl)];exact h2,h3⟩
 ·rw [List.getElem?_append_right (by omega)] at hi
  have hz:i - rs.length=0:=by
   have:=(List.getElem?_eq_some_iff.mp hi).1
   rw [List.length_singleton] at this
   omega
  rw [hz] at hi
  have e:V.ref a=r:=Option.some.inj hi
  refine ⟨a,s,n,e.symm,?_,ht⟩
  rw [List.getElem?_append_right (by rw [← h.1];omega),← h.1,hz]
  rfl
def qN (q:Str×Int):Bool := !decide (q.2=0)
def dA (K:W.Frag):Sp:=fun vs H Q _=>∃(p:Addr) (rs:List V) (ps:List (Str×Int)),vs=[.ref p]∧SqL K H p rs∧PartsAt H rs ps∧rs.length≤10∧
 ∀(r:Addr) (H':Hp) (rs':List V),Same H H'→H r=none→H' r=some (.lst rs')→PartsAt H' rs' (ps.filter qN)→Q (.ref r) H'
def cZ (e:Str) (n h l r v:V):List (Str×V):=j0 e v (vP n h l r)
theorem eA (e:Str) (n h l r v:V):(cZ e n h l r v).lookup e=some v:=by
 unfold cZ
 rw [vC,if_pos rfl]
theorem rR {e m:Str} (ne:¬m=e) (n h l r v:V):(cZ e n h l r v).lookup m=(vP n h l r).lookup m:=by
 unfold cZ
 rw [vC,if_neg ne]
theorem oG (n h l r:V):(vP n h l r).length<1000:=by
 have h1:=zJ "high" h (j0 "name" n [])
 have h2:=zJ "low" l (j0 "high" h (j0 "name" n []))
 have h3:=zJ "room" r (j0 "low" l (j0 "high" h (j0 "name" n [])))
 have h4:(j0 ("name":Str) n []).length=1:=rfl
 unfold vP
 omega
def wv (b:Bool):V:=if b then .str "up" else .str "down"
theorem GP:¬(V.str "down"=V.str "up"):=fun h=>absurd (V.str.inj h) (by decide +kernel)
def jG (cP cB cU:Addr):Kd→Addr
 |.plain=>cP
 |.basin=>cB
 |.pump=>cU
def zB (kd:Kd) (n h l r v:V):List (Str×V):=match kd with
 |.plain=>vP n h l r
 |.basin=>cZ "side" n h l r v
 |.pump=>cZ "lift" n h l r v
theorem J4 (kd:Kd) (n h l r v:V) {m:Str} (h1:¬m="side") (h2:¬m="lift"):(zB kd n h l r v).lookup m=(vP n h l r).lookup m:=by
 cases kd
 ·rfl
 ·exact rR h1 _ _ _ _ _
 ·exact rR h2 _ _ _ _ _
theorem FG (kd:Kd) (n h l r v:V):(zB kd n h l r v).lookup ("name":Str)=some n:=by rw [J4 kd _ _ _ _ _ (by decide +kernel) (by decide +kernel)];exact FA ..
theorem JW (kd:Kd) (n h l r v:V):(zB kd n h l r v).lookup ("high":Str)=some h:=by rw [J4 kd _ _ _ _ _ (by decide +kernel) (by decide +kernel)];exact FB ..
theorem J5 (kd:Kd) (n h l r v:V):(zB kd n h l r v).lookup ("low":Str)=some l:=by rw [J4 kd _ _ _ _ _ (by decide +kernel) (by decide +kernel)];exact GE ..
theorem yO (kd:Kd) (n h l r v:V):(zB kd n h l r v).lookup ("room":Str)=some r:=by rw [J4 kd _ _ _ _ _ (by decide +kernel) (by decide +kernel)];exact E9 ..
theorem FH (kd:Kd) (n h l r v:V):(zB kd n h l r v).lookup ("fill_parts":Str)=none:=by rw [J4 kd _ _ _ _ _ (by decide +kernel) (by decide +kernel)];exact gF _ _ _ _ (by decide +kernel) (by decide +kernel) (by decide +kernel) (by decide +kernel)
theorem GM (kd:Kd) (n h l r v:V):(zB kd n h l r v).lookup ("let_parts":Str)=none:=by rw [J4 kd _ _ _ _ _ (by decide +kernel) (by decide +kernel)];exact gF _ _ _ _ (by decide +kernel) (by decide +kernel) (by decide +kernel) (by decide +kernel)
theorem JF (kd:Kd) (n h l r v:V):(zB kd n h l r v).lookup ("kind":Str)=none:=by rw [J4 kd _ _ _ _ _ (by decide +kernel) (by decide +kernel)];exact gF _ _ _ _ (by decide +kernel) (by decide +kernel) (by decide +kernel) (by decide +kernel)
theorem cL (kd:Kd) (n h l r v:V):(zB kd n h l r v).lookup ("extra":Str)=none:=by rw [J4 kd _ _ _ _ _ (by decide +kernel) (by decide +kernel)];exact gF _ _ _ _ (by decide +kernel) (by decide +kernel) (by decide +kernel) (by decide +kernel)
def LockAt (cs:Kd→Addr) (H:Hp) (x:Addr) (kd:Kd) (n h l:V) (room v:Int):Prop:=∃dx:Addr,H x=some (.ins (cs kd) dx (zB kd n h l (.int room) (.int v)))
theorem LockAt.same {cs:Kd→Addr} {H H':Hp} {x:Addr} {kd:Kd} {n h l:V} {room v:Int} (e:Same H H') (a:LockAt cs H x kd n h l room v):LockAt cs H' x kd n h l room v:=by
 obtain ⟨dx,a⟩:=a
 exact ⟨dx,e _ _ a⟩
def yI (kd:Kd) (room v b:Int):List (Str×Int):=match kd with
 |.plain=>([("high",room)]:List (Str×Int)).filter qN
 |.basin=>([("basin",b),("high",room - b)]:List (Str×Int)).filter qN
 |.pump=>([("low",v),("high",room - v)]:List (Str×Int)).filter qN
def yE (kd:Kd) (room v b:Int):List (Str×Int):=match kd with
 |.basin=>([("basin",v - b),("low",room - (v - b))]:List (Str×Int)).filter qN
 |_=>([("low",room)]:List (Str×Int)).filter qN
theorem pD (kd:Kd) (room v b:Int):(yI kd room v b).length≤2:=by
 cases kd
 ·exact Nat.le_trans (List.length_filter_le _ _) (by show 1≤2;decide)
 ·exact Nat.le_trans (List.length_filter_le _ _) (by show 2≤2;decide)
 ·exact Nat.le_trans (List.length_filter_le _ _) (by show 2≤2;decide)
theorem rF (kd:Kd) (room v b:Int):(yE kd room v b).length≤2:=by
 cases kd
 ·exact Nat.le_trans (List.length_filter_le _ _) (by show 1≤2;decide)
 ·exact Nat.le_trans (List.length_filter_le _ _) (by show 2≤2;decide)
 ·exact Nat.le_trans (List.length_filter_le _ _) (by show 1≤2;decide)
def vT (cs:Kd→Addr) (F:Kd→Int→Int→Int→List (Str×Int)) (kd:Kd):Sp:=fun vs H Q _=>∃(x:Addr) (n h l:V) (room v b:Int),vs=[.ref x,.int b]∧LockAt cs H x kd n h l room v∧
 ∀(r:Addr) (H':Hp) (rs:List V),Same H H'→H r=none→H' r=some (.lst rs)→PartsAt H' rs (F kd room v b)→Q (.ref r) H'
def EV (cs:Kd→Addr):Sp:=fun vs H Q _=>∃(kd:Kd) (x:Addr) (n h l:V) (room v b:Int),vs=[.ref x,.int b]∧LockAt cs H x kd n h l room v∧
 ∀(r:Addr) (H':Hp) (rs:List V),Same H H'→H r=none→H' r=some (.lst rs)→PartsAt H' rs (([("low",room)]:List (Str×Int)).filter qN)→Q (.ref r) H'
def cQ (cs:Kd→Addr):Sp:=fun vs H Q _=>∃(kd:Kd) (x dx:Addr) (n h l r:V),vs=[.ref x,n,h,l,r]∧H x=some (.ins (cs kd) dx [])∧∀H':Hp,Keep x H H'→H' x=some (.ins (cs kd) dx (vP n h l r))→Q .non H'
def cO (cs:Kd→Addr) (kd:Kd):Sp:=fun vs H Q _=>∃(x dx:Addr) (n h l r v:V),vs=[.ref x,n,h,l,r,v]∧H x=some (.ins (cs kd) dx [])∧∀H':Hp,Keep x H H'→H' x=some (.ins (cs kd) dx (zB kd n h l r v))→Q .non H'
def vE (cs:Kd→Addr) (F:Kd→Int→V) (kd:Kd):Sp:=fun vs H Q _=>∃(x:Addr) (n h l:V) (room v:Int),vs=[.ref x]∧LockAt cs H x kd n h l room v∧Q (F kd v) H
def PoursS (H:Hp) (rs:List V) (ps:List (Str×Str×Int)):Prop:=rs.length=ps.length∧∀(i:Nat) (r:V),rs[i]?=some r→∃(a:Addr) (s t:Str) (n:Int),r=.ref a∧ps[i]?=some (s,t,n)∧H a=some (.tup [.str s,.str t,.int n])
theorem PoursS.nil {H:Hp}:PoursS H [] []:=⟨rfl,fun i r hi=>by cases hi⟩
theorem PoursS.same {H H':Hp} {rs:List V} {ps:List (Str×Str×Int)} (e:Same H H') (h:PoursS H rs ps):PoursS H' rs ps:=by
 refine ⟨h.1,fun i r hi=>?_⟩
 obtain ⟨a,s,t,n,h1,h2,h3⟩:=h.2 i r hi
 exact ⟨a,s,t,n,h1,h2,e _ _ h3⟩
theorem PoursS.keep {H H':Hp} {d:Addr} {ys rs:List V} {ps:List (Str×Str×Int)} (k:Keep d H H') (hd:H d=some (.lst ys)) (h:PoursS H rs ps):PoursS H' rs ps:=by
 refine ⟨h.1,fun i r hi=>?_⟩
 obtain ⟨a,s,t,n,h1,h2,h3⟩:=h.2 i r hi
 exact ⟨a,s,t,n,h1,h2,k _ _ (zS h3 hd (fun z=>nomatch z)) h3⟩
theorem PoursS.append {H:Hp} {rs rs':List V} {ps ps':List (Str×Str×Int)} (h:PoursS H rs ps) (h':PoursS H rs' ps'):PoursS H (rs++rs') (ps++ps'):=by
 refine ⟨by rw [List.length_append,List.length_append,h.1,h'.1],fun i r hi=>?_⟩
 by_cases hl:i<rs.length
 ·rw [List.getElem?_append_left hl] at hi
  obtain ⟨b,s',t',n',h1,h2,h3⟩:=h.2 i r hi
  exact ⟨b,s',t',n',h1,by rw [List.getElem?_append_left (by rw [← h.1];exact hl)];exact h2,h3⟩
 ·rw [List.getElem?_append_right (by omega)] at hi
  obtain ⟨b,s',t',n',h1,h2,h3⟩:=h'.2 _ r hi
  exact ⟨b,s',t',n',h1,by rw [List.getElem?_append_right (by rw [← h.1];omega),← h.1];exact h2,h3⟩
theorem PoursS.one {H:Hp} {s t:Str} {n:Int} {a:Addr} (ht:H a=some (.tup [.str s,.str t,.int n])):PoursS H [.ref a] [(s,t,n)]:=by
 refine ⟨rfl,fun i r hi=>?_⟩
 cases i with
 |zero=>exact ⟨a,s,t,n,(Option.some.inj hi).symm,rfl,ht⟩
 |succ i=>cases hi
def qP (kd:Kd) (room v b:Int):List (Str×Str×Int):=(yI kd room v b).map fun p=>(p.1,"chamber",p.2)
def qH (kd:Kd) (room v b:Int):List (Str×Str×Int):=(yE kd room v b).map fun p=>("chamber",p.1,p.2)
theorem dS (kd:Kd) (room v b:Int):(qP kd room v b).length≤2:=by unfold qP;rw [List.length_map];exact pD ..
theorem QY (kd:Kd) (room v b:Int):(qH kd room v b).length≤2:=by unfold qH;rw [List.length_map];exact rF ..
def vM (p:Str×Str×Int→Bool) (qs:List (Str×Str×Int)):List Int:=(qs.filter p).map (·.2.2)
theorem oO (p:Str×Str×Int→Bool) (qs:List (Str×Str×Int)) (i:Nat) (q:Str×Str×Int) (h:qs[i]?=some q):vM p (qs.take (i+1))=vM p (qs.take i)++(if p q=true then [q.2.2] else []):=by
 unfold vM
 rw [List.take_add_one,h]
 simp only [Option.toList,List.filter_append,List.map_append]
 by_cases c:p q=true
 ·rw [if_pos c];simp [c]
 ·rw [if_neg c];simp [c]
theorem pM (p:Str×Str×Int→Bool) (qs:List (Str×Str×Int)) (i:Nat):(vM p (qs.take i)).length≤i:=by
 unfold vM
 rw [List.length_map]
 exact Nat.le_trans (List.length_filter_le _ _) (List.length_take_le _ _)
def zE (s:Str) (q:Str×Str×Int):Bool:=decide (q.1=s)
def toS (s:Str) (q:Str×Str×Int):Bool:=decide (q.2.1=s)
def fZ (s:Str) (qs:List (Str×Str×Int)):Int:=(vM (zE s) qs).sum
def vL (b:Int) (qs:List (Str×Str×Int)):Int:=b+(vM (toS "basin") qs).sum - fZ "basin" qs
theorem rM (s t:Str):decide (V.str s=V.str t)=decide (s=t):=decide_eq_decide.mpr ⟨V.str.inj,fun e=>by rw [e]⟩
def dW (cs:Kd→Addr) (F:Kd→Int→Int→Int→List (Str×Str×Int)):Sp:=fun vs H Q _=>∃(x:Addr) (kd:Kd) (n h l:V) (room v b:Int),vs=[.ref x,.int b]∧LockAt cs H x kd n h l room v∧
 ∀(r:Addr) (H':Hp) (rs:List V),Same H H'→H r=none→H' r=some (.lst rs)→PoursS H' rs (F kd room v b)→Q (.ref r) H'
def r9:Sp:=fun vs H Q _=>∃(s:Str) (p:Addr) (rs:List V) (qs:List (Str×Str×Int)),vs=[.str s,.ref p]∧H p=some (.lst rs)∧PoursS H rs qs∧rs.length≤999∧∀H',Same H H'→Q (.int (fZ s qs)) H'
def sI:Sp:=fun vs H Q _=>∃(b:Int) (p:Addr) (rs:List V) (qs:List (Str×Str×Int)),vs=[.int b,.ref p]∧H p=some (.lst rs)∧PoursS H rs qs∧rs.length≤999∧∀H',Same H H'→Q (.int (vL b qs)) H'
def eN (kd:Kd) (room v:Int) (f:Bool) (b:Int) (w:Bool):List (Str×Str×Int):=match w,f with
 |true,true=>qH kd room v b++qP kd room v (vL b (qH kd room v b))
 |true,false=>qP kd room v b
 |false,true=>qH kd room v b
 |false,false=>qP kd room v b++qH kd room v (vL b (qP kd room v b))
theorem oP (b:Int):vL b []=b:=by show b+0 - 0=b;omega
theorem o8 (kd:Kd) (room v:Int) (f:Bool) (b:Int) (w:Bool):(eN kd room v f b w).length≤4:=by
 have h1:=fun b=>dS kd room v b
 have h2:=fun b=>QY kd room v b
 cases w<;>cases f
 ·show (qP kd room v b++qH kd room v (vL b (qP kd room v b))).length≤4
  rw [List.length_append];have:=h1 b;have:=h2 (vL b (qP kd room v b));omega
 ·exact Nat.le_trans (h2 b) (by decide)
 ·exact Nat.le_trans (h1 b) (by decide)
 ·show (qH kd room v b++qP kd room v (vL b (qH kd room v b))).length≤4
  rw [List.length_append];have:=h2 b;have:=h1 (vL b (qH kd room v b));omega
def oZ (cs:Kd→Addr):Sp:=fun vs H Q _=>∃(x:Addr) (kd:Kd) (n h l:V) (room v b:Int) (f w:Bool),vs=[.ref x,.bl f,.int b,wv w]∧LockAt cs H x kd n h l room v∧
 ∀(r:Addr) (H':Hp) (rs:List V),Same H H'→H r=none→H' r=some (.lst rs)→PoursS H' rs (eN kd room v f b w)→Q (.ref r) H'
theorem e8 {α β:Type} {f:α→β} {ps:List α} {i:Nat} {p:α} (h:ps[i]?=some p):(ps.take (i+1)).map f=(ps.take i).map f++[f p]:=by
 rw [List.take_add_one,h,List.map_append];rfl
def zR (c m:Int):Int:=if m - c>0 then m - c else 0
def zA (ws:List (Int×Nat)) (i:Nat):Int:=(ws.getD i (0,0)).1
def kA (ws:List (Int×Nat)) (i:Nat):Nat:=(ws.getD i (0,0)).2
def WeirsAt (K:W.Frag) (H:Hp) (rs:List V) (ws:List (Int×Nat)) (n:Nat):Prop :=
 rs.length=ws.length∧∀(i:Nat) (r:V),rs[i]?=some r→∃(a:Addr) (c:Int) (t:Nat),r=.ref a∧ws[i]?=some (c,t)∧SqT K H a [.int c,.int t]∧t<n
def gH (R:Nat) (ws:List (Int×Nat)):Prop:=∀(i:Nat) (c:Int) (t:Nat),ws[i]?=some (c,t)→t<i∨R≤t
theorem WeirsAt.same {K:W.Frag} {H H':Hp} {rs:List V} {ws:List (Int×Nat)} {n:Nat} (e:Same H H') (h:WeirsAt K H rs ws n):WeirsAt K H' rs ws n:=by
 refine ⟨h.1,fun i r hi=>?_⟩
 obtain ⟨a,c,t,h1,h2,h3,h4⟩:=h.2 i r hi
 exact ⟨a,c,t,h1,h2,mE e h3,h4⟩
theorem fH {K:W.Frag} {H:Hp} {rs:List V} {ws:List (Int×Nat)} {n i:Nat} (h:WeirsAt K H rs ws n) (hi:i<ws.length):∃a,qC rs (i:Int)=some (V.ref a)∧SqT K H a [.int (zA ws i),.int (kA ws i)]∧kA ws i<n:=by
 have hk:i<rs.length:=by rw [h.1];exact hi
 obtain ⟨a,c,t,h1,h2,h3,h4⟩:=h.2 i rs[i] (List.getElem?_eq_getElem hk)
 have e:ws.getD i (0,0)=(c,t):=by rw [List.getD_eq_getElem?_getD,h2];rfl
 refine ⟨a,kE (by rw [List.getElem?_eq_getElem hk,h1]),?_,?_⟩
 ·unfold zA kA;rw [e];exact h3
 ·unfold kA;rw [e];exact h4
theorem ER {R:Nat} {ws:List (Int×Nat)} {i:Nat} (h:gH R ws) (hi:i<ws.length):kA ws i<i∨R≤kA ws i:=by
 have e:ws[i]?=some ((ws.getD i (0,0)).1,(ws.getD i (0,0)).2):=by rw [List.getD_eq_getElem?_getD,List.getElem?_eq_getElem hi];rfl
 exact h i _ _ e
def tG (K:W.Frag):Sp:=fun vs H Q _=>∃(wq wa:Addr) (rs:List V) (ws:List (Int×Nat)) (n:Nat) (ms:List Int) (at_:Nat),vs=[.ref wq,.ref wa,.int at_]∧SqL K H wq rs∧WeirsAt K H rs ws n∧Ints K H wa ms∧at_<ws.length∧at_<ms.length∧
 Q (.int (zR (zA ws at_) (ms.getD at_ 0))) H
def qS (t:Nat→Nat) (g:Nat→Int) (j:Nat):Nat→Int
 |0=>0
 |a+1=>qS t g j a+(if t a=j then g a else 0)
theorem nX {t:Nat→Nat} {g g':Nat→Int} {j:Nat}:∀{R:Nat},(∀a,a<R→t a=j→g a≤g' a)→qS t g j R≤qS t g' j R
 |0,_=>Int.le_refl _
 |R+1,h=>by
  show qS t g j R+_≤qS t g' j R+_
  have ih:=nX (R:=R) fun a ha=>h a (by omega)
  by_cases c:t R=j
  ·rw [if_pos c,if_pos c]
   have:=h R (by omega) c
   omega
  ·rw [if_neg c,if_neg c]
   omega
theorem nV (t:Nat→Nat) (j:Nat):∀R:Nat,qS t (fun _=>0) j R=0
 |0=>rfl
 |R+1=>by
  show qS t (fun _=>0) j R+_=0
  rw [nV t j R]
  split<;>rfl
theorem oH {t:Nat→Nat} {g g':Nat→Int} {i:Nat} (hg:∀a,a≠i→g' a=g a) (j:Nat):∀{R:Nat},qS t g' j R=qS t g j R+(if i<R∧t i=j then g' i - g i else 0)
 |0=>by
  show (0:Int)=0+_
  rw [if_neg (by omega)]
  rfl
 |R+1=>by
  show qS t g' j R+(if t R=j then g' R else 0)=qS t g j R+(if t R=j then g R else 0)+(if i<R+1∧t i=j then g' i - g i else 0)
  rw [oH hg j (R:=R)]
  by_cases hi:i=R
  ·subst hi
   repeat' split
   all_goals omega
  ·rw [hg R (fun e=>hi e.symm)]
   repeat' split
   all_goals omega
def eG (R:Nat) (c:Nat→Int) (t:Nat→Nat) (m:Nat→Int) (g:Nat→Int):Prop:=∀i,i<R→g i=zR (c i) (m i+qS t g i R)
def J6 (R:Nat) (t:Nat→Nat):Prop:=∀a,a<R→t a<a∨R≤t a
theorem CB {c m m':Int} (h:m≤m'):zR c m≤zR c m':=by
 unfold zR
 split<;>split<;>omega
theorem n5 {R:Nat} {c:Nat→Int} {t:Nat→Nat} {m m' g g':Nat→Int} (hA:J6 R t) (hm:∀i,i<R→m i≤m' i) (h:eG R c t m g) (h':eG R c t m' g'):∀k,k≤R→∀i,R - k≤i→i<R→g i≤g' i:=by
 intro k
 induction k with
 |zero=>intro _ i h1 h2;omega
 |succ k ih =>
  intro hk i h1 h2
  by_cases e:R - k≤i
  ·exact ih (by omega) i e h2
  ·have hi:i=R - (k+1):=by omega
   rw [h i h2,h' i h2]
   refine CB ?_
   have:=nX (t:=t) (g:=g) (g':=g') (j:=i) (R:=R) fun a ha hta=>ih (by omega) a (by have:=hA a ha;omega) ha
   have:=hm i h2
   omega
theorem BP {R:Nat} {c:Nat→Int} {t:Nat→Nat} {m g g':Nat→Int} (hA:J6 R t) (h:eG R c t m g) (h':eG R c t m g') {i:Nat} (hi:i<R):g i=g' i:=by
 have h1:=n5 hA (fun i _=>Int.le_refl (m i)) h h' R (Nat.le_refl _) i (by omega) hi
 have h2:=n5 hA (fun i _=>Int.le_refl (m i)) h' h R (Nat.le_refl _) i (by omega) hi
 omega
def after (R:Nat) (t:Nat→Nat) (m g:Nat→Int) (j:Nat):Int:=m j+qS t g j R - (if j<R then g j else 0)
def qT:List (Nat×Nat×Int)→Nat→Int
 |[],_=>0
 |q::r,j=>(if q.2.1=j then q.2.2 else 0) - (if q.1=j then q.2.2 else 0)+qT r j
theorem dO (l:List Int) (i j:Nat) (z:Int) (h:i<l.length):(l.set i z).getD j 0=if i=j then z else l.getD j 0:=by
 rw [List.getD_eq_getElem?_getD,List.getD_eq_getElem?_getD]
 by_cases e:i=j
 ·subst e
  rw [List.getElem?_set_self h,if_pos rfl]
  rfl
 ·rw [List.getElem?_set_ne e,if_neg e]
theorem o6 (ms:List Int) (q:Nat×Nat×Int) (j:Nat) (h1:q.1<ms.length) (h2:q.2.1<ms.length):(pour ms q).getD j 0=ms.getD j 0+((if q.2.1=j then q.2.2 else 0) - (if q.1=j then q.2.2 else 0)):=by
 unfold pour
 rw [dO _ _ _ _ (by rw [List.length_set];exact h2),dO _ _ _ _ h1,dO _ _ _ _ h1]
 by_cases a:q.2.1=j
 ·rw [if_pos a,if_pos a]
  rw [a]
  by_cases b:q.1=j
  ·rw [if_pos b,if_pos b];rw [b];omega
  ·rw [if_neg b,if_neg b];omega
 ·rw [if_neg a,if_neg a]
  by_cases b:q.1=j
  ·rw [if_pos b,if_pos b];rw [b];omega
  ·rw [if_neg b,if_neg b];omega
theorem e9:∀(qs:List (Nat×Nat×Int)) (ms:List Int) (j:Nat),(∀q∈qs,q.1<ms.length∧q.2.1<ms.length)→(j9 ms qs).getD j 0=ms.getD j 0+qT qs j
 |[],ms,j,_=>by
  show ms.getD j 0=ms.getD j 0+0
  omega
 |q::r,ms,j,h=>by
  show (j9 (pour ms q) r).getD j 0=_
  obtain ⟨h1,h2⟩:=h q List.mem_cons_self
  rw [e9 r (pour ms q) j (fun x hx=>by rw [dP];exact h x (List.mem_cons_of_mem _ hx)),o6 ms q j h1 h2]
  show _=ms.getD j 0+((if q.2.1=j then q.2.2 else 0) - (if q.1=j then q.2.2 else 0)+qT r j)
  omega
theorem oJ (n:Nat):vF (n+1)=n::vF n:=by
 unfold vF
 rw [List.range_succ,List.reverse_append]
 rfl
theorem mem_downs {n a:Nat}:a∈vF n↔a<n:=by
 unfold vF
 rw [List.mem_reverse,List.mem_range]
theorem cE (n:Nat):(vF n).length=n:=by
 unfold vF
 rw [List.length_reverse,List.length_range]
theorem pE {n k:Nat} (h:k<n):(vF n)[k]?=some (n - 1 - k):=by
 unfold vF
 rw [List.getElem?_reverse (by simpa using h),List.length_range,List.getElem?_range (by omega)]
def kR (t:Nat→Nat) (g:Nat→Int) (R:Nat):List (Nat×Nat×Int):=(vF R).map fun a=>(a,t a,g a)
theorem iN (t:Nat→Nat) (g:Nat→Int) (j:Nat):∀R:Nat,qT (kR t g R) j=qS t g j R - (if j<R then g j else 0)
 |0=>by
  show (0:Int)=0 - _
  rw [if_neg (by omega)]
  rfl
 |R+1=>by
  unfold kR
  rw [oJ]
  show (if t R=j then g R else 0) - (if R=j then g R else 0)+qT (kR t g R) j=qS t g j R+(if t R=j then g R else 0) - _
  rw [iN t g j R]
  by_cases e:R=j
  ·subst e
   repeat' split
   all_goals omega
  ·repeat' split
   all_goals omega
theorem lA {l l':List Int} (h:l.length=l'.length) (e:∀j,j<l.length→l.getD j 0=l'.getD j 0):l=l':=by
 apply List.ext_getElem h
 intro i h1 h2
 have:=e i h1
 rw [List.getD_eq_getElem?_getD,List.getD_eq_getElem?_getD,List.getElem?_eq_getElem h1,List.getElem?_eq_getElem h2] at this
 exact this
def Spl (ws:List (Int×Nat)) (ms gs:List Int):Prop:=gs.length=ws.length∧eG ws.length (zA ws) (kA ws) (fun j=>ms.getD j 0) (fun a=>gs.getD a 0)
theorem Spl.unique {ws:List (Int×Nat)} {ms gs gs':List Int} (hA:J6 ws.length (kA ws)) (h:Spl ws ms gs) (h':Spl ws ms gs'):gs=gs':=by
 refine lA (by rw [h.1,h'.1]) fun j hj=>?_
 exact BP hA h.2 h'.2 (by rw [← h.1];exact hj)
theorem iX {ws:List (Int×Nat)} (h:gH ws.length ws):J6 ws.length (kA ws):=fun a ha=>ER h ha
theorem CS {K:W.Frag} {H:Hp} {rs:List V} {ws:List (Int×Nat)} {n:Nat} (h:WeirsAt K H rs ws n):∀a,a<ws.length→kA ws a<n:=fun a ha=>let ⟨_,_,_,q⟩:=fH h ha;q
structure SplInv (ws:List (Int×Nat)) (ms hs gs:List Int) (k:Nat):Prop where
 lh:hs.length=ms.length
 lg:gs.length=ws.length
 flow:∀j,j<ms.length→hs.getD j 0=ms.getD j 0+qS (kA ws) (fun a=>gs.getD a 0) j ws.length
 zero:∀a,a<ws.length - k→gs.getD a 0=0
 done:∀a,ws.length - k≤a→a<ws.length→gs.getD a 0=zR (zA ws a) (ms.getD a 0+qS (kA ws) (fun a=>gs.getD a 0) a ws.length)
theorem SplInv.start (ws:List (Int×Nat)) (ms:List Int):SplInv ws ms ms (List.replicate ws.length 0) 0:=by
 have ez:(fun a:Nat=>(List.replicate ws.length (0:Int)).getD a 0)=fun _=>0:=by
  funext a
  rw [List.getD_eq_getElem?_getD,List.getElem?_replicate]
  split<;>rfl
 refine ⟨rfl,by simp,fun j _=>?_,fun a _=>congrFun ez a,fun a h1 h2=>by omega⟩
 rw [ez,nV]
 omega
theorem SplInv.step {ws:List (Int×Nat)} {ms hs gs:List Int} {k:Nat} (hA:J6 ws.length (kA ws)) (hR:ws.length≤ms.length) (hk:k<ws.length) (ht:kA ws (ws.length - 1 - k)<ms.length) (h:SplInv ws ms hs gs k) :
  SplInv ws ms (hs.set (kA ws (ws.length - 1 - k)) (hs.getD (kA ws (ws.length - 1 - k)) 0+(gs.set (ws.length - 1 - k) (zR (zA ws (ws.length - 1 - k)) (hs.getD (ws.length - 1 - k) 0))).getD (ws.length - 1 - k) 0))
   (gs.set (ws.length - 1 - k) (zR (zA ws (ws.length - 1 - k)) (hs.getD (ws.length - 1 - k) 0))) (k+1):=by
 obtain ⟨i,hi⟩:∃i,i=ws.length - 1 - k:=⟨_,rfl⟩
 rw [← hi] at ht ⊢
 obtain ⟨lh,lg,flow,zero,done⟩:=h
 have hil:i<gs.length:=by rw [lg];omega
 obtain ⟨v,hv⟩:∃v,v=zR (zA ws i) (hs.getD i 0):=⟨_,rfl⟩
 rw [← hv]
 have gset:∀a,(gs.set i v).getD a 0=if i=a then v else gs.getD a 0:=fun a=>dO gs i a v hil
 have g0:gs.getD i 0=0:=zero i (by omega)
 have gi:(gs.set i v).getD i 0=v:=by rw [gset,if_pos rfl]
 have infl:∀j,qS (kA ws) (fun a=>(gs.set i v).getD a 0) j ws.length=qS (kA ws) (fun a=>gs.getD a 0) j ws.length+(if kA ws i=j then v else 0):=fun j=>by
  rw [oH (g:=fun a=>gs.getD a 0) (i:=i) (fun a ha=>by show (gs.set i v).getD a 0=gs.getD a 0;rw [gset,if_neg (Ne.symm ha)]) j]
  show _+(if i<ws.length∧kA ws i=j then (gs.set i v).getD i 0 - gs.getD i 0 else 0)=_
  rw [gi,g0]
  have hiw:i<ws.length:=by omega
  repeat' split
  all_goals omega
 have hti:=hA i (by omega)
 refine ⟨by rw [List.length_set,lh],by rw [List.length_set,lg],fun j hj=>?_,fun a ha=>?_,fun a h1 h2=>?_⟩
 ·rw [dO _ _ _ _ (by rw [lh];exact ht),infl,gi]
  have:=flow j hj
  by_cases e:kA ws i=j
  ·rw [if_pos e,if_pos e,e]
   omega
  ·rw [if_neg e,if_neg e]
   omega
 ·rw [gset,if_neg (by omega)]
  exact zero a (by omega)
 ·rw [infl]
  by_cases e:i=a
  ·subst e
   rw [gi,if_neg (by omega),Int.add_zero,hv,flow i (by omega)]
  ·rw [gset,if_neg e,if_neg (by omega),Int.add_zero]
   exact done a (by omega) h2
theorem SplInv.spl {ws:List (Int×Nat)} {ms hs gs:List Int} (h:SplInv ws ms hs gs ws.length):Spl ws ms gs:=⟨h.lg,fun i hi=>h.done i (by omega) hi⟩
theorem DV (n:Nat):(List.replicate n [V.int 0]).flatten=(List.replicate n (0:Int)).map V.int:=by
 induction n with
 |zero=>rfl
 |succ n ih =>
  rw [List.replicate_succ,List.flatten_cons,ih,List.replicate_succ,List.map_cons]
  rfl
structure Ready (K:W.Frag) (H:Hp) (wq wa:Addr) (rs:List V) (ws:List (Int×Nat)) (ms:List Int):Prop where
 w:SqL K H wq rs
 a:WeirsAt K H rs ws ms.length
 m:Ints K H wa ms
 ah:gH ws.length ws
 le:ws.length≤ms.length
 sm:ms.length≤1000
theorem Ready.same {K:W.Frag} {H H':Hp} {wq wa:Addr} {rs:List V} {ws:List (Int×Nat)} {ms:List Int} (e:Same H H') (h:Ready K H wq wa rs ws ms):Ready K H' wq wa rs ws ms:=⟨e.seq h.w,h.a.same e,h.m.same e,h.ah,h.le,h.sm⟩
def lU (K:W.Frag):Sp:=fun vs H Q _=>∃(wq:Addr) (rs:List V),vs=[.ref wq]∧SqL K H wq rs∧rs.length≤1000∧∀(r:Addr) (H':Hp),Same H H'→H r=none→H' r=some (.lst ((vF rs.length).map fun (i:Nat)=>V.int (i:Int)))→Q (.ref r) H'
def pS (K:W.Frag):Sp:=fun vs H Q _=>∃(wq wa:Addr) (rs:List V) (ws:List (Int×Nat)) (ms:List Int),vs=[.ref wq,.ref wa]∧Ready K H wq wa rs ws ms∧
 ∀(r:Addr) (H':Hp) (gs:List Int),Same H H'→H r=none→H' r=some (.lst (gs.map V.int))→Spl ws ms gs→Q (.ref r) H'
theorem rK {R i:Nat} {x:V} (h:((vF R).map fun (i:Nat)=>V.int (i:Int))[i]?=some x):i<R∧x=V.int ((R - 1 - i:Nat):Int):=by
 rw [List.getElem?_map] at h
 by_cases hi:i<R
 ·rw [pE hi] at h
  exact ⟨hi,(Option.some.inj h).symm⟩
 ·rw [List.getElem?_eq_none (by rw [cE];omega)] at h
  cases h
theorem nR {t:Nat→Nat} {g:Nat→Int} {R i:Nat} (h:i<R):(kR t g R)[i]?=some (R - 1 - i,t (R - 1 - i),g (R - 1 - i)):=by
 unfold kR
 rw [List.getElem?_map,pE h]
 rfl
def kO (q:Nat×Nat×Int):Bool := !decide (q.2.2=0)
theorem lM (j:Nat):∀qs:List (Nat×Nat×Int),qT (qs.filter kO) j=qT qs j
 |[]=>rfl
 |q::r=>by
  rw [List.filter_cons]
  by_cases h:q.2.2=0
  ·rw [if_neg (by unfold kO;rw [decide_eq_true h];decide)]
   show qT (r.filter kO) j=(if q.2.1=j then q.2.2 else 0) - (if q.1=j then q.2.2 else 0)+qT r j
   rw [lM j r,h]
   repeat' split
   all_goals omega
  ·rw [if_pos (by unfold kO;rw [decide_eq_false h];rfl)]
   show _+qT (r.filter kO) j=_+qT r j
   rw [lM j r]
theorem CA {qs:List (Nat×Nat×Int)} {ms:List Int} (h:∀q∈qs,q.1<ms.length∧q.2.1<ms.length):j9 ms (qs.filter kO)=j9 ms qs:=by
 refine lA (by rw [y0,y0]) fun j _=>?_
 rw [e9 _ _ _ h,e9 _ _ _ (fun q hq=>h q (List.mem_filter.mp hq).1),lM]
theorem iM {ws:List (Int×Nat)} {g:Nat→Int} {n:Nat} (hR:ws.length≤n) (ht:∀a,a<ws.length→kA ws a<n):∀q∈kR (kA ws) g ws.length,q.1<n∧q.2.1<n:=fun q hq=>by
 obtain ⟨a,ha,rfl⟩:=List.mem_map.mp hq
 have:=mem_downs.mp ha
 exact ⟨by show a<n;omega,ht a this⟩
def PoursH (H:Hp) (rs:List V) (qs:List (Nat×Nat×Int)) (n:Nat):Prop:=rs.length=qs.length∧∀(i:Nat) (r:V),rs[i]?=some r→∃(a:Addr) (s t:Nat) (m:Int),r=.ref a∧qs[i]?=some (s,t,m)∧H a=some (.tup [.int s,.int t,.int m])∧s<n∧t<n
theorem PoursH.nil (H:Hp) (n:Nat):PoursH H [] [] n:=⟨rfl,fun i r hi=>by cases hi⟩
theorem PoursH.pa {K:W.Frag} {H:Hp} {rs:List V} {qs:List (Nat×Nat×Int)} {n:Nat} (h:PoursH H rs qs n):sY K H rs qs n:=⟨h.1,fun i r hi=>by
 obtain ⟨a,s,t,m,h1,h2,h3,h4⟩:=h.2 i r hi
 exact ⟨a,s,t,m,h1,h2,SqT.of h3,h4⟩⟩
theorem PoursH.same {H H':Hp} {rs:List V} {qs:List (Nat×Nat×Int)} {n:Nat} (h:PoursH H rs qs n) (e:Same H H'):PoursH H' rs qs n:=⟨h.1,fun i r hi=>by
 obtain ⟨a,s,t,m,h1,h2,h3,h4⟩:=h.2 i r hi
 exact ⟨a,s,t,m,h1,h2,e _ _ h3,h4⟩⟩
theorem PoursH.put {H:Hp} {d:Addr} {ys:List V} {o:HO} {rs:List V} {qs:List (Nat×Nat×Int)} {n:Nat} (h:PoursH H rs qs n) (hd:H d=some (.lst ys)):PoursH (upd H d o) rs qs n:=⟨h.1,fun i r hi=>by
 obtain ⟨a,s,t,m,h1,h2,h3,h4⟩:=h.2 i r hi
 exact ⟨a,s,t,m,h1,h2,by rw [kC (fun z=>by rw [z,hd] at h3;cases h3)];exact h3,h4⟩⟩
theorem PoursH.append {H:Hp} {rs rs':List V} {qs qs':List (Nat×Nat×Int)} {n:Nat} (h:PoursH H rs qs n) (h':PoursH H rs' qs' n):PoursH H (rs++rs') (qs++qs') n:=by
 refine ⟨by rw [List.length_append,List.length_append,h.1,h'.1],fun i r hi=>?_⟩
 by_cases hl:i<rs.length
 ·rw [List.getElem?_append_left hl] at hi
  obtain ⟨a,s,t,m,h1,h2,h3⟩:=h.2 i r hi
  exact ⟨a,s,t,m,h1,by rw [List.getElem?_append_left (by rw [← h.1];exact hl)];exact h2,h3⟩
 ·rw [List.getElem?_append_right (by omega)] at hi
  obtain ⟨a,s,t,m,h1,h2,h3⟩:=h'.2 _ r hi
  exact ⟨a,s,t,m,h1,by rw [List.getElem?_append_right (by rw [← h.1];omega),← h.1];exact h2,h3⟩
theorem PoursH.snoc {H:Hp} {rs:List V} {qs:List (Nat×Nat×Int)} {n s t:Nat} {m:Int} {a:Addr} (h:PoursH H rs qs n) (ha:H a=some (.tup [.int s,.int t,.int m])) (hs:s<n) (ht:t<n):PoursH H (rs++[.ref a]) (qs++[(s,t,m)]) n:=h.append ⟨rfl,fun i r hi=>by
 rcases i with _|i
 ·cases hi;exact ⟨a,s,t,m,rfl,rfl,ha,hs,ht⟩
 ·cases hi⟩
def pT (K:W.Frag):Sp:=fun vs H Q _=>∃(wq wa:Addr) (rs:List V) (ws:List (Int×Nat)) (ms:List Int),vs=[.ref wq,.ref wa]∧Ready K H wq wa rs ws ms∧
 ∀(r:Addr) (H':Hp) (gs:List Int) (ys:List V),Same H H'→H r=none→H' r=some (.lst ys)→PoursH H' ys ((kR (kA ws) (fun a=>gs.getD a 0) ws.length).filter kO) ms.length→Spl ws ms gs→Q (.ref r) H'
def lD (K:W.Frag):Sp:=fun vs H Q _=>∃(wq wa p:Addr) (rs ps:List V) (ws:List (Int×Nat)) (ms:List Int) (qs:List (Nat×Nat×Int)),vs=[.ref wq,.ref wa,.ref p]∧Ready K H wq wa rs ws ms∧H p=some (.lst ps)∧PoursH H ps qs ms.length∧ps.length≤500∧
 ∀(r:Addr) (H':Hp) (gs:List Int) (ys:List V),Same H H'→H r=none→H' r=some (.lst ys)→PoursH H' ys (qs++(kR (kA ws) (fun a=>gs.getD a 0) ws.length).filter kO) ms.length→Spl ws (j9 ms qs) gs→Q (.ref r) H'
theorem nS (ws:List (Int×Nat)) (g:Nat→Int):((kR (kA ws) g ws.length).filter kO).length≤ws.length:=by
 refine Nat.le_trans (List.length_filter_le ..) ?_
 unfold kR
 rw [List.length_map,cE]
 exact Nat.le_refl _
structure RC where
 name:Str
 least:Int
 crest:Int
 berths:Int
 water:Int
 target:Int
def RC.good (r:RC) (n:Nat):Prop:=0≤r.least∧r.least≤r.crest∧r.crest≤999999999999∧1≤r.berths∧r.berths≤9∧0≤r.water∧r.water≤999999999999∧-1≤r.target∧r.target<(n:Int)
structure LC where
 name:Str
 high:Int
 low:Int
 room:Int
 kd:Kd
 extra:Int
def LC.good (l:LC) (n:Nat):Prop:=1≤l.high∧l.high<(n:Int)∧0≤l.low∧l.low<l.high∧1≤l.room∧l.room≤999999999999∧(l.kd=.plain→l.extra=0)∧(l.kd≠.plain→1≤l.extra∧l.extra≤l.room)
def AllAt {α:Type} (P:V→α→Prop) (vs:List V) (xs:List α):Prop:=vs.length=xs.length∧∀(i:Nat) (v:V),vs[i]?=some v→∃x,xs[i]?=some x∧P v x
theorem AllAt.nil {α:Type} {P:V→α→Prop}:AllAt P [] ([]:List α):=⟨rfl,fun i v h=>by cases h⟩
theorem AllAt.mono {α:Type} {P P':V→α→Prop} {vs:List V} {xs:List α} (m:∀v x,P v x→P' v x) (h:AllAt P vs xs):AllAt P' vs xs:=⟨h.1,fun i v hv=>by obtain ⟨x,h1,h2⟩:=h.2 i v hv;exact ⟨x,h1,m v x h2⟩⟩
theorem AllAt.snoc {α:Type} {P:V→α→Prop} {vs:List V} {xs:List α} {v:V} {x:α} (h:AllAt P vs xs) (hv:P v x):AllAt P (vs++[v]) (xs++[x]):=by
 refine ⟨by rw [List.length_append,List.length_append,h.1];rfl,fun i w hw=>?_⟩
 by_cases hl:i<vs.length
 ·rw [List.getElem?_append_left hl] at hw
  rw [List.getElem?_append_left (by rw [← h.1];exact hl)]
  exact h.2 i w hw
 ·rw [List.getElem?_append_right (by omega)] at hw
  have e:i=vs.length:=by
   by_cases z:i - vs.length=0
   ·omega
   ·rw [List.getElem?_eq_none (by show 1≤i - vs.length;omega)] at hw;cases hw
  rw [e,Nat.sub_self] at hw
  cases hw
  refine ⟨x,?_,hv⟩
  rw [e,h.1,List.getElem?_append_right (Nat.le_refl _),Nat.sub_self]
  rfl
theorem AllAt.get {α:Type} {P:V→α→Prop} {vs:List V} {xs:List α} (h:AllAt P vs xs) {i:Nat} {x:α} (hx:xs[i]?=some x):∃v,vs[i]?=some v∧P v x:=by
 have hi:i<vs.length:=by rw [h.1];exact (List.getElem?_eq_some_iff.mp hx).1
 obtain ⟨y,h1,h2⟩:=h.2 i _ (List.getElem?_eq_getElem hi)
 rw [hx] at h1
 cases h1
 exact ⟨_,List.getElem?_eq_getElem hi,h2⟩
def QAt (H:Hp) (v:V) (p:Int×Int):Prop:=∃t,v=.ref t∧H t=some (.tup [.int p.1,.int p.2])
def NAt (D:List Addr) (H:Hp) (v:V) (ps:List (Int×Int)):Prop:=∃(l:Addr) (qs:List V),v=.ref l∧H l=some (.lst qs)∧AllAt (QAt H) qs ps∧l∉D
theorem QAt.same {H H':Hp} (e:Same H H') (v:V) (r:Int×Int):QAt H v r→QAt H' v r:=fun ⟨t,h1,h2⟩=>⟨t,h1,e _ _ h2⟩
theorem QAt.put {H:Hp} {d:Addr} {ys:List V} {o:HO} (hd:H d=some (.lst ys)) (v:V) (r:Int×Int):QAt H v r→QAt (upd H d o) v r:=fun ⟨t,h1,h2⟩=>⟨t,h1,by rw [kC (fun z=>by rw [z,hd] at h2;cases h2)];exact h2⟩
theorem NAt.same {D:List Addr} {H H':Hp} (e:Same H H') (v:V) (r:List (Int×Int)):NAt D H v r→NAt D H' v r:=fun ⟨l,qs,h1,h2,h3,h4⟩=>⟨l,qs,h1,e _ _ h2,h3.mono (QAt.same e),h4⟩
theorem NAt.put {D:List Addr} {H:Hp} {d:Addr} {ys:List V} {o:HO} (hd:H d=some (.lst ys)) (hD:d∈D) (v:V) (r:List (Int×Int)):NAt D H v r→NAt D (upd H d o) v r:=fun ⟨l,qs,h1,h2,h3,h4⟩=>⟨l,qs,h1,by rw [kC (fun z=>h4 (by rw [z];exact hD))];exact h2,h3.mono (QAt.put hd),h4⟩
theorem NAt.less {D D':List Addr} {H:Hp} (hD:∀d∈D',d∈D) (v:V) (r:List (Int×Int)):NAt D H v r→NAt D' H v r:=fun ⟨l,qs,h1,h2,h3,h4⟩=>⟨l,qs,h1,h2,h3,fun z=>h4 (hD _ z)⟩
theorem JH {f:Str} {v:V} {fs:List (Str×V)}:(j0 f v fs).lookup f=some v:=by rw [vC,if_pos rfl]
theorem q8 {f g:Str} {v:V} {fs:List (Str×V)} (h:¬g=f):(j0 f v fs).lookup g=fs.lookup g:=by rw [vC,if_neg h]
def lC (fs:List (Str×V)) (v_name v_least v_crest v_berths v_water v_target:V):Prop:=fs.lookup ("name":Str)=some v_name∧fs.lookup ("least":Str)=some v_least∧fs.lookup ("crest":Str)=some v_crest∧fs.lookup ("berths":Str)=some v_berths∧fs.lookup ("water":Str)=some v_water∧fs.lookup ("target":Str)=some v_target
theorem CO (v_name v_least v_crest v_berths v_water v_target:V):lC (j0 "target" v_target (j0 "water" v_water (j0 "berths" v_berths (j0 "crest" v_crest (j0 "least" v_least (j0 "name" v_name [])))))) v_name v_least v_crest v_berths v_water v_target:=by
 refine ⟨?_,?_,?_,?_,?_,?_⟩
 ·rw [q8 (f:="target") (g:="name") (by decide +kernel),q8 (f:="water") (g:="name") (by decide +kernel),q8 (f:="berths") (g:="name") (by decide +kernel),q8 (f:="crest") (g:="name") (by decide +kernel),q8 (f:="least") (g:="name") (by decide +kernel),JH]
 ·rw [q8 (f:="target") (g:="least") (by decide +kernel),q8 (f:="water") (g:="least") (by decide +kernel),q8 (f:="berths") (g:="least") (by decide +kernel),q8 (f:="crest") (g:="least") (by decide +kernel),JH]
 ·rw [q8 (f:="target") (g:="crest") (by decide +kernel),q8 (f:="water") (g:="crest") (by decide +kernel),q8 (f:="berths") (g:="crest") (by decide +kernel),JH]
 ·rw [q8 (f:="target") (g:="berths") (by decide +kernel),q8 (f:="water") (g:="berths") (by decide +kernel),JH]
 ·rw [q8 (f:="target") (g:="water") (by decide +kernel),JH]
 ·rw [JH]
def iI (c:Addr):Sp:=fun vs H Q _=>∃(x dx:Addr) (v_name v_least v_crest v_berths v_water v_target:V),vs=[.ref x,v_name,v_least,v_crest,v_berths,v_water,v_target]∧H x=some (.ins c dx [])∧∀(H':Hp) (fs:List (Str×V)),Keep x H H'→H' x=some (.ins c dx fs)→lC fs v_name v_least v_crest v_berths v_water v_target→Q .non H'
def RcAt (cR:Addr) (H:Hp) (x:Addr) (r:RC):Prop:=∃(dx:Addr) (fs:List (Str×V)),H x=some (.ins cR dx fs)∧lC fs (.str r.name) (.int r.least) (.int r.crest) (.int r.berths) (.int r.water) (.int r.target)
theorem RcAt.same {cR:Addr} {H H':Hp} {x:Addr} {r:RC} (e:Same H H') (h:RcAt cR H x r):RcAt cR H' x r:=by
 obtain ⟨dx,fs,h1,h2⟩:=h
 exact ⟨dx,fs,e _ _ h1,h2⟩
theorem BN {X:Cx} (K:W.Frag) (h:X.K=K:=by rfl):v7 X (.type "list") (fun xs H Q=>∃p ys,xs=[.ref p]∧(SqL K H p ys∨SqT K H p ys)∧∀l,H l=none→Q (.ref l) (upd H l (.lst ys))):=by subst h;exact zZ
theorem lK {X:Cx} (K:W.Frag) {e:Expr} {f:Str} {pos:Pos} {ta:TE} (he:PE X e ta) (hb:attributeBase e f X.env (eval e X.env)=eval e X.env) (h:X.K=K:=by rfl):PE X (.Attribute e f pos) (t7 K ta f):=by subst h;exact jR he hb
def CanalFld (fs:List (Str×V)) (r l n:V):Prop:=fs.lookup ("reaches":Str)=some r∧fs.lookup ("locks":Str)=some l∧fs.lookup ("nights":Str)=some n∧∀m:Str,¬m="reaches"→¬m="locks"→¬m="nights"→fs.lookup m=none
theorem CP (r l n:V):CanalFld (j0 "nights" n (j0 "locks" l (j0 "reaches" r []))) r l n:=by
 refine ⟨?_,?_,?_,fun m h1 h2 h3=>?_⟩
 ·rw [q8 (f:="nights") (g:="reaches") (by decide +kernel),q8 (f:="locks") (g:="reaches") (by decide +kernel),JH]
 ·rw [q8 (f:="nights") (g:="locks") (by decide +kernel),JH]
 ·rw [JH]
 ·rw [q8 h3,q8 h2,q8 h1];rfl
theorem CanalFld.no {fs:List (Str×V)} {r l n:V} (h:CanalFld fs r l n) {m:Str} (h1:¬m="reaches") (h2:¬m="locks") (h3:¬m="nights"):fs.lookup m=none:=h.2.2.2 m h1 h2 h3
def RcO (cR:Addr) (H:Hp) (v:V) (r:RC):Prop:=∃x,v=.ref x∧RcAt cR H x r
def LkO (cs:Kd→Addr) (H:Hp) (v:V) (l:LC):Prop:=∃x,v=.ref x∧LockAt cs H x l.kd (.str l.name) (.int l.high) (.int l.low) l.room l.extra
theorem RcO.same {cR:Addr} {H H':Hp} (e:Same H H') (v:V) (r:RC):RcO cR H v r→RcO cR H' v r:=fun ⟨x,h1,h2⟩=>⟨x,h1,h2.same e⟩
theorem LkO.same {cs:Kd→Addr} {H H':Hp} (e:Same H H') (v:V) (l:LC):LkO cs H v l→LkO cs H' v l:=fun ⟨x,h1,h2⟩=>⟨x,h1,h2.same e⟩
theorem RcO.keep {cR y:Addr} {ys:List V} {H H':Hp} (k:Keep y H H') (hy:H y=some (.lst ys)) (v:V) (r:RC):RcO cR H v r→RcO cR H' v r:=fun ⟨x,h1,dx,fs,h2,h3⟩=>⟨x,h1,dx,fs,k _ _ (zS h2 hy (fun z=>nomatch z)) h2,h3⟩
theorem LkO.keep {cs:Kd→Addr} {y:Addr} {ys:List V} {H H':Hp} (k:Keep y H H') (hy:H y=some (.lst ys)) (v:V) (l:LC):LkO cs H v l→LkO cs H' v l:=fun ⟨x,h1,dx,h2⟩=>⟨x,h1,dx,k _ _ (zS h2 hy (fun z=>nomatch z)) h2⟩
theorem RcO.keepI {cR y c d:Addr} {H H':Hp} (k:Keep y H H') (hy:H y=some (.ins c d [])) (v:V) (r:RC):RcO cR H v r→RcO cR H' v r:=fun ⟨x,h1,dx,fs,h2,h3⟩=>⟨x,h1,dx,fs,k _ _ (fun z=>by rw [z,hy] at h2;cases h2;cases h3.1) h2,h3⟩
theorem LkO.keepI {cs:Kd→Addr} {y c d:Addr} {H H':Hp} (k:Keep y H H') (hy:H y=some (.ins c d [])) (v:V) (l:LC):LkO cs H v l→LkO cs H' v l:=fun ⟨x,h1,dx,h2⟩=>⟨x,h1,dx,k _ _ (fun z=>by
 rw [z,hy] at h2
 have e:=FG l.kd (.str l.name) (.int l.high) (.int l.low) (.int l.room) (.int l.extra)
 injection h2 with h2;injection h2 with h2 h3 h4
 rw [← h4] at e;cases e) h2⟩
theorem QAt.keep {y:Addr} {H H':Hp} (k:Keep y H H') {o:HO} (hy:H y=some o) (ho:∀xs,o≠.tup xs) (v:V) (p:Int×Int):QAt H v p→QAt H' v p:=fun ⟨t,h1,h2⟩=>⟨t,h1,k _ _ (fun z=>by rw [z,hy] at h2;exact ho _ (Option.some.inj h2)) h2⟩
def CnAt (cs:Kd→Addr) (cR cN:Addr) (D:List Addr) (H:Hp) (x:Addr) (R:List RC) (L:List LC) (N:List (List (Int×Int))):Prop:=∃(dx rl ll nl:Addr) (fs:List (Str×V)) (rs ls ns:List V),H x=some (.ins cN dx fs)∧CanalFld fs (.ref rl) (.ref ll) (.ref nl)∧H rl=some (.lst rs)∧H ll=some (.lst ls)∧H nl=some (.lst ns)∧AllAt (RcO cR H) rs R∧AllAt (LkO cs H) ls L∧AllAt (NAt D H) ns N∧rl∉D∧ll∉D∧nl∉D
theorem CnAt.same {cs:Kd→Addr} {cR cN:Addr} {D:List Addr} {H H':Hp} {x:Addr} {R:List RC} {L:List LC} {N:List (List (Int×Int))} (e:Same H H') (h:CnAt cs cR cN D H x R L N):CnAt cs cR cN D H' x R L N:=by
 obtain ⟨dx,rl,ll,nl,fs,rs,ls,ns,h1,h2,h3,h4,h5,h6,h7,h8,h9⟩:=h
 exact ⟨dx,rl,ll,nl,fs,rs,ls,ns,e _ _ h1,h2,e _ _ h3,e _ _ h4,e _ _ h5,h6.mono (RcO.same e),h7.mono (LkO.same e),h8.mono (NAt.same e),h9⟩
def HN (H:Hp) (nv:V) (N:List (List (Int×Int))):Prop:=(nv=.non∧N=[])∨∃(nl:Addr) (ns:List V),nv=.ref nl∧H nl=some (.lst ns)∧AllAt (NAt [] H) ns N∧ns.length≤100
def iJ (cs:Kd→Addr) (cR cN:Addr):Sp:=fun vs H Q _=>∃(x dx rl ll:Addr) (nv:V) (rs ls:List V) (R:List RC) (L:List LC) (N:List (List (Int×Int))),vs=[.ref x,.ref rl,.ref ll,nv]∧H x=some (.ins cN dx [])∧H rl=some (.lst rs)∧H ll=some (.lst ls)∧AllAt (RcO cR H) rs R∧AllAt (LkO cs H) ls L∧HN H nv N∧
 ∀H',Keep x H H'→(∀D:List Addr,(∀d∈D,H d≠none)→CnAt cs cR cN D H' x R L N)→Q .non H'
def ZA (cs:Kd→Addr) (cR cN:Addr) (F:Nat→Nat→Int):Sp:=fun vs H Q _=>∃(x:Addr) (D:List Addr) (R:List RC) (L:List LC) (N:List (List (Int×Int))),vs=[.ref x]∧CnAt cs cR cN D H x R L N∧Q (.int (F R.length L.length)) H
def JK (cs:Kd→Addr) (cR cN:Addr) (F:Nat→Nat→Int→Int):Sp:=fun vs H Q _=>∃(x:Addr) (D:List Addr) (R:List RC) (L:List LC) (N:List (List (Int×Int))) (k:Int),vs=[.ref x,.int k]∧CnAt cs cR cN D H x R L N∧Q (.int (F R.length L.length k)) H
def yP (sea:Int) (r:RC):Int×Int:=(r.crest,if r.target = -1 then sea else r.target)
def yB (n m:Nat):Int:=(n:Int)+2*(m:Int)
def eO (n m:Nat):Int:=(n:Int)+2*(m:Int)+1
def yJ (n _m:Nat) (k:Int):Int:=(n:Int)+k
def vR (n m:Nat) (k:Int):Int:=(n:Int)+(m:Int)+k
def fL (cs:Kd→Addr) (cR cN:Addr):Sp:=fun vs H Q _=>∃(x:Addr) (D:List Addr) (R:List RC) (L:List LC) (N:List (List (Int×Int))),vs=[.ref x]∧CnAt cs cR cN D H x R L N∧R.length≤100∧
 ∀(l:Addr) (ws:List V) (H':Hp),Same H H'→H l=none→H' l=some (.lst ws)→AllAt (QAt H') ws (R.map (yP (yB R.length L.length)))→Q (.ref l) H'
structure Drawn (R:List RC) (L:List LC) (N:List (List (Int×Int))):Prop where
 r8:R.length≤8
 r1:1≤R.length
 l8:L.length≤8
 n6:N.length≤6
 good:∀(i:Nat) (r:RC),R[i]?=some r→r.good i
 lock:∀(i:Nat) (l:LC),L[i]?=some l→l.good R.length
 night:∀p∈N,p.length=R.length
theorem eD {H:Hp} {x dx:Addr} {o o':HO} (nx:H x=none) (ndx:H dx=none):Same H (upd (upd H dx o) x o'):=fun b u e=>by rw [kC (qI e nx),kC (qI e ndx)];exact e
theorem dX {H H1 H2:Hp} {x:Addr} (nx:H x=none) (u:Same H H1) (k:Keep x H1 H2):Same H H2:=fun b o e=>k b o (qI e nx) (u b o e)
def mB (sea:Nat) (r:RC):Int×Nat:=(r.crest,if r.target = -1 then sea else r.target.toNat)
def j7 (R:List RC) (m:Nat):List (Int×Nat):=R.map (mB (R.length+2*m))
def lR (R:List RC) (m:Nat):List Int:=R.map (·.water)++List.replicate (2*m+2) 0
theorem JS (R:List RC) (m:Nat):(j7 R m).length=R.length:=List.length_map _
theorem n4 (R:List RC) (m:Nat):(lR R m).length=R.length+2*m+2:=by
 unfold lR
 rw [List.length_append,List.length_map,List.length_replicate]
 omega
def dD (R:List RC):Prop:=∀(i:Nat) (r:RC),R[i]?=some r→-1≤r.target∧r.target<(i:Int)
theorem iF {R:List RC} {m:Nat} (h:dD R):gH (j7 R m).length (j7 R m):=by
 intro i c t hi
 rw [JS]
 unfold j7 at hi
 rw [List.getElem?_map] at hi
 cases hr:R[i]? with
 |none=>rw [hr] at hi;cases hi
 |some r =>
  rw [hr] at hi
  have e:mB (R.length+2*m) r=(c,t):=Option.some.inj hi
  obtain ⟨h1,h2⟩:=h i r hr
  unfold mB at e
  have e2:(if r.target = -1 then R.length+2*m else r.target.toNat)=t:=congrArg Prod.snd e
  by_cases ht:r.target = -1
  ·rw [if_pos ht] at e2;omega
  ·rw [if_neg ht] at e2;omega
theorem DR {K:W.Frag} {H:Hp} {ws:List V} {R:List RC} {m:Nat} (hT:dD R) (h:AllAt (QAt H) ws (R.map (yP (yB R.length m)))):WeirsAt K H ws (j7 R m) (lR R m).length:=by
 refine ⟨by rw [h.1,List.length_map,JS],fun i v hv=>?_⟩
 obtain ⟨p,hp,t,rfl,ht⟩:=h.2 i v hv
 rw [List.getElem?_map] at hp
 cases hr:R[i]? with
 |none=>rw [hr] at hp;cases hp
 |some r =>
  rw [hr] at hp
  cases hp
  obtain ⟨h1,h2⟩:=hT i r hr
  have hi:i<R.length:=(List.getElem?_eq_some_iff.mp hr).1
  refine ⟨t,r.crest,if r.target = -1 then R.length+2*m else r.target.toNat,rfl,?_,?_,?_⟩
  ·unfold j7;rw [List.getElem?_map,hr];rfl
  ·have e:(((if r.target = -1 then R.length+2*m else r.target.toNat):Nat):Int)=(yP (yB R.length m) r).2:=by
    unfold yP yB
    by_cases ht:r.target = -1
    ·rw [if_pos ht,if_pos ht];omega
    ·rw [if_neg ht,if_neg ht];omega
   rw [e]
   exact SqT.of ht
  ·rw [n4];split<;>omega
def fQ (cs:Kd→Addr) (cR cN:Addr):Sp:=fun vs H Q _=>∃(x wa:Addr) (D:List Addr) (R:List RC) (L:List LC) (N:List (List (Int×Int))) (ms:List Int) (k:Nat),vs=[.ref x,.ref wa,.int (k:Int)]∧CnAt cs cR cN D H x R L N∧H wa=some (.tup (ms.map V.int))∧R.length+k<ms.length∧Q (.bl (decide (0<ms.getD (R.length+k) 0))) H
theorem fA {R:List RC} {L:List LC} {N:List (List (Int×Int))} (h:Drawn R L N):dD R:=fun i r hr=>by
 obtain ⟨g1,g2,g3,g4,g5,g6,g7,g8,g9⟩:=h.good i r hr
 exact ⟨g8,g9⟩
def JY (K:W.Frag):Sp:=fun vs H Q _=>∃(s:Addr) (ns:List Int) (k:Int) (m:Int),vs=[.ref s,.int k,.int m]∧SqL K H s (ns.map V.int)∧ns.length≤63∧0≤k∧k≤100000∧1≤m∧∀z:Int,0≤z→z<m→Q (.int z) H
def lS (K:W.Frag):Sp:=fun vs H Q _=>∃(s:Addr) (ns:List Int),vs=[.ref s]∧SqL K H s (ns.map V.int)∧ns.length≤63∧∀z:Int,1≤z→z≤10000000000→Q (.int z) H
theorem HD {k:Int} (h0:0≤k) (h1:k≤100000):0≤k*k∧k*k≤10000000000:=by
 refine ⟨Int.mul_nonneg h0 h0,?_⟩
 have:=Int.mul_le_mul h1 h1 h0 (by decide:(0:Int)≤100000)
 omega
def pV (K:W.Frag) (cR:Addr):Sp:=fun vs H Q _=>∃(s:Addr) (ns:List Int) (k:Nat) (u:Int),vs=[.ref s,.int (k:Int),.int u]∧SqL K H s (ns.map V.int)∧ns.length≤63∧k<8∧1≤u∧u≤10000000000∧∀(x:Addr) (r:RC) (H':Hp),r.good k→Same H H'→H x=none→RcAt cR H' x r→Q (.ref x) H'
def rW (K:W.Frag) (cs:Kd→Addr):Sp:=fun vs H Q _=>∃(s:Addr) (ns:List Int) (k n:Nat) (u:Int),vs=[.ref s,.int (k:Int),.int (n:Int),.int u]∧SqL K H s (ns.map V.int)∧ns.length≤63∧k<4∧2≤n∧n≤8∧1≤u∧u≤10000000000∧∀(x:Addr) (l:LC) (H':Hp),l.good n→Same H H'→H x=none→LkO cs H' (.ref x) l→Q (.ref x) H'
def oW (K:W.Frag):Sp:=fun vs H Q _=>∃(s:Addr) (ns:List Int) (k n:Nat) (u:Int),vs=[.ref s,.int (k:Int),.int (n:Int),.int u]∧SqL K H s (ns.map V.int)∧ns.length≤63∧k<6∧n≤8∧1≤u∧u≤10000000000∧∀(l:Addr) (p:List (Int×Int)) (H':Hp),p.length=n→(∀q∈p,0≤q.1∧0≤q.2)→Same H H'→H l=none→NAt [] H' (.ref l) p→Q (.ref l) H'
def p7 (K:W.Frag) (cs:Kd→Addr) (cR cN:Addr):Sp:=fun vs H Q _=>∃(s:Addr) (ns:List Int) (mr ml mn:Nat),vs=[.ref s,.int (mr:Int),.int (ml:Int),.int (mn:Int)]∧SqL K H s (ns.map V.int)∧ns.length≤63∧2≤mr∧mr≤8∧1≤ml∧ml≤4∧mn≤5∧∀(x:Addr) (R:List RC) (L:List LC) (N:List (List (Int×Int))) (H':Hp),Drawn R L N→(∀p∈N,∀q∈p,0≤q.1∧0≤q.2)→2≤R.length→1≤L.length→Same H H'→H x=none→CnAt cs cR cN [] H' x R L N→Q (.ref x) H'
theorem tQ (zs:List Str) {k:Nat} (h:k<zs.length):∃z:Str,qC (zs.map V.str) (k:Int)=some (.str z):=⟨zs[k],kE (by rw [List.getElem?_map,List.getElem?_eq_getElem h];rfl)⟩
theorem gA (zs:List Int) {i:Int} (h0:0≤i) (h:i<(zs.length:Int)):∃z∈zs,qC (zs.map V.int) i=some (.int z):=by
 have hl:i.toNat<zs.length:=by omega
 have:=kE (xs:=zs.map V.int) (j:=i.toNat) (v:=.int zs[i.toNat]) (by rw [List.getElem?_map,List.getElem?_eq_getElem hl];rfl)
 rw [show ((i.toNat:Nat):Int)=i by omega] at this
 exact ⟨_,List.getElem_mem hl,this⟩
theorem J3 {a u:Int} {m:Int} (h0:0≤a) (h1:a≤m) (u0:1≤u) (u1:u≤10000000000) (hm:0≤m):0≤a*u∧a*u≤m*10000000000:=by
 refine ⟨Int.mul_nonneg h0 (by omega),?_⟩
 exact Int.mul_le_mul h1 u1 (by omega) hm
def dG (b:Bool):Str:=if b then "up" else "down"
def qX (L:List LC) (p:Nat×Bool):Int×Int:=match L[p.1]? with
 |some l=>if p.2 then (l.low,l.high) else (l.high,l.low)
 |none=>(0,0)
theorem JX {L:List LC} {k:Nat} {l:LC} (h:L[k]?=some l):qX L (k,true)=(l.low,l.high):=by unfold qX;rw [h];rfl
theorem JT {L:List LC} {k:Nat} {l:LC} (h:L[k]?=some l):qX L (k,false)=(l.high,l.low):=by unfold qX;rw [h];rfl
def PAt (H:Hp) (v:V) (p:Nat×Bool):Prop:=∃t,v=.ref t∧H t=some (.tup [.int (p.1:Int),.str (dG p.2)])
theorem PAt.same {H H':Hp} (e:Same H H') (v:V) (p:Nat×Bool):PAt H v p→PAt H' v p:=fun ⟨t,h1,h2⟩=>⟨t,h1,e _ _ h2⟩
theorem PAt.put {H:Hp} {d:Addr} {ys:List V} {o:HO} (hd:H d=some (.lst ys)) (v:V) (p:Nat×Bool):PAt H v p→PAt (upd H d o) v p:=fun ⟨t,h1,h2⟩=>⟨t,h1,by rw [kC (fun z=>by rw [z,hd] at h2;cases h2)];exact h2⟩
def kY (L:List LC) (s:Int) (ps:List (Nat×Bool)):List Int:=s::ps.map fun p=>(qX L p).2
def QD (L:List LC) (s:Int) (ps:List (Nat×Bool)):Prop:=∀(j:Nat) (p:Nat×Bool),ps[j]?=some p→(kY L s ps)[j]?=some (qX L p).1
theorem iV (L:List LC) (s:Int) (ps:List (Nat×Bool)) (p:Nat×Bool):kY L s (ps++[p])=kY L s ps++[(qX L p).2]:=by unfold kY;rw [List.map_append];rfl
theorem dZ (L:List LC) (s:Int) (ps:List (Nat×Bool)):(kY L s ps).length=ps.length+1:=by unfold kY;rw [List.length_cons,List.length_map]
theorem DH (L:List LC) (s:Int) (ps:List (Nat×Bool)) (i:Nat):(kY L s ps).take (i+1)=kY L s (ps.take i):=by unfold kY;rw [List.take_succ_cons,List.map_take]
theorem FJ {L:List LC} {s:Int} {ps:List (Nat×Bool)} {j:Nat} (h:j<ps.length+1):(kY L s ps)[j]?=(kY L s (ps.take j))[j]?:=by
 rw [← DH,List.getElem?_take,if_pos (by omega)]
theorem oI {R:List RC} {L:List LC} {N:List (List (Int×Int))} (d:Drawn R L N) {p:Nat×Bool} (h:p.1<L.length):∃l,L[p.1]?=some l∧l.good R.length:=⟨_,List.getElem?_eq_getElem h,d.lock _ _ (List.getElem?_eq_getElem h)⟩
def J8 (L:List LC) (r:Int) (k:Nat):List (Nat×Bool):=match L[k]? with
 |some l=>(if l.low=r then [(k,true)] else [])++(if l.high=r then [(k,false)] else [])
 |none=>[]
def JV (L:List LC) (r:Int) (n:Nat):List (Nat×Bool):=(List.range n).flatMap (J8 L r)
def fN (L:List LC) (r:Int):List (Nat×Bool):=JV L r L.length
theorem iE (L:List LC) (r:Int) (n:Nat):JV L r (n+1)=JV L r n++J8 L r n:=by unfold JV;rw [List.range_succ,List.flatMap_append];simp
theorem turnK_mem {L:List LC} {r:Int} {k:Nat} {p:Nat×Bool}:p∈J8 L r k↔p.1=k∧k<L.length∧(qX L p).1=r:=by
 unfold J8
 by_cases hk:k<L.length
 ·rw [List.getElem?_eq_getElem hk]
  show p∈(if L[k].low=r then [(k,true)] else [])++(if L[k].high=r then [(k,false)] else [])↔_
  rw [List.mem_append]
  have e1:=JX (List.getElem?_eq_getElem hk)
  have e2:=JT (List.getElem?_eq_getElem hk)
  obtain ⟨pk,pb⟩:=p
  constructor
  ·rintro (h|h)
   ·split at h
    ·cases List.mem_singleton.mp h;rw [e1];exact ⟨rfl,hk,by assumption⟩
    ·cases h
   ·split at h
    ·cases List.mem_singleton.mp h;rw [e2];exact ⟨rfl,hk,by assumption⟩
    ·cases h
  ·rintro ⟨h1,_,h3⟩
   have h1:pk=k:=h1
   subst h1
   cases pb
   ·rw [e2] at h3;exact .inr (by rw [if_pos h3];simp)
   ·rw [e1] at h3;exact .inl (by rw [if_pos h3];simp)
 ·rw [List.getElem?_eq_none (by omega)]
  constructor
  ·intro h;cases h
  ·intro h;omega
theorem turns_mem {L:List LC} {r:Int} {p:Nat×Bool}:p∈fN L r↔p.1<L.length∧(qX L p).1=r:=by
 unfold fN JV
 rw [List.mem_flatMap]
 constructor
 ·rintro ⟨k,hk,h⟩
  obtain ⟨h1,h2,h3⟩:=turnK_mem.mp h
  exact ⟨by omega,h3⟩
 ·rintro ⟨h1,h2⟩
  exact ⟨p.1,List.mem_range.mpr h1,turnK_mem.mpr ⟨rfl,h1,h2⟩⟩
theorem CZ (L:List LC) (r:Int) (k:Nat):(J8 L r k).length≤2:=by
 unfold J8
 split
 ·rw [List.length_append];split<;>split<;>simp
 ·exact Nat.zero_le _
theorem BT (L:List LC) (r:Int) (n:Nat):(JV L r n).length≤2*n:=by
 induction n with
 |zero=>exact Nat.le_refl _
 |succ n ih=>rw [iE,List.length_append];have:=CZ L r n;omega
def rS (cs:Kd→Addr) (cR cN:Addr):Sp:=fun vs H Q _=>∃(x:Addr) (r:Int) (D:List Addr) (R:List RC) (L:List LC) (N:List (List (Int×Int))),vs=[.ref x,.int r]∧CnAt cs cR cN D H x R L N∧L.length≤8∧∀(l:Addr) (us:List V) (H':Hp),Same H H'→H l=none→H' l=some (.lst us)→AllAt (PAt H') us (fN L r)→Q (.ref l) H'
def tI (cs:Kd→Addr):Sp:=fun vs H Q _=>∃(y:Addr) (l:LC) (b:Bool),vs=[.ref y,.str (dG b)]∧LkO cs H (.ref y) l∧∀(t:Addr) (H':Hp),Same H H'→H t=none→H' t=some (.tup [.int (if b then l.low else l.high),.int (if b then l.high else l.low)])→Q (.ref t) H'
theorem lZ (b:Bool):decide (V.str (dG b)=V.str "up")=b:=by
 cases b
 ·exact decide_eq_false fun h=>absurd (V.str.inj h) (by decide +kernel)
 ·exact decide_eq_true rfl
theorem D9 {L:List LC} {s:Int} {ps:List (Nat×Bool)} {p:Nat×Bool} {a:Int} (h:(kY L s ps)[ps.length]?=some a):QD L s (ps++[p])↔QD L s ps∧(qX L p).1=a:=by
 have e:∀j,j≤ps.length→(kY L s (ps++[p]))[j]?=(kY L s ps)[j]?:=fun j hj=>by
  rw [iV,List.getElem?_append_left (by rw [dZ];omega)]
 constructor
 ·intro ok
  refine ⟨fun j q hq=>?_,?_⟩
  ·have hj:j<ps.length:=(List.getElem?_eq_some_iff.mp hq).1
   have:=ok j q (by rw [List.getElem?_append_left hj];exact hq)
   rwa [e j (by omega)] at this
  ·have:=ok ps.length p (by rw [List.getElem?_append_right (Nat.le_refl _),Nat.sub_self];rfl)
   rw [e _ (Nat.le_refl _),h] at this
   exact (Option.some.inj this).symm
 ·rintro ⟨ok,ha⟩ j q hq
  by_cases hj:j<ps.length
  ·rw [List.getElem?_append_left hj] at hq
   rw [e j (by omega)]
   exact ok j q hq
  ·rw [List.getElem?_append_right (by omega)] at hq
   have hz:j - ps.length=0:=by
    have:=(List.getElem?_eq_some_iff.mp hq).1
    rw [List.length_singleton] at this
    omega
   rw [hz] at hq
   cases hq
   rw [show j=ps.length by omega,e _ (Nat.le_refl _),h,ha]
def cY (R:List RC) (L:List LC) (i:Nat) (z:Int):Prop:=(i<R.length→0≤z)∧(∀(k:Nat) (l:LC),i=R.length+k→L[k]?=some l→z=0∨z=l.room)∧(∀(k:Nat) (l:LC),i=R.length+L.length+k→L[k]?=some l→0≤z∧(l.kd=.basin→z≤l.extra)∧(l.kd≠.basin→z=0))∧(i=R.length+2*L.length→0≤z)
def StTo (R:List RC) (L:List LC) (ms:List Int):Prop:=∀(i:Nat) (z:Int),ms[i]?=some z→cY R L i z
structure StOk (R:List RC) (L:List LC) (ms:List Int):Prop where
 len:ms.length=R.length+2*L.length+2
 to:StTo R L ms
theorem StTo.snoc {R:List RC} {L:List LC} {ms:List Int} {z:Int} {n:Nat} (h:StTo R L ms) (hn:ms.length=n) (hz:cY R L n z):StTo R L (ms++[z]):=fun i w hw=>by
 by_cases hl:i<ms.length
 ·rw [List.getElem?_append_left hl] at hw
  exact h i w hw
 ·rw [List.getElem?_append_right (by omega)] at hw
  have h0:i - ms.length=0:=by
   have:=(List.getElem?_eq_some_iff.mp hw).1
   rw [List.length_singleton] at this
   omega
  rw [h0] at hw
  cases hw
  rw [show i=n by omega]
  exact hz
theorem StTo.nil (R:List RC) (L:List LC):StTo R L []:=fun i z h=>by cases h
theorem CU {R:List RC} {L:List LC} {i:Nat} {z:Int} (h:i<R.length) (hz:0≤z):cY R L i z:=⟨fun _=>hz,fun k l e=>absurd e (by omega),fun k l e=>absurd e (by omega),fun _=>hz⟩
theorem DS {R:List RC} {L:List LC} {i:Nat} {z:Int} {l:LC} (h:L[i]?=some l) (hz:z=0∨z=l.room):cY R L (R.length+i) z:=by
 have hi:=(List.getElem?_eq_some_iff.mp h).1
 refine ⟨fun h=>absurd h (by omega),fun k l' e hl=>?_,fun k l' e=>absurd e (by omega),fun e=>absurd e (by omega)⟩
 have:k=i:=by omega
 subst this
 rw [h] at hl
 cases hl
 exact hz
theorem ES {R:List RC} {L:List LC} {i:Nat} {z:Int} {l:LC} (h:L[i]?=some l) (hz:0≤z∧(l.kd=.basin→z≤l.extra)∧(l.kd≠.basin→z=0)):cY R L (R.length+L.length+i) z:=by
 have hi:=(List.getElem?_eq_some_iff.mp h).1
 refine ⟨fun h=>absurd h (by omega),fun k l' e hl=>?_,fun k l' e hl=>?_,fun e=>absurd e (by omega)⟩
 ·have:=(List.getElem?_eq_some_iff.mp hl).1
  omega
 have:k=i:=by omega
 subst this
 rw [h] at hl
 cases hl
 exact hz
theorem rQ {R:List RC} {L:List LC} {i:Nat} {z:Int} (h:R.length+2*L.length≤i) (hz:i=R.length+2*L.length→0≤z):cY R L i z:=by
 refine ⟨fun h=>absurd h (by omega),fun k l' e hl=>?_,fun k l' e hl=>?_,hz⟩<;>(have:=(List.getElem?_eq_some_iff.mp hl).1;omega)
theorem cS {P:Prop} {i:Decidable P} (h:¬P):(if @decide P i=true then (1:Int) else 0)=0:=if_neg (fun z=>h (of_decide_eq_true z))
theorem fT {P:Prop} {i:Decidable P} (h:P):(if @decide P i=true then (1:Int) else 0)=1:=if_pos (decide_eq_true h)
theorem fE (zs:List Int):(zs.map V.int).all qY=true:=by
 rw [List.all_eq_true]
 intro x hx
 obtain ⟨z,_,rfl⟩:=List.mem_map.mp hx
 rfl
abbrev kG:=Int×List (Nat×Bool)
def WyAt (H:Hp) (v:V) (y:kG):Prop:=∃(t st:Addr) (us:List V),v=.ref t∧H t=some (.tup [.int y.1,.ref st])∧H st=some (.tup us)∧AllAt (PAt H) us y.2
theorem WyAt.same {H H':Hp} (e:Same H H') (v:V) (y:kG):WyAt H v y→WyAt H' v y:=fun ⟨t,st,us,h1,h2,h3,h4⟩=>⟨t,st,us,h1,e _ _ h2,e _ _ h3,h4.mono (PAt.same e)⟩
theorem WyAt.put {H:Hp} {d:Addr} {ys:List V} {o:HO} (hd:H d=some (.lst ys)) (v:V) (y:kG):WyAt H v y→WyAt (upd H d o) v y:=fun ⟨t,st,us,h1,h2,h3,h4⟩=>⟨t,st,us,h1,by rw [kC (fun z=>by rw [z,hd] at h2;cases h2)];exact h2,by rw [kC (fun z=>by rw [z,hd] at h3;cases h3)];exact h3,h4.mono (PAt.put hd)⟩
structure WyOk (L:List LC) (y:kG):Prop where
 lt:∀p∈y.2,p.1<L.length
 ok:QD L y.1 y.2
 le:y.2.length≤8
def StAt (H:Hp) (t:Addr) (d:Int) (ms:List Int) (pl:List Nat):Prop:=∃wt pt:Addr,H t=some (.tup [.int d,.ref wt,.ref pt])∧H wt=some (.tup (ms.map V.int))∧H pt=some (.tup (pl.map fun (p:Nat)=>V.int (p:Int)))
theorem StAt.same {H H':Hp} {t:Addr} {d:Int} {ms:List Int} {pl:List Nat} (e:Same H H') (h:StAt H t d ms pl):StAt H' t d ms pl:=by
 obtain ⟨wt,pt,h1,h2,h3⟩:=h
 exact ⟨wt,pt,e _ _ h1,e _ _ h2,e _ _ h3⟩
structure Fleet (L:List LC) (ys:List kG) (pl:List Nat):Prop where
 len:pl.length=ys.length
 n10:ys.length≤10
 ok:∀y∈ys,WyOk L y
 le:∀(i:Nat) (y:kG) (p:Nat),ys[i]?=some y→pl[i]?=some p→p≤y.2.length
def tU (K:W.Frag) (cs:Kd→Addr) (cR cN:Addr):Sp:=fun vs H Q _=>∃(s x:Addr) (ns:List Int) (k mo:Nat) (D:List Addr) (R:List RC) (L:List LC) (N:List (List (Int×Int))),vs=[.ref s,.int (k:Int),.ref x,.int (mo:Int)]∧SqL K H s (ns.map V.int)∧ns.length≤63∧k<20∧1≤mo∧mo≤8∧CnAt cs cR cN D H x R L N∧Drawn R L N∧1≤L.length∧∀(t:Addr) (y:kG) (H':Hp),WyOk L y→Same H H'→H t=none→WyAt H' (.ref t) y→Q (.ref t) H'
def EndAt (L:List LC) (r:Int):Prop:=∃p:Nat×Bool,p.1<L.length∧(qX L p).1=r
theorem EndAt.turns {L:List LC} {r:Int} (h:EndAt L r):0<(fN L r).length:=by
 obtain ⟨p,h1,h2⟩:=h
 exact List.length_pos_of_mem (turns_mem.mpr ⟨h1,h2⟩)
theorem EndAt.next {L:List LC} {p:Nat×Bool} (h:p.1<L.length):EndAt L (qX L p).2:=by
 obtain ⟨pk,pb⟩:=p
 have e:=List.getElem?_eq_getElem h
 cases pb
 ·exact ⟨(pk,true),h,by rw [JX e,JT e]⟩
 ·exact ⟨(pk,false),h,by rw [JX e,JT e]⟩
def rT (K:W.Frag) (cs:Kd→Addr) (cR cN:Addr):Sp:=fun vs H Q _=>∃(s x wl:Addr) (ns:List Int) (us:List V) (ys:List kG) (D:List Addr) (R:List RC) (L:List LC) (N:List (List (Int×Int))),vs=[.ref s,.ref x,.ref wl]∧SqL K H s (ns.map V.int)∧ns.length≤63∧CnAt cs cR cN D H x R L N∧Drawn R L N∧H wl=some (.lst us)∧AllAt (WyAt H) us ys∧ys.length≤10∧(∀y∈ys,WyOk L y)∧
 ∀(st:Addr) (d:Int) (ms:List Int) (pl:List Nat) (H':Hp),Same H H'→StAt H' st d ms pl→Fleet L ys pl→0≤d→d≤(N.length:Int)→StOk R L ms→Q (.ref st) H'
theorem E7 (L:List LC) (s:Int):QD L s []:=fun j p hp=>by cases hp
theorem iH:∀(l:List Int) (i:Nat) (z:Int),i<l.length→(l.set i z).sum=l.sum - l.getD i 0+z
 |[],i,z,h=>by simp at h
 |x::l,0,z,h=>by simp;omega
 |x::l,i+1,z,h=>by
  show x+(l.set i z).sum=(x+l.sum) - l.getD i 0+z
  rw [iH l i z (by simpa using h)]
  omega
theorem DY (ms:List Int) (q:Nat×Nat×Int) (h1:q.1<ms.length) (h2:q.2.1<ms.length):(pour ms q).sum=ms.sum:=by
 unfold pour
 rw [iH _ _ _ (by rw [List.length_set];exact h2),iH _ _ _ h1]
 omega
theorem nU:∀(qs:List (Nat×Nat×Int)) (ms:List Int),(∀q∈qs,q.1<ms.length∧q.2.1<ms.length)→(j9 ms qs).sum=ms.sum
 |[],ms,_=>rfl
 |q::r,ms,h=>by
  show (j9 (pour ms q) r).sum=_
  have hq:=h q (List.mem_cons_self ..)
  rw [nU r (pour ms q) (fun q' h'=>by rw [dP];exact h q' (List.mem_cons_of_mem _ h')),DY ms q hq.1 hq.2]
theorem atI_last {xs:List V} {v:V} {n:Nat} (hn:xs.length=n+1) (h:xs[n]?=some v):qC xs (-1)=some v:=by
 have e:yL xs.length (-1)=some n:=by
  unfold yL
  rw [if_neg (by decide),if_pos (by omega)]
  congr 1
  omega
 unfold qC
 rw [e]
 exact h
def pY (K:W.Frag) (cs:Kd→Addr) (cR cN eL:Addr):Sp:=fun vs H Q E=>∃(x st:Addr) (s:Int) (us:List V) (ps:List (Nat×Bool)) (D:List Addr) (R:List RC) (L:List LC) (N:List (List (Int×Int))),vs=[.ref x,.int s,.ref st]∧CnAt cs cR cN D H x R L N∧H st=some (.tup us)∧AllAt (PAt H) us ps∧(∀p∈ps,p.1<L.length)∧ps.length≤100∧
 (QD L s ps→∀(r:Addr) (H':Hp),Same H H'→H r=none→H' r=some (.lst ((kY L s ps).map V.int))→Q (.ref r) H')∧(¬QD L s ps→∀H',Same H H'→E (.ref eL) none H')
def iP (K:W.Frag) (cs:Kd→Addr) (cR cN:Addr):Sp:=fun vs H Q _=>∃(x st:Addr) (s:Int) (us:List V) (ps:List (Nat×Bool)) (D:List Addr) (R:List RC) (L:List LC) (N:List (List (Int×Int))),vs=[.ref x,.int s,.ref st]∧CnAt cs cR cN D H x R L N∧H st=some (.tup us)∧AllAt (PAt H) us ps∧(∀p∈ps,p.1<L.length)∧ps.length≤100∧QD L s ps∧
 ∀(r:Addr) (H':Hp),Same H H'→H r=none→H' r=some (.lst ((kY L s ps).map V.int))→Q (.ref r) H'
theorem CI {K:W.Frag} {cs:Kd→Addr} {cR cN eL:Addr}:∀vs H Q E,iP K cs cR cN vs H Q E→pY K cs cR cN eL vs H Q (fun _ _ _=>False):=by
 rintro vs H Q E ⟨x,st,s,us,ps,D,R,L,N,e,h1,h2,h3,h4,h5,h6,q⟩
 exact ⟨x,st,s,us,ps,D,R,L,N,e,h1,h2,h3,h4,h5,fun _=>q,fun hno=>absurd h6 hno⟩
def StI (H:Hp) (t:Addr) (d:Int) (ms ps:List Int):Prop:=∃wt pt:Addr,H t=some (.tup [.int d,.ref wt,.ref pt])∧H wt=some (.tup (ms.map V.int))∧H pt=some (.tup (ps.map V.int))
theorem StI.same {H H':Hp} {t:Addr} {d:Int} {ms ps:List Int} (e:Same H H') (h:StI H t d ms ps):StI H' t d ms ps:=by
 obtain ⟨wt,pt,h1,h2,h3⟩:=h
 exact ⟨wt,pt,e _ _ h1,e _ _ h2,e _ _ h3⟩
theorem StAt.toI {H:Hp} {t:Addr} {d:Int} {ms:List Int} {pl:List Nat} (h:StAt H t d ms pl):StI H t d ms (pl.map fun (p:Nat)=>(p:Int)):=by
 obtain ⟨wt,pt,h1,h2,h3⟩:=h
 exact ⟨wt,pt,h1,h2,by rw [List.map_map];exact h3⟩
theorem dQ (p:Str×Str×Int→Bool) (f:Str×Int→Str×Str×Int) (hf:∀q,(f q).2.2=q.2):∀ps:List (Str×Int),(vM p ((ps.filter qN).map f)).sum=(vM p (ps.map f)).sum
 |[]=>rfl
 |q::r=>by
  have ih:=dQ p f hf r
  have e:∀(z:Str×Str×Int) (l:List (Str×Str×Int)),(vM p (z::l)).sum=(if p z=true then z.2.2 else 0)+(vM p l).sum:=by
   intro z l
   unfold vM
   rw [List.filter_cons]
   split
   ·rw [List.map_cons,List.sum_cons]
   ·rw [Int.zero_add]
  rw [List.map_cons,e,List.filter_cons]
  by_cases hz:q.2=0
  ·rw [if_neg (by unfold qN;rw [decide_eq_true hz];decide),ih,hf,hz]
   split<;>rw [Int.zero_add]
  ·rw [if_pos (by unfold qN;rw [decide_eq_false hz];rfl),List.map_cons,e,ih]
theorem DP (room v b:Int):vL b (qH .basin room v b)=v:=by
 unfold vL fZ qH yE
 rw [dQ _ _ (fun _=>rfl),dQ _ _ (fun _=>rfl)]
 have e1:vM (toS "basin") (([("basin",v - b),("low",room - (v - b))]:List (Str×Int)).map fun p=>("chamber",p.1,p.2))=[v - b]:=by
  show List.map _ (List.filter _ [(("chamber":Str),("basin":Str),v - b),("chamber","low",room - (v - b))])=_
  rw [List.filter_cons,if_pos (show toS "basin" (("chamber":Str),("basin":Str),v - b)=true from decide_eq_true rfl),List.filter_cons,if_neg (show ¬toS "basin" (("chamber":Str),("low":Str),room - (v - b))=true from fun h=>absurd (of_decide_eq_true h) (show ¬("low":Str)="basin" by decide +kernel))]
  rfl
 have e2:vM (zE "basin") (([("basin",v - b),("low",room - (v - b))]:List (Str×Int)).map fun p=>("chamber",p.1,p.2))=[]:=by
  show List.map _ (List.filter _ [(("chamber":Str),("basin":Str),v - b),("chamber","low",room - (v - b))])=_
  have n0:¬("chamber":Str)="basin":=by decide +kernel
  rw [List.filter_cons,if_neg (show ¬zE "basin" (("chamber":Str),("basin":Str),v - b)=true from fun h=>n0 (of_decide_eq_true h)),List.filter_cons,if_neg (show ¬zE "basin" (("chamber":Str),("low":Str),room - (v - b))=true from fun h=>n0 (of_decide_eq_true h))]
  rfl
 rw [e1,e2]
 show b+(v - b+0) - 0=v
 omega
theorem CN (room v b:Int):vL b (qP .basin room v b)=0:=by
 unfold vL fZ qP yI
 rw [dQ _ _ (fun _=>rfl),dQ _ _ (fun _=>rfl)]
 have e1:vM (zE "basin") (([("basin",b),("high",room - b)]:List (Str×Int)).map fun p=>(p.1,"chamber",p.2))=[b]:=by
  show List.map _ (List.filter _ [(("basin":Str),("chamber":Str),b),("high","chamber",room - b)])=_
  rw [List.filter_cons,if_pos (show zE "basin" (("basin":Str),("chamber":Str),b)=true from decide_eq_true rfl),List.filter_cons,if_neg (show ¬zE "basin" (("high":Str),("chamber":Str),room - b)=true from fun h=>absurd (of_decide_eq_true h) (show ¬("high":Str)="basin" by decide +kernel))]
  rfl
 have e2:vM (toS "basin") (([("basin",b),("high",room - b)]:List (Str×Int)).map fun p=>(p.1,"chamber",p.2))=[]:=by
  show List.map _ (List.filter _ [(("basin":Str),("chamber":Str),b),("high","chamber",room - b)])=_
  have n0:¬("chamber":Str)="basin":=by decide +kernel
  rw [List.filter_cons,if_neg (show ¬toS "basin" (("basin":Str),("chamber":Str),b)=true from fun h=>n0 (of_decide_eq_true h)),List.filter_cons,if_neg (show ¬toS "basin" (("high":Str),("chamber":Str),room - b)=true from fun h=>n0 (of_decide_eq_true h))]
  rfl
 rw [e1,e2]
 show b+0 - (b+0)=0
 omega
def QC (ms:List Int) (W:List (Int×Int)) (r:Nat):Int:=if ms.getD r 0<(W.getD r (0,0)).2 then ms.getD r 0 else (W.getD r (0,0)).2
def QB (k:Nat) (ms:List Int) (W:List (Int×Int)) (n:Nat):List (Nat×Nat×Int):=(List.range n).map fun r=>(r,k,QC ms W r)
def J9 (k:Nat) (W:List (Int×Int)) (n:Nat):List (Nat×Nat×Int):=(List.range n).map fun r=>(k,r,(W.getD r (0,0)).1)
def vK (k:Nat) (ms:List Int) (W:List (Int×Int)) (n:Nat):List (Nat×Nat×Int):=QB k ms W n++J9 k W n
theorem cJ (k:Nat) (ms:List Int) (W:List (Int×Int)) (n:Nat):(QB k ms W n).length=n:=by unfold QB;rw [List.length_map,List.length_range]
theorem cH (k:Nat) (W:List (Int×Int)) (n:Nat):(J9 k W n).length=n:=by unfold J9;rw [List.length_map,List.length_range]
theorem oE (k:Nat) (ms:List Int) (W:List (Int×Int)) (n:Nat):(vK k ms W n).length=n+n:=by unfold vK;rw [List.length_append,cJ,cH]
theorem oS {k:Nat} {ms:List Int} {W:List (Int×Int)} {n i:Nat} (h:i<n):(QB k ms W n).take (i+1)=(QB k ms W n).take i++[(i,k,QC ms W i)]:=by
 rw [List.take_add_one]
 unfold QB
 rw [List.getElem?_map,List.getElem?_range h]
 rfl
theorem oC {k:Nat} {W:List (Int×Int)} {n i:Nat} (h:i<n):(J9 k W n).take (i+1)=(J9 k W n).take i++[(k,i,(W.getD i (0,0)).1)]:=by
 rw [List.take_add_one]
 unfold J9
 rw [List.getElem?_map,List.getElem?_range h]
 rfl
theorem C6 {k:Nat} {ms:List Int} {W:List (Int×Int)} {n m:Nat} (hk:k<m) (hn:n≤m):∀q∈vK k ms W n,q.1<m∧q.2.1<m:=fun q hq=>by
 rcases List.mem_append.mp hq with h|h
 ·obtain ⟨r,hr,rfl⟩:=List.mem_map.mp h
  have:=List.mem_range.mp hr
  exact ⟨by show r<m;omega,hk⟩
 ·obtain ⟨r,hr,rfl⟩:=List.mem_map.mp h
  have:=List.mem_range.mp hr
  exact ⟨hk,by show r<m;omega⟩
theorem gO {W:List (Int×Int)} {i:Nat} {y:Int×Int} (h:W[i]?=some y):W.getD i (0,0)=y:=by rw [List.getD_eq_getElem?_getD,h];rfl
theorem fO {ms:List Int} {W:List (Int×Int)} {i:Nat} {y:Int×Int} (h:W[i]?=some y):QC ms W i=if ms.getD i 0<y.2 then ms.getD i 0 else y.2:=by unfold QC;rw [gO h]
theorem pP {ms:List Int} {W:List (Int×Int)} {i:Nat} {y:Int×Int} (h:W[i]?=some y):QC ms W i=if y.2<ms.getD i 0 then y.2 else ms.getD i 0:=by rw [fO h];split<;>split<;>omega
def EB (R:List RC) (m:Nat) (ms:List Int) (W:List (Int×Int)) (gs:List Int):List (Nat×Nat×Int):=(vK (R.length+2*m+1) ms W R.length).filter kO++(kR (kA (j7 R m)) (fun a=>gs.getD a 0) (j7 R m).length).filter kO
def GB (R:List RC) (m:Nat) (ms:List Int) (W:List (Int×Int)):List Int:=j9 ms ((vK (R.length+2*m+1) ms W R.length).filter kO)
theorem iG {K:W.Frag} {H:Hp} {wq wa:Addr} {ws:List V} {R:List RC} {m:Nat} {ms:List Int} (hT:dD R) (h:AllAt (QAt H) ws (R.map (yP (yB R.length m)))) (hwq:H wq=some (.lst ws)) (hwa:Ints K H wa ms) (hms:ms.length=R.length+2*m+2) (h1:R.length≤100) (h2:m≤100):Ready K H wq wa ws (j7 R m) ms :=
 ⟨SqL.of hwq,by have:=DR (K:=K) hT h;rw [n4] at this;rw [hms];exact this,hwa,iF hT,by rw [JS];omega,by omega⟩
def pX (K:W.Frag) (cs:Kd→Addr) (cR cN:Addr):Sp:=fun vs H Q _=>∃(x t wl:Addr) (d:Int) (ms ps:List Int) (us:List V) (W:List (Int×Int)) (D:List Addr) (R:List RC) (L:List LC) (N:List (List (Int×Int))),vs=[.ref x,.ref t,.ref wl]∧CnAt cs cR cN D H x R L N∧StI H t d ms ps∧H wl=some (.lst us)∧AllAt (QAt H) us W∧W.length=R.length∧ms.length=R.length+2*L.length+2∧R.length≤100∧L.length≤100∧dD R∧
 ∀(r:Addr) (H':Hp) (gs:List Int) (ys:List V),Same H H'→H r=none→H' r=some (.lst ys)→PoursH H' ys (EB R L.length ms W gs) ms.length→Spl (j7 R L.length) (GB R L.length ms W) gs→Q (.ref r) H'
def kP (L:List LC) (y:kG) (p:Nat):Int:=if p=y.2.length then -1 else (kY L y.1 y.2).getD p 0
def tF:Sp:=fun vs H Q _=>∃(t:Addr) (y:kG) (p:Int),vs=[.ref t,.int p]∧WyAt H (.ref t) y∧Q (.int ((y.2.length:Int) - p)) H
def iO (cs:Kd→Addr) (cR cN:Addr):Sp:=fun vs H Q _=>∃(x t:Addr) (y:kG) (p:Nat) (D:List Addr) (R:List RC) (L:List LC) (N:List (List (Int×Int))),vs=[.ref x,.ref t,.int (p:Int)]∧CnAt cs cR cN D H x R L N∧WyAt H (.ref t) y∧WyOk L y∧p≤y.2.length∧∀H',Same H H'→Q (.int (kP L y p)) H'
def vB (L:List LC) (ys:List kG) (pl:List Nat):List Int:=(List.range ys.length).map fun i=>kP L (ys.getD i (0,[])) (pl.getD i 0)
def rV (cs:Kd→Addr) (cR cN:Addr):Sp:=fun vs H Q _=>∃(x wl st:Addr) (r:Int) (us:List V) (ys:List kG) (d:Int) (ms:List Int) (pl:List Nat) (D:List Addr) (R:List RC) (L:List LC) (N:List (List (Int×Int))),vs=[.ref x,.ref wl,.ref st,.int r]∧CnAt cs cR cN D H x R L N∧H wl=some (.lst us)∧AllAt (WyAt H) us ys∧StAt H st d ms pl∧Fleet L ys pl∧∀H',Same H H'→Q (.int (((vB L ys pl).countP fun z=>decide (z=r):Nat):Int)) H'
theorem GO (b:Bool):wv b=.str (dG b):=by cases b<;>rfl
def kX (r l k:Nat) (lc:LC) (s:Str):Nat:=if s="high" then lc.high.toNat else if s="low" then lc.low.toNat else if s="chamber" then r+k else r+l+k
def yV (r l k:Nat) (lc:LC) (q:Str×Str×Int):Nat×Nat×Int:=(kX r l k lc q.1,kX r l k lc q.2.1,q.2.2)
inductive okW:Str→Prop
 |high:okW "high"
 |low:okW "low"
 |cham:okW "chamber"
 |bas:okW "basin"
theorem dU (r l k:Nat) (lc:LC):kX r l k lc "high"=lc.high.toNat:=if_pos rfl
theorem d9 (r l k:Nat) (lc:LC):kX r l k lc "low"=lc.low.toNat:=by unfold kX;rw [if_neg (show ¬("low":Str)="high" by decide +kernel),if_pos rfl]
theorem fI (r l k:Nat) (lc:LC):kX r l k lc "chamber"=r+k:=by unfold kX;rw [if_neg (show ¬("chamber":Str)="high" by decide +kernel),if_neg (show ¬("chamber":Str)="low" by decide +kernel),if_pos rfl]
theorem cG (r l k:Nat) (lc:LC):kX r l k lc "basin"=r+l+k:=by unfold kX;rw [if_neg (show ¬("basin":Str)="high" by decide +kernel),if_neg (show ¬("basin":Str)="low" by decide +kernel),if_neg (show ¬("basin":Str)="chamber" by decide +kernel)]
theorem fV {r l k:Nat} {lc:LC} {s:Str} (h:okW s) (hg:lc.good r) (hk:k<l):kX r l k lc s<r+2*l+2:=by
 obtain ⟨g1,g2,g3,g4,_⟩:=hg
 cases h
 ·rw [dU];omega
 ·rw [d9];omega
 ·rw [fI];omega
 ·rw [cG];omega
def d4 (a b c d:V):List (j6×V):=[(.inr "high",a),(.inr "low",b),(.inr "chamber",c),(.inr "basin",d)]
theorem vN {s t:Str} (h:¬s=t):¬((Sum.inr s:j6)=(Sum.inr t:j6)):=fun e=>h (Sum.inr.inj e)
theorem GC (a b c d:V):Q3 [] [((.inr "high":j6),a),(.inr "low",b),(.inr "chamber",c),(.inr "basin",d)]=d4 a b c d:=by
 show vA (vA (vA (vA ([]:List (j6×V)) (Sum.inr "high") a) (Sum.inr "low") b) (Sum.inr "chamber") c) (Sum.inr "basin") d=_
 rw [QW a (valV_nil:qE [] (Sum.inr "high":j6)=none)]
 rw [QW b (by show qE [((.inr "high":j6),a)] (.inr "low")=none;rw [q0 (vN (by decide +kernel))];rfl)]
 rw [QW c (by show qE [((.inr "high":j6),a),(.inr "low",b)] (.inr "chamber")=none;rw [q0 (vN (by decide +kernel)),q0 (vN (by decide +kernel))];rfl)]
 rw [QW d (by show qE [((.inr "high":j6),a),(.inr "low",b),(.inr "chamber",c)] (.inr "basin")=none;rw [q0 (vN (by decide +kernel)),q0 (vN (by decide +kernel)),q0 (vN (by decide +kernel))];rfl)]
 rfl
theorem HL {H:Hp} {p:Addr} {a b c d:V} (h:H p=some (.dK (d4 a b c d))):DGet H p (.str "high") (some a)∧DGet H p (.str "low") (some b)∧DGet H p (.str "chamber") (some c)∧DGet H p (.str "basin") (some d):=by
 have e1:qE (d4 a b c d) (.inr "high")=some a:=by unfold d4;rw [zL rfl]
 have e2:qE (d4 a b c d) (.inr "low")=some b:=by unfold d4;rw [q0 (vN (by decide +kernel)),zL rfl]
 have e3:qE (d4 a b c d) (.inr "chamber")=some c:=by unfold d4;rw [q0 (vN (by decide +kernel)),q0 (vN (by decide +kernel)),zL rfl]
 have e4:qE (d4 a b c d) (.inr "basin")=some d:=by unfold d4;rw [q0 (vN (by decide +kernel)),q0 (vN (by decide +kernel)),q0 (vN (by decide +kernel)),zL rfl]
 refine ⟨?_,?_,?_,?_⟩
 ·rw [← e1];exact DGet.k (k:=.inr "high") h
 ·rw [← e2];exact DGet.k (k:=.inr "low") h
 ·rw [← e3];exact DGet.k (k:=.inr "chamber") h
 ·rw [← e4];exact DGet.k (k:=.inr "basin") h
theorem i6 (kd:Kd) (room v b:Int):∀q∈qP kd room v b,okW q.1∧okW q.2.1:=fun q hq=>by
 obtain ⟨p,hp,rfl⟩:=List.mem_map.mp hq
 refine ⟨?_,.cham⟩
 cases kd
 ·have:=(List.mem_filter.mp hp).1
  rw [List.mem_singleton] at this
  rw [this];exact .high
 ·have:=(List.mem_filter.mp hp).1
  simp only [List.mem_cons,List.mem_nil_iff,or_false] at this
  rcases this with rfl|rfl
  ·exact .bas
  ·exact .high
 ·have:=(List.mem_filter.mp hp).1
  simp only [List.mem_cons,List.mem_nil_iff,or_false] at this
  rcases this with rfl|rfl
  ·exact .low
  ·exact .high
theorem eE (kd:Kd) (room v b:Int):∀q∈qH kd room v b,okW q.1∧okW q.2.1:=fun q hq=>by
 obtain ⟨p,hp,rfl⟩:=List.mem_map.mp hq
 refine ⟨.cham,?_⟩
 cases kd
 ·have:=(List.mem_filter.mp hp).1
  rw [List.mem_singleton] at this
  rw [this];exact .low
 ·have:=(List.mem_filter.mp hp).1
  simp only [List.mem_cons,List.mem_nil_iff,or_false] at this
  rcases this with rfl|rfl
  ·exact .bas
  ·exact .low
 ·have:=(List.mem_filter.mp hp).1
  rw [List.mem_singleton] at this
  rw [this];exact .low
theorem rA (kd:Kd) (room v:Int) (f:Bool) (b:Int) (w:Bool):∀q∈eN kd room v f b w,okW q.1∧okW q.2.1:=fun q hq=>by
 cases w<;>cases f
 ·rcases List.mem_append.mp hq with h|h
  ·exact i6 _ _ _ _ q h
  ·exact eE _ _ _ _ q h
 ·exact eE _ _ _ _ q hq
 ·exact i6 _ _ _ _ q hq
 ·rcases List.mem_append.mp hq with h|h
  ·exact eE _ _ _ _ q h
  ·exact i6 _ _ _ _ q h
def v5 (r:Nat) (ms:List Int) (k:Nat):Bool:=decide (0<ms.getD (r+k) 0)
def vQ (r:Nat) (L:List LC) (ms:List Int) (s:Nat×Bool):List (Nat×Nat×Int):=match L[s.1]? with
 |some l=>(eN l.kd l.room l.extra (v5 r ms s.1) (ms.getD (r+L.length+s.1) 0) s.2).map (yV r L.length s.1 l)
 |none=>[]
def JO (r:Nat) (L:List LC) (ms:List Int) (k:Nat):List (Nat×Nat×Int):=match L[k]? with
 |some l=>(qH l.kd l.room l.extra (ms.getD (r+L.length+k) 0)).map (yV r L.length k l)
 |none=>[]
def yC (R:List RC) (ms:List Int) (v:Nat):Bool:=match R[v]? with
 |some r=>decide (ms.getD v 0<r.least)
 |none=>false
def vO (R:List RC):List Int→List (Nat×Nat×Int)→Bool
 |_,[]=>false
 |ms,q::qs=>yC R (pour ms q) q.1||vO R (pour ms q) qs
def JD (R:List RC) (t:Int):Int:=match R[t.toNat]? with
 |some r=>r.berths
 |none=>0
def Q9 (R:List RC) (L:List LC) (ys:List kG) (ms:List Int) (pl:List Nat) (b:Nat):Str :=
 if pl.getD b 0=(ys.getD b (0,[])).2.length then "home" else
 if ¬kP L (ys.getD b (0,[])) (pl.getD b 0+1) = -1∧JD R (kP L (ys.getD b (0,[])) (pl.getD b 0+1))≤(((vB L ys pl).countP fun z=>decide (z=kP L (ys.getD b (0,[])) (pl.getD b 0+1)):Nat):Int) then "berth" else
 if vO R ms (vQ R.length L ms ((ys.getD b (0,[])).2.getD (pl.getD b 0) (0,true)))=true then "water" else ""
inductive Deed
 |pass (b:Nat)
 |let (k:Nat)
 |night
def yU:Deed→List V
 |.pass b=>[.str "pass",.int (b:Int)]
 |.let k=>[.str "let",.int (k:Int)]
 |.night=>[.str "night"]
def yK (R:List RC) (L:List LC) (n:Nat) (ys:List kG) (d:Int) (ms:List Int) (pl:List Nat):Deed→Str
 |.pass b=>Q9 R L ys ms pl b
 |.let k=>if v5 R.length ms k=true then "" else "empty"
 |.night=>if d<(n:Int) then "" else "over"
def zP (nb nl:Nat):Deed→Prop
 |.pass b=>b<nb
 |.let k=>k<nl
 |.night=>True
def lH (cs:Kd→Addr) (cR cN:Addr):Sp:=fun vs H Q _=>∃(x p:Addr) (k:Nat) (l:LC) (rs:List V) (ps:List (Str×Str×Int)) (D:List Addr) (R:List RC) (L:List LC) (N:List (List (Int×Int))),vs=[.ref x,.int (k:Int),.ref p]∧CnAt cs cR cN D H x R L N∧L[k]?=some l∧l.good R.length∧H p=some (.lst rs)∧PoursS H rs ps∧(∀q∈ps,okW q.1∧okW q.2.1)∧ps.length≤10∧
 ∀(r:Addr) (H':Hp) (zs:List V),Same H H'→H r=none→H' r=some (.lst zs)→PoursH H' zs (ps.map (yV R.length L.length k l)) (R.length+2*L.length+2)→Q (.ref r) H'
structure Stage (cs:Kd→Addr) (cR cN:Addr) (D:List Addr) (H:Hp) (x wl st:Addr) (us:List V) (R:List RC) (L:List LC) (N:List (List (Int×Int))) (ys:List kG) (d:Int) (ms:List Int) (pl:List Nat):Prop where
 cn:CnAt cs cR cN D H x R L N
 dr:Drawn R L N
 wls:H wl=some (.lst us)
 wys:AllAt (WyAt H) us ys
 sts:StAt H st d ms pl
 fl:Fleet L ys pl
 ml:ms.length=R.length+2*L.length+2
theorem Stage.same {cs:Kd→Addr} {cR cN:Addr} {D:List Addr} {H H':Hp} {x wl st:Addr} {us:List V} {R:List RC} {L:List LC} {N:List (List (Int×Int))} {ys:List kG} {d:Int} {ms:List Int} {pl:List Nat} (h:Stage cs cR cN D H x wl st us R L N ys d ms pl) (e:Same H H'):Stage cs cR cN D H' x wl st us R L N ys d ms pl:=⟨h.cn.same e,h.dr,e _ _ h.wls,h.wys.mono (WyAt.same e),h.sts.same e,h.fl,h.ml⟩
def tH:Sp:=fun vs H Q _=>∃(t:Addr) (y:kG) (p:Nat) (s:Nat×Bool),vs=[.ref t,.int (p:Int)]∧WyAt H (.ref t) y∧y.2[p]?=some s∧∀v,PAt H v s→Q v H
def o0 (cs:Kd→Addr) (cR cN:Addr):Sp:=fun vs H Q _=>∃(x wl st:Addr) (b:Nat) (r:RC) (us:List V) (ys:List kG) (d:Int) (ms:List Int) (pl:List Nat) (D:List Addr) (R:List RC) (L:List LC) (N:List (List (Int×Int))),vs=[.ref x,.ref wl,.ref st,.int (b:Int)]∧Stage cs cR cN D H x wl st us R L N ys d ms pl∧R[b]?=some r∧∀H',Same H H'→Q (.bl (decide (r.berths≤(((vB L ys pl).countP fun z=>decide (z=(b:Int)):Nat):Int)))) H'
def lG (cs:Kd→Addr) (cR cN:Addr):Sp:=fun vs H Q _=>∃(x wl st:Addr) (b:Nat) (us:List V) (ys:List kG) (y:kG) (p:Nat) (s:Nat×Bool) (d:Int) (ms:List Int) (pl:List Nat) (D:List Addr) (R:List RC) (L:List LC) (N:List (List (Int×Int))),vs=[.ref x,.ref wl,.ref st,.int (b:Int)]∧Stage cs cR cN D H x wl st us R L N ys d ms pl∧ys[b]?=some y∧pl[b]?=some p∧y.2[p]?=some s∧
 ∀(r:Addr) (H':Hp) (zs:List V),Same H H'→H r=none→H' r=some (.lst zs)→PoursH H' zs (vQ R.length L ms s) ms.length→Q (.ref r) H'
def rX (cs:Kd→Addr) (cR cN:Addr):Sp:=fun vs H Q _=>∃(x wl st:Addr) (k:Nat) (us:List V) (ys:List kG) (d:Int) (ms:List Int) (pl:List Nat) (D:List Addr) (R:List RC) (L:List LC) (N:List (List (Int×Int))),vs=[.ref x,.ref st,.int (k:Int)]∧Stage cs cR cN D H x wl st us R L N ys d ms pl∧k<L.length∧
 ∀(r:Addr) (H':Hp) (zs:List V),Same H H'→H r=none→H' r=some (.lst zs)→PoursH H' zs (JO R.length L ms k) ms.length→Q (.ref r) H'
def tV (cs:Kd→Addr) (cR cN:Addr):Sp:=fun vs H Q _=>∃(x w:Addr) (v:Nat) (ms:List Int) (D:List Addr) (R:List RC) (L:List LC) (N:List (List (Int×Int))),vs=[.ref x,.ref w,.int (v:Int)]∧CnAt cs cR cN D H x R L N∧H w=some (.tup (ms.map V.int))∧v<ms.length∧Q (.bl (yC R ms v)) H
def pU (cs:Kd→Addr) (cR cN:Addr):Sp:=fun vs H Q _=>∃(x w p:Addr) (ms:List Int) (zs:List V) (qs:List (Nat×Nat×Int)) (D:List Addr) (R:List RC) (L:List LC) (N:List (List (Int×Int))),vs=[.ref x,.ref w,.ref p]∧CnAt cs cR cN D H x R L N∧H w=some (.tup (ms.map V.int))∧H p=some (.lst zs)∧PoursH H zs qs ms.length∧ms.length≤1000∧∀H',Same H H'→Q (.bl (vO R ms qs)) H'
def tD (cs:Kd→Addr) (cR cN:Addr):Sp:=fun vs H Q _=>∃(x wl st:Addr) (b:Nat) (us:List V) (ys:List kG) (d:Int) (ms:List Int) (pl:List Nat) (D:List Addr) (R:List RC) (L:List LC) (N:List (List (Int×Int))),vs=[.ref x,.ref wl,.ref st,.int (b:Int)]∧Stage cs cR cN D H x wl st us R L N ys d ms pl∧b<ys.length∧∀H',Same H H'→Q (.str (Q9 R L ys ms pl b)) H'
def tE (cs:Kd→Addr) (cR cN:Addr):Sp:=fun vs H Q _=>∃(x wl st dd:Addr) (de:Deed) (us:List V) (ys:List kG) (d:Int) (ms:List Int) (pl:List Nat) (D:List Addr) (R:List RC) (L:List LC) (N:List (List (Int×Int))),vs=[.ref x,.ref wl,.ref st,.ref dd]∧Stage cs cR cN D H x wl st us R L N ys d ms pl∧H dd=some (.tup (yU de))∧zP ys.length L.length de∧∀H',Same H H'→Q (.str (yK R L N.length ys d ms pl de)) H'
theorem FR {L:List LC} {y:kG} {p:Nat} {s:Nat×Bool} (ok:WyOk L y) (hs:y.2[p]?=some s):kP L y p=(qX L s).1:=by
 have hp:=(List.getElem?_eq_some_iff.mp hs).1
 unfold kP
 rw [if_neg (by omega),List.getD_eq_getElem?_getD,ok.ok p s hs]
 rfl
theorem EL {R:List RC} {L:List LC} {N:List (List (Int×Int))} (d:Drawn R L N) {s:Nat×Bool} (h:s.1<L.length):0≤(qX L s).1∧(qX L s).1<(R.length:Int):=by
 obtain ⟨l,hl,g1,g2,g3,g4,_⟩:=oI d h
 obtain ⟨k,b⟩:=s
 cases b
 ·rw [JT hl];show 0≤l.high∧l.high<_;omega
 ·rw [JX hl];show 0≤l.low∧l.low<_;omega
theorem fX {R:List RC} {L:List LC} {N:List (List (Int×Int))} (d:Drawn R L N) {y:kG} (ok:WyOk L y) {p:Nat} (hp:p<y.2.length):0≤kP L y p∧kP L y p<(R.length:Int):=by
 have hs:=List.getElem?_eq_getElem hp
 rw [FR ok hs]
 exact EL d (ok.lt _ (List.mem_of_getElem? hs))
theorem lJ (L:List LC) (y:kG):kP L y y.2.length = -1:=if_pos rfl
def zC (R:List RC) (L:List LC) (N:List (List (Int×Int))) (ys:List kG) (d:Int) (ms:List Int) (pl:List Nat):Deed→List (Nat×Nat×Int)
 |.pass b=>vQ R.length L ms ((ys.getD b (0,[])).2.getD (pl.getD b 0) (0,true))
 |.let k=>JO R.length L ms k
 |.night=>(vK (R.length+2*L.length+1) ms (N.getD d.toNat []) R.length).filter kO
def vU (R:List RC) (L:List LC) (N:List (List (Int×Int))) (ys:List kG) (d:Int) (ms:List Int) (pl:List Nat) (de:Deed) (gs:List Int):List (Nat×Nat×Int):=zC R L N ys d ms pl de++(kR (kA (j7 R L.length)) (fun a=>gs.getD a 0) (j7 R L.length).length).filter kO
def zN (pl:List Nat) (b:Nat):List Nat:=(List.range pl.length).map fun i=>if i=b then pl.getD i 0+1 else pl.getD i 0
def Q8 (d:Int):Deed→Int
 |.night=>d+1
 |_=>d
def yN (pl:List Nat):Deed→List Nat
 |.pass b=>zN pl b
 |_=>pl
def iZ (cs:Kd→Addr) (cR cN eW:Addr):Sp:=fun vs H Q E=>∃(x wl st dd:Addr) (de:Deed) (us:List V) (ys:List kG) (d:Int) (ms:List Int) (pl:List Nat) (D:List Addr) (R:List RC) (L:List LC) (N:List (List (Int×Int))),vs=[.ref x,.ref wl,.ref st,.ref dd]∧Stage cs cR cN D H x wl st us R L N ys d ms pl∧H dd=some (.tup (yU de))∧zP ys.length L.length de∧0≤d∧
 (yK R L N.length ys d ms pl de=""→∀(r:Addr) (H':Hp) (gs:List Int) (zs:List V),Same H H'→H r=none→H' r=some (.lst zs)→PoursH H' zs (vU R L N ys d ms pl de gs) ms.length→Spl (j7 R L.length) (j9 ms (zC R L N ys d ms pl de)) gs→Q (.ref r) H')∧
 (¬yK R L N.length ys d ms pl de=""→∀H',Same H H'→E (.ref eW) none H')
def p8 (cs:Kd→Addr) (cR cN eW:Addr):Sp:=fun vs H Q E=>∃(x wl st dd:Addr) (de:Deed) (us:List V) (ys:List kG) (d:Int) (ms:List Int) (pl:List Nat) (D:List Addr) (R:List RC) (L:List LC) (N:List (List (Int×Int))),vs=[.ref x,.ref wl,.ref st,.ref dd]∧Stage cs cR cN D H x wl st us R L N ys d ms pl∧H dd=some (.tup (yU de))∧zP ys.length L.length de∧0≤d∧
 (yK R L N.length ys d ms pl de=""→∀(r:Addr) (H':Hp) (gs:List Int),Same H H'→H r=none→StAt H' r (Q8 d de) (j9 ms (vU R L N ys d ms pl de gs)) (yN pl de)→Spl (j7 R L.length) (j9 ms (zC R L N ys d ms pl de)) gs→Q (.ref r) H')∧
 (¬yK R L N.length ys d ms pl de=""→∀H',Same H H'→E (.ref eW) none H')
def pR:Sp:=fun vs H Q _=>∃(pt:Addr) (pl:List Nat) (b:Nat),vs=[.ref pt,.int (b:Int)]∧H pt=some (.tup (pl.map fun (p:Nat)=>V.int (p:Int)))∧pl.length≤100∧∀(r:Addr) (H':Hp),Same H H'→H r=none→H' r=some (.tup ((zN pl b).map fun (p:Nat)=>V.int (p:Int)))→Q (.ref r) H'
theorem pN {R:List RC} {L:List LC} {ys:List kG} {ms:List Int} {pl:List Nat} {b:Nat} (h:Q9 R L ys ms pl b=""):¬pl.getD b 0=(ys.getD b (0,[])).2.length:=fun e=>by
 unfold Q9 at h
 rw [if_pos e] at h
 exact absurd h (by decide +kernel)
theorem iS (r:Nat) (L:List LC) (ms:List Int) (s:Nat×Bool):(vQ r L ms s).length≤4:=by
 unfold vQ
 split
 ·rw [List.length_map];exact o8 _ _ _ _ _ _
 ·exact Nat.zero_le _
theorem i3 (r:Nat) (L:List LC) (ms:List Int) (k:Nat):(JO r L ms k).length≤4:=by
 unfold JO
 split
 ·rw [List.length_map];exact Nat.le_trans (QY _ _ _ _) (by decide)
 ·exact Nat.zero_le _
theorem fC (pl:List Nat) (b:Nat):(zN pl b).length=pl.length:=by unfold zN;rw [List.length_map,List.length_range]
theorem nQ {pl:List Nat} {b i:Nat} (h:i<pl.length):(zN pl b).take (i+1)=(zN pl b).take i++[if i=b then pl.getD i 0+1 else pl.getD i 0]:=by
 rw [List.take_add_one]
 unfold zN
 rw [List.getElem?_map,List.getElem?_range h]
 rfl
def o4:Sp:=fun vs H Q _=>∃(st dd wo:Addr) (de:Deed) (d:Int) (ms mo:List Int) (pl:List Nat),vs=[.ref st,.ref dd,.ref wo]∧StAt H st d ms pl∧H dd=some (.tup (yU de))∧H wo=some (.tup (mo.map V.int))∧pl.length≤100∧∀(r:Addr) (H':Hp),Same H H'→H r=none→StAt H' r (Q8 d de) mo (yN pl de)→Q (.ref r) H'
def i0 (cs:Kd→Addr) (cR cN:Addr):Sp:=fun vs H Q _=>∃(x wl st dd:Addr) (de:Deed) (us:List V) (ys:List kG) (d:Int) (ms:List Int) (pl:List Nat) (D:List Addr) (R:List RC) (L:List LC) (N:List (List (Int×Int))),vs=[.ref x,.ref wl,.ref st,.ref dd]∧Stage cs cR cN D H x wl st us R L N ys d ms pl∧H dd=some (.tup (yU de))∧zP ys.length L.length de∧0≤d∧yK R L N.length ys d ms pl de=""∧
 ∀(r:Addr) (H':Hp) (gs:List Int) (zs:List V),Same H H'→H r=none→H' r=some (.lst zs)→PoursH H' zs (vU R L N ys d ms pl de gs) ms.length→Spl (j7 R L.length) (j9 ms (zC R L N ys d ms pl de)) gs→Q (.ref r) H'
theorem C2 {cs:Kd→Addr} {cR cN eW:Addr}:∀vs H Q E,i0 cs cR cN vs H Q E→iZ cs cR cN eW vs H Q (fun _ _ _=>False):=by
 rintro vs H Q E ⟨x,wl,st,dd,de,us,ys,d,ms,pl,D,R,L,N,e,h1,h2,h3,h4,h5,q⟩
 exact ⟨x,wl,st,dd,de,us,ys,d,ms,pl,D,R,L,N,e,h1,h2,h3,h4,fun _=>q,fun h=>absurd h5 h⟩
def iQ (cs:Kd→Addr) (cR cN:Addr):Sp:=fun vs H Q _=>∃(x wl st dd:Addr) (de:Deed) (us:List V) (ys:List kG) (d:Int) (ms:List Int) (pl:List Nat) (D:List Addr) (R:List RC) (L:List LC) (N:List (List (Int×Int))),vs=[.ref x,.ref wl,.ref st,.ref dd]∧Stage cs cR cN D H x wl st us R L N ys d ms pl∧H dd=some (.tup (yU de))∧zP ys.length L.length de∧0≤d∧yK R L N.length ys d ms pl de=""∧
 ∀(r:Addr) (H':Hp) (gs:List Int),Same H H'→H r=none→StAt H' r (Q8 d de) (j9 ms (vU R L N ys d ms pl de gs)) (yN pl de)→Spl (j7 R L.length) (j9 ms (zC R L N ys d ms pl de)) gs→Q (.ref r) H'
theorem DO {cs:Kd→Addr} {cR cN eW:Addr}:∀vs H Q E,iQ cs cR cN vs H Q E→p8 cs cR cN eW vs H Q (fun _ _ _=>False):=by
 rintro vs H Q E ⟨x,wl,st,dd,de,us,ys,d,ms,pl,D,R,L,N,e,h1,h2,h3,h4,h5,q⟩
 exact ⟨x,wl,st,dd,de,us,ys,d,ms,pl,D,R,L,N,e,h1,h2,h3,h4,fun _=>q,fun h=>absurd h5 h⟩
def yH (kd:Kd) (room v b:Int):List (Str×Int):=match kd with
 |.plain=>[("high",room)]
 |.basin=>[("basin",b),("high",room - b)]
 |.pump=>[("low",v),("high",room - v)]
def yD (kd:Kd) (room v b:Int):List (Str×Int):=match kd with
 |.basin=>[("basin",v - b),("low",room - v+b)]
 |_=>[("low",room)]
def vW (q:Nat×Nat×Int):Bool:=decide (0<q.2.2)
def vZ (r l k:Nat) (lc:LC) (h:Int):List (Nat×Nat×Int):=(yH lc.kd lc.room lc.extra h).map fun p=>(kX r l k lc p.1,r+k,p.2)
def vV (r l k:Nat) (lc:LC) (h:Int):List (Nat×Nat×Int):=(yD lc.kd lc.room lc.extra h).map fun p=>(r+k,kX r l k lc p.1,p.2)
def mP (v:Nat) (row:List (Nat×Nat×Int)):Int:=((row.filter fun q=>decide (q.2.1=v)).map (·.2.2)).sum
def mH (v:Nat) (row:List (Nat×Nat×Int)):Int:=((row.filter fun q=>decide (q.1=v)).map (·.2.2)).sum
def qL (v:Nat) (b:Int) (row:List (Nat×Nat×Int)):Int:=b+mP v row - mH v row
def eH (r l k:Nat) (lc:LC) (b:Int) (row:List (Nat×Nat×Int)) (w:Bool):List (Nat×Nat×Int):=row++(if w then vZ r l k lc (qL (r+l+k) b row) else vV r l k lc (qL (r+l+k) b row))
def yR (r l k:Nat) (lc:LC) (b:Int) (ws:List Bool):List (Nat×Nat×Int):=ws.foldl (eH r l k lc b) []
def fY (r l k:Nat) (lc:LC) (b:Int) (ws:List Bool):List (Nat×Nat×Int):=(yR r l k lc b ws).filter vW
def lP (f w:Bool):List Bool:=match w,f with
 |true,true=>[false,true]
 |true,false=>[true]
 |false,true=>[false]
 |false,false=>[true,false]
theorem oA {r l k:Nat} {lc:LC} {b:Int} {ws:List Bool} {i:Nat} {w:Bool} (h:ws[i]?=some w):yR r l k lc b (ws.take (i+1))=eH r l k lc b (yR r l k lc b (ws.take i)) w:=by
 unfold yR
 rw [List.take_add_one,h,List.foldl_append]
 rfl
theorem pB (kd:Kd) (room v b:Int):(yH kd room v b).length≤2:=by cases kd<;>simp [yH]
theorem rD (kd:Kd) (room v b:Int):(yD kd room v b).length≤2:=by cases kd<;>simp [yD]
theorem B9 (r l k:Nat) (lc:LC) (b:Int) (row:List (Nat×Nat×Int)) (w:Bool):(eH r l k lc b row w).length≤row.length+2:=by
 unfold eH vZ vV
 rw [List.length_append]
 cases w
 ·show row.length+(List.map _ _).length≤_
  rw [List.length_map];have:=rD lc.kd lc.room lc.extra (qL (r+l+k) b row);omega
 ·show row.length+(List.map _ _).length≤_
  rw [List.length_map];have:=pB lc.kd lc.room lc.extra (qL (r+l+k) b row);omega
theorem o5 (r l k:Nat) (lc:LC) (b:Int) (ws:List Bool):∀i,(yR r l k lc b (ws.take i)).length≤2*i:=by
 intro i
 induction i with
 |zero=>exact Nat.zero_le _
 |succ i ih =>
  by_cases h:i<ws.length
  ·rw [oA (List.getElem?_eq_getElem h)]
   have:=B9 r l k lc b (yR r l k lc b (ws.take i)) ws[i]
   omega
  ·rw [List.take_of_length_le (by omega)]
   rw [List.take_of_length_le (by omega)] at ih
   omega
theorem i5 {α:Type} {f:α→Nat×Nat×Int} {g:α→Bool}:∀ps:List α,(∀p∈ps,vW (f p)=g p)→(ps.map f).filter vW=(ps.filter g).map f
 |[],_=>rfl
 |p::r,h=>by
  rw [List.map_cons,List.filter_cons,List.filter_cons,i5 r fun q hq=>h q (List.mem_cons_of_mem _ hq),h p List.mem_cons_self]
  split<;>rfl
theorem lO (kd:Kd) (room v b:Int):yI kd room v b=(yH kd room v b).filter qN:=by cases kd<;>rfl
theorem lY (kd:Kd) (room v b:Int):yE kd room v b=(yD kd room v b).filter qN:=by
 cases kd
 ·rfl
 ·unfold yE yD
  show ([("basin",v - b),("low",room - (v - b))]:List (Str×Int)).filter qN=([("basin",v - b),("low",room - v+b)]:List (Str×Int)).filter qN
  rw [show room - (v - b)=room - v+b by omega]
 ·rfl
theorem sL {n:Int} (h:0≤n):decide (0<n) = !decide (n=0):=by
 by_cases e:n=0
 ·rw [decide_eq_true e,decide_eq_false (by omega)];rfl
 ·rw [decide_eq_false e,decide_eq_true (by omega)];rfl
theorem oB {r l k:Nat} {lc:LC} {h:Int} (hn:∀p∈yH lc.kd lc.room lc.extra h,0≤p.2):(vZ r l k lc h).filter vW=(qP lc.kd lc.room lc.extra h).map (yV r l k lc):=by
 unfold vZ qP
 rw [i5 (f:=fun p:Str×Int=>(kX r l k lc p.1,r+k,p.2)) (g:=qN) _ (fun p hp=>sL (hn p hp)),lO,List.map_map]
 refine List.map_congr_left fun p _=>?_
 show (kX r l k lc p.1,r+k,p.2)=(kX r l k lc p.1,kX r l k lc "chamber",p.2)
 rw [fI]
theorem iR {r l k:Nat} {lc:LC} {h:Int} (hn:∀p∈yD lc.kd lc.room lc.extra h,0≤p.2):(vV r l k lc h).filter vW=(qH lc.kd lc.room lc.extra h).map (yV r l k lc):=by
 unfold vV qH
 rw [i5 (f:=fun p:Str×Int=>(r+k,kX r l k lc p.1,p.2)) (g:=qN) _ (fun p hp=>sL (hn p hp)),lY,List.map_map]
 refine List.map_congr_left fun p _=>?_
 show (r+k,kX r l k lc p.1,p.2)=(kX r l k lc "chamber",kX r l k lc p.1,p.2)
 rw [fI]
def t4 (lc:LC) (b:Int):Prop:=0≤b∧(lc.kd=.basin→b≤lc.extra)∧(lc.kd≠.basin→b=0)
theorem rH {lc:LC} {r:Nat} {h:Int} (hg:lc.good r) (h0:0≤h) (h1:lc.kd=.basin→h≤lc.extra):∀p∈yH lc.kd lc.room lc.extra h,0≤p.2:=fun p hp=>by
 obtain ⟨_,_,_,_,g5,_,g7,g8⟩:=hg
 cases hk:lc.kd<;>rw [hk] at hp
 ·have hp:p∈[(("high":Str),lc.room)]:=hp
  rw [List.mem_singleton.mp hp];show 0≤lc.room;omega
 ·have g8:=g8 (by rw [hk];exact fun z=>nomatch z)
  have h1:=h1 hk
  have hp:p∈[(("basin":Str),h),("high",lc.room - h)]:=hp
  simp only [List.mem_cons,List.mem_nil_iff,or_false] at hp
  rcases hp with rfl|rfl
  ·exact h0
  ·show 0≤lc.room - h;omega
 ·have g8:=g8 (by rw [hk];exact fun z=>nomatch z)
  have hp:p∈[(("low":Str),lc.extra),("high",lc.room - lc.extra)]:=hp
  simp only [List.mem_cons,List.mem_nil_iff,or_false] at hp
  rcases hp with rfl|rfl
  ·show 0≤lc.extra;omega
  ·show 0≤lc.room - lc.extra;omega
theorem lL {lc:LC} {r:Nat} {h:Int} (hg:lc.good r) (h0:0≤h) (h1:lc.kd=.basin→h≤lc.extra):∀p∈yD lc.kd lc.room lc.extra h,0≤p.2:=fun p hp=>by
 obtain ⟨_,_,_,_,g5,_,g7,g8⟩:=hg
 cases hk:lc.kd<;>rw [hk] at hp
 ·have hp:p∈[(("low":Str),lc.room)]:=hp
  rw [List.mem_singleton.mp hp];show 0≤lc.room;omega
 ·have g8:=g8 (by rw [hk];exact fun z=>nomatch z)
  have h1:=h1 hk
  have hp:p∈[(("basin":Str),lc.extra - h),("low",lc.room - lc.extra+h)]:=hp
  simp only [List.mem_cons,List.mem_nil_iff,or_false] at hp
  rcases hp with rfl|rfl
  ·show 0≤lc.extra - h;omega
  ·show 0≤lc.room - lc.extra+h;omega
 ·have hp:p∈[(("low":Str),lc.room)]:=hp
  rw [List.mem_singleton.mp hp];show 0≤lc.room;omega
theorem EH {r l k:Nat} {lc:LC} {b:Int} (hg:lc.good r) (hk:k<l) (hb:lc.kd=.basin):qL (r+l+k) b (vV r l k lc b)=lc.extra:=by
 obtain ⟨g1,g2,g3,g4,_⟩:=hg
 have e:vV r l k lc b=[(r+k,r+l+k,lc.extra - b),(r+k,lc.low.toNat,lc.room - lc.extra+b)]:=by
  unfold vV yD
  rw [hb]
  show [(r+k,kX r l k lc "basin",lc.extra - b),(r+k,kX r l k lc "low",lc.room - lc.extra+b)]=_
  rw [cG,d9]
 unfold qL mP mH
 rw [e,List.filter_cons,if_pos (decide_eq_true rfl),List.filter_cons,if_neg (by rw [decide_eq_true_eq];show ¬lc.low.toNat=r+l+k;omega),List.filter_nil,List.filter_cons,if_neg (by rw [decide_eq_true_eq];show ¬r+k=r+l+k;omega),List.filter_cons,if_neg (by rw [decide_eq_true_eq];show ¬r+k=r+l+k;omega),List.filter_nil]
 show b+(lc.extra - b+0) - 0=lc.extra
 omega
theorem DE {r l k:Nat} {lc:LC} {b:Int} (hg:lc.good r) (hk:k<l) (hb:lc.kd=.basin):qL (r+l+k) b (vZ r l k lc b)=0:=by
 obtain ⟨g1,g2,g3,g4,_⟩:=hg
 have e:vZ r l k lc b=[(r+l+k,r+k,b),(lc.high.toNat,r+k,lc.room - b)]:=by
  unfold vZ yH
  rw [hb]
  show [(kX r l k lc "basin",r+k,b),(kX r l k lc "high",r+k,lc.room - b)]=_
  rw [cG,dU]
 unfold qL mP mH
 rw [e,List.filter_cons,if_neg (by rw [decide_eq_true_eq];show ¬r+k=r+l+k;omega),List.filter_cons,if_neg (by rw [decide_eq_true_eq];show ¬r+k=r+l+k;omega),List.filter_nil,List.filter_cons,if_pos (decide_eq_true rfl),List.filter_cons,if_neg (by rw [decide_eq_true_eq];show ¬lc.high.toNat=r+l+k;omega),List.filter_nil]
 show b+0 - (b+0)=0
 omega
theorem pC {lc:LC} {h h':Int} (hb:¬lc.kd=.basin):yH lc.kd lc.room lc.extra h=yH lc.kd lc.room lc.extra h':=by
 cases hk:lc.kd
 ·rfl
 ·exact absurd hk hb
 ·rfl
theorem rE {lc:LC} {h h':Int} (hb:¬lc.kd=.basin):yD lc.kd lc.room lc.extra h=yD lc.kd lc.room lc.extra h':=by
 cases hk:lc.kd
 ·rfl
 ·exact absurd hk hb
 ·rfl
theorem dY (v:Nat) (b:Int):qL v b []=b:=by show b+0 - 0=b;omega
theorem C8 {r l k:Nat} {lc:LC} {b:Int} (hg:lc.good r) (hk:k<l) (hb:t4 lc b) (f w:Bool):fY r l k lc b (lP f w)=(eN lc.kd lc.room lc.extra f b w).map (yV r l k lc):=by
 obtain ⟨hb0,hb1,hb2⟩:=hb
 have g8:lc.kd=.basin→1≤lc.extra:=fun hk=>by
  obtain ⟨_,_,_,_,_,_,_,g8⟩:=hg
  exact (g8 (by rw [hk];exact fun z=>nomatch z)).1
 have F1:=oB (r:=r) (l:=l) (k:=k) (rH hg hb0 hb1)
 have L1:=iR (r:=r) (l:=l) (k:=k) (lL hg hb0 hb1)
 cases w<;>cases f
 ·show ((([]++vZ r l k lc (qL (r+l+k) b []))++vV r l k lc (qL (r+l+k) b ([]++vZ r l k lc (qL (r+l+k) b [])))).filter vW)=(qP lc.kd lc.room lc.extra b++qH lc.kd lc.room lc.extra (vL b (qP lc.kd lc.room lc.extra b))).map (yV r l k lc)
  rw [List.nil_append,dY,List.filter_append,F1,List.map_append]
  congr 1
  by_cases hkd:lc.kd=.basin
  ·rw [DE hg hk hkd,iR (lL hg (Int.le_refl _) fun h=>by have:=g8 h;omega)]
   congr 2
   rw [hkd,CN]
  ·have e:vV r l k lc (qL (r+l+k) b (vZ r l k lc b))=vV r l k lc b:=by unfold vV;rw [rE hkd]
   rw [e,L1]
   unfold qH
   rw [lY,lY,rE (h:=vL b (qP lc.kd lc.room lc.extra b)) (h':=b) hkd]
 ·show (([]++vV r l k lc (qL (r+l+k) b [])).filter vW)=(qH lc.kd lc.room lc.extra b).map (yV r l k lc)
  rw [List.nil_append,dY,L1]
 ·show (([]++vZ r l k lc (qL (r+l+k) b [])).filter vW)=(qP lc.kd lc.room lc.extra b).map (yV r l k lc)
  rw [List.nil_append,dY,F1]
 ·show ((([]++vV r l k lc (qL (r+l+k) b []))++vZ r l k lc (qL (r+l+k) b ([]++vV r l k lc (qL (r+l+k) b [])))).filter vW)=(qH lc.kd lc.room lc.extra b++qP lc.kd lc.room lc.extra (vL b (qH lc.kd lc.room lc.extra b))).map (yV r l k lc)
  rw [List.nil_append,dY,List.filter_append,L1,List.map_append]
  congr 1
  by_cases hkd:lc.kd=.basin
  ·rw [EH hg hk hkd,oB (rH hg (by have:=g8 hkd;omega) fun _=>Int.le_refl _)]
   congr 2
   rw [hkd,DP]
  ·have e:vZ r l k lc (qL (r+l+k) b (vV r l k lc b))=vZ r l k lc b:=by unfold vZ;rw [pC hkd]
   rw [e,F1]
   unfold qP
   rw [lO,lO,pC (h:=vL b (qH lc.kd lc.room lc.extra b)) (h':=b) hkd]
def tS (b:Bool):Str:=if b then "fill" else "let"
def eJ (b:Bool):V:=.str (tS b)
theorem EO (b:Bool):decide (V.str (tS b)=V.str "fill")=b:=by
 cases b
 ·exact decide_eq_false fun h=>absurd (V.str.inj h) (by decide +kernel)
 ·exact decide_eq_true rfl
def zD (a b c:V):List (j6×V):=[(.inr "high",a),(.inr "low",b),(.inr "basin",c)]
theorem GD (a b c:V):Q3 [] [((.inr "high":j6),a),(.inr "low",b),(.inr "basin",c)]=zD a b c:=by
 show vA (vA (vA ([]:List (j6×V)) (Sum.inr "high") a) (Sum.inr "low") b) (Sum.inr "basin") c=_
 rw [QW a (valV_nil:qE [] (Sum.inr "high":j6)=none)]
 rw [QW b (by show qE [((.inr "high":j6),a)] (.inr "low")=none;rw [q0 (vN (by decide +kernel))];rfl)]
 rw [QW c (by show qE [((.inr "high":j6),a),(.inr "low",b)] (.inr "basin")=none;rw [q0 (vN (by decide +kernel)),q0 (vN (by decide +kernel))];rfl)]
 rfl
theorem HM {H:Hp} {p:Addr} {a b c:V} (h:H p=some (.dK (zD a b c))):DGet H p (.str "high") (some a)∧DGet H p (.str "low") (some b)∧DGet H p (.str "basin") (some c):=by
 have e1:qE (zD a b c) (.inr "high")=some a:=by unfold zD;rw [zL rfl]
 have e2:qE (zD a b c) (.inr "low")=some b:=by unfold zD;rw [q0 (vN (by decide +kernel)),zL rfl]
 have e4:qE (zD a b c) (.inr "basin")=some c:=by unfold zD;rw [q0 (vN (by decide +kernel)),q0 (vN (by decide +kernel)),zL rfl]
 refine ⟨?_,?_,?_⟩
 ·rw [← e1];exact DGet.k (k:=.inr "high") h
 ·rw [← e2];exact DGet.k (k:=.inr "low") h
 ·rw [← e4];exact DGet.k (k:=.inr "basin") h
def fP (cs:Kd→Addr) (F:Kd→Int→Int→Int→List (Str×Int)):Sp:=fun vs H Q _=>∃(y:Addr) (l:LC) (b:Int),vs=[.ref y,.int b]∧LkO cs H (.ref y) l∧∀(r:Addr) (H':Hp) (rs:List V),Same H H'→H r=none→H' r=some (.lst rs)→PartsAt H' rs (F l.kd l.room l.extra b)→Q (.ref r) H'
def iY:Sp:=fun vs H Q _=>∃f w:Bool,vs=[.bl f,.str (dG w)]∧∀(r:Addr) (H':Hp),Same H H'→H' r=some (.lst ((lP f w).map eJ))→Q (.ref r) H'
def lF (cs:Kd→Addr) (cR cN:Addr):Sp:=fun vs H Q _=>∃(x wt wd:Addr) (k:Nat) (l:LC) (ms:List Int) (ws:List Bool) (D:List Addr) (R:List RC) (L:List LC) (N:List (List (Int×Int))),vs=[.ref x,.ref wt,.int (k:Int),.ref wd]∧CnAt cs cR cN D H x R L N∧L[k]?=some l∧l.good R.length∧R.length≤100∧L.length≤100∧H wt=some (.tup (ms.map V.int))∧ms.length=R.length+2*L.length+2∧H wd=some (.lst (ws.map eJ))∧ws.length≤2∧
 ∀(r:Addr) (H':Hp) (zs:List V),Same H H'→H r=none→H' r=some (.lst zs)→PoursH H' zs (fY R.length L.length k l (ms.getD (R.length+L.length+k) 0) ws) ms.length→Q (.ref r) H'
theorem EK (kd:Kd) (room v b:Int):∀p∈yH kd room v b,p.1="high"∨p.1="low"∨p.1="basin":=fun p hp=>by
 cases kd
 ·have hp:p∈[(("high":Str),room)]:=hp
  rw [List.mem_singleton.mp hp];exact .inl rfl
 ·have hp:p∈[(("basin":Str),b),("high",room - b)]:=hp
  simp only [List.mem_cons,List.mem_nil_iff,or_false] at hp
  rcases hp with rfl|rfl
  ·exact .inr (.inr rfl)
  ·exact .inl rfl
 ·have hp:p∈[(("low":Str),v),("high",room - v)]:=hp
  simp only [List.mem_cons,List.mem_nil_iff,or_false] at hp
  rcases hp with rfl|rfl
  ·exact .inr (.inl rfl)
  ·exact .inl rfl
theorem FC (kd:Kd) (room v b:Int):∀p∈yD kd room v b,p.1="high"∨p.1="low"∨p.1="basin":=fun p hp=>by
 cases kd
 ·have hp:p∈[(("low":Str),room)]:=hp
  rw [List.mem_singleton.mp hp];exact .inr (.inl rfl)
 ·have hp:p∈[(("basin":Str),v - b),("low",room - v+b)]:=hp
  simp only [List.mem_cons,List.mem_nil_iff,or_false] at hp
  rcases hp with rfl|rfl
  ·exact .inr (.inr rfl)
  ·exact .inr (.inl rfl)
 ·have hp:p∈[(("low":Str),room)]:=hp
  rw [List.mem_singleton.mp hp];exact .inr (.inl rfl)
def oY (cs:Kd→Addr) (cR cN:Addr):Sp:=fun vs H Q _=>∃(x t:Addr) (y:kG) (p:Nat) (D:List Addr) (R:List RC) (L:List LC) (N:List (List (Int×Int))),vs=[.ref x,.ref t,.int (p:Int)]∧CnAt cs cR cN D H x R L N∧WyAt H (.ref t) y∧WyOk L y∧p≤y.2.length∧Q (.int (kP L y p)) H
theorem EM {L:List LC} {y:kG} {i:Nat} {p:Nat×Bool} {l:LC} (ok:WyOk L y) (hp:y.2[i]?=some p) (hl:L[p.1]?=some l):l.low+l.high - (kY L y.1 y.2).getD i 0=(kY L y.1 y.2).getD (i+1) 0:=by
 have h1:=ok.ok i p hp
 have e1:(kY L y.1 y.2).getD i 0=(qX L p).1:=by rw [List.getD_eq_getElem?_getD,h1];rfl
 have e2:(kY L y.1 y.2).getD (i+1) 0=(qX L p).2:=by
  rw [List.getD_eq_getElem?_getD]
  show ((y.1::y.2.map fun p=>(qX L p).2)[i+1]?).getD 0=_
  rw [List.getElem?_cons_succ,List.getElem?_map,hp]
  rfl
 rw [e1,e2]
 obtain ⟨pk,pb⟩:=p
 have hl:L[pk]?=some l:=hl
 cases pb
 ·rw [JT hl];show l.low+l.high - l.high=l.low;omega
 ·rw [JX hl];show l.low+l.high - l.low=l.high;omega
theorem sM {L:List LC} {ys:List kG} {pl:List Nat} {i:Nat} {y:kG} {p:Nat} (hy:ys[i]?=some y) (hp:pl[i]?=some p):(vB L ys pl)[i]?=some (kP L y p):=by
 have hi:i<ys.length:=(List.getElem?_eq_some_iff.mp hy).1
 unfold vB
 rw [List.getElem?_map,List.getElem?_range hi]
 show some (kP L (ys.getD i (0,[])) (pl.getD i 0))=_
 rw [List.getD_eq_getElem?_getD,List.getD_eq_getElem?_getD,hy,hp]
 rfl
theorem DZ (L:List LC) (ys:List kG) (pl:List Nat):(vB L ys pl).length=ys.length:=by unfold vB;rw [List.length_map,List.length_range]
theorem CT {H:Hp} {us:List V} {ys:List kG} (h:AllAt (WyAt H) us ys):us.all mJ=true:=by
 rw [List.all_eq_true]
 intro v hv
 obtain ⟨i,hi,e⟩:=List.mem_iff_getElem.mp hv
 obtain ⟨p,_,t,_,_,rfl,_⟩:=h.2 i v (by rw [List.getElem?_eq_getElem hi,e])
 rfl
structure Txt (K:W.Frag) (mg:Str→Option Value) (cP cB cU:Addr) (cR:Addr) (cN:Addr) (tkS:Tok) (eW eL:Addr) (tkH:Tok):Prop where
 z_list:mg "list"=none
 z_tuple:mg "tuple"=none
 z_max:mg "max"=none
 z_range:mg "range"=none
 z_len:mg "len"=none
 z_sum:mg "sum"=none
 z_zip:mg "zip"=none
 z_enumerate:mg "enumerate"=none
 z_min:mg "min"=none
 z_isinstance:mg "isinstance"=none
 z_bool:mg "bool"=none
 z_int:mg "int"=none
 cl:∀kd,Cls K ((jG cP cB cU) kd)
 n_name:∀kd,NoAttr K ((jG cP cB cU) kd) "name"
 n_high:∀kd,NoAttr K ((jG cP cB cU) kd) "high"
 n_low:∀kd,NoAttr K ((jG cP cB cU) kd) "low"
 n_room:∀kd,NoAttr K ((jG cP cB cU) kd) "room"
 n_side:NoAttr K cB "side"
 n_lift:NoAttr K cU "lift"
 c_PlainLock:mg "PlainLock"=some (.ref cP)
 c_BasinLock:mg "BasinLock"=some (.ref cB)
 c_PumpLock:mg "PumpLock"=some (.ref cU)
 clR:Cls K cR
 nR_name:NoAttr K cR "name"
 nR_least:NoAttr K cR "least"
 nR_crest:NoAttr K cR "crest"
 nR_berths:NoAttr K cR "berths"
 nR_water:NoAttr K cR "water"
 nR_target:NoAttr K cR "target"
 c_Reach:mg "Reach"=some (.ref cR)
 clN:Cls K cN
 nN_reaches:NoAttr K cN "reaches"
 nN_locks:NoAttr K cN "locks"
 nN_nights:NoAttr K cN "nights"
 c_Canal:mg "Canal"=some (.ref cN)
 g_SEA:mg "SEA"=some (.int (-1) tkS)
 c_NotNow:mg "NotNow"=some (.ref eW)
 c_NotLinked:mg "NotLinked"=some (.ref eL)
 x_NotNow:mW K eW
 x_NotLinked:mW K eL
 g_HOME:mg "HOME"=some (.int (-1) tkH)
set_option maxHeartbeats 4000000
section
variable {P:Program} {w:World} {K:W.Frag} {mg:Str→Option Value} {base:Heap} {cP cB cU:Addr} {cR:Addr} {cN:Addr} {tkS:Tok} {eW eL:Addr} {tkH:Tok}
theorem dM:FnScope ["waters","pours","held","source","target","amount"] ["waters","pours"] (jF bR):=⟨rfl,rfl,rfl,by decide +kernel,rfl,by decide +kernel,by decide +kernel⟩
theorem xS {f:Addr} {fd:FuncData} (F:Fun K "poured_all" "poured_all" bR f fd) (T:Txt K mg cP cB cU cR cN tkS eW eL tkH) : FnOk P w K mg base jU 1 f fd ["waters","pours"] (gD K):=by
 refine F.ok dM (fun vs H Q E h=>?_) (fun cdv A outer s H vs Q E hr h=>?_)
 ·obtain ⟨w,p,ws,rs,qs,rfl,hW,hP,hA,hn,q⟩:=h
  rfl
 obtain ⟨w,p,ws,rs,qs,rfl,hW,hP,hA,hn,q⟩:=h
 have hu:_<cLine:=hr.units0
 have hu1:=jY hr
 refine ⟨_,(@jH _ _ _ _ _ (jQ (i:=2) dM.nd rfl (by first|exact Or.inl rfl|exact Or.inr rfl) (qJ zZ (by rfl) T.z_list PyProof.Rows.boot_list (jA (pv 0) jB)))
   (@jH _ _ _ _ _ (vJ PassesOwn.never rfl (qR (pv 1)) (lV rfl (qG (j8 (i:=3) dM.nd rfl (by first|exact Or.inl rfl|exact Or.inr rfl)) (qG (j8 (i:=4) dM.nd rfl (by first|exact Or.inl rfl|exact Or.inr rfl)) (qG (j8 (i:=5) dM.nd rfl (by first|exact Or.inl rfl|exact Or.inr rfl)) y8))))
    (@jH _ _ _ _ _ (lI (pv 2) (pv 3) i4 (pv 5) GK y7)
   (@jJ _ _ _ (lI (pv 2) (pv 4) i4 (pv 5) tN y7))))
   (@jJ _ _ _ (@jN _ _ _ _ (qJ QU (by rfl) T.z_tuple PyProof.Rows.boot_tuple (jA (pv 2) jB)))))),?_⟩
 refine ⟨_,rfl,w,_,rfl,hW,fun l hl=>?_⟩
 have s0:Same H (upd H l (.lst (ws.map V.int))):=jK hl _
 refine ⟨_,rfl,p,rfl,⟨rs,s0.seq hP⟩,QZ (K:=K) (a:=p) (xs:=rs) (fun i σ Hi=>∃c3 c4 c5,σ=[some (.ref w),some (.ref p),some (.ref l),c3,c4,c5]∧Hi l=some (.lst ((j9 ws (qs.take i)).map V.int))∧Same H Hi)
  ⟨none,none,none,rfl,jE,s0⟩ (fun i σ Hi _ ⟨_,_,_,_,_,s⟩=>s.seq hP) ?_ ?_⟩
 ·rintro i x σ Hi hx ⟨c3,c4,c5,rfl,hH,sm⟩
  obtain ⟨a,s,t,m,rfl,hq,hT,hs,ht⟩:=hA.2 i x hx
  have e0:(j9 ws (qs.take i)).length=ws.length:=y0 _ _
  refine ⟨a,_,rfl,mE sm hT,rfl,_,_,rfl,_,_,rfl,_,_,rfl,rfl,?_⟩
  refine ⟨_,rfl,_,rfl,_,_,_,_,rfl,rfl,SqL.of hH,qD (by rw [e0];exact hs),_,rfl,jP (⟨_,_,_,_,rfl,rfl,hH,y9 (by rw [List.length_map,e0];exact hs),?_⟩)⟩
  try dsimp only
  rw [zI]
  refine ⟨_,rfl,_,rfl,_,_,_,_,rfl,rfl,SqL.of jE,qD (by rw [List.length_set,e0];exact ht),_,rfl,jP (⟨_,_,_,_,rfl,rfl,jE,y9 (by rw [List.length_map,List.length_set,e0];exact ht),?_⟩)⟩
  try dsimp only
  rw [zI]
  refine ⟨_,_,_,rfl,?_,kT hl (kT hl sm)⟩
  rw [jE,dN ws qs i _ hq]
  rfl
 ·rintro σ Hi ⟨c3,c4,c5,rfl,hH,sm⟩
  refine ⟨_,rfl,_,_,rfl,.inl ⟨SqL.of hH,fun r hr=>?_⟩⟩
  refine q r _ (kT (sm.free hr) sm) (sm.free hr) ?_
  rw [jE,hA.1,List.take_length]
theorem nG:FnScope ["weirs","waters","at","crest"] ["weirs","waters","at"] (jF bO):=⟨rfl,rfl,rfl,by decide +kernel,rfl,by decide +kernel,by decide +kernel⟩
theorem xO {f:Addr} {fd:FuncData} (F:Fun K "over" "over" bO f fd) (T:Txt K mg cP cB cU cR cN tkS eW eL tkH) : FnOk P w K mg base jU 1 f fd ["weirs","waters","at"] (tG K):=by
 refine F.ok nG (fun vs H Q E h=>?_) (fun cdv A outer s H vs Q E hr h=>?_)
 ·obtain ⟨wq,wa,rs,ws,n,ms,i₁,rfl,hW,hA,hM,h1,h2,q⟩:=h
  rfl
 obtain ⟨wq,wa,rs,ws,n,ms,i₁,rfl,hW,hA,hM,h1,h2,q⟩:=h
 have hu:_<cLine:=hr.units0
 have hu1:=jY hr
 refine ⟨_,(@jH _ _ _ _ _ (jQ (i:=3) nG.nd rfl (by first|exact Or.inl rfl|exact Or.inr rfl) (jD ix_tup (jD j5 (pv 0) (pv 2) (fun _ _=>rfl)) jC (fun _ _=>rfl)))
   (@jJ _ _ _ (@jN _ _ _ _ (kB (DM rfl) (by rfl) T.z_max PyProof.Rows.boot_max (jA jC (jA (@jI _ _ _ _ _ _ _ _ qK (jD tM (pv 1) (pv 2) (fun _ _=>rfl)) (pv 3)) jB)))))),?_⟩
 obtain ⟨ta,hat,hT,_⟩:=fH hA h1
 refine ⟨_,rfl,_,rfl,wq,_,_,_,rfl,rfl,hW,hat,ta,_,_,_,rfl,rfl,hT,rfl,?_⟩
 refine ⟨_,rfl,_,rfl,DX hM h2 ?_⟩
 exact ⟨_,rfl,jP (⟨_,_,rfl,q⟩)⟩
theorem A8:FnScope ["weirs"] ["weirs"] (jF bK):=⟨rfl,rfl,rfl,by decide +kernel,rfl,by decide +kernel,by decide +kernel⟩
theorem xF {f:Addr} {fd:FuncData} (F:Fun K "last_first" "last_first" bK f fd) (T:Txt K mg cP cB cU cR cN tkS eW eL tkH) : FnOk P w K mg base jU 1 f fd ["weirs"] (lU K):=by
 refine F.ok A8 (fun vs H Q E h=>?_) (fun cdv A outer s H vs Q E hr h=>?_)
 ·obtain ⟨wq,rs,rfl,hW,hn,q⟩:=h
  rfl
 obtain ⟨wq,rs,rfl,hW,hn,q⟩:=h
 have hu:_<cLine:=hr.units0
 have hu1:=jY hr
 refine ⟨_,(@jJ _ _ _ (@jN _ _ _ _ (qJ (BM rfl) (by rfl) T.z_list PyProof.Rows.boot_list (jA (qJ BZ (by rfl) T.z_range PyProof.Rows.boot_range (@jA _ _ _ _ _ (@jI _ _ _ _ _ _ _ _ qK (kB kI (by rfl) T.z_len PySem.boot_len (jA (pv 0) jB)) jC) (@jA _ _ _ _ _ (gE fW jC) (@jA _ _ _ _ _ (gE fW jC) jB (by rfl)) (by rfl)) (by rfl))) jB)))),?_⟩
 refine ⟨_,rfl,wq,_,rfl,.inl hW,_,_,rfl,rfl,_,rfl,_,rfl,_,_,_,rfl,(by decide),(by decide),fun p hp=>?_⟩
 refine ⟨p,_,_,_,rs.length,rfl,jE,CL hn,pF _,hn,fun l hl=>?_⟩
 refine q l _ ((jK hp _).trans (jK hl _)) ((jK hp _).free hl) ?_
 rw [jE]
 exact congrArg (fun x=>some (HO.lst x)) (CK rs.length)
theorem e7:FnScope ["weirs","waters","held","given","at"] ["weirs","waters"] (jF bU):=⟨rfl,rfl,rfl,by decide +kernel,rfl,by decide +kernel,by decide +kernel⟩
theorem xW {f:Addr} {fd:FuncData} (F:Fun K "spills" "spills" bU f fd) (T:Txt K mg cP cB cU cR cN tkS eW eL tkH) (D_last_first:Def P w K mg base 1 "last_first" ["weirs"] [] (lU K)) (D_over:Def P w K mg base 1 "over" ["weirs","waters","at"] [] (tG K)):FnOk P w K mg base jU 2 f fd ["weirs","waters"] (pS K):=by
 refine F.ok e7 (fun vs H Q E h=>?_) (fun cdv A outer s H vs Q E hr h=>?_)
 ·obtain ⟨wq,wa,rs,ws,ms,rfl,hRd,q⟩:=h
  rfl
 obtain ⟨wq,wa,rs,ws,ms,rfl,hRd,q⟩:=h
 have hu:_<cLine:=hr.units0
 have hu1:=jY hr
 refine ⟨_,(@jH _ _ _ _ _ (jQ (i:=2) e7.nd rfl (by first|exact Or.inl rfl|exact Or.inr rfl) (qJ zZ (by rfl) T.z_list PyProof.Rows.boot_list (jA (pv 1) jB)))
   (@jH _ _ _ _ _ (jQ (i:=3) e7.nd rfl (by first|exact Or.inl rfl|exact Or.inr rfl) (@jI _ _ _ _ _ _ _ _ FW (kN (jA jC jB)) (kB kI (by rfl) T.z_len PySem.boot_len (jA (pv 0) jB))))
   (@jH _ _ _ _ _ (vJ PassesOwn.never rfl (qR (jM D_last_first hr rfl (jA (pv 0) jB))) (j8 (i:=4) e7.nd rfl (by first|exact Or.inl rfl|exact Or.inr rfl))
    (@jH _ _ _ _ _ (JZ (jM D_over hr rfl (@jA _ _ _ _ _ (pv 0) (@jA _ _ _ _ _ (pv 2) (@jA _ _ _ _ _ (pv 4) jB (by rfl)) (by rfl)) (by rfl))) (J0 (pv 3) (pv 4) y7))
   (@jJ _ _ _ (lI (pv 2) (jD ix_tup (jD j5 (pv 0) (pv 4) (fun _ _=>rfl)) jC (fun _ _=>rfl)) i4 (jD j5 (pv 3) (pv 4) (fun _ _=>rfl)) tN y7))))
   (@jJ _ _ _ (@jN _ _ _ _ (pv 3)))))),?_⟩
 obtain ⟨hW,hA,hM,hAh,hRn,hn⟩:=id hRd
 have hAF:=iX hAh
 refine ⟨_,rfl,wa,_,rfl,hM,fun hl hhl=>?_⟩
 have t1:=jK hhl (.lst (ms.map V.int))
 refine ⟨zz1,fun lp hlp=>?_⟩
 have t2:=jK hlp (.lst [V.int 0])
 refine ⟨_,rfl,wq,_,rfl,.inl ((t1.trans t2).seq hW),lp,_,_,rfl,rfl,jE,by omega,by rw [hA.1];omega,?_,fun gp hgp=>?_⟩
 ·rw [Int.toNat_natCast,List.length_singleton,Nat.one_mul,hA.1]
  exact small (by omega)
 rw [Int.toNat_natCast,DV,hA.1]
 have t3:=jK hgp (.lst ((List.replicate ws.length (0:Int)).map V.int))
 have u3:=(t1.trans t2).trans t3
 have hlp':hl≠gp:=qI (t2 _ _ jE) hgp
 refine ⟨_,rfl,wq,rs,rfl,u3.seq hW,by rw [hA.1];omega,fun df H1 s1 hdf0 hdf=>?_⟩
 have hl1:=s1 _ _ (t3 _ _ (t2 _ _ (jE:upd H hl (.lst (ms.map V.int)) hl=_)))
 have gp1:=s1 _ _ (jE:upd _ gp (.lst ((List.replicate ws.length (0:Int)).map V.int)) gp=_)
 have dhl:hl≠df:=qI (t3 _ _ (t2 _ _ jE)) hdf0
 have dgp:gp≠df:=qI jE hdf0
 have gf:H gp=none:=(t1.trans t2).free hgp
 refine ⟨df,rfl,⟨_,SqL.of hdf⟩,QZ (K:=K) (a:=df) (xs:=(vF rs.length).map fun (i:Nat)=>V.int (i:Int)) (fun k σ Hi=>∃(hs gs:List Int) (c:Option V),σ=[some (.ref wq),some (.ref wa),some (.ref hl),some (.ref gp),c]∧Hi hl=some (.lst (hs.map V.int))∧Hi gp=some (.lst (gs.map V.int))∧
   Hi df=some (.lst ((vF rs.length).map fun (i:Nat)=>V.int (i:Int)))∧SplInv ws ms hs gs k∧Same H Hi)
  ⟨ms,List.replicate ws.length 0,none,rfl,hl1,gp1,hdf,SplInv.start ws ms,u3.trans s1⟩ (fun i σ Hi _ ⟨_,_,_,_,_,_,hd,_⟩=>SqL.of hd) ?_ ?_⟩
 ·rintro k x σ Hi hx ⟨hs,gs,c,rfl,hH,hG,hD,hI,sm⟩
  obtain ⟨hk,rfl⟩:=rK hx
  rw [hA.1] at hk ⊢
  obtain ⟨i₁,hi₁⟩:∃i,i=ws.length - 1 - k:=⟨_,rfl⟩
  have hi:i₁<ws.length:=by omega
  have hst:=hI.step hAF hRn hk (by rw [← hi₁];exact CS hA i₁ hi)
  rw [← hi₁] at hst ⊢
  obtain ⟨ta,hat,hT,ht⟩:=fH (hA.same sm) hi
  have hAl:WeirsAt K Hi rs ws hs.length:=by rw [hI.lh];exact hA.same sm
  refine ⟨_,rfl,_,rfl,_,rfl,wq,hl,rs,ws,_,hs,i₁,rfl,sm.seq hW,hAl,.inl (SqL.of hH),hi,by rw [hI.lh];omega,?_⟩
  refine ⟨_,rfl,_,rfl,gp,_,_,_,rfl,rfl,hG,y9 (by rw [List.length_map,hI.lg];exact hi),?_⟩
  rw [zI]
  have k1:∀o,Keep gp Hi (upd Hi gp o):=fun o=>(Keep.refl gp Hi).upd o
  have sG:∀o,Same H (upd Hi gp o):=fun o=>kT gf sm
  have hH':∀o,upd Hi gp o hl=some (.lst (hs.map V.int)):=fun o=>(k1 o) hl _ hlp' hH
  refine ⟨_,rfl,_,rfl,_,rfl,wq,_,_,_,rfl,rfl,(sG _).seq hW,hat,ta,_,_,_,rfl,rfl,(k1 _).sqt hG hT,rfl,j4 (SqL.of (hH' _)) (qD (by rw [hI.lh];exact ht)) (⟨_,rfl,_,rfl,j4 (SqL.of jE) (qD (by rw [List.length_set,hI.lg];exact hi)) (jP (⟨hl,_,_,_,rfl,rfl,hH' _,y9 (by rw [List.length_map,hI.lh];exact ht),?_⟩))⟩)⟩
  rw [zI]
  refine ⟨_,_,_,rfl,jE,?_,?_,hst,kT hhl (sG _)⟩
  ·rw [kC (Ne.symm hlp'),jE]
  ·rw [kC (Ne.symm dhl),kC (Ne.symm dgp),hD,hA.1]
 ·rintro σ Hi ⟨hs,gs,c,rfl,hH,hG,hD,hI,sm⟩
  rw [List.length_map,cE,hA.1] at hI
  refine ⟨_,rfl,?_⟩
  exact q gp Hi gs sm gf hG hI.spl
theorem nH:FnScope ["weirs","waters","given"] ["weirs","waters"] (jF QR):=⟨rfl,rfl,rfl,by decide +kernel,rfl,by decide +kernel,by decide +kernel⟩
theorem xV {f:Addr} {fd:FuncData} (F:Fun K "spill_pours" "spill_pours" QR f fd) (T:Txt K mg cP cB cU cR cN tkS eW eL tkH) (D_spills:Def P w K mg base 2 "spills" ["weirs","waters"] [] (pS K)) (D_last_first:Def P w K mg base 1 "last_first" ["weirs"] [] (lU K)):FnOk P w K mg base jU 3 f fd ["weirs","waters"] (pT K):=by
 refine F.ok nH (fun vs H Q E h=>?_) (fun cdv A outer s H vs Q E hr h=>?_)
 ·obtain ⟨wq,wa,rs,ws,ms,rfl,hRd,q⟩:=h
  rfl
 obtain ⟨wq,wa,rs,ws,ms,rfl,hRd,q⟩:=h
 have hu:_<cLine:=hr.units0
 have hu1:=jY hr
 refine ⟨_,(@jH _ _ _ _ _ (jQ (i:=2) nH.nd rfl (by first|exact Or.inl rfl|exact Or.inr rfl) (jM D_spills hr rfl (jA (pv 0) (jA (pv 1) jB))))
   (@jJ _ _ _ (@jN _ _ _ _ (qV ["at","given","weirs"] (kW 1 [2,0]) rfl (kZ (jF QR) rfl rfl (by decide +kernel) (by decide +kernel) (by decide +kernel)) (qA 1 [2,0] rfl rfl (by decide +kernel)) (qR (jM D_last_first hr rfl (jA (pv 0) jB))) (fun _ _ _ _ _=>(j8 (i:=0) (show List.Nodup (["at","given","weirs"]:List Str) from by decide +kernel) rfl (by first|exact Or.inl rfl|exact Or.inr rfl))) (fun _ _ _ _ _=>(zM (kD JM (jD (JC K) (pv 1) (pv 0) (fun _ _=>rfl)) jC (j3 _)))) (fun _ _ _ _ _=>(kL (@jA _ _ _ _ _ (pv 0) (@jA _ _ _ _ _ (jD (qO K) (jD (JC K) (pv 2) (pv 0) (fun _ _=>rfl)) jC (fun _ _=>rfl)) (@jA _ _ _ _ _ (jD (JC K) (pv 1) (pv 0) (fun _ _=>rfl)) jB (by rfl)) (by rfl)) (by rfl)))))))),?_⟩
 refine ⟨_,rfl,_,rfl,wq,wa,rs,ws,ms,rfl,hRd,fun gp H1 gs s1 hgp0 hgp hS=>?_⟩
 obtain ⟨hW,hA,hM,hAh,hRn,hn⟩:=hRd.same s1
 refine ⟨_,rfl,wq,rs,rfl,hW,by rw [hA.1];omega,fun df H2 s2 hdf0 hdf=>?_⟩
 refine ⟨df,rfl,⟨_,SqL.of hdf⟩,fun D hD=>?_⟩
 refine yX (K:=K) (a:=df) (xs:=(vF rs.length).map fun (i:Nat)=>V.int (i:Int)) (caps:=[some (.ref gp),some (.ref wq)]) (fun i ys Hi=>PoursH Hi ys (((kR (kA ws) (fun a=>gs.getD a 0) ws.length).take i).filter kO) ms.length) hD (SqL.of hdf) (PoursH.nil _ _) ?_ ?_
 ·rintro i x ys Hi hx hi hle sm hY hR
  obtain ⟨hk,rfl⟩:=rK hx
  rw [hA.1] at hk ⊢
  obtain ⟨i₁,hi₁⟩:∃i',i'=ws.length - 1 - i:=⟨_,rfl⟩
  have hi':i₁<ws.length:=by omega
  rw [← hi₁]
  have s12:=s2.trans sm
  obtain ⟨ta,hat,hT,ht⟩:=fH (hA.same s12) hi'
  have ef:((kR (kA ws) (fun a=>gs.getD a 0) ws.length).take (i+1)).filter kO=((kR (kA ws) (fun a=>gs.getD a 0) ws.length).take i).filter kO++[(i₁,kA ws i₁,gs.getD i₁ 0)].filter kO:=by
   rw [List.take_add_one,nR hk,← hi₁,List.filter_append]
   rfl
  refine ⟨_,rfl,_,rfl,j4 (SqL.of (s12 _ _ hgp)) (qD (by rw [hS.1];exact hi')) (⟨rfl,_,rfl,?_⟩)⟩
  by_cases hz:gs.getD i₁ 0=0
  ·refine JN (congrArg V.int hz) (JU sm hY hle (Same.refl _) ?_)
   rw [ef,List.filter_cons,if_neg (by unfold kO;rw [decide_eq_true (show gs.getD i₁ 0=0 from hz)];decide)]
   show PoursH Hi ys (_++[]) _
   rw [List.append_nil]
   exact hR
  refine dC (fun e=>hz (V.int.inj e)) ?_
  refine ⟨_,rfl,_,rfl,_,rfl,wq,_,_,_,rfl,rfl,s12.seq hW,hat,ta,_,_,_,rfl,rfl,hT,rfl,_,rfl,_,rfl,j4 (SqL.of (s12 _ _ hgp)) (qD (by rw [hS.1];exact hi')) (⟨zz3,fun tp htp=>?_⟩)⟩
  have st:=jK htp (.tup [.int (i₁:Int),.int (kA ws i₁:Int),.int (gs.getD i₁ 0)])
  refine qU hD sm hY hle (by omega) st ?_
  rw [ef,List.filter_cons,if_pos (by unfold kO;rw [decide_eq_false (show ¬gs.getD i₁ 0=0 from hz)];rfl)]
  exact ((hR.same st).snoc jE (by omega) ht).put (st _ _ hY)
 ·intro ys Hf sm hY hle hR
  rw [List.length_map,cE,hA.1,List.take_of_length_le (by unfold kR;rw [List.length_map,cE];exact Nat.le_refl _)] at hR
  have s12:=s2.trans sm
  exact q D Hf gs ys (s1.trans s12) ((s1.trans s2).free hD) hY hR hS
theorem BJ:FnScope ["weirs","waters","pours"] ["weirs","waters","pours"] (jF bZ):=⟨rfl,rfl,rfl,by decide +kernel,rfl,by decide +kernel,by decide +kernel⟩
theorem x6 {f:Addr} {fd:FuncData} (F:Fun K "with_spills" "with_spills" bZ f fd) (T:Txt K mg cP cB cU cR cN tkS eW eL tkH) (D_spill_pours:Def P w K mg base 3 "spill_pours" ["weirs","waters"] [] (pT K)) (D_poured_all:Def P w K mg base 1 "poured_all" ["waters","pours"] [] (gD K)):FnOk P w K mg base jU 4 f fd ["weirs","waters","pours"] (lD K):=by
 refine F.ok BJ (fun vs H Q E h=>?_) (fun cdv A outer s H vs Q E hr h=>?_)
 ·obtain ⟨wq,wa,p,rs,ps,ws,ms,qs,rfl,hRd,hp,hP,h500,q⟩:=h
  rfl
 obtain ⟨wq,wa,p,rs,ps,ws,ms,qs,rfl,hRd,hp,hP,h500,q⟩:=h
 have hu:_<cLine:=hr.units0
 have hu1:=jY hr
 refine ⟨_,(@jJ _ _ _ (@jN _ _ _ _ (@jI _ _ _ _ _ _ _ _ JG (pv 2) (jM D_spill_pours hr rfl (jA (pv 0) (jA (jM D_poured_all hr rfl (jA (pv 1) (jA (pv 2) jB))) jB)))))),?_⟩
 obtain ⟨hW,hA,hM,hAh,hRn,hn⟩:=id hRd
 refine ⟨_,rfl,_,rfl,_,rfl,_,rfl,wa,p,ms,ps,qs,rfl,hM,SqL.of hp,hP.pa,hn,fun wt H1 s1 hwt0 hwt=>?_⟩
 have el:(j9 ms qs).length=ms.length:=y0 _ _
 refine ⟨wq,wt,rs,ws,j9 ms qs,rfl,⟨s1.seq hW,by rw [el];exact hA.same s1,.inr (SqT.of hwt),hAh,by rw [el];exact hRn,by rw [el];exact hn⟩,fun sp H2 gs ys s2 hsp0 hsp hPs hS=>?_⟩
 rw [el] at hPs
 have hl:=nS ws (fun a=>gs.getD a 0)
 refine ⟨p,sp,_,_,rfl,rfl,s2 _ _ (s1 _ _ hp),hsp,Nat.le_trans (show ps.length+ys.length≤1500 by rw [hPs.1];omega) (by decide),fun al hal=>?_⟩
 have s3:=jK hal (.lst (ps++ys))
 have s12:=s1.trans s2
 exact q al _ gs _ (s12.trans s3) (s12.free hal) jE ((hP.same (s12.trans s3)).append (hPs.same s3)) hS
theorem BE:FnScope ["parts"] ["parts"] (jF QQ):=⟨rfl,rfl,rfl,by decide +kernel,rfl,by decide +kernel,by decide +kernel⟩
theorem xP {f:Addr} {fd:FuncData} (F:Fun K "parts_not_nought" "parts_not_nought" QQ f fd) (T:Txt K mg cP cB cU cR cN tkS eW eL tkH) : FnOk P w K mg base jU 1 f fd ["parts"] (dA K):=by
  refine F.ok BE (fun vs H Q E h=>?_) (fun cdv A outer s H vs Q E hr h=>?_)
  · obtain ⟨p,rs,ps,rfl,hP,hA,hn,q⟩:=h
    rfl
  obtain ⟨p,rs,ps,rfl,hP,hA,hn,q⟩:=h
  have hu:_<cLine:=hr.units0
  have hu1:=jY hr
  refine ⟨_,(@jJ _ _ _ (@jN _ _ _ _ (qV ["part"] (kW 1 []) rfl (kZ (jF QQ) rfl rfl (by decide +kernel) (by decide +kernel) (by decide +kernel)) (qA 1 [] rfl rfl (by decide +kernel)) (qR (pv 0)) (fun _ _ _ _ _=>(j8 (i:=0) (show List.Nodup (["part"]:List Str) from by decide +kernel) rfl (by first|exact Or.inl rfl|exact Or.inr rfl))) (fun _ _ _ _ _=>(zM (kD JM (jD (qO K) (pv 0) jC (fun _ _=>rfl)) jC (j3 _)))) (fun _ _ _ _ _=>(pv 0))))),?_⟩
  refine ⟨_,rfl,p,rfl,⟨rs,hP⟩,fun l hl=>?_⟩
  refine yX (K:=K) (a:=p) (xs:=rs) (caps:=[]) (fun i ys Hi=>PartsAt Hi ys ((ps.take i).filter qN)) hl hP PartsAt.nil ?_ ?_
  · rintro i x ys Hi hx hi hle sm hY hR
    obtain ⟨t,sN,nN,rfl,hps,hT⟩:=hA.2 i x hx
    have et:(ps.take (i+1)).filter qN=(ps.take i).filter qN++[(sN,nN)].filter qN:=by
      rw [List.take_add_one,hps,List.filter_append]
      rfl
    refine ⟨_,rfl,jL (SqT.of (sm _ _ hT)) rfl (⟨rfl,_,rfl,?_⟩)⟩
    by_cases hz:nN=0
    · refine JN (by rw [hz]) ?_
      refine JU sm hY hle (Same.refl _) ?_
      have e2:[(sN,nN)].filter qN=[]:=by rw [hz];rfl
      rw [et,e2,List.append_nil]
      exact hR
    · refine dC (fun e=>hz (V.int.inj e)) ?_
      refine ⟨_,rfl,qU hl sm hY hle (by omega) (Same.refl _) ?_⟩
      have e2:[(sN,nN)].filter qN=[(sN,nN)]:=by
        rw [List.filter_cons,if_pos (show qN (sN,nN)=true by unfold qN;rw [decide_eq_false hz];rfl)]
        rfl
      rw [et,e2]
      exact (hR.snoc (sm _ _ hT)).keep ((Keep.refl l Hi).upd _) hY
  · intro ys Hf sm hY hle hR
    rw [hA.1,List.take_length] at hR
    exact q l Hf ys sm hl hY hR
theorem AJ:FnScope ["self","name","high","low","room"] ["self","name","high","low","room"] (jF ZO):=⟨rfl,rfl,rfl,by decide +kernel,rfl,by decide +kernel,by decide +kernel⟩
theorem u4 {f:Addr} {fd:FuncData} (F:Fun K "__init__" "PlainLock.__init__" ZO f fd) (T:Txt K mg cP cB cU cR cN tkS eW eL tkH) : FnOk P w K mg base jU 1 f fd ["self","name","high","low","room"] (cQ (jG cP cB cU)):=by
 refine F.ok AJ (fun vs H Q E h=>?_) (fun cdv A outer s H vs Q E hr h=>?_)
 ·obtain ⟨kd,x,dx,n,h₁,l,r,rfl,hx,q⟩:=h
  rfl
 obtain ⟨kd,x,dx,n,h₁,l,r,rfl,hx,q⟩:=h
 have hu:_<cLine:=hr.units0
 have hu1:=jY hr
 refine ⟨_,(@jH _ _ _ _ _ (v0 (pv 0) (pv 1) rfl)
   (@jH _ _ _ _ _ (v0 (pv 0) (pv 2) rfl)
   (@jH _ _ _ _ _ (v0 (pv 0) (pv 3) rfl)
   (@jJ _ _ _ (v0 (pv 0) (pv 4) rfl))))),?_⟩
 refine ⟨_,rfl,_,rfl,x,_,dx,_,rfl,hx,T.cl kd,T.n_name kd,(by show 0<1000;decide),?_⟩
 refine ⟨_,rfl,_,rfl,x,_,dx,_,rfl,jE,T.cl kd,T.n_high kd,(by show 1<1000;decide),?_⟩
 refine ⟨_,rfl,_,rfl,x,_,dx,_,rfl,jE,T.cl kd,T.n_low kd,?_,?_⟩
 ·have:=zJ "high" h₁ (j0 "name" n [])
  have h2:(j0 ("name":Str) n []).length=1:=rfl
  omega
 refine ⟨_,rfl,_,rfl,x,_,dx,_,rfl,jE,T.cl kd,T.n_room kd,?_,?_⟩
 ·have:=zJ "low" l (j0 "high" h₁ (j0 "name" n []))
  have h1:=zJ "high" h₁ (j0 "name" n [])
  have h2:(j0 ("name":Str) n []).length=1:=rfl
  omega
 exact q _ (((((Keep.refl x H).upd _).upd _).upd _).upd _) jE
theorem x8:FnScope ["self","name","high","low","room","side"] ["self","name","high","low","room","side"] (jF ZE):=⟨rfl,rfl,rfl,by decide +kernel,rfl,by decide +kernel,by decide +kernel⟩
theorem uO {f:Addr} {fd:FuncData} (F:Fun K "__init__" "BasinLock.__init__" ZE f fd) (T:Txt K mg cP cB cU cR cN tkS eW eL tkH) (CM_PlainLock___init__:CmD P w K mg base 1 "PlainLock" cP "__init__" ["self","name","high","low","room"] (cQ (jG cP cB cU))):FnOk P w K mg base jU 2 f fd ["self","name","high","low","room","side"] (cO (jG cP cB cU) .basin):=by
 refine F.ok x8 (fun vs H Q E h=>?_) (fun cdv A outer s H vs Q E hr h=>?_)
 ·obtain ⟨x,dx,n,h₁,l,r,v,rfl,hx,q⟩:=h
  rfl
 obtain ⟨x,dx,n,h₁,l,r,v,rfl,hx,q⟩:=h
 have hu:_<cLine:=hr.units0
 have hu1:=jY hr
 refine ⟨_,(@jH _ _ _ _ _ (yG (sQ CM_PlainLock___init__ hr rfl (@jA _ _ _ _ _ (pv 0) (@jA _ _ _ _ _ (pv 1) (@jA _ _ _ _ _ (pv 2) (@jA _ _ _ _ _ (pv 3) (@jA _ _ _ _ _ (pv 4) jB (by rfl)) (by rfl)) (by rfl)) (by rfl)) (by rfl))))
   (@jJ _ _ _ (v0 (pv 0) (pv 5) rfl))),?_⟩
 refine ⟨_,rfl,_,rfl,_,rfl,_,rfl,_,rfl,.basin,x,dx,n,h₁,l,r,rfl,hx,fun H' kp hx'=>?_⟩
 refine ⟨_,rfl,_,rfl,x,_,dx,_,rfl,hx',T.cl .basin,T.n_side,oG _ _ _ _,?_⟩
 exact q _ (kp.upd _) jE
theorem AO:FnScope ["self","name","high","low","room","lift"] ["self","name","high","low","room","lift"] (jF ZT):=⟨rfl,rfl,rfl,by decide +kernel,rfl,by decide +kernel,by decide +kernel⟩
theorem u9 {f:Addr} {fd:FuncData} (F:Fun K "__init__" "PumpLock.__init__" ZT f fd) (T:Txt K mg cP cB cU cR cN tkS eW eL tkH) (CM_PlainLock___init__:CmD P w K mg base 1 "PlainLock" cP "__init__" ["self","name","high","low","room"] (cQ (jG cP cB cU))):FnOk P w K mg base jU 2 f fd ["self","name","high","low","room","lift"] (cO (jG cP cB cU) .pump):=by
 refine F.ok AO (fun vs H Q E h=>?_) (fun cdv A outer s H vs Q E hr h=>?_)
 ·obtain ⟨x,dx,n,h₁,l,r,v,rfl,hx,q⟩:=h
  rfl
 obtain ⟨x,dx,n,h₁,l,r,v,rfl,hx,q⟩:=h
 have hu:_<cLine:=hr.units0
 have hu1:=jY hr
 refine ⟨_,(@jH _ _ _ _ _ (yG (sQ CM_PlainLock___init__ hr rfl (@jA _ _ _ _ _ (pv 0) (@jA _ _ _ _ _ (pv 1) (@jA _ _ _ _ _ (pv 2) (@jA _ _ _ _ _ (pv 3) (@jA _ _ _ _ _ (pv 4) jB (by rfl)) (by rfl)) (by rfl)) (by rfl)) (by rfl))))
   (@jJ _ _ _ (v0 (pv 0) (pv 5) rfl))),?_⟩
 refine ⟨_,rfl,_,rfl,_,rfl,_,rfl,_,rfl,.pump,x,dx,n,h₁,l,r,rfl,hx,fun H' kp hx'=>?_⟩
 refine ⟨_,rfl,_,rfl,x,_,dx,_,rfl,hx',T.cl .pump,T.n_lift,oG _ _ _ _,?_⟩
 exact q _ (kp.upd _) jE
theorem AT:FnScope ["self","name","least","crest","berths","water","target"] ["self","name","least","crest","berths","water","target"] (jF ZX):=⟨rfl,rfl,rfl,by decide +kernel,rfl,by decide +kernel,by decide +kernel⟩
theorem wD {f:Addr} {fd:FuncData} (F:Fun K "__init__" "Reach.__init__" ZX f fd) (T:Txt K mg cP cB cU cR cN tkS eW eL tkH) : FnOk P w K mg base jU 1 f fd ["self","name","least","crest","berths","water","target"] (iI cR):=by
 refine F.ok AT (fun vs H Q E h=>?_) (fun cdv A outer s H vs Q E hr h=>?_)
 ·obtain ⟨x,dx,v_name,v_least,v_crest,v_berths,v_water,v_target,rfl,hx,q⟩:=h
  rfl
 obtain ⟨x,dx,v_name,v_least,v_crest,v_berths,v_water,v_target,rfl,hx,q⟩:=h
 have hu:_<cLine:=hr.units0
 have hu1:=jY hr
 refine ⟨_,(@jH _ _ _ _ _ (v0 (pv 0) (pv 1) rfl)
   (@jH _ _ _ _ _ (v0 (pv 0) (pv 2) rfl)
   (@jH _ _ _ _ _ (v0 (pv 0) (pv 3) rfl)
   (@jH _ _ _ _ _ (v0 (pv 0) (pv 4) rfl)
   (@jH _ _ _ _ _ (v0 (pv 0) (pv 5) rfl)
   (@jJ _ _ _ (v0 (pv 0) (pv 6) rfl))))))),?_⟩
 have ln:∀(f:Str) (z:V) (fs:List (Str×V)) (m:Nat),fs.length≤m→(j0 f z fs).length≤m+1:=fun f z fs m h=>Nat.le_trans (zJ f z fs) (by omega)
 have l0:([]:List (Str×V)).length≤0:=Nat.le_refl _
 refine ⟨_,rfl,_,rfl,x,cR,dx,_,rfl,hx,T.clR,T.nR_name,by omega,?_⟩
 have l1:=ln "name" v_name _ _ l0
 refine ⟨_,rfl,_,rfl,x,cR,dx,_,rfl,jE,T.clR,T.nR_least,by omega,?_⟩
 have l2:=ln "least" v_least _ _ l1
 refine ⟨_,rfl,_,rfl,x,cR,dx,_,rfl,jE,T.clR,T.nR_crest,by omega,?_⟩
 have l3:=ln "crest" v_crest _ _ l2
 refine ⟨_,rfl,_,rfl,x,cR,dx,_,rfl,jE,T.clR,T.nR_berths,by omega,?_⟩
 have l4:=ln "berths" v_berths _ _ l3
 refine ⟨_,rfl,_,rfl,x,cR,dx,_,rfl,jE,T.clR,T.nR_water,by omega,?_⟩
 have l5:=ln "water" v_water _ _ l4
 refine ⟨_,rfl,_,rfl,x,cR,dx,_,rfl,jE,T.clR,T.nR_target,by omega,?_⟩
 have l6:=ln "target" v_target _ _ l5
 exact q _ _ (((((((Keep.refl x H).upd _).upd _).upd _).upd _).upd _).upd _) jE (CO _ _ _ _ _ _)
theorem AM:FnScope ["self"] ["self"] (jF ZR):=⟨rfl,rfl,rfl,by decide +kernel,rfl,by decide +kernel,by decide +kernel⟩
theorem u7 {f:Addr} {fd:FuncData} (F:Fun K "kind" "PlainLock.kind" ZR f fd) (T:Txt K mg cP cB cU cR cN tkS eW eL tkH) : FnOk P w K mg base jU 1 f fd ["self"] (vE (jG cP cB cU) (fun kd _=>V.str (match kd with|.plain=>"plain"|.basin=>"basin"|.pump=>"pump")) .plain):=by
 refine F.ok AM (fun vs H Q E h=>?_) (fun cdv A outer s H vs Q E hr h=>?_)
 ·obtain ⟨x,n,h₁,l,room,v,rfl,⟨dx,hx⟩,q⟩:=h
  rfl
 obtain ⟨x,n,h₁,l,room,v,rfl,⟨dx,hx⟩,q⟩:=h
 have hu:_<cLine:=hr.units0
 have hu1:=jY hr
 refine ⟨_,(@jJ _ _ _ (@jN _ _ _ _ jO)),?_⟩
 exact q
theorem AB:FnScope ["self"] ["self"] (jF ZH):=⟨rfl,rfl,rfl,by decide +kernel,rfl,by decide +kernel,by decide +kernel⟩
theorem uR {f:Addr} {fd:FuncData} (F:Fun K "kind" "BasinLock.kind" ZH f fd) (T:Txt K mg cP cB cU cR cN tkS eW eL tkH) : FnOk P w K mg base jU 1 f fd ["self"] (vE (jG cP cB cU) (fun kd _=>V.str (match kd with|.plain=>"plain"|.basin=>"basin"|.pump=>"pump")) .basin):=by
 refine F.ok AB (fun vs H Q E h=>?_) (fun cdv A outer s H vs Q E hr h=>?_)
 ·obtain ⟨x,n,h₁,l,room,v,rfl,⟨dx,hx⟩,q⟩:=h
  rfl
 obtain ⟨x,n,h₁,l,room,v,rfl,⟨dx,hx⟩,q⟩:=h
 have hu:_<cLine:=hr.units0
 have hu1:=jY hr
 refine ⟨_,(@jJ _ _ _ (@jN _ _ _ _ jO)),?_⟩
 exact q
theorem AS:FnScope ["self"] ["self"] (jF ZW):=⟨rfl,rfl,rfl,by decide +kernel,rfl,by decide +kernel,by decide +kernel⟩
theorem wC {f:Addr} {fd:FuncData} (F:Fun K "kind" "PumpLock.kind" ZW f fd) (T:Txt K mg cP cB cU cR cN tkS eW eL tkH) : FnOk P w K mg base jU 1 f fd ["self"] (vE (jG cP cB cU) (fun kd _=>V.str (match kd with|.plain=>"plain"|.basin=>"basin"|.pump=>"pump")) .pump):=by
 refine F.ok AS (fun vs H Q E h=>?_) (fun cdv A outer s H vs Q E hr h=>?_)
 ·obtain ⟨x,n,h₁,l,room,v,rfl,⟨dx,hx⟩,q⟩:=h
  rfl
 obtain ⟨x,n,h₁,l,room,v,rfl,⟨dx,hx⟩,q⟩:=h
 have hu:_<cLine:=hr.units0
 have hu1:=jY hr
 refine ⟨_,(@jJ _ _ _ (@jN _ _ _ _ jO)),?_⟩
 exact q
theorem AK:FnScope ["self"] ["self"] (jF ZP):=⟨rfl,rfl,rfl,by decide +kernel,rfl,by decide +kernel,by decide +kernel⟩
theorem u5 {f:Addr} {fd:FuncData} (F:Fun K "extra" "PlainLock.extra" ZP f fd) (T:Txt K mg cP cB cU cR cN tkS eW eL tkH) : FnOk P w K mg base jU 1 f fd ["self"] (vE (jG cP cB cU) (fun kd v=>V.int (match kd with|.plain=>0|.basin=>v|.pump=>v)) .plain):=by
 refine F.ok AK (fun vs H Q E h=>?_) (fun cdv A outer s H vs Q E hr h=>?_)
 ·obtain ⟨x,n,h₁,l,room,v,rfl,⟨dx,hx⟩,q⟩:=h
  rfl
 obtain ⟨x,n,h₁,l,room,v,rfl,⟨dx,hx⟩,q⟩:=h
 have hu:_<cLine:=hr.units0
 have hu1:=jY hr
 refine ⟨_,(@jJ _ _ _ (@jN _ _ _ _ jC)),?_⟩
 exact q
theorem x9:FnScope ["self"] ["self"] (jF ZF):=⟨rfl,rfl,rfl,by decide +kernel,rfl,by decide +kernel,by decide +kernel⟩
theorem uP {f:Addr} {fd:FuncData} (F:Fun K "extra" "BasinLock.extra" ZF f fd) (T:Txt K mg cP cB cU cR cN tkS eW eL tkH) : FnOk P w K mg base jU 1 f fd ["self"] (vE (jG cP cB cU) (fun kd v=>V.int (match kd with|.plain=>0|.basin=>v|.pump=>v)) .basin):=by
 refine F.ok x9 (fun vs H Q E h=>?_) (fun cdv A outer s H vs Q E hr h=>?_)
 ·obtain ⟨x,n,h₁,l,room,v,rfl,⟨dx,hx⟩,q⟩:=h
  rfl
 obtain ⟨x,n,h₁,l,room,v,rfl,⟨dx,hx⟩,q⟩:=h
 have hu:_<cLine:=hr.units0
 have hu1:=jY hr
 refine ⟨_,(@jJ _ _ _ (@jN _ _ _ _ (jR (pv 0) rfl))),?_⟩
 exact ⟨_,rfl,jT hx (T.cl .basin) (T.n_side) (eA _ _ _ _ _ _) (q)⟩
theorem AQ:FnScope ["self"] ["self"] (jF ZU):=⟨rfl,rfl,rfl,by decide +kernel,rfl,by decide +kernel,by decide +kernel⟩
theorem wA {f:Addr} {fd:FuncData} (F:Fun K "extra" "PumpLock.extra" ZU f fd) (T:Txt K mg cP cB cU cR cN tkS eW eL tkH) : FnOk P w K mg base jU 1 f fd ["self"] (vE (jG cP cB cU) (fun kd v=>V.int (match kd with|.plain=>0|.basin=>v|.pump=>v)) .pump):=by
 refine F.ok AQ (fun vs H Q E h=>?_) (fun cdv A outer s H vs Q E hr h=>?_)
 ·obtain ⟨x,n,h₁,l,room,v,rfl,⟨dx,hx⟩,q⟩:=h
  rfl
 obtain ⟨x,n,h₁,l,room,v,rfl,⟨dx,hx⟩,q⟩:=h
 have hu:_<cLine:=hr.units0
 have hu1:=jY hr
 refine ⟨_,(@jJ _ _ _ (@jN _ _ _ _ (jR (pv 0) rfl))),?_⟩
 exact ⟨_,rfl,jT hx (T.cl .pump) (T.n_lift) (eA _ _ _ _ _ _) (q)⟩
theorem AL:FnScope ["self","basin"] ["self","basin"] (jF ZQ):=⟨rfl,rfl,rfl,by decide +kernel,rfl,by decide +kernel,by decide +kernel⟩
theorem u6 {f:Addr} {fd:FuncData} (F:Fun K "fill_parts" "PlainLock.fill_parts" ZQ f fd) (T:Txt K mg cP cB cU cR cN tkS eW eL tkH) (D_parts_not_nought:Def P w K mg base 1 "parts_not_nought" ["parts"] [] (dA K)):FnOk P w K mg base jU 2 f fd ["self","basin"] (vT (jG cP cB cU) yI .plain):=by
 refine F.ok AL (fun vs H Q E h=>?_) (fun cdv A outer s H vs Q E hr h=>?_)
 ·obtain ⟨x,n,h₁,l,room,v,b,rfl,⟨dx,hx⟩,q⟩:=h
  rfl
 obtain ⟨x,n,h₁,l,room,v,b,rfl,⟨dx,hx⟩,q⟩:=h
 have hu:_<cLine:=hr.units0
 have hu1:=jY hr
 refine ⟨_,(@jJ _ _ _ (@jN _ _ _ _ (jM D_parts_not_nought hr rfl (jA (kN (jA (kL (jA jO (jA (jR (pv 0) rfl) jB))) jB)) jB)))),?_⟩
 refine ⟨_,rfl,jT hx (T.cl .plain) (T.n_room .plain) (yO .plain _ _ _ _ _) (⟨zz2,fun tp htp=>⟨zz1,fun lp hlp=>?_⟩⟩)⟩
 have s1:=jK htp (.tup [.str "high",.int room])
 have s2:=jK hlp (.lst [V.ref tp])
 refine ⟨lp,[.ref tp],[("high",room)],rfl,SqL.of jE,PartsAt.nil.snoc (s2 _ _ jE),(by show 1≤10;decide),fun rr H' rs' sm hrr0 hrr hP=>?_⟩
 exact q rr H' rs' ((s1.trans s2).trans sm) ((s1.trans s2).free hrr0) hrr hP
theorem AA:FnScope ["self","basin"] ["self","basin"] (jF ZG):=⟨rfl,rfl,rfl,by decide +kernel,rfl,by decide +kernel,by decide +kernel⟩
theorem uQ {f:Addr} {fd:FuncData} (F:Fun K "fill_parts" "BasinLock.fill_parts" ZG f fd) (T:Txt K mg cP cB cU cR cN tkS eW eL tkH) (D_parts_not_nought:Def P w K mg base 1 "parts_not_nought" ["parts"] [] (dA K)):FnOk P w K mg base jU 2 f fd ["self","basin"] (vT (jG cP cB cU) yI .basin):=by
 refine F.ok AA (fun vs H Q E h=>?_) (fun cdv A outer s H vs Q E hr h=>?_)
 ·obtain ⟨x,n,h₁,l,room,v,b,rfl,⟨dx,hx0⟩,q⟩:=h
  rfl
 obtain ⟨x,n,h₁,l,room,v,b,rfl,⟨dx,hx0⟩,q⟩:=h
 have hu:_<cLine:=hr.units0
 have hu1:=jY hr
 refine ⟨_,(@jJ _ _ _ (@jN _ _ _ _ (jM D_parts_not_nought hr rfl (jA (kN (jA (kL (jA jO (jA (pv 1) jB))) (jA (kL (jA jO (jA (@jI _ _ _ _ _ _ _ _ qK (jR (pv 0) rfl) (pv 1)) jB))) jB))) jB)))),?_⟩
 refine ⟨_,rfl,zz2,fun tp htp=>?_⟩
 have s1:=jK htp (.tup [.str "basin",.int b])
 have hx:=s1 _ _ hx0
 refine ⟨_,rfl,jT hx (T.cl .basin) (T.n_room .basin) (yO .basin _ _ _ _ _) (⟨_,rfl,jP (⟨zz2,fun tq htq=>⟨zz2,fun lp hlp=>?_⟩⟩)⟩)⟩
 have s2:=jK htq (.tup [.str "high",.int (room - b)])
 have s3:=jK hlp (.lst [V.ref tp,V.ref tq])
 refine ⟨lp,[.ref tp,.ref tq],[("basin",b),("high",room - b)],rfl,SqL.of jE,(PartsAt.nil.snoc (s3 _ _ (s2 _ _ jE))).snoc (s3 _ _ jE),(by show 2≤10;decide),fun rr H' rs' sm hrr0 hrr hP=>?_⟩
 exact q rr H' rs' (((s1.trans s2).trans s3).trans sm) (((s1.trans s2).trans s3).free hrr0) hrr hP
theorem AR:FnScope ["self","basin"] ["self","basin"] (jF ZV):=⟨rfl,rfl,rfl,by decide +kernel,rfl,by decide +kernel,by decide +kernel⟩
theorem wB {f:Addr} {fd:FuncData} (F:Fun K "fill_parts" "PumpLock.fill_parts" ZV f fd) (T:Txt K mg cP cB cU cR cN tkS eW eL tkH) (D_parts_not_nought:Def P w K mg base 1 "parts_not_nought" ["parts"] [] (dA K)):FnOk P w K mg base jU 2 f fd ["self","basin"] (vT (jG cP cB cU) yI .pump):=by
 refine F.ok AR (fun vs H Q E h=>?_) (fun cdv A outer s H vs Q E hr h=>?_)
 ·obtain ⟨x,n,h₁,l,room,v,b,rfl,⟨dx,hx0⟩,q⟩:=h
  rfl
 obtain ⟨x,n,h₁,l,room,v,b,rfl,⟨dx,hx0⟩,q⟩:=h
 have hu:_<cLine:=hr.units0
 have hu1:=jY hr
 refine ⟨_,(@jJ _ _ _ (@jN _ _ _ _ (jM D_parts_not_nought hr rfl (jA (kN (jA (kL (jA jO (jA (jR (pv 0) rfl) jB))) (jA (kL (jA jO (jA (@jI _ _ _ _ _ _ _ _ qK (jR (pv 0) rfl) (jR (pv 0) rfl)) jB))) jB))) jB)))),?_⟩
 refine ⟨_,rfl,jT hx0 (T.cl .pump) (T.n_lift) (eA _ _ _ _ _ _) (⟨zz2,fun tp htp=>?_⟩)⟩
 have s1:=jK htp (.tup [.str "low",.int v])
 have hx:=s1 _ _ hx0
 refine ⟨_,rfl,jT hx (T.cl .pump) (T.n_room .pump) (yO .pump _ _ _ _ _) (⟨_,rfl,jT hx (T.cl .pump) (T.n_lift) (eA _ _ _ _ _ _) (jP (⟨zz2,fun tq htq=>⟨zz2,fun lp hlp=>?_⟩⟩))⟩)⟩
 have s2:=jK htq (.tup [.str "high",.int (room - v)])
 have s3:=jK hlp (.lst [V.ref tp,V.ref tq])
 refine ⟨lp,[.ref tp,.ref tq],[("low",v),("high",room - v)],rfl,SqL.of jE,(PartsAt.nil.snoc (s3 _ _ (s2 _ _ jE))).snoc (s3 _ _ jE),(by show 2≤10;decide),fun rr H' rs' sm hrr0 hrr hP=>?_⟩
 exact q rr H' rs' (((s1.trans s2).trans s3).trans sm) (((s1.trans s2).trans s3).free hrr0) hrr hP
theorem AN:FnScope ["self","basin"] ["self","basin"] (jF ZS):=⟨rfl,rfl,rfl,by decide +kernel,rfl,by decide +kernel,by decide +kernel⟩
theorem u8 {f:Addr} {fd:FuncData} (F:Fun K "let_parts" "PlainLock.let_parts" ZS f fd) (T:Txt K mg cP cB cU cR cN tkS eW eL tkH) (D_parts_not_nought:Def P w K mg base 1 "parts_not_nought" ["parts"] [] (dA K)):FnOk P w K mg base jU 2 f fd ["self","basin"] (EV (jG cP cB cU)):=by
 refine F.ok AN (fun vs H Q E h=>?_) (fun cdv A outer s H vs Q E hr h=>?_)
 ·obtain ⟨kd,x,n,h₁,l,room,v,b,rfl,⟨dx,hx⟩,q⟩:=h
  rfl
 obtain ⟨kd,x,n,h₁,l,room,v,b,rfl,⟨dx,hx⟩,q⟩:=h
 have hu:_<cLine:=hr.units0
 have hu1:=jY hr
 refine ⟨_,(@jJ _ _ _ (@jN _ _ _ _ (jM D_parts_not_nought hr rfl (jA (kN (jA (kL (jA jO (jA (jR (pv 0) rfl) jB))) jB)) jB)))),?_⟩
 refine ⟨_,rfl,jT hx (T.cl kd) (T.n_room kd) (yO kd _ _ _ _ _) (⟨zz2,fun tp htp=>⟨zz1,fun lp hlp=>?_⟩⟩)⟩
 have s1:=jK htp (.tup [.str "low",.int room])
 have s2:=jK hlp (.lst [V.ref tp])
 refine ⟨lp,[.ref tp],[("low",room)],rfl,SqL.of jE,PartsAt.nil.snoc (s2 _ _ jE),(by show 1≤10;decide),fun rr H' rs' sm hrr0 hrr hP=>?_⟩
 exact q rr H' rs' ((s1.trans s2).trans sm) ((s1.trans s2).free hrr0) hrr hP
theorem nA:FnScope ["self","basin","saved"] ["self","basin"] (jF ZI):=⟨rfl,rfl,rfl,by decide +kernel,rfl,by decide +kernel,by decide +kernel⟩
theorem uS {f:Addr} {fd:FuncData} (F:Fun K "let_parts" "BasinLock.let_parts" ZI f fd) (T:Txt K mg cP cB cU cR cN tkS eW eL tkH) (D_parts_not_nought:Def P w K mg base 1 "parts_not_nought" ["parts"] [] (dA K)):FnOk P w K mg base jU 2 f fd ["self","basin"] (vT (jG cP cB cU) yE .basin):=by
 refine F.ok nA (fun vs H Q E h=>?_) (fun cdv A outer s H vs Q E hr h=>?_)
 ·obtain ⟨x,n,h₁,l,room,v,b,rfl,⟨dx,hx0⟩,q⟩:=h
  rfl
 obtain ⟨x,n,h₁,l,room,v,b,rfl,⟨dx,hx0⟩,q⟩:=h
 have hu:_<cLine:=hr.units0
 have hu1:=jY hr
 refine ⟨_,(@jH _ _ _ _ _ (jQ (i:=2) nA.nd rfl (by first|exact Or.inl rfl|exact Or.inr rfl) (@jI _ _ _ _ _ _ _ _ qK (jR (pv 0) rfl) (pv 1)))
   (@jJ _ _ _ (@jN _ _ _ _ (jM D_parts_not_nought hr rfl (jA (kN (jA (kL (jA jO (jA (pv 2) jB))) (jA (kL (jA jO (jA (@jI _ _ _ _ _ _ _ _ qK (jR (pv 0) rfl) (pv 2)) jB))) jB))) jB))))),?_⟩
 have hx:=hx0
 refine ⟨_,rfl,jT hx (T.cl .basin) (T.n_side) (eA _ _ _ _ _ _) (⟨_,rfl,jP (?_)⟩)⟩
 refine ⟨_,rfl,zz2,fun tp htp=>?_⟩
 have s1:=jK htp (.tup [.str "basin",.int (v - b)])
 have hx:=s1 _ _ hx0
 refine ⟨_,rfl,jT hx (T.cl .basin) (T.n_room .basin) (yO .basin _ _ _ _ _) (⟨_,rfl,jP (⟨zz2,fun tq htq=>⟨zz2,fun lp hlp=>?_⟩⟩)⟩)⟩
 have s2:=jK htq (.tup [.str "low",.int (room - (v - b))])
 have s3:=jK hlp (.lst [V.ref tp,V.ref tq])
 refine ⟨lp,[.ref tp,.ref tq],[("basin",v - b),("low",room - (v - b))],rfl,SqL.of jE,(PartsAt.nil.snoc (s3 _ _ (s2 _ _ jE))).snoc (s3 _ _ jE),(by show 2≤10;decide),fun rr H' rs' sm hrr0 hrr hP=>?_⟩
 exact q rr H' rs' (((s1.trans s2).trans s3).trans sm) (((s1.trans s2).trans s3).free hrr0) hrr hP
theorem AC:FnScope ["self","reaches","locks","nights"] ["self","reaches","locks","nights"] (jF QG):=⟨rfl,rfl,rfl,by decide +kernel,rfl,by decide +kernel,by decide +kernel⟩
theorem uT {f:Addr} {fd:FuncData} {ds:List Value} (F:FunD K "__init__" "Canal.__init__" QG f fd ds) (T:Txt K mg cP cB cU cR cN tkS eW eL tkH) : FnOk P w K mg base jU 1 f fd ["self","reaches","locks","nights"] (iJ (jG cP cB cU) cR cN):=by
 refine F.ok AC (fun vs H Q E h=>?_) (fun cdv A outer s H vs Q E hr h=>?_)
 ·obtain ⟨x,dx,rl,ll,nv,rs,ls,R,L,N,rfl,hx,hrl,hll,hR,hL,hN,q⟩:=h
  rfl
 obtain ⟨x,dx,rl,ll,nv,rs,ls,R,L,N,rfl,hx,hrl,hll,hR,hL,hN,q⟩:=h
 have hu:_<cLine:=hr.units0
 have hu1:=jY hr
 refine ⟨_,(@jH _ _ _ _ _ (v0 (pv 0) (qJ zZ (by rfl) T.z_list PyProof.Rows.boot_list (jA (pv 1) jB)) rfl)
   (@jH _ _ _ _ _ (v0 (pv 0) (qJ zZ (by rfl) T.z_list PyProof.Rows.boot_list (jA (pv 2) jB)) rfl)
   (@jJ _ _ _ (v0 (pv 0) (JB (kD GA (pv 3) FU (j3 _)) (kN jB) (qV ["night"] (kW 1 []) rfl (kZ (jF QG) rfl rfl (by decide +kernel) (by decide +kernel) (by decide +kernel)) (qA 1 [] rfl rfl (by decide +kernel)) (qR (pv 3)) (fun _ _ _ _ _=>(j8 (i:=0) (show List.Nodup (["night"]:List Str) from by decide +kernel) rfl (by first|exact Or.inl rfl|exact Or.inr rfl))) (fun _ _ _ _ _=>qZ) (fun _ _ _ _ _=>(qJ (BN K) (by rfl) T.z_list PyProof.Rows.boot_list (jA (pv 0) jB))))) rfl)))),?_⟩
 have ln:∀(f:Str) (z:V) (fs:List (Str×V)) (m:Nat),fs.length≤m→(j0 f z fs).length≤m+1:=fun f z fs m h=>Nat.le_trans (zJ f z fs) (by omega)
 have nrx:rl≠x:=zS hrl hx (fun z=>nomatch z)
 have nlx:ll≠x:=zS hll hx (fun z=>nomatch z)
 refine ⟨_,rfl,rl,_,rfl,.inl (SqL.of hrl),fun r2 hr20=>?_⟩
 have s1:=jK hr20 (.lst rs)
 have nr2:r2≠x:=(qI hx hr20).symm
 refine ⟨_,rfl,x,cN,dx,_,rfl,s1 _ _ hx,T.clN,T.nN_reaches,(by show 0<1000;decide),?_⟩
 have k1:Keep x H (upd (upd H r2 (.lst rs)) x (.ins cN dx (j0 "reaches" (.ref r2) []))):=(Keep.of s1).upd _
 have hr2:upd (upd H r2 (.lst rs)) x (.ins cN dx (j0 "reaches" (.ref r2) [])) r2=some (.lst rs):=by rw [kC nr2];exact jE
 have hx1:upd (upd H r2 (.lst rs)) x (.ins cN dx (j0 "reaches" (.ref r2) [])) x=some (.ins cN dx (j0 "reaches" (.ref r2) [])):=jE
 generalize upd (upd H r2 (.lst rs)) x (.ins cN dx (j0 "reaches" (.ref r2) []))=H1 at k1 hr2 hx1 ⊢
 have l1:=ln "reaches" (.ref r2) [] 0 (Nat.le_refl _)
 refine ⟨_,rfl,ll,_,rfl,.inl (SqL.of (k1 _ _ nlx hll)),fun l2 hl20=>?_⟩
 have s2:=jK hl20 (.lst ls)
 have nl2:l2≠x:=(qI hx1 hl20).symm
 refine ⟨_,rfl,x,cN,dx,_,rfl,s2 _ _ hx1,T.clN,T.nN_locks,by omega,?_⟩
 have l2':=ln "locks" (.ref l2) _ _ l1
 have k2:Keep x H (upd (upd H1 l2 (.lst ls)) x (.ins cN dx (j0 "locks" (.ref l2) (j0 "reaches" (.ref r2) [])))):=(k1.trans (Keep.of s2)).upd _
 have hr2b:upd (upd H1 l2 (.lst ls)) x (.ins cN dx (j0 "locks" (.ref l2) (j0 "reaches" (.ref r2) []))) r2=some (.lst rs):=by rw [kC nr2];exact s2 _ _ hr2
 have hl2:upd (upd H1 l2 (.lst ls)) x (.ins cN dx (j0 "locks" (.ref l2) (j0 "reaches" (.ref r2) []))) l2=some (.lst ls):=by rw [kC nl2];exact jE
 have hx2:upd (upd H1 l2 (.lst ls)) x (.ins cN dx (j0 "locks" (.ref l2) (j0 "reaches" (.ref r2) []))) x=some (.ins cN dx (j0 "locks" (.ref l2) (j0 "reaches" (.ref r2) []))):=jE
 generalize upd (upd H1 l2 (.lst ls)) x (.ins cN dx (j0 "locks" (.ref l2) (j0 "reaches" (.ref r2) [])))=H2 at k2 hr2b hl2 hx2 ⊢
 have frR:∀D:List Addr,(∀d∈D,H d≠none)→r2∉D:=fun D hD z=>hD _ z hr20
 have frL:∀D:List Addr,(∀d∈D,H d≠none)→l2∉D:=fun D hD z=>by
  by_cases e:l2=x
  ·exact nl2 e
  ·cases hh:H l2 with
   |none=>exact hD _ z hh
   |some o=>rw [k1 _ _ e hh] at hl20;cases hl20
 have done:∀(n2:Addr) (ns:List V) (H3:Hp),Keep x H2 H3→H2 n2=none→H3 x=some (.ins cN dx (j0 "locks" (.ref l2) (j0 "reaches" (.ref r2) [])))→H3 n2=some (.lst ns)→(∀D:List Addr,(∀d∈D,H2 d≠none)→AllAt (NAt D H3) ns N)→Q .non (upd H3 x (.ins cN dx (j0 "nights" (.ref n2) (j0 "locks" (.ref l2) (j0 "reaches" (.ref r2) []))))):=by
  intro n2 ns H3 k3 hn20 hx3 hn2 hNs
  have kf:Keep x H (upd H3 x (.ins cN dx (j0 "nights" (.ref n2) (j0 "locks" (.ref l2) (j0 "reaches" (.ref r2) []))))):=(k2.trans k3).upd _
  have kl:Keep x H3 (upd H3 x (.ins cN dx (j0 "nights" (.ref n2) (j0 "locks" (.ref l2) (j0 "reaches" (.ref r2) []))))):=(Keep.refl x H3).upd _
  have nn2:n2≠x:=fun z=>by rw [z,hx2] at hn20;cases hn20
  have old:∀d,H d≠none→H2 d≠none:=fun d hd=>by
   by_cases e:d=x
   ·rw [e,hx2];exact fun z=>nomatch z
   ·cases hh:H d with
    |none=>exact absurd hh hd
    |some o=>rw [k2 _ _ e hh];exact fun z=>nomatch z
  refine q _ kf fun D hD=>⟨dx,r2,l2,n2,_,rs,ls,ns,jE,CP _ _ _,?_,?_,?_,hR.mono (RcO.keepI kf hx),hL.mono (LkO.keepI kf hx),?_,frR D hD,frL D hD,fun z=>old _ (hD _ z) hn20⟩
  ·rw [kC nr2];exact k3 _ _ nr2 hr2b
  ·rw [kC nl2];exact k3 _ _ nl2 hl2
  ·rw [kC nn2];exact hn2
  ·refine (hNs D (fun d hd=>old d (hD d hd))).mono ?_
   rintro v p ⟨l,qs,e1,e2,e3,e4⟩
   exact ⟨l,qs,e1,kl _ _ (fun z=>by rw [z,hx3] at e2;cases e2) e2,e3.mono (QAt.keep kl hx3 (fun _ z=>nomatch z)),e4⟩
 refine ⟨_,rfl,rfl,_,rfl,?_⟩
 rcases hN with ⟨rfl,rfl⟩|⟨nl,ns,rfl,hnl,hN,hnl100⟩
 ·refine kM rfl ⟨zz0,fun n2 hn20=>?_⟩
  have s3:=jK hn20 (.lst [])
  refine ⟨_,rfl,x,cN,dx,_,rfl,s3 _ _ hx2,T.clN,T.nN_nights,by omega,?_⟩
  exact done n2 [] _ (Keep.of s3) hn20 (s3 _ _ hx2) jE (fun D _=>AllAt.nil)
 ·have nnx:nl≠x:=zS hnl hx (fun z=>nomatch z)
  have hnl2:=k2 _ _ nnx hnl
  have hN2:AllAt (NAt [] H2) ns N:=hN.mono fun v p=>by
   rintro ⟨l,qs,e1,e2,e3,e4⟩
   exact ⟨l,qs,e1,k2 _ _ (zS e2 hx (fun z=>nomatch z)) e2,e3.mono (QAt.keep k2 hx (fun _ z=>nomatch z)),e4⟩
  refine kF (fun z=>nomatch z) ⟨_,rfl,nl,rfl,⟨_,SqL.of hnl2⟩,fun n2 hn20=>?_⟩
  refine yX (K:=K) (a:=nl) (xs:=ns) (caps:=[]) (fun i ys Hi=>(∀D:List Addr,n2∈D→(∀d∈D,d≠n2→H2 d≠none)→AllAt (NAt D Hi) ys (N.take i))) hn20 (SqL.of hnl2) (fun D _ _=>AllAt.nil) ?_ ?_
  ·rintro i v ys Hi hv hi hle sm hY hI
   obtain ⟨p,hp,l,qs,rfl,hl,hq,_⟩:=hN2.2 i v hv
   refine q9 (kU ?_)
   refine ⟨_,rfl,l,qs,rfl,.inl (SqL.of (sm _ _ hl)),fun c hc0=>?_⟩
   have u:=jK hc0 (.lst qs)
   refine qU hn20 sm hY hle (by omega) u ?_
   intro D hnD hD
   rw [List.take_add_one,hp]
   refine (((hI D hnD hD).mono (NAt.same u)).snoc (v:=.ref c) (x:=p) ⟨c,qs,rfl,jE,(hq.mono (QAt.same sm)).mono (QAt.same u),fun z=>?_⟩).mono (NAt.put (u _ _ hY) hnD)
   by_cases e:c=n2
   ·rw [e,hY] at hc0;cases hc0
   ·cases hh:H2 c with
    |none=>exact hD _ z e hh
    |some o=>rw [sm _ _ hh] at hc0;cases hc0
  rintro ys H3 s3 hY hle hI
  rw [hN2.1,List.take_length] at hI
  refine ⟨_,rfl,x,cN,dx,_,rfl,s3 _ _ hx2,T.clN,T.nN_nights,by omega,?_⟩
  exact done n2 ys H3 (Keep.of s3) hn20 (s3 _ _ hx2) hY (fun D hD=>(hI (n2::D) List.mem_cons_self (fun d hd ne=>(List.mem_cons.mp hd).elim (fun z=>absurd z ne) (hD d))).mono (NAt.less (fun d hd=>List.mem_cons_of_mem _ hd)))
theorem AG:FnScope ["self"] ["self"] (jF ZM):=⟨rfl,rfl,rfl,by decide +kernel,rfl,by decide +kernel,by decide +kernel⟩
theorem uX {f:Addr} {fd:FuncData} (F:Fun K "sea" "Canal.sea" ZM f fd) (T:Txt K mg cP cB cU cR cN tkS eW eL tkH) : FnOk P w K mg base jU 1 f fd ["self"] (ZA (jG cP cB cU) cR cN yB):=by
 refine F.ok AG (fun vs H Q E h=>?_) (fun cdv A outer s H vs Q E hr h=>?_)
 ·obtain ⟨x,D,R,L,N,rfl,⟨dx,rl,ll,nl,fs,rs,ls,ns,hx,hf,hrl,hll,hnl,hR,hL,hN,d1,d2,d3⟩,q⟩:=h
  rfl
 obtain ⟨x,D,R,L,N,rfl,⟨dx,rl,ll,nl,fs,rs,ls,ns,hx,hf,hrl,hll,hnl,hR,hL,hN,d1,d2,d3⟩,q⟩:=h
 have hu:_<cLine:=hr.units0
 have hu1:=jY hr
 refine ⟨_,(@jJ _ _ _ (@jN _ _ _ _ (@jI _ _ _ _ _ _ _ _ jX (kB kI (by rfl) T.z_len PySem.boot_len (jA (jR (pv 0) rfl) jB)) (@jI _ _ _ _ _ _ _ _ kK jC (kB kI (by rfl) T.z_len PySem.boot_len (jA (jR (pv 0) rfl) jB)))))),?_⟩
 refine ⟨_,rfl,jT hx (T.clN) (T.nN_reaches) (hf.1) (⟨_,_,rfl,.inl (SqL.of hrl),_,rfl,jT hx (T.clN) (T.nN_locks) (hf.2.1) (⟨_,_,rfl,.inl (SqL.of hll),_,_,rfl,rfl,.inl ⟨by decide,by decide⟩,_,_,rfl,rfl,?_⟩)⟩)⟩
 rw [hR.1,hL.1]
 exact q
theorem AH:FnScope ["self"] ["self"] (jF ZN):=⟨rfl,rfl,rfl,by decide +kernel,rfl,by decide +kernel,by decide +kernel⟩
theorem uY {f:Addr} {fd:FuncData} (F:Fun K "sky" "Canal.sky" ZN f fd) (T:Txt K mg cP cB cU cR cN tkS eW eL tkH) (MM_Canal_sea:MeD P w K mg base 1 cN "sea" ["self"] (ZA (jG cP cB cU) cR cN yB)):FnOk P w K mg base jU 2 f fd ["self"] (ZA (jG cP cB cU) cR cN eO):=by
 refine F.ok AH (fun vs H Q E h=>?_) (fun cdv A outer s H vs Q E hr h=>?_)
 ·obtain ⟨x,D,R,L,N,rfl,hc,q⟩:=h
  rfl
 obtain ⟨x,D,R,L,N,rfl,hc,q⟩:=h
 have hu:_<cLine:=hr.units0
 have hu1:=jY hr
 refine ⟨_,(@jJ _ _ _ (@jN _ _ _ _ (@jI _ _ _ _ _ _ _ _ jX (eM MM_Canal_sea hr (pv 0)) jC))),?_⟩
 have hc0:=hc
 obtain ⟨dx,rl,ll,nl,fs,rs,ls,ns,hx,hf,hrl,hll,hnl,hR,hL,hN,d1,d2,d3⟩:=hc
 exact ⟨_,rfl,x,dx,_,rfl,hx,hf.no (by decide +kernel) (by decide +kernel) (by decide +kernel),x,D,R,L,N,rfl,hc0,_,_,rfl,rfl,q⟩
theorem AE:FnScope ["self","k"] ["self","k"] (jF ZK):=⟨rfl,rfl,rfl,by decide +kernel,rfl,by decide +kernel,by decide +kernel⟩
theorem uV {f:Addr} {fd:FuncData} (F:Fun K "chamber" "Canal.chamber" ZK f fd) (T:Txt K mg cP cB cU cR cN tkS eW eL tkH) : FnOk P w K mg base jU 1 f fd ["self","k"] (JK (jG cP cB cU) cR cN yJ):=by
 refine F.ok AE (fun vs H Q E h=>?_) (fun cdv A outer s H vs Q E hr h=>?_)
 ·obtain ⟨x,D,R,L,N,k,rfl,⟨dx,rl,ll,nl,fs,rs,ls,ns,hx,hf,hrl,hll,hnl,hR,hL,hN,d1,d2,d3⟩,q⟩:=h
  rfl
 obtain ⟨x,D,R,L,N,k,rfl,⟨dx,rl,ll,nl,fs,rs,ls,ns,hx,hf,hrl,hll,hnl,hR,hL,hN,d1,d2,d3⟩,q⟩:=h
 have hu:_<cLine:=hr.units0
 have hu1:=jY hr
 refine ⟨_,(@jJ _ _ _ (@jN _ _ _ _ (@jI _ _ _ _ _ _ _ _ jX (kB kI (by rfl) T.z_len PySem.boot_len (jA (jR (pv 0) rfl) jB)) (pv 1)))),?_⟩
 refine ⟨_,rfl,jT hx (T.clN) (T.nN_reaches) (hf.1) (⟨_,_,rfl,.inl (SqL.of hrl),_,rfl,jP (?_)⟩)⟩
 rw [hR.1]
 exact q
theorem AD:FnScope ["self","k"] ["self","k"] (jF ZJ):=⟨rfl,rfl,rfl,by decide +kernel,rfl,by decide +kernel,by decide +kernel⟩
theorem uU {f:Addr} {fd:FuncData} (F:Fun K "basin" "Canal.basin" ZJ f fd) (T:Txt K mg cP cB cU cR cN tkS eW eL tkH) : FnOk P w K mg base jU 1 f fd ["self","k"] (JK (jG cP cB cU) cR cN vR):=by
 refine F.ok AD (fun vs H Q E h=>?_) (fun cdv A outer s H vs Q E hr h=>?_)
 ·obtain ⟨x,D,R,L,N,k,rfl,⟨dx,rl,ll,nl,fs,rs,ls,ns,hx,hf,hrl,hll,hnl,hR,hL,hN,d1,d2,d3⟩,q⟩:=h
  rfl
 obtain ⟨x,D,R,L,N,k,rfl,⟨dx,rl,ll,nl,fs,rs,ls,ns,hx,hf,hrl,hll,hnl,hR,hL,hN,d1,d2,d3⟩,q⟩:=h
 have hu:_<cLine:=hr.units0
 have hu1:=jY hr
 refine ⟨_,(@jJ _ _ _ (@jN _ _ _ _ (@jI _ _ _ _ _ _ _ _ jX (@jI _ _ _ _ _ _ _ _ jX (kB kI (by rfl) T.z_len PySem.boot_len (jA (jR (pv 0) rfl) jB)) (kB kI (by rfl) T.z_len PySem.boot_len (jA (jR (pv 0) rfl) jB))) (pv 1)))),?_⟩
 refine ⟨_,rfl,jT hx (T.clN) (T.nN_reaches) (hf.1) (⟨_,_,rfl,.inl (SqL.of hrl),_,rfl,jT hx (T.clN) (T.nN_locks) (hf.2.1) (⟨_,_,rfl,.inl (SqL.of hll),_,_,rfl,rfl,_,rfl,jP (?_)⟩)⟩)⟩
 rw [hR.1,hL.1]
 exact q
theorem AI:FnScope ["self"] ["self"] (jF QH):=⟨rfl,rfl,rfl,by decide +kernel,rfl,by decide +kernel,by decide +kernel⟩
theorem uZ {f:Addr} {fd:FuncData} (F:Fun K "weirs" "Canal.weirs" QH f fd) (T:Txt K mg cP cB cU cR cN tkS eW eL tkH) (MM_Canal_sea:MeD P w K mg base 1 cN "sea" ["self"] (ZA (jG cP cB cU) cR cN yB)):FnOk P w K mg base jU 2 f fd ["self"] (fL (jG cP cB cU) cR cN):=by
 refine F.ok AI (fun vs H Q E h=>?_) (fun cdv A outer s H vs Q E hr h=>?_)
 ·obtain ⟨x,D,R,L,N,rfl,hc,hR100,q⟩:=h
  rfl
 obtain ⟨x,D,R,L,N,rfl,hc,hR100,q⟩:=h
 have hu:_<cLine:=hr.units0
 have hu1:=jY hr
 refine ⟨_,(@jJ _ _ _ (@jN _ _ _ _ (qV ["reach","self"] (kW 1 [0]) rfl (kZ (jF QH) rfl rfl (by decide +kernel) (by decide +kernel) (by decide +kernel)) (qA 1 [0] rfl rfl (by decide +kernel)) (qR (jR (pv 0) rfl)) (fun _ _ _ _ _=>(j8 (i:=0) (show List.Nodup (["reach","self"]:List Str) from by decide +kernel) rfl (by first|exact Or.inl rfl|exact Or.inr rfl))) (fun _ _ _ _ _=>qZ) (fun _ _ _ _ _=>(kL (jA (lK K (pv 0) rfl) (jA (JB (kD kQ (lK K (pv 0) rfl) (eC (v:=.int (-1)) rfl T.g_SEA ⟨_,rfl⟩) (j3 _)) (eM MM_Canal_sea hr (pv 1)) (lK K (pv 0) rfl)) jB))))))),?_⟩
 have hc0:=hc
 obtain ⟨dx,rl,ll,nl,fs,rs,ls,ns,hx,hf,hrl,hll,hnl,hR,hL,hN,d1,d2,d3⟩:=hc
 refine ⟨_,rfl,jT hx (T.clN) (T.nN_reaches) (hf.1) (⟨rl,rfl,⟨_,SqL.of hrl⟩,fun wl hwl0=>?_⟩)⟩
 refine yX (K:=K) (a:=rl) (xs:=rs) (caps:=[some (.ref x)]) (fun i ys Hi=>AllAt (QAt Hi) ys ((R.take i).map (yP (yB R.length L.length)))) hwl0 (SqL.of hrl) AllAt.nil ?_ ?_
 ·rintro i v ys Hi hv hi hle sm hY hW
  obtain ⟨r,hr,y,rfl,dy,gs,hy,hg⟩:=hR.2 i v hv
  have hy:=sm _ _ hy
  have hi100:i<100:=by rw [hR.1] at hi;omega
  refine q9 (kU ?_)
  refine ⟨_,rfl,jT hy (T.clR) (T.nR_crest) (hg.2.2.1) (⟨_,rfl,jT hy (T.clR) (T.nR_target) (hg.2.2.2.2.2) (⟨rfl,_,rfl,?_⟩)⟩)⟩
  have put:∀z:Int,z=(yP (yB R.length L.length) r).2→∀tp,Hi tp=none→∃ys',upd Hi tp (.tup [.int r.crest,.int z]) wl=some (.lst ys')∧ys'.length<sizeLine∧JJ H wl [some (.ref x)] (fun i ys Hi=>AllAt (QAt Hi) ys ((R.take i).map (yP (yB R.length L.length)))) (i+1) [some (.ref y),some (.ref x)] (upd (upd Hi tp (.tup [.int r.crest,.int z])) wl (.lst (ys'++[.ref tp]))):=by
   intro z hz tp htp
   have u:=jK htp (.tup [V.int r.crest,V.int z])
   exact qU (R:=fun i ys Hi=>AllAt (QAt Hi) ys ((R.take i).map (yP (yB R.length L.length)))) (c:=some (.ref y)) (caps:=[some (.ref x)]) (v:=.ref tp) hwl0 sm hY hle (by omega) u (by
    rw [List.take_add_one,hr,List.map_append]
    exact ((hW.mono (QAt.same u)).snoc (v:=.ref tp) (x:=yP (yB R.length L.length) r) ⟨tp,rfl,by rw [← hz];exact jE⟩).mono (QAt.put (u _ _ hY)))
  by_cases ht:r.target = -1
  ·refine kM (congrArg V.int ht) ⟨_,rfl,x,dx,_,rfl,(sm _ _ hx),hf.no (by decide +kernel) (by decide +kernel) (by decide +kernel),x,D,R,L,N,rfl,hc0.same sm,zz2,fun tp htp=>?_⟩
   exact put _ (by unfold yP;rw [if_pos ht]) tp htp
  ·refine kF (fun z=>ht (V.int.inj z)) ⟨_,rfl,jT hy (T.clR) (T.nR_target) (hg.2.2.2.2.2) (⟨zz2,fun tp htp=>?_⟩)⟩
   exact put _ (by unfold yP;rw [if_neg ht]) tp htp
 rintro ys Hf sm hY hle hW
 rw [hR.1,List.take_length] at hW
 exact q wl ys Hf sm hwl0 hY hW
theorem AF:FnScope ["self","waters","k"] ["self","waters","k"] (jF ZL):=⟨rfl,rfl,rfl,by decide +kernel,rfl,by decide +kernel,by decide +kernel⟩
theorem uW {f:Addr} {fd:FuncData} (F:Fun K "full" "Canal.full" ZL f fd) (T:Txt K mg cP cB cU cR cN tkS eW eL tkH) (MM_Canal_chamber:MeD P w K mg base 1 cN "chamber" ["self","k"] (JK (jG cP cB cU) cR cN yJ)):FnOk P w K mg base jU 2 f fd ["self","waters","k"] (fQ (jG cP cB cU) cR cN):=by
 refine F.ok AF (fun vs H Q E h=>?_) (fun cdv A outer s H vs Q E hr h=>?_)
 ·obtain ⟨x,wa,D,R,L,N,ms,k,rfl,hc,hwa,hk,q⟩:=h
  rfl
 obtain ⟨x,wa,D,R,L,N,ms,k,rfl,hc,hwa,hk,q⟩:=h
 have hu:_<cLine:=hr.units0
 have hu1:=jY hr
 refine ⟨_,(@jJ _ _ _ (@jN _ _ _ _ (v9 Q7 (jD ix_tup (pv 1) (ZB MM_Canal_chamber hr (pv 0) (jA (pv 2) jB)) (fun _ _=>rfl)) jC (j3 _)))),?_⟩
 have hc0:=hc
 obtain ⟨dx,rl,ll,nl,fs,rs,ls,ns,hx,hf,hrl,hll,hnl,hR,hL,hN,d1,d2,d3⟩:=hc
 have hat:qC (ms.map V.int) (yJ R.length L.length (k:Int))=some (.int (ms.getD (R.length+k) 0)):=by
  rw [show yJ R.length L.length (k:Int)=((R.length+k:Nat):Int) by unfold yJ;omega]
  exact qD hk
 exact ⟨_,rfl,_,rfl,x,dx,_,rfl,hx,hf.no (by decide +kernel) (by decide +kernel) (by decide +kernel),_,rfl,x,D,R,L,N,_,rfl,hc0,jL (SqT.of hwa) hat (jP (q))⟩
theorem A4:FnScope ["lock","basin"] ["lock","basin"] (jF QL):=⟨rfl,rfl,rfl,by decide +kernel,rfl,by decide +kernel,by decide +kernel⟩
theorem xB {f:Addr} {fd:FuncData} (F:Fun K "filling" "filling" QL f fd) (T:Txt K mg cP cB cU cR cN tkS eW eL tkH) (MP_fill_parts:MeK P w K mg base 2 (jG cP cB cU) "fill_parts" ["self","basin"] (vT (jG cP cB cU) yI)):FnOk P w K mg base jU 3 f fd ["lock","basin"] (dW (jG cP cB cU) qP):=by
 refine F.ok A4 (fun vs H Q E h=>?_) (fun cdv A outer s H vs Q E hr h=>?_)
 ·obtain ⟨x,kd,n,h₁,l,room,v,b,rfl,⟨dx,hx⟩,q⟩:=h
  rfl
 obtain ⟨x,kd,n,h₁,l,room,v,b,rfl,⟨dx,hx⟩,q⟩:=h
 have hu:_<cLine:=hr.units0
 have hu1:=jY hr
 refine ⟨_,(@jJ _ _ _ (@jN _ _ _ _ (qV ["giver","amount"] (kW 2 []) rfl (kZ (jF QL) rfl rfl (by decide +kernel) (by decide +kernel) (by decide +kernel)) (qA 2 [] rfl rfl (by decide +kernel)) (qR (tX MP_fill_parts hr (pv 0) (jA (pv 1) jB))) (fun _ _ _ _ _=>(JE (n:=2) K rfl (qG (j8 (i:=0) (show List.Nodup (["giver","amount"]:List Str) from by decide +kernel) rfl (by first|exact Or.inl rfl|exact Or.inr rfl)) (qG (j8 (i:=1) (show List.Nodup (["giver","amount"]:List Str) from by decide +kernel) rfl (by first|exact Or.inl rfl|exact Or.inr rfl)) y8)))) (fun _ _ _ _ _=>qZ) (fun _ _ _ _ _=>(kL (@jA _ _ _ _ _ (pv 0) (@jA _ _ _ _ _ jO (@jA _ _ _ _ _ (pv 1) jB (by rfl)) (by rfl)) (by rfl))))))),?_⟩
 refine ⟨_,rfl,kd,x,dx,_,rfl,hx,FH kd _ _ _ _ _,_,rfl,x,n,h₁,l,room,v,b,rfl,⟨dx,hx⟩,fun pl H1 rs s1 hpl0 hpl hP=>?_⟩
 have hplen:=pD kd room v b
 refine ⟨pl,rfl,⟨_,SqL.of hpl⟩,fun D hD=>?_⟩
 have u0:=jK hD (.lst [])
 refine cF (K:=K) (a:=pl) (xs:=rs) (fun i σ Hi=>∃(c1 c2:Option V) (ys:List V),σ=[c1,c2]∧Hi D=some (.lst ys)∧PoursS Hi ys ((yI kd room v b).take i |>.map (fun p=>(p.1,"chamber",p.2)))∧Same H1 Hi)
  ⟨none,none,[],rfl,jE,PoursS.nil,u0⟩ (fun i σ Hi _ ⟨_,_,_,_,_,_,s⟩=>SqL.of (s _ _ hpl)) ?_ ?_
 ·rintro i y σ Hi hy ⟨c1,c2,ys,rfl,hY,hA,sm⟩
  have hi:i<rs.length:=(List.getElem?_eq_some_iff.mp hy).1
  obtain ⟨t,sN,nN,rfl,hps,hT⟩:=hP.2 i y hy
  have hl:ys.length≤i:=by rw [hA.1,List.length_map];exact List.length_take_le _ _
  refine ⟨t,_,rfl,SqT.of (sm _ _ hT),rfl,_,_,rfl,_,_,rfl,rfl,?_⟩
  refine q9 (kU ?_)
  refine ⟨_,rfl,_,rfl,zz3,fun tp htp=>?_⟩
  have v1:∀o,Same Hi (upd Hi tp o):=fun o=>jK htp o
  refine ⟨ys,v1 _ _ _ hY,qM (by rw [hP.1] at hi;omega),_,_,ys++[.ref tp],rfl,jE,?_,kT hD (sm.trans (v1 _))⟩
  rw [e8 hps]
  exact PoursS.keep ((Keep.refl D _).upd _) (v1 _ _ _ hY) ((hA.same (v1 _)).append (PoursS.one jE))
 ·rintro σ Hi ⟨c1,c2,ys,rfl,hY,hA,sm⟩
  rw [hP.1,List.take_length] at hA
  exact q D Hi ys (s1.trans sm) (s1.free hD) hY hA
theorem BA:FnScope ["lock","basin"] ["lock","basin"] (jF QN):=⟨rfl,rfl,rfl,by decide +kernel,rfl,by decide +kernel,by decide +kernel⟩
theorem xI {f:Addr} {fd:FuncData} (F:Fun K "letting" "letting" QN f fd) (T:Txt K mg cP cB cU cR cN tkS eW eL tkH) (MP_let_parts:MeK P w K mg base 2 (jG cP cB cU) "let_parts" ["self","basin"] (vT (jG cP cB cU) yE)):FnOk P w K mg base jU 3 f fd ["lock","basin"] (dW (jG cP cB cU) qH):=by
 refine F.ok BA (fun vs H Q E h=>?_) (fun cdv A outer s H vs Q E hr h=>?_)
 ·obtain ⟨x,kd,n,h₁,l,room,v,b,rfl,⟨dx,hx⟩,q⟩:=h
  rfl
 obtain ⟨x,kd,n,h₁,l,room,v,b,rfl,⟨dx,hx⟩,q⟩:=h
 have hu:_<cLine:=hr.units0
 have hu1:=jY hr
 refine ⟨_,(@jJ _ _ _ (@jN _ _ _ _ (qV ["taker","amount"] (kW 2 []) rfl (kZ (jF QN) rfl rfl (by decide +kernel) (by decide +kernel) (by decide +kernel)) (qA 2 [] rfl rfl (by decide +kernel)) (qR (tX MP_let_parts hr (pv 0) (jA (pv 1) jB))) (fun _ _ _ _ _=>(JE (n:=2) K rfl (qG (j8 (i:=0) (show List.Nodup (["taker","amount"]:List Str) from by decide +kernel) rfl (by first|exact Or.inl rfl|exact Or.inr rfl)) (qG (j8 (i:=1) (show List.Nodup (["taker","amount"]:List Str) from by decide +kernel) rfl (by first|exact Or.inl rfl|exact Or.inr rfl)) y8)))) (fun _ _ _ _ _=>qZ) (fun _ _ _ _ _=>(kL (@jA _ _ _ _ _ jO (@jA _ _ _ _ _ (pv 0) (@jA _ _ _ _ _ (pv 1) jB (by rfl)) (by rfl)) (by rfl))))))),?_⟩
 refine ⟨_,rfl,kd,x,dx,_,rfl,hx,GM kd _ _ _ _ _,_,rfl,x,n,h₁,l,room,v,b,rfl,⟨dx,hx⟩,fun pl H1 rs s1 hpl0 hpl hP=>?_⟩
 have hplen:=rF kd room v b
 refine ⟨pl,rfl,⟨_,SqL.of hpl⟩,fun D hD=>?_⟩
 have u0:=jK hD (.lst [])
 refine cF (K:=K) (a:=pl) (xs:=rs) (fun i σ Hi=>∃(c1 c2:Option V) (ys:List V),σ=[c1,c2]∧Hi D=some (.lst ys)∧PoursS Hi ys ((yE kd room v b).take i |>.map (fun p=>("chamber",p.1,p.2)))∧Same H1 Hi)
  ⟨none,none,[],rfl,jE,PoursS.nil,u0⟩ (fun i σ Hi _ ⟨_,_,_,_,_,_,s⟩=>SqL.of (s _ _ hpl)) ?_ ?_
 ·rintro i y σ Hi hy ⟨c1,c2,ys,rfl,hY,hA,sm⟩
  have hi:i<rs.length:=(List.getElem?_eq_some_iff.mp hy).1
  obtain ⟨t,sN,nN,rfl,hps,hT⟩:=hP.2 i y hy
  have hl:ys.length≤i:=by rw [hA.1,List.length_map];exact List.length_take_le _ _
  refine ⟨t,_,rfl,SqT.of (sm _ _ hT),rfl,_,_,rfl,_,_,rfl,rfl,?_⟩
  refine q9 (kU ?_)
  refine ⟨_,rfl,_,rfl,zz3,fun tp htp=>?_⟩
  have v1:∀o,Same Hi (upd Hi tp o):=fun o=>jK htp o
  refine ⟨ys,v1 _ _ _ hY,qM (by rw [hP.1] at hi;omega),_,_,ys++[.ref tp],rfl,jE,?_,kT hD (sm.trans (v1 _))⟩
  rw [e8 hps]
  exact PoursS.keep ((Keep.refl D _).upd _) (v1 _ _ _ hY) ((hA.same (v1 _)).append (PoursS.one jE))
 ·rintro σ Hi ⟨c1,c2,ys,rfl,hY,hA,sm⟩
  rw [hP.1,List.take_length] at hA
  exact q D Hi ys (s1.trans sm) (s1.free hD) hY hA
theorem A5:FnScope ["vessel","pours"] ["vessel","pours"] (jF QM):=⟨rfl,rfl,rfl,by decide +kernel,rfl,by decide +kernel,by decide +kernel⟩
theorem xC {f:Addr} {fd:FuncData} (F:Fun K "given_by" "given_by" QM f fd) (T:Txt K mg cP cB cU cR cN tkS eW eL tkH) : FnOk P w K mg base jU 1 f fd ["vessel","pours"] (r9):=by
 refine F.ok A5 (fun vs H Q E h=>?_) (fun cdv A outer s H vs Q E hr h=>?_)
 ·obtain ⟨s₁,p,rs,qs,rfl,hP,hA,hn,q⟩:=h
  rfl
 obtain ⟨s₁,p,rs,qs,rfl,hP,hA,hn,q⟩:=h
 have hu:_<cLine:=hr.units0
 have hu1:=jY hr
 refine ⟨_,(@jJ _ _ _ (@jN _ _ _ _ (kB (fK rfl) (by rfl) T.z_sum PyProof.Rows.boot_sum (jA (qV ["source","target","amount","vessel"] (kW 3 [0]) rfl (kZ (jF QM) rfl rfl (by decide +kernel) (by decide +kernel) (by decide +kernel)) (qA 3 [0] rfl rfl (by decide +kernel)) (qR (pv 1)) (fun _ _ _ _ _=>(JE (n:=3) K rfl (qG (j8 (i:=0) (show List.Nodup (["source","target","amount","vessel"]:List Str) from by decide +kernel) rfl (by first|exact Or.inl rfl|exact Or.inr rfl)) (qG (j8 (i:=1) (show List.Nodup (["source","target","amount","vessel"]:List Str) from by decide +kernel) rfl (by first|exact Or.inl rfl|exact Or.inr rfl)) (qG (j8 (i:=2) (show List.Nodup (["source","target","amount","vessel"]:List Str) from by decide +kernel) rfl (by first|exact Or.inl rfl|exact Or.inr rfl)) y8))))) (fun _ _ _ _ _=>(zM (kD kQ (pv 0) (pv 3) (j3 _)))) (fun _ _ _ _ _=>(pv 2))) jB)))),?_⟩
 refine ⟨_,rfl,p,rfl,⟨_,SqL.of hP⟩,fun D hD=>?_⟩
 have u0:=jK hD (.lst [])
 refine cF (K:=K) (a:=p) (xs:=rs) (fun i σ Hi=>∃(c1 c2 c3:Option V),σ=[c1,c2,c3,some (.str s₁)]∧Hi D=some (.lst ((vM (zE s₁) (qs.take i)).map V.int))∧Same H Hi)
  ⟨none,none,none,rfl,jE,u0⟩ (fun i σ Hi _ ⟨_,_,_,_,_,s⟩=>SqL.of (s _ _ hP)) ?_ ?_
 ·rintro i y σ Hi hy ⟨c1,c2,c3,rfl,hY,sm⟩
  have hi:i<rs.length:=(List.getElem?_eq_some_iff.mp hy).1
  obtain ⟨t,sS,sT,nN,rfl,hq,hT⟩:=hA.2 i y hy
  have hat:=oO (zE s₁) qs i _ hq
  have hal:=pM (zE s₁) qs i
  refine ⟨t,_,rfl,SqT.of (sm _ _ hT),rfl,_,_,rfl,_,_,rfl,_,_,rfl,rfl,?_⟩
  refine ⟨_,rfl,_,rfl,rfl,_,rfl,?_⟩
  rw [rM]
  by_cases c:(zE s₁) (sS,sT,nN)=true
  ·rw [if_pos c] at hat
   have c':=of_decide_eq_true c
   refine kM c' ⟨_,rfl,_,hY,qM (by rw [List.length_map];omega),_,_,_,rfl,?_,kT hD sm⟩
   rw [jE,hat,List.map_append]
   rfl
  ·rw [if_neg c,List.append_nil] at hat
   have c':¬_:=of_decide_eq_false (Bool.eq_false_iff.mpr c)
   refine kF c' ⟨_,_,_,rfl,?_,sm⟩
   rw [hY,hat]
 ·rintro σ Hi ⟨c1,c2,c3,rfl,hY,sm⟩
  rw [hA.1,List.take_length] at hY
  exact ⟨D,_,rfl,SqL.of hY,q Hi sm⟩
theorem nF:FnScope ["basin","pours","got"] ["basin","pours"] (jF QJ):=⟨rfl,rfl,rfl,by decide +kernel,rfl,by decide +kernel,by decide +kernel⟩
theorem w6 {f:Addr} {fd:FuncData} (F:Fun K "basin_after" "basin_after" QJ f fd) (T:Txt K mg cP cB cU cR cN tkS eW eL tkH) (D_given_by:Def P w K mg base 1 "given_by" ["vessel","pours"] [] (r9)):FnOk P w K mg base jU 2 f fd ["basin","pours"] (sI):=by
 refine F.ok nF (fun vs H Q E h=>?_) (fun cdv A outer s H vs Q E hr h=>?_)
 ·obtain ⟨b,p,rs,qs,rfl,hP,hA,hn,q⟩:=h
  rfl
 obtain ⟨b,p,rs,qs,rfl,hP,hA,hn,q⟩:=h
 have hu:_<cLine:=hr.units0
 have hu1:=jY hr
 refine ⟨_,(@jH _ _ _ _ _ (jQ (i:=2) nF.nd rfl (by first|exact Or.inl rfl|exact Or.inr rfl) (kB (fK rfl) (by rfl) T.z_sum PyProof.Rows.boot_sum (jA (qV ["source","target","amount"] (kW 3 []) rfl (kZ (jF QJ) rfl rfl (by decide +kernel) (by decide +kernel) (by decide +kernel)) (qA 3 [] rfl rfl (by decide +kernel)) (qR (pv 1)) (fun _ _ _ _ _=>(JE (n:=3) K rfl (qG (j8 (i:=0) (show List.Nodup (["source","target","amount"]:List Str) from by decide +kernel) rfl (by first|exact Or.inl rfl|exact Or.inr rfl)) (qG (j8 (i:=1) (show List.Nodup (["source","target","amount"]:List Str) from by decide +kernel) rfl (by first|exact Or.inl rfl|exact Or.inr rfl)) (qG (j8 (i:=2) (show List.Nodup (["source","target","amount"]:List Str) from by decide +kernel) rfl (by first|exact Or.inl rfl|exact Or.inr rfl)) y8))))) (fun _ _ _ _ _=>(zM (kD kQ (pv 1) jO (j3 _)))) (fun _ _ _ _ _=>(pv 2))) jB)))
   (@jJ _ _ _ (@jN _ _ _ _ (@jI _ _ _ _ _ _ _ _ qK (@jI _ _ _ _ _ _ _ _ jX (pv 0) (pv 2)) (jM D_given_by hr rfl (jA jO (jA (pv 1) jB))))))),?_⟩
 refine ⟨_,rfl,p,rfl,⟨_,SqL.of hP⟩,fun D hD=>?_⟩
 have u0:=jK hD (.lst [])
 refine cF (K:=K) (a:=p) (xs:=rs) (fun i σ Hi=>∃(c1 c2 c3:Option V),σ=[c1,c2,c3]∧Hi D=some (.lst ((vM (toS "basin") (qs.take i)).map V.int))∧Same H Hi)
  ⟨none,none,none,rfl,jE,u0⟩ (fun i σ Hi _ ⟨_,_,_,_,_,s⟩=>SqL.of (s _ _ hP)) ?_ ?_
 ·rintro i y σ Hi hy ⟨c1,c2,c3,rfl,hY,sm⟩
  have hi:i<rs.length:=(List.getElem?_eq_some_iff.mp hy).1
  obtain ⟨t,sS,sT,nN,rfl,hq,hT⟩:=hA.2 i y hy
  have hat:=oO (toS "basin") qs i _ hq
  have hal:=pM (toS "basin") qs i
  refine ⟨t,_,rfl,SqT.of (sm _ _ hT),rfl,_,_,rfl,_,_,rfl,_,_,rfl,rfl,?_⟩
  refine ⟨_,rfl,rfl,_,rfl,?_⟩
  rw [rM]
  by_cases c:(toS "basin") (sS,sT,nN)=true
  ·rw [if_pos c] at hat
   have c':=of_decide_eq_true c
   refine kM c' ⟨_,rfl,_,hY,qM (by rw [List.length_map];omega),_,_,_,rfl,?_,kT hD sm⟩
   rw [jE,hat,List.map_append]
   rfl
  ·rw [if_neg c,List.append_nil] at hat
   have c':¬_:=of_decide_eq_false (Bool.eq_false_iff.mpr c)
   refine kF c' ⟨_,_,_,rfl,?_,sm⟩
   rw [hY,hat]
 ·rintro σ Hi ⟨c1,c2,c3,rfl,hY,sm⟩
  rw [hA.1,List.take_length] at hY
  refine ⟨D,_,rfl,SqL.of hY,?_⟩
  refine ⟨_,rfl,_,rfl,jP (⟨_,rfl,"basin",p,rs,qs,rfl,sm _ _ hP,hA.same sm,hn,fun H' s2=>⟨_,_,rfl,rfl,q H' (sm.trans s2)⟩⟩)⟩
theorem iB:FnScope ["lock","full","basin","way","made_ready"] ["lock","full","basin","way"] (jF bQ):=⟨rfl,rfl,rfl,by decide +kernel,rfl,by decide +kernel,by decide +kernel⟩
theorem xR {f:Addr} {fd:FuncData} (F:Fun K "passage" "passage" bQ f fd) (T:Txt K mg cP cB cU cR cN tkS eW eL tkH) (D_letting:Def P w K mg base 3 "letting" ["lock","basin"] [] (dW (jG cP cB cU) qH)) (D_filling:Def P w K mg base 3 "filling" ["lock","basin"] [] (dW (jG cP cB cU) qP)) (D_basin_after:Def P w K mg base 2 "basin_after" ["basin","pours"] [] (sI)):FnOk P w K mg base jU 4 f fd ["lock","full","basin","way"] (oZ (jG cP cB cU)):=by
 refine F.ok iB (fun vs H Q E h=>?_) (fun cdv A outer s H vs Q E hr h=>?_)
 ·obtain ⟨x,kd,n,h₁,l,room,v,b,f,w,rfl,hx,q⟩:=h
  rfl
 obtain ⟨x,kd,n,h₁,l,room,v,b,f,w,rfl,hx,q⟩:=h
 have hu:_<cLine:=hr.units0
 have hu1:=jY hr
 refine ⟨_,(@jH _ _ _ _ _ (kH (kD kQ (pv 3) jO (j3 _)) (@jH _ _ _ _ _ (jQ (i:=4) iB.nd rfl (by first|exact Or.inl rfl|exact Or.inr rfl) (JB (vG (pv 1)) (jM D_letting hr rfl (jA (pv 0) (jA (pv 2) jB))) (kN jB)))
   (@jJ _ _ _ (@jN _ _ _ _ (@jI _ _ _ _ _ _ _ _ JG (pv 4) (jM D_filling hr rfl (jA (pv 0) (jA (jM D_basin_after hr rfl (jA (pv 2) (jA (pv 4) jB))) jB))))))) kJ)
   (@jH _ _ _ _ _ (jQ (i:=4) iB.nd rfl (by first|exact Or.inl rfl|exact Or.inr rfl) (JB (vG (pv 1)) (kN jB) (jM D_filling hr rfl (jA (pv 0) (jA (pv 2) jB)))))
   (@jJ _ _ _ (@jN _ _ _ _ (@jI _ _ _ _ _ _ _ _ JG (pv 4) (jM D_letting hr rfl (jA (pv 0) (jA (jM D_basin_after hr rfl (jA (pv 2) (jA (pv 4) jB))) jB)))))))),?_⟩
 cases w with
 |true =>
  refine ⟨_,rfl,rfl,_,rfl,kM rfl ?_⟩
  cases f with
  |true =>
   refine ⟨_,rfl,_,rfl,kU ⟨_,rfl,_,rfl,x,kd,n,h₁,l,room,v,b,rfl,hx,fun m H1 rs s1 hm0 hm hA=>?_⟩⟩
   have hl:=QY kd room v b
   have hl2:=dS kd room v (vL b (qH kd room v b))
   refine ⟨_,rfl,_,rfl,_,rfl,_,rfl,b,m,rs,_,rfl,hm,hA,by rw [hA.1];omega,fun H2 s2=>?_⟩
   refine ⟨x,kd,n,h₁,l,room,v,_,rfl,(hx.same s1).same s2,fun z H3 rs3 s3 hz0 hz hA3=>?_⟩
   refine ⟨m,z,_,_,rfl,rfl,s3 _ _ (s2 _ _ hm),hz,small (by rw [hA.1,hA3.1];omega),fun y hy0=>?_⟩
   have s4:=jK hy0 (.lst (rs++rs3))
   exact q y _ (rs++rs3) (((s1.trans s2).trans s3).trans s4) (((s1.trans s2).trans s3).free hy0) jE ((((hA.same s2).same s3).append hA3).same s4)
  |false =>
   refine ⟨_,rfl,_,rfl,qF ⟨zz0,fun m hm0=>?_⟩⟩
   have s1:=jK hm0 (.lst [])
   have hm:upd H m (.lst []) m=some (.lst []):=jE
   generalize upd H m (.lst [])=H1 at s1 hm ⊢
   refine ⟨_,rfl,_,rfl,_,rfl,_,rfl,b,m,[],[],rfl,hm,PoursS.nil,by decide,fun H2 s2=>?_⟩
   rw [oP]
   refine ⟨x,kd,n,h₁,l,room,v,b,rfl,(hx.same s1).same s2,fun z H3 rs3 s3 hz0 hz hA3=>?_⟩
   refine ⟨m,z,_,_,rfl,rfl,s3 _ _ (s2 _ _ hm),hz,small (by rw [hA3.1];have:=dS kd room v b;have:=QY kd room v b;show 0+_≤1000;omega),fun y hy0=>?_⟩
   have s4:=jK hy0 (.lst ([]++rs3))
   exact q y _ rs3 (((s1.trans s2).trans s3).trans s4) (((s1.trans s2).trans s3).free hy0) jE (hA3.same s4)
 |false =>
  refine ⟨_,rfl,rfl,_,rfl,kF GP ?_⟩
  cases f with
  |false =>
   refine ⟨_,rfl,_,rfl,qF ⟨_,rfl,_,rfl,x,kd,n,h₁,l,room,v,b,rfl,hx,fun m H1 rs s1 hm0 hm hA=>?_⟩⟩
   have hl:=dS kd room v b
   have hl2:=QY kd room v (vL b (qP kd room v b))
   refine ⟨_,rfl,_,rfl,_,rfl,_,rfl,b,m,rs,_,rfl,hm,hA,by rw [hA.1];omega,fun H2 s2=>?_⟩
   refine ⟨x,kd,n,h₁,l,room,v,_,rfl,(hx.same s1).same s2,fun z H3 rs3 s3 hz0 hz hA3=>?_⟩
   refine ⟨m,z,_,_,rfl,rfl,s3 _ _ (s2 _ _ hm),hz,small (by rw [hA.1,hA3.1];omega),fun y hy0=>?_⟩
   have s4:=jK hy0 (.lst (rs++rs3))
   exact q y _ (rs++rs3) (((s1.trans s2).trans s3).trans s4) (((s1.trans s2).trans s3).free hy0) jE ((((hA.same s2).same s3).append hA3).same s4)
  |true =>
   refine ⟨_,rfl,_,rfl,kU ⟨zz0,fun m hm0=>?_⟩⟩
   have s1:=jK hm0 (.lst [])
   have hm:upd H m (.lst []) m=some (.lst []):=jE
   generalize upd H m (.lst [])=H1 at s1 hm ⊢
   refine ⟨_,rfl,_,rfl,_,rfl,_,rfl,b,m,[],[],rfl,hm,PoursS.nil,by decide,fun H2 s2=>?_⟩
   rw [oP]
   refine ⟨x,kd,n,h₁,l,room,v,b,rfl,(hx.same s1).same s2,fun z H3 rs3 s3 hz0 hz hA3=>?_⟩
   refine ⟨m,z,_,_,rfl,rfl,s3 _ _ (s2 _ _ hm),hz,small (by rw [hA3.1];have:=dS kd room v b;have:=QY kd room v b;show 0+_≤1000;omega),fun y hy0=>?_⟩
   have s4:=jK hy0 (.lst ([]++rs3))
   exact q y _ rs3 (((s1.trans s2).trans s3).trans s4) (((s1.trans s2).trans s3).free hy0) jE (hA3.same s4)
theorem BG:FnScope ["lock","side"] ["lock","side"] (jF bV):=⟨rfl,rfl,rfl,by decide +kernel,rfl,by decide +kernel,by decide +kernel⟩
theorem xX {f:Addr} {fd:FuncData} (F:Fun K "step_ends" "step_ends" bV f fd) (T:Txt K mg cP cB cU cR cN tkS eW eL tkH) : FnOk P w K mg base jU 1 f fd ["lock","side"] (tI (jG cP cB cU)):=by
 refine F.ok BG (fun vs H Q E h=>?_) (fun cdv A outer s H vs Q E hr h=>?_)
 ·obtain ⟨y,l,b,rfl,⟨y₂,e,dl,hl⟩,q⟩:=h
  rfl
 obtain ⟨y,l,b,rfl,⟨y₂,e,dl,hl⟩,q⟩:=h
 have hu:_<cLine:=hr.units0
 have hu1:=jY hr
 refine ⟨_,(@jJ _ _ _ (@jN _ _ _ _ (JB (kD kQ (pv 1) jO (j3 _)) (kL (jA (jR (pv 0) rfl) (jA (jR (pv 0) rfl) jB))) (kL (jA (jR (pv 0) rfl) (jA (jR (pv 0) rfl) jB)))))),?_⟩
 cases e
 refine ⟨_,rfl,rfl,_,rfl,?_⟩
 rw [lZ]
 cases b with
 |true=>exact kU ⟨_,rfl,jT hl (T.cl l.kd) (T.n_low l.kd) (J5 l.kd _ _ _ _ _) (⟨_,rfl,jT hl (T.cl l.kd) (T.n_high l.kd) (JW l.kd _ _ _ _ _) (⟨zz2,fun t ht=>q t _ (jK ht _) ht jE⟩)⟩)⟩
 |false=>exact qF ⟨_,rfl,jT hl (T.cl l.kd) (T.n_high l.kd) (JW l.kd _ _ _ _ _) (⟨_,rfl,jT hl (T.cl l.kd) (T.n_low l.kd) (J5 l.kd _ _ _ _ _) (⟨zz2,fun t ht=>q t _ (jK ht _) ht jE⟩)⟩)⟩
theorem dJ:FnScope ["canal","start","steps","along","k","side","ends"] ["canal","start","steps"] (jF bM):=⟨rfl,rfl,rfl,by decide +kernel,rfl,by decide +kernel,by decide +kernel⟩
theorem xJ {f:Addr} {fd:FuncData} (F:Fun K "linked" "linked" bM f fd) (T:Txt K mg cP cB cU cR cN tkS eW eL tkH) (D_step_ends:Def P w K mg base 1 "step_ends" ["lock","side"] [] (tI (jG cP cB cU))):FnOk P w K mg base (vY P w) 2 f fd ["canal","start","steps"] (pY K (jG cP cB cU) cR cN eL):=by
 refine F.okX dJ (fun vs H Q E h=>?_) (fun cdv A outer s H vs Q E hr h=>?_)
 ·obtain ⟨x,st,s₁,us,ps,D,R,L,N,rfl,⟨dx,rl,ll,nl,fs,rs,ls,ns,hx,hf,hrl,hll,hnl,hR,hL,hN,d1,d2,d3⟩,hst,hP,hlt,h100,qv,qe⟩:=h
  rfl
 obtain ⟨x,st,s₁,us,ps,D,R,L,N,rfl,⟨dx,rl,ll,nl,fs,rs,ls,ns,hx,hf,hrl,hll,hnl,hR,hL,hN,d1,d2,d3⟩,hst,hP,hlt,h100,qv,qe⟩:=h
 have hu:_<cLine:=hr.units0
 have hu1:=jY hr
 refine ⟨_,(@jH _ _ _ _ _ (jQ (i:=3) dJ.nd rfl (by first|exact Or.inl rfl|exact Or.inr rfl) (kN (jA (pv 1) jB)))
   (@jH _ _ _ _ _ (vJ FV rfl (tK (pv 2)) (lV rfl (qG (j8 (i:=4) dJ.nd rfl (by first|exact Or.inl rfl|exact Or.inr rfl)) (qG (j8 (i:=5) dJ.nd rfl (by first|exact Or.inl rfl|exact Or.inr rfl)) y8)))
    (@jH _ _ _ _ _ (jQ (i:=6) dJ.nd rfl (by first|exact Or.inl rfl|exact Or.inr rfl) (jM D_step_ends hr rfl (jA (jD j5 (jR (pv 0) rfl) (pv 4) (fun _ _=>rfl)) (jA (pv 5) jB))))
   (@jH _ _ _ _ _ (kH (kD JM (jD ix_tup (pv 6) jC (fun _ _=>rfl)) (jD j5 (pv 3) (gE fW jC) (fun _ _=>rfl)) (j3 _)) (@jJ _ _ _ (p9 oR rfl rfl T.c_NotLinked T.x_NotLinked (jA jO jB))) kJ)
   (@jJ _ _ _ (yG (yS PySem.F.plainAttrs_list PySem.F.slot_list_append PySem.F.type_list_append yM (pv 3) (jA (jD ix_tup (pv 6) jC (fun _ _=>rfl)) jB)))))))
   (@jJ _ _ _ (@jN _ _ _ _ (pv 3))))),?_⟩
 refine ⟨_,rfl,zz1,fun al hal0=>?_⟩
 have s1:=jK hal0 (.lst [V.int s₁])
 refine ⟨_,rfl,st,rfl,⟨_,SqT.of (s1 _ _ hst)⟩,lN (K:=K) (a:=st) (xs:=us) (fun i σ Hi=>∃c4 c5 c6:Option V,σ=[some (.ref x),some (.int s₁),some (.ref st),some (.ref al),c4,c5,c6]∧Hi al=some (.lst ((kY L s₁ (ps.take i)).map V.int))∧(∀(j:Nat) (p:Nat×Bool),j<i→ps[j]?=some p→(kY L s₁ ps)[j]?=some (qX L p).1)∧Same H Hi)
  ⟨none,none,none,rfl,jE,fun j p hj=>absurd hj (Nat.not_lt_zero j),s1⟩ (fun i σ Hi _ ⟨_,_,_,_,_,_,s⟩=>SqT.of (s _ _ hst)) ?_ ?_⟩
 ·rintro i v σ Hi hv ⟨c4,c5,c6,rfl,hal,hok,sm⟩
  obtain ⟨⟨pk,pb⟩,hp,t,rfl,ht⟩:=hP.2 i v hv
  have hpl:pk<L.length:=hlt _ (List.mem_of_getElem? hp)
  have hi:i<ps.length:=(List.getElem?_eq_some_iff.mp hp).1
  obtain ⟨l,hl'⟩:∃l,L[pk]?=some l:=⟨_,List.getElem?_eq_getElem hpl⟩
  obtain ⟨w,hw,y,rfl,dl,hl⟩:=hL.get hl'
  have hdl:(kY L s₁ (ps.take i)).length=i+1:=by rw [dZ,List.length_take];omega
  obtain ⟨z,hz⟩:∃z,(kY L s₁ (ps.take i))[i]?=some z:=⟨_,List.getElem?_eq_getElem (by omega)⟩
  have hlast:qC ((kY L s₁ (ps.take i)).map V.int) (-1)=some (.int z):=atI_last (n:=i) (by rw [List.length_map,hdl]) (by rw [List.getElem?_map,hz];rfl)
  refine ⟨t,_,rfl,SqT.of (sm _ _ ht),rfl,_,_,rfl,_,_,rfl,rfl,?_⟩
  refine ⟨_,rfl,jT ((sm _ _ hx)) (T.clN) (T.nN_locks) (hf.2.1) (⟨_,rfl,j4 (SqL.of (sm _ _ hll)) (kE hw) (⟨_,rfl,y,l,pb,rfl,⟨y,rfl,dl,sm _ _ hl⟩,fun te He se hte0 hte=>?_⟩)⟩)⟩
  have smE:=sm.trans se
  have halE:=se _ _ hal
  have ee:qX L (pk,pb)=(if pb then l.low else l.high,if pb then l.high else l.low):=by cases pb;exact JT hl';exact JX hl'
  have hdue:(kY L s₁ ps)[i]?=some z:=by rw [FJ (by omega)];exact hz
  refine ⟨_,rfl,jL (SqT.of hte) rfl (⟨_,rfl,_,rfl,j4 (SqL.of halE) hlast (⟨rfl,_,rfl,?_⟩)⟩)⟩
  by_cases h:(if pb then l.low else l.high)=z
  ·refine JN (congrArg V.int h) ?_
   refine ⟨_,rfl,.inl ⟨rfl,_,SqL.of halE⟩,_,rfl,jL (SqT.of hte) rfl (⟨al,_,_,rfl,rfl,halE,qM (by rw [List.length_map,hdl];omega),?_⟩)⟩
   refine ⟨_,_,_,rfl,?_,fun j p hj hpj=>?_,kT hal0 smE⟩
   ·rw [jE,List.take_add_one,hp]
    show _=some (HO.lst ((kY L s₁ (ps.take i++[(pk,pb)])).map V.int))
    rw [iV,List.map_append,ee]
    rfl
   ·by_cases c:j=i
    ·subst c
     rw [hp] at hpj
     cases hpj
     rw [hdue,ee,h]
    ·exact hok j p (by omega) hpj
  ·refine dC (fun e=>h (V.int.inj e)) ⟨by show 1≤sizeLine;decide,qe (fun ok=>h ?_) _ smE⟩
   have:=ok i _ hp
   rw [hdue,ee] at this
   exact (Option.some.inj this).symm
 rintro σ Hi ⟨c4,c5,c6,rfl,hal,hok,sm⟩
 rw [hP.1,List.take_length] at hal
 exact ⟨_,rfl,qv (fun j p hp=>hok j p (by rw [hP.1];exact (List.getElem?_eq_some_iff.mp hp).1) hp) al Hi sm hal0 hal⟩
theorem BH:FnScope ["way","place"] ["way","place"] (jF bW):=⟨rfl,rfl,rfl,by decide +kernel,rfl,by decide +kernel,by decide +kernel⟩
theorem xY {f:Addr} {fd:FuncData} (F:Fun K "steps_to_do" "steps_to_do" bW f fd) (T:Txt K mg cP cB cU cR cN tkS eW eL tkH) : FnOk P w K mg base jU 1 f fd ["way","place"] (tF):=by
 refine F.ok BH (fun vs H Q E h=>?_) (fun cdv A outer s H vs Q E hr h=>?_)
 ·obtain ⟨t,y,p,rfl,⟨t₂,st,us,e,h1,h2,h3⟩,q⟩:=h
  rfl
 obtain ⟨t,y,p,rfl,⟨t₂,st,us,e,h1,h2,h3⟩,q⟩:=h
 have hu:_<cLine:=hr.units0
 have hu1:=jY hr
 refine ⟨_,(@jJ _ _ _ (@jN _ _ _ _ (@jI _ _ _ _ _ _ _ _ qK (kB kI (by rfl) T.z_len PySem.boot_len (jA (jD ix_tup (pv 0) jC (fun _ _=>rfl)) jB)) (pv 1)))),?_⟩
 cases e
 refine ⟨_,rfl,jL (SqT.of h1) rfl (⟨st,_,rfl,.inr (SqT.of h2),_,rfl,jP (?_)⟩)⟩
 rw [h3.1]
 exact q
theorem BF:FnScope ["canal","way","place"] ["canal","way","place"] (jF bT):=⟨rfl,rfl,rfl,by decide +kernel,rfl,by decide +kernel,by decide +kernel⟩
theorem xU {f:Addr} {fd:FuncData} (F:Fun K "reach_of" "reach_of" bT f fd) (T:Txt K mg cP cB cU cR cN tkS eW eL tkH) (D_steps_to_do:Def P w K mg base 1 "steps_to_do" ["way","place"] [] (tF)) (D_linked:Def P w K mg base 2 "linked" ["canal","start","steps"] [] (iP K (jG cP cB cU) cR cN)):FnOk P w K mg base jU 3 f fd ["canal","way","place"] (iO (jG cP cB cU) cR cN):=by
 refine F.ok BF (fun vs H Q E h=>?_) (fun cdv A outer s H vs Q E hr h=>?_)
 ·obtain ⟨x,t,y,p,D,R,L,N,rfl,hc,hwy,ok,hp,q⟩:=h
  rfl
 obtain ⟨x,t,y,p,D,R,L,N,rfl,hc,hwy,ok,hp,q⟩:=h
 have hu:_<cLine:=hr.units0
 have hu1:=jY hr
 refine ⟨_,(@jH _ _ _ _ _ (kH (kD kQ (jM D_steps_to_do hr rfl (jA (pv 1) (jA (pv 2) jB))) jC (j3 _)) (@jJ _ _ _ (@jN _ _ _ _ (eC (v:=.int (-1)) rfl T.g_HOME ⟨_,rfl⟩))) kJ)
   (@jJ _ _ _ (@jN _ _ _ _ (jD j5 (jM D_linked hr rfl (@jA _ _ _ _ _ (pv 0) (@jA _ _ _ _ _ (jD ix_tup (pv 1) jC (fun _ _=>rfl)) (@jA _ _ _ _ _ (jD ix_tup (pv 1) jC (fun _ _=>rfl)) jB (by rfl)) (by rfl)) (by rfl))) (pv 2) (fun _ _=>rfl))))),?_⟩
 obtain ⟨t₂,st,us,e,h1,h2,h3⟩:=id hwy
 cases e
 refine ⟨_,rfl,_,rfl,t,y,_,rfl,hwy,rfl,_,rfl,?_⟩
 by_cases h:p=y.2.length
 ·refine kM (congrArg V.int (by omega)) ?_
  have:=q H (Same.refl _)
  rw [show kP L y p = -1 from if_pos h] at this
  exact this
 ·refine kF (fun z=>h (by have:=V.int.inj z;omega)) ?_
  have hle:=ok.le
  refine ⟨_,rfl,_,rfl,jL (SqT.of h1) rfl (⟨_,rfl,jL (SqT.of h1) rfl (⟨x,st,y.1,us,y.2,D,R,L,N,rfl,hc,h2,h3,ok.lt,by omega,ok.ok,fun r H' s' hr0 hr=>?_⟩)⟩)⟩
  have hl:p<(kY L y.1 y.2).length:=by rw [dZ];omega
  refine ⟨_,rfl,j4 (SqL.of hr) (qD hl) (?_)⟩
  have:=q H' s'
  rw [show kP L y p=(kY L y.1 y.2).getD p 0 from if_neg h] at this
  exact this
theorem BB:FnScope ["canal","ways","state","reach"] ["canal","ways","state","reach"] (jF QO):=⟨rfl,rfl,rfl,by decide +kernel,rfl,by decide +kernel,by decide +kernel⟩
theorem xK {f:Addr} {fd:FuncData} (F:Fun K "lying" "lying" QO f fd) (T:Txt K mg cP cB cU cR cN tkS eW eL tkH) (D_reach_of:Def P w K mg base 3 "reach_of" ["canal","way","place"] [] (iO (jG cP cB cU) cR cN)):FnOk P w K mg base jU 4 f fd ["canal","ways","state","reach"] (rV (jG cP cB cU) cR cN):=by
 refine F.ok BB (fun vs H Q E h=>?_) (fun cdv A outer s H vs Q E hr h=>?_)
 ·obtain ⟨x,wl,st,r,us,ys,d,ms,pl,D,R,L,N,rfl,hc,hwl,hA,⟨wt,pt,hst,hwt,hpt⟩,hfl,q⟩:=h
  rfl
 obtain ⟨x,wl,st,r,us,ys,d,ms,pl,D,R,L,N,rfl,hc,hwl,hA,⟨wt,pt,hst,hwt,hpt⟩,hfl,q⟩:=h
 have hu:_<cLine:=hr.units0
 have hu1:=jY hr
 refine ⟨_,(@jJ _ _ _ (@jN _ _ _ _ (yS PySem.F.plainAttrs_list PySem.F.slot_list_count PySem.F.type_list_count EC (qV ["way","place","canal"] (kW 2 [0]) rfl (kZ (jF QO) rfl rfl (by decide +kernel) (by decide +kernel) (by decide +kernel)) (qA 2 [0] rfl rfl (by decide +kernel)) (EZ (by rfl) T.z_zip (jA (pv 1) (jA (jD ix_tup (pv 2) jC (fun _ _=>rfl)) jB))) (fun _ _ _ _ _=>(JE (n:=2) K rfl (qG (j8 (i:=0) (show List.Nodup (["way","place","canal"]:List Str) from by decide +kernel) rfl (by first|exact Or.inl rfl|exact Or.inr rfl)) (qG (j8 (i:=1) (show List.Nodup (["way","place","canal"]:List Str) from by decide +kernel) rfl (by first|exact Or.inl rfl|exact Or.inr rfl)) y8)))) (fun _ _ _ _ _=>qZ) (fun _ _ _ _ _=>(jM D_reach_of hr rfl (@jA _ _ _ _ _ (pv 2) (@jA _ _ _ _ _ (pv 0) (@jA _ _ _ _ _ (pv 1) jB (by rfl)) (by rfl)) (by rfl))))) (jA (pv 3) jB)))),?_⟩
 refine ⟨_,rfl,_,rfl,jL (SqT.of hst) rfl (⟨wl,pt,rfl,⟨_,SqL.of hwl⟩,⟨_,SqT.of hpt⟩,fun D₁ hD₁=>?_⟩)⟩
 refine B2 (K:=K) (a1:=wl) (a2:=pt) (xs:=us) (ys:=pl.map fun (p:Nat)=>V.int (p:Int)) (fun i σ Hi=>∃c1 c2:Option V,σ=[c1,c2,some (.ref x)]∧Hi D₁=some (.lst (((vB L ys pl).take i).map V.int))∧Same H Hi)
  ⟨none,none,rfl,by rw [jE,List.take_zero];rfl,jK hD₁ _⟩ (fun i σ Hi _ ⟨_,_,_,_,s⟩=>⟨SqL.of (s _ _ hwl),SqT.of (s _ _ hpt)⟩) (by rw [hA.1,List.length_map,hfl.len]) ?_ ?_
 ·rintro i v z σ Hi T₁ hv hz ⟨c1,c2,rfl,hY,sm⟩ hT
  obtain ⟨y,hy,hwy⟩:=hA.2 i v hv
  have hi:i<ys.length:=(List.getElem?_eq_some_iff.mp hy).1
  obtain ⟨t,st₂,us₂,rfl,hw1,hw2,hw3⟩:=id hwy
  have hip:i<pl.length:=by rw [hfl.len];exact hi
  rw [List.getElem?_map,List.getElem?_eq_getElem hip] at hz
  cases hz
  have u:=jK hT (.tup [V.ref t,V.int ((pl[i]:Nat):Int)])
  have smu:=sm.trans u
  have hwy2:=WyAt.same smu _ _ hwy
  have hp:=hfl.le i y pl[i] hy (List.getElem?_eq_getElem hip)
  have hg1:ys.getD i (0,[])=y:=by rw [List.getD_eq_getElem?_getD,hy];rfl
  have hg2:pl.getD i 0=pl[i]:=by rw [List.getD_eq_getElem?_getD,List.getElem?_eq_getElem hip];rfl
  have h10:=hfl.n10
  have hYu:=u _ _ hY
  refine ⟨T₁,_,rfl,SqT.of jE,rfl,_,_,rfl,_,_,rfl,rfl,?_⟩
  generalize upd Hi T₁ (.tup [V.ref t,V.int ((pl[i]:Nat):Int)])=Hj at u smu hwy2 hYu ⊢
  refine q9 (kU ?_)
  refine ⟨_,rfl,_,rfl,_,rfl,x,t,y,pl[i],D,R,L,N,rfl,hc.same smu,hwy2,hfl.ok y (List.mem_of_getElem? hy),hp,fun H' s'=>?_⟩
  refine ⟨_,s' _ _ hYu,qM (by rw [List.length_map,List.length_take];unfold vB;rw [List.length_map,List.length_range];omega),_,_,rfl,?_,kT hD₁ (smu.trans s')⟩
  rw [jE,List.take_add_one,show (vB L ys pl)[i]?=some (kP L y pl[i]) by unfold vB;rw [List.getElem?_map,List.getElem?_range hi,← hg1,← hg2];rfl,List.map_append]
  rfl
 rintro σ Hf ⟨c1,c2,rfl,hY,sm⟩
 rw [hA.1,List.take_of_length_le (by unfold vB;rw [List.length_map,List.length_range];exact Nat.le_refl _)] at hY
 refine ⟨.inl ⟨rfl,_,SqL.of hY⟩,_,rfl,D₁,_,_,rfl,rfl,hY,rfl,fE _,?_⟩
 have e:((vB L ys pl).map V.int).countP (fun z=>vI z (.int r))=(vB L ys pl).countP fun z=>decide (z=r):=by rw [List.countP_map];rfl
 rw [e]
 exact q Hf sm
theorem dL:FnScope ["canal","state","weather","waters","sky","sun","rain"] ["canal","state","weather"] (jF zW):=⟨rfl,rfl,rfl,by decide +kernel,rfl,by decide +kernel,by decide +kernel⟩
theorem xM {f:Addr} {fd:FuncData} (F:Fun K "night_pours" "night_pours" zW f fd) (T:Txt K mg cP cB cU cR cN tkS eW eL tkH) (MM_Canal_sky:MeD P w K mg base 2 cN "sky" ["self"] (ZA (jG cP cB cU) cR cN eO)) (D_with_spills:Def P w K mg base 4 "with_spills" ["weirs","waters","pours"] [] (lD K)) (MM_Canal_weirs:MeD P w K mg base 2 cN "weirs" ["self"] (fL (jG cP cB cU) cR cN)):FnOk P w K mg base jU 5 f fd ["canal","state","weather"] (pX K (jG cP cB cU) cR cN):=by
 refine F.ok dL (fun vs H Q E h=>?_) (fun cdv A outer s H vs Q E hr h=>?_)
 ·obtain ⟨x,t,wl,d,ms,ps,us,W,D,R,L,N,rfl,hc,⟨wt,pt,h1,h2,h3⟩,hwl,hA,hWR,hms,hR100,hL100,hTg,q⟩:=h
  rfl
 obtain ⟨x,t,wl,d,ms,ps,us,W,D,R,L,N,rfl,hc,⟨wt,pt,h1,h2,h3⟩,hwl,hA,hWR,hms,hR100,hL100,hTg,q⟩:=h
 have hu:_<cLine:=hr.units0
 have hu1:=jY hr
 refine ⟨_,(@jH _ _ _ _ _ (jQ (i:=3) dL.nd rfl (by first|exact Or.inl rfl|exact Or.inr rfl) (jD ix_tup (pv 1) jC (fun _ _=>rfl)))
   (@jH _ _ _ _ _ (jQ (i:=4) dL.nd rfl (by first|exact Or.inl rfl|exact Or.inr rfl) (eM MM_Canal_sky hr (pv 0)))
   (@jH _ _ _ _ _ (z9 (i:=5) ["at","pair","sky","waters"] (kW 2 [4,3]) dL.nd rfl (by first|exact Or.inl rfl|exact Or.inr rfl) rfl (kZ (jF zW) rfl rfl (by decide +kernel) (by decide +kernel) (by decide +kernel)) (qA 2 [4,3] rfl rfl (by decide +kernel)) (sO (by rfl) T.z_enumerate (jA (pv 2) jB)) (fun _ _ _ _ _=>(JE (n:=2) K rfl (qG (j8 (i:=0) (show List.Nodup (["at","pair","sky","waters"]:List Str) from by decide +kernel) rfl (by first|exact Or.inl rfl|exact Or.inr rfl)) (qG (j8 (i:=1) (show List.Nodup (["at","pair","sky","waters"]:List Str) from by decide +kernel) rfl (by first|exact Or.inl rfl|exact Or.inr rfl)) y8)))) (fun _ _ _ _ _=>qZ) (fun _ _ _ _ _=>(kL (@jA _ _ _ _ _ (pv 0) (@jA _ _ _ _ _ (pv 2) (@jA _ _ _ _ _ (kB (iW rfl) (by rfl) T.z_min PyProof.Rows.boot_min (jA (jD (qO K) (pv 1) jC (fun _ _=>rfl)) (jA (jD (qO K) (pv 3) (pv 0) (fun _ _=>rfl)) jB))) jB (by rfl)) (by rfl)) (by rfl)))))
   (@jH _ _ _ _ _ (z9 (i:=6) ["at","pair","sky"] (kW 2 [4]) dL.nd rfl (by first|exact Or.inl rfl|exact Or.inr rfl) rfl (kZ (jF zW) rfl rfl (by decide +kernel) (by decide +kernel) (by decide +kernel)) (qA 2 [4] rfl rfl (by decide +kernel)) (sO (by rfl) T.z_enumerate (jA (pv 2) jB)) (fun _ _ _ _ _=>(JE (n:=2) K rfl (qG (j8 (i:=0) (show List.Nodup (["at","pair","sky"]:List Str) from by decide +kernel) rfl (by first|exact Or.inl rfl|exact Or.inr rfl)) (qG (j8 (i:=1) (show List.Nodup (["at","pair","sky"]:List Str) from by decide +kernel) rfl (by first|exact Or.inl rfl|exact Or.inr rfl)) y8)))) (fun _ _ _ _ _=>qZ) (fun _ _ _ _ _=>(kL (@jA _ _ _ _ _ (pv 2) (@jA _ _ _ _ _ (pv 0) (@jA _ _ _ _ _ (jD (qO K) (pv 1) jC (fun _ _=>rfl)) jB (by rfl)) (by rfl)) (by rfl)))))
   (@jJ _ _ _ (@jN _ _ _ _ (jM D_with_spills hr rfl (@jA _ _ _ _ _ (eM MM_Canal_weirs hr (pv 0)) (@jA _ _ _ _ _ (pv 3) (@jA _ _ _ _ _ (qV ["pour"] (kW 1 []) rfl (kZ (jF zW) rfl rfl (by decide +kernel) (by decide +kernel) (by decide +kernel)) (qA 1 [] rfl rfl (by decide +kernel)) (qR (@jI _ _ _ _ _ _ _ _ JG (pv 5) (pv 6))) (fun _ _ _ _ _=>(j8 (i:=0) (show List.Nodup (["pour"]:List Str) from by decide +kernel) rfl (by first|exact Or.inl rfl|exact Or.inr rfl))) (fun _ _ _ _ _=>(zM (kD JM (jD (qO K) (pv 0) jC (fun _ _=>rfl)) jC (j3 _)))) (fun _ _ _ _ _=>(pv 0))) jB (by rfl)) (by rfl)) (by rfl))))))))),?_⟩
 have hc0:=hc
 obtain ⟨dx,rl,ll,nl,fs,rs,ls,nv,hx,hf,hrl,hll,hnl,hR,hL,hN,d1,d2,d3⟩:=hc
 obtain ⟨sk,hsk⟩:∃sk,sk=R.length+2*L.length+1:=⟨_,rfl⟩
 have esk:eO R.length L.length=(sk:Int):=by unfold eO;omega
 refine ⟨_,rfl,jL (SqT.of h1) rfl (?_)⟩
 refine ⟨_,rfl,x,dx,_,rfl,hx,hf.no (by decide +kernel) (by decide +kernel) (by decide +kernel),x,D,R,L,N,rfl,hc0,?_⟩
 rw [esk]
 refine ⟨_,rfl,wl,rfl,⟨_,SqL.of hwl⟩,fun D₁ hD₁=>?_⟩
 refine nZ (K:=K) (a:=wl) (xs:=us) (fun i σ Hi=>∃c1 c2:Option V,σ=[c1,c2,some (.int (sk:Int)),some (.ref wt)]∧∃ys:List V,Hi D₁=some (.lst ys)∧PoursH Hi ys ((QB sk ms W R.length).take i) ms.length∧Same H Hi) ⟨none,none,rfl,[],jE,PoursH.nil _ _,jK hD₁ _⟩ (fun i σ Hi _ ⟨_,_,_,_,_,_,s⟩=>SqL.of (s _ _ hwl)) ?_ ?_
 ·rintro i v σ Hi T₁ hv ⟨c1,c2,rfl,ys,hY,hP,sm⟩ hT
  have hi:i<us.length:=(List.getElem?_eq_some_iff.mp hv).1
  rw [hA.1] at hi
  obtain ⟨y,hy,t1,rfl,ht1⟩:=hA.2 i v hv
  have u:=jK hT (.tup [V.int (i:Int),V.ref t1])
  have smu:=sm.trans u
  have hYu:=u _ _ hY
  refine ⟨T₁,_,rfl,SqT.of jE,rfl,_,_,rfl,_,_,rfl,rfl,?_⟩
  generalize upd Hi T₁ (.tup [V.int (i:Int),V.ref t1])=Hj at u smu hYu ⊢
  refine q9 (kU ?_)
  refine ⟨_,rfl,_,rfl,_,rfl,jL (SqT.of (smu _ _ ht1)) rfl (⟨_,rfl,_,rfl,jL (SqT.of (smu _ _ h2)) (qD (by omega)) (⟨_,_,rfl,?_⟩)⟩)⟩
  try dsimp only
  first|rw [← fO hy]|rw [← pP hy]
  refine ⟨zz3,fun tp htp=>?_⟩
  have u2:=jK htp (.tup [V.int (i:Int),V.int (sk:Int),V.int (QC ms W i)])
  have hY2:=u2 _ _ hYu
  have hlen:=hP.1
  rw [List.length_take,cJ] at hlen
  refine ⟨ys,hY2,qM (by omega),_,_,rfl,ys++[.ref tp],jE,?_,kT hD₁ (smu.trans u2)⟩
  rw [oS (by omega)]
  exact (((hP.same u).same u2).snoc jE (by omega) (by omega)).put hY2
 rintro σ H1 ⟨c1,c2,rfl,ys1,hY1,hP1,s1⟩
 rw [hA.1,hWR,List.take_of_length_le (by rw [cJ];exact Nat.le_refl _)] at hP1
 refine ⟨_,rfl,wl,rfl,⟨_,SqL.of (s1 _ _ hwl)⟩,fun D₂ hD₂=>?_⟩
 refine nZ (K:=K) (a:=wl) (xs:=us) (fun i σ Hi=>∃c1 c2:Option V,σ=[c1,c2,some (.int (sk:Int))]∧∃ys:List V,Hi D₂=some (.lst ys)∧PoursH Hi ys ((J9 sk W R.length).take i) ms.length∧Same H1 Hi) ⟨none,none,rfl,[],jE,PoursH.nil _ _,jK hD₂ _⟩ (fun i σ Hi _ ⟨_,_,_,_,_,_,s⟩=>SqL.of (s _ _ (s1 _ _ hwl))) ?_ ?_
 ·rintro i v σ Hi T₁ hv ⟨c1,c2,rfl,ys,hY,hP,sm⟩ hT
  have hi:i<us.length:=(List.getElem?_eq_some_iff.mp hv).1
  rw [hA.1] at hi
  obtain ⟨y,hy,t1,rfl,ht1⟩:=hA.2 i v hv
  have ht1:=s1 _ _ ht1
  have u:=jK hT (.tup [V.int (i:Int),V.ref t1])
  have smu:=sm.trans u
  have hYu:=u _ _ hY
  refine ⟨T₁,_,rfl,SqT.of jE,rfl,_,_,rfl,_,_,rfl,rfl,?_⟩
  generalize upd Hi T₁ (.tup [V.int (i:Int),V.ref t1])=Hj at u smu hYu ⊢
  refine q9 (kU ?_)
  refine ⟨_,rfl,_,rfl,_,rfl,jL (SqT.of (smu _ _ ht1)) rfl (?_)⟩
  rw [show y.1=(W.getD i (0,0)).1 by rw [gO hy]]
  refine ⟨zz3,fun tp htp=>?_⟩
  have u2:=jK htp (.tup [V.int (sk:Int),V.int (i:Int),V.int (W.getD i (0,0)).1])
  have hY2:=u2 _ _ hYu
  have hlen:=hP.1
  rw [List.length_take,cH] at hlen
  refine ⟨ys,hY2,qM (by omega),_,_,rfl,ys++[.ref tp],jE,?_,kT hD₂ (smu.trans u2)⟩
  rw [oC (by omega)]
  exact (((hP.same u).same u2).snoc jE (by omega) (by omega)).put hY2
 rintro σ H2 ⟨c1',c2',rfl,ys2,hY2,hP2,s2⟩
 rw [hA.1,hWR,List.take_of_length_le (by rw [cH];exact Nat.le_refl _)] at hP2
 have s12:=s1.trans s2
 have hl1:=hP1.1
 have hl2:=hP2.1
 rw [cJ] at hl1
 rw [cH] at hl2
 refine ⟨_,rfl,x,dx,_,rfl,(s12 _ _ hx),hf.no (by decide +kernel) (by decide +kernel) (by decide +kernel),x,D,R,L,N,rfl,hc0.same s12,hR100,fun wq ws H3 s3 hwq0 hwq hW=>?_⟩
 have s13:=s12.trans s3
 refine ⟨_,rfl,_,rfl,_,rfl,D₁,D₂,_,_,rfl,rfl,s3 _ _ (s2 _ _ hY1),s3 _ _ hY2,small (by omega),fun al hal=>?_⟩
 have s4:=jK hal (.lst (ys1++ys2))
 have hal4:upd H3 al (.lst (ys1++ys2)) al=_:=jE
 have hP4:PoursH (upd H3 al (.lst (ys1++ys2))) (ys1++ys2) (vK sk ms W R.length) ms.length:=(((hP1.same s2).same s3).same s4).append ((hP2.same s3).same s4)
 have s14:=s13.trans s4
 have hwq4:=s4 _ _ hwq
 have hW4:=hW.mono (QAt.same s4)
 generalize upd H3 al (.lst (ys1++ys2))=H4 at s4 hal4 hP4 s14 hwq4 hW4 ⊢
 refine ⟨al,rfl,⟨_,SqL.of hal4⟩,fun Df hDf=>?_⟩
 refine yX (K:=K) (a:=al) (xs:=ys1++ys2) (caps:=[]) (fun i ys Hi=>PoursH Hi ys (((vK sk ms W R.length).take i).filter kO) ms.length) hDf (SqL.of hal4) (PoursH.nil _ _) ?_ ?_
 ·rintro i v ys Hi hv hi hle sm hY hP
  rw [List.length_append] at hi
  obtain ⟨a,s,tt,m,rfl,hq,hT,hs,ht⟩:=hP4.2 i v hv
  have ef:((vK sk ms W R.length).take (i+1)).filter kO=((vK sk ms W R.length).take i).filter kO++[(s,tt,m)].filter kO:=by
   rw [List.take_add_one,hq,List.filter_append]
   rfl
  refine ⟨_,rfl,jL (SqT.of (sm _ _ hT)) rfl (⟨rfl,_,rfl,?_⟩)⟩
  by_cases hz:m=0
  ·refine JN (congrArg V.int hz) (JU sm hY hle (Same.refl _) ?_)
   rw [ef,List.filter_cons,if_neg (by unfold kO;rw [decide_eq_true (show m=0 from hz)];decide)]
   show PoursH Hi ys (_++[]) _
   rw [List.append_nil]
   exact hP
  refine dC (fun e=>hz (V.int.inj e)) ⟨_,rfl,qU hDf sm hY hle (by omega) (Same.refl _) ?_⟩
  rw [ef,List.filter_cons,if_pos (by unfold kO;rw [decide_eq_false (show ¬m=0 from hz)];rfl)]
  exact (hP.snoc (sm _ _ hT) hs ht).put hY
 rintro ys H5 s5 hY5 hle5 hP5
 rw [hP4.1,List.take_of_length_le (Nat.le_refl _)] at hP5
 have s15:=s14.trans s5
 refine ⟨wq,wt,Df,ws,ys,j7 R L.length,ms,_,rfl,iG hTg (hW4.mono (QAt.same s5)) (s5 _ _ hwq4) (.inr (SqT.of (s15 _ _ h2))) hms hR100 hL100,hY5,hP5,?_,fun r H' gs zs s' hr0 hr hP' hS=>?_⟩
 ·rw [List.length_append] at hle5
  omega
 subst hsk
 exact q r H' gs zs (s15.trans s') (s15.free hr0) hr hP' hS
theorem A6:FnScope ["canal","ways","state","reach"] ["canal","ways","state","reach"] (jF bI):=⟨rfl,rfl,rfl,by decide +kernel,rfl,by decide +kernel,by decide +kernel⟩
theorem xD {f:Addr} {fd:FuncData} (F:Fun K "has_no_berth" "has_no_berth" bI f fd) (T:Txt K mg cP cB cU cR cN tkS eW eL tkH) (D_lying:Def P w K mg base 4 "lying" ["canal","ways","state","reach"] [] (rV (jG cP cB cU) cR cN)):FnOk P w K mg base jU 5 f fd ["canal","ways","state","reach"] (o0 (jG cP cB cU) cR cN):=by
 refine F.ok A6 (fun vs H Q E h=>?_) (fun cdv A outer s H vs Q E hr h=>?_)
 ·obtain ⟨x,wl,st,b,r,us,ys,d,ms,pl,D,R,L,N,rfl,hG,hrc,q⟩:=h
  rfl
 obtain ⟨x,wl,st,b,r,us,ys,d,ms,pl,D,R,L,N,rfl,hG,hrc,q⟩:=h
 have hu:_<cLine:=hr.units0
 have hu1:=jY hr
 refine ⟨_,(@jJ _ _ _ (@jN _ _ _ _ (v9 tY (jM D_lying hr rfl (@jA _ _ _ _ _ (pv 0) (@jA _ _ _ _ _ (pv 1) (@jA _ _ _ _ _ (pv 2) (@jA _ _ _ _ _ (pv 3) jB (by rfl)) (by rfl)) (by rfl)) (by rfl))) (jR (jD j5 (jR (pv 0) rfl) (pv 3) (fun _ _=>rfl)) rfl) (j3 _)))),?_⟩
 obtain ⟨hc,hdr,hwl,hA,hst,hfl,hml⟩:=id hG
 have hc0:=hc
 obtain ⟨dx,rl,ll,nl,fs,rs,ls,nv,hx,hf,hrl,hll,hnl,hR,hL,hN,d1,d2,d3⟩:=hc
 obtain ⟨z,hz,yr,rfl,dy,gs,hyr,hg⟩:=hR.get hrc
 refine ⟨_,rfl,_,rfl,_,rfl,_,rfl,x,wl,st,_,us,ys,d,ms,pl,D,R,L,N,rfl,hc0,hwl,hA,hst,hfl,fun H3 s3=>?_⟩
 exact ⟨_,rfl,jT ((s3 _ _ hx)) (T.clN) (T.nN_reaches) (hf.1) (⟨_,rfl,j4 (SqL.of (s3 _ _ hrl)) (kE hz) (jT ((s3 _ _ hyr)) (T.clR) (T.nR_berths) (hg.2.2.2.1) (jP (q H3 s3)))⟩)⟩
theorem BC:FnScope ["way","place"] ["way","place"] (jF bN):=⟨rfl,rfl,rfl,by decide +kernel,rfl,by decide +kernel,by decide +kernel⟩
theorem xL {f:Addr} {fd:FuncData} (F:Fun K "next_step" "next_step" bN f fd) (T:Txt K mg cP cB cU cR cN tkS eW eL tkH) : FnOk P w K mg base jU 1 f fd ["way","place"] (tH):=by
 refine F.ok BC (fun vs H Q E h=>?_) (fun cdv A outer s H vs Q E hr h=>?_)
 ·obtain ⟨t,y,p,s₁,rfl,⟨t₂,st₂,vs₂,e,hw1,hw2,hw3⟩,hs,q⟩:=h
  rfl
 obtain ⟨t,y,p,s₁,rfl,⟨t₂,st₂,vs₂,e,hw1,hw2,hw3⟩,hs,q⟩:=h
 have hu:_<cLine:=hr.units0
 have hu1:=jY hr
 refine ⟨_,(@jJ _ _ _ (@jN _ _ _ _ (jD ix_tup (jD ix_tup (pv 0) jC (fun _ _=>rfl)) (pv 1) (fun _ _=>rfl)))),?_⟩
 cases e
 obtain ⟨v3,hv3,hP3⟩:=hw3.get hs
 exact ⟨_,rfl,jL (SqT.of hw1) rfl (⟨_,rfl,jL (SqT.of hw2) (kE hv3) (q _ hP3)⟩)⟩
theorem BD:FnScope ["places","boat"] ["places","boat"] (jF QP):=⟨rfl,rfl,rfl,by decide +kernel,rfl,by decide +kernel,by decide +kernel⟩
theorem xN {f:Addr} {fd:FuncData} (F:Fun K "one_step_on" "one_step_on" QP f fd) (T:Txt K mg cP cB cU cR cN tkS eW eL tkH) : FnOk P w K mg base jU 1 f fd ["places","boat"] (pR):=by
 refine F.ok BD (fun vs H Q E h=>?_) (fun cdv A outer s H vs Q E hr h=>?_)
 ·obtain ⟨pt,pl,b,rfl,hpt,h100,q⟩:=h
  rfl
 obtain ⟨pt,pl,b,rfl,hpt,h100,q⟩:=h
 have hu:_<cLine:=hr.units0
 have hu1:=jY hr
 refine ⟨_,(@jJ _ _ _ (@jN _ _ _ _ (qJ QU (by rfl) T.z_tuple PyProof.Rows.boot_tuple (jA (qV ["at","place","boat"] (kW 2 [1]) rfl (kZ (jF QP) rfl rfl (by decide +kernel) (by decide +kernel) (by decide +kernel)) (qA 2 [1] rfl rfl (by decide +kernel)) (D7 (by rfl) T.z_enumerate (jA (pv 0) jB)) (fun _ _ _ _ _=>(JE (n:=2) K rfl (qG (j8 (i:=0) (show List.Nodup (["at","place","boat"]:List Str) from by decide +kernel) rfl (by first|exact Or.inl rfl|exact Or.inr rfl)) (qG (j8 (i:=1) (show List.Nodup (["at","place","boat"]:List Str) from by decide +kernel) rfl (by first|exact Or.inl rfl|exact Or.inr rfl)) y8)))) (fun _ _ _ _ _=>qZ) (fun _ _ _ _ _=>(JB (kD kQ (pv 0) (pv 2) (j3 _)) (@jI _ _ _ _ _ _ _ _ jX (pv 1) jC) (pv 1)))) jB)))),?_⟩
 refine ⟨_,rfl,pt,rfl,⟨_,SqT.of hpt⟩,fun D₁ hD₁=>?_⟩
 refine BS (K:=K) (a:=pt) (xs:=pl.map fun (p:Nat)=>V.int (p:Int)) (fun i σ Hi=>∃c1 c2:Option V,σ=[c1,c2,some (.int (b:Int))]∧Hi D₁=some (.lst (((zN pl b).take i).map fun (p:Nat)=>V.int (p:Int)))∧Same H Hi) ⟨none,none,rfl,jE,jK hD₁ _⟩ (fun i σ Hi _ ⟨_,_,_,_,s⟩=>SqT.of (s _ _ hpt)) ?_ ?_
 ·rintro i v σ Hi T₁ hv ⟨c1,c2,rfl,hY,sm⟩ hT
  have hi:i<pl.length:=by have:=(List.getElem?_eq_some_iff.mp hv).1;rw [List.length_map] at this;exact this
  rw [List.getElem?_map,List.getElem?_eq_getElem hi] at hv
  cases hv
  have u:=jK hT (.tup [V.int (i:Int),V.int ((pl[i]:Nat):Int)])
  have smu:=sm.trans u
  have hYu:=u _ _ hY
  refine ⟨T₁,_,rfl,SqT.of jE,rfl,_,_,rfl,_,_,rfl,rfl,?_⟩
  generalize upd Hi T₁ (.tup [V.int (i:Int),V.int ((pl[i]:Nat):Int)])=Hj at u smu hYu ⊢
  have eg:pl.getD i 0=pl[i]:=by rw [List.getD_eq_getElem?_getD,List.getElem?_eq_getElem hi];rfl
  refine q9 (kU ?_)
  refine ⟨_,rfl,_,rfl,rfl,_,rfl,?_⟩
  by_cases h:i=b
  ·refine kM (by rw [h]) ⟨_,rfl,jP (⟨_,hYu,qM (by rw [List.length_map,List.length_take,fC];omega),_,_,rfl,?_,kT hD₁ smu⟩)⟩
   rw [jE,nQ hi,if_pos h,eg,List.map_append]
   rfl
  ·refine kF (fun e=>h (by have:=V.int.inj e;omega)) ⟨_,rfl,_,hYu,qM (by rw [List.length_map,List.length_take,fC];omega),_,_,rfl,?_,kT hD₁ smu⟩
   rw [jE,nQ hi,if_neg h,eg,List.map_append]
   rfl
 rintro σ Hf ⟨c1,c2,rfl,hY,sm⟩
 rw [List.length_map,List.take_of_length_le (by rw [fC];exact Nat.le_refl _)] at hY
 refine ⟨D₁,_,rfl,.inl ⟨SqL.of hY,fun r hr0=>?_⟩⟩
 exact q r _ (sm.trans (jK hr0 _)) (sm.free hr0) jE
theorem A3:FnScope ["state","deed","waters"] ["state","deed","waters"] (jF bG):=⟨rfl,rfl,rfl,by decide +kernel,rfl,by decide +kernel,by decide +kernel⟩
theorem w9 {f:Addr} {fd:FuncData} (F:Fun K "counted_on" "counted_on" bG f fd) (T:Txt K mg cP cB cU cR cN tkS eW eL tkH) (D_one_step_on:Def P w K mg base 1 "one_step_on" ["places","boat"] [] (pR)):FnOk P w K mg base jU 2 f fd ["state","deed","waters"] (o4):=by
 refine F.ok A3 (fun vs H Q E h=>?_) (fun cdv A outer s H vs Q E hr h=>?_)
 ·obtain ⟨st,dd,wo,de,d,ms,mo,pl,rfl,hst,hdd,hwo,h100,q⟩:=h
  rfl
 obtain ⟨st,dd,wo,de,d,ms,mo,pl,rfl,hst,hdd,hwo,h100,q⟩:=h
 have hu:_<cLine:=hr.units0
 have hu1:=jY hr
 refine ⟨_,(@jH _ _ _ _ _ (kH (kD kQ (jD ix_tup (pv 1) jC (fun _ _=>rfl)) jO (j3 _)) (@jJ _ _ _ (@jN _ _ _ _ (kL (@jA _ _ _ _ _ (@jI _ _ _ _ _ _ _ _ jX (jD ix_tup (pv 0) jC (fun _ _=>rfl)) jC) (@jA _ _ _ _ _ (pv 2) (@jA _ _ _ _ _ (jD ix_tup (pv 0) jC (fun _ _=>rfl)) jB (by rfl)) (by rfl)) (by rfl))))) kJ)
   (@jH _ _ _ _ _ (kH (kD kQ (jD ix_tup (pv 1) jC (fun _ _=>rfl)) jO (j3 _)) (@jJ _ _ _ (@jN _ _ _ _ (kL (@jA _ _ _ _ _ (jD ix_tup (pv 0) jC (fun _ _=>rfl)) (@jA _ _ _ _ _ (pv 2) (@jA _ _ _ _ _ (jM D_one_step_on hr rfl (jA (jD ix_tup (pv 0) jC (fun _ _=>rfl)) (jA (jD ix_tup (pv 1) jC (fun _ _=>rfl)) jB))) jB (by rfl)) (by rfl)) (by rfl))))) kJ)
   (@jJ _ _ _ (@jN _ _ _ _ (kL (@jA _ _ _ _ _ (jD ix_tup (pv 0) jC (fun _ _=>rfl)) (@jA _ _ _ _ _ (pv 2) (@jA _ _ _ _ _ (jD ix_tup (pv 0) jC (fun _ _=>rfl)) jB (by rfl)) (by rfl)) (by rfl))))))),?_⟩
 obtain ⟨wt,pt,hst1,hwt,hpt⟩:=id hst
 cases de with
 |night =>
  refine ⟨_,rfl,jL (SqT.of hdd) rfl (⟨rfl,_,rfl,kM rfl ?_⟩)⟩
  refine ⟨_,rfl,jL (SqT.of hst1) rfl (jP (⟨_,rfl,_,rfl,jL (SqT.of hst1) rfl (⟨zz3,fun t3 ht3=>?_⟩)⟩))⟩
  have s3:=jK ht3 (.tup [V.int (d+1),V.ref wo,V.ref pt])
  exact q t3 _ s3 ht3 ⟨wo,pt,jE,s3 _ _ hwo,s3 _ _ hpt⟩
 |pass b =>
  refine ⟨_,rfl,jL (SqT.of hdd) rfl (⟨rfl,_,rfl,kF (fun e=>absurd (V.str.inj e) (by decide +kernel)) ?_⟩)⟩
  refine ⟨_,rfl,jL (SqT.of hdd) rfl (⟨rfl,_,rfl,kM rfl ?_⟩)⟩
  refine ⟨_,rfl,jL (SqT.of hst1) rfl (⟨_,rfl,_,rfl,jL (SqT.of hst1) rfl (⟨_,rfl,jL (SqT.of hdd) rfl (⟨pt,pl,b,rfl,hpt,h100,fun po H3 s3 hpo0 hpo=>?_⟩)⟩)⟩)⟩
  refine ⟨zz3,fun t3 ht3=>?_⟩
  have s4:=jK ht3 (.tup [V.int d,V.ref wo,V.ref po])
  exact q t3 _ (s3.trans s4) (s3.free ht3) ⟨wo,po,jE,s4 _ _ (s3 _ _ hwo),s4 _ _ hpo⟩
 |«let» k =>
  refine ⟨_,rfl,jL (SqT.of hdd) rfl (⟨rfl,_,rfl,kF (fun e=>absurd (V.str.inj e) (by decide +kernel)) ?_⟩)⟩
  refine ⟨_,rfl,jL (SqT.of hdd) rfl (⟨rfl,_,rfl,kF (fun e=>absurd (V.str.inj e) (by decide +kernel)) ?_⟩)⟩
  refine ⟨_,rfl,jL (SqT.of hst1) rfl (⟨_,rfl,_,rfl,jL (SqT.of hst1) rfl (⟨zz3,fun t3 ht3=>?_⟩)⟩)⟩
  have s3:=jK ht3 (.tup [V.int d,V.ref wo,V.ref pt])
  exact q t3 _ s3 ht3 ⟨wo,pt,jE,s3 _ _ hwo,s3 _ _ hpt⟩
theorem iA:FnScope ["canal","k","named","lock","vessel"] ["canal","k","named"] (jF QK):=⟨rfl,rfl,rfl,by decide +kernel,rfl,by decide +kernel,by decide +kernel⟩
theorem w8 {f:Addr} {fd:FuncData} (F:Fun K "by_number" "by_number" QK f fd) (T:Txt K mg cP cB cU cR cN tkS eW eL tkH) (MM_Canal_basin:MeD P w K mg base 1 cN "basin" ["self","k"] (JK (jG cP cB cU) cR cN vR)) (MM_Canal_chamber:MeD P w K mg base 1 cN "chamber" ["self","k"] (JK (jG cP cB cU) cR cN yJ)):FnOk P w K mg base jU 2 f fd ["canal","k","named"] (lH (jG cP cB cU) cR cN):=by
 refine F.ok iA (fun vs H Q E h=>?_) (fun cdv A outer s H vs Q E hr h=>?_)
 ·obtain ⟨x,p,k,l,rp,ps,D,R,L,N,rfl,hc,hl',hg,hp,hP,hok,h10,q⟩:=h
  rfl
 obtain ⟨x,p,k,l,rp,ps,D,R,L,N,rfl,hc,hl',hg,hp,hP,hok,h10,q⟩:=h
 have hu:_<cLine:=hr.units0
 have hu1:=jY hr
 refine ⟨_,(@jH _ _ _ _ _ (jQ (i:=3) iA.nd rfl (by first|exact Or.inl rfl|exact Or.inr rfl) (jD j5 (jR (pv 0) rfl) (pv 1) (fun _ _=>rfl)))
   (@jH _ _ _ _ _ (jQ (i:=4) iA.nd rfl (by first|exact Or.inl rfl|exact Or.inr rfl) (sP (QX jO (jR (pv 3) rfl) (QX jO (jR (pv 3) rfl) (QX jO (ZB MM_Canal_chamber hr (pv 0) (jA (pv 1) jB)) (QX jO (ZB MM_Canal_basin hr (pv 0) (jA (pv 1) jB)) sK)))) rfl rfl (List.cons_ne_nil _ _) (by decide)))
   (@jJ _ _ _ (@jN _ _ _ _ (qV ["source","target","amount","vessel"] (kW 3 [4]) rfl (kZ (jF QK) rfl rfl (by decide +kernel) (by decide +kernel) (by decide +kernel)) (qA 3 [4] rfl rfl (by decide +kernel)) (qR (pv 2)) (fun _ _ _ _ _=>(JE (n:=3) K rfl (qG (j8 (i:=0) (show List.Nodup (["source","target","amount","vessel"]:List Str) from by decide +kernel) rfl (by first|exact Or.inl rfl|exact Or.inr rfl)) (qG (j8 (i:=1) (show List.Nodup (["source","target","amount","vessel"]:List Str) from by decide +kernel) rfl (by first|exact Or.inl rfl|exact Or.inr rfl)) (qG (j8 (i:=2) (show List.Nodup (["source","target","amount","vessel"]:List Str) from by decide +kernel) rfl (by first|exact Or.inl rfl|exact Or.inr rfl)) y8))))) (fun _ _ _ _ _=>qZ) (fun _ _ _ _ _=>(kL (@jA _ _ _ _ _ (Q1 hu1 (pv 3) (pv 0) (fun _ _=>rfl)) (@jA _ _ _ _ _ (Q1 hu1 (pv 3) (pv 1) (fun _ _=>rfl)) (@jA _ _ _ _ _ (pv 2) jB (by rfl)) (by rfl)) (by rfl))))))))),?_⟩
 have hc0:=hc
 obtain ⟨dx,rl,ll,nl,fs,rs,ls,nv,hx,hf,hrl,hll,hnl,hR,hL,hN,d1,d2,d3⟩:=hc
 obtain ⟨v,hv,y,rfl,dl,hl⟩:=hL.get hl'
 have hkL:k<L.length:=(List.getElem?_eq_some_iff.mp hl').1
 refine ⟨_,rfl,jT hx (T.clN) (T.nN_locks) (hf.2.1) (⟨_,rfl,j4 (SqL.of hll) (kE hv) (?_)⟩)⟩
 refine fun w hw0=>?_
 have s0:=jK hw0 (.dK [])
 refine ⟨_,rfl,jT ((s0 _ _ hl)) (T.cl l.kd) (T.n_high l.kd) (JW l.kd _ _ _ _ _) (⟨_,rfl,jT ((s0 _ _ hl)) (T.cl l.kd) (T.n_low l.kd) (J5 l.kd _ _ _ _ _) (⟨_,rfl,x,dx,_,rfl,(s0 _ _ hx),hf.no (by decide +kernel) (by decide +kernel) (by decide +kernel),_,rfl,x,D,R,L,N,_,rfl,hc0.same s0,_,rfl,x,dx,_,rfl,(s0 _ _ hx),hf.no (by decide +kernel) (by decide +kernel) (by decide +kernel),_,rfl,x,D,R,L,N,_,rfl,hc0.same s0,?_⟩)⟩)⟩
 refine ⟨jE,[(.inr "high",.int l.high),(.inr "low",.int l.low),(.inr "chamber",.int (yJ R.length L.length (k:Int))),(.inr "basin",.int (vR R.length L.length (k:Int)))],rfl,(by show 4≤15;decide),?_⟩
 rw [GC]
 have s1:Same H (upd (upd H w (.dK [])) w (.dK (d4 (.int l.high) (.int l.low) (.int (yJ R.length L.length (k:Int))) (.int (vR R.length L.length (k:Int)))))):=kT hw0 s0
 have hw:upd (upd H w (.dK [])) w (.dK (d4 (.int l.high) (.int l.low) (.int (yJ R.length L.length (k:Int))) (.int (vR R.length L.length (k:Int))))) w=_:=jE
 generalize upd (upd H w (.dK [])) w (.dK (d4 (.int l.high) (.int l.low) (.int (yJ R.length L.length (k:Int))) (.int (vR R.length L.length (k:Int)))))=H1 at s1 hw ⊢
 have hdg:∀(Hi:Hp) (s:Str),Same H1 Hi→okW s→DGet Hi w (.str s) (some (.int ((kX R.length L.length k l s:Nat):Int))):=fun Hi s sm hs=>by
  obtain ⟨e1,e2,e3,e4⟩:=HL (sm _ _ hw)
  obtain ⟨g1,g2,g3,g4,_⟩:=hg
  cases hs
  ·rw [dU,show ((l.high.toNat:Nat):Int)=l.high by omega];exact e1
  ·rw [d9,show ((l.low.toNat:Nat):Int)=l.low by omega];exact e2
  ·rw [fI,show ((R.length+k:Nat):Int)=yJ R.length L.length (k:Int) by unfold yJ;omega];exact e3
  ·rw [cG,show ((R.length+L.length+k:Nat):Int)=vR R.length L.length (k:Int) by unfold vR;omega];exact e4
 refine ⟨_,rfl,p,rfl,⟨_,SqL.of (s1 _ _ hp)⟩,fun D₁ hD₁=>?_⟩
 refine cF (K:=K) (a:=p) (xs:=rp) (fun i σ Hi=>∃(c1 c2 c3:Option V) (zs:List V),σ=[c1,c2,c3,some (.ref w)]∧Hi D₁=some (.lst zs)∧PoursH Hi zs ((ps.take i).map (yV R.length L.length k l)) (R.length+2*L.length+2)∧Same H1 Hi)
  ⟨none,none,none,[],rfl,jE,PoursH.nil _ _,jK hD₁ _⟩ (fun i σ Hi _ ⟨_,_,_,_,_,_,_,s⟩=>SqL.of (s _ _ (s1 _ _ hp))) ?_ ?_
 ·rintro i v σ Hi hv ⟨c1,c2,c3,zs,rfl,hY,hA,sm⟩
  have hi:i<rp.length:=(List.getElem?_eq_some_iff.mp hv).1
  rw [hP.1] at hi
  obtain ⟨t,sS,sT,nN,rfl,hps,hT⟩:=hP.2 i v hv
  obtain ⟨o1,o2⟩:=hok _ (List.mem_of_getElem? hps)
  have hlz:zs.length≤i:=by rw [hA.1,List.length_map];exact List.length_take_le _ _
  refine ⟨t,_,rfl,SqT.of (sm _ _ (s1 _ _ hT)),rfl,_,_,rfl,_,_,rfl,_,_,rfl,rfl,?_⟩
  refine q9 (kU ?_)
  refine ⟨_,rfl,_,rfl,w,_,rfl,hdg Hi _ sm o1,_,rfl,_,rfl,w,_,rfl,hdg Hi _ sm o2,_,rfl,zz3,fun tp htp=>?_⟩
  have u:=jK htp (.tup [V.int ((kX R.length L.length k l sS:Nat):Int),V.int ((kX R.length L.length k l sT:Nat):Int),V.int nN])
  refine ⟨zs,u _ _ hY,qM (by omega),_,_,_,zs++[.ref tp],rfl,jE,?_,kT hD₁ (sm.trans u)⟩
  rw [List.take_add_one,hps,List.map_append]
  exact ((hA.same u).snoc jE (fV o1 hg hkL) (fV o2 hg hkL)).put (u _ _ hY)
 rintro σ Hf ⟨c1,c2,c3,zs,rfl,hY,hA,sm⟩
 rw [hP.1,List.take_length] at hA
 exact q D₁ Hf zs (s1.trans sm) (s1.free hD₁) hY hA
theorem eZ:FnScope ["canal","ways","state","boat","step","k","basin"] ["canal","ways","state","boat"] (jF bP):=⟨rfl,rfl,rfl,by decide +kernel,rfl,by decide +kernel,by decide +kernel⟩
theorem xQ {f:Addr} {fd:FuncData} (F:Fun K "pass_pours" "pass_pours" bP f fd) (T:Txt K mg cP cB cU cR cN tkS eW eL tkH) (D_next_step:Def P w K mg base 1 "next_step" ["way","place"] [] (tH)) (MM_Canal_basin:MeD P w K mg base 1 cN "basin" ["self","k"] (JK (jG cP cB cU) cR cN vR)) (D_by_number:Def P w K mg base 2 "by_number" ["canal","k","named"] [] (lH (jG cP cB cU) cR cN)) (D_passage:Def P w K mg base 4 "passage" ["lock","full","basin","way"] [] (oZ (jG cP cB cU))) (MM_Canal_full:MeD P w K mg base 2 cN "full" ["self","waters","k"] (fQ (jG cP cB cU) cR cN)):FnOk P w K mg base jU 6 f fd ["canal","ways","state","boat"] (lG (jG cP cB cU) cR cN):=by
 refine F.ok eZ (fun vs H Q E h=>?_) (fun cdv A outer s H vs Q E hr h=>?_)
 ·obtain ⟨x,wl,st,b,us,ys,y,p,s₁,d,ms,pl,D,R,L,N,rfl,hG,hy,hpp,hs,q⟩:=h
  rfl
 obtain ⟨x,wl,st,b,us,ys,y,p,s₁,d,ms,pl,D,R,L,N,rfl,hG,hy,hpp,hs,q⟩:=h
 have hu:_<cLine:=hr.units0
 have hu1:=jY hr
 refine ⟨_,(@jH _ _ _ _ _ (jQ (i:=4) eZ.nd rfl (by first|exact Or.inl rfl|exact Or.inr rfl) (jM D_next_step hr rfl (jA (jD j5 (pv 1) (pv 3) (fun _ _=>rfl)) (jA (jD ix_tup (jD ix_tup (pv 2) jC (fun _ _=>rfl)) (pv 3) (fun _ _=>rfl)) jB))))
   (@jH _ _ _ _ _ (jQ (i:=5) eZ.nd rfl (by first|exact Or.inl rfl|exact Or.inr rfl) (jD ix_tup (pv 4) jC (fun _ _=>rfl)))
   (@jH _ _ _ _ _ (jQ (i:=6) eZ.nd rfl (by first|exact Or.inl rfl|exact Or.inr rfl) (jD ix_tup (jD ix_tup (pv 2) jC (fun _ _=>rfl)) (ZB MM_Canal_basin hr (pv 0) (jA (pv 5) jB)) (fun _ _=>rfl)))
   (@jJ _ _ _ (@jN _ _ _ _ (jM D_by_number hr rfl (@jA _ _ _ _ _ (pv 0) (@jA _ _ _ _ _ (pv 5) (@jA _ _ _ _ _ (jM D_passage hr rfl (@jA _ _ _ _ _ (jD j5 (jR (pv 0) rfl) (pv 5) (fun _ _=>rfl)) (@jA _ _ _ _ _ (ZB MM_Canal_full hr (pv 0) (jA (jD ix_tup (pv 2) jC (fun _ _=>rfl)) (jA (pv 5) jB))) (@jA _ _ _ _ _ (pv 6) (@jA _ _ _ _ _ (jD ix_tup (pv 4) jC (fun _ _=>rfl)) jB (by rfl)) (by rfl)) (by rfl)) (by rfl))) jB (by rfl)) (by rfl)) (by rfl)))))))),?_⟩
 obtain ⟨hc,hdr,hwl,hA,⟨wt,pt,hst1,hwt,hpt⟩,hfl,hml⟩:=id hG
 have hc0:=hc
 obtain ⟨dx,rl,ll,nl,fs,rs,ls,nv,hx,hf,hrl,hll,hnl,hR,hL,hN,d1,d2,d3⟩:=hc
 obtain ⟨v,hvy,t,st₂,vs₂,rfl,hw1,hw2,hw3⟩:=hA.get hy
 have hyok:=hfl.ok y (List.mem_of_getElem? hy)
 have hkL:=hyok.lt s₁ (List.mem_of_getElem? hs)
 obtain ⟨l,hl'⟩:∃l,L[s₁.1]?=some l:=⟨_,List.getElem?_eq_getElem hkL⟩
 obtain ⟨v4,hv4,y4,rfl,dl,hl⟩:=hL.get hl'
 have hgd:=hdr.lock _ _ hl'
 have ebas:vR R.length L.length (s₁.1:Int)=((R.length+L.length+s₁.1:Nat):Int):=by unfold vR;omega
 have hat:qC (ms.map V.int) (vR R.length L.length (s₁.1:Int))=some (.int (ms.getD (R.length+L.length+s₁.1) 0)):=by rw [ebas];exact qD (by omega)
 refine ⟨_,rfl,_,rfl,wl,_,_,_,rfl,rfl,SqL.of hwl,kE hvy,_,rfl,st,_,_,_,rfl,rfl,SqT.of hst1,rfl,_,rfl,pt,_,_,_,rfl,rfl,SqT.of hpt,kE (v:=.int (p:Int)) (by rw [List.getElem?_map,hpp];rfl),t,y,p,s₁,rfl,⟨t,st₂,vs₂,rfl,hw1,hw2,hw3⟩,hs,fun v3 ⟨t3,e3,ht3⟩=>?_⟩
 subst e3
 refine ⟨_,rfl,t3,_,_,_,rfl,rfl,SqT.of ht3,rfl,?_⟩
 refine ⟨_,rfl,st,_,_,_,rfl,rfl,SqT.of hst1,rfl,_,rfl,x,dx,_,rfl,hx,hf.no (by decide +kernel) (by decide +kernel) (by decide +kernel),_,rfl,x,D,R,L,N,_,rfl,hc0,wt,_,_,_,rfl,rfl,SqT.of hwt,hat,?_⟩
 refine ⟨_,rfl,_,rfl,_,rfl,x,cN,dx,_,_,rfl,hx,T.clN,T.nN_locks,hf.2.1,_,rfl,ll,_,_,_,rfl,rfl,SqL.of hll,kE hv4,_,rfl,x,dx,_,rfl,hx,hf.no (by decide +kernel) (by decide +kernel) (by decide +kernel),_,rfl,st,_,_,_,rfl,rfl,SqT.of hst1,rfl,_,rfl,x,wt,D,R,L,N,ms,s₁.1,rfl,hc0,hwt,by omega,_,rfl,_,rfl,t3,_,_,_,rfl,rfl,SqT.of ht3,rfl,y4,l.kd,_,_,_,l.room,l.extra,_,_,s₁.2,(by rw [GO];rfl),⟨dl,hl⟩,fun r H1 rs s1 hr0 hr hP=>?_⟩
 refine ⟨x,r,s₁.1,l,rs,_,D,R,L,N,rfl,hc0.same s1,hl',hgd,hr,hP,rA _ _ _ _ _ _,Nat.le_trans (o8 _ _ _ _ _ _) (by decide),fun r2 H2 zs s2 hr20 hr2 hP2=>?_⟩
 refine q r2 H2 zs (s1.trans s2) (s1.free hr20) hr2 ?_
 unfold vQ v5
 rw [hl',hml]
 exact hP2
theorem A9:FnScope ["canal","state","k"] ["canal","state","k"] (jF bL):=⟨rfl,rfl,rfl,by decide +kernel,rfl,by decide +kernel,by decide +kernel⟩
theorem xH {f:Addr} {fd:FuncData} (F:Fun K "let_pours" "let_pours" bL f fd) (T:Txt K mg cP cB cU cR cN tkS eW eL tkH) (D_by_number:Def P w K mg base 2 "by_number" ["canal","k","named"] [] (lH (jG cP cB cU) cR cN)) (D_letting:Def P w K mg base 3 "letting" ["lock","basin"] [] (dW (jG cP cB cU) qH)) (MM_Canal_basin:MeD P w K mg base 1 cN "basin" ["self","k"] (JK (jG cP cB cU) cR cN vR)):FnOk P w K mg base jU 4 f fd ["canal","state","k"] (rX (jG cP cB cU) cR cN):=by
 refine F.ok A9 (fun vs H Q E h=>?_) (fun cdv A outer s H vs Q E hr h=>?_)
 ·obtain ⟨x,wl,st,k,us,ys,d,ms,pl,D,R,L,N,rfl,hG,hkL,q⟩:=h
  rfl
 obtain ⟨x,wl,st,k,us,ys,d,ms,pl,D,R,L,N,rfl,hG,hkL,q⟩:=h
 have hu:_<cLine:=hr.units0
 have hu1:=jY hr
 refine ⟨_,(@jJ _ _ _ (@jN _ _ _ _ (jM D_by_number hr rfl (@jA _ _ _ _ _ (pv 0) (@jA _ _ _ _ _ (pv 2) (@jA _ _ _ _ _ (jM D_letting hr rfl (jA (jD j5 (jR (pv 0) rfl) (pv 2) (fun _ _=>rfl)) (jA (jD ix_tup (jD ix_tup (pv 1) jC (fun _ _=>rfl)) (ZB MM_Canal_basin hr (pv 0) (jA (pv 2) jB)) (fun _ _=>rfl)) jB))) jB (by rfl)) (by rfl)) (by rfl))))),?_⟩
 obtain ⟨hc,hdr,hwl,hA,⟨wt,pt,hst1,hwt,hpt⟩,hfl,hml⟩:=id hG
 have hc0:=hc
 obtain ⟨dx,rl,ll,nl,fs,rs,ls,nv,hx,hf,hrl,hll,hnl,hR,hL,hN,d1,d2,d3⟩:=hc
 obtain ⟨l,hl'⟩:∃l,L[k]?=some l:=⟨_,List.getElem?_eq_getElem hkL⟩
 obtain ⟨v4,hv4,y4,rfl,dl,hl⟩:=hL.get hl'
 have hgd:=hdr.lock _ _ hl'
 have hat:qC (ms.map V.int) (vR R.length L.length (k:Int))=some (.int (ms.getD (R.length+L.length+k) 0)):=by
  rw [show vR R.length L.length (k:Int)=((R.length+L.length+k:Nat):Int) by unfold vR;omega]
  exact qD (by omega)
 refine ⟨_,rfl,_,rfl,_,rfl,jT hx (T.clN) (T.nN_locks) (hf.2.1) (⟨_,rfl,j4 (SqL.of hll) (kE hv4) (⟨_,rfl,jL (SqT.of hst1) rfl (⟨_,rfl,x,dx,_,rfl,hx,hf.no (by decide +kernel) (by decide +kernel) (by decide +kernel),_,rfl,x,D,R,L,N,_,rfl,hc0,jL (SqT.of hwt) hat (⟨y4,l.kd,_,_,_,l.room,l.extra,_,rfl,⟨dl,hl⟩,fun r H1 rs s1 hr0 hr hP=>?_⟩)⟩)⟩)⟩)⟩
 refine ⟨x,r,k,l,rs,_,D,R,L,N,rfl,hc0.same s1,hl',hgd,hr,hP,eE _ _ _ _,Nat.le_trans (QY _ _ _ _) (by decide),fun r2 H2 zs s2 hr20 hr2 hP2=>?_⟩
 refine q r2 H2 zs (s1.trans s2) (s1.free hr20) hr2 ?_
 unfold JO
 rw [hl',hml]
 exact hP2
theorem A7:FnScope ["canal","waters","vessel"] ["canal","waters","vessel"] (jF bJ):=⟨rfl,rfl,rfl,by decide +kernel,rfl,by decide +kernel,by decide +kernel⟩
theorem xE {f:Addr} {fd:FuncData} (F:Fun K "is_below_least" "is_below_least" bJ f fd) (T:Txt K mg cP cB cU cR cN tkS eW eL tkH) : FnOk P w K mg base jU 1 f fd ["canal","waters","vessel"] (tV (jG cP cB cU) cR cN):=by
 refine F.ok A7 (fun vs H Q E h=>?_) (fun cdv A outer s H vs Q E hr h=>?_)
 ·obtain ⟨x,w,v,ms,D,R,L,N,rfl,hc,hw,hv,q⟩:=h
  rfl
 obtain ⟨x,w,v,ms,D,R,L,N,rfl,hc,hw,hv,q⟩:=h
 have hu:_<cLine:=hr.units0
 have hu1:=jY hr
 refine ⟨_,(@jJ _ _ _ (@jN _ _ _ _ (lX (v9 QA (pv 2) (kB kI (by rfl) T.z_len PySem.boot_len (jA (jR (pv 0) rfl) jB)) (j3 _)) (lW (v9 QA (jD ix_tup (pv 1) (pv 2) (fun _ _=>rfl)) (jR (jD j5 (jR (pv 0) rfl) (pv 2) (fun _ _=>rfl)) rfl) (j3 _)))))),?_⟩
 obtain ⟨dx,rl,ll,nl,fs,rs,ls,nv,hx,hf,hrl,hll,hnl,hR,hL,hN,d1,d2,d3⟩:=hc
 refine ⟨_,rfl,_,rfl,jT hx (T.clN) (T.nN_reaches) (hf.1) (⟨rl,_,rfl,.inl (SqL.of hrl),_,_,rfl,rfl,_,rfl,?_⟩)⟩
 rw [hR.1]
 by_cases h:v<R.length
 ·obtain ⟨r,hr⟩:∃r,R[v]?=some r:=⟨_,List.getElem?_eq_getElem h⟩
  obtain ⟨z,hz,y,rfl,dy,gs,hy,hg⟩:=hR.get hr
  refine kM (by omega) ⟨_,rfl,_,rfl,jL (SqT.of hw) (qD hv) (⟨_,rfl,jT hx (T.clN) (T.nN_reaches) (hf.1) (⟨_,rfl,j4 (SqL.of hrl) (kE hz) (jT hy (T.clR) (T.nR_least) (hg.2.1) (jP (?_)))⟩)⟩)⟩
  rw [show yC R ms v=decide (ms.getD v 0<r.least) by unfold yC;rw [hr]] at q
  exact q
 ·refine kF (by omega) ?_
  rw [show yC R ms v=false by unfold yC;rw [List.getElem?_eq_none (by omega)]] at q
  exact q
theorem eY:FnScope ["canal","waters","moved","held","pour"] ["canal","waters","moved"] (jF bH):=⟨rfl,rfl,rfl,by decide +kernel,rfl,by decide +kernel,by decide +kernel⟩
theorem xA {f:Addr} {fd:FuncData} (F:Fun K "falls_short" "falls_short" bH f fd) (T:Txt K mg cP cB cU cR cN tkS eW eL tkH) (D_poured_all:Def P w K mg base 1 "poured_all" ["waters","pours"] [] (gD K)) (D_is_below_least:Def P w K mg base 1 "is_below_least" ["canal","waters","vessel"] [] (tV (jG cP cB cU) cR cN)):FnOk P w K mg base jU 2 f fd ["canal","waters","moved"] (pU (jG cP cB cU) cR cN):=by
 refine F.ok eY (fun vs H Q E h=>?_) (fun cdv A outer s H vs Q E hr h=>?_)
 ·obtain ⟨x,w,p,ms,zs,qs,D,R,L,N,rfl,hc,hw,hp,hP,h1000,q⟩:=h
  rfl
 obtain ⟨x,w,p,ms,zs,qs,D,R,L,N,rfl,hc,hw,hp,hP,h1000,q⟩:=h
 have hu:_<cLine:=hr.units0
 have hu1:=jY hr
 refine ⟨_,(@jH _ _ _ _ _ (jQ (i:=3) eY.nd rfl (by first|exact Or.inl rfl|exact Or.inr rfl) (pv 1))
   (@jH _ _ _ _ _ (vJ PassesOwn.never rfl (qR (pv 2)) (j8 (i:=4) eY.nd rfl (by first|exact Or.inl rfl|exact Or.inr rfl))
    (@jH _ _ _ _ _ (jQ (i:=3) eY.nd rfl (by first|exact Or.inl rfl|exact Or.inr rfl) (jM D_poured_all hr rfl (jA (pv 3) (jA (kN (jA (pv 4) jB)) jB))))
   (@jJ _ _ _ (kH (vG (jM D_is_below_least hr rfl (@jA _ _ _ _ _ (pv 0) (@jA _ _ _ _ _ (pv 3) (@jA _ _ _ _ _ (jD ix_tup (pv 4) jC (fun _ _=>rfl)) jB (by rfl)) (by rfl)) (by rfl)))) (@jJ _ _ _ (@jN _ _ _ _ yT)) kJ))))
   (@jJ _ _ _ (@jN _ _ _ _ yT)))),?_⟩
 refine ⟨_,rfl,?_⟩
 refine ⟨_,rfl,p,rfl,⟨_,SqL.of hp⟩,QZ (K:=K) (a:=p) (xs:=zs) (fun i σ Hi=>∃(h:Addr) (c:Option V),σ=[some (.ref x),some (.ref w),some (.ref p),some (.ref h),c]∧Hi h=some (.tup ((j9 ms (qs.take i)).map V.int))∧vO R ms qs=vO R (j9 ms (qs.take i)) (qs.drop i)∧Same H Hi)
  ⟨w,none,rfl,hw,rfl,Same.refl _⟩ (fun i σ Hi _ ⟨_,_,_,_,_,s⟩=>SqL.of (s _ _ hp)) ?_ ?_⟩
 ·rintro i v σ Hi hv ⟨h,c,rfl,hh,he,sm⟩
  obtain ⟨a,s,t,m,rfl,hq,hT,hs,ht⟩:=hP.2 i v hv
  have el:(j9 ms (qs.take i)).length=ms.length:=y0 _ _
  refine ⟨_,rfl,_,rfl,zz1,fun lp hlp=>?_⟩
  have u:=jK hlp (.lst [V.ref a])
  refine ⟨h,lp,_,[.ref a],[(s,t,m)],rfl,.inr (SqT.of (u _ _ hh)),SqL.of jE,(PoursH.nil _ _ |>.snoc (u _ _ (sm _ _ hT)) (by rw [el];exact hs) (by rw [el];exact ht)).pa,by rw [el];exact h1000,fun r H' s' hr0 hr=>?_⟩
  have sm2:=(sm.trans u).trans s'
  have ep:j9 (j9 ms (qs.take i)) [(s,t,m)]=j9 ms (qs.take (i+1)):=by rw [dN ms qs i _ hq];rfl
  rw [ep] at hr
  have ed:qs.drop i=(s,t,m)::qs.drop (i+1):=(List.drop_eq_getElem_cons (List.getElem?_eq_some_iff.mp hq).1).trans (by rw [(List.getElem?_eq_some_iff.mp hq).2])
  have he2:vO R ms qs=(yC R (j9 ms (qs.take (i+1))) s||vO R (j9 ms (qs.take (i+1))) (qs.drop (i+1))):=by
   rw [he,ed]
   show (yC R (pour (j9 ms (qs.take i)) (s,t,m)) s||vO R (pour (j9 ms (qs.take i)) (s,t,m)) (qs.drop (i+1)))=_
   rw [dN ms qs i _ hq]
  have el2:(j9 ms (qs.take (i+1))).length=ms.length:=y0 _ _
  refine ⟨_,rfl,_,rfl,_,rfl,jL (SqT.of (sm2 _ _ hT)) rfl (⟨x,r,s,_,D,R,L,N,rfl,hc.same sm2,hr,by rw [el2];exact hs,_,rfl,?_⟩)⟩
  cases hb:yC R (j9 ms (qs.take (i+1))) s with
  |true =>
   refine kU ?_
   have:=q H' sm2
   rw [he2,hb] at this
   exact this
  |false =>
   refine qF ⟨r,_,rfl,hr,?_,sm2⟩
   rw [he2,hb]
   rfl
 rintro σ Hi ⟨h,c,rfl,hh,he,sm⟩
 rw [hP.1,List.drop_length] at he
 have:=q Hi sm
 rw [he] at this
 exact this
theorem iC:FnScope ["canal","ways","state","boat","place","target"] ["canal","ways","state","boat"] (jF bX):=⟨rfl,rfl,rfl,by decide +kernel,rfl,by decide +kernel,by decide +kernel⟩
theorem xZ {f:Addr} {fd:FuncData} (F:Fun K "why_no_pass" "why_no_pass" bX f fd) (T:Txt K mg cP cB cU cR cN tkS eW eL tkH) (D_reach_of:Def P w K mg base 3 "reach_of" ["canal","way","place"] [] (iO (jG cP cB cU) cR cN)) (D_has_no_berth:Def P w K mg base 5 "has_no_berth" ["canal","ways","state","reach"] [] (o0 (jG cP cB cU) cR cN)) (D_falls_short:Def P w K mg base 2 "falls_short" ["canal","waters","moved"] [] (pU (jG cP cB cU) cR cN)) (D_pass_pours:Def P w K mg base 6 "pass_pours" ["canal","ways","state","boat"] [] (lG (jG cP cB cU) cR cN)):FnOk P w K mg base jU 7 f fd ["canal","ways","state","boat"] (tD (jG cP cB cU) cR cN):=by
  refine F.ok iC (fun vs H Q E h=>?_) (fun cdv A outer s H vs Q E hr h=>?_)
  · obtain ⟨x,wl,st,b,us,ys,d,ms,pl,D,R,L,N,rfl,hG,hb,q⟩:=h
    rfl
  obtain ⟨x,wl,st,b,us,ys,d,ms,pl,D,R,L,N,rfl,hG,hb,q⟩:=h
  have hu:_<cLine:=hr.units0
  have hu1:=jY hr
  refine ⟨_,(@jH _ _ _ _ _ (jQ (i:=4) iC.nd rfl (by first|exact Or.inl rfl|exact Or.inr rfl) (jD ix_tup (jD ix_tup (pv 2) jC (fun _ _=>rfl)) (pv 3) (fun _ _=>rfl)))
      (@jH _ _ _ _ _ (kH (kD kQ (jM D_reach_of hr rfl (@jA _ _ _ _ _ (pv 0) (@jA _ _ _ _ _ (jD j5 (pv 1) (pv 3) (fun _ _=>rfl)) (@jA _ _ _ _ _ (pv 4) jB (by rfl)) (by rfl)) (by rfl))) (eC (v:=.int (-1)) rfl T.g_HOME ⟨_,rfl⟩) (j3 _)) (@jJ _ _ _ (@jN _ _ _ _ jO)) kJ)
      (@jH _ _ _ _ _ (jQ (i:=5) iC.nd rfl (by first|exact Or.inl rfl|exact Or.inr rfl) (jM D_reach_of hr rfl (@jA _ _ _ _ _ (pv 0) (@jA _ _ _ _ _ (jD j5 (pv 1) (pv 3) (fun _ _=>rfl)) (@jA _ _ _ _ _ (@jI _ _ _ _ _ _ _ _ jX (pv 4) jC) jB (by rfl)) (by rfl)) (by rfl))))
      (eB (kH (PW.pt (tJ (kD JM (pv 5) (eC (v:=.int (-1)) rfl T.g_HOME ⟨_,rfl⟩) (j3 _)) (sJ (vG (jM D_has_no_berth hr rfl (@jA _ _ _ _ _ (pv 0) (@jA _ _ _ _ _ (pv 1) (@jA _ _ _ _ _ (pv 2) (@jA _ _ _ _ _ (pv 5) jB (by rfl)) (by rfl)) (by rfl)) (by rfl))))))) (@jJ _ _ _ (@jN _ _ _ _ jO)) kJ)
      (@jH _ _ _ _ _ (kH (vG (jM D_falls_short hr rfl (@jA _ _ _ _ _ (pv 0) (@jA _ _ _ _ _ (jD ix_tup (pv 2) jC (fun _ _=>rfl)) (@jA _ _ _ _ _ (jM D_pass_pours hr rfl (@jA _ _ _ _ _ (pv 0) (@jA _ _ _ _ _ (pv 1) (@jA _ _ _ _ _ (pv 2) (@jA _ _ _ _ _ (pv 3) jB (by rfl)) (by rfl)) (by rfl)) (by rfl))) jB (by rfl)) (by rfl)) (by rfl)))) (@jJ _ _ _ (@jN _ _ _ _ jO)) kJ)
      (@jJ _ _ _ (@jN _ _ _ _ jO))))))),?_⟩
  obtain ⟨hc,hdr,hwl,hA,hst,hfl,hml⟩:=id hG
  obtain ⟨wt,pt,hst1,hwt,hpt⟩:=id hst
  have hc0:=hc
  obtain ⟨dx,rl,ll,nl,fs,rs,ls,nv,hx,hf,hrl,hll,hnl,hR,hL,hN,d1,d2,d3⟩:=hc
  have b1:=hdr.r8
  have b2:=hdr.l8
  obtain ⟨y,hy⟩:∃y,ys[b]?=some y:=⟨_,List.getElem?_eq_getElem hb⟩
  obtain ⟨p,hp⟩:∃p,pl[b]?=some p:=⟨_,List.getElem?_eq_getElem (by rw [hfl.len];exact hb)⟩
  obtain ⟨v,hvy,hwy⟩:=hA.get hy
  obtain ⟨t,st₂,vs₂,rfl,hw1,hw2,hw3⟩:=id hwy
  have hple:=hfl.le b y p hy hp
  have hyok:=hfl.ok y (List.mem_of_getElem? hy)
  have ey:ys.getD b (0,[])=y:=by rw [List.getD_eq_getElem?_getD,hy];rfl
  have ep:pl.getD b 0=p:=by rw [List.getD_eq_getElem?_getD,hp];rfl
  unfold Q9 at q
  rw [ey,ep] at q
  refine ⟨_,rfl,jL (SqT.of hst1) rfl (⟨_,rfl,jL (SqT.of hpt) (kE (v:=.int (p:Int)) (by rw [List.getElem?_map,hp];rfl)) (?_)⟩)⟩
  refine ⟨_,rfl,_,rfl,_,rfl,j4 (SqL.of hwl) (kE hvy) (⟨_,rfl,x,t,y,p,D,R,L,N,rfl,hc0,hwy,hyok,hple,fun H1 s1=>⟨rfl,_,rfl,?_⟩⟩)⟩
  by_cases h0:p=y.2.length
  · refine kM (by rw [h0,lJ]) ?_
    have:=q H1 s1
    rw [if_pos h0] at this
    exact this
  have hlt:p<y.2.length:=by omega
  have hpin:=fX hdr hyok hlt
  refine kF (fun e=>by have:=V.int.inj e;omega) ?_
  have q:∀H',Same H H'→Q (.str (if ¬kP L y (p+1) = -1∧JD R (kP L y (p+1))≤(((vB L ys pl).countP fun z=>decide (z=kP L y (p+1)):Nat):Int) then "berth" else if vO R ms (vQ R.length L ms (y.2.getD p (0,true)))=true then "water" else "")) H':=fun H' s'=>by
    have:=q H' s'
    rw [if_neg h0] at this
    exact this
  have s01:=s1
  refine ⟨_,rfl,_,rfl,_,rfl,j4 (SqL.of (s1 _ _ hwl)) (kE hvy) (⟨_,rfl,jP (⟨x,t,y,p+1,D,R,L,N,rfl,hc0.same s1,WyAt.same s1 _ _ hwy,hyok,by omega,fun H2 s2=>?_⟩)⟩)⟩
  have s02:=s1.trans s2
  refine ⟨fun σ' Ha=>σ'=[some (.ref x),some (.ref wl),some (.ref st),some (.int (b:Int)),some (.int (p:Int)),some (.int (kP L y (p+1)))]∧Same H Ha∧¬(¬kP L y (p+1) = -1∧JD R (kP L y (p+1))≤(((vB L ys pl).countP fun z=>decide (z=kP L y (p+1)):Nat):Int)),?_,?_⟩
  · refine ⟨_,rfl,rfl,_,rfl,?_⟩
    by_cases h1:kP L y (p+1) = -1
    · exact JN (congrArg V.int h1) (qF ⟨rfl,s02,fun z=>z.1 h1⟩)
    refine dC (fun e=>h1 (V.int.inj e)) ?_
    have hlt2:p+1<y.2.length:=by
      by_cases e:p+1=y.2.length
      · rw [e,lJ] at h1;exact absurd rfl h1
      · omega
    have hpin2:=fX hdr hyok hlt2
    obtain ⟨tn,htn⟩:∃tn:Nat,kP L y (p+1)=(tn:Int):=⟨(kP L y (p+1)).toNat,by omega⟩
    rw [htn] at h1 ⊢
    obtain ⟨r,hr⟩:∃r,R[tn]?=some r:=⟨_,List.getElem?_eq_getElem (by omega)⟩
    have eb:JD R (tn:Int)=r.berths:=by unfold JD;rw [show ((tn:Nat):Int).toNat=tn from rfl,hr]
    refine ⟨_,rfl,_,rfl,_,rfl,_,rfl,x,wl,st,tn,r,us,ys,d,ms,pl,D,R,L,N,rfl,hG.same s02,hr,fun H3 s3=>⟨_,rfl,?_⟩⟩
    have s03:=s02.trans s3
    by_cases h2:r.berths≤(((vB L ys pl).countP fun z=>decide (z=(tn:Int)):Nat):Int)
    · rw [decide_eq_true h2]
      refine kU ?_
      have:=q H3 s03
      rw [htn,eb,if_pos ⟨h1,h2⟩] at this
      exact this
    · rw [decide_eq_false h2]
      exact qF ⟨rfl,s03,fun z=>h2 (by rw [eb] at z;exact z.2)⟩
  rintro σ' H3 ⟨rfl,s03,hno⟩
  obtain ⟨s₁,hs⟩:∃s,y.2[p]?=some s:=⟨_,List.getElem?_eq_getElem hlt⟩
  have es:y.2.getD p (0,true)=s₁:=by rw [List.getD_eq_getElem?_getD,hs];rfl
  refine ⟨_,rfl,_,rfl,jL (SqT.of (s03 _ _ hst1)) rfl (⟨_,rfl,_,rfl,_,rfl,_,rfl,x,wl,st,b,us,ys,y,p,s₁,d,ms,pl,D,R,L,N,rfl,hG.same s03,hy,hp,hs,fun r H4 zs s4 hr0 hr hP=>?_⟩)⟩
  have s04:=s03.trans s4
  refine ⟨x,wt,r,ms,zs,_,D,R,L,N,rfl,hc0.same s04,s04 _ _ hwt,hr,hP,by omega,fun H5 s5=>⟨_,rfl,?_⟩⟩
  have:=q H5 (s04.trans s5)
  rw [if_neg hno,es] at this
  cases hsb:vO R ms (vQ R.length L ms s₁) with
  |true =>
    refine kU ?_
    rw [hsb,if_pos rfl] at this
    exact this
  |false =>
    refine qF ?_
    rw [hsb,if_neg (by decide)] at this
    exact this
theorem BI:FnScope ["canal","ways","state","deed"] ["canal","ways","state","deed"] (jF bY):=⟨rfl,rfl,rfl,by decide +kernel,rfl,by decide +kernel,by decide +kernel⟩
theorem x0 {f:Addr} {fd:FuncData} (F:Fun K "why_not" "why_not" bY f fd) (T:Txt K mg cP cB cU cR cN tkS eW eL tkH) (D_why_no_pass:Def P w K mg base 7 "why_no_pass" ["canal","ways","state","boat"] [] (tD (jG cP cB cU) cR cN)) (MM_Canal_full:MeD P w K mg base 2 cN "full" ["self","waters","k"] (fQ (jG cP cB cU) cR cN)):FnOk P w K mg base jU 8 f fd ["canal","ways","state","deed"] (tE (jG cP cB cU) cR cN):=by
 refine F.ok BI (fun vs H Q E h=>?_) (fun cdv A outer s H vs Q E hr h=>?_)
 ·obtain ⟨x,wl,st,dd,de,us,ys,d,ms,pl,D,R,L,N,rfl,hG,hdd,hin,q⟩:=h
  rfl
 obtain ⟨x,wl,st,dd,de,us,ys,d,ms,pl,D,R,L,N,rfl,hG,hdd,hin,q⟩:=h
 have hu:_<cLine:=hr.units0
 have hu1:=jY hr
 refine ⟨_,(@jH _ _ _ _ _ (kH (kD kQ (jD ix_tup (pv 3) jC (fun _ _=>rfl)) jO (j3 _)) (@jJ _ _ _ (@jN _ _ _ _ (jM D_why_no_pass hr rfl (@jA _ _ _ _ _ (pv 0) (@jA _ _ _ _ _ (pv 1) (@jA _ _ _ _ _ (pv 2) (@jA _ _ _ _ _ (jD ix_tup (pv 3) jC (fun _ _=>rfl)) jB (by rfl)) (by rfl)) (by rfl)) (by rfl))))) kJ)
   (@jH _ _ _ _ _ (kH (kD kQ (jD ix_tup (pv 3) jC (fun _ _=>rfl)) jO (j3 _)) (@jJ _ _ _ (@jN _ _ _ _ (JB (vG (ZB MM_Canal_full hr (pv 0) (jA (jD ix_tup (pv 2) jC (fun _ _=>rfl)) (jA (jD ix_tup (pv 3) jC (fun _ _=>rfl)) jB)))) jO jO))) kJ)
   (@jJ _ _ _ (@jN _ _ _ _ (JB (kD QA (jD ix_tup (pv 2) jC (fun _ _=>rfl)) (kB kI (by rfl) T.z_len PySem.boot_len (jA (jR (pv 0) rfl) jB)) (j3 _)) jO jO))))),?_⟩
 obtain ⟨hc,hdr,hwl,hA,hst,hfl,hml⟩:=id hG
 obtain ⟨wt,pt,hst1,hwt,hpt⟩:=id hst
 have hc0:=hc
 obtain ⟨dx,rl,ll,nl,fs,rs,ls,nv,hx,hf,hrl,hll,hnl,hR,hL,hN,d1,d2,d3⟩:=hc
 cases de with
 |pass b =>
  refine ⟨_,rfl,jL (SqT.of hdd) rfl (⟨rfl,_,rfl,kM rfl ?_⟩)⟩
  exact ⟨_,rfl,_,rfl,_,rfl,_,rfl,jL (SqT.of hdd) rfl (⟨x,wl,st,b,us,ys,d,ms,pl,D,R,L,N,rfl,hG,hin,q⟩)⟩
 |«let» k =>
  have hk:k<L.length:=hin
  refine ⟨_,rfl,jL (SqT.of hdd) rfl (⟨rfl,_,rfl,kF (fun e=>absurd (V.str.inj e) (by decide +kernel)) ?_⟩)⟩
  refine ⟨_,rfl,jL (SqT.of hdd) rfl (⟨rfl,_,rfl,kM rfl ?_⟩)⟩
  refine ⟨_,rfl,x,dx,_,rfl,hx,hf.no (by decide +kernel) (by decide +kernel) (by decide +kernel),_,rfl,jL (SqT.of hst1) rfl (⟨_,rfl,jL (SqT.of hdd) rfl (⟨x,wt,D,R,L,N,ms,k,rfl,hc0,hwt,by omega,_,rfl,?_⟩)⟩)⟩
  have:=q H (Same.refl _)
  change Q (.str (if v5 R.length ms k=true then "" else "empty")) H at this
  unfold v5 at this
  by_cases h:0<ms.getD (R.length+k) 0
  ·rw [if_pos (decide_eq_true h)] at this
   exact kM h this
  ·rw [if_neg (by rw [decide_eq_true_eq];exact h)] at this
   exact kF h this
 |night =>
  refine ⟨_,rfl,jL (SqT.of hdd) rfl (⟨rfl,_,rfl,kF (fun e=>absurd (V.str.inj e) (by decide +kernel)) ?_⟩)⟩
  refine ⟨_,rfl,jL (SqT.of hdd) rfl (⟨rfl,_,rfl,kF (fun e=>absurd (V.str.inj e) (by decide +kernel)) ?_⟩)⟩
  refine ⟨_,rfl,jL (SqT.of hst1) rfl (⟨_,rfl,jT hx (T.clN) (T.nN_nights) (hf.2.2.1) (⟨nl,_,rfl,.inl (SqL.of hnl),_,_,rfl,rfl,_,rfl,?_⟩)⟩)⟩
  rw [hN.1]
  have:=q H (Same.refl _)
  change Q (.str (if d<(N.length:Int) then "" else "over")) H at this
  by_cases h:d<(N.length:Int)
  ·rw [if_pos h] at this
   exact kM h this
  ·rw [if_neg h] at this
   exact kF h this
theorem e6:FnScope ["canal","ways","state","deed","word","passes","moved"] ["canal","ways","state","deed"] (jF bS):=⟨rfl,rfl,rfl,by decide +kernel,rfl,by decide +kernel,by decide +kernel⟩
theorem xT {f:Addr} {fd:FuncData} (F:Fun K "pours" "pours" bS f fd) (T:Txt K mg cP cB cU cR cN tkS eW eL tkH) (D_why_not:Def P w K mg base 8 "why_not" ["canal","ways","state","deed"] [] (tE (jG cP cB cU) cR cN)) (D_night_pours:Def P w K mg base 5 "night_pours" ["canal","state","weather"] [] (pX K (jG cP cB cU) cR cN)) (D_pass_pours:Def P w K mg base 6 "pass_pours" ["canal","ways","state","boat"] [] (lG (jG cP cB cU) cR cN)) (D_let_pours:Def P w K mg base 4 "let_pours" ["canal","state","k"] [] (rX (jG cP cB cU) cR cN)) (D_with_spills:Def P w K mg base 4 "with_spills" ["weirs","waters","pours"] [] (lD K)) (MM_Canal_weirs:MeD P w K mg base 2 cN "weirs" ["self"] (fL (jG cP cB cU) cR cN)):FnOk P w K mg base (vY P w) 9 f fd ["canal","ways","state","deed"] (iZ (jG cP cB cU) cR cN eW):=by
 refine F.okX e6 (fun vs H Q E h=>?_) (fun cdv A outer s H vs Q E hr h=>?_)
 ·obtain ⟨x,wl,st,dd,de,us,ys,d,ms,pl,D,R,L,N,rfl,hG,hdd,hin,hd0,qv,qe⟩:=h
  rfl
 obtain ⟨x,wl,st,dd,de,us,ys,d,ms,pl,D,R,L,N,rfl,hG,hdd,hin,hd0,qv,qe⟩:=h
 have hu:_<cLine:=hr.units0
 have hu1:=jY hr
 refine ⟨_,(@jH _ _ _ _ _ (jQ (i:=4) e6.nd rfl (by first|exact Or.inl rfl|exact Or.inr rfl) (jM D_why_not hr rfl (@jA _ _ _ _ _ (pv 0) (@jA _ _ _ _ _ (pv 1) (@jA _ _ _ _ _ (pv 2) (@jA _ _ _ _ _ (pv 3) jB (by rfl)) (by rfl)) (by rfl)) (by rfl))))
   (@jH _ _ _ _ _ (kH (kD JM (pv 4) jO (j3 _)) (@jJ _ _ _ (p9 oR rfl rfl T.c_NotNow T.x_NotNow (jA (pv 4) jB))) kJ)
   (@jH _ _ _ _ _ (kH (kD kQ (jD ix_tup (pv 3) jC (fun _ _=>rfl)) jO (j3 _)) (@jJ _ _ _ (@jN _ _ _ _ (jM D_night_pours hr rfl (@jA _ _ _ _ _ (pv 0) (@jA _ _ _ _ _ (pv 2) (@jA _ _ _ _ _ (jD j5 (jR (pv 0) rfl) (jD ix_tup (pv 2) jC (fun _ _=>rfl)) (fun _ _=>rfl)) jB (by rfl)) (by rfl)) (by rfl))))) kJ)
   (@jH _ _ _ _ _ (jQ (i:=5) e6.nd rfl (by first|exact Or.inl rfl|exact Or.inr rfl) (v9 kQ (jD ix_tup (pv 3) jC (fun _ _=>rfl)) jO (j3 _)))
   (@jH _ _ _ _ _ (jQ (i:=6) e6.nd rfl (by first|exact Or.inl rfl|exact Or.inr rfl) (JB (vG (pv 5)) (jM D_pass_pours hr rfl (@jA _ _ _ _ _ (pv 0) (@jA _ _ _ _ _ (pv 1) (@jA _ _ _ _ _ (pv 2) (@jA _ _ _ _ _ (jD ix_tup (pv 3) jC (fun _ _=>rfl)) jB (by rfl)) (by rfl)) (by rfl)) (by rfl))) (jM D_let_pours hr rfl (@jA _ _ _ _ _ (pv 0) (@jA _ _ _ _ _ (pv 2) (@jA _ _ _ _ _ (jD ix_tup (pv 3) jC (fun _ _=>rfl)) jB (by rfl)) (by rfl)) (by rfl)))))
   (@jJ _ _ _ (@jN _ _ _ _ (jM D_with_spills hr rfl (@jA _ _ _ _ _ (eM MM_Canal_weirs hr (pv 0)) (@jA _ _ _ _ _ (jD ix_tup (pv 2) jC (fun _ _=>rfl)) (@jA _ _ _ _ _ (pv 6) jB (by rfl)) (by rfl)) (by rfl)))))))))),?_⟩
 obtain ⟨hc,hdr,hwl,hA,hst,hfl,hml⟩:=id hG
 obtain ⟨wt,pt,hst1,hwt,hpt⟩:=id hst
 have hc0:=hc
 obtain ⟨dx,rl,ll,nl,fs,rs,ls,nv,hx,hf,hrl,hll,hnl,hR,hL,hN,d1,d2,d3⟩:=hc
 have b1:=hdr.r8
 have b2:=hdr.l8
 have hTg:=fA hdr
 refine ⟨_,rfl,_,rfl,_,rfl,_,rfl,x,wl,st,dd,de,us,ys,d,ms,pl,D,R,L,N,rfl,hG,hdd,hin,fun H1 s1=>?_⟩
 refine ⟨_,rfl,rfl,_,rfl,?_⟩
 by_cases hw:yK R L N.length ys d ms pl de=""
 rotate_left
 ·exact dC (fun e=>hw (V.str.inj e)) ⟨_,rfl,by show 1≤sizeLine;decide,qe hw _ s1⟩
 refine JN (congrArg V.str hw) ?_
 have qv:=qv hw
 have hdd1:=s1 _ _ hdd
 have hst11:=s1 _ _ hst1
 cases de with
 |night =>
  have hdN:d<(N.length:Int):=by
   change (if d<(N.length:Int) then ("":Str) else "over")="" at hw
   by_cases h:d<(N.length:Int)
   ·exact h
   ·rw [if_neg h] at hw;exact absurd hw (by decide +kernel)
  obtain ⟨dn,hdn⟩:∃dn:Nat,d=(dn:Int):=⟨d.toNat,by omega⟩
  subst hdn
  obtain ⟨W,hWn⟩:∃W,N[dn]?=some W:=⟨_,List.getElem?_eq_getElem (by omega)⟩
  obtain ⟨v,hv,wn,qs,rfl,hwn,hqs,_⟩:=hN.get hWn
  have eW:N.getD (dn:Int).toNat []=W:=by rw [Int.toNat_natCast,List.getD_eq_getElem?_getD,hWn];rfl
  refine ⟨_,rfl,jL (SqT.of hdd1) rfl (⟨rfl,_,rfl,kM rfl ?_⟩)⟩
  refine ⟨_,rfl,_,rfl,_,rfl,jT ((s1 _ _ hx)) (T.clN) (T.nN_nights) (hf.2.2.1) (⟨_,rfl,jL (SqT.of hst11) rfl (j4 (SqL.of (s1 _ _ hnl)) (kE hv) (⟨x,st,wn,_,ms,_,qs,W,D,R,L,N,rfl,hc0.same s1,hst.toI.same s1,s1 _ _ hwn,hqs.mono (QAt.same s1),hdr.night W (List.mem_of_getElem? hWn),hml,by omega,by omega,hTg,fun r H2 gs zs s2 hr0 hr hP hS=>?_⟩))⟩)⟩
  refine qv r H2 gs zs (s1.trans s2) (s1.free hr0) hr ?_ ?_
  ·show PoursH H2 zs ((vK (R.length+2*L.length+1) ms (N.getD (dn:Int).toNat []) R.length).filter kO++_) _
   rw [eW]
   exact hP
  ·show Spl _ (j9 ms ((vK (R.length+2*L.length+1) ms (N.getD (dn:Int).toNat []) R.length).filter kO)) gs
   rw [eW]
   exact hS
 |pass b =>
  have hb:b<ys.length:=hin
  obtain ⟨y,hy⟩:∃y,ys[b]?=some y:=⟨_,List.getElem?_eq_getElem hb⟩
  obtain ⟨p,hp⟩:∃p,pl[b]?=some p:=⟨_,List.getElem?_eq_getElem (by rw [hfl.len];exact hb)⟩
  have hple:=hfl.le b y p hy hp
  have ey:ys.getD b (0,[])=y:=by rw [List.getD_eq_getElem?_getD,hy];rfl
  have ep:pl.getD b 0=p:=by rw [List.getD_eq_getElem?_getD,hp];rfl
  have hne:=pN hw
  rw [ey,ep] at hne
  obtain ⟨s₁,hs⟩:∃s,y.2[p]?=some s:=⟨_,List.getElem?_eq_getElem (by omega)⟩
  have es:y.2.getD p (0,true)=s₁:=by rw [List.getD_eq_getElem?_getD,hs];rfl
  refine ⟨_,rfl,jL (SqT.of hdd1) rfl (⟨rfl,_,rfl,kF (fun e=>absurd (V.str.inj e) (by decide +kernel)) ?_⟩)⟩
  refine ⟨_,rfl,jL (SqT.of hdd1) rfl (⟨rfl,?_⟩)⟩
  rw [decide_eq_true rfl]
  refine ⟨_,rfl,_,rfl,kU ?_⟩
  refine ⟨_,rfl,_,rfl,_,rfl,_,rfl,jL (SqT.of hdd1) rfl (⟨x,wl,st,b,us,ys,y,p,s₁,d,ms,pl,D,R,L,N,rfl,hG.same s1,hy,hp,hs,fun m H2 zs s2 hm0 hm hP=>?_⟩)⟩
  have s12:=s1.trans s2
  refine ⟨_,rfl,x,dx,_,rfl,(s12 _ _ hx),hf.no (by decide +kernel) (by decide +kernel) (by decide +kernel),x,D,R,L,N,rfl,hc0.same s12,by omega,fun wq ws H3 s3 hwq0 hwq hW=>?_⟩
  have s13:=s12.trans s3
  have hl:=hP.1
  refine ⟨_,rfl,jL (SqT.of (s13 _ _ hst1)) rfl (⟨_,rfl,wq,wt,m,ws,zs,j7 R L.length,ms,_,rfl,iG hTg hW hwq (.inr (SqT.of (s13 _ _ hwt))) hml (by omega) (by omega),s3 _ _ hm,hP.same s3,?_,fun r H4 gs zs4 s4 hr0 hr hP4 hS=>?_⟩)⟩
  ·rw [hl]
   exact Nat.le_trans (iS _ _ _ _) (by decide)
  have e:zC R L N ys d ms pl (.pass b)=vQ R.length L ms s₁:=by show vQ R.length L ms _=_;rw [ey,ep,es]
  refine qv r H4 gs zs4 (s13.trans s4) (s13.free hr0) hr ?_ ?_
  ·unfold vU;rw [e];exact hP4
  ·rw [e];exact hS
 |«let» k =>
  have hk:k<L.length:=hin
  refine ⟨_,rfl,jL (SqT.of hdd1) rfl (⟨rfl,_,rfl,kF (fun e=>absurd (V.str.inj e) (by decide +kernel)) ?_⟩)⟩
  refine ⟨_,rfl,jL (SqT.of hdd1) rfl (⟨rfl,?_⟩)⟩
  rw [decide_eq_false (fun e=>absurd (V.str.inj e) (show ¬("let":Str)="pass" by decide +kernel))]
  refine ⟨_,rfl,_,rfl,qF ?_⟩
  refine ⟨_,rfl,_,rfl,_,rfl,jL (SqT.of hdd1) rfl (⟨x,wl,st,k,us,ys,d,ms,pl,D,R,L,N,rfl,hG.same s1,hk,fun m H2 zs s2 hm0 hm hP=>?_⟩)⟩
  have s12:=s1.trans s2
  refine ⟨_,rfl,x,dx,_,rfl,(s12 _ _ hx),hf.no (by decide +kernel) (by decide +kernel) (by decide +kernel),x,D,R,L,N,rfl,hc0.same s12,by omega,fun wq ws H3 s3 hwq0 hwq hW=>?_⟩
  have s13:=s12.trans s3
  have hl:=hP.1
  refine ⟨_,rfl,jL (SqT.of (s13 _ _ hst1)) rfl (⟨_,rfl,wq,wt,m,ws,zs,j7 R L.length,ms,_,rfl,iG hTg hW hwq (.inr (SqT.of (s13 _ _ hwt))) hml (by omega) (by omega),s3 _ _ hm,hP.same s3,?_,fun r H4 gs zs4 s4 hr0 hr hP4 hS=>?_⟩)⟩
  ·rw [hl]
   exact Nat.le_trans (i3 _ _ _ _) (by decide)
  exact qv r H4 gs zs4 (s13.trans s4) (s13.free hr0) hr hP4 hS
theorem A0:FnScope ["canal","ways","state","deed"] ["canal","ways","state","deed"] (jF bF):=⟨rfl,rfl,rfl,by decide +kernel,rfl,by decide +kernel,by decide +kernel⟩
theorem w5 {f:Addr} {fd:FuncData} (F:Fun K "after" "after" bF f fd) (T:Txt K mg cP cB cU cR cN tkS eW eL tkH) (D_counted_on:Def P w K mg base 2 "counted_on" ["state","deed","waters"] [] (o4)) (D_poured_all:Def P w K mg base 1 "poured_all" ["waters","pours"] [] (gD K)) (DX_pours:DefX P w K mg base 9 "pours" ["canal","ways","state","deed"] [] (iZ (jG cP cB cU) cR cN eW)):FnOk P w K mg base (vY P w) 10 f fd ["canal","ways","state","deed"] (p8 (jG cP cB cU) cR cN eW):=by
 refine F.okX A0 (fun vs H Q E h=>?_) (fun cdv A outer s H vs Q E hr h=>?_)
 ·obtain ⟨x,wl,st,dd,de,us,ys,d,ms,pl,D,R,L,N,rfl,hG,hdd,hin,hd0,qv,qe⟩:=h
  rfl
 obtain ⟨x,wl,st,dd,de,us,ys,d,ms,pl,D,R,L,N,rfl,hG,hdd,hin,hd0,qv,qe⟩:=h
 have hu:_<cLine:=hr.units0
 have hu1:=jY hr
 refine ⟨_,(@jJ _ _ _ (@jN _ _ _ _ (jM D_counted_on hr rfl (@jA _ _ _ _ _ (pv 2) (@jA _ _ _ _ _ (pv 3) (@jA _ _ _ _ _ (jM D_poured_all hr rfl (jA (jD ix_tup (pv 2) jC (fun _ _=>rfl)) (jA (E3 DX_pours EI hr rfl (@jA _ _ _ _ _ (pv 0) (@jA _ _ _ _ _ (pv 1) (@jA _ _ _ _ _ (pv 2) (@jA _ _ _ _ _ (pv 3) jB (by rfl)) (by rfl)) (by rfl)) (by rfl))) jB))) jB (by rfl)) (by rfl)) (by rfl))))),?_⟩
 obtain ⟨hc,hdr,hwl,hA,hst,hfl,hml⟩:=id hG
 obtain ⟨wt,pt,hst1,hwt,hpt⟩:=id hst
 have b1:=hdr.r8
 have b2:=hdr.l8
 have h10:=hfl.n10
 have hln:=hfl.len
 refine ⟨_,rfl,_,rfl,_,rfl,jL (SqT.of hst1) rfl (⟨_,rfl,_,rfl,_,rfl,_,rfl,x,wl,st,dd,de,us,ys,d,ms,pl,D,R,L,N,rfl,hG,hdd,hin,hd0,fun hw r H1 gs zs s1 hr0 hr hP hS=>?_,fun hw H1 s1=>qe hw _ s1⟩)⟩
 have qv:=qv hw
 refine ⟨wt,r,ms,zs,_,rfl,.inr (SqT.of (s1 _ _ hwt)),SqL.of hr,hP.pa,by omega,fun wo H2 s2 hwo0 hwo=>?_⟩
 have s12:=s1.trans s2
 exact ⟨st,dd,wo,de,d,ms,_,pl,rfl,hst.same s12,s12 _ _ hdd,hwo,by omega,fun r3 H3 s3 hr30 h3=>qv r3 H3 gs (s12.trans s3) (s12.free hr30) h3 hS⟩
theorem AX:FnScope ["found"] ["found"] (jF bC):=⟨rfl,rfl,rfl,by decide +kernel,rfl,by decide +kernel,by decide +kernel⟩
theorem wX {f:Addr} {fd:FuncData} (F:Fun K "_law_whole" "_law_whole" bC f fd) (T:Txt K mg cP cB cU cR cN tkS eW eL tkH) : FnOk P w K mg base jU 1 f fd ["found"] (lE):=by
 refine F.ok AX (fun vs H Q E h=>?_) (fun cdv A outer s H vs Q E hr h=>?_)
 ·obtain ⟨i,rfl,q⟩:=h
  rfl
 obtain ⟨i,rfl,q⟩:=h
 have hu:_<cLine:=hr.units0
 have hu1:=jY hr
 refine ⟨_,(@jJ _ _ _ (@jN _ _ _ _ (lX (kB Q0 (by rfl) T.z_isinstance PyProof.Rows.boot_isinstance (jA (pv 0) (jA (Q2 (v:=.ty "int") rfl T.z_int PyProof.Rows.boot_int rfl) jB))) (lW (FT (kB Q0 (by rfl) T.z_isinstance PyProof.Rows.boot_isinstance (jA (pv 0) (jA (Q2 (v:=.ty "bool") rfl T.z_bool PyProof.Rows.boot_bool rfl) jB)))))))),?_⟩
 refine ⟨_,rfl,_,_,_,_,_,rfl,rfl,TyOf.int i,cK "int",true,rfl,kU ?_⟩
 exact ⟨_,rfl,_,_,_,_,_,rfl,rfl,TyOf.int i,BQ,false,rfl,q⟩
def DdAt (H:Hp) (v:V) (de:Deed):Prop:=∃t,v=.ref t∧H t=some (.tup (yU de))
theorem DdAt.same {H H':Hp} (e:Same H H') (v:V) (de:Deed):DdAt H v de→DdAt H' v de:=fun ⟨t,h1,h2⟩=>⟨t,h1,e _ _ h2⟩
theorem DdAt.put {H:Hp} {d:Addr} {ys:List V} {o:HO} (hd:H d=some (.lst ys)) (v:V) (de:Deed):DdAt H v de→DdAt (upd H d o) v de:=fun ⟨t,h1,h2⟩=>⟨t,h1,by rw [kC (fun z=>by rw [z,hd] at h2;cases h2)];exact h2⟩
def passes (n:Nat):List Deed:=(List.range n).map Deed.pass
def dE (n:Nat):List Deed:=(List.range n).map Deed.let
def lB (nb nl:Nat):List Deed:=passes nb++dE nl++[.night]
theorem B0 {nb nl:Nat} {de:Deed} (h:de∈lB nb nl):zP nb nl de:=by
 rcases List.mem_append.mp h with h|h
 ·rcases List.mem_append.mp h with h|h
  ·obtain ⟨i,hi,rfl⟩:=List.mem_map.mp h;exact List.mem_range.mp hi
  ·obtain ⟨i,hi,rfl⟩:=List.mem_map.mp h;exact List.mem_range.mp hi
 ·rw [List.mem_singleton.mp h];trivial
theorem AllAt.app {α:Type} {P:V→α→Prop} {vs us:List V} {xs ys:List α} (h:AllAt P vs xs) (h':AllAt P us ys):AllAt P (vs++us) (xs++ys):=by
 refine ⟨by rw [List.length_append,List.length_append,h.1,h'.1],fun i v hi=>?_⟩
 by_cases hl:i<vs.length
 ·rw [List.getElem?_append_left hl] at hi
  obtain ⟨x,h1,h2⟩:=h.2 i v hi
  exact ⟨x,by rw [List.getElem?_append_left (by rw [← h.1];exact hl)];exact h1,h2⟩
 ·rw [List.getElem?_append_right (by omega)] at hi
  obtain ⟨x,h1,h2⟩:=h'.2 _ v hi
  exact ⟨x,by rw [List.getElem?_append_right (by rw [← h.1];omega),← h.1];exact h1,h2⟩
def p6 (cs:Kd→Addr) (cR cN:Addr):Sp:=fun vs H Q _=>∃(x wl:Addr) (us:List V) (D:List Addr) (R:List RC) (L:List LC) (N:List (List (Int×Int))),vs=[.ref x,.ref wl]∧CnAt cs cR cN D H x R L N∧H wl=some (.lst us)∧us.length≤100∧L.length≤100∧∀(r:Addr) (zs:List V) (H':Hp),Same H H'→H r=none→H' r=some (.lst zs)→AllAt (DdAt H') zs (lB us.length L.length)→Q (.ref r) H'
def rY (cs:Kd→Addr) (cR cN:Addr):Sp:=fun vs H Q _=>∃(x wl st:Addr) (b:Nat) (us:List V) (ys:List kG) (d:Int) (ms:List Int) (pl:List Nat) (D:List Addr) (R:List RC) (L:List LC) (N:List (List (Int×Int))),vs=[.ref x,.ref wl,.ref st,.int (b:Int)]∧Stage cs cR cN D H x wl st us R L N ys d ms pl∧StOk R L ms∧b<ys.length∧∀H',Same H H'→Q (.str (Q9 R L ys ms pl b)) H'
def rZ (cs:Kd→Addr) (cR cN:Addr):Sp:=fun vs H Q _=>∃(x wl st dd:Addr) (de:Deed) (us:List V) (ys:List kG) (d:Int) (ms:List Int) (pl:List Nat) (D:List Addr) (R:List RC) (L:List LC) (N:List (List (Int×Int))),vs=[.ref x,.ref wl,.ref st,.ref dd]∧Stage cs cR cN D H x wl st us R L N ys d ms pl∧StOk R L ms∧H dd=some (.tup (yU de))∧zP ys.length L.length de∧∀H',Same H H'→Q (.str (yK R L N.length ys d ms pl de)) H'
theorem StOk.bas {R:List RC} {L:List LC} {ms:List Int} (h:StOk R L ms) {k:Nat} {l:LC} (hl:L[k]?=some l):t4 l (ms.getD (R.length+L.length+k) 0):=by
 have hk:=(List.getElem?_eq_some_iff.mp hl).1
 have hm:=h.len
 have e:=List.getElem?_eq_getElem (l:=ms) (i:=R.length+L.length+k) (by omega)
 rw [List.getD_eq_getElem?_getD,e]
 exact (h.to _ _ e).2.2.1 k l rfl hl
theorem o7 {R:List RC} {L:List LC} {N:List (List (Int×Int))} {ms:List Int} (d:Drawn R L N) (h:StOk R L ms) {s:Nat×Bool} {l:LC} (hl:L[s.1]?=some l):fY R.length L.length s.1 l (ms.getD (R.length+L.length+s.1) 0) (lP (v5 R.length ms s.1) s.2)=vQ R.length L ms s:=by
 rw [C8 (d.lock _ _ hl) (List.getElem?_eq_some_iff.mp hl).1 (h.bas hl)]
 unfold vQ
 rw [hl]
theorem DN {R:List RC} {L:List LC} {N:List (List (Int×Int))} (d:Drawn R L N) {y:kG} (ok:WyOk L y) {p:Nat} (hp:p<y.2.length):¬kP L y (p+1) = -1↔p+1<y.2.length:=by
 constructor
 ·intro h
  by_cases e:p+1=y.2.length
  ·rw [e,lJ] at h;exact absurd rfl h
  ·omega
 ·intro h e
  have:=fX d ok h
  omega
theorem nY (j:Nat):∀a b:List (Nat×Nat×Int),qT (a++b) j=qT a j+qT b j
 |[],b=>by show qT b j=0+qT b j;omega
 |q::r,b=>by
  show _+qT (r++b) j=_+qT r j+qT b j
  rw [nY j r b]
  omega
theorem oK:∀R k:Nat,(vF R).drop k=vF (R - k)
 |0,k=>by
  rw [Nat.zero_sub]
  show ([]:List Nat).drop k=[]
  exact List.drop_nil
 |R+1,0=>rfl
 |R+1,k+1=>by
  rw [oJ]
  show (vF R).drop k=_
  rw [oK R k]
  congr 1
  omega
theorem nW {t:Nat→Nat} {g:Nat→Int} {j:Nat}:∀{n:Nat},(∀a,a<n→t a≠j)→qS t g j n=0
 |0,_=>rfl
 |n+1,h=>by
  show qS t g j n+(if t n=j then g n else 0)=0
  rw [nW fun a ha=>h a (by omega),if_neg (h n (by omega))]
  rfl
theorem B7 {t:Nat→Nat} {g:Nat→Int} {R k:Nat} (hA:J6 R t) (hk:k<R):qT ((kR t g R).take k) (R - 1 - k)=qS t g (R - 1 - k) R:=by
 have e:qT (kR t g R) (R - 1 - k)=qT ((kR t g R).take k) (R - 1 - k)+qT ((kR t g R).drop k) (R - 1 - k):=by rw [← nY,List.take_append_drop]
 have d:(kR t g R).drop k=kR t g (R - k):=by unfold kR;rw [← List.map_drop,oK]
 have z:qS t g (R - 1 - k) (R - k)=0:=nW fun a ha=>by have:=hA a (by omega);omega
 rw [iN,d,iN,z,if_pos (by omega),if_pos (by omega)] at e
 omega
theorem EU {ws:List (Int×Nat)} {ms gs:List Int} {k:Nat} (hA:J6 ws.length (kA ws)) (hR:ws.length≤ms.length) (ht:∀a,a<ws.length→kA ws a<ms.length) (h:Spl ws ms gs) (hk:k<ws.length) :
  zR (zA ws (ws.length - 1 - k)) ((j9 ms ((kR (kA ws) (fun a=>gs.getD a 0) ws.length).take k)).getD (ws.length - 1 - k) 0)=gs.getD (ws.length - 1 - k) 0:=by
 rw [e9 _ _ _ (fun q hq=>iM hR ht q (List.mem_of_mem_take hq)),B7 hA hk]
 exact (h.2 _ (by omega)).symm
theorem B6 {ws:List (Int×Nat)} {ms:List Int} (hA:J6 ws.length (kA ws)) (hR:ws.length≤ms.length) (ht:∀a,a<ws.length→kA ws a<ms.length):∃gs,Spl ws ms gs:=by
 have:∀k,k≤ws.length→∃hs gs,SplInv ws ms hs gs k:=by
  intro k
  induction k with
  |zero=>intro _;exact ⟨_,_,SplInv.start ws ms⟩
  |succ k ih =>
   intro hk
   obtain ⟨hs,gs,h⟩:=ih (by omega)
   exact ⟨_,_,h.step hA hR (by omega) (ht _ (by omega))⟩
 obtain ⟨hs,gs,h⟩:=this ws.length (Nat.le_refl _)
 exact ⟨gs,h.spl⟩
theorem n3 {R:List RC} {m i:Nat} {r:RC} (h:R[i]?=some r):kA (j7 R m) i=if r.target = -1 then R.length+2*m else r.target.toNat:=by
 unfold kA j7
 rw [List.getD_eq_getElem?_getD,List.getElem?_map,h]
 rfl
theorem BO {R:List RC} {m i:Nat} {r:RC} (h:R[i]?=some r):zA (j7 R m) i=r.crest:=by
 unfold zA j7
 rw [List.getD_eq_getElem?_getD,List.getElem?_map,h]
 rfl
theorem oV {R:List RC} {m:Nat} (hT:dD R):∀a,a<(j7 R m).length→kA (j7 R m) a<R.length+2*m+2:=fun a ha=>by
 rw [JS] at ha
 have hr:=List.getElem?_eq_getElem ha
 rw [n3 hr]
 have:=hT a _ hr
 split<;>omega
def pZ:Sp:=fun vs H Q _=>∃(a b:Addr) (ys zs:List V) (qs:List (Nat×Nat×Int)) (n:Nat),vs=[.ref a,.ref b]∧H a=some (.lst ys)∧H b=some (.lst zs)∧PoursH H ys qs n∧PoursH H zs qs n∧qs.length≤500∧Q (.bl true) H
def mX (N:List (List (Int×Int))):Prop:=∀p∈N,∀q∈p,0≤q.1∧0≤q.2
theorem EE {R:List RC} {L:List LC} {N:List (List (Int×Int))} {ms:List Int} (d:Drawn R L N) (h:StOk R L ms) {k:Nat} {l:LC} (hl:L[k]?=some l):fY R.length L.length k l (ms.getD (R.length+L.length+k) 0) [false]=JO R.length L ms k:=by
 have hb:=h.bas hl
 show (([]++vV R.length L.length k l (qL (R.length+L.length+k) (ms.getD (R.length+L.length+k) 0) [])).filter vW)=_
 rw [List.nil_append,dY,iR (lL (d.lock _ _ hl) hb.1 hb.2.1)]
 unfold JO
 rw [hl]
theorem CC {R:List RC} {L:List LC} {ms:List Int} {W:List (Int×Int)} {k:Nat} (h:StOk R L ms) (hW:W.length=R.length) (hn:∀q∈W,0≤q.1∧0≤q.2):∀q∈vK k ms W R.length,0≤q.2.2:=fun q hq=>by
 have hl:=h.len
 rcases List.mem_append.mp hq with h'|h'
 ·obtain ⟨i,hi,rfl⟩:=List.mem_map.mp h'
  have hi:=List.mem_range.mp hi
  obtain ⟨y,hy⟩:∃y,W[i]?=some y:=⟨_,List.getElem?_eq_getElem (by omega)⟩
  have hy2:=hn y (List.mem_of_getElem? hy)
  have e:=List.getElem?_eq_getElem (l:=ms) (i:=i) (by omega)
  have hm:0≤ms.getD i 0:=by rw [List.getD_eq_getElem?_getD,e];exact (h.to i _ e).1 hi
  show 0≤QC ms W i
  rw [fO hy]
  split<;>omega
 ·obtain ⟨i,hi,rfl⟩:=List.mem_map.mp h'
  have hi:=List.mem_range.mp hi
  obtain ⟨y,hy⟩:∃y,W[i]?=some y:=⟨_,List.getElem?_eq_getElem (by omega)⟩
  have:=hn y (List.mem_of_getElem? hy)
  show 0≤(W.getD i (0,0)).1
  rw [gO hy]
  omega
theorem C3 {ms:List Int} {s t:Nat} (h1:s<ms.length) (h2:t<ms.length):pour ms (s,t,0)=ms:=by
 refine lA (dP _ _) fun j _=>?_
 rw [o6 ms (s,t,0) j h1 h2]
 show ms.getD j 0+((if t=j then 0 else 0) - (if s=j then 0 else 0))=ms.getD j 0
 split<;>split<;>omega
theorem rL {R:List RC} {L:List LC} {N:List (List (Int×Int))} {ys:List kG} {d:Int} {ms:List Int} {pl:List Nat} (hd:Drawn R L N) (hm:ms.length=R.length+2*L.length+2):∀de,∀q∈zC R L N ys d ms pl de,q.1<ms.length∧q.2.1<ms.length:=by
 have key:∀(k:Nat) (l:LC) (ps:List (Str×Str×Int)),L[k]?=some l→(∀q∈ps,okW q.1∧okW q.2.1)→∀q∈ps.map (yV R.length L.length k l),q.1<ms.length∧q.2.1<ms.length:=fun k l ps hl ho q hq=>by
  obtain ⟨p,hp,rfl⟩:=List.mem_map.mp hq
  rw [hm]
  exact ⟨fV (ho p hp).1 (hd.lock _ _ hl) (List.getElem?_eq_some_iff.mp hl).1,fV (ho p hp).2 (hd.lock _ _ hl) (List.getElem?_eq_some_iff.mp hl).1⟩
 intro de q hq
 cases de with
 |pass b =>
  change q∈vQ R.length L ms _ at hq
  unfold vQ at hq
  split at hq
  ·rename_i l hl;exact key _ l _ hl (rA _ _ _ _ _ _) q hq
  ·cases hq
 |«let» k =>
  change q∈JO R.length L ms k at hq
  unfold JO at hq
  split at hq
  ·rename_i l hl;exact key _ l _ hl (eE _ _ _ _) q hq
  ·cases hq
 |night=>exact C6 (by omega) (by omega) q (List.mem_filter.mp hq).1
def pW (cs:Kd→Addr) (cR cN:Addr):Sp:=fun vs H Q _=>∃(x wl st dd:Addr) (de:Deed) (us:List V) (ys:List kG) (d:Int) (ms:List Int) (pl:List Nat) (D:List Addr) (R:List RC) (L:List LC) (N:List (List (Int×Int))),vs=[.ref x,.ref wl,.ref st,.ref dd]∧Stage cs cR cN D H x wl st us R L N ys d ms pl∧StOk R L ms∧mX N∧H dd=some (.tup (yU de))∧zP ys.length L.length de∧0≤d∧yK R L N.length ys d ms pl de=""∧
 ∀(r:Addr) (H':Hp) (zs:List V),Same H H'→H r=none→H' r=some (.lst zs)→PoursH H' zs (zC R L N ys d ms pl de) ms.length→Q (.ref r) H'
def o3 (cs:Kd→Addr) (cR cN:Addr):Sp:=fun vs H Q _=>∃(x wl st dd:Addr) (de:Deed) (us:List V) (ys:List kG) (d:Int) (ms:List Int) (pl:List Nat) (D:List Addr) (R:List RC) (L:List LC) (N:List (List (Int×Int))),vs=[.ref x,.ref wl,.ref st,.ref dd]∧Stage cs cR cN D H x wl st us R L N ys d ms pl∧StOk R L ms∧mX N∧H dd=some (.tup (yU de))∧zP ys.length L.length de∧0≤d∧yK R L N.length ys d ms pl de=""∧
 ∀(r rr wo:Addr) (H':Hp) (gs:List Int) (zs:List V),Same H H'→H' r=some (.lst [.ref rr,.ref wo])→H' rr=some (.lst zs)→PoursH H' zs (vU R L N ys d ms pl de gs) ms.length→H' wo=some (.tup ((j9 ms (vU R L N ys d ms pl de gs)).map V.int))→Spl (j7 R L.length) (j9 ms (zC R L N ys d ms pl de)) gs→Q (.ref r) H'
def oX:Sp:=fun vs H Q _=>∃(fo du w1 p1 w2 p2:Addr) (d:Int) (ms ps:List Int),vs=[.ref fo,.ref du]∧H fo=some (.tup [.int d,.ref w1,.ref p1])∧H du=some (.tup [.int d,.ref w2,.ref p2])∧H w1=some (.tup (ms.map V.int))∧H w2=some (.tup (ms.map V.int))∧H p1=some (.tup (ps.map V.int))∧H p2=some (.tup (ps.map V.int))∧1≤ms.length∧ms.length≤500∧ps.length≤100∧∀H',Same H H'→Q (.bl true) H'
def sE (cs:Kd→Addr) (cR cN:Addr):Sp:=fun vs H Q _=>∃(x wl st dd:Addr) (de:Deed) (us:List V) (ys:List kG) (d:Int) (ms:List Int) (pl:List Nat) (D:List Addr) (R:List RC) (L:List LC) (N:List (List (Int×Int))),vs=[.ref x,.ref wl,.ref st,.ref dd]∧Stage cs cR cN D H x wl st us R L N ys d ms pl∧StOk R L ms∧mX N∧H dd=some (.tup (yU de))∧zP ys.length L.length de∧0≤d∧yK R L N.length ys d ms pl de=""∧∀H',Same H H'→Q (.bl true) H'
theorem PoursH.kp {H H':Hp} {w:Addr} {ys rs:List V} {qs:List (Nat×Nat×Int)} {n:Nat} (h:PoursH H rs qs n) (k:Keep w H H') (hw:H w=some (.lst ys)):PoursH H' rs qs n:=⟨h.1,fun i r hi=>by
 obtain ⟨a,s,t,m,h1,h2,h3,h4⟩:=h.2 i r hi
 exact ⟨a,s,t,m,h1,h2,k _ _ (fun z=>by rw [z,hw] at h3;cases h3) h3,h4⟩⟩
def t0:Deed→Str
 |.pass _=>"pass"
 |.let _=>"let"
 |.night=>"night"
theorem sU {K:W.Frag} {H:Hp} (d:Int):DEq K H (.int d) (.int d) true:=by
 have:=DEq.flat (K:=K) (H:=H) (x:=.int d) (y:=.int d) rfl rfl
 rw [cM rfl] at this
 exact this
theorem fM {K:W.Frag} {H:Hp} {a b:Addr} {ms:List Int} (ha:H a=some (.tup (ms.map V.int))) (hb:H b=some (.tup (ms.map V.int))):DEq K H (.ref a) (.ref b) true:=by
 by_cases h:a=b
 ·rw [h];exact .same b
 ·have:=DEq.tup (K:=K) h (SqT.of ha) (SqT.of hb) (fE _) (fE _)
  rw [rJ (fE _)] at this
  exact this
theorem nB:FnScope ["script","k","many","cell"] ["script","k","many"] (jF ZZ):=⟨rfl,rfl,rfl,by decide +kernel,rfl,by decide +kernel,by decide +kernel⟩
theorem wH {f:Addr} {fd:FuncData} (F:Fun K "_law_draw" "_law_draw" ZZ f fd) (T:Txt K mg cP cB cU cR cN tkS eW eL tkH) : FnOk P w K mg base jU 1 f fd ["script","k","many"] (JY K):=by
 refine F.ok nB (fun vs H Q E h=>?_) (fun cdv A outer s H vs Q E hr h=>?_)
 ·obtain ⟨s,ns,k,m,rfl,hS,h63,hk0,hk1,hm,q⟩:=h
  rfl
 obtain ⟨s,ns,k,m,rfl,hS,h63,hk0,hk1,hm,q⟩:=h
 have hu:_<cLine:=hr.units0
 have hu1:=jY hr
 refine ⟨_,(@jH _ _ _ _ _ (kH (kD kQ (kB kI (by rfl) T.z_len PySem.boot_len (jA (pv 0) jB)) jC (j3 _)) (@jJ _ _ _ (@jN _ _ _ _ (@jI _ _ _ _ _ _ _ _ cW (@jI _ _ _ _ _ _ _ _ jX (@jI _ _ _ _ _ _ _ _ kK (@jI _ _ _ _ _ _ _ _ kK (pv 1) (pv 1)) jC) (@jI _ _ _ _ _ _ _ _ kK jC (pv 1))) (pv 2)))) kJ)
   (@jH _ _ _ _ _ (jQ (i:=3) nB.nd rfl (by first|exact Or.inl rfl|exact Or.inr rfl) (@jI _ _ _ _ _ _ _ _ cW (jD j5 (pv 0) (@jI _ _ _ _ _ _ _ _ cW (pv 1) (kB kI (by rfl) T.z_len PySem.boot_len (jA (pv 0) jB))) (fun _ _=>rfl)) jC))
   (@jJ _ _ _ (@jN _ _ _ _ (@jI _ _ _ _ _ _ _ _ cW (@jI _ _ _ _ _ _ _ _ cW (@jI _ _ _ _ _ _ _ _ jX (@jI _ _ _ _ _ _ _ _ kK (pv 3) (@jI _ _ _ _ _ _ _ _ jX (@jI _ _ _ _ _ _ _ _ kK (pv 1) (pv 1)) jC)) (@jI _ _ _ _ _ _ _ _ kK (pv 1) jC)) jC) (pv 2)))))),?_⟩
 have hml:(ns.map V.int).length=ns.length:=List.length_map _
 obtain ⟨kk0,kk1⟩:=HD hk0 hk1
 have hm0:(0:Int)<m:=by omega
 refine ⟨_,rfl,s,_,rfl,.inl hS,rfl,_,rfl,?_⟩
 by_cases h0:ns.length=0
 ·refine kM (by rw [hml,h0];rfl) ?_
  refine ⟨_,rfl,_,rfl,jP (⟨.inl ⟨by omega,by omega⟩,_,_,rfl,rfl,.inr ⟨by decide,by decide⟩,_,rfl,jP (⟨.inl ⟨by decide,by decide⟩,_,_,rfl,rfl,_,rfl,jP (⟨hm0,?_⟩)⟩)⟩)⟩
  exact q _ (Int.emod_nonneg _ (by omega)) (Int.emod_lt_of_pos _ hm0)
 refine kF (fun z=>h0 (by have:=V.int.inj z;rw [hml] at this;omega)) ?_
 have hl0:(0:Int)<(((ns.map V.int).length:Nat):Int):=by rw [hml];omega
 obtain ⟨j,ej,lj⟩:=C0 (a:=k) hl0
 have lj:j<ns.length:=by rw [hml] at lj;omega
 refine ⟨_,rfl,_,rfl,_,rfl,s,_,rfl,.inl hS,_,_,rfl,rfl,hl0,?_⟩
 try dsimp only
 rw [ej]
 refine ⟨s,_,_,_,rfl,rfl,hS,qD lj,_,_,rfl,rfl,(by show (0:Int)<1000003;decide),?_⟩
 have c0:=Int.emod_nonneg (ns.getD j 0) (by decide:(1000003:Int)≠0)
 have c1:=Int.emod_lt_of_pos (ns.getD j 0) (by decide:(0:Int)<1000003)
 try dsimp only
 generalize ns.getD j 0%1000003=cell at c0 c1 ⊢
 refine ⟨_,rfl,_,rfl,_,rfl,jP (⟨.inl ⟨by omega,by omega⟩,_,_,rfl,rfl,_,_,rfl,rfl,.inl ⟨by omega,by omega⟩,_,rfl,jP (⟨.inr ⟨by decide,by decide⟩,_,_,rfl,rfl,_,_,rfl,rfl,(by show (0:Int)<2147483647;decide),_,rfl,jP (⟨hm0,?_⟩)⟩)⟩)⟩
 exact q _ (Int.emod_nonneg _ (by omega)) (Int.emod_lt_of_pos _ hm0)
theorem AW:FnScope ["script"] ["script"] (jF Z9):=⟨rfl,rfl,rfl,by decide +kernel,rfl,by decide +kernel,by decide +kernel⟩
theorem wU {f:Addr} {fd:FuncData} (F:Fun K "_law_unit" "_law_unit" Z9 f fd) (T:Txt K mg cP cB cU cR cN tkS eW eL tkH) : FnOk P w K mg base jU 1 f fd ["script"] (lS K):=by
 refine F.ok AW (fun vs H Q E h=>?_) (fun cdv A outer s H vs Q E hr h=>?_)
 ·obtain ⟨s,ns,rfl,hS,h63,q⟩:=h
  rfl
 obtain ⟨s,ns,rfl,hS,h63,q⟩:=h
 have hu:_<cLine:=hr.units0
 have hu1:=jY hr
 refine ⟨_,(@jH _ _ _ _ _ (kH (kD kQ (kB kI (by rfl) T.z_len PySem.boot_len (jA (pv 0) jB)) jC (j3 _)) (@jJ _ _ _ (@jN _ _ _ _ jC)) kJ)
   (@jJ _ _ _ (@jN _ _ _ _ (@jI _ _ _ _ _ _ _ _ jX jC (@jI _ _ _ _ _ _ _ _ cW (jD j5 (pv 0) jC (fun _ _=>rfl)) (@jI _ _ _ _ _ _ _ _ FX jC jC)))))),?_⟩
 have hml:(ns.map V.int).length=ns.length:=List.length_map _
 refine ⟨_,rfl,s,_,rfl,.inl hS,rfl,_,rfl,?_⟩
 by_cases h0:ns.length=0
 ·exact kM (by rw [hml,h0];rfl) (q 1 (by decide) (by decide))
 refine kF (fun z=>h0 (by have:=V.int.inj z;rw [hml] at this;omega)) ?_
 have e10:(10:Int) ^ Int.toNat 10=10000000000:=by decide +kernel
 have u0:=Int.emod_nonneg (ns.getD 0 0) (show (10:Int) ^ Int.toNat 10≠0 from by decide +kernel)
 have u1:=Int.emod_lt_of_pos (ns.getD 0 0) (show (0:Int)<10 ^ Int.toNat 10 from by decide +kernel)
 refine ⟨_,rfl,s,_,_,_,rfl,rfl,hS,qD (s:=0) (by omega),_,_,rfl,rfl,⟨by decide,by decide,by decide⟩,_,_,rfl,rfl,(show (0:Int)<10 ^ Int.toNat 10 from by decide +kernel),_,_,rfl,rfl,?_⟩
 rw [e10] at u0 u1
 try dsimp only
 rw [e10]
 exact q _ (by omega) (by omega)
theorem cC:FnScope ["script","k","unit","named","least","crest","water","berths"] ["script","k","unit"] (jF Z5):=⟨rfl,rfl,rfl,by decide +kernel,rfl,by decide +kernel,by decide +kernel⟩
theorem wO {f:Addr} {fd:FuncData} (F:Fun K "_law_reach" "_law_reach" Z5 f fd) (T:Txt K mg cP cB cU cR cN tkS eW eL tkH) (D__law_draw:Def P w K mg base 1 "_law_draw" ["script","k","many"] [] (JY K)) (M_Reach:MkD P w K mg base 1 "Reach" cR ["self","name","least","crest","berths","water","target"] (iI cR)):FnOk P w K mg base jU 3 f fd ["script","k","unit"] (pV K cR):=by
 refine F.ok cC (fun vs H Q E h=>?_) (fun cdv A outer s H vs Q E hr h=>?_)
 ·obtain ⟨s,ns,k,u,rfl,hS,h63,hk,hv0,hv1,q⟩:=h
  rfl
 obtain ⟨s,ns,k,u,rfl,hS,h63,hk,hv0,hv1,q⟩:=h
 have hu:_<cLine:=hr.units0
 have hu1:=jY hr
 refine ⟨_,(@jH _ _ _ _ _ (@jQ _ _ 3 _ _ _ _ cC.nd rfl (by first|exact Or.inl rfl|exact Or.inr rfl) (jD j5 (kN (@jA _ _ _ _ _ jO (@jA _ _ _ _ _ jO (@jA _ _ _ _ _ jO (@jA _ _ _ _ _ jO (@jA _ _ _ _ _ jO (@jA _ _ _ _ _ jO (@jA _ _ _ _ _ jO (@jA _ _ _ _ _ jO jB (by rfl)) (by rfl)) (by rfl)) (by rfl)) (by rfl)) (by rfl)) (by rfl)) (by rfl))) (pv 1) (fun _ _=>rfl)) (by rfl) (by first|exact .inl rfl|exact .inr rfl|assumption))
   (@jH _ _ _ _ _ (jQ (i:=4) cC.nd rfl (by first|exact Or.inl rfl|exact Or.inr rfl) (@jI _ _ _ _ _ _ _ _ kK (jM D__law_draw hr rfl (@jA _ _ _ _ _ (pv 0) (@jA _ _ _ _ _ (@jI _ _ _ _ _ _ _ _ jX (@jI _ _ _ _ _ _ _ _ kK jC (pv 1)) jC) (@jA _ _ _ _ _ jC jB (by rfl)) (by rfl)) (by rfl))) (pv 2)))
   (@jH _ _ _ _ _ (jQ (i:=5) cC.nd rfl (by first|exact Or.inl rfl|exact Or.inr rfl) (@jI _ _ _ _ _ _ _ _ jX (@jI _ _ _ _ _ _ _ _ jX (pv 4) (@jI _ _ _ _ _ _ _ _ kK (jM D__law_draw hr rfl (@jA _ _ _ _ _ (pv 0) (@jA _ _ _ _ _ (@jI _ _ _ _ _ _ _ _ jX (@jI _ _ _ _ _ _ _ _ kK jC (pv 1)) jC) (@jA _ _ _ _ _ jC jB (by rfl)) (by rfl)) (by rfl))) (pv 2))) (jM D__law_draw hr rfl (@jA _ _ _ _ _ (pv 0) (@jA _ _ _ _ _ (@jI _ _ _ _ _ _ _ _ jX (@jI _ _ _ _ _ _ _ _ kK jC (pv 1)) jC) (@jA _ _ _ _ _ jC jB (by rfl)) (by rfl)) (by rfl)))))
   (@jH _ _ _ _ _ (jQ (i:=6) cC.nd rfl (by first|exact Or.inl rfl|exact Or.inr rfl) (@jI _ _ _ _ _ _ _ _ jX (@jI _ _ _ _ _ _ _ _ kK (jM D__law_draw hr rfl (@jA _ _ _ _ _ (pv 0) (@jA _ _ _ _ _ (@jI _ _ _ _ _ _ _ _ jX (@jI _ _ _ _ _ _ _ _ kK jC (pv 1)) jC) (@jA _ _ _ _ _ jC jB (by rfl)) (by rfl)) (by rfl))) (pv 2)) (jM D__law_draw hr rfl (@jA _ _ _ _ _ (pv 0) (@jA _ _ _ _ _ (@jI _ _ _ _ _ _ _ _ jX (@jI _ _ _ _ _ _ _ _ kK jC (pv 1)) jC) (@jA _ _ _ _ _ jC jB (by rfl)) (by rfl)) (by rfl)))))
   (@jH _ _ _ _ _ (jQ (i:=7) cC.nd rfl (by first|exact Or.inl rfl|exact Or.inr rfl) (jD j5 (kN (@jA _ _ _ _ _ jC (@jA _ _ _ _ _ jC (@jA _ _ _ _ _ jC (@jA _ _ _ _ _ jC jB (by rfl)) (by rfl)) (by rfl)) (by rfl))) (jM D__law_draw hr rfl (@jA _ _ _ _ _ (pv 0) (@jA _ _ _ _ _ (@jI _ _ _ _ _ _ _ _ jX (@jI _ _ _ _ _ _ _ _ kK jC (pv 1)) jC) (@jA _ _ _ _ _ jC jB (by rfl)) (by rfl)) (by rfl))) (fun _ _=>rfl)))
   (@jJ _ _ _ (@jN _ _ _ _ (eK M_Reach hr rfl (@jA _ _ _ _ _ (pv 3) (@jA _ _ _ _ _ (pv 4) (@jA _ _ _ _ _ (pv 5) (@jA _ _ _ _ _ (pv 7) (@jA _ _ _ _ _ (pv 6) (@jA _ _ _ _ _ (@jI _ _ _ _ _ _ _ _ qK (jM D__law_draw hr rfl (@jA _ _ _ _ _ (pv 0) (@jA _ _ _ _ _ (@jI _ _ _ _ _ _ _ _ jX (@jI _ _ _ _ _ _ _ _ kK jC (pv 1)) jC) (@jA _ _ _ _ _ (@jI _ _ _ _ _ _ _ _ jX (pv 1) jC) jB (by rfl)) (by rfl)) (by rfl))) jC) jB (by rfl)) (by rfl)) (by rfl)) (by rfl)) (by rfl)) (by rfl)))))))))),?_⟩
 refine ⟨zz8,fun p hp=>?_⟩
 have s1:=jK hp (.lst ([("mere":Str),"merea","amere","me","pool","poolmereandp","z","sean"].map V.str))
 obtain ⟨nm,hnm⟩:=tQ [("mere":Str),"merea","amere","me","pool","poolmereandp","z","sean"] (k:=k) hk
 refine ⟨_,rfl,j4 (SqL.of jE) hnm (?_)⟩
 have hS1:=s1.seq hS
 refine ⟨_,rfl,_,rfl,jP (⟨.inl ⟨by decide,by decide⟩,_,_,rfl,rfl,s,ns,_,_,rfl,hS1,h63,by omega,by omega,by omega,fun d1 d10 d11=>?_⟩)⟩
 obtain ⟨a1,a2⟩:=J3 d10 (show d1≤3 by omega) hv0 hv1 (by decide)
 refine ⟨_,rfl,jP (⟨.inl ⟨by omega,by omega⟩,?_⟩)⟩
 try dsimp only
 generalize d1*u=le at a1 a2 ⊢
 refine ⟨_,rfl,_,rfl,_,rfl,jP (⟨.inl ⟨by decide,by decide⟩,_,_,rfl,rfl,s,ns,_,_,rfl,hS1,h63,by omega,by omega,by omega,fun d2 d20 d21=>?_⟩)⟩
 obtain ⟨b1,b2⟩:=J3 d20 (show d2≤8 by omega) hv0 hv1 (by decide)
 refine ⟨_,rfl,jP (⟨.inl ⟨by omega,by omega⟩,_,_,rfl,rfl,?_⟩)⟩
 try dsimp only
 generalize d2*u=cr at b1 b2 ⊢
 refine ⟨_,rfl,_,rfl,jP (⟨.inl ⟨by decide,by decide⟩,_,_,rfl,rfl,s,ns,_,_,rfl,hS1,h63,by omega,by omega,by omega,fun d3 d30 d31=>?_⟩)⟩
 refine ⟨_,_,rfl,rfl,?_⟩
 refine ⟨_,rfl,_,rfl,jP (⟨.inl ⟨by decide,by decide⟩,_,_,rfl,rfl,s,ns,_,_,rfl,hS1,h63,by omega,by omega,by omega,fun d4 d40 d41=>?_⟩)⟩
 obtain ⟨c1,c2⟩:=J3 d40 (show d4≤12 by omega) hv0 hv1 (by decide)
 refine ⟨_,rfl,jP (⟨.inl ⟨by omega,by omega⟩,?_⟩)⟩
 try dsimp only
 generalize d4*u=wa at c1 c2 ⊢
 refine ⟨_,rfl,_,rfl,jP (⟨.inl ⟨by decide,by decide⟩,_,_,rfl,rfl,s,ns,_,_,rfl,hS1,h63,by omega,by omega,by omega,fun d5 d50 d51=>?_⟩)⟩
 refine ⟨_,_,rfl,rfl,?_⟩
 refine ⟨zz4,fun p2 hp2=>?_⟩
 have s2:=jK hp2 (.lst ([(1:Int),1,2,9].map V.int))
 have hS2:=s2.seq hS1
 refine ⟨_,rfl,_,rfl,jP (⟨.inl ⟨by decide,by decide⟩,_,_,rfl,rfl,s,ns,_,_,rfl,hS2,h63,by omega,by omega,by omega,fun d6 d60 d61=>?_⟩)⟩
 obtain ⟨be,hbe,hat⟩:=gA [(1:Int),1,2,9] d60 d61
 refine (j4 (SqL.of jE) hat (?_))
 have hbe':1≤be∧be≤9:=by
  simp only [List.mem_cons,List.mem_nil_iff,or_false] at hbe
  rcases hbe with rfl|rfl|rfl|rfl<;>decide
 refine ⟨_,rfl,_,rfl,_,rfl,_,rfl,_,rfl,?_⟩
 refine ⟨_,rfl,_,rfl,jP (⟨.inl ⟨by decide,by decide⟩,_,_,rfl,rfl,_,rfl,jP (⟨s,ns,_,_,rfl,hS2,h63,by omega,by omega,by omega,fun d7 d70 d71=>?_⟩)⟩)⟩
 refine ⟨_,_,rfl,rfl,?_⟩
 intro x dx nx ndx nex
 refine ⟨x,dx,_,_,_,_,_,_,rfl,jE,fun H' fs kp hx hfl=>⟨rfl,?_⟩⟩
 have w12:=s1.trans s2
 exact q x ⟨nm,le,le+cr+d3,be,wa+d5,d7 - 1⟩ H' ⟨a1,by show le≤le+cr+d3;omega,by show le+cr+d3≤999999999999;omega,hbe'.1,hbe'.2,by show 0≤wa+d5;omega,by show wa+d5≤999999999999;omega,by show -1≤d7 - 1;omega,by show d7 - 1<(k:Int);omega⟩ (w12.trans (dX nx (eD nx ndx) kp)) (w12.free nx) ⟨dx,fs,hx,hfl⟩
theorem QS:FnScope ["script","k","reaches","unit","named","high","low","room","part","made"] ["script","k","reaches","unit"] (jF Z3):=⟨rfl,rfl,rfl,by decide +kernel,rfl,by decide +kernel,by decide +kernel⟩
theorem wL {f:Addr} {fd:FuncData} (F:Fun K "_law_lock" "_law_lock" Z3 f fd) (T:Txt K mg cP cB cU cR cN tkS eW eL tkH) (D__law_draw:Def P w K mg base 1 "_law_draw" ["script","k","many"] [] (JY K)) (M_BasinLock:MkD P w K mg base 2 "BasinLock" cB ["self","name","high","low","room","side"] (cO (jG cP cB cU) .basin)) (M_PumpLock:MkD P w K mg base 2 "PumpLock" cU ["self","name","high","low","room","lift"] (cO (jG cP cB cU) .pump)) (M_PlainLock:MkD P w K mg base 1 "PlainLock" cP ["self","name","high","low","room"] (cQ (jG cP cB cU))):FnOk P w K mg base jU 4 f fd ["script","k","reaches","unit"] (rW K (jG cP cB cU)):=by
 refine F.ok QS (fun vs H Q E h=>?_) (fun cdv A outer s H vs Q E hr h=>?_)
 ·obtain ⟨s,ns,k,n,u,rfl,hS,h63,hk,hn2,hn8,hv0,hv1,q⟩:=h
  rfl
 obtain ⟨s,ns,k,n,u,rfl,hS,h63,hk,hn2,hn8,hv0,hv1,q⟩:=h
 have hu:_<cLine:=hr.units0
 have hu1:=jY hr
 refine ⟨_,(@jH _ _ _ _ _ (jQ (i:=4) QS.nd rfl (by first|exact Or.inl rfl|exact Or.inr rfl) (jD j5 (kN (@jA _ _ _ _ _ jO (@jA _ _ _ _ _ jO (@jA _ _ _ _ _ jO (@jA _ _ _ _ _ jO jB (by rfl)) (by rfl)) (by rfl)) (by rfl))) (pv 1) (fun _ _=>rfl)))
   (@jH _ _ _ _ _ (jQ (i:=5) QS.nd rfl (by first|exact Or.inl rfl|exact Or.inr rfl) (@jI _ _ _ _ _ _ _ _ jX jC (jM D__law_draw hr rfl (@jA _ _ _ _ _ (pv 0) (@jA _ _ _ _ _ (@jI _ _ _ _ _ _ _ _ jX jC (@jI _ _ _ _ _ _ _ _ kK jC (pv 1))) (@jA _ _ _ _ _ (@jI _ _ _ _ _ _ _ _ qK (pv 2) jC) jB (by rfl)) (by rfl)) (by rfl)))))
   (@jH _ _ _ _ _ (jQ (i:=6) QS.nd rfl (by first|exact Or.inl rfl|exact Or.inr rfl) (jM D__law_draw hr rfl (@jA _ _ _ _ _ (pv 0) (@jA _ _ _ _ _ (@jI _ _ _ _ _ _ _ _ jX jC (@jI _ _ _ _ _ _ _ _ kK jC (pv 1))) (@jA _ _ _ _ _ (pv 5) jB (by rfl)) (by rfl)) (by rfl))))
   (@jH _ _ _ _ _ (jQ (i:=7) QS.nd rfl (by first|exact Or.inl rfl|exact Or.inr rfl) (@jI _ _ _ _ _ _ _ _ jX (@jI _ _ _ _ _ _ _ _ kK (@jI _ _ _ _ _ _ _ _ jX jC (jM D__law_draw hr rfl (@jA _ _ _ _ _ (pv 0) (@jA _ _ _ _ _ (@jI _ _ _ _ _ _ _ _ jX jC (@jI _ _ _ _ _ _ _ _ kK jC (pv 1))) (@jA _ _ _ _ _ jC jB (by rfl)) (by rfl)) (by rfl)))) (pv 3)) (jM D__law_draw hr rfl (@jA _ _ _ _ _ (pv 0) (@jA _ _ _ _ _ (@jI _ _ _ _ _ _ _ _ jX jC (@jI _ _ _ _ _ _ _ _ kK jC (pv 1))) (@jA _ _ _ _ _ jC jB (by rfl)) (by rfl)) (by rfl)))))
   (@jH _ _ _ _ _ (jQ (i:=8) QS.nd rfl (by first|exact Or.inl rfl|exact Or.inr rfl) (jD j5 (kN (@jA _ _ _ _ _ jC (@jA _ _ _ _ _ (pv 7) (@jA _ _ _ _ _ (@jI _ _ _ _ _ _ _ _ jX jC (@jI _ _ _ _ _ _ _ _ fR (pv 7) jC)) (@jA _ _ _ _ _ (@jI _ _ _ _ _ _ _ _ qK (pv 7) (@jI _ _ _ _ _ _ _ _ fR (pv 7) jC)) jB (by rfl)) (by rfl)) (by rfl)) (by rfl))) (jM D__law_draw hr rfl (@jA _ _ _ _ _ (pv 0) (@jA _ _ _ _ _ (@jI _ _ _ _ _ _ _ _ jX jC (@jI _ _ _ _ _ _ _ _ kK jC (pv 1))) (@jA _ _ _ _ _ jC jB (by rfl)) (by rfl)) (by rfl))) (fun _ _=>rfl)))
   (@jH _ _ _ _ _ (jQ (i:=9) QS.nd rfl (by first|exact Or.inl rfl|exact Or.inr rfl) (jM D__law_draw hr rfl (@jA _ _ _ _ _ (pv 0) (@jA _ _ _ _ _ (@jI _ _ _ _ _ _ _ _ jX jC (@jI _ _ _ _ _ _ _ _ kK jC (pv 1))) (@jA _ _ _ _ _ jC jB (by rfl)) (by rfl)) (by rfl))))
   (@jH _ _ _ _ _ (kH (kD kQ (pv 9) jC (j3 _)) (@jJ _ _ _ (@jN _ _ _ _ (eK M_BasinLock hr rfl (@jA _ _ _ _ _ (pv 4) (@jA _ _ _ _ _ (pv 5) (@jA _ _ _ _ _ (pv 6) (@jA _ _ _ _ _ (pv 7) (@jA _ _ _ _ _ (pv 8) jB (by rfl)) (by rfl)) (by rfl)) (by rfl)) (by rfl))))) kJ)
   (@jH _ _ _ _ _ (kH (kD kQ (pv 9) jC (j3 _)) (@jJ _ _ _ (@jN _ _ _ _ (eK M_PumpLock hr rfl (@jA _ _ _ _ _ (pv 4) (@jA _ _ _ _ _ (pv 5) (@jA _ _ _ _ _ (pv 6) (@jA _ _ _ _ _ (pv 7) (@jA _ _ _ _ _ (pv 8) jB (by rfl)) (by rfl)) (by rfl)) (by rfl)) (by rfl))))) kJ)
   (@jJ _ _ _ (@jN _ _ _ _ (eK M_PlainLock hr rfl (@jA _ _ _ _ _ (pv 4) (@jA _ _ _ _ _ (pv 5) (@jA _ _ _ _ _ (pv 6) (@jA _ _ _ _ _ (pv 7) jB (by rfl)) (by rfl)) (by rfl)) (by rfl))))))))))))),?_⟩
 refine ⟨zz4,fun p hp=>?_⟩
 have s1:=jK hp (.lst ([("gate":Str),"gatea","mere","g"].map V.str))
 obtain ⟨nm,hnm⟩:=tQ [("gate":Str),"gatea","mere","g"] (k:=k) hk
 refine ⟨_,rfl,j4 (SqL.of jE) hnm (?_)⟩
 have hS1:=s1.seq hS
 refine ⟨_,rfl,_,rfl,jP (⟨.inl ⟨by decide,by decide⟩,_,_,rfl,rfl,_,rfl,jP (⟨s,ns,_,_,rfl,hS1,h63,by omega,by omega,by omega,fun h1 h10 h11=>?_⟩)⟩)⟩
 refine ⟨_,_,rfl,rfl,?_⟩
 refine ⟨_,rfl,_,rfl,jP (⟨.inl ⟨by decide,by decide⟩,_,_,rfl,rfl,_,rfl,s,ns,_,_,rfl,hS1,h63,by omega,by omega,by omega,fun lo lo0 lo1=>?_⟩)⟩
 refine ⟨_,rfl,_,rfl,jP (⟨.inl ⟨by decide,by decide⟩,_,_,rfl,rfl,s,ns,_,_,rfl,hS1,h63,by omega,by omega,by omega,fun d2 d20 d21=>?_⟩)⟩
 obtain ⟨b1,b2⟩:=J3 (a:=1+d2) (by omega) (show 1+d2≤4 by omega) hv0 hv1 (by decide)
 refine ⟨_,_,rfl,rfl,_,rfl,jP (⟨.inl ⟨by omega,by omega⟩,?_⟩)⟩
 have b3:1≤(1+d2)*u:=by
  have:=Int.mul_le_mul (show (1:Int)≤1+d2 by omega) hv0 (by decide) (by omega)
  omega
 try dsimp only
 generalize (1+d2)*u=r0 at b1 b2 b3 ⊢
 refine ⟨_,rfl,_,rfl,jP (⟨.inl ⟨by decide,by decide⟩,_,_,rfl,rfl,s,ns,_,_,rfl,hS1,h63,by omega,by omega,by omega,fun d3 d30 d31=>?_⟩)⟩
 refine ⟨_,_,rfl,rfl,?_⟩
 have ro1:1≤r0+d3:=by omega
 have ro2:r0+d3≤999999999999:=by omega
 try dsimp only
 generalize r0+d3=ro at ro1 ro2 ⊢
 refine ⟨_,rfl,_,rfl,jP (⟨⟨by decide,by decide⟩,_,_,rfl,rfl,_,rfl,_,rfl,jP (⟨⟨by decide,by decide⟩,_,_,rfl,rfl,zz4,fun p2 hp2=>?_⟩)⟩)⟩
 have s2:=jK hp2 (.lst ([(1:Int),ro,1+ro / 2,ro - ro / 3].map V.int))
 have hS2:=s2.seq hS1
 refine ⟨_,rfl,_,rfl,jP (⟨.inl ⟨by decide,by decide⟩,_,_,rfl,rfl,s,ns,_,_,rfl,hS2,h63,by omega,by omega,by omega,fun d4 d40 d41=>?_⟩)⟩
 obtain ⟨pa,hpa,hat⟩:=gA [(1:Int),ro,1+ro / 2,ro - ro / 3] d40 d41
 refine (j4 (SqL.of jE) hat (?_))
 have hpa:1≤pa∧pa≤ro:=by
  simp only [List.mem_cons,List.mem_nil_iff,or_false] at hpa
  rcases hpa with rfl|rfl|rfl|rfl<;>omega
 refine ⟨_,rfl,_,rfl,jP (⟨.inl ⟨by decide,by decide⟩,_,_,rfl,rfl,s,ns,_,_,rfl,hS2,h63,by omega,by omega,by omega,fun d5 d50 d51=>?_⟩)⟩
 have w12:=s1.trans s2
 refine ⟨_,rfl,rfl,_,rfl,uD (fun _=>?_) (fun _=>?_)⟩
 ·refine ⟨_,rfl,_,rfl,_,rfl,_,rfl,_,rfl,?_⟩
  intro x dx nx ndx nex
  refine ⟨x,dx,_,_,_,_,_,rfl,jE,fun H' kp hx=>⟨rfl,?_⟩⟩
  refine q x ⟨nm,1+h1,lo,ro,.basin,pa⟩ H' ⟨by show 1≤1+h1;omega,by show 1+h1<(n:Int);omega,lo0,by show lo<1+h1;omega,ro1,ro2,(fun z=>nomatch z),fun _=>hpa⟩ (w12.trans (dX nx (eD nx ndx) kp)) (w12.free nx) ⟨x,rfl,dx,hx⟩
 refine ⟨_,rfl,rfl,_,rfl,uD (fun _=>?_) (fun _=>?_)⟩
 ·refine ⟨_,rfl,_,rfl,_,rfl,_,rfl,_,rfl,?_⟩
  intro x dx nx ndx nex
  refine ⟨x,dx,_,_,_,_,_,rfl,jE,fun H' kp hx=>⟨rfl,?_⟩⟩
  refine q x ⟨nm,1+h1,lo,ro,.pump,pa⟩ H' ⟨by show 1≤1+h1;omega,by show 1+h1<(n:Int);omega,lo0,by show lo<1+h1;omega,ro1,ro2,(fun z=>nomatch z),fun _=>hpa⟩ (w12.trans (dX nx (eD nx ndx) kp)) (w12.free nx) ⟨x,rfl,dx,hx⟩
 refine ⟨_,rfl,_,rfl,_,rfl,_,rfl,?_⟩
 intro x dx nx ndx nex
 refine ⟨.plain,x,dx,_,_,_,_,rfl,jE,fun H' kp hx=>⟨rfl,?_⟩⟩
 refine q x ⟨nm,1+h1,lo,ro,.plain,0⟩ H' ⟨by show 1≤1+h1;omega,by show 1+h1<(n:Int);omega,lo0,by show lo<1+h1;omega,ro1,ro2,fun _=>rfl,fun z=>absurd rfl z⟩ (w12.trans (dX nx (eD nx ndx) kp)) (w12.free nx) ⟨x,rfl,dx,hx⟩
theorem eX:FnScope ["script","k","reaches","unit","some","r","comes"] ["script","k","reaches","unit"] (jF bB):=⟨rfl,rfl,rfl,by decide +kernel,rfl,by decide +kernel,by decide +kernel⟩
theorem wW {f:Addr} {fd:FuncData} (F:Fun K "_law_weather" "_law_weather" bB f fd) (T:Txt K mg cP cB cU cR cN tkS eW eL tkH) (D__law_draw:Def P w K mg base 1 "_law_draw" ["script","k","many"] [] (JY K)):FnOk P w K mg base jU 2 f fd ["script","k","reaches","unit"] (oW K):=by
 refine F.ok eX (fun vs H Q E h=>?_) (fun cdv A outer s H vs Q E hr h=>?_)
 ·obtain ⟨s,ns,k,n,u,rfl,hS,h63,hk,hn8,hv0,hv1,q⟩:=h
  rfl
 obtain ⟨s,ns,k,n,u,rfl,hS,h63,hk,hn8,hv0,hv1,q⟩:=h
 have hu:_<cLine:=hr.units0
 have hu1:=jY hr
 refine ⟨_,(@jH _ _ _ _ _ (jQ (i:=4) eX.nd rfl (by first|exact Or.inl rfl|exact Or.inr rfl) (kN jB))
   (@jH _ _ _ _ _ (vJ PassesOwn.never rfl (vD (by rfl) T.z_range (jA (pv 2) jB)) (j8 (i:=5) eX.nd rfl (by first|exact Or.inl rfl|exact Or.inr rfl))
    (@jH _ _ _ _ _ (jQ (i:=6) eX.nd rfl (by first|exact Or.inl rfl|exact Or.inr rfl) (@jI _ _ _ _ _ _ _ _ kK (jM D__law_draw hr rfl (@jA _ _ _ _ _ (pv 0) (@jA _ _ _ _ _ (@jI _ _ _ _ _ _ _ _ jX (@jI _ _ _ _ _ _ _ _ jX jC (@jI _ _ _ _ _ _ _ _ kK jC (pv 1))) (@jI _ _ _ _ _ _ _ _ kK jC (pv 5))) (@jA _ _ _ _ _ jC jB (by rfl)) (by rfl)) (by rfl))) (pv 3)))
   (@jJ _ _ _ (yG (yS PySem.F.plainAttrs_list PySem.F.slot_list_append PySem.F.type_list_append yM (pv 4) (jA (kL (jA (pv 6) (jA (@jI _ _ _ _ _ _ _ _ fR (@jI _ _ _ _ _ _ _ _ kK (jM D__law_draw hr rfl (@jA _ _ _ _ _ (pv 0) (@jA _ _ _ _ _ (@jI _ _ _ _ _ _ _ _ jX (@jI _ _ _ _ _ _ _ _ jX jC (@jI _ _ _ _ _ _ _ _ kK jC (pv 1))) (@jI _ _ _ _ _ _ _ _ kK jC (pv 5))) (@jA _ _ _ _ _ jC jB (by rfl)) (by rfl)) (by rfl))) (pv 3)) jC) jB))) jB))))))
   (@jJ _ _ _ (@jN _ _ _ _ (pv 4))))),?_⟩
 refine ⟨zz0,fun l hl0=>?_⟩
 refine ⟨_,rfl,_,rfl,by omega,by omega,JA (n:=((n:Nat):Int).toNat) (fun i σ Hi=>∃(us:List V) (p:List (Int×Int)) (c5 c6:Option V),σ=[some (.ref s),some (.int (k:Int)),some (.int (n:Int)),some (.int u),some (.ref l),c5,c6]∧Hi l=some (.lst us)∧AllAt (QAt Hi) us p∧p.length=i∧(∀q∈p,0≤q.1∧0≤q.2)∧Same H Hi)
  ⟨[],[],none,none,rfl,jE,AllAt.nil,rfl,(fun q hq=>by cases hq),jK hl0 _⟩ ?_ ?_⟩
 ·rintro i σ Hi hi ⟨us,p,c5,c6,rfl,hl,hA,hp,hnn,sm⟩
  rw [Int.toNat_natCast] at hi
  rw [Int.zero_add]
  have hSi:=sm.seq hS
  refine ⟨_,rfl,_,rfl,jP (⟨.inl ⟨by decide,by decide⟩,_,_,rfl,rfl,_,rfl,jP (⟨.inl ⟨by decide,by decide⟩,_,_,rfl,rfl,s,ns,_,_,rfl,hSi,h63,by omega,by omega,by omega,fun d1 d10 d11=>?_⟩)⟩)⟩
  refine ⟨_,rfl,jP (⟨.inl ⟨by omega,by omega⟩,?_⟩)⟩
  refine ⟨_,rfl,.inl ⟨rfl,_,SqL.of hl⟩,_,rfl,_,rfl,_,rfl,jP (⟨.inl ⟨by decide,by decide⟩,_,_,rfl,rfl,_,rfl,jP (⟨.inl ⟨by decide,by decide⟩,_,_,rfl,rfl,s,ns,_,_,rfl,hSi,h63,by omega,by omega,by omega,fun d2 d20 d21=>?_⟩)⟩)⟩
  refine ⟨_,rfl,jP (⟨.inl ⟨by omega,by omega⟩,_,_,rfl,rfl,⟨by decide,by decide⟩,zz2,fun tp htp=>?_⟩)⟩
  have v:=jK htp (.tup [V.int (d1*u),V.int (d2*u / 2)])
  refine ⟨l,_,_,rfl,rfl,v _ _ hl,qM (by rw [hA.1];omega),?_⟩
  refine ⟨us++[.ref tp],p++[(d1*u,d2*u / 2)],_,_,rfl,jE,?_,by rw [List.length_append,hp];rfl,fun q hq=>?_,kT hl0 (sm.trans v)⟩
  rotate_left
  ·rcases List.mem_append.mp hq with h|h
   ·exact hnn q h
   ·rw [List.mem_singleton.mp h]
    have m1:=(J3 d10 (show d1≤3 by omega) hv0 hv1 (by decide)).1
    have m2:=(J3 d20 (show d2≤3 by omega) hv0 hv1 (by decide)).1
    exact ⟨m1,by show 0≤d2*u / 2;omega⟩
  exact ((hA.mono (QAt.same v)).snoc (v:=.ref tp) (x:=(d1*u,d2*u / 2)) ⟨tp,rfl,jE⟩).mono (QAt.put (v _ _ hl))
 rintro σ Hi ⟨us,p,c5,c6,rfl,hl,hA,hp,hnn,sm⟩
 rw [Int.toNat_natCast] at hp
 exact ⟨_,rfl,q l p Hi hp hnn sm hl0 ⟨l,us,rfl,hl,hA,by simp⟩⟩
theorem cA:FnScope ["script","most_reaches","most_locks","most_nights","unit","many","reaches","locks","nights"] ["script","most_reaches","most_locks","most_nights"] (jF zU):=⟨rfl,rfl,rfl,by decide +kernel,rfl,by decide +kernel,by decide +kernel⟩
theorem wE {f:Addr} {fd:FuncData} (F:Fun K "_law_canal" "_law_canal" zU f fd) (T:Txt K mg cP cB cU cR cN tkS eW eL tkH) (D__law_unit:Def P w K mg base 1 "_law_unit" ["script"] [] (lS K)) (D__law_draw:Def P w K mg base 1 "_law_draw" ["script","k","many"] [] (JY K)) (D__law_reach:Def P w K mg base 3 "_law_reach" ["script","k","unit"] [] (pV K cR)) (D__law_lock:Def P w K mg base 4 "_law_lock" ["script","k","reaches","unit"] [] (rW K (jG cP cB cU))) (D__law_weather:Def P w K mg base 2 "_law_weather" ["script","k","reaches","unit"] [] (oW K)) (M_Canal:MkD P w K mg base 1 "Canal" cN ["self","reaches","locks","nights"] (iJ (jG cP cB cU) cR cN)):FnOk P w K mg base jU 6 f fd ["script","most_reaches","most_locks","most_nights"] (p7 K (jG cP cB cU) cR cN):=by
 refine F.ok cA (fun vs H Q E h=>?_) (fun cdv A outer s H vs Q E hr h=>?_)
 ·obtain ⟨s,ns,mr,ml,mn,rfl,hS,h63,hr2,hr8,hl1,hl4,hn5,q⟩:=h
  rfl
 obtain ⟨s,ns,mr,ml,mn,rfl,hS,h63,hr2,hr8,hl1,hl4,hn5,q⟩:=h
 have hu:_<cLine:=hr.units0
 have hu1:=jY hr
 refine ⟨_,(@jH _ _ _ _ _ (jQ (i:=4) cA.nd rfl (by first|exact Or.inl rfl|exact Or.inr rfl) (jM D__law_unit hr rfl (jA (pv 0) jB)))
   (@jH _ _ _ _ _ (jQ (i:=5) cA.nd rfl (by first|exact Or.inl rfl|exact Or.inr rfl) (@jI _ _ _ _ _ _ _ _ jX jC (jM D__law_draw hr rfl (@jA _ _ _ _ _ (pv 0) (@jA _ _ _ _ _ jC (@jA _ _ _ _ _ (@jI _ _ _ _ _ _ _ _ qK (pv 1) jC) jB (by rfl)) (by rfl)) (by rfl)))))
   (@jH _ _ _ _ _ (z9 (i:=6) ["k","script","unit"] (kW 1 [0,4]) cA.nd rfl (by first|exact Or.inl rfl|exact Or.inr rfl) rfl (kZ (jF zU) rfl rfl (by decide +kernel) (by decide +kernel) (by decide +kernel)) (qA 1 [0,4] rfl rfl (by decide +kernel)) (vD (by rfl) T.z_range (jA (pv 5) jB)) (fun _ _ _ _ _=>(j8 (i:=0) (show List.Nodup (["k","script","unit"]:List Str) from by decide +kernel) rfl (by first|exact Or.inl rfl|exact Or.inr rfl))) (fun _ _ _ _ _=>qZ) (fun _ _ _ _ _=>(jM D__law_reach hr rfl (@jA _ _ _ _ _ (pv 1) (@jA _ _ _ _ _ (pv 0) (@jA _ _ _ _ _ (pv 2) jB (by rfl)) (by rfl)) (by rfl)))))
   (@jH _ _ _ _ _ (z9 (i:=7) ["k","script","many","unit"] (kW 1 [0,5,4]) cA.nd rfl (by first|exact Or.inl rfl|exact Or.inr rfl) rfl (kZ (jF zU) rfl rfl (by decide +kernel) (by decide +kernel) (by decide +kernel)) (qA 1 [0,5,4] rfl rfl (by decide +kernel)) (vD (by rfl) T.z_range (jA (@jI _ _ _ _ _ _ _ _ jX jC (jM D__law_draw hr rfl (@jA _ _ _ _ _ (pv 0) (@jA _ _ _ _ _ jC (@jA _ _ _ _ _ (pv 2) jB (by rfl)) (by rfl)) (by rfl)))) jB)) (fun _ _ _ _ _=>(j8 (i:=0) (show List.Nodup (["k","script","many","unit"]:List Str) from by decide +kernel) rfl (by first|exact Or.inl rfl|exact Or.inr rfl))) (fun _ _ _ _ _=>qZ) (fun _ _ _ _ _=>(jM D__law_lock hr rfl (@jA _ _ _ _ _ (pv 1) (@jA _ _ _ _ _ (pv 0) (@jA _ _ _ _ _ (pv 2) (@jA _ _ _ _ _ (pv 3) jB (by rfl)) (by rfl)) (by rfl)) (by rfl)))))
   (@jH _ _ _ _ _ (z9 (i:=8) ["k","script","many","unit"] (kW 1 [0,5,4]) cA.nd rfl (by first|exact Or.inl rfl|exact Or.inr rfl) rfl (kZ (jF zU) rfl rfl (by decide +kernel) (by decide +kernel) (by decide +kernel)) (qA 1 [0,5,4] rfl rfl (by decide +kernel)) (vD (by rfl) T.z_range (jA (jM D__law_draw hr rfl (@jA _ _ _ _ _ (pv 0) (@jA _ _ _ _ _ jC (@jA _ _ _ _ _ (@jI _ _ _ _ _ _ _ _ jX (pv 3) jC) jB (by rfl)) (by rfl)) (by rfl))) jB)) (fun _ _ _ _ _=>(j8 (i:=0) (show List.Nodup (["k","script","many","unit"]:List Str) from by decide +kernel) rfl (by first|exact Or.inl rfl|exact Or.inr rfl))) (fun _ _ _ _ _=>qZ) (fun _ _ _ _ _=>(jM D__law_weather hr rfl (@jA _ _ _ _ _ (pv 1) (@jA _ _ _ _ _ (pv 0) (@jA _ _ _ _ _ (pv 2) (@jA _ _ _ _ _ (pv 3) jB (by rfl)) (by rfl)) (by rfl)) (by rfl)))))
   (@jJ _ _ _ (@jN _ _ _ _ (eK M_Canal hr rfl (@jA _ _ _ _ _ (pv 6) (@jA _ _ _ _ _ (pv 7) (@jA _ _ _ _ _ (pv 8) jB (by rfl)) (by rfl)) (by rfl)))))))))),?_⟩
 refine ⟨_,rfl,s,ns,rfl,hS,h63,fun u hv0 hv1=>?_⟩
 refine ⟨_,rfl,_,rfl,jP (⟨s,ns,_,_,rfl,hS,h63,by omega,by omega,by omega,fun m0 m00 m01=>?_⟩)⟩
 refine ⟨_,_,rfl,rfl,?_⟩
 obtain ⟨n,hn⟩:∃n:Nat,2+m0=(n:Int):=⟨(2+m0).toNat,by omega⟩
 try dsimp only
 rw [hn]
 have hn2:2≤n:=by omega
 have hn8:n≤8:=by omega
 refine ⟨_,rfl,_,rfl,by omega,by omega,fun rl hrl0=>?_⟩
 refine y6 (n:=((n:Nat):Int).toNat) (caps:=[some (.ref s),some (.int u)]) (fun i ys Hi=>∃R:List RC,AllAt (RcO cR Hi) ys R∧R.length=i∧∀(j:Nat) (r:RC),R[j]?=some r→r.good j) hrl0 ⟨[],AllAt.nil,rfl,fun j r hj=>by cases hj⟩ ?_ ?_
 ·rintro i ys Hi hi hle sm hY ⟨R,hR,hRl,hRg⟩
  rw [Int.toNat_natCast] at hi
  rw [Int.zero_add]
  refine q9 (kU ⟨_,rfl,_,rfl,_,rfl,s,ns,i,u,rfl,sm.seq hS,h63,by omega,hv0,hv1,fun x r H' hg s' hx0 hx=>qU hrl0 sm hY hle (by omega) s' ?_⟩)
  refine ⟨R++[r],((hR.mono (RcO.same s')).snoc (v:=.ref x) (x:=r) ⟨x,rfl,hx⟩).mono (RcO.keep ((Keep.refl rl H').upd _) (s' _ _ hY)),by rw [List.length_append,hRl];rfl,fun j r' hj=>?_⟩
  by_cases hl:j<R.length
  ·rw [List.getElem?_append_left hl] at hj;exact hRg j r' hj
  ·rw [List.getElem?_append_right (by omega)] at hj
   have hz:j - R.length=0:=by
    have:=(List.getElem?_eq_some_iff.mp hj).1
    rw [List.length_singleton] at this
    omega
   rw [hz] at hj
   cases hj
   rw [show j=i by omega]
   exact hg
 rintro rs H1 s1 hrl hle1 ⟨R,hR,hRl,hRg⟩
 rw [Int.toNat_natCast] at hRl
 refine ⟨_,rfl,_,rfl,s,ns,_,_,rfl,s1.seq hS,h63,by omega,by omega,by omega,fun m1 m10 m11=>?_⟩
 refine ⟨_,_,rfl,rfl,?_⟩
 obtain ⟨m,hm⟩:∃m:Nat,1+m1=(m:Int):=⟨(1+m1).toNat,by omega⟩
 try dsimp only
 rw [hm]
 refine ⟨_,rfl,by omega,by omega,fun ll hll0=>?_⟩
 refine y6 (n:=((m:Nat):Int).toNat) (caps:=[some (.ref s),some (.int (n:Int)),some (.int u)]) (fun i ys Hi=>∃L:List LC,AllAt (LkO (jG cP cB cU) Hi) ys L∧L.length=i∧∀l∈L,l.good n) hll0 ⟨[],AllAt.nil,rfl,fun l hl=>by cases hl⟩ ?_ ?_
 ·rintro i ys Hi hi hle sm hY ⟨L,hL,hLl,hLg⟩
  rw [Int.toNat_natCast] at hi
  rw [Int.zero_add]
  refine q9 (kU ⟨_,rfl,_,rfl,_,rfl,_,rfl,s,ns,i,n,u,rfl,(s1.trans sm).seq hS,h63,by omega,hn2,hn8,hv0,hv1,fun x l H' hg s' hx0 hx=>qU hll0 sm hY hle (by omega) s' ?_⟩)
  refine ⟨L++[l],((hL.mono (LkO.same s')).snoc (v:=.ref x) (x:=l) hx).mono (LkO.keep ((Keep.refl ll H').upd _) (s' _ _ hY)),by rw [List.length_append,hLl];rfl,fun l' hl'=>?_⟩
  rcases List.mem_append.mp hl' with hl'|hl'
  ·exact hLg l' hl'
  ·rw [List.mem_singleton.mp hl'];exact hg
 rintro ls H2 s2 hll hle2 ⟨L,hL,hLl,hLg⟩
 rw [Int.toNat_natCast] at hLl
 have s12:=s1.trans s2
 refine ⟨_,rfl,_,rfl,jP (⟨s,ns,_,_,rfl,s12.seq hS,h63,by omega,by omega,by omega,fun m2 m20 m21=>?_⟩)⟩
 obtain ⟨c,hc⟩:∃c:Nat,m2=(c:Int):=⟨m2.toNat,by omega⟩
 rw [hc]
 refine ⟨_,rfl,by omega,by omega,fun nl hnl0=>?_⟩
 refine y6 (n:=((c:Nat):Int).toNat) (caps:=[some (.ref s),some (.int (n:Int)),some (.int u)]) (fun i ys Hi=>∃N:List (List (Int×Int)),AllAt (NAt [nl] Hi) ys N∧N.length=i∧(∀p∈N,∀q∈p,0≤q.1∧0≤q.2)∧∀p∈N,p.length=n) hnl0 ⟨[],AllAt.nil,rfl,(fun l hl=>by cases hl),fun l hl=>by cases hl⟩ ?_ ?_
 ·rintro i ys Hi hi hle sm hY ⟨N,hN,hNl,hNn,hNg⟩
  rw [Int.toNat_natCast] at hi
  rw [Int.zero_add]
  refine q9 (kU ⟨_,rfl,_,rfl,_,rfl,_,rfl,s,ns,i,n,u,rfl,(s12.trans sm).seq hS,h63,by omega,hn8,hv0,hv1,fun l p H' hg hgn s' hl0 hl=>qU hnl0 sm hY hle (by omega) s' ?_⟩)
  obtain ⟨l',qs,e,h1,h2,_⟩:=hl
  cases e
  refine ⟨N++[p],((hN.mono (NAt.same s')).snoc (v:=.ref l) (x:=p) ⟨l,qs,rfl,h1,h2,fun z=>qI hY hl0 (List.mem_singleton.mp z).symm⟩).mono (NAt.put (s' _ _ hY) (by simp)),by rw [List.length_append,hNl];rfl,(fun p' hp'=>(List.mem_append.mp hp').elim (hNn p') fun h=>by rw [List.mem_singleton.mp h];exact hgn),fun p' hp'=>?_⟩
  rcases List.mem_append.mp hp' with hp'|hp'
  ·exact hNg p' hp'
  ·rw [List.mem_singleton.mp hp'];exact hg
 rintro nv H3 s3 hnl hle3 ⟨N,hN,hNl,hNn,hNg⟩
 rw [Int.toNat_natCast] at hNl
 refine ⟨_,rfl,_,rfl,_,rfl,?_⟩
 intro x dx nx ndx nex
 have v:=fun o o'=>eD (o:=o) (o':=o') nx ndx
 refine ⟨x,dx,rl,ll,_,rs,ls,R,L,N,rfl,jE,v _ _ _ _ (s3 _ _ (s2 _ _ hrl)),v _ _ _ _ (s3 _ _ hll),(hR.mono (RcO.same (s2.trans s3))).mono (RcO.same (v _ _)),(hL.mono (LkO.same s3)).mono (LkO.same (v _ _)),.inr ⟨nl,nv,rfl,v _ _ _ _ hnl,(hN.mono (NAt.same (v _ _))).mono (NAt.less (by simp)),by rw [hN.1];omega⟩,fun H' kp hC=>⟨rfl,?_⟩⟩
 have w:=s12.trans s3
 exact q x R L N H' ⟨by omega,by omega,by omega,by omega,hRg,fun i l hl=>by rw [hRl];exact hLg l (List.mem_of_getElem? hl),fun p hp=>by rw [hRl];exact hNg p hp⟩ hNn (by omega) (by omega) (w.trans (dX nx (v _ _) kp)) (w.free nx) (hC [] (fun d hd=>nomatch hd))
theorem gZ:FnScope ["canal","reach","some","k"] ["canal","reach"] (jF Z8):=⟨rfl,rfl,rfl,by decide +kernel,rfl,by decide +kernel,by decide +kernel⟩
theorem wT {f:Addr} {fd:FuncData} (F:Fun K "_law_turns" "_law_turns" Z8 f fd) (T:Txt K mg cP cB cU cR cN tkS eW eL tkH) : FnOk P w K mg base jU 1 f fd ["canal","reach"] (rS (jG cP cB cU) cR cN):=by
 refine F.ok gZ (fun vs H Q E h=>?_) (fun cdv A outer s H vs Q E hr h=>?_)
 ·obtain ⟨x,r,D,R,L,N,rfl,⟨dx,rl,ll,nl,fs,rs,ls,ns,hx,hf,hrl,hll,hnl,hR,hL,hN,d1,d2,d3⟩,b8,q⟩:=h
  rfl
 obtain ⟨x,r,D,R,L,N,rfl,⟨dx,rl,ll,nl,fs,rs,ls,ns,hx,hf,hrl,hll,hnl,hR,hL,hN,d1,d2,d3⟩,b8,q⟩:=h
 have hu:_<cLine:=hr.units0
 have hu1:=jY hr
 refine ⟨_,(@jH _ _ _ _ _ (jQ (i:=2) gZ.nd rfl (by first|exact Or.inl rfl|exact Or.inr rfl) (kN jB))
   (@jH _ _ _ _ _ (vJ PassesOwn.never rfl (vD (by rfl) T.z_range (jA (kB kI (by rfl) T.z_len PySem.boot_len (jA (jR (pv 0) rfl) jB)) jB)) (j8 (i:=3) gZ.nd rfl (by first|exact Or.inl rfl|exact Or.inr rfl))
    (eB (kH (kD kQ (jR (jD j5 (jR (pv 0) rfl) (pv 3) (fun _ _=>rfl)) rfl) (pv 1) (j3 _)) (@jJ _ _ _ (yG (yS PySem.F.plainAttrs_list PySem.F.slot_list_append PySem.F.type_list_append yM (pv 2) (jA (kL (jA (pv 3) (jA jO jB))) jB)))) kJ)
   (@jJ _ _ _ (kH (kD kQ (jR (jD j5 (jR (pv 0) rfl) (pv 3) (fun _ _=>rfl)) rfl) (pv 1) (j3 _)) (@jJ _ _ _ (yG (yS PySem.F.plainAttrs_list PySem.F.slot_list_append PySem.F.type_list_append yM (pv 2) (jA (kL (jA (pv 3) (jA jO jB))) jB)))) kJ))))
   (@jJ _ _ _ (@jN _ _ _ _ (pv 2))))),?_⟩
 refine ⟨zz0,fun ol hol0=>?_⟩
 have s1:=jK hol0 (.lst [])
 refine ⟨_,rfl,x,cN,dx,_,_,rfl,(s1 _ _ hx),T.clN,T.nN_locks,hf.2.1,ll,_,rfl,.inl (SqL.of (s1 _ _ hll)),_,rfl,by omega,by rw [hL.1];omega,JA (n:=((ls.length:Nat):Int).toNat) (fun i σ Hi=>∃(us:List V) (c:Option V),σ=[some (.ref x),some (.int r),some (.ref ol),c]∧Hi ol=some (.lst us)∧AllAt (PAt Hi) us (JV L r i)∧Same H Hi)
  ⟨[],none,rfl,jE,AllAt.nil,s1⟩ ?_ ?_⟩
 ·rintro i σ Hi hi ⟨us,c,rfl,hol,hA,sm⟩
  rw [Int.toNat_natCast,hL.1] at hi
  rw [Int.zero_add]
  obtain ⟨l,hl'⟩:∃l,L[i]?=some l:=⟨_,List.getElem?_eq_getElem hi⟩
  obtain ⟨v,hv,y,rfl,dl,hl⟩:=hL.get hl'
  have hlen:=BT L r i
  have ek:J8 L r i=(if l.low=r then [(i,true)] else [])++(if l.high=r then [(i,false)] else []):=by unfold J8;rw [hl']
  refine ⟨fun σ' H'=>∃us:List V,σ'=[some (.ref x),some (.int r),some (.ref ol),some (.int (i:Int))]∧H' ol=some (.lst us)∧AllAt (PAt H') us (JV L r i++(if l.low=r then [(i,true)] else []))∧Same H H',?_,?_⟩
  ·refine ⟨_,rfl,jT ((sm _ _ hx)) (T.clN) (T.nN_locks) (hf.2.1) (⟨_,rfl,j4 (SqL.of (sm _ _ hll)) (kE hv) (jT ((sm _ _ hl)) (T.cl l.kd) (T.n_low l.kd) (J5 l.kd _ _ _ _ _) (⟨_,rfl,rfl,_,rfl,?_⟩))⟩)⟩
   by_cases h:l.low=r
   ·refine kM (congrArg V.int h) ⟨_,rfl,.inl ⟨rfl,_,SqL.of hol⟩,_,rfl,zz2,fun tp htp=>?_⟩
    have u:=jK htp (.tup [V.int (i:Int),V.str "up"])
    refine ⟨ol,_,_,rfl,rfl,u _ _ hol,qM (by rw [hA.1];omega),_,rfl,jE,?_,kT hol0 (sm.trans u)⟩
    rw [if_pos h]
    exact ((hA.mono (PAt.same u)).snoc (v:=.ref tp) (x:=(i,true)) ⟨tp,rfl,jE⟩).mono (PAt.put (u _ _ hol))
   ·refine kF (fun z=>h (V.int.inj z)) ⟨us,rfl,hol,?_,sm⟩
    rw [if_neg h,List.append_nil]
    exact hA
  rintro σ' H' ⟨us,rfl,hol,hA,sm⟩
  have hl2:(if l.low=r then [(i,true)] else ([]:List (Nat×Bool))).length≤1:=by split<;>simp
  refine ⟨_,rfl,jT ((sm _ _ hx)) (T.clN) (T.nN_locks) (hf.2.1) (⟨_,rfl,j4 (SqL.of (sm _ _ hll)) (kE hv) (jT ((sm _ _ hl)) (T.cl l.kd) (T.n_high l.kd) (JW l.kd _ _ _ _ _) (⟨_,rfl,rfl,_,rfl,?_⟩))⟩)⟩
  by_cases h:l.high=r
  ·refine kM (congrArg V.int h) ⟨_,rfl,.inl ⟨rfl,_,SqL.of hol⟩,_,rfl,zz2,fun tp htp=>?_⟩
   have u:=jK htp (.tup [V.int (i:Int),V.str "down"])
   refine ⟨ol,_,_,rfl,rfl,u _ _ hol,qM (by rw [hA.1,List.length_append];omega),_,_,rfl,jE,?_,kT hol0 (sm.trans u)⟩
   rw [iE,ek,if_pos h,← List.append_assoc]
   exact ((hA.mono (PAt.same u)).snoc (v:=.ref tp) (x:=(i,false)) ⟨tp,rfl,jE⟩).mono (PAt.put (u _ _ hol))
  ·refine kF (fun z=>h (V.int.inj z)) ⟨us,_,rfl,hol,?_,sm⟩
   rw [iE,ek,if_neg h,List.append_nil]
   exact hA
 rintro σ Hi ⟨us,c,rfl,hol,hA,sm⟩
 rw [Int.toNat_natCast,hL.1] at hA
 exact ⟨_,rfl,q ol us Hi sm hol0 hol hA⟩
theorem zX:FnScope ["script","k","canal","most","lock","at","start","steps","j","some","step"] ["script","k","canal","most"] (jF bA):=⟨rfl,rfl,rfl,by decide +kernel,rfl,by decide +kernel,by decide +kernel⟩
theorem wV {f:Addr} {fd:FuncData} (F:Fun K "_law_way" "_law_way" bA f fd) (T:Txt K mg cP cB cU cR cN tkS eW eL tkH) (D__law_draw:Def P w K mg base 1 "_law_draw" ["script","k","many"] [] (JY K)) (D__law_turns:Def P w K mg base 1 "_law_turns" ["canal","reach"] [] (rS (jG cP cB cU) cR cN)):FnOk P w K mg base jU 2 f fd ["script","k","canal","most"] (tU K (jG cP cB cU) cR cN):=by
 refine F.ok zX (fun vs H Q E h=>?_) (fun cdv A outer s H vs Q E hr h=>?_)
 ·obtain ⟨s,x,ns,k,mo,D,R,L,N,rfl,hS,h63,hk,hm1,hm8,hc,hdr,b1,q⟩:=h
  rfl
 obtain ⟨s,x,ns,k,mo,D,R,L,N,rfl,hS,h63,hk,hm1,hm8,hc,hdr,b1,q⟩:=h
 have hu:_<cLine:=hr.units0
 have hu1:=jY hr
 refine ⟨_,(@jH _ _ _ _ _ (jQ (i:=4) zX.nd rfl (by first|exact Or.inl rfl|exact Or.inr rfl) (jD j5 (jR (pv 2) rfl) (jM D__law_draw hr rfl (@jA _ _ _ _ _ (pv 0) (@jA _ _ _ _ _ (@jI _ _ _ _ _ _ _ _ jX jC (@jI _ _ _ _ _ _ _ _ kK jC (pv 1))) (@jA _ _ _ _ _ (kB kI (by rfl) T.z_len PySem.boot_len (jA (jR (pv 2) rfl) jB)) jB (by rfl)) (by rfl)) (by rfl))) (fun _ _=>rfl)))
   (@jH _ _ _ _ _ (jQ (i:=5) zX.nd rfl (by first|exact Or.inl rfl|exact Or.inr rfl) (jD j5 (kN (jA (jR (pv 4) rfl) (jA (jR (pv 4) rfl) jB))) (jM D__law_draw hr rfl (@jA _ _ _ _ _ (pv 0) (@jA _ _ _ _ _ (@jI _ _ _ _ _ _ _ _ jX jC (@jI _ _ _ _ _ _ _ _ kK jC (pv 1))) (@jA _ _ _ _ _ jC jB (by rfl)) (by rfl)) (by rfl))) (fun _ _=>rfl)))
   (@jH _ _ _ _ _ (jQ (i:=6) zX.nd rfl (by first|exact Or.inl rfl|exact Or.inr rfl) (pv 5))
   (@jH _ _ _ _ _ (jQ (i:=7) zX.nd rfl (by first|exact Or.inl rfl|exact Or.inr rfl) (kN jB))
   (@jH _ _ _ _ _ (vJ PassesOwn.never rfl (vD (by rfl) T.z_range (jA (@jI _ _ _ _ _ _ _ _ jX jC (jM D__law_draw hr rfl (@jA _ _ _ _ _ (pv 0) (@jA _ _ _ _ _ (@jI _ _ _ _ _ _ _ _ jX jC (@jI _ _ _ _ _ _ _ _ kK jC (pv 1))) (@jA _ _ _ _ _ (pv 3) jB (by rfl)) (by rfl)) (by rfl)))) jB)) (j8 (i:=8) zX.nd rfl (by first|exact Or.inl rfl|exact Or.inr rfl))
    (@jH _ _ _ _ _ (jQ (i:=9) zX.nd rfl (by first|exact Or.inl rfl|exact Or.inr rfl) (jM D__law_turns hr rfl (jA (pv 2) (jA (pv 5) jB))))
   (@jH _ _ _ _ _ (jQ (i:=10) zX.nd rfl (by first|exact Or.inl rfl|exact Or.inr rfl) (jD j5 (pv 9) (jM D__law_draw hr rfl (@jA _ _ _ _ _ (pv 0) (@jA _ _ _ _ _ (@jI _ _ _ _ _ _ _ _ jX (@jI _ _ _ _ _ _ _ _ jX jC (@jI _ _ _ _ _ _ _ _ kK jC (pv 1))) (pv 8)) (@jA _ _ _ _ _ (kB kI (by rfl) T.z_len PySem.boot_len (jA (pv 9) jB)) jB (by rfl)) (by rfl)) (by rfl))) (fun _ _=>rfl)))
   (@jH _ _ _ _ _ (yG (yS PySem.F.plainAttrs_list PySem.F.slot_list_append PySem.F.type_list_append yM (pv 7) (jA (pv 10) jB)))
   (@jJ _ _ _ (jQ (i:=5) zX.nd rfl (by first|exact Or.inl rfl|exact Or.inr rfl) (jD j5 (kN (jA (jR (jD j5 (jR (pv 2) rfl) (jD ix_tup (pv 10) jC (fun _ _=>rfl)) (fun _ _=>rfl)) rfl) (jA (jR (jD j5 (jR (pv 2) rfl) (jD ix_tup (pv 10) jC (fun _ _=>rfl)) (fun _ _=>rfl)) rfl) jB))) (qJ QV (by rfl) T.z_int PyProof.Rows.boot_int (jA (v9 kQ (jD ix_tup (pv 10) jC (fun _ _=>rfl)) jO (j3 _)) jB)) (fun _ _=>rfl))))))))
   (@jJ _ _ _ (@jN _ _ _ _ (kL (jA (pv 6) (jA (qJ QU (by rfl) T.z_tuple PyProof.Rows.boot_tuple (jA (pv 7) jB)) jB)))))))))),?_⟩
 have hc0:=hc
 obtain ⟨dx,rl,ll,nl,fs,rs,ls,nv,hx,hf,hrl,hll,hnl,hR,hL,hN,d1,d2,d3⟩:=hc
 have b8:=hdr.l8
 refine ⟨_,rfl,jT hx (T.clN) (T.nN_locks) (hf.2.1) (⟨_,rfl,_,rfl,jP (⟨.inl ⟨by decide,by decide⟩,_,_,rfl,rfl,_,rfl,jT hx (T.clN) (T.nN_locks) (hf.2.1) (⟨ll,_,rfl,.inl (SqL.of hll),s,ns,_,_,rfl,hS,h63,by omega,by omega,by rw [hL.1];omega,fun d1 d10 d11=>?_⟩)⟩)⟩)⟩
 obtain ⟨k1,hk1⟩:∃k1:Nat,d1=(k1:Int):=⟨d1.toNat,by omega⟩
 subst hk1
 have hk1L:k1<L.length:=by rw [hL.1] at d11;omega
 obtain ⟨l0,hl0⟩:∃l,L[k1]?=some l:=⟨_,List.getElem?_eq_getElem hk1L⟩
 obtain ⟨v,hv,yl,rfl,dl,hl⟩:=hL.get hl0
 refine (j4 (SqL.of hll) (kE hv) (?_))
 refine ⟨_,rfl,jT hl (T.cl l0.kd) (T.n_low l0.kd) (J5 l0.kd _ _ _ _ _) (⟨_,rfl,jT hl (T.cl l0.kd) (T.n_high l0.kd) (JW l0.kd _ _ _ _ _) (⟨zz2,fun p1 hp1=>?_⟩)⟩)⟩
 have s1:=jK hp1 (.lst [V.int l0.low,V.int l0.high])
 refine ⟨_,rfl,_,rfl,jP (⟨.inl ⟨by decide,by decide⟩,_,_,rfl,rfl,s,ns,_,_,rfl,s1.seq hS,h63,by omega,by omega,by omega,fun d2 d20 d21=>?_⟩)⟩
 obtain ⟨a0,hat,hend⟩:∃a0:Int,qC [V.int l0.low,V.int l0.high] d2=some (.int a0)∧EndAt L a0:=by
  obtain ⟨k2,hk2⟩:∃k2:Nat,d2=(k2:Int):=⟨d2.toNat,by omega⟩
  subst hk2
  rcases k2 with _|_|k2
  ·exact ⟨l0.low,rfl,(k1,true),hk1L,by rw [JX hl0]⟩
  ·exact ⟨l0.high,rfl,(k1,false),hk1L,by rw [JT hl0]⟩
  ·omega
 refine (j4 (SqL.of jE) hat (?_))
 refine ⟨_,rfl,zz0,fun sp hsp0=>?_⟩
 have s2:=jK hsp0 (.lst [])
 have s12:=s1.trans s2
 have hsp:upd (upd H p1 (.lst [V.int l0.low,V.int l0.high])) sp (.lst []) sp=some (.lst []):=jE
 have hspf:=s1.free hsp0
 generalize upd (upd H p1 (.lst [V.int l0.low,V.int l0.high])) sp (.lst [])=H2 at s2 s12 hsp ⊢
 refine ⟨_,rfl,_,rfl,jP (⟨.inl ⟨by decide,by decide⟩,_,_,rfl,rfl,_,rfl,s,ns,_,_,rfl,s12.seq hS,h63,by omega,by omega,by omega,fun m0 m00 m01=>?_⟩)⟩
 obtain ⟨n,hn⟩:∃n:Nat,1+m0=(n:Int):=⟨(1+m0).toNat,by omega⟩
 refine ⟨_,_,rfl,rfl,(n:Int),(by show [V.int (1+m0)]=_;rw [hn]),by omega,by omega,?_⟩
 refine JA (n:=((n:Nat):Int).toNat) (fun i σ Hi=>∃(a:Int) (ps:List (Nat×Bool)) (us:List V) (c8 c9 c10:Option V),σ=[some (.ref s),some (.int (k:Int)),some (.ref x),some (.int (mo:Int)),some (.ref yl),some (.int a),some (.int a0),some (.ref sp),c8,c9,c10]∧Hi sp=some (.lst us)∧AllAt (PAt Hi) us ps∧(∀p∈ps,p.1<L.length)∧ps.length=i∧(kY L a0 ps)[ps.length]?=some a∧QD L a0 ps∧EndAt L a∧Same H Hi)
  ⟨a0,[],[],none,none,none,rfl,hsp,AllAt.nil,fun p hp=>(by cases hp),rfl,rfl,E7 _ _,hend,s12⟩ ?_ ?_
 ·rintro i σ Hi hi ⟨a,ps,us,c8,c9,c10,rfl,hsp,hA,hlt,hpl,hlast,hok,hen,sm⟩
  rw [Int.toNat_natCast] at hi
  rw [Int.zero_add]
  refine ⟨_,rfl,_,rfl,x,a,_,R,L,N,rfl,hc0.same sm,b8,fun so tus H4 s4 hso0 hso hTA=>?_⟩
  have sm4:=sm.trans s4
  have htl:=hen.turns
  refine ⟨_,rfl,_,rfl,_,rfl,jP (⟨.inl ⟨by decide,by decide⟩,_,_,rfl,rfl,_,rfl,jP (⟨_,rfl,so,_,rfl,.inl (SqL.of hso),s,ns,_,_,rfl,sm4.seq hS,h63,by omega,by omega,by rw [hTA.1];omega,fun d4 d40 d41=>?_⟩)⟩)⟩
  obtain ⟨m,hm⟩:∃m:Nat,d4=(m:Int):=⟨d4.toNat,by omega⟩
  subst hm
  have hml:m<tus.length:=by omega
  obtain ⟨p,hp,t,et,ht⟩:=hTA.2 m _ (List.getElem?_eq_getElem hml)
  obtain ⟨hpL,hpe⟩:=turns_mem.mp (List.mem_of_getElem? hp)
  refine (j4 (SqL.of hso) (kE (v:=.ref t) (by rw [List.getElem?_eq_getElem hml,et])) (?_))
  have hsp4:=s4 _ _ hsp
  refine ⟨_,rfl,.inl ⟨rfl,_,SqL.of hsp4⟩,_,rfl,sp,_,_,rfl,rfl,hsp4,qM (by rw [hA.1];omega),?_⟩
  have hA5:AllAt (PAt (upd H4 sp (.lst (us++[.ref t])))) (us++[.ref t]) (ps++[p]):=((hA.mono (PAt.same s4)).snoc ⟨t,rfl,ht⟩).mono (PAt.put hsp4)
  have sm5:Same H (upd H4 sp (.lst (us++[.ref t]))):=kT hspf sm4
  have hsp5:upd H4 sp (.lst (us++[.ref t])) sp=some (.lst (us++[.ref t])):=jE
  have ht:upd H4 sp (.lst (us++[.ref t])) t=some (.tup [.int (p.1:Int),.str (dG p.2)]):=by rw [kC (fun z=>by rw [z,hsp4] at ht;cases ht)];exact ht
  generalize upd H4 sp (.lst (us++[.ref t]))=H5 at hA5 sm5 hsp5 ht ⊢
  obtain ⟨l,hl',hlg⟩:=oI hdr hpL
  obtain ⟨w,hw,y,rfl,dl,hl⟩:=hL.get hl'
  refine ⟨_,rfl,jT ((sm5 _ _ hx)) (T.clN) (T.nN_locks) (hf.2.1) (⟨_,rfl,jL (SqT.of ht) rfl (j4 (SqL.of (sm5 _ _ hll)) (kE hw) (jT ((sm5 _ _ hl)) (T.cl l.kd) (T.n_low l.kd) (J5 l.kd _ _ _ _ _) (⟨_,rfl,jT ((sm5 _ _ hx)) (T.clN) (T.nN_locks) (hf.2.1) (⟨_,rfl,jL (SqT.of ht) rfl (j4 (SqL.of (sm5 _ _ hll)) (kE hw) (jT ((sm5 _ _ hl)) (T.cl l.kd) (T.n_high l.kd) (JW l.kd _ _ _ _ _) (⟨zz2,fun pl hpl0=>?_⟩)))⟩)⟩)))⟩)⟩
  have u:=jK hpl0 (.lst [V.int l.low,V.int l.high])
  refine ⟨_,rfl,jL (SqT.of (u _ _ ht)) rfl (⟨rfl,.inr ⟨_,rfl,?_⟩⟩)⟩
  rw [lZ]
  have hat:qC [V.int l.low,V.int l.high] (if p.2=true then 1 else 0)=some (.int (qX L p).2):=by
   obtain ⟨pk,pb⟩:=p
   cases pb
   ·rw [JT hl'];rfl
   ·rw [JX hl'];rfl
  refine (j4 (SqL.of jE) hat (?_))
  refine ⟨_,ps++[p],us++[.ref t],_,_,_,rfl,u _ _ hsp5,hA5.mono (PAt.same u),fun p' hp'=>?_,by rw [List.length_append,hpl];rfl,?_,(D9 hlast).mpr ⟨hok,hpe⟩,EndAt.next hpL,sm5.trans u⟩
  ·rcases List.mem_append.mp hp' with h|h
   ·exact hlt p' h
   ·rw [List.mem_singleton.mp h];exact hpL
  ·rw [iV,List.length_append,List.getElem?_append_right (by rw [dZ];exact Nat.le_refl _),dZ]
   show [(qX L p).2][ps.length+1 - (ps.length+1)]?=_
   rw [Nat.sub_self]
   rfl
 rintro σ Hi ⟨a,ps,us,c8,c9,c10,rfl,hsp,hA,hlt,hpl,hlast,hok,hen,sm⟩
 rw [Int.toNat_natCast] at hpl
 refine ⟨_,rfl,_,rfl,sp,us,rfl,.inl ⟨SqL.of hsp,fun st hst0=>?_⟩⟩
 have v1:=jK hst0 (.tup us)
 refine ⟨zz2,fun t ht0=>?_⟩
 have v2:=jK ht0 (.tup [V.int a0,V.ref st])
 have w:=(sm.trans v1).trans v2
 exact q t (a0,ps) _ ⟨hlt,hok,by show ps.length≤8;omega⟩ w ((sm.trans v1).free ht0) ⟨t,st,us,rfl,jE,v2 _ _ jE,hA.mono (PAt.same (v1.trans v2))⟩
theorem yZ:FnScope ["script","canal","ways","unit","many","waters","r","near","k","held","places"] ["script","canal","ways"] (jF JR):=⟨rfl,rfl,rfl,by decide +kernel,rfl,by decide +kernel,by decide +kernel⟩
theorem wR {f:Addr} {fd:FuncData} (F:Fun K "_law_state" "_law_state" JR f fd) (T:Txt K mg cP cB cU cR cN tkS eW eL tkH) (D__law_unit:Def P w K mg base 1 "_law_unit" ["script"] [] (lS K)) (D__law_draw:Def P w K mg base 1 "_law_draw" ["script","k","many"] [] (JY K)) (MP_extra:MeK P w K mg base 1 (jG cP cB cU) "extra" ["self"] (vE (jG cP cB cU) (fun kd v=>V.int (match kd with|.plain=>0|.basin=>v|.pump=>v)))) (MP_kind:MeK P w K mg base 1 (jG cP cB cU) "kind" ["self"] (vE (jG cP cB cU) (fun kd _=>V.str (match kd with|.plain=>"plain"|.basin=>"basin"|.pump=>"pump")))):FnOk P w K mg base jU 2 f fd ["script","canal","ways"] (rT K (jG cP cB cU) cR cN):=by
 refine F.ok yZ (fun vs H Q E h=>?_) (fun cdv A outer s H vs Q E hr h=>?_)
 ·obtain ⟨s,x,wl,ns,us,ys,D,R,L,N,rfl,hS,h63,hc,hdr,hwl,hA,h10,hok,q⟩:=h
  rfl
 obtain ⟨s,x,wl,ns,us,ys,D,R,L,N,rfl,hS,h63,hc,hdr,hwl,hA,h10,hok,q⟩:=h
 have hu:_<cLine:=hr.units0
 have hu1:=jY hr
 refine ⟨_,(@jH _ _ _ _ _ (jQ (i:=3) yZ.nd rfl (by first|exact Or.inl rfl|exact Or.inr rfl) (jM D__law_unit hr rfl (jA (pv 0) jB)))
   (@jH _ _ _ _ _ (jQ (i:=4) yZ.nd rfl (by first|exact Or.inl rfl|exact Or.inr rfl) (kB kI (by rfl) T.z_len PySem.boot_len (jA (jR (pv 1) rfl) jB)))
   (@jH _ _ _ _ _ (jQ (i:=5) yZ.nd rfl (by first|exact Or.inl rfl|exact Or.inr rfl) (kN jB))
   (@jH _ _ _ _ _ (vJ PassesOwn.never rfl (vD (by rfl) T.z_range (jA (pv 4) jB)) (j8 (i:=6) yZ.nd rfl (by first|exact Or.inl rfl|exact Or.inr rfl))
    (@jH _ _ _ _ _ (jQ (i:=7) yZ.nd rfl (by first|exact Or.inl rfl|exact Or.inr rfl) (jD j5 (kN (@jA _ _ _ _ _ jC (@jA _ _ _ _ _ (jR (jD j5 (jR (pv 1) rfl) (pv 6) (fun _ _=>rfl)) rfl) (@jA _ _ _ _ _ (jR (jD j5 (jR (pv 1) rfl) (pv 6) (fun _ _=>rfl)) rfl) jB (by rfl)) (by rfl)) (by rfl))) (jM D__law_draw hr rfl (@jA _ _ _ _ _ (pv 0) (@jA _ _ _ _ _ (@jI _ _ _ _ _ _ _ _ jX jC (@jI _ _ _ _ _ _ _ _ kK jC (pv 6))) (@jA _ _ _ _ _ jC jB (by rfl)) (by rfl)) (by rfl))) (fun _ _=>rfl)))
   (@jJ _ _ _ (yG (yS PySem.F.plainAttrs_list PySem.F.slot_list_append PySem.F.type_list_append yM (pv 5) (jA (@jI _ _ _ _ _ _ _ _ jX (@jI _ _ _ _ _ _ _ _ jX (pv 7) (@jI _ _ _ _ _ _ _ _ kK (jM D__law_draw hr rfl (@jA _ _ _ _ _ (pv 0) (@jA _ _ _ _ _ (@jI _ _ _ _ _ _ _ _ jX jC (@jI _ _ _ _ _ _ _ _ kK jC (pv 6))) (@jA _ _ _ _ _ jC jB (by rfl)) (by rfl)) (by rfl))) (pv 3))) (jM D__law_draw hr rfl (@jA _ _ _ _ _ (pv 0) (@jA _ _ _ _ _ (@jI _ _ _ _ _ _ _ _ jX jC (@jI _ _ _ _ _ _ _ _ kK jC (pv 6))) (@jA _ _ _ _ _ jC jB (by rfl)) (by rfl)) (by rfl)))) jB))))))
   (@jH _ _ _ _ _ (vJ PassesOwn.never rfl (vD (by rfl) T.z_range (jA (kB kI (by rfl) T.z_len PySem.boot_len (jA (jR (pv 1) rfl) jB)) jB)) (j8 (i:=8) yZ.nd rfl (by first|exact Or.inl rfl|exact Or.inr rfl))
    (@jJ _ _ _ (yG (yS PySem.F.plainAttrs_list PySem.F.slot_list_append PySem.F.type_list_append yM (pv 5) (jA (@jI _ _ _ _ _ _ _ _ kK (jR (jD j5 (jR (pv 1) rfl) (pv 8) (fun _ _=>rfl)) rfl) (jM D__law_draw hr rfl (@jA _ _ _ _ _ (pv 0) (@jA _ _ _ _ _ (@jI _ _ _ _ _ _ _ _ jX jC (pv 8)) (@jA _ _ _ _ _ jC jB (by rfl)) (by rfl)) (by rfl)))) jB)))))
   (@jH _ _ _ _ _ (vJ PassesOwn.never rfl (vD (by rfl) T.z_range (jA (kB kI (by rfl) T.z_len PySem.boot_len (jA (jR (pv 1) rfl) jB)) jB)) (j8 (i:=8) yZ.nd rfl (by first|exact Or.inl rfl|exact Or.inr rfl))
    (@jH _ _ _ _ _ (jQ (i:=9) yZ.nd rfl (by first|exact Or.inl rfl|exact Or.inr rfl) (jD j5 (kN (@jA _ _ _ _ _ jC (@jA _ _ _ _ _ (zO MP_extra hr (jD j5 (jR (pv 1) rfl) (pv 8) (fun _ _=>rfl))) (@jA _ _ _ _ _ (@jI _ _ _ _ _ _ _ _ fR (zO MP_extra hr (jD j5 (jR (pv 1) rfl) (pv 8) (fun _ _=>rfl))) jC) jB (by rfl)) (by rfl)) (by rfl))) (jM D__law_draw hr rfl (@jA _ _ _ _ _ (pv 0) (@jA _ _ _ _ _ (@jI _ _ _ _ _ _ _ _ jX jC (pv 8)) (@jA _ _ _ _ _ jC jB (by rfl)) (by rfl)) (by rfl))) (fun _ _=>rfl)))
   (@jJ _ _ _ (yG (yS PySem.F.plainAttrs_list PySem.F.slot_list_append PySem.F.type_list_append yM (pv 5) (jA (jD j5 (kN (jA jC (jA (pv 9) jB))) (qJ QV (by rfl) T.z_int PyProof.Rows.boot_int (jA (v9 kQ (zO MP_kind hr (jD j5 (jR (pv 1) rfl) (pv 8) (fun _ _=>rfl))) jO (j3 _)) jB)) (fun _ _=>rfl)) jB))))))
   (@jH _ _ _ _ _ (yG (yS PySem.F.plainAttrs_list PySem.F.slot_list_append PySem.F.type_list_append yM (pv 5) (jA (@jI _ _ _ _ _ _ _ _ kK (jM D__law_draw hr rfl (@jA _ _ _ _ _ (pv 0) (@jA _ _ _ _ _ jC (@jA _ _ _ _ _ jC jB (by rfl)) (by rfl)) (by rfl))) (pv 3)) jB)))
   (@jH _ _ _ _ _ (yG (yS PySem.F.plainAttrs_list PySem.F.slot_list_append PySem.F.type_list_append yM (pv 5) (jA (@jI _ _ _ _ _ _ _ _ qK (jM D__law_draw hr rfl (@jA _ _ _ _ _ (pv 0) (@jA _ _ _ _ _ jC (@jA _ _ _ _ _ jC jB (by rfl)) (by rfl)) (by rfl))) (@jI _ _ _ _ _ _ _ _ kK jC (pv 3))) jB)))
   (@jH _ _ _ _ _ (jQ (i:=10) yZ.nd rfl (by first|exact Or.inl rfl|exact Or.inr rfl) (qV ["k","script","ways"] (kW 1 [0,2]) rfl (kZ (jF JR) rfl rfl (by decide +kernel) (by decide +kernel) (by decide +kernel)) (qA 1 [0,2] rfl rfl (by decide +kernel)) (vD (by rfl) T.z_range (jA (kB kI (by rfl) T.z_len PySem.boot_len (jA (pv 2) jB)) jB)) (fun _ _ _ _ _=>(j8 (i:=0) (show List.Nodup (["k","script","ways"]:List Str) from by decide +kernel) rfl (by first|exact Or.inl rfl|exact Or.inr rfl))) (fun _ _ _ _ _=>qZ) (fun _ _ _ _ _=>(jM D__law_draw hr rfl (@jA _ _ _ _ _ (pv 1) (@jA _ _ _ _ _ (@jI _ _ _ _ _ _ _ _ jX jC (pv 0)) (@jA _ _ _ _ _ (@jI _ _ _ _ _ _ _ _ jX jC (kB (nL K) (by rfl) T.z_len PySem.boot_len (jA (jD (qO K) (jD (JC K) (pv 2) (pv 0) (fun _ _=>rfl)) jC (fun _ _=>rfl)) jB))) jB (by rfl)) (by rfl)) (by rfl))))))
   (@jH _ _ _ _ _ (jQ (i:=10) yZ.nd rfl (by first|exact Or.inl rfl|exact Or.inr rfl) (qV ["k","places","ways"] (kW 1 [10,2]) rfl (kZ (jF JR) rfl rfl (by decide +kernel) (by decide +kernel) (by decide +kernel)) (qA 1 [10,2] rfl rfl (by decide +kernel)) (vD (by rfl) T.z_range (jA (kB kI (by rfl) T.z_len PySem.boot_len (jA (pv 2) jB)) jB)) (fun _ _ _ _ _=>(j8 (i:=0) (show List.Nodup (["k","places","ways"]:List Str) from by decide +kernel) rfl (by first|exact Or.inl rfl|exact Or.inr rfl))) (fun _ _ _ _ _=>qZ) (fun _ _ _ _ _=>(kB (iW rfl) (by rfl) T.z_min PyProof.Rows.boot_min (jA (jD (JC K) (pv 1) (pv 0) (fun _ _=>rfl)) (jA (kB (nL K) (by rfl) T.z_len PySem.boot_len (jA (jD (qO K) (jD (JC K) (pv 2) (pv 0) (fun _ _=>rfl)) jC (fun _ _=>rfl)) jB)) jB))))))
   (@jJ _ _ _ (@jN _ _ _ _ (kL (@jA _ _ _ _ _ (jM D__law_draw hr rfl (@jA _ _ _ _ _ (pv 0) (@jA _ _ _ _ _ jC (@jA _ _ _ _ _ (@jI _ _ _ _ _ _ _ _ jX (kB kI (by rfl) T.z_len PySem.boot_len (jA (jR (pv 1) rfl) jB)) jC) jB (by rfl)) (by rfl)) (by rfl))) (@jA _ _ _ _ _ (qJ QU (by rfl) T.z_tuple PyProof.Rows.boot_tuple (jA (pv 5) jB)) (@jA _ _ _ _ _ (qJ QU (by rfl) T.z_tuple PyProof.Rows.boot_tuple (jA (pv 10) jB)) jB (by rfl)) (by rfl)) (by rfl))))))))))))))),?_⟩
 have hc0:=hc
 obtain ⟨dx,rl,ll,nl,fs,rs,ls,nv,hx,hf,hrl,hll,hnl,hR,hL,hN,d1,d2,d3⟩:=hc
 have b1:=hdr.r8
 have b2:=hdr.l8
 have b3:=hdr.n6
 refine ⟨_,rfl,s,ns,rfl,hS,h63,fun un hv0 hv1=>?_⟩
 refine ⟨_,rfl,jT hx (T.clN) (T.nN_reaches) (hf.1) (⟨rl,_,rfl,.inl (SqL.of hrl),?_⟩)⟩
 rw [hR.1]
 refine ⟨zz0,fun wa hwa0=>?_⟩
 refine ⟨_,rfl,_,rfl,by omega,by omega,JA (n:=((R.length:Nat):Int).toNat) (fun i σ Hi=>∃(ms:List Int) (c6 c7:Option V),σ=[some (.ref s),some (.ref x),some (.ref wl),some (.int un),some (.int (R.length:Int)),some (.ref wa),c6,c7,none,none,none]∧Hi wa=some (.lst (ms.map V.int))∧ms.length=i∧StTo R L ms∧Same H Hi) ⟨[],none,none,rfl,jE,rfl,StTo.nil R L,jK hwa0 _⟩ ?_ ?_⟩
 ·rintro i σ Hi hi ⟨ms,c6,c7,rfl,hwa,hml,hto,sm⟩
  rw [Int.toNat_natCast] at hi
  rw [Int.zero_add]
  obtain ⟨r,hr⟩:∃r,R[i]?=some r:=⟨_,List.getElem?_eq_getElem hi⟩
  obtain ⟨v,hv,y,rfl,dy,gs,hy,hg⟩:=hR.get hr
  refine ⟨_,rfl,jT ((sm _ _ hx)) (T.clN) (T.nN_reaches) (hf.1) (⟨_,rfl,j4 (SqL.of (sm _ _ hrl)) (kE hv) (jT ((sm _ _ hy)) (T.clR) (T.nR_least) (hg.2.1) (⟨_,rfl,jT ((sm _ _ hx)) (T.clN) (T.nN_reaches) (hf.1) (⟨_,rfl,j4 (SqL.of (sm _ _ hrl)) (kE hv) (jT ((sm _ _ hy)) (T.clR) (T.nR_crest) (hg.2.2.1) (⟨zz3,fun p1 hp1=>?_⟩))⟩)⟩))⟩)⟩
  have u:=jK hp1 (.lst ([(0:Int),r.least,r.crest].map V.int))
  have smu:=sm.trans u
  refine ⟨_,rfl,_,rfl,jP (⟨.inl ⟨by decide,by decide⟩,_,_,rfl,rfl,s,ns,_,_,rfl,smu.seq hS,h63,by omega,by omega,by omega,fun d1 d10 d11=>?_⟩)⟩
  obtain ⟨ne,hne,hat⟩:=gA [(0:Int),r.least,r.crest] d10 d11
  refine (j4 (SqL.of jE) hat (?_))
  have hwau:=u _ _ hwa
  refine ⟨_,rfl,.inl ⟨rfl,_,SqL.of hwau⟩,_,rfl,_,rfl,_,rfl,jP (⟨.inl ⟨by decide,by decide⟩,_,_,rfl,rfl,s,ns,_,_,rfl,smu.seq hS,h63,by omega,by omega,by omega,fun d2 d20 d21=>?_⟩)⟩
  refine ⟨_,rfl,jP (⟨.inl ⟨by omega,by omega⟩,_,_,rfl,rfl,_,rfl,_,rfl,jP (⟨.inl ⟨by decide,by decide⟩,_,_,rfl,rfl,s,ns,_,_,rfl,smu.seq hS,h63,by omega,by omega,by omega,fun d3 d30 d31=>?_⟩)⟩)⟩
  refine ⟨_,_,rfl,rfl,wa,_,_,rfl,rfl,hwau,qM (by rw [List.length_map];omega),?_⟩
  have hgd:=hdr.good i r hr
  have hn0:0≤ne:=by
   obtain ⟨g1,g2,_⟩:=hgd
   simp only [List.mem_cons,List.mem_nil_iff,or_false] at hne
   rcases hne with rfl|rfl|rfl<;>omega
  have hm0:=(J3 d20 (show d2≤4 by omega) hv0 hv1 (by decide)).1
  exact ⟨ms++[ne+d2*un+d3],_,_,rfl,by rw [jE,dR],by rw [List.length_append,hml];rfl,hto.snoc hml (CU hi (by omega)),kT hwa0 smu⟩
 rintro σ Hi ⟨ms,c6,c7,rfl,hwa,hml,hto,sm⟩
 rw [Int.toNat_natCast] at hml
 refine ⟨_,rfl,jT ((sm _ _ hx)) (T.clN) (T.nN_locks) (hf.2.1) (⟨ll,_,rfl,.inl (SqL.of (sm _ _ hll)),_,rfl,by omega,by rw [hL.1];omega,JA (n:=((ls.length:Nat):Int).toNat) (fun i σ Hi=>∃(ms:List Int) (c8:Option V),σ=[some (.ref s),some (.ref x),some (.ref wl),some (.int un),some (.int (R.length:Int)),some (.ref wa),c6,c7,c8,none,none]∧Hi wa=some (.lst (ms.map V.int))∧ms.length=R.length+i∧StTo R L ms∧Same H Hi) ⟨ms,none,rfl,hwa,by omega,hto,sm⟩ ?_ ?_⟩)⟩
 ·rintro i σ Hi hi ⟨ms,c8,rfl,hwa,hml,hto,sm⟩
  rw [Int.toNat_natCast,hL.1] at hi
  rw [Int.zero_add]
  obtain ⟨l,hl'⟩:∃l,L[i]?=some l:=⟨_,List.getElem?_eq_getElem hi⟩
  obtain ⟨v,hv,y,rfl,dl,hl⟩:=hL.get hl'
  refine ⟨_,rfl,.inl ⟨rfl,_,SqL.of hwa⟩,_,rfl,jT ((sm _ _ hx)) (T.clN) (T.nN_locks) (hf.2.1) (⟨_,rfl,j4 (SqL.of (sm _ _ hll)) (kE hv) (jT ((sm _ _ hl)) (T.cl l.kd) (T.n_room l.kd) (yO l.kd _ _ _ _ _) (⟨_,rfl,_,rfl,jP (⟨s,ns,_,_,rfl,sm.seq hS,h63,by omega,by omega,by omega,fun d1 d10 d11=>?_⟩)⟩))⟩)⟩
  refine ⟨_,_,rfl,rfl,.inr ⟨by omega,by omega⟩,wa,_,_,rfl,rfl,hwa,qM (by rw [List.length_map];omega),?_⟩
  have hz:l.room*d1=0∨l.room*d1=l.room:=by
   rcases (show d1=0∨d1=1 by omega) with rfl|rfl
   ·exact .inl (Int.mul_zero _)
   ·exact .inr (Int.mul_one _)
  exact ⟨ms++[l.room*d1],_,rfl,by rw [jE,dR],by rw [List.length_append,hml];rfl,hto.snoc hml (DS hl' hz),kT hwa0 sm⟩
 rintro σ Hi ⟨ms,c8,rfl,hwa,hml,hto,sm⟩
 rw [Int.toNat_natCast,hL.1] at hml
 refine ⟨_,rfl,jT ((sm _ _ hx)) (T.clN) (T.nN_locks) (hf.2.1) (⟨ll,_,rfl,.inl (SqL.of (sm _ _ hll)),_,rfl,by omega,by rw [hL.1];omega,JA (n:=((ls.length:Nat):Int).toNat) (fun i σ Hi=>∃(ms:List Int) (c8 c9:Option V),σ=[some (.ref s),some (.ref x),some (.ref wl),some (.int un),some (.int (R.length:Int)),some (.ref wa),c6,c7,c8,c9,none]∧Hi wa=some (.lst (ms.map V.int))∧ms.length=R.length+L.length+i∧StTo R L ms∧Same H Hi) ⟨ms,c8,none,rfl,hwa,by omega,hto,sm⟩ ?_ ?_⟩)⟩
 ·rintro i σ Hi hi ⟨ms,c8,c9,rfl,hwa,hml,hto,sm⟩
  rw [Int.toNat_natCast,hL.1] at hi
  rw [Int.zero_add]
  obtain ⟨l,hl'⟩:∃l,L[i]?=some l:=⟨_,List.getElem?_eq_getElem hi⟩
  obtain ⟨v,hv,y,rfl,dl,hl⟩:=hL.get hl'
  have hl2:=sm _ _ hl
  have key:∀e:Int,(match l.kd with|.plain=>(0:Int)|.basin=>l.extra|.pump=>l.extra)=e→∃f:Int,f=e:=fun e _=>⟨e,rfl⟩
  refine ⟨_,rfl,jT ((sm _ _ hx)) (T.clN) (T.nN_locks) (hf.2.1) (⟨_,rfl,j4 (SqL.of (sm _ _ hll)) (kE hv) (⟨l.kd,y,dl,_,rfl,hl2,cL l.kd _ _ _ _ _,y,_,_,_,_,_,rfl,⟨dl,hl2⟩,_,rfl,jT ((sm _ _ hx)) (T.clN) (T.nN_locks) (hf.2.1) (⟨_,rfl,j4 (SqL.of (sm _ _ hll)) (kE hv) (⟨l.kd,y,dl,_,rfl,hl2,cL l.kd _ _ _ _ _,y,_,_,_,_,_,rfl,⟨dl,hl2⟩,_,_,rfl,rfl,⟨by decide,by decide⟩,zz3,fun p1 hp1=>?_⟩)⟩)⟩)⟩)⟩
  try dsimp only
  generalize hex:(match l.kd with|.plain=>(0:Int)|.basin=>l.extra|.pump=>l.extra)=ex
  have u:=jK hp1 (.lst ([(0:Int),ex,ex / 2].map V.int))
  have smu:=sm.trans u
  refine ⟨_,rfl,_,rfl,jP (⟨s,ns,_,_,rfl,smu.seq hS,h63,by omega,by omega,by omega,fun d1 d10 d11=>?_⟩)⟩
  obtain ⟨he,hhe,hat⟩:=gA [(0:Int),ex,ex / 2] d10 d11
  refine (j4 (SqL.of jE) hat (?_))
  have hwau:=u _ _ hwa
  have hl2:=smu _ _ hl
  refine ⟨_,rfl,.inl ⟨rfl,_,SqL.of hwau⟩,_,rfl,zz2,fun p2 hp2=>?_⟩
  have u2:=jK hp2 (.lst ([(0:Int),he].map V.int))
  have smv:=smu.trans u2
  have hl2:=u2 _ _ hl2
  refine ⟨_,rfl,jT ((smv _ _ hx)) (T.clN) (T.nN_locks) (hf.2.1) (⟨_,rfl,j4 (SqL.of (smv _ _ hll)) (kE hv) (⟨l.kd,y,dl,_,rfl,hl2,JF l.kd _ _ _ _ _,y,_,_,_,_,_,rfl,⟨dl,hl2⟩,rfl,.inr ⟨_,rfl,?_⟩⟩)⟩)⟩
  obtain ⟨he2,hat2,hb2⟩:∃he2:Int,qC ([(0:Int),he].map V.int) (if decide (V.str (match l.kd with|.plain=>"plain"|.basin=>"basin"|.pump=>"pump")=V.str "basin")=true then 1 else 0)=some (.int he2)∧0≤he2∧(l.kd=.basin→he2≤l.extra)∧(l.kd≠.basin→he2=0):=by
   obtain ⟨_,_,_,_,_,_,g7,g8⟩:=hdr.lock i l hl'
   cases hkd:l.kd with
   |plain=>exact ⟨0,by rw [cS (fun z=>absurd (V.str.inj z) (show ¬("plain":Str)="basin" by decide +kernel))];rfl,Int.le_refl _,(fun z=>nomatch z),fun _=>rfl⟩
   |pump=>exact ⟨0,by rw [cS (fun z=>absurd (V.str.inj z) (show ¬("pump":Str)="basin" by decide +kernel))];rfl,Int.le_refl _,(fun z=>nomatch z),fun _=>rfl⟩
   |basin =>
    have g8:=g8 (by rw [hkd];exact fun z=>nomatch z)
    rw [hkd] at hex
    have hex:l.extra=ex:=hex
    have:0≤he∧he≤l.extra:=by
     simp only [List.mem_cons,List.mem_nil_iff,or_false] at hhe
     rcases hhe with rfl|rfl|rfl<;>omega
    exact ⟨he,by rw [fT rfl];rfl,this.1,fun _=>this.2,fun z=>absurd rfl z⟩
  refine (j4 (SqL.of jE) hat2 (⟨wa,_,_,rfl,rfl,u2 _ _ hwau,qM (by rw [List.length_map];omega),?_⟩))
  exact ⟨ms++[he2],_,_,rfl,by rw [jE,dR],by rw [List.length_append,hml];rfl,hto.snoc hml (ES hl' hb2),kT hwa0 smv⟩
 rintro σ Hi ⟨ms,c8,c9,rfl,hwa,hml,hto,sm⟩
 rw [Int.toNat_natCast,hL.1] at hml
 refine ⟨_,rfl,.inl ⟨rfl,_,SqL.of hwa⟩,_,rfl,s,ns,_,_,rfl,sm.seq hS,h63,by omega,by omega,by omega,fun d1 d10 d11=>?_⟩
 refine ⟨_,rfl,jP (⟨.inl ⟨by omega,by omega⟩,wa,_,_,rfl,rfl,hwa,qM (by rw [List.length_map];omega),?_⟩)⟩
 try dsimp only
 rw [dR]
 have sm1:Same H (upd Hi wa (.lst ((ms++[d1*un]).map V.int))):=kT hwa0 sm
 have hwa1:upd Hi wa (.lst ((ms++[d1*un]).map V.int)) wa=_:=jE
 generalize upd Hi wa (.lst ((ms++[d1*un]).map V.int))=H1 at sm1 hwa1 ⊢
 refine ⟨_,rfl,.inl ⟨rfl,_,SqL.of hwa1⟩,_,rfl,s,ns,_,_,rfl,sm1.seq hS,h63,by omega,by omega,by omega,fun d2 d20 d21=>?_⟩
 refine ⟨_,rfl,jP (⟨.inl ⟨by decide,by decide⟩,_,_,rfl,rfl,wa,_,_,rfl,rfl,hwa1,qM (by rw [List.length_map,List.length_append,List.length_singleton];omega),?_⟩)⟩
 try dsimp only
 rw [dR]
 have hml2:(ms++[d1*un]++[d2 - 4*un]).length=R.length+L.length+L.length+2:=by rw [List.length_append,List.length_append,hml];rfl
 have hm0:=(J3 d10 (show d1≤8 by omega) hv0 hv1 (by decide)).1
 have hto2:StTo R L (ms++[d1*un]++[d2 - 4*un]):=(hto.snoc hml (rQ (by omega) fun _=>hm0)).snoc (n:=R.length+L.length+L.length+1) (by rw [List.length_append,hml];rfl) (rQ (by omega) fun e=>absurd e (by omega))
 generalize ms++[d1*un]++[d2 - 4*un]=wt at hml2 hto2 ⊢
 have sm2:Same H (upd H1 wa (.lst (wt.map V.int))):=kT hwa0 sm1
 have hwa2:upd H1 wa (.lst (wt.map V.int)) wa=_:=jE
 generalize upd H1 wa (.lst (wt.map V.int))=H2 at sm2 hwa2 ⊢
 have hA2:=hA.mono (WyAt.same sm2)
 refine ⟨_,rfl,wl,_,rfl,.inl (SqL.of (sm2 _ _ hwl)),_,rfl,by omega,by rw [hA.1];omega,fun pa hpa0=>?_⟩
 refine y6 (n:=((us.length:Nat):Int).toNat) (caps:=[some (.ref s),some (.ref wl)]) (fun i zs _=>∃ps:List Nat,zs=ps.map (fun (p:Nat)=>V.int (p:Int))∧ps.length=i) hpa0 ⟨[],rfl,rfl⟩ ?_ ?_
 ·rintro i zs Hj hi hle sj hY ⟨ps,rfl,hpl⟩
  rw [Int.toNat_natCast,hA.1] at hi
  rw [Int.zero_add]
  obtain ⟨v,hv,t,st,vs,rfl,h1,h2,h3⟩:=hA2.get (List.getElem?_eq_getElem hi)
  refine q9 (kU ?_)
  refine ⟨_,rfl,_,rfl,jP (⟨_,rfl,_,rfl,j4 (SqL.of (sj _ _ (sm2 _ _ hwl))) (kE hv) (jL (SqT.of (sj _ _ h1)) rfl (⟨st,_,rfl,.inr (SqT.of (sj _ _ h2)),_,_,rfl,rfl,s,ns,_,_,rfl,(sm2.trans sj).seq hS,h63,by omega,by omega,by omega,fun d d0 d1=>?_⟩))⟩)⟩
  obtain ⟨m,hm⟩:∃m:Nat,d=(m:Int):=⟨d.toNat,by omega⟩
  subst hm
  exact qU hpa0 sj hY hle (by omega) (Same.refl _) ⟨ps++[m],by rw [List.map_append];rfl,by rw [List.length_append,hpl];rfl⟩
 rintro zs H3 s3 hpa hle3 ⟨p0,rfl,hp0⟩
 rw [Int.toNat_natCast,hA.1] at hp0
 have sm3:=sm2.trans s3
 have hA3:=hA2.mono (WyAt.same s3)
 refine ⟨_,rfl,wl,_,rfl,.inl (SqL.of (sm3 _ _ hwl)),_,rfl,by omega,by rw [hA.1];omega,fun pb hpb0=>?_⟩
 refine y6 (n:=((us.length:Nat):Int).toNat) (caps:=[some (.ref pa),some (.ref wl)]) (fun i zs _=>∃ps:List Nat,zs=ps.map (fun (p:Nat)=>V.int (p:Int))∧ps.length=i∧∀(j:Nat) (y:kG) (p:Nat),ys[j]?=some y→ps[j]?=some p→p≤y.2.length) hpb0 ⟨[],rfl,rfl,fun j y p _ h=>by cases h⟩ ?_ ?_
 ·rintro i zs Hj hi hle sj hY ⟨ps,rfl,hpl,hple⟩
  rw [Int.toNat_natCast,hA.1] at hi
  rw [Int.zero_add]
  obtain ⟨y,hy⟩:∃y,ys[i]?=some y:=⟨_,List.getElem?_eq_getElem hi⟩
  obtain ⟨v,hv,t,st,vs,rfl,h1,h2,h3⟩:=hA3.get hy
  obtain ⟨m,hm⟩:∃m,p0[i]?=some m:=⟨_,List.getElem?_eq_getElem (by omega)⟩
  refine q9 (kU ?_)
  refine ⟨_,rfl,_,rfl,j4 (SqL.of (sj _ _ hpa)) (kE (v:=.int (m:Int)) (by rw [List.getElem?_map,hm];rfl)) (⟨_,rfl,_,rfl,j4 (SqL.of (sj _ _ (sm3 _ _ hwl))) (kE hv) (jL (SqT.of (sj _ _ h1)) rfl (⟨st,_,rfl,.inr (SqT.of (sj _ _ h2)),_,_,rfl,?_⟩))⟩)⟩
  have em:(if (m:Int)<((vs.length:Nat):Int) then (m:Int) else ((vs.length:Nat):Int))=((min m y.2.length:Nat):Int):=by rw [h3.1];split<;>omega
  have em2:(if ((vs.length:Nat):Int)<(m:Int) then ((vs.length:Nat):Int) else (m:Int))=((min m y.2.length:Nat):Int):=by rw [h3.1];split<;>omega
  try dsimp only
  first|rw [em]|rw [em2]
  refine qU hpb0 sj hY hle (by omega) (Same.refl _) ⟨ps++[min m y.2.length],by rw [List.map_append];rfl,by rw [List.length_append,hpl];rfl,fun j y' p hj hp=>?_⟩
  by_cases hl:j<ps.length
  ·rw [List.getElem?_append_left hl] at hp;exact hple j y' p hj hp
  ·rw [List.getElem?_append_right (by omega)] at hp
   have hz:j - ps.length=0:=by
    have:=(List.getElem?_eq_some_iff.mp hp).1
    rw [List.length_singleton] at this
    omega
   rw [hz] at hp
   cases hp
   rw [show j=i by omega,hy] at hj
   cases hj
   omega
 rintro zs H4 s4 hpb hle4 ⟨pl,rfl,hpl,hple⟩
 rw [Int.toNat_natCast,hA.1] at hpl
 have sm4:=sm3.trans s4
 refine ⟨_,rfl,_,rfl,jT ((sm4 _ _ hx)) (T.clN) (T.nN_nights) (hf.2.2.1) (⟨nl,_,rfl,.inl (SqL.of (sm4 _ _ hnl)),_,_,rfl,rfl,s,ns,_,_,rfl,sm4.seq hS,h63,by omega,by omega,by rw [hN.1];omega,fun dd dd0 dd1=>?_⟩)⟩
 rw [hN.1] at dd1
 refine ⟨_,rfl,wa,_,rfl,.inl ⟨SqL.of (s4 _ _ (s3 _ _ hwa2)),fun t1 ht10=>?_⟩⟩
 have v1:=jK ht10 (.tup (wt.map V.int))
 refine ⟨_,rfl,pb,_,rfl,.inl ⟨SqL.of (v1 _ _ hpb),fun t2 ht20=>?_⟩⟩
 have v2:=jK ht20 (.tup (pl.map fun (p:Nat)=>V.int (p:Int)))
 refine ⟨zz3,fun t3 ht30=>?_⟩
 have v3:=jK ht30 (.tup [V.int dd,V.ref t1,V.ref t2])
 exact q t3 dd wt pl _ (((sm4.trans v1).trans v2).trans v3) ⟨t1,t2,jE,v3 _ _ (v2 _ _ jE),v3 _ _ jE⟩ ⟨hpl,h10,hok,hple⟩ dd0 (by omega) ⟨by omega,hto2⟩
theorem AU:FnScope ["lock","held"] ["lock","held"] (jF Z0):=⟨rfl,rfl,rfl,by decide +kernel,rfl,by decide +kernel,by decide +kernel⟩
theorem wI {f:Addr} {fd:FuncData} (F:Fun K "_law_fill" "_law_fill" Z0 f fd) (T:Txt K mg cP cB cU cR cN tkS eW eL tkH) (MP_kind:MeK P w K mg base 1 (jG cP cB cU) "kind" ["self"] (vE (jG cP cB cU) (fun kd _=>V.str (match kd with|.plain=>"plain"|.basin=>"basin"|.pump=>"pump")))) (MP_extra:MeK P w K mg base 1 (jG cP cB cU) "extra" ["self"] (vE (jG cP cB cU) (fun kd v=>V.int (match kd with|.plain=>0|.basin=>v|.pump=>v)))):FnOk P w K mg base jU 2 f fd ["lock","held"] (fP (jG cP cB cU) yH):=by
 refine F.ok AU (fun vs H Q E h=>?_) (fun cdv A outer s H vs Q E hr h=>?_)
 ·obtain ⟨y,l,b,rfl,⟨y₂,e,dl,hl2⟩,q⟩:=h
  rfl
 obtain ⟨y,l,b,rfl,⟨y₂,e,dl,hl2⟩,q⟩:=h
 have hu:_<cLine:=hr.units0
 have hu1:=jY hr
 refine ⟨_,(@jH _ _ _ _ _ (kH (kD kQ (zO MP_kind hr (pv 0)) jO (j3 _)) (@jJ _ _ _ (@jN _ _ _ _ (kN (jA (kL (jA jO (jA (pv 1) jB))) (jA (kL (jA jO (jA (@jI _ _ _ _ _ _ _ _ qK (jR (pv 0) rfl) (pv 1)) jB))) jB))))) kJ)
   (@jH _ _ _ _ _ (kH (kD kQ (zO MP_kind hr (pv 0)) jO (j3 _)) (@jJ _ _ _ (@jN _ _ _ _ (kN (jA (kL (jA jO (jA (zO MP_extra hr (pv 0)) jB))) (jA (kL (jA jO (jA (@jI _ _ _ _ _ _ _ _ qK (jR (pv 0) rfl) (zO MP_extra hr (pv 0))) jB))) jB))))) kJ)
   (@jJ _ _ _ (@jN _ _ _ _ (kN (jA (kL (jA jO (jA (jR (pv 0) rfl) jB))) jB)))))),?_⟩
 cases e
 obtain ⟨nm,hi,lo,room,kd,ex⟩:=l
 cases kd with
 |plain =>
  refine ⟨_,rfl,.plain,y,dl,_,rfl,hl2,JF .plain _ _ _ _ _,y,_,_,_,_,_,rfl,⟨dl,hl2⟩,rfl,_,rfl,kF (fun e=>absurd (V.str.inj e) (by decide +kernel)) ?_⟩
  refine ⟨_,rfl,.plain,y,dl,_,rfl,hl2,JF .plain _ _ _ _ _,y,_,_,_,_,_,rfl,⟨dl,hl2⟩,rfl,_,rfl,kF (fun e=>absurd (V.str.inj e) (by decide +kernel)) ?_⟩
  refine ⟨_,rfl,jT hl2 (T.cl .plain) (T.n_room .plain) (yO .plain _ _ _ _ _) (⟨zz2,fun tp htp=>⟨zz1,fun lp hlp=>?_⟩⟩)⟩
  have s1:=jK htp (.tup [.str "high",.int room])
  have s2:=jK hlp (.lst [V.ref tp])
  exact q lp _ [.ref tp] (s1.trans s2) (s1.free hlp) jE (PartsAt.nil.snoc (s2 _ _ jE))
 |basin =>
  refine ⟨_,rfl,.basin,y,dl,_,rfl,hl2,JF .basin _ _ _ _ _,y,_,_,_,_,_,rfl,⟨dl,hl2⟩,rfl,_,rfl,kM rfl ?_⟩
  refine ⟨_,rfl,zz2,fun tp htp=>?_⟩
  have s1:=jK htp (.tup [.str "basin",.int (b)])
  have hl2:=s1 _ _ hl2
  refine ⟨_,rfl,jT hl2 (T.cl .basin) (T.n_room .basin) (yO .basin _ _ _ _ _) (⟨_,rfl,jP (⟨zz2,fun tq htq=>⟨zz2,fun lp hlp=>?_⟩⟩)⟩)⟩
  have s2:=jK htq (.tup [.str "high",.int (room - b)])
  have s3:=jK hlp (.lst [V.ref tp,V.ref tq])
  exact q lp _ [.ref tp,.ref tq] ((s1.trans s2).trans s3) ((s1.trans s2).free hlp) jE ((PartsAt.nil.snoc (s3 _ _ (s2 _ _ jE))).snoc (s3 _ _ jE))
 |pump =>
  refine ⟨_,rfl,.pump,y,dl,_,rfl,hl2,JF .pump _ _ _ _ _,y,_,_,_,_,_,rfl,⟨dl,hl2⟩,rfl,_,rfl,kF (fun e=>absurd (V.str.inj e) (by decide +kernel)) ?_⟩
  refine ⟨_,rfl,.pump,y,dl,_,rfl,hl2,JF .pump _ _ _ _ _,y,_,_,_,_,_,rfl,⟨dl,hl2⟩,rfl,_,rfl,kM rfl ?_⟩
  refine ⟨_,rfl,.pump,y,dl,_,rfl,hl2,cL .pump _ _ _ _ _,y,_,_,_,_,_,rfl,⟨dl,hl2⟩,zz2,fun tp htp=>?_⟩
  have s1:=jK htp (.tup [.str "low",.int (ex)])
  have hl2:=s1 _ _ hl2
  refine ⟨_,rfl,jT hl2 (T.cl .pump) (T.n_room .pump) (yO .pump _ _ _ _ _) (⟨_,rfl,.pump,y,dl,_,rfl,hl2,cL .pump _ _ _ _ _,y,_,_,_,_,_,rfl,⟨dl,hl2⟩,_,_,rfl,rfl,zz2,fun tq htq=>⟨zz2,fun lp hlp=>?_⟩⟩)⟩
  have s2:=jK htq (.tup [.str "high",.int (room - ex)])
  have s3:=jK hlp (.lst [V.ref tp,V.ref tq])
  exact q lp _ [.ref tp,.ref tq] ((s1.trans s2).trans s3) ((s1.trans s2).free hlp) jE ((PartsAt.nil.snoc (s3 _ _ (s2 _ _ jE))).snoc (s3 _ _ jE))
theorem AV:FnScope ["lock","held"] ["lock","held"] (jF Z2):=⟨rfl,rfl,rfl,by decide +kernel,rfl,by decide +kernel,by decide +kernel⟩
theorem wK {f:Addr} {fd:FuncData} (F:Fun K "_law_let" "_law_let" Z2 f fd) (T:Txt K mg cP cB cU cR cN tkS eW eL tkH) (MP_kind:MeK P w K mg base 1 (jG cP cB cU) "kind" ["self"] (vE (jG cP cB cU) (fun kd _=>V.str (match kd with|.plain=>"plain"|.basin=>"basin"|.pump=>"pump")))) (MP_extra:MeK P w K mg base 1 (jG cP cB cU) "extra" ["self"] (vE (jG cP cB cU) (fun kd v=>V.int (match kd with|.plain=>0|.basin=>v|.pump=>v)))):FnOk P w K mg base jU 2 f fd ["lock","held"] (fP (jG cP cB cU) yD):=by
 refine F.ok AV (fun vs H Q E h=>?_) (fun cdv A outer s H vs Q E hr h=>?_)
 ·obtain ⟨y,l,b,rfl,⟨y₂,e,dl,hl2⟩,q⟩:=h
  rfl
 obtain ⟨y,l,b,rfl,⟨y₂,e,dl,hl2⟩,q⟩:=h
 have hu:_<cLine:=hr.units0
 have hu1:=jY hr
 refine ⟨_,(@jH _ _ _ _ _ (kH (kD kQ (zO MP_kind hr (pv 0)) jO (j3 _)) (@jJ _ _ _ (@jN _ _ _ _ (kN (jA (kL (jA jO (jA (@jI _ _ _ _ _ _ _ _ qK (zO MP_extra hr (pv 0)) (pv 1)) jB))) (jA (kL (jA jO (jA (@jI _ _ _ _ _ _ _ _ jX (@jI _ _ _ _ _ _ _ _ qK (jR (pv 0) rfl) (zO MP_extra hr (pv 0))) (pv 1)) jB))) jB))))) kJ)
   (@jJ _ _ _ (@jN _ _ _ _ (kN (jA (kL (jA jO (jA (jR (pv 0) rfl) jB))) jB))))),?_⟩
 cases e
 obtain ⟨nm,hi,lo,room,kd,ex⟩:=l
 cases kd with
 |plain =>
  refine ⟨_,rfl,.plain,y,dl,_,rfl,hl2,JF .plain _ _ _ _ _,y,_,_,_,_,_,rfl,⟨dl,hl2⟩,rfl,_,rfl,kF (fun e=>absurd (V.str.inj e) (by decide +kernel)) ?_⟩
  refine ⟨_,rfl,jT hl2 (T.cl .plain) (T.n_room .plain) (yO .plain _ _ _ _ _) (⟨zz2,fun tp htp=>⟨zz1,fun lp hlp=>?_⟩⟩)⟩
  have s1:=jK htp (.tup [.str "low",.int room])
  have s2:=jK hlp (.lst [V.ref tp])
  exact q lp _ [.ref tp] (s1.trans s2) (s1.free hlp) jE (PartsAt.nil.snoc (s2 _ _ jE))
 |basin =>
  refine ⟨_,rfl,.basin,y,dl,_,rfl,hl2,JF .basin _ _ _ _ _,y,_,_,_,_,_,rfl,⟨dl,hl2⟩,rfl,_,rfl,kM rfl ?_⟩
  refine ⟨_,rfl,.basin,y,dl,_,rfl,hl2,cL .basin _ _ _ _ _,y,_,_,_,_,_,rfl,⟨dl,hl2⟩,_,rfl,jP (⟨zz2,fun tp htp=>?_⟩)⟩
  have s1:=jK htp (.tup [.str "basin",.int (ex - b)])
  have hl2:=s1 _ _ hl2
  refine ⟨_,rfl,jT hl2 (T.cl .basin) (T.n_room .basin) (yO .basin _ _ _ _ _) (⟨_,rfl,.basin,y,dl,_,rfl,hl2,cL .basin _ _ _ _ _,y,_,_,_,_,_,rfl,⟨dl,hl2⟩,_,_,rfl,rfl,_,rfl,jP (⟨zz2,fun tq htq=>⟨zz2,fun lp hlp=>?_⟩⟩)⟩)⟩
  have s2:=jK htq (.tup [.str "low",.int (room - ex+b)])
  have s3:=jK hlp (.lst [V.ref tp,V.ref tq])
  exact q lp _ [.ref tp,.ref tq] ((s1.trans s2).trans s3) ((s1.trans s2).free hlp) jE ((PartsAt.nil.snoc (s3 _ _ (s2 _ _ jE))).snoc (s3 _ _ jE))
 |pump =>
  refine ⟨_,rfl,.pump,y,dl,_,rfl,hl2,JF .pump _ _ _ _ _,y,_,_,_,_,_,rfl,⟨dl,hl2⟩,rfl,_,rfl,kF (fun e=>absurd (V.str.inj e) (by decide +kernel)) ?_⟩
  refine ⟨_,rfl,jT hl2 (T.cl .pump) (T.n_room .pump) (yO .pump _ _ _ _ _) (⟨zz2,fun tp htp=>⟨zz1,fun lp hlp=>?_⟩⟩)⟩
  have s1:=jK htp (.tup [.str "low",.int room])
  have s2:=jK hlp (.lst [V.ref tp])
  exact q lp _ [.ref tp] (s1.trans s2) (s1.free hlp) jE (PartsAt.nil.snoc (s2 _ _ jE))
theorem zH:FnScope ["canal","waters","k","words","lock","many","place","row","word","held"] ["canal","waters","k","words"] (jF yY):=⟨rfl,rfl,rfl,by decide +kernel,rfl,by decide +kernel,by decide +kernel⟩
theorem wQ {f:Addr} {fd:FuncData} (F:Fun K "_law_row_of" "_law_row_of" yY f fd) (T:Txt K mg cP cB cU cR cN tkS eW eL tkH) (D__law_fill:Def P w K mg base 2 "_law_fill" ["lock","held"] [] (fP (jG cP cB cU) yH)) (D__law_let:Def P w K mg base 2 "_law_let" ["lock","held"] [] (fP (jG cP cB cU) yD)):FnOk P w K mg base jU 3 f fd ["canal","waters","k","words"] (lF (jG cP cB cU) cR cN):=by
  refine F.ok zH (fun vs H Q E h=>?_) (fun cdv A outer s H vs Q E hr h=>?_)
  · obtain ⟨x,wt,wd,k,l,ms,ws,D,R,L,N,rfl,hc,hl',hg,b1,b2,hwt,hml,hwd,hw2,q⟩:=h
    rfl
  obtain ⟨x,wt,wd,k,l,ms,ws,D,R,L,N,rfl,hc,hl',hg,b1,b2,hwt,hml,hwd,hw2,q⟩:=h
  have hu:_<cLine:=hr.units0
  have hu1:=jY hr
  refine ⟨_,(@jH _ _ _ _ _ (jQ (i:=4) zH.nd rfl (by first|exact Or.inl rfl|exact Or.inr rfl) (jD j5 (jR (pv 0) rfl) (pv 2) (fun _ _=>rfl)))
      (@jH _ _ _ _ _ (jQ (i:=5) zH.nd rfl (by first|exact Or.inl rfl|exact Or.inr rfl) (kB kI (by rfl) T.z_len PySem.boot_len (jA (jR (pv 0) rfl) jB)))
      (@jH _ _ _ _ _ (jQ (i:=6) zH.nd rfl (by first|exact Or.inl rfl|exact Or.inr rfl) (sP (QX jO (jR (pv 4) rfl) (QX jO (jR (pv 4) rfl) (QX jO (@jI _ _ _ _ _ _ _ _ jX (@jI _ _ _ _ _ _ _ _ jX (pv 5) (kB kI (by rfl) T.z_len PySem.boot_len (jA (jR (pv 0) rfl) jB))) (pv 2)) sK))) rfl rfl (List.cons_ne_nil _ _) (by decide)))
      (@jH _ _ _ _ _ (jQ (i:=7) zH.nd rfl (by first|exact Or.inl rfl|exact Or.inr rfl) (kN jB))
      (@jH _ _ _ _ _ (vJ PassesOwn.never rfl (qR (pv 3)) (j8 (i:=8) zH.nd rfl (by first|exact Or.inl rfl|exact Or.inr rfl))
        (@jH _ _ _ _ _ (jQ (i:=9) zH.nd rfl (by first|exact Or.inl rfl|exact Or.inr rfl) (@jI _ _ _ _ _ _ _ _ jX (jD ix_tup (pv 1) (Q1 hu1 (pv 6) jO (fun _ _=>rfl)) (fun _ _=>rfl)) (kB (fK rfl) (by rfl) T.z_sum PyProof.Rows.boot_sum (jA (qV ["one","place"] (kW 1 [6]) rfl (kZ (jF yY) rfl rfl (by decide +kernel) (by decide +kernel) (by decide +kernel)) (qA 1 [6] rfl rfl (by decide +kernel)) (qR (pv 7)) (fun _ _ _ _ _=>(j8 (i:=0) (show List.Nodup (["one","place"]:List Str) from by decide +kernel) rfl (by first|exact Or.inl rfl|exact Or.inr rfl))) (fun _ _ _ _ _=>(zM (kD kQ (jD (qO K) (pv 0) jC (fun _ _=>rfl)) (Q1 hu1 (pv 1) jO (fun _ _=>rfl)) (j3 _)))) (fun _ _ _ _ _=>(jD (qO K) (pv 0) jC (fun _ _=>rfl)))) jB))))
      (@jH _ _ _ _ _ (jQ (i:=9) zH.nd rfl (by first|exact Or.inl rfl|exact Or.inr rfl) (@jI _ _ _ _ _ _ _ _ qK (pv 9) (kB (fK rfl) (by rfl) T.z_sum PyProof.Rows.boot_sum (jA (qV ["one","place"] (kW 1 [6]) rfl (kZ (jF yY) rfl rfl (by decide +kernel) (by decide +kernel) (by decide +kernel)) (qA 1 [6] rfl rfl (by decide +kernel)) (qR (pv 7)) (fun _ _ _ _ _=>(j8 (i:=0) (show List.Nodup (["one","place"]:List Str) from by decide +kernel) rfl (by first|exact Or.inl rfl|exact Or.inr rfl))) (fun _ _ _ _ _=>(zM (kD kQ (jD (qO K) (pv 0) jC (fun _ _=>rfl)) (Q1 hu1 (pv 1) jO (fun _ _=>rfl)) (j3 _)))) (fun _ _ _ _ _=>(jD (qO K) (pv 0) jC (fun _ _=>rfl)))) jB))))
      (@jJ _ _ _ (kH (kD kQ (pv 8) jO (j3 _)) (@jJ _ _ _ (jQ (i:=7) zH.nd rfl (by first|exact Or.inl rfl|exact Or.inr rfl) (@jI _ _ _ _ _ _ _ _ JG (pv 7) (qV ["one","place","many","k"] (kW 1 [6,5,2]) rfl (kZ (jF yY) rfl rfl (by decide +kernel) (by decide +kernel) (by decide +kernel)) (qA 1 [6,5,2] rfl rfl (by decide +kernel)) (qR (jM D__law_fill hr rfl (jA (pv 4) (jA (pv 9) jB)))) (fun _ _ _ _ _=>(j8 (i:=0) (show List.Nodup (["one","place","many","k"]:List Str) from by decide +kernel) rfl (by first|exact Or.inl rfl|exact Or.inr rfl))) (fun _ _ _ _ _=>qZ) (fun _ _ _ _ _=>(kL (@jA _ _ _ _ _ (Q1 hu1 (pv 1) (jD (qO K) (pv 0) jC (fun _ _=>rfl)) (fun _ _=>rfl)) (@jA _ _ _ _ _ (@jI _ _ _ _ _ _ _ _ jX (pv 2) (pv 3)) (@jA _ _ _ _ _ (jD (qO K) (pv 0) jC (fun _ _=>rfl)) jB (by rfl)) (by rfl)) (by rfl)))))))) (@jJ _ _ _ (jQ (i:=7) zH.nd rfl (by first|exact Or.inl rfl|exact Or.inr rfl) (@jI _ _ _ _ _ _ _ _ JG (pv 7) (qV ["one","many","k","place"] (kW 1 [5,2,6]) rfl (kZ (jF yY) rfl rfl (by decide +kernel) (by decide +kernel) (by decide +kernel)) (qA 1 [5,2,6] rfl rfl (by decide +kernel)) (qR (jM D__law_let hr rfl (jA (pv 4) (jA (pv 9) jB)))) (fun _ _ _ _ _=>(j8 (i:=0) (show List.Nodup (["one","many","k","place"]:List Str) from by decide +kernel) rfl (by first|exact Or.inl rfl|exact Or.inr rfl))) (fun _ _ _ _ _=>qZ) (fun _ _ _ _ _=>(kL (@jA _ _ _ _ _ (@jI _ _ _ _ _ _ _ _ jX (pv 1) (pv 2)) (@jA _ _ _ _ _ (Q1 hu1 (pv 3) (jD (qO K) (pv 0) jC (fun _ _=>rfl)) (fun _ _=>rfl)) (@jA _ _ _ _ _ (jD (qO K) (pv 0) jC (fun _ _=>rfl)) jB (by rfl)) (by rfl)) (by rfl)))))))))))))
      (@jJ _ _ _ (@jN _ _ _ _ (qV ["one"] (kW 1 []) rfl (kZ (jF yY) rfl rfl (by decide +kernel) (by decide +kernel) (by decide +kernel)) (qA 1 [] rfl rfl (by decide +kernel)) (qR (pv 7)) (fun _ _ _ _ _=>(j8 (i:=0) (show List.Nodup (["one"]:List Str) from by decide +kernel) rfl (by first|exact Or.inl rfl|exact Or.inr rfl))) (fun _ _ _ _ _=>(zM (kD Q7 (jD (qO K) (pv 0) jC (fun _ _=>rfl)) jC (j3 _)))) (fun _ _ _ _ _=>(pv 0)))))))))),?_⟩
  obtain ⟨dx,rl,ll,nl,fs,rs,ls,nv,hx,hf,hrl,hll,hnl,hR,hL,hN,d1,d2,d3⟩:=hc
  obtain ⟨v,hv,y,rfl,dl,hl⟩:=hL.get hl'
  have hkL:k<L.length:=(List.getElem?_eq_some_iff.mp hl').1
  obtain ⟨g1,g2,g3,g4,_⟩:=id hg
  refine ⟨_,rfl,jT hx (T.clN) (T.nN_locks) (hf.2.1) (⟨_,rfl,j4 (SqL.of hll) (kE hv) (?_)⟩)⟩
  refine ⟨_,rfl,jT hx (T.clN) (T.nN_reaches) (hf.1) (⟨rl,_,rfl,.inl (SqL.of hrl),?_⟩)⟩
  rw [hR.1]
  refine fun pd hpd0=>?_
  have s0:=jK hpd0 (.dK [])
  refine ⟨_,rfl,jT ((s0 _ _ hl)) (T.cl l.kd) (T.n_high l.kd) (JW l.kd _ _ _ _ _) (⟨_,rfl,jT ((s0 _ _ hl)) (T.cl l.kd) (T.n_low l.kd) (J5 l.kd _ _ _ _ _) (⟨_,rfl,_,rfl,jT ((s0 _ _ hx)) (T.clN) (T.nN_locks) (hf.2.1) (⟨ll,_,rfl,.inl (SqL.of (s0 _ _ hll)),_,_,rfl,rfl,_,rfl,jP (?_)⟩)⟩)⟩)⟩
  rw [hL.1]
  try dsimp only
  rw [show (R.length:Int)+(L.length:Int)+(k:Int)=((R.length+L.length+k:Nat):Int) by omega]
  refine ⟨jE,[(.inr "high",.int l.high),(.inr "low",.int l.low),(.inr "basin",.int ((R.length+L.length+k:Nat):Int))],rfl,(by show 3≤15;decide),?_⟩
  rw [GD]
  have s1:Same H (upd (upd H pd (.dK [])) pd (.dK (zD (.int l.high) (.int l.low) (.int ((R.length+L.length+k:Nat):Int))))):=kT hpd0 s0
  have hpd:upd (upd H pd (.dK [])) pd (.dK (zD (.int l.high) (.int l.low) (.int ((R.length+L.length+k:Nat):Int)))) pd=_:=jE
  generalize upd (upd H pd (.dK [])) pd (.dK (zD (.int l.high) (.int l.low) (.int ((R.length+L.length+k:Nat):Int))))=H1 at s1 hpd ⊢
  refine ⟨zz0,fun r0 hr0=>?_⟩
  have s2:=jK hr0 (.lst [])
  have s02:=s1.trans s2
  have hr02:upd H1 r0 (.lst []) r0=some (.lst []):=jE
  have hpd2:=s2 _ _ hpd
  generalize upd H1 r0 (.lst [])=H2 at s2 s02 hr02 hpd2 ⊢
  have hdg:∀Hi:Hp,Same H2 Hi→DGet Hi pd (.str "high") (some (.int l.high))∧DGet Hi pd (.str "low") (some (.int l.low))∧DGet Hi pd (.str "basin") (some (.int ((R.length+L.length+k:Nat):Int))):=fun Hi sm=>HM (sm _ _ hpd2)
  obtain ⟨b,hb⟩:∃b,b=ms.getD (R.length+L.length+k) 0:=⟨_,rfl⟩
  rw [← hb] at q
  refine ⟨_,rfl,wd,rfl,⟨_,SqL.of (s02 _ _ hwd)⟩,QZ (K:=K) (a:=wd) (xs:=ws.map eJ) (fun i σ Hi=>∃(rw:Addr) (ys:List V) (cw ch:Option V),σ=[some (.ref x),some (.ref wt),some (.int (k:Int)),some (.ref wd),some (.ref y),some (.int (R.length:Int)),some (.ref pd),some (.ref rw),cw,ch]∧Hi rw=some (.lst ys)∧PoursH Hi ys (yR R.length L.length k l b (ws.take i)) ms.length∧Same H2 Hi)
    ⟨r0,[],none,none,rfl,hr02,PoursH.nil _ _,Same.refl _⟩ (fun i σ Hi _ ⟨_,_,_,_,_,_,_,s⟩=>SqL.of (s _ _ (s02 _ _ hwd))) ?_ ?_⟩
  · rintro i v σ Hi hv ⟨rw,ys,cw,ch,rfl,hrw,hP,sm⟩
    rw [List.getElem?_map] at hv
    obtain ⟨w,hw',rfl⟩:∃w,ws[i]?=some w∧eJ w=v:=by
      cases e:ws[i]? with
      |none=>rw [e] at hv;cases hv
      |some w=>rw [e] at hv;exact ⟨w,rfl,Option.some.inj hv⟩
    have hi2:i<2:=by have:=(List.getElem?_eq_some_iff.mp hw').1;omega
    have hql:=o5 R.length L.length k l b ws i
    obtain ⟨qs,hqs⟩:∃qs,qs=yR R.length L.length k l b (ws.take i):=⟨_,rfl⟩
    rw [← hqs] at hP hql
    refine ⟨_,rfl,_,rfl,pd,_,rfl,(hdg _ sm).2.2,jL (SqT.of (sm _ _ (s02 _ _ hwt))) (qD (by omega)) (?_)⟩
    refine ⟨_,rfl,rw,rfl,⟨_,SqL.of hrw⟩,fun D1 hD1=>?_⟩
    refine yX (K:=K) (a:=rw) (xs:=ys) (caps:=[some (.ref pd)]) (fun j zs _=>zs=(((qs.take j).filter fun q=>decide (q.2.1=R.length+L.length+k)).map (·.2.2)).map V.int) hD1 (SqL.of hrw) rfl ?_ ?_
    · rintro j v zs Hj hv hj hle sj hY rfl
      obtain ⟨a,s,tt,m,rfl,hq,hT,hs,ht⟩:=hP.2 j v hv
      have hj9:j<9:=by rw [hP.1] at hj;omega
      have hT:=sj _ _ hT
      have ef:((qs.take (j+1)).filter fun q=>decide (q.2.1=R.length+L.length+k))=((qs.take j).filter fun q=>decide (q.2.1=R.length+L.length+k))++[(s,tt,m)].filter fun q=>decide (q.2.1=R.length+L.length+k):=by
        rw [List.take_add_one,hq,List.filter_append]
        rfl
      refine ⟨_,rfl,jL (SqT.of hT) rfl (⟨_,rfl,pd,_,rfl,(hdg _ (sm.trans sj)).2.2,rfl,_,rfl,?_⟩)⟩
      by_cases hz:tt=R.length+L.length+k
      · refine kM (by rw [hz]) ⟨_,rfl,jL (SqT.of hT) rfl (qU hD1 sj hY hle (by omega) (Same.refl _) ?_)⟩
        rw [ef,List.filter_cons,if_pos (decide_eq_true hz),List.filter_nil,List.map_append,List.map_append]
        rfl
      · refine kF (fun e=>hz (by have:=V.int.inj e;omega)) (JU sj hY hle (Same.refl _) ?_)
        rw [ef,List.filter_cons,if_neg (by rw [decide_eq_true_eq];exact hz),List.filter_nil,List.append_nil]
    rintro zs Hs1 s1' hY1 hle1 rfl
    rw [hP.1,List.take_length] at hY1
    refine ⟨D1,_,rfl,SqL.of hY1,_,_,rfl,rfl,?_⟩
    rw [← hb]
    have sA:=sm.trans s1'
    have hrwA:=s1' _ _ hrw
    have hPA:=hP.same s1'
    refine ⟨_,rfl,?_⟩
    refine ⟨_,rfl,rw,rfl,⟨_,SqL.of hrwA⟩,fun D2 hD2=>?_⟩
    refine yX (K:=K) (a:=rw) (xs:=ys) (caps:=[some (.ref pd)]) (fun j zs _=>zs=(((qs.take j).filter fun q=>decide (q.1=R.length+L.length+k)).map (·.2.2)).map V.int) hD2 (SqL.of hrwA) rfl ?_ ?_
    · rintro j v zs Hj hv hj hle sj hY rfl
      obtain ⟨a,s,tt,m,rfl,hq,hT,hs,ht⟩:=hPA.2 j v hv
      have hj9:j<9:=by rw [hPA.1] at hj;omega
      have hT:=sj _ _ hT
      have ef:((qs.take (j+1)).filter fun q=>decide (q.1=R.length+L.length+k))=((qs.take j).filter fun q=>decide (q.1=R.length+L.length+k))++[(s,tt,m)].filter fun q=>decide (q.1=R.length+L.length+k):=by
        rw [List.take_add_one,hq,List.filter_append]
        rfl
      refine ⟨_,rfl,jL (SqT.of hT) rfl (⟨_,rfl,pd,_,rfl,(hdg _ (sA.trans sj)).2.2,rfl,_,rfl,?_⟩)⟩
      by_cases hz:s=R.length+L.length+k
      · refine kM (by rw [hz]) ⟨_,rfl,jL (SqT.of hT) rfl (qU hD2 sj hY hle (by omega) (Same.refl _) ?_)⟩
        rw [ef,List.filter_cons,if_pos (decide_eq_true hz),List.filter_nil,List.map_append,List.map_append]
        rfl
      · refine kF (fun e=>hz (by have:=V.int.inj e;omega)) (JU sj hY hle (Same.refl _) ?_)
        rw [ef,List.filter_cons,if_neg (by rw [decide_eq_true_eq];exact hz),List.filter_nil,List.append_nil]
    rintro zs Hs2 s2' hY2 hle2 rfl
    rw [hPA.1,List.take_length] at hY2
    refine ⟨D2,_,rfl,SqL.of hY2,_,_,rfl,rfl,?_⟩
    have sB:=sA.trans s2'
    have hrwB:=s2' _ _ hrwA
    have hPB:=hPA.same s2'
    have eh:b+((qs.filter fun q=>decide (q.2.1=R.length+L.length+k)).map (·.2.2)).sum - ((qs.filter fun q=>decide (q.1=R.length+L.length+k)).map (·.2.2)).sum=qL (R.length+L.length+k) b qs:=rfl
    try dsimp only
    rw [eh]
    refine ⟨_,rfl,rfl,_,rfl,?_⟩
    rw [show decide (eJ w=V.str "fill")=w from EO w]
    have hqo:yR R.length L.length k l b (ws.take (i+1))=eH R.length L.length k l b qs w:=by rw [oA hw',← hqs]
    cases w with
    |true =>
      refine kU ?_
      refine ⟨_,rfl,_,rfl,_,rfl,y,l,_,rfl,⟨y,rfl,dl,sB _ _ (s02 _ _ hl)⟩,fun fl HF rf sF hfl0 hfl hPf=>?_⟩
      have hlenf:=pB l.kd l.room l.extra (qL (R.length+L.length+k) b qs)
      refine ⟨fl,rfl,⟨_,SqL.of hfl⟩,fun D₄ hD₄=>?_⟩
      have sC:=sB.trans sF
      refine yX (K:=K) (a:=fl) (xs:=rf) (caps:=[some (.ref pd),some (.int (R.length:Int)),some (.int (k:Int))]) (fun j zs Hj=>PoursH Hj zs (((yH l.kd l.room l.extra (qL (R.length+L.length+k) b qs)).take j).map (fun p=>(kX R.length L.length k l p.1,R.length+k,p.2))) ms.length) hD₄ (SqL.of hfl) (PoursH.nil _ _) ?_ ?_
      · rintro j v zs Hj hv hj hle sj hY hZ
        obtain ⟨a,sN,nN,rfl,hps,hT⟩:=hPf.2 j v hv
        have hj9:j<9:=by rw [hPf.1] at hj;omega
        have hT:=sj _ _ hT
        obtain ⟨vn,hvn,hvd,hvl⟩:∃vn:Nat,kX R.length L.length k l sN=vn∧DGet Hj pd (.str sN) (some (.int (vn:Int)))∧vn<ms.length:=by
          have h3:=hdg Hj (sC.trans sj)
          rcases EK _ _ _ _ _ (List.mem_of_getElem? hps) with h|h|h<;>(have h:sN=_:=h;subst h)
          · exact ⟨_,dU _ _ _ _,by rw [show ((l.high.toNat:Nat):Int)=l.high by omega];exact h3.1,by omega⟩
          · exact ⟨_,d9 _ _ _ _,by rw [show ((l.low.toNat:Nat):Int)=l.low by omega];exact h3.2.1,by omega⟩
          · exact ⟨_,cG _ _ _ _,h3.2.2,by omega⟩
        refine q9 (kU ?_)
        refine ⟨_,rfl,_,rfl,jL (SqT.of hT) rfl (⟨pd,_,rfl,hvd,_,rfl,_,rfl,jP (⟨_,rfl,jL (SqT.of hT) rfl (?_)⟩)⟩)⟩
        try dsimp only
        rw [show (R.length:Int)+(k:Int)=((R.length+k:Nat):Int) by omega]
        refine ⟨zz3,fun tp htp=>?_⟩
        have u:=jK htp (.tup [V.int ((vn:Nat):Int),V.int ((R.length+k:Nat):Int),V.int nN])
        refine qU hD₄ sj hY hle (by omega) u ?_
        rw [e8 hps]
        show PoursH _ _ (_++[(kX R.length L.length k l sN,R.length+k,nN)]) _
        rw [hvn]
        exact ((hZ.same u).snoc jE (by omega) (by omega)).put (u _ _ hY)
      rintro zs H5 s5 hY5 hle5 hP5
      rw [hPf.1,List.take_length] at hP5
      have sD:=sC.trans s5
      refine ⟨rw,D₄,_,_,rfl,rfl,s5 _ _ (sF _ _ hrwB),hY5,small (by rw [hP5.1,List.length_map,hP.1];omega),fun al hal=>?_⟩
      have s6:=jK hal (.lst (ys++zs))
      refine ⟨al,ys++zs,_,_,rfl,jE,?_,sD.trans s6⟩
      rw [hqo]
      exact (((hPB.same sF).same s5).same s6).append (hP5.same s6)
    |false =>
      refine qF ?_
      refine ⟨_,rfl,_,rfl,_,rfl,y,l,_,rfl,⟨y,rfl,dl,sB _ _ (s02 _ _ hl)⟩,fun fl HF rf sF hfl0 hfl hPf=>?_⟩
      have hlenf:=rD l.kd l.room l.extra (qL (R.length+L.length+k) b qs)
      refine ⟨fl,rfl,⟨_,SqL.of hfl⟩,fun D₄ hD₄=>?_⟩
      have sC:=sB.trans sF
      refine yX (K:=K) (a:=fl) (xs:=rf) (caps:=[some (.int (R.length:Int)),some (.int (k:Int)),some (.ref pd)]) (fun j zs Hj=>PoursH Hj zs (((yD l.kd l.room l.extra (qL (R.length+L.length+k) b qs)).take j).map (fun p=>(R.length+k,kX R.length L.length k l p.1,p.2))) ms.length) hD₄ (SqL.of hfl) (PoursH.nil _ _) ?_ ?_
      · rintro j v zs Hj hv hj hle sj hY hZ
        obtain ⟨a,sN,nN,rfl,hps,hT⟩:=hPf.2 j v hv
        have hj9:j<9:=by rw [hPf.1] at hj;omega
        have hT:=sj _ _ hT
        obtain ⟨vn,hvn,hvd,hvl⟩:∃vn:Nat,kX R.length L.length k l sN=vn∧DGet Hj pd (.str sN) (some (.int (vn:Int)))∧vn<ms.length:=by
          have h3:=hdg Hj (sC.trans sj)
          rcases FC _ _ _ _ _ (List.mem_of_getElem? hps) with h|h|h<;>(have h:sN=_:=h;subst h)
          · exact ⟨_,dU _ _ _ _,by rw [show ((l.high.toNat:Nat):Int)=l.high by omega];exact h3.1,by omega⟩
          · exact ⟨_,d9 _ _ _ _,by rw [show ((l.low.toNat:Nat):Int)=l.low by omega];exact h3.2.1,by omega⟩
          · exact ⟨_,cG _ _ _ _,h3.2.2,by omega⟩
        refine q9 (kU ?_)
        refine ⟨_,rfl,_,rfl,jP (⟨_,rfl,_,rfl,jL (SqT.of hT) rfl (⟨pd,_,rfl,hvd,_,rfl,jL (SqT.of hT) rfl (?_)⟩)⟩)⟩
        try dsimp only
        rw [show (R.length:Int)+(k:Int)=((R.length+k:Nat):Int) by omega]
        refine ⟨zz3,fun tp htp=>?_⟩
        have u:=jK htp (.tup [V.int ((R.length+k:Nat):Int),V.int ((vn:Nat):Int),V.int nN])
        refine qU hD₄ sj hY hle (by omega) u ?_
        rw [e8 hps]
        show PoursH _ _ (_++[(R.length+k,kX R.length L.length k l sN,nN)]) _
        rw [hvn]
        exact ((hZ.same u).snoc jE (by omega) (by omega)).put (u _ _ hY)
      rintro zs H5 s5 hY5 hle5 hP5
      rw [hPf.1,List.take_length] at hP5
      have sD:=sC.trans s5
      refine ⟨rw,D₄,_,_,rfl,rfl,s5 _ _ (sF _ _ hrwB),hY5,small (by rw [hP5.1,List.length_map,hP.1];omega),fun al hal=>?_⟩
      have s6:=jK hal (.lst (ys++zs))
      refine ⟨al,ys++zs,_,_,rfl,jE,?_,sD.trans s6⟩
      rw [hqo]
      exact (((hPB.same sF).same s5).same s6).append (hP5.same s6)
  rintro σ H6 ⟨rw,ys,cw,ch,rfl,hrw,hP,s6⟩
  rw [List.length_map,List.take_length] at hP
  have hql:=o5 R.length L.length k l b ws ws.length
  rw [List.take_length] at hql
  refine ⟨_,rfl,rw,rfl,⟨_,SqL.of hrw⟩,fun Df hDf=>?_⟩
  refine yX (K:=K) (a:=rw) (xs:=ys) (caps:=[]) (fun i zs Hj=>PoursH Hj zs (((yR R.length L.length k l b ws).take i).filter vW) ms.length) hDf (SqL.of hrw) (PoursH.nil _ _) ?_ ?_
  · rintro i v zs Hj hv hi hle sm hY hZ
    obtain ⟨a,s,tt,m,rfl,hq,hT,hs,ht⟩:=hP.2 i v hv
    have ef:((yR R.length L.length k l b ws).take (i+1)).filter vW=((yR R.length L.length k l b ws).take i).filter vW++[(s,tt,m)].filter vW:=by
      rw [List.take_add_one,hq,List.filter_append]
      rfl
    have hi9:i<9:=by have:=hP.1;omega
    refine ⟨_,rfl,jL (SqT.of (sm _ _ hT)) rfl (jP (⟨_,rfl,?_⟩))⟩
    by_cases hz:0<m
    · refine kM hz ⟨_,rfl,qU hDf sm hY hle (by omega) (Same.refl _) ?_⟩
      rw [ef,List.filter_cons,if_pos (show vW (s,tt,m)=true from decide_eq_true hz)]
      exact (hZ.snoc (sm _ _ hT) hs ht).put hY
    · refine kF hz (JU sm hY hle (Same.refl _) ?_)
      rw [ef,List.filter_cons,if_neg (show ¬vW (s,tt,m)=true from fun h=>hz (of_decide_eq_true h))]
      show PoursH Hj zs (_++[]) _
      rw [List.append_nil]
      exact hZ
  rintro zs H7 s7 hY hle hZ
  rw [hP.1,List.take_of_length_le (Nat.le_refl _)] at hZ
  exact q Df H7 zs ((s02.trans s6).trans s7) ((s02.trans s6).free hDf) hY hZ
theorem AZ:FnScope ["full","course"] ["full","course"] (jF bE):=⟨rfl,rfl,rfl,by decide +kernel,rfl,by decide +kernel,by decide +kernel⟩
theorem w4 {f:Addr} {fd:FuncData} (F:Fun K "_law_words" "_law_words" bE f fd) (T:Txt K mg cP cB cU cR cN tkS eW eL tkH) : FnOk P w K mg base jU 1 f fd ["full","course"] (iY):=by
 refine F.ok AZ (fun vs H Q E h=>?_) (fun cdv A outer s H vs Q E hr h=>?_)
 ·obtain ⟨f,w,rfl,q⟩:=h
  rfl
 obtain ⟨f,w,rfl,q⟩:=h
 have hu:_<cLine:=hr.units0
 have hu1:=jY hr
 refine ⟨_,(@jH _ _ _ _ _ (kH (kD kQ (pv 1) jO (j3 _)) (@jJ _ _ _ (@jN _ _ _ _ (jD j5 (kN (jA (kN (jA jO jB)) (jA (kN (jA jO (jA jO jB))) jB))) (qJ QV (by rfl) T.z_int PyProof.Rows.boot_int (jA (pv 0) jB)) (fun _ _=>rfl)))) kJ)
   (@jJ _ _ _ (@jN _ _ _ _ (jD j5 (kN (jA (kN (jA jO (jA jO jB))) (jA (kN (jA jO jB)) jB))) (qJ QV (by rfl) T.z_int PyProof.Rows.boot_int (jA (pv 0) jB)) (fun _ _=>rfl))))),?_⟩
 refine ⟨_,rfl,rfl,_,rfl,?_⟩
 rw [lZ]
 cases w with
 |true =>
  refine kU ?_
  cases f with
  |true =>
   refine ⟨zz1,fun la hla=>?_⟩
   have s1:=jK hla (.lst [V.str "fill"])
   refine ⟨zz2,fun lb hlb=>?_⟩
   have s2:=jK hlb (.lst [V.str "let",V.str "fill"])
   refine ⟨zz2,fun lc hlc=>?_⟩
   have s3:=jK hlc (.lst [V.ref la,V.ref lb])
   refine ⟨_,rfl,.inr ⟨_,rfl,j4 (SqL.of jE) rfl (?_)⟩⟩
   exact q _ _ ((s1.trans s2).trans s3) (s3 _ _ jE)
  |false =>
   refine ⟨zz1,fun la hla=>?_⟩
   have s1:=jK hla (.lst [V.str "fill"])
   refine ⟨zz2,fun lb hlb=>?_⟩
   have s2:=jK hlb (.lst [V.str "let",V.str "fill"])
   refine ⟨zz2,fun lc hlc=>?_⟩
   have s3:=jK hlc (.lst [V.ref la,V.ref lb])
   refine ⟨_,rfl,.inr ⟨_,rfl,j4 (SqL.of jE) rfl (?_)⟩⟩
   exact q _ _ ((s1.trans s2).trans s3) (s3 _ _ (s2 _ _ jE))
 |false =>
  refine qF ?_
  cases f with
  |true =>
   refine ⟨zz2,fun la hla=>?_⟩
   have s1:=jK hla (.lst [V.str "fill",V.str "let"])
   refine ⟨zz1,fun lb hlb=>?_⟩
   have s2:=jK hlb (.lst [V.str "let"])
   refine ⟨zz2,fun lc hlc=>?_⟩
   have s3:=jK hlc (.lst [V.ref la,V.ref lb])
   refine ⟨_,rfl,.inr ⟨_,rfl,j4 (SqL.of jE) rfl (?_)⟩⟩
   exact q _ _ ((s1.trans s2).trans s3) (s3 _ _ jE)
  |false =>
   refine ⟨zz2,fun la hla=>?_⟩
   have s1:=jK hla (.lst [V.str "fill",V.str "let"])
   refine ⟨zz1,fun lb hlb=>?_⟩
   have s2:=jK hlb (.lst [V.str "let"])
   refine ⟨zz2,fun lc hlc=>?_⟩
   have s3:=jK hlc (.lst [V.ref la,V.ref lb])
   refine ⟨_,rfl,.inr ⟨_,rfl,j4 (SqL.of jE) rfl (?_)⟩⟩
   exact q _ _ ((s1.trans s2).trans s3) (s3 _ _ (s2 _ _ jE))
theorem dI:FnScope ["canal","way","place","at","k","lock"] ["canal","way","place"] (jF Z6):=⟨rfl,rfl,rfl,by decide +kernel,rfl,by decide +kernel,by decide +kernel⟩
theorem wP {f:Addr} {fd:FuncData} (F:Fun K "_law_reach_by" "_law_reach_by" Z6 f fd) (T:Txt K mg cP cB cU cR cN tkS eW eL tkH) : FnOk P w K mg base jU 1 f fd ["canal","way","place"] (oY (jG cP cB cU) cR cN):=by
 refine F.ok dI (fun vs H Q E h=>?_) (fun cdv A outer s H vs Q E hr h=>?_)
 ·obtain ⟨x,t,y,p,D,R,L,N,rfl,hc,hwy,ok,hp,q⟩:=h
  rfl
 obtain ⟨x,t,y,p,D,R,L,N,rfl,hc,hwy,ok,hp,q⟩:=h
 have hu:_<cLine:=hr.units0
 have hu1:=jY hr
 refine ⟨_,(@jH _ _ _ _ _ (kH (kD kQ (pv 2) (kB kI (by rfl) T.z_len PySem.boot_len (jA (jD ix_tup (pv 1) jC (fun _ _=>rfl)) jB)) (j3 _)) (@jJ _ _ _ (@jN _ _ _ _ (gE fW jC))) kJ)
   (@jH _ _ _ _ _ (jQ (i:=3) dI.nd rfl (by first|exact Or.inl rfl|exact Or.inr rfl) (jD ix_tup (pv 1) jC (fun _ _=>rfl)))
   (@jH _ _ _ _ _ (vJ PassesOwn.never rfl (vD (by rfl) T.z_range (jA (pv 2) jB)) (j8 (i:=4) dI.nd rfl (by first|exact Or.inl rfl|exact Or.inr rfl))
    (@jH _ _ _ _ _ (jQ (i:=5) dI.nd rfl (by first|exact Or.inl rfl|exact Or.inr rfl) (jD j5 (jR (pv 0) rfl) (jD tM (jD ix_tup (jD ix_tup (pv 1) jC (fun _ _=>rfl)) (pv 4) (fun _ _=>rfl)) jC (fun _ _=>rfl)) (fun _ _=>rfl)))
   (@jJ _ _ _ (jQ (i:=3) dI.nd rfl (by first|exact Or.inl rfl|exact Or.inr rfl) (@jI _ _ _ _ _ _ _ _ qK (@jI _ _ _ _ _ _ _ _ jX (jR (pv 5) rfl) (jR (pv 5) rfl)) (pv 3))))))
   (@jJ _ _ _ (@jN _ _ _ _ (pv 3)))))),?_⟩
 have hc0:=hc
 obtain ⟨dx,rl,ll,nl,fs,rs,ls,nv,hx,hf,hrl,hll,hnl,hR,hL,hN,d1,d2,d3⟩:=hc
 obtain ⟨t₂,st,us,e,h1,h2,h3⟩:=id hwy
 cases e
 refine ⟨_,rfl,_,rfl,jL (SqT.of h1) rfl (⟨st,_,rfl,.inr (SqT.of h2),rfl,_,rfl,?_⟩)⟩
 by_cases h:p=y.2.length
 ·refine kM (congrArg V.int (by rw [h3.1];omega)) ?_
  rw [show kP L y p = -1 from if_pos h] at q
  exact ⟨_,rfl,q⟩
 ·refine kF (fun z=>h (by have:=V.int.inj z;rw [h3.1] at this;omega)) ?_
  have hle:=ok.le
  rw [show kP L y p=(kY L y.1 y.2).getD p 0 from if_neg h] at q
  refine ⟨_,rfl,jL (SqT.of h1) rfl (?_)⟩
  refine ⟨_,rfl,_,rfl,by omega,by omega,JA (n:=((p:Nat):Int).toNat) (fun i σ Hi=>∃c4 c5:Option V,σ=[some (.ref x),some (.ref t),some (.int (p:Int)),some (.int ((kY L y.1 y.2).getD i 0)),c4,c5]∧Hi=H) ⟨none,none,rfl,rfl⟩ ?_ ?_⟩
  ·rintro i σ Hi hi ⟨c4,c5,rfl,rfl⟩
   rw [Int.toNat_natCast] at hi
   rw [Int.zero_add]
   obtain ⟨pp,hpp⟩:∃pp,y.2[i]?=some pp:=⟨_,List.getElem?_eq_getElem (by omega)⟩
   obtain ⟨v,hv,t3,rfl,ht3⟩:=h3.get hpp
   have hpL:=ok.lt pp (List.mem_of_getElem? hpp)
   obtain ⟨l,hl'⟩:∃l,L[pp.1]?=some l:=⟨_,List.getElem?_eq_getElem hpL⟩
   obtain ⟨w,hw,z,rfl,dl,hl⟩:=hL.get hl'
   refine ⟨_,rfl,jT hx (T.clN) (T.nN_locks) (hf.2.1) (⟨_,rfl,jL (SqT.of h1) rfl (⟨_,rfl,jL (SqT.of h2) (kE hv) (.inr (.inl (jL (SqT.of ht3) rfl (j4 (SqL.of hll) (kE hw) (?_)))))⟩)⟩)⟩
   refine ⟨_,rfl,jT hl (T.cl l.kd) (T.n_low l.kd) (J5 l.kd _ _ _ _ _) (⟨_,rfl,jT hl (T.cl l.kd) (T.n_high l.kd) (JW l.kd _ _ _ _ _) (jP (⟨_,rfl,jP (?_)⟩))⟩)⟩
   refine ⟨some (.int (i:Int)),some (.ref z),?_,rfl⟩
   rw [← EM ok hpp hl']
   rfl
  ·rintro σ Hi ⟨c4,c5,rfl,rfl⟩
   rw [Int.toNat_natCast]
   exact ⟨_,rfl,q⟩
theorem zY:FnScope ["canal","ways","state","boat","way","place","beyond","there","step","waters","full","one"] ["canal","ways","state","boat"] (jF QI):=⟨rfl,rfl,rfl,by decide +kernel,rfl,by decide +kernel,by decide +kernel⟩
theorem wZ {f:Addr} {fd:FuncData} (F:Fun K "_law_why_no_pass" "_law_why_no_pass" QI f fd) (T:Txt K mg cP cB cU cR cN tkS eW eL tkH) (D__law_reach_by:Def P w K mg base 1 "_law_reach_by" ["canal","way","place"] [] (oY (jG cP cB cU) cR cN)) (D__law_row_of:Def P w K mg base 3 "_law_row_of" ["canal","waters","k","words"] [] (lF (jG cP cB cU) cR cN)) (D__law_words:Def P w K mg base 1 "_law_words" ["full","course"] [] (iY)):FnOk P w K mg base jU 4 f fd ["canal","ways","state","boat"] (rY (jG cP cB cU) cR cN):=by
 refine F.ok zY (fun vs H Q E h=>?_) (fun cdv A outer s H vs Q E hr h=>?_)
 ·obtain ⟨x,wl,st,b,us,ys,d,ms,pl,D,R,L,N,rfl,hG,hok,hb,q⟩:=h
  rfl
 obtain ⟨x,wl,st,b,us,ys,d,ms,pl,D,R,L,N,rfl,hG,hok,hb,q⟩:=h
 have hu:_<cLine:=hr.units0
 have hu1:=jY hr
 refine ⟨_,(@jH _ _ _ _ _ (jQ (i:=4) zY.nd rfl (by first|exact Or.inl rfl|exact Or.inr rfl) (jD j5 (pv 1) (pv 3) (fun _ _=>rfl)))
   (@jH _ _ _ _ _ (jQ (i:=5) zY.nd rfl (by first|exact Or.inl rfl|exact Or.inr rfl) (jD ix_tup (jD ix_tup (pv 2) jC (fun _ _=>rfl)) (pv 3) (fun _ _=>rfl)))
   (@jH _ _ _ _ _ (kH (kD kQ (pv 5) (kB kI (by rfl) T.z_len PySem.boot_len (jA (jD ix_tup (pv 4) jC (fun _ _=>rfl)) jB)) (j3 _)) (@jJ _ _ _ (@jN _ _ _ _ jO)) kJ)
   (eB (kH (kD QA (@jI _ _ _ _ _ _ _ _ jX (pv 5) jC) (kB kI (by rfl) T.z_len PySem.boot_len (jA (jD ix_tup (pv 4) jC (fun _ _=>rfl)) jB)) (j3 _)) (@jH _ _ _ _ _ (jQ (i:=6) zY.nd rfl (by first|exact Or.inl rfl|exact Or.inr rfl) (jM D__law_reach_by hr rfl (@jA _ _ _ _ _ (pv 0) (@jA _ _ _ _ _ (pv 4) (@jA _ _ _ _ _ (@jI _ _ _ _ _ _ _ _ jX (pv 5) jC) jB (by rfl)) (by rfl)) (by rfl))))
   (@jH _ _ _ _ _ (z9 (i:=7) ["k","beyond","canal","ways","state"] (kW 1 [6,0,1,2]) zY.nd rfl (by first|exact Or.inl rfl|exact Or.inr rfl) rfl (kZ (jF QI) rfl rfl (by decide +kernel) (by decide +kernel) (by decide +kernel)) (qA 1 [6,0,1,2] rfl rfl (by decide +kernel)) (vD (by rfl) T.z_range (jA (kB kI (by rfl) T.z_len PySem.boot_len (jA (pv 1) jB)) jB)) (fun _ _ _ _ _=>(j8 (i:=0) (show List.Nodup (["k","beyond","canal","ways","state"]:List Str) from by decide +kernel) rfl (by first|exact Or.inl rfl|exact Or.inr rfl))) (fun _ _ _ _ _=>(zM (kD kQ (jM D__law_reach_by hr rfl (@jA _ _ _ _ _ (pv 2) (@jA _ _ _ _ _ (jD (JC K) (pv 3) (pv 0) (fun _ _=>rfl)) (@jA _ _ _ _ _ (jD (qO K) (jD (qO K) (pv 4) jC (fun _ _=>rfl)) (pv 0) (fun _ _=>rfl)) jB (by rfl)) (by rfl)) (by rfl))) (pv 1) (j3 _)))) (fun _ _ _ _ _=>(pv 0)))
   (@jJ _ _ _ (kH (kD tY (kB kI (by rfl) T.z_len PySem.boot_len (jA (pv 7) jB)) (jR (jD j5 (jR (pv 0) rfl) (pv 6) (fun _ _=>rfl)) rfl) (j3 _)) (@jJ _ _ _ (@jN _ _ _ _ jO)) kJ)))) kJ)
   (@jH _ _ _ _ _ (jQ (i:=8) zY.nd rfl (by first|exact Or.inl rfl|exact Or.inr rfl) (jD ix_tup (jD ix_tup (pv 4) jC (fun _ _=>rfl)) (pv 5) (fun _ _=>rfl)))
   (@jH _ _ _ _ _ (jQ (i:=9) zY.nd rfl (by first|exact Or.inl rfl|exact Or.inr rfl) (qJ zZ (by rfl) T.z_list PyProof.Rows.boot_list (jA (jD ix_tup (pv 2) jC (fun _ _=>rfl)) jB)))
   (@jH _ _ _ _ _ (jQ (i:=10) zY.nd rfl (by first|exact Or.inl rfl|exact Or.inr rfl) (v9 Q7 (jD j5 (pv 9) (@jI _ _ _ _ _ _ _ _ jX (kB kI (by rfl) T.z_len PySem.boot_len (jA (jR (pv 0) rfl) jB)) (jD ix_tup (pv 8) jC (fun _ _=>rfl))) (fun _ _=>rfl)) jC (j3 _)))
   (@jH _ _ _ _ _ (vJ PassesOwn.never rfl (qR (jM D__law_row_of hr rfl (@jA _ _ _ _ _ (pv 0) (@jA _ _ _ _ _ (jD ix_tup (pv 2) jC (fun _ _=>rfl)) (@jA _ _ _ _ _ (jD ix_tup (pv 8) jC (fun _ _=>rfl)) (@jA _ _ _ _ _ (jM D__law_words hr rfl (jA (pv 10) (jA (jD ix_tup (pv 8) jC (fun _ _=>rfl)) jB))) jB (by rfl)) (by rfl)) (by rfl)) (by rfl)))) (j8 (i:=11) zY.nd rfl (by first|exact Or.inl rfl|exact Or.inr rfl))
    (@jH _ _ _ _ _ (JZ (@jI _ _ _ _ _ _ _ _ qK (jD j5 (pv 9) (jD ix_tup (pv 11) jC (fun _ _=>rfl)) (fun _ _=>rfl)) (jD ix_tup (pv 11) jC (fun _ _=>rfl))) (J0 (pv 9) (jD ix_tup (pv 11) jC (fun _ _=>rfl)) y7))
   (@jH _ _ _ _ _ (JZ (@jI _ _ _ _ _ _ _ _ jX (jD j5 (pv 9) (jD ix_tup (pv 11) jC (fun _ _=>rfl)) (fun _ _=>rfl)) (jD ix_tup (pv 11) jC (fun _ _=>rfl))) (J0 (pv 9) (jD ix_tup (pv 11) jC (fun _ _=>rfl)) y7))
   (@jJ _ _ _ (kH (PW.pt (tJ (kD QA (jD ix_tup (pv 11) jC (fun _ _=>rfl)) (kB kI (by rfl) T.z_len PySem.boot_len (jA (jR (pv 0) rfl) jB)) (j3 _)) (sJ (kD QA (jD j5 (pv 9) (jD ix_tup (pv 11) jC (fun _ _=>rfl)) (fun _ _=>rfl)) (jR (jD j5 (jR (pv 0) rfl) (jD ix_tup (pv 11) jC (fun _ _=>rfl)) (fun _ _=>rfl)) rfl) (j3 _))))) (@jJ _ _ _ (@jN _ _ _ _ jO)) kJ)))))
   (@jJ _ _ _ (@jN _ _ _ _ jO)))))))))),?_⟩
 obtain ⟨hc,hdr,hwl,hA,hst,hfl,hml⟩:=id hG
 obtain ⟨wt,pt,hst1,hwt,hpt⟩:=id hst
 have hc0:=hc
 obtain ⟨dx,rl,ll,nl,fs,rs,ls,nv,hx,hf,hrl,hll,hnl,hR,hL,hN,d1,d2,d3⟩:=hc
 have b1:=hdr.r8
 have b2:=hdr.l8
 have h10:=hfl.n10
 obtain ⟨y,hy⟩:∃y,ys[b]?=some y:=⟨_,List.getElem?_eq_getElem hb⟩
 obtain ⟨p,hp⟩:∃p,pl[b]?=some p:=⟨_,List.getElem?_eq_getElem (by rw [hfl.len];exact hb)⟩
 obtain ⟨v,hvy,hwy⟩:=hA.get hy
 obtain ⟨t,st₂,vs₂,rfl,hw1,hw2,hw3⟩:=id hwy
 have hple:=hfl.le b y p hy hp
 have hyok:=hfl.ok y (List.mem_of_getElem? hy)
 have ey:ys.getD b (0,[])=y:=by rw [List.getD_eq_getElem?_getD,hy];rfl
 have ep:pl.getD b 0=p:=by rw [List.getD_eq_getElem?_getD,hp];rfl
 unfold Q9 at q
 rw [ey,ep] at q
 refine ⟨_,rfl,_,rfl,j4 (SqL.of hwl) (kE hvy) (?_)⟩
 refine ⟨_,rfl,jL (SqT.of hst1) rfl (⟨_,rfl,jL (SqT.of hpt) (kE (v:=.int (p:Int)) (by rw [List.getElem?_map,hp];rfl)) (?_)⟩)⟩
 refine ⟨_,rfl,_,rfl,jL (SqT.of hw1) rfl (⟨st₂,_,rfl,.inr (SqT.of hw2),rfl,_,rfl,?_⟩)⟩
 by_cases h0:p=y.2.length
 ·refine kM (congrArg V.int (by rw [hw3.1];omega)) ?_
  have:=q H (Same.refl _)
  rw [if_pos h0] at this
  exact this
 have hlt:p<y.2.length:=by omega
 refine kF (fun z=>h0 (by have:=V.int.inj z;rw [hw3.1] at this;omega)) ?_
 have q:∀H',Same H H'→Q (.str (if (¬kP L y (p+1) = -1∧JD R (kP L y (p+1))≤(((vB L ys pl).countP fun z=>decide (z=kP L y (p+1)):Nat):Int)) then "berth" else if vO R ms (vQ R.length L ms (y.2.getD p (0,true)))=true then "water" else "")) H':=fun H' s'=>by
  have:=q H' s'
  rw [if_neg h0] at this
  exact this
 have hbi:=DN hdr hyok hlt
 refine ⟨fun σ' Ha=>∃cb ct:Option V,σ'=[some (.ref x),some (.ref wl),some (.ref st),some (.int (b:Int)),some (.ref t),some (.int (p:Int)),cb,ct,none,none,none,none]∧Same H Ha∧¬(¬kP L y (p+1) = -1∧JD R (kP L y (p+1))≤(((vB L ys pl).countP fun z=>decide (z=kP L y (p+1)):Nat):Int)),?_,?_⟩
 ·refine ⟨_,rfl,jP (⟨_,rfl,jL (SqT.of hw1) rfl (⟨st₂,_,rfl,.inr (SqT.of hw2),_,_,rfl,rfl,_,rfl,?_⟩)⟩)⟩
  rw [hw3.1]
  by_cases h1:p+1<y.2.length
  rotate_left
  ·exact kF (by omega) ⟨none,none,rfl,Same.refl _,fun z=>h1 (hbi.mp z.1)⟩
  refine kM (by omega) ?_
  have hpin:=fX hdr hyok h1
  refine ⟨_,rfl,_,rfl,_,rfl,jP (⟨x,t,y,p+1,D,R,L,N,rfl,hc0,hwy,hyok,by omega,?_⟩)⟩
  obtain ⟨tn,htn⟩:∃tn:Nat,kP L y (p+1)=(tn:Int):=⟨(kP L y (p+1)).toNat,by omega⟩
  rw [htn] at hbi q ⊢
  refine ⟨_,rfl,wl,_,rfl,.inl (SqL.of hwl),_,rfl,by omega,by rw [hA.1];omega,fun D₁ hD₁=>?_⟩
  refine y6 (n:=((us.length:Nat):Int).toNat) (caps:=[some (.int (tn:Int)),some (.ref x),some (.ref wl),some (.ref st)]) (fun i zs _=>zs.length=((vB L ys pl).take i).countP fun z=>decide (z=(tn:Int))) hD₁ rfl ?_ ?_
  ·rintro i zs Hi hi hle sm hY hz
   rw [Int.toNat_natCast,hA.1] at hi
   rw [Int.zero_add]
   obtain ⟨y2,hy2⟩:∃y,ys[i]?=some y:=⟨_,List.getElem?_eq_getElem hi⟩
   obtain ⟨p2,hp2⟩:∃p,pl[i]?=some p:=⟨_,List.getElem?_eq_getElem (by rw [hfl.len];exact hi)⟩
   obtain ⟨v2,hv2,hwy2⟩:=hA.get hy2
   obtain ⟨t2,st3,vs3,rfl,hx1,hx2,hx3⟩:=id hwy2
   refine ⟨_,rfl,_,rfl,_,rfl,j4 (SqL.of (sm _ _ hwl)) (kE hv2) (⟨_,rfl,jL (SqT.of (sm _ _ hst1)) rfl (⟨_,rfl,jL (SqT.of (sm _ _ hpt)) (kE (v:=.int (p2:Int)) (by rw [List.getElem?_map,hp2];rfl)) (⟨x,t2,y2,p2,D,R,L,N,rfl,hc0.same sm,WyAt.same sm _ _ hwy2,hfl.ok y2 (List.mem_of_getElem? hy2),hfl.le i y2 p2 hy2 hp2,_,rfl,rfl,_,rfl,?_⟩)⟩)⟩)⟩
   by_cases hzi:kP L y2 p2=(tn:Int)
   ·refine kM (congrArg V.int hzi) ⟨_,rfl,qU hD₁ sm hY hle (by omega) (Same.refl _) ?_⟩
    rw [List.length_append,hz,List.take_add_one,sM hy2 hp2,List.countP_append]
    show _=_+List.countP _ [kP L y2 p2]
    rw [List.countP_cons,if_pos (decide_eq_true hzi)]
    rfl
   ·refine kF (fun e=>hzi (V.int.inj e)) (JU sm hY hle (Same.refl _) ?_)
    rw [hz,List.take_add_one,sM hy2 hp2,List.countP_append]
    show _=_+List.countP _ [kP L y2 p2]
    rw [List.countP_cons,if_neg (by rw [decide_eq_true_eq];exact hzi)]
    rfl
  rintro zs H2 s2 hY hle hz
  rw [Int.toNat_natCast,hA.1,List.take_of_length_le (by rw [DZ];exact Nat.le_refl _)] at hz
  obtain ⟨r,hr⟩:∃r,R[tn]?=some r:=⟨_,List.getElem?_eq_getElem (by omega)⟩
  obtain ⟨z,hz2,yr,rfl,dy,gs,hyr,hg⟩:=hR.get hr
  have eb:JD R (tn:Int)=r.berths:=by unfold JD;rw [show ((tn:Nat):Int).toNat=tn from rfl,hr]
  refine ⟨_,rfl,D₁,_,rfl,.inl (SqL.of hY),_,rfl,jT ((s2 _ _ hx)) (T.clN) (T.nN_reaches) (hf.1) (⟨_,rfl,j4 (SqL.of (s2 _ _ hrl)) (kE hz2) (jT ((s2 _ _ hyr)) (T.clR) (T.nR_berths) (hg.2.2.2.1) (jP (⟨_,rfl,?_⟩)))⟩)⟩
  rw [hz]
  have hn1:¬(tn:Int) = -1:=by omega
  by_cases h2:r.berths≤(((vB L ys pl).countP fun z=>decide (z=(tn:Int)):Nat):Int)
  ·refine kM h2 ?_
   have:=q H2 s2
   rw [eb,if_pos ⟨hn1,h2⟩] at this
   exact this
  ·exact kF h2 ⟨_,_,rfl,s2,fun z=>h2 (by rw [eb] at z;exact z.2)⟩
 rintro σ' H3 ⟨cb,ct,rfl,s3,hno⟩
 obtain ⟨s₁,hs⟩:∃s,y.2[p]?=some s:=⟨_,List.getElem?_eq_getElem hlt⟩
 have es:y.2.getD p (0,true)=s₁:=by rw [List.getD_eq_getElem?_getD,hs];rfl
 obtain ⟨v3,hv3,t3,rfl,ht3⟩:=hw3.get hs
 have hkL:=hyok.lt s₁ (List.mem_of_getElem? hs)
 obtain ⟨l,hl'⟩:∃l,L[s₁.1]?=some l:=⟨_,List.getElem?_eq_getElem hkL⟩
 have hlaw:=o7 hdr hok hl'
 refine ⟨_,rfl,jL (SqT.of (s3 _ _ hw1)) rfl (⟨_,rfl,jL (SqT.of (s3 _ _ hw2)) (kE hv3) (?_)⟩)⟩
 refine ⟨_,rfl,jL (SqT.of (s3 _ _ hst1)) rfl (⟨wt,_,rfl,.inr (SqT.of (s3 _ _ hwt)),fun wa hwaf=>?_⟩)⟩
 have s4:=jK hwaf (.lst (ms.map V.int))
 have hwa:upd H3 wa (.lst (ms.map V.int)) wa=some (.lst (ms.map V.int)):=jE
 have s34:=s3.trans s4
 generalize upd H3 wa (.lst (ms.map V.int))=H4 at s4 hwa s34 ⊢
 have hat:qC (ms.map V.int) ((R.length:Int)+(s₁.1:Int))=some (.int (ms.getD (R.length+s₁.1) 0)):=by
  rw [show (R.length:Int)+(s₁.1:Int)=((R.length+s₁.1:Nat):Int) by omega]
  exact qD (by omega)
 refine ⟨_,rfl,_,rfl,jT ((s34 _ _ hx)) (T.clN) (T.nN_reaches) (hf.1) (⟨rl,_,rfl,.inl (SqL.of (s34 _ _ hrl)),_,rfl,jL (SqT.of (s34 _ _ ht3)) rfl (jP (?_))⟩)⟩
 rw [hR.1]
 refine (j4 (SqL.of hwa) hat (jP (?_)))
 refine ⟨_,rfl,_,rfl,jL (SqT.of (s34 _ _ hst1)) rfl (⟨_,rfl,jL (SqT.of (s34 _ _ ht3)) rfl (⟨_,rfl,_,rfl,jL (SqT.of (s34 _ _ ht3)) rfl (⟨v5 R.length ms s₁.1,s₁.2,rfl,fun wd H5 s5 hwd=>?_⟩)⟩)⟩)⟩
 have s35:=s34.trans s5
 refine ⟨x,wt,wd,s₁.1,l,ms,_,D,R,L,N,rfl,hc0.same s35,hl',hdr.lock _ _ hl',by omega,by omega,s35 _ _ hwt,hml,hwd,(by cases s₁.2<;>cases v5 R.length ms s₁.1<;>decide),fun rr H6 zs s6 hrr0 hrr hP=>?_⟩
 rw [hlaw] at hP
 have s36:=s35.trans s6
 have hwa6:=s6 _ _ (s5 _ _ hwa)
 have hwafH:H wa=none:=s3.free hwaf
 have hnew:rr≠wa:=fun z=>by rw [z,hwa6] at hrr;have:=Option.some.inj hrr;rw [z,s5 _ _ hwa] at hrr0;cases hrr0
 obtain ⟨qs,hqs⟩:∃qs,qs=vQ R.length L ms s₁:=⟨_,rfl⟩
 rw [← hqs] at hP
 refine ⟨rr,rfl,⟨_,SqL.of hrr⟩,QZ (K:=K) (a:=rr) (xs:=zs) (fun i σ Hi=>∃co:Option V,σ=[some (.ref x),some (.ref wl),some (.ref st),some (.int (b:Int)),some (.ref t),some (.int (p:Int)),cb,ct,some (.ref t3),some (.ref wa),some (.bl (v5 R.length ms s₁.1)),co]∧Hi wa=some (.lst ((j9 ms (qs.take i)).map V.int))∧vO R ms qs=vO R (j9 ms (qs.take i)) (qs.drop i)∧Keep wa H6 Hi)
  ⟨none,rfl,hwa6,rfl,Keep.refl _ _⟩ (fun i σ Hi _ ⟨_,_,_,_,k⟩=>SqL.of (k _ _ hnew hrr)) ?_ ?_⟩
 ·rintro i v σ Hi hv ⟨co,rfl,hwi,he,kp⟩
  obtain ⟨a,s,tt,m,rfl,hq,hT,hs',ht'⟩:=hP.2 i v hv
  have hna:a≠wa:=fun z=>by rw [z,hwa6] at hT;cases hT
  have el:(j9 ms (qs.take i)).length=ms.length:=y0 _ _
  have hTi:=kp _ _ hna hT
  generalize hm1:j9 ms (qs.take i)=m1 at hwi el he
  refine ⟨_,rfl,_,rfl,jL (SqT.of hTi) rfl (j4 (SqL.of hwi) (qD (by omega)) (⟨_,rfl,jL (SqT.of hTi) rfl (jP (⟨_,rfl,_,rfl,jL (SqT.of hTi) rfl (⟨wa,_,_,_,rfl,rfl,hwi,y9 (by rw [List.length_map];omega),?_⟩)⟩))⟩))⟩
  try dsimp only
  rw [zI]
  have hT2:∀o,upd Hi wa o a=some (.tup [V.int (s:Int),V.int (tt:Int),V.int m]):=fun o=>by rw [kC hna];exact hTi
  refine ⟨_,rfl,_,rfl,jL (SqT.of (hT2 _)) rfl (j4 (SqL.of jE) (qD (by rw [List.length_set];omega)) (⟨_,rfl,jL (SqT.of (hT2 _)) rfl (jP (⟨_,rfl,_,rfl,jL (SqT.of (hT2 _)) rfl (⟨wa,_,_,_,rfl,rfl,jE,y9 (by rw [List.length_map,List.length_set];omega),?_⟩)⟩))⟩))⟩
  try dsimp only
  rw [zI]
  have epour:(m1.set s (m1.getD s 0 - m)).set tt ((m1.set s (m1.getD s 0 - m)).getD tt 0+m)=pour m1 (s,tt,m):=rfl
  rw [epour]
  have kp3:∀o o',Keep wa H6 (upd (upd Hi wa o) wa o'):=fun o o'=>(kp.upd o).upd o'
  have hT3:∀o o',upd (upd Hi wa o) wa o' a=some (.tup [V.int (s:Int),V.int (tt:Int),V.int m]):=fun o o'=>by rw [kC hna];exact hT2 o
  have sH:∀o o',Same H (upd (upd Hi wa o) wa o'):=fun o o' z u e=>kp3 o o' z u (qI e hwafH) (s36 _ _ e)
  have elp:(pour m1 (s,tt,m)).length=ms.length:=by rw [dP];exact el
  have e1:j9 ms (qs.take (i+1))=pour m1 (s,tt,m):=by rw [dN ms qs i _ hq,hm1]
  have ed:qs.drop i=(s,tt,m)::qs.drop (i+1):=(List.drop_eq_getElem_cons (List.getElem?_eq_some_iff.mp hq).1).trans (by rw [(List.getElem?_eq_some_iff.mp hq).2])
  have he2:vO R ms qs=(yC R (pour m1 (s,tt,m)) s||vO R (pour m1 (s,tt,m)) (qs.drop (i+1))):=by
   rw [he,ed]
   rfl
  have fin:∀o,yC R (pour m1 (s,tt,m)) s=false→∃co:Option V,[some (.ref x),some (.ref wl),some (.ref st),some (.int (b:Int)),some (.ref t),some (.int (p:Int)),cb,ct,some (.ref t3),some (.ref wa),some (.bl (v5 R.length ms s₁.1)),some (.ref a)]=[some (.ref x),some (.ref wl),some (.ref st),some (.int (b:Int)),some (.ref t),some (.int (p:Int)),cb,ct,some (.ref t3),some (.ref wa),some (.bl (v5 R.length ms s₁.1)),co]∧upd (upd Hi wa o) wa (.lst ((pour m1 (s,tt,m)).map V.int)) wa=some (.lst ((j9 ms (qs.take (i+1))).map V.int))∧vO R ms qs=vO R (j9 ms (qs.take (i+1))) (qs.drop (i+1))∧Keep wa H6 (upd (upd Hi wa o) wa (.lst ((pour m1 (s,tt,m)).map V.int))):=fun o hlow=>⟨_,rfl,by rw [jE,e1],by rw [he2,hlow,e1];rfl,kp3 _ _⟩
  refine ⟨_,rfl,jL (SqT.of (hT3 _ _)) rfl (⟨_,rfl,jT ((sH _ _ _ _ hx)) (T.clN) (T.nN_reaches) (hf.1) (⟨rl,_,rfl,.inl (SqL.of (sH _ _ _ _ hrl)),_,_,rfl,rfl,_,rfl,?_⟩)⟩)⟩
  rw [hR.1]
  by_cases hsr:s<R.length
  rotate_left
  ·exact kF (by omega) (qF (fin _ (by unfold yC;rw [List.getElem?_eq_none (by omega)])))
  refine kM (by omega) ?_
  obtain ⟨r,hr⟩:∃r,R[s]?=some r:=⟨_,List.getElem?_eq_getElem hsr⟩
  obtain ⟨z,hz2,yr,rfl,dy,gs,hyr,hg⟩:=hR.get hr
  have elow:yC R (pour m1 (s,tt,m)) s=decide ((pour m1 (s,tt,m)).getD s 0<r.least):=by unfold yC;rw [hr]
  refine ⟨_,rfl,_,rfl,jL (SqT.of (hT3 _ _)) rfl (j4 (SqL.of jE) (qD (by omega)) (⟨_,rfl,jT ((sH _ _ _ _ hx)) (T.clN) (T.nN_reaches) (hf.1) (⟨_,rfl,jL (SqT.of (hT3 _ _)) rfl (j4 (SqL.of (sH _ _ _ _ hrl)) (kE hz2) (jT ((sH _ _ _ _ hyr)) (T.clR) (T.nR_least) (hg.2.1) (jP (⟨_,rfl,?_⟩))))⟩)⟩))⟩
  by_cases hlo:(pour m1 (s,tt,m)).getD s 0<r.least
  ·refine kM hlo ?_
   have qw:∀Hx,Same H Hx→Q (.str "water") Hx:=fun Hx sx=>by
    have:=q Hx sx
    rw [if_neg hno,es,← hqs,he2,elow,decide_eq_true hlo,if_pos (by rfl)] at this
    exact this
   exact qw _ (sH _ _)
  ·exact kF hlo (fin _ (by rw [elow,decide_eq_false hlo]))
 rintro σ H7 ⟨co,rfl,hwi,he,kp⟩
 rw [hP.1,List.drop_length] at he
 have:=q H7 (fun z u e=>kp _ _ (qI e hwafH) (s36 _ _ e))
 rw [if_neg hno,es,← hqs,he,if_neg (by show ¬false=true;decide)] at this
 exact this
theorem AY:FnScope ["canal","ways","state","deed"] ["canal","ways","state","deed"] (jF bD):=⟨rfl,rfl,rfl,by decide +kernel,rfl,by decide +kernel,by decide +kernel⟩
theorem wY {f:Addr} {fd:FuncData} (F:Fun K "_law_why" "_law_why" bD f fd) (T:Txt K mg cP cB cU cR cN tkS eW eL tkH) (D__law_why_no_pass:Def P w K mg base 4 "_law_why_no_pass" ["canal","ways","state","boat"] [] (rY (jG cP cB cU) cR cN)):FnOk P w K mg base jU 5 f fd ["canal","ways","state","deed"] (rZ (jG cP cB cU) cR cN):=by
 refine F.ok AY (fun vs H Q E h=>?_) (fun cdv A outer s H vs Q E hr h=>?_)
 ·obtain ⟨x,wl,st,dd,de,us,ys,d,ms,pl,D,R,L,N,rfl,hG,hok,hdd,hin,q⟩:=h
  rfl
 obtain ⟨x,wl,st,dd,de,us,ys,d,ms,pl,D,R,L,N,rfl,hG,hok,hdd,hin,q⟩:=h
 have hu:_<cLine:=hr.units0
 have hu1:=jY hr
 refine ⟨_,(@jH _ _ _ _ _ (kH (kD kQ (jD ix_tup (pv 3) jC (fun _ _=>rfl)) jO (j3 _)) (@jJ _ _ _ (@jN _ _ _ _ (jM D__law_why_no_pass hr rfl (@jA _ _ _ _ _ (pv 0) (@jA _ _ _ _ _ (pv 1) (@jA _ _ _ _ _ (pv 2) (@jA _ _ _ _ _ (jD ix_tup (pv 3) jC (fun _ _=>rfl)) jB (by rfl)) (by rfl)) (by rfl)) (by rfl))))) kJ)
   (@jH _ _ _ _ _ (kH (kD kQ (jD ix_tup (pv 3) jC (fun _ _=>rfl)) jO (j3 _)) (@jJ _ _ _ (@jN _ _ _ _ (jD j5 (kN (jA jO (jA jO jB))) (qJ QV (by rfl) T.z_int PyProof.Rows.boot_int (jA (v9 Q7 (jD ix_tup (jD ix_tup (pv 2) jC (fun _ _=>rfl)) (@jI _ _ _ _ _ _ _ _ jX (kB kI (by rfl) T.z_len PySem.boot_len (jA (jR (pv 0) rfl) jB)) (jD ix_tup (pv 3) jC (fun _ _=>rfl))) (fun _ _=>rfl)) jC (j3 _)) jB)) (fun _ _=>rfl)))) kJ)
   (@jJ _ _ _ (@jN _ _ _ _ (jD j5 (kN (jA jO (jA jO jB))) (qJ QV (by rfl) T.z_int PyProof.Rows.boot_int (jA (v9 QA (jD ix_tup (pv 2) jC (fun _ _=>rfl)) (kB kI (by rfl) T.z_len PySem.boot_len (jA (jR (pv 0) rfl) jB)) (j3 _)) jB)) (fun _ _=>rfl)))))),?_⟩
 obtain ⟨hc,hdr,hwl,hA,hst,hfl,hml⟩:=id hG
 obtain ⟨wt,pt,hst1,hwt,hpt⟩:=id hst
 have hc0:=hc
 obtain ⟨dx,rl,ll,nl,fs,rs,ls,nv,hx,hf,hrl,hll,hnl,hR,hL,hN,d1,d2,d3⟩:=hc
 cases de with
 |pass b =>
  refine ⟨_,rfl,jL (SqT.of hdd) rfl (⟨rfl,_,rfl,kM rfl ?_⟩)⟩
  exact ⟨_,rfl,_,rfl,_,rfl,_,rfl,jL (SqT.of hdd) rfl (⟨x,wl,st,b,us,ys,d,ms,pl,D,R,L,N,rfl,hG,hok,hin,q⟩)⟩
 |«let» k =>
  have hk:k<L.length:=hin
  refine ⟨_,rfl,jL (SqT.of hdd) rfl (⟨rfl,_,rfl,kF (fun e=>absurd (V.str.inj e) (by decide +kernel)) ?_⟩)⟩
  refine ⟨_,rfl,jL (SqT.of hdd) rfl (⟨rfl,_,rfl,kM rfl ?_⟩)⟩
  refine ⟨zz2,fun lp hlp=>?_⟩
  have u:=jK hlp (.lst [V.str "empty",V.str ""])
  have hat:qC (ms.map V.int) ((R.length:Int)+(k:Int))=some (.int (ms.getD (R.length+k) 0)):=by
   rw [show (R.length:Int)+(k:Int)=((R.length+k:Nat):Int) by omega]
   exact qD (by omega)
  refine ⟨_,rfl,jL (SqT.of (u _ _ hst1)) rfl (⟨_,rfl,jT ((u _ _ hx)) (T.clN) (T.nN_reaches) (hf.1) (⟨rl,_,rfl,.inl (SqL.of (u _ _ hrl)),_,rfl,jL (SqT.of (u _ _ hdd)) rfl (jP (?_))⟩)⟩)⟩
  rw [hR.1]
  refine (jL (SqT.of (u _ _ hwt)) hat (jP (.inr ⟨_,rfl,?_⟩)))
  have:=q _ u
  change Q (.str (if v5 R.length ms k=true then "" else "empty")) _ at this
  unfold v5 at this
  by_cases h:0<ms.getD (R.length+k) 0
  ·rw [if_pos (decide_eq_true h)] at this
   exact (j4 (SqL.of jE) ((by rw [fT h];rfl)) (this))
  ·rw [if_neg (by rw [decide_eq_true_eq];exact h)] at this
   exact (j4 (SqL.of jE) ((by rw [cS h];rfl)) (this))
 |night =>
  refine ⟨_,rfl,jL (SqT.of hdd) rfl (⟨rfl,_,rfl,kF (fun e=>absurd (V.str.inj e) (by decide +kernel)) ?_⟩)⟩
  refine ⟨_,rfl,jL (SqT.of hdd) rfl (⟨rfl,_,rfl,kF (fun e=>absurd (V.str.inj e) (by decide +kernel)) ?_⟩)⟩
  refine ⟨zz2,fun lp hlp=>?_⟩
  have u:=jK hlp (.lst [V.str "over",V.str ""])
  refine ⟨_,rfl,jL (SqT.of (u _ _ hst1)) rfl (⟨_,rfl,jT ((u _ _ hx)) (T.clN) (T.nN_nights) (hf.2.2.1) (⟨nl,_,rfl,.inl (SqL.of (u _ _ hnl)),_,_,rfl,rfl,.inr ⟨_,rfl,?_⟩⟩)⟩)⟩
  rw [hN.1]
  have:=q _ u
  change Q (.str (if d<(N.length:Int) then "" else "over")) _ at this
  by_cases h:d<(N.length:Int)
  ·rw [if_pos h] at this
   exact (j4 (SqL.of jE) ((by rw [fT h];rfl)) (this))
  ·rw [if_neg h] at this
   exact (j4 (SqL.of jE) ((by rw [cS h];rfl)) (this))
theorem gX:FnScope ["canal","ways","every"] ["canal","ways"] (jF JQ):=⟨rfl,rfl,rfl,by decide +kernel,rfl,by decide +kernel,by decide +kernel⟩
theorem wF {f:Addr} {fd:FuncData} (F:Fun K "_law_deeds" "_law_deeds" JQ f fd) (T:Txt K mg cP cB cU cR cN tkS eW eL tkH) : FnOk P w K mg base jU 1 f fd ["canal","ways"] (p6 (jG cP cB cU) cR cN):=by
 refine F.ok gX (fun vs H Q E h=>?_) (fun cdv A outer s H vs Q E hr h=>?_)
 ·obtain ⟨x,wl,us,D,R,L,N,rfl,hc,hwl,h100,b2,q⟩:=h
  rfl
 obtain ⟨x,wl,us,D,R,L,N,rfl,hc,hwl,h100,b2,q⟩:=h
 have hu:_<cLine:=hr.units0
 have hu1:=jY hr
 refine ⟨_,(@jH _ _ _ _ _ (z9 (i:=2) ["boat"] (kW 1 []) gX.nd rfl (by first|exact Or.inl rfl|exact Or.inr rfl) rfl (kZ (jF JQ) rfl rfl (by decide +kernel) (by decide +kernel) (by decide +kernel)) (qA 1 [] rfl rfl (by decide +kernel)) (vD (by rfl) T.z_range (jA (kB kI (by rfl) T.z_len PySem.boot_len (jA (pv 1) jB)) jB)) (fun _ _ _ _ _=>(j8 (i:=0) (show List.Nodup (["boat"]:List Str) from by decide +kernel) rfl (by first|exact Or.inl rfl|exact Or.inr rfl))) (fun _ _ _ _ _=>qZ) (fun _ _ _ _ _=>(kL (jA jO (jA (pv 0) jB)))))
   (@jH _ _ _ _ _ (jQ (i:=2) gX.nd rfl (by first|exact Or.inl rfl|exact Or.inr rfl) (@jI _ _ _ _ _ _ _ _ JG (pv 2) (qV ["k"] (kW 1 []) rfl (kZ (jF JQ) rfl rfl (by decide +kernel) (by decide +kernel) (by decide +kernel)) (qA 1 [] rfl rfl (by decide +kernel)) (vD (by rfl) T.z_range (jA (kB kI (by rfl) T.z_len PySem.boot_len (jA (jR (pv 0) rfl) jB)) jB)) (fun _ _ _ _ _=>(j8 (i:=0) (show List.Nodup (["k"]:List Str) from by decide +kernel) rfl (by first|exact Or.inl rfl|exact Or.inr rfl))) (fun _ _ _ _ _=>qZ) (fun _ _ _ _ _=>(kL (jA jO (jA (pv 0) jB)))))))
   (@jJ _ _ _ (@jN _ _ _ _ (@jI _ _ _ _ _ _ _ _ JG (pv 2) (kN (jA (kL (jA jO jB)) jB))))))),?_⟩
 obtain ⟨dx,rl,ll,nl,fs,rs,ls,nv,hx,hf,hrl,hll,hnl,hR,hL,hN,d1,d2,d3⟩:=hc
 refine ⟨_,rfl,wl,_,rfl,.inl (SqL.of hwl),_,rfl,by omega,by omega,fun D₁ hD₁=>?_⟩
 refine y6 (n:=((us.length:Nat):Int).toNat) (caps:=[]) (fun i zs Hi=>AllAt (DdAt Hi) zs (passes i)) hD₁ AllAt.nil ?_ ?_
 ·rintro i zs Hi hi hle sm hY hZ
  rw [Int.toNat_natCast] at hi
  rw [Int.zero_add]
  refine q9 (kU ⟨_,rfl,zz2,fun tp htp=>?_⟩)
  have u:=jK htp (.tup [V.str "pass",V.int (i:Int)])
  refine qU hD₁ sm hY hle (by omega) u ?_
  rw [show passes (i+1)=passes i++[.pass i] by unfold passes;rw [List.range_succ,List.map_append];rfl]
  exact ((hZ.mono (DdAt.same u)).snoc (v:=.ref tp) (x:=.pass i) ⟨tp,rfl,jE⟩).mono (DdAt.put (u _ _ hY))
 rintro zs H1 s1 hY1 hle1 hZ1
 rw [Int.toNat_natCast] at hZ1
 refine ⟨_,rfl,_,rfl,jT ((s1 _ _ hx)) (T.clN) (T.nN_locks) (hf.2.1) (⟨ll,_,rfl,.inl (SqL.of (s1 _ _ hll)),_,rfl,by omega,by rw [hL.1];omega,fun D₂ hD₂=>?_⟩)⟩
 refine y6 (n:=((ls.length:Nat):Int).toNat) (caps:=[]) (fun i zs Hi=>AllAt (DdAt Hi) zs (dE i)) hD₂ AllAt.nil ?_ ?_
 ·rintro i zs Hi hi hle sm hY hZ
  rw [Int.toNat_natCast,hL.1] at hi
  rw [Int.zero_add]
  refine q9 (kU ⟨_,rfl,zz2,fun tp htp=>?_⟩)
  have u:=jK htp (.tup [V.str "let",V.int (i:Int)])
  refine qU hD₂ sm hY hle (by omega) u ?_
  rw [show dE (i+1)=dE i++[.let i] by unfold dE;rw [List.range_succ,List.map_append];rfl]
  exact ((hZ.mono (DdAt.same u)).snoc (v:=.ref tp) (x:=.let i) ⟨tp,rfl,jE⟩).mono (DdAt.put (u _ _ hY))
 rintro zs2 H2 s2 hY2 hle2 hZ2
 rw [Int.toNat_natCast,hL.1] at hZ2
 have l1:=hZ1.1
 have l2:=hZ2.1
 unfold passes at l1
 unfold dE at l2
 rw [List.length_map,List.length_range] at l1 l2
 refine ⟨D₁,D₂,_,_,rfl,rfl,s2 _ _ hY1,hY2,small (by omega),fun al hal=>?_⟩
 have s3:=jK hal (.lst (zs++zs2))
 refine ⟨_,rfl,zz1,fun tp htp=>?_⟩
 have s4:=jK htp (.tup [V.str "night"])
 refine ⟨zz1,fun lp hlp=>?_⟩
 have s5:=jK hlp (.lst [V.ref tp])
 have hal5:=s5 _ _ (s4 _ _ (jE:upd H2 al (.lst (zs++zs2)) al=_))
 refine ⟨al,lp,_,_,rfl,rfl,hal5,jE,small (by rw [List.length_append,l1,l2];show _+1≤1000;omega),fun rr hrr=>?_⟩
 have s6:=jK hrr (.lst (zs++zs2++[V.ref tp]))
 have s36:=((s3.trans s4).trans s5).trans s6
 have s26:=s2.trans s36
 refine q rr _ _ (s1.trans s26) (((((s1.trans s2).trans s3).trans s4).trans s5).free hrr) jE ?_
 unfold lB
 exact ((hZ1.mono (DdAt.same s26)).app (hZ2.mono (DdAt.same s36))).snoc (v:=.ref tp) (x:=.night) ⟨tp,rfl,s6 _ _ (s5 _ _ jE)⟩
theorem QT:FnScope ["canal","ways","state","deed","many","sky","told","row","step"] ["canal","ways","state","deed"] (jF zV):=⟨rfl,rfl,rfl,by decide +kernel,rfl,by decide +kernel,by decide +kernel⟩
theorem wM {f:Addr} {fd:FuncData} (F:Fun K "_law_own_row" "_law_own_row" zV f fd) (T:Txt K mg cP cB cU cR cN tkS eW eL tkH) (D__law_row_of:Def P w K mg base 3 "_law_row_of" ["canal","waters","k","words"] [] (lF (jG cP cB cU) cR cN)) (D__law_words:Def P w K mg base 1 "_law_words" ["full","course"] [] (iY)):FnOk P w K mg base jU 4 f fd ["canal","ways","state","deed"] (pW (jG cP cB cU) cR cN):=by
 refine F.ok QT (fun vs H Q E h=>?_) (fun cdv A outer s H vs Q E hr h=>?_)
 ·obtain ⟨x,wl,st,dd,de,us,ys,d,ms,pl,D,R,L,N,rfl,hG,hok,hnN,hdd,hin,hd0,hw,q⟩:=h
  rfl
 obtain ⟨x,wl,st,dd,de,us,ys,d,ms,pl,D,R,L,N,rfl,hG,hok,hnN,hdd,hin,hd0,hw,q⟩:=h
 have hu:_<cLine:=hr.units0
 have hu1:=jY hr
 refine ⟨_,(@jH _ _ _ _ _ (jQ (i:=4) QT.nd rfl (by first|exact Or.inl rfl|exact Or.inr rfl) (kB kI (by rfl) T.z_len PySem.boot_len (jA (jR (pv 0) rfl) jB)))
   (@jH _ _ _ _ _ (kH (kD kQ (jD ix_tup (pv 3) jC (fun _ _=>rfl)) jO (j3 _)) (@jH _ _ _ _ _ (jQ (i:=5) QT.nd rfl (by first|exact Or.inl rfl|exact Or.inr rfl) (@jI _ _ _ _ _ _ _ _ jX (@jI _ _ _ _ _ _ _ _ jX (pv 4) (@jI _ _ _ _ _ _ _ _ kK jC (kB kI (by rfl) T.z_len PySem.boot_len (jA (jR (pv 0) rfl) jB)))) jC))
   (@jH _ _ _ _ _ (jQ (i:=6) QT.nd rfl (by first|exact Or.inl rfl|exact Or.inr rfl) (jD j5 (jR (pv 0) rfl) (jD ix_tup (pv 2) jC (fun _ _=>rfl)) (fun _ _=>rfl)))
   (@jH _ _ _ _ _ (z9 (i:=7) ["r","sky","state","told"] (kW 1 [5,2,6]) QT.nd rfl (by first|exact Or.inl rfl|exact Or.inr rfl) rfl (kZ (jF zV) rfl rfl (by decide +kernel) (by decide +kernel) (by decide +kernel)) (qA 1 [5,2,6] rfl rfl (by decide +kernel)) (vD (by rfl) T.z_range (jA (pv 4) jB)) (fun _ _ _ _ _=>(j8 (i:=0) (show List.Nodup (["r","sky","state","told"]:List Str) from by decide +kernel) rfl (by first|exact Or.inl rfl|exact Or.inr rfl))) (fun _ _ _ _ _=>qZ) (fun _ _ _ _ _=>(kL (@jA _ _ _ _ _ (pv 0) (@jA _ _ _ _ _ (pv 1) (@jA _ _ _ _ _ (kB (iW rfl) (by rfl) T.z_min PyProof.Rows.boot_min (jA (jD (qO K) (jD (qO K) (pv 2) jC (fun _ _=>rfl)) (pv 0) (fun _ _=>rfl)) (jA (jD (qO K) (jD (JC K) (pv 3) (pv 0) (fun _ _=>rfl)) jC (fun _ _=>rfl)) jB))) jB (by rfl)) (by rfl)) (by rfl)))))
   (@jH _ _ _ _ _ (jQ (i:=7) QT.nd rfl (by first|exact Or.inl rfl|exact Or.inr rfl) (@jI _ _ _ _ _ _ _ _ JG (pv 7) (qV ["r","sky","told"] (kW 1 [5,6]) rfl (kZ (jF zV) rfl rfl (by decide +kernel) (by decide +kernel) (by decide +kernel)) (qA 1 [5,6] rfl rfl (by decide +kernel)) (vD (by rfl) T.z_range (jA (pv 4) jB)) (fun _ _ _ _ _=>(j8 (i:=0) (show List.Nodup (["r","sky","told"]:List Str) from by decide +kernel) rfl (by first|exact Or.inl rfl|exact Or.inr rfl))) (fun _ _ _ _ _=>qZ) (fun _ _ _ _ _=>(kL (@jA _ _ _ _ _ (pv 1) (@jA _ _ _ _ _ (pv 0) (@jA _ _ _ _ _ (jD (qO K) (jD (JC K) (pv 2) (pv 0) (fun _ _=>rfl)) jC (fun _ _=>rfl)) jB (by rfl)) (by rfl)) (by rfl)))))))
   (@jJ _ _ _ (@jN _ _ _ _ (qV ["one"] (kW 1 []) rfl (kZ (jF zV) rfl rfl (by decide +kernel) (by decide +kernel) (by decide +kernel)) (qA 1 [] rfl rfl (by decide +kernel)) (qR (pv 7)) (fun _ _ _ _ _=>(j8 (i:=0) (show List.Nodup (["one"]:List Str) from by decide +kernel) rfl (by first|exact Or.inl rfl|exact Or.inr rfl))) (fun _ _ _ _ _=>(zM (kD Q7 (jD (qO K) (pv 0) jC (fun _ _=>rfl)) jC (j3 _)))) (fun _ _ _ _ _=>(pv 0))))))))) kJ)
   (@jH _ _ _ _ _ (kH (kD kQ (jD ix_tup (pv 3) jC (fun _ _=>rfl)) jO (j3 _)) (@jJ _ _ _ (@jN _ _ _ _ (jM D__law_row_of hr rfl (@jA _ _ _ _ _ (pv 0) (@jA _ _ _ _ _ (jD ix_tup (pv 2) jC (fun _ _=>rfl)) (@jA _ _ _ _ _ (jD ix_tup (pv 3) jC (fun _ _=>rfl)) (@jA _ _ _ _ _ (kN (jA jO jB)) jB (by rfl)) (by rfl)) (by rfl)) (by rfl))))) kJ)
   (@jH _ _ _ _ _ (jQ (i:=8) QT.nd rfl (by first|exact Or.inl rfl|exact Or.inr rfl) (jD ix_tup (jD ix_tup (jD j5 (pv 1) (jD ix_tup (pv 3) jC (fun _ _=>rfl)) (fun _ _=>rfl)) jC (fun _ _=>rfl)) (jD ix_tup (jD ix_tup (pv 2) jC (fun _ _=>rfl)) (jD ix_tup (pv 3) jC (fun _ _=>rfl)) (fun _ _=>rfl)) (fun _ _=>rfl)))
   (@jJ _ _ _ (@jN _ _ _ _ (jM D__law_row_of hr rfl (@jA _ _ _ _ _ (pv 0) (@jA _ _ _ _ _ (jD ix_tup (pv 2) jC (fun _ _=>rfl)) (@jA _ _ _ _ _ (jD ix_tup (pv 8) jC (fun _ _=>rfl)) (@jA _ _ _ _ _ (jM D__law_words hr rfl (jA (v9 Q7 (jD ix_tup (jD ix_tup (pv 2) jC (fun _ _=>rfl)) (@jI _ _ _ _ _ _ _ _ jX (pv 4) (jD ix_tup (pv 8) jC (fun _ _=>rfl))) (fun _ _=>rfl)) jC (j3 _)) (jA (jD ix_tup (pv 8) jC (fun _ _=>rfl)) jB))) jB (by rfl)) (by rfl)) (by rfl)) (by rfl))))))))),?_⟩
 obtain ⟨hc,hdr,hwl,hA,hst,hfl,hml⟩:=id hG
 obtain ⟨wt,pt,hst1,hwt,hpt⟩:=id hst
 have hc0:=hc
 obtain ⟨dx,rl,ll,nl,fs,rs,ls,nv,hx,hf,hrl,hll,hnl,hR,hL,hN,d1,d2,d3⟩:=hc
 have b1:=hdr.r8
 have b2:=hdr.l8
 refine ⟨_,rfl,x,cN,dx,_,_,rfl,hx,T.clN,T.nN_reaches,hf.1,rl,_,rfl,.inl (SqL.of hrl),?_⟩
 rw [hR.1]
 cases de with
 |night =>
  have hdN:d<(N.length:Int):=by
   change (if d<(N.length:Int) then ("":Str) else "over")="" at hw
   by_cases h:d<(N.length:Int)
   ·exact h
   ·rw [if_neg h] at hw;exact absurd hw (by decide +kernel)
  obtain ⟨dn,hdn⟩:∃dn:Nat,d=(dn:Int):=⟨d.toNat,by omega⟩
  subst hdn
  obtain ⟨W,hWn⟩:∃W,N[dn]?=some W:=⟨_,List.getElem?_eq_getElem (by omega)⟩
  obtain ⟨v,hv,wn,vq,rfl,hwn,hqs,_⟩:=hN.get hWn
  have eW:N.getD (dn:Int).toNat []=W:=by rw [Int.toNat_natCast,List.getD_eq_getElem?_getD,hWn];rfl
  have hWR:=hdr.night W (List.mem_of_getElem? hWn)
  have hWn2:=hnN W (List.mem_of_getElem? hWn)
  obtain ⟨sk,hsk⟩:∃sk,sk=R.length+2*L.length+1:=⟨_,rfl⟩
  refine ⟨_,rfl,dd,_,_,_,rfl,rfl,SqT.of hdd,rfl,rfl,_,rfl,kM rfl ?_⟩
  refine ⟨_,rfl,_,rfl,x,cN,dx,_,_,rfl,hx,T.clN,T.nN_locks,hf.2.1,ll,_,rfl,.inl (SqL.of hll),_,_,rfl,rfl,.inl ⟨by decide,by decide⟩,_,_,rfl,rfl,_,_,rfl,rfl,?_⟩
  rw [hL.1]
  try dsimp only
  rw [show (R.length:Int)+2*(L.length:Int)+1=(sk:Int) by omega]
  refine ⟨_,rfl,x,cN,dx,_,_,rfl,hx,T.clN,T.nN_nights,hf.2.2.1,_,rfl,st,_,_,_,rfl,rfl,SqT.of hst1,rfl,nl,_,_,_,rfl,rfl,SqL.of hnl,kE hv,?_⟩
  refine ⟨_,rfl,_,rfl,by omega,by omega,fun D₁ hD₁=>?_⟩
  refine y6 (n:=((R.length:Nat):Int).toNat) (caps:=[some (.int (sk:Int)),some (.ref st),some (.ref wn)]) (fun i zs Hi=>PoursH Hi zs ((QB sk ms W R.length).take i) ms.length) hD₁ (PoursH.nil _ _) ?_ ?_
  ·rintro i zs Hi hi hle sm hY hZ
   rw [Int.toNat_natCast] at hi
   rw [Int.zero_add]
   obtain ⟨yy,hyy⟩:∃y,W[i]?=some y:=⟨_,List.getElem?_eq_getElem (by omega)⟩
   obtain ⟨v1,hv1,t1,rfl,ht1⟩:=hqs.get hyy
   refine q9 (kU ?_)
   refine ⟨_,rfl,_,rfl,_,rfl,st,_,_,_,rfl,rfl,SqT.of (sm _ _ hst1),rfl,_,rfl,wt,_,_,_,rfl,rfl,SqT.of (sm _ _ hwt),qD (by omega),_,rfl,_,rfl,wn,_,_,_,rfl,rfl,SqL.of (sm _ _ hwn),kE hv1,t1,_,_,_,rfl,rfl,SqT.of (sm _ _ ht1),rfl,_,_,rfl,?_⟩
   try dsimp only
   first|rw [← fO hyy]|rw [← pP hyy]
   refine ⟨zz3,fun tp htp=>?_⟩
   have u:=jK htp (.tup [V.int (i:Int),V.int (sk:Int),V.int (QC ms W i)])
   refine qU hD₁ sm hY hle (by omega) u ?_
   rw [oS hi]
   exact ((hZ.same u).snoc jE (by omega) (by omega)).put (u _ _ hY)
  rintro z1 H1 s1 hY1 hle1 hZ1
  rw [Int.toNat_natCast,List.take_of_length_le (by rw [cJ];exact Nat.le_refl _)] at hZ1
  have hqs:=hqs.mono (QAt.same s1)
  have hwn:=s1 _ _ hwn
  refine ⟨_,rfl,_,rfl,_,rfl,by omega,by omega,fun D₂ hD₂=>?_⟩
  refine y6 (n:=((R.length:Nat):Int).toNat) (caps:=[some (.int (sk:Int)),some (.ref wn)]) (fun i zs Hi=>PoursH Hi zs ((J9 sk W R.length).take i) ms.length) hD₂ (PoursH.nil _ _) ?_ ?_
  ·rintro i zs Hi hi hle sm hY hZ
   rw [Int.toNat_natCast] at hi
   rw [Int.zero_add]
   obtain ⟨yy,hyy⟩:∃y,W[i]?=some y:=⟨_,List.getElem?_eq_getElem (by omega)⟩
   obtain ⟨v1,hv1,t1,rfl,ht1⟩:=hqs.get hyy
   refine q9 (kU ?_)
   refine ⟨_,rfl,_,rfl,_,rfl,_,rfl,wn,_,_,_,rfl,rfl,SqL.of (sm _ _ hwn),kE hv1,t1,_,_,_,rfl,rfl,SqT.of (sm _ _ ht1),rfl,?_⟩
   refine ⟨zz3,fun tp htp=>?_⟩
   have u:=jK htp (.tup [V.int (sk:Int),V.int (i:Int),V.int yy.1])
   refine qU hD₂ sm hY hle (by omega) u ?_
   rw [oC hi,gO hyy]
   exact ((hZ.same u).snoc jE (by omega) (by omega)).put (u _ _ hY)
  rintro z2 H2 s2 hY2 hle2 hZ2
  rw [Int.toNat_natCast,List.take_of_length_le (by rw [cH];exact Nat.le_refl _)] at hZ2
  have l1:=hZ1.1
  have l2:=hZ2.1
  rw [cJ] at l1
  rw [cH] at l2
  refine ⟨D₁,D₂,_,_,rfl,rfl,s2 _ _ hY1,hY2,small (by omega),fun al hal=>?_⟩
  have s3:=jK hal (.lst (z1++z2))
  have hal3:upd H2 al (.lst (z1++z2)) al=_:=jE
  have hP3:PoursH (upd H2 al (.lst (z1++z2))) (z1++z2) (vK sk ms W R.length) ms.length:=((hZ1.same s2).same s3).append (hZ2.same s3)
  have s13:=(s1.trans s2).trans s3
  generalize upd H2 al (.lst (z1++z2))=H3 at s3 hal3 hP3 s13 ⊢
  refine ⟨_,rfl,al,rfl,⟨_,SqL.of hal3⟩,fun Df hDf=>?_⟩
  refine yX (K:=K) (a:=al) (xs:=z1++z2) (caps:=[]) (fun i ys Hi=>PoursH Hi ys (((vK sk ms W R.length).take i).filter kO) ms.length) hDf (SqL.of hal3) (PoursH.nil _ _) ?_ ?_
  ·rintro i v zs Hi hv hi hle sm hY hZ
   rw [List.length_append] at hi
   obtain ⟨a,s,tt,m,rfl,hq,hT,hs,ht⟩:=hP3.2 i v hv
   have ef:((vK sk ms W R.length).take (i+1)).filter kO=((vK sk ms W R.length).take i).filter kO++[(s,tt,m)].filter kO:=by
    rw [List.take_add_one,hq,List.filter_append]
    rfl
   have hm0:0≤m:=CC hok hWR hWn2 _ (List.mem_of_getElem? hq)
   refine ⟨_,rfl,a,_,_,_,rfl,rfl,SqT.of (sm _ _ hT),rfl,_,_,rfl,rfl,_,rfl,?_⟩
   by_cases hz:0<m
   ·refine kM hz ⟨_,rfl,qU hDf sm hY hle (by omega) (Same.refl _) ?_⟩
    rw [ef,List.filter_cons,if_pos (by unfold kO;rw [decide_eq_false (show ¬m=0 by omega)];rfl)]
    exact (hZ.snoc (sm _ _ hT) hs ht).put hY
   ·refine kF hz (JU sm hY hle (Same.refl _) ?_)
    rw [ef,List.filter_cons,if_neg (by unfold kO;rw [decide_eq_true (show m=0 by omega)];decide)]
    show PoursH Hi zs (_++[]) _
    rw [List.append_nil]
    exact hZ
  rintro zs H4 s4 hY hle hZ
  rw [hP3.1,List.take_of_length_le (Nat.le_refl _)] at hZ
  refine q Df H4 zs (s13.trans s4) (s13.free hDf) hY ?_
  show PoursH H4 zs ((vK (R.length+2*L.length+1) ms (N.getD (dn:Int).toNat []) R.length).filter kO) _
  rw [eW,← hsk]
  exact hZ
 |«let» k =>
  have hk:k<L.length:=hin
  obtain ⟨l,hl'⟩:∃l,L[k]?=some l:=⟨_,List.getElem?_eq_getElem hk⟩
  refine ⟨_,rfl,dd,_,_,_,rfl,rfl,SqT.of hdd,rfl,rfl,_,rfl,kF (fun e=>absurd (V.str.inj e) (by decide +kernel)) ?_⟩
  refine ⟨_,rfl,dd,_,_,_,rfl,rfl,SqT.of hdd,rfl,rfl,_,rfl,kM rfl ?_⟩
  refine ⟨_,rfl,_,rfl,st,_,_,_,rfl,rfl,SqT.of hst1,rfl,_,rfl,dd,_,_,_,rfl,rfl,SqT.of hdd,rfl,zz1,fun wd hwd0=>?_⟩
  have u:=jK hwd0 (.lst [V.str "let"])
  refine ⟨x,wt,wd,k,l,ms,[false],D,R,L,N,rfl,hc0.same u,hl',hdr.lock _ _ hl',by omega,by omega,u _ _ hwt,hml,jE,by decide,fun rr H6 zs s6 hrr0 hrr hP=>?_⟩
  rw [EE hdr hok hl'] at hP
  exact q rr H6 zs (u.trans s6) (u.free hrr0) hrr hP
 |pass b =>
  have hb:b<ys.length:=hin
  obtain ⟨y,hy⟩:∃y,ys[b]?=some y:=⟨_,List.getElem?_eq_getElem hb⟩
  obtain ⟨p,hp⟩:∃p,pl[b]?=some p:=⟨_,List.getElem?_eq_getElem (by rw [hfl.len];exact hb)⟩
  have hple:=hfl.le b y p hy hp
  have ey:ys.getD b (0,[])=y:=by rw [List.getD_eq_getElem?_getD,hy];rfl
  have ep:pl.getD b 0=p:=by rw [List.getD_eq_getElem?_getD,hp];rfl
  have hne:=pN hw
  rw [ey,ep] at hne
  obtain ⟨s₁,hs⟩:∃s,y.2[p]?=some s:=⟨_,List.getElem?_eq_getElem (by omega)⟩
  have es:y.2.getD p (0,true)=s₁:=by rw [List.getD_eq_getElem?_getD,hs];rfl
  obtain ⟨v,hvy,hwy⟩:=hA.get hy
  obtain ⟨t,st₂,vs₂,rfl,hw1,hw2,hw3⟩:=id hwy
  obtain ⟨v3,hv3,t3,rfl,ht3⟩:=hw3.get hs
  have hkL:=(hfl.ok y (List.mem_of_getElem? hy)).lt s₁ (List.mem_of_getElem? hs)
  obtain ⟨l,hl'⟩:∃l,L[s₁.1]?=some l:=⟨_,List.getElem?_eq_getElem hkL⟩
  have hat:qC (ms.map V.int) ((R.length:Int)+(s₁.1:Int))=some (.int (ms.getD (R.length+s₁.1) 0)):=by
   rw [show (R.length:Int)+(s₁.1:Int)=((R.length+s₁.1:Nat):Int) by omega]
   exact qD (by omega)
  refine ⟨_,rfl,dd,_,_,_,rfl,rfl,SqT.of hdd,rfl,rfl,_,rfl,kF (fun e=>absurd (V.str.inj e) (by decide +kernel)) ?_⟩
  refine ⟨_,rfl,dd,_,_,_,rfl,rfl,SqT.of hdd,rfl,rfl,_,rfl,kF (fun e=>absurd (V.str.inj e) (by decide +kernel)) ?_⟩
  refine ⟨_,rfl,_,rfl,dd,_,_,_,rfl,rfl,SqT.of hdd,rfl,wl,_,_,_,rfl,rfl,SqL.of hwl,kE hvy,t,_,_,_,rfl,rfl,SqT.of hw1,rfl,_,rfl,st,_,_,_,rfl,rfl,SqT.of hst1,rfl,_,rfl,dd,_,_,_,rfl,rfl,SqT.of hdd,rfl,pt,_,_,_,rfl,rfl,SqT.of hpt,kE (v:=.int (p:Int)) (by rw [List.getElem?_map,hp];rfl),st₂,_,_,_,rfl,rfl,SqT.of hw2,kE hv3,?_⟩
  refine ⟨_,rfl,_,rfl,st,_,_,_,rfl,rfl,SqT.of hst1,rfl,_,rfl,t3,_,_,_,rfl,rfl,SqT.of ht3,rfl,_,rfl,st,_,_,_,rfl,rfl,SqT.of hst1,rfl,_,rfl,_,rfl,t3,_,_,_,rfl,rfl,SqT.of ht3,rfl,_,_,rfl,rfl,wt,_,_,_,rfl,rfl,SqT.of hwt,hat,_,_,rfl,rfl,_,rfl,t3,_,_,_,rfl,rfl,SqT.of ht3,rfl,v5 R.length ms s₁.1,s₁.2,rfl,fun wd H5 s5 hwd=>?_⟩
  refine ⟨x,wt,wd,s₁.1,l,ms,_,D,R,L,N,rfl,hc0.same s5,hl',hdr.lock _ _ hl',by omega,by omega,s5 _ _ hwt,hml,hwd,(by cases s₁.2<;>cases v5 R.length ms s₁.1<;>decide),fun rr H6 zs s6 hrr0 hrr hP=>?_⟩
  rw [o7 hdr hok hl'] at hP
  refine q rr H6 zs (s5.trans s6) (s5.free hrr0) hrr ?_
  show PoursH H6 zs (vQ R.length L ms _) _
  rw [ey,ep,es]
  exact hP
theorem gY:FnScope ["found","due","k","one"] ["found","due"] (jF Z4):=⟨rfl,rfl,rfl,by decide +kernel,rfl,by decide +kernel,by decide +kernel⟩
theorem wN {f:Addr} {fd:FuncData} (F:Fun K "_law_pours" "_law_pours" Z4 f fd) (T:Txt K mg cP cB cU cR cN tkS eW eL tkH) (D__law_whole:Def P w K mg base 1 "_law_whole" ["found"] [] (lE)):FnOk P w K mg base jU 2 f fd ["found","due"] (pZ):=by
 refine F.ok gY (fun vs H Q E h=>?_) (fun cdv A outer s H vs Q E hr h=>?_)
 ·obtain ⟨a,b,ys,zs,qs,n,rfl,ha,hb,hP,hP2,h500,q⟩:=h
  rfl
 obtain ⟨a,b,ys,zs,qs,n,rfl,ha,hb,hP,hP2,h500,q⟩:=h
 have hu:_<cLine:=hr.units0
 have hu1:=jY hr
 refine ⟨_,(@jH _ _ _ _ _ (kH (PW.pt (JL (yQ (vG (kB Q0 (by rfl) T.z_isinstance PyProof.Rows.boot_isinstance (jA (pv 0) (jA (Q2 (v:=.ty "list") rfl T.z_list PyProof.Rows.boot_list rfl) jB))))) (cV (kD JM (kB kI (by rfl) T.z_len PySem.boot_len (jA (pv 0) jB)) (kB kI (by rfl) T.z_len PySem.boot_len (jA (pv 1) jB)) (j3 _))))) (@jJ _ _ _ (@jN _ _ _ _ yT)) kJ)
   (@jH _ _ _ _ _ (vJ PassesOwn.never rfl (vD (by rfl) T.z_range (jA (kB kI (by rfl) T.z_len PySem.boot_len (jA (pv 1) jB)) jB)) (j8 (i:=2) gY.nd rfl (by first|exact Or.inl rfl|exact Or.inr rfl))
    (@jH _ _ _ _ _ (jQ (i:=3) gY.nd rfl (by first|exact Or.inl rfl|exact Or.inr rfl) (jD j5 (pv 0) (pv 2) (fun _ _=>rfl)))
   (@jH _ _ _ _ _ (kH (PW.pt (JL (yQ (vG (kB Q0 (by rfl) T.z_isinstance PyProof.Rows.boot_isinstance (jA (pv 3) (jA (Q2 (v:=.ty "tuple") rfl T.z_tuple PyProof.Rows.boot_tuple rfl) jB))))) (JL (kD JM (kB kI (by rfl) T.z_len PySem.boot_len (jA (pv 3) jB)) jC (j3 _)) (cV (kD (FY hu) (pv 3) (jD j5 (pv 1) (pv 2) (fun _ _=>rfl)) (j3 _)))))) (@jJ _ _ _ (@jN _ _ _ _ yT)) kJ)
   (@jJ _ _ _ (kH (PW.pt (JL (yQ (vG (jM D__law_whole hr rfl (jA (jD ix_tup (pv 3) jC (fun _ _=>rfl)) jB)))) (JL (yQ (vG (jM D__law_whole hr rfl (jA (jD ix_tup (pv 3) jC (fun _ _=>rfl)) jB)))) (cV (yQ (vG (jM D__law_whole hr rfl (jA (jD ix_tup (pv 3) jC (fun _ _=>rfl)) jB)))))))) (@jJ _ _ _ (@jN _ _ _ _ yT)) kJ)))))
   (@jJ _ _ _ (@jN _ _ _ _ yT)))),?_⟩
 refine ⟨_,rfl,_,_,_,_,_,rfl,rfl,TyOf.lst ha,cK "list",_,rfl,qF ⟨_,rfl,a,_,rfl,.inl (SqL.of ha),_,rfl,b,_,rfl,.inl (SqL.of hb),rfl,_,rfl,JN (by rw [hP.1,hP2.1]) ?_⟩⟩
 refine ⟨_,rfl,b,_,rfl,.inl (SqL.of hb),_,rfl,by omega,by rw [hP2.1];omega,JA (n:=((zs.length:Nat):Int).toNat) (fun i σ Hi=>∃ck co:Option V,σ=[some (.ref a),some (.ref b),ck,co]∧Hi=H) ⟨none,none,rfl,rfl⟩ ?_ ?_⟩
 ·rintro i σ Hi hi ⟨ck,co,rfl,rfl⟩
  rw [Int.toNat_natCast,hP2.1] at hi
  rw [Int.zero_add]
  have g1:=List.getElem?_eq_getElem (l:=ys) (i:=i) (by rw [hP.1];exact hi)
  have g2:=List.getElem?_eq_getElem (l:=zs) (i:=i) (by rw [hP2.1];exact hi)
  obtain ⟨a1,s,tt,m,e1,hq,hT,_,_⟩:=hP.2 i _ g1
  obtain ⟨a2,s',t',m',e2,hq',hT',_,_⟩:=hP2.2 i _ g2
  rw [hq] at hq'
  cases hq'
  rw [e1] at g1
  rw [e2] at g2
  refine ⟨_,rfl,_,rfl,j4 (SqL.of ha) (kE g1) (?_)⟩
  refine ⟨_,rfl,_,_,_,_,_,rfl,rfl,TyOf.tup hT,cK "tuple",_,rfl,qF ⟨_,rfl,a1,_,rfl,.inr (SqT.of hT),rfl,_,rfl,JN rfl ?_⟩⟩
  refine ⟨_,rfl,_,rfl,_,rfl,j4 (SqL.of hb) (kE g2) (⟨a1,a2,_,_,rfl,rfl,SqT.of hT,SqT.of hT',rfl,rfl,_,rfl,?_⟩)⟩
  show if (!v8 _ _)=true then _ else _
  rw [rJ rfl]
  refine qF ?_
  refine ⟨_,rfl,jL (SqT.of hT) rfl (⟨_,rfl,_,rfl,qF ⟨_,rfl,jL (SqT.of hT) rfl (⟨_,rfl,_,rfl,qF ⟨_,rfl,jL (SqT.of hT) rfl (⟨_,rfl,_,rfl,qF ?_⟩)⟩⟩)⟩⟩)⟩
  exact ⟨_,_,rfl,rfl⟩
 rintro σ Hi ⟨ck,co,rfl,rfl⟩
 exact q
theorem zG:FnScope ["canal","ways","state","deed","many","row","waters","one","j","r","more","target"] ["canal","ways","state","deed"] (jF Z1):=⟨rfl,rfl,rfl,by decide +kernel,rfl,by decide +kernel,by decide +kernel⟩
theorem wJ {f:Addr} {fd:FuncData} (F:Fun K "_law_full_row" "_law_full_row" Z1 f fd) (T:Txt K mg cP cB cU cR cN tkS eW eL tkH) (D__law_own_row:Def P w K mg base 4 "_law_own_row" ["canal","ways","state","deed"] [] (pW (jG cP cB cU) cR cN)):FnOk P w K mg base jU 5 f fd ["canal","ways","state","deed"] (o3 (jG cP cB cU) cR cN):=by
 refine F.ok zG (fun vs H Q E h=>?_) (fun cdv A outer s H vs Q E hr h=>?_)
 ·obtain ⟨x,wl,st,dd,de,us,ys,d,ms,pl,D,R,L,N,rfl,hG,hok,hnN,hdd,hin,hd0,hw,q⟩:=h
  rfl
 obtain ⟨x,wl,st,dd,de,us,ys,d,ms,pl,D,R,L,N,rfl,hG,hok,hnN,hdd,hin,hd0,hw,q⟩:=h
 have hu:_<cLine:=hr.units0
 have hu1:=jY hr
 refine ⟨_,(@jH _ _ _ _ _ (jQ (i:=4) zG.nd rfl (by first|exact Or.inl rfl|exact Or.inr rfl) (kB kI (by rfl) T.z_len PySem.boot_len (jA (jR (pv 0) rfl) jB)))
   (@jH _ _ _ _ _ (jQ (i:=5) zG.nd rfl (by first|exact Or.inl rfl|exact Or.inr rfl) (jM D__law_own_row hr rfl (@jA _ _ _ _ _ (pv 0) (@jA _ _ _ _ _ (pv 1) (@jA _ _ _ _ _ (pv 2) (@jA _ _ _ _ _ (pv 3) jB (by rfl)) (by rfl)) (by rfl)) (by rfl))))
   (@jH _ _ _ _ _ (jQ (i:=6) zG.nd rfl (by first|exact Or.inl rfl|exact Or.inr rfl) (qJ zZ (by rfl) T.z_list PyProof.Rows.boot_list (jA (jD ix_tup (pv 2) jC (fun _ _=>rfl)) jB)))
   (@jH _ _ _ _ _ (vJ PassesOwn.never rfl (qR (pv 5)) (j8 (i:=7) zG.nd rfl (by first|exact Or.inl rfl|exact Or.inr rfl))
    (@jH _ _ _ _ _ (JZ (@jI _ _ _ _ _ _ _ _ qK (jD j5 (pv 6) (jD ix_tup (pv 7) jC (fun _ _=>rfl)) (fun _ _=>rfl)) (jD ix_tup (pv 7) jC (fun _ _=>rfl))) (J0 (pv 6) (jD ix_tup (pv 7) jC (fun _ _=>rfl)) y7))
   (@jJ _ _ _ (JZ (@jI _ _ _ _ _ _ _ _ jX (jD j5 (pv 6) (jD ix_tup (pv 7) jC (fun _ _=>rfl)) (fun _ _=>rfl)) (jD ix_tup (pv 7) jC (fun _ _=>rfl))) (J0 (pv 6) (jD ix_tup (pv 7) jC (fun _ _=>rfl)) y7)))))
   (@jH _ _ _ _ _ (vJ PassesOwn.never rfl (vD (by rfl) T.z_range (jA (pv 4) jB)) (j8 (i:=8) zG.nd rfl (by first|exact Or.inl rfl|exact Or.inr rfl))
    (@jH _ _ _ _ _ (jQ (i:=9) zG.nd rfl (by first|exact Or.inl rfl|exact Or.inr rfl) (@jI _ _ _ _ _ _ _ _ qK (@jI _ _ _ _ _ _ _ _ qK (pv 4) jC) (pv 8)))
   (@jH _ _ _ _ _ (jQ (i:=10) zG.nd rfl (by first|exact Or.inl rfl|exact Or.inr rfl) (@jI _ _ _ _ _ _ _ _ qK (jD j5 (pv 6) (pv 9) (fun _ _=>rfl)) (jR (jD j5 (jR (pv 0) rfl) (pv 9) (fun _ _=>rfl)) rfl)))
   (@jH _ _ _ _ _ (jQ (i:=11) zG.nd rfl (by first|exact Or.inl rfl|exact Or.inr rfl) (jR (jD j5 (jR (pv 0) rfl) (pv 9) (fun _ _=>rfl)) rfl))
   (eB (kH (kD QA (pv 11) jC (j3 _)) (@jJ _ _ _ (jQ (i:=11) zG.nd rfl (by first|exact Or.inl rfl|exact Or.inr rfl) (@jI _ _ _ _ _ _ _ _ jX (pv 4) (@jI _ _ _ _ _ _ _ _ kK jC (kB kI (by rfl) T.z_len PySem.boot_len (jA (jR (pv 0) rfl) jB)))))) kJ)
   (@jJ _ _ _ (kH (kD Q7 (pv 10) jC (j3 _)) (@jH _ _ _ _ _ (yG (yS PySem.F.plainAttrs_list PySem.F.slot_list_append PySem.F.type_list_append yM (pv 5) (jA (kL (@jA _ _ _ _ _ (pv 9) (@jA _ _ _ _ _ (pv 11) (@jA _ _ _ _ _ (pv 10) jB (by rfl)) (by rfl)) (by rfl))) jB)))
   (@jH _ _ _ _ _ (JZ (@jI _ _ _ _ _ _ _ _ qK (jD j5 (pv 6) (pv 9) (fun _ _=>rfl)) (pv 10)) (J0 (pv 6) (pv 9) y7))
   (@jJ _ _ _ (JZ (@jI _ _ _ _ _ _ _ _ jX (jD j5 (pv 6) (pv 11) (fun _ _=>rfl)) (pv 10)) (J0 (pv 6) (pv 11) y7))))) kJ)))))))
   (@jJ _ _ _ (@jN _ _ _ _ (kN (jA (pv 5) (jA (qJ QU (by rfl) T.z_tuple PyProof.Rows.boot_tuple (jA (pv 6) jB)) jB)))))))))),?_⟩
 obtain ⟨hc,hdr,hwl,hA,hst,hfl,hml⟩:=id hG
 obtain ⟨wt,pt,hst1,hwt,hpt⟩:=id hst
 have hc0:=hc
 obtain ⟨dx,rl,ll,nl,fs,rs,ls,nv,hx,hf,hrl,hll,hnl,hR,hL,hN,d1,d2,d3⟩:=hc
 have b1:=hdr.r8
 have b2:=hdr.l8
 have hTg:=fA hdr
 refine ⟨_,rfl,jT hx (T.clN) (T.nN_reaches) (hf.1) (⟨rl,_,rfl,.inl (SqL.of hrl),?_⟩)⟩
 rw [hR.1]
 refine ⟨_,rfl,_,rfl,_,rfl,_,rfl,x,wl,st,dd,de,us,ys,d,ms,pl,D,R,L,N,rfl,hG,hok,hnN,hdd,hin,hd0,hw,fun rr H1 z0 s1 hrr0 hrr hP=>?_⟩
 refine ⟨_,rfl,jL (SqT.of (s1 _ _ hst1)) rfl (⟨wt,_,rfl,.inr (SqT.of (s1 _ _ hwt)),fun wa hwa0=>?_⟩)⟩
 have s2:=jK hwa0 (.lst (ms.map V.int))
 have hwa:upd H1 wa (.lst (ms.map V.int)) wa=some (.lst (ms.map V.int)):=jE
 have hrr2:=s2 _ _ hrr
 have hP2:=hP.same s2
 have s12:=s1.trans s2
 have hne:rr≠wa:=qI hrr hwa0
 have hwaH:H wa=none:=s1.free hwa0
 generalize upd H1 wa (.lst (ms.map V.int))=H2 at s2 hwa hrr2 hP2 s12 ⊢
 obtain ⟨qs,hqs⟩:∃qs,qs=zC R L N ys d ms pl de:=⟨_,rfl⟩
 have hqin:∀q∈qs,q.1<ms.length∧q.2.1<ms.length:=by rw [hqs];exact rL hdr hml de
 rw [← hqs] at hP2
 refine ⟨_,rfl,rr,rfl,⟨_,SqL.of hrr2⟩,QZ (K:=K) (a:=rr) (xs:=z0) (fun i σ Hi=>∃co:Option V,σ=[some (.ref x),some (.ref wl),some (.ref st),some (.ref dd),some (.int (R.length:Int)),some (.ref rr),some (.ref wa),co,none,none,none,none]∧Hi wa=some (.lst ((j9 ms (qs.take i)).map V.int))∧Keep wa H2 Hi)
  ⟨none,rfl,hwa,Keep.refl _ _⟩ (fun i σ Hi _ ⟨_,_,_,k⟩=>SqL.of (k _ _ hne hrr2)) ?_ ?_⟩
 ·rintro i v σ Hi hv ⟨co,rfl,hwi,kp⟩
  obtain ⟨a,s,tt,m,rfl,hq,hT,hs',ht'⟩:=hP2.2 i v hv
  have hna:a≠wa:=fun z=>by rw [z,hwa] at hT;cases hT
  have el:(j9 ms (qs.take i)).length=ms.length:=y0 _ _
  have hTi:=kp _ _ hna hT
  generalize hm1:j9 ms (qs.take i)=m1 at hwi el
  refine ⟨_,rfl,_,rfl,jL (SqT.of hTi) rfl (j4 (SqL.of hwi) (qD (by omega)) (⟨_,rfl,jL (SqT.of hTi) rfl (jP (⟨_,rfl,_,rfl,jL (SqT.of hTi) rfl (⟨wa,_,_,_,rfl,rfl,hwi,y9 (by rw [List.length_map];omega),?_⟩)⟩))⟩))⟩
  try dsimp only
  rw [zI]
  have hT2:∀o,upd Hi wa o a=some (.tup [V.int (s:Int),V.int (tt:Int),V.int m]):=fun o=>by rw [kC hna];exact hTi
  refine ⟨_,rfl,_,rfl,jL (SqT.of (hT2 _)) rfl (j4 (SqL.of jE) (qD (by rw [List.length_set];omega)) (⟨_,rfl,jL (SqT.of (hT2 _)) rfl (jP (⟨_,rfl,_,rfl,jL (SqT.of (hT2 _)) rfl (⟨wa,_,_,_,rfl,rfl,jE,y9 (by rw [List.length_map,List.length_set];omega),?_⟩)⟩))⟩))⟩
  try dsimp only
  rw [zI]
  refine ⟨_,rfl,?_,(kp.upd _).upd _⟩
  rw [jE,dN ms qs i _ hq,hm1]
  rfl
 rintro σ H3 ⟨co,rfl,hwa3,kp⟩
 rw [hP2.1,List.take_length] at hwa3
 have hP3:=hP2.kp kp hwa
 have hrr3:=kp _ _ hne hrr2
 have s3:Same H H3:=fun b o e=>kp b o (qI e hwaH) (s12 b o e)
 obtain ⟨m1,hm1⟩:∃m1,m1=j9 ms qs:=⟨_,rfl⟩
 rw [← hm1] at hwa3
 have hm1l:m1.length=ms.length:=by rw [hm1];exact y0 _ _
 have hwl2:(j7 R L.length).length=R.length:=JS _ _
 have hin2:∀a,a<(j7 R L.length).length→kA (j7 R L.length) a<m1.length:=by rw [hm1l,hml];exact oV hTg
 have hAF:=iX (iF (m:=L.length) hTg)
 obtain ⟨gs,hS⟩:∃gs,Spl (j7 R L.length) m1 gs:=B6 hAF (by omega) hin2
 have spl_len:(kR (kA (j7 R L.length)) (fun a=>gs.getD a 0) (j7 R L.length).length).length=R.length:=by unfold kR;rw [List.length_map,cE,hwl2]
 have hq500:qs.length≤100:=by
  rw [hqs]
  cases de with
  |pass b=>exact Nat.le_trans (iS _ _ _ _) (by decide)
  |«let» k=>exact Nat.le_trans (i3 _ _ _ _) (by decide)
  |night =>
   refine Nat.le_trans (List.length_filter_le ..) ?_
   rw [oE]
   omega
 refine ⟨_,rfl,_,rfl,by omega,by omega,JA (n:=((R.length:Nat):Int).toNat) (fun i σ Hi=>∃(zs:List V) (cj cr cm ct:Option V),σ=[some (.ref x),some (.ref wl),some (.ref st),some (.ref dd),some (.int (R.length:Int)),some (.ref rr),some (.ref wa),co,cj,cr,cm,ct]∧Hi rr=some (.lst zs)∧PoursH Hi zs (qs++((kR (kA (j7 R L.length)) (fun a=>gs.getD a 0) (j7 R L.length).length).take i).filter kO) ms.length∧Hi wa=some (.lst ((j9 m1 ((kR (kA (j7 R L.length)) (fun a=>gs.getD a 0) (j7 R L.length).length).take i)).map V.int))∧Same H Hi) ⟨z0,none,none,none,none,rfl,hrr3,by rw [List.take_zero,List.filter_nil,List.append_nil];exact hP3,hwa3,s3⟩ ?_ ?_⟩
 ·rintro i σ Hi hi ⟨zs,cj,cr,cm,ct,rfl,hrr,hP,hwa,sm⟩
  rw [Int.toNat_natCast] at hi
  rw [Int.zero_add]
  obtain ⟨j,hj⟩:∃j,j=R.length - 1 - i:=⟨_,rfl⟩
  have hjR:j<R.length:=by omega
  refine ⟨_,rfl,jP (⟨_,rfl,jP (?_)⟩)⟩
  try dsimp only
  rw [show (R.length:Int) - 1 - (i:Int)=(j:Int) by omega]
  obtain ⟨r,hr⟩:∃r,R[j]?=some r:=⟨_,List.getElem?_eq_getElem hjR⟩
  obtain ⟨v,hv,y,rfl,dy,fs2,hy,hg⟩:=hR.get hr
  have hxk:=sm _ _ hx
  have hrlk:=sm _ _ hrl
  have hyk:=sm _ _ hy
  have htg:=hTg j r hr
  have etg:=n3 (m:=L.length) hr
  have htl:=hin2 j (by omega)
  rw [hm1l] at htl
  have hnow:=EU (k:=i) hAF (by omega) hin2 hS (by omega)
  rw [← show j=(j7 R L.length).length - 1 - i by rw [hwl2];exact hj,BO hr] at hnow
  have eml:(j9 m1 ((kR (kA (j7 R L.length)) (fun a=>gs.getD a 0) (j7 R L.length).length).take i)).length=ms.length:=by rw [y0];exact hm1l
  have esp:(kR (kA (j7 R L.length)) (fun a=>gs.getD a 0) (j7 R L.length).length).take (i+1)=(kR (kA (j7 R L.length)) (fun a=>gs.getD a 0) (j7 R L.length).length).take i++[(j,kA (j7 R L.length) j,gs.getD j 0)]:=by
   rw [List.take_add_one,nR (by rw [hwl2];exact hi),hwl2,← hj]
   rfl
  generalize hm2:j9 m1 ((kR (kA (j7 R L.length)) (fun a=>gs.getD a 0) (j7 R L.length).length).take i)=m2 at hwa hnow eml
  have epour:j9 m1 ((kR (kA (j7 R L.length)) (fun a=>gs.getD a 0) (j7 R L.length).length).take (i+1))=pour m2 (j,kA (j7 R L.length) j,gs.getD j 0):=by rw [esp,nM,hm2]
  obtain ⟨mo,hmo⟩:∃mo,mo=m2.getD j 0 - r.crest:=⟨_,rfl⟩
  have hov:(if mo>0 then mo else 0)=gs.getD j 0:=by rw [hmo];exact hnow
  refine ⟨_,rfl,_,rfl,j4 (SqL.of hwa) (qD (by omega)) (⟨_,rfl,jT hxk (T.clN) (T.nN_reaches) (hf.1) (⟨_,rfl,j4 (SqL.of hrlk) (kE hv) (jT hyk (T.clR) (T.nR_crest) (hg.2.2.1) (jP (?_)))⟩)⟩)⟩
  try dsimp only
  rw [← hmo]
  refine ⟨_,rfl,jT hxk (T.clN) (T.nN_reaches) (hf.1) (⟨_,rfl,j4 (SqL.of hrlk) (kE hv) (jT hyk (T.clR) (T.nR_target) (hg.2.2.2.2.2) (?_))⟩)⟩
  refine ⟨fun σ' H'=>σ'=[some (.ref x),some (.ref wl),some (.ref st),some (.ref dd),some (.int (R.length:Int)),some (.ref rr),some (.ref wa),co,some (.int (i:Int)),some (.int (j:Int)),some (.int mo),some (.int ((kA (j7 R L.length) j:Nat):Int))]∧Hi=H',?_,?_⟩
  ·refine ⟨_,rfl,jP (⟨_,rfl,?_⟩)⟩
   by_cases h0:r.target<0
   ·refine kM h0 ⟨_,rfl,_,rfl,jT hxk (T.clN) (T.nN_locks) (hf.2.1) (⟨ll,_,rfl,.inl (SqL.of (sm _ _ hll)),_,_,rfl,rfl,.inl ⟨by decide,by decide⟩,_,_,rfl,rfl,?_,rfl⟩)⟩
    rw [etg,if_pos (by omega),hL.1,show ((R.length+2*L.length:Nat):Int)=(R.length:Int)+2*(L.length:Int) by omega]
    rfl
   ·refine kF h0 ⟨?_,rfl⟩
    rw [etg,if_neg (by omega),show ((r.target.toNat:Nat):Int)=r.target by omega]
    rfl
  rintro σ' H' ⟨rfl,rfl⟩
  refine ⟨_,rfl,jP (⟨_,rfl,?_⟩)⟩
  by_cases hmz:0<mo
  rotate_left
  ·have hg0:gs.getD j 0=0:=by rw [if_neg hmz] at hov;exact hov.symm
   refine kF hmz ⟨zs,_,_,_,_,rfl,hrr,?_,?_,sm⟩
   ·rw [esp,List.filter_append,List.filter_cons,if_neg (by unfold kO;rw [decide_eq_true (show gs.getD j 0=0 from hg0)];decide),List.filter_nil,List.append_nil]
    exact hP
   ·rw [epour,hg0,C3 (by omega) (by omega)]
    exact hwa
  have hmg:mo=gs.getD j 0:=by rw [if_pos hmz] at hov;exact hov
  refine kM hmz ?_
  refine ⟨_,rfl,.inl ⟨rfl,_,SqL.of hrr⟩,_,rfl,_,rfl,_,rfl,zz3,fun tp htp=>?_⟩
  have u:=jK htp (.tup [V.int (j:Int),V.int ((kA (j7 R L.length) j:Nat):Int),V.int mo])
  have hrr1:=u _ _ hrr
  have hwa1:=u _ _ hwa
  have hlen:=hP.1
  have hfl9:=List.length_filter_le kO ((kR (kA (j7 R L.length)) (fun a=>gs.getD a 0) (j7 R L.length).length).take i)
  rw [List.length_take,spl_len] at hfl9
  rw [List.length_append] at hlen
  refine ⟨rr,_,_,rfl,rfl,hrr1,qM (by omega),?_⟩
  have hP2:PoursH (upd (upd Hi tp (.tup [V.int (j:Int),V.int ((kA (j7 R L.length) j:Nat):Int),V.int mo])) rr (.lst (zs++[.ref tp]))) (zs++[.ref tp]) (qs++((kR (kA (j7 R L.length)) (fun a=>gs.getD a 0) (j7 R L.length).length).take i).filter kO++[(j,kA (j7 R L.length) j,mo)]) ms.length:=((hP.same u).snoc jE (by omega) htl).put hrr1
  have hwa2:upd (upd Hi tp (.tup [V.int (j:Int),V.int ((kA (j7 R L.length) j:Nat):Int),V.int mo])) rr (.lst (zs++[.ref tp])) wa=some (.lst (m2.map V.int)):=by rw [kC hne.symm];exact hwa1
  have sm2:Same H (upd (upd Hi tp (.tup [V.int (j:Int),V.int ((kA (j7 R L.length) j:Nat):Int),V.int mo])) rr (.lst (zs++[.ref tp]))):=kT hrr0 (sm.trans u)
  have hrr2:upd (upd Hi tp (.tup [V.int (j:Int),V.int ((kA (j7 R L.length) j:Nat):Int),V.int mo])) rr (.lst (zs++[.ref tp])) rr=some (.lst (zs++[.ref tp])):=jE
  generalize upd (upd Hi tp (.tup [V.int (j:Int),V.int ((kA (j7 R L.length) j:Nat):Int),V.int mo])) rr (.lst (zs++[.ref tp]))=H5 at hP2 hwa2 sm2 hrr2 ⊢
  refine ⟨_,rfl,_,rfl,j4 (SqL.of hwa2) (qD (by omega)) (⟨_,rfl,jP (⟨_,rfl,_,rfl,wa,_,_,_,rfl,rfl,hwa2,y9 (by rw [List.length_map];omega),?_⟩)⟩)⟩
  try dsimp only
  rw [zI]
  refine ⟨_,rfl,_,rfl,j4 (SqL.of jE) (qD (by rw [List.length_set];omega)) (⟨_,rfl,jP (⟨_,rfl,_,rfl,wa,_,_,_,rfl,rfl,jE,y9 (by rw [List.length_map,List.length_set];omega),?_⟩)⟩)⟩
  try dsimp only
  rw [zI]
  refine ⟨zs++[.ref tp],_,_,_,_,rfl,by rw [kC hne,kC hne];exact hrr2,?_,?_,kT hwaH (kT hwaH sm2)⟩
  ·rw [esp,List.filter_append,List.filter_cons,if_pos (by unfold kO;rw [decide_eq_false (show ¬gs.getD j 0=0 by omega)];rfl),List.filter_nil,← List.append_assoc,← hmg]
   exact (hP2.put hwa2).put jE
  ·rw [jE,epour,← hmg]
   rfl
 rintro σ H4 ⟨zs,cj,cr,cm,ct,rfl,hrr,hP,hwa,sm⟩
 rw [Int.toNat_natCast,List.take_of_length_le (by rw [spl_len];exact Nat.le_refl _)] at hP hwa
 have eall:vU R L N ys d ms pl de gs=qs++(kR (kA (j7 R L.length)) (fun a=>gs.getD a 0) (j7 R L.length).length).filter kO:=by unfold vU;rw [← hqs]
 have ew:j9 m1 (kR (kA (j7 R L.length)) (fun a=>gs.getD a 0) (j7 R L.length).length)=j9 ms (vU R L N ys d ms pl de gs):=by
  rw [eall]
  show _=List.foldl pour ms _
  rw [List.foldl_append]
  show _=j9 (j9 ms qs) _
  rw [← hm1]
  exact (CA (iM (by omega) hin2)).symm
 rw [ew] at hwa
 refine ⟨_,rfl,_,rfl,wa,_,rfl,.inl ⟨SqL.of hwa,fun wo hwo=>?_⟩⟩
 have u1:=jK hwo (.tup ((j9 ms (vU R L N ys d ms pl de gs)).map V.int))
 refine ⟨zz2,fun l hl=>?_⟩
 have u2:=jK hl (.lst [V.ref rr,V.ref wo])
 have u:=u1.trans u2
 have hPu:=hP.same u
 rw [← eall] at hPu
 exact q l rr wo _ gs zs (sm.trans u) jE (u _ _ hrr) hPu (u2 _ _ jE) (by rw [← hqs,← hm1];exact hS)
theorem nE:FnScope ["found","due","number"] ["found","due"] (jF Z7):=⟨rfl,rfl,rfl,by decide +kernel,rfl,by decide +kernel,by decide +kernel⟩
theorem wS {f:Addr} {fd:FuncData} (F:Fun K "_law_state_is" "_law_state_is" Z7 f fd) (T:Txt K mg cP cB cU cR cN tkS eW eL tkH) (D__law_whole:Def P w K mg base 1 "_law_whole" ["found"] [] (lE)):FnOk P w K mg base jU 2 f fd ["found","due"] (oX):=by
 refine F.ok nE (fun vs H Q E h=>?_) (fun cdv A outer s H vs Q E hr h=>?_)
 ·obtain ⟨fo,du,w1,p1,w2,p2,d,ms,ps,rfl,hfo,hdu,hw1,hw2,hp1,hp2,m1,m500,p100,q⟩:=h
  rfl
 obtain ⟨fo,du,w1,p1,w2,p2,d,ms,ps,rfl,hfo,hdu,hw1,hw2,hp1,hp2,m1,m500,p100,q⟩:=h
 have hu:_<cLine:=hr.units0
 have hu1:=jY hr
 refine ⟨_,(@jH _ _ _ _ _ (kH (PW.pt (JL (yQ (vG (kB Q0 (by rfl) T.z_isinstance PyProof.Rows.boot_isinstance (jA (pv 0) (jA (Q2 (v:=.ty "tuple") rfl T.z_tuple PyProof.Rows.boot_tuple rfl) jB))))) (JL (kD JM (kB kI (by rfl) T.z_len PySem.boot_len (jA (pv 0) jB)) jC (j3 _)) (cV (yQ (vG (jM D__law_whole hr rfl (jA (jD ix_tup (pv 0) jC (fun _ _=>rfl)) jB)))))))) (@jJ _ _ _ (@jN _ _ _ _ yT)) kJ)
   (@jH _ _ _ _ _ (kH (PW.pt (JL (yQ (vG (kB Q0 (by rfl) T.z_isinstance PyProof.Rows.boot_isinstance (jA (jD ix_tup (pv 0) jC (fun _ _=>rfl)) (jA (Q2 (v:=.ty "tuple") rfl T.z_tuple PyProof.Rows.boot_tuple rfl) jB))))) (cV (yQ (vG (kB Q0 (by rfl) T.z_isinstance PyProof.Rows.boot_isinstance (jA (jD ix_tup (pv 0) jC (fun _ _=>rfl)) (jA (Q2 (v:=.ty "tuple") rfl T.z_tuple PyProof.Rows.boot_tuple rfl) jB)))))))) (@jJ _ _ _ (@jN _ _ _ _ yT)) kJ)
   (@jH _ _ _ _ _ (vJ PassesOwn.never rfl (tK (@jI _ _ _ _ _ _ _ _ E6 (jD ix_tup (pv 0) jC (fun _ _=>rfl)) (jD ix_tup (pv 0) jC (fun _ _=>rfl)))) (j8 (i:=2) nE.nd rfl (by first|exact Or.inl rfl|exact Or.inr rfl))
    (@jJ _ _ _ (kH (yQ (vG (jM D__law_whole hr rfl (jA (pv 2) jB)))) (@jJ _ _ _ (@jN _ _ _ _ yT)) kJ)))
   (@jJ _ _ _ (@jN _ _ _ _ (v9 (E5 hu1) (pv 0) (pv 1) (j3 _))))))),?_⟩
 refine ⟨_,rfl,_,_,_,_,_,rfl,rfl,TyOf.tup hfo,cK "tuple",_,rfl,qF ⟨_,rfl,fo,_,rfl,.inr (SqT.of hfo),rfl,_,rfl,JN rfl ⟨_,rfl,jL (SqT.of hfo) rfl (⟨_,rfl,_,rfl,qF ?_⟩)⟩⟩⟩
 refine ⟨_,rfl,jL (SqT.of hfo) rfl (⟨_,_,_,_,_,rfl,rfl,TyOf.tup hw1,cK "tuple",_,rfl,qF ⟨_,rfl,jL (SqT.of hfo) rfl (⟨_,_,_,_,_,rfl,rfl,TyOf.tup hp1,cK "tuple",_,rfl,qF ?_⟩)⟩⟩)⟩
 refine ⟨_,rfl,jL (SqT.of hfo) rfl (⟨_,rfl,jL (SqT.of hfo) rfl (⟨w1,p1,_,_,rfl,rfl,SqT.of hw1,SqT.of hp1,(fun e=>by have:=congrArg List.length e;rw [List.length_map] at this;have h0:([]:List V).length=0:=rfl;omega),small (by rw [List.length_map,List.length_map];omega),fun e=>?_,fun e p hp0=>?_⟩)⟩)⟩
 ·refine ⟨w1,rfl,⟨_,SqT.of hw1⟩,lN (K:=K) (a:=w1) (xs:=(ms).map V.int) (fun i σ Hi=>∃c:Option V,σ=[some (.ref fo),some (.ref du),c]∧H=Hi) ⟨none,rfl,rfl⟩ (fun i σ Hi _ ⟨_,_,e⟩=>by rw [← e];exact SqT.of hw1) ?_ ?_⟩
  ·rintro i v σ Hi hv ⟨c,rfl,rfl⟩
   obtain ⟨z,rfl,_⟩:=rG hv
   exact ⟨_,rfl,_,rfl,_,rfl,qF ⟨_,rfl,rfl⟩⟩
  rintro σ Hi ⟨c,rfl,rfl⟩
  refine ⟨_,rfl,_,rfl,fo,du,_,_,[true,true,true],rfl,rfl,SqT.of ((Same.refl H) _ _ hfo),SqT.of ((Same.refl H) _ _ hdu),rfl,rfl,fun j hj=>?_,?_⟩
  ·have hj:j<3:=hj
   rcases j with _|_|_|j
   ·exact sU d
   ·exact fM ((Same.refl H) _ _ hw1) ((Same.refl H) _ _ hw2)
   ·exact fM ((Same.refl H) _ _ hp1) ((Same.refl H) _ _ hp2)
   ·omega
  exact q _ ((Same.refl H))
 ·have u:=jK hp0 (.tup (ms.map V.int++ps.map V.int))
  have hpp:upd H p (.tup (ms.map V.int++ps.map V.int)) p=some (.tup ((ms++ps).map V.int)):=by rw [jE,List.map_append]
  generalize upd H p (.tup (ms.map V.int++ps.map V.int))=H1 at u hpp ⊢
  refine ⟨p,rfl,⟨_,SqT.of hpp⟩,lN (K:=K) (a:=p) (xs:=(ms++ps).map V.int) (fun i σ Hi=>∃c:Option V,σ=[some (.ref fo),some (.ref du),c]∧H1=Hi) ⟨none,rfl,rfl⟩ (fun i σ Hi _ ⟨_,_,e⟩=>by rw [← e];exact SqT.of hpp) ?_ ?_⟩
  ·rintro i v σ Hi hv ⟨c,rfl,rfl⟩
   obtain ⟨z,rfl,_⟩:=rG hv
   exact ⟨_,rfl,_,rfl,_,rfl,qF ⟨_,rfl,rfl⟩⟩
  rintro σ Hi ⟨c,rfl,rfl⟩
  refine ⟨_,rfl,_,rfl,fo,du,_,_,[true,true,true],rfl,rfl,SqT.of (u _ _ hfo),SqT.of (u _ _ hdu),rfl,rfl,fun j hj=>?_,?_⟩
  ·have hj:j<3:=hj
   rcases j with _|_|_|j
   ·exact sU d
   ·exact fM (u _ _ hw1) (u _ _ hw2)
   ·exact fM (u _ _ hp1) (u _ _ hp2)
   ·omega
  exact q _ (u)
theorem dH:FnScope ["canal","ways","state","deed","due","places","found","day"] ["canal","ways","state","deed"] (jF ZY):=⟨rfl,rfl,rfl,by decide +kernel,rfl,by decide +kernel,by decide +kernel⟩
theorem wG {f:Addr} {fd:FuncData} (F:Fun K "_law_done_right" "_law_done_right" ZY f fd) (T:Txt K mg cP cB cU cR cN tkS eW eL tkH) (D__law_full_row:Def P w K mg base 5 "_law_full_row" ["canal","ways","state","deed"] [] (o3 (jG cP cB cU) cR cN)) (D__law_pours:Def P w K mg base 2 "_law_pours" ["found","due"] [] (pZ)) (D_pours:Def P w K mg base 9 "pours" ["canal","ways","state","deed"] [] (i0 (jG cP cB cU) cR cN)) (D_after:Def P w K mg base 10 "after" ["canal","ways","state","deed"] [] (iQ (jG cP cB cU) cR cN)) (D__law_state_is:Def P w K mg base 2 "_law_state_is" ["found","due"] [] (oX)):FnOk P w K mg base jU 11 f fd ["canal","ways","state","deed"] (sE (jG cP cB cU) cR cN):=by
 refine F.ok dH (fun vs H Q E h=>?_) (fun cdv A outer s H vs Q E hr h=>?_)
 ·obtain ⟨x,wl,st,dd,de,us,ys,d,ms,pl,D,R,L,N,rfl,hG,hok,hnN,hdd,hin,hd0,hw,q⟩:=h
  rfl
 obtain ⟨x,wl,st,dd,de,us,ys,d,ms,pl,D,R,L,N,rfl,hG,hok,hnN,hdd,hin,hd0,hw,q⟩:=h
 have hu:_<cLine:=hr.units0
 have hu1:=jY hr
 refine ⟨_,(@jH _ _ _ _ _ (jQ (i:=4) dH.nd rfl (by first|exact Or.inl rfl|exact Or.inr rfl) (jM D__law_full_row hr rfl (@jA _ _ _ _ _ (pv 0) (@jA _ _ _ _ _ (pv 1) (@jA _ _ _ _ _ (pv 2) (@jA _ _ _ _ _ (pv 3) jB (by rfl)) (by rfl)) (by rfl)) (by rfl))))
   (@jH _ _ _ _ _ (kH (yQ (vG (jM D__law_pours hr rfl (jA (jM D_pours hr rfl (@jA _ _ _ _ _ (pv 0) (@jA _ _ _ _ _ (pv 1) (@jA _ _ _ _ _ (pv 2) (@jA _ _ _ _ _ (pv 3) jB (by rfl)) (by rfl)) (by rfl)) (by rfl))) (jA (jD j5 (pv 4) jC (fun _ _=>rfl)) jB))))) (@jJ _ _ _ (@jN _ _ _ _ yT)) kJ)
   (@jH _ _ _ _ _ (jQ (i:=5) dH.nd rfl (by first|exact Or.inl rfl|exact Or.inr rfl) (qJ zZ (by rfl) T.z_list PyProof.Rows.boot_list (jA (jD ix_tup (pv 2) jC (fun _ _=>rfl)) jB)))
   (eB (kH (kD kQ (jD ix_tup (pv 3) jC (fun _ _=>rfl)) jO (j3 _)) (@jJ _ _ _ (JZ (@jI _ _ _ _ _ _ _ _ jX (jD j5 (pv 5) (jD ix_tup (pv 3) jC (fun _ _=>rfl)) (fun _ _=>rfl)) jC) (J0 (pv 5) (jD ix_tup (pv 3) jC (fun _ _=>rfl)) y7))) kJ)
   (@jH _ _ _ _ _ (jQ (i:=6) dH.nd rfl (by first|exact Or.inl rfl|exact Or.inr rfl) (jM D_after hr rfl (@jA _ _ _ _ _ (pv 0) (@jA _ _ _ _ _ (pv 1) (@jA _ _ _ _ _ (pv 2) (@jA _ _ _ _ _ (pv 3) jB (by rfl)) (by rfl)) (by rfl)) (by rfl))))
   (@jH _ _ _ _ _ (jQ (i:=7) dH.nd rfl (by first|exact Or.inl rfl|exact Or.inr rfl) (@jI _ _ _ _ _ _ _ _ jX (jD ix_tup (pv 2) jC (fun _ _=>rfl)) (qJ QV (by rfl) T.z_int PyProof.Rows.boot_int (jA (v9 kQ (jD ix_tup (pv 3) jC (fun _ _=>rfl)) jO (j3 _)) jB))))
   (@jJ _ _ _ (@jN _ _ _ _ (lX (jM D__law_state_is hr rfl (jA (pv 6) (jA (kL (@jA _ _ _ _ _ (pv 7) (@jA _ _ _ _ _ (jD j5 (pv 4) jC (fun _ _=>rfl)) (@jA _ _ _ _ _ (qJ QU (by rfl) T.z_tuple PyProof.Rows.boot_tuple (jA (pv 5) jB)) jB (by rfl)) (by rfl)) (by rfl))) jB))) (lW (v9 kQ (kB (pH rfl) (by rfl) T.z_sum PyProof.Rows.boot_sum (jA (jD ix_tup (pv 6) jC (fun _ _=>rfl)) jB)) (kB (pH rfl) (by rfl) T.z_sum PyProof.Rows.boot_sum (jA (jD ix_tup (pv 2) jC (fun _ _=>rfl)) jB)) (j3 _)))))))))))),?_⟩
 obtain ⟨hc,hdr,hwl,hA,hst,hfl,hml⟩:=id hG
 obtain ⟨wt,pt,hst1,hwt,hpt⟩:=id hst
 have b1:=hdr.r8
 have b2:=hdr.l8
 have b3:=hdr.r1
 have h10:=hfl.n10
 have hln:=hfl.len
 have hAF:=iX (iF (m:=L.length) (fA hdr))
 refine ⟨_,rfl,_,rfl,_,rfl,_,rfl,x,wl,st,dd,de,us,ys,d,ms,pl,D,R,L,N,rfl,hG,hok,hnN,hdd,hin,hd0,hw,fun du rr wo H1 gs zs s1 hdu hrr hP hwo hS=>?_⟩
 refine ⟨_,rfl,_,rfl,_,rfl,_,rfl,x,wl,st,dd,de,us,ys,d,ms,pl,D,R,L,N,rfl,hG.same s1,s1 _ _ hdd,hin,hd0,hw,fun pr H2 gs2 zs2 s2 hpr0 hpr hP2 hS2=>?_⟩
 have eg:=Spl.unique hAF hS hS2
 subst eg
 have hq5:(vU R L N ys d ms pl de gs).length≤500:=by
  unfold vU
  rw [List.length_append]
  have h2:=nS (j7 R L.length) (fun a=>gs.getD a 0)
  rw [JS] at h2
  rw [JS]
  have h1:(zC R L N ys d ms pl de).length≤100:=by
   cases de with
   |pass b=>exact Nat.le_trans (iS _ _ _ _) (by decide)
   |«let» k=>exact Nat.le_trans (i3 _ _ _ _) (by decide)
   |night =>
    refine Nat.le_trans (List.length_filter_le ..) ?_
    rw [oE]
    omega
  omega
 have s12:=s1.trans s2
 refine ⟨_,rfl,j4 (SqL.of (s2 _ _ hdu)) rfl (⟨pr,rr,zs2,zs,_,_,rfl,hpr,s2 _ _ hrr,hP2,hP.same s2,hq5,_,rfl,qF ?_⟩)⟩
 refine ⟨_,rfl,jL (SqT.of (s12 _ _ hst1)) rfl (⟨pt,_,rfl,.inr (SqT.of (s12 _ _ hpt)),fun pa hpa0=>?_⟩)⟩
 have u:=jK hpa0 (.lst (pl.map fun (p:Nat)=>V.int (p:Int)))
 have s13:=s12.trans u
 refine ⟨fun σ' H'=>σ'=[some (.ref x),some (.ref wl),some (.ref st),some (.ref dd),some (.ref du),some (.ref pa),none,none]∧H' pa=some (.lst ((yN pl de).map fun (p:Nat)=>V.int (p:Int)))∧Same H2 H',?_,?_⟩
 ·cases de with
  |pass b =>
   have hb:b<pl.length:=by rw [hln];exact hin
   have hdd3:=s13 _ _ hdd
   have hat:qC (pl.map fun (p:Nat)=>V.int (p:Int)) (b:Int)=some (.int ((pl.getD b 0:Nat):Int)):=kE (by rw [List.getElem?_map,List.getElem?_eq_getElem hb,List.getD_eq_getElem?_getD,List.getElem?_eq_getElem hb];rfl)
   refine ⟨_,rfl,jL (SqT.of hdd3) rfl (⟨rfl,_,rfl,kM rfl ?_⟩)⟩
   refine ⟨_,rfl,_,rfl,jL (SqT.of hdd3) rfl (j4 (SqL.of jE) hat (jP (⟨_,rfl,_,rfl,jL (SqT.of hdd3) rfl (⟨pa,_,_,_,rfl,rfl,jE,y9 (by rw [List.length_map];exact hb),rfl,?_,kT hpa0 u⟩)⟩)))⟩
   rw [jE]
   congr 2
   refine List.ext_getElem? fun i=>?_
   show _=((zN pl b).map fun (p:Nat)=>V.int (p:Int))[i]?
   unfold zN
   rw [List.getElem?_map,List.getElem?_map]
   by_cases hi:i<pl.length
   ·rw [List.getElem?_range hi]
    by_cases hib:i=b
    ·subst hib
     rw [List.getElem?_set_self (by rw [List.length_map];exact hb)]
     show some (V.int (((pl.getD i 0:Nat):Int)+1))=some (V.int (((if i=i then pl.getD i 0+1 else pl.getD i 0):Nat):Int))
     rw [if_pos rfl]
     rfl
    ·rw [List.getElem?_set_ne (fun e=>hib e.symm),List.getElem?_map,List.getElem?_eq_getElem hi]
     show some (V.int ((pl[i]:Nat):Int))=some (V.int (((if i=b then pl.getD i 0+1 else pl.getD i 0):Nat):Int))
     rw [if_neg hib,List.getD_eq_getElem?_getD,List.getElem?_eq_getElem hi]
     rfl
   ·rw [List.getElem?_eq_none (by rw [List.length_set,List.length_map];omega),List.getElem?_eq_none (by rw [List.length_range];omega)]
    rfl
  |«let» k =>
   exact ⟨_,rfl,jL (SqT.of (s13 _ _ hdd)) rfl (⟨rfl,_,rfl,kF (fun e=>absurd (V.str.inj e) (by decide +kernel)) ⟨rfl,jE,u⟩⟩)⟩
  |night =>
   exact ⟨_,rfl,jL (SqT.of (s13 _ _ hdd)) rfl (⟨rfl,_,rfl,kF (fun e=>absurd (V.str.inj e) (by decide +kernel)) ⟨rfl,jE,u⟩⟩)⟩
 rintro σ' H4 ⟨rfl,hpa,s4⟩
 have s14:=s12.trans s4
 refine ⟨_,rfl,_,rfl,_,rfl,_,rfl,x,wl,st,dd,de,us,ys,d,ms,pl,D,R,L,N,rfl,hG.same s14,s14 _ _ hdd,hin,hd0,hw,fun fo H5 gs3 s5 hfo0 hfo hS3=>?_⟩
 have eg:=Spl.unique hAF hS hS3
 subst eg
 obtain ⟨fw,fp,hfo1,hfo2,hfo3⟩:=hfo
 have s15:=s14.trans s5
 have s45:=s4.trans s5
 have eday:d+(if decide (V.str (t0 de)=V.str "night")=true then 1 else 0)=Q8 d de:=by
  cases de with
  |pass b=>exact (congrArg (fun z=>d+z) (cS fun e=>absurd (V.str.inj e) (show ¬("pass":Str)="night" by decide +kernel))).trans (Int.add_zero d)
  |«let» k=>exact (congrArg (fun z=>d+z) (cS fun e=>absurd (V.str.inj e) (show ¬("let":Str)="night" by decide +kernel))).trans (Int.add_zero d)
  |night=>exact congrArg (fun z=>d+z) (fT rfl)
 have hdd0:qC (yU de) 0=some (V.str (t0 de)):=by cases de<;>rfl
 refine ⟨_,rfl,jL (SqT.of (s15 _ _ hst1)) rfl (⟨_,rfl,jL (SqT.of (s15 _ _ hdd)) hdd0 (⟨rfl,.inr ⟨_,rfl,jP (?_)⟩⟩)⟩)⟩
 try dsimp only
 rw [eday]
 refine ⟨_,rfl,_,rfl,_,rfl,j4 (SqL.of (s45 _ _ (s2 _ _ hdu))) rfl (⟨_,rfl,pa,_,rfl,.inl ⟨SqL.of (s5 _ _ hpa),fun tp htp=>?_⟩⟩)⟩
 have v1:=jK htp (.tup ((yN pl de).map fun (p:Nat)=>V.int (p:Int)))
 refine ⟨zz3,fun t3 ht3=>?_⟩
 have v2:=jK ht3 (.tup [V.int (Q8 d de),V.ref wo,V.ref tp])
 have v:=v1.trans v2
 have emap:(yN pl de).map (fun (p:Nat)=>V.int (p:Int))=((yN pl de).map fun (p:Nat)=>(p:Int)).map V.int:=by rw [List.map_map];rfl
 have hplen:(yN pl de).length=pl.length:=by
  cases de with
  |pass b=>exact fC pl b
  |«let» k=>rfl
  |night=>rfl
 have hfo3':upd (upd H5 tp (.tup ((yN pl de).map fun (p:Nat)=>V.int (p:Int)))) t3 (.tup [V.int (Q8 d de),V.ref wo,V.ref tp]) fp=some (.tup (((yN pl de).map fun (p:Nat)=>(p:Int)).map V.int)):=by rw [← emap];exact v _ _ hfo3
 have htp':upd (upd H5 tp (.tup ((yN pl de).map fun (p:Nat)=>V.int (p:Int)))) t3 (.tup [V.int (Q8 d de),V.ref wo,V.ref tp]) tp=some (.tup (((yN pl de).map fun (p:Nat)=>(p:Int)).map V.int)):=by rw [← emap];exact v2 _ _ jE
 have hel:(j9 ms (vU R L N ys d ms pl de gs)).length=ms.length:=y0 _ _
 refine ⟨fo,t3,fw,fp,wo,tp,_,_,_,rfl,v _ _ hfo1,jE,v _ _ hfo2,v _ _ (s45 _ _ (s2 _ _ hwo)),hfo3',htp',by rw [hel];omega,by rw [hel];omega,by rw [List.length_map,hplen];omega,fun H6 s6=>?_⟩
 refine ⟨_,rfl,kU ?_⟩
 have v6:=v.trans s6
 have s16:=s15.trans v6
 refine ⟨_,rfl,jL (SqT.of (v6 _ _ hfo1)) rfl (⟨fw,_,rfl,SqT.of (v6 _ _ hfo2),_,rfl,jL (SqT.of (s16 _ _ hst1)) rfl (⟨wt,ms,rfl,SqT.of (s16 _ _ hwt),rfl,?_⟩)⟩)⟩
 have hsum:(j9 ms (vU R L N ys d ms pl de gs)).sum=ms.sum:=nU _ _ fun q hq=>by
  unfold vU at hq
  rcases List.mem_append.mp hq with h|h
  ·exact rL hdr hml de q h
  ·exact iM (by rw [JS];omega) (by rw [hml];exact oV (fA hdr)) q (List.mem_filter.mp h).1
 rw [hsum,decide_eq_true rfl]
 exact q _ s16
theorem cD:FnScope ["script","canal","ways","state","handed","deed"] ["script"] (jF zF):=⟨rfl,rfl,rfl,by decide +kernel,rfl,by decide +kernel,by decide +kernel⟩
theorem xG {f:Addr} {fd:FuncData} (F:Fun K "law" "law" zF f fd) (T:Txt K mg cP cB cU cR cN tkS eW eL tkH) (D__law_canal:Def P w K mg base 6 "_law_canal" ["script","most_reaches","most_locks","most_nights"] [] (p7 K (jG cP cB cU) cR cN)) (D__law_draw:Def P w K mg base 1 "_law_draw" ["script","k","many"] [] (JY K)) (D__law_way:Def P w K mg base 2 "_law_way" ["script","k","canal","most"] [] (tU K (jG cP cB cU) cR cN)) (D__law_state:Def P w K mg base 2 "_law_state" ["script","canal","ways"] [] (rT K (jG cP cB cU) cR cN)) (D__law_deeds:Def P w K mg base 1 "_law_deeds" ["canal","ways"] [] (p6 (jG cP cB cU) cR cN)) (D__law_why:Def P w K mg base 5 "_law_why" ["canal","ways","state","deed"] [] (rZ (jG cP cB cU) cR cN)) (D__law_done_right:Def P w K mg base 11 "_law_done_right" ["canal","ways","state","deed"] [] (sE (jG cP cB cU) cR cN)):FnOk P w K mg base jU 13 f fd ["script"] (gC K):=by
 refine F.ok cD (fun vs H Q E h=>?_) (fun cdv A outer s H vs Q E hr h=>?_)
 ·obtain ⟨s,ns,rfl,hS,h63,q⟩:=h
  rfl
 obtain ⟨s,ns,rfl,hS,h63,q⟩:=h
 have hu:_<cLine:=hr.units0
 have hu1:=jY hr
 refine ⟨_,(@jH _ _ _ _ _ (jQ (i:=1) cD.nd rfl (by first|exact Or.inl rfl|exact Or.inr rfl) (jM D__law_canal hr rfl (@jA _ _ _ _ _ (pv 0) (@jA _ _ _ _ _ jC (@jA _ _ _ _ _ jC (@jA _ _ _ _ _ jC jB (by rfl)) (by rfl)) (by rfl)) (by rfl))))
   (@jH _ _ _ _ _ (z9 (i:=2) ["k","script","canal"] (kW 1 [0,1]) cD.nd rfl (by first|exact Or.inl rfl|exact Or.inr rfl) rfl (kZ (jF zF) rfl rfl (by decide +kernel) (by decide +kernel) (by decide +kernel)) (qA 1 [0,1] rfl rfl (by decide +kernel)) (vD (by rfl) T.z_range (jA (jM D__law_draw hr rfl (@jA _ _ _ _ _ (pv 0) (@jA _ _ _ _ _ jC (@jA _ _ _ _ _ jC jB (by rfl)) (by rfl)) (by rfl))) jB)) (fun _ _ _ _ _=>(j8 (i:=0) (show List.Nodup (["k","script","canal"]:List Str) from by decide +kernel) rfl (by first|exact Or.inl rfl|exact Or.inr rfl))) (fun _ _ _ _ _=>qZ) (fun _ _ _ _ _=>(jM D__law_way hr rfl (@jA _ _ _ _ _ (pv 1) (@jA _ _ _ _ _ (pv 0) (@jA _ _ _ _ _ (pv 2) (@jA _ _ _ _ _ jC jB (by rfl)) (by rfl)) (by rfl)) (by rfl)))))
   (@jH _ _ _ _ _ (jQ (i:=3) cD.nd rfl (by first|exact Or.inl rfl|exact Or.inr rfl) (jM D__law_state hr rfl (@jA _ _ _ _ _ (pv 0) (@jA _ _ _ _ _ (pv 1) (@jA _ _ _ _ _ (pv 2) jB (by rfl)) (by rfl)) (by rfl))))
   (@jH _ _ _ _ _ (jQ (i:=4) cD.nd rfl (by first|exact Or.inl rfl|exact Or.inr rfl) (qJ zZ (by rfl) T.z_list PyProof.Rows.boot_list (jA (pv 2) jB)))
   (@jH _ _ _ _ _ (vJ PassesOwn.never rfl (qR (jM D__law_deeds hr rfl (jA (pv 1) (jA (pv 2) jB)))) (j8 (i:=5) cD.nd rfl (by first|exact Or.inl rfl|exact Or.inr rfl))
    (@jJ _ _ _ (kH (kD kQ (jM D__law_why hr rfl (@jA _ _ _ _ _ (pv 1) (@jA _ _ _ _ _ (pv 2) (@jA _ _ _ _ _ (pv 3) (@jA _ _ _ _ _ (pv 5) jB (by rfl)) (by rfl)) (by rfl)) (by rfl))) jO (j3 _)) (@jJ _ _ _ (kH (PW.pt (JL (yQ (vG (jM D__law_done_right hr rfl (@jA _ _ _ _ _ (pv 1) (@jA _ _ _ _ _ (pv 4) (@jA _ _ _ _ _ (pv 3) (@jA _ _ _ _ _ (pv 5) jB (by rfl)) (by rfl)) (by rfl)) (by rfl))))) (cV (kD (FZ hu) (pv 4) (pv 2) (j3 _))))) (@jJ _ _ _ (@jN _ _ _ _ yT)) kJ)) kJ)))
   (@jJ _ _ _ (@jN _ _ _ _ yT))))))),?_⟩
 refine ⟨_,rfl,s,ns,5,4,2,rfl,hS,h63,by decide,by decide,by decide,by decide,by decide,fun x R L N H1 hdr hnN hr2 hl1 s1 hx0 hcn=>?_⟩
 have b1:=hdr.r8
 have b2:=hdr.l8
 have b3:=hdr.n6
 have hS1:=s1.seq hS
 refine ⟨_,rfl,s,ns,_,_,rfl,hS1,h63,by omega,by omega,by omega,fun m0 m00 m01=>?_⟩
 obtain ⟨n,hn⟩:∃n:Nat,m0=(n:Int):=⟨m0.toNat,by omega⟩
 subst hn
 refine ⟨_,rfl,by omega,by omega,fun wl hwl0=>?_⟩
 refine y6 (n:=((n:Nat):Int).toNat) (caps:=[some (.ref s),some (.ref x)]) (fun i us Hi=>∃ys:List kG,AllAt (WyAt Hi) us ys∧ys.length=i∧∀y∈ys,WyOk L y) hwl0 ⟨[],AllAt.nil,rfl,fun y hy=>by cases hy⟩ ?_ ?_
 ·rintro i us Hi hi hle sm hY ⟨ys,hA,hyl,hok⟩
  rw [Int.toNat_natCast] at hi
  rw [Int.zero_add]
  refine q9 (kU ⟨_,rfl,_,rfl,_,rfl,s,x,ns,i,4,_,R,L,N,rfl,sm.seq hS1,h63,by omega,by decide,by decide,hcn.same sm,hdr,hl1,fun t y H' hyo s' ht0 hwy=>qU hwl0 sm hY hle (by omega) s' ?_⟩)
  refine ⟨ys++[y],((hA.mono (WyAt.same s')).snoc hwy).mono (WyAt.put (s' _ _ hY)),by rw [List.length_append,hyl];rfl,fun y' hy'=>?_⟩
  rcases List.mem_append.mp hy' with h|h
  ·exact hok y' h
  ·rw [List.mem_singleton.mp h];exact hyo
 rintro us H2 s2 hwl hle2 ⟨ys,hA,hyl,hok⟩
 rw [Int.toNat_natCast] at hyl
 have hcn2:=hcn.same s2
 refine ⟨_,rfl,_,rfl,_,rfl,s,x,wl,ns,us,ys,_,R,L,N,rfl,s2.seq hS1,h63,hcn2,hdr,hwl,hA,by omega,hok,fun st d ms pl H3 s3 hst hfl hd0 hdN hms=>?_⟩
 have hG:Stage (jG cP cB cU) cR cN [] H3 x wl st us R L N ys d ms pl:=⟨hcn2.same s3,hdr,s3 _ _ hwl,hA.mono (WyAt.same s3),hst,hfl,hms.len⟩
 have hS3:=(s2.trans s3).seq hS1
 refine ⟨_,rfl,wl,_,rfl,.inl (SqL.of hG.wls),fun ha hha0=>?_⟩
 have s4:=jK hha0 (.lst us)
 have hha:upd H3 ha (.lst us) ha=some (.lst us):=jE
 have hG4:=hG.same s4
 generalize upd H3 ha (.lst us)=H4 at s4 hha hG4 ⊢
 refine ⟨_,rfl,_,rfl,x,wl,us,_,R,L,N,rfl,hG4.cn,hG4.wls,by rw [hA.1];omega,by omega,fun dl zs H5 s5 hdl0 hdl hZ=>?_⟩
 have hG5:=hG4.same s5
 have hha5:=s5 _ _ hha
 have eul:us.length=ys.length:=hA.1
 rw [eul] at hZ
 refine ⟨dl,rfl,⟨_,SqL.of hdl⟩,QZ (K:=K) (a:=dl) (xs:=zs) (fun i σ Hi=>∃c1:Option V,σ=[some (.ref s),some (.ref x),some (.ref wl),some (.ref st),some (.ref ha),c1]∧Same H5 Hi) ⟨none,rfl,Same.refl _⟩ (fun i σ Hi _ ⟨_,_,s⟩=>SqL.of (s _ _ hdl)) ?_ ?_⟩
 ·rintro i v σ Hi hv ⟨c1,rfl,sm⟩
  obtain ⟨de,hde,t,rfl,ht⟩:=hZ.2 i v hv
  have hin:=B0 (List.mem_of_getElem? hde)
  refine ⟨_,rfl,_,rfl,_,rfl,_,rfl,x,wl,st,t,de,us,ys,d,ms,pl,_,R,L,N,rfl,hG5.same sm,hms,sm _ _ ht,hin,fun H6 s6=>⟨rfl,_,rfl,?_⟩⟩
  have sm6:=sm.trans s6
  by_cases hw:yK R L N.length ys d ms pl de=""
  rotate_left
  ·exact kF (fun e=>hw (V.str.inj e)) ⟨_,rfl,sm6⟩
  refine kM (congrArg V.str hw) ?_
  have hGh:Stage (jG cP cB cU) cR cN [] H6 x ha st us R L N ys d ms pl:=⟨(hG5.same sm6).cn,hdr,sm6 _ _ hha5,(hG5.same sm6).wys,(hG5.same sm6).sts,hfl,hms.len⟩
  refine ⟨_,rfl,_,rfl,_,rfl,_,rfl,x,ha,st,t,de,us,ys,d,ms,pl,_,R,L,N,rfl,hGh,hms,hnN,sm6 _ _ ht,hin,hd0,hw,fun H7 s7=>⟨_,rfl,qF ?_⟩⟩
  have sm7:=sm6.trans s7
  exact ⟨_,rfl,_,rfl,ha,wl,us,rfl,rfl,SqL.of (sm7 _ _ hha5),SqL.of (sm7 _ _ hG5.wls),CT hG5.wys,_,rfl,qF ⟨_,rfl,sm7⟩⟩
 rintro σ H6 ⟨c1,rfl,s6⟩
 exact q _
end
theorem all_mk {l:W.OpenLaw} {w:World} {K:W.Frag} {h:Heap} {mg:Str→Option Value} {fa f0 f1 f2 f3 f4 f5 f6 f7 f8 f9 f10 f11 f12 f13 f14 f15 f16 f17 f18 f19 f20 f21 f22 f23 f24 f25 f26 f27 f28 f29 f30 f31 f32 f33 f34 f35 f36 f37 f38 f39 f40 f41 f42 f43 f44 f45 f46 f47 f48 f49 f50 f51 f52 f53 f54 f55 f56 f57 f58 f59 f60 f61 f62 f63 f64 f65 f66 f67 f68 f69 f70 f71 f72 f73 f74 f75 f76:Addr} {cP cB cU:Addr} {cR:Addr} {cN:Addr} {dn0:Nat} {tkS:Tok} {eW eL:Addr} {tkH:Tok} (X:K.In h) (G:h.Ns mainGlobals mg) (hfa:mg "law"=some (.ref fa))
 {od0 an0 od1 an1 od2 an2 od3 an3 od4 an4 od5 an5 od6 an6 od7 an7 od8 an8 od9 an9 od10 an10 od11 an11 od12 an12 od13 an13 od14 an14 od15 an15 od16 an16 od17 an17 od18 an18 od19 an19 od20 an20 od21 an21 od22 an22 od23 an23 od24 an24 od25 an25 od26 an26 od27 an27 od28 an28 od29 an29 od30 an30 od31 an31 od32 an32 od33 an33 od34 an34 od35 an35 od36 an36 od37 an37 od38 an38 od39 an39 od40 an40 od41 an41 od42 an42 od43 an43 od44 an44 od45 an45 od46 an46 od47 an47 od48 an48 od49 an49 od50 an50 od51 an51 od52 an52 od53 an53 od54 an54 od55 an55 od56 an56 od57 an57 od58 an58 od59 an59 od60 an60 od61 an61 od62 an62 od63 an63 od64 an64 od65 an65 od66 an66 od67 an67 od68 an68 od69 an69 od70 an70 od71 an71 od72 an72 od73 an73 od74 an74 od75 an75 od76 an76:Option Addr} {sl0 sl1 sl2 sl3 sl4 sl5 sl6 sl7 sl8 sl9 sl10 sl11 sl12 sl13 sl14 sl15 sl16 sl17 sl18 sl19 sl20 sl21 sl22 sl23 sl24 sl25 sl26 sl27 sl28 sl29 sl30 sl31 sl32 sl33 sl34 sl35 sl36 sl37 sl38 sl39 sl40 sl41 sl42 sl43 sl44 sl45 sl46 sl47 sl48 sl49 sl50 sl51 sl52 sl53 sl54 sl55 sl56 sl57 sl58 sl59 sl60 sl61 sl62 sl63 sl64 sl65 sl66 sl67 sl68 sl69 sl70 sl71 sl72 sl73 sl74 sl75 sl76:Array (Option Value)} {oc0 kV0 dc0 pm0 cd0 ct0 oc1 kV1 dc1 pm1 cd1 ct1 oc2 kV2 dc2 pm2 cd2 ct2 oc3 kV3 dc3 pm3 cd3 ct3 oc4 kV4 dc4 pm4 cd4 ct4 oc5 kV5 dc5 pm5 cd5 ct5 oc6 kV6 dc6 pm6 cd6 ct6 oc7 kV7 dc7 pm7 cd7 ct7 oc8 kV8 dc8 pm8 cd8 ct8 oc9 kV9 dc9 pm9 cd9 ct9 oc10 kV10 dc10 pm10 cd10 ct10 oc11 kV11 dc11 pm11 cd11 ct11 oc12 kV12 dc12 pm12 cd12 ct12 oc13 kV13 dc13 pm13 cd13 ct13 oc14 kV14 dc14 pm14 cd14 ct14 oc15 kV15 dc15 pm15 cd15 ct15 oc16 kV16 dc16 pm16 cd16 ct16 oc17 kV17 dc17 pm17 cd17 ct17 oc18 kV18 dc18 pm18 cd18 ct18 oc19 kV19 dc19 pm19 cd19 ct19 oc20 kV20 dc20 pm20 cd20 ct20 oc21 kV21 dc21 pm21 cd21 ct21 oc22 kV22 dc22 pm22 cd22 ct22 oc23 kV23 dc23 pm23 cd23 ct23 oc24 kV24 dc24 pm24 cd24 ct24 oc25 kV25 dc25 pm25 cd25 ct25 oc26 kV26 dc26 pm26 cd26 ct26 oc27 kV27 dc27 pm27 cd27 ct27 oc28 kV28 dc28 pm28 cd28 ct28 oc29 kV29 dc29 pm29 cd29 ct29 oc30 kV30 dc30 pm30 cd30 ct30 oc31 kV31 dc31 pm31 cd31 ct31 oc32 kV32 dc32 pm32 cd32 ct32 oc33 kV33 dc33 pm33 cd33 ct33 oc34 kV34 dc34 pm34 cd34 ct34 oc35 kV35 dc35 pm35 cd35 ct35 oc36 kV36 dc36 pm36 cd36 ct36 oc37 kV37 dc37 pm37 cd37 ct37 oc38 kV38 dc38 pm38 cd38 ct38 oc39 kV39 dc39 pm39 cd39 ct39 oc40 kV40 dc40 pm40 cd40 ct40 oc41 kV41 dc41 pm41 cd41 ct41 oc42 kV42 dc42 pm42 cd42 ct42 oc43 kV43 dc43 pm43 cd43 ct43 oc44 kV44 dc44 pm44 cd44 ct44 oc45 kV45 dc45 pm45 cd45 ct45 oc46 kV46 dc46 pm46 cd46 ct46 oc47 kV47 dc47 pm47 cd47 ct47 oc48 kV48 dc48 pm48 cd48 ct48 oc49 kV49 dc49 pm49 cd49 ct49 oc50 kV50 dc50 pm50 cd50 ct50 oc51 kV51 dc51 pm51 cd51 ct51 oc52 kV52 dc52 pm52 cd52 ct52 oc53 kV53 dc53 pm53 cd53 ct53 oc54 kV54 dc54 pm54 cd54 ct54 oc55 kV55 dc55 pm55 cd55 ct55 oc56 kV56 dc56 pm56 cd56 ct56 oc57 kV57 dc57 pm57 cd57 ct57 oc58 kV58 dc58 pm58 cd58 ct58 oc59 kV59 dc59 pm59 cd59 ct59 oc60 kV60 dc60 pm60 cd60 ct60 oc61 kV61 dc61 pm61 cd61 ct61 oc62 kV62 dc62 pm62 cd62 ct62 oc63 kV63 dc63 pm63 cd63 ct63 oc64 kV64 dc64 pm64 cd64 ct64 oc65 kV65 dc65 pm65 cd65 ct65 oc66 kV66 dc66 pm66 cd66 ct66 oc67 kV67 dc67 pm67 cd67 ct67 oc68 kV68 dc68 pm68 cd68 ct68 oc69 kV69 dc69 pm69 cd69 ct69 oc70 kV70 dc70 pm70 cd70 ct70 oc71 kV71 dc71 pm71 cd71 ct71 oc72 kV72 dc72 pm72 cd72 ct72 oc73 kV73 dc73 pm73 cd73 ct73 oc74 kV74 dc74 pm74 cd74 ct74 oc75 kV75 dc75 pm75 cd75 ct75 oc76 kV76 dc76 pm76 cd76 ct76:Value}
 {T22:Addr} {oT22:Obj}
  (aC_P:W.nsIn K mainGlobals "PlainLock"=some (some (.ref cP)))
  (aC_B:W.nsIn K mainGlobals "BasinLock"=some (some (.ref cB)))
  (aC_U:W.nsIn K mainGlobals "PumpLock"=some (some (.ref cU)))
  (aC_R:W.nsIn K mainGlobals "Reach"=some (some (.ref cR)))
  (aC_N:W.nsIn K mainGlobals "Canal"=some (some (.ref cN)))
  (aX_NotNow:W.nsIn K mainGlobals "NotNow"=some (some (.ref eW)))
  (aX_NotLinked:W.nsIn K mainGlobals "NotLinked"=some (some (.ref eL)))
  (a0:W.nsIn K mainGlobals "poured_all"=some (some (.ref f0)))
  (l0:K.lookup f0=some ⟨oc0,od0,.func (W.fnOf "poured_all" "poured_all" (jV bR) (jS bR) (jF bR) .none kV0 dc0 pm0 an0 cd0 ct0),sl0⟩)
  (c0:W.codeIn K cd0 "poured_all"=true)
  (k0:W.keepIn K (.ref f0)=true)
  (a1:W.nsIn K mainGlobals "over"=some (some (.ref f1)))
  (l1:K.lookup f1=some ⟨oc1,od1,.func (W.fnOf "over" "over" (jV bO) (jS bO) (jF bO) .none kV1 dc1 pm1 an1 cd1 ct1),sl1⟩)
  (c1:W.codeIn K cd1 "over"=true)
  (k1:W.keepIn K (.ref f1)=true)
  (a2:W.nsIn K mainGlobals "last_first"=some (some (.ref f2)))
  (l2:K.lookup f2=some ⟨oc2,od2,.func (W.fnOf "last_first" "last_first" (jV bK) (jS bK) (jF bK) .none kV2 dc2 pm2 an2 cd2 ct2),sl2⟩)
  (c2:W.codeIn K cd2 "last_first"=true)
  (k2:W.keepIn K (.ref f2)=true)
  (a3:W.nsIn K mainGlobals "spills"=some (some (.ref f3)))
  (l3:K.lookup f3=some ⟨oc3,od3,.func (W.fnOf "spills" "spills" (jV bU) (jS bU) (jF bU) .none kV3 dc3 pm3 an3 cd3 ct3),sl3⟩)
  (c3:W.codeIn K cd3 "spills"=true)
  (k3:W.keepIn K (.ref f3)=true)
  (a4:W.nsIn K mainGlobals "spill_pours"=some (some (.ref f4)))
  (l4:K.lookup f4=some ⟨oc4,od4,.func (W.fnOf "spill_pours" "spill_pours" (jV QR) (jS QR) (jF QR) .none kV4 dc4 pm4 an4 cd4 ct4),sl4⟩)
  (c4:W.codeIn K cd4 "spill_pours"=true)
  (k4:W.keepIn K (.ref f4)=true)
  (a5:W.nsIn K mainGlobals "with_spills"=some (some (.ref f5)))
  (l5:K.lookup f5=some ⟨oc5,od5,.func (W.fnOf "with_spills" "with_spills" (jV bZ) (jS bZ) (jF bZ) .none kV5 dc5 pm5 an5 cd5 ct5),sl5⟩)
  (c5:W.codeIn K cd5 "with_spills"=true)
  (k5:W.keepIn K (.ref f5)=true)
  (a6:W.nsIn K mainGlobals "parts_not_nought"=some (some (.ref f6)))
  (l6:K.lookup f6=some ⟨oc6,od6,.func (W.fnOf "parts_not_nought" "parts_not_nought" (jV QQ) (jS QQ) (jF QQ) .none kV6 dc6 pm6 an6 cd6 ct6),sl6⟩)
  (c6:W.codeIn K cd6 "parts_not_nought"=true)
  (k6:W.keepIn K (.ref f6)=true)
  (a7:W.findIn K (.ref cP) "__init__"=some (some (.ref f7)))
  (i7:W.isFn K (.ref f7)=true)
  (ac7:W.findCls K (.ref cP) (.type "type") "__init__"=some (.val (.ref f7)))
  (l7:K.lookup f7=some ⟨oc7,od7,.func (W.fnOf "__init__" "PlainLock.__init__" (jV ZO) (jS ZO) (jF ZO) .none kV7 dc7 pm7 an7 cd7 ct7),sl7⟩)
  (c7:W.codeIn K cd7 "PlainLock.__init__"=true)
  (k7:W.keepIn K (.ref f7)=true)
  (a8:W.findIn K (.ref cB) "__init__"=some (some (.ref f8)))
  (i8:W.isFn K (.ref f8)=true)
  (l8:K.lookup f8=some ⟨oc8,od8,.func (W.fnOf "__init__" "BasinLock.__init__" (jV ZE) (jS ZE) (jF ZE) .none kV8 dc8 pm8 an8 cd8 ct8),sl8⟩)
  (c8:W.codeIn K cd8 "BasinLock.__init__"=true)
  (k8:W.keepIn K (.ref f8)=true)
  (a9:W.findIn K (.ref cU) "__init__"=some (some (.ref f9)))
  (i9:W.isFn K (.ref f9)=true)
  (l9:K.lookup f9=some ⟨oc9,od9,.func (W.fnOf "__init__" "PumpLock.__init__" (jV ZT) (jS ZT) (jF ZT) .none kV9 dc9 pm9 an9 cd9 ct9),sl9⟩)
  (c9:W.codeIn K cd9 "PumpLock.__init__"=true)
  (k9:W.keepIn K (.ref f9)=true)
  (a10:W.findIn K (.ref cR) "__init__"=some (some (.ref f10)))
  (i10:W.isFn K (.ref f10)=true)
  (l10:K.lookup f10=some ⟨oc10,od10,.func (W.fnOf "__init__" "Reach.__init__" (jV ZX) (jS ZX) (jF ZX) .none kV10 dc10 pm10 an10 cd10 ct10),sl10⟩)
  (c10:W.codeIn K cd10 "Reach.__init__"=true)
  (k10:W.keepIn K (.ref f10)=true)
  (a11:W.findIn K (.ref cP) "kind"=some (some (.ref f11)))
  (i11:W.isFn K (.ref f11)=true)
  (l11:K.lookup f11=some ⟨oc11,od11,.func (W.fnOf "kind" "PlainLock.kind" (jV ZR) (jS ZR) (jF ZR) .none kV11 dc11 pm11 an11 cd11 ct11),sl11⟩)
  (c11:W.codeIn K cd11 "PlainLock.kind"=true)
  (k11:W.keepIn K (.ref f11)=true)
  (a12:W.findIn K (.ref cB) "kind"=some (some (.ref f12)))
  (i12:W.isFn K (.ref f12)=true)
  (l12:K.lookup f12=some ⟨oc12,od12,.func (W.fnOf "kind" "BasinLock.kind" (jV ZH) (jS ZH) (jF ZH) .none kV12 dc12 pm12 an12 cd12 ct12),sl12⟩)
  (c12:W.codeIn K cd12 "BasinLock.kind"=true)
  (k12:W.keepIn K (.ref f12)=true)
  (a13:W.findIn K (.ref cU) "kind"=some (some (.ref f13)))
  (i13:W.isFn K (.ref f13)=true)
  (l13:K.lookup f13=some ⟨oc13,od13,.func (W.fnOf "kind" "PumpLock.kind" (jV ZW) (jS ZW) (jF ZW) .none kV13 dc13 pm13 an13 cd13 ct13),sl13⟩)
  (c13:W.codeIn K cd13 "PumpLock.kind"=true)
  (k13:W.keepIn K (.ref f13)=true)
  (a14:W.findIn K (.ref cP) "extra"=some (some (.ref f14)))
  (i14:W.isFn K (.ref f14)=true)
  (l14:K.lookup f14=some ⟨oc14,od14,.func (W.fnOf "extra" "PlainLock.extra" (jV ZP) (jS ZP) (jF ZP) .none kV14 dc14 pm14 an14 cd14 ct14),sl14⟩)
  (c14:W.codeIn K cd14 "PlainLock.extra"=true)
  (k14:W.keepIn K (.ref f14)=true)
  (a15:W.findIn K (.ref cB) "extra"=some (some (.ref f15)))
  (i15:W.isFn K (.ref f15)=true)
  (l15:K.lookup f15=some ⟨oc15,od15,.func (W.fnOf "extra" "BasinLock.extra" (jV ZF) (jS ZF) (jF ZF) .none kV15 dc15 pm15 an15 cd15 ct15),sl15⟩)
  (c15:W.codeIn K cd15 "BasinLock.extra"=true)
  (k15:W.keepIn K (.ref f15)=true)
  (a16:W.findIn K (.ref cU) "extra"=some (some (.ref f16)))
  (i16:W.isFn K (.ref f16)=true)
  (l16:K.lookup f16=some ⟨oc16,od16,.func (W.fnOf "extra" "PumpLock.extra" (jV ZU) (jS ZU) (jF ZU) .none kV16 dc16 pm16 an16 cd16 ct16),sl16⟩)
  (c16:W.codeIn K cd16 "PumpLock.extra"=true)
  (k16:W.keepIn K (.ref f16)=true)
  (a17:W.findIn K (.ref cP) "fill_parts"=some (some (.ref f17)))
  (i17:W.isFn K (.ref f17)=true)
  (l17:K.lookup f17=some ⟨oc17,od17,.func (W.fnOf "fill_parts" "PlainLock.fill_parts" (jV ZQ) (jS ZQ) (jF ZQ) .none kV17 dc17 pm17 an17 cd17 ct17),sl17⟩)
  (c17:W.codeIn K cd17 "PlainLock.fill_parts"=true)
  (k17:W.keepIn K (.ref f17)=true)
  (a18:W.findIn K (.ref cB) "fill_parts"=some (some (.ref f18)))
  (i18:W.isFn K (.ref f18)=true)
  (l18:K.lookup f18=some ⟨oc18,od18,.func (W.fnOf "fill_parts" "BasinLock.fill_parts" (jV ZG) (jS ZG) (jF ZG) .none kV18 dc18 pm18 an18 cd18 ct18),sl18⟩)
  (c18:W.codeIn K cd18 "BasinLock.fill_parts"=true)
  (k18:W.keepIn K (.ref f18)=true)
  (a19:W.findIn K (.ref cU) "fill_parts"=some (some (.ref f19)))
  (i19:W.isFn K (.ref f19)=true)
  (l19:K.lookup f19=some ⟨oc19,od19,.func (W.fnOf "fill_parts" "PumpLock.fill_parts" (jV ZV) (jS ZV) (jF ZV) .none kV19 dc19 pm19 an19 cd19 ct19),sl19⟩)
  (c19:W.codeIn K cd19 "PumpLock.fill_parts"=true)
  (k19:W.keepIn K (.ref f19)=true)
  (a20:W.findIn K (.ref cP) "let_parts"=some (some (.ref f20)))
  (a20_U:W.findIn K (.ref cU) "let_parts"=some (some (.ref f20)))
  (i20:W.isFn K (.ref f20)=true)
  (l20:K.lookup f20=some ⟨oc20,od20,.func (W.fnOf "let_parts" "PlainLock.let_parts" (jV ZS) (jS ZS) (jF ZS) .none kV20 dc20 pm20 an20 cd20 ct20),sl20⟩)
  (c20:W.codeIn K cd20 "PlainLock.let_parts"=true)
  (k20:W.keepIn K (.ref f20)=true)
  (a21:W.findIn K (.ref cB) "let_parts"=some (some (.ref f21)))
  (i21:W.isFn K (.ref f21)=true)
  (l21:K.lookup f21=some ⟨oc21,od21,.func (W.fnOf "let_parts" "BasinLock.let_parts" (jV ZI) (jS ZI) (jF ZI) .none kV21 dc21 pm21 an21 cd21 ct21),sl21⟩)
  (c21:W.codeIn K cd21 "BasinLock.let_parts"=true)
  (k21:W.keepIn K (.ref f21)=true)
  (a22:W.findIn K (.ref cN) "__init__"=some (some (.ref f22)))
  (i22:W.isFn K (.ref f22)=true)
  (l22:K.lookup f22=some ⟨oc22,od22,.func (W.fnOf "__init__" "Canal.__init__" (jV QG) (jS QG) (jF QG) (.ref T22) kV22 dc22 pm22 an22 cd22 ct22),sl22⟩)
  (c22:W.codeIn K cd22 "Canal.__init__"=true)
  (k22:W.keepIn K (.ref f22)=true)
  (lT22:K.lookup T22=some oT22)
  (dT22:oT22.data=.seq ([.none]:List Value).toArray dn0)
  (a23:W.findIn K (.ref cN) "sea"=some (some (.ref f23)))
  (i23:W.isFn K (.ref f23)=true)
  (l23:K.lookup f23=some ⟨oc23,od23,.func (W.fnOf "sea" "Canal.sea" (jV ZM) (jS ZM) (jF ZM) .none kV23 dc23 pm23 an23 cd23 ct23),sl23⟩)
  (c23:W.codeIn K cd23 "Canal.sea"=true)
  (k23:W.keepIn K (.ref f23)=true)
  (a24:W.findIn K (.ref cN) "sky"=some (some (.ref f24)))
  (i24:W.isFn K (.ref f24)=true)
  (l24:K.lookup f24=some ⟨oc24,od24,.func (W.fnOf "sky" "Canal.sky" (jV ZN) (jS ZN) (jF ZN) .none kV24 dc24 pm24 an24 cd24 ct24),sl24⟩)
  (c24:W.codeIn K cd24 "Canal.sky"=true)
  (k24:W.keepIn K (.ref f24)=true)
  (a25:W.findIn K (.ref cN) "chamber"=some (some (.ref f25)))
  (i25:W.isFn K (.ref f25)=true)
  (l25:K.lookup f25=some ⟨oc25,od25,.func (W.fnOf "chamber" "Canal.chamber" (jV ZK) (jS ZK) (jF ZK) .none kV25 dc25 pm25 an25 cd25 ct25),sl25⟩)
  (c25:W.codeIn K cd25 "Canal.chamber"=true)
  (k25:W.keepIn K (.ref f25)=true)
  (a26:W.findIn K (.ref cN) "basin"=some (some (.ref f26)))
  (i26:W.isFn K (.ref f26)=true)
  (l26:K.lookup f26=some ⟨oc26,od26,.func (W.fnOf "basin" "Canal.basin" (jV ZJ) (jS ZJ) (jF ZJ) .none kV26 dc26 pm26 an26 cd26 ct26),sl26⟩)
  (c26:W.codeIn K cd26 "Canal.basin"=true)
  (k26:W.keepIn K (.ref f26)=true)
  (a27:W.findIn K (.ref cN) "weirs"=some (some (.ref f27)))
  (i27:W.isFn K (.ref f27)=true)
  (l27:K.lookup f27=some ⟨oc27,od27,.func (W.fnOf "weirs" "Canal.weirs" (jV QH) (jS QH) (jF QH) .none kV27 dc27 pm27 an27 cd27 ct27),sl27⟩)
  (c27:W.codeIn K cd27 "Canal.weirs"=true)
  (k27:W.keepIn K (.ref f27)=true)
  (a28:W.findIn K (.ref cN) "full"=some (some (.ref f28)))
  (i28:W.isFn K (.ref f28)=true)
  (l28:K.lookup f28=some ⟨oc28,od28,.func (W.fnOf "full" "Canal.full" (jV ZL) (jS ZL) (jF ZL) .none kV28 dc28 pm28 an28 cd28 ct28),sl28⟩)
  (c28:W.codeIn K cd28 "Canal.full"=true)
  (k28:W.keepIn K (.ref f28)=true)
  (a29:W.nsIn K mainGlobals "filling"=some (some (.ref f29)))
  (l29:K.lookup f29=some ⟨oc29,od29,.func (W.fnOf "filling" "filling" (jV QL) (jS QL) (jF QL) .none kV29 dc29 pm29 an29 cd29 ct29),sl29⟩)
  (c29:W.codeIn K cd29 "filling"=true)
  (k29:W.keepIn K (.ref f29)=true)
  (a30:W.nsIn K mainGlobals "letting"=some (some (.ref f30)))
  (l30:K.lookup f30=some ⟨oc30,od30,.func (W.fnOf "letting" "letting" (jV QN) (jS QN) (jF QN) .none kV30 dc30 pm30 an30 cd30 ct30),sl30⟩)
  (c30:W.codeIn K cd30 "letting"=true)
  (k30:W.keepIn K (.ref f30)=true)
  (a31:W.nsIn K mainGlobals "given_by"=some (some (.ref f31)))
  (l31:K.lookup f31=some ⟨oc31,od31,.func (W.fnOf "given_by" "given_by" (jV QM) (jS QM) (jF QM) .none kV31 dc31 pm31 an31 cd31 ct31),sl31⟩)
  (c31:W.codeIn K cd31 "given_by"=true)
  (k31:W.keepIn K (.ref f31)=true)
  (a32:W.nsIn K mainGlobals "basin_after"=some (some (.ref f32)))
  (l32:K.lookup f32=some ⟨oc32,od32,.func (W.fnOf "basin_after" "basin_after" (jV QJ) (jS QJ) (jF QJ) .none kV32 dc32 pm32 an32 cd32 ct32),sl32⟩)
  (c32:W.codeIn K cd32 "basin_after"=true)
  (k32:W.keepIn K (.ref f32)=true)
  (a33:W.nsIn K mainGlobals "passage"=some (some (.ref f33)))
  (l33:K.lookup f33=some ⟨oc33,od33,.func (W.fnOf "passage" "passage" (jV bQ) (jS bQ) (jF bQ) .none kV33 dc33 pm33 an33 cd33 ct33),sl33⟩)
  (c33:W.codeIn K cd33 "passage"=true)
  (k33:W.keepIn K (.ref f33)=true)
  (a34:W.nsIn K mainGlobals "step_ends"=some (some (.ref f34)))
  (l34:K.lookup f34=some ⟨oc34,od34,.func (W.fnOf "step_ends" "step_ends" (jV bV) (jS bV) (jF bV) .none kV34 dc34 pm34 an34 cd34 ct34),sl34⟩)
  (c34:W.codeIn K cd34 "step_ends"=true)
  (k34:W.keepIn K (.ref f34)=true)
  (a35:W.nsIn K mainGlobals "linked"=some (some (.ref f35)))
  (l35:K.lookup f35=some ⟨oc35,od35,.func (W.fnOf "linked" "linked" (jV bM) (jS bM) (jF bM) .none kV35 dc35 pm35 an35 cd35 ct35),sl35⟩)
  (c35:W.codeIn K cd35 "linked"=true)
  (k35:W.keepIn K (.ref f35)=true)
  (a36:W.nsIn K mainGlobals "steps_to_do"=some (some (.ref f36)))
  (l36:K.lookup f36=some ⟨oc36,od36,.func (W.fnOf "steps_to_do" "steps_to_do" (jV bW) (jS bW) (jF bW) .none kV36 dc36 pm36 an36 cd36 ct36),sl36⟩)
  (c36:W.codeIn K cd36 "steps_to_do"=true)
  (k36:W.keepIn K (.ref f36)=true)
  (a37:W.nsIn K mainGlobals "reach_of"=some (some (.ref f37)))
  (l37:K.lookup f37=some ⟨oc37,od37,.func (W.fnOf "reach_of" "reach_of" (jV bT) (jS bT) (jF bT) .none kV37 dc37 pm37 an37 cd37 ct37),sl37⟩)
  (c37:W.codeIn K cd37 "reach_of"=true)
  (k37:W.keepIn K (.ref f37)=true)
  (a38:W.nsIn K mainGlobals "lying"=some (some (.ref f38)))
  (l38:K.lookup f38=some ⟨oc38,od38,.func (W.fnOf "lying" "lying" (jV QO) (jS QO) (jF QO) .none kV38 dc38 pm38 an38 cd38 ct38),sl38⟩)
  (c38:W.codeIn K cd38 "lying"=true)
  (k38:W.keepIn K (.ref f38)=true)
  (a39:W.nsIn K mainGlobals "night_pours"=some (some (.ref f39)))
  (l39:K.lookup f39=some ⟨oc39,od39,.func (W.fnOf "night_pours" "night_pours" (jV zW) (jS zW) (jF zW) .none kV39 dc39 pm39 an39 cd39 ct39),sl39⟩)
  (c39:W.codeIn K cd39 "night_pours"=true)
  (k39:W.keepIn K (.ref f39)=true)
  (a40:W.nsIn K mainGlobals "has_no_berth"=some (some (.ref f40)))
  (l40:K.lookup f40=some ⟨oc40,od40,.func (W.fnOf "has_no_berth" "has_no_berth" (jV bI) (jS bI) (jF bI) .none kV40 dc40 pm40 an40 cd40 ct40),sl40⟩)
  (c40:W.codeIn K cd40 "has_no_berth"=true)
  (k40:W.keepIn K (.ref f40)=true)
  (a41:W.nsIn K mainGlobals "next_step"=some (some (.ref f41)))
  (l41:K.lookup f41=some ⟨oc41,od41,.func (W.fnOf "next_step" "next_step" (jV bN) (jS bN) (jF bN) .none kV41 dc41 pm41 an41 cd41 ct41),sl41⟩)
  (c41:W.codeIn K cd41 "next_step"=true)
  (k41:W.keepIn K (.ref f41)=true)
  (a42:W.nsIn K mainGlobals "one_step_on"=some (some (.ref f42)))
  (l42:K.lookup f42=some ⟨oc42,od42,.func (W.fnOf "one_step_on" "one_step_on" (jV QP) (jS QP) (jF QP) .none kV42 dc42 pm42 an42 cd42 ct42),sl42⟩)
  (c42:W.codeIn K cd42 "one_step_on"=true)
  (k42:W.keepIn K (.ref f42)=true)
  (a43:W.nsIn K mainGlobals "counted_on"=some (some (.ref f43)))
  (l43:K.lookup f43=some ⟨oc43,od43,.func (W.fnOf "counted_on" "counted_on" (jV bG) (jS bG) (jF bG) .none kV43 dc43 pm43 an43 cd43 ct43),sl43⟩)
  (c43:W.codeIn K cd43 "counted_on"=true)
  (k43:W.keepIn K (.ref f43)=true)
  (a44:W.nsIn K mainGlobals "by_number"=some (some (.ref f44)))
  (l44:K.lookup f44=some ⟨oc44,od44,.func (W.fnOf "by_number" "by_number" (jV QK) (jS QK) (jF QK) .none kV44 dc44 pm44 an44 cd44 ct44),sl44⟩)
  (c44:W.codeIn K cd44 "by_number"=true)
  (k44:W.keepIn K (.ref f44)=true)
  (a45:W.nsIn K mainGlobals "pass_pours"=some (some (.ref f45)))
  (l45:K.lookup f45=some ⟨oc45,od45,.func (W.fnOf "pass_pours" "pass_pours" (jV bP) (jS bP) (jF bP) .none kV45 dc45 pm45 an45 cd45 ct45),sl45⟩)
  (c45:W.codeIn K cd45 "pass_pours"=true)
  (k45:W.keepIn K (.ref f45)=true)
  (a46:W.nsIn K mainGlobals "let_pours"=some (some (.ref f46)))
  (l46:K.lookup f46=some ⟨oc46,od46,.func (W.fnOf "let_pours" "let_pours" (jV bL) (jS bL) (jF bL) .none kV46 dc46 pm46 an46 cd46 ct46),sl46⟩)
  (c46:W.codeIn K cd46 "let_pours"=true)
  (k46:W.keepIn K (.ref f46)=true)
  (a47:W.nsIn K mainGlobals "is_below_least"=some (some (.ref f47)))
  (l47:K.lookup f47=some ⟨oc47,od47,.func (W.fnOf "is_below_least" "is_below_least" (jV bJ) (jS bJ) (jF bJ) .none kV47 dc47 pm47 an47 cd47 ct47),sl47⟩)
  (c47:W.codeIn K cd47 "is_below_least"=true)
  (k47:W.keepIn K (.ref f47)=true)
  (a48:W.nsIn K mainGlobals "falls_short"=some (some (.ref f48)))
  (l48:K.lookup f48=some ⟨oc48,od48,.func (W.fnOf "falls_short" "falls_short" (jV bH) (jS bH) (jF bH) .none kV48 dc48 pm48 an48 cd48 ct48),sl48⟩)
  (c48:W.codeIn K cd48 "falls_short"=true)
  (k48:W.keepIn K (.ref f48)=true)
  (a49:W.nsIn K mainGlobals "why_no_pass"=some (some (.ref f49)))
  (l49:K.lookup f49=some ⟨oc49,od49,.func (W.fnOf "why_no_pass" "why_no_pass" (jV bX) (jS bX) (jF bX) .none kV49 dc49 pm49 an49 cd49 ct49),sl49⟩)
  (c49:W.codeIn K cd49 "why_no_pass"=true)
  (k49:W.keepIn K (.ref f49)=true)
  (a50:W.nsIn K mainGlobals "why_not"=some (some (.ref f50)))
  (l50:K.lookup f50=some ⟨oc50,od50,.func (W.fnOf "why_not" "why_not" (jV bY) (jS bY) (jF bY) .none kV50 dc50 pm50 an50 cd50 ct50),sl50⟩)
  (c50:W.codeIn K cd50 "why_not"=true)
  (k50:W.keepIn K (.ref f50)=true)
  (a51:W.nsIn K mainGlobals "pours"=some (some (.ref f51)))
  (l51:K.lookup f51=some ⟨oc51,od51,.func (W.fnOf "pours" "pours" (jV bS) (jS bS) (jF bS) .none kV51 dc51 pm51 an51 cd51 ct51),sl51⟩)
  (c51:W.codeIn K cd51 "pours"=true)
  (k51:W.keepIn K (.ref f51)=true)
  (a52:W.nsIn K mainGlobals "after"=some (some (.ref f52)))
  (l52:K.lookup f52=some ⟨oc52,od52,.func (W.fnOf "after" "after" (jV bF) (jS bF) (jF bF) .none kV52 dc52 pm52 an52 cd52 ct52),sl52⟩)
  (c52:W.codeIn K cd52 "after"=true)
  (k52:W.keepIn K (.ref f52)=true)
  (a53:W.nsIn K mainGlobals "_law_whole"=some (some (.ref f53)))
  (l53:K.lookup f53=some ⟨oc53,od53,.func (W.fnOf "_law_whole" "_law_whole" (jV bC) (jS bC) (jF bC) .none kV53 dc53 pm53 an53 cd53 ct53),sl53⟩)
  (c53:W.codeIn K cd53 "_law_whole"=true)
  (k53:W.keepIn K (.ref f53)=true)
  (a54:W.nsIn K mainGlobals "_law_draw"=some (some (.ref f54)))
  (l54:K.lookup f54=some ⟨oc54,od54,.func (W.fnOf "_law_draw" "_law_draw" (jV ZZ) (jS ZZ) (jF ZZ) .none kV54 dc54 pm54 an54 cd54 ct54),sl54⟩)
  (c54:W.codeIn K cd54 "_law_draw"=true)
  (k54:W.keepIn K (.ref f54)=true)
  (a55:W.nsIn K mainGlobals "_law_unit"=some (some (.ref f55)))
  (l55:K.lookup f55=some ⟨oc55,od55,.func (W.fnOf "_law_unit" "_law_unit" (jV Z9) (jS Z9) (jF Z9) .none kV55 dc55 pm55 an55 cd55 ct55),sl55⟩)
  (c55:W.codeIn K cd55 "_law_unit"=true)
  (k55:W.keepIn K (.ref f55)=true)
  (a56:W.nsIn K mainGlobals "_law_reach"=some (some (.ref f56)))
  (l56:K.lookup f56=some ⟨oc56,od56,.func (W.fnOf "_law_reach" "_law_reach" (jV Z5) (jS Z5) (jF Z5) .none kV56 dc56 pm56 an56 cd56 ct56),sl56⟩)
  (c56:W.codeIn K cd56 "_law_reach"=true)
  (k56:W.keepIn K (.ref f56)=true)
  (a57:W.nsIn K mainGlobals "_law_lock"=some (some (.ref f57)))
  (l57:K.lookup f57=some ⟨oc57,od57,.func (W.fnOf "_law_lock" "_law_lock" (jV Z3) (jS Z3) (jF Z3) .none kV57 dc57 pm57 an57 cd57 ct57),sl57⟩)
  (c57:W.codeIn K cd57 "_law_lock"=true)
  (k57:W.keepIn K (.ref f57)=true)
  (a58:W.nsIn K mainGlobals "_law_weather"=some (some (.ref f58)))
  (l58:K.lookup f58=some ⟨oc58,od58,.func (W.fnOf "_law_weather" "_law_weather" (jV bB) (jS bB) (jF bB) .none kV58 dc58 pm58 an58 cd58 ct58),sl58⟩)
  (c58:W.codeIn K cd58 "_law_weather"=true)
  (k58:W.keepIn K (.ref f58)=true)
  (a59:W.nsIn K mainGlobals "_law_canal"=some (some (.ref f59)))
  (l59:K.lookup f59=some ⟨oc59,od59,.func (W.fnOf "_law_canal" "_law_canal" (jV zU) (jS zU) (jF zU) .none kV59 dc59 pm59 an59 cd59 ct59),sl59⟩)
  (c59:W.codeIn K cd59 "_law_canal"=true)
  (k59:W.keepIn K (.ref f59)=true)
  (a60:W.nsIn K mainGlobals "_law_turns"=some (some (.ref f60)))
  (l60:K.lookup f60=some ⟨oc60,od60,.func (W.fnOf "_law_turns" "_law_turns" (jV Z8) (jS Z8) (jF Z8) .none kV60 dc60 pm60 an60 cd60 ct60),sl60⟩)
  (c60:W.codeIn K cd60 "_law_turns"=true)
  (k60:W.keepIn K (.ref f60)=true)
  (a61:W.nsIn K mainGlobals "_law_way"=some (some (.ref f61)))
  (l61:K.lookup f61=some ⟨oc61,od61,.func (W.fnOf "_law_way" "_law_way" (jV bA) (jS bA) (jF bA) .none kV61 dc61 pm61 an61 cd61 ct61),sl61⟩)
  (c61:W.codeIn K cd61 "_law_way"=true)
  (k61:W.keepIn K (.ref f61)=true)
  (a62:W.nsIn K mainGlobals "_law_state"=some (some (.ref f62)))
  (l62:K.lookup f62=some ⟨oc62,od62,.func (W.fnOf "_law_state" "_law_state" (jV JR) (jS JR) (jF JR) .none kV62 dc62 pm62 an62 cd62 ct62),sl62⟩)
  (c62:W.codeIn K cd62 "_law_state"=true)
  (k62:W.keepIn K (.ref f62)=true)
  (a63:W.nsIn K mainGlobals "_law_fill"=some (some (.ref f63)))
  (l63:K.lookup f63=some ⟨oc63,od63,.func (W.fnOf "_law_fill" "_law_fill" (jV Z0) (jS Z0) (jF Z0) .none kV63 dc63 pm63 an63 cd63 ct63),sl63⟩)
  (c63:W.codeIn K cd63 "_law_fill"=true)
  (k63:W.keepIn K (.ref f63)=true)
  (a64:W.nsIn K mainGlobals "_law_let"=some (some (.ref f64)))
  (l64:K.lookup f64=some ⟨oc64,od64,.func (W.fnOf "_law_let" "_law_let" (jV Z2) (jS Z2) (jF Z2) .none kV64 dc64 pm64 an64 cd64 ct64),sl64⟩)
  (c64:W.codeIn K cd64 "_law_let"=true)
  (k64:W.keepIn K (.ref f64)=true)
  (a65:W.nsIn K mainGlobals "_law_row_of"=some (some (.ref f65)))
  (l65:K.lookup f65=some ⟨oc65,od65,.func (W.fnOf "_law_row_of" "_law_row_of" (jV yY) (jS yY) (jF yY) .none kV65 dc65 pm65 an65 cd65 ct65),sl65⟩)
  (c65:W.codeIn K cd65 "_law_row_of"=true)
  (k65:W.keepIn K (.ref f65)=true)
  (a66:W.nsIn K mainGlobals "_law_words"=some (some (.ref f66)))
  (l66:K.lookup f66=some ⟨oc66,od66,.func (W.fnOf "_law_words" "_law_words" (jV bE) (jS bE) (jF bE) .none kV66 dc66 pm66 an66 cd66 ct66),sl66⟩)
  (c66:W.codeIn K cd66 "_law_words"=true)
  (k66:W.keepIn K (.ref f66)=true)
  (a67:W.nsIn K mainGlobals "_law_reach_by"=some (some (.ref f67)))
  (l67:K.lookup f67=some ⟨oc67,od67,.func (W.fnOf "_law_reach_by" "_law_reach_by" (jV Z6) (jS Z6) (jF Z6) .none kV67 dc67 pm67 an67 cd67 ct67),sl67⟩)
  (c67:W.codeIn K cd67 "_law_reach_by"=true)
  (k67:W.keepIn K (.ref f67)=true)
  (a68:W.nsIn K mainGlobals "_law_why_no_pass"=some (some (.ref f68)))
  (l68:K.lookup f68=some ⟨oc68,od68,.func (W.fnOf "_law_why_no_pass" "_law_why_no_pass" (jV QI) (jS QI) (jF QI) .none kV68 dc68 pm68 an68 cd68 ct68),sl68⟩)
  (c68:W.codeIn K cd68 "_law_why_no_pass"=true)
  (k68:W.keepIn K (.ref f68)=true)
  (a69:W.nsIn K mainGlobals "_law_why"=some (some (.ref f69)))
  (l69:K.lookup f69=some ⟨oc69,od69,.func (W.fnOf "_law_why" "_law_why" (jV bD) (jS bD) (jF bD) .none kV69 dc69 pm69 an69 cd69 ct69),sl69⟩)
  (c69:W.codeIn K cd69 "_law_why"=true)
  (k69:W.keepIn K (.ref f69)=true)
  (a70:W.nsIn K mainGlobals "_law_deeds"=some (some (.ref f70)))
  (l70:K.lookup f70=some ⟨oc70,od70,.func (W.fnOf "_law_deeds" "_law_deeds" (jV JQ) (jS JQ) (jF JQ) .none kV70 dc70 pm70 an70 cd70 ct70),sl70⟩)
  (c70:W.codeIn K cd70 "_law_deeds"=true)
  (k70:W.keepIn K (.ref f70)=true)
  (a71:W.nsIn K mainGlobals "_law_own_row"=some (some (.ref f71)))
  (l71:K.lookup f71=some ⟨oc71,od71,.func (W.fnOf "_law_own_row" "_law_own_row" (jV zV) (jS zV) (jF zV) .none kV71 dc71 pm71 an71 cd71 ct71),sl71⟩)
  (c71:W.codeIn K cd71 "_law_own_row"=true)
  (k71:W.keepIn K (.ref f71)=true)
  (a72:W.nsIn K mainGlobals "_law_pours"=some (some (.ref f72)))
  (l72:K.lookup f72=some ⟨oc72,od72,.func (W.fnOf "_law_pours" "_law_pours" (jV Z4) (jS Z4) (jF Z4) .none kV72 dc72 pm72 an72 cd72 ct72),sl72⟩)
  (c72:W.codeIn K cd72 "_law_pours"=true)
  (k72:W.keepIn K (.ref f72)=true)
  (a73:W.nsIn K mainGlobals "_law_full_row"=some (some (.ref f73)))
  (l73:K.lookup f73=some ⟨oc73,od73,.func (W.fnOf "_law_full_row" "_law_full_row" (jV Z1) (jS Z1) (jF Z1) .none kV73 dc73 pm73 an73 cd73 ct73),sl73⟩)
  (c73:W.codeIn K cd73 "_law_full_row"=true)
  (k73:W.keepIn K (.ref f73)=true)
  (a74:W.nsIn K mainGlobals "_law_state_is"=some (some (.ref f74)))
  (l74:K.lookup f74=some ⟨oc74,od74,.func (W.fnOf "_law_state_is" "_law_state_is" (jV Z7) (jS Z7) (jF Z7) .none kV74 dc74 pm74 an74 cd74 ct74),sl74⟩)
  (c74:W.codeIn K cd74 "_law_state_is"=true)
  (k74:W.keepIn K (.ref f74)=true)
  (a75:W.nsIn K mainGlobals "_law_done_right"=some (some (.ref f75)))
  (l75:K.lookup f75=some ⟨oc75,od75,.func (W.fnOf "_law_done_right" "_law_done_right" (jV ZY) (jS ZY) (jF ZY) .none kV75 dc75 pm75 an75 cd75 ct75),sl75⟩)
  (c75:W.codeIn K cd75 "_law_done_right"=true)
  (k75:W.keepIn K (.ref f75)=true)
  (a76:W.nsIn K mainGlobals "law"=some (some (.ref f76)))
  (l76:K.lookup f76=some ⟨oc76,od76,.func (W.fnOf "law" "law" (jV zF) (jS zF) (jF zF) .none kV76 dc76 pm76 an76 cd76 ct76),sl76⟩)
  (c76:W.codeIn K cd76 "law"=true)
  (k76:W.keepIn K (.ref f76)=true)
  (z_list:W.nsIn K mainGlobals "list"=some none)
  (z_tuple:W.nsIn K mainGlobals "tuple"=some none)
  (z_max:W.nsIn K mainGlobals "max"=some none)
  (z_range:W.nsIn K mainGlobals "range"=some none)
  (z_len:W.nsIn K mainGlobals "len"=some none)
  (z_sum:W.nsIn K mainGlobals "sum"=some none)
  (z_zip:W.nsIn K mainGlobals "zip"=some none)
  (z_enumerate:W.nsIn K mainGlobals "enumerate"=some none)
  (z_min:W.nsIn K mainGlobals "min"=some none)
  (z_isinstance:W.nsIn K mainGlobals "isinstance"=some none)
  (z_bool:W.nsIn K mainGlobals "bool"=some none)
  (z_int:W.nsIn K mainGlobals "int"=some none)
  (pg_P:W.plainGet K cP Str.empty=true)
  (hdd_P:W.hasDictIn K cP=true)
  (po_P:W.plainOver K cP=true)
  (sa_P:W.findIn K (.ref cP) "__setattr__"=some (some (.builtin "object.__setattr__")))
  (mk_P:W.makesIn K cP=true)
  (kc_P:W.keepIn K (.ref cP)=true)
  (n_name_P:W.findIn K (.ref cP) "name"=some none)
  (n_high_P:W.findIn K (.ref cP) "high"=some none)
  (n_low_P:W.findIn K (.ref cP) "low"=some none)
  (n_room_P:W.findIn K (.ref cP) "room"=some none)
  (pg_B:W.plainGet K cB Str.empty=true)
  (hdd_B:W.hasDictIn K cB=true)
  (po_B:W.plainOver K cB=true)
  (sa_B:W.findIn K (.ref cB) "__setattr__"=some (some (.builtin "object.__setattr__")))
  (mk_B:W.makesIn K cB=true)
  (kc_B:W.keepIn K (.ref cB)=true)
  (n_name_B:W.findIn K (.ref cB) "name"=some none)
  (n_high_B:W.findIn K (.ref cB) "high"=some none)
  (n_low_B:W.findIn K (.ref cB) "low"=some none)
  (n_room_B:W.findIn K (.ref cB) "room"=some none)
  (n_side_B:W.findIn K (.ref cB) "side"=some none)
  (pg_U:W.plainGet K cU Str.empty=true)
  (hdd_U:W.hasDictIn K cU=true)
  (po_U:W.plainOver K cU=true)
  (sa_U:W.findIn K (.ref cU) "__setattr__"=some (some (.builtin "object.__setattr__")))
  (mk_U:W.makesIn K cU=true)
  (kc_U:W.keepIn K (.ref cU)=true)
  (n_name_U:W.findIn K (.ref cU) "name"=some none)
  (n_high_U:W.findIn K (.ref cU) "high"=some none)
  (n_low_U:W.findIn K (.ref cU) "low"=some none)
  (n_room_U:W.findIn K (.ref cU) "room"=some none)
  (n_lift_U:W.findIn K (.ref cU) "lift"=some none)
  (g1:W.specialIn K (.ref cP) "__getattribute__"=some (some (.builtin "type.__getattribute__")))
  (g2:W.readsIn K cP (.type "type")=true)
  (pg_R:W.plainGet K cR Str.empty=true)
  (hdd_R:W.hasDictIn K cR=true)
  (po_R:W.plainOver K cR=true)
  (sa_R:W.findIn K (.ref cR) "__setattr__"=some (some (.builtin "object.__setattr__")))
  (mk_R:W.makesIn K cR=true)
  (kc_R:W.keepIn K (.ref cR)=true)
  (nR_name:W.findIn K (.ref cR) "name"=some none)
  (nR_least:W.findIn K (.ref cR) "least"=some none)
  (nR_crest:W.findIn K (.ref cR) "crest"=some none)
  (nR_berths:W.findIn K (.ref cR) "berths"=some none)
  (nR_water:W.findIn K (.ref cR) "water"=some none)
  (nR_target:W.findIn K (.ref cR) "target"=some none)
  (pg_N:W.plainGet K cN Str.empty=true)
  (hdd_N:W.hasDictIn K cN=true)
  (po_N:W.plainOver K cN=true)
  (sa_N:W.findIn K (.ref cN) "__setattr__"=some (some (.builtin "object.__setattr__")))
  (mk_N:W.makesIn K cN=true)
  (kc_N:W.keepIn K (.ref cN)=true)
  (nN_reaches:W.findIn K (.ref cN) "reaches"=some none)
  (nN_locks:W.findIn K (.ref cN) "locks"=some none)
  (nN_nights:W.findIn K (.ref cN) "nights"=some none)
  (gSEA:W.nsIn K mainGlobals "SEA"=some (some (.int (-1) tkS)))
  (xX_NotNow:W.excIn K eW [.type "ValueError",.type "Exception",.type "BaseException",.type "object"] "ValueError.__new__"=true)
  (xX_NotLinked:W.excIn K eL [.type "ValueError",.type "Exception",.type "BaseException",.type "object"] "ValueError.__new__"=true)
  (gHOME:W.nsIn K mainGlobals "HOME"=some (some (.int (-1) tkH))) :
  ∃fd:FuncData,(∀(s:Shared) (v:Value),BindsTo s fd ⟨[v],[]⟩ [("script",v)])∧∀base:Heap,K.In base→base.Ns mainGlobals mg→FnOk l.prog w K mg base jU 13 fa fd ["script"] (gC K):=by
 have e:=hfa.symm.trans (W.mg_of X G a76)
 cases e
 have F0:=jZ (st:=bR) l0 c0 k0
 have b0:=F0.binds (ps:=["waters","pours"]) fun _ _ _ _ _ _ us hl=>match us,hl with|[_,_],_=>rfl
 have F1:=jZ (st:=bO) l1 c1 k1
 have b1:=F1.binds (ps:=["weirs","waters","at"]) fun _ _ _ _ _ _ us hl=>match us,hl with|[_,_,_],_=>rfl
 have F2:=jZ (st:=bK) l2 c2 k2
 have b2:=F2.binds (ps:=["weirs"]) fun _ _ _ _ _ _ us hl=>match us,hl with|[_],_=>rfl
 have F3:=jZ (st:=bU) l3 c3 k3
 have b3:=F3.binds (ps:=["weirs","waters"]) fun _ _ _ _ _ _ us hl=>match us,hl with|[_,_],_=>rfl
 have F4:=jZ (st:=QR) l4 c4 k4
 have b4:=F4.binds (ps:=["weirs","waters"]) fun _ _ _ _ _ _ us hl=>match us,hl with|[_,_],_=>rfl
 have F5:=jZ (st:=bZ) l5 c5 k5
 have b5:=F5.binds (ps:=["weirs","waters","pours"]) fun _ _ _ _ _ _ us hl=>match us,hl with|[_,_,_],_=>rfl
 have F6:=jZ (st:=QQ) l6 c6 k6
 have b6:=F6.binds (ps:=["parts"]) fun _ _ _ _ _ _ us hl=>match us,hl with|[_],_=>rfl
 have F7:=jZ (st:=ZO) l7 c7 k7
 have b7:=F7.binds (ps:=["self","name","high","low","room"]) fun _ _ _ _ _ _ us hl=>match us,hl with|[_,_,_,_,_],_=>rfl
 have F8:=jZ (st:=ZE) l8 c8 k8
 have b8:=F8.binds (ps:=["self","name","high","low","room","side"]) fun _ _ _ _ _ _ us hl=>match us,hl with|[_,_,_,_,_,_],_=>rfl
 have F9:=jZ (st:=ZT) l9 c9 k9
 have b9:=F9.binds (ps:=["self","name","high","low","room","lift"]) fun _ _ _ _ _ _ us hl=>match us,hl with|[_,_,_,_,_,_],_=>rfl
 have F10:=jZ (st:=ZX) l10 c10 k10
 have b10:=F10.binds (ps:=["self","name","least","crest","berths","water","target"]) fun _ _ _ _ _ _ us hl=>match us,hl with|[_,_,_,_,_,_,_],_=>rfl
 have F11:=jZ (st:=ZR) l11 c11 k11
 have b11:=F11.binds (ps:=["self"]) fun _ _ _ _ _ _ us hl=>match us,hl with|[_],_=>rfl
 have F12:=jZ (st:=ZH) l12 c12 k12
 have b12:=F12.binds (ps:=["self"]) fun _ _ _ _ _ _ us hl=>match us,hl with|[_],_=>rfl
 have F13:=jZ (st:=ZW) l13 c13 k13
 have b13:=F13.binds (ps:=["self"]) fun _ _ _ _ _ _ us hl=>match us,hl with|[_],_=>rfl
 have F14:=jZ (st:=ZP) l14 c14 k14
 have b14:=F14.binds (ps:=["self"]) fun _ _ _ _ _ _ us hl=>match us,hl with|[_],_=>rfl
 have F15:=jZ (st:=ZF) l15 c15 k15
 have b15:=F15.binds (ps:=["self"]) fun _ _ _ _ _ _ us hl=>match us,hl with|[_],_=>rfl
 have F16:=jZ (st:=ZU) l16 c16 k16
 have b16:=F16.binds (ps:=["self"]) fun _ _ _ _ _ _ us hl=>match us,hl with|[_],_=>rfl
 have F17:=jZ (st:=ZQ) l17 c17 k17
 have b17:=F17.binds (ps:=["self","basin"]) fun _ _ _ _ _ _ us hl=>match us,hl with|[_,_],_=>rfl
 have F18:=jZ (st:=ZG) l18 c18 k18
 have b18:=F18.binds (ps:=["self","basin"]) fun _ _ _ _ _ _ us hl=>match us,hl with|[_,_],_=>rfl
 have F19:=jZ (st:=ZV) l19 c19 k19
 have b19:=F19.binds (ps:=["self","basin"]) fun _ _ _ _ _ _ us hl=>match us,hl with|[_,_],_=>rfl
 have F20:=jZ (st:=ZS) l20 c20 k20
 have b20:=F20.binds (ps:=["self","basin"]) fun _ _ _ _ _ _ us hl=>match us,hl with|[_,_],_=>rfl
 have F21:=jZ (st:=ZI) l21 c21 k21
 have b21:=F21.binds (ps:=["self","basin"]) fun _ _ _ _ _ _ us hl=>match us,hl with|[_,_],_=>rfl
 have F22:=FF (st:=QG) (ds:=[.none]) (n:=dn0) l22 c22 k22 lT22 (by first|exact dT22|rfl)
 have b22:Binds K _ ["self","reaches","locks","nights"] []:=F22.binds [] 4 rfl fun _ _ _ _ _ _ _ us hl=>match us,hl with|[_,_,_,_],_=>⟨_,rfl,rfl⟩
 have b22_1:Binds K _ ["self","reaches","locks","nights"] [.none]:=F22.binds [.none] 3 rfl fun _ _ _ _ _ _ _ us hl=>match us,hl with|[_,_,_],_=>⟨_,rfl,rfl⟩
 have F23:=jZ (st:=ZM) l23 c23 k23
 have b23:=F23.binds (ps:=["self"]) fun _ _ _ _ _ _ us hl=>match us,hl with|[_],_=>rfl
 have F24:=jZ (st:=ZN) l24 c24 k24
 have b24:=F24.binds (ps:=["self"]) fun _ _ _ _ _ _ us hl=>match us,hl with|[_],_=>rfl
 have F25:=jZ (st:=ZK) l25 c25 k25
 have b25:=F25.binds (ps:=["self","k"]) fun _ _ _ _ _ _ us hl=>match us,hl with|[_,_],_=>rfl
 have F26:=jZ (st:=ZJ) l26 c26 k26
 have b26:=F26.binds (ps:=["self","k"]) fun _ _ _ _ _ _ us hl=>match us,hl with|[_,_],_=>rfl
 have F27:=jZ (st:=QH) l27 c27 k27
 have b27:=F27.binds (ps:=["self"]) fun _ _ _ _ _ _ us hl=>match us,hl with|[_],_=>rfl
 have F28:=jZ (st:=ZL) l28 c28 k28
 have b28:=F28.binds (ps:=["self","waters","k"]) fun _ _ _ _ _ _ us hl=>match us,hl with|[_,_,_],_=>rfl
 have F29:=jZ (st:=QL) l29 c29 k29
 have b29:=F29.binds (ps:=["lock","basin"]) fun _ _ _ _ _ _ us hl=>match us,hl with|[_,_],_=>rfl
 have F30:=jZ (st:=QN) l30 c30 k30
 have b30:=F30.binds (ps:=["lock","basin"]) fun _ _ _ _ _ _ us hl=>match us,hl with|[_,_],_=>rfl
 have F31:=jZ (st:=QM) l31 c31 k31
 have b31:=F31.binds (ps:=["vessel","pours"]) fun _ _ _ _ _ _ us hl=>match us,hl with|[_,_],_=>rfl
 have F32:=jZ (st:=QJ) l32 c32 k32
 have b32:=F32.binds (ps:=["basin","pours"]) fun _ _ _ _ _ _ us hl=>match us,hl with|[_,_],_=>rfl
 have F33:=jZ (st:=bQ) l33 c33 k33
 have b33:=F33.binds (ps:=["lock","full","basin","way"]) fun _ _ _ _ _ _ us hl=>match us,hl with|[_,_,_,_],_=>rfl
 have F34:=jZ (st:=bV) l34 c34 k34
 have b34:=F34.binds (ps:=["lock","side"]) fun _ _ _ _ _ _ us hl=>match us,hl with|[_,_],_=>rfl
 have F35:=jZ (st:=bM) l35 c35 k35
 have b35:=F35.binds (ps:=["canal","start","steps"]) fun _ _ _ _ _ _ us hl=>match us,hl with|[_,_,_],_=>rfl
 have F36:=jZ (st:=bW) l36 c36 k36
 have b36:=F36.binds (ps:=["way","place"]) fun _ _ _ _ _ _ us hl=>match us,hl with|[_,_],_=>rfl
 have F37:=jZ (st:=bT) l37 c37 k37
 have b37:=F37.binds (ps:=["canal","way","place"]) fun _ _ _ _ _ _ us hl=>match us,hl with|[_,_,_],_=>rfl
 have F38:=jZ (st:=QO) l38 c38 k38
 have b38:=F38.binds (ps:=["canal","ways","state","reach"]) fun _ _ _ _ _ _ us hl=>match us,hl with|[_,_,_,_],_=>rfl
 have F39:=jZ (st:=zW) l39 c39 k39
 have b39:=F39.binds (ps:=["canal","state","weather"]) fun _ _ _ _ _ _ us hl=>match us,hl with|[_,_,_],_=>rfl
 have F40:=jZ (st:=bI) l40 c40 k40
 have b40:=F40.binds (ps:=["canal","ways","state","reach"]) fun _ _ _ _ _ _ us hl=>match us,hl with|[_,_,_,_],_=>rfl
 have F41:=jZ (st:=bN) l41 c41 k41
 have b41:=F41.binds (ps:=["way","place"]) fun _ _ _ _ _ _ us hl=>match us,hl with|[_,_],_=>rfl
 have F42:=jZ (st:=QP) l42 c42 k42
 have b42:=F42.binds (ps:=["places","boat"]) fun _ _ _ _ _ _ us hl=>match us,hl with|[_,_],_=>rfl
 have F43:=jZ (st:=bG) l43 c43 k43
 have b43:=F43.binds (ps:=["state","deed","waters"]) fun _ _ _ _ _ _ us hl=>match us,hl with|[_,_,_],_=>rfl
 have F44:=jZ (st:=QK) l44 c44 k44
 have b44:=F44.binds (ps:=["canal","k","named"]) fun _ _ _ _ _ _ us hl=>match us,hl with|[_,_,_],_=>rfl
 have F45:=jZ (st:=bP) l45 c45 k45
 have b45:=F45.binds (ps:=["canal","ways","state","boat"]) fun _ _ _ _ _ _ us hl=>match us,hl with|[_,_,_,_],_=>rfl
 have F46:=jZ (st:=bL) l46 c46 k46
 have b46:=F46.binds (ps:=["canal","state","k"]) fun _ _ _ _ _ _ us hl=>match us,hl with|[_,_,_],_=>rfl
 have F47:=jZ (st:=bJ) l47 c47 k47
 have b47:=F47.binds (ps:=["canal","waters","vessel"]) fun _ _ _ _ _ _ us hl=>match us,hl with|[_,_,_],_=>rfl
 have F48:=jZ (st:=bH) l48 c48 k48
 have b48:=F48.binds (ps:=["canal","waters","moved"]) fun _ _ _ _ _ _ us hl=>match us,hl with|[_,_,_],_=>rfl
 have F49:=jZ (st:=bX) l49 c49 k49
 have b49:=F49.binds (ps:=["canal","ways","state","boat"]) fun _ _ _ _ _ _ us hl=>match us,hl with|[_,_,_,_],_=>rfl
 have F50:=jZ (st:=bY) l50 c50 k50
 have b50:=F50.binds (ps:=["canal","ways","state","deed"]) fun _ _ _ _ _ _ us hl=>match us,hl with|[_,_,_,_],_=>rfl
 have F51:=jZ (st:=bS) l51 c51 k51
 have b51:=F51.binds (ps:=["canal","ways","state","deed"]) fun _ _ _ _ _ _ us hl=>match us,hl with|[_,_,_,_],_=>rfl
 have F52:=jZ (st:=bF) l52 c52 k52
 have b52:=F52.binds (ps:=["canal","ways","state","deed"]) fun _ _ _ _ _ _ us hl=>match us,hl with|[_,_,_,_],_=>rfl
 have F53:=jZ (st:=bC) l53 c53 k53
 have b53:=F53.binds (ps:=["found"]) fun _ _ _ _ _ _ us hl=>match us,hl with|[_],_=>rfl
 have F54:=jZ (st:=ZZ) l54 c54 k54
 have b54:=F54.binds (ps:=["script","k","many"]) fun _ _ _ _ _ _ us hl=>match us,hl with|[_,_,_],_=>rfl
 have F55:=jZ (st:=Z9) l55 c55 k55
 have b55:=F55.binds (ps:=["script"]) fun _ _ _ _ _ _ us hl=>match us,hl with|[_],_=>rfl
 have F56:=jZ (st:=Z5) l56 c56 k56
 have b56:=F56.binds (ps:=["script","k","unit"]) fun _ _ _ _ _ _ us hl=>match us,hl with|[_,_,_],_=>rfl
 have F57:=jZ (st:=Z3) l57 c57 k57
 have b57:=F57.binds (ps:=["script","k","reaches","unit"]) fun _ _ _ _ _ _ us hl=>match us,hl with|[_,_,_,_],_=>rfl
 have F58:=jZ (st:=bB) l58 c58 k58
 have b58:=F58.binds (ps:=["script","k","reaches","unit"]) fun _ _ _ _ _ _ us hl=>match us,hl with|[_,_,_,_],_=>rfl
 have F59:=jZ (st:=zU) l59 c59 k59
 have b59:=F59.binds (ps:=["script","most_reaches","most_locks","most_nights"]) fun _ _ _ _ _ _ us hl=>match us,hl with|[_,_,_,_],_=>rfl
 have F60:=jZ (st:=Z8) l60 c60 k60
 have b60:=F60.binds (ps:=["canal","reach"]) fun _ _ _ _ _ _ us hl=>match us,hl with|[_,_],_=>rfl
 have F61:=jZ (st:=bA) l61 c61 k61
 have b61:=F61.binds (ps:=["script","k","canal","most"]) fun _ _ _ _ _ _ us hl=>match us,hl with|[_,_,_,_],_=>rfl
 have F62:=jZ (st:=JR) l62 c62 k62
 have b62:=F62.binds (ps:=["script","canal","ways"]) fun _ _ _ _ _ _ us hl=>match us,hl with|[_,_,_],_=>rfl
 have F63:=jZ (st:=Z0) l63 c63 k63
 have b63:=F63.binds (ps:=["lock","held"]) fun _ _ _ _ _ _ us hl=>match us,hl with|[_,_],_=>rfl
 have F64:=jZ (st:=Z2) l64 c64 k64
 have b64:=F64.binds (ps:=["lock","held"]) fun _ _ _ _ _ _ us hl=>match us,hl with|[_,_],_=>rfl
 have F65:=jZ (st:=yY) l65 c65 k65
 have b65:=F65.binds (ps:=["canal","waters","k","words"]) fun _ _ _ _ _ _ us hl=>match us,hl with|[_,_,_,_],_=>rfl
 have F66:=jZ (st:=bE) l66 c66 k66
 have b66:=F66.binds (ps:=["full","course"]) fun _ _ _ _ _ _ us hl=>match us,hl with|[_,_],_=>rfl
 have F67:=jZ (st:=Z6) l67 c67 k67
 have b67:=F67.binds (ps:=["canal","way","place"]) fun _ _ _ _ _ _ us hl=>match us,hl with|[_,_,_],_=>rfl
 have F68:=jZ (st:=QI) l68 c68 k68
 have b68:=F68.binds (ps:=["canal","ways","state","boat"]) fun _ _ _ _ _ _ us hl=>match us,hl with|[_,_,_,_],_=>rfl
 have F69:=jZ (st:=bD) l69 c69 k69
 have b69:=F69.binds (ps:=["canal","ways","state","deed"]) fun _ _ _ _ _ _ us hl=>match us,hl with|[_,_,_,_],_=>rfl
 have F70:=jZ (st:=JQ) l70 c70 k70
 have b70:=F70.binds (ps:=["canal","ways"]) fun _ _ _ _ _ _ us hl=>match us,hl with|[_,_],_=>rfl
 have F71:=jZ (st:=zV) l71 c71 k71
 have b71:=F71.binds (ps:=["canal","ways","state","deed"]) fun _ _ _ _ _ _ us hl=>match us,hl with|[_,_,_,_],_=>rfl
 have F72:=jZ (st:=Z4) l72 c72 k72
 have b72:=F72.binds (ps:=["found","due"]) fun _ _ _ _ _ _ us hl=>match us,hl with|[_,_],_=>rfl
 have F73:=jZ (st:=Z1) l73 c73 k73
 have b73:=F73.binds (ps:=["canal","ways","state","deed"]) fun _ _ _ _ _ _ us hl=>match us,hl with|[_,_,_,_],_=>rfl
 have F74:=jZ (st:=Z7) l74 c74 k74
 have b74:=F74.binds (ps:=["found","due"]) fun _ _ _ _ _ _ us hl=>match us,hl with|[_,_],_=>rfl
 have F75:=jZ (st:=ZY) l75 c75 k75
 have b75:=F75.binds (ps:=["canal","ways","state","deed"]) fun _ _ _ _ _ _ us hl=>match us,hl with|[_,_,_,_],_=>rfl
 have F76:=jZ (st:=zF) l76 c76 k76
 have b76:=F76.binds (ps:=["script"]) fun _ _ _ _ _ _ us hl=>match us,hl with|[_],_=>rfl
 have T:Txt K mg cP cB cU cR cN tkS eW eL tkH:={z_list:=W.mg_none_of X G z_list,z_tuple:=W.mg_none_of X G z_tuple,z_max:=W.mg_none_of X G z_max,z_range:=W.mg_none_of X G z_range,z_len:=W.mg_none_of X G z_len,z_sum:=W.mg_none_of X G z_sum,z_zip:=W.mg_none_of X G z_zip,z_enumerate:=W.mg_none_of X G z_enumerate,z_min:=W.mg_none_of X G z_min,z_isinstance:=W.mg_none_of X G z_isinstance,z_bool:=W.mg_none_of X G z_bool,z_int:=W.mg_none_of X G z_int,cl:=fun kd=>match kd with|.plain=>⟨pg_P,hdd_P,po_P,sa_P⟩|.basin=>⟨pg_B,hdd_B,po_B,sa_B⟩|.pump=>⟨pg_U,hdd_U,po_U,sa_U⟩,n_name:=fun kd=>match kd with|.plain=>n_name_P|.basin=>n_name_B|.pump=>n_name_U,n_high:=fun kd=>match kd with|.plain=>n_high_P|.basin=>n_high_B|.pump=>n_high_U,n_low:=fun kd=>match kd with|.plain=>n_low_P|.basin=>n_low_B|.pump=>n_low_U,n_room:=fun kd=>match kd with|.plain=>n_room_P|.basin=>n_room_B|.pump=>n_room_U,n_side:=n_side_B,n_lift:=n_lift_U,c_PlainLock:=W.mg_of X G aC_P,c_BasinLock:=W.mg_of X G aC_B,c_PumpLock:=W.mg_of X G aC_U,clR:=⟨pg_R,hdd_R,po_R,sa_R⟩,nR_name:=nR_name,nR_least:=nR_least,nR_crest:=nR_crest,nR_berths:=nR_berths,nR_water:=nR_water,nR_target:=nR_target,c_Reach:=W.mg_of X G aC_R,clN:=⟨pg_N,hdd_N,po_N,sa_N⟩,nN_reaches:=nN_reaches,nN_locks:=nN_locks,nN_nights:=nN_nights,c_Canal:=W.mg_of X G aC_N,g_SEA:=W.mg_of X G gSEA,c_NotNow:=W.mg_of X G aX_NotNow,c_NotLinked:=W.mg_of X G aX_NotLinked,x_NotNow:=xX_NotNow,x_NotLinked:=xX_NotLinked,g_HOME:=W.mg_of X G gHOME}
 refine ⟨W.fnOf "law" "law" (jV zF) (jS zF) (jF zF) .none kV76 dc76 pm76 an76 cd76 ct76,fun s v=>.of_eq rfl,fun base _ _=>?_⟩
 have D0:Def l.prog w K mg base 1 "poured_all" _ [] _:=⟨_,_,[],xS F0 T,W.mg_of X G a0,k0,.nil,b0⟩
 have D1:Def l.prog w K mg base 1 "over" _ [] _:=⟨_,_,[],xO F1 T,W.mg_of X G a1,k1,.nil,b1⟩
 have D2:Def l.prog w K mg base 1 "last_first" _ [] _:=⟨_,_,[],xF F2 T,W.mg_of X G a2,k2,.nil,b2⟩
 have D3:Def l.prog w K mg base 2 "spills" _ [] _:=⟨_,_,[],xW F3 T D2 D1,W.mg_of X G a3,k3,.nil,b3⟩
 have D4:Def l.prog w K mg base 3 "spill_pours" _ [] _:=⟨_,_,[],xV F4 T D3 D2,W.mg_of X G a4,k4,.nil,b4⟩
 have D5:Def l.prog w K mg base 4 "with_spills" _ [] _:=⟨_,_,[],x6 F5 T D4 D0,W.mg_of X G a5,k5,.nil,b5⟩
 have D6:Def l.prog w K mg base 1 "parts_not_nought" _ [] _:=⟨_,_,[],xP F6 T,W.mg_of X G a6,k6,.nil,b6⟩
 have G7:=u4 (P:=l.prog) (w:=w) (base:=base) F7 T
 have MK_PlainLock:MkD l.prog w K mg base 1 "PlainLock" cP ["self","name","high","low","room"] (cQ (jG cP cB cU)):=⟨T.c_PlainLock,_,_,⟨mk_P,a7,i7,kc_P⟩,G7,b7⟩
 have CM7:CmD l.prog w K mg base 1 "PlainLock" cP "__init__" ["self","name","high","low","room"] (cQ (jG cP cB cU)):=⟨T.c_PlainLock,_,_,⟨g1,g2,ac7,k7⟩,G7,b7⟩
 have G8:=uO (P:=l.prog) (w:=w) (base:=base) F8 T CM7
 have MK_BasinLock:MkD l.prog w K mg base 2 "BasinLock" cB ["self","name","high","low","room","side"] (cO (jG cP cB cU) .basin):=⟨T.c_BasinLock,_,_,⟨mk_B,a8,i8,kc_B⟩,G8,b8⟩
 have G9:=u9 (P:=l.prog) (w:=w) (base:=base) F9 T CM7
 have MK_PumpLock:MkD l.prog w K mg base 2 "PumpLock" cU ["self","name","high","low","room","lift"] (cO (jG cP cB cU) .pump):=⟨T.c_PumpLock,_,_,⟨mk_U,a9,i9,kc_U⟩,G9,b9⟩
 have G10:=wD (P:=l.prog) (w:=w) (base:=base) F10 T
 have MK_Reach:MkD l.prog w K mg base 1 "Reach" cR ["self","name","least","crest","berths","water","target"] (iI cR):=⟨T.c_Reach,_,_,⟨mk_R,a10,i10,kc_R⟩,G10,b10⟩
 have G11:=u7 (P:=l.prog) (w:=w) (base:=base) F11 T
 have ME_kind_P:MeD l.prog w K mg base 1 cP "kind" ["self"] (vE (jG cP cB cU) (fun kd _=>V.str (match kd with|.plain=>"plain"|.basin=>"basin"|.pump=>"pump")) .plain):=⟨T.cl .plain,_,_,⟨a11,i11,k11⟩,G11,b11⟩
 have G12:=uR (P:=l.prog) (w:=w) (base:=base) F12 T
 have ME_kind_B:MeD l.prog w K mg base 1 cB "kind" ["self"] (vE (jG cP cB cU) (fun kd _=>V.str (match kd with|.plain=>"plain"|.basin=>"basin"|.pump=>"pump")) .basin):=⟨T.cl .basin,_,_,⟨a12,i12,k12⟩,G12,b12⟩
 have G13:=wC (P:=l.prog) (w:=w) (base:=base) F13 T
 have ME_kind_U:MeD l.prog w K mg base 1 cU "kind" ["self"] (vE (jG cP cB cU) (fun kd _=>V.str (match kd with|.plain=>"plain"|.basin=>"basin"|.pump=>"pump")) .pump):=⟨T.cl .pump,_,_,⟨a13,i13,k13⟩,G13,b13⟩
 have MP_kind:MeK l.prog w K mg base 1 (jG cP cB cU) "kind" ["self"] (vE (jG cP cB cU) (fun kd _=>V.str (match kd with|.plain=>"plain"|.basin=>"basin"|.pump=>"pump"))):=⟨fun kd=>match kd with|.plain=>ME_kind_P|.basin=>ME_kind_B|.pump=>ME_kind_U⟩
 have G14:=u5 (P:=l.prog) (w:=w) (base:=base) F14 T
 have ME_extra_P:MeD l.prog w K mg base 1 cP "extra" ["self"] (vE (jG cP cB cU) (fun kd v=>V.int (match kd with|.plain=>0|.basin=>v|.pump=>v)) .plain):=⟨T.cl .plain,_,_,⟨a14,i14,k14⟩,G14,b14⟩
 have G15:=uP (P:=l.prog) (w:=w) (base:=base) F15 T
 have ME_extra_B:MeD l.prog w K mg base 1 cB "extra" ["self"] (vE (jG cP cB cU) (fun kd v=>V.int (match kd with|.plain=>0|.basin=>v|.pump=>v)) .basin):=⟨T.cl .basin,_,_,⟨a15,i15,k15⟩,G15,b15⟩
 have G16:=wA (P:=l.prog) (w:=w) (base:=base) F16 T
 have ME_extra_U:MeD l.prog w K mg base 1 cU "extra" ["self"] (vE (jG cP cB cU) (fun kd v=>V.int (match kd with|.plain=>0|.basin=>v|.pump=>v)) .pump):=⟨T.cl .pump,_,_,⟨a16,i16,k16⟩,G16,b16⟩
 have MP_extra:MeK l.prog w K mg base 1 (jG cP cB cU) "extra" ["self"] (vE (jG cP cB cU) (fun kd v=>V.int (match kd with|.plain=>0|.basin=>v|.pump=>v))):=⟨fun kd=>match kd with|.plain=>ME_extra_P|.basin=>ME_extra_B|.pump=>ME_extra_U⟩
 have G17:=u6 (P:=l.prog) (w:=w) (base:=base) F17 T D6
 have ME_fill_parts_P:MeD l.prog w K mg base 2 cP "fill_parts" ["self","basin"] (vT (jG cP cB cU) yI .plain):=⟨T.cl .plain,_,_,⟨a17,i17,k17⟩,G17,b17⟩
 have G18:=uQ (P:=l.prog) (w:=w) (base:=base) F18 T D6
 have ME_fill_parts_B:MeD l.prog w K mg base 2 cB "fill_parts" ["self","basin"] (vT (jG cP cB cU) yI .basin):=⟨T.cl .basin,_,_,⟨a18,i18,k18⟩,G18,b18⟩
 have G19:=wB (P:=l.prog) (w:=w) (base:=base) F19 T D6
 have ME_fill_parts_U:MeD l.prog w K mg base 2 cU "fill_parts" ["self","basin"] (vT (jG cP cB cU) yI .pump):=⟨T.cl .pump,_,_,⟨a19,i19,k19⟩,G19,b19⟩
 have MP_fill_parts:MeK l.prog w K mg base 2 (jG cP cB cU) "fill_parts" ["self","basin"] (vT (jG cP cB cU) yI):=⟨fun kd=>match kd with|.plain=>ME_fill_parts_P|.basin=>ME_fill_parts_B|.pump=>ME_fill_parts_U⟩
 have G20:=u8 (P:=l.prog) (w:=w) (base:=base) F20 T D6
 have ME_let_parts_P:MeD l.prog w K mg base 2 cP "let_parts" ["self","basin"] (vT (jG cP cB cU) yE .plain):=⟨T.cl .plain,_,_,⟨a20,i20,k20⟩,(G20.imp (sp':=vT (jG cP cB cU) yE .plain) (fun vs H Q E ⟨x,n,h,l,room,v,b,e,a,q⟩=>⟨.plain,x,n,h,l,room,v,b,e,a,q⟩)),b20⟩
 have ME_let_parts_U:MeD l.prog w K mg base 2 cU "let_parts" ["self","basin"] (vT (jG cP cB cU) yE .pump):=⟨T.cl .pump,_,_,⟨a20_U,i20,k20⟩,(G20.imp (sp':=vT (jG cP cB cU) yE .pump) (fun vs H Q E ⟨x,n,h,l,room,v,b,e,a,q⟩=>⟨.pump,x,n,h,l,room,v,b,e,a,q⟩)),b20⟩
 have G21:=uS (P:=l.prog) (w:=w) (base:=base) F21 T D6
 have ME_let_parts_B:MeD l.prog w K mg base 2 cB "let_parts" ["self","basin"] (vT (jG cP cB cU) yE .basin):=⟨T.cl .basin,_,_,⟨a21,i21,k21⟩,G21,b21⟩
 have MP_let_parts:MeK l.prog w K mg base 2 (jG cP cB cU) "let_parts" ["self","basin"] (vT (jG cP cB cU) yE):=⟨fun kd=>match kd with|.plain=>ME_let_parts_P|.basin=>ME_let_parts_B|.pump=>ME_let_parts_U⟩
 have G22:=uT (P:=l.prog) (w:=w) (base:=base) F22 T
 have MK_Canal:MkD l.prog w K mg base 1 "Canal" cN ["self","reaches","locks","nights"] (iJ (jG cP cB cU) cR cN):=⟨T.c_Canal,_,_,⟨mk_N,a22,i22,kc_N⟩,G22,b22⟩
 have G23:=uX (P:=l.prog) (w:=w) (base:=base) F23 T
 have MN_sea:MeD l.prog w K mg base 1 cN "sea" ["self"] (ZA (jG cP cB cU) cR cN yB):=⟨T.clN,_,_,⟨a23,i23,k23⟩,G23,b23⟩
 have G24:=uY (P:=l.prog) (w:=w) (base:=base) F24 T MN_sea
 have MN_sky:MeD l.prog w K mg base 2 cN "sky" ["self"] (ZA (jG cP cB cU) cR cN eO):=⟨T.clN,_,_,⟨a24,i24,k24⟩,G24,b24⟩
 have G25:=uV (P:=l.prog) (w:=w) (base:=base) F25 T
 have MN_chamber:MeD l.prog w K mg base 1 cN "chamber" ["self","k"] (JK (jG cP cB cU) cR cN yJ):=⟨T.clN,_,_,⟨a25,i25,k25⟩,G25,b25⟩
 have G26:=uU (P:=l.prog) (w:=w) (base:=base) F26 T
 have MN_basin:MeD l.prog w K mg base 1 cN "basin" ["self","k"] (JK (jG cP cB cU) cR cN vR):=⟨T.clN,_,_,⟨a26,i26,k26⟩,G26,b26⟩
 have G27:=uZ (P:=l.prog) (w:=w) (base:=base) F27 T MN_sea
 have MN_weirs:MeD l.prog w K mg base 2 cN "weirs" ["self"] (fL (jG cP cB cU) cR cN):=⟨T.clN,_,_,⟨a27,i27,k27⟩,G27,b27⟩
 have G28:=uW (P:=l.prog) (w:=w) (base:=base) F28 T MN_chamber
 have MN_full:MeD l.prog w K mg base 2 cN "full" ["self","waters","k"] (fQ (jG cP cB cU) cR cN):=⟨T.clN,_,_,⟨a28,i28,k28⟩,G28,b28⟩
 have D29:Def l.prog w K mg base 3 "filling" _ [] _:=⟨_,_,[],xB F29 T MP_fill_parts,W.mg_of X G a29,k29,.nil,b29⟩
 have D30:Def l.prog w K mg base 3 "letting" _ [] _:=⟨_,_,[],xI F30 T MP_let_parts,W.mg_of X G a30,k30,.nil,b30⟩
 have D31:Def l.prog w K mg base 1 "given_by" _ [] _:=⟨_,_,[],xC F31 T,W.mg_of X G a31,k31,.nil,b31⟩
 have D32:Def l.prog w K mg base 2 "basin_after" _ [] _:=⟨_,_,[],w6 F32 T D31,W.mg_of X G a32,k32,.nil,b32⟩
 have D33:Def l.prog w K mg base 4 "passage" _ [] _:=⟨_,_,[],xR F33 T D30 D29 D32,W.mg_of X G a33,k33,.nil,b33⟩
 have D34:Def l.prog w K mg base 1 "step_ends" _ [] _:=⟨_,_,[],xX F34 T,W.mg_of X G a34,k34,.nil,b34⟩
 have G35:=xJ (P:=l.prog) (w:=w) (base:=base) F35 T D34
 have GX35:=G35
 have DX35:DefX l.prog w K mg base 2 "linked" _ [] _:=⟨_,_,[],GX35,W.mg_of X G a35,k35,.nil,b35⟩
 have G35:=GX35.noX (sp':=iP K (jG cP cB cU) cR cN) CI
 have D35:Def l.prog w K mg base 2 "linked" _ [] _:=⟨_,_,[],G35,W.mg_of X G a35,k35,.nil,b35⟩
 have D36:Def l.prog w K mg base 1 "steps_to_do" _ [] _:=⟨_,_,[],xY F36 T,W.mg_of X G a36,k36,.nil,b36⟩
 have D37:Def l.prog w K mg base 3 "reach_of" _ [] _:=⟨_,_,[],xU F37 T D36 D35,W.mg_of X G a37,k37,.nil,b37⟩
 have D38:Def l.prog w K mg base 4 "lying" _ [] _:=⟨_,_,[],xK F38 T D37,W.mg_of X G a38,k38,.nil,b38⟩
 have D39:Def l.prog w K mg base 5 "night_pours" _ [] _:=⟨_,_,[],xM F39 T MN_sky D5 MN_weirs,W.mg_of X G a39,k39,.nil,b39⟩
 have D40:Def l.prog w K mg base 5 "has_no_berth" _ [] _:=⟨_,_,[],xD F40 T D38,W.mg_of X G a40,k40,.nil,b40⟩
 have D41:Def l.prog w K mg base 1 "next_step" _ [] _:=⟨_,_,[],xL F41 T,W.mg_of X G a41,k41,.nil,b41⟩
 have D42:Def l.prog w K mg base 1 "one_step_on" _ [] _:=⟨_,_,[],xN F42 T,W.mg_of X G a42,k42,.nil,b42⟩
 have D43:Def l.prog w K mg base 2 "counted_on" _ [] _:=⟨_,_,[],w9 F43 T D42,W.mg_of X G a43,k43,.nil,b43⟩
 have D44:Def l.prog w K mg base 2 "by_number" _ [] _:=⟨_,_,[],w8 F44 T MN_basin MN_chamber,W.mg_of X G a44,k44,.nil,b44⟩
 have D45:Def l.prog w K mg base 6 "pass_pours" _ [] _:=⟨_,_,[],xQ F45 T D41 MN_basin D44 D33 MN_full,W.mg_of X G a45,k45,.nil,b45⟩
 have D46:Def l.prog w K mg base 4 "let_pours" _ [] _:=⟨_,_,[],xH F46 T D44 D30 MN_basin,W.mg_of X G a46,k46,.nil,b46⟩
 have D47:Def l.prog w K mg base 1 "is_below_least" _ [] _:=⟨_,_,[],xE F47 T,W.mg_of X G a47,k47,.nil,b47⟩
 have D48:Def l.prog w K mg base 2 "falls_short" _ [] _:=⟨_,_,[],xA F48 T D0 D47,W.mg_of X G a48,k48,.nil,b48⟩
 have D49:Def l.prog w K mg base 7 "why_no_pass" _ [] _:=⟨_,_,[],xZ F49 T D37 D40 D48 D45,W.mg_of X G a49,k49,.nil,b49⟩
 have D50:Def l.prog w K mg base 8 "why_not" _ [] _:=⟨_,_,[],x0 F50 T D49 MN_full,W.mg_of X G a50,k50,.nil,b50⟩
 have G51:=xT (P:=l.prog) (w:=w) (base:=base) F51 T D50 D39 D45 D46 D5 MN_weirs
 have GX51:=G51
 have DX51:DefX l.prog w K mg base 9 "pours" _ [] _:=⟨_,_,[],GX51,W.mg_of X G a51,k51,.nil,b51⟩
 have G51:=GX51.noX (sp':=i0 (jG cP cB cU) cR cN) C2
 have D51:Def l.prog w K mg base 9 "pours" _ [] _:=⟨_,_,[],G51,W.mg_of X G a51,k51,.nil,b51⟩
 have G52:=w5 (P:=l.prog) (w:=w) (base:=base) F52 T D43 D0 DX51
 have GX52:=G52
 have DX52:DefX l.prog w K mg base 10 "after" _ [] _:=⟨_,_,[],GX52,W.mg_of X G a52,k52,.nil,b52⟩
 have G52:=GX52.noX (sp':=iQ (jG cP cB cU) cR cN) DO
 have D52:Def l.prog w K mg base 10 "after" _ [] _:=⟨_,_,[],G52,W.mg_of X G a52,k52,.nil,b52⟩
 have D53:Def l.prog w K mg base 1 "_law_whole" _ [] _:=⟨_,_,[],wX F53 T,W.mg_of X G a53,k53,.nil,b53⟩
 have D54:Def l.prog w K mg base 1 "_law_draw" _ [] _:=⟨_,_,[],wH F54 T,W.mg_of X G a54,k54,.nil,b54⟩
 have D55:Def l.prog w K mg base 1 "_law_unit" _ [] _:=⟨_,_,[],wU F55 T,W.mg_of X G a55,k55,.nil,b55⟩
 have D56:Def l.prog w K mg base 3 "_law_reach" _ [] _:=⟨_,_,[],wO F56 T D54 MK_Reach,W.mg_of X G a56,k56,.nil,b56⟩
 have D57:Def l.prog w K mg base 4 "_law_lock" _ [] _:=⟨_,_,[],wL F57 T D54 MK_BasinLock MK_PumpLock MK_PlainLock,W.mg_of X G a57,k57,.nil,b57⟩
 have D58:Def l.prog w K mg base 2 "_law_weather" _ [] _:=⟨_,_,[],wW F58 T D54,W.mg_of X G a58,k58,.nil,b58⟩
 have D59:Def l.prog w K mg base 6 "_law_canal" _ [] _:=⟨_,_,[],wE F59 T D55 D54 D56 D57 D58 MK_Canal,W.mg_of X G a59,k59,.nil,b59⟩
 have D60:Def l.prog w K mg base 1 "_law_turns" _ [] _:=⟨_,_,[],wT F60 T,W.mg_of X G a60,k60,.nil,b60⟩
 have D61:Def l.prog w K mg base 2 "_law_way" _ [] _:=⟨_,_,[],wV F61 T D54 D60,W.mg_of X G a61,k61,.nil,b61⟩
 have D62:Def l.prog w K mg base 2 "_law_state" _ [] _:=⟨_,_,[],wR F62 T D55 D54 MP_extra MP_kind,W.mg_of X G a62,k62,.nil,b62⟩
 have D63:Def l.prog w K mg base 2 "_law_fill" _ [] _:=⟨_,_,[],wI F63 T MP_kind MP_extra,W.mg_of X G a63,k63,.nil,b63⟩
 have D64:Def l.prog w K mg base 2 "_law_let" _ [] _:=⟨_,_,[],wK F64 T MP_kind MP_extra,W.mg_of X G a64,k64,.nil,b64⟩
 have D65:Def l.prog w K mg base 3 "_law_row_of" _ [] _:=⟨_,_,[],wQ F65 T D63 D64,W.mg_of X G a65,k65,.nil,b65⟩
 have D66:Def l.prog w K mg base 1 "_law_words" _ [] _:=⟨_,_,[],w4 F66 T,W.mg_of X G a66,k66,.nil,b66⟩
 have D67:Def l.prog w K mg base 1 "_law_reach_by" _ [] _:=⟨_,_,[],wP F67 T,W.mg_of X G a67,k67,.nil,b67⟩
 have D68:Def l.prog w K mg base 4 "_law_why_no_pass" _ [] _:=⟨_,_,[],wZ F68 T D67 D65 D66,W.mg_of X G a68,k68,.nil,b68⟩
 have D69:Def l.prog w K mg base 5 "_law_why" _ [] _:=⟨_,_,[],wY F69 T D68,W.mg_of X G a69,k69,.nil,b69⟩
 have D70:Def l.prog w K mg base 1 "_law_deeds" _ [] _:=⟨_,_,[],wF F70 T,W.mg_of X G a70,k70,.nil,b70⟩
 have D71:Def l.prog w K mg base 4 "_law_own_row" _ [] _:=⟨_,_,[],wM F71 T D65 D66,W.mg_of X G a71,k71,.nil,b71⟩
 have D72:Def l.prog w K mg base 2 "_law_pours" _ [] _:=⟨_,_,[],wN F72 T D53,W.mg_of X G a72,k72,.nil,b72⟩
 have D73:Def l.prog w K mg base 5 "_law_full_row" _ [] _:=⟨_,_,[],wJ F73 T D71,W.mg_of X G a73,k73,.nil,b73⟩
 have D74:Def l.prog w K mg base 2 "_law_state_is" _ [] _:=⟨_,_,[],wS F74 T D53,W.mg_of X G a74,k74,.nil,b74⟩
 have D75:Def l.prog w K mg base 11 "_law_done_right" _ [] _:=⟨_,_,[],wG F75 T D73 D72 D51 D52 D74,W.mg_of X G a75,k75,.nil,b75⟩
 have G76:=xG (P:=l.prog) (w:=w) (base:=base) F76 T D59 D54 D61 D62 D70 D69 D75
 exact G76
theorem walk {l:W.OpenLaw} {q:Program} {loose:List Str} {XP:(Str→Option Value)→Heap→Prop} {YP:World→Heap→Prop} {d:DefRec} {K:Params→W.Frag} (hn:l.most=some 63) (hdf:d.params.defaults=[])
  (hY:∀(w:World) (h:Heap),YP w h→(K w.params).In h)
  (F:∀(w:World) (mg:Str→Option Value) (fa:Addr) (h:Heap),(K w.params).In h→h.Ns mainGlobals mg→mg d.name=some (.ref fa)→
   ∃fd:FuncData,(∀(s:Shared) (u:Value),BindsTo s fd ⟨[u],[]⟩ [("script",u)])∧∀base:Heap,(K w.params).In base→base.Ns mainGlobals mg→FnOk l.prog w (K w.params) mg base jU 13 fa fd ["script"] (gC (K w.params))) :
  W.WalkO q loose XP YP l.row.toRowW d [] (fun f vs=>PySem.call f vs) :=
 L2.walk_of (n:=63) (k:=13) (x:="script") (CX:=fun _=>jU) (sp:=fun w=>gC (K w.params)) hn (by decide) hdf ⟨rfl,by decide,by decide⟩ hY F (fun _ _ a ns hl _ hS=>⟨a,ns,rfl,hS,hl,fun _=>rfl⟩) fun _ _ _ _ _ z=>z
end My
/- These names are taken here so that the head below leaves out its twins of whole states (they are not needed,and make the compiled file larger than a hand-in may be). -/
def PySem.W.Fast.tw5990329328115609460:Nat:=0
def PySem.W.Fast.tw11867867662537618200:Nat:=0
def PySem.W.Fast.tw850468270686513223:Nat:=0
def PySem.W.Fast.tw7054627929056312189:Nat:=0
def PySem.W.Fast.tw12770772707046419729:Nat:=0
def PySem.W.Fast.tw1359022321234061461:Nat:=0
def PySem.W.Fast.tw10466908805174375589:Nat:=0
def PySem.W.Fast.tw6087073594342302060:Nat:=0
def PySem.W.Fast.tw1432248413621786160:Nat:=0
def PySem.W.Fast.tw4088063305342398482:Nat:=0
def PySem.W.Fast.tw16379544607405474319:Nat:=0
def PySem.W.Fast.tw6362522815910364891:Nat:=0
def PySem.W.Fast.tw13831877303860845991:Nat:=0
def PySem.W.Fast.tw754336191732554964:Nat:=0
def PySem.W.Fast.tw16774706972885933489:Nat:=0
def PySem.W.Fast.tw7670018320094721904:Nat:=0
def PySem.W.Fast.tw12041112898073553900:Nat:=0
def PySem.W.Fast.tw13860478571913049168:Nat:=0
def PySem.W.Fast.tw13304021392581816189:Nat:=0
def PySem.W.Fast.tw8282736821752675522:Nat:=0
def PySem.W.Fast.tw5645710902084858384:Nat:=0
def PySem.W.Fast.tw251268139398245794:Nat:=0
def PySem.W.Fast.tw3040712008274970156:Nat:=0
def PySem.W.Fast.tw13513931487616081918:Nat:=0
def PySem.W.Fast.tw1137307977251179078:Nat:=0
def PySem.W.Fast.tw15465469739119244385:Nat:=0
def PySem.W.Fast.tw5235308147204135076:Nat:=0
def PySem.W.Fast.tw2216432230029395819:Nat:=0
def PySem.W.Fast.tw7370039953446616295:Nat:=0
def PySem.W.Fast.tw3049184385792109888:Nat:=0
def PySem.W.Fast.tw1896027247402407054:Nat:=0
def PySem.W.Fast.tw4814116993021028676:Nat:=0
def PySem.W.Fast.tw4164092602874443348:Nat:=0
def PySem.W.Fast.tw6487083225978297011:Nat:=0
def PySem.W.Fast.tw1834352830902187476:Nat:=0
def PySem.W.Fast.tw13174864984189815320:Nat:=0
def PySem.W.Fast.tw9412945548899308573:Nat:=0
def PySem.W.Fast.tw2996461404629226134:Nat:=0
def PySem.W.Fast.tw16922291984779580734:Nat:=0
def PySem.W.Fast.tw9456059136315719366:Nat:=0
def PySem.W.Fast.tw16490717231385647829:Nat:=0
def PySem.W.Fast.tw9120491544004342433:Nat:=0
def PySem.W.Fast.tw3242638579390836164:Nat:=0
def PySem.W.Fast.tw4711097147576040585:Nat:=0
def PySem.W.Fast.tw8412738950358538232:Nat:=0
def PySem.W.Fast.tw6184826047302678709:Nat:=0
def PySem.W.Fast.tw6729977158328037476:Nat:=0
def PySem.W.Fast.tw7359657662249180091:Nat:=0
def PySem.W.Fast.tw14673642101573955168:Nat:=0
def PySem.W.Fast.tw15693360135460943437:Nat:=0
def PySem.W.Fast.tw2834591283604797841:Nat:=0
def PySem.W.Fast.tw17636126262190830432:Nat:=0
def PySem.W.Fast.tw3663554994377366275:Nat:=0
def PySem.W.Fast.tw3085424689245674502:Nat:=0
def PySem.W.Fast.tw11113750830128463822:Nat:=0
def PySem.W.Fast.tw8690298113060453994:Nat:=0
def PySem.W.Fast.tw3704590735134680299:Nat:=0
def PySem.W.Fast.tw9756215814975200183:Nat:=0
def PySem.W.Fast.tw14709715877265741715:Nat:=0
def PySem.W.Fast.tw1334075972246476864:Nat:=0
def PySem.W.Fast.tw4900935287196495293:Nat:=0
def PySem.W.Fast.tw17228998978974978425:Nat:=0
def PySem.W.Fast.tw7204110352081426666:Nat:=0
def PySem.W.Fast.tw14019091254548122164:Nat:=0
def PySem.W.Fast.tw18392090231707302476:Nat:=0
def PySem.W.Fast.tw14101002656971664916:Nat:=0
def PySem.W.Fast.tw4053576217373030608:Nat:=0
def PySem.W.Fast.tw5226631890178742745:Nat:=0
def PySem.W.Fast.tw282286795542310095:Nat:=0
def PySem.W.Fast.tw3082089126130906999:Nat:=0
def PySem.W.Fast.tw6699276163158581377:Nat:=0
def PySem.W.Fast.tw2035299209870898016:Nat:=0
def PySem.W.Fast.tw15389302332777362548:Nat:=0
def PySem.W.Fast.tw3518212217271253118:Nat:=0
def PySem.W.Fast.tw8898230908546888509:Nat:=0
def PySem.W.Fast.tw5906053294575605732:Nat:=0
def PySem.W.Fast.tw5927366231304582375:Nat:=0
def PySem.W.Fast.tw15836131505370867992:Nat:=0
def PySem.W.Fast.tw507126475208622561:Nat:=0
def PySem.W.Fast.tw2358998618959243903:Nat:=0
def PySem.W.Fast.tw12137212598900928431:Nat:=0
def PySem.W.Fast.tw7517132621473383668:Nat:=0
def PySem.W.Fast.tw7863244398170740985:Nat:=0
def PySem.W.Fast.tw13012714000209827103:Nat:=0
def PySem.W.Fast.tw7187220214183059472:Nat:=0
def PySem.W.Fast.tw6172687780228847944:Nat:=0
def PySem.W.Fast.tw7145738220660877756:Nat:=0
def PySem.W.Fast.tw14790040375420440209:Nat:=0
def PySem.W.Fast.tw12855747389131627019:Nat:=0
def PySem.W.Fast.tw13835255271028379299:Nat:=0
def PySem.W.Fast.tw16509593013530152376:Nat:=0
def PySem.W.Fast.tw12747520103847371998:Nat:=0
def PySem.W.Fast.tw17501762983003497819:Nat:=0
def PySem.W.Fast.tw15515773174642392613:Nat:=0
def PySem.W.Fast.tw17521000369437221711:Nat:=0
def PySem.W.Fast.tw10204473842672842343:Nat:=0
def PySem.W.Fast.tw3731387698957699439:Nat:=0
def PySem.W.Fast.tw5529129960237889952:Nat:=0
def PySem.W.Fast.tw48893787452846629:Nat:=0
def PySem.W.Fast.tw6090539096447853750:Nat:=0
def PySem.W.Fast.tw15926431372647611005:Nat:=0
def PySem.W.Fast.tw6024391301976524523:Nat:=0
def PySem.W.Fast.tw1595934136137261349:Nat:=0
def PySem.W.Fast.tw2763637073526002811:Nat:=0
def PySem.W.Fast.tw3154517894654598926:Nat:=0
def PySem.W.Fast.tw8989945838538706994:Nat:=0
def PySem.W.Fast.tw12288132894375517929:Nat:=0
def PySem.W.Fast.tw2594119126106751045:Nat:=0
def PySem.W.Fast.tw5161401191624594601:Nat:=0
def PySem.W.Fast.tw7864703009852862406:Nat:=0
def PySem.W.Fast.tw18308174949868058965:Nat:=0
def PySem.W.Fast.tw15094281101019716169:Nat:=0
def PySem.W.Fast.tw17154162222446004258:Nat:=0
def PySem.W.Fast.tw2817458115181751990:Nat:=0
def PySem.W.Fast.tw8725945632955031481:Nat:=0
def PySem.W.Fast.tw11520840167309792115:Nat:=0
def PySem.W.Fast.tw17517421581504199918:Nat:=0
def PySem.W.Fast.tw18131012166107909924:Nat:=0
def PySem.W.Fast.tw14780439074454757541:Nat:=0
def PySem.W.Fast.tw2005385535922318080:Nat:=0
def PySem.W.Fast.tw2419974963727343321:Nat:=0
def PySem.W.Fast.tw613072393710610120:Nat:=0
def PySem.W.Fast.tw6466011892147967611:Nat:=0
def PySem.W.Fast.tw445472621996510339:Nat:=0
def PySem.W.Fast.tw10395322457004312392:Nat:=0
def PySem.W.Fast.tw4380445332497983934:Nat:=0
def PySem.W.Fast.tw6004361112424299720:Nat:=0
def PySem.W.Fast.tw11556680225127417956:Nat:=0
def PySem.W.Fast.tw6975974991065785354:Nat:=0
def PySem.W.Fast.tw307955766637078405:Nat:=0
def PySem.W.Fast.tw16693112252093927013:Nat:=0
def PySem.W.Fast.tw11589910615680985728:Nat:=0
def PySem.W.Fast.tw1192252209452341137:Nat:=0
def PySem.W.Fast.tw10367481750529232094:Nat:=0
def PySem.W.Fast.tw14954345161811162970:Nat:=0
def PySem.W.Fast.tw741914464322394726:Nat:=0
def PySem.W.Fast.tw14025388126368601187:Nat:=0
def PySem.W.Fast.tw743920950187496699:Nat:=0
def PySem.W.Fast.tw977813469260026038:Nat:=0
def PySem.W.Fast.tw14503472245367888185:Nat:=0
def PySem.W.Fast.tw8934042507956671864:Nat:=0
def PySem.W.Fast.tw14285551911483081979:Nat:=0
def PySem.W.Fast.tw8905448616948081008:Nat:=0
def PySem.W.Fast.tw17973547534364352959:Nat:=0
def PySem.W.Fast.tw2567215801200997773:Nat:=0
def PySem.W.Fast.tw8309399498501471999:Nat:=0
def PySem.W.Fast.tw3508545277554511919:Nat:=0
def PySem.W.Fast.tw16398950275211873246:Nat:=0
def PySem.W.Fast.tw9786034305306073604:Nat:=0
def PySem.W.Fast.tw8299924331135618180:Nat:=0
def PySem.W.Fast.tw211875295605598661:Nat:=0
def PySem.W.Fast.tw16133340051917666069:Nat:=0
def PySem.W.Fast.tw11527993712156777000:Nat:=0
def PySem.W.Fast.tw12734123134456134638:Nat:=0
def PySem.W.Fast.tw2592881610936926058:Nat:=0
def PySem.W.Fast.tw11246709375085375366:Nat:=0
def PySem.W.Fast.tw3077275876764208140:Nat:=0
def PySem.W.Fast.tw7752316849792301375:Nat:=0
def PySem.W.Fast.tw3694476971663888749:Nat:=0
def PySem.W.Fast.tw10459578498010837204:Nat:=0
def PySem.W.Fast.tw8004920273063959556:Nat:=0
def PySem.W.Fast.tw5961193724385482659:Nat:=0
def PySem.W.Fast.tw2857186615165391929:Nat:=0
def PySem.W.Fast.tw3783114796291126286:Nat:=0
def PySem.W.Fast.tw9049996405989829410:Nat:=0
def PySem.W.Fast.tw3224992456887281051:Nat:=0
def PySem.W.Fast.tw866653466842299776:Nat:=0
def PySem.W.Fast.tw4695522881676606890:Nat:=0
def PySem.W.Fast.tw16626607492305591037:Nat:=0
def PySem.W.Fast.tw13346083419859760772:Nat:=0
def PySem.W.Fast.tw16374722877406770719:Nat:=0
def PySem.W.Fast.tw13328836305379648226:Nat:=0
def PySem.W.Fast.tw2443817156279027831:Nat:=0
def PySem.W.Fast.tw13318967194304655601:Nat:=0
def PySem.W.Fast.tw16116372643442470634:Nat:=0
def PySem.W.Fast.tw2010665722717515825:Nat:=0
def PySem.W.Fast.tw9335156310842500932:Nat:=0
def PySem.W.Fast.tw1148832960604357817:Nat:=0
def PySem.W.Fast.tw180670074945983909:Nat:=0
def PySem.W.Fast.tw8687784926510219012:Nat:=0
def PySem.W.Fast.tw14027598657259991513:Nat:=0
def PySem.W.Fast.tw9290119828834556453:Nat:=0
def PySem.W.Fast.tw5595364130824033554:Nat:=0
def PySem.W.Fast.tw9411210924228482032:Nat:=0
def PySem.W.Fast.tw16732531153823311508:Nat:=0
def PySem.W.Fast.tw11655142888770587005:Nat:=0
def PySem.W.Fast.tw7935230358020425966:Nat:=0
def PySem.W.Fast.tw13865340331799796102:Nat:=0
def PySem.W.Fast.tw12609678023385825978:Nat:=0
def PySem.W.Fast.tw6682390619735456712:Nat:=0
def PySem.W.Fast.tw2759479463959237594:Nat:=0
def PySem.W.Fast.tw3381642776680609675:Nat:=0
def PySem.W.Fast.tw3001641270631690053:Nat:=0
def PySem.W.Fast.tw13505151645185439860:Nat:=0
def PySem.W.Fast.tw6710380954882732559:Nat:=0
def PySem.W.Fast.tw3106060060610739715:Nat:=0
def PySem.W.Fast.tw14696291734314548426:Nat:=0
def PySem.W.Fast.tw9949269127416709078:Nat:=0
def PySem.W.Fast.tw2846517181847941397:Nat:=0
def PySem.W.Fast.tw14025839856117804973:Nat:=0
def PySem.W.Fast.tw13233794352239118848:Nat:=0
def PySem.W.Fast.tw13495518517803055912:Nat:=0
def PySem.W.Fast.tw13434188252644503728:Nat:=0
def PySem.W.Fast.tw14250516709940136744:Nat:=0
def PySem.W.Fast.tw13197592865289259592:Nat:=0
def PySem.W.Fast.tw15999546540156169214:Nat:=0
def PySem.W.Fast.tw929886082404329201:Nat:=0
def PySem.W.Fast.tw15141417498375560818:Nat:=0
def PySem.W.Fast.tw2529462160465296063:Nat:=0
def PySem.W.Fast.tw14623033844240500187:Nat:=0
def PySem.W.Fast.tw8927628507935864484:Nat:=0
def PySem.W.Fast.tw54007959420156799:Nat:=0
def PySem.W.Fast.tw14856748716850162937:Nat:=0
def PySem.W.Fast.tw15288486445134708103:Nat:=0
def PySem.W.Fast.tw3269346609680424218:Nat:=0
def PySem.W.Fast.tw5960245187680616312:Nat:=0
def PySem.W.Fast.tw3129374561683112816:Nat:=0
def PySem.W.Fast.tw5197299030327714022:Nat:=0
def PySem.W.Fast.tw13913578799454640225:Nat:=0
def PySem.W.Fast.tw7297666246008355686:Nat:=0
def PySem.W.Fast.tw15330831778238077658:Nat:=0
def PySem.W.Fast.tw10998460802553135349:Nat:=0
def PySem.W.Fast.tw12305151484317158063:Nat:=0
def PySem.W.Fast.tw103200705510358686:Nat:=0
def PySem.W.Fast.tw2254083017584837245:Nat:=0
def PySem.W.Fast.tw15108791128722527767:Nat:=0
def PySem.W.Fast.tw15707407334972488344:Nat:=0
def PySem.W.Fast.tw13583113576767804147:Nat:=0
def PySem.W.Fast.tw11885131804316578554:Nat:=0
def PySem.W.Fast.tw15250834903043431105:Nat:=0
def PySem.W.Fast.tw15299435461753113855:Nat:=0
def PySem.W.Fast.tw14449886796416947409:Nat:=0
def PySem.W.Fast.tw10011037968744771006:Nat:=0
def PySem.W.Fast.tw3401985907688598612:Nat:=0
def PySem.W.Fast.tw14919164949197650405:Nat:=0
def PySem.W.Fast.tw7328226294853957796:Nat:=0
def PySem.W.Fast.tw10447697622876135456:Nat:=0
def PySem.W.Fast.tw10520787136028711681:Nat:=0
def PySem.W.Fast.tw15925730114446560608:Nat:=0
def PySem.W.Fast.tw2283568552712332090:Nat:=0
def PySem.W.Fast.tw8786629587529272150:Nat:=0
def PySem.W.Fast.tw10661208024586144224:Nat:=0
def PySem.W.Fast.tw11012251465157934117:Nat:=0
def PySem.W.Fast.tw16152555169828198014:Nat:=0
def PySem.W.Fast.tw7309139691998795087:Nat:=0
def PySem.W.Fast.tw9006577610813381682:Nat:=0
def PySem.W.Fast.tw12721242765308322819:Nat:=0
def PySem.W.Fast.tw14022192102062240796:Nat:=0
def PySem.W.Fast.tw4702895122563833284:Nat:=0
def PySem.W.Fast.tw3527818958337822838:Nat:=0
def PySem.W.Fast.tw7387513334076363059:Nat:=0
def PySem.W.Fast.tw10480135461877246828:Nat:=0
def PySem.W.Fast.tw3624538365949330908:Nat:=0
def PySem.W.Fast.tw13639464438641093790:Nat:=0
def PySem.W.Fast.tw17636043862869537500:Nat:=0
def PySem.W.Fast.tw1528146305171153345:Nat:=0
def PySem.W.Fast.tw18291681741308100806:Nat:=0
def PySem.W.Fast.tw15905613126126824723:Nat:=0
def PySem.W.Fast.tw13922091450662169945:Nat:=0
def PySem.W.Fast.tw14229803007522888959:Nat:=0
def PySem.W.Fast.tw1346927490696990902:Nat:=0
def PySem.W.Fast.tw2800356762796557969:Nat:=0
def PySem.W.Fast.tw5758482580514675768:Nat:=0
def PySem.W.Fast.tw5318328093257369220:Nat:=0
def PySem.W.Fast.tw2943136905913106195:Nat:=0
def PySem.W.Fast.tw11839775917739475604:Nat:=0
def PySem.W.Fast.tw9052962987233116993:Nat:=0
def PySem.W.Fast.tw7359310772241809557:Nat:=0
def PySem.W.Fast.tw1668243624608144083:Nat:=0
def PySem.W.Fast.tw17398079318425661103:Nat:=0
def PySem.W.Fast.tw16670612974415560888:Nat:=0
def PySem.W.Fast.tw11987552841490088148:Nat:=0
def PySem.W.Fast.tw4144340302434665282:Nat:=0
def PySem.W.Fast.tw10505133617252929432:Nat:=0
def PySem.W.Fast.tw5601481686192589476:Nat:=0
def PySem.W.Fast.tw16666942707918508106:Nat:=0
def PySem.W.Fast.tw826392576978006891:Nat:=0
def PySem.W.Fast.tw17968647255565779896:Nat:=0
def PySem.W.Fast.tw15933895664554497679:Nat:=0
def PySem.W.Fast.tw6526446650412579632:Nat:=0
def PySem.W.Fast.tw4605353762350992792:Nat:=0
def PySem.W.Fast.tw5666739414643874792:Nat:=0
def PySem.W.Fast.tw2041706161144701645:Nat:=0
def PySem.W.Fast.tw1695338781284176789:Nat:=0
def PySem.W.Fast.tw7786205642471308609:Nat:=0
def PySem.W.Fast.tw17396432825030545520:Nat:=0
def PySem.W.Fast.tw2385118352474351542:Nat:=0
def PySem.W.Fast.tw15286589142950593530:Nat:=0
def PySem.W.Fast.tw17258061962062967796:Nat:=0
def PySem.W.Fast.tw10879819577221099461:Nat:=0
def PySem.W.Fast.tw16065301462068479370:Nat:=0
def PySem.W.Fast.tw9494654255515482707:Nat:=0
def PySem.W.Fast.tw17946960034699871037:Nat:=0
def PySem.W.Fast.tw1031614527700593367:Nat:=0
def PySem.W.Fast.tw3997609203258673710:Nat:=0
def PySem.W.Fast.tw10172162252567351679:Nat:=0
def PySem.W.Fast.tw564846391703747170:Nat:=0
def PySem.W.Fast.tw7216442593995811961:Nat:=0
def PySem.W.Fast.tw14411873194173970298:Nat:=0
def PySem.W.Fast.tw1528263398124999888:Nat:=0
def PySem.W.Fast.tw4950113765068608957:Nat:=0
def PySem.W.Fast.tw13417604823832858070:Nat:=0
def PySem.W.Fast.tw1023431993751049414:Nat:=0
def PySem.W.Fast.tw17641486932399941823:Nat:=0
def PySem.W.Fast.tw10757585245541364596:Nat:=0
def PySem.W.Fast.tw14470712872846159610:Nat:=0
def PySem.W.Fast.tw1408116537506592108:Nat:=0
def PySem.W.Fast.tw16145357955601752389:Nat:=0
def PySem.W.Fast.tw14712734005174587065:Nat:=0
def PySem.W.Fast.tw12882873009455250641:Nat:=0
def PySem.W.Fast.tw6176539635130476768:Nat:=0
def PySem.W.Fast.tw17097457123962526171:Nat:=0
def PySem.W.Fast.tw2181491049231778059:Nat:=0
def PySem.W.Fast.tw11241081789056171696:Nat:=0
def PySem.W.Fast.tw10871802666213963658:Nat:=0
def PySem.W.Fast.tw7452955856570020005:Nat:=0
def PySem.W.Fast.tw3567485161439837937:Nat:=0
def PySem.W.Fast.tw5654477681215612707:Nat:=0
def PySem.W.Fast.tw1138158115912793671:Nat:=0
def PySem.W.Fast.tw8725938167529987497:Nat:=0
def PySem.W.Fast.tw14387201460730524329:Nat:=0
def PySem.W.Fast.tw12291266204365918700:Nat:=0
def PySem.W.Fast.tw10297277480837444278:Nat:=0
def PySem.W.Fast.tw14557787097101584446:Nat:=0
def PySem.W.Fast.tw890810165901537805:Nat:=0
def PySem.W.Fast.tw16196033399506035313:Nat:=0
def PySem.W.Fast.tw6008867193182878392:Nat:=0
def PySem.W.Fast.tw6849012875898592347:Nat:=0
def PySem.W.Fast.tw14269323426389679444:Nat:=0
def PySem.W.Fast.tw15184335281784668071:Nat:=0
def PySem.W.Fast.tw18318069190165651451:Nat:=0
def PySem.W.Fast.tw16777995704127373601:Nat:=0
def PySem.W.Fast.tw2038698022799234187:Nat:=0
def PySem.W.Fast.tw17690836209055426886:Nat:=0
def PySem.W.Fast.tw9473424697173012502:Nat:=0
def PySem.W.Fast.tw14121132532702777264:Nat:=0
def PySem.W.Fast.tw832105499024322640:Nat:=0
def PySem.W.Fast.tw15273419615963230863:Nat:=0
def PySem.W.Fast.tw16662542870664545832:Nat:=0
def PySem.W.Fast.tw6975690043333788444:Nat:=0
def PySem.W.Fast.tw2583149217642109525:Nat:=0
def PySem.W.Fast.tw17582937195230369429:Nat:=0
def PySem.W.Fast.tw10683168025734004108:Nat:=0
def PySem.W.Fast.tw8034101585278118463:Nat:=0
def PySem.W.Fast.tw7303013575585891252:Nat:=0
def PySem.W.Fast.tw14745846227210163900:Nat:=0
def PySem.W.Fast.tw9345133648991473843:Nat:=0
def PySem.W.Fast.tw10355721764139395004:Nat:=0
def PySem.W.Fast.tw2549724077063522178:Nat:=0
def PySem.W.Fast.tw4690834278246303486:Nat:=0
def PySem.W.Fast.tw1570125076465209149:Nat:=0
def PySem.W.Fast.tw16416230592814609319:Nat:=0
def PySem.W.Fast.tw2627228391955123343:Nat:=0
def PySem.W.Fast.tw18147982078625400959:Nat:=0
def PySem.W.Fast.tw1955603116565428222:Nat:=0
def PySem.W.Fast.tw9387485482116526981:Nat:=0
def PySem.W.Fast.tw2333045436850897737:Nat:=0
def PySem.W.Fast.tw9272390263562056266:Nat:=0
def PySem.W.Fast.tw38044313511236784:Nat:=0
def PySem.W.Fast.tw15186768740087269714:Nat:=0
def PySem.W.Fast.tw7041032491182280721:Nat:=0
def PySem.W.Fast.tw9499319109580297904:Nat:=0
def PySem.W.Fast.tw5137538140344450151:Nat:=0
def PySem.W.Fast.tw8018271372698213338:Nat:=0
def PySem.W.Fast.tw6027060802816277628:Nat:=0
def PySem.W.Fast.tw1781620420731137960:Nat:=0
def PySem.W.Fast.tw18196249146525816085:Nat:=0
def PySem.W.Fast.tw6392099107916236633:Nat:=0
def PySem.W.Fast.tw11914737413824002852:Nat:=0
def PySem.W.Fast.tw17826305795157951539:Nat:=0
def PySem.W.Fast.tw2411172569363055750:Nat:=0
def PySem.W.Fast.tw12052334999461209194:Nat:=0
def PySem.W.Fast.tw9047101756390760204:Nat:=0
def PySem.W.Fast.tw10057635421936980874:Nat:=0
def PySem.W.Fast.tw2300840732712153674:Nat:=0
def PySem.W.Fast.tw18435951735619746242:Nat:=0
def PySem.W.Fast.tw3606208674457290820:Nat:=0
def PySem.W.Fast.tw3351767013832889061:Nat:=0
def PySem.W.Fast.tw15187154076555738436:Nat:=0
def PySem.W.Fast.tw5491282115190960704:Nat:=0
def PySem.W.Fast.tw3752228842371816485:Nat:=0
def PySem.W.Fast.tw9051311153428187684:Nat:=0
def PySem.W.Fast.tw5305944499830508961:Nat:=0
def PySem.W.Fast.tw16564809195152386807:Nat:=0
def PySem.W.Fast.tw14988512808328226182:Nat:=0
def PySem.W.Fast.tw11749890229691641660:Nat:=0
def PySem.W.Fast.tw7661757592250567526:Nat:=0
def PySem.W.Fast.tw16715821957303900393:Nat:=0
def PySem.W.Fast.tw2540916848943850519:Nat:=0
def PySem.W.Fast.tw7672180752526148777:Nat:=0
def PySem.W.Fast.tw14707143189403737232:Nat:=0
def PySem.W.Fast.tw3902121194972302865:Nat:=0
def PySem.W.Fast.tw16479093434319149545:Nat:=0
def PySem.W.Fast.tw4031654706925781898:Nat:=0
def PySem.W.Fast.tw2414689766472383825:Nat:=0
def PySem.W.Fast.tw3508025109290757722:Nat:=0
def PySem.W.Fast.tw8925759027901323662:Nat:=0
def PySem.W.Fast.tw11457791206413012282:Nat:=0
def PySem.W.Fast.tw4823172783744010476:Nat:=0
def PySem.W.Fast.tw3822783229431062363:Nat:=0
def PySem.W.Fast.tw2613073510485760951:Nat:=0
def PySem.W.Fast.tw8772620090172832209:Nat:=0
def PySem.W.Fast.tw6779449145065660578:Nat:=0
def PySem.W.Fast.tw9056204258531840235:Nat:=0
def PySem.W.Fast.tw2028056517920048152:Nat:=0
def PySem.W.Fast.tw14379802096707937824:Nat:=0
def PySem.W.Fast.tw16259431253564162355:Nat:=0
def PySem.W.Fast.tw17688916883095330242:Nat:=0
def PySem.W.Fast.tw6634630017209203900:Nat:=0
def PySem.W.Fast.tw4356964262285093587:Nat:=0
def PySem.W.Fast.tw262425080947832272:Nat:=0
def PySem.W.Fast.tw15029169512256948539:Nat:=0
def PySem.W.Fast.tw15866594312663508173:Nat:=0
def PySem.W.Fast.tw6976296017677385511:Nat:=0
def PySem.W.Fast.tw1390131791339313893:Nat:=0
def PySem.W.Fast.tw3379550586700103981:Nat:=0
def PySem.W.Fast.tw1369371472972591872:Nat:=0
def PySem.W.Fast.tw15353159669564951160:Nat:=0
def PySem.W.Fast.tw15802760978948206970:Nat:=0
def PySem.W.Fast.tw18135485896307543910:Nat:=0
def PySem.W.Fast.tw143927942724201095:Nat:=0
open PySem PySem.W PyProof.Rows
set_option maxRecDepth 100000 in
set_option maxHeartbeats 0 in
theorem PySem.Challenge.cw_lockhouse_k46_a_deed_done_holds : PySem.Challenge.rw_lockhouse_k46_a_deed_done.Holds := by
 w_on;o_law;k_head;(case hw=>w_witness2)
 k_fill
 refine My.walk (l:=PySem.Challenge.rw_lockhouse_k46_a_deed_done) rfl rfl (fun w h Y=>PySem.W.kIn_of Y) ?F
 case F =>
  intro w mg fa h KX G hmg
  refine' My.all_mk KX G hmg ?aC_P ?aC_B ?aC_U ?aC_R ?aC_N ?aX_NotNow ?aX_NotLinked ?a0 ?l0 ?c0 ?k0 ?a1 ?l1 ?c1 ?k1 ?a2 ?l2 ?c2 ?k2 ?a3 ?l3 ?c3 ?k3 ?a4 ?l4 ?c4 ?k4 ?a5 ?l5 ?c5 ?k5 ?a6 ?l6 ?c6 ?k6 ?a7 ?i7 ?ac7 ?l7 ?c7 ?k7 ?a8 ?i8 ?l8 ?c8 ?k8 ?a9 ?i9 ?l9 ?c9 ?k9 ?a10 ?i10 ?l10 ?c10 ?k10 ?a11 ?i11 ?l11 ?c11 ?k11 ?a12 ?i12 ?l12 ?c12 ?k12 ?a13 ?i13 ?l13 ?c13 ?k13 ?a14 ?i14 ?l14 ?c14 ?k14 ?a15 ?i15 ?l15 ?c15 ?k15 ?a16 ?i16 ?l16 ?c16 ?k16 ?a17 ?i17 ?l17 ?c17 ?k17 ?a18 ?i18 ?l18 ?c18 ?k18 ?a19 ?i19 ?l19 ?c19 ?k19 ?a20 ?a20_U ?i20 ?l20 ?c20 ?k20 ?a21 ?i21 ?l21 ?c21 ?k21 ?a22 ?i22 ?l22 ?c22 ?k22 ?lT22 ?dT22 ?a23 ?i23 ?l23 ?c23 ?k23 ?a24 ?i24 ?l24 ?c24 ?k24 ?a25 ?i25 ?l25 ?c25 ?k25 ?a26 ?i26 ?l26 ?c26 ?k26 ?a27 ?i27 ?l27 ?c27 ?k27 ?a28 ?i28 ?l28 ?c28 ?k28 ?a29 ?l29 ?c29 ?k29 ?a30 ?l30 ?c30 ?k30 ?a31 ?l31 ?c31 ?k31 ?a32 ?l32 ?c32 ?k32 ?a33 ?l33 ?c33 ?k33 ?a34 ?l34 ?c34 ?k34 ?a35 ?l35 ?c35 ?k35 ?a36 ?l36 ?c36 ?k36 ?a37 ?l37 ?c37 ?k37 ?a38 ?l38 ?c38 ?k38 ?a39 ?l39 ?c39 ?k39 ?a40 ?l40 ?c40 ?k40 ?a41 ?l41 ?c41 ?k41 ?a42 ?l42 ?c42 ?k42 ?a43 ?l43 ?c43 ?k43 ?a44 ?l44 ?c44 ?k44 ?a45 ?l45 ?c45 ?k45 ?a46 ?l46 ?c46 ?k46 ?a47 ?l47 ?c47 ?k47 ?a48 ?l48 ?c48 ?k48 ?a49 ?l49 ?c49 ?k49 ?a50 ?l50 ?c50 ?k50 ?a51 ?l51 ?c51 ?k51 ?a52 ?l52 ?c52 ?k52 ?a53 ?l53 ?c53 ?k53 ?a54 ?l54 ?c54 ?k54 ?a55 ?l55 ?c55 ?k55 ?a56 ?l56 ?c56 ?k56 ?a57 ?l57 ?c57 ?k57 ?a58 ?l58 ?c58 ?k58 ?a59 ?l59 ?c59 ?k59 ?a60 ?l60 ?c60 ?k60 ?a61 ?l61 ?c61 ?k61 ?a62 ?l62 ?c62 ?k62 ?a63 ?l63 ?c63 ?k63 ?a64 ?l64 ?c64 ?k64 ?a65 ?l65 ?c65 ?k65 ?a66 ?l66 ?c66 ?k66 ?a67 ?l67 ?c67 ?k67 ?a68 ?l68 ?c68 ?k68 ?a69 ?l69 ?c69 ?k69 ?a70 ?l70 ?c70 ?k70 ?a71 ?l71 ?c71 ?k71 ?a72 ?l72 ?c72 ?k72 ?a73 ?l73 ?c73 ?k73 ?a74 ?l74 ?c74 ?k74 ?a75 ?l75 ?c75 ?k75 ?a76 ?l76 ?c76 ?k76 ?z_list ?z_tuple ?z_max ?z_range ?z_len ?z_sum ?z_zip ?z_enumerate ?z_min ?z_isinstance ?z_bool ?z_int ?pg_P ?hdd_P ?po_P ?sa_P ?mk_P ?kc_P ?n_name_P ?n_high_P ?n_low_P ?n_room_P ?pg_B ?hdd_B ?po_B ?sa_B ?mk_B ?kc_B ?n_name_B ?n_high_B ?n_low_B ?n_room_B ?n_side_B ?pg_U ?hdd_U ?po_U ?sa_U ?mk_U ?kc_U ?n_name_U ?n_high_U ?n_low_U ?n_room_U ?n_lift_U ?g1 ?g2 ?pg_R ?hdd_R ?po_R ?sa_R ?mk_R ?kc_R ?nR_name ?nR_least ?nR_crest ?nR_berths ?nR_water ?nR_target ?pg_N ?hdd_N ?po_N ?sa_N ?mk_N ?kc_N ?nN_reaches ?nN_locks ?nN_nights ?gSEA ?xX_NotNow ?xX_NotLinked ?gHOME
  (case aC_P=>first|k_is|rfl)
  (case aC_B=>first|k_is|rfl)
  (case aC_U=>first|k_is|rfl)
  (case aC_R=>first|k_is|rfl)
  (case aC_N=>first|k_is|rfl)
  (case aX_NotNow=>first|k_is|rfl)
  (case aX_NotLinked=>first|k_is|rfl)
  (case a0=>first|k_is|rfl)
  (case l0=>first|k_is|rfl)
  (case c0=>first|k_is|rfl)
  (case k0=>first|k_is|rfl)
  (case a1=>first|k_is|rfl)
  (case l1=>first|k_is|rfl)
  (case c1=>first|k_is|rfl)
  (case k1=>first|k_is|rfl)
  (case a2=>first|k_is|rfl)
  (case l2=>first|k_is|rfl)
  (case c2=>first|k_is|rfl)
  (case k2=>first|k_is|rfl)
  (case a3=>first|k_is|rfl)
  (case l3=>first|k_is|rfl)
  (case c3=>first|k_is|rfl)
  (case k3=>first|k_is|rfl)
  (case a4=>first|k_is|rfl)
  (case l4=>first|k_is|rfl)
  (case c4=>first|k_is|rfl)
  (case k4=>first|k_is|rfl)
  (case a5=>first|k_is|rfl)
  (case l5=>first|k_is|rfl)
  (case c5=>first|k_is|rfl)
  (case k5=>first|k_is|rfl)
  (case a6=>first|k_is|rfl)
  (case l6=>first|k_is|rfl)
  (case c6=>first|k_is|rfl)
  (case k6=>first|k_is|rfl)
  (case a7=>first|k_is|rfl)
  (case i7=>first|k_is|rfl)
  (case ac7=>first|k_is|rfl)
  (case l7=>first|k_is|rfl)
  (case c7=>first|k_is|rfl)
  (case k7=>first|k_is|rfl)
  (case a8=>first|k_is|rfl)
  (case i8=>first|k_is|rfl)
  (case l8=>first|k_is|rfl)
  (case c8=>first|k_is|rfl)
  (case k8=>first|k_is|rfl)
  (case a9=>first|k_is|rfl)
  (case i9=>first|k_is|rfl)
  (case l9=>first|k_is|rfl)
  (case c9=>first|k_is|rfl)
  (case k9=>first|k_is|rfl)
  (case a10=>first|k_is|rfl)
  (case i10=>first|k_is|rfl)
  (case l10=>first|k_is|rfl)
  (case c10=>first|k_is|rfl)
  (case k10=>first|k_is|rfl)
  (case a11=>first|k_is|rfl)
  (case i11=>first|k_is|rfl)
  (case l11=>first|k_is|rfl)
  (case c11=>first|k_is|rfl)
  (case k11=>first|k_is|rfl)
  (case a12=>first|k_is|rfl)
  (case i12=>first|k_is|rfl)
  (case l12=>first|k_is|rfl)
  (case c12=>first|k_is|rfl)
  (case k12=>first|k_is|rfl)
  (case a13=>first|k_is|rfl)
  (case i13=>first|k_is|rfl)
  (case l13=>first|k_is|rfl)
  (case c13=>first|k_is|rfl)
  (case k13=>first|k_is|rfl)
  (case a14=>first|k_is|rfl)
  (case i14=>first|k_is|rfl)
  (case l14=>first|k_is|rfl)
  (case c14=>first|k_is|rfl)
  (case k14=>first|k_is|rfl)
  (case a15=>first|k_is|rfl)
  (case i15=>first|k_is|rfl)
  (case l15=>first|k_is|rfl)
  (case c15=>first|k_is|rfl)
  (case k15=>first|k_is|rfl)
  (case a16=>first|k_is|rfl)
  (case i16=>first|k_is|rfl)
  (case l16=>first|k_is|rfl)
  (case c16=>first|k_is|rfl)
  (case k16=>first|k_is|rfl)
  (case a17=>first|k_is|rfl)
  (case i17=>first|k_is|rfl)
  (case l17=>first|k_is|rfl)
  (case c17=>first|k_is|rfl)
  (case k17=>first|k_is|rfl)
  (case a18=>first|k_is|rfl)
  (case i18=>first|k_is|rfl)
  (case l18=>first|k_is|rfl)
  (case c18=>first|k_is|rfl)
  (case k18=>first|k_is|rfl)
  (case a19=>first|k_is|rfl)
  (case i19=>first|k_is|rfl)
  (case l19=>first|k_is|rfl)
  (case c19=>first|k_is|rfl)
  (case k19=>first|k_is|rfl)
  (case a20=>first|k_is|rfl)
  (case a20_U=>first|k_is|rfl)
  (case i20=>first|k_is|rfl)
  (case l20=>first|k_is|rfl)
  (case c20=>first|k_is|rfl)
  (case k20=>first|k_is|rfl)
  (case a21=>first|k_is|rfl)
  (case i21=>first|k_is|rfl)
  (case l21=>first|k_is|rfl)
  (case c21=>first|k_is|rfl)
  (case k21=>first|k_is|rfl)
  (case a22=>first|k_is|rfl)
  (case i22=>first|k_is|rfl)
  (case l22=>first|k_is|rfl)
  (case c22=>first|k_is|rfl)
  (case k22=>first|k_is|rfl)
  (case lT22=>first|k_is|rfl)
  (case dT22=>first|k_is|rfl)
  (case a23=>first|k_is|rfl)
  (case i23=>first|k_is|rfl)
  (case l23=>first|k_is|rfl)
  (case c23=>first|k_is|rfl)
  (case k23=>first|k_is|rfl)
  (case a24=>first|k_is|rfl)
  (case i24=>first|k_is|rfl)
  (case l24=>first|k_is|rfl)
  (case c24=>first|k_is|rfl)
  (case k24=>first|k_is|rfl)
  (case a25=>first|k_is|rfl)
  (case i25=>first|k_is|rfl)
  (case l25=>first|k_is|rfl)
  (case c25=>first|k_is|rfl)
  (case k25=>first|k_is|rfl)
  (case a26=>first|k_is|rfl)
  (case i26=>first|k_is|rfl)
  (case l26=>first|k_is|rfl)
  (case c26=>first|k_is|rfl)
  (case k26=>first|k_is|rfl)
  (case a27=>first|k_is|rfl)
  (case i27=>first|k_is|rfl)
  (case l27=>first|k_is|rfl)
  (case c27=>first|k_is|rfl)
  (case k27=>first|k_is|rfl)
  (case a28=>first|k_is|rfl)
  (case i28=>first|k_is|rfl)
  (case l28=>first|k_is|rfl)
  (case c28=>first|k_is|rfl)
  (case k28=>first|k_is|rfl)
  (case a29=>first|k_is|rfl)
  (case l29=>first|k_is|rfl)
  (case c29=>first|k_is|rfl)
  (case k29=>first|k_is|rfl)
  (case a30=>first|k_is|rfl)
  (case l30=>first|k_is|rfl)
  (case c30=>first|k_is|rfl)
  (case k30=>first|k_is|rfl)
  (case a31=>first|k_is|rfl)
  (case l31=>first|k_is|rfl)
  (case c31=>first|k_is|rfl)
  (case k31=>first|k_is|rfl)
  (case a32=>first|k_is|rfl)
  (case l32=>first|k_is|rfl)
  (case c32=>first|k_is|rfl)
  (case k32=>first|k_is|rfl)
  (case a33=>first|k_is|rfl)
  (case l33=>first|k_is|rfl)
  (case c33=>first|k_is|rfl)
  (case k33=>first|k_is|rfl)
  (case a34=>first|k_is|rfl)
  (case l34=>first|k_is|rfl)
  (case c34=>first|k_is|rfl)
  (case k34=>first|k_is|rfl)
  (case a35=>first|k_is|rfl)
  (case l35=>first|k_is|rfl)
  (case c35=>first|k_is|rfl)
  (case k35=>first|k_is|rfl)
  (case a36=>first|k_is|rfl)
  (case l36=>first|k_is|rfl)
  (case c36=>first|k_is|rfl)
  (case k36=>first|k_is|rfl)
  (case a37=>first|k_is|rfl)
  (case l37=>first|k_is|rfl)
  (case c37=>first|k_is|rfl)
  (case k37=>first|k_is|rfl)
  (case a38=>first|k_is|rfl)
  (case l38=>first|k_is|rfl)
  (case c38=>first|k_is|rfl)
  (case k38=>first|k_is|rfl)
  (case a39=>first|k_is|rfl)
  (case l39=>first|k_is|rfl)
  (case c39=>first|k_is|rfl)
  (case k39=>first|k_is|rfl)
  (case a40=>first|k_is|rfl)
  (case l40=>first|k_is|rfl)
  (case c40=>first|k_is|rfl)
  (case k40=>first|k_is|rfl)
  (case a41=>first|k_is|rfl)
  (case l41=>first|k_is|rfl)
  (case c41=>first|k_is|rfl)
  (case k41=>first|k_is|rfl)
  (case a42=>first|k_is|rfl)
  (case l42=>first|k_is|rfl)
  (case c42=>first|k_is|rfl)
  (case k42=>first|k_is|rfl)
  (case a43=>first|k_is|rfl)
  (case l43=>first|k_is|rfl)
  (case c43=>first|k_is|rfl)
  (case k43=>first|k_is|rfl)
  (case a44=>first|k_is|rfl)
  (case l44=>first|k_is|rfl)
  (case c44=>first|k_is|rfl)
  (case k44=>first|k_is|rfl)
  (case a45=>first|k_is|rfl)
  (case l45=>first|k_is|rfl)
  (case c45=>first|k_is|rfl)
  (case k45=>first|k_is|rfl)
  (case a46=>first|k_is|rfl)
  (case l46=>first|k_is|rfl)
  (case c46=>first|k_is|rfl)
  (case k46=>first|k_is|rfl)
  (case a47=>first|k_is|rfl)
  (case l47=>first|k_is|rfl)
  (case c47=>first|k_is|rfl)
  (case k47=>first|k_is|rfl)
  (case a48=>first|k_is|rfl)
  (case l48=>first|k_is|rfl)
  (case c48=>first|k_is|rfl)
  (case k48=>first|k_is|rfl)
  (case a49=>first|k_is|rfl)
  (case l49=>first|k_is|rfl)
  (case c49=>first|k_is|rfl)
  (case k49=>first|k_is|rfl)
  (case a50=>first|k_is|rfl)
  (case l50=>first|k_is|rfl)
  (case c50=>first|k_is|rfl)
  (case k50=>first|k_is|rfl)
  (case a51=>first|k_is|rfl)
  (case l51=>first|k_is|rfl)
  (case c51=>first|k_is|rfl)
  (case k51=>first|k_is|rfl)
  (case a52=>first|k_is|rfl)
  (case l52=>first|k_is|rfl)
  (case c52=>first|k_is|rfl)
  (case k52=>first|k_is|rfl)
  (case a53=>first|k_is|rfl)
  (case l53=>first|k_is|rfl)
  (case c53=>first|k_is|rfl)
  (case k53=>first|k_is|rfl)
  (case a54=>first|k_is|rfl)
  (case l54=>first|k_is|rfl)
  (case c54=>first|k_is|rfl)
  (case k54=>first|k_is|rfl)
  (case a55=>first|k_is|rfl)
  (case l55=>first|k_is|rfl)
  (case c55=>first|k_is|rfl)
  (case k55=>first|k_is|rfl)
  (case a56=>first|k_is|rfl)
  (case l56=>first|k_is|rfl)
  (case c56=>first|k_is|rfl)
  (case k56=>first|k_is|rfl)
  (case a57=>first|k_is|rfl)
  (case l57=>first|k_is|rfl)
  (case c57=>first|k_is|rfl)
  (case k57=>first|k_is|rfl)
  (case a58=>first|k_is|rfl)
  (case l58=>first|k_is|rfl)
  (case c58=>first|k_is|rfl)
  (case k58=>first|k_is|rfl)
  (case a59=>first|k_is|rfl)
  (case l59=>first|k_is|rfl)
  (case c59=>first|k_is|rfl)
  (case k59=>first|k_is|rfl)
  (case a60=>first|k_is|rfl)
  (case l60=>first|k_is|rfl)
  (case c60=>first|k_is|rfl)
  (case k60=>first|k_is|rfl)
  (case a61=>first|k_is|rfl)
  (case l61=>first|k_is|rfl)
  (case c61=>first|k_is|rfl)
  (case k61=>first|k_is|rfl)
  (case a62=>first|k_is|rfl)
  (case l62=>first|k_is|rfl)
  (case c62=>first|k_is|rfl)
  (case k62=>first|k_is|rfl)
  (case a63=>first|k_is|rfl)
  (case l63=>first|k_is|rfl)
  (case c63=>first|k_is|rfl)
  (case k63=>first|k_is|rfl)
  (case a64=>first|k_is|rfl)
  (case l64=>first|k_is|rfl)
  (case c64=>first|k_is|rfl)
  (case k64=>first|k_is|rfl)
  (case a65=>first|k_is|rfl)
  (case l65=>first|k_is|rfl)
  (case c65=>first|k_is|rfl)
  (case k65=>first|k_is|rfl)
  (case a66=>first|k_is|rfl)
  (case l66=>first|k_is|rfl)
  (case c66=>first|k_is|rfl)
  (case k66=>first|k_is|rfl)
  (case a67=>first|k_is|rfl)
  (case l67=>first|k_is|rfl)
  (case c67=>first|k_is|rfl)
  (case k67=>first|k_is|rfl)
  (case a68=>first|k_is|rfl)
  (case l68=>first|k_is|rfl)
  (case c68=>first|k_is|rfl)
  (case k68=>first|k_is|rfl)
  (case a69=>first|k_is|rfl)
  (case l69=>first|k_is|rfl)
  (case c69=>first|k_is|rfl)
  (case k69=>first|k_is|rfl)
  (case a70=>first|k_is|rfl)
  (case l70=>first|k_is|rfl)
  (case c70=>first|k_is|rfl)
  (case k70=>first|k_is|rfl)
  (case a71=>first|k_is|rfl)
  (case l71=>first|k_is|rfl)
  (case c71=>first|k_is|rfl)
  (case k71=>first|k_is|rfl)
  (case a72=>first|k_is|rfl)
  (case l72=>first|k_is|rfl)
  (case c72=>first|k_is|rfl)
  (case k72=>first|k_is|rfl)
  (case a73=>first|k_is|rfl)
  (case l73=>first|k_is|rfl)
  (case c73=>first|k_is|rfl)
  (case k73=>first|k_is|rfl)
  (case a74=>first|k_is|rfl)
  (case l74=>first|k_is|rfl)
  (case c74=>first|k_is|rfl)
  (case k74=>first|k_is|rfl)
  (case a75=>first|k_is|rfl)
  (case l75=>first|k_is|rfl)
  (case c75=>first|k_is|rfl)
  (case k75=>first|k_is|rfl)
  (case a76=>first|k_is|rfl)
  (case l76=>first|k_is|rfl)
  (case c76=>first|k_is|rfl)
  (case k76=>first|k_is|rfl)
  (case z_list=>first|k_is|rfl)
  (case z_tuple=>first|k_is|rfl)
  (case z_max=>first|k_is|rfl)
  (case z_range=>first|k_is|rfl)
  (case z_len=>first|k_is|rfl)
  (case z_sum=>first|k_is|rfl)
  (case z_zip=>first|k_is|rfl)
  (case z_enumerate=>first|k_is|rfl)
  (case z_min=>first|k_is|rfl)
  (case z_isinstance=>first|k_is|rfl)
  (case z_bool=>first|k_is|rfl)
  (case z_int=>first|k_is|rfl)
  (case pg_P=>first|k_is|rfl)
  (case hdd_P=>first|k_is|rfl)
  (case po_P=>first|k_is|rfl)
  (case sa_P=>first|k_is|rfl)
  (case mk_P=>first|k_is|rfl)
  (case kc_P=>first|k_is|rfl)
  (case n_name_P=>first|k_is|rfl)
  (case n_high_P=>first|k_is|rfl)
  (case n_low_P=>first|k_is|rfl)
  (case n_room_P=>first|k_is|rfl)
  (case pg_B=>first|k_is|rfl)
  (case hdd_B=>first|k_is|rfl)
  (case po_B=>first|k_is|rfl)
  (case sa_B=>first|k_is|rfl)
  (case mk_B=>first|k_is|rfl)
  (case kc_B=>first|k_is|rfl)
  (case n_name_B=>first|k_is|rfl)
  (case n_high_B=>first|k_is|rfl)
  (case n_low_B=>first|k_is|rfl)
  (case n_room_B=>first|k_is|rfl)
  (case n_side_B=>first|k_is|rfl)
  (case pg_U=>first|k_is|rfl)
  (case hdd_U=>first|k_is|rfl)
  (case po_U=>first|k_is|rfl)
  (case sa_U=>first|k_is|rfl)
  (case mk_U=>first|k_is|rfl)
  (case kc_U=>first|k_is|rfl)
  (case n_name_U=>first|k_is|rfl)
  (case n_high_U=>first|k_is|rfl)
  (case n_low_U=>first|k_is|rfl)
  (case n_room_U=>first|k_is|rfl)
  (case n_lift_U=>first|k_is|rfl)
  (case g1=>first|k_is|rfl)
  (case g2=>first|k_is|rfl)
  (case pg_R=>first|k_is|rfl)
  (case hdd_R=>first|k_is|rfl)
  (case po_R=>first|k_is|rfl)
  (case sa_R=>first|k_is|rfl)
  (case mk_R=>first|k_is|rfl)
  (case kc_R=>first|k_is|rfl)
  (case nR_name=>first|k_is|rfl)
  (case nR_least=>first|k_is|rfl)
  (case nR_crest=>first|k_is|rfl)
  (case nR_berths=>first|k_is|rfl)
  (case nR_water=>first|k_is|rfl)
  (case nR_target=>first|k_is|rfl)
  (case pg_N=>first|k_is|rfl)
  (case hdd_N=>first|k_is|rfl)
  (case po_N=>first|k_is|rfl)
  (case sa_N=>first|k_is|rfl)
  (case mk_N=>first|k_is|rfl)
  (case kc_N=>first|k_is|rfl)
  (case nN_reaches=>first|k_is|rfl)
  (case nN_locks=>first|k_is|rfl)
  (case nN_nights=>first|k_is|rfl)
  (case gSEA=>first|k_is|rfl)
  (case xX_NotNow=>first|k_is|k_exc|kit_is|kts_exm|rfl)
  (case xX_NotLinked=>first|k_is|k_exc|kit_is|kts_exm|rfl)
  (case gHOME=>first|k_is|rfl)
