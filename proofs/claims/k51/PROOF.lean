import PyProof.Rows.All
import Wide.All
import OpenK.AllK
import Wide.FinOn
import Lean
import PyProof.EqAt
import PyProof.EqKinds
import PyProof.TupleCall
import PyProof.NeKinds
import OpenK.KOwn
import KE.KTryMore
import KE.RegKTryMore
import PyProof.NsDelKeeps
import KE.KIntText
import PySem.Challenge.RW_lockhouse_k51_row_holds
set_option Elab.async false
set_option linter.all false
set_option maxRecDepth 100000
namespace L2
open PySem PySem.Spec PyProof.Rows
abbrev jQ:=Sum Int Str
def ZZ:jQ→Value→Bool
 |.inl k,v=>Value.isInt k v
 |.inr x,v=>Value.isStrOf x v
def gY (w:World):jQ→Int
 |.inl k=>hashInt k
 |.inr x=>hashStr w x
theorem qO:∀{k:jQ} {v:Value},ZZ k v=true→(∃i t,k=Sum.inl i∧v=Value.int i t)∨(∃x t,k=Sum.inr x∧v=Value.str x t)
 |.inl i,v,h=>by
  obtain ⟨t,e⟩:=Value.isInt_shape (k:=i) (v:=v) h
  exact .inl ⟨i,t,rfl,e⟩
 |.inr x,v,h=>by
  obtain ⟨t,e⟩:=Value.isStrOf_shape (x:=x) (v:=v) h
  exact .inr ⟨x,t,rfl,e⟩
theorem fI (a b:Int):decide ((Sum.inl a:jQ)=Sum.inl b)=(a == b):=by
 by_cases e:a=b
 ·subst e;simp
 ·have h:¬(Sum.inl a:jQ)=Sum.inl b:=fun q=>e (Sum.inl.inj q)
  rw [decide_eq_false h]
  exact (beq_eq_false_iff_ne.mpr e).symm
theorem fF (a b:Str):decide ((Sum.inr a:jQ)=Sum.inr b)=decide (a=b):=by
 by_cases e:a=b
 ·subst e;simp
 ·have h:¬(Sum.inr a:jQ)=Sum.inr b:=fun q=>e (Sum.inr.inj q)
  rw [decide_eq_false h,decide_eq_false e]
theorem fH (a:Int) (b:Str):decide ((Sum.inl a:jQ)=Sum.inr b)=false:=decide_eq_false (fun q=>nomatch q)
theorem fG (a:Str) (b:Int):decide ((Sum.inr a:jQ)=Sum.inl b)=false:=decide_eq_false (fun q=>nomatch q)
def JI (prog:Program) (w:World):PySem.KeyKind prog w jQ where
 is:=ZZ
 hash:=gY w
 inj:=fun v a b ha hb=>by
  rcases qO ha with ⟨i,t,rfl,rfl⟩|⟨x,t,rfl,rfl⟩
  ·rcases qO hb with ⟨j,u,rfl,e⟩|⟨y,u,rfl,e⟩
   ·injection e with e1 _;rw [e1]
   ·exact nomatch e
  ·rcases qO hb with ⟨j,u,rfl,e⟩|⟨y,u,rfl,e⟩
   ·exact nomatch e
   ·injection e with e1 _;rw [e1]
 byValue:=fun k v h=>by
  rcases qO h with ⟨i,t,rfl,rfl⟩|⟨x,t,rfl,rfl⟩<;>rfl
 pyHash:=fun hv h=>by
  rcases qO hv with ⟨i,t,rfl,rfl⟩|⟨x,t,rfl,rfl⟩
  ·exact wpAny_pyHash_int h
  ·exact wpAny_pyHash_str h
 eqBool:=fun hu hv h=>by
  rcases qO hu with ⟨i,t,rfl,rfl⟩|⟨x,t,rfl,rfl⟩
  ·rcases qO hv with ⟨j,u,rfl,rfl⟩|⟨y,u,rfl,rfl⟩
   ·rw [fI] at h;exact wpAny_eqBool_int h
   ·rw [fH] at h;exact SeqAt.EqAt.int_str i t y u _ _ _ _ h
  ·rcases qO hv with ⟨j,u,rfl,rfl⟩|⟨y,u,rfl,rfl⟩
   ·rw [fG] at h;exact SeqAt.EqAt.str_int x t j u _ _ _ _ h
   ·rw [fF] at h;exact wpAny_eqBool_str h
 «strs»:=fun k x t v h=>by
  rcases qO h with ⟨i,u,rfl,e⟩|⟨y,u,rfl,e⟩
  ·exact nomatch e
  ·injection e with e1 _
   subst e1
   cases v<;>rfl
end L2
namespace L2
open PySem PySem.Spec PyProof.Rows
inductive V where
 |non|bl (b:Bool)|int (i:Int)|str (x:Str)|byt (b:Array UInt8)|flt (b:UInt64)|ref (a:Addr)|ty (n:String)
 deriving DecidableEq
def RelV:V→Value→Prop
 |.non,u=>u=Value.none
 |.bl b,u=>u=Value.bool b
 |.int i,u=>∃t,u=Value.int i t
 |.str x,u=>∃t,u=Value.str x t
 |.byt b,u=>∃t,u=Value.bytes b t
 |.flt b,u=>∃t,u=Value.float b t
 |.ref a,u=>u=Value.ref a
 |.ty n,u=>u=Value.type n
abbrev Vals:List V→List Value→Prop:=Paired RelV
theorem Vals.length {xs:List V} {us:List Value} (r:Vals xs us):xs.length=us.length:=Paired.length r
theorem Vals.get:∀{xs:List V} {us:List Value} {i:Nat} {x:V},Vals xs us→xs[i]?=some x→∃u,us[i]?=some u∧RelV x u
 |_,_,_,_,.nil,e=>by simp at e
 |_,_,0,_,.cons r _,e=>by simp at e;subst e;exact ⟨_,rfl,r⟩
 |_,_,i+1,x,.cons _ t,e=>by
  obtain ⟨u,h1,h2⟩:=Vals.get (i:=i) (x:=x) t (by simpa using e)
  exact ⟨u,by simpa using h1,h2⟩
theorem Vals.set {x:V} {u:Value} (r:RelV x u):∀{xs:List V} {us:List Value} (i:Nat),Vals xs us→Vals (xs.set i x) (us.set i u)
 |_,_,_,.nil=>.nil
 |_,_,0,.cons _ t=>.cons r t
 |_,_,i+1,.cons q t=>.cons q (Vals.set r i t)
theorem Vals.append:∀{xs ys:List V} {us ws:List Value},Vals xs us→Vals ys ws→Vals (xs++ys) (us++ws)
 |_,_,_,_,.nil,s=>s
 |_,_,_,_,.cons r t,s=>.cons r (Vals.append t s)
theorem Vals.take:∀{xs:List V} {us:List Value} (n:Nat),Vals xs us→Vals (xs.take n) (us.take n)
 |_,_,0,_=>.nil
 |_,_,_+1,.nil=>.nil
 |_,_,n+1,.cons r t=>.cons r (Vals.take n t)
theorem Vals.drop:∀{xs:List V} {us:List Value} (n:Nat),Vals xs us→Vals (xs.drop n) (us.drop n)
 |_,_,0,r=>r
 |_,_,_+1,.nil=>.nil
 |_,_,n+1,.cons _ t=>Vals.drop n t
def RelO:Option V→Option Value→Prop
 |some v,some u=>RelV v u
 |none,none=>True
 |_,_=>False
def KV {κ:Type}:List (κ×V)→List (κ×Value)→Prop:=Paired fun (p:κ×V) (q:κ×Value)=>p.1=q.1∧RelV p.2 q.2
def kV:jQ→V
 |.inl i=>.int i
 |.inr x=>.str x
inductive HO where
 /-- a list -/
 |lst (xs:List V)
 /-- a tuple (never changes) -/
 |tup (xs:List V)
 /-- a dict whose keys are ints and texts;one whose keys are tuples of ints and texts (the empty one is both) -/
 |dK (kvs:List (jQ×V))|dT (kvs:List (List jQ×V))
 /-- a set of ints: its members,its size -/
 |set (S:Int→Bool) (n:Nat)
 /-- an instance of the class at C,its dict at dx,its attributes -/
 |ins (C dx:Addr) (fs:List (Str×V))
 /-- the dict of the instance at x -/
 |own (x:Addr)
 /-- the dict of an exception -/
 |xd (fs:List (Str×V))
 /-- a bound method,f of x -/
 |met (f x:Addr)
 /-- a range object lo,lo+1,.. below hi -/
 |rng (lo hi:Int)
 /-- a thing that is known to the object (the script;a dict while a loop walks it): read,never written while it is so -/
 |frz (o:Obj) (u:HO)
 /-- a code object's table -/
 |tbl (ps:Array Value)
 /-- any other thing,by what is true of its one object (a def of one's own: SetO a S n:=HO.ext fun h=>..) -/
 |ext (φ:Heap→Prop)
abbrev Hp:=Addr→Option HO
def jB (H:Hp) (a:Addr) (o:HO):Hp:=fun b=>if b=a then some o else H b
theorem jJ {H:Hp} {a:Addr} {o:HO}:jB H a o a=some o:=by unfold jB;rw [if_pos rfl]
theorem jC {H:Hp} {a b:Addr} {o:HO} (h:b≠a):jB H a o b=H b:=by unfold jB;rw [if_neg h]
theorem qL {H:Hp} {a b:Addr} {o:HO} (h:H a=some o) (h':H b=none):a≠b:=by
 intro e;subst e;rw [h] at h';cases h'
section
variable (P:Program) (w:World)
def ObjOk (H:Hp) (h:Heap) (a:Addr):HO→Prop
 |.lst xs=>xs.length≤sizeLine∧∃(its:List Value) (n:Nat),Vals xs its∧h.get? a=some {cls:=.type "list",data:=.seq its.toArray n}
 |.tup xs=>xs.length≤sizeLine∧∃its:List Value,Vals xs its∧IsTup h a its.toArray
 |.dK kvs=>kvs.length≤sizeLine∧(a == sysModules)=false∧∃vs,KV kvs vs∧h.DictOf (JI P w) a vs
 |.dT kvs=>kvs.length≤sizeLine∧(a == sysModules)=false∧∃xs:List (List jQ×Addr×Value),
   Paired (fun (p:List jQ×V) (q:List jQ×Addr×Value)=>p.1=q.1∧H q.2.1=some (.tup (p.1.map kV))∧RelV p.2 q.2.2) kvs xs∧
   ∃o es ep,h.get? a=some o∧o.ExactDict∧o.data=.dict es ep∧es.toList=xs.map (entryOfKey (tupleKind (JI P w)))∧(xs.map (·.1)).Nodup
 |.set S n=>h.SetOf (intKind P w) a S n
 |.ins C dx fs=>H dx=some (.own a)∧fs.length≤1000∧dx≠a∧h.get? a=some (PySem.W.instObj C dx)∧
   ∃mA,h.Ns1 dx mA∧(∀f,RelO (fs.lookup f) (mA f))∧PySem.Within mA (fs.map (·.1))
 |.own _=>∃o,h.get? a=some o
 |.xd fs=>∃mA,h.Ns1 a mA∧∀f,RelO (fs.lookup f) (mA f)
 |.rng lo hi=>∃t u v,h.get? a=some {cls:=.type "range",data:=.fields #[.int lo t,.int hi u,.int 1 v]}
 |.frz o u=>h.get? a=some o∧ObjOk H h a u
 |.tbl ps=>h.get? a=some {cls:=.none,data:=.fields ps}
 |.met f x=>h.get? a=some (PySem.W.methodObj (.ref f) (.ref x))
 |.ext φ=>φ h∧(∃o,h.get? a=some o)∧∀h1 h2:Heap,φ h1→(∀o,h1.get? a=some o→h2.get? a=some o)→φ h2
def HOk (H:Hp) (h:Heap):Prop:=∀a o,H a=some o→ObjOk P w H h a o
end
section
variable {P:Program} {w:World} {H H':Hp} {h h':Heap} {a:Addr} {o:HO}
theorem ObjOk.lt (x:ObjOk P w H h a o):a<h.objs.size:=by
 cases o with
 |lst xs=>obtain ⟨_,_,_,_,e⟩:=x;exact Heap.lt_size e
 |tup xs=>obtain ⟨_,_,_,p⟩:=x;exact p.lt
 |dK kvs=>obtain ⟨_,_,_,_,o,_,_,e,_⟩:=x;exact Heap.lt_size e
 |dT kvs=>obtain ⟨_,_,_,_,o,_,_,e,_⟩:=x;exact Heap.lt_size e
 |set S n=>obtain ⟨o,_,_,_,e,_⟩:=x;exact Heap.lt_size e
 |ins C dx fs=>obtain ⟨_,_,_,e,_⟩:=x;exact Heap.lt_size e
 |own y=>obtain ⟨_,e⟩:=x;exact Heap.lt_size e
 |xd fs=>obtain ⟨_,⟨_,_,_,e,_⟩,_⟩:=x;exact Heap.lt_size e
 |rng lo hi=>obtain ⟨_,_,_,e⟩:=x;exact Heap.lt_size e
 |frz ob u=>obtain ⟨e,_⟩:=x;exact Heap.lt_size e
 |tbl ps=>exact Heap.lt_size (show h.get? a=some _ from x)
 |met f y=>exact Heap.lt_size (show h.get? a=some _ from x)
 |ext φ=>obtain ⟨_,⟨_,e⟩,_⟩:=x;exact Heap.lt_size e
theorem Paired.mapP {α β:Type} {F G:α→β→Prop}:∀{l₁:List α} {l₂:List β},Paired F l₁ l₂→(∀a b,F a b→G a b)→Paired G l₁ l₂
 |_,_,.nil,_=>.nil
 |_,_,.cons r t,f=>.cons (f _ _ r) (Paired.mapP t f)
theorem ObjOk.stay (x:ObjOk P w H h a o) (k:∀b u,(b=a∨H b=some (.own a))→h.get? b=some u→h'.get? b=some u)
  (ho:∀b,H b=some (.own a)→H' b=some (.own a)) (ht:∀b xs,H b=some (.tup xs)→H' b=some (.tup xs)):ObjOk P w H' h' a o:=by
 induction o with
 |lst xs=>obtain ⟨z,its,n,r,e⟩:=x;exact ⟨z,its,n,r,k _ _ (.inl rfl) e⟩
 |tup xs=>obtain ⟨z,its,r,ob,e,c⟩:=x;exact ⟨z,its,r,ob,k _ _ (.inl rfl) e,c⟩
 |dK kvs=>obtain ⟨z,y,vs,r,ob,es,ep,e,c⟩:=x;exact ⟨z,y,vs,r,ob,es,ep,k _ _ (.inl rfl) e,c⟩
 |dT kvs =>
  obtain ⟨z,y,xs,r,ob,es,ep,e,c⟩:=x
  exact ⟨z,y,xs,Paired.mapP r fun p q z=>⟨z.1,ht _ _ z.2.1,z.2.2⟩,ob,es,ep,k _ _ (.inl rfl) e,c⟩
 |set S n=>obtain ⟨ob,es,ep,t,e,c⟩:=x;exact ⟨ob,es,ep,t,k _ _ (.inl rfl) e,c⟩
 |ins C dx fs =>
  obtain ⟨d,z,ne,e,mA,⟨od,es,ep,e2,c⟩,r⟩:=x
  exact ⟨ho _ d,z,ne,k _ _ (.inl rfl) e,mA,⟨od,es,ep,k _ _ (.inr d) e2,c⟩,r⟩
 |own y=>obtain ⟨ob,e⟩:=x;exact ⟨ob,k _ _ (.inl rfl) e⟩
 |xd fs=>obtain ⟨mA,⟨od,es,ep,e,c⟩,r⟩:=x;exact ⟨mA,⟨od,es,ep,k _ _ (.inl rfl) e,c⟩,r⟩
 |rng lo hi=>obtain ⟨t,u,v,e⟩:=x;exact ⟨t,u,v,k _ _ (.inl rfl) e⟩
 |frz ob u ih=>obtain ⟨e,q⟩:=x;exact ⟨k _ _ (.inl rfl) e,ih q⟩
 |tbl ps =>
  have e:h.get? a=some {cls:=.none,data:=.fields ps}:=x
  show h'.get? a=some {cls:=.none,data:=.fields ps}
  exact k a _ (.inl rfl) e
 |met f y =>
  have e:h.get? a=some (PySem.W.methodObj (.ref f) (.ref y)):=x
  show h'.get? a=some (PySem.W.methodObj (.ref f) (.ref y))
  exact k a _ (.inl rfl) e
 |ext φ=>obtain ⟨p,⟨o,e⟩,st⟩:=x;exact ⟨st _ _ p fun o q=>k _ _ (.inl rfl) q,⟨o,k _ _ (.inl rfl) e⟩,st⟩
theorem HOk.lt (x:HOk P w H h) (e:H a=some o):a<h.objs.size:=(x a o e).lt
theorem HOk.fresh (x:HOk P w H h) (e:h.objs.size≤a):H a=none:=by
 cases q:H a with
 |none=>rfl
 |some u=>exact absurd (Nat.lt_of_lt_of_le (x.lt q) e) (Nat.lt_irrefl _)
theorem HOk.kept (x:HOk P w H h) (k:∀b u,h.get? b=some u→h'.get? b=some u):HOk P w H h':=fun a o e =>
 (x a o e).stay (fun b u _ q=>k b u q) (fun _ q=>q) fun _ _ q=>q
theorem HOk.laid (x:HOk P w H h) (k:∀b u,h.get? b=some u→h'.get? b=some u) (hp:h.objs.size≤a) (new:ObjOk P w (jB H a o) h' a o):HOk P w (jB H a o) h':=fun b u e=>by
 have hn:=x.fresh hp
 by_cases hb:b=a
 ·subst hb;rw [jJ] at e;cases e;exact new
 ·rw [jC hb] at e
  exact (x b u e).stay (fun c v _ q=>k c v q) (fun c q=>by rw [jC (qL q hn)];exact q) fun c xs q=>by rw [jC (qL q hn)];exact q
end
def Rd (H:Hp) (a:Addr) (u:HO):Prop:=H a=some u∨∃o,H a=some (.frz o u)
theorem Rd.of {H:Hp} {a:Addr} {u:HO} (h:H a=some u):Rd H a u:=.inl h
theorem Rd.ok {P:Program} {w:World} {H:Hp} {h:Heap} {a:Addr} {u:HO} (r:Rd H a u) (x:HOk P w H h):ObjOk P w H h a u:=by
 rcases r with r|⟨o,r⟩
 ·exact x a u r
 ·obtain ⟨_,q⟩:=x a _ r
  exact q
def yW:Option HO→Prop
 |some (.lst _)=>True
 |some (.dK _)=>True
 |some (.dT _)=>True
 |some (.set _ _)=>True
 |some (.ins _ _ _)=>True
 |some (.ext _)=>True
 |_=>False
section
variable {P:Program} {w:World} {H:Hp} {h h':Heap} {x e:Addr} {o':HO}
theorem HOk.write (ok:HOk P w H h) (mu:yW (H x)) (he:e=x∨H e=some (.own x)) (k:∀b u,b≠e→h.get? b=some u→h'.get? b=some u) (heo:∃u,h'.get? e=some u)
  (new:ObjOk P w (jB H x o') h' x o'):HOk P w (jB H x o') h':=fun b u q=>by
 have nown:∀c y,H c=some (.own y)→c≠x:=fun c y r z=>by subst z;rw [r] at mu;exact mu
 have ntup:∀c xs,H c=some (.tup xs)→c≠x:=fun c xs r z=>by subst z;rw [r] at mu;exact mu
 by_cases hb:b=x
 ·subst hb;rw [jJ] at q;cases q;exact new
 ·rw [jC hb] at q
  by_cases hbe:b=e
  ·have q':H b=some (.own x):=by
    rcases he with z|z
    ·exact absurd (hbe.trans z) hb
    ·rw [hbe];exact z
   rw [q] at q';cases q'
   obtain ⟨v,hv⟩:=heo
   exact ⟨v,by rw [hbe];exact hv⟩
  ·refine (ok b u q).stay (fun c v hc r=>k c v ?_ r) (fun c r=>by rw [jC (nown c b r)];exact r) fun c xs r=>by rw [jC (ntup c xs r)];exact r
   rcases hc with rfl|hc
   ·exact hbe
   ·rintro rfl
    rcases he with z|z
    ·exact nown c b hc z
    ·rw [hc] at z;cases z;exact hb rfl
end
structure Un (fs ex:List Addr) (H H':Hp) (h h':Heap):Prop where
 keep:∀b o,h.get? b=some o→H b=none→b∉fs→b∉ex→h'.get? b=some o
 slot:∀b o,h.get? b=some o→H b=none→b∈fs→b∉ex→∃sl,h'.get? b=some {o with slots:=sl}
 free:∀b o,h.get? b=some o→H b=none→b∉ex→H' b=none
 there:∀b o,h.get? b=some o→b∉ex→∃o',h'.get? b=some o'
 tups:∀b xs,H b=some (.tup xs)→H' b=some (.tup xs)
 frzs:∀b o u,H b=some (.frz o u)→H' b=some (.frz o u)
 tbls:∀b ps,H b=some (.tbl ps)→∃more,H' b=some (.tbl (ps++more))
section
variable {fs fs' ex ex':List Addr} {H H1 H2:Hp} {h h1 h2 h':Heap} {a x e:Addr} {o:HO}
theorem Un.any (u:Un fs ex H H1 h h1) {b:Addr} {ob:Obj} (q:h.get? b=some ob) (n:H b=none) (hx:b∉ex):∃sl,h1.get? b=some {ob with slots:=sl}:=by
 by_cases hb:b∈fs
 ·exact u.slot b ob q n hb hx
 ·exact ⟨ob.slots,u.keep b ob q n hb hx⟩
theorem Un.trans (a:Un fs ex H H1 h h1) (b:Un fs ex H1 H2 h1 h2):Un fs ex H H2 h h2 where
 keep:=fun c ob q n hc hx=>b.keep c ob (a.keep c ob q n hc hx) (a.free c ob q n hx) hc hx
 slot:=fun c ob q n hc hx=>by
  obtain ⟨sl,e1⟩:=a.slot c ob q n hc hx
  obtain ⟨sl',e2⟩:=b.slot c _ e1 (a.free c ob q n hx) hc hx
  exact ⟨sl',e2⟩
 free:=fun c ob q n hx=>by
  obtain ⟨o',e1⟩:=a.there c ob q hx
  exact b.free c o' e1 (a.free c ob q n hx) hx
 there:=fun c ob q hx=>by
  obtain ⟨o',e1⟩:=a.there c ob q hx
  exact b.there c o' e1 hx
 tups:=fun c xs q=>b.tups c xs (a.tups c xs q)
 frzs:=fun c ob xs q=>b.frzs c ob xs (a.frzs c ob xs q)
 tbls:=fun c ps q=>by
  obtain ⟨m1,e1⟩:=a.tbls c ps q
  obtain ⟨m2,e2⟩:=b.tbls c _ e1
  exact ⟨m1++m2,by rw [e2,Array.append_assoc]⟩
theorem Un.kept (k:∀b u,h.get? b=some u→h'.get? b=some u):Un fs ex H H h h' :=
 ⟨fun b ob q _ _ _=>k b ob q,fun b ob q _ _ _=>⟨ob.slots,k b ob q⟩,fun _ _ _ n _=>n,fun b ob q _=>⟨ob,k b ob q⟩,fun _ _ q=>q,fun _ _ _ q=>q,fun _ ps q=>⟨#[],by rw [q];simp⟩⟩
theorem Un.refl:Un fs ex H H h h:=Un.kept fun _ _ q=>q
theorem Un.laid (k:∀b u,h.get? b=some u→h'.get? b=some u) (hp:h.objs.size≤a) (hn:H a=none):Un fs ex H (jB H a o) h h' where
 keep:=fun b u q _ _ _=>k b u q
 slot:=fun b u q _ _ _=>⟨u.slots,k b u q⟩
 free:=fun b u q n _=>by rw [jC (Nat.ne_of_lt (Nat.lt_of_lt_of_le (Heap.lt_size q) hp))];exact n
 there:=fun b u q _=>⟨u,k b u q⟩
 tups:=fun b xs q=>by rw [jC (qL q hn)];exact q
 frzs:=fun b u xs q=>by rw [jC (qL q hn)];exact q
 tbls:=fun b ps q=>⟨#[],by rw [jC (qL q hn),q];simp⟩
theorem Un.write (mu:yW (H x)) (he:e=x∨H e=some (.own x)) (k:∀b u,b≠e→h.get? b=some u→h'.get? b=some u) (heo:∃u,h'.get? e=some u):Un fs ex H (jB H x o) h h':=by
 have hx:∀b,H b=none→b≠x:=fun b n z=>by subst z;rw [n] at mu;exact mu
 have hb:∀b,H b=none→b≠e:=fun b n z=>by
  subst z
  rcases he with r|r
  ·exact hx b n r
  ·rw [n] at r;cases r
 have hm:∀b u,H b=some u→¬yW (some u)→b≠x:=fun b u q nm z=>by subst z;rw [q] at mu;exact nm mu
 refine ⟨fun b u q n _ _=>k b u (hb b n) q,fun b u q n _ _=>⟨u.slots,k b u (hb b n) q⟩,fun b u q n _=>by rw [jC (hx b n)];exact n,fun b u q _=>?_,
  fun b xs q=>by rw [jC (hm b _ q fun z=>z)];exact q,fun b u xs q=>by rw [jC (hm b _ q fun z=>z)];exact q,fun b ps q=>⟨#[],by rw [jC (hm b _ q fun z=>z),q];simp⟩⟩
 by_cases hbe:b=e
 ·subst hbe;exact heo
 ·exact ⟨u,k b u hbe q⟩
end
def trk (h:Heap) (H:Hp):List Addr:=(List.range h.objs.size).filter fun a=>(H a).isSome
def kH (h:Heap) (H:Hp):Heap:=PySem.W.hideAll h (trk h H)
theorem QL (h:Heap) (H:Hp):(kH h H).objs.size=h.objs.size:=PySem.W.hideAll_size _ _
theorem yG {h:Heap} {H:Hp} {b:Addr} {o:Obj} (e:h.get? b=some o) (n:H b=none):(kH h H).get? b=some o :=
 PySem.W.hideAll_get _ e fun hm=>by
  have q:(H b).isSome=true:=(List.mem_filter.mp hm).2
  rw [n] at q;simp at q
theorem ZI {h:Heap} {H:Hp} {b:Addr} {o:Obj} (e:(kH h H).get? b=some o):h.get? b=some o∧H b=none:=by
 have e':h.get? b=some o:=PySem.W.of_hideAll (trk h H) e
 refine ⟨e',?_⟩
 cases q:H b with
 |none=>rfl
 |some x =>
  have hm:b∈trk h H:=List.mem_filter.mpr ⟨List.mem_range.mpr (Heap.lt_size e'),by simp [q]⟩
  have z:(kH h H).get? b=none:=PySem.W.hideAll_none (trk h H) hm
  rw [z] at e;cases e
def eV (g h:Heap) (L:Addr):List (Addr×Obj):=(List.range h.objs.size).filterMap fun a=>if a=L∨(g.get? a).isSome=true then none else (h.get? a).map fun o=>(a,o)
def rest (g h:Heap) (L d:Addr):List (Addr×Obj):=(eV g h L).filter fun p=>decide (p.1≠d)
end L2
namespace L2
open PySem PySem.Spec PyProof.Rows
structure Mod (K:PySem.W.Frag) (mg:Str→Option Value) (base:Heap):Prop where
 kin:K.In base
 glob:base.Ns mainGlobals mg
 blt:∃mb,base.Ns builtinsNs mb∧∀x:Str,x≠"__name__"→mb x=bootBuiltins x
 nolimit:base.NoLimit
structure Cx where
 prog:Program
 w:World
 K:PySem.W.Frag
 mg:Str→Option Value
 base:Heap
 A:Around
 N:List Str
 s₀:Shared
 H₀:Hp
 env:Env
 outer:List Env
 stack:List Env
 ex:List Addr
 fn:Str→Bool
 calm:Bool
 pn:List (Addr×Obj)
 xe:Value→Shared→Prop
def kK (l:List Env):List Addr:=l.filterMap (·.frame)
abbrev Cx.fs (X:Cx):List Addr:=kK X.outer
def yU (sc:Scope) (x:Str):Prop:=sc.names.lookup x=some .local∨sc.names.lookup x=some .cell∨sc.names.lookup x=some .free
def v5 (sc:Scope) (x:Str):Prop:=sc.names.lookup x=some .local∨sc.names.lookup x=some .cell
def g5 (env:Env) (h:Heap) (m:Str→Option Value) (x:Str) (u:Value):Prop :=
 (env.kindOf x=some .local∧m x=some u)∨((env.kindOf x=some .cell∨env.kindOf x=some .free)∧∃c,env.cells.lookup x=some c∧h.IsCell c (some u))
structure Cx.Ok (X:Cx):Prop where
 mod:Mod X.K X.mg X.base
 kind:X.env.scope.kind=.function
 glob:X.env.globals=mainGlobals
 blt:X.env.builtins=builtinsNs
 above:X.s₀.heap.objs.size≤X.env.locals
 inj:∀x y c,X.env.cells.lookup x=some c→X.env.cells.lookup y=some c→x=y
 has:∀x,(X.env.kindOf x=some .cell∨X.env.kindOf x=some .free)→∃c,X.env.cells.lookup x=some c
 cab:∀x c,X.fn x=true→X.env.cells.lookup x=some c→X.s₀.heap.objs.size≤c
 hd:X.calm=true→X.A.handled=none
 frames:X.A.frames=some X.stack
 stk:X.stack=X.outer∨(X.stack=X.env::X.outer∧X.env.frame=some X.env.locals)
 exf:∀b∈X.ex,b≠X.env.locals∧∀x c,X.env.cells.lookup x=some c→c≠b
 bs:∀b o,X.base.get? b=some o→X.s₀.heap.get? b=some o∧X.H₀ b=none
 bsz:X.base.objs.size≤X.s₀.heap.objs.size
 noex:∀b o,X.base.get? b=some o→b∉X.ex
 exfs:∀b∈X.ex,b∉X.fs
 funs:X.s₀.heap.FunFrames X.base X.outer
 frf:∀b∈X.fs,X.H₀ b=none
structure Inv (X:Cx) (pins:List (Addr×Obj)) (σ:List (Option V)) (H:Hp) (s:Shared):Prop where
 ok:X.Ok
 os:s.os=X.s₀.os
 bare:AllBare s.gens
 base:Un X.fs X.ex X.H₀ H X.s₀.heap s.heap
 loc:∃m,s.heap.Ns X.env.locals m∧∀(i:Nat) (x:Str) (v:V),X.N[i]?=some x→σ[i]?=some (some v)→yU X.env.scope x→∃u,RelV v u∧g5 X.env s.heap m x u
 cell:∀x c,X.env.cells.lookup x=some c→∃v,s.heap.IsCell c v
 free:H X.env.locals=none
 freeC:∀x c,X.env.cells.lookup x=some c→H c=none
 pin:∀p∈X.pn++pins,s.heap.get? p.1=some p.2∧H p.1=none∧p.1≠X.env.locals∧p.1∉X.fs∧∀v,p.2.data≠.cell v
 hok:HOk X.prog X.w H s.heap
 len:σ.length=X.N.length
section
variable {X:Cx} {pins:List (Addr×Obj)} {σ:List (Option V)} {H H':Hp} {s:Shared} {h':Heap}
theorem Cx.Ok.nofr (ok:X.Ok) {b:Addr} {o:Obj} (e:X.base.get? b=some o):b∉X.fs:=fun hb=>by
 have:=(ok.funs.mem hb).1
 rw [e] at this;cases this
theorem Inv.bs (I:Inv X pins σ H s):∀b o,X.base.get? b=some o→s.heap.get? b=some o∧H b=none:=fun b o e =>
 ⟨I.base.keep b o (I.ok.bs b o e).1 (I.ok.bs b o e).2 (I.ok.nofr e) (I.ok.noex b o e),I.base.free b o (I.ok.bs b o e).1 (I.ok.bs b o e).2 (I.ok.noex b o e)⟩
theorem Inv.bk (I:Inv X pins σ H s):∀b o,X.base.get? b=some o→s.heap.get? b=some o:=fun b o e=>(I.bs b o e).1
theorem Inv.mod (I:Inv X pins σ H s):Mod X.K X.mg X.base:=I.ok.mod
theorem Inv.kIn (I:Inv X pins σ H s):X.K.In s.heap:=I.ok.mod.kin.keeps I.bk
theorem Inv.nolimit (I:Inv X pins σ H s):s.heap.NoLimit:=I.ok.mod.nolimit.keeps I.bk
theorem Inv.lt (I:Inv X pins σ H s):X.env.locals<s.heap.objs.size:=let ⟨_,hn,_⟩:=I.loc;hn.lt
theorem Inv.sz (I:Inv X pins σ H s):X.s₀.heap.objs.size≤s.heap.objs.size:=Nat.le_trans I.ok.above (Nat.le_of_lt I.lt)
theorem Inv.nofs (I:Inv X pins σ H s) {a:Addr} (h:s.heap.objs.size≤a):a∉X.fs:=fun hb=>by
 obtain ⟨_,o,ho,_⟩:=I.ok.funs.mem hb
 exact absurd (Nat.lt_of_lt_of_le (Heap.lt_size ho) (Nat.le_trans I.sz h)) (Nat.lt_irrefl _)
theorem Inv.cne (I:Inv X pins σ H s):∀x c,X.env.cells.lookup x=some c→c≠X.env.locals:=fun x c e z=>by
 obtain ⟨v,o,ho,hd⟩:=I.cell x c e
 obtain ⟨m,⟨o',es,ep,ho',hd',_⟩,_⟩:=I.loc
 rw [z,ho'] at ho;cases ho;rw [hd'] at hd;cases hd
theorem Inv.funs (I:Inv X pins σ H s):s.heap.FunFrames X.base X.outer:=by
 have all:∀(l:List Env),(∀b∈kK l,b∈X.fs)→X.s₀.heap.FunFrames X.base l→s.heap.FunFrames X.base l:=by
  intro l
  induction l with
  |nil=>intro _ _;trivial
  |cons env r ih =>
   intro hs hl
   obtain ⟨hk,⟨L,o,hf,hn,ho,hd⟩,hr⟩:=hl
   have hL:L∈X.fs:=hs L (by unfold kK;rw [List.filterMap_cons,hf];exact List.mem_cons_self)
   obtain ⟨sl,e⟩:=I.base.slot L o ho (I.ok.frf L hL) hL fun z=>I.ok.exfs L z hL
   exact ⟨hk,⟨L,_,hf,hn,e,hd⟩,ih (fun b hb=>hs b (by unfold kK;rw [List.filterMap_cons,hf];exact List.mem_cons_of_mem _ hb)) hr⟩
 exact all X.outer (fun _ hb=>hb) I.ok.funs
theorem Inv.stack (I:Inv X pins σ H s):s.heap.FunFrames X.base X.stack:=by
 rcases I.ok.stk with e|⟨e,hf⟩
 ·rw [e];exact I.funs
 ·rw [e]
  obtain ⟨m,hn,_⟩:=I.loc
  refine .cons (by rw [I.ok.kind];decide) hf hn ?_ I.funs
  exact Heap.get?_none_of_le (Nat.le_trans I.ok.bsz I.ok.above)
theorem Inv.stkSub (I:Inv X pins σ H s):∀b∈kK X.stack,b∈X.env.locals::X.fs:=fun b hb=>by
 rcases I.ok.stk with e|⟨e,hf⟩
 ·rw [e] at hb;exact List.mem_cons_of_mem _ hb
 ·rw [e] at hb
  unfold kK at hb
  rw [List.filterMap_cons,hf] at hb
  exact hb
theorem Inv.stkFree (I:Inv X pins σ H s):∀b∈kK X.stack,H b=none:=fun b hb=>by
 rcases List.mem_cons.mp (I.stkSub b hb) with e|hb
 ·rw [e];exact I.free
 ·obtain ⟨_,o,ho,_⟩:=I.ok.funs.mem hb
  exact I.base.free b o ho (I.ok.frf b hb) fun z=>I.ok.exfs b z hb
theorem Inv.step {g':Array GenState} {t':Nat} {d':Drawn} {ch:List Addr} (I:Inv X pins σ H s)
  (hch:∀b∈ch,(b∈X.ex∨X.s₀.heap.objs.size≤b)∧b≠X.env.locals∧(∀x c,X.env.cells.lookup x=some c→c≠b)∧∀p∈X.pn++pins,p.1≠b)
  (keep:∀b o,b≠X.env.locals→b∉X.fs→b∉ch→s.heap.get? b=some o→H b=none→h'.get? b=some o)
  (slot:∀b o,b≠X.env.locals→b∈X.fs→b∉ch→s.heap.get? b=some o→H b=none→∃sl,h'.get? b=some {o with slots:=sl}) (free:∀b o,b∉ch→s.heap.get? b=some o→H b=none→H' b=none)
  (there:∀b o,b∉ch→s.heap.get? b=some o→∃o',h'.get? b=some o')
  (tups:∀b xs,H b=some (.tup xs)→H' b=some (.tup xs)) (frzs:∀b o u,H b=some (.frz o u)→H' b=some (.frz o u)) (tbls:∀b ps,H b=some (.tbl ps)→∃more,H' b=some (.tbl (ps++more)))
  (ns:∀m,s.heap.Ns X.env.locals m→h'.Ns X.env.locals m) (hok:HOk X.prog X.w H' h') (hg:AllBare g') :
  Inv X pins σ H' {s with heap:=h',gens:=g',drawn:=d',toks:=t'}:=by
 have neL:∀b o,X.s₀.heap.get? b=some o→b≠X.env.locals:=fun b o e=>Nat.ne_of_lt (Nat.lt_of_lt_of_le (Heap.lt_size e) I.ok.above)
 have neC:∀b o,X.s₀.heap.get? b=some o→b∉X.ex→b∉ch:=fun b o e hx hb=>by
  rcases (hch b hb).1 with z|z
  ·exact hx z
  ·exact absurd (Nat.lt_of_lt_of_le (Heap.lt_size e) z) (Nat.lt_irrefl _)
 have cellK:∀x c,X.env.cells.lookup x=some c→∀v,s.heap.IsCell c v→h'.IsCell c v:=fun x c e v ⟨o,ho,hd⟩=>by
  have nch:c∉ch:=fun z=>(hch c z).2.2.1 x c e rfl
  by_cases hc:c∈X.fs
  ·obtain ⟨sl,q⟩:=slot c o (I.cne x c e) hc nch ho (I.freeC x c e)
   exact ⟨_,q,hd⟩
  ·exact ⟨o,keep c o (I.cne x c e) hc nch ho (I.freeC x c e),hd⟩
 refine ⟨I.ok,I.os,hg,⟨fun b o e n hb hx=>?_,fun b o e n hb hx=>?_,fun b o e n hx=>?_,fun b o e hx=>?_,fun b xs e=>tups b xs (I.base.tups b xs e),fun b o xs e=>frzs b o xs (I.base.frzs b o xs e),fun b ps e=>?_⟩,?_,fun x c e=>?_,?_,fun x c e=>?_,fun p hp=>?_,hok,I.len⟩
 ·exact keep b o (neL b o e) hb (neC b o e hx) (I.base.keep b o e n hb hx) (I.base.free b o e n hx)
 ·obtain ⟨sl,e1⟩:=I.base.slot b o e n hb hx
  obtain ⟨sl',e2⟩:=slot b _ (neL b o e) hb (neC b o e hx) e1 (I.base.free b o e n hx)
  exact ⟨sl',e2⟩
 ·obtain ⟨o',e1⟩:=I.base.there b o e hx
  exact free b o' (neC b o e hx) e1 (I.base.free b o e n hx)
 ·obtain ⟨o',e1⟩:=I.base.there b o e hx
  exact there b o' (neC b o e hx) e1
 ·obtain ⟨m1,e1⟩:=I.base.tbls b ps e
  obtain ⟨m2,e2⟩:=tbls b _ e1
  exact ⟨m1++m2,by rw [e2,Array.append_assoc]⟩
 ·obtain ⟨m,hn,hl⟩:=I.loc
  refine ⟨m,ns m hn,fun i x v e1 e2 e3=>?_⟩
  obtain ⟨u,r,l⟩:=hl i x v e1 e2 e3
  refine ⟨u,r,?_⟩
  rcases l with l|⟨k,c,e,z⟩
  ·exact .inl l
  ·exact .inr ⟨k,c,e,cellK x c e _ z⟩
 ·obtain ⟨v,z⟩:=I.cell x c e
  exact ⟨v,cellK x c e v z⟩
 ·obtain ⟨m,⟨o,_,_,ho,_⟩,_⟩:=I.loc
  exact free _ o (fun z=>(hch _ z).2.1 rfl) ho I.free
 ·obtain ⟨v,o,ho,hd⟩:=I.cell x c e
  exact free c o (fun z=>(hch c z).2.2.1 x c e rfl) ho (I.freeC x c e)
 ·obtain ⟨e,n,ne,nf,d⟩:=I.pin p hp
  have nch:p.1∉ch:=fun z=>(hch p.1 z).2.2.2 p hp rfl
  exact ⟨keep p.1 p.2 ne nf nch e n,free p.1 p.2 nch e n,ne,nf,d⟩
theorem Inv.un {t':Nat} (I:Inv X pins σ H s) (u:Un X.fs [] H H' s.heap h') (hok:HOk X.prog X.w H' h'):Inv X pins σ H' {s with heap:=h',toks:=t'}:=by
  obtain ⟨m,⟨o,es,ep,ho,r⟩,_⟩:=id I.loc
  obtain ⟨sl,hL⟩:=u.any ho I.free (by simp)
  exact I.step (g':=s.gens) (d':=s.drawn) (ch:=[]) (fun _ z=>nomatch z) (fun b o _ hb _ e n=>u.keep b o e n hb (by simp)) (fun b o _ hb _ e n=>u.slot b o e n hb (by simp)) (fun b o _ e n=>u.free b o e n (by simp)) (fun b o _ e=>u.there b o e (by simp)) u.tups u.frzs u.tbls (fun m' hm=>by
    obtain ⟨o',es',ep',ho',r'⟩:=hm
    rw [ho] at ho';cases ho'
    exact ⟨_,es',ep',hL,r'⟩) hok I.bare
theorem Inv.call {g':Array GenState} {t':Nat} {d':Drawn} {ch:List Addr} (I:Inv X pins σ H s) (u:Un (kK X.stack) ch H H' s.heap h') (hok:HOk X.prog X.w H' h') (hg:AllBare g')
  (hch:∀b∈ch,(b∈X.ex∨X.s₀.heap.objs.size≤b)∧b≠X.env.locals∧(∀x c,X.env.cells.lookup x=some c→c≠b)∧∀p∈X.pn++pins,p.1≠b) :
  Inv X pins σ H' {s with heap:=h',gens:=g',drawn:=d',toks:=t'}:=by
 obtain ⟨m,⟨o,es,ep,ho,r⟩,_⟩:=id I.loc
 obtain ⟨sl,hL⟩:=u.any ho I.free fun z=>(hch _ z).2.1 rfl
 exact I.step (ch:=ch) hch (fun b o hL hb hc e n=>u.keep b o e n (fun z=>(List.mem_cons.mp (I.stkSub b z)).elim hL hb) hc) (fun b o _ _ hc e n=>u.any e n hc) (fun b o hc e n=>u.free b o e n hc) (fun b o hc e=>u.there b o e hc) u.tups u.frzs u.tbls (fun m' hm=>by
  obtain ⟨o',es',ep',ho',r'⟩:=hm
  rw [ho] at ho';cases ho'
  exact ⟨_,es',ep',hL,r'⟩) hok hg
theorem Inv.turned {t':Nat} {it:Addr} (I:Inv X pins σ H s) (k:∀b o,b≠it→s.heap.get? b=some o→h'.get? b=some o) (hn:H it=none) (hL:it≠X.env.locals)
    (h1:it∈X.ex∨X.s₀.heap.objs.size≤it) (h2:∀x c,X.env.cells.lookup x=some c→c≠it) (h3:∀p∈X.pn++pins,p.1≠it):Inv X pins σ H {s with heap:=h',toks:=t'}:=by
  have nit:∀b u,H b=some u→b≠it:=fun b u e z=>by rw [z,hn] at e;cases e
  refine I.step (g':=s.gens) (d':=s.drawn) (ch:=[it]) (fun b hb=>?_) (fun b o _ _ hc e _=>k b o (fun z=>hc (by simp [z])) e) (fun b o _ _ hc e _=>⟨o.slots,k b o (fun z=>hc (by simp [z])) e⟩) (fun _ _ _ _ n=>n)
    (fun b o hc e=>⟨o,k b o (fun z=>hc (by simp [z])) e⟩) (fun _ _ e=>e) (fun _ _ _ e=>e) (fun b ps e=>⟨#[],by rw [e];simp⟩) (fun m hm=>?_) (fun b u e=>?_) I.bare
  · have e:b=it:=by simpa using hb
    subst e
    exact ⟨h1,hL,h2,h3⟩
  · obtain ⟨o,es,ep,ho,r⟩:=hm
    exact ⟨o,es,ep,k _ o (Ne.symm hL) ho,r⟩
  · refine (I.hok b u e).stay (fun c v hc q=>k c v ?_ q) (fun _ q=>q) fun _ _ q=>q
    rcases hc with z|z
    · rw [z];exact nit b u e
    · exact nit c _ z
theorem Inv.tok (I:Inv X pins σ H s) (t:Nat):Inv X pins σ H {s with toks:=t}:=I.un (h':=s.heap) (t':=t) Un.refl I.hok
theorem Inv.kept {t':Nat} (I:Inv X pins σ H s) (k:∀b u,s.heap.get? b=some u→h'.get? b=some u):Inv X pins σ H {s with heap:=h',toks:=t'}:=I.un (Un.kept k) (I.hok.kept k)
theorem Inv.laid {a:Addr} {o:HO} {t':Nat} (I:Inv X pins σ H s) (k:∀b u,s.heap.get? b=some u→h'.get? b=some u) (hp:s.heap.objs.size≤a) (new:ObjOk X.prog X.w (jB H a o) h' a o) :
  Inv X pins σ (jB H a o) {s with heap:=h',toks:=t'}:=I.un (Un.laid k hp (I.hok.fresh hp)) (I.hok.laid k hp new)
theorem Inv.write {x e:Addr} {o:HO} {t':Nat} (I:Inv X pins σ H s) (mu:yW (H x)) (he:e=x∨H e=some (.own x)) (k:∀b u,b≠e→s.heap.get? b=some u→h'.get? b=some u) (heo:∃u,h'.get? e=some u)
  (new:ObjOk X.prog X.w (jB H x o) h' x o):Inv X pins σ (jB H x o) {s with heap:=h',toks:=t'}:=I.un (Un.write mu he k heo) (I.hok.write mu he k heo new)
theorem Inv.pins_of {pins':List (Addr×Obj)} (I:Inv X pins σ H s) (h:∀p∈pins',s.heap.get? p.1=some p.2∧H p.1=none∧p.1≠X.env.locals∧p.1∉X.fs∧∀v,p.2.data≠.cell v):Inv X pins' σ H s :=
 ⟨I.ok,I.os,I.bare,I.base,I.loc,I.cell,I.free,I.freeC,fun p hp=>(List.mem_append.mp hp).elim (fun z=>I.pin p (List.mem_append_left _ z)) (h p),I.hok,I.len⟩
theorem QY {N:List Str} (hN:N.Nodup) {i j:Nat} {x:Str} (a:N[i]?=some x) (b:N[j]?=some x):i=j:=by
 obtain ⟨h1,e1⟩:=List.getElem?_eq_some_iff.mp a
 obtain ⟨h2,e2⟩:=List.getElem?_eq_some_iff.mp b
 exact (List.getElem_inj hN).mp (e1.trans e2.symm)
theorem QH {M:Model} {A:Around} {E:Value→Shared→Prop} {i:Nat} {x:Str} {v:V} {u:Value} {Q:Unit→Shared→Prop} (I:Inv X pins σ H s) (hN:X.N.Nodup) (hi:X.N[i]?=some x) (hx:v5 X.env.scope x) (r:RelV v u)
  (h:∀s',Inv X pins (σ.set i (some v)) H s'→(∃a,Heap.SameBut a s.heap s'.heap∧(a=X.env.locals∨X.env.cells.lookup x=some a))→Q () s') (hf:X.fn x=true∨X.env.scope.names.lookup x=some .local:=by first|exact .inl rfl|exact .inr rfl|assumption):wpAny M A (storeName X.env x u) Q E s:=by
 obtain ⟨m,hn,hl⟩:=id I.loc
 have hcls:(X.env.scope.kind == .class||(X.env.scope.kind == .module&&X.env.locals != X.env.globals))=false:=by rw [I.ok.kind];rfl
 have hiσ:i<σ.length:=by rw [I.len];exact (List.getElem?_eq_some_iff.mp hi).1
 have cne:=I.cne
 have tracked:∀{a:Addr} {h':Heap},(∃o,s.heap.get? a=some o∧H a=none)→Heap.SameBut a s.heap h'→HOk X.prog X.w H h':=fun {a h'} ha hs b ob e=>by
  obtain ⟨_,_,hfree⟩:=ha
  refine (I.hok b ob e).stay (fun c w' hc q=>(hs.2 c ?_).trans q) (fun _ q=>q) fun _ _ q=>q
  rintro rfl
  rcases hc with rfl|hc
  ·rw [hfree] at e;cases e
  ·rw [hfree] at hc;cases hc
 rcases hx with hk|hk
 ·refine wpAny_storeName_local hk hn (fun h' hn' hs=>?_) hcls
  obtain ⟨oL,_,_,hoL,_⟩:=id hn
  refine h _ ⟨I.ok,I.os,I.bare,⟨fun b o e n hb hx=>?_,fun b o e n hb hx=>?_,I.base.free,fun b o e hx=>?_,I.base.tups,I.base.frzs,I.base.tbls⟩,⟨_,hn',fun j y v' e1 e2 e3=>?_⟩,fun y c e=>?_,I.free,I.freeC,fun p hp=>?_,tracked ⟨oL,hoL,I.free⟩ hs,by simpa using I.len⟩ ⟨_,hs,.inl rfl⟩
  ·exact (hs.2 b (Nat.ne_of_lt (Nat.lt_of_lt_of_le (Heap.lt_size e) I.ok.above))).trans (I.base.keep b o e n hb hx)
  ·obtain ⟨sl,e1⟩:=I.base.slot b o e n hb hx
   exact ⟨sl,(hs.2 b (Nat.ne_of_lt (Nat.lt_of_lt_of_le (Heap.lt_size e) I.ok.above))).trans e1⟩
  ·obtain ⟨o',e1⟩:=I.base.there b o e hx
   exact ⟨o',(hs.2 b (Nat.ne_of_lt (Nat.lt_of_lt_of_le (Heap.lt_size e) I.ok.above))).trans e1⟩
  ·by_cases hj:j=i
   ·subst hj
    rw [hi] at e1;cases e1
    rw [List.getElem?_set_self hiσ] at e2
    cases e2
    exact ⟨u,r,.inl ⟨hk,by simp⟩⟩
   ·rw [List.getElem?_set_ne (Ne.symm hj)] at e2
    obtain ⟨u',r',q⟩:=hl j y v' e1 e2 e3
    refine ⟨u',r',?_⟩
    rcases q with ⟨k,e⟩|⟨k,c,e,z⟩
    ·refine .inl ⟨k,?_⟩
     have:y≠x:=fun e=>hj (QY hN e1 (e▸hi))
     simp [this,e]
    ·exact .inr ⟨k,c,e,z.sameBut hs (cne y c e)⟩
  ·obtain ⟨w',z⟩:=I.cell y c e
   exact ⟨w',z.sameBut hs (cne y c e)⟩
  ·obtain ⟨e,n,ne,nf,d⟩:=I.pin p hp
   exact ⟨(hs.2 p.1 ne).trans e,n,ne,nf,d⟩
 ·have hfn:X.fn x=true:=by
   rcases hf with z|z
   ·exact z
   ·rw [z] at hk;cases hk
  obtain ⟨c,hc⟩:=I.ok.has x (.inl hk)
  obtain ⟨w',z⟩:=I.cell x c hc
  refine wpAny_storeName_cell I.ok.kind hk hc z (fun h' hc' hs=>?_)
  obtain ⟨oc,hoc,hocd⟩:=id z
  refine h {s with heap:=h'} ⟨I.ok,I.os,I.bare,⟨fun b o e n hb hx=>?_,fun b o e n hb hx=>?_,I.base.free,fun b o e hx=>?_,I.base.tups,I.base.frzs,I.base.tbls⟩,⟨m,hn.sameBut hs (Ne.symm (cne x c hc)),fun j y v' e1 e2 e3=>?_⟩,fun y c' e=>?_,I.free,I.freeC,fun p hp=>?_,tracked ⟨oc,hoc,I.freeC x c hc⟩ hs,by simpa using I.len⟩ ⟨c,hs,.inr hc⟩
  ·exact (hs.2 b (Nat.ne_of_lt (Nat.lt_of_lt_of_le (Heap.lt_size e) (I.ok.cab x c hfn hc)))).trans (I.base.keep b o e n hb hx)
  ·obtain ⟨sl,e1⟩:=I.base.slot b o e n hb hx
   exact ⟨sl,(hs.2 b (Nat.ne_of_lt (Nat.lt_of_lt_of_le (Heap.lt_size e) (I.ok.cab x c hfn hc)))).trans e1⟩
  ·obtain ⟨o',e1⟩:=I.base.there b o e hx
   exact ⟨o',(hs.2 b (Nat.ne_of_lt (Nat.lt_of_lt_of_le (Heap.lt_size e) (I.ok.cab x c hfn hc)))).trans e1⟩
  ·by_cases hj:j=i
   ·subst hj
    rw [hi] at e1;cases e1
    rw [List.getElem?_set_self hiσ] at e2
    cases e2
    exact ⟨u,r,.inr ⟨.inl hk,c,hc,hc'⟩⟩
   ·rw [List.getElem?_set_ne (Ne.symm hj)] at e2
    obtain ⟨u',r',q⟩:=hl j y v' e1 e2 e3
    refine ⟨u',r',?_⟩
    rcases q with q|⟨k,c',e,z'⟩
    ·exact .inl q
    ·refine .inr ⟨k,c',e,z'.sameBut hs ?_⟩
     rintro rfl
     exact hj (QY hN e1 (I.ok.inj _ _ _ e hc▸hi))
  ·by_cases hcc:c'=c
   ·subst hcc;exact ⟨_,hc'⟩
   ·obtain ⟨w2,z2⟩:=I.cell y c' e
    exact ⟨w2,z2.sameBut hs hcc⟩
  ·obtain ⟨e,n,ne,nf,d⟩:=I.pin p hp
   refine ⟨(hs.2 p.1 ?_).trans e,n,ne,nf,d⟩
   intro q
   rw [q,hoc] at e
   have q':oc=p.2:=Option.some.inj e
   exact d w' (by rw [← q'];exact hocd)
theorem JA {M:Model} {A:Around} {E:Value→Shared→Prop} {i:Nat} {x:Str} {v:V} {u:Value} {Q:Unit→Shared→Prop} (I:Inv X pins σ H s) (hN:X.N.Nodup) (hi:X.N[i]?=some x) (hx:v5 X.env.scope x) (r:RelV v u)
  (h:∀s',Inv X pins (σ.set i (some v)) H s'→Q () s') (hf:X.fn x=true∨X.env.scope.names.lookup x=some .local:=by first|exact .inl rfl|exact .inr rfl|assumption):wpAny M A (storeName X.env x u) Q E s :=
 QH I hN hi hx r (fun s' I' _=>h s' I') hf
theorem Inv.call' {s':Shared} {ch:List Addr} (I:Inv X pins σ H s) (ho:s'.os=s.os) (u:Un (kK X.stack) ch H H' s.heap s'.heap) (hok:HOk X.prog X.w H' s'.heap) (hg:AllBare s'.gens)
  (hch:∀b∈ch,(b∈X.ex∨X.s₀.heap.objs.size≤b)∧b≠X.env.locals∧(∀x c,X.env.cells.lookup x=some c→c≠b)∧∀p∈X.pn++pins,p.1≠b):Inv X pins σ H' s':=by
 obtain ⟨h',g',d',t',o'⟩:=s'
 have e:o'=s.os:=ho
 subst e
 exact I.call (g':=g') (t':=t') (d':=d') u hok hg hch
end
abbrev XK:=Value→Option Addr→Hp→Prop
abbrev St:=List (Option V)
abbrev VK:=V→Hp→Prop
abbrev TE:=St→Hp→VK→Prop
abbrev TT:=St→Hp→(Bool→Hp→Prop)→Prop
abbrev TA:=St→Hp→(List V→Hp→Prop)→Prop
structure Ends where
 nx:St→Hp→Prop
 rt:VK
 bk:St→Hp→Prop:=fun _ _=>False
 ct:St→Hp→Prop:=fun _ _=>False
abbrev TS:=Ends→St→Hp→Prop
def EP (X:Cx) (pins:List (Addr×Obj)) (σ:St) (Q:VK) (u:Value) (s':Shared):Prop:=∃v H',Inv X pins σ H' s'∧RelV v u∧Q v H'
def TP (X:Cx) (pins:List (Addr×Obj)) (σ:St) (Q:Bool→Hp→Prop) (b:Bool) (s':Shared):Prop:=∃H',Inv X pins σ H' s'∧Q b H'
def AP (X:Cx) (pins:List (Addr×Obj)) (σ:St) (Q:List V→Hp→Prop) (us:List Value) (s':Shared):Prop:=∃vs H',Inv X pins σ H' s'∧Vals vs us∧Q vs H'
def SP (X:Cx) (pins:List (Addr×Obj)) (D:Ends) (f:Flow) (s':Shared):Prop :=
 match f with
 |.next=>∃σ' H',Inv X pins σ' H' s'∧D.nx σ' H'
 |.brk=>∃σ' H',Inv X pins σ' H' s'∧D.bk σ' H'
 |.cont=>∃σ' H',Inv X pins σ' H' s'∧D.ct σ' H'
 |.ret u=>∃v σ' H',Inv X pins σ' H' s'∧RelV v u∧D.rt v H'
def PE (X:Cx) (e:Expr) (t:TE):Prop :=
 ∀(pins:List (Addr×Obj)) (s:Shared) (σ:St) (H:Hp) (Q:VK),Inv X pins σ H s→t σ H Q→wpAny (model X.prog X.w) X.A (eval e X.env) (EP X pins σ Q) X.xe s
def PT (X:Cx) (e:Expr) (t:TT):Prop :=
 ∀(pins:List (Addr×Obj)) (s:Shared) (σ:St) (H:Hp) (Q:Bool→Hp→Prop),Inv X pins σ H s→t σ H Q→wpAny (model X.prog X.w) X.A (isTrue e X.env (eval e X.env)) (TP X pins σ Q) X.xe s
def PW (X:Cx) (e:Expr) (t:TT):Prop :=
 ∀(whole:Sem Value) (pins:List (Addr×Obj)) (s:Shared) (σ:St) (H:Hp) (Q:Bool→Hp→Prop),Inv X pins σ H s→t σ H Q→wpAny (model X.prog X.w) X.A (isTrue e X.env whole) (TP X pins σ Q) X.xe s
theorem PW.pt {X:Cx} {e:Expr} {t:TT} (h:PW X e t):PT X e t:=h _
def PA (X:Cx) (es:List Expr) (t:TA):Prop :=
 ∀(pos:Pos) (pins:List (Addr×Obj)) (s:Shared) (σ:St) (H:Hp) (Q:List V→Hp→Prop),Inv X pins σ H s→t σ H Q→wpAny (model X.prog X.w) X.A (spliced (backTo pos (starEach es X.env))) (AP X pins σ Q) X.xe s
def PS (X:Cx) (st:Stmt) (t:TS):Prop :=
 ∀(pins:List (Addr×Obj)) (s:Shared) (σ:St) (H:Hp) (D:Ends),Inv X pins σ H s→t D σ H→wpAny (model X.prog X.w) X.A (exec st X.env) (SP X pins D) X.xe s
def PSs (X:Cx) (st:List Stmt) (t:TS):Prop :=
 ∀(pins:List (Addr×Obj)) (s:Shared) (σ:St) (H:Hp) (D:Ends),Inv X pins σ H s→t D σ H→wpAny (model X.prog X.w) X.A (execs st X.env) (SP X pins D) X.xe s
theorem jF {α:Type} {t:Sem α} {Q Q':α→Shared→Prop} {M:Model} {A:Around} {E:Value→Shared→Prop} {s:Shared} (h:wpAny M A t Q E s) (hQ:∀a s,Q a s→Q' a s):wpAny M A t Q' E s:=wpAny_mono h hQ fun _ _ x=>x
end L2
namespace L2
open PySem PySem.Spec PyProof.Rows
section
variable {X:Cx}
def Z5 (i:Nat):TE:=fun σ H Q=>∃v,σ[i]?=some (some v)∧Q v H
def tC (v:V):TE:=fun _ H Q=>Q v H
theorem ZO {i:Nat} {x:Str} {pos:Pos} (hN:X.N[i]?=some x) (hv:yU X.env.scope x) (hd:(x == ("__debug__":Str))=false:=by decide) (hcd:(x == ("__classdict__":Str))=false:=by decide):PE X (.Name x pos) (Z5 i):=by
 intro pins s σ H Q I h
 obtain ⟨v,e,h⟩:=h
 obtain ⟨m,hn,hl⟩:=I.loc
 obtain ⟨u,r,l⟩:=hl i x v hN e hv
 have fin:EP X pins σ Q u s:=⟨v,H,I,r,h⟩
 rcases l with ⟨hk,hm⟩|⟨hk,c,hc,hcell⟩
 ·exact wpAny_Name (wpAny_loadName_local I.ok.kind hk hn hm fin) hd
 ·rcases hk with hk|hk
  ·exact wpAny_Name (wpAny_loadName_cell I.ok.kind hk hc hcell fin) hd
  ·exact wpAny_Name (wpAny_loadName_free I.ok.kind hk hc hcell fin hcd) hd
theorem jD {i j pos}:PE X (.Constant (.int i) j pos) (tC (.int i)):=fun _ _ _ H _ I h=>wpAny_Constant_int ⟨.int i,H,I.tok _,⟨_,rfl⟩,h⟩
theorem zR {b j pos}:PE X (.Constant (.bool b) j pos) (tC (.bl b)):=fun _ _ _ H _ I h=>Constant_bool ⟨.bl b,H,I,rfl,h⟩
theorem JQ {j pos}:PE X (.Constant .none j pos) (tC .non):=fun _ _ _ H _ I h=>Constant_none ⟨.non,H,I,rfl,h⟩
theorem vN {x j pos}:PE X (.Constant (.str x) j pos) (tC (.str x)):=fun _ _ _ H _ I h=>Calls.Constant_str ⟨.str x,H,I.tok _,⟨_,rfl⟩,h⟩
def Gl (X:Cx) (x:Str):Prop:=X.env.kindOf x=some .globalImplicit
theorem ZJ {E:Value→Shared→Prop} {pins:List (Addr×Obj)} {s:Shared} {σ:St} {H:Hp} {x:Str} {u:Value} {pos:Pos} {Q:Value→Shared→Prop} (I:Inv X pins σ H s) (hg:Gl X x) (hm:X.mg x=some u) (h:Q u s)
  (hd:(x == ("__debug__":Str))=false:=by decide):wpAny (model X.prog X.w) X.A (eval (.Name x pos) X.env) Q E s :=
 Calls.Name_function_global I.ok.kind hg (Calls.loadGlobal_global (by rw [I.ok.glob];exact I.mod.glob.keeps I.bk) hm h) hd
theorem zL {E:Value→Shared→Prop} {pins:List (Addr×Obj)} {s:Shared} {σ:St} {H:Hp} {x:Str} {u:Value} {pos:Pos} {Q:Value→Shared→Prop} (I:Inv X pins σ H s) (hg:Gl X x) (hm:X.mg x=none) (hv:bootBuiltins x=some u) (h:Q u s)
  (hn:x≠"__name__":=by decide) (hd:(x == ("__debug__":Str))=false:=by decide):wpAny (model X.prog X.w) X.A (eval (.Name x pos) X.env) Q E s:=by
 obtain ⟨mb,h1,h2⟩:=I.mod.blt
 exact Calls.Name_function_global I.ok.kind hg (Calls.loadGlobal_builtin (by rw [I.ok.glob];exact I.mod.glob.keeps I.bk) hm (by rw [I.ok.blt];exact h1.keeps I.bk) ((h2 x hn).trans hv) h) hd
theorem ZG {x:Str} {v:V} {u:Value} {pos:Pos} (hg:Gl X x) (hm:X.mg x=none) (hv:bootBuiltins x=some u) (r:RelV v u) (hn:x≠"__name__":=by decide) (hd:(x == ("__debug__":Str))=false:=by decide):PE X (.Name x pos) (tC v) :=
 fun _ _ _ H _ I h=>zL I hg hm hv ⟨v,H,I,r,h⟩ hn hd
variable {a b:Expr} {ta tb:TE} {pos:Pos}
def tB (t:TE):TT:=fun σ H Q=>t σ H fun x H1=>∃c,x=.bl c∧Q c H1
theorem ZN {e:Expr} {t:TE} (h:PE X e t) (he:∀whole,isTrue e X.env whole=(do let v ← whole;standAt e.pos;holding [v] (truthy v)):=by intro _;rfl):PT X e (tB t):=by
 intro pins s σ H Q I hw
 refine isTrue_plain (jF (h pins s σ H _ I hw) fun v s1 ⟨x,H1,I1,r1,q1⟩=>?_) (he _)
 obtain ⟨d,rfl,q⟩:=q1
 cases r1
 exact wpAny_truthy_bool ⟨H1,I1,q⟩
variable {tA tB':TT} {rest:List Expr}
def g9 (t u:TT):TT:=fun σ H Q=>t σ H fun c H1=>if c=true then Q true H1 else u σ H1 Q
def gK (t:TT):TT:=fun σ H Q=>t σ H fun c H1=>Q (!c) H1
theorem JO (ha:PT X a tA):PW X (.BoolOp .Or [a] pos) tA:=by
 intro wh pins s σ H Q I h
 refine isTrue_or (jF (ha pins s σ H Q I h) fun c s1 e=>?_)
 cases c with
 |false=>exact isTrue_or_nil e
 |true=>exact e
theorem zQ (ha:PT X a tA) (hb:PW X (.BoolOp .Or (b::rest) pos) tB'):PW X (.BoolOp .Or (a::b::rest) pos) (g9 tA tB'):=by
 intro wh pins s σ H Q I h
 refine isTrue_or (jF (ha pins s σ H _ I h) fun c s1 ⟨H1,I1,q1⟩=>?_)
 cases c with
 |true=>exact ⟨H1,I1,q1⟩
 |false=>exact hb wh pins s1 σ H1 Q I1 q1
theorem JP (ha:PT X a tA):PT X (.UnaryOp .Not a pos) (gK tA):=by
 intro pins s σ H Q I h
 exact isTrue_not (ha pins s σ H (fun c H1=>Q (!c) H1) I h)
def fW (ta tb:TE):TE:=fun σ H Q=>ta σ H fun x H1=>∃c,x=.bl c∧if c=true then tb σ H1 Q else Q (.bl false) H1
def gJ (ta tb:TE):TE:=fun σ H Q=>ta σ H fun x H1=>∃c,x=.bl c∧if c=true then Q (.bl true) H1 else tb σ H1 Q
theorem vI {op} {t:TE} (h:PE X a t):PE X (.BoolOp op [a] pos) t:=fun pins s σ H Q I hw=>BoolOp_one (h pins s σ H Q I hw)
theorem yM (ha:PE X a ta) (hb:PE X (.BoolOp .And (b::rest) pos) tb):PE X (.BoolOp .And (a::b::rest) pos) (fW ta tb):=by
 intro pins s σ H Q I h
 refine BoolOp_and (jF (ha pins s σ H _ I h) fun v s1 ⟨x,H1,I1,r1,q1⟩=>?_)
 obtain ⟨c,rfl,q1⟩:=q1
 cases r1
 refine wpAny_truthy_bool ?_
 cases c with
 |true=>exact hb pins s1 σ H1 Q I1 q1
 |false=>exact ⟨.bl false,H1,I1,rfl,q1⟩
theorem ZX (ha:PE X a ta) (hb:PE X (.BoolOp .Or (b::rest) pos) tb):PE X (.BoolOp .Or (a::b::rest) pos) (gJ ta tb):=by
 intro pins s σ H Q I h
 refine BoolOp_or (jF (ha pins s σ H _ I h) fun v s1 ⟨x,H1,I1,r1,q1⟩=>?_)
 obtain ⟨c,rfl,q1⟩:=q1
 cases r1
 refine wpAny_truthy_bool ?_
 cases c with
 |false=>exact hb pins s1 σ H1 Q I1 q1
 |true=>exact ⟨.bl true,H1,I1,rfl,q1⟩
end
end L2
namespace L2
open PySem PySem.Spec PyProof.Rows
def SqL (K:PySem.W.Frag) (H:Hp) (a:Addr) (xs:List V):Prop :=
 Rd H a (.lst xs)∨
  ∃(o:Obj) (its:Array Value) (n:Nat),K.lookup a=some o∧o.cls=.type "list"∧o.dict=none∧o.data=.seq its n∧its.size≤sizeLine∧Vals xs its.toList
def SqT (K:PySem.W.Frag) (H:Hp) (a:Addr) (xs:List V):Prop :=
 Rd H a (.tup xs)∨
  ∃(o:Obj) (its:Array Value) (n:Nat),K.lookup a=some o∧o.cls=.type "tuple"∧o.data=.seq its n∧its.size≤sizeLine∧Vals xs its.toList
def g0:Value→Option V
 |.none=>some .non
 |.bool b=>some (.bl b)
 |.int i _=>some (.int i)
 |.str x _=>some (.str x)
 |.bytes b _=>some (.byt b)
 |.float b _=>some (.flt b)
 |.ref a=>some (.ref a)
 |.type n=>some (.ty n)
 |_=>none
theorem RelV.abs {x:V} {u:Value} (r:RelV x u):g0 u=some x:=by
 cases x with
 |non=>cases r;rfl
 |bl _=>cases r;rfl
 |int _=>obtain ⟨t,rfl⟩:=r;rfl
 |str _=>obtain ⟨t,rfl⟩:=r;rfl
 |byt _=>obtain ⟨t,rfl⟩:=r;rfl
 |flt _=>obtain ⟨t,rfl⟩:=r;rfl
 |ref _=>cases r;rfl
 |ty _=>cases r;rfl
theorem RelV.inj {x y:V} {u:Value} (r:RelV x u) (q:RelV y u):x=y:=Option.some.inj (r.abs.symm.trans q.abs)
theorem Vals.inj:∀{xs ys:List V} {us:List Value},Vals xs us→Vals ys us→xs=ys
 |_,_,_,.nil,.nil=>rfl
 |_,_,_,.cons r t,.cons r' t'=>by rw [r.inj r',Vals.inj t t']
section
variable {X:Cx} {pins:List (Addr×Obj)} {σ:St} {H:Hp} {s:Shared} {a:Addr} {xs ys:List V}
theorem SqL.of {K:PySem.W.Frag} (h:H a=some (.lst xs)):SqL K H a xs:=.inl (.inl h)
theorem SqT.of {K:PySem.W.Frag} (h:H a=some (.tup xs)):SqT K H a xs:=.inl (.inl h)
theorem Inv.list (I:Inv X pins σ H s) (h:SqL X.K H a xs):∃its:List Value,Vals xs its∧PlainL s.heap a its.toArray∧xs.length≤sizeLine:=by
 rcases h with h|⟨o,its,n,hk,hc,hd,hs,hz,r⟩
 ·obtain ⟨z,its,n,r,e⟩:=h.ok I.hok
  exact ⟨its,r,⟨_,n,e,rfl,rfl,rfl⟩,z⟩
 ·refine ⟨its.toList,r,⟨o,n,I.kIn a o hk,hc,hd,by simpa using hs⟩,?_⟩
  have e:=r.length
  simp only [Array.length_toList] at e
  omega
theorem Inv.tuple (I:Inv X pins σ H s) (h:SqT X.K H a xs):∃its:List Value,Vals xs its∧IsTup s.heap a its.toArray∧xs.length≤sizeLine:=by
 rcases h with h|⟨o,its,n,hk,hc,hs,hz,r⟩
 ·obtain ⟨z,its,r,p⟩:=h.ok I.hok
  exact ⟨its,r,p,z⟩
 ·refine ⟨its.toList,r,⟨o,I.kIn a o hk,hc,n,by simpa using hs⟩,?_⟩
  have e:=r.length
  simp only [Array.length_toList] at e
  omega
theorem Inv.list_inj (I:Inv X pins σ H s) (h:SqL X.K H a xs) (h':SqL X.K H a ys):xs=ys:=by
 obtain ⟨its,r,⟨o,n,e,_,_,d⟩,_⟩:=I.list h
 obtain ⟨its',r',⟨o',n',e',_,_,d'⟩,_⟩:=I.list h'
 rw [e] at e';cases e'
 rw [d] at d'
 injection d' with d1 _
 have:its=its':=by simpa using congrArg Array.toList d1
 subst this
 exact r.inj r'
end
abbrev Cx.wish (X:Cx) (E:Value→Shared→Prop):Cx:={X with xe:=E}
abbrev Cx.nox (X:Cx):Cx:=X.wish fun _ _=>False
theorem Cx.Ok.wish {X:Cx} (ok:X.Ok) (E:Value→Shared→Prop):(X.wish E).Ok :=
 ⟨ok.mod,ok.kind,ok.glob,ok.blt,ok.above,ok.inj,ok.has,ok.cab,ok.hd,ok.frames,ok.stk,ok.exf,ok.bs,ok.bsz,ok.noex,ok.exfs,ok.funs,ok.frf⟩
theorem Cx.Ok.unwish {X:Cx} {E:Value→Shared→Prop} (ok:(X.wish E).Ok):X.Ok :=
 ⟨ok.mod,ok.kind,ok.glob,ok.blt,ok.above,ok.inj,ok.has,ok.cab,ok.hd,ok.frames,ok.stk,ok.exf,ok.bs,ok.bsz,ok.noex,ok.exfs,ok.funs,ok.frf⟩
section
variable {X:Cx} {pins:List (Addr×Obj)} {σ:St} {H:Hp} {s:Shared} {E:Value→Shared→Prop}
theorem Inv.wish (I:Inv X pins σ H s) (E:Value→Shared→Prop):Inv (X.wish E) pins σ H s:=⟨I.ok.wish E,I.os,I.bare,I.base,I.loc,I.cell,I.free,I.freeC,I.pin,I.hok,I.len⟩
theorem Inv.unwish (I:Inv (X.wish E) pins σ H s):Inv X pins σ H s:=⟨I.ok.unwish,I.os,I.bare,I.base,I.loc,I.cell,I.free,I.freeC,I.pin,I.hok,I.len⟩
theorem SP.unwish {D:Ends} {f:Flow} {s':Shared} (h:SP (X.wish E) pins D f s'):SP X pins D f s':=by
 cases f with
 |next=>obtain ⟨σ',H',I,q⟩:=h;exact ⟨σ',H',I.unwish,q⟩
 |brk=>obtain ⟨σ',H',I,q⟩:=h;exact ⟨σ',H',I.unwish,q⟩
 |cont=>obtain ⟨σ',H',I,q⟩:=h;exact ⟨σ',H',I.unwish,q⟩
 |ret u=>obtain ⟨v,σ',H',I,r,q⟩:=h;exact ⟨v,σ',H',I.unwish,r,q⟩
theorem PE.nox {e:Expr} {t:TE} (h:PE X.nox e t):PE X e t:=fun pins s σ H Q I hw =>
 wpAny_mono (h pins s σ H Q (I.wish _) hw) (fun _ _ ⟨v,H',I',r,q⟩=>⟨v,H',I'.unwish,r,q⟩) fun _ _ z=>False.elim z
theorem PT.nox {e:Expr} {t:TT} (h:PT X.nox e t):PT X e t:=fun pins s σ H Q I hw =>
 wpAny_mono (h pins s σ H Q (I.wish _) hw) (fun _ _ ⟨H',I',q⟩=>⟨H',I'.unwish,q⟩) fun _ _ z=>False.elim z
theorem PSs.nox {st:List Stmt} {t:TS} (h:PSs X.nox st t):PSs X st t:=fun pins s σ H D I hw =>
 wpAny_mono (h pins s σ H D (I.wish _) hw) (fun _ _ q=>q.unwish) fun _ _ z=>False.elim z
end
section
variable {X:Cx} {st:Stmt} {rest:List Stmt} {t u:TS} {e:Expr} {te:TE} {pos:Pos}
def fQ:TS:=fun D σ H=>D.nx σ H
def gH (t u:TS):TS:=fun D σ H=>t {D with nx:=u D} σ H
theorem kP:PSs X [] fQ:=fun _ _ σ H _ I h=>wpAny_execs_nil ⟨σ,H,I,h⟩
theorem jM (h1:PS X st t) (h2:PSs X rest u):PSs X (st::rest) (gH t u):=by
 intro pins s σ H D I h
 refine wpAny_execs_cons (jF (h1 pins s σ H {D with nx:=u D} I h) fun f s1 q=>?_)
 cases f with
 |next =>
  obtain ⟨σ',H',I',q⟩:=q
  exact h2 pins s1 σ' H' D I' q
 |ret v=>exact q
 |brk=>exact q
 |cont=>exact q
theorem jO (h1:PS X st t):PSs X [st] t:=by
 intro pins s σ H D I h
 refine wpAny_execs_cons (jF (h1 pins s σ H D I h) fun f s1 q=>?_)
 cases f with
 |next=>exact wpAny_execs_nil q
 |ret v=>exact q
 |brk=>exact q
 |cont=>exact q
theorem Inv.quiet {pins:List (Addr×Obj)} {σ:St} {H:Hp} {s:Shared} (I:Inv X pins σ H s):interactive X.env=false:=by simp [interactive,I.ok.kind]
def fT (te:TE):TS:=fun D σ H=>te σ H fun _ H1=>D.nx σ H1
theorem v8 (he:PE X e te) (hs:swapsWith e none pos.line X.env=pure false:=by rfl):PS X (.Expr e pos) (fT te):=by
 intro pins s σ H D I h
 exact wpAny_Expr_any (jF (he pins s σ H _ I h) fun v s1 ⟨x,H1,I1,r1,q1⟩=>⟨σ,H1,I1,q1⟩) I.quiet hs
def gI (te:TE):TS:=fun D σ H=>te σ H D.rt
theorem j4 (he:PE X e te):PS X (.Return (some e) pos) (gI te):=by
 intro pins s σ H D I h
 exact wpAny_Return_some (jF (he pins s σ H _ I h) fun v s1 ⟨x,H1,I1,r1,q1⟩=>⟨x,σ,H1,I1,r1,q1⟩)
def gN (c:TT) (t u:TS):TS:=fun D σ H=>c σ H fun b H1=>if b=true then t D σ H1 else u D σ H1
theorem kL {c:Expr} {a b:List Stmt} {tc:TT} (hc:PT X c tc) (ha:PSs X a t) (hb:PSs X b u):PS X (.If c a b pos) (gN tc t u):=by
 intro pins s σ H D I h
 refine wpAny_If (jF (hc pins s σ H _ I h) fun d s1 ⟨H1,I1,q1⟩=>?_)
 cases d with
 |true=>exact ha pins s1 σ H1 D I1 q1
 |false=>exact hb pins s1 σ H1 D I1 q1
end
abbrev TG:=V→St→Hp→(St→Hp→Prop)→Prop
abbrev vB:=List V→St→Hp→(St→Hp→Prop)→Prop
def PG (X:Cx) (target:Expr) (t:TG):Prop :=
 ∀(pins:List (Addr×Obj)) (s:Shared) (σ:St) (H:Hp) (v:V) (u:Value) (Q:St→Hp→Prop),Inv X pins σ H s→RelV v u→t v σ H Q→
  wpAny (model X.prog X.w) X.A (assign target X.env u) (fun _ s'=>∃σ' H',Inv X pins σ' H' s'∧Q σ' H') X.xe s
def yV (X:Cx) (ts:List Expr) (t:vB):Prop :=
 ∀(pins:List (Addr×Obj)) (s:Shared) (σ:St) (H:Hp) (vs:List V) (us:List Value) (Q:St→Hp→Prop),Inv X pins σ H s→Vals vs us→t vs σ H Q→
  wpAny (model X.prog X.w) X.A (assignInOrder ((assignEach ts X.env).map (·.2)) us) (fun _ s'=>∃σ' H',Inv X pins σ' H' s'∧Q σ' H') X.xe s
section
variable {X:Cx} {pos:Pos}
def yR (i:Nat):TG:=fun v σ H Q=>Q (σ.set i (some v)) H
theorem kX {i:Nat} {x:Str} (hN:X.N.Nodup) (hi:X.N[i]?=some x) (hx:v5 X.env.scope x) (hf:X.fn x=true∨X.env.scope.names.lookup x=some .local:=by first|exact .inl rfl|exact .inr rfl|assumption):PG X (.Name x pos) (yR i):=by
 intro pins s σ H v u Q I r h
 exact wpAny_assign_Name (JA I hN hi hx r (fun s' I'=>⟨_,H,I',h⟩) hf)
def bA:vB:=fun vs σ H Q=>vs=[]∧Q σ H
def JW (t:TG) (u:vB):vB:=fun vs σ H Q=>∃v r,vs=v::r∧t v σ H fun σ' H'=>u r σ' H' Q
theorem eC:yV X [] bA:=by
 intro pins s σ H vs us Q I r h
 obtain ⟨e,h⟩:=h
 subst e
 cases r
 exact assignInOrder_nil ⟨σ,H,I,h⟩
theorem QV {e:Expr} {es:List Expr} {t:TG} {u:vB} (h1:PG X e t) (h2:yV X es u)
  (hs:(assignEach (e::es) X.env).map (·.2)=assign e X.env::(assignEach es X.env).map (·.2):=by rfl):yV X (e::es) (JW t u):=by
 intro pins s σ H vs us Q I r h
 obtain ⟨v,vr,e1,h⟩:=h
 subst e1
 cases r with
 |cons r rr =>
  rw [hs]
  refine assignInOrder_cons (jF (h1 pins s σ H _ _ _ I r h) fun _ s1 ⟨σ1,H1,I1,q1⟩=>?_)
  exact h2 pins s1 σ1 H1 _ _ Q I1 rr q1
def J0 (K:PySem.W.Frag) (n:Nat) (t:vB):TG:=fun v σ H Q=>∃a xs,v=.ref a∧SqT K H a xs∧xs.length=n∧t xs σ H Q
theorem fA {es:List Expr} {k:Nat} {t:vB} {n:Nat} (hc:X.calm=true) (h:yV X es t)
  (hn:(assignEach es X.env).length=n:=by rfl) (hst:(assignEach es X.env).findIdx? (·.1)=none:=by rfl):PG X (.Tuple es k pos) (J0 X.K n t):=by
 intro pins s σ H v u Q I r hw
 obtain ⟨a,xs,e1,hq,hl,hw⟩:=hw
 subst e1
 cases r
 obtain ⟨its,rv,ht,hz⟩:=I.tuple hq
 refine assign_Tuple_tuple (I.ok.hd hc) ht (by simp [hn,← hl,rv.length]) hst fun h' hx=>?_
 have I1:Inv X pins σ H {s with heap:=h'}:=I.kept (t':=s.toks) fun b o e=>hx b o (Nat.ne_of_lt (Heap.lt_size e)) e
 exact h pins _ σ H xs _ Q I1 (by simpa using rv) hw
def gQ (te:TE) (g:TG):TS:=fun D σ H=>te σ H fun x H1=>g x σ H1 D.nx
theorem jP {i:Nat} {x:Str} {e:Expr} {te:TE} {pos':Pos} (hN:X.N.Nodup) (hi:X.N[i]?=some x) (hx:v5 X.env.scope x) (he:PE X e te) (hs:swapsWith e (some (.Name x pos')) pos.line X.env=pure false:=by rfl) (hf:X.fn x=true∨X.env.scope.names.lookup x=some .local:=by first|exact .inl rfl|exact .inr rfl|assumption) :
  PS X (.Assign [.Name x pos'] e pos) (gQ te (yR i)):=by
 intro pins s σ H D I h
 refine wpAny_Assign_Name (jF (he pins s σ H _ I h) fun v s1 ⟨y,H1,I1,r1,q1⟩=>?_) hs
 exact JA I1 hN hi hx r1 (fun s2 I2=>⟨_,H1,I2,q1⟩) hf
end
section
variable {X:Cx} {pos:Pos}
end
structure It where
 go:Nat→Hp→Prop
 yld:Nat→Hp→V→Hp→Prop
 stop:Nat→Hp→Prop
def qJ (X:Cx) (pins:List (Addr×Obj)) (H:Hp) (b:Addr):Prop :=
 H b=none∧b≠X.env.locals∧b∉X.fs∧(b∈X.ex∨X.s₀.heap.objs.size≤b)∧(∀x c,X.env.cells.lookup x=some c→c≠b)∧∀p∈X.pn++pins,p.1≠b
theorem Inv.fpOk {X:Cx} {pins:List (Addr×Obj)} {σ:St} {H H':Hp} {s:Shared} {b:Addr} (I:Inv X pins σ H s) (hb:s.heap.objs.size≤b) (hn:H' b=none):qJ X pins H' b:=by
 refine ⟨hn,Nat.ne_of_gt (Nat.lt_of_lt_of_le I.lt hb),I.nofs hb,.inr (Nat.le_trans I.sz hb),fun x c e z=>?_,fun p hp z=>?_⟩
 ·obtain ⟨v,q⟩:=I.cell x c e
  exact absurd (Nat.lt_of_lt_of_le q.lt (by rw [z];exact hb)) (Nat.lt_irrefl _)
 ·exact absurd (Nat.lt_of_lt_of_le (Heap.lt_size (I.pin p hp).1) (by rw [z];exact hb)) (Nat.lt_irrefl _)
structure Turn (P:Program) (w:World) (K:PySem.W.Frag) (tg:Expr) (J:It) (fp:List Addr) (it:Addr) (tn:Nat→Heap→Prop):Prop where
 mem:it∈fp
 obj:∀i h,tn i h→∀b∈fp,∃o,h.get? b=some o∧∀v,o.data≠.cell v
 keep:∀i h h',tn i h→(∀b∈fp,∀o,h.get? b=some o→h'.get? b=some o)→tn i h'
 item:∀(X:Cx),X.prog=P→X.w=w→X.K=K→X.calm=true→∀(i:Nat) (pins:List (Addr×Obj)) (s:Shared) (σ:St) (H:Hp) (E:Value→Shared→Prop),Inv X pins σ H s→(∀b∈fp,qJ X pins H b)→tn i s.heap→J.go i H→
  wpAny (model P w) X.A (pyNext (.ref it)) (fun r s1=>∃u,r=some u∧
   wpAny (model P w) X.A (letOwnedTupleGo tg (.ref it) u) (fun _ s2=>∃x H',Inv X pins σ H' s2∧RelV x u∧J.yld i H x H'∧tn (i+1) s2.heap∧∀b∈fp,H' b=none) E s1) E s
 done:∀(X:Cx),X.prog=P→X.w=w→X.K=K→X.calm=true→∀(i:Nat) (pins:List (Addr×Obj)) (s:Shared) (σ:St) (H:Hp) (E:Value→Shared→Prop),Inv X pins σ H s→(∀b∈fp,qJ X pins H b)→tn i s.heap→J.stop i H→
  wpAny (model P w) X.A (pyNext (.ref it)) (fun r s1=>r=none∧Inv X pins σ H s1) E s
 self:∀(A:Around) (i:Nat) (s:Shared) (Q:Value→Shared→Prop) (E:Value→Shared→Prop),tn i s.heap→Q (.ref it) s→wpAny (model P w) A (pyIter (.ref it)) Q E s
abbrev TI:=St→Hp→(It→Hp→Prop)→Prop
def bF (X:Cx) (pins:List (Addr×Obj)) (σ:St) (tg:Expr) (R:It→Hp→Prop) (itv:Value) (s2:Shared):Prop :=
 ∃(it:Addr) (fp:List Addr) (tn:Nat→Heap→Prop) (J:It) (H':Hp),itv=.ref it∧Inv X pins σ H' s2∧Turn X.prog X.w X.K tg J fp it tn∧tn 0 s2.heap∧(∀b∈fp,qJ X pins H' b)∧R J H'
def PI (X:Cx) (tg iter:Expr) (wi:TI):Prop :=
 ∀(pins:List (Addr×Obj)) (s:Shared) (σ:St) (H:Hp) (R:It→Hp→Prop),Inv X pins σ H s→wi σ H R→
  wpAny (model X.prog X.w) X.A (eval iter X.env) (fun v s1=>wpAny (model X.prog X.w) X.A (pyIter v) (bF X pins σ tg R) X.xe s1) X.xe s
theorem Z2 {M:Model} {A:Around} {E:Value→Shared→Prop} {s:Shared} {tg:Expr} {it:Addr} {u:Value} {o:Obj} {n:String} {vs:Array Value} {Q:Unit→Shared→Prop} (ho:s.heap.get? it=some o) (hc:o.cls=.type n) (hd:o.data=.fields vs)
    (hn:["enumerate","zip","dict_itemiterator","dict_reverseitemiterator","odict_iterator","itertools.zip_longest","itertools.pairwise"].contains n=false) (hQ:Q () s):wpAny M A (letOwnedTupleGo tg (.ref it) u) Q E s:=by
  unfold letOwnedTupleGo
  cases tg<;>first
    |exact wpAny_pure hQ
    | (cases u<;>first
        |exact wpAny_pure hQ
        | (refine wpAny_bind (wpAny_load ho ?_)
           rw [hc,hd]
           show wpAny M A (if (["enumerate","zip","dict_itemiterator","dict_reverseitemiterator","odict_iterator","itertools.zip_longest","itertools.pairwise"].contains n&&vs[0]? == some (rawInt _))=true then _ else _) Q E s
           rw [if_neg (by intro h;rw [hn,Bool.false_and] at h;cases h)]
           exact wpAny_pure hQ))
def vC (K:PySem.W.Frag) (a:Addr):It :=
 ⟨fun i H=>∃xs x,SqL K H a xs∧xs[i]?=some x,fun i H x H'=>H'=H∧∀xs,SqL K H a xs→xs[i]?=some x,fun i H=>∃xs,SqL K H a xs∧xs.length≤i⟩
def v6 (lo:Int) (n:Nat):It:=⟨fun i _=>i<n,fun i H x H'=>H'=H∧x=.int (lo+i),fun i _=>n≤i⟩
theorem cR {P:Program} {w:World} {K:PySem.W.Frag} {tg:Expr} (a it:Addr):Turn P w K tg (vC K a) [it] it (fun i h=>h.IsListIter it a i) where
 mem:=by simp
 obj:=fun i h st b hb=>by
  have e:b=it:=by simpa using hb
  subst e
  obtain ⟨o,e,c,d⟩:=st
  exact ⟨o,e,fun v z=>by rw [d] at z;cases z⟩
 keep:=fun i h h' st k=>st.at fun o e=>k it (by simp) o e
 item:=by
  intro X hP hw hK hc i pins s σ H E I hf st hg
  subst hP hw hK
  obtain ⟨xs,x,hq,hx⟩:=hg
  obtain ⟨its,rv,p,hz⟩:=I.list hq
  obtain ⟨u,hu,ru⟩:=rv.get hx
  obtain ⟨f0,f1,f2,f3,f4,f5⟩:=hf it (by simp)
  refine wpAny_pyNext_list_item st p.isList (x:=u) (by simpa using hu) fun h' st' sb=>?_
  have I1:Inv X pins σ H {s with heap:=h'}:=I.turned (t':=s.toks) (fun b o hb e=>(sb.2 b hb).trans e) f0 f1 f3 f4 f5
  obtain ⟨o,e,c,d⟩:=id st'
  exact ⟨u,rfl,Z2 (s:={s with heap:=h'}) e c d (by decide) ⟨x,H,I1,ru,⟨rfl,fun ys hy=>by rw [I.list_inj hy hq];exact hx⟩,st',fun b hb=>(hf b hb).1⟩⟩
 done:=by
  intro X hP hw hK hc i pins s σ H E I hf st hg
  subst hP hw hK
  obtain ⟨xs,hq,hx⟩:=hg
  obtain ⟨its,rv,p,hz⟩:=I.list hq
  obtain ⟨f0,f1,f2,f3,f4,f5⟩:=hf it (by simp)
  have hl:=rv.length
  exact wpAny_pyNext_list_end (I.ok.hd hc) st p.isList (by simp;omega) fun h' eb=>⟨rfl,I.turned (t':=s.toks) (fun b o hb e=>eb b o hb e) f0 f1 f3 f4 f5⟩
 self:=fun _ _ _ _ _ st h=>wpAny_pyIter_listiter st h
theorem cK {P:Program} {w:World} {K:PySem.W.Frag} {tg:Expr} (it:Addr) (lo:Int) (n:Nat):Turn P w K tg (v6 lo n) [it] it (fun i h=>IsRangeIter h it (lo+(i:Nat)*1) ((n:Int) - (i:Nat)) 1) where
 mem:=by simp
 obj:=fun i h st b hb=>by
  have e:b=it:=by simpa using hb
  subst e
  exact ⟨_,st,fun v z=>by
   have z':Data.fields _=Data.cell v:=z
   cases z'⟩
 keep:=fun i h h' st k=>k it (by simp) _ st
 item:=by
  intro X hP hw hK hc i pins s σ H E I hf st hg
  subst hP hw hK
  obtain ⟨f0,f1,f2,f3,f4,f5⟩:=hf it (by simp)
  have W:=Walks.range (prog:=X.prog) (w:=X.w) (I.ok.hd hc) it lo 1 n
  refine W.item i s _ _ hg st fun v h' tk hv st' kk=>?_
  obtain ⟨t,rfl⟩:=hv
  have I1:Inv X pins σ H {s with heap:=h',toks:=tk}:=I.turned (fun b o hb e=>kk b o (by simpa using hb) e) f0 f1 f3 f4 f5
  refine ⟨_,rfl,Z2 (s:={s with heap:=h',toks:=tk}) (n:="range_iterator") st' rfl rfl (by decide) ⟨.int (lo+i),H,I1,⟨t,?_⟩,⟨rfl,rfl⟩,st',fun b hb=>(hf b hb).1⟩⟩
  rw [Int.mul_one]
 done:=by
  intro X hP hw hK hc i pins s σ H E I hf st hg
  subst hP hw hK
  obtain ⟨f0,f1,f2,f3,f4,f5⟩:=hf it (by simp)
  exact wpAny_pyNext_range_end (I.ok.hd hc) st (by have:n≤i:=hg;omega) fun h' eb=>⟨rfl,I.turned (t':=s.toks) (fun b o hb e=>eb b o hb e) f0 f1 f3 f4 f5⟩
 self:=fun _ _ _ _ _ st h=>wpAny_pyIter_rangeiter st h
end L2
namespace L2
open PySem PySem.Spec PyProof.Rows
section
variable {X:Cx} {tg:Expr}
def gF (K:PySem.W.Frag) (tl:TE):TI:=fun σ H R=>tl σ H fun x H1=>∃a,x=.ref a∧(∃xs,SqL K H1 a xs)∧R (vC K a) H1
theorem v7 {l:Expr} {tl:TE} (hl:PE X l tl):PI X tg l (gF X.K tl):=by
 intro pins s σ H R I h
 refine jF (hl pins s σ H _ I h) fun v s1 ⟨x,H1,I1,r1,q1⟩=>?_
 obtain ⟨a,e,⟨xs,hq⟩,q⟩:=q1
 subst e
 cases r1
 obtain ⟨its,rv,p,hz⟩:=I1.list hq
 refine wpAny_pyIter_list p.isList ?_
 refine ⟨s1.heap.objs.size,[s1.heap.objs.size],_,_,H1,rfl,I1.kept (t':=s1.toks) fun b o e=>Heap.get?_push_of_some _ e,cR a _,⟨_,Heap.get?_push_size _ rfl,rfl,rfl⟩,fun b hb=>?_,q⟩
 have e:b=s1.heap.objs.size:=by simpa using hb
 subst e
 exact I1.fpOk (Nat.le_refl _) (I1.hok.fresh (Nat.le_refl _))
theorem dQ {pins:List (Addr×Obj)} {σ:St} {H:Hp} {s:Shared} {R:It→Hp→Prop} {E:Value→Shared→Prop} {lo hi:Int} {t u v:Tok} {tk:Nat} (I:Inv X pins σ H s) (h1 : -(2 ^ 62)≤lo) (h2:lo<2 ^ 62) (h3 : -(2 ^ 62)≤hi) (h4:hi<2 ^ 62)
    (q:R (v6 lo (hi - lo).toNat) H):wpAny (model X.prog X.w) X.A (pyIter (.ref s.heap.objs.size)) (bF X pins σ tg R) E {s with heap:=s.heap.push {cls:=.type "range",data:=.fields #[.int lo t,.int hi u,.int 1 v]},toks:=tk}:=by
  refine wpAny_pyIter_range (IsRange.new ..) (small_one h1 h2 h3 h4) ?_
  have I1:Inv X pins σ H {s with heap:=s.heap.push {cls:=.type "range",data:=.fields #[.int lo t,.int hi u,.int 1 v]},toks:=tk}:=I.kept fun b o e=>Heap.get?_push_of_some _ e
  refine ⟨(s.heap.push {cls:=.type "range",data:=.fields #[.int lo t,.int hi u,.int 1 v]}).objs.size,[(s.heap.push {cls:=.type "range",data:=.fields #[.int lo t,.int hi u,.int 1 v]}).objs.size],_,_,H,rfl,
    I1.kept (t':=tk) fun b o e=>Heap.get?_push_of_some _ e,cK _ lo (hi - lo).toNat,?_,fun b hb=>?_,q⟩
  · have e1:lo+((0:Nat):Int)*1=lo:=by simp
    have e2:(((hi - lo).toNat:Nat):Int) - ((0:Nat):Int)=Builtin.Range.rangeSize lo hi 1:=by rw [rangeSize_one];split<;>omega
    show IsRangeIter _ _ (lo+((0:Nat):Int)*1) ((((hi - lo).toNat:Nat):Int) - ((0:Nat):Int)) 1
    rw [e1,e2]
    exact Heap.get?_push_size _ rfl
  · have e:b=(s.heap.push {cls:=.type "range",data:=.fields #[.int lo t,.int hi u,.int 1 v]}).objs.size:=by simpa using hb
    subst e
    exact I1.fpOk (Nat.le_refl _) (I1.hok.fresh (Nat.le_refl _))
def gE (ta:TA):TI:=fun σ H R=>ta σ H fun vs H1=>∃j:Int,vs=[.int j]∧-(2 ^ 62)≤j∧j<2 ^ 62∧R (v6 0 j.toNat) H1
theorem yD {a:Expr} {ta:TA} {p pos:Pos} (hg:Gl X "range") (hm:X.mg "range"=none) (ha:PA X [a] ta) (hs:starEach [a] X.env=[(false,eval a X.env)]:=by rfl):PI X tg (.Call (.Name "range" p) [a] [] pos) (gE ta):=by
 intro pins s σ H R I h
 refine Call_ (zL I hg hm boot_range (PyProof.Rows.callWith_type1 (jF (ha pos pins s σ H _ I h) fun us s1 ⟨vs,H1,I1,r1,q1⟩=>?_) hs rfl))
 obtain ⟨j,e,q1,q2,q⟩:=q1
 subst e
 cases r1 with
 |cons r rr =>
  cases rr
  obtain ⟨t,rfl⟩:=r
  exact call_range_1 (dQ I1 (by omega) (by omega) q1 q2 (by simpa using q))
def gO (wi:TI) (g:TG) (tb:TS):TS:=fun D σ H=>wi σ H fun J H1=>∃W:Nat→Nat→St→Hp→Prop,(∃m,W 0 m σ H1)∧∀i m σ H,W i m σ H→
 (J.stop i H∧D.nx σ H)∨(J.go i H∧∃N:St→Hp→Prop,(∀σ' H',N σ' H'→∃m',m'<m∧W (i+1) m' σ' H')∧∀x H',J.yld i H x H'→g x σ H' fun σ2 H2=>tb {D with nx:=N,ct:=N,bk:=D.nx} σ2 H2)
def yK (fp:List Addr) (h:Heap):List (Addr×Obj):=fp.filterMap fun b=>(h.get? b).map fun o=>(b,o)
theorem y0 {fp:List Addr} {h:Heap} {b:Addr} {o:Obj} (hb:b∈fp) (e:h.get? b=some o):(b,o)∈yK fp h:=List.mem_filterMap.mpr ⟨b,hb,by rw [e];rfl⟩
theorem cY {fp:List Addr} {h:Heap} {p:Addr×Obj} (hp:p∈yK fp h):p.1∈fp∧h.get? p.1=some p.2:=by
 obtain ⟨b,hb,e⟩:=List.mem_filterMap.mp hp
 cases q:h.get? b with
 |none=>rw [q] at e;cases e
 |some o =>
  rw [q] at e
  have e':(b,o)=p:=Option.some.inj e
  subst e'
  exact ⟨hb,q⟩
theorem Inv.pinned {pins:List (Addr×Obj)} {σ:St} {H:Hp} {s:Shared} {fp:List Addr} (I:Inv X pins σ H s) (hf:∀b∈fp,qJ X pins H b) (ho:∀b∈fp,∃o,s.heap.get? b=some o∧∀v,o.data≠.cell v):Inv X (pins++yK fp s.heap) σ H s :=
 I.pins_of fun p hp=>(List.mem_append.mp hp).elim (fun z=>I.pin p (List.mem_append_right _ z)) fun z=>by
  obtain ⟨hb,e⟩:=cY z
  obtain ⟨f0,f1,f2,_⟩:=hf p.1 hb
  obtain ⟨o,e',d⟩:=ho p.1 hb
  rw [e] at e';cases e'
  exact ⟨e,f0,f1,f2,d⟩
theorem Inv.unpinned {pins pl:List (Addr×Obj)} {σ:St} {H:Hp} {s:Shared} (I:Inv X (pins++pl) σ H s):Inv X pins σ H s:=I.pins_of fun p hp=>I.pin p (List.mem_append_right _ (List.mem_append_left _ hp))
theorem q0 {iter:Expr} {body:List Stmt} {wi:TI} {g:TG} {tb:TS} {pos:Pos} (hp:PassesOwn (model X.prog X.w) X.A X.env X.xe) (hc:X.calm=true) (hi:PI X tg iter wi) (hg:PG X tg g) (hb:PSs X body tb)
  (hs:∀x,foldedSetIterable iter X.env x=pure x:=by intro _;rfl):PS X (.For tg iter body [] pos) (gO wi g tb):=by
 intro pins s σ H D I h
 refine wpAny_For (jF (hi pins s σ H _ I h) fun v s1 h1=>jF h1 fun itv s2 h2=>?_) hs
 obtain ⟨it,fp,tn,J,H2,e,I2,T,st2,f2,W,⟨m0,w0⟩,turn⟩:=h2
 subst e
 have stat:∀{H':Hp},(∀b∈fp,H' b=none)→∀b∈fp,qJ X pins H' b:=fun hn b hb=>⟨hn b hb,(f2 b hb).2⟩
 refine codeAny_forLoop_any (fun n s'=>∃i σ' H',Inv X pins σ' H' s'∧tn i s'.heap∧(∀b∈fp,H' b=none)∧W i n σ' H') ?_ m0 ⟨0,σ,H2,I2,st2,fun b hb=>(f2 b hb).1,w0⟩
 rintro n s3 ⟨i,σ3,H3,I3,st3,fr3,w3⟩
 rcases turn i n σ3 H3 w3 with ⟨stop,qn⟩|⟨go,N,hN,step⟩
 ·refine wpAny_passesOwn hp (jF (T.done X rfl rfl rfl hc i pins s3 σ3 H3 X.xe I3 (stat fr3) st3 stop) fun r s4 ⟨hr,I4⟩=>?_)
  subst hr
  exact wpAny_execs_nil ⟨σ3,H3,I4,qn⟩
 ·refine wpAny_passesOwn hp (jF (T.item X rfl rfl rfl hc i pins s3 σ3 H3 X.xe I3 (stat fr3) st3 go) fun r s4 ⟨u,hr,h4⟩=>?_)
  subst hr
  refine wpAny_passesOwn hp (jF h4 fun _ s5 ⟨x,H5,I5,r5,y5,st5,fr5⟩=>?_)
  have I5':=I5.pinned (stat fr5) (T.obj _ _ st5)
  refine wpAny_passesOwn hp (jF (hg _ s5 σ3 H5 x u _ I5' r5 (step x H5 y5)) fun _ s6 ⟨σ6,H6,I6,q6⟩=>?_)
  refine wpAny_passesOwn hp (jF (hb _ s6 σ6 H6 _ I6 q6) fun f s7 q7=>?_)
  have again:∀{σ7:St} {H7:Hp},Inv X (pins++yK fp s5.heap) σ7 H7 s7→N σ7 H7→∃m,m<n∧∃i σ' H',Inv X pins σ' H' s7∧tn i s7.heap∧(∀b∈fp,H' b=none)∧W i m σ' H':=fun {σ7 H7} I7 n7=>by
   obtain ⟨m',hm,w7⟩:=hN σ7 H7 n7
   refine ⟨m',hm,i+1,σ7,H7,I7.unpinned,T.keep _ _ _ st5 fun b hb o e=>(I7.pin (b,o) (List.mem_append_right _ (List.mem_append_right _ (y0 hb e)))).1,fun b hb=>?_,w7⟩
   obtain ⟨o,e,d⟩:=T.obj _ _ st5 b hb
   exact (I7.pin (b,o) (List.mem_append_right _ (List.mem_append_right _ (y0 hb e)))).2.1
  cases f with
  |next=>obtain ⟨σ7,H7,I7,n7⟩:=q7;exact again I7 n7
  |cont=>obtain ⟨σ7,H7,I7,n7⟩:=q7;exact again I7 n7
  |brk=>obtain ⟨σ7,H7,I7,q7⟩:=q7;exact ⟨σ7,H7,I7.unpinned,q7⟩
  |ret v=>obtain ⟨x7,σ7,H7,I7,r7,q7⟩:=q7;exact ⟨x7,σ7,H7,I7.unpinned,r7,q7⟩
end
theorem JE {K:PySem.W.Frag} {a:Addr} {xs:List V} {g:TG} {tb:TS} {D:Ends} {σ:St} {H:Hp} (Pv:Nat→St→Hp→Prop) (h0:Pv 0 σ H) (hl:∀i σ H,i≤xs.length→Pv i σ H→SqL K H a xs)
    (hs:∀i x σ H,xs[i]?=some x→Pv i σ H→g x σ H fun σ2 H2=>tb {D with nx:=Pv (i+1),ct:=Pv (i+1),bk:=D.nx} σ2 H2) (hd:∀σ H,Pv xs.length σ H→D.nx σ H) :
    ∃W:Nat→Nat→St→Hp→Prop,(∃m,W 0 m σ H)∧∀i m σ H,W i m σ H→
      ((vC K a).stop i H∧D.nx σ H)∨((vC K a).go i H∧∃N:St→Hp→Prop,(∀σ' H',N σ' H'→∃m',m'<m∧W (i+1) m' σ' H')∧∀x H',(vC K a).yld i H x H'→g x σ H' fun σ2 H2=>tb {D with nx:=N,ct:=N,bk:=D.nx} σ2 H2):=by
  refine ⟨fun i m σ H=>m=xs.length - i∧i≤xs.length∧Pv i σ H,⟨xs.length,by simp,Nat.zero_le _,h0⟩,?_⟩
  rintro i m σ H ⟨rfl,hi,p⟩
  have q:=hl i σ H hi p
  by_cases hlt:i<xs.length
  · refine .inr ⟨⟨xs,xs[i],q,by simp [hlt]⟩,Pv (i+1),fun σ' H' p'=>⟨xs.length - (i+1),by omega,rfl,hlt,p'⟩,fun x H' y=>?_⟩
    obtain ⟨e,y⟩:=y
    subst e
    exact hs i x σ _ (y xs q) p
  · have e:i=xs.length:=by omega
    subst e
    exact .inl ⟨⟨xs,q,Nat.le_refl _⟩,hd σ H p⟩
theorem yE {lo:Int} {n:Nat} {g:TG} {tb:TS} {D:Ends} {σ:St} {H:Hp} (Pv:Nat→St→Hp→Prop) (h0:Pv 0 σ H)
  (hs:∀i σ H,i<n→Pv i σ H→g (.int (lo+i)) σ H fun σ2 H2=>tb {D with nx:=Pv (i+1),ct:=Pv (i+1),bk:=D.nx} σ2 H2) (hd:∀σ H,Pv n σ H→D.nx σ H) :
  ∃W:Nat→Nat→St→Hp→Prop,(∃m,W 0 m σ H)∧∀i m σ H,W i m σ H→
   ((v6 lo n).stop i H∧D.nx σ H)∨((v6 lo n).go i H∧∃N:St→Hp→Prop,(∀σ' H',N σ' H'→∃m',m'<m∧W (i+1) m' σ' H')∧∀x H',(v6 lo n).yld i H x H'→g x σ H' fun σ2 H2=>tb {D with nx:=N,ct:=N,bk:=D.nx} σ2 H2):=by
 refine ⟨fun i m σ H=>m=n - i∧i≤n∧Pv i σ H,⟨n,by simp,Nat.zero_le _,h0⟩,?_⟩
 rintro i m σ H ⟨rfl,hi,p⟩
 by_cases hlt:i<n
 ·refine .inr ⟨hlt,Pv (i+1),fun σ' H' p'=>⟨n - (i+1),by omega,rfl,hlt,p'⟩,fun x H' y=>?_⟩
  obtain ⟨e,y⟩:=y
  subst e y
  exact hs i σ _ hlt p
 ·have e:i=n:=by omega
  subst e
  exact .inl ⟨Nat.le_refl _,hd σ H p⟩
end L2
namespace L2
open PySem PySem.Spec PyProof.Rows
abbrev R2:=V→V→Hp→VK→Prop
def OpR (X:Cx) (f:Value→Value→Sem Value) (r:R2):Prop :=
 ∀(pins:List (Addr×Obj)) (s:Shared) (σ:St) (H:Hp) (x y:V) (v u:Value) (Q:VK),Inv X pins σ H s→RelV x v→RelV y u→r x y H Q→
  wpAny (model X.prog X.w) X.A (f v u) (EP X pins σ Q) X.xe s
def CallR (X:Cx) (f:Value) (r:List V→Hp→VK→Prop):Prop :=
 ∀(pins:List (Addr×Obj)) (s:Shared) (σ:St) (H:Hp) (xs:List V) (us:List Value) (Q:VK),Inv X pins σ H s→Vals xs us→r xs H Q→
  wpAny (model X.prog X.w) X.A (call f us) (EP X pins σ Q) X.xe s
def g4 (X:Cx) (r:V→Hp→(Bool→Hp→Prop)→Prop):Prop :=
 ∀(pins:List (Addr×Obj)) (s:Shared) (σ:St) (H:Hp) (x:V) (v:Value) (Q:Bool→Hp→Prop),Inv X pins σ H s→RelV x v→r x H Q→
  wpAny (model X.prog X.w) X.A (truthy v) (TP X pins σ Q) X.xe s
def zV (r:R2) (ta tb:TE):TE:=fun σ H Q=>ta σ H fun x H1=>tb σ H1 fun y H2=>r x y H2 Q
def rI (C:Int→Int→Prop) (g:Int→Int→V):R2:=fun x y H Q=>∃i j,x=.int i∧y=.int j∧C i j∧Q (g i j) H
def v3 (g:Int→Int→V):R2:=fun x y H Q=>∃i j,x=.int i∧y=.int j∧Q (g i j) H
section
variable {X:Cx} {a b c:Expr} {ta tb tc:TE} {pos:Pos}
theorem J3 (ha:PE X a ta) (hb:PE X b tb) {pins:List (Addr×Obj)} {s:Shared} {σ:St} {H:Hp} {R:V→V→Hp→Prop} (I:Inv X pins σ H s)
  (h:ta σ H fun x H1=>tb σ H1 fun y H2=>R x y H2) {Q:Value→Shared→Prop} {f:Value→Value→Sem Value}
  (hf:∀v u s2 x y H2,Inv X pins σ H2 s2→RelV x v→RelV y u→R x y H2→wpAny (model X.prog X.w) X.A (f v u) Q X.xe s2) :
  wpAny (model X.prog X.w) X.A (eval a X.env) (fun v s₁=>wpAny (model X.prog X.w) X.A (eval b X.env) (fun u s₂=>wpAny (model X.prog X.w) X.A (f v u) Q X.xe s₂) X.xe s₁) X.xe s:=by
 refine jF (ha pins s σ H _ I h) fun v s1 ⟨x,H1,I1,r1,q1⟩=>?_
 refine jF (hb pins s1 σ H1 _ I1 q1) fun u s2 ⟨y,H2,I2,r2,q2⟩=>?_
 exact hf v u s2 x y H2 I2 r1 r2 q2
theorem jE {op:Operator} {r:R2} (ho:OpR X (binaryOp op) r) (ha:PE X a ta) (hb:PE X b tb):PE X (.BinOp a op b pos) (zV r ta tb):=by
 intro pins s σ H Q I h
 exact wpAny_BinOp (J3 ha hb I h fun v u s2 x y H2 I2 rx ry q=>ho pins s2 σ H2 x y v u Q I2 rx ry q)
theorem zW {f:Value→Value→Sem Value} {C:Int→Int→Prop} {g:Int→Int→Int}
  (rule:∀(i j:Int) (t u:Tok) (s:Shared) (Q:Value→Shared→Prop) (E:Value→Shared→Prop),C i j→Q (.int (g i j) s.toks) {s with toks:=s.toks+1}→wpAny (model X.prog X.w) X.A (f (.int i t) (.int j u)) Q E s) :
  OpR X f (rI C fun i j=>.int (g i j)):=by
 intro pins s σ H x y v u Q I rx ry h
 obtain ⟨i,j,rfl,rfl,hc,q⟩:=h
 obtain ⟨t,rfl⟩:=rx
 obtain ⟨t',rfl⟩:=ry
 exact rule i j t t' s _ _ hc ⟨.int (g i j),H,I.tok _,⟨_,rfl⟩,q⟩
theorem Z8 {f:Value→Value→Sem Value} {g:Int→Int→Int}
  (rule:∀(i j:Int) (t u:Tok) (s:Shared) (Q:Value→Shared→Prop) (E:Value→Shared→Prop),Q (.int (g i j) s.toks) {s with toks:=s.toks+1}→wpAny (model X.prog X.w) X.A (f (.int i t) (.int j u)) Q E s) :
  OpR X f (v3 fun i j=>.int (g i j)):=by
 intro pins s σ H x y v u Q I rx ry h
 obtain ⟨i,j,rfl,rfl,q⟩:=h
 obtain ⟨t,rfl⟩:=rx
 obtain ⟨t',rfl⟩:=ry
 exact rule i j t t' s _ _ ⟨.int (g i j),H,I.tok _,⟨_,rfl⟩,q⟩
theorem Z9 {f:Value→Value→Sem Value} {g:Int→Int→Bool}
  (rule:∀(i j:Int) (t u:Tok) (s:Shared) (Q:Value→Shared→Prop) (E:Value→Shared→Prop),Q (.bool (g i j)) s→wpAny (model X.prog X.w) X.A (f (.int i t) (.int j u)) Q E s) :
  OpR X f (v3 fun i j=>.bl (g i j)):=by
 intro pins s σ H x y v u Q I rx ry h
 obtain ⟨i,j,rfl,rfl,q⟩:=h
 obtain ⟨t,rfl⟩:=rx
 obtain ⟨t',rfl⟩:=ry
 exact rule i j t t' s _ _ ⟨.bl (g i j),H,I,rfl,q⟩
def g7 (i j:Int):Prop:=0<j∧j<1073741824
def g6 (i j:Int):Prop:=0≤j∧j≤1000000∧i.natAbs<2 ^ 64
def CMul (i j:Int):Prop:=(-(2 ^ 64)<i∧i<2 ^ 64)∨(-(2 ^ 64)<j∧j<2 ^ 64)
theorem CMul.ok {i j:Int} (h:CMul i j):IntMulOk i j:=by
 rcases h with ⟨h1,h2⟩|⟨h1,h2⟩
 ·exact .of_left (intBits_le_64 h1 h2)
 ·exact .of_right (intBits_le_64 h1 h2)
theorem kQ:OpR X (binaryOp .Add) (v3 fun i j=>.int (i+j)):=Z8 fun _ _ _ _ _ _ _ q=>add_int q
theorem zJ:OpR X (binaryOp .Sub) (v3 fun i j=>.int (i - j)):=Z8 fun _ _ _ _ _ _ _ q=>sub_int q
theorem zK:OpR X (binaryOp .Mult) (rI CMul fun i j=>.int (i*j)):=zW fun _ _ _ _ _ _ _ hc q=>mul_int q hc.ok
theorem kM:OpR X (binaryOp .FloorDiv) (rI g7 fun i j=>.int (i / j)):=zW fun i j _ _ _ _ _ hc q=>by
 have h1:(0:Int)<j:=hc.1
 have h2:j<1073741824:=hc.2
 exact floordiv_int (by omega) (by rw [Int.fdiv_eq_ediv_of_nonneg i (by omega)];exact q) (.inl (PyProof.noPylong_small (by omega)))
theorem jY:OpR X (binaryOp .Mod) (rI (fun _ j=>0<j) fun i j=>.int (i%j)):=zW fun i j _ _ _ _ _ hc q=>by
 have h1:(0:Int)<j:=hc
 exact mod_int' (by omega) (by rw [Int.fmod_eq_emod_of_nonneg i (by omega)];exact q)
theorem fB:OpR X (binaryOp .Pow) (rI g6 fun i j=>.int (i ^ j.toNat)):=zW fun _ _ _ _ _ _ _ hc q=>pow_int_small hc.1 hc.2.1 hc.2.2 q
end
def Z6:V→V→Bool
 |.non,.non=>true|.non,.int _=>true|.int _,.non=>true|.non,.bl _=>true|.bl _,.non=>true|.non,.str _=>true|.str _,.non=>true
 |.int _,.int _=>true|.bl _,.bl _=>true|.str _,.str _=>true|.byt _,.byt _=>true
 |.int _,.str _=>true|.str _,.int _=>true|.bl _,.str _=>true|.str _,.bl _=>true
 |_,_=>false
def iC:R2:=fun x y H Q=>Z6 x y=true∧Q (.bl (decide (x=y))) H
def iB:R2:=fun x y H Q=>Z6 x y=true∧Q (.bl (!decide (x=y))) H
theorem ZL {i j:Int}:decide (V.int i=V.int j)=(i == j):=by
 rw [Bool.eq_iff_iff]
 simp
theorem ZS {i j:Bool}:decide (V.bl i=V.bl j)=(i == j):=by
 rw [Bool.eq_iff_iff]
 simp
theorem ZK {i j:Str}:decide (V.str i=V.str j)=(i == j):=by
 rw [Bool.eq_iff_iff]
 simp
theorem ZM {i j:Array UInt8}:decide (V.byt i=V.byt j)=(i.toList == j.toList):=by
 rw [Bool.eq_iff_iff]
 cases i
 cases j
 simp
section
variable {X:Cx} {a b c:Expr} {ta tb tc:TE} {pos:Pos}
theorem jR {pins:List (Addr×Obj)} {σ:St} {H:Hp} {s:Shared} {Q:VK} {k k':Bool} (I:Inv X pins σ H s) (q:Q (.bl k) H) (e:k=k'):EP X pins σ Q (.bool k') s:=by
 subst e
 exact ⟨.bl k,H,I,rfl,q⟩
theorem kJ:OpR X (compareOp .Eq) iC:=by
 intro pins s σ H x y v u Q I rx ry h
 obtain ⟨hs,q⟩:=h
 cases x with
 |non =>
  cases rx
  cases y with
  |non=>cases ry;exact PySem.EqNone.eq_none_none (jR I q (by simp))
  |bl j=>cases ry;exact PySem.EqNone.eq_none_bool (jR I q (by simp))
  |int j=>obtain ⟨t',rfl⟩:=ry;exact PySem.EqNone.eq_none_int (jR I q (by simp))
  |str j=>obtain ⟨t',rfl⟩:=ry;exact PySem.EqNone.eq_none_str (jR I q (by simp))
  |_=>exact absurd (show false=true from hs) Bool.false_ne_true
 |bl i =>
  cases rx
  cases y with
  |non=>cases ry;exact PySem.EqNone.eq_bool_none (jR I q (by simp))
  |bl j=>cases ry;exact eq_bool (jR I q ZS)
  |str j=>obtain ⟨t',rfl⟩:=ry;exact PySem.EqMixed.eq_bool_str (jR I q (by simp))
  |_=>exact absurd (show false=true from hs) Bool.false_ne_true
 |int i =>
  obtain ⟨t,rfl⟩:=rx
  cases y with
  |non=>cases ry;exact PySem.EqNone.eq_int_none (jR I q (by simp))
  |int j=>obtain ⟨t',rfl⟩:=ry;exact eq_int (jR I q ZL)
  |str j=>obtain ⟨t',rfl⟩:=ry;exact PySem.EqMixed.eq_int_str (jR I q (by simp))
  |_=>exact absurd (show false=true from hs) Bool.false_ne_true
 |str i =>
  obtain ⟨t,rfl⟩:=rx
  cases y with
  |non=>cases ry;exact PySem.EqNone.eq_str_none (jR I q (by simp))
  |bl j=>cases ry;exact PySem.EqMixed.eq_str_bool (jR I q (by simp))
  |int j=>obtain ⟨t',rfl⟩:=ry;exact PySem.EqMixed.eq_str_int (jR I q (by simp))
  |str j=>obtain ⟨t',rfl⟩:=ry;exact eq_str (jR I q ZK)
  |_=>exact absurd (show false=true from hs) Bool.false_ne_true
 |byt i =>
  obtain ⟨t,rfl⟩:=rx
  cases y with
  |byt j=>obtain ⟨t',rfl⟩:=ry;exact PySem.W.eq_bytes (jR I q ZM)
  |_=>exact absurd (show false=true from hs) Bool.false_ne_true
 |_=>cases y<;>exact absurd (show false=true from hs) Bool.false_ne_true
theorem JV:OpR X (compareOp .NotEq) iB:=by
 intro pins s σ H x y v u Q I rx ry h
 obtain ⟨hs,q⟩:=h
 cases x with
 |non =>
  cases rx
  cases y with
  |non=>cases ry;exact PySem.EqNone.ne_none_none (jR I q (by simp))
  |bl j=>cases ry;exact PySem.EqNone.ne_none_bool (jR I q (by simp))
  |int j=>obtain ⟨t',rfl⟩:=ry;exact PySem.EqNone.ne_none_int (jR I q (by simp))
  |str j=>obtain ⟨t',rfl⟩:=ry;exact PySem.EqNone.ne_none_str (jR I q (by simp))
  |_=>exact absurd (show false=true from hs) Bool.false_ne_true
 |bl i =>
  cases rx
  cases y with
  |non=>cases ry;exact PySem.EqNone.ne_bool_none (jR I q (by simp))
  |bl j=>cases ry;exact ne_bool (jR I q (congrArg not ZS))
  |str j=>obtain ⟨t',rfl⟩:=ry;exact PySem.EqMixed.ne_bool_str (jR I q (by simp))
  |_=>exact absurd (show false=true from hs) Bool.false_ne_true
 |int i =>
  obtain ⟨t,rfl⟩:=rx
  cases y with
  |non=>cases ry;exact PySem.EqNone.ne_int_none (jR I q (by simp))
  |int j=>obtain ⟨t',rfl⟩:=ry;exact ne_int (jR I q (congrArg not ZL))
  |str j=>obtain ⟨t',rfl⟩:=ry;exact PySem.EqMixed.ne_int_str (jR I q (by simp))
  |_=>exact absurd (show false=true from hs) Bool.false_ne_true
 |str i =>
  obtain ⟨t,rfl⟩:=rx
  cases y with
  |non=>cases ry;exact PySem.EqNone.ne_str_none (jR I q (by simp))
  |bl j=>cases ry;exact PySem.EqMixed.ne_str_bool (jR I q (by simp))
  |int j=>obtain ⟨t',rfl⟩:=ry;exact PySem.EqMixed.ne_str_int (jR I q (by simp))
  |str j=>obtain ⟨t',rfl⟩:=ry;exact ne_str (jR I q (congrArg not ZK))
  |_=>exact absurd (show false=true from hs) Bool.false_ne_true
 |byt i =>
  obtain ⟨t,rfl⟩:=rx
  cases y with
  |byt j=>obtain ⟨t',rfl⟩:=ry;exact PySem.W.ne_bytes (jR I q (congrArg not ZM))
  |_=>exact absurd (show false=true from hs) Bool.false_ne_true
 |_=>cases y<;>exact absurd (show false=true from hs) Bool.false_ne_true
theorem gA:OpR X (compareOp .Lt) (v3 fun i j=>.bl (decide (i<j))):=Z9 fun _ _ _ _ _ _ _ q=>lt_int q
theorem gB:OpR X (compareOp .GtE) (v3 fun i j=>.bl (decide (j≤i))):=Z9 fun _ _ _ _ _ _ _ q=>ge_int q
theorem ZH:OpR X (compareOp .IsNot) (fun x y H Q=>y=.non∧Q (.bl (!decide (x=.non))) H):=by
 intro pins s σ H x y v u Q I rx ry h
 obtain ⟨rfl,q⟩:=h
 cases ry
 refine isnot_none_gen (jR I q ?_)
 cases x<;>first
  | (cases rx;rfl)
  | (obtain ⟨t,rfl⟩:=rx;rfl)
theorem OpR.or {f:Value→Value→Sem Value} {r r':R2} (h:OpR X f r) (h':OpR X f r'):OpR X f (fun x y H Q=>r x y H Q∨r' x y H Q):=by
 intro pins s σ H x y v u Q I rx ry q
 rcases q with q|q
 ·exact h pins s σ H x y v u Q I rx ry q
 ·exact h' pins s σ H x y v u Q I rx ry q
theorem jW (b:Expr) {op:CmpOp} (h:op≠.In:=by decide) (h2:op≠.NotIn:=by decide):behindInMarks op b=false:=by
 have e1:(op == CmpOp.In)=false:=by cases op<;>first|rfl|exact absurd rfl h
 have e2:(op == CmpOp.NotIn)=false:=by cases op<;>first|rfl|exact absurd rfl h2
 cases b<;>simp [behindInMarks,e1,e2]
theorem qY {op:CmpOp} {r:R2} (ho:OpR X (compareOp op) r) (ha:PE X a ta) (hb:PE X b tb) (hm:behindInMarks op b=false):PE X (.Compare a [op] [b] pos) (zV r ta tb):=by
 intro pins s σ H Q I h
 exact wpAny_Compare1 (J3 ha hb I h fun v u s2 x y H2 I2 rx ry q=>ho pins s2 σ H2 x y v u Q I2 rx ry q) hm
def fO (t:TE):TT:=fun σ H Q=>t σ H fun x H'=>∃k,x=.bl k∧Q k H'
theorem kD {op:CmpOp} {r:R2} (ho:OpR X (compareOp op) r) (ha:PE X a ta) (hb:PE X b tb) (hm:behindInMarks op b=false):PT X (.Compare a [op] [b] pos) (fO (zV r ta tb)):=by
 intro pins s σ H Q I h
 refine wpAny_isTrue_Compare1 (jF (ha pins s σ H _ I h) fun v s1 ⟨x,H1,I1,r1,q1⟩=>jF (hb pins s1 σ H1 _ I1 q1) fun u s2 ⟨y,H2,I2,r2,q2⟩ =>
  jF (ho pins s2 σ H2 x y v u _ I2 r1 r2 q2) fun c s3 ⟨z,H3,I3,r3,k,e,q3⟩=>?_) hm
 subst e
 cases r3
 exact wpAny_truthy_bool ⟨H3,I3,q3⟩
def bB (K:PySem.W.Frag) (x:V) (H:Hp) (k:Bool):Prop :=
 match x with
 |.non=>k=false
 |.bl b=>k=b
 |.int i=>k=(i != 0)
 |.str y=>y.length≤sizeLine∧k=((y.length:Int) != 0)
 |.byt y=>y.size≤sizeLine∧k=((y.size:Int) != 0)
 |.ref p=>(∃xs,SqL K H p xs∧k = !xs.isEmpty)∨(∃xs,SqT K H p xs∧k = !xs.isEmpty)∨∃kvs,H p=some (.dK kvs)∧k = !kvs.isEmpty
 |_=>False
theorem cP {κ:Type} {kvs:List (κ×V)} {vs:List (κ×Value)} (r:KV kvs vs):(!vs.isEmpty) = !kvs.isEmpty:=by
 cases r<;>rfl
theorem QE {xs:List V} {its:List Value} (r:Vals xs its):(!its.toArray.isEmpty) = !xs.isEmpty:=by
 cases r<;>simp
theorem yN:(sizeLine:Nat)<2 ^ 63:=by rw [sizeLine_eq];decide
theorem eY:g4 X (fun x H Q=>∃k,bB X.K x H k∧Q k H):=by
 intro pins s σ H x v Q I rx h
 obtain ⟨k,e,q⟩:=h
 have hl:=yN
 have hs:sizeLine=16777216:=sizeLine_eq
 cases x with
 |non =>
  cases rx
  have e':k=false:=e
  subst e'
  exact truthy_none ⟨H,I,q⟩
 |bl b =>
  cases rx
  have e':k=b:=e
  subst e'
  exact wpAny_truthy_bool ⟨H,I,q⟩
 |int i =>
  obtain ⟨t,rfl⟩:=rx
  have e':k=(i != 0):=e
  subst e'
  exact PySem.P.truthy_int ⟨H,I,q⟩
 |str y =>
  obtain ⟨t,rfl⟩:=rx
  obtain ⟨hy,e'⟩:y.length≤sizeLine∧k=((y.length:Int) != 0):=e
  subst e'
  exact PySem.P.truthy_str (by omega) ⟨H,I.tok _,q⟩
 |byt y =>
  obtain ⟨t,rfl⟩:=rx
  obtain ⟨hy,e'⟩:y.size≤sizeLine∧k=((y.size:Int) != 0):=e
  subst e'
  exact PySem.W.truthy_bytes (by omega) ⟨H,I.tok _,q⟩
 |ref p =>
  cases rx
  have e':(∃xs,SqL X.K H p xs∧k = !xs.isEmpty)∨(∃xs,SqT X.K H p xs∧k = !xs.isEmpty)∨∃kvs,H p=some (.dK kvs)∧k = !kvs.isEmpty:=e
  rcases e' with ⟨xs,hx,e'⟩|⟨xs,hx,e'⟩|⟨kvs,hx,e'⟩
  ·subst e'
   obtain ⟨its,r,pl,hz⟩:=I.list hx
   have hlen:=r.length
   exact wpAny_truthy_list pl.isList (by simp only [List.size_toArray];omega) ⟨H,I.tok _,by rw [QE r];exact q⟩
  ·subst e'
   obtain ⟨its,r,pl,hz⟩:=I.tuple hx
   have hlen:=r.length
   exact truthy_tuple pl (by simp only [List.size_toArray];omega) ⟨H,I.tok _,by rw [QE r];exact q⟩
  ·subst e'
   obtain ⟨hz,hS,vs,r,m⟩:kvs.length≤sizeLine∧(p == sysModules)=false∧∃vs,KV kvs vs∧s.heap.DictOf (JI X.prog X.w) p vs:=I.hok p _ hx
   have hlen:kvs.length=vs.length:=Paired.length r
   exact wpAny_truthy_dict hS m (by omega) ⟨H,I.tok _,by rw [cP r];exact q⟩
 |_=>exact (show False from e).elim
theorem dR (ha:PE X a ta) (he:∀whole,isTrue a X.env whole=(do let v ← whole;standAt a.pos;holding [v] (truthy v))) :
  PT X a (fun σ H Q=>ta σ H fun x H'=>∃k,bB X.K x H' k∧Q k H'):=by
 intro pins s σ H Q I h
 exact isTrue_plain (jF (ha pins s σ H _ I h) fun v s1 ⟨x,H1,I1,r1,q1⟩=>eY pins s1 σ H1 x v Q I1 r1 q1) (he _)
theorem QD:OpR X (binaryOp .Add) (fun x y H Q=>∃i j,x=.str i∧y=.str j∧i.length+j.length≤sizeLine∧Q (.str (i++j)) H):=by
 intro pins s σ H x y v u Q I rx ry h
 obtain ⟨i,j,rfl,rfl,hz,q⟩:=h
 obtain ⟨t,rfl⟩:=rx
 obtain ⟨t',rfl⟩:=ry
 exact add_str (fun t' tk=>⟨.str (i++j),H,I.tok _,⟨_,rfl⟩,q⟩) hz
theorem JS {x:V} {us:List Value} (r:Vals [x] us):∃u,us=[u]∧RelV x u:=by
 cases r with
 |cons r1 r2=>cases r2;exact ⟨_,rfl,r1⟩
theorem fN {x y:V} {us:List Value} (r:Vals [x,y] us):∃u w',us=[u,w']∧RelV x u∧RelV y w':=by
 cases r with
 |cons r1 r2 =>
  cases r2 with
  |cons r3 r4=>cases r4;exact ⟨_,_,rfl,r1,r3⟩
end
end L2
namespace L2
open PySem PySem.Spec PyProof.Rows
structure ObjM (h:Heap) (x dx C:Addr) (mA:Str→Option Value):Prop where
 obj:h.get? x=some (PySem.W.instObj C dx)
 ns:h.Ns1 dx mA
 ne:dx≠x
theorem cZ {h:Heap} {dx:Addr} {mA:Str→Option Value} (n:h.Ns1 dx mA):∃od,h.get? dx=some od∧∀name,PySem.W.lookIn name od=some (mA name):=by
 obtain ⟨o,es,ep,ho,hd,hk,_,hm⟩:=n
 refine ⟨o,ho,fun name=>?_⟩
 have e:=hm name
 unfold nsFind findBy at e
 rw [← Array.find?_toList] at e
 unfold PySem.W.lookIn
 rw [hd]
 dsimp only
 split
 ·rename_i y q
  rw [q] at e
  exact congrArg some e
 ·rename_i q
  rw [q] at e
  have a:es.toList.any (·.refKey)=false:=by
   rw [List.any_eq_false]
   intro y hy
   obtain ⟨z,t,hkey⟩:=hk y (Array.mem_toList_iff.mp hy)
   simp [DictEntry.refKey,hkey]
  have a':¬es.toList.any (·.refKey)=true:=by rw [a];exact Bool.false_ne_true
  rw [if_neg a']
  exact congrArg some e
theorem ObjM.look {h:Heap} {x dx C:Addr} {mA:Str→Option Value} (I:ObjM h x dx C mA):∃od,PySem.W.InstAt h x (PySem.W.instObj C dx) C (some od)∧∀name,PySem.W.lookIn name od=some (mA name) :=
 let ⟨od,ho,hl⟩:=cZ I.ns
 ⟨od,⟨I.obj,rfl,rfl,ho⟩,hl⟩
section
variable {prog:Program} {w:World} {A:Around} {E:Value→Shared→Prop} {s:Shared} {K:PySem.W.Frag} {x dx C f:Addr} {mA:Str→Option Value} {name:Str} {v:Value}
end
section
variable {P:Program} {w:World} {H H':Hp} {h h':Heap} {a C dx:Addr} {fs fs':List (Str×V)}
theorem eO (hok:HOk P w H h) (e:H a=some (.ins C dx fs)):∃mA,ObjM h a dx C mA∧(∀f,RelO (fs.lookup f) (mA f))∧PySem.Within mA (fs.map (·.1))∧fs.length≤1000∧H dx=some (.own a):=by
 obtain ⟨d,z,ne,ob,mA,n,r,q⟩:=(show ObjOk P w H h a (.ins C dx fs) from hok a _ e)
 exact ⟨mA,⟨ob,n,ne⟩,r,q,z,d⟩
end
structure Cls (K:PySem.W.Frag) (C:Addr):Prop where
 pg:PySem.W.plainGet K C Str.empty=true
 hd:PySem.W.hasDictIn K C=true
 po:PySem.W.plainOver K C=true
 sa:PySem.W.findIn K (.ref C) "__setattr__"=some (some (.builtin "object.__setattr__"))
theorem Cls.get {K:PySem.W.Frag} {C:Addr} (c:Cls K C) (f:Str):PySem.W.plainGet K C f=true:=c.pg
section
variable {X:Cx} {pins:List (Addr×Obj)} {σ:St} {H:Hp} {s:Shared} {a C dx:Addr} {fs:List (Str×V)} {f:Str} {v:V} {A:Around} {E:Value→Shared→Prop}
end
section
variable {X:Cx} {o e value:Expr} {f:Str} {pos pos' tpos:Pos} {ta tv:TE}
end
section
variable {X:Cx} {pins:List (Addr×Obj)} {σ:St} {H:Hp} {s:Shared} {A:Around} {E:Value→Shared→Prop} {Q:Value→Shared→Prop} {c:Value} {b:Bool}
inductive TyOf (K:PySem.W.Frag) (H:Hp):V→Value→Prop where
 |non:TyOf K H .non (.type "NoneType")
 |bl (x:Bool):TyOf K H (.bl x) (.type "bool")
 |int (i:Int):TyOf K H (.int i) (.type "int")
 |str (x:Str):TyOf K H (.str x) (.type "str")
 |flt (x:UInt64):TyOf K H (.flt x) (.type "float")
 |lst {a:Addr} {xs:List V} (e:H a=some (.lst xs)):TyOf K H (.ref a) (.type "list")
 |frz {a:Addr} {o:Obj} {xs:List V} (e:H a=some (.frz o (.lst xs))):TyOf K H (.ref a) (.type "list")
 |tup {a:Addr} {xs:List V} (e:H a=some (.tup xs)):TyOf K H (.ref a) (.type "tuple")
 |dK {a:Addr} {kvs:List (jQ×V)} (e:H a=some (.dK kvs)):TyOf K H (.ref a) (.type "dict")
 |dT {a:Addr} {kvs:List (List jQ×V)} (e:H a=some (.dT kvs)):TyOf K H (.ref a) (.type "dict")
 |ins {a C dx:Addr} {fs:List (Str×V)} (e:H a=some (.ins C dx fs)) (cl:Cls K C) (ha:PySem.W.findIn K (.ref C) "__class__"=some (some (.builtin "object.__class__")))
   (hn:PySem.W.specialIn K (.builtin "object.__class__") "__get__"=some (some (.builtin "getset_descriptor.__get__"))) (htk:PySem.W.takesIn K (.builtin "object.__class__")=some true)
   (hm:PySem.W.mroIn K C (.type "object")=some true):TyOf K H (.ref a) (.ref C)
theorem dB {x:V} {u t:Value} (I:Inv X pins σ H s) (rx:RelV x u) (ty:TyOf X.K H x t) (e:PySem.W.kitOne X.K t c=some b) (h:∀tk,Q (.bool b) {s with toks:=tk}) :
  wpAny (model X.prog X.w) A (call (.builtin "isinstance") [u,c]) Q E s:=by
 cases ty with
 |non=>cases (show u=Value.none from rx);exact PySem.W.kia_one PySem.W.kitx_none I.kIn True.intro e (fun z=>nomatch z) h
 |bl y=>cases (show u=Value.bool y from rx);exact PySem.W.kia_one PySem.W.kitx_bool I.kIn True.intro e (fun z=>nomatch z) h
 |int i=>obtain ⟨t,q⟩:=(show ∃t,u=Value.int i t from rx);cases q;exact PySem.W.kia_one PySem.W.kitx_int I.kIn True.intro e (fun z=>nomatch z) h
 |str y=>obtain ⟨t,q⟩:=(show ∃t,u=Value.str y t from rx);cases q;exact PySem.W.kia_one PySem.W.kitx_str I.kIn True.intro e (fun z=>nomatch z) h
 |flt y=>obtain ⟨t,q⟩:=(show ∃t,u=Value.float y t from rx);cases q;exact PySem.W.kia_one PySem.W.kitx_float I.kIn True.intro e (fun z=>nomatch z) h
 |@lst a xs ea =>
  cases (show u=Value.ref a from rx)
  obtain ⟨_,_,n,_,h1⟩:=(show ObjOk X.prog X.w H s.heap a (.lst xs) from I.hok a _ ea)
  exact PySem.W.kia_one PySem.W.kitx_list I.kIn ⟨_,h1,rfl⟩ e (fun z=>nomatch z) h
 |@frz a ob xs ea =>
  cases (show u=Value.ref a from rx)
  obtain ⟨_,_,_,n,_,h1⟩:=(show ObjOk X.prog X.w H s.heap a (.frz ob (.lst xs)) from I.hok a _ ea)
  exact PySem.W.kia_one PySem.W.kitx_list I.kIn ⟨_,h1,rfl⟩ e (fun z=>nomatch z) h
 |@tup a xs ea =>
  cases (show u=Value.ref a from rx)
  obtain ⟨_,_,_,p⟩:=(show ObjOk X.prog X.w H s.heap a (.tup xs) from I.hok a _ ea)
  obtain ⟨o,h1,h2,_⟩:=p
  exact PySem.W.kia_one PySem.W.kitx_tuple I.kIn ⟨o,h1,h2⟩ e (fun z=>nomatch z) h
 |@dK a kvs ea =>
  cases (show u=Value.ref a from rx)
  obtain ⟨_,_,vs,_,p⟩:=(show ObjOk X.prog X.w H s.heap a (.dK kvs) from I.hok a _ ea)
  obtain ⟨o,es,ep,h1,h2,_⟩:=p
  exact PySem.W.kia_one PySem.W.kitx_dict I.kIn ⟨o,h1,h2.1⟩ e (fun z=>nomatch z) h
 |@dT a kvs ea =>
  cases (show u=Value.ref a from rx)
  obtain ⟨_,_,xs,_,o,es,ep,h1,h2,_⟩:=(show ObjOk X.prog X.w H s.heap a (.dT kvs) from I.hok a _ ea)
  exact PySem.W.kia_one PySem.W.kitx_dict I.kIn ⟨o,h1,h2.1⟩ e (fun z=>nomatch z) h
 |@ins a C dx fs ea cl ha hn htk hm =>
  cases (show u=Value.ref a from rx)
  obtain ⟨mA,O,_⟩:=eO I.hok ea
  obtain ⟨od,J,_⟩:=O.look
  exact PySem.W.kia_one (PySem.W.kitx_own (cl.get _) cl.hd ha hn htk hm) I.kIn J e (fun z=>nomatch z) h
end
end L2
namespace L2
open PySem PySem.Spec PyProof.Rows
structure Room (k:Nat) (A:Around):Prop where
 hd:A.handled=none
 dp:A.depth+3*k+5<recursionLimit
 un:A.units+16*k+200<cLine
theorem Room.mono {j k:Nat} {A:Around} (r:Room k A) (h:j≤k):Room j A:=⟨r.hd,by have:=r.dp;omega,by have:=r.un;omega⟩
theorem Room.deeper {k:Nat} {A:Around} (r:Room (k+1) A) (env:Env):Room k (A.deeper env) :=
 ⟨r.hd,by have:=r.dp;show A.depth+1+3*k+5<_;omega,by have:=r.un;show A.units+3+16*k+200<_;omega⟩
theorem Room.depth {k:Nat} {A:Around} (r:Room k A):A.depth<recursionLimit:=by have:=r.dp;omega
theorem Room.units {k:Nat} {A:Around} (r:Room k A):A.units+64<cLine:=by have:=r.un;omega
theorem Room.units0 {k:Nat} {A:Around} (r:Room k A):A.units<cLine:=by have:=r.un;omega
def gL:TA:=fun _ H Q=>Q [] H
def fV (ta:TE) (tr:TA):TA:=fun σ H Q=>ta σ H fun x H1=>tr σ H1 fun xs H2=>Q (x::xs) H2
section
variable {X:Cx} {e:Expr} {es:List Expr} {te:TE} {t:TA} {pos:Pos}
theorem jG:PA X [] gL:=fun _ _ _ _ H Q I h=>Calls.spliced_nil ⟨[],H,I,.nil,h⟩
theorem jA (ha:PE X e te) (hr:PA X es t) (hs:starEach (e::es) X.env=(false,eval e X.env)::starEach es X.env:=by rfl):PA X (e::es) (fV te t):=by
 intro pos pins s σ H Q I h
 rw [hs]
 show wpAny _ _ (spliced ((false,eval e X.env)::backTo pos (starEach es X.env))) _ _ s
 refine Calls.spliced_cons (jF (ha pins s σ H _ I h) fun u s1 ⟨x,H1,I1,r1,q1⟩=>?_)
 exact jF (hr pos pins s1 σ H1 _ I1 q1) fun us s2 ⟨xs,H2,I2,r2,q2⟩=>⟨x::xs,H2,I2,.cons r1 r2,q2⟩
def gG (t:TA):TE:=fun σ H Q=>t σ H fun xs H1=>xs.length≤sizeLine∧∀p,H1 p=none→Q (.ref p) (jB H1 p (.tup xs))
def gM (t:TA):TE:=fun σ H Q=>t σ H fun xs H1=>xs.length≤sizeLine∧∀p,H1 p=none→Q (.ref p) (jB H1 p (.lst xs))
theorem yL {x1} (h:PA X es t):PE X (.Tuple es x1 pos) (gG t):=by
 intro pins s σ H Q I hq
 refine wpAny_Tuple_spliced (jF (h pos pins s σ H _ I hq) fun us s1 ⟨xs,H1,I1,r,z,q⟩=>⟨by rw [← r.length];exact z,?_⟩)
 have hf:H1 s1.heap.objs.size=none:=I1.hok.fresh (Nat.le_refl _)
 refine ⟨.ref s1.heap.objs.size,jB H1 s1.heap.objs.size (.tup xs),I1.laid (t':=s1.toks) (fun b u e=>Heap.get?_push_of_some _ e) (Nat.le_refl _) ?_,rfl,q _ hf⟩
 exact ⟨z,us,r,⟨_,Heap.get?_push_size _ rfl,rfl,_,rfl⟩⟩
theorem v9 (h:PA X es t):PE X (.List es pos) (gM t):=by
 intro pins s σ H Q I hq
 refine wpAny_List_spliced (jF (h pos pins s σ H _ I hq) fun us s1 ⟨xs,H1,I1,r,z,q⟩=>⟨by rw [← r.length];exact z,?_⟩)
 have hf:H1 s1.heap.objs.size=none:=I1.hok.fresh (Nat.le_refl _)
 refine ⟨.ref s1.heap.objs.size,jB H1 s1.heap.objs.size (.lst xs),I1.laid (t':=s1.toks) (fun b u e=>Heap.get?_push_of_some _ e) (Nat.le_refl _) ?_,rfl,q _ hf⟩
 exact ⟨z,us,0,r,Heap.get?_push_size _ rfl⟩
end
abbrev Sp:=List V→Hp→VK→XK→Prop
abbrev kA:=List Env→Hp→Shared→XK→Value→Shared→Prop
structure Env0 (P:Program) (w:World) (K:PySem.W.Frag) (mg:Str→Option Value) (base:Heap) (A:Around) (outer:List Env) (s:Shared) (H:Hp):Prop where
 frames:A.frames=some outer
 mod:Mod K mg base
 bs:∀b o,base.get? b=some o→s.heap.get? b=some o∧H b=none
 bsz:base.objs.size≤s.heap.objs.size
 funs:s.heap.FunFrames base outer
 frf:∀b∈kK outer,H b=none
 hok:HOk P w H s.heap
 bare:AllBare s.gens
def CE (outer:List Env) (P:Program) (w:World) (H:Hp) (s:Shared) (Q:VK) (u:Value) (s':Shared):Prop :=
 ∃v H',s'.os=s.os∧AllBare s'.gens∧Un (kK outer) [] H H' s.heap s'.heap∧HOk P w H' s'.heap∧RelV v u∧Q v H'
def CR (CX:kA) (outer:List Env) (P:Program) (w:World) (H:Hp) (s:Shared) (Q:VK) (E:XK) (r:Result) (s':Shared):Prop :=
 match r with
 |.ok (.ret u)=>CE outer P w H s Q u s'
 |.ok _=>False
 |.error e=>CX outer H s E e s'
structure FnOk (P:Program) (w:World) (K:PySem.W.Frag) (mg:Str→Option Value) (base:Heap) (CX:kA) (k:Nat) (f:Addr) (fd:FuncData) (ps:List Str) (sp:Sp):Prop where
 len:∀vs H Q E,sp vs H Q E→vs.length=ps.length
 run:∀(A:Around) (outer:List Env) (s:Shared) (H:Hp) (args:Args) (us:List Value) (vs:List V) (Q:VK) (E:XK),Room k A→Env0 P w K mg base A outer s H→BindsTo s fd args (ps.zip us)→Vals vs us→sp vs H Q E→
  codeAny (model P w) A (.call (.ref f) args) (CR CX outer P w H s Q E) s
section
variable {X:Cx} {pins:List (Addr×Obj)} {σ:St} {H:Hp} {s s':Shared}
theorem Inv.env0 (I:Inv X pins σ H s):Env0 X.prog X.w X.K X.mg X.base X.A X.stack s H :=
 ⟨I.ok.frames,I.ok.mod,I.bs,Nat.le_trans I.ok.bsz I.sz,I.stack,I.stkFree,I.hok,I.bare⟩
theorem Inv.after {Q:VK} {u:Value} (I:Inv X pins σ H s) (h:CE X.stack X.prog X.w H s Q u s'):EP X pins σ Q u s':=by
 obtain ⟨v,H',os,bare,un,hok,r,q⟩:=h
 obtain ⟨hh,g,d,t,os'⟩:=s'
 obtain rfl:os'=s.os:=os
 exact ⟨v,H',I.call (h':=hh) (g':=g) (d':=d) (t':=t) (ch:=[]) un hok bare (fun b z=>absurd z (by simp)),r,q⟩
end
def ZV (sp:Sp) (dvs:List V) (E:XK) (t:TA):TE:=fun σ H Q=>t σ H fun vs H1=>sp (vs++dvs) H1 Q E
def Binds (K:PySem.W.Frag) (fd:FuncData) (ps:List Str) (ds:List Value):Prop :=
 ∀(s:Shared) (us:List Value),K.In s.heap→(us++ds).length=ps.length→BindsTo s fd ⟨us,[]⟩ (ps.zip (us++ds))
theorem Binds.all {K:PySem.W.Frag} {fd:FuncData} {ps:List Str} (h:∀us:List Value,us.length=ps.length→bindArgs fd ⟨us,[]⟩=pure (ps.zip us)):Binds K fd ps []:=fun s us _ hl=>by
 rw [List.append_nil] at hl ⊢
 exact .of_eq (h us hl)
def zO (CX:kA) (X:Cx) (E:XK):Prop:=∀(pins:List (Addr×Obj)) (σ:St) (H:Hp) (s:Shared) (e:Value) (s':Shared),Inv X pins σ H s→CX X.stack H s E e s'→X.xe e s'
section
variable {X:Cx} {CX:kA} {k:Nat} {f C:Addr} {fd:FuncData} {ps:List Str} {sp:Sp} {dvs:List V} {ds:List Value} {E:XK} {x m:Str} {p pos apos:Pos} {e o:Expr} {es:List Expr} {ta:TE} {t:TA}
theorem e9 {pins:List (Addr×Obj)} {σ:St} {H:Hp} {s:Shared} {Q:VK} {us:List Value} {vs:List V} (F:FnOk X.prog X.w X.K X.mg X.base CX k f fd ps sp) (hr:Room k X.A) (hb:Binds X.K fd ps ds) (hd:Vals dvs ds) (hx:zO CX X E)
  (I:Inv X pins σ H s) (r:Vals vs us) (h:sp (vs++dvs) H Q E):wpAny (model X.prog X.w) X.A (call (.ref f) us) (EP X pins σ Q) X.xe s:=by
 have r2:Vals (vs++dvs) (us++ds):=r.append hd
 have hl:(us++ds).length=ps.length:=by rw [← r2.length];exact F.len _ _ _ _ h
 refine wpAny_call (codeAny_mono (F.run X.A X.stack s H ⟨us,[]⟩ (us++ds) (vs++dvs) Q E hr I.env0 (hb s us I.kIn hl) r2 h) fun r s' hq=>?_)
 cases r with
 |error e=>exact hx pins σ H s e s' I hq
 |ok fl =>
  cases fl with
  |ret u=>exact I.after hq
  |next=>exact False.elim hq
  |brk=>exact False.elim hq
  |cont=>exact False.elim hq
theorem eE (F:FnOk X.prog X.w X.K X.mg X.base CX k f fd ps sp) (hr:Room k X.A) (hg:Gl X x) (hm:X.mg x=some (.ref f)) (hk:PySem.W.keepIn X.K (.ref f)=true) (hb:Binds X.K fd ps ds) (hd:Vals dvs ds) (hx:zO CX X E)
  (ha:PA X (e::es) t) (hdb:(x == ("__debug__":Str))=false:=by decide) (he:starEach (e::es) X.env=(false,eval e X.env)::starEach es X.env:=by rfl) (hpl:(backTo pos (starEach es X.env)).any (·.1)=false:=by rfl) :
  PE X (.Call (.Name x p) (e::es) [] pos) (ZV sp dvs E t):=by
 intro pins s σ H Q I h
 refine wpAny_Call_Name_kw (ZJ I hg hm ?_ hdb)
 refine PySem.W.callWith_K (h₀:=X.base) I.ok.mod.kin hk (jF (ha pos pins s σ H _ I h) fun us s1 ⟨vs,H1,I1,r,q⟩=>⟨I1.kIn,?_⟩) he hpl
 exact e9 F hr hb hd hx I1 r q
end
section
variable {X:Cx} {CX:kA} {k:Nat} {f C:Addr} {fd:FuncData} {ps ks:List Str} {sp:Sp} {E:XK} {x m:Str} {p pos apos kpos:Pos} {e o:Expr} {es:List Expr} {kws:List Keyword} {te ta:TE} {t tk:TA} {nm:Option Str}
variable {g:List Value→List Value→List Value} {gV:List V→List V→List V}
end
structure FnScope (N P:List Str) (sc:Scope):Prop where
 kind:sc.kind=.function
 co:sc.isCoroutine=false
 gen:sc.isGenerator=false
 nd:N.Nodup
 pre:N.take P.length=P
 par:∀x∈P,sc.names.lookup x=some .local∨sc.names.lookup x=some .cell
 nofree:∀y∈sc.names,y.2≠.free
theorem QO {kindOf:Str→Option NameKind} {x:Str}:∀{binds:List (Str×Value)} {m:Str→Option Value},(∀v,(x,v)∉binds)→bindL kindOf binds m x=m x
 |[],_,_=>rfl
 | (n,v)::r,m,h=>by
  unfold bindL
  rw [QO fun w hw=>h w (List.mem_cons_of_mem _ hw)]
  split
  ·have:x≠n:=by rintro rfl;exact h v List.mem_cons_self
   simp [this]
  ·rfl
theorem QQ {kindOf:Str→Option NameKind} {x:Str}:∀{binds:List (Str×Value)} {m:Str→Option Value},(∀v,(x,v)∉binds)→bindC kindOf binds m x=m x
 |[],_,_=>rfl
 | (n,v)::r,m,h=>by
  unfold bindC
  rw [QQ fun w hw=>h w (List.mem_cons_of_mem _ hw)]
  split
  ·rfl
  ·have:x≠n:=by rintro rfl;exact h v List.mem_cons_self
   simp [this]
theorem QP {kindOf:Str→Option NameKind} {x:Str} {v:Value}:∀{P:List Str} {vs:List Value} {i:Nat} {m:Str→Option Value},P.Nodup→P[i]?=some x→vs[i]?=some v→kindOf x=some .local→
  bindL kindOf (P.zip vs) m x=some v
 |[],_,_,_,_,h,_,_=>by simp at h
 |_::_,[],_,_,_,_,h,_=>by simp at h
 |p::P,w::vs,0,m,nd,h1,h2,hk=>by
  simp at h1 h2;subst h1;subst h2
  show bindL kindOf ((p,w)::P.zip vs) m p=_
  unfold bindL
  rw [QO fun v hv=>(List.nodup_cons.mp nd).1 (List.of_mem_zip hv).1,if_pos hk]
  simp
 |p::P,w::vs,i+1,m,nd,h1,h2,hk=>by
  show bindL kindOf ((p,w)::P.zip vs) m x=_
  unfold bindL
  exact QP (i:=i) (List.nodup_cons.mp nd).2 (by simpa using h1) (by simpa using h2) hk
theorem QR {kindOf:Str→Option NameKind} {x:Str} {v:Value}:∀{P:List Str} {vs:List Value} {i:Nat} {m:Str→Option Value},P.Nodup→P[i]?=some x→vs[i]?=some v→kindOf x≠some .local→
  bindC kindOf (P.zip vs) m x=some v
 |[],_,_,_,_,h,_,_=>by simp at h
 |_::_,[],_,_,_,_,h,_=>by simp at h
 |p::P,w::vs,0,m,nd,h1,h2,hk=>by
  simp at h1 h2;subst h1;subst h2
  show bindC kindOf ((p,w)::P.zip vs) m p=_
  unfold bindC
  rw [QQ fun v hv=>(List.nodup_cons.mp nd).1 (List.of_mem_zip hv).1,if_neg hk]
  simp
 |p::P,w::vs,i+1,m,nd,h1,h2,hk=>by
  show bindC kindOf ((p,w)::P.zip vs) m x=_
  unfold bindC
  exact QR (i:=i) (List.nodup_cons.mp nd).2 (by simpa using h1) (by simpa using h2) hk
def kC (N:List Str) (vs:List V):St:=vs.map some++List.replicate (N.length - vs.length) none
def q9 (CX:kA) (P:Program) (w:World) (K:PySem.W.Frag) (mg:Str→Option Value) (base:Heap) (N:List Str) (qual:Str) (scope:Scope) (f:Addr) (cd:Value) (A:Around) (outer:List Env) (s:Shared) (H:Hp) (E:XK):Cx where
 prog:=P
 w:=w
 K:=K
 mg:=mg
 base:=base
 A:=A.deeper (envOfC qual scope s.heap.objs.size f cd)
 N:=N
 s₀:=s
 H₀:=H
 env:=envOfC qual scope s.heap.objs.size f cd
 outer:=outer
 stack:=envOfC qual scope s.heap.objs.size f cd::outer
 ex:=[]
 calm:=true
 fn:=fun _=>true
 pn:=[]
 xe:=fun e s'=>wpAny (model P w) (A.deeper (envOfC qual scope s.heap.objs.size f cd)) (leaving (envOfC qual scope s.heap.objs.size f cd) e) (fun _ s''=>CX outer H s E e s'') (fun e' s''=>CX outer H s E e' s'') s'
theorem Q5 {sc:Scope} {n:Nat} {x:Str} (h:sc.names.lookup x=some .cell):∃c,(cellsFrom n sc.names []).lookup x=some c:=by
 have q:=PySem.W.cellsFrom_some sc.names n [] (.inl h)
 exact Option.isSome_iff_exists.mp q
theorem dC {CX:kA} {P:Program} {w:World} {K:PySem.W.Frag} {mg:Str→Option Value} {base:Heap} {N ps:List Str} {qual:Str} {scope:Scope} {f:Addr} {cd:Value} {A:Around} {outer:List Env} {s s1:Shared} {H:Hp} {E:XK} {us:List Value} {vs:List V}
  (S:FnScope N ps scope) (hd:A.handled=none) (e0:Env0 P w K mg base A outer s H) (hl:vs.length=ps.length) (r:Vals vs us)
  (x:InCallC s s.heap.objs.size (bindL (envOfC qual scope s.heap.objs.size f cd).kindOf (ps.zip us) fun _=>none) (cellsFrom (s.heap.objs.size+1) scope.names []) (bindC (envOfC qual scope s.heap.objs.size f cd).kindOf (ps.zip us) fun _=>none) s1) :
  Inv (q9 CX P w K mg base N qual scope f cd A outer s H E) [] (kC N vs) H s1:=by
 have hpl:ps.length≤N.length:=by have:=congrArg List.length S.pre;rw [List.length_take] at this;omega
 obtain ⟨h1,tk,rfl,hk⟩:=x.done
 have noA:∀b:Addr,b∉(q9 CX P w K mg base N qual scope f cd A outer s H E).ex:=fun b z=>absurd (show b∈([]:List Addr) from z) (by simp)
 refine ⟨⟨e0.mod,S.kind,rfl,rfl,Nat.le_refl _,fun y z c h1 h2=>?_,fun y hy=>?_,fun y c _ h=>?_,fun _=>hd,Around.frames_deeper e0.frames,.inr ⟨rfl,rfl⟩,fun b z=>absurd z (noA b),e0.bs,e0.bsz,fun b _ _=>noA b,fun b z=>absurd z (noA b),e0.funs,e0.frf⟩,
  rfl,e0.bare,Un.kept hk,⟨_,x.toInCall.ns,fun i y v h1 h2 h3=>?_⟩,fun y c h=>⟨_,x.cell y c h⟩,e0.hok.fresh (Nat.le_refl _),fun y c h=>?_,fun p hp=>absurd (show p∈([]:List (Addr×Obj)) from hp) (by simp),e0.hok.kept hk,?_⟩
 ·exact name_of_addr x.apart (PySem.mem_of_lookup h1) (PySem.mem_of_lookup h2)
 ·have hy:scope.names.lookup y=some .cell∨scope.names.lookup y=some .free:=hy
  rcases hy with hy|hy
  ·exact Q5 hy
  ·exact absurd rfl (S.nofree _ (PySem.mem_of_lookup hy))
 ·exact Nat.le_of_lt (x.above y c (PySem.mem_of_lookup h))
 ·have hi:i<vs.length:=by
   unfold kC at h2
   by_cases hi:i<vs.length
   ·exact hi
   ·rw [List.getElem?_append_right (by simpa using hi)] at h2
    rw [List.getElem?_replicate] at h2
    split at h2<;>cases h2
  have ha:vs[i]?=some v:=by
   unfold kC at h2
   rw [List.getElem?_append_left (by simpa using hi),List.getElem?_map] at h2
   cases e:vs[i]? with
   |none=>rw [e] at h2;cases h2
   |some a=>rw [e] at h2;cases h2;rfl
  obtain ⟨u,hu,rv⟩:=r.get ha
  have hp:ps[i]?=some y:=by
   rw [← S.pre,List.getElem?_take_of_lt (by omega)];exact h1
  have ndP:ps.Nodup:=by rw [← S.pre];exact S.nd.sublist (List.take_sublist _ _)
  refine ⟨u,rv,?_⟩
  rcases S.par y (List.mem_of_getElem? hp) with k|k
  ·exact .inl ⟨k,QP ndP hp hu k⟩
  ·obtain ⟨c,e⟩:=Q5 (n:=s.heap.objs.size+1) k
   refine .inr ⟨.inl k,c,e,?_⟩
   have q:=x.cell y c e
   rw [QR ndP hp hu (by show scope.names.lookup y≠_;rw [k];decide)] at q
   exact q
 ·exact e0.hok.fresh (Nat.le_of_lt (x.above y c (PySem.mem_of_lookup h)))
 ·unfold kC
  show _=N.length
  rw [List.length_append,List.length_map,List.length_replicate]
  omega
theorem JX {CX:kA} {P:Program} {w:World} {K:PySem.W.Frag} {mg:Str→Option Value} {base:Heap} {k:Nat} {f:Addr} {name qual:Str} {params:Arguments} {body:List Stmt} {scope:Scope} {dV kV doc pm cdv ct oc:Value} {an od:Option Addr}
  {osl:Array (Option Value)} {N ps:List Str} {sp:Sp} (lk:K.lookup f=some ⟨oc,od,.func (PySem.W.fnOf name qual params body scope dV kV doc pm an cdv ct),osl⟩) (hcd:PySem.W.codeIn K cdv qual=true) (S:FnScope N ps scope)
  (len:∀vs H Q E,sp vs H Q E→vs.length=ps.length)
  (hbody:∀(A:Around) (outer:List Env) (s:Shared) (H:Hp) (vs:List V) (Q:VK) (E:XK),Room k (A.deeper (envOfC qual scope s.heap.objs.size f cdv))→sp vs H Q E→
   ∃t,PSs (q9 CX P w K mg base N qual scope f cdv A outer s H E) body t∧t {nx:=fun _ H'=>Q .non H',rt:=Q} (kC N vs) H) :
  FnOk P w K mg base CX (k+1) f (PySem.W.fnOf name qual params body scope dV kV doc pm an cdv ct) ps sp:=by
 refine ⟨len,fun A outer s H args us vs Q E hr e0 hb r hsp=>?_⟩
 have hl:=len _ _ _ _ hsp
 have KX:K.In s.heap:=e0.mod.kin.keeps fun b o e=>(e0.bs b o e).1
 have lim:s.heap.NoLimit:=e0.mod.nolimit.keeps fun b o e=>(e0.bs b o e).1
 have hkind:∀y∈ps.zip us,scope.names.lookup y.1=some .local∨(scope.names.lookup y.1=some .cell∧((cellsFrom (s.heap.objs.size+1) scope.names []).lookup y.1).isSome=true):=fun ⟨n,v⟩ hy=>by
  rcases S.par n (List.of_mem_zip hy).1 with q|q
  ·exact .inl q
  ·exact .inr ⟨q,PySem.W.cellsFrom_some _ _ _ (.inl q)⟩
 refine codeAny_call_function hr.depth (KX _ _ lk) rfl S.co S.gen rfl (PySem.W.codeRec_of KX hcd) (hb _ _ _ _ ?_)
 refine wpAny_newFunctionEnv_cells S.kind hkind fun env he s1 x=>?_
 subst he
 refine ⟨lim.keeps x.toInCall.keep,codeAny_func ?_⟩
 obtain ⟨t,ht,hq⟩:=hbody A outer s H vs Q E (hr.deeper _) hsp
 have I:Inv (q9 CX P w K mg base N qual scope f cdv A outer s H E) [] (kC N vs) H s1:=dC S hr.hd e0 hl r x
 refine wpAny_mono (ht [] s1 (kC N vs) H _ I hq) (fun fl s' hs=>?_) fun e s' hs=>hs
 have fin:∀{σ':St} {H':Hp} {v:V} {u:Value},Inv (q9 CX P w K mg base N qual scope f cdv A outer s H E) [] σ' H' s'→RelV v u→Q v H'→CE outer P w H s Q u s' :=
  fun {σ' H' v u} J rv q=>⟨v,H',J.os,J.bare,J.base,J.hok,rv,q⟩
 cases fl with
 |ret u =>
  obtain ⟨v,σ',H',J,rv,q⟩:=hs
  exact fin J rv q
 |next =>
  obtain ⟨σ',H',J,q⟩:=hs
  exact fin (v:=V.non) (u:=Value.none) J rfl q
 |brk =>
  obtain ⟨_,_,_,q⟩:=hs
  exact False.elim q
 |cont =>
  obtain ⟨_,_,_,q⟩:=hs
  exact False.elim q
end L2
namespace L2
open PySem PySem.Spec PyProof.Rows
section
variable {X:Cx} {x:Str} {p pos:Pos} {e:Expr} {es:List Expr} {t:TA} {id T:String} {r:List V→Hp→VK→Prop}
def bE (r:List V→Hp→VK→Prop) (t:TA):TE:=fun σ H Q=>t σ H fun vs H1=>r vs H1 Q
theorem qB (hc:CallR X (.builtin id) r) (hg:Gl X x) (hm:X.mg x=none) (hv:bootBuiltins x=some (.builtin id)) (ha:PA X (e::es) t) (hn:x≠"__name__":=by decide) (hdb:(x == ("__debug__":Str))=false:=by decide)
  (he:starEach (e::es) X.env=(false,eval e X.env)::starEach es X.env:=by rfl) (hpl:(backTo pos (starEach es X.env)).any (·.1)=false:=by rfl):PE X (.Call (.Name x p) (e::es) [] pos) (bE r t):=by
 intro pins s σ H Q I h
 refine wpAny_Call_Name_kw (zL I hg hm hv ?_ hn hdb)
 exact PyProof.Rows.callWith_builtin1 (jF (ha pos pins s σ H _ I h) fun us s1 ⟨vs,H1,I1,r1,q1⟩=>hc pins s1 σ H1 vs us Q I1 r1 q1) he hpl
theorem yX (hc:CallR X (.type T) r) (hg:Gl X x) (hm:X.mg x=none) (hv:bootBuiltins x=some (.type T)) (ha:PA X (e::es) t) (hn:x≠"__name__":=by decide) (hdb:(x == ("__debug__":Str))=false:=by decide)
  (he:starEach (e::es) X.env=(false,eval e X.env)::starEach es X.env:=by rfl) (hpl:(backTo pos (starEach es X.env)).any (·.1)=false:=by rfl):PE X (.Call (.Name x p) (e::es) [] pos) (bE r t):=by
 intro pins s σ H Q I h
 refine wpAny_Call_Name_kw (zL I hg hm hv ?_ hn hdb)
 exact PyProof.Rows.callWith_type1 (jF (ha pos pins s σ H _ I h) fun us s1 ⟨vs,H1,I1,r1,q1⟩=>hc pins s1 σ H1 vs us Q I1 r1 q1) he hpl
end
end L2
namespace HT
open PySem PyProof.Rows
section
open PySem.SeqAt
open PySem.AutoSeq1 (wpAny_loadPart')
open PySem.MeetsSeq PySem.MeetsSeq2 PySem.MeetsSeq3
end
section
variable {prog:Program} {w:World} {A:Around} {E:Value→Shared→Prop} {s:Shared}
def sIx (n d:Nat):Option Int→Nat
 |none=>d
 |some v=>if v<0 then (v+(n:Int)).toNat else min v.toNat n
theorem sIx_none (n d:Nat):sIx n d none=d:=rfl
theorem sIx_nat (n d k:Nat):sIx n d (some (k:Int))=min k n:=by
 show (if (k:Int)<0 then ((k:Int)+(n:Int)).toNat else min (k:Int).toNat n)=min k n
 rw [if_neg (by omega),Int.toNat_natCast]
end
end HT
namespace L2
open PySem PySem.Spec PyProof.Rows
abbrev TO:=St→Hp→(Option Int→Hp→Prop)→Prop
def PO (X:Cx) (e:Option Expr) (t:TO):Prop :=
 ∀(pins:List (Addr×Obj)) (s:Shared) (σ:St) (H:Hp) (Q:Option Int→Hp→Prop),Inv X pins σ H s→t σ H Q→
  wpAny (model X.prog X.w) X.A (evalPart e X.env) (fun u s'=>∃o H',Inv X pins σ H' s'∧IsPart u o∧Q o H') X.xe s
def d6:TO:=fun _ H Q=>Q none H
def fP (t:TE):TO:=fun σ H Q=>t σ H fun x H1=>∃i,x=.int i∧Q (some i) H1
section
variable {X:Cx} {e:Expr} {te:TE} {lo hi:Option Expr} {tl th:TO} {pos p2:Pos}
theorem JH:PO X none d6:=by
 intro pins s σ H Q I h
 rw [evalPart_none]
 exact wpAny_pure ⟨none,H,I,.none,h⟩
theorem zX (h:PE X e te):PO X (some e) (fP te):=by
 intro pins s σ H Q I hw
 rw [evalPart_some]
 refine jF (h pins s σ H _ I hw) fun u s1 ⟨x,H1,I1,r1,q1⟩=>?_
 obtain ⟨i,rfl,q⟩:=q1
 obtain ⟨t,rfl⟩:=r1
 exact ⟨some i,H1,I1,.int i t,q⟩
def SlR (X:Cx) (r:V→Option Int→Option Int→Hp→VK→Prop):Prop :=
 ∀(pins:List (Addr×Obj)) (s:Shared) (σ:St) (H:Hp) (x:V) (v vl vu:Value) (lo hi:Option Int) (sl:Addr) (Q:VK),Inv X pins σ H s→RelV x v→s.heap.IsSliceOf sl vl vu .none→IsPart vl lo→IsPart vu hi→r x lo hi H Q→
  ∃T id,typeLookup (.type T) "__getitem__"=pure (some (.builtin id))∧s.TypeIs v T∧wpAny (model X.prog X.w) X.A (getItem v (.ref sl)) (EP X pins σ Q) X.xe s
theorem SlR.or {r r':V→Option Int→Option Int→Hp→VK→Prop} (h:SlR X r) (h':SlR X r'):SlR X (fun x lo hi H Q=>r x lo hi H Q∨r' x lo hi H Q):=by
 intro pins s σ H x v vl vu lo hi sl Q I rx hs pl pu q
 rcases q with q|q
 ·exact h pins s σ H x v vl vu lo hi sl Q I rx hs pl pu q
 ·exact h' pins s σ H x v vl vu lo hi sl Q I rx hs pl pu q
def g8 (r:V→Option Int→Option Int→Hp→VK→Prop) (te:TE) (tl th:TO):TE:=fun σ H Q=>te σ H fun x H1=>tl σ H1 fun l H2=>th σ H2 fun u H3=>r x l u H3 Q
theorem JC {r:V→Option Int→Option Int→Hp→VK→Prop} (hr:SlR X r) (he:PE X e te) (hl:PO X lo tl) (hu:PO X hi th):PE X (.Subscript e (.Slice lo hi none p2) pos) (g8 r te tl th):=by
 intro pins s σ H Q I h
 refine Subscript_ (jF (he pins s σ H _ I h) fun v s1 ⟨x,H1,I1,r1,q1⟩=>?_)
 refine wpAny_Slice (jF (hl pins s1 σ H1 _ I1 q1) fun vl s2 ⟨l,H2,I2,pl,q2⟩=>jF (hu pins s2 σ H2 _ I2 q2) fun vu s3 ⟨u,H3,I3,pu,q3⟩=>?_)
 rw [evalPart_none]
 refine wpAny_pure ?_
 have I4:Inv X pins σ H3 {s3 with heap:=s3.heap.push {cls:=.type "slice",data:=.fields #[vl,vu,.none]}}:=I3.kept (t':=s3.toks) fun b ob q=>Heap.get?_push_of_some _ q
 obtain ⟨T,id,hT,ht,hg⟩:=hr pins {s3 with heap:=s3.heap.push {cls:=.type "slice",data:=.fields #[vl,vu,.none]}} σ H3 x v vl vu l u s3.heap.objs.size Q I4 r1 (Heap.IsSliceOf.new ..) pl pu q3
 show wpAny (model X.prog X.w) X.A (subscriptTail e (.Slice lo hi none p2) v (.ref s3.heap.objs.size)) (EP X pins σ Q) X.xe {s3 with heap:=s3.heap.push {cls:=.type "slice",data:=.fields #[vl,vu,.none]}}
 exact tail_any (ops:=[.ref s3.heap.objs.size,v]) ht hT hg (by with_unfolding_all rfl)
def qI (xs:List V) (lo hi:Option Int):List V:=(xs.drop (HT.sIx xs.length 0 lo)).take (HT.sIx xs.length xs.length hi - HT.sIx xs.length 0 lo)
theorem cI (xs:List V) (lo hi:Option Int):(qI xs lo hi).length≤xs.length:=by
 unfold qI
 rw [List.length_take,List.length_drop]
 omega
end
end L2
namespace L2
open PySem PySem.Spec PyProof.Rows
def v4 (n:Nat) (i:Int):Option Nat:=if 0≤i then (if i<n then some i.toNat else none) else if -(n:Int)≤i then some (i+n).toNat else none
def qT {α:Type} (xs:List α) (i:Int):Option α:=(v4 xs.length i).bind fun j=>xs[j]?
theorem eL {n:Nat} {i:Int} {j:Nat} (h:v4 n i=some j):seqIndex? i n=some j∧j<n∧-(n:Int)≤i∧i<n:=by
 unfold v4 at h
 by_cases h0:0≤i
 ·rw [if_pos h0] at h
  by_cases h1:i<n
  ·rw [if_pos h1] at h
   have e:i.toNat=j:=Option.some.inj h
   exact ⟨by rw [seqIndex_of h0 h1,e],by omega,by omega,h1⟩
  ·rw [if_neg h1] at h;cases h
 ·rw [if_neg h0] at h
  by_cases h1 : -(n:Int)≤i
  ·rw [if_pos h1] at h
   have e:(i+n).toNat=j:=Option.some.inj h
   exact ⟨by rw [seqIndex_neg (by omega) h1,e],by omega,h1,by omega⟩
  ·rw [if_neg h1] at h;cases h
theorem JK {α:Type} {xs:List α} {i:Int} {v:α} (h:qT xs i=some v):∃j,seqIndex? i xs.length=some j∧xs[j]?=some v∧j<xs.length∧-(xs.length:Int)≤i∧i<xs.length:=by
 unfold qT at h
 cases e:v4 xs.length i with
 |none=>rw [e] at h;cases h
 |some j =>
  rw [e] at h
  obtain ⟨h1,h2,h3,h4⟩:=eL e
  exact ⟨j,h1,h,h2,h3,h4⟩
theorem qZ {α:Type} {xs:List α} {j:Nat} {v:α} (h:xs[j]?=some v):qT xs (j:Int)=some v:=by
 have hj:j<xs.length:=(List.getElem?_eq_some_iff.mp h).1
 have e:v4 xs.length (j:Int)=some j:=by
  unfold v4
  rw [if_pos (by omega),if_pos (by omega)];simp
 unfold qT;rw [e];exact h
def eW (b:Expr):Prop:=∀o i,subscripted b false o i=operate [o,i] (getItem o i)
def IxR (X:Cx) (r:R2):Prop :=
 ∀(value slice:Expr) (pins:List (Addr×Obj)) (s:Shared) (σ:St) (H:Hp) (x y:V) (v u:Value) (Q:VK),Inv X pins σ H s→RelV x v→RelV y u→r x y H Q→
  subscripted slice false v u=operate [v,u] (getItem v u)→wpAny (model X.prog X.w) X.A (subscriptTail value slice v u) (EP X pins σ Q) X.xe s
def MtR (X:Cx) (id:String) (r:V→List V→Hp→VK→Prop):Prop :=
 ∀(pins:List (Addr×Obj)) (s:Shared) (σ:St) (H:Hp) (x:V) (xs:List V) (v:Value) (us:List Value) (Q:VK),Inv X pins σ H s→RelV x v→Vals xs us→r x xs H Q→
  wpAny (model X.prog X.w) X.A (call (.builtin id) (v::us)) (EP X pins σ Q) X.xe s
section
variable {X:Cx} {a b:Expr} {ta tb:TE} {pos:Pos}
theorem IxR.or {r r':R2} (h:IxR X r) (h':IxR X r'):IxR X (fun x y H Q=>r x y H Q∨r' x y H Q):=by
 intro value slice pins s σ H x y v u Q I rx ry q hs
 rcases q with q|q
 ·exact h value slice pins s σ H x y v u Q I rx ry q hs
 ·exact h' value slice pins s σ H x y v u Q I rx ry q hs
theorem MtR.or {id:String} {r r':V→List V→Hp→VK→Prop} (h:MtR X id r) (h':MtR X id r'):MtR X id (fun x xs H Q=>r x xs H Q∨r' x xs H Q):=by
 intro pins s σ H x xs v us Q I rx rs q
 rcases q with q|q
 ·exact h pins s σ H x xs v us Q I rx rs q
 ·exact h' pins s σ H x xs v us Q I rx rs q
theorem kI {r:R2} (hr:IxR X r) (ha:PE X a ta) (hb:PE X b tb) (hs:eW b):PE X (.Subscript a b pos) (zV r ta tb):=by
 intro pins s σ H Q I h
 exact Subscript_ (J3 ha hb I h fun v u s2 x y H2 I2 rx ry q=>hr a b pins s2 σ H2 x y v u Q I2 rx ry q (hs _ _))
def gU (K:PySem.W.Frag):R2:=fun x y H Q=>∃p xs i v,x=.ref p∧y=.int i∧SqL K H p xs∧qT xs i=some v∧Q v H
def Z7 (K:PySem.W.Frag):R2:=fun x y H Q=>∃p xs i v,x=.ref p∧y=.int i∧SqT K H p xs∧qT xs i=some v∧Q v H
def gT:R2:=fun x y H Q=>∃z i c,x=.str z∧y=.int i∧z.length≤sizeLine∧qT z.cps.toList i=some c∧Q (.str ⟨#[c]⟩) H
theorem qM:IxR X (gU X.K):=by
 intro value slice pins s σ H x y v u Q I rx ry h hs
 obtain ⟨p,xs,i,z,rfl,rfl,hq,he,q⟩:=h
 cases rx
 obtain ⟨t,rfl⟩:=ry
 obtain ⟨its,r,pl,hz⟩:=I.list hq
 obtain ⟨j,h1,h2,h3,h4,h5⟩:=JK he
 obtain ⟨w,ew,rw'⟩:=r.get h2
 have hl:=r.length
 have hn:=yN
 have fin:EP X pins σ Q w s:=⟨z,H,I,rw',q⟩
 by_cases h0:0≤i
 ·have hj:i.toNat=j:=by
   rw [seqIndex_of h0 h5] at h1
   exact Option.some.inj h1
  exact item_listR pl.isList h0 (by omega) (by rw [hj];simpa using ew) fin hs
 ·have hj:(i+(its.toArray.size:Int)).toNat=j:=by
   rw [seqIndex_neg (by omega) h4] at h1
   rw [List.size_toArray,← hl]
   exact Option.some.inj h1
  exact subscriptTail_builtinR (x:=w) pl.isList.typeIs slot_list_getitem.lookup
   (wpAny_getItem_list_neg (Q:=fun r s'=>r=w∧EP X pins σ Q r s') pl.isList (by omega) (by rw [List.size_toArray]<;>omega) (by omega) (by rw [hj];simpa using ew) ⟨rfl,fin⟩) hs
theorem zM:IxR X (Z7 X.K):=by
 intro value slice pins s σ H x y v u Q I rx ry h hs
 obtain ⟨p,xs,i,z,rfl,rfl,hq,he,q⟩:=h
 cases rx
 obtain ⟨t,rfl⟩:=ry
 obtain ⟨its,r,pl,hz⟩:=I.tuple hq
 obtain ⟨j,h1,h2,h3,h4,h5⟩:=JK he
 obtain ⟨w,ew,rw'⟩:=r.get h2
 have hl:=r.length
 have hn:=yN
 have fin:EP X pins σ Q w s:=⟨z,H,I,rw',q⟩
 exact subscriptTail_builtinR (x:=w) pl.typeIs slot_tuple_getitem.lookup
  (getItem_tuple (j:=j) (Q:=fun r s'=>r=w∧EP X pins σ Q r s') pl (by omega) (by omega) (by rw [List.size_toArray,← hl];exact h1) (by simpa using ew) ⟨rfl,fin⟩) hs
theorem fJ:IxR X gT:=by
 intro value slice pins s σ H x y v u Q I rx ry h hs
 obtain ⟨z,i,c,rfl,rfl,hz,he,q⟩:=h
 obtain ⟨t,rfl⟩:=rx
 obtain ⟨t',rfl⟩:=ry
 obtain ⟨j,h1,h2,h3,h4,h5⟩:=JK he
 have hl:z.cps.toList.length=z.length:=by simp [Str.length]
 rw [hl] at h1 h4 h5
 have hn:=yN
 exact tail_any (typeIs_str s z t) slot_str_getitem.lookup (getItem_str (c:=c) (by
  have e1:decide (i < -(2 ^ 63:Int))=false:=decide_eq_false (by omega)
  have e2:decide (i≥2 ^ 63)=false:=decide_eq_false (by omega)
  rw [e1,e2,Bool.or_false]) (by rw [h1];simpa using h2) ⟨.str ⟨#[c]⟩,H,I.tok _,⟨_,rfl⟩,q⟩) hs
theorem Inv.lst {pins:List (Addr×Obj)} {σ:St} {H:Hp} {s:Shared} {p:Addr} {xs:List V} (I:Inv X pins σ H s) (h:H p=some (.lst xs)) :
  ∃(its:List Value) (n:Nat),Vals xs its∧s.heap.get? p=some {cls:=.type "list",data:=.seq its.toArray n}∧xs.length≤sizeLine:=by
 obtain ⟨z,its,n,r,e⟩:=I.hok p _ h
 exact ⟨its,n,r,e,z⟩
theorem cG (lo hi:Option Int) (n:Nat):(sliceBounds lo hi none n).1=((HT.sIx n 0 lo:Nat):Int)∧(sliceBounds lo hi none n).2.1=((HT.sIx n n hi:Nat):Int)∧(sliceBounds lo hi none n).2.2=1:=by
 refine ⟨?_,?_,rfl⟩
 ·cases lo with
  |none=>simp [sliceBounds,HT.sIx]
  |some i =>
   simp only [sliceBounds,HT.sIx,Option.getD_none,show (1:Int)>0 by decide,if_true]
   by_cases h:i<0
   ·simp only [h,if_true]<;>omega
   ·simp only [h,if_false]<;>omega
 ·cases hi with
  |none=>simp [sliceBounds,HT.sIx]
  |some i =>
   simp only [sliceBounds,HT.sIx,Option.getD_none,show (1:Int)>0 by decide,if_true]
   by_cases h:i<0
   ·simp only [h,if_true]<;>omega
   ·simp only [h,if_false]<;>omega
theorem cE (its:List Value) (lo hi:Option Int):slicePick its.toArray lo hi none=((its.drop (HT.sIx its.length 0 lo)).take (HT.sIx its.length its.length hi - HT.sIx its.length 0 lo)).toArray:=by
 obtain ⟨h1,h2,h3⟩:=cG lo hi its.toArray.size
 unfold slicePick
 rw [h1,h2,h3]
 simp only [sliceRange_one,pick_run,List.size_toArray]<;>rfl
def gR (K:PySem.W.Frag):V→Option Int→Option Int→Hp→VK→Prop:=fun x lo hi H Q=>∃a xs,x=.ref a∧SqL K H a xs∧∀p,H p=none→Q (.ref p) (jB H p (.lst (qI xs lo hi)))
theorem JG:SlR X (gR X.K):=by
 intro pins s σ H x v vl vu lo hi sl Q I rx hs pl pu h
 obtain ⟨a,xs,rfl,hx,q⟩:=h
 cases rx
 obtain ⟨its,r,ht,hz⟩:=I.list hx
 have hlen:=r.length
 refine ⟨"list",_,slot_list_getitem.lookup,ht.isList.typeIs,?_⟩
 refine wpAny_getItem_list_slice ht.isList hs pl pu .none (by simp) ?_ (by rw [List.size_toArray]<;>omega)
 rw [cE,← hlen]
 refine ⟨.ref s.heap.objs.size,_,I.laid (t':=s.toks) (o:=.lst (qI xs lo hi)) (fun b ob q=>Heap.get?_push_of_some _ q) (Nat.le_refl _) ?_,rfl,q _ (I.hok.fresh (Nat.le_refl _))⟩
 exact ⟨Nat.le_trans (cI xs lo hi) hz,_,0,(r.drop (HT.sIx xs.length 0 lo)).take (HT.sIx xs.length xs.length hi - HT.sIx xs.length 0 lo),Heap.get?_push_size _ rfl⟩
def qH:V→Bool
 |.non=>true
 |.bl _=>true
 |.int _=>true
 |.str _=>true
 |_=>false
def vL:V→V→Bool
 |.non,.non=>true
 |.bl a,.bl b=>a == b
 |.bl a,.int b=>(if a then 1 else 0) == b
 |.int a,.bl b=>a == (if b then 1 else 0)
 |.int a,.int b=>a == b
 |.str a,.str b=>a == b
 |_,_=>false
theorem JR {A:Around} {s:Shared} {y x:V} {u v:Value} (ry:RelV y u) (rx:RelV x v) (fy:qH y=true) (fx:qH x=true):SeqAt.EqAt A s u v (vL y x):=by
 cases y with
 |non =>
  cases ry
  cases x with
  |non=>cases rx;exact SeqAt.EqAt.same _
  |bl b=>cases rx;exact SeqAt.EqAt.none_bool b
  |int b=>obtain ⟨t,rfl⟩:=rx;exact SeqAt.EqAt.none_int b t
  |str b=>obtain ⟨t,rfl⟩:=rx;exact SeqAt.EqAt.none_str b t
  |_=>exact absurd (show false=true from fx) Bool.false_ne_true
 |bl a =>
  cases ry
  cases x with
  |non=>cases rx;exact SeqAt.EqAt.bool_none a
  |bl b=>cases rx;exact SeqAt.EqAt.bool_bool a b
  |int b=>obtain ⟨t,rfl⟩:=rx;exact SeqAt.EqAt.bool_int a b t
  |str b=>obtain ⟨t,rfl⟩:=rx;exact SeqAt.EqAt.bool_str a b t
  |_=>exact absurd (show false=true from fx) Bool.false_ne_true
 |int a =>
  obtain ⟨t',rfl⟩:=ry
  cases x with
  |non=>cases rx;exact SeqAt.EqAt.int_none a t'
  |bl b=>cases rx;exact SeqAt.EqAt.int_bool a t' b
  |int b=>obtain ⟨t,rfl⟩:=rx;exact SeqAt.EqAt.int_int a t' b t
  |str b=>obtain ⟨t,rfl⟩:=rx;exact SeqAt.EqAt.int_str a t' b t
  |_=>exact absurd (show false=true from fx) Bool.false_ne_true
 |str a =>
  obtain ⟨t',rfl⟩:=ry
  cases x with
  |non=>cases rx;exact SeqAt.EqAt.str_none a t'
  |bl b=>cases rx;exact SeqAt.EqAt.str_bool a t' b
  |int b=>obtain ⟨t,rfl⟩:=rx;exact SeqAt.EqAt.str_int a t' b t
  |str b=>obtain ⟨t,rfl⟩:=rx;exact SeqAt.EqAt.str_str a t' b t
  |_=>exact absurd (show false=true from fx) Bool.false_ne_true
 |_=>exact absurd (show false=true from fy) Bool.false_ne_true
theorem qU:CallR X (.builtin "len") (fun xs H Q=>∃p ys,xs=[.ref p]∧(SqL X.K H p ys∨SqT X.K H p ys)∧Q (.int ys.length) H):=by
 intro pins s σ H xs us Q I r h
 obtain ⟨p,ys,rfl,hq,q⟩:=h
 obtain ⟨u,rfl,rx⟩:=JS r
 cases rx
 have hn:=yN
 rcases hq with hq|hq
 ·obtain ⟨its,r',pl,hz⟩:=I.list hq
  have hlen:=r'.length
  exact Calls.call_len_list pl.isList (by simp only [List.size_toArray]<;>omega) ⟨.int ys.length,H,I.tok _,⟨s.toks+1,by rw [List.size_toArray,hlen]⟩,q⟩
 ·obtain ⟨its,r',pl,hz⟩:=I.tuple hq
  have hlen:=r'.length
  exact len_tuple pl (by simp only [List.size_toArray]<;>omega) ⟨.int ys.length,H,I.tok _,⟨s.toks+1,by rw [List.size_toArray,hlen]⟩,q⟩
theorem CallR.or {f:Value} {r r':List V→Hp→VK→Prop} (h:CallR X f r) (h':CallR X f r'):CallR X f (fun xs H Q=>r xs H Q∨r' xs H Q):=by
 intro pins s σ H xs us Q I rs q
 rcases q with q|q
 ·exact h pins s σ H xs us Q I rs q
 ·exact h' pins s σ H xs us Q I rs q
theorem J7:CallR X (.type "list") (fun xs H Q=>∃p ys,xs=[.ref p]∧(SqL X.K H p ys∨SqT X.K H p ys)∧∀l,H l=none→Q (.ref l) (jB H l (.lst ys))):=by
 intro pins s σ H xs us Q I r h
 obtain ⟨p,ys,rfl,hq,q⟩:=h
 obtain ⟨u,rfl,rx⟩:=JS r
 cases rx
 have fin:∀(its:List Value),Vals ys its→ys.length≤sizeLine→∀(h':Heap) (c':Nat),(∀b o',s.heap.get? b=some o'→h'.get? b=some o')→
   h'.get? s.heap.objs.size=some {cls:=.type "list",dict:=none,data:=.seq its.toArray c',slots := #[]}→EP X pins σ Q (.ref s.heap.objs.size) {s with heap:=h'}:=fun its r' hz h' c' kp e =>
  ⟨.ref s.heap.objs.size,_,I.laid (t':=s.toks) kp (Nat.le_refl _) (show ObjOk X.prog X.w _ h' _ (.lst ys) from ⟨hz,its,c',r',e⟩),rfl,q _ (I.hok.fresh (Nat.le_refl _))⟩
 rcases hq with hq|hq
 ·obtain ⟨its,r',pl,hz⟩:=I.list hq
  have hlen:=r'.length
  obtain ⟨o,ho,hc,n,hd⟩:=pl.isList
  exact call_list_seq p (.inl rfl) ho hc hd (fun h' c' kp e=>fin its r' hz h' c' kp e) (by simp only [List.size_toArray]<;>omega)
 ·obtain ⟨its,r',pl,hz⟩:=I.tuple hq
  have hlen:=r'.length
  obtain ⟨o,ho,hc,n,hd⟩:=pl
  exact call_list_seq p (.inr rfl) ho hc hd (fun h' c' kp e=>fin its r' hz h' c' kp e) (by simp only [List.size_toArray]<;>omega)
def bD (K:PySem.W.Frag) (T:String) (x:V) (H:Hp):Prop:=match x with
 |.str _=>T="str"
 |.int _=>T="int"
 |.ref p=>(T="list"∧∃xs,SqL K H p xs)∨(T="tuple"∧∃o,K.lookup p=some o∧o.cls=.type "tuple"∧o.dict=none)∨
   (T="dict"∧((∃kvs,H p=some (.dK kvs))∨∃kvs,H p=some (.dT kvs)))∨(T="set"∧∃S n,H p=some (.set S n))
 |_=>False
theorem eX {pins:List (Addr×Obj)} {σ:St} {H:Hp} {s:Shared} {T:String} {x:V} {v:Value} (I:Inv X pins σ H s) (r:RelV x v) (ty:bD X.K T x H) :
  s.TypeIs v T∧∀a,v=.ref a→∃ob,s.heap.get? a=some ob∧ob.dict=none:=by
 cases x with
 |str z =>
  obtain ⟨t,rfl⟩:=r
  cases (show T="str" from ty)
  exact ⟨typeIs_str s z t,fun _ e=>nomatch e⟩
 |int i =>
  obtain ⟨t,rfl⟩:=r
  cases (show T="int" from ty)
  exact ⟨typeIs_int s i t,fun _ e=>nomatch e⟩
 |ref p =>
  cases r
  rcases ty with ⟨rfl,xs,hq⟩|⟨rfl,o,hk,hc,hd⟩|⟨rfl,hk⟩|⟨rfl,S,n,hk⟩
  ·obtain ⟨its,_,pl,_⟩:=I.list hq
   refine ⟨pl.isList.typeIs,fun a e=>?_⟩
   cases e
   obtain ⟨o,n,e,c,hd,_⟩:=pl
   exact ⟨o,e,hd⟩
  ·refine ⟨⟨o,I.kIn p o hk,hc⟩,fun a e=>?_⟩
   cases e
   exact ⟨o,I.kIn _ o hk,hd⟩
  ·have z:∃o,s.heap.get? p=some o∧o.ExactDict:=by
    rcases hk with ⟨kvs,hk⟩|⟨kvs,hk⟩
    ·obtain ⟨_,_,_,_,o,_,_,e,ex,_⟩:=I.hok p _ hk
     exact ⟨o,e,ex⟩
    ·obtain ⟨_,_,_,_,o,_,_,e,ex,_⟩:=I.hok p _ hk
     exact ⟨o,e,ex⟩
   obtain ⟨o,e,ex⟩:=z
   refine ⟨⟨o,e,ex.1⟩,fun a e2=>?_⟩
   cases e2
   exact ⟨o,e,ex.2.1⟩
  ·obtain ⟨o,_,_,_,e,ex,_⟩:=I.hok p _ hk
   refine ⟨⟨o,e,ex.1⟩,fun a e2=>?_⟩
   cases e2
   exact ⟨o,e,ex.2.1⟩
 |_=>exact False.elim ty
def iA (K:PySem.W.Frag) (T:String) (r:V→List V→Hp→VK→Prop) (to:TE) (t:TA):TE:=fun σ H Q=>to σ H fun x H1=>bD K T x H1∧t σ H1 fun xs H2=>r x xs H2 Q
variable {o e:Expr} {es:List Expr} {to:TE} {t:TA} {name:Str} {apos cpos:Pos} {T id:String} {r:V→List V→Hp→VK→Prop}
theorem JT (pa:PlainAttrs T) (slot:Slot T name id) (hty:typeOf (.builtin id)=pure (.type "method_descriptor")) (hm:MtR X id r) (ho:PE X o to) (ha:PA X (e::es) t)
  (hbase:attributeBase o name X.env (eval o X.env)=eval o X.env:=by rfl)
  (hfew:((backTo cpos (starEach (e::es) X.env)).all (fun x => !x.1)&&(backToKw cpos (keywordEach [] X.env)).all (fun x=>x.1.isSome)
   && decide ((e::es).length+([]:List Keyword).length+(if ([]:List Keyword).isEmpty then 0 else 1)<30))=true:=by rfl)
  (hline:(apos.endLine == cpos.line)=true:=by rfl) (hs:starEach (e::es) X.env=(false,eval e X.env)::starEach es X.env:=by rfl) (hplain:(backTo cpos (starEach es X.env)).any (·.1)=false:=by rfl) :
  PE X (.Call (.Attribute o name apos) (e::es) [] cpos) (iA X.K T r to t):=by
 intro pins s σ H Q I h
 refine wpAny_Call_method_late hbase hfew hline rfl (jF (ho pins s σ H _ I h) fun v s1 ⟨x,H1,I1,r1,ty,q1⟩=>?_)
 obtain ⟨h1,h2⟩:=eX I1 r1 ty
 refine ⟨T,id,pa,slot,hty,h1,h2,?_⟩
 have hA:=ha cpos pins s1 σ H1 _ I1 q1
 rw [hs] at hA ⊢
 refine Calls.callWith_builtin (by show (false||(backTo cpos (starEach es X.env)).any (·.1))=false;rw [hplain]<;>rfl) (Calls.evalArgs_plain ?_)
 exact jF hA fun us s2 ⟨vs,H2,I2,r2,q2⟩=>hm pins s2 σ H2 x vs v us Q I2 r1 r2 q2
/- xs.append(e),list.index on a module's tuple .. are MtR facts of 06m -/
end
end L2
namespace L2
open PySem PySem.Spec PyProof.Rows
def iE (X:Cx) (id:String) (r:V→List V→Hp→VK→Prop):Prop :=
 ∀(pins:List (Addr×Obj)) (s:Shared) (σ:St) (H:Hp) (x:V) (xs:List V) (v:Value) (us:List Value) (Q:VK),Inv X pins σ H s→RelV x v→Vals xs us→r x xs H Q→
  wpAny (model X.prog X.w) X.A (call (.builtin id) (v::us)) (EP X pins σ Q) X.xe s
theorem Vals.one:∀{x:V} {us:List Value},Vals [x] us→∃u,us=[u]∧RelV x u
 |_,_,.cons r .nil=>⟨_,rfl,r⟩
theorem Vals.two:∀{x y:V} {us:List Value},Vals [x,y] us→∃u v,us=[u,v]∧RelV x u∧RelV y v
 |_,_,_,.cons r (.cons q .nil)=>⟨_,_,rfl,r,q⟩
section
variable {X:Cx} {pins:List (Addr×Obj)} {σ:St} {H:Hp} {s:Shared} {l b:Addr} {xs ys zs:List V}
theorem Inv.lset {its its':List Value} {n:Nat} {f:Array Value→Array Value} {t':Nat} (I:Inv X pins σ H s) (hH:H l=some (.lst xs))
  (e:s.heap.get? l=some {cls:=.type "list",data:=.seq its.toArray n}) (hf:f its.toArray=its'.toArray) (hv:Vals ys its') (hz:ys.length≤sizeLine) :
  Inv X pins σ (jB H l (.lst ys)) {s with heap:=s.heap.update l (Obj.mapSeq f),toks:=t'}:=by
 have q:=PySem.IsL.update e f
 rw [hf] at q
 refine I.write (x:=l) (e:=l) (by rw [hH];exact trivial) (.inl rfl) (fun b' u hb hu=>(Heap.get?_update_other s.heap (Obj.mapSeq f) (Ne.symm hb)).trans hu) ⟨_,q⟩ ?_
 exact ⟨hz,its',_,hv,q⟩
theorem Inv.lstM (I:Inv X pins σ H s) (hH:H l=some (.lst xs)):xs.length≤sizeLine∧∃(its:List Value) (n:Nat),Vals xs its∧xs.length=its.length∧s.heap.get? l=some {cls:=.type "list",data:=.seq its.toArray n}:=by
 obtain ⟨z,its,n,r,e⟩:=I.hok l _ hH
 exact ⟨z,its,n,r,r.length,e⟩
end
section
variable {X:Cx}
def eB:V→List V→Hp→VK→Prop:=fun x vs H Q=>∃l xs y,x=.ref l∧vs=[y]∧H l=some (.lst xs)∧xs.length<sizeLine∧Q .non (jB H l (.lst (xs++[y])))
theorem y8:iE X "list.append" eB:=by
 intro pins s σ H x vs v us Q I rx rv h
 obtain ⟨l,xs,y,rfl,rfl,hH,hz,q⟩:=h
 cases rx
 obtain ⟨u,rfl,ru⟩:=rv.one
 obtain ⟨z,its,n,r,hl,e⟩:=I.lstM hH
 refine call_meets F.slot_list_append ⟨_,e,rfl⟩ F.entry_list_append (F.args_list_append_2 _ _) (PySem.list_append l its.toArray n u (by rw [List.size_toArray];omega)) ⟨e,?_⟩
 refine ⟨.non,_,I.lset (its':=its++[u]) hH e (by simp) (r.append (.cons ru .nil)) ?_,rfl,q⟩
 rw [List.length_append,List.length_singleton]
 omega
theorem eJ {α:Type} (xs:List α) (k:Nat):(List.replicate k xs).flatten.length=k*xs.length:=by
 induction k with
 |zero=>simp
 |succ k ih=>rw [List.replicate_succ,List.flatten_cons,List.length_append,ih,Nat.succ_mul,Nat.add_comm]
end
section
variable {prog:Program} {w:World} {A:Around} {E:Value→Shared→Prop} {s:Shared}
end
section
variable {X:Cx}
end
end L2
namespace Att
open PySem PySem.W PySem.Calls PyProof.Rows
theorem b0 {P:Params} {h:Heap}:∀(ns:List Int) (vs:List Value),WellAll P h vs (ns.map WData.int)→IntsAre vs ns:=by
 intro ns
 induction ns with
 |nil =>
  intro vs w
  rw [List.map_nil] at w
  cases w
  exact .nil
 |cons n ns ih =>
  intro vs w
  rw [List.map_cons] at w
  cases w with
  |cons a b =>
   cases a
   exact .cons _ _ (ih _ b)
theorem cW {l:OpenLaw} {n:Nat} (hn:l.most=some n) {P:Params} {h:Heap} {args:List WData} {vals:List Value}
  (hpre:l.row.toRowW.claim.pre args=true) (hwl:WellAll P h vals args) :
  ∃a vs ns,vals=[Value.ref a]∧args=[WData.list (ns.map WData.int)]∧h.get? a=some {cls:=.type "list",data:=.seq vs.toArray}∧IntsAre vs ns∧ns.length≤n:=by
 have hsh:WShape.hasAll [] args [.list .int]=true:=(pre_splitW hpre).1
 have hc:l.pre.holds [] {args:=args}=true:=(pre_splitW hpre).2
 obtain ⟨d,r,rfl,h1,h2⟩:=hasAllW_cons hsh
 obtain rfl:=hasAllW_nil h2
 obtain ⟨xs,rfl,h3⟩:=hasW_list h1
 obtain ⟨ns,rfl⟩:=items_int h3
 have hlen:ns.length≤n:=by
  unfold OpenLaw.pre at hc
  have h4:(WTm.not (.lt (.lit (.int (n:Int))) (.len (.arg 0)))).holds [] {args:=[.list (ns.map .int)]}=true:=by
   have h4:=(holds_andW hc).1
   rw [hn] at h4
   exact h4
  have h5:=condW_of h4 (w_not (w_lt w_lit (w_len_list (w_arg rfl))))
  rw [List.length_map] at h5
  refine Nat.le_of_not_lt fun q=>?_
  have q':(n:Int)<((ns.length:Nat):Int):=by omega
  first
   | (rw [decide_eq_true q'] at h5;exact absurd h5 (by decide))
   | (simp at h5;omega)
 cases hwl with
 |cons w1 w2 =>
  cases w2
  cases w1 with
  |list ho hall=>exact ⟨_,_,ns,rfl,rfl,ho,b0 ns _ hall,hlen⟩
theorem cX (l:OpenLaw) (args:List WData):l.row.toRowW.claim.post args (.bool true) args=true :=
 postW_of (r:=l.row.toRowW) (X:=(true == true))
  (show WShape.has [] (.bool true) .bool=true by first|rfl|decide|simp [WShape.has,WShape.arms,WShape.armsAll])
  (show (WTm.eq .res (.lit (.bool true))).value [] {args:=args,res:=some (.bool true),after:=args}=some (.bool (true == true)) from w_eq_bool (w_res rfl) w_lit) rfl
theorem attach_call {l:OpenLaw} {n:Nat} {q:Program} {loose:List Str} {XP:(Str→Option Value)→Heap→Prop} {YP:World→Heap→Prop} {d:DefRec}
  (hn:l.most=some n) (hdf:d.params.defaults=[])
  (call:∀(w:World) (s₀ s₁:Shared) (mg mb:Str→Option Value) (fa:Addr) (o:Obj) (pm cd doc:Value) (a:Addr) (vs:List Value) (ns:List Int),
   Ground q loose [] XP w s₀ mg mb s₁.heap→YP w s₁.heap→
   s₁.heap.get? fa=some o→o.data=.func (docDef d.name d.params d.body d.scope pm cd doc)→s₁.heap.CodeRec cd d.name→mg d.name=some (.ref fa)→
   s₁.heap.get? a=some {cls:=.type "list",data:=.seq vs.toArray}→IntsAre vs ns→ns.length≤n→s₁.gens = #[]→
   codeAny (model l.prog w) callerA (.call (.ref fa) ⟨[.ref a],[]⟩) (fun r s'=>r=.ok (.ret (.bool true))∧OldK s₁.heap s'.heap∧s'.os=s₁.os∧AllBare s'.gens) s₁) :
  WalkO q loose XP YP l.row.toRowW d [] (fun f vs=>PySem.call f vs):=by
 intro w s₀ s₁ mg mb G Y fa o pm cd doc dV kV ho hd hcd hD hmg hg args vals as hpre hlay hrd hwl hlo
 obtain rfl:dV=.none:=Dflts.none hD hdf
 obtain rfl:kV=.none:=Dflts.noKw hD
 obtain ⟨a,vs,ns,rfl,rfl,hobj,hints,hlen⟩:=cW hn hpre hwl
 refine enter_call (codeAny_mono (call w s₀ s₁ mg mb fa o pm cd doc a vs ns G Y ho (fd_plain hd) hcd hmg hobj hints hlen hg) fun r s' hq=>?_)
 obtain ⟨rfl,h2,h3,h4⟩:=hq
 exact ⟨.inl ⟨.bool true,.bool true,[],rfl,fun _=>rfl,.bool true,cX l _,fun _=>⟨List.Pairwise.nil,fun _ hm=>(nomatch hm)⟩⟩,h2,h3,h4⟩
section
variable {prog:Program} {w:World} {A:Around} {E:Value→Shared→Prop} {s:Shared} {K:Frag}
def iF (h:Heap) (L d:Addr):List (Addr×Obj):=(List.range h.objs.size).filterMap fun a=>if a=L∨a=d then none else (h.get? a).map fun o=>(a,o)
end
end Att
namespace L2
open PySem PySem.Spec PyProof.Rows
theorem z7:∀{vs:List Value} {ns:List Int},IntsAre vs ns→Vals (ns.map V.int) vs
 |_,_,.nil=>.nil
 |_,_,.cons n t h=>.cons ⟨t,rfl⟩ (z7 h)
def J4 (H:Hp):Prop:=∀b,H b=none∨∃o xs,H b=some (.frz o (.lst xs))
theorem dU {P:Program} {w:World} {K:PySem.W.Frag} {mg mb:Str→Option Value} {CX:kA} {k:Nat} {fa a:Addr} {fd:FuncData} {x:Str} {sp:Sp} {s₁:Shared} {vs:List Value} {ns:List Int}
  (KX:K.In s₁.heap) (hns:s₁.heap.Ns mainGlobals mg) (hb:s₁.heap.Ns builtinsNs mb) (hbb:∀x:Str,x≠"__name__"→mb x=bootBuiltins x) (hlim:s₁.heap.NoLimit) (hg:s₁.gens = #[])
  (ha:s₁.heap.get? a=some {cls:=.type "list",data:=.seq vs.toArray}) (hi:IntsAre vs ns) (hl:ns.length≤sizeLine) (hr:Room k callerA)
  (F:∀base:Heap,K.In base→base.Ns mainGlobals mg→FnOk P w K mg base CX k fa fd [x] sp) (hbind:∀(s:Shared) (u:Value),BindsTo s fd ⟨[u],[]⟩ [(x,u)])
  (hsp:∀H:Hp,J4 H→SqL K H a (ns.map V.int)→sp [.ref a] H (fun v _=>v=.bl true) fun _ _ _=>False)
  (hCX:∀H e s',CX [] H s₁ (fun _ _ _=>False) e s'→False) :
  codeAny (model P w) callerA (.call (.ref fa) ⟨[.ref a],[]⟩) (fun r s'=>r=.ok (.ret (.bool true))∧OldK s₁.heap s'.heap∧s'.os=s₁.os∧AllBare s'.gens) s₁:=by
 have rv:=z7 hi
 have lenV:=hi.length
 have core:∀H:Hp,J4 H→SqL K H a (ns.map V.int)→HOk P w H s₁.heap→(∀b,H b≠none→b=a)→(H a≠none→K.lookup a=none)→
   codeAny (model P w) callerA (.call (.ref fa) ⟨[.ref a],[]⟩) (fun r s'=>r=.ok (.ret (.bool true))∧OldK s₁.heap s'.heap∧s'.os=s₁.os∧AllBare s'.gens) s₁:=by
  intro H hO hS hok hA hK
  have base_of:∀{b:Addr} {o:Obj},s₁.heap.get? b=some o→H b=none→(kH s₁.heap H).get? b=some o:=fun e n=>yG e n
  have noA:∀{b:Addr} {o:Obj} {es:Array DictEntry} {ep:Nat},s₁.heap.get? b=some o→o.data=.dict es ep→H b=none:=fun {b o es ep} e d=>by
   cases q:H b with
   |none=>rfl
   |some u =>
    have e':b=a:=hA b (by rw [q];simp)
    subst e'
    rw [ha] at e;cases e
    have d':Data.seq vs.toArray _=Data.dict es ep:=d
    cases d'
  have nsK:∀{b:Addr} {m:Str→Option Value},s₁.heap.Ns b m→(kH s₁.heap H).Ns b m:=fun {b m} ⟨o,es,ep,e,d,r⟩=>⟨o,es,ep,base_of e (noA e d),d,r⟩
  have hKb:K.In (kH s₁.heap H):=fun b o e=>base_of (KX b o e) (by
   cases q:H b with
   |none=>rfl
   |some u =>
    have e':b=a:=hA b (by rw [q];simp)
    subst e'
    rw [hK (by rw [q];simp)] at e;cases e)
  have hM:Mod K mg (kH s₁.heap H):=⟨hKb,nsK hns,⟨mb,nsK hb,hbb⟩,let ⟨mc,h1,h2⟩:=hlim;⟨mc,nsK h1,h2⟩⟩
  have e0:Env0 P w K mg (kH s₁.heap H) callerA [] s₁ H:=⟨rfl,hM,fun b o e=>ZI e,Nat.le_of_eq (QL _ _),trivial,fun b hb=>absurd (show b∈([]:List Addr) from hb) (by simp),hok,.of_eq hg⟩
  refine codeAny_mono ((F _ hKb (nsK hns)).run callerA [] s₁ H ⟨[.ref a],[]⟩ [.ref a] [.ref a] _ _ hr e0 (hbind s₁ (.ref a)) (.cons rfl .nil) (hsp H hO hS)) fun r s' h=>?_
  cases r with
  |error e=>exact (hCX H e s' h).elim
  |ok fl =>
   cases fl with
   |next=>exact False.elim h
   |brk=>exact False.elim h
   |cont=>exact False.elim h
   |ret u =>
    obtain ⟨v,H',os,bare,un,hok',r',q⟩:=h
    have q':v=.bl true:=q
    subst q'
    obtain rfl:u=Value.bool true:=r'
    refine ⟨rfl,OldK.of_keep fun b o e=>?_,os,bare⟩
    cases q:H b with
    |none=>exact un.keep b o e q (by intro z;exact absurd (show b∈([]:List Addr) from z) (by simp)) (by simp)
    |some u =>
     rcases hO b with z|⟨ob,xs,z⟩
     ·rw [q] at z;cases z
     ·have z2:=un.frzs b ob _ z
      obtain ⟨e1,_⟩:=hok b _ z
      obtain ⟨e2,_⟩:=hok' b _ z2
      rw [e] at e1;cases e1
      exact e2
 cases hk:K.lookup a with
 |some o =>
  have e:=KX a o hk
  rw [ha] at e
  cases e
  refine core (fun _=>none) (fun _=>.inl rfl) (.inr ⟨_,vs.toArray,_,hk,rfl,rfl,rfl,by rw [List.size_toArray,lenV];exact hl,by simpa using rv⟩) (fun b u z=>by have z':(none:Option HO)=some u:=z;cases z') (fun b z=>absurd rfl z) fun z=>absurd rfl z
 |none =>
  refine core (fun b=>if b=a then some (.frz {cls:=.type "list",data:=.seq vs.toArray} (.lst (ns.map V.int))) else none) (fun b=>?_) (.inl (.inr ⟨{cls:=.type "list",data:=.seq vs.toArray},if_pos rfl⟩)) (fun b u z=>?_) (fun b z=>?_) fun _=>hk
  ·by_cases hb:b=a
   ·exact .inr ⟨_,_,if_pos hb⟩
   ·exact .inl (if_neg hb)
  ·by_cases hb:b=a
   ·have z':=(if_pos hb).symm.trans z
    cases z'
    subst hb
    exact ⟨ha,by rw [List.length_map];exact hl,vs,_,rv,ha⟩
   ·have z':=(if_neg hb).symm.trans z
    cases z'
  ·by_cases hb:b=a
   ·exact hb
   ·exact absurd (if_neg hb) z
end L2
namespace L2
open PySem PySem.Spec PyProof.Rows
abbrev KOf {K:PySem.W.Frag} {h:Heap} (_:K.In h):PySem.W.Frag:=K
theorem walk_of {l:PySem.W.OpenLaw} {n k:Nat} {q:Program} {loose:List Str} {XP:(Str→Option Value)→Heap→Prop} {YP:World→Heap→Prop} {d:DefRec} {K:Params→PySem.W.Frag} {CX:World→kA} {sp:World→Sp} {x:Str}
  (hn:l.most=some n) (hn2:n≤sizeLine) (hdf:d.params.defaults=[]) (hr:Room k callerA)
  (hY:∀(w:World) (h:Heap),YP w h→(K w.params).In h)
  (F:∀(w:World) (mg:Str→Option Value) (fa:Addr) (h:Heap),(K w.params).In h→h.Ns mainGlobals mg→mg d.name=some (.ref fa)→
   ∃fd:FuncData,(∀(s:Shared) (u:Value),BindsTo s fd ⟨[u],[]⟩ [(x,u)])∧
    ∀base:Heap,(K w.params).In base→base.Ns mainGlobals mg→FnOk l.prog w (K w.params) mg base (CX w) k fa fd [x] (sp w))
  (hsp:∀(w:World) (H:Hp) (a:Addr) (ns:List Int),ns.length≤n→J4 H→SqL (K w.params) H a (ns.map V.int)→sp w [.ref a] H (fun v _=>v=.bl true) fun _ _ _=>False)
  (hCX:∀(w:World) (H:Hp) (s:Shared) (e:Value) (s':Shared),CX w [] H s (fun _ _ _=>False) e s'→False) :
  PySem.W.WalkO q loose XP YP l.row.toRowW d [] (fun f vs=>PySem.call f vs):=by
 refine Att.attach_call hn hdf fun w s₀ s₁ mg mb fa o pm cd doc a vs ns G Y ho hd hcd hmg hobj hints hlen hg=>?_
 have KX:=hY w _ Y
 obtain ⟨fd,hb,hF⟩:=F w mg fa _ KX G.T.g hmg
 exact dU KX G.T.g G.T.b G.T.builtins G.T.nolimit hg hobj hints (Nat.le_trans hlen hn2) hr hF hb (fun H hO hS=>hsp w H a ns hlen hO hS) fun H e s'=>hCX w H s₁ e s'
end L2
/- THE LAST THEOREM (shape;LID,My.* are yours):
  My.Adr: a structure of the addresses that your layer names (classes,functions);My.Txt K t: a structure (Prop) of the equations over K;
  My.txt_mk:{K} {implicit addresses ..} (e1:nsIn K mainGlobals "law"=some (some (.ref f))) (e2:K.lookup f=some ⟨oc,od,.func (fnOf "law" "law" params body scope dV kV doc pm an cdv ct),sl⟩) (e3:codeIn K cdv "law"=true) .. : ∃t,My.Txt K t
set_option maxRecDepth 100000 in
set_option maxHeartbeats 0 in
theorem PySem.Challenge.cw_LID_holds : PySem.Challenge.rw_LID.Holds := by
 w_on;o_law;k_head;(case hw=>w_witness2)
 k_fill
 refine L2.walk_of (l:=PySem.Challenge.rw_LID) (n:=63) (k:=40) (x:="script") (CX:=fun w=>..) (sp:=fun _=>My.sp_law) rfl (by decide) rfl ⟨rfl,by decide,by decide⟩ (fun w h Y=>PySem.W.kIn_of Y) ?F ?S ?C
 case F =>
  intro w mg fa h KX G hmg
  have T:∃t,My.Txt (L2.KOf KX) t:=by
   dsimp only [L2.KOf] -- K must stand as «<heap const> w.params» for k_is
   refine' My.txt_mk ?e1 ?e2 ?e3 ..
   (case e1=>PySem.W.k_is) -- in the order: a name -> its address -> its object -> its parts
   (case e2=>PySem.W.k_is)
   ..
  obtain ⟨t,T⟩:=T
  have e0:=hmg.symm.trans (PySem.W.mg_of KX G T.law)
  cases e0 -- fa is the law's own address
  exact ⟨_,fun s u=>.of_eq rfl,fun base kb nb=>My.law_fn T kb nb⟩ -- if «.of_eq rfl» comes too early: refine' ⟨_,?b,fun base kb nb=>My.law_fn T kb nb⟩;exact fun s u=>.of_eq rfl
 case S=>exact fun w H a ns hl hO hS=>..
 case C=>exact ..
(the tactic k_is has no namespace: write k_is) -/
namespace L2
open PySem PySem.Spec PyProof.Rows
def jX (s:Stmt):Arguments:=match s with
 |.FunctionDef _ a _ _ _ _ _ _ _ _=>a
 |_=>{posonlyargs:=[],args:=[],vararg:=none,kwonlyargs:=[],kw_defaults:=[],kwarg:=none,defaults:=[]}
def jT (s:Stmt):List Stmt:=match s with
 |.FunctionDef _ _ b _ _ _ _ _ _ _=>b
 |_=>[]
def jH (s:Stmt):Scope:=match s with
 |.FunctionDef _ _ _ _ _ _ sc _ _ _=>sc
 |_=>{kind:=.function,names:=[],isGenerator:=false,isCoroutine:=false}
abbrev jV:kA:=fun _ _ _ _ _ _=>False
abbrev E0:XK:=fun _ _ _=>False
theorem JU {X:Cx}:zO jV X E0:=fun _ _ _ _ _ _ _ h=>h.elim
structure Fun (K:PySem.W.Frag) (x qual:Str) (st:Stmt) (f:Addr) (fd:FuncData):Prop where
 ex:∃(oc:Value) (od:Option Addr) (kV doc pm:Value) (an:Option Addr) (cdv ct:Value) (osl:Array (Option Value)),
  fd=PySem.W.fnOf x qual (jX st) (jT st) (jH st) .none kV doc pm an cdv ct∧K.lookup f=some ⟨oc,od,.func fd,osl⟩∧PySem.W.codeIn K cdv qual=true
 kp:PySem.W.keepIn K (.ref f)=true
section
variable {P:Program} {w:World} {K:PySem.W.Frag} {mg:Str→Option Value} {base:Heap}
theorem Fun.ok {x qual:Str} {st:Stmt} {f:Addr} {fd:FuncData} {N ps:List Str} {k:Nat} {sp:Sp} (F:Fun K x qual st f fd) (S:FnScope N ps (jH st)) (len:∀vs H Q E,sp vs H Q E→vs.length=ps.length)
  (hbody:∀(cdv:Value) (A:Around) (outer:List Env) (s:Shared) (H:Hp) (vs:List V) (Q:VK) (E:XK),Room k (A.deeper (envOfC qual (jH st) s.heap.objs.size f cdv))→sp vs H Q E→
   ∃t,PSs (q9 jV P w K mg base N qual (jH st) f cdv A outer s H E).nox (jT st) t∧t {nx:=fun _ H'=>Q .non H',rt:=Q} (kC N vs) H):FnOk P w K mg base jV (k+1) f fd ps sp:=by
 obtain ⟨oc,od,kV,doc,pm,an,cdv,ct,osl,rfl,lk,hcd⟩:=F.ex
 refine JX lk hcd S len fun A outer s H vs Q E hr hsp=>?_
 obtain ⟨t,h,q⟩:=hbody cdv A outer s H vs Q E hr hsp
 exact ⟨t,h.nox,q⟩
theorem Fun.binds {x qual:Str} {st:Stmt} {f:Addr} {fd:FuncData} {ps:List Str} (F:Fun K x qual st f fd)
  (h:∀(kV doc pm:Value) (an:Option Addr) (cdv ct:Value) (us:List Value),us.length=ps.length→bindArgs (PySem.W.fnOf x qual (jX st) (jT st) (jH st) .none kV doc pm an cdv ct) ⟨us,[]⟩=pure (ps.zip us)):Binds K fd ps []:=by
 obtain ⟨oc,od,kV,doc,pm,an,cdv,ct,osl,rfl,lk,hcd⟩:=F.ex
 exact .all (h kV doc pm an cdv ct)
theorem qC {x qual:Str} {st:Stmt} {f:Addr} {oc:Value} {od an:Option Addr} {osl:Array (Option Value)} {kV doc pm cdv ct:Value} (l:K.lookup f=some ⟨oc,od,.func (PySem.W.fnOf x qual (jX st) (jT st) (jH st) .none kV doc pm an cdv ct),osl⟩)
  (c:PySem.W.codeIn K cdv qual=true) (k:PySem.W.keepIn K (.ref f)=true):Fun K x qual st f (PySem.W.fnOf x qual (jX st) (jT st) (jH st) .none kV doc pm an cdv ct):=⟨⟨oc,od,kV,doc,pm,an,cdv,ct,osl,rfl,l,c⟩,k⟩
end
theorem kS {A:Around} {k:Nat} (hr:Room k A):A.units+1<cLine:=Nat.lt_of_le_of_lt (Nat.add_le_add_left (by decide:1≤64) _) hr.units
theorem kY {n:Nat} (h:n≤1000):n<sizeLine:=Nat.lt_of_le_of_lt h (by decide)
section
variable {X:Cx}
theorem pv (i:Nat) {x:Str} {pos:Pos} (hN:X.N[i]?=some x:=by rfl) (hv:yU X.env.scope x:=by first|exact Or.inl rfl|exact Or.inr (Or.inl rfl)|exact Or.inr (Or.inr rfl)) (hd:(x == ("__debug__":Str))=false:=by decide)
  (hcd:(x == ("__classdict__":Str))=false:=by decide):PE X (.Name x pos) (Z5 i):=ZO hN hv hd hcd
end
theorem qR {A B:Prop} (h:B):if false=true then A else B:=by
 rw [if_neg Bool.false_ne_true]
 exact h
theorem v1 {A B:Prop} (h:A):if true=true then A else B:=by
 rw [if_pos rfl]
 exact h
theorem kG {c A B:Prop} [Decidable c] (h1:c→A) (h2:¬c→B):if c then A else B:=by
 by_cases h:c
 ·rw [if_pos h]
  exact h1 h
 ·rw [if_neg h]
  exact h2 h
theorem zS {c A B:Prop} [Decidable c] (hc:c) (h:B):if (!decide c)=true then A else B:=by
 rw [decide_eq_true hc]
 exact qR h
def Same (H H':Hp):Prop:=∀b o,H b=some o→H' b=some o
theorem Same.refl (H:Hp):Same H H:=fun _ _ h=>h
theorem Same.trans {H H1 H2:Hp} (a:Same H H1) (b:Same H1 H2):Same H H2:=fun c o h=>b c o (a c o h)
theorem Same.free {H H':Hp} (e:Same H H') {l:Addr} (h:H' l=Option.none):H l=Option.none:=by
 cases q:H l with
 |none=>rfl
 |some o =>
  rw [e l o q] at h
  cases h
theorem Same.seq {K:PySem.W.Frag} {H H':Hp} {a:Addr} {xs:List V} (e:Same H H') (h:SqL K H a xs):SqL K H' a xs:=by
 rcases h with (h|⟨o,h⟩)|h
 ·exact .inl (.inl (e _ _ h))
 ·exact .inl (.inr ⟨o,e _ _ h⟩)
 ·exact .inr h
end L2
namespace L2
open PySem PySem.Spec PyProof.Rows
def kE (cells:List (Str×Addr)):List (Str×NameKind)→List (Str×Addr)→List (Str×Addr)
 |[],cs=>cs
 | (n,k)::r,cs=>if (k == NameKind.free)=true then kE cells r ((n,(cells.lookup n).getD 0)::cs) else kE cells r cs
theorem cF {scope:Scope} {env:Env} (h:∀x∈scope.names,x.2=.free→∃c,env.cells.lookup x.1=some c):closureFor scope env=pure (kE env.cells scope.names []):=by
 simp only [closureFor]
 have go:∀(l:List (Str×NameKind)) (cs:List (Str×Addr)),(∀x∈l,x.2=.free→∃c,env.cells.lookup x.1=some c)→
   (forIn l cs fun x r=>match x with|(name,kind)=>if (kind == NameKind.free)=true then do let a ← cellOf env name;pure (ForInStep.yield ((name,a)::r)) else pure (ForInStep.yield r):Sem (List (Str×Addr)))=pure (kE env.cells l cs):=by
  intro l
  induction l with
  |nil=>intro cs _;rfl
  |cons p r ih =>
   intro cs hp
   obtain ⟨n,k⟩:=p
   rw [List.forIn_cons]
   have hr:=fun cs=>ih cs fun x hx=>hp x (List.mem_cons_of_mem _ hx)
   by_cases hk:(k == NameKind.free)=true
   ·have hk':k=NameKind.free:=by simpa using hk
    obtain ⟨c,hc⟩:=hp (n,k) List.mem_cons_self hk'
    have hc':env.cells.lookup n=some c:=hc
    simp only [hk,if_true,kE,cellOf,hc',Option.getD_some,pure_bind]
    exact hr _
   ·simp only [hk,if_false,kE,pure_bind]
    exact hr _
 rw [go scope.names [] h]
 rfl
theorem yZ {cells:List (Str×Addr)}:∀{l:List (Str×NameKind)} {cs:List (Str×Addr)} {x:Str} {c:Addr},(∀y∈l,y.2=.free→∃c,cells.lookup y.1=some c)→(∀y d,cs.lookup y=some d→cells.lookup y=some d)→
  (kE cells l cs).lookup x=some c→cells.lookup x=some c
 |[],cs,x,c,_,hc,e=>hc x c e
 | (n,k)::r,cs,x,c,hl,hc,e=>by
  unfold kE at e
  by_cases hk:(k == NameKind.free)=true
  ·rw [if_pos hk] at e
   obtain ⟨d,hd⟩:=hl (n,k) List.mem_cons_self (by simpa using hk)
   have hd':cells.lookup n=some d:=hd
   refine yZ (fun y hy=>hl y (List.mem_cons_of_mem _ hy)) (fun y d' q=>?_) e
   rw [List.lookup_cons] at q
   by_cases hy:(y == n)=true
   ·rw [hy] at q
    have hyn:y=n:=by simpa using hy
    subst hyn
    rw [hd'] at q ⊢
    exact q
   ·rw [Bool.not_eq_true] at hy
    rw [hy] at q
    exact hc y d' q
  ·rw [if_neg hk] at e
   exact yZ (fun y hy=>hl y (List.mem_cons_of_mem _ hy)) hc e
theorem z4 {cells:List (Str×Addr)}:∀{l:List (Str×NameKind)} {cs:List (Str×Addr)} {x:Str},(∃c,cs.lookup x=some c)→∃c,(kE cells l cs).lookup x=some c
 |[],_,_,h=>h
 | (n,k)::r,cs,x,h=>by
  unfold kE
  by_cases hk:(k == NameKind.free)=true
  ·rw [if_pos hk]
   refine z4 ?_
   rw [List.lookup_cons]
   by_cases hy:(x == n)=true
   ·rw [hy];exact ⟨_,rfl⟩
   ·rw [Bool.not_eq_true] at hy
    rw [hy];exact h
  ·rw [if_neg hk];exact z4 h
theorem y6 {cells:List (Str×Addr)}:∀{l:List (Str×NameKind)} {cs:List (Str×Addr)} {x:Str},(x,NameKind.free)∈l→∃c,(kE cells l cs).lookup x=some c
 | (n,k)::r,cs,x,h=>by
  unfold kE
  rcases List.mem_cons.mp h with e|e
  ·cases e
   rw [if_pos (by rfl)]
   exact z4 (by rw [List.lookup_cons,beq_self_eq_true];exact ⟨_,rfl⟩)
  ·by_cases hk:(k == NameKind.free)=true
   ·rw [if_pos hk];exact y6 e
   ·rw [if_neg hk];exact y6 e
theorem dI {prog:Program} {w:World} {A:Around} {elt target iter:Expr} {ifs:List Expr} {scope:Scope} {pos:Pos} {it acc:Value} {env:Env} {R:Result→Shared→Prop} {s:Shared} (I:Nat→Shared→Prop)
  (turn:∀n s,I n s→wpAny (model prog w) A (pyNext it) (fun r s₁=>match r with
   |none=>R (.ok .next) s₁
   |some v=>wpAny (model prog w) A (letOwnedTupleGo target it v) (fun _ s₁'=>wpAny (model prog w) A (assign target env v) (fun _ s₂ =>
     wpAny (model prog w) A (forIn ifs true fun c r=>if r=true then do let ok ← isTrue c env (eval c env);pure (ForInStep.yield ok) else pure (ForInStep.yield r)) (fun ok s₃ =>
      if ok=true then wpAny (model prog w) A (eval elt env) (fun x s₄ =>
       wpAny (model prog w) A (call (.builtin "list.append") [acc,x]) (fun _ s₅=>∃m,m<n∧I m s₅) (fun _ _=>False) s₄) (fun _ _=>False) s₃
      else ∃m,m<n∧I m s₃) (fun _ _=>False) s₂) (fun _ _=>False) s₁') (fun _ _=>False) s₁) (fun _ _=>False) s)
  (n:Nat) (h:I n s):codeAny (model prog w) A (.compLoop (.ListComp elt [⟨target,iter,ifs,0⟩] scope pos) 0 it acc env) R s:=by
 refine codeAny_loop rfl I (fun n s hI=>?_) n h
 show wpAny _ A ((compTurn (.ListComp elt [⟨target,iter,ifs,0⟩] scope pos) 0 it acc env).onRaise (fun x=>do noteFrame x env;theTreesLotGoes x)) _ _ s
 refine wpAny_noted ?_
 rw [compTurn_list]
 refine wpAny_bind (wpAny_standAt (wpAny_bind (wpAny_mono (turn n s hI) (fun r s₁ h₁=>?_) fun _ _ h'=>h'.elim)))
 cases r with
 |none=>exact wpAny_pure h₁
 |some v =>
  refine wpAny_bind (wpAny_mono h₁ (fun _ s₁' h₁'=>?_) fun _ _ h'=>h'.elim)
  refine wpAny_bind (wpAny_mono h₁' (fun _ s₂ h₂=>wpAny_bind (wpAny_mono h₂ (fun ok s₃ h₃=>?_) fun _ _ h'=>h'.elim)) fun _ _ h'=>h'.elim)
  cases ok with
  |false=>exact wpAny_pure ⟨rfl,h₃⟩
  |true =>
   exact wpAny_bind (wpAny_bind (wpAny_mono h₃ (fun x s₄ h₄=>wpAny_bind (wpAny_mono h₄ (fun _ s₅ h₅=>wpAny_pure (wpAny_pure ⟨rfl,h₅⟩)) fun _ _ h'=>h'.elim)) fun _ _ h'=>h'.elim))
def kF (X:Cx) (N:List Str) (scope:Scope) (C:Addr) (s:Shared) (H:Hp) (pins:List (Addr×Obj)) (fp:List Addr):Cx where
 prog:=X.prog
 w:=X.w
 K:=X.K
 mg:=X.mg
 base:=X.base
 A:=X.A
 N:=N
 s₀:=s
 H₀:=H
 env:=compEnvC scope (kE X.env.cells scope.names []) C X.env
 outer:=X.stack
 stack:=X.stack
 ex:=fp
 fn:=fun _=>false
 calm:=X.calm
 pn:=X.pn++pins
 xe:=fun _ _=>False
structure CompScope (X:Cx) (scope:Scope):Prop where
 kind:scope.kind=.function
 nocell:∀y∈scope.names,y.2≠.cell
 names:∀y∈scope.names,y.2=.local→scope.names.lookup y.1=some .local
 free:∀y∈scope.names,y.2=.free→X.env.kindOf y.1=some .cell∨X.env.kindOf y.1=some .free
theorem z0 {env:Env} {x:Str}:∀{names:List (Str×NameKind)} {k:NameKind},(names.map fun (n,k)=>if (k == NameKind.free&&env.scope.kind == .function&&env.kindOf n == some .cell) then (n,NameKind.cell) else (n,k)).lookup x=some k→
  ∃k',names.lookup x=some k'∧(k'=k∨(k'=.free∧k=.cell∧env.kindOf x=some .cell))
 |[],k,h=>by simp at h
 | (n,k0)::r,k,h=>by
  have ih:=@z0 env x r k
  have h':List.lookup x ((if (k0 == NameKind.free&&env.scope.kind == .function&&env.kindOf n == some .cell)=true then (n,NameKind.cell) else (n,k0))::r.map fun (n,k)=>if (k == NameKind.free&&env.scope.kind == .function&&env.kindOf n == some .cell)=true then (n,NameKind.cell) else (n,k))=some k:=h
  by_cases hc:(k0 == NameKind.free&&env.scope.kind == .function&&env.kindOf n == some .cell)=true
  ·rw [if_pos hc] at h'
   rw [List.lookup_cons] at h'
   cases hx:x == n with
   |true =>
    rw [hx] at h'
    have hk:NameKind.cell=k:=Option.some.inj h'
    simp only [Bool.and_eq_true,beq_iff_eq] at hc
    have hxn:x=n:=by simpa using hx
    refine ⟨k0,by rw [List.lookup_cons,hx],.inr ⟨hc.1.1,hk.symm,by rw [hxn];exact hc.2⟩⟩
   |false =>
    rw [hx] at h'
    obtain ⟨k',e1,e2⟩:=ih h'
    exact ⟨k',by rw [List.lookup_cons,hx];exact e1,e2⟩
  ·rw [if_neg hc] at h'
   rw [List.lookup_cons] at h'
   cases hx:x == n with
   |true =>
    rw [hx] at h'
    exact ⟨k0,by rw [List.lookup_cons,hx],.inl (Option.some.inj h')⟩
   |false =>
    rw [hx] at h'
    obtain ⟨k',e1,e2⟩:=ih h'
    exact ⟨k',by rw [List.lookup_cons,hx];exact e1,e2⟩
theorem z3 {α:Type}:∀{l:List (Str×α)} {x:Str} {k:α},l.lookup x=some k→(x,k)∈l
 |[],_,_,h=>by simp at h
 | (n,a)::r,x,k,h=>by
  rw [List.lookup_cons] at h
  cases hx:x == n with
  |true =>
   rw [hx] at h
   have e:a=k:=Option.some.inj h
   have hxn:x=n:=by simpa using hx
   subst e;subst hxn
   exact List.mem_cons_self
  |false =>
   rw [hx] at h
   exact List.mem_cons_of_mem _ (z3 h)
def J5 (X:Cx) (ifs:List Expr) (t:TT):Prop :=
 ∀(pins:List (Addr×Obj)) (s:Shared) (σ:St) (H:Hp) (Q:Bool→Hp→Prop),Inv X pins σ H s→t σ H Q→
  wpAny (model X.prog X.w) X.A (forIn ifs true fun c r=>if r=true then do let ok ← isTrue c X.env (eval c X.env);pure (ForInStep.yield ok) else pure (ForInStep.yield r)) (TP X pins σ Q) X.xe s
theorem ZC {X:Cx} {c:Expr} {t:TT} (hc:PT X c t):J5 X [c] t:=fun pins s σ H Q I h=>wpAny_tests_one (hc pins s σ H Q I h)
def yO (D:Addr) (J:It) (g:TG) (tc:TT) (te:TE) (σ₀:St) (H:Hp) (Q:Hp→Prop):Prop :=
 ∃W:Nat→Nat→St→Hp→Prop,(∃m,W 0 m σ₀ (jB H D (.lst [])))∧∀i m σ' H',W i m σ' H'→
  (J.stop i H'∧Q H')∨(J.go i H'∧∃N:St→Hp→Prop,(∀σ'' H'',N σ'' H''→∃m',m'<m∧W (i+1) m' σ'' H'')∧∀x H2,J.yld i H' x H2→g x σ' H2 fun σ2 H3=>tc σ2 H3 fun b H4 =>
   if b=true then te σ2 H4 fun v H5=>∃xs,H5 D=some (.lst xs)∧xs.length<sizeLine∧N σ2 (jB H5 D (.lst (xs++[v]))) else N σ2 H4)
def dO (i:Nat) (wi:TI) (cap:St→St) (g:TG) (tc:TT) (te:TE):TS:=fun D σ H=>wi σ H fun J H1=>∀d,H1 d=none→yO d J g tc te (cap σ) H1 fun H'=>D.nx (σ.set i (some (.ref d))) H'
def yT (X:Cx) (N:List Str) (scope:Scope) (cap:St→St):Prop :=
 ∀σ:St,σ.length=X.N.length→(cap σ).length=N.length∧∀(i:Nat) (x:Str) (v:V),N[i]?=some x→(cap σ)[i]?=some (some v)→scope.names.lookup x=some .free∧∃j:Nat,X.N[j]?=some x∧σ[j]?=some (some v)
def v2 (n:Nat) (js:List Nat):St→St:=fun σ=>List.replicate n none++js.map fun j=>(σ[j]?).join
theorem zY {X:Cx} {N:List Str} {scope:Scope} (n:Nat) (js:List Nat) (h1:N.length=n+js.length) (h2:js.map (fun j=>X.N[j]?)=(N.drop n).map some) (h3:∀x∈N.drop n,scope.names.lookup x=some .free):yT X N scope (v2 n js):=by
 intro σ hσ
 refine ⟨by unfold v2;rw [List.length_append,List.length_replicate,List.length_map,h1],fun i x v e1 e2=>?_⟩
 unfold v2 at e2
 by_cases hi:i<n
 ·rw [List.getElem?_append_left (by simpa using hi),List.getElem?_replicate,if_pos hi] at e2
  cases e2
 ·rw [List.getElem?_append_right (by simpa using hi),List.length_replicate,List.getElem?_map] at e2
  cases hj:js[i - n]? with
  |none=>rw [hj] at e2;cases e2
  |some j =>
   rw [hj] at e2
   have e3:(σ[j]?).join=some v:=Option.some.inj e2
   have e4:σ[j]?=some (some v):=by
    cases q:σ[j]? with
    |none=>rw [q] at e3;cases e3
    |some o =>
     rw [q] at e3
     have e5:o=some v:=e3
     rw [e5]
   have hd:(N.drop n)[i - n]?=some x:=by
    rw [List.getElem?_drop,show n+(i - n)=i by omega]
    exact e1
   have e5:=congrArg (fun l=>l[i - n]?) h2
   simp only [List.getElem?_map,hj,hd,Option.map_some] at e5
   exact ⟨h3 x (List.mem_of_getElem? hd),j,Option.some.inj e5,e4⟩
theorem J6 {X:Cx} {scope:Scope} (sc:Scope) (hsc:X.env.scope=sc) (kind:scope.kind=.function) (nocell:∀y∈scope.names,y.2≠.cell) (names:∀y∈scope.names,y.2=.local→scope.names.lookup y.1=some .local)
  (free:∀y∈scope.names,y.2=.free→sc.names.lookup y.1=some .cell∨sc.names.lookup y.1=some .free):CompScope X scope:=⟨kind,nocell,names,fun y hy hf=>by
 subst hsc
 exact free y hy hf⟩
section
variable {X:Cx} {N:List Str} {scope:Scope} {pins:List (Addr×Obj)} {σ:St} {H:Hp} {s:Shared} {fp:List Addr}
theorem z6 (S:CompScope X scope) (I:Inv X pins σ H s):∀y∈scope.names,y.2=.free→∃c,X.env.cells.lookup y.1=some c:=fun y hy hf=>I.ok.has y.1 (S.free y hy hf)
theorem d0 {cap:St→St} {D C:Addr} {h₁:Heap} {t':Nat} {m:Str→Option Value} (S:CompScope X scope) (I:Inv X pins σ H s) (hcap:yT X N scope cap) (hf:∀b∈fp,qJ X pins H b) (hfo:∀b∈fp,∃o,s.heap.get? b=some o)
  (hD:s.heap.objs.size≤D) (hC:s.heap.objs.size≤C) (hDC:D≠C) (old:∀b o,s.heap.get? b=some o→h₁.get? b=some o) (hns:h₁.Ns C m) (hl:h₁.get? D=some {cls:=.type "list",data:=.seq ([]:List Value).toArray}) :
  Inv (kF X N scope C s H pins fp) [] (cap σ) (jB H D (.lst [])) {s with heap:=h₁,toks:=t'}:=by
 have cellsOk:=z6 S I
 have look:∀x c,(kE X.env.cells scope.names []).lookup x=some c→X.env.cells.lookup x=some c:=fun x c e=>yZ cellsOk (fun y d q=>by simp at q) e
 have lt:∀{b:Addr} {o:Obj},s.heap.get? b=some o→b<s.heap.objs.size:=fun e=>Heap.lt_size e
 have cellLt:∀x c,X.env.cells.lookup x=some c→c<s.heap.objs.size:=fun x c e=>by
  obtain ⟨v,o,ho,_⟩:=I.cell x c e
  exact lt ho
 have nD:H D=none:=I.hok.fresh hD
 have nC:H C=none:=I.hok.fresh hC
 have stkNe:∀b:Addr,b≠X.env.locals→b∉X.fs→b∉kK X.stack:=fun b h1 h2 z=>by
  rcases List.mem_cons.mp (I.stkSub b z) with e|e
  ·exact h1 e
  ·exact h2 e
 refine ⟨⟨I.ok.mod,S.kind,I.ok.glob,I.ok.blt,hC,fun x y c h1 h2=>I.ok.inj x y c (look x c h1) (look y c h2),fun x hx=>?_,fun x c hfn _=>(nomatch hfn),I.ok.hd,I.ok.frames,.inl rfl,fun b hb=>⟨?_,fun x c e=>(hf b hb).2.2.2.2.1 x c (look x c e)⟩,
   I.bs,Nat.le_trans I.ok.bsz I.sz,fun b o e hb=>?_,fun b hb=>stkNe b (hf b hb).2.1 (hf b hb).2.2.1,I.stack,I.stkFree⟩,
  rfl,I.bare,Un.laid old hD nD,⟨m,hns,fun i x v h1 h2 h3=>?_⟩,fun x c e=>?_,?_,fun x c e=>?_,fun p hp=>?_,?_,(hcap σ I.len).1⟩
 ·-- has
  have hx':∃k,(relabel scope X.env).names.lookup x=some k∧(k=.cell∨k=.free):=by
   rcases hx with e|e
   ·exact ⟨_,e,.inl rfl⟩
   ·exact ⟨_,e,.inr rfl⟩
  obtain ⟨k,e,hk⟩:=hx'
  obtain ⟨k',e1,e2⟩:=z0 e
  have hm:=z3 e1
  have hfree:k'=.free:=by
   rcases e2 with e2|e2
   ·subst e2
    rcases hk with hk|hk
    ·subst hk
     exact absurd rfl (S.nocell _ hm)
    ·exact hk
   ·exact e2.1
  subst hfree
  exact y6 hm
 ·obtain ⟨o,ho⟩:=hfo b hb
  exact Nat.ne_of_lt (Nat.lt_of_lt_of_le (lt ho) hC)
 ·rcases (hf b hb).2.2.2.1 with z|z
  ·exact I.ok.noex b o e z
  ·exact absurd (Nat.lt_of_lt_of_le (Heap.lt_size e) (Nat.le_trans I.ok.bsz z)) (Nat.lt_irrefl _)
 ·-- names
  obtain ⟨hfr,j,hj,hv⟩:=(hcap σ I.len).2 i x v h1 h2
  have hm:=z3 hfr
  have hk:=S.free _ hm rfl
  obtain ⟨m0,_,hl0⟩:=I.loc
  have vis:yU X.env.scope x:=by
   rcases hk with k|k
   ·exact .inr (.inl k)
   ·exact .inr (.inr k)
  obtain ⟨u,r,l⟩:=hl0 j x v hj hv vis
  refine ⟨u,r,.inr ⟨?_,?_⟩⟩
  ·have hvis:∃k,(relabel scope X.env).names.lookup x=some k:=by
    rcases h3 with e|e|e<;>exact ⟨_,e⟩
   obtain ⟨k,e⟩:=hvis
   obtain ⟨k',e1,e2⟩:=z0 e
   rw [hfr] at e1
   cases e1
   rcases e2 with e2|e2
   ·subst e2;exact .inr e
   ·rw [e2.2.1] at e;exact .inl e
  ·rcases l with ⟨k,_⟩|⟨_,c,hc,hcell⟩
   ·exfalso
    rcases hk with q|q
    ·have q':X.env.kindOf x=some .cell:=q
     rw [k] at q';cases q'
    ·have q':X.env.kindOf x=some .free:=q
     rw [k] at q';cases q'
   ·obtain ⟨c',e'⟩:=y6 (cells:=X.env.cells) (cs:=[]) hm
    have e2:=look x c' e'
    have e2':X.env.cells.lookup x=some c':=e2
    rw [hc] at e2'
    cases e2'
    obtain ⟨o,ho,hd⟩:=hcell
    exact ⟨c,e',o,old _ _ ho,hd⟩
 ·obtain ⟨v,o,ho,hd⟩:=I.cell x c (look x c e)
  exact ⟨v,o,old _ _ ho,hd⟩
 ·show jB H D (.lst []) C=none
  rw [jC (Ne.symm hDC)]
  exact nC
 ·have hc:=look x c e
  rw [jC (Nat.ne_of_lt (Nat.lt_of_lt_of_le (cellLt x c hc) hD))]
  exact I.freeC x c hc
 ·have hp':p∈X.pn++pins:=by
   rcases List.mem_append.mp hp with z|z
   ·exact z
   ·cases z
  obtain ⟨e,n,ne,nf,d⟩:=I.pin p hp'
  refine ⟨old _ _ e,?_,Nat.ne_of_lt (Nat.lt_of_lt_of_le (lt e) hC),stkNe p.1 ne nf,d⟩
  rw [jC (Nat.ne_of_lt (Nat.lt_of_lt_of_le (lt e) hD))]
  exact n
 ·refine I.hok.laid old hD ?_
  exact ⟨Nat.zero_le _,[],0,.nil,hl⟩
theorem dJ {σ':St} {H':Hp} {s':Shared} {C:Addr} {σc:St} {Nc:List Str} (I:Inv X pins σ H s) (hf:∀b∈fp,qJ X pins H b) (J:Inv (kF X Nc scope C s H pins fp) [] σc H' s'):Inv X pins σ H' s':=by
 refine I.call' (ch:=fp) J.os J.base J.hok J.bare fun b hb=>?_
 obtain ⟨_,h2,_,h4,h5,h6⟩:=hf b hb
 exact ⟨h4,h2,h5,h6⟩
theorem dZ {σ':St} {H':Hp} {s':Shared} {C:Addr} {h':Heap} (I:Inv X pins σ H s) (hC:s.heap.objs.size≤C) (J:Inv X pins σ' H' s') (hn:H' C=none) (sb:Heap.SameBut C s'.heap h'):Inv X pins σ' H' {s' with heap:=h'}:=by
 refine J.turned (t':=s'.toks) (it:=C) (fun b o hb e=>(sb.2 b hb).trans e) hn (Nat.ne_of_gt (Nat.lt_of_lt_of_le I.lt hC)) (.inr (Nat.le_trans I.sz hC)) (fun x c e z=>?_) fun p hp z=>?_
 ·obtain ⟨v,q⟩:=I.cell x c e
  exact absurd (Nat.lt_of_lt_of_le q.lt (by rw [z];exact hC)) (Nat.lt_irrefl _)
 ·exact absurd (Nat.lt_of_lt_of_le (Heap.lt_size (I.pin p hp).1) (by rw [z];exact hC)) (Nat.lt_irrefl _)
theorem dY {tg iter elt:Expr} {ifs:List Expr} {pos:Pos} {cap:St→St} {g:TG} {tc:TT} {te:TE} {J:It} {it:Addr} {tn:Nat→Heap→Prop} {Q:Addr→Hp→Prop} {RR:Value→Addr→Result→Shared→Prop}
  (hcalm:X.calm=true) (S:CompScope X scope) (hcap:yT X N scope cap) (I:Inv X pins σ H s) (T:Turn X.prog X.w X.K tg J fp it tn) (st:tn 0 s.heap) (hf:∀b∈fp,qJ X pins H b)
  (hg:∀C,PG (kF X N scope C s H pins fp) tg g) (hc:∀C,J5 (kF X N scope C s H pins fp) ifs tc) (he:∀C,PE (kF X N scope C s H pins fp) elt te)
  (hq:∀D,H D=none→yO D J g tc te (cap σ) H (Q D))
  (hRR:∀D C σc H' s',s.heap.objs.size≤C→Inv (kF X N scope C s H pins fp) [] σc H' s'→Q D H'→RR (.ref D) C (.ok .next) s') :
  wpAny (model X.prog X.w) X.A (newList []) (fun acc s₃=>wpAny (model X.prog X.w) X.A (newFunctionEnv scope X.env.globals (kE X.env.cells scope.names []) [] X.env.qual none .none (some X.env)) (fun cenv s₄ =>
   codeAny (model X.prog X.w) X.A (.compStart (.ListComp elt [⟨tg,iter,ifs,0⟩] scope pos) 0 (.ref it) acc {cenv with scope:=relabel scope X.env}) (RR acc cenv.locals) s₄) X.xe s₃) X.xe s:=by
 refine wpAny_newObj_type (wpAny_newFunctionEnv S.nocell (by intro y hy;simp at hy) (fun h₁ hns₁ hsb₁=>?_) S.kind)
 dsimp only at hns₁ hsb₁ ⊢
 generalize hH2:s.heap.push {cls:=.type "list",dict:=none,data:=.seq ([]:List Value).toArray}=H2 at hns₁ hsb₁ ⊢
 have hC:H2.objs.size=s.heap.objs.size+1:=by rw [← hH2,Heap.size_push]
 have hDC:s.heap.objs.size≠H2.objs.size:=by rw [hC];exact Nat.ne_of_lt (Nat.lt_succ_self _)
 have hCle:s.heap.objs.size≤H2.objs.size:=by rw [hC];exact Nat.le_succ _
 have below:∀b,b<s.heap.objs.size→b≠H2.objs.size:=fun b hb=>by rw [hC];exact Nat.ne_of_lt (Nat.lt_succ_of_lt hb)
 have old:∀b o,s.heap.get? b=some o→h₁.get? b=some o:=fun b o e=>hsb₁.extBut b o (below b (Heap.lt_size e)) (Heap.get?_push_of_some _ (hH2▸Heap.get?_push_of_some _ e))
 have hacc:h₁.get? s.heap.objs.size=some {cls:=.type "list",data:=.seq ([]:List Value).toArray}:=hsb₁.extBut _ _ hDC (Heap.get?_push_of_some _ (hH2▸Heap.get?_push_size _ rfl))
 have obj0:=T.obj 0 s.heap st
 have I1:∀t',Inv (kF X N scope H2.objs.size s H pins fp) [] (cap σ) (jB H s.heap.objs.size (.lst [])) {s with heap:=h₁,toks:=t'}:=fun t' =>
  d0 S I hcap hf (fun b hb=>let ⟨o,e,_⟩:=obj0 b hb;⟨o,e⟩) (Nat.le_refl _) hCle hDC old hns₁ hacc
 have st1:tn 0 h₁:=T.keep 0 s.heap h₁ st fun b _ o e=>old b o e
 have stat:∀{H':Hp},(∀b∈fp,H' b=none)→∀b∈fp,qJ (kF X N scope H2.objs.size s H pins fp) [] H' b:=fun hn b hb=>by
  obtain ⟨_,h2,h3,h4,h5,h6⟩:=hf b hb
  obtain ⟨o,ho,_⟩:=obj0 b hb
  refine ⟨hn b hb,below b (Heap.lt_size ho),?_,.inl hb,fun x c e=>h5 x c (yZ (z6 S I) (fun y d q=>by simp at q) e),fun p hp=>?_⟩
  ·intro z
   rcases List.mem_cons.mp (I.stkSub b z) with e|e
   ·exact h2 e
   ·exact h3 e
  ·rcases List.mem_append.mp hp with z|z
   ·exact h6 p z
   ·cases z
 have fr1:∀b∈fp,jB H s.heap.objs.size (.lst []) b=none:=fun b hb=>by
  obtain ⟨o,ho,_⟩:=obj0 b hb
  rw [jC (Nat.ne_of_lt (Heap.lt_size ho))]
  exact (hf b hb).1
 obtain ⟨W,⟨m0,w0⟩,turn⟩:=hq s.heap.objs.size (I.hok.fresh (Nat.le_refl _))
 have loop:∀s₃:Shared,s₃={s with heap:=h₁,toks:=s.toks+([]:List (Str×Value)).length}→
   codeAny (model X.prog X.w) X.A (.compLoop (.ListComp elt [⟨tg,iter,ifs,0⟩] scope pos) 0 (.ref it) (.ref s.heap.objs.size) (compEnvC scope (kE X.env.cells scope.names []) H2.objs.size X.env))
    (RR (.ref s.heap.objs.size) H2.objs.size) s₃:=by
  rintro s₃ rfl
  refine dI (fun n s'=>∃i σ' H',Inv (kF X N scope H2.objs.size s H pins fp) [] σ' H' s'∧tn i s'.heap∧(∀b∈fp,H' b=none)∧W i n σ' H') ?_ m0 ⟨0,cap σ,_,I1 _,st1,fr1,w0⟩
  rintro n s3 ⟨i,σ3,H3,I3,st3,fr3,w3⟩
  rcases turn i n σ3 H3 w3 with ⟨stop,qn⟩|⟨go,Nn,hN,step⟩
  ·refine jF (T.done (kF X N scope H2.objs.size s H pins fp) rfl rfl rfl hcalm i [] s3 σ3 H3 (fun _ _=>False) I3 (stat fr3) st3 stop) fun r s4 ⟨hr,I4⟩=>?_
   subst hr
   exact hRR _ _ σ3 H3 s4 hCle I4 qn
  ·refine jF (T.item (kF X N scope H2.objs.size s H pins fp) rfl rfl rfl hcalm i [] s3 σ3 H3 (fun _ _=>False) I3 (stat fr3) st3 go) fun r s4 ⟨u,hr,h4⟩=>?_
   subst hr
   refine jF h4 fun _ s5 ⟨x,H5,I5,r5,y5,st5,fr5⟩=>?_
   have I5':=I5.pinned (stat fr5) (T.obj _ _ st5)
   have again:∀{σ7:St} {H7:Hp} {s7:Shared},Inv (kF X N scope H2.objs.size s H pins fp) ([]++yK fp s5.heap) σ7 H7 s7→Nn σ7 H7→
     ∃m,m<n∧∃i σ' H',Inv (kF X N scope H2.objs.size s H pins fp) [] σ' H' s7∧tn i s7.heap∧(∀b∈fp,H' b=none)∧W i m σ' H':=fun {σ7 H7 s7} I7 n7=>by
    obtain ⟨m',hm,w7⟩:=hN σ7 H7 n7
    refine ⟨m',hm,i+1,σ7,H7,I7.unpinned,T.keep _ _ _ st5 fun b hb o e=>(I7.pin (b,o) (List.mem_append_right _ (List.mem_append_right _ (y0 hb e)))).1,fun b hb=>?_,w7⟩
    obtain ⟨o,e,d⟩:=T.obj _ _ st5 b hb
    exact (I7.pin (b,o) (List.mem_append_right _ (List.mem_append_right _ (y0 hb e)))).2.1
   refine jF (hg _ _ s5 σ3 H5 x u _ I5' r5 (step x H5 y5)) fun _ s6 ⟨σ6,H6,I6,q6⟩=>?_
   refine jF (hc _ _ s6 σ6 H6 _ I6 q6) fun ok s7 ⟨H7,I7,q7⟩=>?_
   cases ok with
   |false=>exact again I7 q7
   |true =>
    refine jF (he _ _ s7 σ6 H7 _ I7 q7) fun v s8 ⟨y,H8,I8,r8,xs,hD8,hz8,n8⟩=>?_
    refine jF (y8 _ s8 σ6 H8 (.ref s.heap.objs.size) [y] (.ref s.heap.objs.size) [v] (fun _ H9=>Nn σ6 H9) I8 rfl (.cons r8 .nil) ⟨_,_,_,rfl,rfl,hD8,hz8,n8⟩) fun _ s9 ⟨_,H9,I9,_,n9⟩=>?_
    exact again I9 n9
 exact codeAny_compStart_list (loop _ rfl) (wpAny_mono (T.self X.A 0 _ (fun v s'=>v=.ref it∧s'=_) (fun _ _=>False) st1 ⟨rfl,rfl⟩) (fun v s' ⟨e1,e2⟩=>by subst e1;subst e2;exact loop _ rfl) fun _ _ z=>z.elim)
theorem QB {tg iter elt:Expr} {ifs:List Expr} {pos spos py:Pos} {i:Nat} {y:Str} {wi:TI} {g:TG} {tc:TT} {te:TE} (N:List Str) (cap:St→St) (hN:X.N.Nodup) (hy:X.N[i]?=some y) (hloc:v5 X.env.scope y) (hcalm:X.calm=true) (S:CompScope X scope) (hcap:yT X N scope cap) (hi:PI X tg iter wi)
  (hg:∀C s H pins fp,PG (kF X N scope C s H pins fp) tg g) (hc:∀C s H pins fp,J5 (kF X N scope C s H pins fp) ifs tc) (he:∀C s H pins fp,PE (kF X N scope C s H pins fp) elt te)
  (hsw:swapsWith (.ListComp elt [⟨tg,iter,ifs,0⟩] scope pos) (some (.Name y py)) spos.line X.env=pure true:=by rfl)
  (hs:∀x,foldedSetIterable iter X.env x=pure x:=by intro _;rfl) (hfn:X.fn y=true∨X.env.scope.names.lookup y=some .local:=by first|exact .inl rfl|exact .inr rfl|assumption) :
  PS X (.Assign [.Name y py] (.ListComp elt [⟨tg,iter,ifs,0⟩] scope pos) spos) (dO i wi cap g tc te):=by
 intro pins s σ H D I h
 rw [exec_Assign_Name_used _ _ _ _ hsw]
 refine wpAny_bind (wpAny_standAt (wpAny_bind ?_))
 show wpAny _ X.A (do let _ ← comprehension (.ListComp elt [⟨tg,iter,ifs,0⟩] scope pos) scope X.env _ (newList []) false (eval iter X.env) (some (assign (.Name y py) X.env))) _ _ s
 refine wpAny_bind (wpAny_mono (wpAny_comprehension_free (use:=some (assign (.Name y py) X.env)) (Q:=fun _ s'=>SP X pins D .next s') rfl hs (cF (z6 S I)) S.kind S.names
  (jF (hi pins s σ H _ I h) fun v s1 h1=>jF h1 fun itv s2 h2=>?_)) (fun _ s' hq=>wpAny_pure (wpAny_pure hq)) fun _ _ e=>e)
 obtain ⟨it,fp,tn,J,H2,e,I2,T,st2,f2,q2⟩:=h2
 subst e
 refine dY (RR:=fun acc C=>compPost (model X.prog X.w) X.A X.xe (some (assign (.Name y py) X.env)) (fun _ s'=>SP X pins D .next s') acc C) (Q:=fun d H'=>D.nx (σ.set i (some (.ref d))) H') hcalm S hcap I2 T st2 f2 (fun C=>hg C _ _ _ _) (fun C=>hc C _ _ _ _) (fun C=>he C _ _ _ _) q2 ?_
 intro d C σc H' s' hC Jc q
 obtain ⟨m,hn,_⟩:=Jc.loc
 have J1:Inv X pins σ H' s':=dJ (σ':=σ) I2 f2 Jc
 show wpAny _ X.A (assign (.Name y py) X.env (.ref d)) _ _ _
 refine wpAny_assign_Name (QH (v:=.ref d) J1 hN hy hloc rfl (fun s'' J2 hsb=>?_) hfn)
 obtain ⟨a,sb,ha⟩:=hsb
 have haC:C≠a:=by
  rcases ha with e|e
  ·rw [e];exact Nat.ne_of_gt (Nat.lt_of_lt_of_le I2.lt hC)
  ·obtain ⟨v,q'⟩:=I2.cell y a e
   exact Nat.ne_of_gt (Nat.lt_of_lt_of_le q'.lt hC)
 refine ⟨m,hn.sameBut sb haC,fun h' hs'=>?_⟩
 exact ⟨_,H',dZ I2 hC J2 Jc.free hs',q⟩
end
end L2
namespace L2
open PySem PySem.Spec PyProof.Rows
theorem QA {K:PySem.W.Frag} {a D:Addr} {xs:List V} {g:TG} {tc:TT} {te:TE} {σ₀:St} {H:Hp} {Q:Hp→Prop} (Pv:Nat→St→Hp→Prop) (h0:Pv 0 σ₀ (jB H D (.lst []))) (hl:∀i σ H,i≤xs.length→Pv i σ H→SqL K H a xs)
    (hs:∀i x σ H,xs[i]?=some x→Pv i σ H→g x σ H fun σ2 H3=>tc σ2 H3 fun b H4=>if b=true then te σ2 H4 fun v H5=>∃ys,H5 D=some (.lst ys)∧ys.length<sizeLine∧Pv (i+1) σ2 (jB H5 D (.lst (ys++[v]))) else Pv (i+1) σ2 H4)
    (hd:∀σ H,Pv xs.length σ H→Q H):yO D (vC K a) g tc te σ₀ H Q:=by
  refine ⟨fun i m σ H=>m=xs.length - i∧i≤xs.length∧Pv i σ H,⟨xs.length,by simp,Nat.zero_le _,h0⟩,?_⟩
  rintro i m σ H ⟨rfl,hi,p⟩
  have q:=hl i σ H hi p
  by_cases hlt:i<xs.length
  · refine .inr ⟨⟨xs,xs[i],q,by simp [hlt]⟩,Pv (i+1),fun σ' H' p'=>⟨xs.length - (i+1),by omega,rfl,hlt,p'⟩,fun x H' y=>?_⟩
    obtain ⟨e,y⟩:=y
    subst e
    exact hs i x σ _ (y xs q) p
  · have e:i=xs.length:=by omega
    subst e
    exact .inl ⟨⟨xs,q,Nat.le_refl _⟩,hd σ H p⟩
theorem vD {H H':Hp} {D:Addr} {o:HO} (hD:H D=none) (s:Same H H'):Same H (jB H' D o):=fun b u q=>by
 rw [jC (qL q hD)]
 exact s b u q
def yP (H:Hp) (D:Addr) (caps:St) (R:Nat→List V→Hp→Prop) (i:Nat) (σ:St) (Hi:Hp):Prop:=∃ys c,σ=c::caps∧Same H Hi∧Hi D=some (.lst ys)∧ys.length≤i∧R i ys Hi
theorem bH {H Hi H5:Hp} {D:Addr} {caps:St} {R:Nat→List V→Hp→Prop} {i:Nat} {ys:List V} {c:Option V} {v:V} (hD:H D=none) (s:Same H Hi) (hY:Hi D=some (.lst ys)) (hl:ys.length≤i) (hi:i≤999) (s5:Same Hi H5)
  (r:R (i+1) (ys++[v]) (jB H5 D (.lst (ys++[v])))):∃zs,H5 D=some (.lst zs)∧zs.length<sizeLine∧yP H D caps R (i+1) (c::caps) (jB H5 D (.lst (zs++[v]))):=by
 refine ⟨ys,s5 _ _ hY,kY (by omega),ys++[v],c,rfl,vD hD (s.trans s5),jJ,?_,r⟩
 rw [List.length_append,List.length_singleton];omega
theorem dH {H Hi H4:Hp} {D:Addr} {caps:St} {R:Nat→List V→Hp→Prop} {i:Nat} {ys:List V} {c:Option V} (s:Same H Hi) (hY:Hi D=some (.lst ys)) (hl:ys.length≤i) (s4:Same Hi H4) (r:R (i+1) ys H4) :
  yP H D caps R (i+1) (c::caps) H4:=⟨ys,c,rfl,s.trans s4,s4 _ _ hY,by omega,r⟩
theorem bG {K:PySem.W.Frag} {a D:Addr} {xs:List V} {tc:TT} {te:TE} {caps:St} {H:Hp} {Q:Hp→Prop} (R:Nat→List V→Hp→Prop) (hD:H D=none) (hS:SqL K H a xs) (h0:R 0 [] (jB H D (.lst [])))
  (hs:∀i x ys Hi,xs[i]?=some x→i<xs.length→ys.length≤i→Same H Hi→Hi D=some (.lst ys)→R i ys Hi→tc (some x::caps) Hi fun b H4=>if b=true then te (some x::caps) H4 fun v H5=>∃zs,H5 D=some (.lst zs)∧zs.length<sizeLine∧yP H D caps R (i+1) (some x::caps) (jB H5 D (.lst (zs++[v])))
   else yP H D caps R (i+1) (some x::caps) H4)
  (hd:∀ys Hf,Same H Hf→Hf D=some (.lst ys)→ys.length≤xs.length→R xs.length ys Hf→Q Hf):yO D (vC K a) (yR 0) tc te (none::caps) H Q:=by
 refine QA (xs:=xs) (yP H D caps R) ⟨[],none,rfl,vD hD (Same.refl H),jJ,Nat.le_refl _,h0⟩ (fun i σ Hi _ ⟨_,_,_,s,_⟩=>s.seq hS) ?_ ?_
 ·rintro i x σ Hi hx ⟨ys,c,rfl,s,hY,hl,r⟩
  exact hs i x ys Hi hx (List.getElem?_eq_some_iff.mp hx).1 hl s hY r
 ·rintro σ Hf ⟨ys,c,rfl,s,hY,hl,r⟩
  exact hd ys Hf s hY hl r
def gZ:V→Option Value
 |.ty n=>some (.type n)
 |.ref a=>some (.ref a)
 |_=>none
section
variable {X:Cx}
def gW (K:PySem.W.Frag):List V→Hp→VK→Prop:=fun xs H Q=>∃(x c:V) (t u:Value) (b:Bool),xs=[x,c]∧gZ c=some u∧TyOf K H x t∧PySem.W.kitOne K t u=some b∧Q (.bl b) H
theorem Q6:CallR X (.builtin "isinstance") (gW X.K):=by
 intro pins s σ H xs us Q I r h
 obtain ⟨x,c,t,u,b,rfl,hc,ty,e,q⟩:=h
 obtain ⟨u1,u2,rfl,r1,r2⟩:=fN r
 have e2:u2=u:=by
  cases c with
  |ty n=>cases (show u2=Value.type n from r2);exact Option.some.inj hc
  |ref a=>cases (show u2=Value.ref a from r2);exact Option.some.inj hc
  |_=>cases hc
 subst e2
 exact dB I r1 ty e fun tk=>⟨.bl b,H,I.tok _,rfl,q⟩
end
theorem QZ {K:PySem.W.Frag} (n:String):PySem.W.kitOne K (.type n) (.type n)=some true:=by
 unfold PySem.W.kitOne
 rw [if_pos (beq_self_eq_true _)]
def vA (xs ys:List V):Bool:=(List.range (min xs.length ys.length)).all (fun j=>vL (xs.getD j .non) (ys.getD j .non))&&xs.length == ys.length
theorem vX {xs:List V} {us:List Value} (r:Vals xs us) {j:Nat} (h:j<us.toArray.size):RelV (xs.getD j .non) us.toArray[j]:=by
 have hj:j<us.length:=by simpa using h
 have hx:j<xs.length:=by rw [r.length];exact hj
 obtain ⟨u,e,q⟩:=r.get (List.getElem?_eq_getElem hx)
 rw [List.getElem?_eq_getElem hj] at e
 have e':=Option.some.inj e
 rw [List.getD_eq_getElem?_getD,List.getElem?_eq_getElem hx]
 show RelV xs[j] us.toArray[j]
 rw [List.getElem_toArray,e']
 exact q
theorem y9 {xs:List V} (h:xs.all qH=true) {j:Nat} (hj:j<xs.length):qH (xs.getD j .non)=true:=by
 rw [List.getD_eq_getElem?_getD,List.getElem?_eq_getElem hj]
 exact List.all_eq_true.mp h _ (List.getElem_mem hj)
section
variable {X:Cx}
end
end L2
namespace L2
open PySem PySem.Spec PyProof.Rows
section
variable {X:Cx}
end
end L2
namespace L2
open PySem PySem.Spec PyProof.Rows
section
variable {X:Cx} (K:PySem.W.Frag)
theorem eK (h:X.K=K:=by rfl):IxR X (Z7 K):=by subst h;exact zM
theorem eD {es:List Expr} {k:Nat} {t:vB} {n:Nat} {pos:Pos} (hc:X.calm=true) (h:yV X es t) (hK:X.K=K:=by rfl)
  (hn:(assignEach es X.env).length=n:=by rfl) (hst:(assignEach es X.env).findIdx? (·.1)=none:=by rfl):PG X (.Tuple es k pos) (J0 K n t):=by subst hK;exact fA hc h hn hst
end
end L2
namespace L2
open PySem PySem.Spec PyProof.Rows
section
variable {X:Cx}
end
end L2
namespace L2
open PySem PySem.Spec PyProof.Rows
section
variable {X:Cx}
def gP (t u:TS):TS:=fun D σ H=>∃P:St→Hp→Prop,t {D with nx:=P} σ H∧∀σ' H',P σ' H'→u D σ' H'
theorem qF {st:Stmt} {rest:List Stmt} {t u:TS} (h1:PS X st t) (h2:PSs X rest u):PSs X (st::rest) (gP t u):=by
 intro pins s σ H D I h
 obtain ⟨P,hP,hu⟩:=h
 refine wpAny_execs_cons (jF (h1 pins s σ H {D with nx:=P} I hP) fun f s1 q=>?_)
 cases f with
 |next =>
  obtain ⟨σ',H',I',q⟩:=q
  exact h2 pins s1 σ' H' D I' (hu σ' H' q)
 |ret v=>exact q
 |brk=>exact q
 |cont=>exact q
end
end L2
namespace L2
open PySem PySem.Spec PyProof.Rows
structure Def (P:Program) (w:World) (K:PySem.W.Frag) (mg:Str→Option Value) (base:Heap) (k:Nat) (x:Str) (ps:List Str) (dvs:List V) (sp:Sp):Prop where
 ex:∃(f:Addr) (fd:FuncData) (ds:List Value),FnOk P w K mg base jV k f fd ps sp∧mg x=some (.ref f)∧PySem.W.keepIn K (.ref f)=true∧Vals dvs ds∧Binds K fd ps ds
theorem jZ {X:Cx} {k k':Nat} {x:Str} {ps:List Str} {dvs:List V} {sp:Sp} {p pos:Pos} {e:Expr} {es:List Expr} {t:TA} (F:Def X.prog X.w X.K X.mg X.base k x ps dvs sp) (hr:Room k' X.A) (hg:Gl X x) (ha:PA X (e::es) t)
  (hk:k≤k':=by decide) (hdb:(x == ("__debug__":Str))=false:=by decide) (he:starEach (e::es) X.env=(false,eval e X.env)::starEach es X.env:=by rfl) (hpl:(backTo pos (starEach es X.env)).any (·.1)=false:=by rfl) :
  PE X (.Call (.Name x p) (e::es) [] pos) (ZV sp dvs E0 t):=by
 obtain ⟨f,fd,ds,G,m,kp,hv,b⟩:=F.ex
 exact eE G (hr.mono hk) hg m kp b hv JU ha hdb he hpl
structure FunD (K:PySem.W.Frag) (x qual:Str) (st:Stmt) (f:Addr) (fd:FuncData) (ds:List Value):Prop where
 ex:∃(oc:Value) (od:Option Addr) (T:Addr) (kV doc pm:Value) (an:Option Addr) (cdv ct:Value) (osl:Array (Option Value)) (oT:Obj) (n:Nat),
  fd=PySem.W.fnOf x qual (jX st) (jT st) (jH st) (.ref T) kV doc pm an cdv ct∧K.lookup f=some ⟨oc,od,.func fd,osl⟩∧PySem.W.codeIn K cdv qual=true∧K.lookup T=some oT∧oT.data=.seq ds.toArray n
 kp:PySem.W.keepIn K (.ref f)=true
section
variable {P:Program} {w:World} {K:PySem.W.Frag} {mg:Str→Option Value} {base:Heap}
theorem FunD.ok {x qual:Str} {st:Stmt} {f:Addr} {fd:FuncData} {ds:List Value} {N ps:List Str} {k:Nat} {sp:Sp} (F:FunD K x qual st f fd ds) (S:FnScope N ps (jH st)) (len:∀vs H Q E,sp vs H Q E→vs.length=ps.length)
  (hbody:∀(cdv:Value) (A:Around) (outer:List Env) (s:Shared) (H:Hp) (vs:List V) (Q:VK) (E:XK),Room k (A.deeper (envOfC qual (jH st) s.heap.objs.size f cdv))→sp vs H Q E→
   ∃t,PSs (q9 jV P w K mg base N qual (jH st) f cdv A outer s H E).nox (jT st) t∧t {nx:=fun _ H'=>Q .non H',rt:=Q} (kC N vs) H):FnOk P w K mg base jV (k+1) f fd ps sp:=by
 obtain ⟨oc,od,T,kV,doc,pm,an,cdv,ct,osl,oT,n,rfl,lk,hcd,_,_⟩:=F.ex
 refine JX lk hcd S len fun A outer s H vs Q E hr hsp=>?_
 obtain ⟨t,h,q⟩:=hbody cdv A outer s H vs Q E hr hsp
 exact ⟨t,h.nox,q⟩
end
section
variable {X:Cx}
end
end L2
namespace L2
open PySem
theorem Z0 {c A B:Prop} [Decidable c] (hc:¬c) (h:A):if (!decide c)=true then A else B:=by
 rw [decide_eq_false hc]
 exact v1 h
end L2
namespace L2
open PySem PySem.Spec PyProof.Rows
end L2
namespace L2
open PySem PySem.Spec PyProof.Rows
section
variable {X:Cx} {k k':Nat} {x m:Str} {C:Addr} {ps:List Str} {sp:Sp} {p pos apos:Pos} {o e:Expr} {es:List Expr} {ta:TE} {t:TA}
end
end L2
namespace L2
open PySem PySem.Spec PyProof.Rows
end L2
namespace L2
open PySem PySem.Spec PyProof.Rows
section
variable {X:Cx}
end
end L2
namespace L2
open PySem PySem.Spec PyProof.Rows
section
variable {X:Cx}
end
end L2
namespace L2
open PySem PySem.Spec PyProof.Rows
end L2
namespace L2
open PySem PySem.Spec PyProof.Rows
section
variable {P:Program} {w:World} {H:Hp} {h h':Heap} {a:Addr} {o:HO}
theorem ObjOk.there (x:ObjOk P w H h a o):∃u,h.get? a=some u:=by
 cases o with
 |lst xs=>obtain ⟨_,_,_,_,e⟩:=x;exact ⟨_,e⟩
 |tup xs=>obtain ⟨_,_,_,o,e,_⟩:=x;exact ⟨_,e⟩
 |dK kvs=>obtain ⟨_,_,_,_,o,_,_,e,_⟩:=x;exact ⟨_,e⟩
 |dT kvs=>obtain ⟨_,_,_,_,o,_,_,e,_⟩:=x;exact ⟨_,e⟩
 |set S n=>obtain ⟨o,_,_,_,e,_⟩:=x;exact ⟨_,e⟩
 |ins C dx fs=>obtain ⟨_,_,_,e,_⟩:=x;exact ⟨_,e⟩
 |own y=>obtain ⟨_,e⟩:=x;exact ⟨_,e⟩
 |xd fs=>obtain ⟨_,⟨_,_,_,e,_⟩,_⟩:=x;exact ⟨_,e⟩
 |rng lo hi=>obtain ⟨_,_,_,e⟩:=x;exact ⟨_,e⟩
 |frz ob u=>obtain ⟨e,_⟩:=x;exact ⟨_,e⟩
 |tbl ps=>exact ⟨_,(show h.get? a=some _ from x)⟩
 |met f y=>exact ⟨_,(show h.get? a=some _ from x)⟩
 |ext φ=>obtain ⟨_,e,_⟩:=x;exact e
theorem HOk.there (x:HOk P w H h) (e:H a=some o):∃u,h.get? a=some u:=(x a o e).there
end
end L2
namespace L2
open PySem PySem.Spec PyProof.Rows
section
variable {X:Cx} {R:St→Value→Hp→Prop} {x:Str} {C:Addr} {np cpos pos p:Pos} {e:Expr} {es:List Expr} {t:TA}
end
section
variable {X:Cx} {pins pins':List (Addr×Obj)} {σ:St} {H:Hp} {s:Shared} {R:St→Value→Hp→Prop}
end
section
variable {X:Cx} {pins:List (Addr×Obj)} {σ:St} {H:Hp} {s:Shared} {e:Value}
end
end L2
namespace L2
open PySem PySem.Spec PyProof.Rows
section
variable {P:Program} {w:World} {K:PySem.W.Frag} {mg:Str→Option Value} {base:Heap}
end
section
variable {X:Cx}
end
end L2
namespace L2
open PySem PySem.Spec PyProof.Rows
section
variable {X:Cx} {pins:List (Addr×Obj)} {σ:St} {H:Hp} {s:Shared}
end
end L2
namespace L2
open PySem PySem.Spec PySem.Calls PyProof.Rows PySem.W
section
variable {prog:Program} {w:World} {A:Around} {E:Value→Shared→Prop} {h:Heap} {g:Array GenState} {d:Drawn} {t:Nat} {os:OsState} {a C:Addr} {o:Obj} {K:PySem.W.Frag}
end
section
variable {X:Cx}
end
end L2
namespace L2
open PySem PySem.Spec PyProof.Rows
end L2
namespace L2
open PySem PySem.Spec PyProof.Rows
section
variable {X:Cx} {x:Str} {C:Addr} {pos p:Pos} {e:Expr} {es:List Expr} {t:TA}
end
end L2
namespace L2
open PySem PySem.Spec PyProof.Rows
section
variable {X:Cx}
end
end L2
namespace L2
open PySem PySem.Spec PyProof.Rows
section
variable {X:Cx} {R:St→Value→Hp→Prop} {k k':Nat} {x m:Str} {C:Addr} {ps:List Str} {sp:Sp} {p pos apos:Pos} {o e:Expr} {es:List Expr} {ta:TE} {t:TA}
end
end L2
namespace L2
open PySem PySem.Spec PyProof.Rows
section
variable {κ:Type} [DecidableEq κ]
def zT (kvs:List (κ×V)) (k:κ):Option V:=(kvs.find? fun kv=>decide (kv.1=k)).map (·.2)
def zU (kvs:List (κ×V)) (k:κ) (v:V):List (κ×V) :=
 if (kvs.any fun kv=>decide (kv.1=k))=true then kvs.map (fun kv=>if kv.1=k then (kv.1,v) else kv) else kvs++[(k,v)]
def Z3 (kvs:List (κ×V)) (k:κ):List (κ×V):=kvs.filter fun kv=>decide (kv.1≠k)
theorem RelO.getD {o:Option V} {u:Option Value} {d:V} {d':Value} (r:RelO o u) (rd:RelV d d'):RelV (o.getD d) (u.getD d'):=by
 cases o with
 |none=>cases u with
  |none=>exact rd
  |some _=>exact (show False from r).elim
 |some _=>cases u with
  |none=>exact (show False from r).elim
  |some _=>exact r
theorem KV.any {kvs:List (κ×V)} {vs:List (κ×Value)} (r:KV kvs vs) (k:κ):(kvs.any fun kv=>decide (kv.1=k))=vs.any fun kv=>decide (kv.1=k):=by
 unfold KV at r
 induction r with
 |nil=>rfl
 |cons h t ih=>rw [List.any_cons,List.any_cons,ih,h.1]
theorem KV.drop {kvs:List (κ×V)} {vs:List (κ×Value)} (r:KV kvs vs) (k:κ):KV (Z3 kvs k) (without vs k):=by
  unfold KV at r ⊢
  unfold Z3 without
  induction r with
  |nil=>exact .nil
  |@cons p q ps qs h t ih =>
    obtain ⟨h1,h2⟩:=h
    rw [List.filter_cons,List.filter_cons]
    by_cases e:p.1=k
    · have a:¬decide (p.1≠k)=true:=by simp [e]
      have b:¬decide (q.1≠k)=true:=by simp [h1.symm.trans e]
      rw [if_neg a,if_neg b];exact ih
    · have e':¬q.1=k:=fun z=>e (h1.trans z)
      have a:decide (p.1≠k)=true:=by simp [e]
      have b:decide (q.1≠k)=true:=by simp [e']
      rw [if_pos a,if_pos b];exact .cons ⟨h1,h2⟩ ih
theorem KV.keys {kvs:List (κ×V)} {vs:List (κ×Value)} (r:KV kvs vs):kvs.map (·.1)=vs.map (·.1):=by
 unfold KV at r
 induction r with
 |nil=>rfl
 |cons h t ih=>rw [List.map_cons,List.map_cons,ih,h.1]
theorem KV.length {kvs:List (κ×V)} {vs:List (κ×Value)} (r:KV kvs vs):kvs.length=vs.length:=Paired.length r
end
abbrev KT (H:Hp):List (List jQ×V)→List (List jQ×Addr×Value)→Prop:=Paired fun p q=>p.1=q.1∧H q.2.1=some (.tup (p.1.map kV))∧RelV p.2 q.2.2
theorem KT.keeps {H H':Hp} {kvs:List (List jQ×V)} {xs:List (List jQ×Addr×Value)} (r:KT H kvs xs) (ht:∀b ys,H b=some (.tup ys)→H' b=some (.tup ys)):KT H' kvs xs :=
 Paired.mapP r fun _ _ z=>⟨z.1,ht _ _ z.2.1,z.2.2⟩
section
variable {P:Program} {w:World} {H:Hp} {h:Heap} {a:Addr}
end
def DGet (H:Hp) (a:Addr) (y:V) (r:Option V):Prop :=
 (∃kvs k,Rd H a (.dK kvs)∧y=kV k∧r=zT kvs k)∨∃kvs k b,Rd H a (.dT kvs)∧y=.ref b∧H b=some (.tup (k.map kV))∧r=zT kvs k
def DPut (H:Hp) (a:Addr) (y v:V) (H':Hp):Prop :=
 (∃kvs k,H a=some (.dK kvs)∧y=kV k∧kvs.length<sizeLine∧H'=jB H a (.dK (zU kvs k v)))∨
 ∃kvs k b,H a=some (.dT kvs)∧y=.ref b∧H b=some (.tup (k.map kV))∧kvs.length<sizeLine∧H'=jB H a (.dT (zU kvs k v))
theorem DGet.k {H:Hp} {a:Addr} {kvs:List (jQ×V)} {k:jQ} (e:H a=some (.dK kvs)):DGet H a (kV k) (zT kvs k):=.inl ⟨kvs,k,.inl e,rfl,rfl⟩
theorem DGet.t {H:Hp} {a b:Addr} {kvs:List (List jQ×V)} {k:List jQ} (e:H a=some (.dT kvs)) (eb:H b=some (.tup (k.map kV))):DGet H a (.ref b) (zT kvs k):=.inr ⟨kvs,k,b,.inl e,rfl,eb,rfl⟩
theorem DPut.k {H:Hp} {a:Addr} {kvs:List (jQ×V)} {k:jQ} {v:V} (e:H a=some (.dK kvs)) (hl:kvs.length<sizeLine):DPut H a (kV k) v (jB H a (.dK (zU kvs k v))):=.inl ⟨kvs,k,e,rfl,hl,rfl⟩
theorem DPut.t {H:Hp} {a b:Addr} {kvs:List (List jQ×V)} {k:List jQ} {v:V} (e:H a=some (.dT kvs)) (eb:H b=some (.tup (k.map kV))) (hl:kvs.length<sizeLine) :
  DPut H a (.ref b) v (jB H a (.dT (zU kvs k v))):=.inr ⟨kvs,k,b,e,rfl,eb,hl,rfl⟩
section
variable {X:Cx} {pins:List (Addr×Obj)} {σ:St} {H:Hp} {s:Shared} {a:Addr} {y v:V} {u r:Value} {o:Option V} {A:Around} {E:Value→Shared→Prop}
theorem Inv.big (I:Inv X pins σ H s):sysModules<s.heap.objs.size:=by
 have h:mainGlobals<s.heap.objs.size:=(I.mod.glob.keeps I.bk).lt
 exact Nat.lt_trans (by decide) h
theorem eR {h':Heap} {t':Nat} {ob:HO} (I:Inv X pins σ H s) (mu:yW (H a)) (hs:Heap.SameBut a s.heap h') (he:∃q,h'.get? a=some q) (new:ObjOk X.prog X.w (jB H a ob) h' a ob) :
  Inv X pins σ (jB H a ob) {s with heap:=h',toks:=t'} :=
 I.write (x:=a) (e:=a) mu (.inl rfl) (fun b q hb z=>(hs.2 b hb).trans z) he new
end
section
variable {X:Cx} {pins:List (Addr×Obj)} {σ:St} {H:Hp} {s:Shared} {a:Addr} {kvs:List (jQ×V)} {k:jQ} {u:Value} {A:Around} {E:Value→Shared→Prop}
end
def bC (i:Expr):Prop:=∀ov iv,subscripted i false ov iv=operate [ov,iv] (getItem ov iv)
theorem d7 {prog:Program} {w:World} {A:Around} {E:Value→Shared→Prop} {s:Shared} {env:Env} {value slice:Expr} {pos:Pos} {T id:String} {Q:Value→Shared→Prop}
  (hl:typeLookup (.type T) "__getitem__"=pure (some (.builtin id))) (hs:bC slice)
  (h:wpAny (model prog w) A (eval value env) (fun o s₁=>wpAny (model prog w) A (eval slice env) (fun i s₂=>s₂.TypeIs o T∧wpAny (model prog w) A (getItem o i) Q E s₂) E s₁) E s) :
  wpAny (model prog w) A (eval (.Subscript value slice pos) env) Q E s:=by
 refine Subscript_ (wpAny_mono h (fun o s₁ h₁=>wpAny_mono h₁ (fun i s₂ h₂=>?_) fun _ _ x=>x) fun _ _ x=>x)
 obtain ⟨hT,h₂⟩:=h₂
 unfold subscriptTail
 refine wpAny_bind ?_
 rw [getitemInPython_of_ne hT.not_modules]
 refine wpAny_bind (wpAny_specialOf hT hl ?_)
 have fin:wpAny (model prog w) A (subscripted slice false o i) (fun r s₃=>wpAny (model prog w) A (letTemporaryGo value o r >>= fun _=>pure r) Q E s₃) E s₂:=by
  rw [hs o i]
  exact wpAny_operating (wpAny_mono h₂ (fun r s₃ h₃=>wpAny_bind (wpAny_letTemporaryGo (wpAny_pure h₃))) fun _ _ x=>x)
 first
  |exact wpAny_pure (wpAny_bind fin)
  |exact wpAny_bind (wpAny_pure (wpAny_bind fin))
  |exact wpAny_bind fin
section
variable {X:Cx} {o i e value:Expr} {pos pos' tpos:Pos} {td ty tv:TE}
end
section
variable {X:Cx} {pos:Pos}
end
end L2
namespace L2
open PySem PySem.Spec PyProof.Rows
section
variable {X:Cx} {tg:Expr}
end
section
variable {X:Cx}
end
end L2
namespace L2
open PySem PySem.Spec PyProof.Rows
inductive Kd where
 |plain|basin|pump
section
variable {X:Cx} {k k':Nat} {x m:Str} {cs:Kd→Addr} {ps:List Str} {ss:Kd→Sp} {p pos apos:Pos} {o e:Expr} {es:List Expr} {ta:TE} {t:TA}
end
end L2
namespace L2
open PySem PySem.Spec PyProof.Rows
section
variable {X:Cx} {tg:Expr}
end
section
variable {X:Cx}
end
end L2
namespace L2
open PySem PySem.Spec PyProof.Rows
section
variable {X:Cx} {K:PySem.W.Frag} {w:World} {o i:Expr} {pos:Pos} {td ty:TE}
end
end L2
namespace L2
open PySem PySem.Spec PyProof.Rows
inductive DEq (K:PySem.W.Frag) (H:Hp):V→V→Bool→Prop where
 |flat {x y:V} (hx:qH x=true) (hy:qH y=true):DEq K H x y (vL x y)
 |same (a:Addr):DEq K H (.ref a) (.ref a) true
 |tup {a b:Addr} {xs ys:List V} (ne:a≠b) (ha:SqT K H a xs) (hb:SqT K H b ys) (fx:xs.all qH=true) (fy:ys.all qH=true):DEq K H (.ref a) (.ref b) (vA xs ys)
 |lst {a b:Addr} {xs ys:List V} (ne:a≠b) (ha:SqL K H a xs) (hb:SqL K H b ys) (fx:xs.all qH=true) (fy:ys.all qH=true):DEq K H (.ref a) (.ref b) (vA xs ys)
section
variable {X:Cx} {pins:List (Addr×Obj)} {σ:St} {H:Hp} {s:Shared} {A:Around}
theorem DEq.at {x y:V} {u v:Value} {e:Bool} (I:Inv X pins σ H s) (d:DEq X.K H x y e) (rx:RelV x u) (ry:RelV y v) (hu:A.units<cLine):SeqAt.EqAt A s u v e:=by
 cases d with
 |flat hx hy=>exact JR rx ry hx hy
 |same a=>cases rx;cases ry;exact SeqAt.EqAt.same _
 |@tup a b xs ys ne ha hb fx fy =>
  cases rx;cases ry
  obtain ⟨its,r,pl,hz⟩:=I.tuple ha
  obtain ⟨its2,r2,pl2,hz2⟩:=I.tuple hb
  have hl:=r.length
  have hl2:=r2.length
  have h:=SeqAt.RcAt.tuples (A:=A) (e:=fun j=>vL (xs.getD j .non) (ys.getD j .non)) pl pl2 hu (fun j h1 h2=>JR (vX r h1) (vX r2 h2) (y9 fx (by rw [hl];simpa using h1)) (y9 fy (by rw [hl2];simpa using h2)))
  have e:((List.range (min its.toArray.size its2.toArray.size)).all (fun j=>vL (xs.getD j .non) (ys.getD j .non))&&its.toArray.size == its2.toArray.size)=vA xs ys:=by
   unfold vA
   rw [List.size_toArray,List.size_toArray,← hl,← hl2]
  rw [e] at h
  exact SeqAt.EqAt.of_refs ne h
 |@lst a b xs ys ne ha hb fx fy =>
  cases rx;cases ry
  obtain ⟨its,r,pl,hz⟩:=I.list ha
  obtain ⟨its2,r2,pl2,hz2⟩:=I.list hb
  have hl:=r.length
  have hl2:=r2.length
  by_cases he:xs.length=ys.length
  ·have h:=SeqAt.RcAt.lists (A:=A) (e:=fun j=>vL (xs.getD j .non) (ys.getD j .non)) pl.isList pl2.isList (by rw [List.size_toArray,List.size_toArray,← hl,← hl2,he]) hu (fun j h1 h2=>JR (vX r h1) (vX r2 h2) (y9 fx (by rw [hl];simpa using h1)) (y9 fy (by rw [hl2];simpa using h2)))
   have e:((List.range its.toArray.size).all (fun j=>vL (xs.getD j .non) (ys.getD j .non)))=vA xs ys:=by
    unfold vA
    rw [List.size_toArray,← hl,← he,Nat.min_self,beq_self_eq_true,Bool.and_true]
   rw [e] at h
   exact SeqAt.EqAt.of_refs ne h
  ·have hf:vA xs ys=false:=by
    unfold vA
    rw [show (xs.length == ys.length)=false from beq_eq_false_iff_ne.mpr he,Bool.and_false]
   rw [hf]
   exact SeqAt.EqAt.of_refs ne (SeqAt.RcAt.lists_lengths pl.isList pl2.isList (by rw [List.size_toArray,List.size_toArray,← hl,← hl2];exact bne_iff_ne.mpr he) hu)
end
section
variable {X:Cx}
end
end L2
namespace L2
open PySem PySem.Spec PyProof.Rows
end L2
namespace L2
open PySem PySem.Spec PyProof.Rows
end L2
namespace L2
open PySem PySem.Spec PyProof.Rows
end L2
namespace L2
open PySem PySem.Spec PyProof.Rows
section
variable {X:Cx}
theorem QN:CallR X (.type "str") (fun xs H Q=>∃n:Int,xs=[.int n]∧n.natAbs.log2<1920∧Q (.str (Str.ofString (toString n))) H):=by
 intro pins s σ H xs us Q I r h
 obtain ⟨n,rfl,hl,q⟩:=h
 obtain ⟨u,rfl,t,rfl⟩:=JS r
 exact P.str_of_int hl ⟨.str (Str.ofString (toString n)),H,I.tok _,⟨_,rfl⟩,q⟩
end
end L2
namespace L2
open PySem PySem.Spec PyProof.Rows
end L2
namespace L2
open PySem PySem.Spec PyProof.Rows
section
variable {X:Cx}
end
end L2
namespace L2
open PySem PySem.Spec PyProof.Rows
end L2
namespace L2
open PySem PySem.Spec PyProof.Rows
section
variable {X:Cx} {tg:Expr}
end
end L2
namespace L2
open PySem PySem.Spec PyProof.Rows
end L2
namespace L2
open PySem PySem.Spec PyProof.Rows
section
variable {X:Cx} {pins:List (Addr×Obj)} {σ:List (Option V)} {H:Hp} {s:Shared} {h':Heap}
end
section
variable {X:Cx} {elts:List Expr} {x1:Nat} {tpos:Pos}
end
end L2
namespace L2
open PySem PySem.Spec PyProof.Rows
end L2
namespace L2
open PySem PySem.Spec PyProof.Rows
section
variable {X:Cx}
end
end L2
namespace L2
open PySem PySem.Spec PyProof.Rows
section
variable {prog:Program} {w:World} {A:Around} {s:Shared} {E:Value→Shared→Prop}
end
section
variable {X:Cx} {elts:List Expr} {x1:Nat} {tpos:Pos}
end
end L2
namespace L2
open PySem PySem.Spec PyProof.Rows
set_option maxRecDepth 100000
section
variable {X:Cx}
end
end L2
namespace L2
open PySem PySem.Spec PyProof.Rows
section
variable {prog:Program} {w:World} {A:Around} {s:Shared} {E:Value→Shared→Prop}
abbrev g3 (h:Heap) (z P1 P2:Addr) (f0:Value) (f1:Bool):Prop:=h.get? z=some {cls:=.type "zip",dict:=none,data:=.fields #[f0,.bool f1,.bool false,.ref P1,.ref P2],slots := #[]}
def ZStands (h:Heap) (N z P1 P2 j1 j2 a b:Addr) (us vs:Array Value) (k:Nat):Prop :=
 ((IsZip h z P1 P2 .none∧∃g g',IsPair h P2 g g')∨∃(T:Addr) (f1:Bool) (o:Obj),g3 h z P1 P2 (rawInt T) f1∧N≤T∧h.get? T=some o)∧IsPair h P1 (.ref j1) (.ref j2)∧h.IsListIter j1 a k∧h.IsListIter j2 b k∧h.IsList a us∧h.IsList b vs
theorem ZStands.keep {h h':Heap} {N z P1 P2 j1 j2 a b S:Addr} {us vs:Array Value} {k:Nat} (hs:ZStands h N z P1 P2 j1 j2 a b us vs k) (bS:S<N) (nS:∀c∈[z,P1,P2,j1,j2,a,b],c≠S) (kp:∀c o,c≠S→h.get? c=some o→h'.get? c=some o):ZStands h' N z P1 P2 j1 j2 a b us vs k:=by
 obtain ⟨hz,hP1,n1,n2,la,lb⟩:=hs
 have nS':∀c,c∈[z,P1,P2,j1,j2,a,b]→∀o,h.get? c=some o→h'.get? c=some o:=fun c hc o e=>kp c o (nS c hc) e
 refine ⟨?_,nS' _ (by simp) _ hP1,n1.at fun o e=>nS' _ (by simp) o e,n2.at fun o e=>nS' _ (by simp) o e,la.at fun o e=>nS' _ (by simp) o e,lb.at fun o e=>nS' _ (by simp) o e⟩
 rcases hz with ⟨hz,g,g',hP2⟩|⟨T,f1,o,hz,t0,hT⟩
 ·exact .inl ⟨nS' _ (by simp) _ hz,g,g',nS' _ (by simp) _ hP2⟩
 ·exact .inr ⟨T,f1,o,nS' _ (by simp) _ hz,t0,kp _ _ (Nat.ne_of_gt (Nat.lt_of_lt_of_le bS t0)) hT⟩
def Pairs (h:Heap) (N:Addr) (us vs acc:Array Value) (k:Nat):Prop:=acc.size=k∧(∀(j:Nat) (v:Value),acc[j]?=some v→∃(T:Addr) (x y:Value),v=.ref T∧N≤T∧T<h.objs.size∧IsPair h T x y∧us[j]?=some x∧vs[j]?=some y)∧∀(i j:Nat) (v:Value),acc[i]?=some v→acc[j]?=some v→i=j
theorem Pairs.keep {h h':Heap} {N:Addr} {us vs acc:Array Value} {k:Nat} (p:Pairs h N us vs acc k) (kp:∀c o,N≤c→h.get? c=some o→h'.get? c=some o) (sz:h.objs.size≤h'.objs.size):Pairs h' N us vs acc k:=⟨p.1,fun j v hv=>by
 obtain ⟨T,x,y,e1,e2,e3,e4,e5⟩:=p.2.1 j v hv
 exact ⟨T,x,y,e1,e2,Nat.lt_of_lt_of_le e3 sz,kp _ _ e2 e4,e5⟩,p.2.2⟩
end
end L2
namespace L2
open PySem PySem.Spec PyProof.Rows
section
variable {X:Cx} {pins:List (Addr×Obj)} {σ:List (Option V)} {H:Hp} {s:Shared} {h':Heap}
end
section
variable {X:Cx}
end
end L2
namespace L2
open PySem PySem.Spec PyProof.Rows
section
variable {prog:Program} {w:World} {A:Around} {s:Shared} {E:Value→Shared→Prop}
end
end L2
namespace L2
open PySem PySem.Spec PyProof.Rows
section
variable {X:Cx} {e se:Expr} {te:TE} {lo hi:Option Expr} {tl th tk:TO} {pos p2:Pos}
end
section
variable {X:Cx}
end
end L2
namespace L2
open PySem PySem.Spec PyProof.Rows
section
end
end L2
namespace L2
open PySem PySem.Spec PyProof.Rows
section
variable {prog:Program} {w:World} {A:Around} {s:Shared} {E:Value→Shared→Prop}
end
section
variable {X:Cx} {elts:List Expr} {x1:Nat} {tpos:Pos}
end
end L2
namespace L2
open PySem PySem.Spec PyProof.Rows
section
variable {X:Cx}
end
end L2
namespace L2
open PySem PySem.Spec PyProof.Rows
end L2
namespace L2
open PySem PySem.Spec PyProof.Rows
section
variable {X:Cx}
end
end L2
namespace L2
end L2
namespace L2
theorem an3 {A0 A1 A2:Prop} (h0:A0) (h1:A1) (h2:A2):A0∧A1∧A2:=⟨h0,h1,h2⟩
theorem an4 {A0 A1 A2 A3:Prop} (h0:A0) (h1:A1) (h2:A2) (h3:A3):A0∧A1∧A2∧A3:=⟨h0,h1,h2,h3⟩
theorem an5 {A0 A1 A2 A3 A4:Prop} (h0:A0) (h1:A1) (h2:A2) (h3:A3) (h4:A4):A0∧A1∧A2∧A3∧A4:=⟨h0,h1,h2,h3,h4⟩
theorem an6 {A0 A1 A2 A3 A4 A5:Prop} (h0:A0) (h1:A1) (h2:A2) (h3:A3) (h4:A4) (h5:A5):A0∧A1∧A2∧A3∧A4∧A5:=⟨h0,h1,h2,h3,h4,h5⟩
theorem an7 {A0 A1 A2 A3 A4 A5 A6:Prop} (h0:A0) (h1:A1) (h2:A2) (h3:A3) (h4:A4) (h5:A5) (h6:A6):A0∧A1∧A2∧A3∧A4∧A5∧A6:=⟨h0,h1,h2,h3,h4,h5,h6⟩
theorem an8 {A0 A1 A2 A3 A4 A5 A6 A7:Prop} (h0:A0) (h1:A1) (h2:A2) (h3:A3) (h4:A4) (h5:A5) (h6:A6) (h7:A7):A0∧A1∧A2∧A3∧A4∧A5∧A6∧A7:=⟨h0,h1,h2,h3,h4,h5,h6,h7⟩
theorem an9 {A0 A1 A2 A3 A4 A5 A6 A7 A8:Prop} (h0:A0) (h1:A1) (h2:A2) (h3:A3) (h4:A4) (h5:A5) (h6:A6) (h7:A7) (h8:A8):A0∧A1∧A2∧A3∧A4∧A5∧A6∧A7∧A8:=⟨h0,h1,h2,h3,h4,h5,h6,h7,h8⟩
theorem an10 {A0 A1 A2 A3 A4 A5 A6 A7 A8 A9:Prop} (h0:A0) (h1:A1) (h2:A2) (h3:A3) (h4:A4) (h5:A5) (h6:A6) (h7:A7) (h8:A8) (h9:A9):A0∧A1∧A2∧A3∧A4∧A5∧A6∧A7∧A8∧A9:=⟨h0,h1,h2,h3,h4,h5,h6,h7,h8,h9⟩
theorem an11 {A0 A1 A2 A3 A4 A5 A6 A7 A8 A9 A10:Prop} (h0:A0) (h1:A1) (h2:A2) (h3:A3) (h4:A4) (h5:A5) (h6:A6) (h7:A7) (h8:A8) (h9:A9) (h10:A10):A0∧A1∧A2∧A3∧A4∧A5∧A6∧A7∧A8∧A9∧A10:=⟨h0,h1,h2,h3,h4,h5,h6,h7,h8,h9,h10⟩
end L2
namespace L2
open PySem PySem.Spec PyProof.Rows
section
variable {X:Cx}
end
end L2
namespace L2
open PySem PySem.Spec PyProof.Rows
end L2
namespace L2
open PySem PySem.Spec PyProof.Rows
end L2
namespace L2
open PySem PySem.Spec PyProof.Rows
section
variable {prog:Program} {w:World} {A:Around} {E:Value→Shared→Prop} {s:Shared}
end
section
variable {X:Cx}
end
end L2
namespace L2
open PySem PySem.Spec PyProof.Rows
section
variable {X:Cx} {pins:List (Addr×Obj)} {σ:St} {H:Hp} {s:Shared} {a:Addr} {y d:V} {u r:Value} {o:Option V} {A:Around} {E:Value→Shared→Prop}
end
section
variable {X:Cx} {o e f:Expr} {apos cpos:Pos} {td ty tx:TE}
end
end L2
namespace L2
open PySem PySem.Spec PyProof.Rows
end L2
namespace L2
open PySem PySem.Spec PyProof.Rows
section
variable {M:Model} {A:Around} {E:Value→Shared→Prop} {s:Shared}
end
section
variable {P:Program} {w:World} {K:PySem.W.Frag} {mg:Str→Option Value} {base:Heap} {N:List Str} {qual:Str} {scope:Scope} {f:Addr} {cd:Value} {A:Around} {outer:List Env} {s:Shared} {H:Hp} {E:XK}
end
section
variable {X:Cx} {N:List Str} {scope:Scope} {pins:List (Addr×Obj)} {σ:St} {H:Hp} {s:Shared} {fp:List Addr}
end
section
variable {P:Program} {w:World} {K:PySem.W.Frag} {mg:Str→Option Value} {base:Heap} {Nf:List Str} {qual:Str} {scf:Scope} {f:Addr} {cd:Value} {A:Around} {outer:List Env} {s₀:Shared} {H₀:Hp} {E:XK}
end
end L2
namespace L2
open PySem PySem.Spec PyProof.Rows
section
variable {X:Cx}
def kU (z:Str) (k:Nat):Str:=⟨(List.replicate k z.cps).foldl (·++·) #[]⟩
theorem Q2 (a:Array Nat):∀(k:Nat) (acc:Array Nat),((List.replicate k a).foldl (·++·) acc).toList=acc.toList++(List.replicate k a.toList).flatten
 |0,acc=>by simp
 |k+1,acc=>by rw [List.replicate_succ,List.foldl_cons,Q2 a k,List.replicate_succ,List.flatten_cons,Array.toList_append,List.append_assoc]
theorem QU (z:Str) (k:Nat):(kU z k).cps.toList=(List.replicate k z.cps.toList).flatten:=by
 unfold kU
 rw [Q2]
 rfl
theorem dP (z:Str) (k:Nat):(kU z k).length=k*z.length:=by
 show (kU z k).cps.size=k*z.cps.size
 rw [← Array.length_toList,QU,eJ,Array.length_toList]
def fZ:R2:=fun x y H Q=>∃(z:Str) (k:Int),x=.str z∧y=.int k∧0≤k∧k≤100∧z.length≤100∧Q (.str (kU z k.toNat)) H
theorem eF:OpR X (binaryOp .Mult) fZ:=by
 intro pins s σ H x y v u Q I rx ry h
 obtain ⟨z,k,rfl,rfl,h0,h1,hz,q⟩:=h
 obtain ⟨t,rfl⟩:=rx
 obtain ⟨t',rfl⟩:=ry
 have hm:z.length*k.toNat≤10000:=Nat.le_trans (Nat.mul_le_mul hz (show k.toNat≤100 by omega)) (Nat.le_refl _)
 refine P.mul_str ?_ (fun h2 _=>?_) (fun _ _=>?_) ?_
 ·rw [decide_eq_false (by omega),decide_eq_false (by omega)];rfl
 ·have:(100:Int)≤(2 ^ 63 - 1) / k:=by
   rw [Int.le_ediv_iff_mul_le (by omega)]
   omega
  omega
 ·exact decide_eq_false (Nat.not_lt.mpr (Nat.le_trans hm (by decide)))
 ·by_cases h2:k<1
  ·rw [if_pos h2]
   have e:k.toNat=0:=by omega
   rw [e] at q
   exact ⟨by decide,.str (kU z 0),H,I.tok _,⟨_,rfl⟩,q⟩
  ·rw [if_neg h2]
   by_cases h3:(k == 1||z.length == 0)=true
   ·rw [if_pos h3]
    have e:kU z k.toNat=z:=by
     have:(kU z k.toNat).cps.toList=z.cps.toList:=by
      rw [QU]
      rcases Bool.or_eq_true_iff.mp h3 with h|h
      ·rw [show k.toNat=1 by have:=eq_of_beq h;omega];simp
      ·have h:z.cps.size=0:=eq_of_beq h
       rw [Array.eq_empty_of_size_eq_zero h]
       simp
     cases hr:kU z k.toNat with
     |mk a=>rw [hr] at this;obtain ⟨b⟩:=z;exact congrArg Str.mk (Array.toList_inj.mp this)
    rw [e] at q
    exact ⟨.str z,H,I,⟨_,rfl⟩,q⟩
   ·rw [if_neg h3]
    exact ⟨by show (kU z k.toNat).length≤sizeLine;rw [dP,Nat.mul_comm];exact Nat.le_trans hm (by decide),.str (kU z k.toNat),H,I.tok _,⟨_,rfl⟩,q⟩
end
end L2
namespace L2
open PySem PySem.Spec PyProof.Rows
section
variable {P:Program} {w:World} {K:PySem.W.Frag} {mg:Str→Option Value} {base:Heap}
end
section
variable {X:Cx} {a b:Expr} {ta tb:TE} {r:R2} {pos:Pos}
end
theorem so {K:PySem.W.Frag} {H:Hp} {a:Addr} {xs:List V} (h:H a=some (.lst xs)):SqL K H a xs:=SqL.of h
end L2
namespace L2
open PySem PySem.Spec PyProof.Rows
section
variable {X:Cx} {N:List Str} {scope:Scope} {pins:List (Addr×Obj)} {σ:St} {H:Hp} {s:Shared} {fp:List Addr}
end
theorem cps {X:Cx} {N:List Str} {scope:Scope} (n:Nat) (js:List Nat) (a:N.length=n+js.length:=by rfl) (b:js.map (fun j=>X.N[j]?)=(N.drop n).map some:=by rfl) (c:∀x∈N.drop n,scope.names.lookup x=some .free:=by decide +kernel):yT X N scope (v2 n js):=zY n js a b c
end L2
namespace L2
open PySem PySem.Spec PyProof.Rows
inductive GK where
 |i (n:Int)
 |s (t:Str)
 |nil
 |cons (a b:GK)
 deriving DecidableEq
def TupOf (h:Heap) (v:Value) (P:List Value→Prop):Prop :=
 ∃(a:Addr) (o:Obj) (its:Array Value) (n:Nat),v=.ref a∧h.get? a=some o∧o.cls=.type "tuple"∧o.data=.seq its n∧P its.toList
def GR (h:Heap):GK→(Value→Prop)×(List Value→Prop)
 |.i n=>(fun v=>∃t,v=.int n t,fun _=>False)
 |.s x=>(fun v=>∃t,v=.str x t,fun _=>False)
 |.nil=>(fun v=>TupOf h v (fun l=>l=[]),fun l=>l=[])
 |.cons a b=>(fun v=>TupOf h v (fun l=>∃u us,l=u::us∧(GR h a).1 u∧(GR h b).2 us),fun l=>∃u us,l=u::us∧(GR h a).1 u∧(GR h b).2 us)
def gh (w:World):GK→Int×List Int
 |.i n=>(hashInt n,[])
 |.s x=>(hashStr w x,[])
 |.nil=>(reduceHash (Builtin.Tuple.tupleHashOf []),[])
 |.cons a b=>(reduceHash (Builtin.Tuple.tupleHashOf ((gh w a).1::(gh w b).2)),(gh w a).1::(gh w b).2)
def gd:GK→Nat
 |.i _=>1
 |.s _=>1
 |.nil=>1
 |.cons a b=>max (gd a+1) (gd b)
theorem TupOf.mono {h h':Heap} {v:Value} {P P':List Value→Prop} (x:TupOf h v P) (hk:∀a o its n,h.get? a=some o→o.data=.seq its n→h'.get? a=some o) (hp:∀l,P l→P' l):TupOf h' v P' :=
 let ⟨a,o,its,n,e,ho,hc,hd,p⟩:=x
 ⟨a,o,its,n,e,hk a o its n ho hd,hc,hd,hp _ p⟩
def qK:GK→Bool
 |.nil=>true
 |.cons _ _=>true
 |_=>false
theorem GR.tup {h:Heap} {k:GK} (ht:qK k=true) {v:Value}:(GR h k).1 v↔TupOf h v (GR h k).2:=by
 cases k<;>first|exact Iff.rfl|cases ht
theorem GR.keep {h h':Heap} (hk:∀a o its n,h.get? a=some o→o.data=.seq its n→h'.get? a=some o):∀k,(∀v,(GR h k).1 v→(GR h' k).1 v)∧(∀l,(GR h k).2 l→(GR h' k).2 l)
 |.i _=>⟨fun _ p=>p,fun _ p=>p⟩
 |.s _=>⟨fun _ p=>p,fun _ p=>p⟩
 |.nil=>⟨fun _ p=>(GR.tup rfl).2 (((GR.tup rfl).1 p).mono hk fun _ q=>q),fun _ p=>p⟩
 |.cons a b=>by
  have c:∀l,(∃u us,l=u::us∧(GR h a).1 u∧(GR h b).2 us)→∃u us,l=u::us∧(GR h' a).1 u∧(GR h' b).2 us :=
   fun l ⟨u,us,e,p,q⟩=>⟨u,us,e,(GR.keep hk a).1 _ p,(GR.keep hk b).2 _ q⟩
  exact ⟨fun _ p=>(GR.tup rfl).2 (((GR.tup rfl).1 p).mono hk c),c⟩
theorem TupOf.typeIs {s:Shared} {v:Value} {P:List Value→Prop} (x:TupOf s.heap v P):s.TypeIs v "tuple":=by
 obtain ⟨a,o,its,n,rfl,ho,hc,_⟩:=x
 exact ⟨o,ho,hc⟩
theorem GR.inj {h:Heap}:∀x y,(∀v,(GR h x).1 v→(GR h y).1 v→x=y)∧(∀l,(GR h x).2 l→(GR h y).2 l→x=y):=by
 have tt:∀{v:Value} {P P':List Value→Prop},TupOf h v P→TupOf h v P'→∃l,P l∧P' l:=by
  rintro v P P' ⟨a,o,its,n,rfl,ho,_,hd,p⟩ ⟨a',o',its',n',e,ho',_,hd',p'⟩
  cases e
  obtain rfl:o=o':=Option.some.inj (ho.symm.trans ho')
  rw [hd] at hd'
  injection hd' with e1 _
  subst e1
  exact ⟨_,p,p'⟩
 intro x
 induction x with
 |i n =>
  intro y
  refine ⟨fun v p q=>?_,fun l p=>p.elim⟩
  obtain ⟨t,rfl⟩:=p
  cases y with
  |i m=>obtain ⟨u,e⟩:=q;cases e;rfl
  |s z=>obtain ⟨u,e⟩:=q;cases e
  |nil=>obtain ⟨a,_,_,_,e,_⟩:=q;cases e
  |cons a b=>obtain ⟨a,_,_,_,e,_⟩:=q;cases e
 |s z =>
  intro y
  refine ⟨fun v p q=>?_,fun l p=>p.elim⟩
  obtain ⟨t,rfl⟩:=p
  cases y with
  |i m=>obtain ⟨u,e⟩:=q;cases e
  |s z=>obtain ⟨u,e⟩:=q;cases e;rfl
  |nil=>obtain ⟨a,_,_,_,e,_⟩:=q;cases e
  |cons a b=>obtain ⟨a,_,_,_,e,_⟩:=q;cases e
 |nil =>
  intro y
  have c:∀l,(GR h .nil).2 l→(GR h y).2 l→GK.nil=y:=by
   intro l p q
   cases p
   cases y with
   |i m=>exact q.elim
   |s z=>exact q.elim
   |nil=>rfl
   |cons a b=>obtain ⟨u,us,e,_⟩:=q;cases e
  refine ⟨fun v p q=>?_,c⟩
  cases y with
  |i m=>obtain ⟨u,rfl⟩:=q;obtain ⟨a,_,_,_,e,_⟩:=p;cases e
  |s z=>obtain ⟨u,rfl⟩:=q;obtain ⟨a,_,_,_,e,_⟩:=p;cases e
  |nil=>rfl
  |cons a b=>obtain ⟨l,p,q⟩:=tt ((GR.tup rfl).1 p) ((GR.tup rfl).1 q);exact c l p q
 |cons a b iha ihb =>
  intro y
  have c:∀l,(GR h (.cons a b)).2 l→(GR h y).2 l→GK.cons a b=y:=by
   rintro l ⟨u,us,rfl,p1,p2⟩ q
   cases y with
   |i m=>exact q.elim
   |s z=>exact q.elim
   |nil=>cases q
   |cons a' b' =>
    obtain ⟨u',us',e,q1,q2⟩:=q
    cases e
    rw [(iha a').1 _ p1 q1,(ihb b').2 _ p2 q2]
  refine ⟨fun v p q=>?_,c⟩
  cases y with
  |i m=>obtain ⟨u,rfl⟩:=q;obtain ⟨a,_,_,_,e,_⟩:=p;cases e
  |s z=>obtain ⟨u,rfl⟩:=q;obtain ⟨a,_,_,_,e,_⟩:=p;cases e
  |nil=>obtain ⟨l,p,q⟩:=tt ((GR.tup rfl).1 p) ((GR.tup rfl).1 q);exact c l p q
  |cons a b=>obtain ⟨l,p,q⟩:=tt ((GR.tup rfl).1 p) ((GR.tup rfl).1 q);exact c l p q
section
variable {prog:Program} {w:World} {E:Value→Shared→Prop}
abbrev zC (prog:Program) (w:World) (E:Value→Shared→Prop) (k:GK):Prop :=
 ∀(l:List Value) (A:Around) (s:Shared) (b:Array Int) (Q:Array Int→Shared→Prop),(GR s.heap k).2 l→A.units+gd k≤cLine→(∀n b',b'.toList=b.toList++(gh w k).2→Q b' {s with toks:=n})→
  wpAny (model prog w) A (forIn l b fun x r=>do let h ← pyHash x;pure (ForInStep.yield (r.push h))) Q E s
theorem Q1 {k:GK} (ht:qK k=true) (hs:(gh w k).1=reduceHash (Builtin.Tuple.tupleHashOf (gh w k).2))
  (lp:zC prog w E k)
  {v:Value} {A:Around} {s:Shared} {Q:Int→Shared→Prop} (hv:(GR s.heap k).1 v) (hu:A.units+gd k<cLine) (hq:∀n,Q (gh w k).1 {s with toks:=n}):wpAny (model prog w) A (pyHash v) Q E s:=by
 have hv':=(GR.tup ht).1 hv
 have hT:=hv'.typeIs
 obtain ⟨a,o,its,n,rfl,ho,hc,hd,hl⟩:=hv'
 refine PySem.W.pyHash_slot (T:="tuple") hT F.slot_tuple_hash F.entry_tuple_hash (F.args_tuple_hash_1 _) (beq_builtin_none _) (.inr (by omega)) ?_
 show wpAny _ A.in1 (Builtin.Tuple.tupleItemsOf _ >>= _) _ E s
 refine wpAny_bind (wpAny_tupleItemsOf ho hd (wpAny_bind ?_))
 rw [← Array.forIn_toList]
 refine lp its.toList _ s #[] _ hl (by simp only [Around.in1_units];omega) fun m b' hb=>?_
 have e:b'.toList=(gh w k).2:=by rw [hb];rfl
 show wpAny _ _ (retInt (Builtin.Tuple.tupleHashOf b'.toList)) _ _ _
 rw [e]
 exact wpAny_bind (wpAny_mkInt (wpAny_pure ⟨_,_,rfl,hs▸hq _⟩))
theorem zB:∀k:GK,(∀(v:Value) (A:Around) (s:Shared) (Q:Int→Shared→Prop),(GR s.heap k).1 v→A.units+gd k<cLine→(∀n,Q (gh w k).1 {s with toks:=n})→wpAny (model prog w) A (pyHash v) Q E s)∧zC prog w E k
 |.i n=>⟨fun v A s Q p _ q=>by obtain ⟨t,rfl⟩:=p;exact wpAny_pyHash_int (q _),fun _ _ _ _ _ p=>p.elim⟩
 |.s z=>⟨fun v A s Q p _ q=>by obtain ⟨t,rfl⟩:=p;exact wpAny_pyHash_str (q _),fun _ _ _ _ _ p=>p.elim⟩
 |.nil=>by
  have lp:zC prog w E .nil:=fun l A s b Q p _ q=>by
   cases p
   exact wpAny_pure (q s.toks b (by simp [gh]))
  exact ⟨fun v A s Q p hu q=>Q1 rfl (by simp only [gh]) lp p hu q,lp⟩
 |.cons x y=>by
  have lp:zC prog w E (.cons x y):=fun l A s b Q p hu q=>by
   obtain ⟨u,us,rfl,p1,p2⟩:=p
   simp only [gd] at hu
   rw [List.forIn_cons]
   refine wpAny_bind (wpAny_bind ((zB x).1 u A s _ p1 (by omega) fun m=>wpAny_pure ?_))
   exact (zB y).2 us A _ _ Q p2 (by omega) fun m' b' hb=>q m' b' (by simp [hb,gh])
  exact ⟨fun v A s Q p hu q=>Q1 rfl (by simp only [gh]) lp p hu q,lp⟩
end
section
variable {s:Shared}
theorem cA (n:Nat) (e:Nat→Bool):(List.range (n+1)).all e=(e 0&&(List.range n).all fun j=>e (j+1)):=by
 rw [List.range_succ_eq_map,List.all_cons,List.all_map]
 rfl
abbrev zG (s:Shared) (x y:GK):Prop :=
 ∀(A:Around) (l m:List Value),(GR s.heap x).2 l→(GR s.heap y).2 m→A.units+gd x≤cLine→∃e:Nat→Bool,(∀j (h1:j<l.length) (h2:j<m.length),SeqAt.EqAt A s l[j] m[j] (e j))∧((List.range (min l.length m.length)).all e&&l.length == m.length)=decide (x=y)
theorem zE {x y:GK} (hx:qK x=true) (hy:qK y=true) (lp:zG s x y) {v u:Value} {A:Around} (p:(GR s.heap x).1 v) (q:(GR s.heap y).1 u) (hu:A.units+gd x<cLine):SeqAt.EqAt A s v u (decide (x=y)):=by
 obtain ⟨a,o,its,n,rfl,ho,hc,hd,hl⟩:=(GR.tup hx).1 p
 obtain ⟨a',o',its',n',rfl,ho',hc',hd',hl'⟩:=(GR.tup hy).1 q
 by_cases ea:a=a'
 ·subst ea
  rw [decide_eq_true ((GR.inj x y).1 _ p q)]
  exact SeqAt.EqAt.same _
 ·obtain ⟨e,he,hr⟩:=lp A.in1 _ _ hl hl' (by simp only [Around.in1_units];omega)
  have r:=SeqAt.RcAt.tuples (A:=A) (s:=s) (e:=e) (items:=its) (items2:=its') ⟨o,ho,hc,n,hd⟩ ⟨o',ho',hc',n',hd'⟩ (by omega) (fun j h1 h2=>by have:=he j (by simpa using h1) (by simpa using h2);rwa [Array.getElem_toList,Array.getElem_toList] at this)
  rw [Array.length_toList,Array.length_toList] at hr
  rw [hr] at r
  exact SeqAt.EqAt.of_refs ea r
theorem zN:∀x y:GK,(∀(A:Around) (v u:Value),(GR s.heap x).1 v→(GR s.heap y).1 u→A.units+gd x<cLine→SeqAt.EqAt A s v u (decide (x=y)))∧zG s x y:=by
 intro x
 induction x with
 |i n =>
  intro y
  refine ⟨fun A v u p q hu=>?_,fun _ _ _ p=>p.elim⟩
  obtain ⟨t,rfl⟩:=p
  cases y with
  |i m=>obtain ⟨t',rfl⟩:=q;rw [show decide (GK.i n=GK.i m)=(n == m) by by_cases e:n=m<;>simp [e]];exact SeqAt.EqAt.int_int n t m t'
  |s z=>obtain ⟨t',rfl⟩:=q;exact SeqAt.EqAt.int_str _ _ _ _
  |nil=>obtain ⟨a,o,its,n,rfl,ho,hc,hd,_⟩:=(GR.tup rfl).1 q;exact SeqAt.EqAt.int_tuple _ _ ⟨o,ho,hc,_,hd⟩ (by omega)
  |cons a b=>obtain ⟨a,o,its,n,rfl,ho,hc,hd,_⟩:=(GR.tup rfl).1 q;exact SeqAt.EqAt.int_tuple _ _ ⟨o,ho,hc,_,hd⟩ (by omega)
 |s n =>
  intro y
  refine ⟨fun A v u p q hu=>?_,fun _ _ _ p=>p.elim⟩
  obtain ⟨t,rfl⟩:=p
  cases y with
  |i m=>obtain ⟨t',rfl⟩:=q;exact SeqAt.EqAt.str_int _ _ _ _
  |s z=>obtain ⟨t',rfl⟩:=q;rw [show decide (GK.s n=GK.s z)=(n == z) by by_cases e:n=z<;>simp [e]];exact SeqAt.EqAt.str_str n t z t'
  |nil=>obtain ⟨a,o,its,n,rfl,ho,hc,hd,_⟩:=(GR.tup rfl).1 q;exact SeqAt.EqAt.str_tuple _ _ ⟨o,ho,hc,_,hd⟩ (by omega)
  |cons a b=>obtain ⟨a,o,its,n,rfl,ho,hc,hd,_⟩:=(GR.tup rfl).1 q;exact SeqAt.EqAt.str_tuple _ _ ⟨o,ho,hc,_,hd⟩ (by omega)
 |nil =>
  intro y
  have lp:zG s .nil y:=by
   intro A l m p q _
   cases p
   cases y with
   |i m=>exact q.elim
   |s m=>exact q.elim
   |nil=>cases q;exact ⟨fun _=>true,fun j h1=>absurd h1 (Nat.not_lt_zero j),rfl⟩
   |cons a b=>obtain ⟨u,us,rfl,_⟩:=q;exact ⟨fun _=>true,fun j h1=>absurd h1 (Nat.not_lt_zero j),by simp⟩
  refine ⟨fun A v u p q hu=>?_,lp⟩
  cases y with
  |i m=>obtain ⟨t',rfl⟩:=q;obtain ⟨a,o,its,n,rfl,ho,hc,hd,_⟩:=(GR.tup rfl).1 p;exact SeqAt.EqAt.tuple_int _ _ ⟨o,ho,hc,_,hd⟩ (by omega)
  |s m=>obtain ⟨t',rfl⟩:=q;obtain ⟨a,o,its,n,rfl,ho,hc,hd,_⟩:=(GR.tup rfl).1 p;exact SeqAt.EqAt.tuple_str _ _ ⟨o,ho,hc,_,hd⟩ (by omega)
  |nil=>exact zE rfl rfl lp p q hu
  |cons a b=>exact zE rfl rfl lp p q hu
 |cons x1 x2 ih1 ih2 =>
  intro y
  have lp:zG s (.cons x1 x2) y:=by
   intro A l m p q hu
   simp only [gd] at hu
   obtain ⟨u,us,rfl,p1,p2⟩:=p
   cases y with
   |i m=>exact q.elim
   |s m=>exact q.elim
   |nil=>cases q;exact ⟨fun _=>true,fun j _ h1=>absurd h1 (Nat.not_lt_zero j),by simp⟩
   |cons a b =>
    obtain ⟨u',us',rfl,q1,q2⟩:=q
    obtain ⟨e,he,hr⟩:=(ih2 b).2 A us us' p2 q2 (by omega)
    have h0:=(ih1 a).1 A u u' p1 q1 (by omega)
    refine ⟨fun j=>match j with|0=>decide (x1=a)|j+1=>e j,fun j h1 h2=>?_,?_⟩
    ·cases j with
     |zero=>exact h0
     |succ j=>exact he j (by simpa using h1) (by simpa using h2)
    ·rw [List.length_cons,List.length_cons,Nat.succ_min_succ,cA,Bool.and_assoc]
     have e2:(us.length+1 == us'.length+1)=(us.length == us'.length):=by by_cases e:us.length=us'.length<;>simp [e]
     rw [e2,hr]
     by_cases e1:x1=a<;>by_cases e3:x2=b<;>simp [e1,e3]
  refine ⟨fun A v u p q hu=>?_,lp⟩
  cases y with
  |i m=>obtain ⟨t',rfl⟩:=q;obtain ⟨a,o,its,n,rfl,ho,hc,hd,_⟩:=(GR.tup rfl).1 p;exact SeqAt.EqAt.tuple_int _ _ ⟨o,ho,hc,_,hd⟩ (by omega)
  |s m=>obtain ⟨t',rfl⟩:=q;obtain ⟨a,o,its,n,rfl,ho,hc,hd,_⟩:=(GR.tup rfl).1 p;exact SeqAt.EqAt.tuple_str _ _ ⟨o,ho,hc,_,hd⟩ (by omega)
  |nil=>exact zE rfl rfl lp p q hu
  |cons a b=>exact zE rfl rfl lp p q hu
end
end L2
namespace L2
open PySem PySem.Spec PyProof.Rows
section
variable {prog:Program} {w:World} {E:Value→Shared→Prop} {s:Shared}
abbrev kR (prog:Program) (w:World) (E:Value→Shared→Prop) (s:Shared) (m:Nat) (v:Value):Prop :=
 ∀(A:Around) (Q:Bool→Shared→Prop),Q true s→wpAny (model prog w) A (eqIsQuiet m v) Q E s
theorem QI {v:Value} {P:List Value→Prop} {m:Nat} (x:TupOf s.heap v P) (hp:∀l,P l→∀y∈l,kR prog w E s m y):kR prog w E s (m+1) v:=by
 intro A Q q
 have hT:=x.typeIs
 obtain ⟨a,o,its,n,rfl,ho,hc,hd,hl⟩:=x
 unfold eqIsQuiet
 refine wpAny_bind (wpAny_specialOf hT F.slot_tuple_eq.lookup ?_)
 show wpAny _ A (isInstance _ (.type "tuple") >>= _) _ E s
 refine wpAny_bind (wpAny_isInstance hT isSubtype_tuple_tuple ?_)
 rw [if_neg (by decide)]
 refine wpAny_bind (wpAny_seqItems ho hd (wpAny_bind ?_))
 show wpAny _ A (forIn its _ _) _ E s
 rw [← Array.forIn_toList]
 refine wpAny_forIn_list _ (fun left r s1=>r.1=none∧s1=s∧∀y∈left,kR prog w E s m y) _ ?_ ?_ _ _ ⟨rfl,rfl,hp _ hl⟩
 ·rintro y left r s1 ⟨hr,rfl,hall⟩
  refine wpAny_bind (hall y List.mem_cons_self A _ ?_)
  rw [if_neg (by decide)]
  exact wpAny_pure ⟨rfl,rfl,fun z hz=>hall z (List.mem_cons_of_mem y hz)⟩
 ·rintro ⟨r1,r2⟩ s1 ⟨hr,rfl,_⟩
  cases hr
  exact wpAny_pure q
theorem y7:∀(k:GK) (m:Nat),gd k≤m→(∀v,(GR s.heap k).1 v→kR prog w E s m v)∧(∀l,(GR s.heap k).2 l→∀y∈l,kR prog w E s (m - 1) y)
 |.i n,m,_=>⟨fun v p A Q q=>by obtain ⟨t,rfl⟩:=p;rw [eqIsQuiet_byValue m rfl];exact wpAny_pure q,fun _ p=>p.elim⟩
 |.s n,m,_=>⟨fun v p A Q q=>by obtain ⟨t,rfl⟩:=p;rw [eqIsQuiet_byValue m rfl];exact wpAny_pure q,fun _ p=>p.elim⟩
 |.nil,m,hm=>by
  have lp:∀l,(GR s.heap .nil).2 l→∀y∈l,kR prog w E s (m - 1) y:=fun l p y hy=>by cases p;cases hy
  refine ⟨fun v p=>?_,lp⟩
  obtain ⟨m',rfl⟩:∃m',m=m'+1:=⟨m - 1,by simp only [gd] at hm;omega⟩
  exact QI ((GR.tup rfl).1 p) lp
 |.cons x y,m,hm=>by
  have hm':=hm
  simp only [gd] at hm'
  have lp:∀l,(GR s.heap (.cons x y)).2 l→∀z∈l,kR prog w E s (m - 1) z:=by
   rintro l ⟨u,us,rfl,p1,p2⟩ z hz
   rcases List.mem_cons.mp hz with rfl|hz
   ·exact (y7 x (m - 1) (by omega)).1 _ p1
   ·exact (y7 y m (by omega)).2 us p2 z hz
  refine ⟨fun v p=>?_,lp⟩
  obtain ⟨m',rfl⟩:∃m',m=m'+1:=⟨m - 1,by omega⟩
  exact QI ((GR.tup rfl).1 p) lp
abbrev jS:=GK×Value×Value
def kW (w:World) (x:jS):DictEntry:=⟨(gh w x.1).1,x.2.1,x.2.2⟩
structure KEnt (w:World) (h:Heap) (es:Array DictEntry) (xs:List jS):Prop where
 es:es.toList=xs.map (kW w)
 is:∀x∈xs,(GR h x.1).1 x.2.1
 deep:∀x∈xs,gd x.1≤8
 once:(xs.map (·.1)).Nodup
theorem KEnt.at {h:Heap} {es:Array DictEntry} {xs:List jS} (x:KEnt w h es xs) (j:Nat):es[j]?=(xs[j]?).map (kW w):=by
 rw [← Array.getElem?_toList,x.es,List.getElem?_map]
theorem eG {xs:List jS} (hn:(xs.map (·.1)).Nodup) {i j:Nat} {k:GK} {p q:Value×Value} (hi:xs[i]?=some (k,p)) (hj:xs[j]?=some (k,q)):i=j:=by
 have a:(xs.map (·.1))[i]?=some k:=by rw [List.getElem?_map,hi];rfl
 have b:(xs.map (·.1))[j]?=some k:=by rw [List.getElem?_map,hj];rfl
 exact (List.getElem?_inj (List.getElem?_eq_some_iff.mp a).1 hn).mp (a.trans b.symm)
def vK (xs:List jS) (k:GK):Option Nat→Prop
 |none=>∀(j:Nat) (p:Value×Value),xs[j]?≠some (k,p)
 |some j=>∃p,xs[j]?=some (k,p)
theorem cH {A:Around} {key:Value} {st:List Value} {Q:Bool→Shared→Prop} (hk:kR prog w E s 8 key) (hs:∀v∈st,kR prog w E s 8 v) (q:Q false s):wpAny (model prog w) A (tableMayTell key st) Q E s:=by
 unfold tableMayTell
 by_cases he:st.isEmpty=true
 ·rw [if_pos he];exact wpAny_pure q
 ·rw [if_neg he]
  refine wpAny_bind (hk A _ ?_)
  rw [if_neg (by decide)]
  refine wpAny_bind (wpAny_forIn_list _ (fun left r s1=>s1=s∧r=(none,())∧∀v∈left,kR prog w E s 8 v) _ ?_ ?_ _ _ ⟨rfl,rfl,hs⟩)
  ·rintro v left r s1 ⟨rfl,rfl,hl⟩
   refine wpAny_bind (hl v List.mem_cons_self A _ ?_)
   rw [if_neg (by decide)]
   exact wpAny_pure ⟨rfl,rfl,fun z hz=>hl z (List.mem_cons_of_mem v hz)⟩
  ·rintro r s1 ⟨rfl,rfl,_⟩
   exact wpAny_pure q
theorem cJ {A:Around} {d:Addr} {o:Obj} {es:Array DictEntry} {ep:Nat} {xs:List jS} {k:GK} {key:Value} {pl:List Nat} {Q:Option Nat→Shared→Prop} (hu:∀x∈xs,A.units+gd x.1<cLine) (hkey:(GR s.heap k).1 key)
  (ho:s.heap.get? d=some o) (hd:o.data=.dict es ep) (he:KEnt w s.heap es xs) (hpl:∀j p,xs[j]?=some (k,p)→j∈pl) (q:∀r,vK xs k r→Q r s) :
  wpAny (model prog w) A (dictWalkPlain d key (gh w k).1 es pl) Q E s:=by
 unfold dictWalkPlain
 refine wpAny_bind (wpAny_forIn_list _ (fun left r s1=>s1=s∧r=(none,())∧∀j p,xs[j]?=some (k,p)→j∈left) _ ?_ ?_ _ _ ⟨rfl,rfl,hpl⟩)
 ·rintro x left r s1 ⟨rfl,rfl,hl⟩
  have next:(∀p,xs[x]?≠some (k,p))→∀j p,xs[j]?=some (k,p)→j∈left:=fun hno j p hj=>by
   rcases List.mem_cons.mp (hl j p hj) with rfl|h
   ·exact absurd hj (hno p)
   ·exact h
  rw [he.at x]
  cases hx:xs[x]? with
  |none=>exact wpAny_pure ⟨rfl,rfl,next fun p h=>by rw [hx] at h;cases h⟩
  |some y =>
   obtain ⟨k',v',u'⟩:=y
   have hm:=List.mem_of_getElem? hx
   show wpAny _ A (if ((gh w k').1 == (gh w k).1)=true then _ else _) _ E _
   by_cases hh:((gh w k').1 == (gh w k).1)=true
   ·rw [if_pos hh]
    refine wpAny_bind (wpAny_dictEpoch ho hd (wpAny_bind ((zN k' k).1 A v' key (he.is _ hm) hkey (hu _ hm) prog w E _ (wpAny_bind (wpAny_dictEpoch ho hd ?_)))))
    rw [if_neg (by simp)]
    by_cases hkk:k'=k
    ·rw [decide_eq_true hkk,if_pos rfl]
     exact wpAny_bind (wpAny_rule (wpAny_pure (wpAny_pure (q _ ⟨_,hkk▸hx⟩))))
    ·rw [decide_eq_false hkk,if_neg (by decide)]
     exact wpAny_bind (wpAny_rule (wpAny_pure ⟨rfl,rfl,next fun p h=>by rw [hx] at h;injection h with h;injection h with h _;exact hkk h⟩))
   ·rw [if_neg hh]
    exact wpAny_pure ⟨rfl,rfl,next fun p h=>by rw [hx] at h;injection h with h;injection h with h _;rw [h] at hh;simp at hh⟩
 ·rintro r s1 ⟨rfl,rfl,hl⟩
  exact wpAny_pure (q none (show vK xs k none from fun j p h=>nomatch hl j p h))
theorem cO {es:Array DictEntry} {h:Int} {j:Nat}:j∈placesWithHash es.size (fun i=>es[i]?.map (·.hash)) h↔j<es.size∧(es[j]?.map (·.hash) == some h)=true:=by
 unfold placesWithHash
 rw [List.mem_filter,List.mem_range]
theorem Q3 {A:Around} {d:Addr} {o:Obj} {es:Array DictEntry} {ep:Nat} {xs:List jS} {k:GK} {key:Value} {Q:Option Nat→Shared→Prop} (hu:A.units+8<cLine) (hkey:(GR s.heap k).1 key) (hk8:gd k≤8)
    (ho:s.heap.get? d=some o) (hd:o.data=.dict es ep) (he:KEnt w s.heap es xs) (q:∀r,vK xs k r→Q r s) :
    wpAny (model prog w) A (dictFind d key (gh w k).1) Q E s:=by
  have hu':∀x∈xs,A.units+gd x.1<cLine:=fun x hx=>by have:=he.deep x hx;omega
  have hsz:es.size=xs.length:=by rw [← Array.length_toList,he.es,List.length_map]
  have hpl:∀j p,xs[j]?=some (k,p)→j∈placesWithHash es.size (fun i=>es[i]?.map (·.hash)) (gh w k).1:=fun j p hj=>by
    rw [cO,he.at j,hj]
    refine ⟨?_,by simp [kW]⟩
    rw [hsz]
    exact (List.getElem?_eq_some_iff.mp hj).1
  have hof:∀e∈es,∃x∈xs,e=kW w x:=fun e hin=>by
    have:e∈xs.map (kW w):=he.es▸Array.mem_toList_iff.mpr hin
    obtain ⟨x,hx,rfl⟩:=List.mem_map.mp this
    exact ⟨x,hx,rfl⟩
  have plain:wpAny (model prog w) A (dictWalkPlain d key (gh w k).1 es (placesWithHash es.size (fun i=>es[i]?.map (·.hash)) (gh w k).1)) Q E s:=cJ hu' hkey ho hd he hpl q
  have hst:∀v∈(placesWithHash es.size (fun i=>es[i]?.map (·.hash)) (gh w k).1).filterMap (fun i=>es[i]?.map (·.key)),kR prog w E s 8 v:=fun v hv=>by
    obtain ⟨i,_,hi⟩:=List.mem_filterMap.mp hv
    obtain ⟨e,h1,h2⟩:=Option.map_eq_some_iff.mp hi
    obtain ⟨x,hx,rfl⟩:=hof e (Array.mem_of_getElem? h1)
    subst h2
    exact (y7 x.1 8 (he.deep x hx)).1 _ (he.is x hx)
  have hchg:∀a,key=.ref a→¬(es.any fun e=>e.key == key&&e.hash != (gh w k).1)=true:=fun a ha hany=>by
    rw [← Array.any_toList,List.any_eq_true] at hany
    obtain ⟨e,hin,hc⟩:=hany
    obtain ⟨x,hx,rfl⟩:=hof e (Array.mem_toList_iff.mp hin)
    rw [Bool.and_eq_true] at hc
    have e1:x.2.1=key:=eq_of_beq hc.1
    have e2:=(GR.inj x.1 k).1 key (e1▸he.is x hx) hkey
    have:=hc.2
    simp [kW,e2] at this
  have hkey':=hkey
  have hkind:(∃n t,key=.int n t)∨(∃z t,key=.str z t∧k=.s z)∨∃a,key=.ref a:=by
    cases k with
    |i n=>exact .inl ⟨n,hkey⟩
    |s z=>obtain ⟨t,rfl⟩:=hkey;exact .inr (.inl ⟨z,t,rfl,rfl⟩)
    |nil=>obtain ⟨a,o,its,n,e,_⟩:=(GR.tup rfl).1 hkey;exact .inr (.inr ⟨a,e⟩)
    |cons x y=>obtain ⟨a,o,its,n,e,_⟩:=(GR.tup rfl).1 hkey;exact .inr (.inr ⟨a,e⟩)
  have hnd:(placesWithHash es.size (fun i=>es[i]?.map (·.hash)) (gh w k).1).Nodup:=by
    unfold placesWithHash
    exact List.Pairwise.filter _ List.nodup_range
  have hquiet:kR prog w E s 8 key:=(y7 k 8 hk8).1 key hkey
  have texts:∀z t,key=.str z t→k=.s z→(es.all fun e=>isExactStrKey e.key)=true→Q (es.findIdx? fun e=>e.key.isStr z) s:=by
    rintro z t rfl rfl _
    cases hf:es.findIdx? fun e=>e.key.isStr z with
    |none =>
      refine q none (show vK xs (.s z) none from fun j p hj=>?_)
      obtain ⟨u,hu⟩:∃u,p.1=.str z u:=he.is _ (List.mem_of_getElem? hj)
      have e2:es[j]?=some (kW w (.s z,p)):=by rw [he.at j,hj];rfl
      have:=Array.findIdx?_eq_none_iff.mp hf _ (Array.mem_of_getElem? e2)
      simp [kW,hu,Value.isStr] at this
    |some j =>
      obtain ⟨hlt,hj,_⟩:=Array.findIdx?_eq_some_iff_getElem.mp hf
      refine q (some j) ?_
      obtain ⟨u,hu⟩:=KTD.kt_isStr hj
      have e2:=he.at j
      rw [Array.getElem?_eq_getElem hlt] at e2
      cases hx:xs[j]? with
      |none=>rw [hx] at e2;cases e2
      |some x =>
        rw [hx] at e2
        injection e2 with e2
        have hx1:=he.is x (List.mem_of_getElem? hx)
        have e3:x.2.1=.str z u:=by rw [← hu,e2];rfl
        have e4:=(GR.inj x.1 (.s z)).1 x.2.1 hx1 ⟨u,e3⟩
        exact ⟨x.2,by rw [hx,← e4]⟩
  by_cases htx:(∃z t,key=.str z t∧k=.s z)∧(es.all fun e=>isExactStrKey e.key)=true
  · obtain ⟨⟨z,t,rfl,rfl⟩,hall⟩:=htx
    exact KTD.kt_dictFind_strs ho hd hall (texts z t rfl rfl hall)
  unfold dictFind
  refine wpAny_holding (wpAny_bind (wpAny_dictEntries ho hd ?_))
  generalize hpl0:placesWithHash es.size (fun i=>es[i]?.map (·.hash)) (gh w k).1=pl at *
  rcases hkind with ⟨n,t,rfl⟩|⟨z,t,rfl,hz⟩|⟨a,rfl⟩<;>dsimp only
  case' inr.inl=>rw [if_neg fun hall=>htx ⟨⟨z,t,rfl,hz⟩,hall⟩]
  all_goals refine wpAny_ite_split (fun _=>plain) fun _=>?_
  case' inr.inr=>rw [if_neg (hchg a rfl)]
  all_goals refine wpAny_ite_split (fun _=>wpAny_bind (wpAny_pure ?_)) fun _=>wpAny_bind (cH hquiet hst ?_)
  all_goals
    rw [if_neg (by simp)]
    refine wpAny_bind (wpAny_forIn_list _ (fun left b s1=>s1=s∧left.Nodup∧∃hit,b=(none,hit)∧
      ((hit=none∧∀j p,xs[j]?=some (k,p)→j∈left)∨∃j p,hit=some j∧xs[j]?=some (k,p)∧j∉left)) _ ?_ ?_ _ _ ⟨rfl,hnd,none,rfl,.inl ⟨rfl,hpl⟩⟩)
    · rintro x left b s1 ⟨rfl,hno,hit,rfl,hH⟩
      rw [List.nodup_cons] at hno
      rw [he.at x]
      cases hx:xs[x]? with
      |none =>
        refine wpAny_pure ⟨rfl,hno.2,hit,rfl,?_⟩
        rcases hH with ⟨h0,hl⟩|⟨j,p,h1,h2,h3⟩
        · refine .inl ⟨h0,fun j p hj=>?_⟩
          rcases List.mem_cons.mp (hl j p hj) with rfl|h
          · rw [hx] at hj;cases hj
          · exact h
        · exact .inr ⟨j,p,h1,h2,fun h=>h3 (List.mem_cons_of_mem x h)⟩
      |some y =>
        obtain ⟨k',v',u'⟩:=y
        have hm:=List.mem_of_getElem? hx
        have other:k'≠k→(hit=none∧∀j p,xs[j]?=some (k,p)→j∈left)∨∃j p,hit=some j∧xs[j]?=some (k,p)∧j∉left:=fun hne=>by
          rcases hH with ⟨h0,hl⟩|⟨j,p,h1,h2,h3⟩
          · refine .inl ⟨h0,fun j p hj=>?_⟩
            rcases List.mem_cons.mp (hl j p hj) with rfl|h
            · rw [hx] at hj;injection hj with hj;injection hj with hj _;exact absurd hj hne
            · exact h
          · exact .inr ⟨j,p,h1,h2,fun h=>h3 (List.mem_cons_of_mem x h)⟩
        show wpAny _ A (if ((gh w k').1 == (gh w k).1)=true then _ else _) _ E _
        refine wpAny_ite_split (fun hh=>?_) fun hh=>wpAny_pure ⟨rfl,hno.2,hit,rfl,other fun e=>hh (by rw [e];exact beq_self_eq_true _)⟩
        refine wpAny_bind (wpAny_dictEpoch ho hd (wpAny_bind ((zN k' k).1 A v' _ (he.is _ hm) hkey' (hu' _ hm) prog w E _ (wpAny_bind (wpAny_dictEpoch ho hd ?_)))))
        rw [if_neg (by simp)]
        by_cases hkk:k'=k
        · rw [decide_eq_true hkk,if_pos rfl]
          subst hkk
          rcases hH with ⟨rfl,hl⟩|⟨j,p,rfl,h2,h3⟩
          · rw [if_neg (by simp)]
            refine wpAny_bind (wpAny_rule (wpAny_ite_split (fun _=>wpAny_pure (wpAny_pure (q (some x) ⟨_,hx⟩))) fun _=>wpAny_pure ⟨rfl,hno.2,some x,rfl,.inr ⟨x,_,rfl,hx,hno.1⟩⟩))
          · exact absurd (eG he.once h2 hx▸List.mem_cons_self) h3
        · rw [decide_eq_false hkk,if_neg (by decide)]
          refine wpAny_bind (wpAny_rule ?_)
          rw [if_neg (by simp)]
          exact wpAny_pure ⟨rfl,hno.2,hit,rfl,other hkk⟩
    · rintro b s1 ⟨rfl,_,hit,rfl,hH⟩
      rcases hH with ⟨rfl,hl⟩|⟨j,p,rfl,h2,_⟩
      · exact wpAny_pure (q none (show vK xs _ none from fun j p h=>nomatch hl j p h))
      · exact wpAny_pure (q (some j) ⟨p,h2⟩)
end
end L2
namespace L2
open PySem PySem.Spec PyProof.Rows
section
variable {prog:Program} {w:World} {A:Around} {E:Value→Shared→Prop} {s:Shared}
def DictG (w:World) (h:Heap) (d:Addr) (xs:List jS):Prop:=∃o es ep,h.get? d=some o∧o.ExactDict∧o.data=.dict es ep∧KEnt w h es xs
theorem DictG.typeIs {d:Addr} {xs:List jS} (x:DictG w s.heap d xs):s.TypeIs (.ref d) "dict":=let ⟨o,_,_,ho,hc,_⟩:=x;⟨o,ho,hc.1⟩
def kO (xs:List jS) (k:GK):Option Value:=(xs.find? fun x=>decide (x.1=k)).map (·.2.2)
def q5 (xs:List jS) (k:GK) (key v:Value):List jS:=if (xs.any fun x=>decide (x.1=k)) then xs.map (fun x=>if x.1=k then (x.1,x.2.1,v) else x) else xs++[(k,key,v)]
theorem QM {k:GK}:∀{xs:List jS} (_:(xs.map (·.1)).Nodup) {j:Nat} {p:Value×Value} (_:xs[j]?=some (k,p)),kO xs k=some p.2
 |[],_,j,p,h=>by cases j<;>cases h
 |x::xs,hn,0,p,h=>by cases h;simp [kO]
 |x::xs,hn,j+1,p,h=>by
  rw [List.map_cons,List.nodup_cons] at hn
  have h':xs[j]?=some (k,p):=h
  have hne:¬x.1=k:=fun e=>hn.1 (e▸List.mem_map.mpr ⟨_,List.mem_of_getElem? h',rfl⟩)
  have:=QM hn.2 h'
  simpa [kO,List.find?_cons,hne] using this
theorem d4 {xs:List jS} {k:GK} (h:vK xs k none):(xs.any fun x=>decide (x.1=k))=false:=by
 rw [Bool.eq_false_iff]
 intro hx
 rw [List.any_eq_true] at hx
 obtain ⟨x,hm,hk⟩:=hx
 obtain ⟨j,hj⟩:=List.mem_iff_getElem?.mp hm
 exact h j x.2 (by rw [hj,← of_decide_eq_true hk])
theorem dD {xs:List jS} {k:GK} (h:vK xs k none):kO xs k=none:=by
 have:xs.find? (fun x=>decide (x.1=k))=none:=by
  rw [List.find?_eq_none]
  intro x hm hk
  obtain ⟨j,hj⟩:=List.mem_iff_getElem?.mp hm
  exact h j x.2 (by rw [hj,← of_decide_eq_true hk])
 rw [kO,this]
 rfl
theorem eP {d:Addr} {xs:List jS} {k:GK} {key:Value} {Q:Option Value→Shared→Prop} (hu:A.units+8<cLine) (hkey:(GR s.heap k).1 key) (hk8:gd k≤8) (hm:DictG w s.heap d xs)
  (q:∀n,Q (kO xs k) {s with toks:=n}):wpAny (model prog w) A (dictGet d key) Q E s:=by
 obtain ⟨o,es,ep,ho,hc,hd,he⟩:=hm
 unfold dictGet
 refine wpAny_holding (wpAny_bind ((zB k).1 key A s _ hkey (by omega) fun n=>wpAny_bind (Q3 (s:={s with toks:=n}) hu hkey hk8 ho hd he fun r hr=>?_)))
 cases r with
 |none=>rw [← dD hr];exact wpAny_pure (q n)
 |some j =>
  obtain ⟨p,hj⟩:=hr
  refine wpAny_bind (wpAny_dictEntries (s:={s with toks:=n}) ho hd ?_)
  rw [he.at j,hj]
  refine wpAny_pure ?_
  have:=q n
  rw [QM he.once hj] at this
  exact this
theorem J8 {h h':Heap} {d:Addr} {o:Obj} {es:Array DictEntry} {ep:Nat} (ho:h.get? d=some o) (hd:o.data=.dict es ep) (hs:Heap.SameBut d h h'):∀a o its n,h.get? a=some o→o.data=.seq its n→h'.get? a=some o:=by
 intro a o' its n ho' hd'
 have hne:a≠d:=by
  rintro rfl
  obtain rfl:o'=o:=Option.some.inj (ho'.symm.trans ho)
  rw [hd] at hd'
  cases hd'
 exact (hs.2 a hne).trans ho'
theorem cV {xs:List jS} {k:GK} {v:Value}:(xs.map (fun x=>if x.1=k then (x.1,x.2.1,v) else x)).map (·.1)=xs.map (·.1):=by
 rw [List.map_map]
 refine List.map_congr_left fun x _=>?_
 show (if x.1=k then (x.1,x.2.1,v) else x).1=x.1
 split<;>rfl
theorem QJ {k:GK} {v:Value}:∀{xs:List jS} (_:(xs.map (·.1)).Nodup) {j:Nat} {p:Value×Value} (_:xs[j]?=some (k,p)),
  (xs.map (kW w)).modify j (fun e=>{e with val:=v})=(xs.map (fun x=>if x.1=k then (x.1,x.2.1,v) else x)).map (kW w)
 |[],_,j,p,h=>by cases j<;>cases h
 |x::xs,hn,0,p,h=>by
  cases h
  rw [List.map_cons,List.nodup_cons] at hn
  have e:xs.map (fun x=>if x.1=k then (x.1,x.2.1,v) else x)=xs:=by
   refine (List.map_congr_left fun x hx=>?_).trans (List.map_id xs)
   have hne:¬x.1=k:=fun e=>hn.1 (List.mem_map.mpr ⟨x,hx,e⟩)
   show (if x.1=k then (x.1,x.2.1,v) else x)=x
   rw [if_neg hne]
  rw [List.map_cons,List.map_cons,e]
  simp [kW]
 |x::xs,hn,j+1,p,h=>by
  rw [List.map_cons,List.nodup_cons] at hn
  have h':xs[j]?=some (k,p):=h
  have hne:¬x.1=k:=fun e=>hn.1 (e▸List.mem_map.mpr ⟨_,List.mem_of_getElem? h',rfl⟩)
  rw [List.map_cons,List.map_cons,if_neg hne,List.map_cons,← QJ hn.2 h']
  rfl
theorem d8 {d:Addr} {xs:List jS} {k:GK} {key v:Value} {Q:Unit→Shared→Prop} (hu:A.units+8<cLine) (hkey:(GR s.heap k).1 key) (hk8:gd k≤8) (hm:DictG w s.heap d xs) (hsz:xs.length≤sizeLine)
  (q:∀n h',DictG w h' d (q5 xs k key v)→Heap.SameBut d s.heap h'→Q () {s with heap:=h',toks:=n}):wpAny (model prog w) A (dictSet d key v) Q E s:=by
 obtain ⟨o,es,ep,ho,hc,hd,he⟩:=hm
 have hz:es.size=xs.length:=by rw [← Array.length_toList,he.es,List.length_map]
 unfold dictSet
 refine wpAny_holding (wpAny_bind ((zB k).1 key A s _ hkey (by omega) fun n=>?_))
 unfold dictSetHashed
 refine wpAny_holding (wpAny_bind (Q3 (s:={s with toks:=n}) hu hkey hk8 ho hd he fun r hr=>?_))
 cases r with
 |none =>
  have e0:q5 xs k key v=xs++[(k,key,v)]:=by rw [q5,d4 hr];rfl
  refine wpAny_bind (wpAny_rule (wpAny_updateDictKeys (hz:=by omega) (s:={s with toks:=n}) ho hd (q n _ ?_ (Heap.SameBut.update ..))))
  rw [e0]
  have kp:=J8 ho hd (Heap.SameBut.update (h:=s.heap) (a:=d) (f:=fun o=>o.mapDictKeys fun es=>es.push ⟨(gh w k).1,key,v⟩))
  refine ⟨_,_,ep+1,Heap.get?_update_self _ ho (Obj.isFreed_of_dict (Obj.data_mapDictKeys hd _)),hc.mapDictKeys _,Obj.data_mapDictKeys hd _,?_,?_,?_,?_⟩
  ·rw [Array.toList_push,he.es,List.map_append];rfl
  ·intro x hx
   rcases List.mem_append.mp hx with hx|hx
   ·exact (GR.keep kp x.1).1 _ (he.is x hx)
   ·cases List.mem_singleton.mp hx;exact (GR.keep kp k).1 _ hkey
  ·intro x hx
   rcases List.mem_append.mp hx with hx|hx
   ·exact he.deep x hx
   ·cases List.mem_singleton.mp hx;exact hk8
  ·rw [List.map_append,List.nodup_append]
   refine ⟨he.once,by simp,fun a ha b hb e=>?_⟩
   cases List.mem_singleton.mp hb
   obtain ⟨x,hx,rfl⟩:=List.mem_map.mp ha
   obtain ⟨j,hj⟩:=List.mem_iff_getElem?.mp hx
   have e':x.1=k:=e
   exact hr j x.2 (by rw [hj,← e'])
 |some j =>
  obtain ⟨p,hj⟩:=hr
  have e0:q5 xs k key v=xs.map (fun x=>if x.1=k then (x.1,x.2.1,v) else x):=by
   rw [q5,if_pos]
   rw [List.any_eq_true]
   exact ⟨_,List.mem_of_getElem? hj,decide_eq_true rfl⟩
  refine wpAny_bind (wpAny_rule (wpAny_bind (wpAny_updateDict (s:={s with toks:=n}) ho hd (wpAny_point (q n _ ?_ (Heap.SameBut.update ..))))))
  rw [e0]
  have kp:=J8 ho hd (Heap.SameBut.update (h:=s.heap) (a:=d) (f:=fun o=>o.mapDict fun es=>es.modify j fun e=>{e with val:=v}))
  refine ⟨_,_,ep,Heap.get?_update_self _ ho (Obj.isFreed_of_dict (Obj.data_mapDict hd _)),hc.mapDict _,Obj.data_mapDict hd _,?_,?_,?_,?_⟩
  ·rw [← QJ he.once hj,← he.es]
   simp
  ·intro x hx
   obtain ⟨y,hy,rfl⟩:=List.mem_map.mp hx
   have:=(GR.keep kp y.1).1 _ (he.is y hy)
   split<;>exact this
  ·intro x hx
   obtain ⟨y,hy,rfl⟩:=List.mem_map.mp hx
   have:=he.deep y hy
   split<;>exact this
  ·rw [cV];exact he.once
end
end L2
namespace L2
open PySem PySem.Spec PyProof.Rows
section
variable {prog:Program} {w:World} {A:Around} {E:Value→Shared→Prop} {s:Shared} {d:Addr} {xs:List jS} {k:GK} {key v:Value}
theorem dW {Q:Value→Shared→Prop} (hu:A.units+9<cLine) (hkey:(GR s.heap k).1 key) (hk8:gd k≤8) (hm:DictG w s.heap d xs) (hv:kO xs k=some v) (q:∀n,Q v {s with toks:=n}) :
  wpAny (model prog w) A (getItem (.ref d) key) Q E s:=by
 have T:=hm.typeIs
 unfold getItem
 refine wpAny_holding (wpAny_bind (wpAny_sequenceKey T (by decide) (wpAny_bind (wpAny_callSpecial?_slot (name:=Str.ofString "__getitem__") T slot_dict_getitem (wpAny_call_entry slot_dict_getitem T entry_dict_getitem ?_ (args_dict_getitem _ _))))))
 show wpAny _ A.in1 (dictGet d key >>= _) _ E s
 refine wpAny_bind (eP (by simp only [Around.in1_units];omega) hkey hk8 hm fun n=>?_)
 rw [hv]
 exact wpAny_pure ⟨v,rfl,wpAny_pure (q n)⟩
theorem cU {Q:Unit→Shared→Prop} (hu:A.units+9<cLine) (hkey:(GR s.heap k).1 key) (hk8:gd k≤8) (hm:DictG w s.heap d xs) (hsz:xs.length≤sizeLine)
  (q:∀n h',DictG w h' d (q5 xs k key v)→Heap.SameBut d s.heap h'→Q () {s with heap:=h',toks:=n}):wpAny (model prog w) A (setItem (.ref d) key v) Q E s:=by
 have T:=hm.typeIs
 unfold setItem
 refine wpAny_holding (wpAny_bind (wpAny_sequenceKey T (by decide) (wpAny_bind (wpAny_callSpecial?_slot (name:=Str.ofString "__setitem__") T slot_dict_setitem (wpAny_call_entry slot_dict_setitem T entry_dict_setitem ?_ (args_dict_setitem _ _ _))))))
 show wpAny _ A.in1 (Builtin.Dict.notOrdered "__setitem__" _ >>= _) _ E s
 refine wpAny_bind (wpAny_notOrdered_dict T ?_)
 show wpAny _ A.in1 (dictSet d key v >>= _) _ E s
 exact wpAny_bind (d8 (by simp only [Around.in1_units];omega) hkey hk8 hm hsz fun n h' m sb=>wpAny_pure ⟨.none,rfl,wpAny_pure (q n h' m sb)⟩)
end
end L2
namespace L2
open PySem PySem.Spec PyProof.Rows
def GV (H:Hp):GK→(V→Prop)×(List V→Prop)
 |.i n=>(fun v=>v=.int n,fun _=>False)
 |.s x=>(fun v=>v=.str x,fun _=>False)
 |.nil=>(fun v=>∃a,v=.ref a∧H a=some (.tup []),fun l=>l=[])
 |.cons x y=>(fun v=>∃a l,v=.ref a∧H a=some (.tup l)∧∃u us,l=u::us∧(GV H x).1 u∧(GV H y).2 us,fun l=>∃u us,l=u::us∧(GV H x).1 u∧(GV H y).2 us)
theorem GV.keep {H H':Hp} (hk:∀a l,H a=some (.tup l)→H' a=some (.tup l)):∀k,(∀v,(GV H k).1 v→(GV H' k).1 v)∧(∀l,(GV H k).2 l→(GV H' k).2 l)
 |.i _=>⟨fun _ p=>p,fun _ p=>p⟩
 |.s _=>⟨fun _ p=>p,fun _ p=>p⟩
 |.nil=>⟨fun _ p=>by obtain ⟨a,e,q⟩:=p;exact ⟨a,e,hk _ _ q⟩,fun _ p=>p⟩
 |.cons x y=>by
  have c:∀l,(∃u us,l=u::us∧(GV H x).1 u∧(GV H y).2 us)→∃u us,l=u::us∧(GV H' x).1 u∧(GV H' y).2 us :=
   fun l ⟨u,us,e,p,q⟩=>⟨u,us,e,(GV.keep hk x).1 _ p,(GV.keep hk y).2 _ q⟩
  exact ⟨fun _ p=>by obtain ⟨a,l,e,q,r⟩:=p;exact ⟨a,l,e,hk _ _ q,c l r⟩,c⟩
section
variable {P:Program} {w:World} {H:Hp} {h:Heap}
theorem GV.rel (hok:HOk P w H h):∀k,(∀v u,(GV H k).1 v→RelV v u→(GR h k).1 u)∧(∀l us,(GV H k).2 l→Vals l us→(GR h k).2 us)
 |.i _=>⟨fun v u p r=>by cases p;exact r,fun _ _ p=>p.elim⟩
 |.s _=>⟨fun v u p r=>by cases p;exact r,fun _ _ p=>p.elim⟩
 |.nil=>by
  refine ⟨fun v u p r=>?_,fun l us p r=>by cases p;cases r;exact rfl⟩
  obtain ⟨a,rfl,q⟩:=p
  cases r
  obtain ⟨_,its,r2,o,ho,hc,n,hd⟩:=hok a _ q
  cases r2
  exact ⟨a,o,_,n,rfl,ho,hc,hd,rfl⟩
 |.cons x y=>by
  have c:∀l us,(∃u vs,l=u::vs∧(GV H x).1 u∧(GV H y).2 vs)→Vals l us→∃u vs,us=u::vs∧(GR h x).1 u∧(GR h y).2 vs:=by
   rintro l us ⟨u,vs,rfl,p1,p2⟩ r
   cases r with
   |cons r1 r2=>exact ⟨_,_,rfl,(GV.rel hok x).1 _ _ p1 r1,(GV.rel hok y).2 _ _ p2 r2⟩
  refine ⟨fun v u p r=>?_,c⟩
  obtain ⟨a,l,rfl,q,p'⟩:=p
  cases r
  obtain ⟨_,its,r2,o,ho,hc,n,hd⟩:=hok a _ q
  exact ⟨a,o,_,n,rfl,ho,hc,hd,c l its p' r2⟩
end
abbrev jU:=GK×V×V
def RelG (p:jU) (q:jS):Prop:=p.1=q.1∧RelV p.2.1 q.2.1∧RelV p.2.2 q.2.2
def GO (w:World) (d:Addr) (kvs:List jU):HO:=.ext fun h=>kvs.length≤sizeLine∧(d == sysModules)=false∧∃xs:List jS,Paired RelG kvs xs∧∃o es ep,h.get? d=some o∧o.ExactDict∧o.data=.dict es ep∧es.toList=xs.map (kW w)
structure GOk (H:Hp) (kvs:List jU):Prop where
 key:∀p∈kvs,(GV H p.1).1 p.2.1
 deep:∀p∈kvs,gd p.1≤8
 once:(kvs.map (·.1)).Nodup
def jN (kvs:List jU) (k:GK):Option V:=(kvs.find? fun x=>decide (x.1=k)).map (·.2.2)
def kT (kvs:List jU) (k:GK) (y v:V):List jU:=if (kvs.any fun x=>decide (x.1=k)) then kvs.map (fun x=>if x.1=k then (x.1,x.2.1,v) else x) else kvs++[(k,y,v)]
theorem RelG.keys:∀{kvs:List jU} {xs:List jS},Paired RelG kvs xs→kvs.map (·.1)=xs.map (·.1)
 |_,_,.nil=>rfl
 |_,_,.cons r t=>by rw [List.map_cons,List.map_cons,r.1,RelG.keys t]
theorem RelG.mem {q:jS}:∀{kvs:List jU} {xs:List jS},Paired RelG kvs xs→q∈xs→∃p∈kvs,RelG p q
 |_,_,.nil,h=>nomatch h
 |_,_,.cons r t,h=>by
  rcases List.mem_cons.mp h with rfl|h
  ·exact ⟨_,List.mem_cons_self,r⟩
  ·obtain ⟨p,hp,rp⟩:=RelG.mem t h
   exact ⟨p,List.mem_cons_of_mem _ hp,rp⟩
theorem RelG.get {k:GK} {v:V}:∀{kvs:List jU} {xs:List jS},Paired RelG kvs xs→jN kvs k=some v→∃u,kO xs k=some u∧RelV v u
 |_,_,.nil,e=>by cases e
 |p::kvs,q::xs,.cons r t,e=>by
  by_cases h:p.1=k
  ·have h':q.1=k:=r.1▸h
   simp only [jN,List.find?_cons,h,decide_true,Option.map_some,Option.some.injEq] at e
   exact ⟨q.2.2,by simp [kO,h'],e▸r.2.2⟩
  ·have h':¬q.1=k:=r.1▸h
   simp only [jN,List.find?_cons,h,decide_false] at e
   obtain ⟨u,e1,e2⟩:=RelG.get t e
   exact ⟨u,by simpa [kO,List.find?_cons,h'] using e1,e2⟩
theorem RelG.none {k:GK}:∀{kvs:List jU} {xs:List jS},Paired RelG kvs xs→(kO xs k).isSome=(jN kvs k).isSome
 |_,_,.nil=>rfl
 |p::kvs,q::xs,.cons r t=>by
  have ih:=RelG.none (k:=k) t
  by_cases h:p.1=k
  ·have h':q.1=k:=r.1▸h
   simp [kO,jN,h,h']
  ·have h':¬q.1=k:=r.1▸h
   simpa [kO,jN,List.find?_cons,h,h'] using ih
theorem RelG.any {k:GK}:∀{kvs:List jU} {xs:List jS},Paired RelG kvs xs→(xs.any fun x=>decide (x.1=k))=(kvs.any fun x=>decide (x.1=k))
 |_,_,.nil=>rfl
 |_,_,.cons r t=>by rw [List.any_cons,List.any_cons,RelG.any t,r.1]
theorem RelG.put {k:GK} {v:V} {u:Value} (rv:RelV v u):∀{kvs:List jU} {xs:List jS},Paired RelG kvs xs→
  Paired RelG (kvs.map (fun x=>if x.1=k then (x.1,x.2.1,v) else x)) (xs.map (fun x=>if x.1=k then (x.1,x.2.1,u) else x))
 |_,_,.nil=>.nil
 |p::kvs,q::xs,.cons r t=>by
  refine .cons ?_ (RelG.put rv t)
  by_cases h:p.1=k
  ·have h':q.1=k:=r.1▸h
   dsimp only;rw [if_pos h,if_pos h'];exact ⟨r.1,r.2.1,rv⟩
  ·have h':¬q.1=k:=r.1▸h
   dsimp only;rw [if_neg h,if_neg h'];exact r
theorem RelG.app:∀{kvs kvs':List jU} {xs xs':List jS},Paired RelG kvs xs→Paired RelG kvs' xs'→Paired RelG (kvs++kvs') (xs++xs')
 |_,_,_,_,.nil,t=>t
 |_,_,_,_,.cons r t,t'=>.cons r (RelG.app t t')
theorem RelG.set {k:GK} {y v:V} {key u:Value} (ry:RelV y key) (rv:RelV v u) {kvs:List jU} {xs:List jS} (r:Paired RelG kvs xs):Paired RelG (kT kvs k y v) (q5 xs k key u):=by
 unfold kT q5
 rw [RelG.any r]
 split
 ·exact RelG.put rv r
 ·exact RelG.app r (.cons ⟨rfl,ry,rv⟩ .nil)
theorem JB (kvs:List jU) (k:GK) (y v:V):(kT kvs k y v).length≤kvs.length+1:=by
 unfold kT
 split
 ·rw [List.length_map];omega
 ·rw [List.length_append];exact Nat.le_refl _
section
variable {X:Cx} {pins:List (Addr×Obj)} {σ:St} {H:Hp} {s:Shared} {d:Addr} {k:GK} {y v:V} {u r:Value} {A:Around} {E:Value→Shared→Prop} {kvs:List jU}
theorem Inv.gdict (I:Inv X pins σ H s) (e:Rd H d (GO X.w d kvs)) (g:GOk H kvs):kvs.length≤sizeLine∧(d == sysModules)=false∧∃xs,Paired RelG kvs xs∧DictG X.w s.heap d xs:=by
 obtain ⟨⟨hl,hm,xs,rel,o,es,ep,ho,hc,hd,he⟩,_,_⟩:=e.ok I.hok
 refine ⟨hl,hm,xs,rel,o,es,ep,ho,hc,hd,he,?_,?_,by rw [← RelG.keys rel];exact g.once⟩
 ·intro q hq
  obtain ⟨p,hp,rp⟩:=RelG.mem rel hq
  exact rp.1▸(GV.rel I.hok p.1).1 _ _ (g.key p hp) rp.2.1
 ·intro q hq
  obtain ⟨p,hp,rp⟩:=RelG.mem rel hq
  exact rp.1▸g.deep p hp
theorem fK {Q:Value→Shared→Prop} (hu:A.units+9<cLine) (I:Inv X pins σ H s) (e:Rd H d (GO X.w d kvs)) (g:GOk H kvs) (hy:(GV H k).1 y) (h8:gd k≤8) (hv:jN kvs k=some v) (ry:RelV y u)
  (h:∀w' s',Inv X pins σ H s'→RelV v w'→Q w' s'):wpAny (model X.prog X.w) A (getItem (.ref d) u) Q E s:=by
 obtain ⟨_,_,xs,rel,dd⟩:=I.gdict e g
 obtain ⟨w',hw,rw'⟩:=RelG.get rel hv
 exact dW hu ((GV.rel I.hok k).1 y u hy ry) h8 dd hw fun n=>h w' _ (I.tok n) rw'
theorem eQ {Q:Unit→Shared→Prop} (hu:A.units+9<cLine) (I:Inv X pins σ H s) (e:H d=some (GO X.w d kvs)) (g:GOk H kvs) (hy:(GV H k).1 y) (h8:gd k≤8) (hl:kvs.length<sizeLine) (ry:RelV y u) (rv:RelV v r)
  (h:∀s',Inv X pins σ (jB H d (GO X.w d (kT kvs k y v))) s'→Q () s'):wpAny (model X.prog X.w) A (setItem (.ref d) u r) Q E s:=by
 obtain ⟨_,hm,xs,rel,dd⟩:=I.gdict (.of e) g
 refine cU hu ((GV.rel I.hok k).1 y u hy ry) h8 dd (by rw [← Paired.length rel];omega) fun n h' dd' sb=>h _ ?_
 obtain ⟨o,es,ep,ho,hc,hd,he,_⟩:=dd'
 refine eR I (by rw [e];exact True.intro) sb ⟨o,ho⟩ ⟨⟨by have:=JB kvs k y v;omega,hm,_,RelG.set ry rv rel,o,es,ep,ho,hc,hd,he⟩,⟨o,ho⟩,?_⟩
 rintro h1 h2 ⟨a1,a2,xs',a3,o',es',ep',a4,a5⟩ kp
 exact ⟨a1,a2,xs',a3,o',es',ep',kp _ a4,a5⟩
end
end L2
namespace L2
open PySem PySem.Spec PyProof.Rows
theorem GOk.keep {H H':Hp} {kvs:List jU} (g:GOk H kvs) (hk:∀a l,H a=some (.tup l)→H' a=some (.tup l)):GOk H' kvs:=⟨fun p hp=>(GV.keep hk p.1).1 _ (g.key p hp),g.deep,g.once⟩
theorem GOk.nil {H:Hp}:GOk H []:=⟨fun _ h=>(nomatch h),fun _ h=>(nomatch h),List.nodup_nil⟩
theorem GOk.set {H:Hp} {kvs:List jU} {k:GK} {y v:V} (g:GOk H kvs) (hy:(GV H k).1 y) (h8:gd k≤8):GOk H (kT kvs k y v):=by
 unfold kT
 by_cases ha:(kvs.any fun x=>decide (x.1=k))=true
 ·rw [if_pos ha]
  refine ⟨fun p hp=>?_,fun p hp=>?_,?_⟩
  ·obtain ⟨q,hq,rfl⟩:=List.mem_map.mp hp
   have:=g.key q hq
   split<;>exact this
  ·obtain ⟨q,hq,rfl⟩:=List.mem_map.mp hp
   have:=g.deep q hq
   split<;>exact this
  ·rw [List.map_map,show ((fun x:jU=>x.1)∘fun x=>if x.1=k then (x.1,x.2.1,v) else x)=(·.1) from funext fun x=>by show (if x.1=k then (x.1,x.2.1,v) else x).1=x.1;split<;>rfl]
   exact g.once
 ·rw [if_neg ha]
  refine ⟨fun p hp=>?_,fun p hp=>?_,?_⟩
  ·rcases List.mem_append.mp hp with hp|hp
   ·exact g.key p hp
   ·cases List.mem_singleton.mp hp;exact hy
  ·rcases List.mem_append.mp hp with hp|hp
   ·exact g.deep p hp
   ·cases List.mem_singleton.mp hp;exact h8
  ·rw [List.map_append,List.nodup_append]
   refine ⟨g.once,by simp,fun a h1 b h2 e=>ha ?_⟩
   cases List.mem_singleton.mp h2
   obtain ⟨q,hq,rfl⟩:=List.mem_map.mp h1
   rw [List.any_eq_true]
   exact ⟨q,hq,decide_eq_true e⟩
theorem yH {kvs:List jU} {k k':GK} {y v:V}:jN (kT kvs k y v) k'=if k'=k then some v else jN kvs k':=by
 unfold kT
 by_cases ha:(kvs.any fun x=>decide (x.1=k))=true
 ·rw [if_pos ha]
  induction kvs with
  |nil=>cases ha
  |cons p t ih =>
   by_cases hp:p.1=k
   ·by_cases hk:k'=k
    ·subst hk;simp [jN,hp]
    ·have ne:¬p.1=k':=fun e=>hk (e▸hp)
     have ne2:¬k=k':=fun e=>hk e.symm
     rw [if_neg hk]
     have tl:∀l:List jU,jN (l.map fun x=>if x.1=k then (x.1,x.2.1,v) else x) k'=jN l k':=by
      intro l
      induction l with
      |nil=>rfl
      |cons q l ihl =>
       rw [List.map_cons]
       by_cases hq:q.1=k
       ·have n3:¬q.1=k':=fun e=>ne2 (hq▸e)
        rw [if_pos hq]
        unfold jN at ihl ⊢
        rw [List.find?_cons_of_neg (by simpa using n3),List.find?_cons_of_neg (by simpa using n3)]
        exact ihl
       ·rw [if_neg hq]
        unfold jN at ihl ⊢
        by_cases hq':q.1=k'
        ·rw [List.find?_cons_of_pos (by simpa using hq'),List.find?_cons_of_pos (by simpa using hq')]
        ·rw [List.find?_cons_of_neg (by simpa using hq'),List.find?_cons_of_neg (by simpa using hq')]
         exact ihl
     exact tl (p::t)
   ·have ha':(t.any fun x=>decide (x.1=k))=true:=by simpa [hp] using ha
    have:=ih ha'
    unfold jN at this ⊢
    by_cases hq:p.1=k'
    ·have:¬k'=k:=fun e=>hp (hq.trans e)
     simp [List.find?_cons,hp,hq,this]
    ·simpa [List.find?_cons,hp,hq] using this
 ·rw [if_neg ha]
  unfold jN
  rw [List.find?_append]
  by_cases hk:k'=k
  ·subst hk
   have:kvs.find? (fun x=>decide (x.1=k'))=none:=by
    rw [List.find?_eq_none]
    intro x hx e
    exact ha (List.any_eq_true.mpr ⟨x,hx,e⟩)
   simp [this]
  ·have n2:¬k=k':=fun e=>hk e.symm
   rw [if_neg hk]
   cases hf:kvs.find? (fun x=>decide (x.1=k'))<;>simp [n2]
def fS (w:World) (td ty:TE):TE:=fun σ H Q=>td σ H fun x H1=>ty σ H1 fun y H2=>∃(d:Addr) (kvs:List jU) (k:GK) (v:V),x=.ref d∧Rd H2 d (GO w d kvs)∧GOk H2 kvs∧(GV H2 k).1 y∧gd k≤8∧jN kvs k=some v∧Q v H2
def fY (w:World) (td ty tv:TE):TS:=fun D σ H=>tv σ H fun v H1=>td σ H1 fun x H2=>ty σ H2 fun y H3=>∃(d:Addr) (kvs:List jU) (k:GK),x=.ref d∧H3 d=some (GO w d kvs)∧GOk H3 kvs∧(GV H3 k).1 y∧gd k≤8∧kvs.length<sizeLine∧D.nx σ (jB H3 d (GO w d (kT kvs k y v)))
def fR (w:World):TE:=fun _ H Q=>∀p,H p=none→Q (.ref p) (jB H p (GO w p []))
section
variable {X:Cx} {o i e value:Expr} {pos pos':Pos} {td ty tv:TE}
theorem qX (hu:X.A.units+9<cLine) (ho:PE X o td) (hi:PE X i ty) (hs:bC i):PE X (.Subscript o i pos) (fS X.w td ty):=by
 intro pins s σ H Q I h
 refine d7 PySem.F.slot_dict_getitem.lookup hs (jF (ho pins s σ H _ I h) fun u s1 ⟨x,H1,I1,rx,q1⟩=>jF (hi pins s1 σ H1 _ I1 q1) fun iv s2 ⟨y,H2,I2,ry,d,kvs,k,v,ex,hd,g,hy,h8,hv,q2⟩=>?_)
 subst ex
 obtain rfl:u=Value.ref d:=rx
 obtain ⟨_,_,xs,_,dd⟩:=I2.gdict hd g
 exact ⟨dd.typeIs,fK hu I2 hd g hy h8 hv ry fun w' s3 I3 rw'=>⟨v,H2,I3,rw',q2⟩⟩
theorem ZD (hu:X.A.units+9<cLine) (ho:PE X o td) (hi:PE X i ty) (hv:PE X value tv) (hs:swapsWith value (some (.Subscript o i pos')) pos.line X.env=pure false) :
  PS X (.Assign [.Subscript o i pos'] value pos) (fY X.w td ty tv):=by
 intro pins s σ H D I h
 refine wpAny_Assign_Subscript (jF (hv pins s σ H _ I h) fun r s1 ⟨v,H1,I1,rv,q1⟩=>jF (ho pins s1 σ H1 _ I1 q1) fun u s2 ⟨x,H2,I2,rx,q2⟩=>jF (hi pins s2 σ H2 _ I2 q2) fun iv s3 ⟨y,H3,I3,ry,d,kvs,k,ex,hd,g,hy,h8,hl,q3⟩=>?_) hs
 subst ex
 obtain rfl:u=Value.ref d:=rx
 exact eQ hu I3 hd g hy h8 hl ry rv fun s4 I4=>⟨σ,_,I4,q3⟩
theorem ZF:PE X (.Dict [] [] pos) (fR X.w):=fun pins s σ H Q I h =>
 wpAny_Dict_empty ⟨.ref s.heap.objs.size,_,I.laid (a:=s.heap.objs.size) (o:=GO X.w s.heap.objs.size []) (t':=s.toks) (fun _ _ q=>Heap.get?_push_of_some _ q) (Nat.le_refl _)
  ⟨⟨Nat.zero_le _,beq_eq_false_iff_ne.mpr (Ne.symm (Nat.ne_of_lt I.big)),[],.nil,_,#[],0,Heap.get?_push_size _ rfl,⟨rfl,rfl,rfl⟩,rfl,rfl⟩,⟨_,Heap.get?_push_size _ rfl⟩,
   fun h1 h2 ⟨a1,a2,xs',a3,o',es',ep',a4,a5⟩ kp=>⟨a1,a2,xs',a3,o',es',ep',kp _ a4,a5⟩⟩,rfl,h _ (I.hok.fresh (Nat.le_refl _))⟩
theorem eA {s:Shared} {A:Around} {x y:GK} {v u:Value} (p:(GR s.heap x).1 v) (q:(GR s.heap y).1 u) (hu:A.units+gd x<cLine):SeqAt.RcAt A s v u (decide (x=y)):=by
 have tt:qK x=true→qK y=true→SeqAt.RcAt A s v u (decide (x=y)):=fun hx hy=>by
  obtain ⟨a,o,its,n,rfl,ho,hc,hd,hl⟩:=(GR.tup hx).1 p
  obtain ⟨a',o',its',n',rfl,ho',hc',hd',hl'⟩:=(GR.tup hy).1 q
  obtain ⟨e,he,hr⟩:=(zN x y).2 A.in1 _ _ hl hl' (by simp only [Around.in1_units];omega)
  have r:=SeqAt.RcAt.tuples (A:=A) (s:=s) (e:=e) (items:=its) (items2:=its') ⟨o,ho,hc,n,hd⟩ ⟨o',ho',hc',n',hd'⟩ (by omega) (fun j h1 h2=>by have:=he j (by simpa using h1) (by simpa using h2);rwa [Array.getElem_toList,Array.getElem_toList] at this)
  rw [Array.length_toList,Array.length_toList] at hr
  rw [hr] at r
  exact r
 have ti:qK x=true→∀n t,u=.int n t→SeqAt.RcAt A s v u false:=fun hx n t e=>by
  obtain ⟨a,o,its,m,rfl,ho,hc,hd,_⟩:=(GR.tup hx).1 p
  subst e
  exact SeqAt.RcAt.tuple_int _ _ ⟨o,ho,hc,_,hd⟩ (by omega)
 have ts:qK x=true→∀n t,u=.str n t→SeqAt.RcAt A s v u false:=fun hx n t e=>by
  obtain ⟨a,o,its,m,rfl,ho,hc,hd,_⟩:=(GR.tup hx).1 p
  subst e
  exact SeqAt.RcAt.tuple_str _ _ ⟨o,ho,hc,_,hd⟩ (by omega)
 have it:qK y=true→∀n t,v=.int n t→SeqAt.RcAt A s v u false:=fun hy n t e=>by
  obtain ⟨a,o,its,m,rfl,ho,hc,hd,_⟩:=(GR.tup hy).1 q
  subst e
  exact SeqAt.RcAt.int_tuple _ _ ⟨o,ho,hc,_,hd⟩ (by omega)
 have st:qK y=true→∀n t,v=.str n t→SeqAt.RcAt A s v u false:=fun hy n t e=>by
  obtain ⟨a,o,its,m,rfl,ho,hc,hd,_⟩:=(GR.tup hy).1 q
  subst e
  exact SeqAt.RcAt.str_tuple _ _ ⟨o,ho,hc,_,hd⟩ (by omega)
 cases x with
 |i n =>
  obtain ⟨t,rfl⟩:=p
  cases y with
  |i m=>obtain ⟨t',rfl⟩:=q;rw [show decide (GK.i n=GK.i m)=(n == m) by by_cases e:n=m<;>simp [e]];exact SeqAt.RcAt.int_int n t m t'
  |s z=>obtain ⟨t',rfl⟩:=q;exact SeqAt.RcAt.int_str _ _ _ _
  |nil=>exact it rfl n t rfl
  |cons a b=>exact it rfl n t rfl
 |s n =>
  obtain ⟨t,rfl⟩:=p
  cases y with
  |i m=>obtain ⟨t',rfl⟩:=q;exact SeqAt.RcAt.str_int _ _ _ _
  |s z=>obtain ⟨t',rfl⟩:=q;rw [show decide (GK.s n=GK.s z)=(n == z) by by_cases e:n=z<;>simp [e]];exact SeqAt.RcAt.str_str n t z t'
  |nil=>exact st rfl n t rfl
  |cons a b=>exact st rfl n t rfl
 |nil =>
  cases y with
  |i m=>obtain ⟨t',e⟩:=q;exact ti rfl m t' e
  |s z=>obtain ⟨t',e⟩:=q;exact ts rfl z t' e
  |nil=>exact tt rfl rfl
  |cons a b=>exact tt rfl rfl
 |cons a b =>
  cases y with
  |i m=>obtain ⟨t',e⟩:=q;exact ti rfl m t' e
  |s z=>obtain ⟨t',e⟩:=q;exact ts rfl z t' e
  |nil=>exact tt rfl rfl
  |cons a b=>exact tt rfl rfl
def gX:R2:=fun x y H Q=>∃k k',(GV H k).1 x∧(GV H k').1 y∧gd k≤8∧Q (.bl (decide (k=k'))) H
theorem ZP (hu:X.A.units+9<cLine):OpR X (compareOp .Eq) gX:=by
 intro pins s σ H x y v u Q I rx ry h
 obtain ⟨k,k',hx,hy,h8,q⟩:=h
 exact eA ((GV.rel I.hok k).1 x v hx rx) ((GV.rel I.hok k').1 y u hy ry) (by omega) X.prog X.w X.xe _ ⟨.bl _,H,I,rfl,q⟩
def gS (K:PySem.W.Frag):R2:=fun x y H Q=>∃(a b:Addr) (xs:List V),x=.ref a∧y=.ref b∧SqL K H a xs∧SqL K H b xs∧(∀z∈xs,∃k,(GV H k).1 z∧gd k≤8)∧Q (.bl false) H
theorem fC (hu:X.A.units+10<cLine):OpR X (compareOp .NotEq) (gS X.K):=by
  intro pins s σ H x y v u Q I rx ry h
  obtain ⟨a,b,xs,rfl,rfl,ha,hb,hk,q⟩:=h
  cases rx
  cases ry
  obtain ⟨its,r,pl,hz⟩:=I.list ha
  obtain ⟨its2,r2,pl2,hz2⟩:=I.list hb
  have hl:=r.length
  have hl2:=r2.length
  refine SeqAt.RcNeAt.lists (e:=fun _=>true) pl.isList pl2.isList (by rw [List.size_toArray,List.size_toArray,← hl,← hl2]) (by omega) (fun j h1 h2=>?_) X.prog X.w X.xe _ ⟨.bl _,H,I,rfl,?_⟩
  · have hj:j<xs.length:=by rw [hl];simpa using h1
    obtain ⟨k,hz,h8⟩:=hk (xs.getD j .non) (by rw [List.getD_eq_getElem?_getD,List.getElem?_eq_getElem hj];exact List.getElem_mem hj)
    have:=(zN k k).1 X.A.in1 _ _ ((GV.rel I.hok k).1 _ _ hz (vX r h1)) ((GV.rel I.hok k).1 _ _ hz (vX r2 h2)) (by simp only [Around.in1_units];omega)
    rwa [decide_eq_true rfl] at this
  · have e:(!(List.range its.toArray.size).all fun _=>true)=false:=by simp
    rw [e]
    exact q
end
end L2
namespace L2
open PySem PySem.Spec PyProof.Rows
section
variable {X:Cx} {pins:List (Addr×Obj)} {σ:List (Option V)} {H:Hp} {s:Shared}
def FnO (f:Addr) (o:Obj):HO:=.ext fun h=>h.get? f=some o
theorem Inv.fnMade {P:Addr} {ps more:Array Value} {h':Heap} {o:Obj} {t':Nat} (I:Inv X pins σ H s) (hP:H P=some (.tbl ps)) (hx:Heap.ExtBut P s.heap h') (hsz:s.heap.objs.size≤h'.objs.size) (hP':h'.get? P=some {cls:=.none,data:=.fields (ps++more)}) (hfr:o.isFreed=false) :
  Inv X pins σ (jB (jB H P (.tbl (ps++more))) h'.objs.size (FnO h'.objs.size o)) {s with heap:=h'.push o,toks:=t'}:=by
 have hPs:ObjOk X.prog X.w H s.heap P (.tbl ps):=I.hok P _ hP
 have key:∀b u,b≠P→s.heap.get? b=some u→(h'.push o).get? b=some u:=fun b u hb e=>Heap.get?_push_of_some _ (hx b u hb e)
 have hlt:∀b,b<s.heap.objs.size→b≠h'.objs.size:=fun b e=>Nat.ne_of_lt (Nat.lt_of_lt_of_le e hsz)
 have hf:∀b u,s.heap.get? b=some u→b≠h'.objs.size:=fun b u e=>hlt b (Heap.lt_size e)
 have ht:∀b u,H b=some u→b≠h'.objs.size:=fun b u e=>hlt b (I.hok b u e).lt
 have hfP:P≠h'.objs.size:=ht P _ hP
 have hnP:∀b,H b=none→b≠P:=fun b n z=>by rw [z,hP] at n;cases n
 have hoP:∀b u,H b=some u→u≠.tbl ps→b≠P:=fun b u e n z=>by rw [z,hP] at e;cases e;exact n rfl
 refine I.un ⟨fun b ob e n _ _=>key b ob (hnP b n) e,fun b ob e n _ _=>⟨ob.slots,key b ob (hnP b n) e⟩,fun b ob e n _=>?_,fun b ob e _=>?_,fun b xs e=>?_,fun b ob u e=>?_,fun b qs e=>?_⟩ fun b u e=>?_
 ·rw [jC (hf b ob e),jC (hnP b n)];exact n
 ·by_cases z:b=P
  ·subst z;exact ⟨_,Heap.get?_push_of_some _ hP'⟩
  ·exact ⟨ob,key b ob z e⟩
 ·rw [jC (ht b _ e),jC (hoP b _ e (fun z=>nomatch z))];exact e
 ·rw [jC (ht b _ e),jC (hoP b _ e (fun z=>nomatch z))];exact e
 ·by_cases z:b=P
  ·subst z
   rw [hP] at e;cases e
   exact ⟨more,by rw [jC hfP,jJ]⟩
  ·exact ⟨#[],by rw [jC (ht b _ e),jC z,e];simp⟩
 ·by_cases z:b=h'.objs.size
  ·subst z
   rw [jJ] at e;cases e
   exact ⟨Heap.get?_push_size _ hfr,⟨_,Heap.get?_push_size _ hfr⟩,fun h1 h2 q k=>k _ q⟩
  rw [jC z] at e
  by_cases zP:b=P
  ·subst zP
   rw [jJ] at e;cases e
   exact Heap.get?_push_of_some _ hP'
  rw [jC zP] at e
  refine (I.hok b u e).stay (fun c v hc r=>key c v ?_ r) (fun c r=>?_) fun c xs r=>?_
  ·rcases hc with rfl|hc
   ·exact zP
   ·exact hoP c _ hc (fun z=>nomatch z)
  ·rw [jC (ht c _ r),jC (hoP c _ r (fun z=>nomatch z))];exact r
  ·rw [jC (ht c _ r),jC (hoP c _ r (fun z=>nomatch z))];exact r
end
end L2
namespace L2
open PySem PySem.Spec PyProof.Rows
def j8 (H:Hp) (cs:List Addr):Hp:=fun b=>if b∈cs then none else H b
def j5 (H' H:Hp) (cs:List Addr):Hp:=fun b=>if b∈cs then H b else H' b
theorem zF {H:Hp} {cs:List Addr} {b:Addr} (h:b∈cs):j8 H cs b=none:=if_pos h
theorem j0 {H:Hp} {cs:List Addr} {b:Addr} (h:b∉cs):j8 H cs b=H b:=if_neg h
theorem vY {H H':Hp} {cs:List Addr} {b:Addr} (h:b∈cs):j5 H' H cs b=H b:=if_pos h
theorem j6 {H H':Hp} {cs:List Addr} {b:Addr} (h:b∉cs):j5 H' H cs b=H' b:=if_neg h
section
variable {P:Program} {w:World} {H H' HC:Hp} {h h':Heap} {cs fs:List Addr}
theorem FnO.ok {c:Addr} {o:Obj} (e:h.get? c=some o):ObjOk P w H h c (FnO c o):=⟨e,⟨o,e⟩,fun _ _ q k=>k _ q⟩
theorem FnO.get {c:Addr} {o:Obj} (x:HOk P w H h) (e:H c=some (FnO c o)):h.get? c=some o:=(x c _ e).1
def v0 (H:Hp) (cs:List Addr):Prop:=∀c∈cs,∃o,H c=some (FnO c o)
theorem HOk.hide (x:HOk P w H h) (hc:v0 H cs):HOk P w (j8 H cs) h:=fun b u e=>by
 by_cases hb:b∈cs
 ·rw [zF hb] at e;cases e
 ·rw [j0 hb] at e
  refine (x b u e).stay (fun _ _ _ q=>q) (fun c q=>?_) fun c xs q=>?_
  ·rw [j0];exact q
   intro hin;obtain ⟨o,e2⟩:=hc c hin;rw [q] at e2;cases e2
  ·rw [j0];exact q
   intro hin;obtain ⟨o,e2⟩:=hc c hin;rw [q] at e2;cases e2
theorem HOk.unhide (x:HOk P w H' h) (hn:∀c∈cs,H' c=none) (hc:∀c∈cs,∃o,H c=some (FnO c o)∧h.get? c=some o):HOk P w (j5 H' H cs) h:=fun b u e=>by
 by_cases hb:b∈cs
 ·rw [vY hb] at e
  obtain ⟨o,e2,g⟩:=hc b hb
  rw [e2] at e;cases e
  exact FnO.ok g
 ·rw [j6 hb] at e
  refine (x b u e).stay (fun _ _ _ q=>q) (fun c q=>?_) fun c xs q=>?_
  ·rw [j6];exact q
   intro hin;rw [hn c hin] at q;cases q
  ·rw [j6];exact q
   intro hin;rw [hn c hin] at q;cases q
theorem Un.unhide (u:Un fs [] (j8 H cs) H' h h') (hc:v0 H cs):Un fs [] H (j5 H' H cs) h h':=by
 have no:∀b,H b=none→b∉cs:=fun b n hin=>by obtain ⟨o,e⟩:=hc b hin;rw [n] at e;cases e
 have nt:∀b v,H b=some v→(∀o,v≠FnO b o)→b∉cs:=fun b v e n hin=>by obtain ⟨o,e2⟩:=hc b hin;rw [e] at e2;cases e2;exact n o rfl
 refine ⟨fun b o e n=>u.keep b o e (by rw [j0 (no b n)];exact n),fun b o e n=>u.slot b o e (by rw [j0 (no b n)];exact n),fun b o e n hx=>?_,fun b o e hx=>u.there b o e hx,fun b xs e=>?_,fun b o v e=>?_,fun b ps e=>?_⟩
 ·rw [j6 (no b n)];exact u.free b o e (by rw [j0 (no b n)];exact n) hx
 ·have:=nt b _ e (fun _ z=>nomatch z)
  rw [j6 this];exact u.tups b xs (by rw [j0 this];exact e)
 ·have:=nt b _ e (fun _ z=>nomatch z)
  rw [j6 this];exact u.frzs b o v (by rw [j0 this];exact e)
 ·have:=nt b _ e (fun _ z=>nomatch z)
  rw [j6 this];exact u.tbls b ps (by rw [j0 this];exact e)
theorem Un.hide (u:Un fs [] (j5 H HC cs) H' h h') (hn:∀c∈cs,H c=none) (hc:∀c∈cs,∃o,HC c=some (FnO c o)∧h.get? c=some o) (he:∀c∈cs,H' c=HC c) (hf:∀c∈cs,c∉fs) (x:HOk P w H' h'):Un fs [] H (j8 H' cs) h h':=by
 have nt:∀b v,H b=some v→b∉cs:=fun b v e hin=>by rw [hn b hin] at e;cases e
 refine ⟨fun b o e n h1 h2=>?_,fun b o e n h1 h2=>?_,fun b o e n hx=>?_,fun b o e hx=>u.there b o e hx,fun b xs e=>?_,fun b o v e=>?_,fun b ps e=>?_⟩
 ·by_cases hb:b∈cs
  ·obtain ⟨o',e1,e2⟩:=hc b hb
   rw [e] at e2;cases e2
   exact FnO.get x ((he b hb).trans e1)
  ·exact u.keep b o e (by rw [j6 hb];exact n) h1 h2
 ·exact u.slot b o e (by rw [j6 fun hb=>hf b hb h1];exact n) h1 h2
 ·by_cases hb:b∈cs
  ·exact zF hb
  ·rw [j0 hb];exact u.free b o e (by rw [j6 hb];exact n) hx
 ·have:=nt b _ e
  rw [j0 this];exact u.tups b xs (by rw [j6 this];exact e)
 ·have:=nt b _ e
  rw [j0 this];exact u.frzs b o v (by rw [j6 this];exact e)
 ·have:=nt b _ e
  rw [j0 this];exact u.tbls b ps (by rw [j6 this];exact e)
end
structure CloScope (N ps fr:List Str) (sc:Scope):Prop where
 kind:sc.kind=.function
 co:sc.isCoroutine=false
 gen:sc.isGenerator=false
 nd:N.Nodup
 pre:N.take (ps++fr).length=ps++fr
 par:∀x∈ps,sc.names.lookup x=some .local
 fre:∀x∈fr,sc.names.lookup x=some .free
 onl:∀x,sc.names.lookup x=some .free→x∈fr
 noc:∀y∈sc.names,y.2≠.cell
def vZ (CX:kA) (P:Program) (w:World) (K:PySem.W.Frag) (mg:Str→Option Value) (base:Heap) (N:List Str) (qual:Str) (scope:Scope) (f:Addr) (cd:Value) (cl:List (Str×Addr)) (A:Around) (outer:List Env) (s:Shared) (H:Hp) (E:XK):Cx where
 prog:=P
 w:=w
 K:=K
 mg:=mg
 base:=base
 A:=A.deeper (PySem.W.envX qual scope s.heap.objs.size f cd cl)
 N:=N
 s₀:=s
 H₀:=j8 H (cl.map (·.2))
 env:=PySem.W.envX qual scope s.heap.objs.size f cd cl
 outer:=outer
 stack:=PySem.W.envX qual scope s.heap.objs.size f cd cl::outer
 ex:=[]
 calm:=true
 fn:=fun _=>false
 pn:=[]
 xe:=fun e s'=>wpAny (model P w) (A.deeper (PySem.W.envX qual scope s.heap.objs.size f cd cl)) (leaving (PySem.W.envX qual scope s.heap.objs.size f cd cl) e) (fun _ s''=>CX outer H s E e s'') (fun e' s''=>CX outer H s E e' s'') s'
end L2
namespace L2
open PySem PySem.Spec PyProof.Rows
structure CloAt (H:Hp) (f:Addr) (qual:Str) (params:Arguments) (body:List Stmt) (scope:Scope) (cl:List (Str×Addr)) (fvs:List V) (cdv:Value) (fd:FuncData):Prop where
 fn:∃fo name doc pm an ct,H f=some (FnO f fo)∧fo.data=.func fd∧fd=PySem.W.fnX name qual params body scope cl .none .none doc pm an cdv ct
 code:∃c oc vs t,cdv=.ref c∧H c=some (FnO c oc)∧oc.data=.fields vs∧vs[1]?=some (.str qual t)
 once:(cl.map (·.2)).Nodup
 len:fvs.length=cl.length
 cell:∀(i:Nat) (x:Str) (c:Addr) (v:V),cl[i]?=some (x,c)→fvs[i]?=some v→∃o u,H c=some (FnO c o)∧o.data=.cell (some u)∧RelV v u
theorem CloAt.cells {H:Hp} {f:Addr} {qual:Str} {params:Arguments} {body:List Stmt} {scope:Scope} {cl:List (Str×Addr)} {fvs:List V} {cdv:Value} {fd:FuncData} (C:CloAt H f qual params body scope cl fvs cdv fd):v0 H (cl.map (·.2)):=fun c hc=>by
 obtain ⟨⟨x,c'⟩,hm,rfl⟩:=List.mem_map.mp hc
 obtain ⟨i,hi⟩:=List.mem_iff_getElem?.mp hm
 have hlt:i<fvs.length:=by rw [C.len];exact (List.getElem?_eq_some_iff.mp hi).1
 obtain ⟨o,u,e,_⟩:=C.cell i x c' _ hi (List.getElem?_eq_getElem hlt)
 exact ⟨o,e⟩
theorem J9 {β:Type} {n:Str} {c:β}:∀{cs:List (Str×β)},(cs.map (·.1)).Nodup→(n,c)∈cs→cs.lookup n=some c
 |[],_,hm=>nomatch hm
 | (m,d)::cs,hn,hm=>by
  rw [List.map_cons,List.nodup_cons] at hn
  rw [List.lookup_cons]
  rcases List.mem_cons.mp hm with e|hm
  ·cases e;rw [beq_self_eq_true]
  ·have ne:(n == m)=false:=beq_eq_false_iff_ne.mpr fun e=>hn.1 (e▸List.mem_map.mpr ⟨_,hm,rfl⟩)
   rw [ne]
   exact J9 hn.2 hm
theorem dS {cl:List (Str×Addr)} (hn:(cl.map (·.2)).Nodup) {x y:Str} {c:Addr} (h1:cl.lookup x=some c) (h2:cl.lookup y=some c):x=y:=by
 obtain ⟨i,hi⟩:=List.mem_iff_getElem?.mp (PySem.mem_of_lookup h1)
 obtain ⟨j,hj⟩:=List.mem_iff_getElem?.mp (PySem.mem_of_lookup h2)
 have a:(cl.map (·.2))[i]?=some c:=by rw [List.getElem?_map,hi];rfl
 have b:(cl.map (·.2))[j]?=some c:=by rw [List.getElem?_map,hj];rfl
 obtain rfl:=(List.getElem?_inj (List.getElem?_eq_some_iff.mp a).1 hn).mp (a.trans b.symm)
 rw [hi] at hj
 cases hj
 rfl
section
variable {CX:kA} {P:Program} {w:World} {K:PySem.W.Frag} {mg:Str→Option Value} {base:Heap} {N ps fr:List Str} {qual:Str} {params:Arguments} {body:List Stmt} {scope:Scope} {f:Addr} {cdv:Value} {fd:FuncData} {cl:List (Str×Addr)} {A:Around} {outer:List Env} {s:Shared} {H:Hp} {E:XK} {Q:VK} {us:List Value} {vs fvs:List V} {k:Nat} {args:Args}
theorem eM {h1:Heap} {tk:Nat} (S:CloScope N ps fr scope) (hd:A.handled=none) (e0:Env0 P w K mg base A outer s H) (hl:vs.length=ps.length) (r:Vals vs us) (C:CloAt H f qual params body scope cl fvs cdv fd) (hcl:cl.map (·.1)=fr)
  (hns:h1.Ns s.heap.objs.size fun x=>(ps.zip us).reverse.lookup x) (hk:∀b o,s.heap.get? b=some o→h1.get? b=some o) :
  Inv (vZ CX P w K mg base N qual scope f cdv cl A outer s H E) [] (kC N (vs++fvs)) (j8 H (cl.map (·.2))) {s with heap:=h1,toks:=tk}:=by
 have hlen:cl.length=fr.length:=by rw [← hcl,List.length_map]
 have hpl:ps.length+fr.length≤N.length:=by have:=congrArg List.length S.pre;rw [List.length_take,List.length_append] at this;omega
 have hfl:fvs.length=fr.length:=C.len.trans hlen
 have ndF:(ps++fr).Nodup:=by rw [← S.pre];exact S.nd.sublist (List.take_sublist _ _)
 have ndP:ps.Nodup:=(List.nodup_append.mp ndF).1
 have ndC:(cl.map (·.1)).Nodup:=by rw [hcl];exact (List.nodup_append.mp ndF).2.1
 have del0:∀b,H b=none→j8 H (cl.map (·.2)) b=none:=fun b n=>by unfold j8;split;rfl;exact n
 have noA:∀b:Addr,b∉(vZ CX P w K mg base N qual scope f cdv cl A outer s H E).ex:=fun b z=>absurd (show b∈([]:List Addr) from z) (by simp)
 have cellOf:∀x c,cl.lookup x=some c→∃o,H c=some (FnO c o)∧∃u,o.data=.cell (some u):=fun x c h=>by
  obtain ⟨i,hi⟩:=List.mem_iff_getElem?.mp (PySem.mem_of_lookup h)
  have hlt:i<fvs.length:=by rw [C.len];exact (List.getElem?_eq_some_iff.mp hi).1
  obtain ⟨o,u,e,e2,_⟩:=C.cell i x c _ hi (List.getElem?_eq_getElem hlt)
  exact ⟨o,e,u,e2⟩
 refine ⟨⟨e0.mod,S.kind,rfl,rfl,Nat.le_refl _,fun y z c h1 h2=>dS C.once h1 h2,fun y hy=>?_,fun y c q=>(nomatch q),fun _=>hd,Around.frames_deeper e0.frames,.inr ⟨rfl,rfl⟩,fun b z=>absurd z (noA b),fun b o e=>⟨(e0.bs b o e).1,del0 b (e0.bs b o e).2⟩,e0.bsz,fun b _ _=>noA b,fun b z=>absurd z (noA b),e0.funs,fun b hb=>del0 b (e0.frf b hb)⟩,
  rfl,e0.bare,Un.kept hk,⟨_,hns,fun i y v h1 h2 h3=>?_⟩,fun y c h=>?_,del0 _ (e0.hok.fresh (Nat.le_refl _)),fun y c h=>zF (List.mem_map.mpr ⟨_,PySem.mem_of_lookup h,rfl⟩),fun p hp=>absurd (show p∈([]:List (Addr×Obj)) from hp) (by simp),(e0.hok.hide C.cells).kept hk,?_⟩
 ·have hy:scope.names.lookup y=some .cell∨scope.names.lookup y=some .free:=hy
  rcases hy with hy|hy
  ·exact absurd rfl (S.noc _ (PySem.mem_of_lookup hy))
  ·have:=S.onl y hy
   rw [← hcl] at this
   obtain ⟨⟨x,c⟩,hm,rfl⟩:=List.mem_map.mp this
   exact ⟨c,lookup_of_mem_nodup ndC hm⟩
 ·have hi:i<(vs++fvs).length:=by
   unfold kC at h2
   by_cases hi:i<(vs++fvs).length
   ·exact hi
   ·rw [List.getElem?_append_right (by simpa using hi),List.getElem?_replicate] at h2
    split at h2<;>cases h2
  have ha:(vs++fvs)[i]?=some v:=by
   unfold kC at h2
   rw [List.getElem?_append_left (by simpa using hi),List.getElem?_map] at h2
   cases e:(vs++fvs)[i]? with
   |none=>rw [e] at h2;cases h2
   |some a=>rw [e] at h2;cases h2;rfl
  have hp:(ps++fr)[i]?=some y:=by
   rw [← S.pre,List.getElem?_take_of_lt (by rw [List.length_append] at hi ⊢;omega)];exact h1
  by_cases hv:i<ps.length
  ·rw [List.getElem?_append_left hv] at hp
   rw [List.getElem?_append_left (by omega)] at ha
   obtain ⟨u,hu,rv⟩:=r.get ha
   refine ⟨u,rv,.inl ⟨S.par y (List.mem_of_getElem? hp),?_⟩⟩
   refine J9 ?_ (List.mem_reverse.mpr ?_)
   ·rw [List.map_reverse]
    refine List.pairwise_reverse.mpr (List.Pairwise.imp (fun h=>Ne.symm h) ?_)
    rw [List.map_fst_zip (by rw [← r.length,hl];exact Nat.le_refl _)]
    exact ndP
   ·refine List.mem_iff_getElem?.mpr ⟨i,?_⟩
    rw [List.getElem?_zip_eq_some]
    exact ⟨hp,hu⟩
  ·rw [List.getElem?_append_right (by omega)] at hp
   rw [List.getElem?_append_right (by omega),hl] at ha
   rw [← hcl,List.getElem?_map] at hp
   obtain ⟨⟨x,c⟩,hc,rfl⟩:=Option.map_eq_some_iff.mp hp
   obtain ⟨o,u,e,e2,rv⟩:=C.cell _ x c v hc ha
   refine ⟨u,rv,.inr ⟨.inr (S.fre x ?_),c,lookup_of_mem_nodup ndC (List.mem_of_getElem? hc),o,hk _ _ (FnO.get e0.hok e),e2⟩⟩
   rw [← hcl]
   exact List.mem_map.mpr ⟨_,List.mem_of_getElem? hc,rfl⟩
 ·obtain ⟨o,e,u,e2⟩:=cellOf y c h
  exact ⟨some u,o,hk _ _ (FnO.get e0.hok e),e2⟩
 ·unfold kC
  show _=N.length
  rw [List.length_append,List.length_map,List.length_replicate,List.length_append]
  omega
theorem eS (S:CloScope N ps fr scope) (hr:Room (k+1) A) (e0:Env0 P w K mg base A outer s H) (hl:vs.length=ps.length) (r:Vals vs us) (C:CloAt H f qual params body scope cl fvs cdv fd) (hcl:cl.map (·.1)=fr) (hb:BindsTo s fd args (ps.zip us))
  (hbody:Room k (A.deeper (PySem.W.envX qual scope s.heap.objs.size f cdv cl))→
   ∃t,PSs (vZ CX P w K mg base N qual scope f cdv cl A outer s H E) body t∧t {nx:=fun _ H'=>(∀c∈cl.map (·.2),H' c=none)→Q .non (j5 H' H (cl.map (·.2))),rt:=fun v H'=>(∀c∈cl.map (·.2),H' c=none)→Q v (j5 H' H (cl.map (·.2)))} (kC N (vs++fvs)) (j8 H (cl.map (·.2)))) :
  codeAny (model P w) A (.call (.ref f) args) (CR CX outer P w H s Q E) s:=by
 obtain ⟨fo,name,doc,pm,an,ct,hf,hd,rfl⟩:=C.fn
 have hcode:s.heap.CodeRec cdv qual:=by
  obtain ⟨c,oc,vs',t,e,e1,e2,e3⟩:=C.code
  exact ⟨c,oc,vs',t,e,FnO.get e0.hok e1,e2,e3⟩
 have lim:s.heap.NoLimit:=e0.mod.nolimit.keeps fun b o e=>(e0.bs b o e).1
 refine codeAny_call_def hr.depth (FnO.get e0.hok hf) hd lim hcode rfl hb S.noc (fun x hx=>S.par x.1 (List.of_mem_zip hx).1) (fun h1 hns hk=>?_) S.co S.gen S.kind
 obtain ⟨t,ht,hq⟩:=hbody (hr.deeper _)
 have I:Inv (vZ CX P w K mg base N qual scope f cdv cl A outer s H E) [] (kC N (vs++fvs)) (j8 H (cl.map (·.2))) {s with heap:=h1,toks:=s.toks+(ps.zip us).length}:=eM S hr.hd e0 hl r C hcl hns hk
 refine wpAny_mono (ht [] _ _ _ _ I hq) (fun fl s' hs=>?_) fun e s' hs=>hs
 have fin:∀{σ':St} {H':Hp} {v:V} {u:Value},Inv (vZ CX P w K mg base N qual scope f cdv cl A outer s H E) [] σ' H' s'→RelV v u→((∀c∈cl.map (·.2),H' c=none)→Q v (j5 H' H (cl.map (·.2))))→CE outer P w H s Q u s':=fun {σ' H' v u} J rv q=>by
  have hn:∀c∈cl.map (·.2),H' c=none:=fun c hc=>by
   obtain ⟨⟨x,c'⟩,hm,rfl⟩:=List.mem_map.mp hc
   have ndC:(cl.map (·.1)).Nodup:=by
    have ndF:(ps++fr).Nodup:=by rw [← S.pre];exact S.nd.sublist (List.take_sublist _ _)
    rw [hcl];exact (List.nodup_append.mp ndF).2.1
   exact J.freeC x c' (lookup_of_mem_nodup ndC hm)
  refine ⟨v,_,J.os,J.bare,Un.unhide J.base C.cells,HOk.unhide J.hok hn fun c hc=>?_,rv,q hn⟩
  ·obtain ⟨o,e⟩:=C.cells c hc
   refine ⟨o,e,J.base.keep c o (FnO.get e0.hok e) (zF hc) (fun hin=>?_) (by intro z;cases z)⟩
   have:=e0.frf c hin
   rw [e] at this;cases this
 cases fl with
 |ret u =>
  obtain ⟨v,σ',H',J,rv,q⟩:=hs
  exact fin J rv q
 |next =>
  obtain ⟨σ',H',J,q⟩:=hs
  exact fin (v:=V.non) (u:=Value.none) J rfl q
 |brk =>
  obtain ⟨_,_,_,q⟩:=hs
  exact False.elim q
 |cont =>
  obtain ⟨_,_,_,q⟩:=hs
  exact False.elim q
end
end L2
namespace L2
open PySem PySem.Spec PyProof.Rows
structure FnV (P:Program) (w:World) (K:PySem.W.Frag) (mg:Str→Option Value) (base:Heap) (CX:kA) (k:Nat) (sp:Addr→Sp):Prop where
 fn:∀f vs H Q E,sp f vs H Q E→∃fo fd,H f=some (FnO f fo)∧fo.data=.func fd
 run:∀(A:Around) (outer:List Env) (s:Shared) (H:Hp) (f:Addr) (us:List Value) (vs:List V) (Q:VK) (E:XK),Room k A→Env0 P w K mg base A outer s H→Vals vs us→sp f vs H Q E→
  codeAny (model P w) A (.call (.ref f) ⟨us,[]⟩) (CR CX outer P w H s Q E) s
def yQ (qual:Str) (params:Arguments) (body:List Stmt) (scope:Scope) (ps fr:List Str) (sp:List Addr→List V→Sp) (f:Addr):Sp:=fun vs H Q E=>vs.length=ps.length∧
 ∃cl fvs cdv fd,CloAt H f qual params body scope cl fvs cdv fd∧cl.map (·.1)=fr∧sp (cl.map (·.2)) fvs vs H Q E
theorem ZR {CX:kA} {P:Program} {w:World} {K:PySem.W.Frag} {mg:Str→Option Value} {base:Heap} {N ps fr:List Str} {qual:Str} {params:Arguments} {body:List Stmt} {scope:Scope} {k:Nat} {sp:List Addr→List V→Sp} (S:CloScope N ps fr scope)
  (hb:∀(name:Str) (cl:List (Str×Addr)) (doc pm:Value) (an:Option Addr) (cdv ct:Value) (us:List Value),us.length=ps.length→bindArgs (PySem.W.fnX name qual params body scope cl .none .none doc pm an cdv ct) ⟨us,[]⟩=pure (ps.zip us))
  (hbody:∀(A:Around) (outer:List Env) (s:Shared) (H:Hp) (f:Addr) (cdv:Value) (cl:List (Str×Addr)) (fvs vs:List V) (Q:VK) (E:XK),cl.map (·.1)=fr→Room k (A.deeper (PySem.W.envX qual scope s.heap.objs.size f cdv cl))→v0 H (cl.map (·.2))→sp (cl.map (·.2)) fvs vs H Q E→
   ∃t,PSs (vZ CX P w K mg base N qual scope f cdv cl A outer s H E) body t∧t {nx:=fun _ H'=>(∀c∈cl.map (·.2),H' c=none)→Q .non (j5 H' H (cl.map (·.2))),rt:=fun v H'=>(∀c∈cl.map (·.2),H' c=none)→Q v (j5 H' H (cl.map (·.2)))} (kC N (vs++fvs)) (j8 H (cl.map (·.2)))) :
  FnV P w K mg base CX (k+1) (yQ qual params body scope ps fr sp):=by
 refine ⟨fun f vs H Q E h=>?_,fun A outer s H f us vs Q E hr e0 r h=>?_⟩
 ·obtain ⟨_,cl,fvs,cdv,fd,C,_⟩:=h
  obtain ⟨fo,_,_,_,_,_,h1,h2,_⟩:=C.fn
  exact ⟨fo,fd,h1,h2⟩
 ·obtain ⟨hl,cl,fvs,cdv,fd,C,hcl,hs⟩:=h
  obtain ⟨fo,name,doc,pm,an,ct,_,_,hfd⟩:=C.fn
  refine eS S hr e0 hl r C hcl (.of_eq ?_) fun hr'=>hbody A outer s H f cdv cl fvs vs Q E hcl hr' C.cells hs
  rw [hfd]
  exact hb name cl doc pm an cdv ct us (r.length▸hl)
theorem cD {M:Model} {A:Around} {E:Value→Shared→Prop} {s:Shared} {env:Env} {pos:Pos} {f:Addr} {e:Expr} {rest:List Expr} {Q:Value→Shared→Prop}
  (h:wpAny M A (spliced (backTo pos (starEach (e::rest) env))) (fun vs s1=>∃fo fd,s1.heap.get? f=some fo∧fo.data=.func fd∧wpAny M A (call (.ref f) vs) Q E s1) E s)
  (he:starEach (e::rest) env=(false,eval e env)::starEach rest env) (hpl:(backTo pos (starEach rest env)).any (·.1)=false):wpAny M A (callWith pos (.ref f) [] (backTo pos (starEach (e::rest) env)) []) Q E s:=by
 rw [he] at h ⊢
 refine PySem.W.callWith_of (P:=fun g=>∃fo fd,g.get? f=some fo∧fo.data=.func fd) (by show ((false||(backTo pos (starEach rest env)).any (·.1))||false)=false;rw [hpl];rfl) (fun g hg=>?_) (PySem.Calls.evalArgs_plain (wpAny_mono h (fun vs s1 h1=>?_) fun _ _ y=>y))
 ·obtain ⟨⟨cls,dict,data,slots⟩,fd,ho,hd⟩:=hg
  cases hd
  exact ⟨.frame,.inl rfl,(PySem.W.Looks.ld (part:=none) ho).andThen .now⟩
 ·obtain ⟨fo,fd,ho,hd,q⟩:=h1
  exact ⟨⟨fo,fd,ho,hd⟩,q⟩
section
variable {X:Cx} {CX:kA} {k:Nat} {sp:Addr→Sp} {E:XK} {x:Str} {p pos:Pos} {e:Expr} {es:List Expr} {t:TA} {i:Nat}
def eZ (i:Nat) (sp:Addr→Sp) (E:XK) (t:TA):TE:=fun σ H Q=>∃f,σ[i]?=some (some (.ref f))∧t σ H fun vs H1=>sp f vs H1 Q E
theorem QW (F:FnV X.prog X.w X.K X.mg X.base CX k sp) (hr:Room k X.A) (hx:zO CX X E) (hN:X.N[i]?=some x) (hv:yU X.env.scope x) (ha:PA X (e::es) t) (hd:(x == ("__debug__":Str))=false:=by decide) (hcd:(x == ("__classdict__":Str))=false:=by decide)
  (he:starEach (e::es) X.env=(false,eval e X.env)::starEach es X.env:=by rfl) (hpl:(backTo pos (starEach es X.env)).any (·.1)=false:=by rfl):PE X (.Call (.Name x p) (e::es) [] pos) (eZ i sp E t):=by
 intro pins s σ H Q I h
 obtain ⟨f,e1,h⟩:=h
 refine wpAny_Call_Name_kw (jF (ZO hN hv hd hcd pins s σ H (fun v H'=>v=V.ref f∧t σ H' fun vs H1=>sp f vs H1 Q E) I ⟨.ref f,e1,rfl,h⟩) fun u s1 ⟨x',H1,I1,rx,ex,q1⟩=>?_)
 subst ex
 obtain rfl:u=Value.ref f:=rx
 refine cD (jF (ha pos pins s1 σ H1 _ I1 q1) fun us s2 ⟨vs,H2,I2,r,q2⟩=>?_) he hpl
 obtain ⟨fo,fd,g1,g2⟩:=F.fn _ _ _ _ _ q2
 refine ⟨fo,fd,FnO.get I2.hok g1,g2,wpAny_call (codeAny_mono (F.run X.A X.stack s2 H2 f us vs Q E hr I2.env0 r q2) fun r s' hq=>?_)⟩
 cases r with
 |error e=>exact hx pins σ H2 s2 e s' I2 hq
 |ok fl =>
  cases fl with
  |ret u=>exact I2.after hq
  |next=>exact False.elim hq
  |brk=>exact False.elim hq
  |cont=>exact False.elim hq
end
end L2
namespace L2
open PySem PySem.Spec PyProof.Rows
def e8 (cs:List (Nat×Addr)) (sp:Sp) (dvs:List V) (t:TA):TE:=fun σ H Q=>t σ H fun vs H1=>(∀p∈cs,∃v,σ[p.1]?=some (some v))∧
 ∀HC:Hp,(∀p∈cs,∃v o u,σ[p.1]?=some (some v)∧HC p.2=some (FnO p.2 o)∧o.data=.cell (some u)∧RelV v u)→(∀p∈cs,H1 p.2=none)→
  sp (vs++dvs) (j5 H1 HC (cs.map (·.2))) (fun v H'=>(∀p∈cs,H' p.2=HC p.2)∧Q v (j8 H' (cs.map (·.2)))) E0
section
variable {X:Cx} {k k':Nat} {f:Addr} {fd:FuncData} {ps:List Str} {sp:Sp} {dvs:List V} {ds:List Value} {x:Str} {p pos:Pos} {e:Expr} {es:List Expr} {t:TA} {cs:List (Nat×Addr)}
def JM (X:Cx) (cs:List (Nat×Addr)):Prop:=∀q∈cs,∃y,X.N[q.1]?=some y∧X.env.scope.names.lookup y=some .cell∧X.env.cells.lookup y=some q.2∧X.fn y=true
theorem d9 {pins:List (Addr×Obj)} {σ:St} {H:Hp} {s:Shared} {Q:VK} {us:List Value} {vs:List V} (F:FnOk X.prog X.w X.K X.mg X.base jV k f fd ps sp) (hr:Room k X.A) (hb:Binds X.K fd ps ds) (hd:Vals dvs ds) (hcs:JM X cs)
  (I:Inv X pins σ H s) (r:Vals vs us) (hv:∀q∈cs,∃v,σ[q.1]?=some (some v))
  (h:∀HC:Hp,(∀q∈cs,∃v o u,σ[q.1]?=some (some v)∧HC q.2=some (FnO q.2 o)∧o.data=.cell (some u)∧RelV v u)→(∀q∈cs,H q.2=none)→
   sp (vs++dvs) (j5 H HC (cs.map (·.2))) (fun v H'=>(∀q∈cs,H' q.2=HC q.2)∧Q v (j8 H' (cs.map (·.2)))) E0):wpAny (model X.prog X.w) X.A (call (.ref f) us) (EP X pins σ Q) X.xe s:=by
 let HC:Hp:=fun b=>(s.heap.get? b).map fun o=>FnO b o
 have hn:∀q∈cs,H q.2=none:=fun q hq=>by
  obtain ⟨y,_,_,e3,_⟩:=hcs q hq
  exact I.freeC y q.2 e3
 have hc:∀q∈cs,∃v o u,σ[q.1]?=some (some v)∧HC q.2=some (FnO q.2 o)∧s.heap.get? q.2=some o∧o.data=.cell (some u)∧RelV v u:=fun q hq=>by
  obtain ⟨y,e1,e2,e3,_⟩:=hcs q hq
  obtain ⟨v,ev⟩:=hv q hq
  obtain ⟨m,_,hl⟩:=I.loc
  obtain ⟨u,ru,lk⟩:=hl q.1 y v e1 ev (.inr (.inl e2))
  rcases lk with ⟨hk,_⟩|⟨_,c,hc,o,ho,hd⟩
  ·have hk':X.env.scope.names.lookup y=some .local:=hk
   rw [e2] at hk';cases hk'
  ·rw [e3] at hc;cases hc
   exact ⟨v,o,u,ev,by show (s.heap.get? q.2).map _=_;rw [ho];rfl,ho,hd,ru⟩
 have hin:∀c∈cs.map (·.2),∃q∈cs,q.2=c:=fun c hm=>by
  obtain ⟨q,hq,e⟩:=List.mem_map.mp hm
  exact ⟨q,hq,e⟩
 have hn':∀c∈cs.map (·.2),H c=none:=fun c hm=>by obtain ⟨q,hq,rfl⟩:=hin c hm;exact hn q hq
 have hc':∀c∈cs.map (·.2),∃o,HC c=some (FnO c o)∧s.heap.get? c=some o:=fun c hm=>by
  obtain ⟨q,hq,rfl⟩:=hin c hm
  obtain ⟨_,o,_,_,e1,e2,_⟩:=hc q hq
  exact ⟨o,e1,e2⟩
 have hab:∀c∈cs.map (·.2),X.s₀.heap.objs.size≤c:=fun c hm=>by
  obtain ⟨q,hq,rfl⟩:=hin c hm
  obtain ⟨y,_,_,e3,e4⟩:=hcs q hq
  exact I.ok.cab y q.2 e4 e3
 have hfs:∀c∈cs.map (·.2),c∉kK X.stack:=fun c hm hf=>by
  have hcl:c≠X.env.locals:=by
   obtain ⟨q,hq,rfl⟩:=hin c hm
   obtain ⟨y,_,_,e3,_⟩:=hcs q hq
   exact I.cne y q.2 e3
  rcases List.mem_cons.mp (I.stkSub c hf) with z|z
  ·exact hcl z
  ·have lt:c<X.s₀.heap.objs.size:=by obtain ⟨_,o,ho,_⟩:=I.ok.funs.mem z;exact Heap.lt_size ho
   have:=hab c hm
   exact absurd (Nat.lt_of_lt_of_le lt this) (Nat.lt_irrefl _)
 have e0:=I.env0
 have e1:Env0 X.prog X.w X.K X.mg X.base X.A X.stack s (j5 H HC (cs.map (·.2))):=by
  refine ⟨e0.frames,e0.mod,fun b o eb=>⟨(e0.bs b o eb).1,?_⟩,e0.bsz,e0.funs,fun b hb'=>?_,HOk.unhide e0.hok hn' hc',e0.bare⟩
  ·rw [j6 fun hm=>?_];exact (e0.bs b o eb).2
   have h1:b<X.base.objs.size:=Heap.lt_size eb
   have h2:=I.ok.bsz
   have h3:=hab b hm
   exact absurd (Nat.lt_of_lt_of_le h1 (Nat.le_trans h2 h3)) (Nat.lt_irrefl _)
  ·rw [j6 fun hm=>hfs b hm hb'];exact e0.frf b hb'
 have r2:Vals (vs++dvs) (us++ds):=r.append hd
 have hs:=h HC (fun q hq=>by obtain ⟨v,o,u,a,b,_,d,g⟩:=hc q hq;exact ⟨v,o,u,a,b,d,g⟩) hn
 have hl:(us++ds).length=ps.length:=by rw [← r2.length];exact F.len _ _ _ _ hs
 refine wpAny_call (codeAny_mono (F.run X.A X.stack s _ ⟨us,[]⟩ (us++ds) (vs++dvs) _ E0 hr e1 (hb s us I.kIn hl) r2 hs) fun rr s' hq=>?_)
 cases rr with
 |error e=>exact hq.elim
 |ok fl =>
  cases fl with
  |ret u =>
   obtain ⟨v,H',os,bare,un,hok,rv,he,q⟩:=hq
   have he':∀c∈cs.map (·.2),H' c=HC c:=fun c hm=>by obtain ⟨q,hq,rfl⟩:=hin c hm;exact he q hq
   exact I.after ⟨v,_,os,bare,Un.hide un hn' hc' he' hfs hok,HOk.hide hok (fun c hm=>by obtain ⟨o,e2,_⟩:=hc' c hm;exact ⟨o,(he' c hm).trans e2⟩),rv,q⟩
  |next=>exact False.elim hq
  |brk=>exact False.elim hq
  |cont=>exact False.elim hq
theorem QX (F:Def X.prog X.w X.K X.mg X.base k x ps dvs sp) (hr:Room k' X.A) (hg:Gl X x) (hcs:JM X cs) (ha:PA X (e::es) t)
  (hk:k≤k':=by decide) (hdb:(x == ("__debug__":Str))=false:=by decide) (he:starEach (e::es) X.env=(false,eval e X.env)::starEach es X.env:=by rfl) (hpl:(backTo pos (starEach es X.env)).any (·.1)=false:=by rfl) :
  PE X (.Call (.Name x p) (e::es) [] pos) (e8 cs sp dvs t):=by
 obtain ⟨f,fd,ds,G,m,kp,hv,b⟩:=F.ex
 intro pins s σ H Q I h
 refine wpAny_Call_Name_kw (ZJ I hg m ?_ hdb)
 refine PySem.W.callWith_K (h₀:=X.base) I.ok.mod.kin kp (jF (ha pos pins s σ H _ I h) fun us s1 ⟨vs,H1,I1,r,q1,q2⟩=>⟨I1.kIn,?_⟩) he hpl
 exact d9 G (hr.mono hk) b hv hcs I1 r q1 q2
end
section
variable {X:Cx} {pins:List (Addr×Obj)} {σ:List (Option V)} {H:Hp} {s:Shared}
theorem Inv.fnMade2 {P c:Addr} {ps more:Array Value} {h':Heap} {o oc:Obj} {t':Nat} (I:Inv X pins σ H s) (hP:H P=some (.tbl ps)) (hx:Heap.ExtBut P s.heap h') (hsz:s.heap.objs.size≤h'.objs.size) (hP':h'.get? P=some {cls:=.none,data:=.fields (ps++more)}) (hfr:o.isFreed=false)
  (hc1:s.heap.objs.size≤c) (hc2:h'.get? c=some oc) :
  Inv X pins σ (jB (jB (jB H P (.tbl (ps++more))) h'.objs.size (FnO h'.objs.size o)) c (FnO c oc)) {s with heap:=h'.push o,toks:=t'}:=by
 have J:=I.fnMade (o:=o) (t':=t') hP hx hsz hP' hfr
 have hcP:c≠P:=fun z=>by have:=(I.hok P _ hP).lt;exact absurd (Nat.lt_of_lt_of_le (z▸this) hc1) (Nat.lt_irrefl _)
 have hcf:c≠h'.objs.size:=fun z=>absurd (Heap.lt_size hc2) (by rw [z];exact Nat.lt_irrefl _)
 have hg:(h'.push o).get? c=some oc:=Heap.get?_push_of_some _ hc2
 have hHc:jB (jB H P (.tbl (ps++more))) h'.objs.size (FnO h'.objs.size o) c=none:=by
  rw [jC hcf,jC hcP];exact I.hok.fresh hc1
 have hns:∀b u,s.heap.get? b=some u→b≠c:=fun b u e z=>absurd (Nat.lt_of_lt_of_le (z▸Heap.lt_size e) hc1) (Nat.lt_irrefl _)
 have hks:∀b u,X.s₀.heap.get? b=some u→b≠c:=fun b u e z=>by
  have h1:=Heap.lt_size e
  have h2:=I.sz
  exact absurd (Nat.lt_of_lt_of_le (Nat.lt_of_lt_of_le (z▸h1) h2) hc1) (Nat.lt_irrefl _)
 refine ⟨J.ok,J.os,J.bare,?_,J.loc,J.cell,?_,fun y d e=>?_,fun p hp=>?_,fun b u e=>?_,J.len⟩
 ·obtain ⟨k1,k2,k3,k4,k5,k6,k7⟩:=J.base
  have ne:∀b v,H b=some v→b≠c:=fun b v e z=>absurd (Nat.lt_of_lt_of_le (z▸(I.hok b v e).lt) hc1) (Nat.lt_irrefl _)
  refine ⟨k1,k2,fun b ob e n hx'=>?_,k4,fun b xs e=>?_,fun b ob u e=>?_,fun b qs e=>?_⟩
  ·rw [jC (hks b ob e)];exact k3 b ob e n hx'
  ·rw [jC (ne b _ (I.base.tups b xs e))];exact k5 b xs e
  ·rw [jC (ne b _ (I.base.frzs b ob u e))];exact k6 b ob u e
  ·obtain ⟨more',e'⟩:=I.base.tbls b qs e
   rw [jC (ne b _ e')];exact k7 b qs e
 ·rw [jC fun z=>?_];exact J.free
  have:=I.lt
  exact absurd (Nat.lt_of_lt_of_le (z▸this) hc1) (Nat.lt_irrefl _)
 ·rw [jC fun z=>?_];exact J.freeC y d e
  obtain ⟨v,o',ho',_⟩:=I.cell y d e
  exact hns d o' ho' z
 ·obtain ⟨a1,a2,a3,a4,a5⟩:=J.pin p hp
  refine ⟨a1,?_,a3,a4,a5⟩
  rw [jC fun z=>?_];exact a2
  exact hns p.1 _ (I.pin p hp).1 z
 ·by_cases z:b=c
  ·subst z;rw [jJ] at e;cases e;exact FnO.ok hg
  ·rw [jC z] at e
   refine (J.hok b u e).stay (fun _ _ _ q=>q) (fun d q=>?_) fun d xs q=>?_
   ·rw [jC fun z=>?_];exact q
    rw [z,hHc] at q;cases q
   ·rw [jC fun z=>?_];exact q
    rw [z,hHc] at q;cases q
def fU (i:Nat) (P:Addr) (pos:Pos) (qual:Str) (mk:Addr→Value→Value→Obj):TS:=fun D σ H=>∃ps,H P=some (.tbl ps)∧TriplesOk ps.toList∧codeAmong pos ps.toList=none∧
 ∀(f c':Addr) (ctv doc:Value) (oc:Obj),f≠P→c'≠P→c'≠f→H f=none→H c'=none→(∃vs t,oc.data=.fields vs∧vs[1]?=some (.str qual t))→
  D.nx (σ.set i (some (.ref f))) (jB (jB (jB H P (.tbl (ps++#[rawInt pos.line,rawInt pos.col,.ref c']))) f (FnO f (mk c' ctv doc))) c' (FnO c' oc))
theorem ZE {i:Nat} {x qual:Str} {params:Arguments} {body:List Stmt} {scope:Scope} {pos:Pos} {c P:Addr} {clos:List (Str×Addr)} (hN:X.N.Nodup) (hi:X.N[i]?=some x) (hx:v5 X.env.scope x)
  (hf:X.fn x=true∨X.env.scope.names.lookup x=some .local) (hd:defaultsOf params X.env=([],[])) (ha:annTrees params none X.env=[]) (hcl:closureFor scope X.env=pure clos) (hge:X.env.globals=mainGlobals)
  (hcode:X.env.code=.ref c) (hC:PySem.W.CodeHd X.base c P) (hgP:mainGlobals≠P) (hb:X.base.BuiltinsAt X.mg P) (hq:qualnameIn X.env x x=qual) :
  PS X (.FunctionDef x params body [] none [] scope none x pos) (fU i P pos qual fun c' ctv doc=>PySem.W.fnMade x qual params body scope clos doc ((X.mg "__name__").getD .none) c' ctv):=by
 intro pins s σ H D I h
 obtain ⟨ps,hP,ht,hnf,q⟩:=h
 have hPs:s.heap.get? P=some (PySem.W.tabObj ps):=I.hok P _ hP
 rw [exec_def,hd,ha,hq]
 refine wpAny_bind (wpAny_standAt (wpAny_bind (wpAny_holding ?_)))
 refine wpAny_bind (wpAny_pure ?_)
 refine wpAny_bind (wpAny_holding (wpAny_pure ?_))
 refine wpAny_holding ?_
 refine wpAny_bind (wpAny_pure ?_)
 refine PySem.W.makeFunction_K (mg:=X.mg) hcl hge (I.mod.glob.keeps I.bk) hcode (hC.keeps I.bk) hPs ht hnf hgP (hb.keeps I.bk) fun c' ctv doc h' tk hx' hge' hlt hrec htb=>?_
 have hsz:s.heap.objs.size≤h'.objs.size:=Nat.le_trans hge' (Nat.le_of_lt hlt)
 obtain ⟨c'',oc,fs,t,e,hoc,hoc2⟩:=hrec
 cases e
 refine wpAny_bind (wpAny_standAt (wpAny_bind (wpAny_bindName ?_)))
 have J:=I.fnMade2 (o:=PySem.W.fnMade x qual params body scope clos doc ((X.mg "__name__").getD .none) c' ctv) (t':=tk) hP hx' hsz htb rfl hge' hoc
 have hPl:=Heap.lt_size hPs
 refine JA J hN hi hx (v:=.ref h'.objs.size) rfl (fun s2 I2=>wpAny_pure ?_) hf
 exact ⟨_,_,I2,q _ c' ctv doc oc (fun z=>Nat.lt_irrefl _ (z▸Nat.lt_of_lt_of_le hPl hsz)) (fun z=>Nat.lt_irrefl _ (Nat.lt_of_lt_of_le (z▸hPl) hge')) (Nat.ne_of_lt hlt) (I.hok.fresh hsz) (I.hok.fresh hge') ⟨fs,t,hoc2⟩⟩
end
end L2
namespace L2
open PySem PySem.Spec PyProof.Rows
def JY (T:Addr) (H:Hp):Prop:=H T=some (.tbl #[])∧∀b,b≠T→H b=none∨∃o xs,H b=some (.frz o (.lst xs))
theorem dA {prog:Program} {w:World} {K:PySem.W.Frag} {mg mb:Str→Option Value} {CX:kA} {k:Nat} {fa a c T:Addr} {fd:FuncData} {x:Str} {sp:Sp} {s₁:Shared} {vs:List Value} {ns:List Int}
  (KX:K.In s₁.heap) (hns:s₁.heap.Ns mainGlobals mg) (hb:s₁.heap.Ns builtinsNs mb) (hbb:∀x:Str,x≠"__name__"→mb x=bootBuiltins x) (hlim:s₁.heap.NoLimit) (hg:s₁.gens = #[])
  (ha:s₁.heap.get? a=some {cls:=.type "list",data:=.seq vs.toArray}) (hi:IntsAre vs ns) (hl:ns.length≤sizeLine) (hr:Room k callerA)
  (hC:PySem.W.CodeHd s₁.heap c T) (hT:s₁.heap.TableAt c T #[]) (hKT:PySem.W.noTabs K=true) (hB:s₁.heap.BuiltinsAt mg T)
  (F:∀base:Heap,K.In base→base.Ns mainGlobals mg→PySem.W.CodeHd base c T→base.BuiltinsAt mg T→mainGlobals≠T→FnOk prog w K mg base CX k fa fd [x] sp) (hbind:∀(s:Shared) (u:Value),BindsTo s fd ⟨[u],[]⟩ [(x,u)])
  (hsp:∀H:Hp,JY T H→SqL K H a (ns.map V.int)→sp [.ref a] H (fun v _=>v=.bl true) fun _ _ _=>False)
  (hCX:∀H e s',CX [] H s₁ (fun _ _ _=>False) e s'→False) :
  codeAny (model prog w) callerA (.call (.ref fa) ⟨[.ref a],[]⟩) (fun r s'=>r=.ok (.ret (.bool true))∧OldK s₁.heap s'.heap∧s'.os=s₁.os∧AllBare s'.gens) s₁:=by
 have rv:=z7 hi
 have lenV:=hi.length
 have hTo:=hT.2
 have hKT':K.lookup T=none:=by
  cases q:K.lookup T with
  |none=>rfl
  |some o =>
   have e:=KX T o q
   rw [hTo] at e;cases e
   have z:=List.all_eq_true.mp hKT _ (PySem.W.mem_of_lookupK q)
   exact absurd (show false=true from z) Bool.false_ne_true
 have haT:a≠T:=fun z=>by rw [z,hTo] at ha;cases ha
 have hgT:mainGlobals≠T:=fun z=>by
  obtain ⟨o,es,ep,e,d,_⟩:=hns
  rw [z,hTo] at e;cases e;cases d
 have core:∀H:Hp,JY T H→SqL K H a (ns.map V.int)→HOk prog w H s₁.heap→(∀b,H b≠none→b=a∨b=T)→(H a≠none→K.lookup a=none)→
   codeAny (model prog w) callerA (.call (.ref fa) ⟨[.ref a],[]⟩) (fun r s'=>r=.ok (.ret (.bool true))∧OldK s₁.heap s'.heap∧s'.os=s₁.os∧AllBare s'.gens) s₁:=by
  intro H hO hS hok hA hK
  have free:∀{b:Addr} {o:Obj},s₁.heap.get? b=some o→o≠{cls:=.type "list",data:=.seq vs.toArray}→o≠{cls:=.none,data:=.fields #[]}→H b=none:=fun {b o} e n1 n2=>by
   cases q:H b with
   |none=>rfl
   |some u =>
    rcases hA b (by rw [q];simp) with z|z
    ·subst z;rw [ha] at e;cases e;exact absurd rfl n1
    ·subst z;rw [hTo] at e;cases e;exact absurd rfl n2
  have nsK:∀{b:Addr} {m:Str→Option Value},s₁.heap.Ns b m→(kH s₁.heap H).Ns b m:=fun {b m} ⟨o,es,ep,e,d,r⟩=>⟨o,es,ep,yG e (free e (fun z=>by subst z;cases d) fun z=>by subst z;cases d),d,r⟩
  have hKb:K.In (kH s₁.heap H):=fun b o e=>yG (KX b o e) (by
   cases q:H b with
   |none=>rfl
   |some u =>
    rcases hA b (by rw [q];simp) with z|z
    ·subst z;rw [hK (by rw [q];simp)] at e;cases e
    ·subst z;rw [hKT'] at e;cases e)
  have hCb:PySem.W.CodeHd (kH s₁.heap H) c T:=by
   obtain ⟨o,fs,file,tf,flags,tg,inF,text,tt,e1,e2,rest⟩:=hC
   exact ⟨o,fs,file,tf,flags,tg,inF,text,tt,yG e1 (free e1 (fun z=>by subst z;injection e2 with z;exact absurd z (by decide)) fun z=>by subst z;cases e2),e2,rest⟩
  have hBb:(kH s₁.heap H).BuiltinsAt mg T:=by
   obtain ⟨bm,o,b1,b2,b3,b4,e1,e2,e3,e4⟩:=hB
   exact ⟨bm,o,b1,b2,b3,b4,yG e1 (free e1 (fun z=>by subst z;injection e2 with z;exact absurd z (by decide)) fun z=>by subst z;cases e2),e2,e3,e4⟩
  have hM:Mod K mg (kH s₁.heap H):=⟨hKb,nsK hns,⟨mb,nsK hb,hbb⟩,let ⟨mc,h1,h2⟩:=hlim;⟨mc,nsK h1,h2⟩⟩
  have e0:Env0 prog w K mg (kH s₁.heap H) callerA [] s₁ H:=⟨rfl,hM,fun b o e=>ZI e,Nat.le_of_eq (QL _ _),trivial,fun b hb=>absurd (show b∈([]:List Addr) from hb) (by simp),hok,.of_eq hg⟩
  refine codeAny_mono ((F _ hKb (nsK hns) hCb hBb hgT).run callerA [] s₁ H ⟨[.ref a],[]⟩ [.ref a] [.ref a] _ _ hr e0 (hbind s₁ (.ref a)) (.cons rfl .nil) (hsp H hO hS)) fun r s' h=>?_
  cases r with
  |error e=>exact (hCX H e s' h).elim
  |ok fl =>
   cases fl with
   |next=>exact False.elim h
   |brk=>exact False.elim h
   |cont=>exact False.elim h
   |ret u =>
    obtain ⟨v,H',os,bare,un,hok',r',q⟩:=h
    obtain rfl:v=.bl true:=q
    obtain rfl:u=Value.bool true:=r'
    have nofs:∀b:Addr,b∉kK ([]:List Env):=fun b z=>absurd (show b∈([]:List Addr) from z) (by simp)
    refine ⟨rfl,⟨fun b o e=>?_,fun b o e=>un.there b o e (by simp)⟩,os,bare⟩
    by_cases z:b=T
    ·subst z
     rw [hTo] at e;cases e
     obtain ⟨more,e2⟩:=un.tbls b #[] hO.1
     exact .inr (.inl ⟨hT.isCodeTable,rfl,#[],more,rfl,hok' b _ e2⟩)
    ·refine .inl ?_
     rcases hO.2 b z with q|⟨ob,xs,q⟩
     ·exact un.keep b o e q (nofs b) (by simp)
     ·have z2:=un.frzs b ob _ q
      obtain ⟨e1,_⟩:=hok b _ q
      obtain ⟨e2,_⟩:=hok' b _ z2
      rw [e] at e1;cases e1
      exact e2
 cases hk:K.lookup a with
 |some o =>
  have e:=KX a o hk
  rw [ha] at e
  cases e
  refine core (fun b=>if b=T then some (.tbl #[]) else none) ⟨if_pos rfl,fun b n=>.inl (if_neg n)⟩ (.inr ⟨_,vs.toArray,_,hk,rfl,rfl,rfl,by rw [List.size_toArray,lenV];exact hl,by simpa using rv⟩) (fun b u z=>?_) (fun b z=>?_) fun z=>absurd (if_neg haT) z
  ·by_cases hb:b=T
   ·have z':=(if_pos hb).symm.trans z
    cases z';subst hb;exact hTo
   ·have z':=(if_neg hb).symm.trans z
    cases z'
  ·by_cases hb:b=T
   ·exact .inr hb
   ·exact absurd (if_neg hb) z
 |none =>
  refine core (fun b=>if b=T then some (.tbl #[]) else if b=a then some (.frz {cls:=.type "list",data:=.seq vs.toArray} (.lst (ns.map V.int))) else none) ⟨if_pos rfl,fun b n=>?_⟩ (.inl (.inr ⟨{cls:=.type "list",data:=.seq vs.toArray},(if_neg haT).trans (if_pos rfl)⟩)) (fun b u z=>?_) (fun b z=>?_) fun _=>hk
  ·by_cases hb:b=a
   ·exact .inr ⟨_,_,(if_neg n).trans (if_pos hb)⟩
   ·exact .inl ((if_neg n).trans (if_neg hb))
  ·by_cases hb:b=T
   ·have z':=(if_pos hb).symm.trans z
    cases z';subst hb;exact hTo
   ·have z1:=(if_neg hb).symm.trans z
    by_cases hb':b=a
    ·have z':=(if_pos hb').symm.trans z1
     cases z'
     subst hb'
     exact ⟨ha,by rw [List.length_map];exact hl,vs,_,rv,ha⟩
    ·have z':=(if_neg hb').symm.trans z1
     cases z'
  ·by_cases hb:b=T
   ·exact .inr hb
   ·by_cases hb':b=a
    ·exact .inl hb'
    ·exact absurd ((if_neg hb).trans (if_neg hb')) z
theorem walk_ofT {l:PySem.W.OpenLaw} {n k:Nat} {q:Program} {loose:List Str} {XP:(Str→Option Value)→Heap→Prop} {YP:World→Heap→Prop} {d:DefRec} {K:Params→PySem.W.Frag} {CX:World→kA} {sp:World→Addr→Sp} {x:Str} {c T:Addr}
  (hn:l.most=some n) (hn2:n≤sizeLine) (hdf:d.params.defaults=[]) (hr:Room k callerA) (hrec:(recsOf q).find? (fun e=>e.name == d.name)=some d) (htab:∀P:Params,PySem.W.tabIn (K P) d.name=some (c,T)) (hno:∀P:Params,PySem.W.noTabs (K P)=true)
  (hY:∀(w:World) (h:Heap),YP w h→(K w.params).In h)
  (F:∀(w:World) (mg:Str→Option Value) (fa:Addr) (h:Heap),(K w.params).In h→h.Ns mainGlobals mg→mg d.name=some (.ref fa)→
   ∃fd:FuncData,(∀(s:Shared) (u:Value),BindsTo s fd ⟨[u],[]⟩ [(x,u)])∧
    ∀base:Heap,(K w.params).In base→base.Ns mainGlobals mg→PySem.W.CodeHd base c T→base.BuiltinsAt mg T→mainGlobals≠T→FnOk l.prog w (K w.params) mg base (CX w) k fa fd [x] (sp w T))
  (hsp:∀(w:World) (H:Hp) (a:Addr) (ns:List Int),ns.length≤n→JY T H→SqL (K w.params) H a (ns.map V.int)→sp w T [.ref a] H (fun v _=>v=.bl true) fun _ _ _=>False)
  (hCX:∀(w:World) (H:Hp) (s:Shared) (e:Value) (s':Shared),CX w [] H s (fun _ _ _=>False) e s'→False) :
  PySem.W.WalkO q loose XP YP l.row.toRowW d [] (fun f vs=>PySem.call f vs):=by
 refine Att.attach_call hn hdf fun w s₀ s₁ mg mb fa o pm cd doc a vs ns G Y ho hd hcd hmg hobj hints hlen hg=>?_
 have KX:=hY w _ Y
 obtain ⟨fd,hb,hF⟩:=F w mg fa _ KX G.T.g hmg
 obtain ⟨hC,hTo⟩:=PySem.W.tab_of G.T KX hrec (htab w.params)
 have hT:s₁.heap.TableAt c T #[]:=by
  obtain ⟨o,fs,file,tf,flags,tg,inF,text,tt,e1,e2,e3,e4,_⟩:=hC
  exact ⟨⟨o,fs,e1,e2,e3,e4⟩,hTo⟩
 have hB:s₁.heap.BuiltinsAt mg T:=by
  obtain ⟨bm,ob,b1,b2,b3,b4,b5,b6⟩:=G.T.bmain
  refine ⟨bm,ob,b1,b2,fun z=>?_,fun z=>?_,b3,b4,b5,b6⟩
  ·obtain ⟨o,es,ep,e,hd,_⟩:=G.T.g
   rw [z,e] at b3;cases b3;rw [hd] at b6;cases b6
  ·rw [z,hTo] at b3;cases b3;cases b4
 exact dA KX G.T.g G.T.b G.T.builtins G.T.nolimit hg hobj hints (Nat.le_trans hlen hn2) hr hC hT (hno w.params) hB hF hb (fun H hO hS=>hsp w H a ns hlen hO hS) fun H e s'=>hCX w H s₁ e s'
end L2
namespace L2
open PySem PySem.Spec PyProof.Rows
def Z1 (s:Stmt) (j:Nat):Stmt:=(jT s).getD j (.Pass ⟨0,0,0,0⟩)
theorem ZQ {sc:Scope} {fr:List Str} (h:∀y∈sc.names,y.2=.free→y.1∈fr):∀x,sc.names.lookup x=some .free→x∈fr:=fun x e=>h _ (PySem.mem_of_lookup e) rfl
theorem qQ {A:Around} {k:Nat} (hr:Room k A):A.units+9<cLine:=by have:=hr.units;omega
theorem qP {A:Around} {k:Nat} (hr:Room k A):A.units+10<cLine:=by have:=hr.units;omega
theorem zD {H:Hp} {cs:List Addr} (hc:v0 H cs):∀a l,H a=some (.tup l)→j8 H cs a=some (.tup l):=fun a l e=>by
 rw [j0];exact e
 intro hin;obtain ⟨o,e2⟩:=hc a hin;rw [e] at e2;cases e2
theorem eT {H:Hp} {cs:List Addr} {p:Addr} {o:HO} (hp:p∉cs):j5 (jB (j8 H cs) p o) H cs=jB H p o:=by
 funext b
 by_cases hb:b∈cs
 ·have:b≠p:=fun z=>hp (z▸hb)
  rw [vY hb,jC this]
 ·rw [j6 hb]
  by_cases z:b=p
  ·subst z;rw [jJ,jJ]
  ·rw [jC z,jC z,j0 hb]
theorem eU {H:Hp} {cs:List Addr}:j5 (j8 H cs) H cs=H:=by
 funext b
 by_cases hb:b∈cs
 ·rw [vY hb]
 ·rw [j6 hb,j0 hb]
theorem ZT {X:Cx} {i j:Nat} {c d:Addr} (h:∃y,X.N[i]?=some y∧X.env.scope.names.lookup y=some .cell∧X.env.cells.lookup y=some c∧X.fn y=true) (h2:∃y,X.N[j]?=some y∧X.env.scope.names.lookup y=some .cell∧X.env.cells.lookup y=some d∧X.fn y=true):JM X [(i,c),(j,d)]:=fun q hq=>by
 rcases List.mem_cons.mp hq with rfl|hq
 ·exact h
 ·cases List.mem_singleton.mp hq;exact h2
section
variable {P:Program} {w:World} {K:PySem.W.Frag} {mg:Str→Option Value} {base:Heap}
theorem Fun.okC {x qual:Str} {st:Stmt} {f cL:Addr} {fd:FuncData} {N ps:List Str} {k:Nat} {sp:Sp} (F:Fun K x qual st f fd) (hcL:fd.code=.ref cL) (S:FnScope N ps (jH st)) (len:∀vs H Q E,sp vs H Q E→vs.length=ps.length)
  (hbody:∀(A:Around) (outer:List Env) (s:Shared) (H:Hp) (vs:List V) (Q:VK) (E:XK),Room k (A.deeper (envOfC qual (jH st) s.heap.objs.size f (.ref cL)))→sp vs H Q E→
   ∃t,PSs (q9 jV P w K mg base N qual (jH st) f (.ref cL) A outer s H E).nox (jT st) t∧t {nx:=fun _ H'=>Q .non H',rt:=Q} (kC N vs) H):FnOk P w K mg base jV (k+1) f fd ps sp:=by
 obtain ⟨oc,od,kV,doc,pm,an,cdv,ct,osl,rfl,lk,hcd⟩:=F.ex
 obtain rfl:cdv=.ref cL:=hcL
 refine JX lk hcd S len fun A outer s H vs Q E hr hsp=>?_
 obtain ⟨t,h,q⟩:=hbody A outer s H vs Q E hr hsp
 exact ⟨t,h.nox,q⟩
end
end L2
namespace My
open PySem L2
def top (i:Nat):Stmt:=PySem.Challenge.pw_lockhouse_k51_row_holds.main.body.getD i (.Pass ⟨0,0,0,0⟩)
abbrev qD:Stmt:=Z1 (top 11) 6
abbrev qE:Stmt:=Z1 (top 11) 7
abbrev vF:Stmt:=top 1
abbrev vO:Stmt:=top 3
abbrev vR:Stmt:=top 4
abbrev vP:Stmt:=top 5
abbrev vQ:Stmt:=top 6
abbrev vV:Stmt:=top 7
abbrev vS:Stmt:=top 8
abbrev vU:Stmt:=top 9
abbrev vE:Stmt:=top 10
abbrev kZ:Stmt:=top 11
theorem fX {K:W.Frag} {H H':Hp} {a:Addr} {xs:List V} (e:Same H H') (h:SqT K H a xs):SqT K H' a xs:=by
 rcases h with (h|⟨o,h⟩)|h
 ·exact .inl (.inl (e _ _ h))
 ·exact .inl (.inr ⟨o,e _ _ h⟩)
 ·exact .inr h
theorem j9 {H:Hp} {p:Addr} (h:H p=none) (o:HO):Same H (jB H p o):=fun b u q=>by rw [jC (qL q h)];exact q
theorem qA {n:Nat} (h:n≤1000):n≤sizeLine:=Nat.le_of_lt (kY h)
def Ints (K:W.Frag) (H:Hp) (a:Addr) (ws:List Int):Prop:=SqL K H a (ws.map V.int)∨SqT K H a (ws.map V.int)
theorem Ints.same {K:W.Frag} {H H':Hp} {a:Addr} {ws:List Int} (e:Same H H') (h:Ints K H a ws):Ints K H' a ws:=by
 rcases h with h|h
 ·exact .inl (e.seq h)
 ·exact .inr (fX e h)
theorem Q7 {ws:List Int} {s:Nat} (h:s<ws.length):qT (ws.map V.int) (s:Int)=some (.int (ws.getD s 0)):=by
 refine qZ ?_
 rw [List.getElem?_map,List.getElem?_eq_getElem h,List.getD_eq_getElem?_getD,List.getElem?_eq_getElem h]
 rfl
theorem dG (ns:List Int) (lo hi:Option Int):∃ms:List Int,qI (ns.map V.int) lo hi=ms.map V.int∧ms.length≤ns.length:=by
 refine ⟨(ns.drop (HT.sIx ns.length 0 lo)).take (HT.sIx ns.length ns.length hi - HT.sIx ns.length 0 lo),?_,?_⟩
 ·unfold qI
  rw [List.length_map,List.map_take,List.map_drop]
 ·rw [List.length_take,List.length_drop]
  omega
theorem dX {ms:List Int} {i:Nat} {x:V} (h:(ms.map V.int)[i]?=some x):∃z,x=V.int z∧ms[i]?=some z:=by
 rw [List.getElem?_map] at h
 cases e:ms[i]? with
 |none=>rw [e] at h;cases h
 |some z=>rw [e] at h;exact ⟨z,(Option.some.inj h).symm,rfl⟩
def zI (K:W.Frag):Sp:=fun vs H Q _=>∃(a:Addr) (ns:List Int) (k:Nat),vs=[.ref a,.int k]∧SqL K H a (ns.map V.int)∧Q (.int (ns.getD k 0)) H
abbrev jK:=List (GK×List (GK×GK))
def jI (T:jK) (k:GK):Option (List (GK×GK)):=(T.find? fun p=>decide (p.1=k)).map (·.2)
def PairsAt (H:Hp) (xs:List V) (ps:List (GK×GK)):Prop:=xs.length=ps.length∧∀(i:Nat) (x:V),xs[i]?=some x→∃(p:GK×GK) (a:Addr) (b c:V),ps[i]?=some p∧x=.ref a∧H a=some (.tup [b,c])∧(GV H p.1).1 b∧(GV H p.2).1 c∧gd p.1≤8∧gd p.2≤8
theorem j7 {H H':Hp} {k:GK} {v:V} (s:Same H H') (h:(GV H k).1 v):(GV H' k).1 v:=(GV.keep (fun a l e=>s _ _ e) k).1 v h
theorem vH {H H':Hp} {kvs:List jU} (s:Same H H') (h:GOk H kvs):GOk H' kvs:=h.keep fun a l e=>s _ _ e
theorem PairsAt.same {H H':Hp} {xs:List V} {ps:List (GK×GK)} (s:Same H H') (h:PairsAt H xs ps):PairsAt H' xs ps:=⟨h.1,fun i x e=>by
 obtain ⟨p,a,b,c,e1,e2,e3,e4,e5,e6⟩:=h.2 i x e
 exact ⟨p,a,b,c,e1,e2,s _ _ e3,j7 s e4,j7 s e5,e6⟩⟩
structure TabAt (w:World) (H:Hp) (d:Addr) (T:jK) (ls:List Addr):Prop where
 ex:∃kvs,H d=some (GO w d kvs)∧GOk H kvs∧((∀k k' l,jN kvs k=some (.ref l)→jN kvs k'=some (.ref l)→k=k')∧(∀k l,jN kvs k=some (.ref l)→l∈ls)∧kvs.length≤ls.length)∧∀k ps,jI T k=some ps→∃l xs,jN kvs k=some (.ref l)∧H l=some (.lst xs)∧PairsAt H xs ps
 few:∀k ps,jI T k=some ps→ps.length≤900
 shut:∀k ps p,jI T k=some ps→p∈ps→(jI T p.2).isSome=true
 deep:∀k ps,jI T k=some ps→gd k≤8
theorem TabAt.same {w:World} {H H':Hp} {d:Addr} {T:jK} {ls:List Addr} (s:Same H H') (h:TabAt w H d T ls):TabAt w H' d T ls:=by
 obtain ⟨⟨kvs,e1,e2,ap,e3⟩,e4,e5,e6⟩:=h
 refine ⟨⟨kvs,s _ _ e1,vH s e2,ap,fun k ps hk=>?_⟩,e4,e5,e6⟩
 obtain ⟨l,xs,f1,f2,f3⟩:=e3 k ps hk
 exact ⟨l,xs,f1,s _ _ f2,f3.same s⟩
structure MarkAt (w:World) (H:Hp) (d:Addr) (T:jK) (M:GK→Bool):Prop where
 ex:∃kvs,H d=some (GO w d kvs)∧GOk H kvs∧∀k,(jI T k).isSome=true→jN kvs k=some (.bl (M k))
theorem MarkAt.same {w:World} {H H':Hp} {d:Addr} {T:jK} {M:GK→Bool} (s:Same H H') (h:MarkAt w H d T M):MarkAt w H' d T M:=by
 obtain ⟨kvs,e1,e2,e3⟩:=h.ex
 exact ⟨kvs,s _ _ e1,vH s e2,e3⟩
theorem eH {H:Hp} {cs:List Addr} {l:Addr} {xs:List V} (hc:v0 H cs) (e:H l=some (.lst xs)):l∉cs:=fun hin=>by
 obtain ⟨o,e2⟩:=hc l hin
 rw [e] at e2;cases e2
theorem d3 {H H':Hp} {f:Addr} {qual:Str} {params:Arguments} {body:List Stmt} {scope:Scope} {cl:List (Str×Addr)} {fvs:List V} {cdv:Value} {fd:FuncData} (s:Same H H') (C:CloAt H f qual params body scope cl fvs cdv fd):CloAt H' f qual params body scope cl fvs cdv fd:=by
 obtain ⟨⟨fo,name,doc,pm,an,ct,a1,a2⟩,⟨c,oc,vs,t,b1,b2,b3⟩,c1,c2,c3⟩:=C
 refine ⟨⟨fo,name,doc,pm,an,ct,s _ _ a1,a2⟩,⟨c,oc,vs,t,b1,s _ _ b2,b3⟩,c1,c2,fun i x c v h1 h2=>?_⟩
 obtain ⟨o,u,d1,d2⟩:=c3 i x c v h1 h2
 exact ⟨o,u,s _ _ d1,d2⟩
def ZB (w:World):List Addr→List V→Sp:=fun cs fvs vs H Q _=>∃(y:V) (d:Addr) (T:jK) (ls:List Addr) (k:GK) (ps:List (GK×GK)),fvs=[.ref d]∧vs=[y]∧d∉cs∧TabAt w H d T ls∧(GV H k).1 y∧jI T k=some ps∧
 ∀p xs,H p=none→PairsAt H xs ps→Q (.ref p) (jB H p (.lst xs))
def ZA (w:World):List Addr→List V→Sp:=fun cs fvs vs H Q _=>∃(y:V) (d:Addr) (T:jK) (M:GK→Bool) (k:GK),fvs=[.ref d]∧vs=[y]∧d∉cs∧MarkAt w H d T M∧(GV H k).1 y∧gd k≤8∧(jI T k).isSome=true∧Q (.bl (M k)) H
def JL (H:Hp) (D:Addr) (caps:St) (R:Nat→List V→Hp→Prop) (i:Nat) (σ:St) (Hi:Hp):Prop:=∃ys c1 c2,σ=c1::c2::caps∧Same H Hi∧Hi D=some (.lst ys)∧ys.length≤i∧R i ys Hi
theorem cQ {K:W.Frag} {a D:Addr} {xs:List V} {tc:TT} {te:TE} {caps:St} {H:Hp} {Q:Hp→Prop} (R:Nat→List V→Hp→Prop) (hD:H D=none) (hS:SqL K H a xs) (h0:R 0 [] (jB H D (.lst [])))
  (hp:∀(i:Nat) x,xs[i]?=some x→∃t b c,x=.ref t∧H t=some (.tup [b,c]))
  (hs:∀i t b c ys Hi,xs[i]?=some (.ref t)→H t=some (.tup [b,c])→i<xs.length→ys.length≤i→Same H Hi→Hi D=some (.lst ys)→R i ys Hi→tc (some b::some c::caps) Hi fun z H4=>if z=true then te (some b::some c::caps) H4 fun v H5=>∃zs,H5 D=some (.lst zs)∧zs.length<sizeLine∧JL H D caps R (i+1) (some b::some c::caps) (jB H5 D (.lst (zs++[v])))
   else JL H D caps R (i+1) (some b::some c::caps) H4)
  (hd:∀ys Hf,Same H Hf→Hf D=some (.lst ys)→ys.length≤xs.length→R xs.length ys Hf→Q Hf):yO D (vC K a) (J0 K 2 (JW (yR 0) (JW (yR 1) bA))) tc te (none::none::caps) H Q:=by
 refine QA (xs:=xs) (JL H D caps R) ⟨[],none,none,rfl,vD hD (Same.refl H),jJ,Nat.le_refl _,h0⟩ (fun i σ Hi _ ⟨_,_,_,_,s,_⟩=>s.seq hS) ?_ ?_
 ·rintro i x σ Hi hx ⟨ys,c1,c2,rfl,s,hY,hl,r⟩
  obtain ⟨t,b,c,rfl,et⟩:=hp i x hx
  exact ⟨t,[b,c],rfl,.inl (.inl (s _ _ et)),rfl,_,_,rfl,_,_,rfl,rfl,hs i t b c ys Hi hx et (List.getElem?_eq_some_iff.mp hx).1 hl s hY r⟩
 ·rintro σ Hf ⟨ys,c1,c2,rfl,s,hY,hl,r⟩
  exact hd ys Hf s hY hl r
def behind (T:jK) (k de:GK):List GK:=(((jI T k).getD []).filter fun p=>decide (p.1=de)).map (·.2)
def j3 (T:jK):GK→List GK→Option GK
 |k,[]=>some k
 |k,de::r=>match behind T k de with
  |[]=>none
  |k'::_=>j3 T k' r
def qG (T:jK) (M:GK→Bool) (k:GK) (r:List GK):Bool:=match j3 T k r with
 |none=>false
 |some k'=>M k'
def KeysAt (H:Hp) (xs:List V) (ks:List GK):Prop:=xs.length=ks.length∧∀(i:Nat) x,xs[i]?=some x→∃k,ks[i]?=some k∧(GV H k).1 x∧gd k≤8
theorem KeysAt.same {H H':Hp} {xs:List V} {ks:List GK} (s:Same H H') (h:KeysAt H xs ks):KeysAt H' xs ks:=⟨h.1,fun i x e=>by
 obtain ⟨k,e1,e2,e3⟩:=h.2 i x e
 exact ⟨k,e1,j7 s e2,e3⟩⟩
theorem KeysAt.snoc {H H':Hp} {xs:List V} {ks:List GK} {v:V} {k:GK} (h:KeysAt H xs ks) (hk:∀a l,H a=some (.tup l)→H' a=some (.tup l)) (hv:(GV H k).1 v) (h8:gd k≤8):KeysAt H' (xs++[v]) (ks++[k]):=by
 refine ⟨by rw [List.length_append,List.length_append,h.1];rfl,fun i x e=>?_⟩
 by_cases hi:i<xs.length
 ·rw [List.getElem?_append_left hi] at e
  obtain ⟨k',e1,e2,e3⟩:=h.2 i x e
  exact ⟨k',by rw [List.getElem?_append_left (by rw [← h.1];exact hi)];exact e1,(GV.keep hk k').1 _ e2,e3⟩
 ·rw [List.getElem?_append_right (by omega)] at e
  obtain ⟨h1,h2⟩:=List.getElem?_eq_some_iff.mp e
  have hz:i - xs.length=0:=by rw [List.length_singleton] at h1;omega
  rw [List.getElem?_append_right (by rw [← h.1];omega),← h.1,hz]
  rw [hz] at e
  cases e
  exact ⟨k,rfl,(GV.keep hk k).1 _ hv,h8⟩
theorem z9 (T:jK):∀(a b:List GK) (k:GK),j3 T k (a++b)=(j3 T k a).bind fun k'=>j3 T k' b
 |[],b,k=>rfl
 |de::a,b,k=>by
  rw [List.cons_append,j3,j3]
  cases behind T k de with
  |nil=>rfl
  |cons k' r=>exact z9 T a b k'
theorem QF {T:jK} {k ki de:GK} {ks:List GK} {i:Nat} (hw:j3 T k (ks.take i)=some ki) (hd:ks[i]?=some de) (hb:behind T ki de=[]):j3 T k ks=none:=by
 obtain ⟨hlt,he⟩:=List.getElem?_eq_some_iff.mp hd
 have e:ks=ks.take i++de::ks.drop (i+1):=by rw [← he,← List.drop_eq_getElem_cons hlt,List.take_append_drop]
 rw [e,z9,hw]
 show j3 T ki (de::_)=none
 rw [j3,hb]
theorem QG {T:jK} {k ki de k':GK} {ks r:List GK} {i:Nat} (hw:j3 T k (ks.take i)=some ki) (hd:ks[i]?=some de) (hb:behind T ki de=k'::r):j3 T k (ks.take (i+1))=some k':=by
 rw [List.take_add_one,hd,z9,hw]
 show j3 T ki [de]=some k'
 rw [j3,hb]
 rfl
def jL (m v:Nat):GK :=
 if m=0 then .i v
 else if m=1 then .i (((v:Int) - 5)*10 ^ 30+v)
 else if m=2 then .s (kU ⟨#[("abc":Str).cps.getD (v%3) 0]⟩ (1+v / 3))
 else if m=3 then .cons (.i ((v / 5:Nat):Int)) (.cons (.cons (.i ((v%5:Nat):Int)) (.cons (.s "x") .nil)) .nil)
 else if v%3=0 then .i v
 else if v%3=1 then .s ("s"++Str.ofString (toString (v:Int)))
 else .cons (.i v) (.cons (.s "") .nil)
theorem gC:∀v:Nat,v<25→(v:Int).natAbs.log2<1920:=by decide +kernel
theorem gD:∀v:Nat,v<25→("s":Str).length+(Str.ofString (toString (v:Int))).length≤1000:=by decide +kernel
theorem fL {v:Nat} (h:v≤24):CMul ((v:Int) - 5) (10 ^ (30:Int).toNat):=.inl ⟨by omega,by omega⟩
theorem fM (v:Nat):qT ("abc":Str).cps.toList ((v:Int)%3)=some (("abc":Str).cps.getD (v%3) 0):=by
 have e:((v:Int)%3)=((v%3:Nat):Int):=by omega
 rw [e]
 have h:v%3<3:=Nat.mod_lt _ (by decide)
 generalize v%3=n at h
 match n,h with
 |0,_=>decide +kernel
 |1,_=>decide +kernel
 |2,_=>decide +kernel
def yI:Sp:=fun vs H Q _=>∃m v:Nat,vs=[.int m,.int v]∧m≤4∧v≤24∧∀y H',Same H H'→(GV H' (jL m v)).1 y→gd (jL m v)≤8→Q y H'
theorem yB (m v:Nat):gd (jL m v)≤8:=by
 unfold jL
 repeat' split
 all_goals (simp only [gd];omega)
def kindD (m j:Nat):Nat:=if m=4 then j%3 else m%3
def kN (m j:Nat):GK:=if kindD m j=0 then .i j else if kindD m j=1 then .s ("d"++Str.ofString (toString (j:Int))) else .cons (.s "go") (.cons (.i j) .nil)
theorem z5 (m j:Nat):gd (kN m j)≤8:=by
 unfold kN
 repeat' split
 all_goals (simp only [gd];omega)
theorem fD:∀v:Nat,v<201→(v:Int).natAbs.log2<1920:=by decide +kernel
theorem fE:∀v:Nat,v<201→("d":Str).length+(Str.ofString (toString (v:Int))).length≤1000:=by decide +kernel
def JN:Sp:=fun vs H Q _=>∃m j:Nat,vs=[.int m,.int j]∧m≤4∧j≤200∧∀y H',Same H H'→(GV H' (kN m j)).1 y→Q y H'
def q4 (T:jK) (k:GK) (p:GK×GK):jK:=T.map fun q=>if q.1=k then (q.1,q.2++[p]) else q
theorem yF {T:jK} {k k':GK} {p:GK×GK}:jI (q4 T k p) k'=(jI T k').map fun ps=>if k'=k then ps++[p] else ps:=by
 unfold jI q4
 induction T with
 |nil=>rfl
 |cons q T ih =>
  rw [List.map_cons]
  by_cases h:q.1=k'
  ·have h':(if q.1=k then (q.1,q.2++[p]) else q).1=k':=by split<;>exact h
   rw [List.find?_cons_of_pos (by simpa using h'),List.find?_cons_of_pos (by simpa using h)]
   subst h
   by_cases hk:q.1=k
   ·simp [hk]
   ·simp [hk]
  ·have h':¬(if q.1=k then (q.1,q.2++[p]) else q).1=k':=by split<;>exact h
   rw [List.find?_cons_of_neg (by simpa using h'),List.find?_cons_of_neg (by simpa using h)]
   exact ih
def Z4 (ls:List Addr) (H H':Hp):Prop:=(∀a o,a∉ls→H a=some o→H' a=some o)∧∀l xs,H l=some (.lst xs)→∃ys,H' l=some (.lst ys)
theorem yC {H H':Hp} {xs:List V} {ps:List (GK×GK)} (hk:∀a l,H a=some (.tup l)→H' a=some (.tup l)) (h:PairsAt H xs ps):PairsAt H' xs ps:=⟨h.1,fun i x e=>by
 obtain ⟨p,a,b,c,e1,e2,e3,e4,e5,e6⟩:=h.2 i x e
 exact ⟨p,a,b,c,e1,e2,hk _ _ e3,(GV.keep hk _).1 _ e4,(GV.keep hk _).1 _ e5,e6⟩⟩
theorem QC {H:Hp} {xs:List V} {ps:List (GK×GK)} {p:GK×GK} {t:Addr} {b c:V} (h:PairsAt H xs ps) (ht:H t=some (.tup [b,c])) (h1:(GV H p.1).1 b) (h2:(GV H p.2).1 c) (g1:gd p.1≤8) (g2:gd p.2≤8):PairsAt H (xs++[.ref t]) (ps++[p]):=by
 refine ⟨by rw [List.length_append,List.length_append,h.1];rfl,fun i x e=>?_⟩
 by_cases hi:i<xs.length
 ·rw [List.getElem?_append_left hi] at e
  obtain ⟨q,a,b',c',e1,e2⟩:=h.2 i x e
  exact ⟨q,a,b',c',by rw [List.getElem?_append_left (by rw [← h.1];exact hi)];exact e1,e2⟩
 ·rw [List.getElem?_append_right (by omega)] at e
  have hz:i - xs.length=0:=by have:=(List.getElem?_eq_some_iff.mp e).1;rw [List.length_singleton] at this;omega
  rw [hz] at e
  cases e
  exact ⟨p,t,b,c,by rw [List.getElem?_append_right (by rw [← h.1];omega),← h.1,hz];rfl,rfl,ht,h1,h2,g1,g2⟩
theorem dN {w:World} {H H':Hp} {d l t:Addr} {T:jK} {kvs:List jU} {k:GK} {p:GK×GK} {ps:List (GK×GK)} {xs:List V} {b c:V} {ls:List Addr} (hT:TabAt w H d T ls) (e1:H d=some (GO w d kvs)) (g:GOk H kvs) (ap:(∀k k' l,jN kvs k=some (.ref l)→jN kvs k'=some (.ref l)→k=k')∧(∀k l,jN kvs k=some (.ref l)→l∈ls)∧kvs.length≤ls.length)
  (e3:∀k ps,jI T k=some ps→∃l xs,jN kvs k=some (.ref l)∧H l=some (.lst xs)∧PairsAt H xs ps) (hps:jI T k=some ps) (f1:jN kvs k=some (.ref l)) (f2:H l=some (.lst xs)) (f3:PairsAt H xs ps) (h190:ps.length≤190) (hsh:(jI T p.2).isSome=true)
  (kp:∀a o,a≠l→H a=some o→H' a=some o) (hl:H' l=some (.lst (xs++[.ref t]))) (ht:H' t=some (.tup [b,c])) (h1:(GV H' p.1).1 b) (h2:(GV H' p.2).1 c) (g1:gd p.1≤8) (g2:gd p.2≤8):TabAt w H' d (q4 T k p) ls:=by
 have hk:∀a l,H a=some (.tup l)→H' a=some (.tup l):=fun a z e=>kp a _ (fun y=>by subst y;rw [f2] at e;cases e) e
 have hsome:∀k',(jI (q4 T k p) k').isSome=(jI T k').isSome:=fun k'=>by rw [yF,Option.isSome_map]
 refine ⟨⟨kvs,kp d _ (fun y=>by subst y;rw [f2] at e1;cases e1) e1,g.keep hk,ap,fun k' ps' h=>?_⟩,fun k' ps' h=>?_,fun k' ps' q h hq=>?_,fun k' ps' h=>?_⟩
 all_goals
  rw [yF] at h
  obtain ⟨ps0,h0,rfl⟩:=Option.map_eq_some_iff.mp h
 ·obtain ⟨l',xs',f1',f2',f3'⟩:=e3 k' ps0 h0
  by_cases hkk:k'=k
  ·subst hkk
   rw [hps] at h0;cases h0
   rw [f1] at f1';cases f1'
   rw [if_pos rfl]
   exact ⟨l,_,f1,hl,QC (yC hk f3) ht h1 h2 g1 g2⟩
  ·rw [if_neg hkk]
   exact ⟨l',xs',f1',kp l' _ (fun y=>by subst y;exact hkk (ap.1 _ _ _ f1' f1)) f2',yC hk f3'⟩
 ·have:=hT.few k' ps0 h0
  by_cases hkk:k'=k
  ·subst hkk
   rw [hps] at h0;cases h0
   rw [if_pos rfl,List.length_append,List.length_singleton];omega
  ·rw [if_neg hkk];exact this
 ·rw [hsome]
  by_cases hkk:k'=k
  ·subst hkk
   rw [if_pos rfl] at hq
   rcases List.mem_append.mp hq with hq|hq
   ·exact hT.shut _ ps0 q h0 hq
   ·cases List.mem_singleton.mp hq;exact hsh
  ·rw [if_neg hkk] at hq
   exact hT.shut _ ps0 q h0 hq
 ·exact hT.deep k' ps0 h0
def QT (w:World):Sp:=fun vs H Q _=>∃(d:Addr) (m v u:Nat) (T:jK) (ls:List Addr) (ps:List (GK×GK)),vs=[.ref d,.int m,.int v,.int u]∧m≤4∧v≤24∧u≤24∧TabAt w H d T ls∧jI T (jL m v)=some ps∧(jI T (jL m u)).isSome=true∧ps.length≤190∧
 ∀H',TabAt w H' d (q4 T (jL m v) (kN m ps.length,jL m u)) ls→Z4 ls H H'→Q .non H'
def yS (T:jK) (k:GK):jK:=(T.filter fun q => !decide (q.1=k))++[(k,[])]
theorem yJ {T:jK} {k k':GK}:jI (yS T k) k'=if k'=k then some [] else jI T k':=by
 unfold jI yS
 rw [List.find?_append,List.find?_filter]
 by_cases h:k'=k
 ·subst h
  have:T.find? (fun a=>decide ((!decide (a.1=k'))=true∧decide (a.1=k')=true))=none:=by
   rw [List.find?_eq_none]
   intro x _
   by_cases hx:x.1=k'<;>simp [hx]
  rw [this,if_pos rfl]
  simp
 ·have e:(fun a:GK×List (GK×GK)=>decide ((!decide (a.1=k))=true∧decide (a.1=k')=true))=fun a=>decide (a.1=k'):=by
   funext a
   by_cases hx:a.1=k'
   ·have:¬a.1=k:=fun z=>h (hx▸z)
    simp [hx,h]
   ·simp [hx]
  have n:¬k=k':=fun z=>h z.symm
  rw [e,if_neg h]
  cases T.find? (fun a=>decide (a.1=k'))<;>simp [n]
theorem d5 {w:World} {H H':Hp} {d l:Addr} {T:jK} {kvs:List jU} {k:GK} {y:V} {ls:List Addr} (hT:TabAt w H d T ls) (g:GOk H kvs) (ap:(∀k k' l,jN kvs k=some (.ref l)→jN kvs k'=some (.ref l)→k=k')∧(∀k l,jN kvs k=some (.ref l)→l∈ls)∧kvs.length≤ls.length)
  (e3:∀k ps,jI T k=some ps→∃l xs,jN kvs k=some (.ref l)∧H l=some (.lst xs)∧PairsAt H xs ps) (hd:∀xs,H d≠some (.lst xs)) (hdt:∀xs,H d≠some (.tup xs)) (hnew:∀k',jN kvs k'≠some (.ref l)) (hy:(GV H k).1 y) (h8:gd k≤8)
  (kp:∀a o,a≠d→H a=some o→H' a=some o) (hl:H' l=some (.lst [])) (hd':H' d=some (GO w d (kT kvs k y (.ref l)))):TabAt w H' d (yS T k) (l::ls):=by
 have hk:∀a z,H a=some (.tup z)→H' a=some (.tup z):=fun a z e=>kp a _ (fun y=>by subst y;exact hdt _ e) e
 have hso:∀k',(jI T k').isSome=true→(jI (yS T k) k').isSome=true:=fun k' h=>by rw [yJ];split;rfl;exact h
 refine ⟨⟨_,hd',(g.set hy h8).keep hk,⟨fun k1 k2 l' a b=>?_,fun k1 l' a=>?_,by have h1:=JB kvs k y (.ref l);have h2:=ap.2.2;rw [List.length_cons];omega⟩,fun k' ps' h=>?_⟩,fun k' ps' h=>?_,fun k' ps' q h hq=>?_,fun k' ps' h=>?_⟩
 ·rw [yH] at a b
  by_cases h1:k1=k<;>by_cases h2:k2=k
  ·rw [h1,h2]
  ·rw [if_pos h1] at a;rw [if_neg h2] at b;cases a;exact absurd b (hnew k2)
  ·rw [if_neg h1] at a;rw [if_pos h2] at b;cases b;exact absurd a (hnew k1)
  ·rw [if_neg h1] at a;rw [if_neg h2] at b;exact ap.1 _ _ _ a b
 ·rw [yH] at a
  by_cases h1:k1=k
  ·rw [if_pos h1] at a;cases a;exact List.mem_cons_self
  ·rw [if_neg h1] at a;exact List.mem_cons_of_mem _ (ap.2.1 _ _ a)
 all_goals rw [yJ] at h
 ·by_cases h1:k'=k
  ·rw [if_pos h1] at h;cases h
   exact ⟨l,[],by rw [yH,if_pos h1],hl,rfl,fun i x e=>by cases e⟩
  ·rw [if_neg h1] at h
   obtain ⟨l',xs',f1,f2,f3⟩:=e3 k' ps' h
   exact ⟨l',xs',by rw [yH,if_neg h1];exact f1,kp l' _ (fun z=>by subst z;exact hd _ f2) f2,yC hk f3⟩
 ·by_cases h1:k'=k
  ·rw [if_pos h1] at h;cases h;exact Nat.zero_le _
  ·rw [if_neg h1] at h;exact hT.few k' ps' h
 ·by_cases h1:k'=k
  ·rw [if_pos h1] at h;cases h;cases hq
  ·rw [if_neg h1] at h;exact hso _ (hT.shut k' ps' q h hq)
 ·by_cases h1:k'=k
  ·rw [h1];exact h8
  ·rw [if_neg h1] at h;exact hT.deep k' ps' h
structure TabOk (m n c:Nat) (T:jK):Prop where
 dom:∀v,v<n→(jI T (jL m v)).isSome=true
 row:∀k ps,jI T k=some ps→ps.length≤c∧∀(i:Nat) p,ps[i]?=some p→p.1=kN m i
 cod:∀k ps,jI T k=some ps→∃v,v<n∧k=jL m v
theorem cN {m n c v u:Nat} {T:jK} {ps:List (GK×GK)} (h:TabOk m n c T) (hps:jI T (jL m v)=some ps):TabOk m n (c+1) (q4 T (jL m v) (kN m ps.length,jL m u)):=by
 refine ⟨fun v' hv=>by rw [yF,Option.isSome_map];exact h.dom v' hv,fun k ps' hk=>?_,fun k ps' hk=>by rw [yF] at hk;obtain ⟨ps0,h0,_⟩:=Option.map_eq_some_iff.mp hk;exact h.cod k ps0 h0⟩
 rw [yF] at hk
 obtain ⟨ps0,h0,rfl⟩:=Option.map_eq_some_iff.mp hk
 obtain ⟨a,b⟩:=h.row k ps0 h0
 by_cases hkk:k=jL m v
 ·subst hkk
  rw [hps] at h0;cases h0
  rw [if_pos rfl]
  refine ⟨by rw [List.length_append,List.length_singleton];omega,fun i p e=>?_⟩
  by_cases hi:i<ps.length
  ·rw [List.getElem?_append_left hi] at e;exact b i p e
  ·rw [List.getElem?_append_right (by omega)] at e
   have hz:i - ps.length=0:=by have:=(List.getElem?_eq_some_iff.mp e).1;rw [List.length_singleton] at this;omega
   rw [hz] at e;cases e
   rw [show i=ps.length by omega]
 ·rw [if_neg hkk];exact ⟨by omega,b⟩
def Q8 (w:World) (K:W.Frag):Sp:=fun vs H Q _=>∃(a:Addr) (ns:List Int) (m n:Nat),vs=[.ref a,.int m,.int n]∧SqL K H a (ns.map V.int)∧ns.length≤63∧m≤4∧1≤n∧n≤24∧
 ∀d T ls H',TabAt w H' d T ls→TabOk m n 100 T→Same H H'→(∀l∈ls,H l=none)→H d=none→Q (.ref d) H'
structure TabIn (w:World) (H Hi:Hp) (d:Addr) (m n c:Nat) (T:jK) (ls:List Addr):Prop where
 tab:TabAt w Hi d T ls
 ok:TabOk m n c T
 sm:Same H Hi
 new:∀l∈ls,H l=none
 dn:H d=none
 trk:∀l∈ls,∃xs,Hi l=some (.lst xs)
theorem TabIn.join {w:World} {H Hi H':Hp} {d:Addr} {m n c v u:Nat} {T:jK} {ls:List Addr} {ps:List (GK×GK)} (h:TabIn w H Hi d m n c T ls) (hps:jI T (jL m v)=some ps) (hT:TabAt w H' d (q4 T (jL m v) (kN m ps.length,jL m u)) ls) (hk:Z4 ls Hi H') :
  TabIn w H H' d m n (c+1) (q4 T (jL m v) (kN m ps.length,jL m u)) ls :=
 ⟨hT,cN h.ok hps,fun a o e=>hk.1 a o (fun hin=>by rw [h.new a hin] at e;cases e) (h.sm _ _ e),h.new,h.dn,fun l hl=>let ⟨xs,e⟩:=h.trk l hl;hk.2 l xs e⟩
theorem TabIn.same {w:World} {H Hi Hj:Hp} {d:Addr} {m n c:Nat} {T:jK} {ls:List Addr} (h:TabIn w H Hi d m n c T ls) (s:Same Hi Hj):TabIn w H Hj d m n c T ls:=⟨h.tab.same s,h.ok,h.sm.trans s,h.new,h.dn,fun l hl=>let ⟨xs,e⟩:=h.trk l hl;⟨xs,s _ _ e⟩⟩
theorem TabIn.mono {w:World} {H Hi:Hp} {d:Addr} {m n c c':Nat} {T:jK} {ls:List Addr} (h:TabIn w H Hi d m n c T ls) (hc:c≤c'):TabIn w H Hi d m n c' T ls :=
 ⟨h.tab,⟨h.ok.dom,fun k ps hk=>⟨Nat.le_trans (h.ok.row k ps hk).1 hc,(h.ok.row k ps hk).2⟩,h.ok.cod⟩,h.sm,h.new,h.dn,h.trk⟩
theorem cS {w:World} {H:Hp} {d:Addr} (h:H d=some (GO w d [])):TabAt w H d [] [] :=
 ⟨⟨[],h,GOk.nil,⟨fun _ _ _ e=>absurd e (by simp [jN]),fun _ _ e=>absurd e (by simp [jN]),Nat.le_refl _⟩,fun _ _ e=>absurd e (by simp [jI])⟩,fun _ _ e=>absurd e (by simp [jI]),fun _ _ _ e=>absurd e (by simp [jI]),fun _ _ e=>absurd e (by simp [jI])⟩
structure MarkIn (w:World) (H Hi:Hp) (d:Addr) (m i:Nat) (M:GK→Bool):Prop where
 ex:∃kvs,Hi d=some (GO w d kvs)∧GOk Hi kvs∧kvs.length≤i∧∀v,v<i→jN kvs (jL m v)=some (.bl (M (jL m v)))
 sm:Same H Hi
 dn:H d=none
def Q9 (w:World):Sp:=fun vs H Q _=>∃(c:Int) (m n:Nat),vs=[.int c,.int m,.int n]∧m≤4∧1≤n∧n≤24∧∀d M H',MarkIn w H H' d m n M→Q (.ref d) H'
theorem z8 {w:World} {H Hi H1:Hp} {d:Addr} {m i:Nat} {M:GK→Bool} {y:V} (hI:MarkIn w H Hi d m i M) (s1:Same Hi H1) (hy:(GV H1 (jL m i)).1 y) (b:Bool) :
  ∃kvs,H1 d=some (GO w d kvs)∧GOk H1 kvs∧kvs.length≤i∧MarkIn w H (jB H1 d (GO w d (kT kvs (jL m i) y (.bl b)))) d m (i+1) (fun k=>if k=jL m i then b else M k):=by
 obtain ⟨kvs,e1,g,hl,hg⟩:=hI.ex
 have g1:=vH s1 g
 refine ⟨kvs,s1 _ _ e1,g1,hl,⟨_,jJ,(g1.set hy (yB m i)).keep fun a l e=>?_,?_,fun v hv=>?_⟩,vD hI.dn (hI.sm.trans s1),hI.dn⟩
 ·rw [jC fun z=>by subst z;rw [s1 _ _ e1] at e;cases e];exact e
 ·have:=JB kvs (jL m i) y (.bl b);omega
 ·rw [yH]
  by_cases h:jL m v=jL m i
  ·rw [if_pos h,if_pos h]
  ·rw [if_neg h,if_neg h]
   exact hg v (by have:v≠i:=fun z=>h (by rw [z]);omega)
def ZW (w:World) (K:W.Frag):Sp:=fun vs H Q _=>∃(a:Addr) (ns:List Int) (m:Nat) (y:V) (d:Addr) (T:jK) (ls:List Addr) (n:Nat) (k:GK),vs=[.ref a,.int m,y,.ref d]∧SqL K H a (ns.map V.int)∧m≤4∧TabAt w H d T ls∧TabOk m n 100 T∧(GV H k).1 y∧(jI T k).isSome=true∧
 ∀r xs ks H',H r=none→H' r=some (.lst xs)→KeysAt H' xs ks→xs.length≤12→Same H H'→Q (.ref r) H'
structure RowIn (H Hi:Hp) (r:Addr) (i:Nat) (T:jK) (yi:V):Prop where
 sm:Same H Hi
 rn:H r=none
 row:∃xs ks,Hi r=some (.lst xs)∧KeysAt Hi xs ks∧xs.length≤i
 at_:∃ki ps,(GV Hi ki).1 yi∧jI T ki=some ps
theorem RowIn.put {H Hi H1:Hp} {r:Addr} {i:Nat} {T:jK} {yi y' v:V} {k k':GK} {xs:List V} {ks:List GK} (h:RowIn H Hi r i T yi) (s:Same Hi H1) (e:Hi r=some (.lst xs)) (hk:KeysAt Hi xs ks) (hl:xs.length≤i) (hv:(GV H1 k).1 v) (h8:gd k≤8) (hy:(GV Hi k').1 y') (hs:(jI T k').isSome=true) :
  RowIn H (jB H1 r (.lst (xs++[v]))) r (i+1) T y':=by
 have er:=s _ _ e
 have tk:∀a l,H1 a=some (.tup l)→jB H1 r (.lst (xs++[v])) a=some (.tup l):=fun a l e'=>by rw [jC (fun z=>by rw [z,er] at e';cases e')];exact e'
 obtain ⟨ps,hps⟩:=Option.isSome_iff_exists.mp hs
 exact ⟨vD h.rn (h.sm.trans s),h.rn,⟨_,_,jJ,(hk.same s).snoc tk hv h8,by rw [List.length_append,List.length_singleton];omega⟩,⟨k',ps,(GV.keep tk k').1 _ (j7 s hy),hps⟩⟩
theorem q8 {a b:Int} (h:0<b):∃k:Nat,a%b=(k:Int)∧(k:Int)<b:=by
 have h1:=Int.emod_nonneg a (by omega:b≠0)
 have h2:=Int.emod_lt_of_pos a h
 exact ⟨(a%b).toNat,by omega,by omega⟩
def iD (s:Str):Nat:=(s.cps.toList.drop 1).foldl (fun a c=>a*10+(c - 48)) 0
theorem ZY:∀v:Nat,v<201→iD ("d"++Str.ofString (toString (v:Int)))=v:=by decide +kernel
theorem dE {m i j:Nat} (hi:i<201) (hj:j<201) (h:kN m i=kN m j):i=j:=by
 have H:∀x,kN m x=if kindD m x=0 then .i x else if kindD m x=1 then .s ("d"++Str.ofString (toString (x:Int))) else .cons (.s "go") (.cons (.i x) .nil):=fun _=>rfl
 by_cases a:kindD m i=0<;>by_cases b:kindD m j=0
 ·rw [H i,if_pos a,H j,if_pos b] at h;injection h with h;omega
 ·rw [H i,if_pos a,H j,if_neg b] at h
  by_cases b':kindD m j=1
  ·rw [if_pos b'] at h;cases h
  ·rw [if_neg b'] at h;cases h
 ·rw [H i,if_neg a,H j,if_pos b] at h
  by_cases a':kindD m i=1
  ·rw [if_pos a'] at h;cases h
  ·rw [if_neg a'] at h;cases h
 rw [H i,if_neg a,H j,if_neg b] at h
 by_cases a':kindD m i=1<;>by_cases b':kindD m j=1
 ·rw [if_pos a',if_pos b'] at h;injection h with h;rw [← ZY i hi,h,ZY j hj]
 ·rw [if_pos a',if_neg b'] at h;cases h
 ·rw [if_neg a',if_pos b'] at h;cases h
 ·rw [if_neg a',if_neg b'] at h;injection h with _ h;injection h with h _;injection h with h;omega
theorem Q4 {m:Nat} {de:GK}:∀(ps:List (GK×GK)) (o:Nat),ps.length+o≤200→(∀(i:Nat) p,ps[i]?=some p→p.1=kN m (o+i))→(ps.filter fun z=>decide (z.1=de)).length≤1
 |[],_,_,_=>Nat.zero_le _
 |p::ps,o,hl,h=>by
  rw [List.length_cons] at hl
  have ih:=Q4 (m:=m) (de:=de) ps (o+1) (by omega) (fun i q e=>by rw [h (i+1) q (by rw [List.getElem?_cons_succ];exact e)];congr 1;omega)
  rw [List.filter_cons]
  split
  ·rename_i hp
   have h0:=h 0 p rfl
   have hn:ps.filter (fun z=>decide (z.1=de))=[]:=by
    rw [List.filter_eq_nil_iff]
    intro q hq hd
    obtain ⟨i,hi⟩:=List.mem_iff_getElem?.mp hq
    have h1:=h (i+1) q (by rw [List.getElem?_cons_succ];exact hi)
    have hlt:=(List.getElem?_eq_some_iff.mp hi).1
    have e1:p.1=de:=of_decide_eq_true hp
    have e2:q.1=de:=of_decide_eq_true hd
    have:=dE (m:=m) (i:=o+0) (j:=o+(i+1)) (by omega) (by omega) (by rw [← h0,← h1,e1,e2])
    omega
   rw [hn];exact Nat.le_refl _
  ·exact ih
def QS (w:World) (K:W.Frag):Sp:=fun vs H Q _=>∃(d rl:Addr) (y:V) (T:jK) (ls:List Addr) (m n:Nat) (k:GK) (row:List V) (ks:List GK),vs=[.ref d,y,.ref rl]∧TabAt w H d T ls∧TabOk m n 100 T∧(GV H k).1 y∧(jI T k).isSome=true∧H rl=some (.lst row)∧KeysAt H row ks∧
 (j3 T k ks=none→∀H',Same H H'→Q .non H')∧∀k' y' p H',j3 T k ks=some k'→(jI T k').isSome=true→(GV H' k').1 y'→H' p=some (.lst [y'])→Same H H'→Q (.ref p) H'
def Clo1 (H:Hp) (f:Addr) (st:Stmt) (qual:Str) (x:Str) (d:Addr):Prop:=∃c cdv fd,c≠d∧CloAt H f qual (jX st) (jT st) (jH st) [(x,c)] [.ref d] cdv fd
theorem Clo1.same {H H':Hp} {f:Addr} {st:Stmt} {qual x:Str} {d:Addr} (s:Same H H') (h:Clo1 H f st qual x d):Clo1 H' f st qual x d:=let ⟨c,cdv,fd,n,C⟩:=h;⟨c,cdv,fd,n,d3 s C⟩
theorem JZ {α:Type} {P:α→Prop} {a b:α} (h1:P a) (h2:P b):∀q∈[a,b],P q:=fun q hq=>by
 rcases List.mem_cons.mp hq with rfl|hq
 ·exact h1
 ·cases List.mem_singleton.mp hq;exact h2
def vJ (tL:Addr) (H H':Hp):Prop:=∀a o,a≠tL→H a=some o→H' a=some o
theorem vG {H H':Hp} {tL a:Addr} {tp:Array Value} {o:HO} (k:vJ tL H H') (ht:H tL=some (.tbl tp)) (e:H a=some o) (hn:o≠.tbl tp):H' a=some o:=k a o (fun z=>hn (by subst z;rw [ht] at e;cases e;rfl)) e
theorem zA {H H':Hp} {tL:Addr} {tp:Array Value} (k:vJ tL H H') (ht:H tL=some (.tbl tp)):∀a l,H a=some (.tup l)→H' a=some (.tup l):=fun a l e=>vG k ht e (fun z=>by cases z)
theorem TabAt.keepT {w:World} {H H':Hp} {tL d:Addr} {tp:Array Value} {T:jK} {ls:List Addr} (k:vJ tL H H') (ht:H tL=some (.tbl tp)) (h:TabAt w H d T ls):TabAt w H' d T ls:=by
 have tk:=zA k ht
 obtain ⟨⟨kvs,e1,e2,ap,e3⟩,e4,e5,e6⟩:=h
 refine ⟨⟨kvs,vG k ht e1 (fun z=>by cases z),e2.keep tk,ap,fun k' ps hk=>?_⟩,e4,e5,e6⟩
 obtain ⟨l,xs,f1,f2,f3⟩:=e3 k' ps hk
 exact ⟨l,xs,f1,vG k ht f2 (fun z=>by cases z),yC tk f3⟩
theorem eI {w:World} {H0 H:Hp} {d:Addr} {m n c:Nat} {T:jK} {M:GK→Bool} (hI:MarkIn w H0 H d m n M) (hO:TabOk m n c T):MarkAt w H d T M:=by
 obtain ⟨kvs,e1,g,_,hg⟩:=hI.ex
 refine ⟨kvs,e1,g,fun k hk=>?_⟩
 obtain ⟨ps,hps⟩:=Option.isSome_iff_exists.mp hk
 obtain ⟨v,hv,rfl⟩:=hO.cod k ps hps
 exact hg v hv
theorem MarkAt.keepT {w:World} {H H':Hp} {tL d:Addr} {tp:Array Value} {T:jK} {M:GK→Bool} (k:vJ tL H H') (ht:H tL=some (.tbl tp)) (h:MarkAt w H d T M):MarkAt w H' d T M:=by
 obtain ⟨kvs,e1,e2,e3⟩:=h.ex
 exact ⟨kvs,vG k ht e1 (fun z=>by cases z),e2.keep (zA k ht),e3⟩
theorem KeysAt.keep {H H':Hp} {xs:List V} {ks:List GK} (tk:∀a l,H a=some (.tup l)→H' a=some (.tup l)) (h:KeysAt H xs ks):KeysAt H' xs ks:=⟨h.1,fun i x e=>by
 obtain ⟨k,e1,e2,e3⟩:=h.2 i x e
 exact ⟨k,e1,(GV.keep tk k).1 _ e2,e3⟩⟩
theorem KeysAt.take {H:Hp} {xs:List V} {ks:List GK} (h:KeysAt H xs ks) (j:Nat):KeysAt H (xs.take j) (ks.take j):=⟨by rw [List.length_take,List.length_take,h.1],fun i x e=>by
  have hi:i<j:=by have:=(List.getElem?_eq_some_iff.mp e).1;rw [List.length_take] at this;omega
  rw [List.getElem?_take_of_lt hi] at e ⊢
  exact h.2 i x e⟩
def FnIs (H:Hp) (f:Addr) (st:Stmt) (qual x:Str) (c:Addr):Prop:=∃(fo:Obj) (name:Str) (doc pm:Value) (an:Option Addr) (ct:Value) (c':Addr) (oc:Obj),H f=some (FnO f fo)∧fo.data=.func (W.fnX name qual (jX st) (jT st) (jH st) [(x,c)] .none .none doc pm an (.ref c') ct)∧H c'=some (FnO c' oc)∧∃vs t,oc.data=.fields vs∧vs[1]?=some (.str qual t)
theorem FnIs.same {H H':Hp} {f c:Addr} {st:Stmt} {qual x:Str} (s:Same H H') (h:FnIs H f st qual x c):FnIs H' f st qual x c:=by
 obtain ⟨fo,name,doc,pm,an,ct,c',oc,e1,e2,e3,e4⟩:=h
 exact ⟨fo,name,doc,pm,an,ct,c',oc,s _ _ e1,e2,s _ _ e3,e4⟩
theorem FnIs.keepT {H H':Hp} {f c tL:Addr} {tp:Array Value} {st:Stmt} {qual x:Str} (k:vJ tL H H') (ht:H tL=some (.tbl tp)) (h:FnIs H f st qual x c):FnIs H' f st qual x c:=by
 obtain ⟨fo,name,doc,pm,an,ct,c',oc,e1,e2,e3,e4⟩:=h
 exact ⟨fo,name,doc,pm,an,ct,c',oc,vG k ht e1 (fun z=>by cases z),e2,vG k ht e3 (fun z=>by cases z),e4⟩
theorem FnIs.clo {H HC:Hp} {cs:List Addr} {f c d:Addr} {st:Stmt} {qual x:Str} {o:Obj} {u:Value} (h:FnIs H f st qual x c) (hn:∀c∈cs,H c=none) (hc:c∈cs) (e1:HC c=some (FnO c o)) (e2:o.data=.cell (some u)) (rv:RelV (.ref d) u) (hd:H d≠none):Clo1 (j5 H HC cs) f st qual x d:=by
 obtain ⟨fo,name,doc,pm,an,ct,c',oc,f1,f2,f3,vs,t,f4,f5⟩:=h
 have out:∀b v,H b=some v→j5 H HC cs b=some v:=fun b v e=>by rw [j6 fun z=>by rw [hn b z] at e;cases e];exact e
 refine ⟨c,.ref c',_,fun z=>hd (z▸hn c hc),⟨fo,name,doc,pm,an,ct,out _ _ f1,f2,rfl⟩,⟨c',oc,vs,t,rfl,out _ _ f3,f4,f5⟩,by simp,rfl,fun i y c2 v h1 h2=>?_⟩
 match i,h1,h2 with
 |0,h1,h2=>cases h1;cases h2;exact ⟨o,u,by rw [vY hc];exact e1,e2,rv⟩
 |i+1,h1,_=>cases h1
theorem QK {H HC:Hp} {cs:List Addr} (hn:∀c∈cs,H c=none):Same H (j5 H HC cs):=fun b v e=>by rw [j6 fun z=>by rw [hn b z] at e;cases e];exact e
theorem dL {H H' HC:Hp} {cs:List Addr} (hn:∀c∈cs,H c=none) (s:Same (j5 H HC cs) H'):Same H (j8 H' cs):=fun b v e=>by
 rw [j0 fun z=>by rw [hn b z] at e;cases e]
 exact s _ _ (QK hn _ _ e)
theorem dF {xs:List V} {c:Nat} (h:c≤xs.length):qI xs none (some (c:Int))=xs.take c:=by
 unfold qI
 rw [HT.sIx_none,HT.sIx_nat,Nat.min_eq_left h,List.drop_zero,Nat.sub_zero]
def zH (tL:Addr) (K:W.Frag):Sp:=fun vs H Q _=>∃(a:Addr) (ns:List Int),vs=[.ref a]∧SqL K H a (ns.map V.int)∧ns.length≤63∧H tL=some (.tbl #[])∧∀H',Q (.bl true) H'
def ZU (H:Hp) (T:jK) (k:GK) (ks:List GK) (v:V):Prop:=(j3 T k ks=none∧v=.non)∨∃k' y' p,j3 T k ks=some k'∧(jI T k').isSome=true∧(GV H k').1 y'∧H p=some (.lst [y'])∧v=.ref p
theorem JJ {H:Hp} {P f c:Addr} {o2 o3:HO} {tp:Array Value} (n1:f≠P) (n2:c≠P):jB (jB (jB H P (.tbl tp)) f o2) c o3 P=some (.tbl tp):=by rw [jC n2.symm,jC n1.symm,jJ]
theorem JD {H:Hp} {P f c:Addr} {o1 o2 o3:HO} (h1:H f=none) (h2:H c=none):vJ P H (jB (jB (jB H P o1) f o2) c o3):=fun a o n e=>by
 rw [jC (qL e h2),jC (qL e h1),jC n];exact e
def JF (w:World) (K:W.Frag):Sp:=fun vs H Q _=>∃(y:V) (fa fe rl:Addr) (dT dM:Addr) (T:jK) (ls:List Addr) (M:GK→Bool) (k:GK) (row:List V) (ks:List GK),vs=[y,.ref fa,.ref fe,.ref rl]∧
 Clo1 H fa qD "law.<locals>._law_ahead" "_law_table_here" dT∧Clo1 H fe qE "law.<locals>._law_ended" "_law_marks_here" dM∧TabAt w H dT T ls∧MarkAt w H dM T M∧(GV H k).1 y∧(jI T k).isSome=true∧
 H rl=some (.lst row)∧KeysAt H row ks∧row.length≤900∧∀H',Same H H'→Q (.bl (qG T M k ks)) H'
structure Lay51 (w:World) (H:Hp) (dT dM r:Addr) (T:jK) (ls:List Addr) (M:GK→Bool) (m n:Nat) (k:GK) (y:V) (xs:List V) (ks:List GK):Prop where
 tab:TabAt w H dT T ls
 ok:TabOk m n 100 T
 mrk:MarkAt w H dM T M
 key:(GV H k).1 y
 at_:(jI T k).isSome=true
 row:H r=some (.lst xs)
 keys:KeysAt H xs ks
 len:xs.length≤12
theorem Lay51.same {w:World} {H H':Hp} {dT dM r:Addr} {T:jK} {ls:List Addr} {M:GK→Bool} {m n:Nat} {k:GK} {y:V} {xs:List V} {ks:List GK} (h:Lay51 w H dT dM r T ls M m n k y xs ks) (s:Same H H'):Lay51 w H' dT dM r T ls M m n k y xs ks :=
 ⟨h.tab.same s,h.ok,h.mrk.same s,j7 s h.key,h.at_,s _ _ h.row,h.keys.same s,h.len⟩
theorem Lay51.keepT {w:World} {H H':Hp} {tL dT dM r:Addr} {tp:Array Value} {T:jK} {ls:List Addr} {M:GK→Bool} {m n:Nat} {k:GK} {y:V} {xs:List V} {ks:List GK} (h:Lay51 w H dT dM r T ls M m n k y xs ks) (s:vJ tL H H') (ht:H tL=some (.tbl tp)):Lay51 w H' dT dM r T ls M m n k y xs ks :=
 ⟨h.tab.keepT s ht,h.ok,h.mrk.keepT s ht,(GV.keep (zA s ht) k).1 _ h.key,h.at_,vG s ht h.row (fun z=>by cases z),h.keys.keep (zA s ht),h.len⟩
structure Ready (w:World) (H:Hp) (fa fe cT cM dT dM r:Addr) (T:jK) (ls:List Addr) (M:GK→Bool) (m n:Nat) (k:GK) (y:V) (xs:List V) (ks:List GK):Prop where
 lay:Lay51 w H dT dM r T ls M m n k y xs ks
 fa:FnIs H fa qD "law.<locals>._law_ahead" "_law_table_here" cT
 fe:FnIs H fe qE "law.<locals>._law_ended" "_law_marks_here" cM
theorem Ready.same {w:World} {H H':Hp} {fa fe cT cM dT dM r:Addr} {T:jK} {ls:List Addr} {M:GK→Bool} {m n:Nat} {k:GK} {y:V} {xs:List V} {ks:List GK} (h:Ready w H fa fe cT cM dT dM r T ls M m n k y xs ks) (s:Same H H'):Ready w H' fa fe cT cM dT dM r T ls M m n k y xs ks :=
 ⟨h.lay.same s,h.fa.same s,h.fe.same s⟩
theorem Q0 {w:World} {K:W.Frag} {H HC:Hp} {fa fe cT cM dT dM r rl:Addr} {T:jK} {ls:List Addr} {M:GK→Bool} {m n:Nat} {k:GK} {y:V} {xs row:List V} {ks kr:List GK} {σ:St} {Q:VK} (h:Ready w H fa fe cT cM dT dM r T ls M m n k y xs ks)
  (hrl:H rl=some (.lst row)) (hkr:KeysAt H row kr) (hl:row.length≤900) (e5:σ[5]?=some (some (.ref dM))) (e4:σ[4]?=some (some (.ref dT)))
  (hHC:∀q∈[(5,cM),(4,cT)],∃v o u,σ[q.1]?=some (some v)∧HC q.2=some (FnO q.2 o)∧o.data=.cell (some u)∧RelV v u) (hn:∀q∈[(5,cM),(4,cT)],H q.2=none) (hQ:∀H',Same H H'→Q (.bl (qG T M k kr)) H') :
  JF w K [y,.ref fa,.ref fe,.ref rl] (j5 H HC ([(5,cM),(4,cT)].map (·.2))) (fun v H'=>(∀p∈[(5,cM),(4,cT)],H' p.2=HC p.2)∧Q v (j8 H' ([(5,cM),(4,cT)].map (·.2)))) E0:=by
 have hn':∀c∈([(5,cM),(4,cT)]:List (Nat×Addr)).map (·.2),H c=none:=fun c hc=>by
  obtain ⟨q,hq,rfl⟩:=List.mem_map.mp hc
  exact hn q hq
 obtain ⟨vM,oM,uM,a1,a2,a3,a4⟩:=hHC (5,cM) (by simp)
 obtain ⟨vT,oT,uT,b1,b2,b3,b4⟩:=hHC (4,cT) (by simp)
 rw [e5] at a1;cases a1
 rw [e4] at b1;cases b1
 have s:=QK (HC:=HC) hn'
 have dd:H dT≠none:=fun z=>by obtain ⟨_,e,_⟩:=h.lay.tab.ex;rw [z] at e;cases e
 have dm:H dM≠none:=fun z=>by obtain ⟨_,e,_⟩:=h.lay.mrk.ex;rw [z] at e;cases e
 refine ⟨y,fa,fe,rl,dT,dM,T,ls,M,k,row,kr,rfl,h.fa.clo hn' (by simp) b2 b3 b4 dd,h.fe.clo hn' (by simp) a2 a3 a4 dm,h.lay.tab.same s,h.lay.mrk.same s,j7 s h.lay.key,h.lay.at_,s _ _ hrl,hkr.same s,hl,fun H' s'=>⟨JZ ?_ ?_,hQ _ (dL hn' s')⟩⟩
 ·have:=s' cM _ (by rw [vY (by simp)];exact a2)
  rw [this,a2]
 ·have:=s' cT _ (by rw [vY (by simp)];exact b2)
  rw [this,b2]
theorem cC (L f:Addr) (cd:Value):closureFor (jH qD) (PyProof.Rows.envOfC "law" (jH kZ) L f cd)=pure [(("_law_table_here":Str),L+2)]:=rfl
theorem cB (L f:Addr) (cd:Value):closureFor (jH qE) (PyProof.Rows.envOfC "law" (jH kZ) L f cd)=pure [(("_law_marks_here":Str),L+1)]:=rfl
structure Txt (K:W.Frag) (mg:Str→Option Value) : Prop where
 z_list:mg "list"=none
 z_len:mg "len"=none
 z_str:mg "str"=none
 z_range:mg "range"=none
 z_isinstance:mg "isinstance"=none
 z_bool:mg "bool"=none
set_option maxHeartbeats 4000000
section
variable {P:Program} {w:World} {K:W.Frag} {mg:Str→Option Value} {base:Heap}
theorem bV:CloScope ["_law_state","_law_table_here"] ["_law_state"] ["_law_table_here"] (jH qD):=⟨rfl,rfl,rfl,by decide +kernel,rfl,by decide +kernel,by decide +kernel,ZQ (by decide +kernel),by decide +kernel⟩
theorem bI (T:Txt K mg) : FnV P w K mg base jV 3 (yQ "law.<locals>._law_ahead" (jX qD) (jT qD) (jH qD) ["_law_state"] ["_law_table_here"] (ZB w)):=by
 refine ZR bV (fun _ _ _ _ _ _ _ us hl=>match us,hl with|[_],_=>rfl) fun A outer s H f cdv cl fvs vs Q E hcl hr hc h=>?_
 obtain ⟨y,d,T0,ls,k,ps,rfl,rfl,hd,hT,hy,hk,q⟩:=h
 have hu:_<cLine:=hr.units0
 have hu1:=kS hr
 have hu9:=qQ hr
 have hu10:=qP hr
 refine ⟨_,(jO (j4 (yX J7 (by rfl) T.z_list PyProof.Rows.boot_list (jA (qX hu9 (pv 1) (pv 0) (fun _ _=>rfl)) jG)))),?_⟩
 obtain ⟨kvs,e1,g,_,e3⟩:=hT.ex
 obtain ⟨l,xs,f1,f2,f3⟩:=e3 k ps hk
 refine ⟨_,rfl,_,rfl,d,kvs,k,_,rfl,.of (by rw [j0 hd];exact e1),g.keep (zD hc),(GV.keep (zD hc) k).1 _ hy,hT.deep k ps hk,f1,?_⟩
 refine ⟨l,xs,rfl,.inl (.of (by rw [j0 (eH hc f2)];exact f2)),fun p hp hn=>?_⟩
 have hp':p∉cl.map (·.2):=fun hin=>by have:=hn p hin;rw [jJ] at this;cases this
 rw [eT hp']
 exact q p xs (by rw [j0 hp'] at hp;exact hp) f3
theorem bW:CloScope ["_law_state","_law_marks_here"] ["_law_state"] ["_law_marks_here"] (jH qE):=⟨rfl,rfl,rfl,by decide +kernel,rfl,by decide +kernel,by decide +kernel,ZQ (by decide +kernel),by decide +kernel⟩
theorem bJ (T:Txt K mg) : FnV P w K mg base jV 3 (yQ "law.<locals>._law_ended" (jX qE) (jT qE) (jH qE) ["_law_state"] ["_law_marks_here"] (ZA w)):=by
 refine ZR bW (fun _ _ _ _ _ _ _ us hl=>match us,hl with|[_],_=>rfl) fun A outer s H f cdv cl fvs vs Q E hcl hr hc h=>?_
 obtain ⟨y,d,T0,M,k,rfl,rfl,hd,hM,hy,h8,hk,q⟩:=h
 have hu:_<cLine:=hr.units0
 have hu1:=kS hr
 have hu9:=qQ hr
 have hu10:=qP hr
 refine ⟨_,(jO (j4 (qX hu9 (pv 1) (pv 0) (fun _ _=>rfl)))),?_⟩
 obtain ⟨kvs,e1,g,e3⟩:=hM.ex
 refine ⟨_,rfl,_,rfl,d,kvs,k,_,rfl,.of (by rw [j0 hd];exact e1),g.keep (zD hc),(GV.keep (zD hc) k).1 _ hy,h8,e3 k hk,fun _=>?_⟩
 rw [eU]
 exact q
theorem yA:FnScope ["first","ahead","ended","row","state","deed","behind"] ["first","ahead","ended","row"] (jH vF):=⟨rfl,rfl,rfl,by decide +kernel,rfl,by decide +kernel,by decide +kernel⟩
theorem bU {f:Addr} {fd:FuncData} (F:Fun K "row_holds" "row_holds" vF f fd) (T:Txt K mg) (V__law_ahead:FnV P w K mg base jV 3 (yQ "law.<locals>._law_ahead" (jX qD) (jT qD) (jH qD) ["_law_state"] ["_law_table_here"] (ZB w))) (V__law_ended:FnV P w K mg base jV 3 (yQ "law.<locals>._law_ended" (jX qE) (jT qE) (jH qE) ["_law_state"] ["_law_marks_here"] (ZA w))):FnOk P w K mg base jV 6 f fd ["first","ahead","ended","row"] (JF w K):=by
 refine F.ok yA (fun vs H Q E h=>?_) (fun cdv A outer s H vs Q E hr h=>?_)
 ·obtain ⟨y,fa,fe,rl,dT,dM,T0,ls,M,k,row,ks,rfl,hA,hE,hT,hM,hy,hk,hrl,hks,h900,q⟩:=h
  rfl
 obtain ⟨y,fa,fe,rl,dT,dM,T0,ls,M,k,row,ks,rfl,hA,hE,hT,hM,hy,hk,hrl,hks,h900,q⟩:=h
 have hu:_<cLine:=hr.units0
 have hu1:=kS hr
 have hu9:=qQ hr
 have hu10:=qP hr
 refine ⟨_,(jM (jP (i:=4) yA.nd rfl (by first|exact Or.inl rfl|exact Or.inr rfl) (pv 0))
   (jM (q0 PassesOwn.never rfl (v7 (pv 3)) (kX (i:=5) yA.nd rfl (by first|exact Or.inl rfl|exact Or.inr rfl))
    (jM (QB (i:=6) ["told","come_to","deed"] (v2 2 [5]) yA.nd rfl (by first|exact Or.inl rfl|exact Or.inr rfl) rfl (J6 (jH vF) rfl rfl (by decide +kernel) (by decide +kernel) (by decide +kernel)) (zY 2 [5] rfl rfl (by decide +kernel)) (v7 (QW (i:=1) V__law_ahead (hr.mono (by decide)) JU rfl (.inl rfl) (jA (pv 4) jG))) (fun _ _ _ _ _=>(eD (n:=2) K rfl (QV (kX (i:=0) (show List.Nodup (["told","come_to","deed"]:List Str) from by decide +kernel) rfl (by first|exact Or.inl rfl|exact Or.inr rfl)) (QV (kX (i:=1) (show List.Nodup (["told","come_to","deed"]:List Str) from by decide +kernel) rfl (by first|exact Or.inl rfl|exact Or.inr rfl)) eC)))) (fun _ _ _ _ _=>(ZC (kD (ZP hu9) (pv 0) (pv 2) (jW _)))) (fun _ _ _ _ _=>(pv 1)))
   (jM (kL (JP (dR (pv 6) (fun _=>rfl))) (jO (j4 zR)) kP)
   (jO (jP (i:=4) yA.nd rfl (by first|exact Or.inl rfl|exact Or.inr rfl) (kI qM (pv 6) jD (fun _ _=>rfl)))))))
   (jO (j4 (QW (i:=2) V__law_ended (hr.mono (by decide)) JU rfl (.inl rfl) (jA (pv 4) jG)))))),?_⟩
 refine ⟨_,rfl,_,rfl,rl,rfl,⟨_,SqL.of hrl⟩,?_⟩
 refine JE (K:=K) (xs:=row) (fun i σ Hi=>∃yi ki c5 c6,σ=[some y,some (.ref fa),some (.ref fe),some (.ref rl),some yi,c5,c6]∧Same H Hi∧(GV Hi ki).1 yi∧(jI T0 ki).isSome=true∧j3 T0 k (ks.take i)=some ki) ⟨y,k,none,none,rfl,Same.refl _,hy,hk,rfl⟩ (fun i σ Hi _ ⟨_,_,_,_,_,s,_⟩=>SqL.of (s _ _ hrl)) ?_ ?_
 ·rintro i x σ Hi hx ⟨yi,ki,c5,c6,rfl,s,hyi,hki,hw⟩
  obtain ⟨de,hde,hxk,hx8⟩:=hks.2 i x hx
  obtain ⟨ps,hps⟩:=Option.isSome_iff_exists.mp hki
  obtain ⟨c1,cdv,fd,hne,C⟩:=hA.same s
  refine ⟨fa,rfl,_,rfl,⟨rfl,_,_,cdv,fd,C,rfl,yi,dT,T0,ls,ki,ps,rfl,rfl,by intro hin;exact hne (List.mem_singleton.mp hin).symm,hT.same s,hyi,hps,fun p xs hp hP=>⟨p,rfl,⟨_,SqL.of jJ⟩,fun bt hbt=>?_⟩⟩⟩
  have sp:=j9 hp (.lst xs)
  have hP1:=hP.same sp
  have few:=hT.few ki ps hps
  have hxl:=hP.1
  refine cQ (K:=K) (a:=p) (xs:=xs) (caps:=[some x]) (fun j ys Hj=>KeysAt Hj ys (((ps.take j).filter fun z=>decide (z.1=de)).map (·.2))) hbt (SqL.of jJ) ⟨rfl,fun i x e=>by cases e⟩ (fun j z hz=>?_) ?_ ?_
  ·obtain ⟨pr,a,b,c,_,e2,e3,_⟩:=hP1.2 j z hz
   exact ⟨a,b,c,e2,e3⟩
  ·rintro j t b c ys Hj hz et hj hle sm hY hR
   obtain ⟨pr,a,b',c',e1,e2,e3,e4,e5,e6,e7⟩:=hP1.2 j _ hz
   cases e2
   rw [et] at e3;cases e3
   refine ⟨_,rfl,_,rfl,pr.1,de,j7 sm e4,j7 ((s.trans sp).trans sm) hxk,e6,_,rfl,?_⟩
   have ht:(ps.take (j+1))=ps.take j++[pr]:=by rw [List.take_add_one,e1];rfl
   by_cases hd:pr.1=de
   ·rw [decide_eq_true hd]
    refine v1 ⟨_,rfl,_,hY,kY (by omega),ys++[c],_,_,rfl,vD hbt sm,jJ,by rw [List.length_append,List.length_singleton];omega,?_⟩
    show KeysAt _ _ (((ps.take (j+1)).filter fun z=>decide (z.1=de)).map (·.2))
    rw [ht,List.filter_append,List.map_append,List.filter_cons,if_pos (decide_eq_true hd)]
    exact hR.snoc (k:=pr.2) (fun a l e=>by rw [jC fun z=>by subst z;rw [hY] at e;cases e];exact e) (j7 sm e5) e7
   ·rw [decide_eq_false hd]
    refine qR ⟨ys,_,_,rfl,sm,hY,by omega,?_⟩
    show KeysAt _ _ (((ps.take (j+1)).filter fun z=>decide (z.1=de)).map (·.2))
    rw [ht,List.filter_append,List.map_append,List.filter_cons,if_neg (by simpa using hd)]
    simpa using hR
  rintro ys Hg sg hbtg hleg hR
  have hb:(((ps.take xs.length).filter fun z=>decide (z.1=de)).map (·.2))=behind T0 ki de:=by
   rw [hP.1,List.take_length,behind,hps];rfl
  rw [hb] at hR
  have sF:=(s.trans sp).trans sg
  refine ⟨_,rfl,?_⟩
  cases hbh:behind T0 ki de with
  |nil =>
   rw [hbh] at hR
   obtain rfl:ys=[]:=List.eq_nil_of_length_eq_zero hR.1
   refine ⟨false,.inl ⟨_,SqL.of hbtg,rfl⟩,v1 ?_⟩
   have:=q Hg sF
   rw [qG,QF hw hde hbh] at this
   exact this
  |cons k' r =>
   rw [hbh] at hR
   cases ys with
   |nil=>exact absurd hR.1 (by simp)
   |cons y' ys' =>
    obtain ⟨k2,e1,e2,e3⟩:=hR.2 0 y' rfl
    cases e1
    refine ⟨true,.inl ⟨_,SqL.of hbtg,rfl⟩,qR ⟨_,rfl,bt,_,0,y',rfl,rfl,SqL.of hbtg,qZ (j:=0) rfl,y',k',_,_,rfl,sF,e2,?_,QG hw hde hbh⟩⟩
    have hin:k'∈behind T0 ki de:=by rw [hbh];exact List.mem_cons_self
    rw [behind,hps] at hin
    obtain ⟨pr,hm,rfl⟩:=List.mem_map.mp hin
    exact hT.shut ki ps pr hps (List.mem_filter.mp hm).1
 ·rintro σ Hf ⟨yi,ki,c5,c6,rfl,s,hyi,hki,hw⟩
  rw [hks.1,List.take_length] at hw
  obtain ⟨ps,hps⟩:=Option.isSome_iff_exists.mp hki
  obtain ⟨c1,cdv,fd,hne,C⟩:=hE.same s
  refine ⟨fe,rfl,_,rfl,⟨rfl,_,_,cdv,fd,C,rfl,yi,dM,T0,M,ki,rfl,rfl,by intro hin;exact hne (List.mem_singleton.mp hin).symm,hM.same s,hyi,hT.deep ki ps hps,hki,?_⟩⟩
  have:=q Hf s
  rw [qG,hw] at this
  exact this
theorem bX:FnScope ["_law_script","_law_k"] ["_law_script","_law_k"] (jH vO):=⟨rfl,rfl,rfl,by decide +kernel,rfl,by decide +kernel,by decide +kernel⟩
theorem bK {f:Addr} {fd:FuncData} (F:Fun K "_law_cell_at" "_law_cell_at" vO f fd) (T:Txt K mg) : FnOk P w K mg base jV 1 f fd ["_law_script","_law_k"] (zI K):=by
 refine F.ok bX (fun vs H Q E h=>?_) (fun cdv A outer s H vs Q E hr h=>?_)
 ·obtain ⟨a,ns,k,rfl,hS,q⟩:=h
  rfl
 obtain ⟨a,ns,k,rfl,hS,q⟩:=h
 have hu:_<cLine:=hr.units0
 have hu1:=kS hr
 refine ⟨_,(jM (kL (kD gA (pv 1) (qB qU (by rfl) T.z_len PySem.boot_len (jA (pv 0) jG)) (jW _)) (jO (j4 (kI qM (pv 0) (pv 1) (fun _ _=>rfl)))) kP)
   (jO (j4 jD))),?_⟩
 refine ⟨_,rfl,_,rfl,a,_,rfl,.inl hS,_,_,rfl,rfl,_,rfl,?_⟩
 refine kG (fun c=>?_) (fun c=>?_)
 ·have c':(k:Int)<(((ns.map V.int).length:Nat):Int):=of_decide_eq_true c
  rw [List.length_map] at c'
  exact ⟨_,rfl,_,rfl,a,_,_,_,rfl,rfl,hS,Q7 (by omega),q⟩
 ·have c':¬(k:Int)<(((ns.map V.int).length:Nat):Int):=of_decide_eq_false (Bool.eq_false_iff.mpr c)
  rw [List.length_map] at c'
  have e:ns.getD k 0=0:=by rw [List.getD_eq_getElem?_getD,List.getElem?_eq_none (by omega)];rfl
  rw [e] at q
  exact q
theorem bZ:FnScope ["_law_mode","_law_v"] ["_law_mode","_law_v"] (jH vR):=⟨rfl,rfl,rfl,by decide +kernel,rfl,by decide +kernel,by decide +kernel⟩
theorem bN {f:Addr} {fd:FuncData} (F:Fun K "_law_label" "_law_label" vR f fd) (T:Txt K mg) : FnOk P w K mg base jV 2 f fd ["_law_mode","_law_v"] (yI):=by
 refine F.ok bZ (fun vs H Q E h=>?_) (fun cdv A outer s H vs Q E hr h=>?_)
 ·obtain ⟨m,v,rfl,hm,hv,q⟩:=h
  rfl
 obtain ⟨m,v,rfl,hm,hv,q⟩:=h
 have hu:_<cLine:=hr.units0
 have hu1:=kS hr
 refine ⟨_,(jM (kL (kD kJ (pv 0) jD (jW _)) (jO (j4 (pv 1))) kP)
   (jM (kL (kD kJ (pv 0) jD (jW _)) (jO (j4 (jE kQ (jE zK (jE zJ (pv 1) jD) (jE fB jD jD)) (pv 1)))) kP)
   (jM (kL (kD kJ (pv 0) jD (jW _)) (jO (j4 (jE eF (kI fJ vN (jE jY (pv 1) jD) (fun _ _=>rfl)) (jE kQ jD (jE kM (pv 1) jD))))) kP)
   (jM (kL (kD kJ (pv 0) jD (jW _)) (jO (j4 (yL (jA (jE kM (pv 1) jD) (jA (yL (jA (jE jY (pv 1) jD) (jA vN jG))) jG))))) kP)
   (jO (j4 (kI qM (v9 (jA (pv 1) (jA (jE QD vN (yX QN (by rfl) T.z_str PyProof.Rows.boot_str (jA (pv 1) jG))) (jA (yL (jA (pv 1) (jA vN jG))) jG)))) (jE jY (pv 1) jD) (fun _ _=>rfl)))))))),?_⟩
 have q':=fun y H' s g=>q y H' s g (yB m v)
 refine ⟨_,rfl,rfl,_,rfl,kG (fun c=>?_) (fun c=>?_)⟩
 ·have c0:m=0:=by have e:=of_decide_eq_true c;injection e with e;omega
  subst c0
  exact ⟨_,rfl,q' _ _ (Same.refl _) rfl⟩
 have h0:m≠0:=fun z=>c (by subst z;rfl)
 refine ⟨_,rfl,rfl,_,rfl,kG (fun c=>?_) (fun c=>?_)⟩
 ·have c0:m=1:=by have e:=of_decide_eq_true c;injection e with e;omega
  subst c0
  exact ⟨_,rfl,_,_,rfl,rfl,_,_,rfl,rfl,⟨by decide,by decide,by decide⟩,_,_,rfl,rfl,fL hv,_,rfl,_,_,rfl,rfl,q' _ _ (Same.refl _) rfl⟩
 have h1:m≠1:=fun z=>c (by subst z;rfl)
 refine ⟨_,rfl,rfl,_,rfl,kG (fun c=>?_) (fun c=>?_)⟩
 ·have c0:m=2:=by have e:=of_decide_eq_true c;injection e with e;omega
  subst c0
  refine ⟨_,rfl,_,_,rfl,rfl,(show (0:Int)<3 by decide),("abc":Str),_,("abc":Str).cps.getD (v%3) 0,rfl,rfl,qA (by decide +kernel),fM v,_,rfl,_,_,rfl,rfl,⟨by decide,by decide⟩,_,_,rfl,rfl,_,_,rfl,rfl,by omega,by omega,by show 1≤100;decide,?_⟩
  have e:((1:Int)+(v:Int) / 3).toNat=1+v / 3:=by omega
  rw [e]
  exact q' _ _ (Same.refl _) rfl
 have h2:m≠2:=fun z=>c (by subst z;rfl)
 refine ⟨_,rfl,rfl,_,rfl,kG (fun c=>?_) (fun c=>?_)⟩
 ·have c0:m=3:=by have e:=of_decide_eq_true c;injection e with e;omega
  subst c0
  refine ⟨_,rfl,_,_,rfl,rfl,⟨by decide,by decide⟩,_,rfl,_,_,rfl,rfl,(show (0:Int)<5 by decide),qA (by show 2≤1000;decide),fun t1 ht1=>⟨qA (by show 2≤1000;decide),fun t2 ht2=>?_⟩⟩
  have u1:=j9 ht1 (.tup [V.int ((v:Int)%5),.str "x"])
  have u2:=j9 ht2 (.tup [V.int ((v:Int) / 5),.ref t1])
  refine q' _ _ (u1.trans u2) ⟨t2,_,rfl,jJ,_,_,rfl,(congrArg V.int (by omega)),_,_,rfl,⟨t1,_,rfl,u2 _ _ jJ,_,_,rfl,(congrArg V.int (by omega)),_,_,rfl,rfl,rfl⟩,rfl⟩
 have h3:m≠3:=fun z=>c (by subst z;rfl)
 have e4:jL m v=if v%3=0 then .i v else if v%3=1 then .s ("s"++Str.ofString (toString (v:Int))) else .cons (.i v) (.cons (.s "") .nil):=by
  unfold jL
  rw [if_neg h0,if_neg h1,if_neg h2,if_neg h3]
 rw [e4] at q'
 refine ⟨_,rfl,_,rfl,_,rfl,gC v (by omega),_,_,rfl,rfl,qA (gD v (by omega)),_,rfl,qA (by show 2≤1000;decide),fun t1 ht1=>⟨qA (by show 3≤1000;decide),fun l1 hl1=>?_⟩⟩
 have u1:=j9 ht1 (.tup [V.int (v:Int),.str ""])
 have u2:=j9 hl1 (.lst [V.int (v:Int),.str ("s"++Str.ofString (toString (v:Int))),.ref t1])
 have hlt:v%3<3:=Nat.mod_lt _ (by decide)
 have ei:(v:Int)%3=((v%3:Nat):Int):=by omega
 refine ⟨_,rfl,_,_,rfl,rfl,(show (0:Int)<3 by decide),l1,_,_,([V.int (v:Int),.str ("s"++Str.ofString (toString (v:Int))),.ref t1].getD (v%3) .non),rfl,rfl,SqL.of jJ,?_,q' _ _ (u1.trans u2) ?_⟩
 ·rw [ei]
  refine qZ ?_
  rw [List.getD_eq_getElem?_getD]
  generalize v%3=n at hlt
  match n,hlt with
  |0,_=>rfl
  |1,_=>rfl
  |2,_=>rfl
 ·generalize v%3=n at hlt
  match n,hlt with
  |0,_=>exact rfl
  |1,_=>exact rfl
  |2,_=>exact ⟨t1,_,rfl,u2 _ _ jJ,_,_,rfl,rfl,_,_,rfl,rfl,rfl⟩
theorem zZ:FnScope ["_law_mode","_law_j","_law_kind"] ["_law_mode","_law_j"] (jH vP):=⟨rfl,rfl,rfl,by decide +kernel,rfl,by decide +kernel,by decide +kernel⟩
theorem bL {f:Addr} {fd:FuncData} (F:Fun K "_law_deed" "_law_deed" vP f fd) (T:Txt K mg) : FnOk P w K mg base jV 2 f fd ["_law_mode","_law_j"] (JN):=by
 refine F.ok zZ (fun vs H Q E h=>?_) (fun cdv A outer s H vs Q E hr h=>?_)
 ·obtain ⟨m,j,rfl,hm,hj,q⟩:=h
  rfl
 obtain ⟨m,j,rfl,hm,hj,q⟩:=h
 have hu:_<cLine:=hr.units0
 have hu1:=kS hr
 refine ⟨_,(jM (jP (i:=2) zZ.nd rfl (by first|exact Or.inl rfl|exact Or.inr rfl) (jE jY (pv 0) jD))
   (qF (kL (kD kJ (pv 0) jD (jW _)) (jO (jP (i:=2) zZ.nd rfl (by first|exact Or.inl rfl|exact Or.inr rfl) (jE jY (pv 1) jD))) kP)
   (jO (j4 (kI qM (v9 (jA (pv 1) (jA (jE QD vN (yX QN (by rfl) T.z_str PyProof.Rows.boot_str (jA (pv 1) jG))) (jA (yL (jA vN (jA (pv 1) jG))) jG)))) (pv 2) (fun _ _=>rfl)))))),?_⟩
 refine ⟨_,rfl,_,_,rfl,rfl,(show (0:Int)<3 by decide),?_⟩
 refine ⟨fun σ Hi=>σ=[some (.int m),some (.int j),some (.int (kindD m j))]∧Hi=H,?_,?_⟩
 ·refine ⟨_,rfl,rfl,_,rfl,kG (fun c=>?_) (fun c=>?_)⟩
  ·have c0:m=4:=by have e:=of_decide_eq_true c;injection e with e;omega
   subst c0
   refine ⟨_,rfl,_,_,rfl,rfl,(show (0:Int)<3 by decide),?_,rfl⟩
   rw [show ((kindD 4 j:Nat):Int)=(j:Int)%3 by rw [kindD,if_pos rfl];omega]
   rfl
  ·have h4:m≠4:=fun z=>c (by subst z;rfl)
   refine ⟨?_,rfl⟩
   rw [show ((kindD m j:Nat):Int)=(m:Int)%3 by rw [kindD,if_neg h4];omega]
   rfl
 rintro σ Hi ⟨rfl,rfl⟩
 have hk:kindD m j<3:=by unfold kindD;split<;>exact Nat.mod_lt _ (by decide)
 refine ⟨_,rfl,_,rfl,_,rfl,fD j (by omega),_,_,rfl,rfl,qA (fE j (by omega)),_,rfl,qA (by show 2≤1000;decide),fun t1 ht1=>⟨qA (by show 3≤1000;decide),fun l1 hl1=>?_⟩⟩
 have u1:=j9 ht1 (.tup [V.str "go",.int (j:Int)])
 have u2:=j9 hl1 (.lst [V.int (j:Int),.str ("d"++Str.ofString (toString (j:Int))),.ref t1])
 refine ⟨_,rfl,l1,_,_,([V.int (j:Int),.str ("d"++Str.ofString (toString (j:Int))),.ref t1].getD (kindD m j) .non),rfl,rfl,SqL.of jJ,qZ ?_,q _ _ (u1.trans u2) ?_⟩
 ·rw [List.getD_eq_getElem?_getD]
  generalize kindD m j=n at hk
  match n,hk with
  |0,_=>rfl
  |1,_=>rfl
  |2,_=>rfl
 ·unfold kN
  generalize kindD m j=n at hk
  match n,hk with
  |0,_=>exact rfl
  |1,_=>exact rfl
  |2,_=>exact ⟨t1,_,rfl,u2 _ _ jJ,_,_,rfl,rfl,_,_,rfl,rfl,rfl⟩
theorem bY:FnScope ["_law_table_here","_law_mode","_law_v","_law_w"] ["_law_table_here","_law_mode","_law_v","_law_w"] (jH vQ):=⟨rfl,rfl,rfl,by decide +kernel,rfl,by decide +kernel,by decide +kernel⟩
theorem bM {f:Addr} {fd:FuncData} (F:Fun K "_law_joined" "_law_joined" vQ f fd) (T:Txt K mg) (D__law_label:Def P w K mg base 2 "_law_label" ["_law_mode","_law_v"] [] (yI)) (D__law_deed:Def P w K mg base 2 "_law_deed" ["_law_mode","_law_j"] [] (JN)):FnOk P w K mg base jV 4 f fd ["_law_table_here","_law_mode","_law_v","_law_w"] (QT w):=by
 refine F.ok bY (fun vs H Q E h=>?_) (fun cdv A outer s H vs Q E hr h=>?_)
 ·obtain ⟨d,m,v,u,T0,ls,ps,rfl,hm,hv,hw,hT,hps,hu0,h190,q⟩:=h
  rfl
 obtain ⟨d,m,v,u,T0,ls,ps,rfl,hm,hv,hw,hT,hps,hu0,h190,q⟩:=h
 have hu:_<cLine:=hr.units0
 have hu1:=kS hr
 have hu9:=qQ hr
 have hu10:=qP hr
 refine ⟨_,(jO (v8 (JT PySem.F.plainAttrs_list PySem.F.slot_list_append PySem.F.type_list_append y8 (qX hu9 (pv 0) (jZ D__law_label hr rfl (jA (pv 1) (jA (pv 2) jG))) (fun _ _=>rfl)) (jA (yL (jA (jZ D__law_deed hr rfl (jA (pv 1) (jA (qB qU (by rfl) T.z_len PySem.boot_len (jA (qX hu9 (pv 0) (jZ D__law_label hr rfl (jA (pv 1) (jA (pv 2) jG))) (fun _ _=>rfl)) jG)) jG))) (jA (jZ D__law_label hr rfl (jA (pv 1) (jA (pv 3) jG))) jG))) jG)))),?_⟩
 obtain ⟨kvs,e1,g,ap,e3⟩:=hT.ex
 obtain ⟨l,xs,f1,f2,f3⟩:=e3 _ ps hps
 have hxl:=f3.1
 refine ⟨_,rfl,_,rfl,_,rfl,m,v,rfl,hm,hv,fun y1 H1 s1 hy1 _=>⟨d,kvs,_,_,rfl,.of (s1 _ _ e1),vH s1 g,hy1,yB m v,f1,.inl ⟨rfl,_,SqL.of (s1 _ _ f2)⟩,?_⟩⟩
 refine ⟨_,rfl,_,rfl,_,rfl,_,rfl,m,v,rfl,hm,hv,fun y2 H2 s2 hy2 _=>⟨d,kvs,_,_,rfl,.of (s2 _ _ (s1 _ _ e1)),vH (s1.trans s2) g,hy2,yB m v,f1,l,_,rfl,.inl (SqL.of ((s1.trans s2) _ _ f2)),?_⟩⟩
 refine ⟨m,xs.length,rfl,hm,by omega,fun y3 H3 s3 hy3=>⟨_,rfl,_,rfl,m,u,rfl,hm,hw,fun y4 H4 s4 hy4 _=>⟨qA (by show 2≤1000;decide),fun t ht=>?_⟩⟩⟩
 have s14:=((s1.trans s2).trans s3).trans s4
 have ut:=j9 ht (.tup [y3,y4])
 have hl5:=ut _ _ (s14 _ _ f2)
 refine ⟨l,_,_,rfl,rfl,hl5,kY (by omega),?_⟩
 have sA:=s14.trans ut
 have ntl:t≠l:=fun z=>by subst z;rw [s14 _ _ f2] at ht;cases ht
 have tk:∀a z,jB H4 t (.tup [y3,y4]) a=some (.tup z)→jB (jB H4 t (.tup [y3,y4])) l (.lst (xs++[.ref t])) a=some (.tup z):=fun a z e=>by
  rw [jC fun y=>by subst y;rw [hl5] at e;cases e];exact e
 have kp:∀a o,a≠l→H a=some o→jB (jB H4 t (.tup [y3,y4])) l (.lst (xs++[.ref t])) a=some o:=fun a o n e=>by rw [jC n];exact sA _ _ e
 refine q _ (dN hT e1 g ap e3 hps f1 f2 f3 h190 hu0 kp jJ (by rw [jC ntl,jJ]) ?_ ?_ (z5 _ _) (yB _ _)) ⟨fun a o n e=>kp a o (fun y=>by subst y;exact n (ap.2.1 _ _ f1)) e,fun a zs e=>?_⟩
 ·rw [hxl] at hy3
  exact (GV.keep tk _).1 _ (j7 (s4.trans ut) hy3)
 ·exact (GV.keep tk _).1 _ (j7 ut hy4)
 ·by_cases z:a=l
  ·subst z;exact ⟨_,jJ⟩
  ·exact ⟨zs,kp a _ z e⟩
theorem qW:FnScope ["_law_script","_law_mode","_law_many","_law_table_here","_law_v","_law_cell","_law_w"] ["_law_script","_law_mode","_law_many"] (jH vV):=⟨rfl,rfl,rfl,by decide +kernel,rfl,by decide +kernel,by decide +kernel⟩
theorem bQ {f:Addr} {fd:FuncData} (F:Fun K "_law_table" "_law_table" vV f fd) (T:Txt K mg) (D__law_label:Def P w K mg base 2 "_law_label" ["_law_mode","_law_v"] [] (yI)) (D__law_cell_at:Def P w K mg base 1 "_law_cell_at" ["_law_script","_law_k"] [] (zI K)) (D__law_joined:Def P w K mg base 4 "_law_joined" ["_law_table_here","_law_mode","_law_v","_law_w"] [] (QT w)):FnOk P w K mg base jV 6 f fd ["_law_script","_law_mode","_law_many"] (Q8 w K):=by
 refine F.ok qW (fun vs H Q E h=>?_) (fun cdv A outer s H vs Q E hr h=>?_)
 ·obtain ⟨a,ns,m,n,rfl,hS,h63,hm,hn1,hn,q⟩:=h
  rfl
 obtain ⟨a,ns,m,n,rfl,hS,h63,hm,hn1,hn,q⟩:=h
 have hu:_<cLine:=hr.units0
 have hu1:=kS hr
 have hu9:=qQ hr
 have hu10:=qP hr
 refine ⟨_,(jM (jP (i:=3) qW.nd rfl (by first|exact Or.inl rfl|exact Or.inr rfl) ZF)
   (jM (q0 PassesOwn.never rfl (yD (by rfl) T.z_range (jA (pv 2) jG)) (kX (i:=4) qW.nd rfl (by first|exact Or.inl rfl|exact Or.inr rfl))
    (jO (ZD hu9 (pv 3) (jZ D__law_label hr rfl (jA (pv 1) (jA (pv 4) jG))) (v9 jG) rfl)))
   (qF (kL (kD kJ (jE jY (jE kM (jZ D__law_cell_at hr rfl (jA (pv 0) (jA jD jG))) jD) jD) jD (jW _)) (jO (q0 PassesOwn.never rfl (yD (by rfl) T.z_range (jA (jE zJ (pv 2) jD) jG)) (kX (i:=4) qW.nd rfl (by first|exact Or.inl rfl|exact Or.inr rfl))
    (jO (v8 (jZ D__law_joined hr rfl (jA (pv 3) (jA (pv 1) (jA (pv 4) (jA (jE kQ (pv 4) jD) jG))))))))) kP)
   (jM (q0 PassesOwn.never rfl (v7 (JC JG (pv 0) (zX jD) JH)) (kX (i:=5) qW.nd rfl (by first|exact Or.inl rfl|exact Or.inr rfl))
    (jM (jP (i:=4) qW.nd rfl (by first|exact Or.inl rfl|exact Or.inr rfl) (jE jY (pv 5) (pv 2)))
   (jM (jP (i:=6) qW.nd rfl (by first|exact Or.inl rfl|exact Or.inr rfl) (jE jY (jE kM (pv 5) (pv 2)) (pv 2)))
   (qF (kL (kD kJ (jE jY (jE kM (jE kM (pv 5) (pv 2)) (pv 2)) jD) jD (jW _)) (jO (jP (i:=6) qW.nd rfl (by first|exact Or.inl rfl|exact Or.inr rfl) (jE jY (jE kQ (pv 4) jD) (pv 2)))) kP)
   (jO (v8 (jZ D__law_joined hr rfl (jA (pv 3) (jA (pv 1) (jA (pv 4) (jA (pv 6) jG)))))))))))
   (jO (j4 (pv 3))))))),?_⟩
 intro d hd0
 have u0:=j9 hd0 (GO w d [])
 refine ⟨_,rfl,_,rfl,by omega,by omega,yE (n:=((n:Nat):Int).toNat) (fun i σ Hi=>∃T ls c4,σ=[some (.ref a),some (.int m),some (.int n),some (.ref d),c4,none,none]∧TabIn w H Hi d m i 0 T ls∧ls.length≤i) ⟨[],[],none,rfl,⟨cS jJ,⟨fun v h=>absurd h (Nat.not_lt_zero v),fun _ _ e=>absurd e (by simp [jI]),fun _ _ e=>absurd e (by simp [jI])⟩,u0,fun l h=>(nomatch h),hd0,fun l h=>(nomatch h)⟩,Nat.le_refl _⟩ ?_ ?_⟩
 ·rintro i σ Hi hi ⟨T,ls,c4,rfl,hI,hle⟩
  rw [Int.zero_add]
  obtain ⟨kvs,e1,g,ap,e3⟩:=hI.tab.ex
  refine ⟨Nat.zero_le _,fun l hl0=>?_⟩
  have u1:=j9 hl0 (.lst [])
  refine ⟨_,rfl,_,rfl,_,rfl,m,i,rfl,hm,by omega,fun y H1 s1 hy h8=>?_⟩
  have s2:=u1.trans s1
  refine ⟨d,kvs,_,rfl,s2 _ _ e1,vH s2 g,hy,h8,kY (by have:=ap.2.2;omega),?_⟩
  have hl1:=s1 _ _ (show jB Hi l (.lst []) l=some (.lst []) from jJ)
  have hd1:=s2 _ _ e1
  have nld:l≠d:=fun z=>by subst z;rw [hl1] at hd1;cases hd1
  have hls:∀l'∈ls,l'≠l:=fun l' h z=>by subst z;obtain ⟨xs,e⟩:=hI.trk l' h;rw [hl0] at e;cases e
  refine ⟨yS T (jL m i),l::ls,_,rfl,?_,by rw [List.length_cons];omega⟩
  ·refine ⟨d5 (hI.tab.same s2) (vH s2 g) ap (fun k ps h=>?_) (fun xs e=>by rw [hd1] at e;cases e) (fun xs e=>by rw [hd1] at e;cases e) (fun k' e=>hls l (ap.2.1 _ _ e) rfl) hy h8 (fun a o n e=>by rw [jC n];exact e) (by rw [jC nld];exact hl1) jJ,⟨fun v hv=>?_,fun k ps h=>?_,fun k ps h=>?_⟩,vD hI.dn (hI.sm.trans s2),fun l' h=>?_,hI.dn,fun l' h=>?_⟩
   ·obtain ⟨l',xs,f1,f2,f3⟩:=e3 k ps h
    exact ⟨l',xs,f1,s2 _ _ f2,f3.same s2⟩
   ·rw [yJ]
    split
    ·rfl
    ·rename_i hne
     exact hI.ok.dom v (by have:v≠i:=fun z=>hne (by rw [z]);omega)
   ·rw [yJ] at h
    by_cases hk:k=jL m i
    ·rw [if_pos hk] at h;cases h;exact ⟨Nat.le_refl _,fun i p e=>by cases e⟩
    ·rw [if_neg hk] at h;exact hI.ok.row k ps h
   ·rw [yJ] at h
    by_cases hk:k=jL m i
    ·exact ⟨i,Nat.lt_succ_self i,hk⟩
    ·rw [if_neg hk] at h
     obtain ⟨v,hv,e⟩:=hI.ok.cod k ps h
     exact ⟨v,by omega,e⟩
   ·rcases List.mem_cons.mp h with rfl|h
    ·cases hz:H l' with
     |none=>rfl
     |some o=>have:=hI.sm _ _ hz;rw [hl0] at this;cases this
    ·exact hI.new l' h
   ·rcases List.mem_cons.mp h with rfl|h
    ·exact ⟨[],by rw [jC nld];exact hl1⟩
    ·obtain ⟨xs,e⟩:=hI.trk l' h
     exact ⟨xs,by rw [jC fun z=>by subst z;have:=s2 _ _ e;rw [hd1] at this;cases this];exact s2 _ _ e⟩
 rintro σ Hi ⟨T,ls,c4,rfl,hI,hle⟩
 rw [Int.toNat_natCast] at hI
 clear hle
 refine ⟨fun σ Hj=>∃T ls c4,σ=[some (.ref a),some (.int m),some (.int n),some (.ref d),c4,none,none]∧TabIn w H Hj d m n 24 T ls,?_,?_⟩
 ·refine ⟨_,rfl,a,ns,0,rfl,hI.sm.seq hS,_,_,rfl,rfl,⟨by decide,by decide⟩,_,_,rfl,rfl,(show (0:Int)<3 by decide),rfl,_,rfl,kG (fun _=>?_) (fun _=>?_)⟩
  ·refine ⟨_,rfl,_,_,rfl,rfl,_,rfl,by omega,by omega,yE (n:=((n:Int) - 1).toNat) (fun i σ Hj=>∃T ls c4,σ=[some (.ref a),some (.int m),some (.int n),some (.ref d),c4,none,none]∧TabIn w H Hj d m n i T ls) ⟨T,ls,c4,rfl,hI⟩ ?_ ?_⟩
   ·rintro i σ Hj hi ⟨T,ls,c4,rfl,hI⟩
    rw [Int.zero_add]
    have hi':i+1<n:=by omega
    obtain ⟨ps,hps⟩:=Option.isSome_iff_exists.mp (hI.ok.dom i (by omega))
    have h24:=(hI.ok.row _ ps hps).1
    refine ⟨_,rfl,_,rfl,_,rfl,_,rfl,_,_,rfl,rfl,d,m,i,i+1,T,ls,ps,rfl,hm,by omega,by omega,hI.tab,hps,hI.ok.dom (i+1) (by omega),by omega,fun H' hT hk=>⟨_,ls,_,rfl,hI.join hps hT hk⟩⟩
   ·rintro σ Hj ⟨T,ls,c4,rfl,hI⟩
    refine ⟨T,ls,c4,rfl,hI.mono (by omega)⟩
  ·exact ⟨T,ls,c4,rfl,hI.mono (by omega)⟩
 rintro σ Hj ⟨T,ls,c4,rfl,hI⟩
 obtain ⟨cs,hcs,hlc⟩:=dG ns (some 3) none
 have modN:∀z:Int,∃v:Nat,z%(n:Int)=v∧v<n:=fun z=>⟨(z%(n:Int)).toNat,by have:=Int.emod_nonneg z (show (n:Int)≠0 by omega);omega,by have:=Int.emod_nonneg z (show (n:Int)≠0 by omega);have:=Int.emod_lt_of_pos z (show (0:Int)<n by omega);omega⟩
 refine ⟨_,rfl,_,rfl,a,_,rfl,hI.sm.seq hS,fun p hp=>⟨p,rfl,⟨_,SqL.of jJ⟩,JE (K:=K) (a:=p) (xs:=qI (ns.map V.int) (some 3) none) (fun i σ Hk=>∃T ls c4 c5 c6,σ=[some (.ref a),some (.int m),some (.int n),some (.ref d),c4,c5,c6]∧TabIn w H Hk d m n (24+i) T ls∧Hk p=some (.lst (qI (ns.map V.int) (some 3) none))∧p∉ls)
  ⟨T,ls,c4,none,none,rfl,hI.same (j9 hp _),jJ,fun hin=>by obtain ⟨xs,e⟩:=hI.trk p hin;rw [hp] at e;cases e⟩ (fun i σ Hk _ ⟨_,_,_,_,_,_,_,e,_⟩=>SqL.of e) ?_ ?_⟩⟩
 ·rintro i x σ Hk hx ⟨T,ls,c4,c5,c6,rfl,hI,hpk,hpl⟩
  have hi:=(List.getElem?_eq_some_iff.mp hx).1
  rw [hcs] at hx hi
  rw [List.length_map] at hi
  obtain ⟨z,rfl,_⟩:=dX hx
  obtain ⟨v,ev,hv⟩:=modN z
  obtain ⟨u,eu,hu⟩:=modN (z / (n:Int))
  refine ⟨_,rfl,_,rfl,_,_,rfl,rfl,(show (0:Int)<n by omega),?_⟩
  refine ⟨_,rfl,_,rfl,_,_,rfl,rfl,⟨by omega,by omega⟩,_,rfl,_,_,rfl,rfl,(show (0:Int)<n by omega),?_⟩
  refine ⟨fun σ Hl=>∃u:Nat,u<n∧σ=[some (.ref a),some (.int m),some (.int n),some (.ref d),some (.int v),some (.int z),some (.int u)]∧Hl=Hk,?_,?_⟩
  ·refine ⟨_,rfl,_,rfl,_,_,rfl,rfl,⟨by omega,by omega⟩,_,rfl,_,_,rfl,rfl,⟨by omega,by omega⟩,_,_,rfl,rfl,(show (0:Int)<3 by decide),rfl,_,rfl,kG (fun _=>?_) (fun _=>?_)⟩
   ·obtain ⟨u',e',h'⟩:=modN (z%(n:Int)+1)
    exact ⟨_,rfl,_,_,rfl,rfl,_,rfl,_,_,rfl,rfl,(show (0:Int)<n by omega),u',h',by rw [← ev,← e'];rfl,rfl⟩
   ·exact ⟨u,hu,by rw [← ev,← eu];rfl,rfl⟩
  rintro σ Hl ⟨u,hu,rfl,rfl⟩
  obtain ⟨ps,hps⟩:=Option.isSome_iff_exists.mp (hI.ok.dom v hv)
  have hc:=(hI.ok.row _ ps hps).1
  refine ⟨_,rfl,_,rfl,_,rfl,_,rfl,d,m,v,u,T,ls,ps,rfl,hm,by omega,by omega,hI.tab,hps,hI.ok.dom u hu,by omega,fun H' hT hk=>⟨_,ls,_,_,_,rfl,hI.join hps hT hk,hk.1 p _ hpl hpk,hpl⟩⟩
 ·rintro σ Hk ⟨T,ls,c4,c5,c6,rfl,hI,hpk,hpl⟩
  rw [hcs,List.length_map] at hI
  exact ⟨_,rfl,q d T ls Hk hI.tab (hI.mono (by omega)).ok hI.sm hI.new hI.dn⟩
theorem vW:FnScope ["_law_cell","_law_mode","_law_many","_law_way","_law_rest","_law_marks_here","_law_v","_law_marked"] ["_law_cell","_law_mode","_law_many"] (jH vS):=⟨rfl,rfl,rfl,by decide +kernel,rfl,by decide +kernel,by decide +kernel⟩
theorem bO {f:Addr} {fd:FuncData} (F:Fun K "_law_marks" "_law_marks" vS f fd) (T:Txt K mg) (D__law_label:Def P w K mg base 2 "_law_label" ["_law_mode","_law_v"] [] (yI)):FnOk P w K mg base jV 4 f fd ["_law_cell","_law_mode","_law_many"] (Q9 w):=by
 refine F.ok vW (fun vs H Q E h=>?_) (fun cdv A outer s H vs Q E hr h=>?_)
 ·obtain ⟨c,m,n,rfl,hm,hn1,hn,q⟩:=h
  rfl
 obtain ⟨c,m,n,rfl,hm,hn1,hn,q⟩:=h
 have hu:_<cLine:=hr.units0
 have hu1:=kS hr
 have hu9:=qQ hr
 have hu10:=qP hr
 refine ⟨_,(jM (jP (i:=3) vW.nd rfl (by first|exact Or.inl rfl|exact Or.inr rfl) (jE jY (pv 0) jD))
   (jM (jP (i:=4) vW.nd rfl (by first|exact Or.inl rfl|exact Or.inr rfl) (jE kM (pv 0) jD))
   (jM (jP (i:=5) vW.nd rfl (by first|exact Or.inl rfl|exact Or.inr rfl) ZF)
   (jM (q0 PassesOwn.never rfl (yD (by rfl) T.z_range (jA (pv 2) jG)) (kX (i:=6) vW.nd rfl (by first|exact Or.inl rfl|exact Or.inr rfl))
    (qF (jP (i:=7) vW.nd rfl (by first|exact Or.inl rfl|exact Or.inr rfl) (ZX (yM (qY kJ (pv 3) jD (jW _)) (vI (qY kJ (pv 6) (jE jY (pv 4) (pv 2)) (jW _)))) (vI (yM (qY kJ (pv 3) jD (jW _)) (vI (qY kJ (jE jY (jE kQ (jE kQ (jE zK (pv 6) (pv 6)) (jE kM (pv 6) jD)) (pv 4)) jD) jD (jW _)))))))
   (jO (ZD hu9 (pv 5) (jZ D__law_label hr rfl (jA (pv 1) (jA (pv 6) jG))) (ZX (pv 7) (vI (yM (qY kJ (pv 3) jD (jW _)) (vI (qY gB (pv 6) (jE zJ (jE zJ (pv 2) jD) (jE jY (pv 4) jD)) (jW _)))))) rfl))))
   (jO (j4 (pv 5))))))),?_⟩
 refine ⟨_,rfl,_,_,rfl,rfl,(show (0:Int)<4 by decide),_,rfl,_,_,rfl,rfl,⟨by decide,by decide⟩,fun d hd0=>?_⟩
 have u0:=j9 hd0 (GO w d [])
 refine ⟨_,rfl,_,rfl,by omega,by omega,yE (n:=((n:Nat):Int).toNat) (fun i σ Hi=>∃M c6 c7,σ=[some (.int c),some (.int m),some (.int n),some (.int (c%4)),some (.int (c / 4)),some (.ref d),c6,c7]∧MarkIn w H Hi d m i M) ⟨fun _=>false,none,none,rfl,⟨⟨[],jJ,GOk.nil,Nat.le_refl _,fun v h=>absurd h (Nat.not_lt_zero v)⟩,u0,hd0⟩⟩ ?_ ?_⟩
 ·rintro i σ Hi hi ⟨M,c6,c7,rfl,hI⟩
  rw [Int.zero_add]
  have hn0:(0:Int)<n:=by omega
  refine ⟨fun σ Hj=>∃b,σ=[some (.int c),some (.int m),some (.int n),some (.int (c%4)),some (.int (c / 4)),some (.ref d),some (.int i),some (.bl b)]∧Hj=Hi,?_,?_⟩
  ·refine ⟨_,rfl,rfl,_,rfl,kG (fun _=>?_) (fun _=>?_)⟩
   ·refine ⟨_,rfl,_,rfl,_,rfl,_,_,rfl,rfl,hn0,rfl,_,rfl,kG (fun _=>⟨true,rfl,rfl⟩) (fun _=>?_)⟩
    exact ⟨_,rfl,rfl,_,rfl,kG (fun _=>⟨_,rfl,_,rfl,_,_,rfl,rfl,.inl ⟨by omega,by omega⟩,_,rfl,_,_,rfl,rfl,⟨by decide,by decide⟩,_,_,rfl,rfl,_,rfl,_,_,rfl,rfl,_,_,rfl,rfl,(show (0:Int)<5 by decide),rfl,_,rfl,rfl⟩) (fun _=>⟨false,rfl,rfl⟩)⟩
   ·refine ⟨_,rfl,qR ?_⟩
    exact ⟨_,rfl,rfl,_,rfl,kG (fun _=>⟨_,rfl,_,rfl,_,_,rfl,rfl,.inl ⟨by omega,by omega⟩,_,rfl,_,_,rfl,rfl,⟨by decide,by decide⟩,_,_,rfl,rfl,_,rfl,_,_,rfl,rfl,_,_,rfl,rfl,(show (0:Int)<5 by decide),rfl,_,rfl,rfl⟩) (fun _=>⟨false,rfl,rfl⟩)⟩
  rintro σ Hj ⟨b,rfl,rfl⟩
  refine ⟨_,rfl,_,rfl,kG (fun _=>?_) (fun _=>?_)⟩
  ·exact ⟨_,rfl,_,rfl,_,rfl,m,i,rfl,hm,by omega,fun y H1 s1 hy h8=>by
   obtain ⟨kvs,e1,g,hle,J⟩:=z8 hI s1 hy true
   exact ⟨d,kvs,_,rfl,e1,g,hy,h8,kY (by omega),_,_,_,rfl,J⟩⟩
  refine ⟨_,rfl,rfl,_,rfl,kG (fun _=>?_) (fun _=>?_)⟩
  ·refine ⟨_,rfl,_,rfl,_,_,rfl,rfl,_,rfl,_,_,rfl,rfl,(show (0:Int)<3 by decide),_,_,rfl,rfl,_,_,rfl,rfl,?_⟩
   exact ⟨_,rfl,_,rfl,_,rfl,m,i,rfl,hm,by omega,fun y H1 s1 hy h8=>by
   obtain ⟨kvs,e1,g,hle,J⟩:=z8 hI s1 hy _
   exact ⟨d,kvs,_,rfl,e1,g,hy,h8,kY (by omega),_,_,_,rfl,J⟩⟩
  ·exact ⟨_,rfl,_,rfl,_,rfl,m,i,rfl,hm,by omega,fun y H1 s1 hy h8=>by
   obtain ⟨kvs,e1,g,hle,J⟩:=z8 hI s1 hy false
   exact ⟨d,kvs,_,rfl,e1,g,hy,h8,kY (by omega),_,_,_,rfl,J⟩⟩
 rintro σ Hi ⟨M,c6,c7,rfl,hI⟩
 rw [Int.toNat_natCast] at hI
 exact ⟨_,rfl,q d M Hi hI⟩
theorem qV:FnScope ["_law_script","_law_mode","_law_first","_law_table_here","_law_row_here","_law_state","_law_k","_law_cell","_law_pairs","_law_pair"] ["_law_script","_law_mode","_law_first","_law_table_here"] (jH vU):=⟨rfl,rfl,rfl,by decide +kernel,rfl,by decide +kernel,by decide +kernel⟩
theorem bP {f:Addr} {fd:FuncData} (F:Fun K "_law_row" "_law_row" vU f fd) (T:Txt K mg) (D__law_cell_at:Def P w K mg base 1 "_law_cell_at" ["_law_script","_law_k"] [] (zI K)) (D__law_deed:Def P w K mg base 2 "_law_deed" ["_law_mode","_law_j"] [] (JN)):FnOk P w K mg base jV 4 f fd ["_law_script","_law_mode","_law_first","_law_table_here"] (ZW w K):=by
 refine F.ok qV (fun vs H Q E h=>?_) (fun cdv A outer s H vs Q E hr h=>?_)
 ·obtain ⟨a,ns,m,y,d,T0,ls,n,k,rfl,hS,hm,hT,hO,hy,hks0,q⟩:=h
  rfl
 obtain ⟨a,ns,m,y,d,T0,ls,n,k,rfl,hS,hm,hT,hO,hy,hks0,q⟩:=h
 have hu:_<cLine:=hr.units0
 have hu1:=kS hr
 have hu9:=qQ hr
 have hu10:=qP hr
 refine ⟨_,(jM (jP (i:=4) qV.nd rfl (by first|exact Or.inl rfl|exact Or.inr rfl) (v9 jG))
   (jM (jP (i:=5) qV.nd rfl (by first|exact Or.inl rfl|exact Or.inr rfl) (pv 2))
   (jM (q0 PassesOwn.never rfl (yD (by rfl) T.z_range (jA (jE jY (jE kM (jZ D__law_cell_at hr rfl (jA (pv 0) (jA jD jG))) jD) jD) jG)) (kX (i:=6) qV.nd rfl (by first|exact Or.inl rfl|exact Or.inr rfl))
    (jM (jP (i:=7) qV.nd rfl (by first|exact Or.inl rfl|exact Or.inr rfl) (jE kM (kI qM (pv 0) (jE jY (jE kQ (jE kQ (jE zK jD (pv 6)) (jE zK (pv 6) (pv 6))) jD) (qB qU (by rfl) T.z_len PySem.boot_len (jA (pv 0) jG))) (fun _ _=>rfl)) (jE kQ (pv 6) jD)))
   (jM (jP (i:=8) qV.nd rfl (by first|exact Or.inl rfl|exact Or.inr rfl) (qX hu9 (pv 3) (pv 5) (fun _ _=>rfl)))
   (jO (kL (PW.pt (zQ (kD kJ (jE jY (pv 7) jD) jD (jW _)) (JO (kD kJ (qB qU (by rfl) T.z_len PySem.boot_len (jA (pv 8) jG)) jD (jW _))))) (jO (v8 (JT PySem.F.plainAttrs_list PySem.F.slot_list_append PySem.F.type_list_append y8 (pv 4) (jA (jZ D__law_deed hr rfl (jA (pv 1) (jA (jE kQ (qB qU (by rfl) T.z_len PySem.boot_len (jA (pv 8) jG)) (jE jY (jE kM (pv 7) jD) jD)) jG))) jG)))) (jM (jP (i:=9) qV.nd rfl (by first|exact Or.inl rfl|exact Or.inr rfl) (kI qM (pv 8) (jE jY (jE kM (pv 7) jD) (qB qU (by rfl) T.z_len PySem.boot_len (jA (pv 8) jG))) (fun _ _=>rfl)))
   (jM (v8 (JT PySem.F.plainAttrs_list PySem.F.slot_list_append PySem.F.type_list_append y8 (pv 4) (jA (kI zM (pv 9) jD (fun _ _=>rfl)) jG)))
   (jO (jP (i:=5) qV.nd rfl (by first|exact Or.inl rfl|exact Or.inr rfl) (kI zM (pv 9) jD (fun _ _=>rfl)))))))))))
   (jO (j4 (pv 4)))))),?_⟩
 refine ⟨Nat.zero_le _,fun r hr0=>?_⟩
 have u0:=j9 hr0 (.lst [])
 obtain ⟨ps0,hps0⟩:=Option.isSome_iff_exists.mp hks0
 refine ⟨_,rfl,?_⟩
 obtain ⟨N,eN,hN⟩:=q8 (a:=ns.getD 2 0 / 7) (b:=13) (by decide)
 refine ⟨_,rfl,a,ns,2,rfl,u0.seq hS,_,_,rfl,rfl,⟨by decide,by decide⟩,_,_,rfl,rfl,(show (0:Int)<13 by decide),_,rfl,by omega,by omega,yE (n:=(ns.getD 2 0 / 7%13).toNat) (fun i σ Hi=>∃yi c6 c7 c8 c9,σ=[some (.ref a),some (.int m),some y,some (.ref d),some (.ref r),some yi,c6,c7,c8,c9]∧RowIn H Hi r i T0 yi) ⟨y,none,none,none,none,rfl,u0,hr0,⟨[],[],jJ,⟨rfl,fun i x e=>by cases e⟩,Nat.le_refl _⟩,⟨k,ps0,j7 u0 hy,hps0⟩⟩ ?_ ?_⟩
 ·rintro i σ Hi hi ⟨yi,c6,c7,c8,c9,rfl,hI⟩
  rw [Int.zero_add]
  have hlen:2<ns.length:=by
   by_cases h:2<ns.length
   ·exact h
   ·have e:ns.getD 2 0=0:=by rw [List.getD_eq_getElem?_getD,List.getElem?_eq_none (by omega)];rfl
    rw [e] at hi;exact absurd hi (by simp)
  have hL:(0:Int)<(((ns.map V.int).length:Nat):Int):=by rw [List.length_map];omega
  obtain ⟨j,ej,hj⟩:=q8 (a:=5*(i:Int)+(i:Int)*(i:Int)+2) hL
  rw [List.length_map] at hj
  have hSi:=hI.sm.seq hS
  refine ⟨_,rfl,_,rfl,_,_,rfl,rfl,.inl ⟨by decide,by decide⟩,_,rfl,_,rfl,_,_,rfl,rfl,.inl ⟨by omega,by omega⟩,_,_,rfl,rfl,_,_,rfl,rfl,_,rfl,a,_,rfl,.inl hSi,_,_,rfl,rfl,hL,a,_,_,_,rfl,rfl,hSi,by rw [ej];exact Q7 (by omega),_,rfl,_,_,rfl,rfl,_,_,rfl,rfl,⟨by omega,by omega⟩,?_⟩
  obtain ⟨ki,ps,hyi,hps⟩:=hI.at_
  obtain ⟨xs,ks,e,hks,hle⟩:=hI.row
  have hTi:=hT.same hI.sm
  obtain ⟨kvs,e1,g,ap,e3⟩:=hTi.ex
  obtain ⟨l,zs,f1,f2,f3⟩:=e3 ki ps hps
  have hc:=(hO.row ki ps hps).1
  refine ⟨_,rfl,_,rfl,d,kvs,ki,_,rfl,.of e1,g,hyi,hT.deep ki ps hps,f1,?_⟩
  refine ⟨_,rfl,_,_,rfl,rfl,(show (0:Int)<7 by decide),rfl,_,rfl,kG (fun _=>v1 ?_) (fun _=>?_)⟩
  ·refine ⟨_,rfl,.inl ⟨rfl,_,SqL.of e⟩,_,rfl,_,rfl,l,_,rfl,.inl (SqL.of f2),_,rfl,_,_,rfl,rfl,⟨by decide,by decide⟩,_,_,rfl,rfl,(show (0:Int)<2 by decide),_,_,rfl,rfl,?_⟩
   obtain ⟨z,ez,hz⟩:=q8 (a:=ns.getD j 0 / ((i:Int)+1) / 7) (b:=2) (by decide)
   refine ⟨m,ps.length+z,by rw [ez,f3.1];rfl,hm,by omega,fun y H1 s1 hy=>⟨r,_,_,rfl,rfl,s1 _ _ e,kY (by omega),_,_,_,_,_,rfl,hI.put s1 e hks hle hy (z5 _ _) hyi (by rw [hps];rfl)⟩⟩
  refine ⟨_,rfl,l,_,rfl,.inl (SqL.of f2),rfl,_,rfl,kG (fun _=>?_) (fun c0=>?_)⟩
  ·refine ⟨_,rfl,.inl ⟨rfl,_,SqL.of e⟩,_,rfl,_,rfl,l,_,rfl,.inl (SqL.of f2),_,rfl,_,_,rfl,rfl,⟨by decide,by decide⟩,_,_,rfl,rfl,(show (0:Int)<2 by decide),_,_,rfl,rfl,?_⟩
   obtain ⟨z,ez,hz⟩:=q8 (a:=ns.getD j 0 / ((i:Int)+1) / 7) (b:=2) (by decide)
   refine ⟨m,ps.length+z,by rw [ez,f3.1];rfl,hm,by omega,fun y H1 s1 hy=>⟨r,_,_,rfl,rfl,s1 _ _ e,kY (by omega),_,_,_,_,_,rfl,hI.put s1 e hks hle hy (z5 _ _) hyi (by rw [hps];rfl)⟩⟩
  have hz:zs.length≠0:=fun z=>c0 (by rw [z];rfl)
  have hz0:(0:Int)<((zs.length:Nat):Int):=by omega
  obtain ⟨z,ez,hzl⟩:=q8 (a:=ns.getD j 0 / ((i:Int)+1) / 7) hz0
  have hzl':z<zs.length:=by omega
  obtain ⟨pr,t,b,b',p1,p2,p3,p4,p5,p6,p7⟩:=f3.2 z _ (List.getElem?_eq_getElem hzl')
  refine ⟨_,rfl,_,rfl,_,_,rfl,rfl,⟨by decide,by decide⟩,_,rfl,l,_,rfl,.inl (SqL.of f2),_,_,rfl,rfl,hz0,l,_,_,.ref t,rfl,rfl,SqL.of f2,by rw [ez];exact qZ (by rw [List.getElem?_eq_getElem hzl',p2]),?_⟩
  refine ⟨_,rfl,.inl ⟨rfl,_,SqL.of e⟩,_,rfl,t,_,_,b,rfl,rfl,SqT.of p3,rfl,r,_,_,rfl,rfl,e,kY (by omega),?_⟩
  refine ⟨_,rfl,t,_,_,b',rfl,rfl,SqT.of (by rw [jC fun z=>by subst z;rw [e] at p3;cases p3];exact p3),rfl,_,_,_,_,_,rfl,?_⟩
  exact hI.put (Same.refl _) e hks hle p4 p6 p5 (hT.shut ki ps pr hps (List.mem_of_getElem? p1))
 rintro σ Hi ⟨yi,c6,c7,c8,c9,rfl,hI⟩
 obtain ⟨xs,ks,e,hks,hle⟩:=hI.row
 exact ⟨_,rfl,q r xs ks Hi hI.rn e hks (by omega) hI.sm⟩
theorem yY:FnScope ["_law_table_here","_law_state","_law_row_here","_law_deed_here","_law_pairs"] ["_law_table_here","_law_state","_law_row_here"] (jH vE):=⟨rfl,rfl,rfl,by decide +kernel,rfl,by decide +kernel,by decide +kernel⟩
theorem bR {f:Addr} {fd:FuncData} (F:Fun K "_law_walked" "_law_walked" vE f fd) (T:Txt K mg) : FnOk P w K mg base jV 4 f fd ["_law_table_here","_law_state","_law_row_here"] (QS w K):=by
 refine F.ok yY (fun vs H Q E h=>?_) (fun cdv A outer s H vs Q E hr h=>?_)
 ·obtain ⟨d,rl,y,T0,ls,m,n,k,row,ks,rfl,hT,hO,hy,hk,hrl,hks,qN,qS⟩:=h
  rfl
 obtain ⟨d,rl,y,T0,ls,m,n,k,row,ks,rfl,hT,hO,hy,hk,hrl,hks,qN,qS⟩:=h
 have hu:_<cLine:=hr.units0
 have hu1:=kS hr
 have hu9:=qQ hr
 have hu10:=qP hr
 refine ⟨_,(jM (q0 PassesOwn.never rfl (v7 (pv 2)) (kX (i:=3) yY.nd rfl (by first|exact Or.inl rfl|exact Or.inr rfl))
    (jM (QB (i:=4) ["_law_pair","_law_deed_here"] (v2 1 [3]) yY.nd rfl (by first|exact Or.inl rfl|exact Or.inr rfl) rfl (J6 (jH vE) rfl rfl (by decide +kernel) (by decide +kernel) (by decide +kernel)) (zY 1 [3] rfl rfl (by decide +kernel)) (v7 (qX hu9 (pv 0) (pv 1) (fun _ _=>rfl))) (fun _ _ _ _ _=>(kX (i:=0) (show List.Nodup (["_law_pair","_law_deed_here"]:List Str) from by decide +kernel) rfl (by first|exact Or.inl rfl|exact Or.inr rfl))) (fun _ _ _ _ _=>(ZC (kD (ZP hu9) (kI (eK K) (pv 0) jD (fun _ _=>rfl)) (pv 1) (jW _)))) (fun _ _ _ _ _=>(pv 0)))
   (jM (kL (kD JV (qB qU (by rfl) T.z_len PySem.boot_len (jA (pv 4) jG)) jD (jW _)) (jO (j4 JQ)) kP)
   (jO (jP (i:=1) yY.nd rfl (by first|exact Or.inl rfl|exact Or.inr rfl) (kI zM (kI qM (pv 4) jD (fun _ _=>rfl)) jD (fun _ _=>rfl)))))))
   (jO (j4 (v9 (jA (pv 1) jG))))),?_⟩
 refine ⟨_,rfl,rl,rfl,⟨_,SqL.of hrl⟩,?_⟩
 refine JE (K:=K) (xs:=row) (fun i σ Hi=>∃yi ki c3 c4,σ=[some (.ref d),some yi,some (.ref rl),c3,c4]∧Same H Hi∧(GV Hi ki).1 yi∧(jI T0 ki).isSome=true∧j3 T0 k (ks.take i)=some ki) ⟨y,k,none,none,rfl,Same.refl _,hy,hk,rfl⟩ (fun i σ Hi _ ⟨_,_,_,_,_,s,_⟩=>SqL.of (s _ _ hrl)) ?_ ?_
 ·rintro i x σ Hi hx ⟨yi,ki,c3,c4,rfl,s,hyi,hki,hw⟩
  obtain ⟨de,hde,hxk,hx8⟩:=hks.2 i x hx
  obtain ⟨ps,hps⟩:=Option.isSome_iff_exists.mp hki
  obtain ⟨kvs,e1,g,ap,e3⟩:=(hT.same s).ex
  obtain ⟨l,zs,f1,f2,f3⟩:=e3 ki ps hps
  have hrow:=hO.row ki ps hps
  have hzp:=f3.1
  have hr1:=hrow.1
  refine ⟨_,rfl,_,rfl,d,kvs,ki,_,rfl,.of e1,g,hyi,hT.deep ki ps hps,f1,l,rfl,⟨_,SqL.of f2⟩,fun bt hbt=>?_⟩
  refine bG (K:=K) (a:=l) (xs:=zs) (caps:=[some x]) (fun j ys Hj=>PairsAt Hj ys ((ps.take j).filter fun z=>decide (z.1=de))) hbt (SqL.of f2) ⟨rfl,fun i x e=>by cases e⟩ ?_ ?_
  ·rintro j z ys Hj hz hj hle sm hY hR
   obtain ⟨pr,t,b,b',p1,rfl,p3,p4,p5,p6,p7⟩:=f3.2 j z hz
   have p3':=sm _ _ p3
   have ht:(ps.take (j+1))=ps.take j++[pr]:=by rw [List.take_add_one,p1];rfl
   refine ⟨_,rfl,t,_,_,b,rfl,rfl,SqT.of p3',rfl,_,rfl,pr.1,de,j7 sm p4,j7 (s.trans sm) hxk,p6,_,rfl,?_⟩
   by_cases hd:pr.1=de
   ·rw [decide_eq_true hd]
    refine v1 ⟨_,rfl,bH hbt sm hY hle (by omega) (Same.refl _) ?_⟩
    show PairsAt _ _ ((ps.take (j+1)).filter fun z=>decide (z.1=de))
    rw [ht,List.filter_append,List.filter_cons,if_pos (decide_eq_true hd)]
    have tk:∀a l,Hj a=some (.tup l)→jB Hj bt (.lst (ys++[.ref t])) a=some (.tup l):=fun a l e=>by rw [jC fun z=>by subst z;rw [hY] at e;cases e];exact e
    exact QC (yC tk hR) (tk _ _ p3') ((GV.keep tk _).1 _ (j7 sm p4)) ((GV.keep tk _).1 _ (j7 sm p5)) p6 p7
   ·rw [decide_eq_false hd]
    refine qR (dH sm hY hle (Same.refl _) ?_)
    show PairsAt _ _ ((ps.take (j+1)).filter fun z=>decide (z.1=de))
    rw [ht,List.filter_append,List.filter_cons,if_neg (by simpa using hd)]
    simpa using hR
  rintro ys Hg sg hbtg hleg hR
  rw [f3.1,List.take_length] at hR
  have h1:=Q4 (m:=m) (de:=de) ps 0 (by omega) (fun i p e=>by rw [Nat.zero_add];exact hrow.2 i p e)
  have hb:behind T0 ki de=(ps.filter fun z=>decide (z.1=de)).map (·.2):=by rw [behind,hps];rfl
  have hin:∀p∈ps.filter (fun z=>decide (z.1=de)),p∈ps:=fun p hp=>(List.mem_filter.mp hp).1
  have sF:=s.trans sg
  refine ⟨_,rfl,bt,_,rfl,.inl (SqL.of hbtg),rfl,_,rfl,?_⟩
  generalize ps.filter (fun z=>decide (z.1=de))=fs at hR h1 hb hin
  match fs,h1,hb,hin,hR with
  |[],_,hb,_,hR =>
   obtain rfl:ys=[]:=List.eq_nil_of_length_eq_zero hR.1
   exact v1 (qN (QF hw hde hb) Hg sF)
  |[pr],_,hb,hin,hR =>
   match ys,hR with
   |[],hR=>exact absurd hR.1 (by simp)
   |_::_::_,hR=>exact absurd hR.1 (by simp)
   |[z],hR =>
    obtain ⟨pr',t,b,b',p1,rfl,p3,p4,p5,p6,p7⟩:=hR.2 0 z rfl
    cases p1
    exact qR ⟨_,rfl,bt,_,0,.ref t,rfl,rfl,SqL.of hbtg,qZ (j:=0) rfl,t,_,_,b',rfl,rfl,SqT.of p3,rfl,_,pr.2,_,_,rfl,sF,p5,hT.shut ki ps pr hps (hin pr List.mem_cons_self),QG hw hde hb⟩
  |_::_::_,h1,_,_,_=>exact absurd h1 (by simp)
 ·rintro σ Hf ⟨yi,ki,c3,c4,rfl,s,hyi,hki,hw⟩
  rw [hks.1,List.take_length] at hw
  exact ⟨_,rfl,qA (by show 1≤1000;decide),fun p hp=>qS ki yi p _ hw hki (j7 (j9 hp _) hyi) jJ (s.trans (j9 hp _))⟩
theorem kB:FnScope ["_law_script","_law_many","_law_mode","_law_first","_law_table_here","_law_marks_here","_law_row_here","_law_ahead","_law_ended","_law_come","_law_due","_law_handed","_law_found","_law_k"] ["_law_script"] (jH kZ):=⟨rfl,rfl,rfl,by decide +kernel,rfl,by decide +kernel,by decide +kernel⟩
theorem bT {f:Addr} {fd:FuncData} (F:Fun K "law" "law" kZ f fd) (T:Txt K mg) {cL tL:Addr} (hcL:fd.code=.ref cL) (hC:W.CodeHd base cL tL) (hB:base.BuiltinsAt mg tL) (hgT:PySem.mainGlobals≠tL) (D__law_cell_at:Def P w K mg base 1 "_law_cell_at" ["_law_script","_law_k"] [] (zI K)) (D__law_label:Def P w K mg base 2 "_law_label" ["_law_mode","_law_v"] [] (yI)) (D__law_table:Def P w K mg base 6 "_law_table" ["_law_script","_law_mode","_law_many"] [] (Q8 w K)) (D__law_marks:Def P w K mg base 4 "_law_marks" ["_law_cell","_law_mode","_law_many"] [] (Q9 w)) (D__law_row:Def P w K mg base 4 "_law_row" ["_law_script","_law_mode","_law_first","_law_table_here"] [] (ZW w K)) (D__law_walked:Def P w K mg base 4 "_law_walked" ["_law_table_here","_law_state","_law_row_here"] [] (QS w K)) (D_row_holds:Def P w K mg base 6 "row_holds" ["first","ahead","ended","row"] [] (JF w K)):FnOk P w K mg base jV 8 f fd ["_law_script"] (zH tL K):=by
 refine F.okC hcL kB (fun vs H Q E h=>?_) (fun A outer s H vs Q E hr h=>?_)
 ·obtain ⟨a,ns,rfl,hS,h63,htL,q⟩:=h
  rfl
 obtain ⟨a,ns,rfl,hS,h63,htL,q⟩:=h
 have hu:_<cLine:=hr.units0
 have hu1:=kS hr
 have hu9:=qQ hr
 have hu10:=qP hr
 refine ⟨_,(jM (jP (i:=1) kB.nd rfl (by first|exact Or.inl rfl|exact Or.inr rfl) (jE kQ jD (jE jY (jZ D__law_cell_at hr rfl (jA (pv 0) (jA jD jG))) jD)))
   (qF (jP (i:=2) kB.nd rfl (by first|exact Or.inl rfl|exact Or.inr rfl) (jE jY (jZ D__law_cell_at hr rfl (jA (pv 0) (jA jD jG))) jD))
   (jM (jP (i:=3) kB.nd rfl (by first|exact Or.inl rfl|exact Or.inr rfl) (jZ D__law_label hr rfl (jA (pv 2) (jA (jE jY (jE kM (jZ D__law_cell_at hr rfl (jA (pv 0) (jA jD jG))) jD) (pv 1)) jG))))
   (jM (jP (i:=4) kB.nd rfl (by first|exact Or.inl rfl|exact Or.inr rfl) (jZ D__law_table hr rfl (jA (pv 0) (jA (pv 2) (jA (pv 1) jG)))))
   (jM (jP (i:=5) kB.nd rfl (by first|exact Or.inl rfl|exact Or.inr rfl) (jZ D__law_marks hr rfl (jA (jZ D__law_cell_at hr rfl (jA (pv 0) (jA jD jG))) (jA (pv 2) (jA (pv 1) jG)))))
   (jM (jP (i:=6) kB.nd rfl (by first|exact Or.inl rfl|exact Or.inr rfl) (jZ D__law_row hr rfl (jA (pv 0) (jA (pv 2) (jA (pv 3) (jA (pv 4) jG))))))
   (jM (ZE (i:=7) (c:=cL) (P:=tL) kB.nd rfl (.inl rfl) (.inr rfl) rfl rfl (cC _ _ _) rfl rfl hC hgT hB rfl)
   (qF (ZE (i:=8) (c:=cL) (P:=tL) kB.nd rfl (.inl rfl) (.inr rfl) rfl rfl (cB _ _ _) rfl rfl hC hgT hB rfl)
   (qF (jP (i:=9) kB.nd rfl (by first|exact Or.inl rfl|exact Or.inr rfl) (jZ D__law_walked hr rfl (jA (pv 4) (jA (pv 3) (jA (pv 6) jG)))))
   (qF (jP (i:=10) kB.nd rfl (by first|exact Or.inl rfl|exact Or.inr rfl) (yM (qY ZH (pv 9) JQ (jW _)) (vI (qX hu9 (pv 5) (kI qM (pv 9) jD (fun _ _=>rfl)) (fun _ _=>rfl)))))
   (jM (jP (i:=11) kB.nd rfl (by first|exact Or.inl rfl|exact Or.inr rfl) (yX J7 (by rfl) T.z_list PyProof.Rows.boot_list (jA (pv 6) jG)))
   (jM (jP (i:=12) kB.nd rfl (by first|exact Or.inl rfl|exact Or.inr rfl) (QX (cs:=[(5,s.heap.objs.size+1),(4,s.heap.objs.size+2)]) D_row_holds hr rfl (ZT ⟨"_law_marks_here",rfl,rfl,rfl,rfl⟩ ⟨"_law_table_here",rfl,rfl,rfl,rfl⟩) (jA (pv 3) (jA (pv 7) (jA (pv 8) (jA (pv 11) jG))))))
   (jM (kL (PW.pt (zQ (JP (ZN (qB Q6 (by rfl) T.z_isinstance PyProof.Rows.boot_isinstance (jA (pv 12) (jA (ZG (v:=.ty "bool") rfl T.z_bool PyProof.Rows.boot_bool rfl) jG))))) (zQ (kD JV (pv 12) (pv 10) (jW _)) (JO (kD (fC hu10) (pv 11) (pv 6) (jW _)))))) (jO (j4 zR)) kP)
   (jM (q0 PassesOwn.never rfl (yD (by rfl) T.z_range (jA (jE kQ (qB qU (by rfl) T.z_len PySem.boot_len (jA (pv 6) jG)) jD) jG)) (kX (i:=13) kB.nd rfl (by first|exact Or.inl rfl|exact Or.inr rfl))
    (qF (jP (i:=9) kB.nd rfl (by first|exact Or.inl rfl|exact Or.inr rfl) (jZ D__law_walked hr rfl (jA (pv 4) (jA (pv 3) (jA (JC JG (pv 6) JH (zX (pv 13))) jG)))))
   (qF (jP (i:=10) kB.nd rfl (by first|exact Or.inl rfl|exact Or.inr rfl) (yM (qY ZH (pv 9) JQ (jW _)) (vI (qX hu9 (pv 5) (kI qM (pv 9) jD (fun _ _=>rfl)) (fun _ _=>rfl)))))
   (jM (jP (i:=12) kB.nd rfl (by first|exact Or.inl rfl|exact Or.inr rfl) (QX (cs:=[(5,s.heap.objs.size+1),(4,s.heap.objs.size+2)]) D_row_holds hr rfl (ZT ⟨"_law_marks_here",rfl,rfl,rfl,rfl⟩ ⟨"_law_table_here",rfl,rfl,rfl,rfl⟩) (jA (pv 3) (jA (pv 7) (jA (pv 8) (jA (JC JG (pv 6) JH (zX (pv 13))) jG))))))
   (jO (kL (PW.pt (zQ (JP (ZN (qB Q6 (by rfl) T.z_isinstance PyProof.Rows.boot_isinstance (jA (pv 12) (jA (ZG (v:=.ty "bool") rfl T.z_bool PyProof.Rows.boot_bool rfl) jG))))) (JO (kD JV (pv 12) (pv 10) (jW _))))) (jO (j4 zR)) kP))))))
   (jO (j4 zR)))))))))))))))),?_⟩
 obtain ⟨n0,en0,hn0⟩:=q8 (a:=ns.getD 0 0) (b:=24) (by decide)
 obtain ⟨m,em,hm0⟩:=q8 (a:=ns.getD 1 0) (b:=5) (by decide)
 have hm:m≤4:=by omega
 refine ⟨_,rfl,a,ns,0,rfl,hS,_,_,rfl,rfl,(show (0:Int)<24 by decide),_,_,rfl,rfl,?_⟩
 refine ⟨fun σ Hi=>σ=[some (.ref a),some (.int ((1+n0:Nat):Int)),some (.int m),none,none,none,none,none,none,none,none,none,none,none]∧Hi=H,⟨_,rfl,a,ns,1,rfl,hS,_,_,rfl,rfl,(show (0:Int)<5 by decide),by rw [← em,show ((1+n0:Nat):Int)=1+ns.getD 0 0%24 by omega];rfl,rfl⟩,?_⟩
 rintro σ Hi ⟨rfl,rfl⟩
 obtain ⟨n,hn⟩:∃n,n=1+n0:=⟨_,rfl⟩
 rw [← hn]
 have hn1:1≤n:=by omega
 have hn24:n≤24:=by omega
 obtain ⟨v,ev,hv⟩:=q8 (a:=ns.getD 1 0 / 5) (b:=(n:Int)) (by omega)
 have hv':v<n:=by omega
 refine ⟨_,rfl,_,rfl,a,ns,1,rfl,hS,_,_,rfl,rfl,⟨by decide,by decide⟩,_,rfl,_,_,rfl,rfl,(show (0:Int)<n by omega),m,v,by rw [← ev];rfl,hm,by omega,fun y H1 s1 hy h8=>?_⟩
 refine ⟨_,rfl,_,rfl,_,rfl,a,ns,m,n,rfl,s1.seq hS,h63,hm,hn1,hn24,fun dT T0 ls H2 hT hO s2 hls hd0=>?_⟩
 have s12:=s1.trans s2
 refine ⟨_,rfl,a,ns,2,rfl,s12.seq hS,_,rfl,_,rfl,_,m,n,rfl,hm,hn1,hn24,fun dM M H3 hI=>?_⟩
 have s13:=s12.trans hI.sm
 refine ⟨_,rfl,_,rfl,_,rfl,_,rfl,a,ns,m,y,dT,T0,ls,n,jL m v,rfl,s13.seq hS,hm,hT.same hI.sm,hO,j7 (s2.trans hI.sm) hy,hO.dom v hv',fun r xs ks H4 hr0 hr4 hK h12 s4=>?_⟩
 have R4:Lay51 w H4 dT dM r T0 ls M m n (jL m v) y xs ks:=⟨(hT.same hI.sm).same s4,hO,(eI hI hO).same s4,j7 ((s2.trans hI.sm).trans s4) hy,hO.dom v hv',hr4,hK,h12⟩
 have ht4:H4 tL=some (.tbl #[]):=(s13.trans s4) _ _ htL
 clear hT hI hls
 refine ⟨_,ht4,trivial,rfl,fun fa ca cta doca oca n1 n2 n3 hfa hca hoc=>?_⟩
 refine ⟨fun σ Hi=>∃fa fe,σ=[some (.ref a),some (.int n),some (.int m),some y,some (.ref dT),some (.ref dM),some (.ref r),some (.ref fa),some (.ref fe),none,none,none,none,none]∧Ready w Hi fa fe (s.heap.objs.size+2) (s.heap.objs.size+1) dT dM r T0 ls M m n (jL m v) y xs ks,?_,?_⟩
 ·refine ⟨_,JJ n1 n2,trivial,rfl,fun fe ce cte doce oce m1 m2 m3 hfe hce hoce=>⟨fa,fe,rfl,?_⟩⟩
  refine ⟨(R4.keepT (JD hfa hca) ht4).keepT (JD hfe hce) (JJ n1 n2),FnIs.keepT (JD hfe hce) (JJ n1 n2) ⟨_,_,_,_,_,_,ca,oca,by rw [jC n3.symm,jJ],rfl,jJ,hoc⟩,⟨_,_,_,_,_,_,ce,oce,by rw [jC m3.symm,jJ],rfl,jJ,hoce⟩⟩
 rintro σ H6 ⟨fa,fe,rfl,R⟩
 refine ⟨fun σ Hj=>∃cv,σ=[some (.ref a),some (.int n),some (.int m),some y,some (.ref dT),some (.ref dM),some (.ref r),some (.ref fa),some (.ref fe),some cv,none,none,none,none]∧Same H6 Hj∧ZU Hj T0 (jL m v) ks cv,?_,?_⟩
 ·refine ⟨_,rfl,_,rfl,_,rfl,dT,r,y,T0,ls,m,n,jL m v,xs,ks,rfl,R.lay.tab,R.lay.ok,R.lay.key,R.lay.at_,R.lay.row,R.lay.keys,fun hw H' s=>⟨_,rfl,s,.inl ⟨hw,rfl⟩⟩,fun k' y' p H' hw hs hg hp s=>⟨_,rfl,s,.inr ⟨k',y',p,hw,hs,hg,hp,rfl⟩⟩⟩
 rintro σ H7 ⟨cv,rfl,s7,hcv⟩
 have R7:=R.same s7
 refine ⟨fun σ Hj=>σ=[some (.ref a),some (.int n),some (.int m),some y,some (.ref dT),some (.ref dM),some (.ref r),some (.ref fa),some (.ref fe),some cv,some (.bl (qG T0 M (jL m v) ks)),none,none,none]∧Hj=H7,?_,?_⟩
 ·rcases hcv with ⟨hw,rfl⟩|⟨k',y',p,hw,hs,hg,hp,rfl⟩
  ·refine ⟨_,rfl,rfl,_,rfl,zS rfl ⟨?_,rfl⟩⟩
   rw [qG,hw]
   rfl
  ·obtain ⟨kvs,e1,g,e3⟩:=R7.lay.mrk.ex
   obtain ⟨ps',hps'⟩:=Option.isSome_iff_exists.mp hs
   refine ⟨_,rfl,rfl,_,rfl,Z0 (fun z=>by cases z) ⟨_,rfl,_,rfl,p,_,0,y',rfl,rfl,SqL.of hp,qZ (j:=0) rfl,dM,kvs,k',_,rfl,.of e1,g,hg,R7.lay.tab.deep k' ps' hps',e3 k' hs,?_,rfl⟩⟩
   rw [qG,hw]
   rfl
 rintro σ Hj ⟨rfl,rfl⟩
 refine ⟨_,rfl,r,_,rfl,.inl (SqL.of (R.same s7).lay.row),fun hd hhd=>?_⟩
 have s8:=s7.trans (j9 hhd (.lst xs))
 have R8:=R.same s8
 refine ⟨_,rfl,_,rfl,_,rfl,_,rfl,JZ ⟨_,rfl⟩ ⟨_,rfl⟩,fun HC hHC hn0=>Q0 R8 jJ R8.lay.keys (by have:=R8.lay.len;omega) rfl rfl hHC hn0 fun H9 s9=>?_⟩
 refine ⟨_,rfl,_,_,_,_,_,rfl,rfl,TyOf.bl _,QZ "bool",_,rfl,qR ?_⟩
 refine ⟨_,rfl,_,rfl,rfl,_,rfl,zS rfl ?_⟩
 have s69:=s8.trans s9
 have R9:=R.same s69
 refine ⟨_,rfl,_,rfl,hd,r,xs,rfl,rfl,SqL.of (s9 _ _ jJ),SqL.of R9.lay.row,(fun z hz=>by obtain ⟨i,hi⟩:=List.mem_iff_getElem?.mp hz;obtain ⟨k,_,e2,e3⟩:=R9.lay.keys.2 i z hi;exact ⟨k,e2,e3⟩),_,rfl,qR ?_⟩
 have h12':=R.lay.len
 refine ⟨_,rfl,r,_,rfl,.inl (SqL.of R9.lay.row),_,_,rfl,rfl,_,rfl,by omega,by omega,yE (n:=(((xs.length:Nat):Int)+1).toNat) (fun i σ Hi=>∃c9 c10 c11 c12 c13,σ=[some (.ref a),some (.int n),some (.int m),some y,some (.ref dT),some (.ref dM),some (.ref r),some (.ref fa),some (.ref fe),c9,c10,c11,c12,c13]∧Same H6 Hi) ⟨_,_,_,_,_,rfl,s69⟩ ?_ ?_⟩
 ·rintro i σ Hi hi ⟨c9,c10,c11,c12,c13,rfl,si⟩
  rw [Int.zero_add]
  have hix:i≤xs.length:=by omega
  have ec:=dF hix
  refine ⟨fun σ Hj=>∃cv,σ=[some (.ref a),some (.int n),some (.int m),some y,some (.ref dT),some (.ref dM),some (.ref r),some (.ref fa),some (.ref fe),some cv,c10,c11,c12,some (.int i)]∧Same H6 Hj∧ZU Hj T0 (jL m v) (ks.take i) cv,?_,?_⟩
  ·refine ⟨_,rfl,_,rfl,_,rfl,_,rfl,_,rfl,r,_,rfl,SqL.of (R.same si).lay.row,fun p0 hp0=>?_⟩
   rw [ec]
   have u0:=j9 hp0 (.lst (xs.take i))
   have R0:=R.same (si.trans u0)
   exact ⟨dT,p0,y,T0,ls,m,n,jL m v,_,ks.take i,rfl,R0.lay.tab,R0.lay.ok,R0.lay.key,R0.lay.at_,jJ,R0.lay.keys.take i,fun hw H' s=>⟨_,rfl,(si.trans u0).trans s,.inl ⟨hw,rfl⟩⟩,fun k' y' p H' hw hs hg hp s=>⟨_,rfl,(si.trans u0).trans s,.inr ⟨k',y',p,hw,hs,hg,hp,rfl⟩⟩⟩
  rintro σ H7 ⟨cv,rfl,s7,hcv⟩
  have R7:=R.same s7
  refine ⟨fun σ Hj=>σ=[some (.ref a),some (.int n),some (.int m),some y,some (.ref dT),some (.ref dM),some (.ref r),some (.ref fa),some (.ref fe),some cv,some (.bl (qG T0 M (jL m v) (ks.take i))),c11,c12,some (.int i)]∧Hj=H7,?_,?_⟩
  ·rcases hcv with ⟨hw,rfl⟩|⟨k',y',p,hw,hs,hg,hp,rfl⟩
   ·refine ⟨_,rfl,rfl,_,rfl,zS rfl ⟨?_,rfl⟩⟩
    rw [qG,hw]
    rfl
   ·obtain ⟨kvs,e1,g,e3⟩:=R7.lay.mrk.ex
    obtain ⟨ps',hps'⟩:=Option.isSome_iff_exists.mp hs
    refine ⟨_,rfl,rfl,_,rfl,Z0 (fun z=>by cases z) ⟨_,rfl,_,rfl,p,_,0,y',rfl,rfl,SqL.of hp,qZ (j:=0) rfl,dM,kvs,k',_,rfl,.of e1,g,hg,R7.lay.tab.deep k' ps' hps',e3 k' hs,?_,rfl⟩⟩
    rw [qG,hw]
    rfl
  rintro σ Hj ⟨rfl,rfl⟩
  refine ⟨_,rfl,_,rfl,_,rfl,_,rfl,_,rfl,_,rfl,r,_,rfl,SqL.of (R.same s7).lay.row,fun p hp=>?_⟩
  rw [ec]
  have s8:=s7.trans (j9 hp (.lst (xs.take i)))
  have R8:=R.same s8
  refine ⟨JZ ⟨_,rfl⟩ ⟨_,rfl⟩,fun HC hHC hn0=>Q0 R8 jJ (R8.lay.keys.take i) (by have:=R8.lay.len;rw [List.length_take];omega) rfl rfl hHC hn0 fun H9 s9=>?_⟩
  refine ⟨_,rfl,_,_,_,_,_,rfl,rfl,TyOf.bl _,QZ "bool",_,rfl,qR ?_⟩
  refine ⟨_,rfl,_,rfl,rfl,_,rfl,zS rfl ?_⟩
  exact ⟨_,_,_,_,_,rfl,s8.trans s9⟩
 rintro σ Hi ⟨c9,c10,c11,c12,c13,rfl,si⟩
 exact q _
end
theorem all_mk {l:W.OpenLaw} {w:World} {K:W.Frag} {h:Heap} {mg:Str→Option Value} {fa f2 f3 f4 f5 f6 f7 f8 f9 f10 f11:Addr} {cL tL:Addr} (X:K.In h) (G:h.Ns mainGlobals mg) (hfa:mg "law"=some (.ref fa))
 {od2 an2 od3 an3 od4 an4 od5 an5 od6 an6 od7 an7 od8 an8 od9 an9 od10 an10 od11 an11:Option Addr} {sl2 sl3 sl4 sl5 sl6 sl7 sl8 sl9 sl10 sl11:Array (Option Value)} {oc2 kV2 dc2 pm2 cd2 ct2 oc3 kV3 dc3 pm3 cd3 ct3 oc4 kV4 dc4 pm4 cd4 ct4 oc5 kV5 dc5 pm5 cd5 ct5 oc6 kV6 dc6 pm6 cd6 ct6 oc7 kV7 dc7 pm7 cd7 ct7 oc8 kV8 dc8 pm8 cd8 ct8 oc9 kV9 dc9 pm9 cd9 ct9 oc10 kV10 dc10 pm10 cd10 ct10 oc11 kV11 dc11 pm11 cd11 ct11:Value}
  (a2:W.nsIn K mainGlobals "row_holds"=some (some (.ref f2)))
  (l2:K.lookup f2=some ⟨oc2,od2,.func (W.fnOf "row_holds" "row_holds" (jX vF) (jT vF) (jH vF) .none kV2 dc2 pm2 an2 cd2 ct2),sl2⟩)
  (c2:W.codeIn K cd2 "row_holds"=true)
  (k2:W.keepIn K (.ref f2)=true)
  (a3:W.nsIn K mainGlobals "_law_cell_at"=some (some (.ref f3)))
  (l3:K.lookup f3=some ⟨oc3,od3,.func (W.fnOf "_law_cell_at" "_law_cell_at" (jX vO) (jT vO) (jH vO) .none kV3 dc3 pm3 an3 cd3 ct3),sl3⟩)
  (c3:W.codeIn K cd3 "_law_cell_at"=true)
  (k3:W.keepIn K (.ref f3)=true)
  (a4:W.nsIn K mainGlobals "_law_label"=some (some (.ref f4)))
  (l4:K.lookup f4=some ⟨oc4,od4,.func (W.fnOf "_law_label" "_law_label" (jX vR) (jT vR) (jH vR) .none kV4 dc4 pm4 an4 cd4 ct4),sl4⟩)
  (c4:W.codeIn K cd4 "_law_label"=true)
  (k4:W.keepIn K (.ref f4)=true)
  (a5:W.nsIn K mainGlobals "_law_deed"=some (some (.ref f5)))
  (l5:K.lookup f5=some ⟨oc5,od5,.func (W.fnOf "_law_deed" "_law_deed" (jX vP) (jT vP) (jH vP) .none kV5 dc5 pm5 an5 cd5 ct5),sl5⟩)
  (c5:W.codeIn K cd5 "_law_deed"=true)
  (k5:W.keepIn K (.ref f5)=true)
  (a6:W.nsIn K mainGlobals "_law_joined"=some (some (.ref f6)))
  (l6:K.lookup f6=some ⟨oc6,od6,.func (W.fnOf "_law_joined" "_law_joined" (jX vQ) (jT vQ) (jH vQ) .none kV6 dc6 pm6 an6 cd6 ct6),sl6⟩)
  (c6:W.codeIn K cd6 "_law_joined"=true)
  (k6:W.keepIn K (.ref f6)=true)
  (a7:W.nsIn K mainGlobals "_law_table"=some (some (.ref f7)))
  (l7:K.lookup f7=some ⟨oc7,od7,.func (W.fnOf "_law_table" "_law_table" (jX vV) (jT vV) (jH vV) .none kV7 dc7 pm7 an7 cd7 ct7),sl7⟩)
  (c7:W.codeIn K cd7 "_law_table"=true)
  (k7:W.keepIn K (.ref f7)=true)
  (a8:W.nsIn K mainGlobals "_law_marks"=some (some (.ref f8)))
  (l8:K.lookup f8=some ⟨oc8,od8,.func (W.fnOf "_law_marks" "_law_marks" (jX vS) (jT vS) (jH vS) .none kV8 dc8 pm8 an8 cd8 ct8),sl8⟩)
  (c8:W.codeIn K cd8 "_law_marks"=true)
  (k8:W.keepIn K (.ref f8)=true)
  (a9:W.nsIn K mainGlobals "_law_row"=some (some (.ref f9)))
  (l9:K.lookup f9=some ⟨oc9,od9,.func (W.fnOf "_law_row" "_law_row" (jX vU) (jT vU) (jH vU) .none kV9 dc9 pm9 an9 cd9 ct9),sl9⟩)
  (c9:W.codeIn K cd9 "_law_row"=true)
  (k9:W.keepIn K (.ref f9)=true)
  (a10:W.nsIn K mainGlobals "_law_walked"=some (some (.ref f10)))
  (l10:K.lookup f10=some ⟨oc10,od10,.func (W.fnOf "_law_walked" "_law_walked" (jX vE) (jT vE) (jH vE) .none kV10 dc10 pm10 an10 cd10 ct10),sl10⟩)
  (c10:W.codeIn K cd10 "_law_walked"=true)
  (k10:W.keepIn K (.ref f10)=true)
  (a11:W.nsIn K mainGlobals "law"=some (some (.ref f11)))
  (l11:K.lookup f11=some ⟨oc11,od11,.func (W.fnOf "law" "law" (jX kZ) (jT kZ) (jH kZ) .none kV11 dc11 pm11 an11 cd11 ct11),sl11⟩)
  (c11:W.codeIn K cd11 "law"=true)
  (k11:W.keepIn K (.ref f11)=true)
  (z_list:W.nsIn K mainGlobals "list"=some none)
  (z_len:W.nsIn K mainGlobals "len"=some none)
  (z_str:W.nsIn K mainGlobals "str"=some none)
  (z_range:W.nsIn K mainGlobals "range"=some none)
  (z_isinstance:W.nsIn K mainGlobals "isinstance"=some none)
  (z_bool:W.nsIn K mainGlobals "bool"=some none)
  (ht:W.tabIn K "law"=some (cL,tL)) :
  ∃fd:FuncData,(∀(s:Shared) (v:Value),BindsTo s fd ⟨[v],[]⟩ [("_law_script",v)])∧∀base:Heap,K.In base→base.Ns mainGlobals mg→W.CodeHd base cL tL→base.BuiltinsAt mg tL→PySem.mainGlobals≠tL→FnOk l.prog w K mg base jV 8 fa fd ["_law_script"] (zH tL K):=by
 have e:=hfa.symm.trans (W.mg_of X G a11)
 cases e
 have F2:=qC (st:=vF) l2 c2 k2
 have b2:=F2.binds (ps:=["first","ahead","ended","row"]) fun _ _ _ _ _ _ us hl=>match us,hl with|[_,_,_,_],_=>rfl
 have F3:=qC (st:=vO) l3 c3 k3
 have b3:=F3.binds (ps:=["_law_script","_law_k"]) fun _ _ _ _ _ _ us hl=>match us,hl with|[_,_],_=>rfl
 have F4:=qC (st:=vR) l4 c4 k4
 have b4:=F4.binds (ps:=["_law_mode","_law_v"]) fun _ _ _ _ _ _ us hl=>match us,hl with|[_,_],_=>rfl
 have F5:=qC (st:=vP) l5 c5 k5
 have b5:=F5.binds (ps:=["_law_mode","_law_j"]) fun _ _ _ _ _ _ us hl=>match us,hl with|[_,_],_=>rfl
 have F6:=qC (st:=vQ) l6 c6 k6
 have b6:=F6.binds (ps:=["_law_table_here","_law_mode","_law_v","_law_w"]) fun _ _ _ _ _ _ us hl=>match us,hl with|[_,_,_,_],_=>rfl
 have F7:=qC (st:=vV) l7 c7 k7
 have b7:=F7.binds (ps:=["_law_script","_law_mode","_law_many"]) fun _ _ _ _ _ _ us hl=>match us,hl with|[_,_,_],_=>rfl
 have F8:=qC (st:=vS) l8 c8 k8
 have b8:=F8.binds (ps:=["_law_cell","_law_mode","_law_many"]) fun _ _ _ _ _ _ us hl=>match us,hl with|[_,_,_],_=>rfl
 have F9:=qC (st:=vU) l9 c9 k9
 have b9:=F9.binds (ps:=["_law_script","_law_mode","_law_first","_law_table_here"]) fun _ _ _ _ _ _ us hl=>match us,hl with|[_,_,_,_],_=>rfl
 have F10:=qC (st:=vE) l10 c10 k10
 have b10:=F10.binds (ps:=["_law_table_here","_law_state","_law_row_here"]) fun _ _ _ _ _ _ us hl=>match us,hl with|[_,_,_],_=>rfl
 have F11:=qC (st:=kZ) l11 c11 k11
 have b11:=F11.binds (ps:=["_law_script"]) fun _ _ _ _ _ _ us hl=>match us,hl with|[_],_=>rfl
 have T:Txt K mg:={z_list:=W.mg_none_of X G z_list,z_len:=W.mg_none_of X G z_len,z_str:=W.mg_none_of X G z_str,z_range:=W.mg_none_of X G z_range,z_isinstance:=W.mg_none_of X G z_isinstance,z_bool:=W.mg_none_of X G z_bool}
 refine ⟨W.fnOf "law" "law" (jX kZ) (jT kZ) (jH kZ) .none kV11 dc11 pm11 an11 cd11 ct11,fun s v=>.of_eq rfl,fun base _ _ hC hB hgT=>?_⟩
 have hcL:=W.law_code X G ht hfa (X _ _ l11) rfl
 have V0:=bI (P:=l.prog) (w:=w) (base:=base) T
 have V1:=bJ (P:=l.prog) (w:=w) (base:=base) T
 have D2:Def l.prog w K mg base 6 "row_holds" _ [] _:=⟨_,_,[],bU F2 T V0 V1,W.mg_of X G a2,k2,.nil,b2⟩
 have D3:Def l.prog w K mg base 1 "_law_cell_at" _ [] _:=⟨_,_,[],bK F3 T,W.mg_of X G a3,k3,.nil,b3⟩
 have D4:Def l.prog w K mg base 2 "_law_label" _ [] _:=⟨_,_,[],bN F4 T,W.mg_of X G a4,k4,.nil,b4⟩
 have D5:Def l.prog w K mg base 2 "_law_deed" _ [] _:=⟨_,_,[],bL F5 T,W.mg_of X G a5,k5,.nil,b5⟩
 have D6:Def l.prog w K mg base 4 "_law_joined" _ [] _:=⟨_,_,[],bM F6 T D4 D5,W.mg_of X G a6,k6,.nil,b6⟩
 have D7:Def l.prog w K mg base 6 "_law_table" _ [] _:=⟨_,_,[],bQ F7 T D4 D3 D6,W.mg_of X G a7,k7,.nil,b7⟩
 have D8:Def l.prog w K mg base 4 "_law_marks" _ [] _:=⟨_,_,[],bO F8 T D4,W.mg_of X G a8,k8,.nil,b8⟩
 have D9:Def l.prog w K mg base 4 "_law_row" _ [] _:=⟨_,_,[],bP F9 T D3 D5,W.mg_of X G a9,k9,.nil,b9⟩
 have D10:Def l.prog w K mg base 4 "_law_walked" _ [] _:=⟨_,_,[],bR F10 T,W.mg_of X G a10,k10,.nil,b10⟩
 have G11:=bT (P:=l.prog) (w:=w) (base:=base) F11 T hcL hC hB hgT D3 D4 D7 D8 D9 D10 D2
 exact G11
theorem tabIn_mk {K:W.Frag} {x:Str} {f c P:Addr} {oc oc2:Value} {od od2:Option Addr} {fd:FuncData} {sl sl2:Array (Option Value)} {vs:Array Value} (h1:W.nsIn K mainGlobals x=some (some (.ref f))) (h2:K.lookup f=some ⟨oc,od,.func fd,sl⟩) (h3:fd.code=.ref c) (h4:K.lookup c=some ⟨oc2,od2,.fields vs,sl2⟩) (h5:(vs[11]?:Option Value)=some (.ref P)):W.tabIn K x=some (c,P):=by
 unfold W.tabIn
 simp only [h1,h2,h3,h4,h5]
theorem walk {l:W.OpenLaw} {q:Program} {loose:List Str} {XP:(Str→Option Value)→Heap→Prop} {YP:World→Heap→Prop} {d:DefRec} {K:Params→W.Frag} {cL tL:Addr} (hn:l.most=some 63) (hdf:d.params.defaults=[])
  (hrec:(PyProof.Rows.recsOf q).find? (fun e=>e.name == d.name)=some d) (htab:∀P:Params,W.tabIn (K P) d.name=some (cL,tL)) (hno:∀P:Params,W.noTabs (K P)=true)
  (hY:∀(w:World) (h:Heap),YP w h→(K w.params).In h)
  (F:∀(w:World) (mg:Str→Option Value) (fa:Addr) (h:Heap),(K w.params).In h→h.Ns mainGlobals mg→mg d.name=some (.ref fa)→
   ∃fd:FuncData,(∀(s:Shared) (u:Value),BindsTo s fd ⟨[u],[]⟩ [("_law_script",u)])∧∀base:Heap,(K w.params).In base→base.Ns mainGlobals mg→W.CodeHd base cL tL→base.BuiltinsAt mg tL→PySem.mainGlobals≠tL→FnOk l.prog w (K w.params) mg base jV 8 fa fd ["_law_script"] (zH tL (K w.params))) :
  W.WalkO q loose XP YP l.row.toRowW d [] (fun f vs=>PySem.call f vs) :=
 L2.walk_ofT (n:=63) (k:=8) (x:="_law_script") (CX:=fun _=>jV) (sp:=fun w tL=>zH tL (K w.params)) hn (by decide) hdf ⟨rfl,by decide,by decide⟩ hrec htab hno hY F (fun _ _ a ns hl hO hS=>⟨a,ns,rfl,hS,hl,hO.1,fun _=>rfl⟩) fun _ _ _ _ _ z=>z
end My
open PySem PySem.W PyProof.Rows
set_option maxRecDepth 100000 in
set_option maxHeartbeats 0 in
theorem PySem.Challenge.cw_lockhouse_k51_row_holds_holds : PySem.Challenge.rw_lockhouse_k51_row_holds.Holds := by
 w_on;o_law;k_head;(case hw=>w_witness2)
 k_fill
 refine' My.walk (l:=PySem.Challenge.rw_lockhouse_k51_row_holds) rfl rfl ?rec ?tab ?no (fun w h Y=>PySem.W.km_in_of Y) ?F
 case tab =>
  intro P
  refine' My.tabIn_mk ?t1 ?t2 ?t3 ?t4 ?t5
  (case t1=>k_is)
  (case t2=>k_is)
  (case t3=>rfl)
  (case t4=>k_is)
  (case t5=>rfl)
 case rec=>kernel_rfl
 case no=>intro P;kernel_rfl
 case F =>
  intro w mg fa h KX G hmg
  refine' My.all_mk KX G hmg ?a2 ?l2 ?c2 ?k2 ?a3 ?l3 ?c3 ?k3 ?a4 ?l4 ?c4 ?k4 ?a5 ?l5 ?c5 ?k5 ?a6 ?l6 ?c6 ?k6 ?a7 ?l7 ?c7 ?k7 ?a8 ?l8 ?c8 ?k8 ?a9 ?l9 ?c9 ?k9 ?a10 ?l10 ?c10 ?k10 ?a11 ?l11 ?c11 ?k11 ?z_list ?z_len ?z_str ?z_range ?z_isinstance ?z_bool ?ht
  (case a2=>first|k_is|rfl)
  (case l2=>first|k_is|rfl)
  (case c2=>first|k_is|rfl)
  (case k2=>first|k_is|rfl)
  (case a3=>first|k_is|rfl)
  (case l3=>first|k_is|rfl)
  (case c3=>first|k_is|rfl)
  (case k3=>first|k_is|rfl)
  (case a4=>first|k_is|rfl)
  (case l4=>first|k_is|rfl)
  (case c4=>first|k_is|rfl)
  (case k4=>first|k_is|rfl)
  (case a5=>first|k_is|rfl)
  (case l5=>first|k_is|rfl)
  (case c5=>first|k_is|rfl)
  (case k5=>first|k_is|rfl)
  (case a6=>first|k_is|rfl)
  (case l6=>first|k_is|rfl)
  (case c6=>first|k_is|rfl)
  (case k6=>first|k_is|rfl)
  (case a7=>first|k_is|rfl)
  (case l7=>first|k_is|rfl)
  (case c7=>first|k_is|rfl)
  (case k7=>first|k_is|rfl)
  (case a8=>first|k_is|rfl)
  (case l8=>first|k_is|rfl)
  (case c8=>first|k_is|rfl)
  (case k8=>first|k_is|rfl)
  (case a9=>first|k_is|rfl)
  (case l9=>first|k_is|rfl)
  (case c9=>first|k_is|rfl)
  (case k9=>first|k_is|rfl)
  (case a10=>first|k_is|rfl)
  (case l10=>first|k_is|rfl)
  (case c10=>first|k_is|rfl)
  (case k10=>first|k_is|rfl)
  (case a11=>first|k_is|rfl)
  (case l11=>first|k_is|rfl)
  (case c11=>first|k_is|rfl)
  (case k11=>first|k_is|rfl)
  (case z_list=>first|k_is|rfl)
  (case z_len=>first|k_is|rfl)
  (case z_str=>first|k_is|rfl)
  (case z_range=>first|k_is|rfl)
  (case z_isinstance=>first|k_is|rfl)
  (case z_bool=>first|k_is|rfl)
  (case ht=>kernel_rfl)
