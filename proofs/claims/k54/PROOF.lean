import PyProof.Rows.All
import Wide.All
import OpenK.AllK
import Wide.FinOn
import Lean
import PyProof.EqAt
import PyProof.EqKinds
import PyProof.TupleCall
import PyProof.NeKinds
import OpenK.KOwn
import KE.KTryMore
import KE.RegKTryMore
import PyProof.NsDelKeeps
import KE.KIntText
import PySem.Challenge.RW_lockhouse_k54_whole_search
set_option Elab.async false
set_option linter.all false
set_option maxRecDepth 100000
namespace L2
open PySem PySem.Spec PyProof.Rows
abbrev j6:=Sum Int Str
def fC:j6→Value→Bool
 |.inl k,v=>Value.isInt k v
 |.inr x,v=>Value.isStrOf x v
def rN (w:World):j6→Int
 |.inl k=>hashInt k
 |.inr x=>hashStr w x
theorem vR:∀{k:j6} {v:Value},fC k v=true→(∃i t,k=Sum.inl i∧v=Value.int i t)∨(∃x t,k=Sum.inr x∧v=Value.str x t)
 |.inl i,v,h=>by
  obtain ⟨t,e⟩:=Value.isInt_shape (k:=i) (v:=v) h
  exact .inl ⟨i,t,rfl,e⟩
 |.inr x,v,h=>by
  obtain ⟨t,e⟩:=Value.isStrOf_shape (x:=x) (v:=v) h
  exact .inr ⟨x,t,rfl,e⟩
theorem oR (a b:Int):decide ((Sum.inl a:j6)=Sum.inl b)=(a == b):=by
 by_cases e:a=b
 ·subst e;simp
 ·have h:¬(Sum.inl a:j6)=Sum.inl b:=fun q=>e (Sum.inl.inj q)
  rw [decide_eq_false h]
  exact (beq_eq_false_iff_ne.mpr e).symm
theorem oO (a b:Str):decide ((Sum.inr a:j6)=Sum.inr b)=decide (a=b):=by
 by_cases e:a=b
 ·subst e;simp
 ·have h:¬(Sum.inr a:j6)=Sum.inr b:=fun q=>e (Sum.inr.inj q)
  rw [decide_eq_false h,decide_eq_false e]
theorem oQ (a:Int) (b:Str):decide ((Sum.inl a:j6)=Sum.inr b)=false:=decide_eq_false (fun q=>nomatch q)
theorem oP (a:Str) (b:Int):decide ((Sum.inr a:j6)=Sum.inl b)=false:=decide_eq_false (fun q=>nomatch q)
def ZH (prog:Program) (w:World):PySem.KeyKind prog w j6 where
 is:=fC
 hash:=rN w
 inj:=fun v a b ha hb=>by
  rcases vR ha with ⟨i,t,rfl,rfl⟩|⟨x,t,rfl,rfl⟩
  ·rcases vR hb with ⟨j,u,rfl,e⟩|⟨y,u,rfl,e⟩
   ·injection e with e1 _;rw [e1]
   ·exact nomatch e
  ·rcases vR hb with ⟨j,u,rfl,e⟩|⟨y,u,rfl,e⟩
   ·exact nomatch e
   ·injection e with e1 _;rw [e1]
 byValue:=fun k v h=>by
  rcases vR h with ⟨i,t,rfl,rfl⟩|⟨x,t,rfl,rfl⟩<;>rfl
 pyHash:=fun hv h=>by
  rcases vR hv with ⟨i,t,rfl,rfl⟩|⟨x,t,rfl,rfl⟩
  ·exact wpAny_pyHash_int h
  ·exact wpAny_pyHash_str h
 eqBool:=fun hu hv h=>by
  rcases vR hu with ⟨i,t,rfl,rfl⟩|⟨x,t,rfl,rfl⟩
  ·rcases vR hv with ⟨j,u,rfl,rfl⟩|⟨y,u,rfl,rfl⟩
   ·rw [oR] at h;exact wpAny_eqBool_int h
   ·rw [oQ] at h;exact SeqAt.EqAt.int_str i t y u _ _ _ _ h
  ·rcases vR hv with ⟨j,u,rfl,rfl⟩|⟨y,u,rfl,rfl⟩
   ·rw [oP] at h;exact SeqAt.EqAt.str_int x t j u _ _ _ _ h
   ·rw [oO] at h;exact wpAny_eqBool_str h
 «strs»:=fun k x t v h=>by
  rcases vR h with ⟨i,u,rfl,e⟩|⟨y,u,rfl,e⟩
  ·exact nomatch e
  ·injection e with e1 _
   subst e1
   cases v<;>rfl
end L2
namespace L2
open PySem PySem.Spec PyProof.Rows
inductive V where
 |non|bl (b:Bool)|int (i:Int)|str (x:Str)|byt (b:Array UInt8)|flt (b:UInt64)|ref (a:Addr)|ty (n:String)
 deriving DecidableEq
def RelV:V→Value→Prop
 |.non,u=>u=Value.none
 |.bl b,u=>u=Value.bool b
 |.int i,u=>∃t,u=Value.int i t
 |.str x,u=>∃t,u=Value.str x t
 |.byt b,u=>∃t,u=Value.bytes b t
 |.flt b,u=>∃t,u=Value.float b t
 |.ref a,u=>u=Value.ref a
 |.ty n,u=>u=Value.type n
abbrev Vals:List V→List Value→Prop:=Paired RelV
theorem Vals.length {xs:List V} {us:List Value} (r:Vals xs us):xs.length=us.length:=Paired.length r
theorem Vals.get:∀{xs:List V} {us:List Value} {i:Nat} {x:V},Vals xs us→xs[i]?=some x→∃u,us[i]?=some u∧RelV x u
 |_,_,_,_,.nil,e=>by simp at e
 |_,_,0,_,.cons r _,e=>by simp at e;subst e;exact ⟨_,rfl,r⟩
 |_,_,i+1,x,.cons _ t,e=>by
  obtain ⟨u,h1,h2⟩:=Vals.get (i:=i) (x:=x) t (by simpa using e)
  exact ⟨u,by simpa using h1,h2⟩
theorem Vals.append:∀{xs ys:List V} {us ws:List Value},Vals xs us→Vals ys ws→Vals (xs++ys) (us++ws)
 |_,_,_,_,.nil,s=>s
 |_,_,_,_,.cons r t,s=>.cons r (Vals.append t s)
theorem Vals.take:∀{xs:List V} {us:List Value} (n:Nat),Vals xs us→Vals (xs.take n) (us.take n)
 |_,_,0,_=>.nil
 |_,_,_+1,.nil=>.nil
 |_,_,n+1,.cons r t=>.cons r (Vals.take n t)
theorem Vals.drop:∀{xs:List V} {us:List Value} (n:Nat),Vals xs us→Vals (xs.drop n) (us.drop n)
 |_,_,0,r=>r
 |_,_,_+1,.nil=>.nil
 |_,_,n+1,.cons _ t=>Vals.drop n t
def RelO:Option V→Option Value→Prop
 |some v,some u=>RelV v u
 |none,none=>True
 |_,_=>False
def KV {κ:Type}:List (κ×V)→List (κ×Value)→Prop:=Paired fun (p:κ×V) (q:κ×Value)=>p.1=q.1∧RelV p.2 q.2
def kV:j6→V
 |.inl i=>.int i
 |.inr x=>.str x
inductive HO where
 /-- a list -/
 |lst (xs:List V)
 /-- a tuple (never changes) -/
 |tup (xs:List V)
 /-- a dict whose keys are ints and texts;one whose keys are tuples of ints and texts (the empty one is both) -/
 |dK (kvs:List (j6×V))|dT (kvs:List (List j6×V))
 /-- a set of ints: its members,its size -/
 |set (S:Int→Bool) (n:Nat)
 /-- an instance of the class at C,its dict at dx,its attributes -/
 |ins (C dx:Addr) (fs:List (Str×V))
 /-- the dict of the instance at x -/
 |own (x:Addr)
 /-- the dict of an exception -/
 |xd (fs:List (Str×V))
 /-- a bound method,f of x -/
 |met (f x:Addr)
 /-- a range object lo,lo+1,.. below hi -/
 |rng (lo hi:Int)
 /-- a thing that is known to the object (the script;a dict while a loop walks it): read,never written while it is so -/
 |frz (o:Obj) (u:HO)
 /-- a code object's table -/
 |tbl (ps:Array Value)
 /-- any other thing,by what is true of its one object (a def of one's own: SetO a S n:=HO.ext fun h=>..) -/
 |ext (φ:Heap→Prop)
abbrev Hp:=Addr→Option HO
def jB (H:Hp) (a:Addr) (o:HO):Hp:=fun b=>if b=a then some o else H b
theorem jL {H:Hp} {a:Addr} {o:HO}:jB H a o a=some o:=by unfold jB;rw [if_pos rfl]
theorem jD {H:Hp} {a b:Addr} {o:HO} (h:b≠a):jB H a o b=H b:=by unfold jB;rw [if_neg h]
theorem kZ {H:Hp} {a b:Addr} {o:HO} (h:H a=some o) (h':H b=none):a≠b:=by
 intro e;subst e;rw [h] at h';cases h'
section
variable (P:Program) (w:World)
def ObjOk (H:Hp) (h:Heap) (a:Addr):HO→Prop
 |.lst xs=>xs.length≤sizeLine∧∃(its:List Value) (n:Nat),Vals xs its∧h.get? a=some {cls:=.type "list",data:=.seq its.toArray n}
 |.tup xs=>xs.length≤sizeLine∧∃its:List Value,Vals xs its∧IsTup h a its.toArray
 |.dK kvs=>kvs.length≤sizeLine∧(a == sysModules)=false∧∃vs,KV kvs vs∧h.DictOf (ZH P w) a vs
 |.dT kvs=>kvs.length≤sizeLine∧(a == sysModules)=false∧∃xs:List (List j6×Addr×Value),
   Paired (fun (p:List j6×V) (q:List j6×Addr×Value)=>p.1=q.1∧H q.2.1=some (.tup (p.1.map kV))∧RelV p.2 q.2.2) kvs xs∧
   ∃o es ep,h.get? a=some o∧o.ExactDict∧o.data=.dict es ep∧es.toList=xs.map (entryOfKey (tupleKind (ZH P w)))∧(xs.map (·.1)).Nodup
 |.set S n=>h.SetOf (intKind P w) a S n
 |.ins C dx fs=>H dx=some (.own a)∧fs.length≤1000∧dx≠a∧h.get? a=some (PySem.W.instObj C dx)∧
   ∃mA,h.Ns1 dx mA∧(∀f,RelO (fs.lookup f) (mA f))∧PySem.Within mA (fs.map (·.1))
 |.own _=>∃o,h.get? a=some o
 |.xd fs=>∃mA,h.Ns1 a mA∧∀f,RelO (fs.lookup f) (mA f)
 |.rng lo hi=>∃t u v,h.get? a=some {cls:=.type "range",data:=.fields #[.int lo t,.int hi u,.int 1 v]}
 |.frz o u=>h.get? a=some o∧ObjOk H h a u
 |.tbl ps=>h.get? a=some {cls:=.none,data:=.fields ps}
 |.met f x=>h.get? a=some (PySem.W.methodObj (.ref f) (.ref x))
 |.ext φ=>φ h∧(∃o,h.get? a=some o)∧∀h1 h2:Heap,φ h1→(∀o,h1.get? a=some o→h2.get? a=some o)→φ h2
def HOk (H:Hp) (h:Heap):Prop:=∀a o,H a=some o→ObjOk P w H h a o
end
section
variable {P:Program} {w:World} {H H':Hp} {h h':Heap} {a:Addr} {o:HO}
theorem ObjOk.lt (x:ObjOk P w H h a o):a<h.objs.size:=by
 cases o with
 |lst xs=>obtain ⟨_,_,_,_,e⟩:=x;exact Heap.lt_size e
 |tup xs=>obtain ⟨_,_,_,p⟩:=x;exact p.lt
 |dK kvs=>obtain ⟨_,_,_,_,o,_,_,e,_⟩:=x;exact Heap.lt_size e
 |dT kvs=>obtain ⟨_,_,_,_,o,_,_,e,_⟩:=x;exact Heap.lt_size e
 |set S n=>obtain ⟨o,_,_,_,e,_⟩:=x;exact Heap.lt_size e
 |ins C dx fs=>obtain ⟨_,_,_,e,_⟩:=x;exact Heap.lt_size e
 |own y=>obtain ⟨_,e⟩:=x;exact Heap.lt_size e
 |xd fs=>obtain ⟨_,⟨_,_,_,e,_⟩,_⟩:=x;exact Heap.lt_size e
 |rng lo hi=>obtain ⟨_,_,_,e⟩:=x;exact Heap.lt_size e
 |frz ob u=>obtain ⟨e,_⟩:=x;exact Heap.lt_size e
 |tbl ps=>exact Heap.lt_size (show h.get? a=some _ from x)
 |met f y=>exact Heap.lt_size (show h.get? a=some _ from x)
 |ext φ=>obtain ⟨_,⟨_,e⟩,_⟩:=x;exact Heap.lt_size e
theorem Paired.mapP {α β:Type} {F G:α→β→Prop}:∀{l₁:List α} {l₂:List β},Paired F l₁ l₂→(∀a b,F a b→G a b)→Paired G l₁ l₂
 |_,_,.nil,_=>.nil
 |_,_,.cons r t,f=>.cons (f _ _ r) (Paired.mapP t f)
theorem ObjOk.stay (x:ObjOk P w H h a o) (k:∀b u,(b=a∨H b=some (.own a))→h.get? b=some u→h'.get? b=some u)
  (ho:∀b,H b=some (.own a)→H' b=some (.own a)) (ht:∀b xs,H b=some (.tup xs)→H' b=some (.tup xs)):ObjOk P w H' h' a o:=by
 induction o with
 |lst xs=>obtain ⟨z,its,n,r,e⟩:=x;exact ⟨z,its,n,r,k _ _ (.inl rfl) e⟩
 |tup xs=>obtain ⟨z,its,r,ob,e,c⟩:=x;exact ⟨z,its,r,ob,k _ _ (.inl rfl) e,c⟩
 |dK kvs=>obtain ⟨z,y,vs,r,ob,es,ep,e,c⟩:=x;exact ⟨z,y,vs,r,ob,es,ep,k _ _ (.inl rfl) e,c⟩
 |dT kvs =>
  obtain ⟨z,y,xs,r,ob,es,ep,e,c⟩:=x
  exact ⟨z,y,xs,Paired.mapP r fun p q z=>⟨z.1,ht _ _ z.2.1,z.2.2⟩,ob,es,ep,k _ _ (.inl rfl) e,c⟩
 |set S n=>obtain ⟨ob,es,ep,t,e,c⟩:=x;exact ⟨ob,es,ep,t,k _ _ (.inl rfl) e,c⟩
 |ins C dx fs =>
  obtain ⟨d,z,ne,e,mA,⟨od,es,ep,e2,c⟩,r⟩:=x
  exact ⟨ho _ d,z,ne,k _ _ (.inl rfl) e,mA,⟨od,es,ep,k _ _ (.inr d) e2,c⟩,r⟩
 |own y=>obtain ⟨ob,e⟩:=x;exact ⟨ob,k _ _ (.inl rfl) e⟩
 |xd fs=>obtain ⟨mA,⟨od,es,ep,e,c⟩,r⟩:=x;exact ⟨mA,⟨od,es,ep,k _ _ (.inl rfl) e,c⟩,r⟩
 |rng lo hi=>obtain ⟨t,u,v,e⟩:=x;exact ⟨t,u,v,k _ _ (.inl rfl) e⟩
 |frz ob u ih=>obtain ⟨e,q⟩:=x;exact ⟨k _ _ (.inl rfl) e,ih q⟩
 |tbl ps =>
  have e:h.get? a=some {cls:=.none,data:=.fields ps}:=x
  show h'.get? a=some {cls:=.none,data:=.fields ps}
  exact k a _ (.inl rfl) e
 |met f y =>
  have e:h.get? a=some (PySem.W.methodObj (.ref f) (.ref y)):=x
  show h'.get? a=some (PySem.W.methodObj (.ref f) (.ref y))
  exact k a _ (.inl rfl) e
 |ext φ=>obtain ⟨p,⟨o,e⟩,st⟩:=x;exact ⟨st _ _ p fun o q=>k _ _ (.inl rfl) q,⟨o,k _ _ (.inl rfl) e⟩,st⟩
theorem HOk.lt (x:HOk P w H h) (e:H a=some o):a<h.objs.size:=(x a o e).lt
theorem HOk.fresh (x:HOk P w H h) (e:h.objs.size≤a):H a=none:=by
 cases q:H a with
 |none=>rfl
 |some u=>exact absurd (Nat.lt_of_lt_of_le (x.lt q) e) (Nat.lt_irrefl _)
theorem HOk.kept (x:HOk P w H h) (k:∀b u,h.get? b=some u→h'.get? b=some u):HOk P w H h':=fun a o e =>
 (x a o e).stay (fun b u _ q=>k b u q) (fun _ q=>q) fun _ _ q=>q
theorem HOk.laid (x:HOk P w H h) (k:∀b u,h.get? b=some u→h'.get? b=some u) (hp:h.objs.size≤a) (new:ObjOk P w (jB H a o) h' a o):HOk P w (jB H a o) h':=fun b u e=>by
 have hn:=x.fresh hp
 by_cases hb:b=a
 ·subst hb;rw [jL] at e;cases e;exact new
 ·rw [jD hb] at e
  exact (x b u e).stay (fun c v _ q=>k c v q) (fun c q=>by rw [jD (kZ q hn)];exact q) fun c xs q=>by rw [jD (kZ q hn)];exact q
end
def Rd (H:Hp) (a:Addr) (u:HO):Prop:=H a=some u∨∃o,H a=some (.frz o u)
theorem Rd.of {H:Hp} {a:Addr} {u:HO} (h:H a=some u):Rd H a u:=.inl h
theorem Rd.ok {P:Program} {w:World} {H:Hp} {h:Heap} {a:Addr} {u:HO} (r:Rd H a u) (x:HOk P w H h):ObjOk P w H h a u:=by
 rcases r with r|⟨o,r⟩
 ·exact x a u r
 ·obtain ⟨_,q⟩:=x a _ r
  exact q
def JU:Option HO→Prop
 |some (.lst _)=>True
 |some (.dK _)=>True
 |some (.dT _)=>True
 |some (.set _ _)=>True
 |some (.ins _ _ _)=>True
 |some (.ext _)=>True
 |_=>False
section
variable {P:Program} {w:World} {H:Hp} {h h':Heap} {x e:Addr} {o':HO}
theorem HOk.write (ok:HOk P w H h) (mu:JU (H x)) (he:e=x∨H e=some (.own x)) (k:∀b u,b≠e→h.get? b=some u→h'.get? b=some u) (heo:∃u,h'.get? e=some u)
  (new:ObjOk P w (jB H x o') h' x o'):HOk P w (jB H x o') h':=fun b u q=>by
 have nown:∀c y,H c=some (.own y)→c≠x:=fun c y r z=>by subst z;rw [r] at mu;exact mu
 have ntup:∀c xs,H c=some (.tup xs)→c≠x:=fun c xs r z=>by subst z;rw [r] at mu;exact mu
 by_cases hb:b=x
 ·subst hb;rw [jL] at q;cases q;exact new
 ·rw [jD hb] at q
  by_cases hbe:b=e
  ·have q':H b=some (.own x):=by
    rcases he with z|z
    ·exact absurd (hbe.trans z) hb
    ·rw [hbe];exact z
   rw [q] at q';cases q'
   obtain ⟨v,hv⟩:=heo
   exact ⟨v,by rw [hbe];exact hv⟩
  ·refine (ok b u q).stay (fun c v hc r=>k c v ?_ r) (fun c r=>by rw [jD (nown c b r)];exact r) fun c xs r=>by rw [jD (ntup c xs r)];exact r
   rcases hc with rfl|hc
   ·exact hbe
   ·rintro rfl
    rcases he with z|z
    ·exact nown c b hc z
    ·rw [hc] at z;cases z;exact hb rfl
end
structure Un (fs ex:List Addr) (H H':Hp) (h h':Heap):Prop where
 keep:∀b o,h.get? b=some o→H b=none→b∉fs→b∉ex→h'.get? b=some o
 slot:∀b o,h.get? b=some o→H b=none→b∈fs→b∉ex→∃sl,h'.get? b=some {o with slots:=sl}
 free:∀b o,h.get? b=some o→H b=none→b∉ex→H' b=none
 there:∀b o,h.get? b=some o→b∉ex→∃o',h'.get? b=some o'
 tups:∀b xs,H b=some (.tup xs)→H' b=some (.tup xs)
 frzs:∀b o u,H b=some (.frz o u)→H' b=some (.frz o u)
 tbls:∀b ps,H b=some (.tbl ps)→∃more,H' b=some (.tbl (ps++more))
section
variable {fs fs' ex ex':List Addr} {H H1 H2:Hp} {h h1 h2 h':Heap} {a x e:Addr} {o:HO}
theorem Un.any (u:Un fs ex H H1 h h1) {b:Addr} {ob:Obj} (q:h.get? b=some ob) (n:H b=none) (hx:b∉ex):∃sl,h1.get? b=some {ob with slots:=sl}:=by
 by_cases hb:b∈fs
 ·exact u.slot b ob q n hb hx
 ·exact ⟨ob.slots,u.keep b ob q n hb hx⟩
theorem Un.trans (a:Un fs ex H H1 h h1) (b:Un fs ex H1 H2 h1 h2):Un fs ex H H2 h h2 where
 keep:=fun c ob q n hc hx=>b.keep c ob (a.keep c ob q n hc hx) (a.free c ob q n hx) hc hx
 slot:=fun c ob q n hc hx=>by
  obtain ⟨sl,e1⟩:=a.slot c ob q n hc hx
  obtain ⟨sl',e2⟩:=b.slot c _ e1 (a.free c ob q n hx) hc hx
  exact ⟨sl',e2⟩
 free:=fun c ob q n hx=>by
  obtain ⟨o',e1⟩:=a.there c ob q hx
  exact b.free c o' e1 (a.free c ob q n hx) hx
 there:=fun c ob q hx=>by
  obtain ⟨o',e1⟩:=a.there c ob q hx
  exact b.there c o' e1 hx
 tups:=fun c xs q=>b.tups c xs (a.tups c xs q)
 frzs:=fun c ob xs q=>b.frzs c ob xs (a.frzs c ob xs q)
 tbls:=fun c ps q=>by
  obtain ⟨m1,e1⟩:=a.tbls c ps q
  obtain ⟨m2,e2⟩:=b.tbls c _ e1
  exact ⟨m1++m2,by rw [e2,Array.append_assoc]⟩
theorem Un.kept (k:∀b u,h.get? b=some u→h'.get? b=some u):Un fs ex H H h h' :=
 ⟨fun b ob q _ _ _=>k b ob q,fun b ob q _ _ _=>⟨ob.slots,k b ob q⟩,fun _ _ _ n _=>n,fun b ob q _=>⟨ob,k b ob q⟩,fun _ _ q=>q,fun _ _ _ q=>q,fun _ ps q=>⟨#[],by rw [q];simp⟩⟩
theorem Un.refl:Un fs ex H H h h:=Un.kept fun _ _ q=>q
theorem Un.laid (k:∀b u,h.get? b=some u→h'.get? b=some u) (hp:h.objs.size≤a) (hn:H a=none):Un fs ex H (jB H a o) h h' where
 keep:=fun b u q _ _ _=>k b u q
 slot:=fun b u q _ _ _=>⟨u.slots,k b u q⟩
 free:=fun b u q n _=>by rw [jD (Nat.ne_of_lt (Nat.lt_of_lt_of_le (Heap.lt_size q) hp))];exact n
 there:=fun b u q _=>⟨u,k b u q⟩
 tups:=fun b xs q=>by rw [jD (kZ q hn)];exact q
 frzs:=fun b u xs q=>by rw [jD (kZ q hn)];exact q
 tbls:=fun b ps q=>⟨#[],by rw [jD (kZ q hn),q];simp⟩
theorem Un.write (mu:JU (H x)) (he:e=x∨H e=some (.own x)) (k:∀b u,b≠e→h.get? b=some u→h'.get? b=some u) (heo:∃u,h'.get? e=some u):Un fs ex H (jB H x o) h h':=by
 have hx:∀b,H b=none→b≠x:=fun b n z=>by subst z;rw [n] at mu;exact mu
 have hb:∀b,H b=none→b≠e:=fun b n z=>by
  subst z
  rcases he with r|r
  ·exact hx b n r
  ·rw [n] at r;cases r
 have hm:∀b u,H b=some u→¬JU (some u)→b≠x:=fun b u q nm z=>by subst z;rw [q] at mu;exact nm mu
 refine ⟨fun b u q n _ _=>k b u (hb b n) q,fun b u q n _ _=>⟨u.slots,k b u (hb b n) q⟩,fun b u q n _=>by rw [jD (hx b n)];exact n,fun b u q _=>?_,
  fun b xs q=>by rw [jD (hm b _ q fun z=>z)];exact q,fun b u xs q=>by rw [jD (hm b _ q fun z=>z)];exact q,fun b ps q=>⟨#[],by rw [jD (hm b _ q fun z=>z),q];simp⟩⟩
 by_cases hbe:b=e
 ·subst hbe;exact heo
 ·exact ⟨u,k b u hbe q⟩
end
def trk (h:Heap) (H:Hp):List Addr:=(List.range h.objs.size).filter fun a=>(H a).isSome
def qK (h:Heap) (H:Hp):Heap:=PySem.W.hideAll h (trk h H)
theorem bW (h:Heap) (H:Hp):(qK h H).objs.size=h.objs.size:=PySem.W.hideAll_size _ _
theorem JJ {h:Heap} {H:Hp} {b:Addr} {o:Obj} (e:h.get? b=some o) (n:H b=none):(qK h H).get? b=some o :=
 PySem.W.hideAll_get _ e fun hm=>by
  have q:(H b).isSome=true:=(List.mem_filter.mp hm).2
  rw [n] at q;simp at q
theorem dX {h:Heap} {H:Hp} {b:Addr} {o:Obj} (e:(qK h H).get? b=some o):h.get? b=some o∧H b=none:=by
 have e':h.get? b=some o:=PySem.W.of_hideAll (trk h H) e
 refine ⟨e',?_⟩
 cases q:H b with
 |none=>rfl
 |some x =>
  have hm:b∈trk h H:=List.mem_filter.mpr ⟨List.mem_range.mpr (Heap.lt_size e'),by simp [q]⟩
  have z:(qK h H).get? b=none:=PySem.W.hideAll_none (trk h H) hm
  rw [z] at e;cases e
def nP (g h:Heap) (L:Addr):List (Addr×Obj):=(List.range h.objs.size).filterMap fun a=>if a=L∨(g.get? a).isSome=true then none else (h.get? a).map fun o=>(a,o)
def rest (g h:Heap) (L d:Addr):List (Addr×Obj):=(nP g h L).filter fun p=>decide (p.1≠d)
end L2
namespace L2
open PySem PySem.Spec PyProof.Rows
structure Mod (K:PySem.W.Frag) (mg:Str→Option Value) (base:Heap):Prop where
 kin:K.In base
 glob:base.Ns mainGlobals mg
 blt:∃mb,base.Ns builtinsNs mb∧∀x:Str,x≠"__name__"→mb x=bootBuiltins x
 nolimit:base.NoLimit
structure Cx where
 prog:Program
 w:World
 K:PySem.W.Frag
 mg:Str→Option Value
 base:Heap
 A:Around
 N:List Str
 s₀:Shared
 H₀:Hp
 env:Env
 outer:List Env
 stack:List Env
 ex:List Addr
 fn:Str→Bool
 calm:Bool
 pn:List (Addr×Obj)
 xe:Value→Shared→Prop
def j9 (l:List Env):List Addr:=l.filterMap (·.frame)
abbrev Cx.fs (X:Cx):List Addr:=j9 X.outer
def JS (sc:Scope) (x:Str):Prop:=sc.names.lookup x=some .local∨sc.names.lookup x=some .cell∨sc.names.lookup x=some .free
def z8 (sc:Scope) (x:Str):Prop:=sc.names.lookup x=some .local∨sc.names.lookup x=some .cell
def rW (env:Env) (h:Heap) (m:Str→Option Value) (x:Str) (u:Value):Prop :=
 (env.kindOf x=some .local∧m x=some u)∨((env.kindOf x=some .cell∨env.kindOf x=some .free)∧∃c,env.cells.lookup x=some c∧h.IsCell c (some u))
structure Cx.Ok (X:Cx):Prop where
 mod:Mod X.K X.mg X.base
 kind:X.env.scope.kind=.function
 glob:X.env.globals=mainGlobals
 blt:X.env.builtins=builtinsNs
 above:X.s₀.heap.objs.size≤X.env.locals
 inj:∀x y c,X.env.cells.lookup x=some c→X.env.cells.lookup y=some c→x=y
 has:∀x,(X.env.kindOf x=some .cell∨X.env.kindOf x=some .free)→∃c,X.env.cells.lookup x=some c
 cab:∀x c,X.fn x=true→X.env.cells.lookup x=some c→X.s₀.heap.objs.size≤c
 hd:X.calm=true→X.A.handled=none
 frames:X.A.frames=some X.stack
 stk:X.stack=X.outer∨(X.stack=X.env::X.outer∧X.env.frame=some X.env.locals)
 exf:∀b∈X.ex,b≠X.env.locals∧∀x c,X.env.cells.lookup x=some c→c≠b
 bs:∀b o,X.base.get? b=some o→X.s₀.heap.get? b=some o∧X.H₀ b=none
 bsz:X.base.objs.size≤X.s₀.heap.objs.size
 noex:∀b o,X.base.get? b=some o→b∉X.ex
 exfs:∀b∈X.ex,b∉X.fs
 funs:X.s₀.heap.FunFrames X.base X.outer
 frf:∀b∈X.fs,X.H₀ b=none
structure Inv (X:Cx) (pins:List (Addr×Obj)) (σ:List (Option V)) (H:Hp) (s:Shared):Prop where
 ok:X.Ok
 os:s.os=X.s₀.os
 bare:AllBare s.gens
 base:Un X.fs X.ex X.H₀ H X.s₀.heap s.heap
 loc:∃m,s.heap.Ns X.env.locals m∧∀(i:Nat) (x:Str) (v:V),X.N[i]?=some x→σ[i]?=some (some v)→JS X.env.scope x→∃u,RelV v u∧rW X.env s.heap m x u
 cell:∀x c,X.env.cells.lookup x=some c→∃v,s.heap.IsCell c v
 free:H X.env.locals=none
 freeC:∀x c,X.env.cells.lookup x=some c→H c=none
 pin:∀p∈X.pn++pins,s.heap.get? p.1=some p.2∧H p.1=none∧p.1≠X.env.locals∧p.1∉X.fs∧∀v,p.2.data≠.cell v
 hok:HOk X.prog X.w H s.heap
 len:σ.length=X.N.length
section
variable {X:Cx} {pins:List (Addr×Obj)} {σ:List (Option V)} {H H':Hp} {s:Shared} {h':Heap}
theorem Cx.Ok.nofr (ok:X.Ok) {b:Addr} {o:Obj} (e:X.base.get? b=some o):b∉X.fs:=fun hb=>by
 have:=(ok.funs.mem hb).1
 rw [e] at this;cases this
theorem Inv.bs (I:Inv X pins σ H s):∀b o,X.base.get? b=some o→s.heap.get? b=some o∧H b=none:=fun b o e =>
 ⟨I.base.keep b o (I.ok.bs b o e).1 (I.ok.bs b o e).2 (I.ok.nofr e) (I.ok.noex b o e),I.base.free b o (I.ok.bs b o e).1 (I.ok.bs b o e).2 (I.ok.noex b o e)⟩
theorem Inv.bk (I:Inv X pins σ H s):∀b o,X.base.get? b=some o→s.heap.get? b=some o:=fun b o e=>(I.bs b o e).1
theorem Inv.mod (I:Inv X pins σ H s):Mod X.K X.mg X.base:=I.ok.mod
theorem Inv.kIn (I:Inv X pins σ H s):X.K.In s.heap:=I.ok.mod.kin.keeps I.bk
theorem Inv.nolimit (I:Inv X pins σ H s):s.heap.NoLimit:=I.ok.mod.nolimit.keeps I.bk
theorem Inv.lt (I:Inv X pins σ H s):X.env.locals<s.heap.objs.size:=let ⟨_,hn,_⟩:=I.loc;hn.lt
theorem Inv.sz (I:Inv X pins σ H s):X.s₀.heap.objs.size≤s.heap.objs.size:=Nat.le_trans I.ok.above (Nat.le_of_lt I.lt)
theorem Inv.nofs (I:Inv X pins σ H s) {a:Addr} (h:s.heap.objs.size≤a):a∉X.fs:=fun hb=>by
 obtain ⟨_,o,ho,_⟩:=I.ok.funs.mem hb
 exact absurd (Nat.lt_of_lt_of_le (Heap.lt_size ho) (Nat.le_trans I.sz h)) (Nat.lt_irrefl _)
theorem Inv.cne (I:Inv X pins σ H s):∀x c,X.env.cells.lookup x=some c→c≠X.env.locals:=fun x c e z=>by
 obtain ⟨v,o,ho,hd⟩:=I.cell x c e
 obtain ⟨m,⟨o',es,ep,ho',hd',_⟩,_⟩:=I.loc
 rw [z,ho'] at ho;cases ho;rw [hd'] at hd;cases hd
theorem Inv.funs (I:Inv X pins σ H s):s.heap.FunFrames X.base X.outer:=by
 have all:∀(l:List Env),(∀b∈j9 l,b∈X.fs)→X.s₀.heap.FunFrames X.base l→s.heap.FunFrames X.base l:=by
  intro l
  induction l with
  |nil=>intro _ _;trivial
  |cons env r ih =>
   intro hs hl
   obtain ⟨hk,⟨L,o,hf,hn,ho,hd⟩,hr⟩:=hl
   have hL:L∈X.fs:=hs L (by unfold j9;rw [List.filterMap_cons,hf];exact List.mem_cons_self)
   obtain ⟨sl,e⟩:=I.base.slot L o ho (I.ok.frf L hL) hL fun z=>I.ok.exfs L z hL
   exact ⟨hk,⟨L,_,hf,hn,e,hd⟩,ih (fun b hb=>hs b (by unfold j9;rw [List.filterMap_cons,hf];exact List.mem_cons_of_mem _ hb)) hr⟩
 exact all X.outer (fun _ hb=>hb) I.ok.funs
theorem Inv.stack (I:Inv X pins σ H s):s.heap.FunFrames X.base X.stack:=by
 rcases I.ok.stk with e|⟨e,hf⟩
 ·rw [e];exact I.funs
 ·rw [e]
  obtain ⟨m,hn,_⟩:=I.loc
  refine .cons (by rw [I.ok.kind];decide) hf hn ?_ I.funs
  exact Heap.get?_none_of_le (Nat.le_trans I.ok.bsz I.ok.above)
theorem Inv.stkSub (I:Inv X pins σ H s):∀b∈j9 X.stack,b∈X.env.locals::X.fs:=fun b hb=>by
 rcases I.ok.stk with e|⟨e,hf⟩
 ·rw [e] at hb;exact List.mem_cons_of_mem _ hb
 ·rw [e] at hb
  unfold j9 at hb
  rw [List.filterMap_cons,hf] at hb
  exact hb
theorem Inv.stkFree (I:Inv X pins σ H s):∀b∈j9 X.stack,H b=none:=fun b hb=>by
 rcases List.mem_cons.mp (I.stkSub b hb) with e|hb
 ·rw [e];exact I.free
 ·obtain ⟨_,o,ho,_⟩:=I.ok.funs.mem hb
  exact I.base.free b o ho (I.ok.frf b hb) fun z=>I.ok.exfs b z hb
theorem Inv.step {g':Array GenState} {t':Nat} {d':Drawn} {ch:List Addr} (I:Inv X pins σ H s)
  (hch:∀b∈ch,(b∈X.ex∨X.s₀.heap.objs.size≤b)∧b≠X.env.locals∧(∀x c,X.env.cells.lookup x=some c→c≠b)∧∀p∈X.pn++pins,p.1≠b)
  (keep:∀b o,b≠X.env.locals→b∉X.fs→b∉ch→s.heap.get? b=some o→H b=none→h'.get? b=some o)
  (slot:∀b o,b≠X.env.locals→b∈X.fs→b∉ch→s.heap.get? b=some o→H b=none→∃sl,h'.get? b=some {o with slots:=sl}) (free:∀b o,b∉ch→s.heap.get? b=some o→H b=none→H' b=none)
  (there:∀b o,b∉ch→s.heap.get? b=some o→∃o',h'.get? b=some o')
  (tups:∀b xs,H b=some (.tup xs)→H' b=some (.tup xs)) (frzs:∀b o u,H b=some (.frz o u)→H' b=some (.frz o u)) (tbls:∀b ps,H b=some (.tbl ps)→∃more,H' b=some (.tbl (ps++more)))
  (ns:∀m,s.heap.Ns X.env.locals m→h'.Ns X.env.locals m) (hok:HOk X.prog X.w H' h') (hg:AllBare g') :
  Inv X pins σ H' {s with heap:=h',gens:=g',drawn:=d',toks:=t'}:=by
 have neL:∀b o,X.s₀.heap.get? b=some o→b≠X.env.locals:=fun b o e=>Nat.ne_of_lt (Nat.lt_of_lt_of_le (Heap.lt_size e) I.ok.above)
 have neC:∀b o,X.s₀.heap.get? b=some o→b∉X.ex→b∉ch:=fun b o e hx hb=>by
  rcases (hch b hb).1 with z|z
  ·exact hx z
  ·exact absurd (Nat.lt_of_lt_of_le (Heap.lt_size e) z) (Nat.lt_irrefl _)
 have cellK:∀x c,X.env.cells.lookup x=some c→∀v,s.heap.IsCell c v→h'.IsCell c v:=fun x c e v ⟨o,ho,hd⟩=>by
  have nch:c∉ch:=fun z=>(hch c z).2.2.1 x c e rfl
  by_cases hc:c∈X.fs
  ·obtain ⟨sl,q⟩:=slot c o (I.cne x c e) hc nch ho (I.freeC x c e)
   exact ⟨_,q,hd⟩
  ·exact ⟨o,keep c o (I.cne x c e) hc nch ho (I.freeC x c e),hd⟩
 refine ⟨I.ok,I.os,hg,⟨fun b o e n hb hx=>?_,fun b o e n hb hx=>?_,fun b o e n hx=>?_,fun b o e hx=>?_,fun b xs e=>tups b xs (I.base.tups b xs e),fun b o xs e=>frzs b o xs (I.base.frzs b o xs e),fun b ps e=>?_⟩,?_,fun x c e=>?_,?_,fun x c e=>?_,fun p hp=>?_,hok,I.len⟩
 ·exact keep b o (neL b o e) hb (neC b o e hx) (I.base.keep b o e n hb hx) (I.base.free b o e n hx)
 ·obtain ⟨sl,e1⟩:=I.base.slot b o e n hb hx
  obtain ⟨sl',e2⟩:=slot b _ (neL b o e) hb (neC b o e hx) e1 (I.base.free b o e n hx)
  exact ⟨sl',e2⟩
 ·obtain ⟨o',e1⟩:=I.base.there b o e hx
  exact free b o' (neC b o e hx) e1 (I.base.free b o e n hx)
 ·obtain ⟨o',e1⟩:=I.base.there b o e hx
  exact there b o' (neC b o e hx) e1
 ·obtain ⟨m1,e1⟩:=I.base.tbls b ps e
  obtain ⟨m2,e2⟩:=tbls b _ e1
  exact ⟨m1++m2,by rw [e2,Array.append_assoc]⟩
 ·obtain ⟨m,hn,hl⟩:=I.loc
  refine ⟨m,ns m hn,fun i x v e1 e2 e3=>?_⟩
  obtain ⟨u,r,l⟩:=hl i x v e1 e2 e3
  refine ⟨u,r,?_⟩
  rcases l with l|⟨k,c,e,z⟩
  ·exact .inl l
  ·exact .inr ⟨k,c,e,cellK x c e _ z⟩
 ·obtain ⟨v,z⟩:=I.cell x c e
  exact ⟨v,cellK x c e v z⟩
 ·obtain ⟨m,⟨o,_,_,ho,_⟩,_⟩:=I.loc
  exact free _ o (fun z=>(hch _ z).2.1 rfl) ho I.free
 ·obtain ⟨v,o,ho,hd⟩:=I.cell x c e
  exact free c o (fun z=>(hch c z).2.2.1 x c e rfl) ho (I.freeC x c e)
 ·obtain ⟨e,n,ne,nf,d⟩:=I.pin p hp
  have nch:p.1∉ch:=fun z=>(hch p.1 z).2.2.2 p hp rfl
  exact ⟨keep p.1 p.2 ne nf nch e n,free p.1 p.2 nch e n,ne,nf,d⟩
theorem Inv.un {t':Nat} (I:Inv X pins σ H s) (u:Un X.fs [] H H' s.heap h') (hok:HOk X.prog X.w H' h'):Inv X pins σ H' {s with heap:=h',toks:=t'}:=by
  obtain ⟨m,⟨o,es,ep,ho,r⟩,_⟩:=id I.loc
  obtain ⟨sl,hL⟩:=u.any ho I.free (by simp)
  exact I.step (g':=s.gens) (d':=s.drawn) (ch:=[]) (fun _ z=>nomatch z) (fun b o _ hb _ e n=>u.keep b o e n hb (by simp)) (fun b o _ hb _ e n=>u.slot b o e n hb (by simp)) (fun b o _ e n=>u.free b o e n (by simp)) (fun b o _ e=>u.there b o e (by simp)) u.tups u.frzs u.tbls (fun m' hm=>by
    obtain ⟨o',es',ep',ho',r'⟩:=hm
    rw [ho] at ho';cases ho'
    exact ⟨_,es',ep',hL,r'⟩) hok I.bare
theorem Inv.call {g':Array GenState} {t':Nat} {d':Drawn} {ch:List Addr} (I:Inv X pins σ H s) (u:Un (j9 X.stack) ch H H' s.heap h') (hok:HOk X.prog X.w H' h') (hg:AllBare g')
  (hch:∀b∈ch,(b∈X.ex∨X.s₀.heap.objs.size≤b)∧b≠X.env.locals∧(∀x c,X.env.cells.lookup x=some c→c≠b)∧∀p∈X.pn++pins,p.1≠b) :
  Inv X pins σ H' {s with heap:=h',gens:=g',drawn:=d',toks:=t'}:=by
 obtain ⟨m,⟨o,es,ep,ho,r⟩,_⟩:=id I.loc
 obtain ⟨sl,hL⟩:=u.any ho I.free fun z=>(hch _ z).2.1 rfl
 exact I.step (ch:=ch) hch (fun b o hL hb hc e n=>u.keep b o e n (fun z=>(List.mem_cons.mp (I.stkSub b z)).elim hL hb) hc) (fun b o _ _ hc e n=>u.any e n hc) (fun b o hc e n=>u.free b o e n hc) (fun b o hc e=>u.there b o e hc) u.tups u.frzs u.tbls (fun m' hm=>by
  obtain ⟨o',es',ep',ho',r'⟩:=hm
  rw [ho] at ho';cases ho'
  exact ⟨_,es',ep',hL,r'⟩) hok hg
theorem Inv.turned {t':Nat} {it:Addr} (I:Inv X pins σ H s) (k:∀b o,b≠it→s.heap.get? b=some o→h'.get? b=some o) (hn:H it=none) (hL:it≠X.env.locals)
    (h1:it∈X.ex∨X.s₀.heap.objs.size≤it) (h2:∀x c,X.env.cells.lookup x=some c→c≠it) (h3:∀p∈X.pn++pins,p.1≠it):Inv X pins σ H {s with heap:=h',toks:=t'}:=by
  have nit:∀b u,H b=some u→b≠it:=fun b u e z=>by rw [z,hn] at e;cases e
  refine I.step (g':=s.gens) (d':=s.drawn) (ch:=[it]) (fun b hb=>?_) (fun b o _ _ hc e _=>k b o (fun z=>hc (by simp [z])) e) (fun b o _ _ hc e _=>⟨o.slots,k b o (fun z=>hc (by simp [z])) e⟩) (fun _ _ _ _ n=>n)
    (fun b o hc e=>⟨o,k b o (fun z=>hc (by simp [z])) e⟩) (fun _ _ e=>e) (fun _ _ _ e=>e) (fun b ps e=>⟨#[],by rw [e];simp⟩) (fun m hm=>?_) (fun b u e=>?_) I.bare
  · have e:b=it:=by simpa using hb
    subst e
    exact ⟨h1,hL,h2,h3⟩
  · obtain ⟨o,es,ep,ho,r⟩:=hm
    exact ⟨o,es,ep,k _ o (Ne.symm hL) ho,r⟩
  · refine (I.hok b u e).stay (fun c v hc q=>k c v ?_ q) (fun _ q=>q) fun _ _ q=>q
    rcases hc with z|z
    · rw [z];exact nit b u e
    · exact nit c _ z
theorem Inv.tok (I:Inv X pins σ H s) (t:Nat):Inv X pins σ H {s with toks:=t}:=I.un (h':=s.heap) (t':=t) Un.refl I.hok
theorem Inv.kept {t':Nat} (I:Inv X pins σ H s) (k:∀b u,s.heap.get? b=some u→h'.get? b=some u):Inv X pins σ H {s with heap:=h',toks:=t'}:=I.un (Un.kept k) (I.hok.kept k)
theorem Inv.laid {a:Addr} {o:HO} {t':Nat} (I:Inv X pins σ H s) (k:∀b u,s.heap.get? b=some u→h'.get? b=some u) (hp:s.heap.objs.size≤a) (new:ObjOk X.prog X.w (jB H a o) h' a o) :
  Inv X pins σ (jB H a o) {s with heap:=h',toks:=t'}:=I.un (Un.laid k hp (I.hok.fresh hp)) (I.hok.laid k hp new)
theorem Inv.write {x e:Addr} {o:HO} {t':Nat} (I:Inv X pins σ H s) (mu:JU (H x)) (he:e=x∨H e=some (.own x)) (k:∀b u,b≠e→s.heap.get? b=some u→h'.get? b=some u) (heo:∃u,h'.get? e=some u)
  (new:ObjOk X.prog X.w (jB H x o) h' x o):Inv X pins σ (jB H x o) {s with heap:=h',toks:=t'}:=I.un (Un.write mu he k heo) (I.hok.write mu he k heo new)
theorem Inv.pins_of {pins':List (Addr×Obj)} (I:Inv X pins σ H s) (h:∀p∈pins',s.heap.get? p.1=some p.2∧H p.1=none∧p.1≠X.env.locals∧p.1∉X.fs∧∀v,p.2.data≠.cell v):Inv X pins' σ H s :=
 ⟨I.ok,I.os,I.bare,I.base,I.loc,I.cell,I.free,I.freeC,fun p hp=>(List.mem_append.mp hp).elim (fun z=>I.pin p (List.mem_append_left _ z)) (h p),I.hok,I.len⟩
theorem cW {N:List Str} (hN:N.Nodup) {i j:Nat} {x:Str} (a:N[i]?=some x) (b:N[j]?=some x):i=j:=by
 obtain ⟨h1,e1⟩:=List.getElem?_eq_some_iff.mp a
 obtain ⟨h2,e2⟩:=List.getElem?_eq_some_iff.mp b
 exact (List.getElem_inj hN).mp (e1.trans e2.symm)
theorem bN {M:Model} {A:Around} {E:Value→Shared→Prop} {i:Nat} {x:Str} {v:V} {u:Value} {Q:Unit→Shared→Prop} (I:Inv X pins σ H s) (hN:X.N.Nodup) (hi:X.N[i]?=some x) (hx:z8 X.env.scope x) (r:RelV v u)
  (h:∀s',Inv X pins (σ.set i (some v)) H s'→(∃a,Heap.SameBut a s.heap s'.heap∧(a=X.env.locals∨X.env.cells.lookup x=some a))→Q () s') (hf:X.fn x=true∨X.env.scope.names.lookup x=some .local:=by first|exact .inl rfl|exact .inr rfl|assumption):wpAny M A (storeName X.env x u) Q E s:=by
 obtain ⟨m,hn,hl⟩:=id I.loc
 have hcls:(X.env.scope.kind == .class||(X.env.scope.kind == .module&&X.env.locals != X.env.globals))=false:=by rw [I.ok.kind];rfl
 have hiσ:i<σ.length:=by rw [I.len];exact (List.getElem?_eq_some_iff.mp hi).1
 have cne:=I.cne
 have tracked:∀{a:Addr} {h':Heap},(∃o,s.heap.get? a=some o∧H a=none)→Heap.SameBut a s.heap h'→HOk X.prog X.w H h':=fun {a h'} ha hs b ob e=>by
  obtain ⟨_,_,hfree⟩:=ha
  refine (I.hok b ob e).stay (fun c w' hc q=>(hs.2 c ?_).trans q) (fun _ q=>q) fun _ _ q=>q
  rintro rfl
  rcases hc with rfl|hc
  ·rw [hfree] at e;cases e
  ·rw [hfree] at hc;cases hc
 rcases hx with hk|hk
 ·refine wpAny_storeName_local hk hn (fun h' hn' hs=>?_) hcls
  obtain ⟨oL,_,_,hoL,_⟩:=id hn
  refine h _ ⟨I.ok,I.os,I.bare,⟨fun b o e n hb hx=>?_,fun b o e n hb hx=>?_,I.base.free,fun b o e hx=>?_,I.base.tups,I.base.frzs,I.base.tbls⟩,⟨_,hn',fun j y v' e1 e2 e3=>?_⟩,fun y c e=>?_,I.free,I.freeC,fun p hp=>?_,tracked ⟨oL,hoL,I.free⟩ hs,by simpa using I.len⟩ ⟨_,hs,.inl rfl⟩
  ·exact (hs.2 b (Nat.ne_of_lt (Nat.lt_of_lt_of_le (Heap.lt_size e) I.ok.above))).trans (I.base.keep b o e n hb hx)
  ·obtain ⟨sl,e1⟩:=I.base.slot b o e n hb hx
   exact ⟨sl,(hs.2 b (Nat.ne_of_lt (Nat.lt_of_lt_of_le (Heap.lt_size e) I.ok.above))).trans e1⟩
  ·obtain ⟨o',e1⟩:=I.base.there b o e hx
   exact ⟨o',(hs.2 b (Nat.ne_of_lt (Nat.lt_of_lt_of_le (Heap.lt_size e) I.ok.above))).trans e1⟩
  ·by_cases hj:j=i
   ·subst hj
    rw [hi] at e1;cases e1
    rw [List.getElem?_set_self hiσ] at e2
    cases e2
    exact ⟨u,r,.inl ⟨hk,by simp⟩⟩
   ·rw [List.getElem?_set_ne (Ne.symm hj)] at e2
    obtain ⟨u',r',q⟩:=hl j y v' e1 e2 e3
    refine ⟨u',r',?_⟩
    rcases q with ⟨k,e⟩|⟨k,c,e,z⟩
    ·refine .inl ⟨k,?_⟩
     have:y≠x:=fun e=>hj (cW hN e1 (e▸hi))
     simp [this,e]
    ·exact .inr ⟨k,c,e,z.sameBut hs (cne y c e)⟩
  ·obtain ⟨w',z⟩:=I.cell y c e
   exact ⟨w',z.sameBut hs (cne y c e)⟩
  ·obtain ⟨e,n,ne,nf,d⟩:=I.pin p hp
   exact ⟨(hs.2 p.1 ne).trans e,n,ne,nf,d⟩
 ·have hfn:X.fn x=true:=by
   rcases hf with z|z
   ·exact z
   ·rw [z] at hk;cases hk
  obtain ⟨c,hc⟩:=I.ok.has x (.inl hk)
  obtain ⟨w',z⟩:=I.cell x c hc
  refine wpAny_storeName_cell I.ok.kind hk hc z (fun h' hc' hs=>?_)
  obtain ⟨oc,hoc,hocd⟩:=id z
  refine h {s with heap:=h'} ⟨I.ok,I.os,I.bare,⟨fun b o e n hb hx=>?_,fun b o e n hb hx=>?_,I.base.free,fun b o e hx=>?_,I.base.tups,I.base.frzs,I.base.tbls⟩,⟨m,hn.sameBut hs (Ne.symm (cne x c hc)),fun j y v' e1 e2 e3=>?_⟩,fun y c' e=>?_,I.free,I.freeC,fun p hp=>?_,tracked ⟨oc,hoc,I.freeC x c hc⟩ hs,by simpa using I.len⟩ ⟨c,hs,.inr hc⟩
  ·exact (hs.2 b (Nat.ne_of_lt (Nat.lt_of_lt_of_le (Heap.lt_size e) (I.ok.cab x c hfn hc)))).trans (I.base.keep b o e n hb hx)
  ·obtain ⟨sl,e1⟩:=I.base.slot b o e n hb hx
   exact ⟨sl,(hs.2 b (Nat.ne_of_lt (Nat.lt_of_lt_of_le (Heap.lt_size e) (I.ok.cab x c hfn hc)))).trans e1⟩
  ·obtain ⟨o',e1⟩:=I.base.there b o e hx
   exact ⟨o',(hs.2 b (Nat.ne_of_lt (Nat.lt_of_lt_of_le (Heap.lt_size e) (I.ok.cab x c hfn hc)))).trans e1⟩
  ·by_cases hj:j=i
   ·subst hj
    rw [hi] at e1;cases e1
    rw [List.getElem?_set_self hiσ] at e2
    cases e2
    exact ⟨u,r,.inr ⟨.inl hk,c,hc,hc'⟩⟩
   ·rw [List.getElem?_set_ne (Ne.symm hj)] at e2
    obtain ⟨u',r',q⟩:=hl j y v' e1 e2 e3
    refine ⟨u',r',?_⟩
    rcases q with q|⟨k,c',e,z'⟩
    ·exact .inl q
    ·refine .inr ⟨k,c',e,z'.sameBut hs ?_⟩
     rintro rfl
     exact hj (cW hN e1 (I.ok.inj _ _ _ e hc▸hi))
  ·by_cases hcc:c'=c
   ·subst hcc;exact ⟨_,hc'⟩
   ·obtain ⟨w2,z2⟩:=I.cell y c' e
    exact ⟨w2,z2.sameBut hs hcc⟩
  ·obtain ⟨e,n,ne,nf,d⟩:=I.pin p hp
   refine ⟨(hs.2 p.1 ?_).trans e,n,ne,nf,d⟩
   intro q
   rw [q,hoc] at e
   have q':oc=p.2:=Option.some.inj e
   exact d w' (by rw [← q'];exact hocd)
theorem ZB {M:Model} {A:Around} {E:Value→Shared→Prop} {i:Nat} {x:Str} {v:V} {u:Value} {Q:Unit→Shared→Prop} (I:Inv X pins σ H s) (hN:X.N.Nodup) (hi:X.N[i]?=some x) (hx:z8 X.env.scope x) (r:RelV v u)
  (h:∀s',Inv X pins (σ.set i (some v)) H s'→Q () s') (hf:X.fn x=true∨X.env.scope.names.lookup x=some .local:=by first|exact .inl rfl|exact .inr rfl|assumption):wpAny M A (storeName X.env x u) Q E s :=
 bN I hN hi hx r (fun s' I' _=>h s' I') hf
theorem Inv.call' {s':Shared} {ch:List Addr} (I:Inv X pins σ H s) (ho:s'.os=s.os) (u:Un (j9 X.stack) ch H H' s.heap s'.heap) (hok:HOk X.prog X.w H' s'.heap) (hg:AllBare s'.gens)
  (hch:∀b∈ch,(b∈X.ex∨X.s₀.heap.objs.size≤b)∧b≠X.env.locals∧(∀x c,X.env.cells.lookup x=some c→c≠b)∧∀p∈X.pn++pins,p.1≠b):Inv X pins σ H' s':=by
 obtain ⟨h',g',d',t',o'⟩:=s'
 have e:o'=s.os:=ho
 subst e
 exact I.call (g':=g') (t':=t') (d':=d') u hok hg hch
end
abbrev XK:=Value→Option Addr→Hp→Prop
abbrev St:=List (Option V)
abbrev VK:=V→Hp→Prop
abbrev TE:=St→Hp→VK→Prop
abbrev TT:=St→Hp→(Bool→Hp→Prop)→Prop
abbrev TA:=St→Hp→(List V→Hp→Prop)→Prop
structure Ends where
 nx:St→Hp→Prop
 rt:VK
 bk:St→Hp→Prop:=fun _ _=>False
 ct:St→Hp→Prop:=fun _ _=>False
abbrev TS:=Ends→St→Hp→Prop
def EP (X:Cx) (pins:List (Addr×Obj)) (σ:St) (Q:VK) (u:Value) (s':Shared):Prop:=∃v H',Inv X pins σ H' s'∧RelV v u∧Q v H'
def TP (X:Cx) (pins:List (Addr×Obj)) (σ:St) (Q:Bool→Hp→Prop) (b:Bool) (s':Shared):Prop:=∃H',Inv X pins σ H' s'∧Q b H'
def AP (X:Cx) (pins:List (Addr×Obj)) (σ:St) (Q:List V→Hp→Prop) (us:List Value) (s':Shared):Prop:=∃vs H',Inv X pins σ H' s'∧Vals vs us∧Q vs H'
def SP (X:Cx) (pins:List (Addr×Obj)) (D:Ends) (f:Flow) (s':Shared):Prop :=
 match f with
 |.next=>∃σ' H',Inv X pins σ' H' s'∧D.nx σ' H'
 |.brk=>∃σ' H',Inv X pins σ' H' s'∧D.bk σ' H'
 |.cont=>∃σ' H',Inv X pins σ' H' s'∧D.ct σ' H'
 |.ret u=>∃v σ' H',Inv X pins σ' H' s'∧RelV v u∧D.rt v H'
def PE (X:Cx) (e:Expr) (t:TE):Prop :=
 ∀(pins:List (Addr×Obj)) (s:Shared) (σ:St) (H:Hp) (Q:VK),Inv X pins σ H s→t σ H Q→wpAny (model X.prog X.w) X.A (eval e X.env) (EP X pins σ Q) X.xe s
def PT (X:Cx) (e:Expr) (t:TT):Prop :=
 ∀(pins:List (Addr×Obj)) (s:Shared) (σ:St) (H:Hp) (Q:Bool→Hp→Prop),Inv X pins σ H s→t σ H Q→wpAny (model X.prog X.w) X.A (isTrue e X.env (eval e X.env)) (TP X pins σ Q) X.xe s
def PW (X:Cx) (e:Expr) (t:TT):Prop :=
 ∀(whole:Sem Value) (pins:List (Addr×Obj)) (s:Shared) (σ:St) (H:Hp) (Q:Bool→Hp→Prop),Inv X pins σ H s→t σ H Q→wpAny (model X.prog X.w) X.A (isTrue e X.env whole) (TP X pins σ Q) X.xe s
theorem PW.pt {X:Cx} {e:Expr} {t:TT} (h:PW X e t):PT X e t:=h _
def PA (X:Cx) (es:List Expr) (t:TA):Prop :=
 ∀(pos:Pos) (pins:List (Addr×Obj)) (s:Shared) (σ:St) (H:Hp) (Q:List V→Hp→Prop),Inv X pins σ H s→t σ H Q→wpAny (model X.prog X.w) X.A (spliced (backTo pos (starEach es X.env))) (AP X pins σ Q) X.xe s
def PS (X:Cx) (st:Stmt) (t:TS):Prop :=
 ∀(pins:List (Addr×Obj)) (s:Shared) (σ:St) (H:Hp) (D:Ends),Inv X pins σ H s→t D σ H→wpAny (model X.prog X.w) X.A (exec st X.env) (SP X pins D) X.xe s
def PSs (X:Cx) (st:List Stmt) (t:TS):Prop :=
 ∀(pins:List (Addr×Obj)) (s:Shared) (σ:St) (H:Hp) (D:Ends),Inv X pins σ H s→t D σ H→wpAny (model X.prog X.w) X.A (execs st X.env) (SP X pins D) X.xe s
theorem jG {α:Type} {t:Sem α} {Q Q':α→Shared→Prop} {M:Model} {A:Around} {E:Value→Shared→Prop} {s:Shared} (h:wpAny M A t Q E s) (hQ:∀a s,Q a s→Q' a s):wpAny M A t Q' E s:=wpAny_mono h hQ fun _ _ x=>x
end L2
namespace L2
open PySem PySem.Spec PyProof.Rows
section
variable {X:Cx}
def fI (i:Nat):TE:=fun σ H Q=>∃v,σ[i]?=some (some v)∧Q v H
def tC (v:V):TE:=fun _ H Q=>Q v H
theorem eE {i:Nat} {x:Str} {pos:Pos} (hN:X.N[i]?=some x) (hv:JS X.env.scope x) (hd:(x == ("__debug__":Str))=false:=by decide) (hcd:(x == ("__classdict__":Str))=false:=by decide):PE X (.Name x pos) (fI i):=by
 intro pins s σ H Q I h
 obtain ⟨v,e,h⟩:=h
 obtain ⟨m,hn,hl⟩:=I.loc
 obtain ⟨u,r,l⟩:=hl i x v hN e hv
 have fin:EP X pins σ Q u s:=⟨v,H,I,r,h⟩
 rcases l with ⟨hk,hm⟩|⟨hk,c,hc,hcell⟩
 ·exact wpAny_Name (wpAny_loadName_local I.ok.kind hk hn hm fin) hd
 ·rcases hk with hk|hk
  ·exact wpAny_Name (wpAny_loadName_cell I.ok.kind hk hc hcell fin) hd
  ·exact wpAny_Name (wpAny_loadName_free I.ok.kind hk hc hcell fin hcd) hd
theorem jE {i j pos}:PE X (.Constant (.int i) j pos) (tC (.int i)):=fun _ _ _ H _ I h=>wpAny_Constant_int ⟨.int i,H,I.tok _,⟨_,rfl⟩,h⟩
theorem qX {b j pos}:PE X (.Constant (.bool b) j pos) (tC (.bl b)):=fun _ _ _ H _ I h=>Constant_bool ⟨.bl b,H,I,rfl,h⟩
theorem eG {j pos}:PE X (.Constant .none j pos) (tC .non):=fun _ _ _ H _ I h=>Constant_none ⟨.non,H,I,rfl,h⟩
theorem vF {x j pos}:PE X (.Constant (.str x) j pos) (tC (.str x)):=fun _ _ _ H _ I h=>Calls.Constant_str ⟨.str x,H,I.tok _,⟨_,rfl⟩,h⟩
def Gl (X:Cx) (x:Str):Prop:=X.env.kindOf x=some .globalImplicit
theorem ZI {E:Value→Shared→Prop} {pins:List (Addr×Obj)} {s:Shared} {σ:St} {H:Hp} {x:Str} {u:Value} {pos:Pos} {Q:Value→Shared→Prop} (I:Inv X pins σ H s) (hg:Gl X x) (hm:X.mg x=some u) (h:Q u s)
  (hd:(x == ("__debug__":Str))=false:=by decide):wpAny (model X.prog X.w) X.A (eval (.Name x pos) X.env) Q E s :=
 Calls.Name_function_global I.ok.kind hg (Calls.loadGlobal_global (by rw [I.ok.glob];exact I.mod.glob.keeps I.bk) hm h) hd
theorem zZ {E:Value→Shared→Prop} {pins:List (Addr×Obj)} {s:Shared} {σ:St} {H:Hp} {x:Str} {u:Value} {pos:Pos} {Q:Value→Shared→Prop} (I:Inv X pins σ H s) (hg:Gl X x) (hm:X.mg x=none) (hv:bootBuiltins x=some u) (h:Q u s)
  (hn:x≠"__name__":=by decide) (hd:(x == ("__debug__":Str))=false:=by decide):wpAny (model X.prog X.w) X.A (eval (.Name x pos) X.env) Q E s:=by
 obtain ⟨mb,h1,h2⟩:=I.mod.blt
 exact Calls.Name_function_global I.ok.kind hg (Calls.loadGlobal_builtin (by rw [I.ok.glob];exact I.mod.glob.keeps I.bk) hm (by rw [I.ok.blt];exact h1.keeps I.bk) ((h2 x hn).trans hv) h) hd
theorem yA {x:Str} {v:V} {u:Value} {pos:Pos} (hg:Gl X x) (hm:X.mg x=none) (hv:bootBuiltins x=some u) (r:RelV v u) (hn:x≠"__name__":=by decide) (hd:(x == ("__debug__":Str))=false:=by decide):PE X (.Name x pos) (tC v) :=
 fun _ _ _ H _ I h=>zZ I hg hm hv ⟨v,H,I,r,h⟩ hn hd
variable {a b:Expr} {ta tb:TE} {pos:Pos}
def PC (X:Cx) (op:CmpOp) (a b:Expr) (t:TE):Prop :=
 ∀(pins:List (Addr×Obj)) (s:Shared) (σ:St) (H:Hp) (Q:VK),Inv X pins σ H s→t σ H Q→
  wpAny (model X.prog X.w) X.A (eval a X.env) (fun v s₁=>wpAny (model X.prog X.w) X.A (eval b X.env) (fun u s₂=>wpAny (model X.prog X.w) X.A (compareOp op v u) (EP X pins σ Q) X.xe s₂) X.xe s₁) X.xe s
theorem l0 (b:Expr) {op:CmpOp} (h:op≠.In) (h2:op≠.NotIn):behindInMarks op b=false:=by
 have e1:(op == CmpOp.In)=false:=by cases op<;>first|rfl|exact absurd rfl h
 have e2:(op == CmpOp.NotIn)=false:=by cases op<;>first|rfl|exact absurd rfl h2
 cases b<;>simp [behindInMarks,e1,e2]
def tB (t:TE):TT:=fun σ H Q=>t σ H fun x H1=>∃c,x=.bl c∧Q c H1
theorem ZP {op:CmpOp} {t:TE} (h:PC X op a b t) (h1:behindInMarks op b=false:=by first|exact l0 _ (by decide) (by decide)|rfl):PT X (.Compare a [op] [b] pos) (tB t):=by
 intro pins s σ H Q I hw
 refine wpAny_isTrue_Compare1 (jG (h pins s σ H _ I hw) fun v s1 h1=>jG h1 fun u s2 h2=>jG h2 fun c s3 ⟨x,H1,I1,r1,q1⟩=>?_) h1
 obtain ⟨d,rfl,q⟩:=q1
 cases r1
 exact wpAny_truthy_bool ⟨H1,I1,q⟩
theorem qO {e:Expr} {t:TE} (h:PE X e t) (he:∀whole,isTrue e X.env whole=(do let v ← whole;standAt e.pos;holding [v] (truthy v)):=by intro _;rfl):PT X e (tB t):=by
 intro pins s σ H Q I hw
 refine isTrue_plain (jG (h pins s σ H _ I hw) fun v s1 ⟨x,H1,I1,r1,q1⟩=>?_) (he _)
 obtain ⟨d,rfl,q⟩:=q1
 cases r1
 exact wpAny_truthy_bool ⟨H1,I1,q⟩
variable {tA tB':TT} {rest:List Expr}
def rC (t u:TT):TT:=fun σ H Q=>t σ H fun c H1=>if c=true then u σ H1 Q else Q false H1
def r9 (t u:TT):TT:=fun σ H Q=>t σ H fun c H1=>if c=true then Q true H1 else u σ H1 Q
def pW (t:TT):TT:=fun σ H Q=>t σ H fun c H1=>Q (!c) H1
theorem mZ (ha:PT X a tA):PW X (.BoolOp .And [a] pos) tA:=by
 intro wh pins s σ H Q I h
 refine isTrue_and (jG (ha pins s σ H Q I h) fun c s1 e=>?_)
 cases c with
 |true=>exact isTrue_and_nil e
 |false=>exact e
theorem yC (ha:PT X a tA):PW X (.BoolOp .Or [a] pos) tA:=by
 intro wh pins s σ H Q I h
 refine isTrue_or (jG (ha pins s σ H Q I h) fun c s1 e=>?_)
 cases c with
 |false=>exact isTrue_or_nil e
 |true=>exact e
theorem n4 (ha:PT X a tA) (hb:PW X (.BoolOp .And (b::rest) pos) tB'):PW X (.BoolOp .And (a::b::rest) pos) (rC tA tB'):=by
 intro wh pins s σ H Q I h
 refine isTrue_and (jG (ha pins s σ H _ I h) fun c s1 ⟨H1,I1,q1⟩=>?_)
 cases c with
 |true=>exact hb wh pins s1 σ H1 Q I1 q1
 |false=>exact ⟨H1,I1,q1⟩
theorem vI (ha:PT X a tA) (hb:PW X (.BoolOp .Or (b::rest) pos) tB'):PW X (.BoolOp .Or (a::b::rest) pos) (r9 tA tB'):=by
 intro wh pins s σ H Q I h
 refine isTrue_or (jG (ha pins s σ H _ I h) fun c s1 ⟨H1,I1,q1⟩=>?_)
 cases c with
 |true=>exact ⟨H1,I1,q1⟩
 |false=>exact hb wh pins s1 σ H1 Q I1 q1
theorem vZ (ha:PT X a tA):PT X (.UnaryOp .Not a pos) (pW tA):=by
 intro pins s σ H Q I h
 exact isTrue_not (ha pins s σ H (fun c H1=>Q (!c) H1) I h)
def pD (ta tb:TE):TE:=fun σ H Q=>ta σ H fun x H1=>∃c,x=.bl c∧if c=true then tb σ H1 Q else Q (.bl false) H1
def pV (ta tb:TE):TE:=fun σ H Q=>ta σ H fun x H1=>∃c,x=.bl c∧if c=true then Q (.bl true) H1 else tb σ H1 Q
def o6 (ta:TE):TE:=fun σ H Q=>ta σ H fun x H1=>∃c,x=.bl c∧Q (.bl (!c)) H1
theorem v0 {op} {t:TE} (h:PE X a t):PE X (.BoolOp op [a] pos) t:=fun pins s σ H Q I hw=>BoolOp_one (h pins s σ H Q I hw)
theorem yU (ha:PE X a ta) (hb:PE X (.BoolOp .And (b::rest) pos) tb):PE X (.BoolOp .And (a::b::rest) pos) (pD ta tb):=by
 intro pins s σ H Q I h
 refine BoolOp_and (jG (ha pins s σ H _ I h) fun v s1 ⟨x,H1,I1,r1,q1⟩=>?_)
 obtain ⟨c,rfl,q1⟩:=q1
 cases r1
 refine wpAny_truthy_bool ?_
 cases c with
 |true=>exact hb pins s1 σ H1 Q I1 q1
 |false=>exact ⟨.bl false,H1,I1,rfl,q1⟩
theorem eY (ha:PE X a ta) (hb:PE X (.BoolOp .Or (b::rest) pos) tb):PE X (.BoolOp .Or (a::b::rest) pos) (pV ta tb):=by
 intro pins s σ H Q I h
 refine BoolOp_or (jG (ha pins s σ H _ I h) fun v s1 ⟨x,H1,I1,r1,q1⟩=>?_)
 obtain ⟨c,rfl,q1⟩:=q1
 cases r1
 refine wpAny_truthy_bool ?_
 cases c with
 |false=>exact hb pins s1 σ H1 Q I1 q1
 |true=>exact ⟨.bl true,H1,I1,rfl,q1⟩
theorem n6 (ha:PE X a ta):PE X (.UnaryOp .Not a pos) (o6 ta):=by
 intro pins s σ H Q I h
 refine UnaryOp_ (jG (ha pins s σ H _ I h) fun v s1 ⟨x,H1,I1,r1,q1⟩=>?_)
 obtain ⟨c,rfl,q1⟩:=q1
 cases r1
 exact not_of (wpAny_truthy_bool ⟨.bl (!c),H1,I1,rfl,q1⟩)
end
end L2
namespace L2
open PySem PySem.Spec PyProof.Rows
def SqL (K:PySem.W.Frag) (H:Hp) (a:Addr) (xs:List V):Prop :=
 Rd H a (.lst xs)∨
  ∃(o:Obj) (its:Array Value) (n:Nat),K.lookup a=some o∧o.cls=.type "list"∧o.dict=none∧o.data=.seq its n∧its.size≤sizeLine∧Vals xs its.toList
def SqT (K:PySem.W.Frag) (H:Hp) (a:Addr) (xs:List V):Prop :=
 Rd H a (.tup xs)∨
  ∃(o:Obj) (its:Array Value) (n:Nat),K.lookup a=some o∧o.cls=.type "tuple"∧o.data=.seq its n∧its.size≤sizeLine∧Vals xs its.toList
def rS:Value→Option V
 |.none=>some .non
 |.bool b=>some (.bl b)
 |.int i _=>some (.int i)
 |.str x _=>some (.str x)
 |.bytes b _=>some (.byt b)
 |.float b _=>some (.flt b)
 |.ref a=>some (.ref a)
 |.type n=>some (.ty n)
 |_=>none
theorem RelV.abs {x:V} {u:Value} (r:RelV x u):rS u=some x:=by
 cases x with
 |non=>cases r;rfl
 |bl _=>cases r;rfl
 |int _=>obtain ⟨t,rfl⟩:=r;rfl
 |str _=>obtain ⟨t,rfl⟩:=r;rfl
 |byt _=>obtain ⟨t,rfl⟩:=r;rfl
 |flt _=>obtain ⟨t,rfl⟩:=r;rfl
 |ref _=>cases r;rfl
 |ty _=>cases r;rfl
theorem RelV.inj {x y:V} {u:Value} (r:RelV x u) (q:RelV y u):x=y:=Option.some.inj (r.abs.symm.trans q.abs)
theorem Vals.inj:∀{xs ys:List V} {us:List Value},Vals xs us→Vals ys us→xs=ys
 |_,_,_,.nil,.nil=>rfl
 |_,_,_,.cons r t,.cons r' t'=>by rw [r.inj r',Vals.inj t t']
section
variable {X:Cx} {pins:List (Addr×Obj)} {σ:St} {H:Hp} {s:Shared} {a:Addr} {xs ys:List V}
theorem SqL.of {K:PySem.W.Frag} (h:H a=some (.lst xs)):SqL K H a xs:=.inl (.inl h)
theorem SqT.of {K:PySem.W.Frag} (h:H a=some (.tup xs)):SqT K H a xs:=.inl (.inl h)
theorem Inv.list (I:Inv X pins σ H s) (h:SqL X.K H a xs):∃its:List Value,Vals xs its∧PlainL s.heap a its.toArray∧xs.length≤sizeLine:=by
 rcases h with h|⟨o,its,n,hk,hc,hd,hs,hz,r⟩
 ·obtain ⟨z,its,n,r,e⟩:=h.ok I.hok
  exact ⟨its,r,⟨_,n,e,rfl,rfl,rfl⟩,z⟩
 ·refine ⟨its.toList,r,⟨o,n,I.kIn a o hk,hc,hd,by simpa using hs⟩,?_⟩
  have e:=r.length
  simp only [Array.length_toList] at e
  omega
theorem Inv.tuple (I:Inv X pins σ H s) (h:SqT X.K H a xs):∃its:List Value,Vals xs its∧IsTup s.heap a its.toArray∧xs.length≤sizeLine:=by
 rcases h with h|⟨o,its,n,hk,hc,hs,hz,r⟩
 ·obtain ⟨z,its,r,p⟩:=h.ok I.hok
  exact ⟨its,r,p,z⟩
 ·refine ⟨its.toList,r,⟨o,I.kIn a o hk,hc,n,by simpa using hs⟩,?_⟩
  have e:=r.length
  simp only [Array.length_toList] at e
  omega
theorem Inv.list_inj (I:Inv X pins σ H s) (h:SqL X.K H a xs) (h':SqL X.K H a ys):xs=ys:=by
 obtain ⟨its,r,⟨o,n,e,_,_,d⟩,_⟩:=I.list h
 obtain ⟨its',r',⟨o',n',e',_,_,d'⟩,_⟩:=I.list h'
 rw [e] at e';cases e'
 rw [d] at d'
 injection d' with d1 _
 have:its=its':=by simpa using congrArg Array.toList d1
 subst this
 exact r.inj r'
end
abbrev Cx.wish (X:Cx) (E:Value→Shared→Prop):Cx:={X with xe:=E}
abbrev Cx.nox (X:Cx):Cx:=X.wish fun _ _=>False
theorem Cx.Ok.wish {X:Cx} (ok:X.Ok) (E:Value→Shared→Prop):(X.wish E).Ok :=
 ⟨ok.mod,ok.kind,ok.glob,ok.blt,ok.above,ok.inj,ok.has,ok.cab,ok.hd,ok.frames,ok.stk,ok.exf,ok.bs,ok.bsz,ok.noex,ok.exfs,ok.funs,ok.frf⟩
theorem Cx.Ok.unwish {X:Cx} {E:Value→Shared→Prop} (ok:(X.wish E).Ok):X.Ok :=
 ⟨ok.mod,ok.kind,ok.glob,ok.blt,ok.above,ok.inj,ok.has,ok.cab,ok.hd,ok.frames,ok.stk,ok.exf,ok.bs,ok.bsz,ok.noex,ok.exfs,ok.funs,ok.frf⟩
section
variable {X:Cx} {pins:List (Addr×Obj)} {σ:St} {H:Hp} {s:Shared} {E:Value→Shared→Prop}
theorem Inv.wish (I:Inv X pins σ H s) (E:Value→Shared→Prop):Inv (X.wish E) pins σ H s:=⟨I.ok.wish E,I.os,I.bare,I.base,I.loc,I.cell,I.free,I.freeC,I.pin,I.hok,I.len⟩
theorem Inv.unwish (I:Inv (X.wish E) pins σ H s):Inv X pins σ H s:=⟨I.ok.unwish,I.os,I.bare,I.base,I.loc,I.cell,I.free,I.freeC,I.pin,I.hok,I.len⟩
theorem SP.unwish {D:Ends} {f:Flow} {s':Shared} (h:SP (X.wish E) pins D f s'):SP X pins D f s':=by
 cases f with
 |next=>obtain ⟨σ',H',I,q⟩:=h;exact ⟨σ',H',I.unwish,q⟩
 |brk=>obtain ⟨σ',H',I,q⟩:=h;exact ⟨σ',H',I.unwish,q⟩
 |cont=>obtain ⟨σ',H',I,q⟩:=h;exact ⟨σ',H',I.unwish,q⟩
 |ret u=>obtain ⟨v,σ',H',I,r,q⟩:=h;exact ⟨v,σ',H',I.unwish,r,q⟩
theorem PE.nox {e:Expr} {t:TE} (h:PE X.nox e t):PE X e t:=fun pins s σ H Q I hw =>
 wpAny_mono (h pins s σ H Q (I.wish _) hw) (fun _ _ ⟨v,H',I',r,q⟩=>⟨v,H',I'.unwish,r,q⟩) fun _ _ z=>False.elim z
theorem PT.nox {e:Expr} {t:TT} (h:PT X.nox e t):PT X e t:=fun pins s σ H Q I hw =>
 wpAny_mono (h pins s σ H Q (I.wish _) hw) (fun _ _ ⟨H',I',q⟩=>⟨H',I'.unwish,q⟩) fun _ _ z=>False.elim z
theorem PSs.nox {st:List Stmt} {t:TS} (h:PSs X.nox st t):PSs X st t:=fun pins s σ H D I hw =>
 wpAny_mono (h pins s σ H D (I.wish _) hw) (fun _ _ q=>q.unwish) fun _ _ z=>False.elim z
end
section
variable {X:Cx} {st:Stmt} {rest:List Stmt} {t u:TS} {e:Expr} {te:TE} {pos:Pos}
def o7:TS:=fun D σ H=>D.nx σ H
def pT (t u:TS):TS:=fun D σ H=>t {D with nx:=u D} σ H
theorem kC:PSs X [] o7:=fun _ _ σ H _ I h=>wpAny_execs_nil ⟨σ,H,I,h⟩
theorem jJ (h1:PS X st t) (h2:PSs X rest u):PSs X (st::rest) (pT t u):=by
 intro pins s σ H D I h
 refine wpAny_execs_cons (jG (h1 pins s σ H {D with nx:=u D} I h) fun f s1 q=>?_)
 cases f with
 |next =>
  obtain ⟨σ',H',I',q⟩:=q
  exact h2 pins s1 σ' H' D I' q
 |ret v=>exact q
 |brk=>exact q
 |cont=>exact q
theorem jK (h1:PS X st t):PSs X [st] t:=by
 intro pins s σ H D I h
 refine wpAny_execs_cons (jG (h1 pins s σ H D I h) fun f s1 q=>?_)
 cases f with
 |next=>exact wpAny_execs_nil q
 |ret v=>exact q
 |brk=>exact q
 |cont=>exact q
theorem Inv.quiet {pins:List (Addr×Obj)} {σ:St} {H:Hp} {s:Shared} (I:Inv X pins σ H s):interactive X.env=false:=by simp [interactive,I.ok.kind]
def o9 (te:TE):TS:=fun D σ H=>te σ H fun _ H1=>D.nx σ H1
theorem vQ (he:PE X e te) (hs:swapsWith e none pos.line X.env=pure false:=by rfl):PS X (.Expr e pos) (o9 te):=by
 intro pins s σ H D I h
 exact wpAny_Expr_any (jG (he pins s σ H _ I h) fun v s1 ⟨x,H1,I1,r1,q1⟩=>⟨σ,H1,I1,q1⟩) I.quiet hs
def pU (te:TE):TS:=fun D σ H=>te σ H D.rt
theorem jR (he:PE X e te):PS X (.Return (some e) pos) (pU te):=by
 intro pins s σ H D I h
 exact wpAny_Return_some (jG (he pins s σ H _ I h) fun v s1 ⟨x,H1,I1,r1,q1⟩=>⟨x,σ,H1,I1,r1,q1⟩)
def pZ (c:TT) (t u:TS):TS:=fun D σ H=>c σ H fun b H1=>if b=true then t D σ H1 else u D σ H1
theorem kD {c:Expr} {a b:List Stmt} {tc:TT} (hc:PT X c tc) (ha:PSs X a t) (hb:PSs X b u):PS X (.If c a b pos) (pZ tc t u):=by
 intro pins s σ H D I h
 refine wpAny_If (jG (hc pins s σ H _ I h) fun d s1 ⟨H1,I1,q1⟩=>?_)
 cases d with
 |true=>exact ha pins s1 σ H1 D I1 q1
 |false=>exact hb pins s1 σ H1 D I1 q1
end
abbrev TG:=V→St→Hp→(St→Hp→Prop)→Prop
abbrev y0:=List V→St→Hp→(St→Hp→Prop)→Prop
def PG (X:Cx) (target:Expr) (t:TG):Prop :=
 ∀(pins:List (Addr×Obj)) (s:Shared) (σ:St) (H:Hp) (v:V) (u:Value) (Q:St→Hp→Prop),Inv X pins σ H s→RelV v u→t v σ H Q→
  wpAny (model X.prog X.w) X.A (assign target X.env u) (fun _ s'=>∃σ' H',Inv X pins σ' H' s'∧Q σ' H') X.xe s
def QU (X:Cx) (ts:List Expr) (t:y0):Prop :=
 ∀(pins:List (Addr×Obj)) (s:Shared) (σ:St) (H:Hp) (vs:List V) (us:List Value) (Q:St→Hp→Prop),Inv X pins σ H s→Vals vs us→t vs σ H Q→
  wpAny (model X.prog X.w) X.A (assignInOrder ((assignEach ts X.env).map (·.2)) us) (fun _ s'=>∃σ' H',Inv X pins σ' H' s'∧Q σ' H') X.xe s
section
variable {X:Cx} {pos:Pos}
def QL (i:Nat):TG:=fun v σ H Q=>Q (σ.set i (some v)) H
theorem kU {i:Nat} {x:Str} (hN:X.N.Nodup) (hi:X.N[i]?=some x) (hx:z8 X.env.scope x) (hf:X.fn x=true∨X.env.scope.names.lookup x=some .local:=by first|exact .inl rfl|exact .inr rfl|assumption):PG X (.Name x pos) (QL i):=by
 intro pins s σ H v u Q I r h
 exact wpAny_assign_Name (ZB I hN hi hx r (fun s' I'=>⟨_,H,I',h⟩) hf)
def rQ:y0:=fun vs σ H Q=>vs=[]∧Q σ H
def pR (t:TG) (u:y0):y0:=fun vs σ H Q=>∃v r,vs=v::r∧t v σ H fun σ' H'=>u r σ' H' Q
theorem m6:QU X [] rQ:=by
 intro pins s σ H vs us Q I r h
 obtain ⟨e,h⟩:=h
 subst e
 cases r
 exact assignInOrder_nil ⟨σ,H,I,h⟩
theorem cR {e:Expr} {es:List Expr} {t:TG} {u:y0} (h1:PG X e t) (h2:QU X es u)
  (hs:(assignEach (e::es) X.env).map (·.2)=assign e X.env::(assignEach es X.env).map (·.2):=by rfl):QU X (e::es) (pR t u):=by
 intro pins s σ H vs us Q I r h
 obtain ⟨v,vr,e1,h⟩:=h
 subst e1
 cases r with
 |cons r rr =>
  rw [hs]
  refine assignInOrder_cons (jG (h1 pins s σ H _ _ _ I r h) fun _ s1 ⟨σ1,H1,I1,q1⟩=>?_)
  exact h2 pins s1 σ1 H1 _ _ Q I1 rr q1
def rP (K:PySem.W.Frag) (n:Nat) (t:y0):TG:=fun v σ H Q=>∃a xs,v=.ref a∧SqT K H a xs∧xs.length=n∧t xs σ H Q
theorem n5 {es:List Expr} {k:Nat} {t:y0} {n:Nat} (hc:X.calm=true) (h:QU X es t)
  (hn:(assignEach es X.env).length=n:=by rfl) (hst:(assignEach es X.env).findIdx? (·.1)=none:=by rfl):PG X (.Tuple es k pos) (rP X.K n t):=by
 intro pins s σ H v u Q I r hw
 obtain ⟨a,xs,e1,hq,hl,hw⟩:=hw
 subst e1
 cases r
 obtain ⟨its,rv,ht,hz⟩:=I.tuple hq
 refine assign_Tuple_tuple (I.ok.hd hc) ht (by simp [hn,← hl,rv.length]) hst fun h' hx=>?_
 have I1:Inv X pins σ H {s with heap:=h'}:=I.kept (t':=s.toks) fun b o e=>hx b o (Nat.ne_of_lt (Heap.lt_size e)) e
 exact h pins _ σ H xs _ Q I1 (by simpa using rv) hw
def rB (te:TE) (g:TG):TS:=fun D σ H=>te σ H fun x H1=>g x σ H1 D.nx
theorem j3 {i:Nat} {x:Str} {e:Expr} {te:TE} {pos':Pos} (hN:X.N.Nodup) (hi:X.N[i]?=some x) (hx:z8 X.env.scope x) (he:PE X e te) (hs:swapsWith e (some (.Name x pos')) pos.line X.env=pure false:=by rfl) (hf:X.fn x=true∨X.env.scope.names.lookup x=some .local:=by first|exact .inl rfl|exact .inr rfl|assumption) :
  PS X (.Assign [.Name x pos'] e pos) (rB te (QL i)):=by
 intro pins s σ H D I h
 refine wpAny_Assign_Name (jG (he pins s σ H _ I h) fun v s1 ⟨y,H1,I1,r1,q1⟩=>?_) hs
 exact ZB I1 hN hi hx r1 (fun s2 I2=>⟨_,H1,I2,q1⟩) hf
end
section
variable {X:Cx} {pos:Pos}
def nT (c:TT) (tb:TS):TS:=fun D σ H=>∃W:Nat→St→Hp→Prop,(∃m,W m σ H)∧∀m σ H,W m σ H→
 c σ H fun b H1=>if b=true then ∃N:St→Hp→Prop,(∀σ' H',N σ' H'→∃m',m'<m∧W m' σ' H')∧tb {D with nx:=N,ct:=N,bk:=D.nx} σ H1 else D.nx σ H1
theorem cQ {c:Expr} {body:List Stmt} {tc:TT} {tb:TS} (hp:PassesOwn (model X.prog X.w) X.A X.env X.xe) (hc:PT X c tc) (hb:PSs X body tb):PS X (.While c body [] pos) (nT tc tb):=by
 intro pins s σ H D I h
 obtain ⟨W,⟨m0,w0⟩,turn⟩:=h
 refine wpAny_While (codeAny_whileLoop (fun n s'=>∃σ' H',Inv X pins σ' H' s'∧W n σ' H') ?_ m0 ⟨σ,H,I,w0⟩)
 rintro n s1 ⟨σ1,H1,I1,w1⟩
 refine wpAny_passesOwn hp (jG (hc pins s1 σ1 H1 _ I1 (turn n σ1 H1 w1)) fun b s2 ⟨H2,I2,q2⟩=>?_)
 cases b with
 |true =>
  obtain ⟨N,hN,q2⟩:=q2
  rw [if_pos rfl]
  refine wpAny_passesOwn hp (jG (hb pins s2 σ1 H2 _ I2 q2) fun f s3 q3=>?_)
  cases f with
  |next =>
   obtain ⟨σ3,H3,I3,n3⟩:=q3
   obtain ⟨m',hm,w3⟩:=hN σ3 H3 n3
   exact ⟨m',hm,σ3,H3,I3,w3⟩
  |cont =>
   obtain ⟨σ3,H3,I3,n3⟩:=q3
   obtain ⟨m',hm,w3⟩:=hN σ3 H3 n3
   exact ⟨m',hm,σ3,H3,I3,w3⟩
  |brk=>exact q3
  |ret v=>exact q3
 |false =>
  rw [if_neg Bool.false_ne_true]
  exact wpAny_execs_nil ⟨σ1,H2,I2,q2⟩
end
structure It where
 go:Nat→Hp→Prop
 yld:Nat→Hp→V→Hp→Prop
 stop:Nat→Hp→Prop
def vN (X:Cx) (pins:List (Addr×Obj)) (H:Hp) (b:Addr):Prop :=
 H b=none∧b≠X.env.locals∧b∉X.fs∧(b∈X.ex∨X.s₀.heap.objs.size≤b)∧(∀x c,X.env.cells.lookup x=some c→c≠b)∧∀p∈X.pn++pins,p.1≠b
theorem Inv.fpOk {X:Cx} {pins:List (Addr×Obj)} {σ:St} {H H':Hp} {s:Shared} {b:Addr} (I:Inv X pins σ H s) (hb:s.heap.objs.size≤b) (hn:H' b=none):vN X pins H' b:=by
 refine ⟨hn,Nat.ne_of_gt (Nat.lt_of_lt_of_le I.lt hb),I.nofs hb,.inr (Nat.le_trans I.sz hb),fun x c e z=>?_,fun p hp z=>?_⟩
 ·obtain ⟨v,q⟩:=I.cell x c e
  exact absurd (Nat.lt_of_lt_of_le q.lt (by rw [z];exact hb)) (Nat.lt_irrefl _)
 ·exact absurd (Nat.lt_of_lt_of_le (Heap.lt_size (I.pin p hp).1) (by rw [z];exact hb)) (Nat.lt_irrefl _)
structure Turn (P:Program) (w:World) (K:PySem.W.Frag) (tg:Expr) (J:It) (fp:List Addr) (it:Addr) (tn:Nat→Heap→Prop):Prop where
 mem:it∈fp
 obj:∀i h,tn i h→∀b∈fp,∃o,h.get? b=some o∧∀v,o.data≠.cell v
 keep:∀i h h',tn i h→(∀b∈fp,∀o,h.get? b=some o→h'.get? b=some o)→tn i h'
 item:∀(X:Cx),X.prog=P→X.w=w→X.K=K→X.calm=true→∀(i:Nat) (pins:List (Addr×Obj)) (s:Shared) (σ:St) (H:Hp) (E:Value→Shared→Prop),Inv X pins σ H s→(∀b∈fp,vN X pins H b)→tn i s.heap→J.go i H→
  wpAny (model P w) X.A (pyNext (.ref it)) (fun r s1=>∃u,r=some u∧
   wpAny (model P w) X.A (letOwnedTupleGo tg (.ref it) u) (fun _ s2=>∃x H',Inv X pins σ H' s2∧RelV x u∧J.yld i H x H'∧tn (i+1) s2.heap∧∀b∈fp,H' b=none) E s1) E s
 done:∀(X:Cx),X.prog=P→X.w=w→X.K=K→X.calm=true→∀(i:Nat) (pins:List (Addr×Obj)) (s:Shared) (σ:St) (H:Hp) (E:Value→Shared→Prop),Inv X pins σ H s→(∀b∈fp,vN X pins H b)→tn i s.heap→J.stop i H→
  wpAny (model P w) X.A (pyNext (.ref it)) (fun r s1=>r=none∧Inv X pins σ H s1) E s
 self:∀(A:Around) (i:Nat) (s:Shared) (Q:Value→Shared→Prop) (E:Value→Shared→Prop),tn i s.heap→Q (.ref it) s→wpAny (model P w) A (pyIter (.ref it)) Q E s
abbrev TI:=St→Hp→(It→Hp→Prop)→Prop
def fQ (X:Cx) (pins:List (Addr×Obj)) (σ:St) (tg:Expr) (R:It→Hp→Prop) (itv:Value) (s2:Shared):Prop :=
 ∃(it:Addr) (fp:List Addr) (tn:Nat→Heap→Prop) (J:It) (H':Hp),itv=.ref it∧Inv X pins σ H' s2∧Turn X.prog X.w X.K tg J fp it tn∧tn 0 s2.heap∧(∀b∈fp,vN X pins H' b)∧R J H'
def PI (X:Cx) (tg iter:Expr) (wi:TI):Prop :=
 ∀(pins:List (Addr×Obj)) (s:Shared) (σ:St) (H:Hp) (R:It→Hp→Prop),Inv X pins σ H s→wi σ H R→
  wpAny (model X.prog X.w) X.A (eval iter X.env) (fun v s1=>wpAny (model X.prog X.w) X.A (pyIter v) (fQ X pins σ tg R) X.xe s1) X.xe s
theorem ZT {M:Model} {A:Around} {E:Value→Shared→Prop} {s:Shared} {tg:Expr} {it:Addr} {u:Value} {o:Obj} {n:String} {vs:Array Value} {Q:Unit→Shared→Prop} (ho:s.heap.get? it=some o) (hc:o.cls=.type n) (hd:o.data=.fields vs)
    (hn:["enumerate","zip","dict_itemiterator","dict_reverseitemiterator","odict_iterator","itertools.zip_longest","itertools.pairwise"].contains n=false) (hQ:Q () s):wpAny M A (letOwnedTupleGo tg (.ref it) u) Q E s:=by
  unfold letOwnedTupleGo
  cases tg<;>first
    |exact wpAny_pure hQ
    | (cases u<;>first
        |exact wpAny_pure hQ
        | (refine wpAny_bind (wpAny_load ho ?_)
           rw [hc,hd]
           show wpAny M A (if (["enumerate","zip","dict_itemiterator","dict_reverseitemiterator","odict_iterator","itertools.zip_longest","itertools.pairwise"].contains n&&vs[0]? == some (rawInt _))=true then _ else _) Q E s
           rw [if_neg (by intro h;rw [hn,Bool.false_and] at h;cases h)]
           exact wpAny_pure hQ))
def y6 (K:PySem.W.Frag) (a:Addr):It :=
 ⟨fun i H=>∃xs x,SqL K H a xs∧xs[i]?=some x,fun i H x H'=>H'=H∧∀xs,SqL K H a xs→xs[i]?=some x,fun i H=>∃xs,SqL K H a xs∧xs.length≤i⟩
def z9 (lo:Int) (n:Nat):It:=⟨fun i _=>i<n,fun i H x H'=>H'=H∧x=.int (lo+i),fun i _=>n≤i⟩
theorem iY {P:Program} {w:World} {K:PySem.W.Frag} {tg:Expr} (a it:Addr):Turn P w K tg (y6 K a) [it] it (fun i h=>h.IsListIter it a i) where
 mem:=by simp
 obj:=fun i h st b hb=>by
  have e:b=it:=by simpa using hb
  subst e
  obtain ⟨o,e,c,d⟩:=st
  exact ⟨o,e,fun v z=>by rw [d] at z;cases z⟩
 keep:=fun i h h' st k=>st.at fun o e=>k it (by simp) o e
 item:=by
  intro X hP hw hK hc i pins s σ H E I hf st hg
  subst hP hw hK
  obtain ⟨xs,x,hq,hx⟩:=hg
  obtain ⟨its,rv,p,hz⟩:=I.list hq
  obtain ⟨u,hu,ru⟩:=rv.get hx
  obtain ⟨f0,f1,f2,f3,f4,f5⟩:=hf it (by simp)
  refine wpAny_pyNext_list_item st p.isList (x:=u) (by simpa using hu) fun h' st' sb=>?_
  have I1:Inv X pins σ H {s with heap:=h'}:=I.turned (t':=s.toks) (fun b o hb e=>(sb.2 b hb).trans e) f0 f1 f3 f4 f5
  obtain ⟨o,e,c,d⟩:=id st'
  exact ⟨u,rfl,ZT (s:={s with heap:=h'}) e c d (by decide) ⟨x,H,I1,ru,⟨rfl,fun ys hy=>by rw [I.list_inj hy hq];exact hx⟩,st',fun b hb=>(hf b hb).1⟩⟩
 done:=by
  intro X hP hw hK hc i pins s σ H E I hf st hg
  subst hP hw hK
  obtain ⟨xs,hq,hx⟩:=hg
  obtain ⟨its,rv,p,hz⟩:=I.list hq
  obtain ⟨f0,f1,f2,f3,f4,f5⟩:=hf it (by simp)
  have hl:=rv.length
  exact wpAny_pyNext_list_end (I.ok.hd hc) st p.isList (by simp;omega) fun h' eb=>⟨rfl,I.turned (t':=s.toks) (fun b o hb e=>eb b o hb e) f0 f1 f3 f4 f5⟩
 self:=fun _ _ _ _ _ st h=>wpAny_pyIter_listiter st h
theorem iL {P:Program} {w:World} {K:PySem.W.Frag} {tg:Expr} (it:Addr) (lo:Int) (n:Nat):Turn P w K tg (z9 lo n) [it] it (fun i h=>IsRangeIter h it (lo+(i:Nat)*1) ((n:Int) - (i:Nat)) 1) where
 mem:=by simp
 obj:=fun i h st b hb=>by
  have e:b=it:=by simpa using hb
  subst e
  exact ⟨_,st,fun v z=>by
   have z':Data.fields _=Data.cell v:=z
   cases z'⟩
 keep:=fun i h h' st k=>k it (by simp) _ st
 item:=by
  intro X hP hw hK hc i pins s σ H E I hf st hg
  subst hP hw hK
  obtain ⟨f0,f1,f2,f3,f4,f5⟩:=hf it (by simp)
  have W:=Walks.range (prog:=X.prog) (w:=X.w) (I.ok.hd hc) it lo 1 n
  refine W.item i s _ _ hg st fun v h' tk hv st' kk=>?_
  obtain ⟨t,rfl⟩:=hv
  have I1:Inv X pins σ H {s with heap:=h',toks:=tk}:=I.turned (fun b o hb e=>kk b o (by simpa using hb) e) f0 f1 f3 f4 f5
  refine ⟨_,rfl,ZT (s:={s with heap:=h',toks:=tk}) (n:="range_iterator") st' rfl rfl (by decide) ⟨.int (lo+i),H,I1,⟨t,?_⟩,⟨rfl,rfl⟩,st',fun b hb=>(hf b hb).1⟩⟩
  rw [Int.mul_one]
 done:=by
  intro X hP hw hK hc i pins s σ H E I hf st hg
  subst hP hw hK
  obtain ⟨f0,f1,f2,f3,f4,f5⟩:=hf it (by simp)
  exact wpAny_pyNext_range_end (I.ok.hd hc) st (by have:n≤i:=hg;omega) fun h' eb=>⟨rfl,I.turned (t':=s.toks) (fun b o hb e=>eb b o hb e) f0 f1 f3 f4 f5⟩
 self:=fun _ _ _ _ _ st h=>wpAny_pyIter_rangeiter st h
end L2
namespace L2
open PySem PySem.Spec PyProof.Rows
section
variable {X:Cx} {tg:Expr}
def pP (K:PySem.W.Frag) (tl:TE):TI:=fun σ H R=>tl σ H fun x H1=>∃a,x=.ref a∧(∃xs,SqL K H1 a xs)∧R (y6 K a) H1
theorem vK {l:Expr} {tl:TE} (hl:PE X l tl):PI X tg l (pP X.K tl):=by
 intro pins s σ H R I h
 refine jG (hl pins s σ H _ I h) fun v s1 ⟨x,H1,I1,r1,q1⟩=>?_
 obtain ⟨a,e,⟨xs,hq⟩,q⟩:=q1
 subst e
 cases r1
 obtain ⟨its,rv,p,hz⟩:=I1.list hq
 refine wpAny_pyIter_list p.isList ?_
 refine ⟨s1.heap.objs.size,[s1.heap.objs.size],_,_,H1,rfl,I1.kept (t':=s1.toks) fun b o e=>Heap.get?_push_of_some _ e,iY a _,⟨_,Heap.get?_push_size _ rfl,rfl,rfl⟩,fun b hb=>?_,q⟩
 have e:b=s1.heap.objs.size:=by simpa using hb
 subst e
 exact I1.fpOk (Nat.le_refl _) (I1.hok.fresh (Nat.le_refl _))
theorem lR {pins:List (Addr×Obj)} {σ:St} {H:Hp} {s:Shared} {R:It→Hp→Prop} {E:Value→Shared→Prop} {lo hi:Int} {t u v:Tok} {tk:Nat} (I:Inv X pins σ H s) (h1 : -(2 ^ 62)≤lo) (h2:lo<2 ^ 62) (h3 : -(2 ^ 62)≤hi) (h4:hi<2 ^ 62)
    (q:R (z9 lo (hi - lo).toNat) H):wpAny (model X.prog X.w) X.A (pyIter (.ref s.heap.objs.size)) (fQ X pins σ tg R) E {s with heap:=s.heap.push {cls:=.type "range",data:=.fields #[.int lo t,.int hi u,.int 1 v]},toks:=tk}:=by
  refine wpAny_pyIter_range (IsRange.new ..) (small_one h1 h2 h3 h4) ?_
  have I1:Inv X pins σ H {s with heap:=s.heap.push {cls:=.type "range",data:=.fields #[.int lo t,.int hi u,.int 1 v]},toks:=tk}:=I.kept fun b o e=>Heap.get?_push_of_some _ e
  refine ⟨(s.heap.push {cls:=.type "range",data:=.fields #[.int lo t,.int hi u,.int 1 v]}).objs.size,[(s.heap.push {cls:=.type "range",data:=.fields #[.int lo t,.int hi u,.int 1 v]}).objs.size],_,_,H,rfl,
    I1.kept (t':=tk) fun b o e=>Heap.get?_push_of_some _ e,iL _ lo (hi - lo).toNat,?_,fun b hb=>?_,q⟩
  · have e1:lo+((0:Nat):Int)*1=lo:=by simp
    have e2:(((hi - lo).toNat:Nat):Int) - ((0:Nat):Int)=Builtin.Range.rangeSize lo hi 1:=by rw [rangeSize_one];split<;>omega
    show IsRangeIter _ _ (lo+((0:Nat):Int)*1) ((((hi - lo).toNat:Nat):Int) - ((0:Nat):Int)) 1
    rw [e1,e2]
    exact Heap.get?_push_size _ rfl
  · have e:b=(s.heap.push {cls:=.type "range",data:=.fields #[.int lo t,.int hi u,.int 1 v]}).objs.size:=by simpa using hb
    subst e
    exact I1.fpOk (Nat.le_refl _) (I1.hok.fresh (Nat.le_refl _))
def pO (ta:TA):TI:=fun σ H R=>ta σ H fun vs H1=>∃j:Int,vs=[.int j]∧-(2 ^ 62)≤j∧j<2 ^ 62∧R (z9 0 j.toNat) H1
theorem JH {a:Expr} {ta:TA} {p pos:Pos} (hg:Gl X "range") (hm:X.mg "range"=none) (ha:PA X [a] ta) (hs:starEach [a] X.env=[(false,eval a X.env)]:=by rfl):PI X tg (.Call (.Name "range" p) [a] [] pos) (pO ta):=by
 intro pins s σ H R I h
 refine Call_ (zZ I hg hm boot_range (PyProof.Rows.callWith_type1 (jG (ha pos pins s σ H _ I h) fun us s1 ⟨vs,H1,I1,r1,q1⟩=>?_) hs rfl))
 obtain ⟨j,e,q1,q2,q⟩:=q1
 subst e
 cases r1 with
 |cons r rr =>
  cases rr
  obtain ⟨t,rfl⟩:=r
  exact call_range_1 (lR I1 (by omega) (by omega) q1 q2 (by simpa using q))
def p8 (wi:TI) (g:TG) (tb:TS):TS:=fun D σ H=>wi σ H fun J H1=>∃W:Nat→Nat→St→Hp→Prop,(∃m,W 0 m σ H1)∧∀i m σ H,W i m σ H→
 (J.stop i H∧D.nx σ H)∨(J.go i H∧∃N:St→Hp→Prop,(∀σ' H',N σ' H'→∃m',m'<m∧W (i+1) m' σ' H')∧∀x H',J.yld i H x H'→g x σ H' fun σ2 H2=>tb {D with nx:=N,ct:=N,bk:=D.nx} σ2 H2)
def JM (fp:List Addr) (h:Heap):List (Addr×Obj):=fp.filterMap fun b=>(h.get? b).map fun o=>(b,o)
theorem J3 {fp:List Addr} {h:Heap} {b:Addr} {o:Obj} (hb:b∈fp) (e:h.get? b=some o):(b,o)∈JM fp h:=List.mem_filterMap.mpr ⟨b,hb,by rw [e];rfl⟩
theorem i6 {fp:List Addr} {h:Heap} {p:Addr×Obj} (hp:p∈JM fp h):p.1∈fp∧h.get? p.1=some p.2:=by
 obtain ⟨b,hb,e⟩:=List.mem_filterMap.mp hp
 cases q:h.get? b with
 |none=>rw [q] at e;cases e
 |some o =>
  rw [q] at e
  have e':(b,o)=p:=Option.some.inj e
  subst e'
  exact ⟨hb,q⟩
theorem Inv.pinned {pins:List (Addr×Obj)} {σ:St} {H:Hp} {s:Shared} {fp:List Addr} (I:Inv X pins σ H s) (hf:∀b∈fp,vN X pins H b) (ho:∀b∈fp,∃o,s.heap.get? b=some o∧∀v,o.data≠.cell v):Inv X (pins++JM fp s.heap) σ H s :=
 I.pins_of fun p hp=>(List.mem_append.mp hp).elim (fun z=>I.pin p (List.mem_append_right _ z)) fun z=>by
  obtain ⟨hb,e⟩:=i6 z
  obtain ⟨f0,f1,f2,_⟩:=hf p.1 hb
  obtain ⟨o,e',d⟩:=ho p.1 hb
  rw [e] at e';cases e'
  exact ⟨e,f0,f1,f2,d⟩
theorem Inv.unpinned {pins pl:List (Addr×Obj)} {σ:St} {H:Hp} {s:Shared} (I:Inv X (pins++pl) σ H s):Inv X pins σ H s:=I.pins_of fun p hp=>I.pin p (List.mem_append_right _ (List.mem_append_left _ hp))
theorem vC {iter:Expr} {body:List Stmt} {wi:TI} {g:TG} {tb:TS} {pos:Pos} (hp:PassesOwn (model X.prog X.w) X.A X.env X.xe) (hc:X.calm=true) (hi:PI X tg iter wi) (hg:PG X tg g) (hb:PSs X body tb)
  (hs:∀x,foldedSetIterable iter X.env x=pure x:=by intro _;rfl):PS X (.For tg iter body [] pos) (p8 wi g tb):=by
 intro pins s σ H D I h
 refine wpAny_For (jG (hi pins s σ H _ I h) fun v s1 h1=>jG h1 fun itv s2 h2=>?_) hs
 obtain ⟨it,fp,tn,J,H2,e,I2,T,st2,f2,W,⟨m0,w0⟩,turn⟩:=h2
 subst e
 have stat:∀{H':Hp},(∀b∈fp,H' b=none)→∀b∈fp,vN X pins H' b:=fun hn b hb=>⟨hn b hb,(f2 b hb).2⟩
 refine codeAny_forLoop_any (fun n s'=>∃i σ' H',Inv X pins σ' H' s'∧tn i s'.heap∧(∀b∈fp,H' b=none)∧W i n σ' H') ?_ m0 ⟨0,σ,H2,I2,st2,fun b hb=>(f2 b hb).1,w0⟩
 rintro n s3 ⟨i,σ3,H3,I3,st3,fr3,w3⟩
 rcases turn i n σ3 H3 w3 with ⟨stop,qn⟩|⟨go,N,hN,step⟩
 ·refine wpAny_passesOwn hp (jG (T.done X rfl rfl rfl hc i pins s3 σ3 H3 X.xe I3 (stat fr3) st3 stop) fun r s4 ⟨hr,I4⟩=>?_)
  subst hr
  exact wpAny_execs_nil ⟨σ3,H3,I4,qn⟩
 ·refine wpAny_passesOwn hp (jG (T.item X rfl rfl rfl hc i pins s3 σ3 H3 X.xe I3 (stat fr3) st3 go) fun r s4 ⟨u,hr,h4⟩=>?_)
  subst hr
  refine wpAny_passesOwn hp (jG h4 fun _ s5 ⟨x,H5,I5,r5,y5,st5,fr5⟩=>?_)
  have I5':=I5.pinned (stat fr5) (T.obj _ _ st5)
  refine wpAny_passesOwn hp (jG (hg _ s5 σ3 H5 x u _ I5' r5 (step x H5 y5)) fun _ s6 ⟨σ6,H6,I6,q6⟩=>?_)
  refine wpAny_passesOwn hp (jG (hb _ s6 σ6 H6 _ I6 q6) fun f s7 q7=>?_)
  have again:∀{σ7:St} {H7:Hp},Inv X (pins++JM fp s5.heap) σ7 H7 s7→N σ7 H7→∃m,m<n∧∃i σ' H',Inv X pins σ' H' s7∧tn i s7.heap∧(∀b∈fp,H' b=none)∧W i m σ' H':=fun {σ7 H7} I7 n7=>by
   obtain ⟨m',hm,w7⟩:=hN σ7 H7 n7
   refine ⟨m',hm,i+1,σ7,H7,I7.unpinned,T.keep _ _ _ st5 fun b hb o e=>(I7.pin (b,o) (List.mem_append_right _ (List.mem_append_right _ (J3 hb e)))).1,fun b hb=>?_,w7⟩
   obtain ⟨o,e,d⟩:=T.obj _ _ st5 b hb
   exact (I7.pin (b,o) (List.mem_append_right _ (List.mem_append_right _ (J3 hb e)))).2.1
  cases f with
  |next=>obtain ⟨σ7,H7,I7,n7⟩:=q7;exact again I7 n7
  |cont=>obtain ⟨σ7,H7,I7,n7⟩:=q7;exact again I7 n7
  |brk=>obtain ⟨σ7,H7,I7,q7⟩:=q7;exact ⟨σ7,H7,I7.unpinned,q7⟩
  |ret v=>obtain ⟨x7,σ7,H7,I7,r7,q7⟩:=q7;exact ⟨x7,σ7,H7,I7.unpinned,r7,q7⟩
end
theorem yR {K:PySem.W.Frag} {a:Addr} {xs:List V} {g:TG} {tb:TS} {D:Ends} {σ:St} {H:Hp} (Pv:Nat→St→Hp→Prop) (h0:Pv 0 σ H) (hl:∀i σ H,i≤xs.length→Pv i σ H→SqL K H a xs)
    (hs:∀i x σ H,xs[i]?=some x→Pv i σ H→g x σ H fun σ2 H2=>tb {D with nx:=Pv (i+1),ct:=Pv (i+1),bk:=D.nx} σ2 H2) (hd:∀σ H,Pv xs.length σ H→D.nx σ H) :
    ∃W:Nat→Nat→St→Hp→Prop,(∃m,W 0 m σ H)∧∀i m σ H,W i m σ H→
      ((y6 K a).stop i H∧D.nx σ H)∨((y6 K a).go i H∧∃N:St→Hp→Prop,(∀σ' H',N σ' H'→∃m',m'<m∧W (i+1) m' σ' H')∧∀x H',(y6 K a).yld i H x H'→g x σ H' fun σ2 H2=>tb {D with nx:=N,ct:=N,bk:=D.nx} σ2 H2):=by
  refine ⟨fun i m σ H=>m=xs.length - i∧i≤xs.length∧Pv i σ H,⟨xs.length,by simp,Nat.zero_le _,h0⟩,?_⟩
  rintro i m σ H ⟨rfl,hi,p⟩
  have q:=hl i σ H hi p
  by_cases hlt:i<xs.length
  · refine .inr ⟨⟨xs,xs[i],q,by simp [hlt]⟩,Pv (i+1),fun σ' H' p'=>⟨xs.length - (i+1),by omega,rfl,hlt,p'⟩,fun x H' y=>?_⟩
    obtain ⟨e,y⟩:=y
    subst e
    exact hs i x σ _ (y xs q) p
  · have e:i=xs.length:=by omega
    subst e
    exact .inl ⟨⟨xs,q,Nat.le_refl _⟩,hd σ H p⟩
theorem zQ {lo:Int} {n:Nat} {g:TG} {tb:TS} {D:Ends} {σ:St} {H:Hp} (Pv:Nat→St→Hp→Prop) (h0:Pv 0 σ H)
  (hs:∀i σ H,i<n→Pv i σ H→g (.int (lo+i)) σ H fun σ2 H2=>tb {D with nx:=Pv (i+1),ct:=Pv (i+1),bk:=D.nx} σ2 H2) (hd:∀σ H,Pv n σ H→D.nx σ H) :
  ∃W:Nat→Nat→St→Hp→Prop,(∃m,W 0 m σ H)∧∀i m σ H,W i m σ H→
   ((z9 lo n).stop i H∧D.nx σ H)∨((z9 lo n).go i H∧∃N:St→Hp→Prop,(∀σ' H',N σ' H'→∃m',m'<m∧W (i+1) m' σ' H')∧∀x H',(z9 lo n).yld i H x H'→g x σ H' fun σ2 H2=>tb {D with nx:=N,ct:=N,bk:=D.nx} σ2 H2):=by
 refine ⟨fun i m σ H=>m=n - i∧i≤n∧Pv i σ H,⟨n,by simp,Nat.zero_le _,h0⟩,?_⟩
 rintro i m σ H ⟨rfl,hi,p⟩
 by_cases hlt:i<n
 ·refine .inr ⟨hlt,Pv (i+1),fun σ' H' p'=>⟨n - (i+1),by omega,rfl,hlt,p'⟩,fun x H' y=>?_⟩
  obtain ⟨e,y⟩:=y
  subst e y
  exact hs i σ _ hlt p
 ·have e:i=n:=by omega
  subst e
  exact .inl ⟨Nat.le_refl _,hd σ H p⟩
end L2
namespace L2
open PySem PySem.Spec PyProof.Rows
abbrev R2:=V→V→Hp→VK→Prop
def OpR (X:Cx) (f:Value→Value→Sem Value) (r:R2):Prop :=
 ∀(pins:List (Addr×Obj)) (s:Shared) (σ:St) (H:Hp) (x y:V) (v u:Value) (Q:VK),Inv X pins σ H s→RelV x v→RelV y u→r x y H Q→
  wpAny (model X.prog X.w) X.A (f v u) (EP X pins σ Q) X.xe s
def Z1 (X:Cx) (f:Value→Sem Value) (r:V→Hp→VK→Prop):Prop :=
 ∀(pins:List (Addr×Obj)) (s:Shared) (σ:St) (H:Hp) (x:V) (v:Value) (Q:VK),Inv X pins σ H s→RelV x v→r x H Q→
  wpAny (model X.prog X.w) X.A (f v) (EP X pins σ Q) X.xe s
def CallR (X:Cx) (f:Value) (r:List V→Hp→VK→Prop):Prop :=
 ∀(pins:List (Addr×Obj)) (s:Shared) (σ:St) (H:Hp) (xs:List V) (us:List Value) (Q:VK),Inv X pins σ H s→Vals xs us→r xs H Q→
  wpAny (model X.prog X.w) X.A (call f us) (EP X pins σ Q) X.xe s
def rV (X:Cx) (r:V→Hp→(Bool→Hp→Prop)→Prop):Prop :=
 ∀(pins:List (Addr×Obj)) (s:Shared) (σ:St) (H:Hp) (x:V) (v:Value) (Q:Bool→Hp→Prop),Inv X pins σ H s→RelV x v→r x H Q→
  wpAny (model X.prog X.w) X.A (truthy v) (TP X pins σ Q) X.xe s
def QS (r:R2) (ta tb:TE):TE:=fun σ H Q=>ta σ H fun x H1=>tb σ H1 fun y H2=>r x y H2 Q
def r0 (r:V→Hp→VK→Prop) (ta:TE):TE:=fun σ H Q=>ta σ H fun x H1=>r x H1 Q
def rI (C:Int→Int→Prop) (g:Int→Int→V):R2:=fun x y H Q=>∃i j,x=.int i∧y=.int j∧C i j∧Q (g i j) H
def yK (g:Int→Int→V):R2:=fun x y H Q=>∃i j,x=.int i∧y=.int j∧Q (g i j) H
def rU (g:Int→V):V→Hp→VK→Prop:=fun x H Q=>∃i,x=.int i∧Q (g i) H
section
variable {X:Cx} {a b c:Expr} {ta tb tc:TE} {pos:Pos}
theorem ZV (ha:PE X a ta) (hb:PE X b tb) {pins:List (Addr×Obj)} {s:Shared} {σ:St} {H:Hp} {R:V→V→Hp→Prop} (I:Inv X pins σ H s)
  (h:ta σ H fun x H1=>tb σ H1 fun y H2=>R x y H2) {Q:Value→Shared→Prop} {f:Value→Value→Sem Value}
  (hf:∀v u s2 x y H2,Inv X pins σ H2 s2→RelV x v→RelV y u→R x y H2→wpAny (model X.prog X.w) X.A (f v u) Q X.xe s2) :
  wpAny (model X.prog X.w) X.A (eval a X.env) (fun v s₁=>wpAny (model X.prog X.w) X.A (eval b X.env) (fun u s₂=>wpAny (model X.prog X.w) X.A (f v u) Q X.xe s₂) X.xe s₁) X.xe s:=by
 refine jG (ha pins s σ H _ I h) fun v s1 ⟨x,H1,I1,r1,q1⟩=>?_
 refine jG (hb pins s1 σ H1 _ I1 q1) fun u s2 ⟨y,H2,I2,r2,q2⟩=>?_
 exact hf v u s2 x y H2 I2 r1 r2 q2
theorem jP {op:Operator} {r:R2} (ho:OpR X (binaryOp op) r) (ha:PE X a ta) (hb:PE X b tb):PE X (.BinOp a op b pos) (QS r ta tb):=by
 intro pins s σ H Q I h
 exact wpAny_BinOp (ZV ha hb I h fun v u s2 x y H2 I2 rx ry q=>ho pins s2 σ H2 x y v u Q I2 rx ry q)
theorem ZR {op:UnaryOp} {r:V→Hp→VK→Prop} (ho:Z1 X (unaryOp op) r) (ha:PE X a ta):PE X (.UnaryOp op a pos) (r0 r ta):=by
 intro pins s σ H Q I h
 exact UnaryOp_ (jG (ha pins s σ H _ I h) fun v s1 ⟨x,H1,I1,r1,q1⟩=>ho pins s1 σ H1 x v Q I1 r1 q1)
theorem QT {f:Value→Value→Sem Value} {C:Int→Int→Prop} {g:Int→Int→Int}
  (rule:∀(i j:Int) (t u:Tok) (s:Shared) (Q:Value→Shared→Prop) (E:Value→Shared→Prop),C i j→Q (.int (g i j) s.toks) {s with toks:=s.toks+1}→wpAny (model X.prog X.w) X.A (f (.int i t) (.int j u)) Q E s) :
  OpR X f (rI C fun i j=>.int (g i j)):=by
 intro pins s σ H x y v u Q I rx ry h
 obtain ⟨i,j,rfl,rfl,hc,q⟩:=h
 obtain ⟨t,rfl⟩:=rx
 obtain ⟨t',rfl⟩:=ry
 exact rule i j t t' s _ _ hc ⟨.int (g i j),H,I.tok _,⟨_,rfl⟩,q⟩
theorem fL {f:Value→Value→Sem Value} {g:Int→Int→Int}
  (rule:∀(i j:Int) (t u:Tok) (s:Shared) (Q:Value→Shared→Prop) (E:Value→Shared→Prop),Q (.int (g i j) s.toks) {s with toks:=s.toks+1}→wpAny (model X.prog X.w) X.A (f (.int i t) (.int j u)) Q E s) :
  OpR X f (yK fun i j=>.int (g i j)):=by
 intro pins s σ H x y v u Q I rx ry h
 obtain ⟨i,j,rfl,rfl,q⟩:=h
 obtain ⟨t,rfl⟩:=rx
 obtain ⟨t',rfl⟩:=ry
 exact rule i j t t' s _ _ ⟨.int (g i j),H,I.tok _,⟨_,rfl⟩,q⟩
theorem QP {f:Value→Value→Sem Value} {g:Int→Int→Bool}
  (rule:∀(i j:Int) (t u:Tok) (s:Shared) (Q:Value→Shared→Prop) (E:Value→Shared→Prop),Q (.bool (g i j)) s→wpAny (model X.prog X.w) X.A (f (.int i t) (.int j u)) Q E s) :
  OpR X f (yK fun i j=>.bl (g i j)):=by
 intro pins s σ H x y v u Q I rx ry h
 obtain ⟨i,j,rfl,rfl,q⟩:=h
 obtain ⟨t,rfl⟩:=rx
 obtain ⟨t',rfl⟩:=ry
 exact rule i j t t' s _ _ ⟨.bl (g i j),H,I,rfl,q⟩
def rY (i j:Int):Prop:=0<j∧j<1073741824
def rX (i j:Int):Prop:=0≤j∧j≤1000000∧i.natAbs<2 ^ 64
def CMul (i j:Int):Prop:=(-(2 ^ 64)<i∧i<2 ^ 64)∨(-(2 ^ 64)<j∧j<2 ^ 64)
theorem CMul.ok {i j:Int} (h:CMul i j):IntMulOk i j:=by
 rcases h with ⟨h1,h2⟩|⟨h1,h2⟩
 ·exact .of_left (intBits_le_64 h1 h2)
 ·exact .of_right (intBits_le_64 h1 h2)
theorem yE:OpR X (binaryOp .Add) (yK fun i j=>.int (i+j)):=fL fun _ _ _ _ _ _ _ q=>add_int q
theorem zX:OpR X (binaryOp .Sub) (yK fun i j=>.int (i - j)):=fL fun _ _ _ _ _ _ _ q=>sub_int q
theorem eH:OpR X (binaryOp .Mult) (rI CMul fun i j=>.int (i*j)):=QT fun _ _ _ _ _ _ _ hc q=>mul_int q hc.ok
theorem qT:OpR X (binaryOp .FloorDiv) (rI rY fun i j=>.int (i / j)):=QT fun i j _ _ _ _ _ hc q=>by
 have h1:(0:Int)<j:=hc.1
 have h2:j<1073741824:=hc.2
 exact floordiv_int (by omega) (by rw [Int.fdiv_eq_ediv_of_nonneg i (by omega)];exact q) (.inl (PyProof.noPylong_small (by omega)))
theorem kM:OpR X (binaryOp .Mod) (rI (fun _ j=>0<j) fun i j=>.int (i%j)):=QT fun i j _ _ _ _ _ hc q=>by
 have h1:(0:Int)<j:=hc
 exact mod_int' (by omega) (by rw [Int.fmod_eq_emod_of_nonneg i (by omega)];exact q)
theorem oE:OpR X (binaryOp .Pow) (rI rX fun i j=>.int (i ^ j.toNat)):=QT fun _ _ _ _ _ _ _ hc q=>pow_int_small hc.1 hc.2.1 hc.2.2 q
theorem rZ {f:Value→Sem Value} {g:Int→Int}
  (rule:∀(i:Int) (t:Tok) (s:Shared) (Q:Value→Shared→Prop) (E:Value→Shared→Prop),Q (.int (g i) s.toks) {s with toks:=s.toks+1}→wpAny (model X.prog X.w) X.A (f (.int i t)) Q E s) :
  Z1 X f (rU fun i=>.int (g i)):=by
 intro pins s σ H x v Q I rx h
 obtain ⟨i,rfl,q⟩:=h
 obtain ⟨t,rfl⟩:=rx
 exact rule i t s _ _ ⟨.int (g i),H,I.tok _,⟨_,rfl⟩,q⟩
theorem ZN:Z1 X (unaryOp .USub) (rU fun i=>.int (-i)):=rZ fun _ _ _ _ _ q=>neg_int q
end
def fJ:V→V→Bool
 |.non,.non=>true|.non,.int _=>true|.int _,.non=>true|.non,.bl _=>true|.bl _,.non=>true|.non,.str _=>true|.str _,.non=>true
 |.int _,.int _=>true|.bl _,.bl _=>true|.str _,.str _=>true|.byt _,.byt _=>true
 |.int _,.str _=>true|.str _,.int _=>true|.bl _,.str _=>true|.str _,.bl _=>true
 |_,_=>false
def sD:R2:=fun x y H Q=>fJ x y=true∧Q (.bl (decide (x=y))) H
def sC:R2:=fun x y H Q=>fJ x y=true∧Q (.bl (!decide (x=y))) H
theorem d0 {i j:Int}:decide (V.int i=V.int j)=(i == j):=by
 rw [Bool.eq_iff_iff]
 simp
theorem eP {i j:Bool}:decide (V.bl i=V.bl j)=(i == j):=by
 rw [Bool.eq_iff_iff]
 simp
theorem dZ {i j:Str}:decide (V.str i=V.str j)=(i == j):=by
 rw [Bool.eq_iff_iff]
 simp
theorem d3 {i j:Array UInt8}:decide (V.byt i=V.byt j)=(i.toList == j.toList):=by
 rw [Bool.eq_iff_iff]
 cases i
 cases j
 simp
section
variable {X:Cx} {a b c:Expr} {ta tb tc:TE} {pos:Pos}
theorem j7 {pins:List (Addr×Obj)} {σ:St} {H:Hp} {s:Shared} {Q:VK} {k k':Bool} (I:Inv X pins σ H s) (q:Q (.bl k) H) (e:k=k'):EP X pins σ Q (.bool k') s:=by
 subst e
 exact ⟨.bl k,H,I,rfl,q⟩
theorem kR:OpR X (compareOp .Eq) sD:=by
 intro pins s σ H x y v u Q I rx ry h
 obtain ⟨hs,q⟩:=h
 cases x with
 |non =>
  cases rx
  cases y with
  |non=>cases ry;exact PySem.EqNone.eq_none_none (j7 I q (by simp))
  |bl j=>cases ry;exact PySem.EqNone.eq_none_bool (j7 I q (by simp))
  |int j=>obtain ⟨t',rfl⟩:=ry;exact PySem.EqNone.eq_none_int (j7 I q (by simp))
  |str j=>obtain ⟨t',rfl⟩:=ry;exact PySem.EqNone.eq_none_str (j7 I q (by simp))
  |_=>exact absurd (show false=true from hs) Bool.false_ne_true
 |bl i =>
  cases rx
  cases y with
  |non=>cases ry;exact PySem.EqNone.eq_bool_none (j7 I q (by simp))
  |bl j=>cases ry;exact eq_bool (j7 I q eP)
  |str j=>obtain ⟨t',rfl⟩:=ry;exact PySem.EqMixed.eq_bool_str (j7 I q (by simp))
  |_=>exact absurd (show false=true from hs) Bool.false_ne_true
 |int i =>
  obtain ⟨t,rfl⟩:=rx
  cases y with
  |non=>cases ry;exact PySem.EqNone.eq_int_none (j7 I q (by simp))
  |int j=>obtain ⟨t',rfl⟩:=ry;exact eq_int (j7 I q d0)
  |str j=>obtain ⟨t',rfl⟩:=ry;exact PySem.EqMixed.eq_int_str (j7 I q (by simp))
  |_=>exact absurd (show false=true from hs) Bool.false_ne_true
 |str i =>
  obtain ⟨t,rfl⟩:=rx
  cases y with
  |non=>cases ry;exact PySem.EqNone.eq_str_none (j7 I q (by simp))
  |bl j=>cases ry;exact PySem.EqMixed.eq_str_bool (j7 I q (by simp))
  |int j=>obtain ⟨t',rfl⟩:=ry;exact PySem.EqMixed.eq_str_int (j7 I q (by simp))
  |str j=>obtain ⟨t',rfl⟩:=ry;exact eq_str (j7 I q dZ)
  |_=>exact absurd (show false=true from hs) Bool.false_ne_true
 |byt i =>
  obtain ⟨t,rfl⟩:=rx
  cases y with
  |byt j=>obtain ⟨t',rfl⟩:=ry;exact PySem.W.eq_bytes (j7 I q d3)
  |_=>exact absurd (show false=true from hs) Bool.false_ne_true
 |_=>cases y<;>exact absurd (show false=true from hs) Bool.false_ne_true
theorem yW:OpR X (compareOp .NotEq) sC:=by
 intro pins s σ H x y v u Q I rx ry h
 obtain ⟨hs,q⟩:=h
 cases x with
 |non =>
  cases rx
  cases y with
  |non=>cases ry;exact PySem.EqNone.ne_none_none (j7 I q (by simp))
  |bl j=>cases ry;exact PySem.EqNone.ne_none_bool (j7 I q (by simp))
  |int j=>obtain ⟨t',rfl⟩:=ry;exact PySem.EqNone.ne_none_int (j7 I q (by simp))
  |str j=>obtain ⟨t',rfl⟩:=ry;exact PySem.EqNone.ne_none_str (j7 I q (by simp))
  |_=>exact absurd (show false=true from hs) Bool.false_ne_true
 |bl i =>
  cases rx
  cases y with
  |non=>cases ry;exact PySem.EqNone.ne_bool_none (j7 I q (by simp))
  |bl j=>cases ry;exact ne_bool (j7 I q (congrArg not eP))
  |str j=>obtain ⟨t',rfl⟩:=ry;exact PySem.EqMixed.ne_bool_str (j7 I q (by simp))
  |_=>exact absurd (show false=true from hs) Bool.false_ne_true
 |int i =>
  obtain ⟨t,rfl⟩:=rx
  cases y with
  |non=>cases ry;exact PySem.EqNone.ne_int_none (j7 I q (by simp))
  |int j=>obtain ⟨t',rfl⟩:=ry;exact ne_int (j7 I q (congrArg not d0))
  |str j=>obtain ⟨t',rfl⟩:=ry;exact PySem.EqMixed.ne_int_str (j7 I q (by simp))
  |_=>exact absurd (show false=true from hs) Bool.false_ne_true
 |str i =>
  obtain ⟨t,rfl⟩:=rx
  cases y with
  |non=>cases ry;exact PySem.EqNone.ne_str_none (j7 I q (by simp))
  |bl j=>cases ry;exact PySem.EqMixed.ne_str_bool (j7 I q (by simp))
  |int j=>obtain ⟨t',rfl⟩:=ry;exact PySem.EqMixed.ne_str_int (j7 I q (by simp))
  |str j=>obtain ⟨t',rfl⟩:=ry;exact ne_str (j7 I q (congrArg not dZ))
  |_=>exact absurd (show false=true from hs) Bool.false_ne_true
 |byt i =>
  obtain ⟨t,rfl⟩:=rx
  cases y with
  |byt j=>obtain ⟨t',rfl⟩:=ry;exact PySem.W.ne_bytes (j7 I q (congrArg not d3))
  |_=>exact absurd (show false=true from hs) Bool.false_ne_true
 |_=>cases y<;>exact absurd (show false=true from hs) Bool.false_ne_true
theorem eZ:OpR X (compareOp .Lt) (yK fun i j=>.bl (decide (i<j))):=QP fun _ _ _ _ _ _ _ q=>lt_int q
theorem pG:OpR X (compareOp .LtE) (yK fun i j=>.bl (decide (i≤j))):=QP fun _ _ _ _ _ _ _ q=>le_int q
theorem fA:OpR X (compareOp .Gt) (yK fun i j=>.bl (decide (j<i))):=QP fun _ _ _ _ _ _ _ q=>gt_int q
theorem pH:OpR X (compareOp .GtE) (yK fun i j=>.bl (decide (j≤i))):=QP fun _ _ _ _ _ _ _ q=>ge_int q
theorem m8:OpR X (compareOp .IsNot) (fun x y H Q=>y=.non∧Q (.bl (!decide (x=.non))) H):=by
 intro pins s σ H x y v u Q I rx ry h
 obtain ⟨rfl,q⟩:=h
 cases ry
 refine isnot_none_gen (j7 I q ?_)
 cases x<;>first
  | (cases rx;rfl)
  | (obtain ⟨t,rfl⟩:=rx;rfl)
theorem OpR.or {f:Value→Value→Sem Value} {r r':R2} (h:OpR X f r) (h':OpR X f r'):OpR X f (fun x y H Q=>r x y H Q∨r' x y H Q):=by
 intro pins s σ H x y v u Q I rx ry q
 rcases q with q|q
 ·exact h pins s σ H x y v u Q I rx ry q
 ·exact h' pins s σ H x y v u Q I rx ry q
theorem jV (b:Expr) {op:CmpOp} (h:op≠.In:=by decide) (h2:op≠.NotIn:=by decide):behindInMarks op b=false:=by
 have e1:(op == CmpOp.In)=false:=by cases op<;>first|rfl|exact absurd rfl h
 have e2:(op == CmpOp.NotIn)=false:=by cases op<;>first|rfl|exact absurd rfl h2
 cases b<;>simp [behindInMarks,e1,e2]
theorem vH {op:CmpOp} {r:R2} (ho:OpR X (compareOp op) r) (ha:PE X a ta) (hb:PE X b tb) (hm:behindInMarks op b=false):PE X (.Compare a [op] [b] pos) (QS r ta tb):=by
 intro pins s σ H Q I h
 exact wpAny_Compare1 (ZV ha hb I h fun v u s2 x y H2 I2 rx ry q=>ho pins s2 σ H2 x y v u Q I2 rx ry q) hm
def o4 (t:TE):TT:=fun σ H Q=>t σ H fun x H'=>∃k,x=.bl k∧Q k H'
theorem kG {op:CmpOp} {r:R2} (ho:OpR X (compareOp op) r) (ha:PE X a ta) (hb:PE X b tb) (hm:behindInMarks op b=false):PT X (.Compare a [op] [b] pos) (o4 (QS r ta tb)):=by
 intro pins s σ H Q I h
 refine wpAny_isTrue_Compare1 (jG (ha pins s σ H _ I h) fun v s1 ⟨x,H1,I1,r1,q1⟩=>jG (hb pins s1 σ H1 _ I1 q1) fun u s2 ⟨y,H2,I2,r2,q2⟩ =>
  jG (ho pins s2 σ H2 x y v u _ I2 r1 r2 q2) fun c s3 ⟨z,H3,I3,r3,k,e,q3⟩=>?_) hm
 subst e
 cases r3
 exact wpAny_truthy_bool ⟨H3,I3,q3⟩
def fM (K:PySem.W.Frag) (x:V) (H:Hp) (k:Bool):Prop :=
 match x with
 |.non=>k=false
 |.bl b=>k=b
 |.int i=>k=(i != 0)
 |.str y=>y.length≤sizeLine∧k=((y.length:Int) != 0)
 |.byt y=>y.size≤sizeLine∧k=((y.size:Int) != 0)
 |.ref p=>(∃xs,SqL K H p xs∧k = !xs.isEmpty)∨(∃xs,SqT K H p xs∧k = !xs.isEmpty)∨∃kvs,H p=some (.dK kvs)∧k = !kvs.isEmpty
 |_=>False
theorem iS {κ:Type} {kvs:List (κ×V)} {vs:List (κ×Value)} (r:KV kvs vs):(!vs.isEmpty) = !kvs.isEmpty:=by
 cases r<;>rfl
theorem bJ {xs:List V} {its:List Value} (r:Vals xs its):(!its.toArray.isEmpty) = !xs.isEmpty:=by
 cases r<;>simp
theorem zY:(sizeLine:Nat)<2 ^ 63:=by rw [sizeLine_eq];decide
theorem nR:rV X (fun x H Q=>∃k,fM X.K x H k∧Q k H):=by
 intro pins s σ H x v Q I rx h
 obtain ⟨k,e,q⟩:=h
 have hl:=zY
 have hs:sizeLine=16777216:=sizeLine_eq
 cases x with
 |non =>
  cases rx
  have e':k=false:=e
  subst e'
  exact truthy_none ⟨H,I,q⟩
 |bl b =>
  cases rx
  have e':k=b:=e
  subst e'
  exact wpAny_truthy_bool ⟨H,I,q⟩
 |int i =>
  obtain ⟨t,rfl⟩:=rx
  have e':k=(i != 0):=e
  subst e'
  exact PySem.P.truthy_int ⟨H,I,q⟩
 |str y =>
  obtain ⟨t,rfl⟩:=rx
  obtain ⟨hy,e'⟩:y.length≤sizeLine∧k=((y.length:Int) != 0):=e
  subst e'
  exact PySem.P.truthy_str (by omega) ⟨H,I.tok _,q⟩
 |byt y =>
  obtain ⟨t,rfl⟩:=rx
  obtain ⟨hy,e'⟩:y.size≤sizeLine∧k=((y.size:Int) != 0):=e
  subst e'
  exact PySem.W.truthy_bytes (by omega) ⟨H,I.tok _,q⟩
 |ref p =>
  cases rx
  have e':(∃xs,SqL X.K H p xs∧k = !xs.isEmpty)∨(∃xs,SqT X.K H p xs∧k = !xs.isEmpty)∨∃kvs,H p=some (.dK kvs)∧k = !kvs.isEmpty:=e
  rcases e' with ⟨xs,hx,e'⟩|⟨xs,hx,e'⟩|⟨kvs,hx,e'⟩
  ·subst e'
   obtain ⟨its,r,pl,hz⟩:=I.list hx
   have hlen:=r.length
   exact wpAny_truthy_list pl.isList (by simp only [List.size_toArray];omega) ⟨H,I.tok _,by rw [bJ r];exact q⟩
  ·subst e'
   obtain ⟨its,r,pl,hz⟩:=I.tuple hx
   have hlen:=r.length
   exact truthy_tuple pl (by simp only [List.size_toArray];omega) ⟨H,I.tok _,by rw [bJ r];exact q⟩
  ·subst e'
   obtain ⟨hz,hS,vs,r,m⟩:kvs.length≤sizeLine∧(p == sysModules)=false∧∃vs,KV kvs vs∧s.heap.DictOf (ZH X.prog X.w) p vs:=I.hok p _ hx
   have hlen:kvs.length=vs.length:=Paired.length r
   exact wpAny_truthy_dict hS m (by omega) ⟨H,I.tok _,by rw [iS r];exact q⟩
 |_=>exact (show False from e).elim
theorem cP (ha:PE X a ta) (he:∀whole,isTrue a X.env whole=(do let v ← whole;standAt a.pos;holding [v] (truthy v))) :
  PT X a (fun σ H Q=>ta σ H fun x H'=>∃k,fM X.K x H' k∧Q k H'):=by
 intro pins s σ H Q I h
 exact isTrue_plain (jG (ha pins s σ H _ I h) fun v s1 ⟨x,H1,I1,r1,q1⟩=>nR pins s1 σ H1 x v Q I1 r1 q1) (he _)
theorem bH:OpR X (binaryOp .Add) (fun x y H Q=>∃i j,x=.str i∧y=.str j∧i.length+j.length≤sizeLine∧Q (.str (i++j)) H):=by
 intro pins s σ H x y v u Q I rx ry h
 obtain ⟨i,j,rfl,rfl,hz,q⟩:=h
 obtain ⟨t,rfl⟩:=rx
 obtain ⟨t',rfl⟩:=ry
 exact add_str (fun t' tk=>⟨.str (i++j),H,I.tok _,⟨_,rfl⟩,q⟩) hz
theorem JO {x:V} {us:List Value} (r:Vals [x] us):∃u,us=[u]∧RelV x u:=by
 cases r with
 |cons r1 r2=>cases r2;exact ⟨_,rfl,r1⟩
theorem eU {x y:V} {us:List Value} (r:Vals [x,y] us):∃u w',us=[u,w']∧RelV x u∧RelV y w':=by
 cases r with
 |cons r1 r2 =>
  cases r2 with
  |cons r3 r4=>cases r4;exact ⟨_,_,rfl,r1,r3⟩
theorem lM (hc:X.calm=true):CallR X (.builtin "max") (fun xs H Q=>∃i j,xs=[.int i,.int j]∧Q (.int (if j>i then j else i)) H):=by
 intro pins s σ H xs us Q I r h
 obtain ⟨i,j,rfl,q⟩:=h
 obtain ⟨u,w',rfl,⟨t,rfl⟩,⟨t',rfl⟩⟩:=eU r
 refine max_two_ints (I.ok.hd hc) fun h' tk k=>⟨_,H,I.kept k,?_,q⟩
 by_cases hj:j>i
 ·rw [if_pos hj,if_pos hj];exact ⟨_,rfl⟩
 ·rw [if_neg hj,if_neg hj];exact ⟨_,rfl⟩
end
end L2
namespace L2
open PySem PySem.Spec PyProof.Rows
structure ObjM (h:Heap) (x dx C:Addr) (mA:Str→Option Value):Prop where
 obj:h.get? x=some (PySem.W.instObj C dx)
 ns:h.Ns1 dx mA
 ne:dx≠x
theorem lA {h:Heap} {dx:Addr} {mA:Str→Option Value} (n:h.Ns1 dx mA):∃od,h.get? dx=some od∧∀name,PySem.W.lookIn name od=some (mA name):=by
 obtain ⟨o,es,ep,ho,hd,hk,_,hm⟩:=n
 refine ⟨o,ho,fun name=>?_⟩
 have e:=hm name
 unfold nsFind findBy at e
 rw [← Array.find?_toList] at e
 unfold PySem.W.lookIn
 rw [hd]
 dsimp only
 split
 ·rename_i y q
  rw [q] at e
  exact congrArg some e
 ·rename_i q
  rw [q] at e
  have a:es.toList.any (·.refKey)=false:=by
   rw [List.any_eq_false]
   intro y hy
   obtain ⟨z,t,hkey⟩:=hk y (Array.mem_toList_iff.mp hy)
   simp [DictEntry.refKey,hkey]
  have a':¬es.toList.any (·.refKey)=true:=by rw [a];exact Bool.false_ne_true
  rw [if_neg a']
  exact congrArg some e
theorem ObjM.look {h:Heap} {x dx C:Addr} {mA:Str→Option Value} (I:ObjM h x dx C mA):∃od,PySem.W.InstAt h x (PySem.W.instObj C dx) C (some od)∧∀name,PySem.W.lookIn name od=some (mA name) :=
 let ⟨od,ho,hl⟩:=lA I.ns
 ⟨od,⟨I.obj,rfl,rfl,ho⟩,hl⟩
section
variable {prog:Program} {w:World} {A:Around} {E:Value→Shared→Prop} {s:Shared} {K:PySem.W.Frag} {x dx C f:Addr} {mA:Str→Option Value} {name:Str} {v:Value}
end
section
variable {P:Program} {w:World} {H H':Hp} {h h':Heap} {a C dx:Addr} {fs fs':List (Str×V)}
theorem nI (hok:HOk P w H h) (e:H a=some (.ins C dx fs)):∃mA,ObjM h a dx C mA∧(∀f,RelO (fs.lookup f) (mA f))∧PySem.Within mA (fs.map (·.1))∧fs.length≤1000∧H dx=some (.own a):=by
 obtain ⟨d,z,ne,ob,mA,n,r,q⟩:=(show ObjOk P w H h a (.ins C dx fs) from hok a _ e)
 exact ⟨mA,⟨ob,n,ne⟩,r,q,z,d⟩
end
structure Cls (K:PySem.W.Frag) (C:Addr):Prop where
 pg:PySem.W.plainGet K C Str.empty=true
 hd:PySem.W.hasDictIn K C=true
 po:PySem.W.plainOver K C=true
 sa:PySem.W.findIn K (.ref C) "__setattr__"=some (some (.builtin "object.__setattr__"))
theorem Cls.get {K:PySem.W.Frag} {C:Addr} (c:Cls K C) (f:Str):PySem.W.plainGet K C f=true:=c.pg
section
variable {X:Cx} {pins:List (Addr×Obj)} {σ:St} {H:Hp} {s:Shared} {a C dx:Addr} {fs:List (Str×V)} {f:Str} {v:V} {A:Around} {E:Value→Shared→Prop}
end
section
variable {X:Cx} {o e value:Expr} {f:Str} {pos pos' tpos:Pos} {ta tv:TE}
end
section
variable {X:Cx} {pins:List (Addr×Obj)} {σ:St} {H:Hp} {s:Shared} {A:Around} {E:Value→Shared→Prop} {Q:Value→Shared→Prop} {c:Value} {b:Bool}
inductive TyOf (K:PySem.W.Frag) (H:Hp):V→Value→Prop where
 |non:TyOf K H .non (.type "NoneType")
 |bl (x:Bool):TyOf K H (.bl x) (.type "bool")
 |int (i:Int):TyOf K H (.int i) (.type "int")
 |str (x:Str):TyOf K H (.str x) (.type "str")
 |flt (x:UInt64):TyOf K H (.flt x) (.type "float")
 |lst {a:Addr} {xs:List V} (e:H a=some (.lst xs)):TyOf K H (.ref a) (.type "list")
 |frz {a:Addr} {o:Obj} {xs:List V} (e:H a=some (.frz o (.lst xs))):TyOf K H (.ref a) (.type "list")
 |tup {a:Addr} {xs:List V} (e:H a=some (.tup xs)):TyOf K H (.ref a) (.type "tuple")
 |dK {a:Addr} {kvs:List (j6×V)} (e:H a=some (.dK kvs)):TyOf K H (.ref a) (.type "dict")
 |dT {a:Addr} {kvs:List (List j6×V)} (e:H a=some (.dT kvs)):TyOf K H (.ref a) (.type "dict")
 |ins {a C dx:Addr} {fs:List (Str×V)} (e:H a=some (.ins C dx fs)) (cl:Cls K C) (ha:PySem.W.findIn K (.ref C) "__class__"=some (some (.builtin "object.__class__")))
   (hn:PySem.W.specialIn K (.builtin "object.__class__") "__get__"=some (some (.builtin "getset_descriptor.__get__"))) (htk:PySem.W.takesIn K (.builtin "object.__class__")=some true)
   (hm:PySem.W.mroIn K C (.type "object")=some true):TyOf K H (.ref a) (.ref C)
theorem lC {x:V} {u t:Value} (I:Inv X pins σ H s) (rx:RelV x u) (ty:TyOf X.K H x t) (e:PySem.W.kitOne X.K t c=some b) (h:∀tk,Q (.bool b) {s with toks:=tk}) :
  wpAny (model X.prog X.w) A (call (.builtin "isinstance") [u,c]) Q E s:=by
 cases ty with
 |non=>cases (show u=Value.none from rx);exact PySem.W.kia_one PySem.W.kitx_none I.kIn True.intro e (fun z=>nomatch z) h
 |bl y=>cases (show u=Value.bool y from rx);exact PySem.W.kia_one PySem.W.kitx_bool I.kIn True.intro e (fun z=>nomatch z) h
 |int i=>obtain ⟨t,q⟩:=(show ∃t,u=Value.int i t from rx);cases q;exact PySem.W.kia_one PySem.W.kitx_int I.kIn True.intro e (fun z=>nomatch z) h
 |str y=>obtain ⟨t,q⟩:=(show ∃t,u=Value.str y t from rx);cases q;exact PySem.W.kia_one PySem.W.kitx_str I.kIn True.intro e (fun z=>nomatch z) h
 |flt y=>obtain ⟨t,q⟩:=(show ∃t,u=Value.float y t from rx);cases q;exact PySem.W.kia_one PySem.W.kitx_float I.kIn True.intro e (fun z=>nomatch z) h
 |@lst a xs ea =>
  cases (show u=Value.ref a from rx)
  obtain ⟨_,_,n,_,h1⟩:=(show ObjOk X.prog X.w H s.heap a (.lst xs) from I.hok a _ ea)
  exact PySem.W.kia_one PySem.W.kitx_list I.kIn ⟨_,h1,rfl⟩ e (fun z=>nomatch z) h
 |@frz a ob xs ea =>
  cases (show u=Value.ref a from rx)
  obtain ⟨_,_,_,n,_,h1⟩:=(show ObjOk X.prog X.w H s.heap a (.frz ob (.lst xs)) from I.hok a _ ea)
  exact PySem.W.kia_one PySem.W.kitx_list I.kIn ⟨_,h1,rfl⟩ e (fun z=>nomatch z) h
 |@tup a xs ea =>
  cases (show u=Value.ref a from rx)
  obtain ⟨_,_,_,p⟩:=(show ObjOk X.prog X.w H s.heap a (.tup xs) from I.hok a _ ea)
  obtain ⟨o,h1,h2,_⟩:=p
  exact PySem.W.kia_one PySem.W.kitx_tuple I.kIn ⟨o,h1,h2⟩ e (fun z=>nomatch z) h
 |@dK a kvs ea =>
  cases (show u=Value.ref a from rx)
  obtain ⟨_,_,vs,_,p⟩:=(show ObjOk X.prog X.w H s.heap a (.dK kvs) from I.hok a _ ea)
  obtain ⟨o,es,ep,h1,h2,_⟩:=p
  exact PySem.W.kia_one PySem.W.kitx_dict I.kIn ⟨o,h1,h2.1⟩ e (fun z=>nomatch z) h
 |@dT a kvs ea =>
  cases (show u=Value.ref a from rx)
  obtain ⟨_,_,xs,_,o,es,ep,h1,h2,_⟩:=(show ObjOk X.prog X.w H s.heap a (.dT kvs) from I.hok a _ ea)
  exact PySem.W.kia_one PySem.W.kitx_dict I.kIn ⟨o,h1,h2.1⟩ e (fun z=>nomatch z) h
 |@ins a C dx fs ea cl ha hn htk hm =>
  cases (show u=Value.ref a from rx)
  obtain ⟨mA,O,_⟩:=nI I.hok ea
  obtain ⟨od,J,_⟩:=O.look
  exact PySem.W.kia_one (PySem.W.kitx_own (cl.get _) cl.hd ha hn htk hm) I.kIn J e (fun z=>nomatch z) h
end
end L2
namespace L2
open PySem PySem.Spec PyProof.Rows
structure Room (k:Nat) (A:Around):Prop where
 hd:A.handled=none
 dp:A.depth+3*k+5<recursionLimit
 un:A.units+16*k+200<cLine
theorem Room.mono {j k:Nat} {A:Around} (r:Room k A) (h:j≤k):Room j A:=⟨r.hd,by have:=r.dp;omega,by have:=r.un;omega⟩
theorem Room.deeper {k:Nat} {A:Around} (r:Room (k+1) A) (env:Env):Room k (A.deeper env) :=
 ⟨r.hd,by have:=r.dp;show A.depth+1+3*k+5<_;omega,by have:=r.un;show A.units+3+16*k+200<_;omega⟩
theorem Room.depth {k:Nat} {A:Around} (r:Room k A):A.depth<recursionLimit:=by have:=r.dp;omega
theorem Room.units {k:Nat} {A:Around} (r:Room k A):A.units+64<cLine:=by have:=r.un;omega
theorem Room.units0 {k:Nat} {A:Around} (r:Room k A):A.units<cLine:=by have:=r.un;omega
def pX:TA:=fun _ H Q=>Q [] H
def pB (ta:TE) (tr:TA):TA:=fun σ H Q=>ta σ H fun x H1=>tr σ H1 fun xs H2=>Q (x::xs) H2
section
variable {X:Cx} {e:Expr} {es:List Expr} {te:TE} {t:TA} {pos:Pos}
theorem jC:PA X [] pX:=fun _ _ _ _ H Q I h=>Calls.spliced_nil ⟨[],H,I,.nil,h⟩
theorem jA (ha:PE X e te) (hr:PA X es t) (hs:starEach (e::es) X.env=(false,eval e X.env)::starEach es X.env:=by rfl):PA X (e::es) (pB te t):=by
 intro pos pins s σ H Q I h
 rw [hs]
 show wpAny _ _ (spliced ((false,eval e X.env)::backTo pos (starEach es X.env))) _ _ s
 refine Calls.spliced_cons (jG (ha pins s σ H _ I h) fun u s1 ⟨x,H1,I1,r1,q1⟩=>?_)
 exact jG (hr pos pins s1 σ H1 _ I1 q1) fun us s2 ⟨xs,H2,I2,r2,q2⟩=>⟨x::xs,H2,I2,.cons r1 r2,q2⟩
def pS (t:TA):TE:=fun σ H Q=>t σ H fun xs H1=>xs.length≤sizeLine∧∀p,H1 p=none→Q (.ref p) (jB H1 p (.tup xs))
def pY (t:TA):TE:=fun σ H Q=>t σ H fun xs H1=>xs.length≤sizeLine∧∀p,H1 p=none→Q (.ref p) (jB H1 p (.lst xs))
theorem yD {x1} (h:PA X es t):PE X (.Tuple es x1 pos) (pS t):=by
 intro pins s σ H Q I hq
 refine wpAny_Tuple_spliced (jG (h pos pins s σ H _ I hq) fun us s1 ⟨xs,H1,I1,r,z,q⟩=>⟨by rw [← r.length];exact z,?_⟩)
 have hf:H1 s1.heap.objs.size=none:=I1.hok.fresh (Nat.le_refl _)
 refine ⟨.ref s1.heap.objs.size,jB H1 s1.heap.objs.size (.tup xs),I1.laid (t':=s1.toks) (fun b u e=>Heap.get?_push_of_some _ e) (Nat.le_refl _) ?_,rfl,q _ hf⟩
 exact ⟨z,us,r,⟨_,Heap.get?_push_size _ rfl,rfl,_,rfl⟩⟩
theorem q0 (h:PA X es t):PE X (.List es pos) (pY t):=by
 intro pins s σ H Q I hq
 refine wpAny_List_spliced (jG (h pos pins s σ H _ I hq) fun us s1 ⟨xs,H1,I1,r,z,q⟩=>⟨by rw [← r.length];exact z,?_⟩)
 have hf:H1 s1.heap.objs.size=none:=I1.hok.fresh (Nat.le_refl _)
 refine ⟨.ref s1.heap.objs.size,jB H1 s1.heap.objs.size (.lst xs),I1.laid (t':=s1.toks) (fun b u e=>Heap.get?_push_of_some _ e) (Nat.le_refl _) ?_,rfl,q _ hf⟩
 exact ⟨z,us,0,r,Heap.get?_push_size _ rfl⟩
end
abbrev Sp:=List V→Hp→VK→XK→Prop
abbrev kP:=List Env→Hp→Shared→XK→Value→Shared→Prop
structure Env0 (P:Program) (w:World) (K:PySem.W.Frag) (mg:Str→Option Value) (base:Heap) (A:Around) (outer:List Env) (s:Shared) (H:Hp):Prop where
 frames:A.frames=some outer
 mod:Mod K mg base
 bs:∀b o,base.get? b=some o→s.heap.get? b=some o∧H b=none
 bsz:base.objs.size≤s.heap.objs.size
 funs:s.heap.FunFrames base outer
 frf:∀b∈j9 outer,H b=none
 hok:HOk P w H s.heap
 bare:AllBare s.gens
def CE (outer:List Env) (P:Program) (w:World) (H:Hp) (s:Shared) (Q:VK) (u:Value) (s':Shared):Prop :=
 ∃v H',s'.os=s.os∧AllBare s'.gens∧Un (j9 outer) [] H H' s.heap s'.heap∧HOk P w H' s'.heap∧RelV v u∧Q v H'
def CR (CX:kP) (outer:List Env) (P:Program) (w:World) (H:Hp) (s:Shared) (Q:VK) (E:XK) (r:Result) (s':Shared):Prop :=
 match r with
 |.ok (.ret u)=>CE outer P w H s Q u s'
 |.ok _=>False
 |.error e=>CX outer H s E e s'
structure FnOk (P:Program) (w:World) (K:PySem.W.Frag) (mg:Str→Option Value) (base:Heap) (CX:kP) (k:Nat) (f:Addr) (fd:FuncData) (ps:List Str) (sp:Sp):Prop where
 len:∀vs H Q E,sp vs H Q E→vs.length=ps.length
 run:∀(A:Around) (outer:List Env) (s:Shared) (H:Hp) (args:Args) (us:List Value) (vs:List V) (Q:VK) (E:XK),Room k A→Env0 P w K mg base A outer s H→BindsTo s fd args (ps.zip us)→Vals vs us→sp vs H Q E→
  codeAny (model P w) A (.call (.ref f) args) (CR CX outer P w H s Q E) s
section
variable {X:Cx} {pins:List (Addr×Obj)} {σ:St} {H:Hp} {s s':Shared}
theorem Inv.env0 (I:Inv X pins σ H s):Env0 X.prog X.w X.K X.mg X.base X.A X.stack s H :=
 ⟨I.ok.frames,I.ok.mod,I.bs,Nat.le_trans I.ok.bsz I.sz,I.stack,I.stkFree,I.hok,I.bare⟩
theorem Inv.after {Q:VK} {u:Value} (I:Inv X pins σ H s) (h:CE X.stack X.prog X.w H s Q u s'):EP X pins σ Q u s':=by
 obtain ⟨v,H',os,bare,un,hok,r,q⟩:=h
 obtain ⟨hh,g,d,t,os'⟩:=s'
 obtain rfl:os'=s.os:=os
 exact ⟨v,H',I.call (h':=hh) (g':=g) (d':=d) (t':=t) (ch:=[]) un hok bare (fun b z=>absurd z (by simp)),r,q⟩
end
def eX (sp:Sp) (dvs:List V) (E:XK) (t:TA):TE:=fun σ H Q=>t σ H fun vs H1=>sp (vs++dvs) H1 Q E
def Binds (K:PySem.W.Frag) (fd:FuncData) (ps:List Str) (ds:List Value):Prop :=
 ∀(s:Shared) (us:List Value),K.In s.heap→(us++ds).length=ps.length→BindsTo s fd ⟨us,[]⟩ (ps.zip (us++ds))
theorem Binds.all {K:PySem.W.Frag} {fd:FuncData} {ps:List Str} (h:∀us:List Value,us.length=ps.length→bindArgs fd ⟨us,[]⟩=pure (ps.zip us)):Binds K fd ps []:=fun s us _ hl=>by
 rw [List.append_nil] at hl ⊢
 exact .of_eq (h us hl)
def QJ (CX:kP) (X:Cx) (E:XK):Prop:=∀(pins:List (Addr×Obj)) (σ:St) (H:Hp) (s:Shared) (e:Value) (s':Shared),Inv X pins σ H s→CX X.stack H s E e s'→X.xe e s'
section
variable {X:Cx} {CX:kP} {k:Nat} {f C:Addr} {fd:FuncData} {ps:List Str} {sp:Sp} {dvs:List V} {ds:List Value} {E:XK} {x m:Str} {p pos apos:Pos} {e o:Expr} {es:List Expr} {ta:TE} {t:TA}
theorem nX {pins:List (Addr×Obj)} {σ:St} {H:Hp} {s:Shared} {Q:VK} {us:List Value} {vs:List V} (F:FnOk X.prog X.w X.K X.mg X.base CX k f fd ps sp) (hr:Room k X.A) (hb:Binds X.K fd ps ds) (hd:Vals dvs ds) (hx:QJ CX X E)
  (I:Inv X pins σ H s) (r:Vals vs us) (h:sp (vs++dvs) H Q E):wpAny (model X.prog X.w) X.A (call (.ref f) us) (EP X pins σ Q) X.xe s:=by
 have r2:Vals (vs++dvs) (us++ds):=r.append hd
 have hl:(us++ds).length=ps.length:=by rw [← r2.length];exact F.len _ _ _ _ h
 refine wpAny_call (codeAny_mono (F.run X.A X.stack s H ⟨us,[]⟩ (us++ds) (vs++dvs) Q E hr I.env0 (hb s us I.kIn hl) r2 h) fun r s' hq=>?_)
 cases r with
 |error e=>exact hx pins σ H s e s' I hq
 |ok fl =>
  cases fl with
  |ret u=>exact I.after hq
  |next=>exact False.elim hq
  |brk=>exact False.elim hq
  |cont=>exact False.elim hq
theorem m7 (F:FnOk X.prog X.w X.K X.mg X.base CX k f fd ps sp) (hr:Room k X.A) (hg:Gl X x) (hm:X.mg x=some (.ref f)) (hk:PySem.W.keepIn X.K (.ref f)=true) (hb:Binds X.K fd ps ds) (hd:Vals dvs ds) (hx:QJ CX X E)
  (ha:PA X (e::es) t) (hdb:(x == ("__debug__":Str))=false:=by decide) (he:starEach (e::es) X.env=(false,eval e X.env)::starEach es X.env:=by rfl) (hpl:(backTo pos (starEach es X.env)).any (·.1)=false:=by rfl) :
  PE X (.Call (.Name x p) (e::es) [] pos) (eX sp dvs E t):=by
 intro pins s σ H Q I h
 refine wpAny_Call_Name_kw (ZI I hg hm ?_ hdb)
 refine PySem.W.callWith_K (h₀:=X.base) I.ok.mod.kin hk (jG (ha pos pins s σ H _ I h) fun us s1 ⟨vs,H1,I1,r,q⟩=>⟨I1.kIn,?_⟩) he hpl
 exact nX F hr hb hd hx I1 r q
end
section
variable {X:Cx} {CX:kP} {k:Nat} {f C:Addr} {fd:FuncData} {ps ks:List Str} {sp:Sp} {E:XK} {x m:Str} {p pos apos kpos:Pos} {e o:Expr} {es:List Expr} {kws:List Keyword} {te ta:TE} {t tk:TA} {nm:Option Str}
variable {g:List Value→List Value→List Value} {gV:List V→List V→List V}
end
structure FnScope (N P:List Str) (sc:Scope):Prop where
 kind:sc.kind=.function
 co:sc.isCoroutine=false
 gen:sc.isGenerator=false
 nd:N.Nodup
 pre:N.take P.length=P
 par:∀x∈P,sc.names.lookup x=some .local∨sc.names.lookup x=some .cell
 nofree:∀y∈sc.names,y.2≠.free
theorem cB {kindOf:Str→Option NameKind} {x:Str}:∀{binds:List (Str×Value)} {m:Str→Option Value},(∀v,(x,v)∉binds)→bindL kindOf binds m x=m x
 |[],_,_=>rfl
 | (n,v)::r,m,h=>by
  unfold bindL
  rw [cB fun w hw=>h w (List.mem_cons_of_mem _ hw)]
  split
  ·have:x≠n:=by rintro rfl;exact h v List.mem_cons_self
   simp [this]
  ·rfl
theorem cD {kindOf:Str→Option NameKind} {x:Str}:∀{binds:List (Str×Value)} {m:Str→Option Value},(∀v,(x,v)∉binds)→bindC kindOf binds m x=m x
 |[],_,_=>rfl
 | (n,v)::r,m,h=>by
  unfold bindC
  rw [cD fun w hw=>h w (List.mem_cons_of_mem _ hw)]
  split
  ·rfl
  ·have:x≠n:=by rintro rfl;exact h v List.mem_cons_self
   simp [this]
theorem cC {kindOf:Str→Option NameKind} {x:Str} {v:Value}:∀{P:List Str} {vs:List Value} {i:Nat} {m:Str→Option Value},P.Nodup→P[i]?=some x→vs[i]?=some v→kindOf x=some .local→
  bindL kindOf (P.zip vs) m x=some v
 |[],_,_,_,_,h,_,_=>by simp at h
 |_::_,[],_,_,_,_,h,_=>by simp at h
 |p::P,w::vs,0,m,nd,h1,h2,hk=>by
  simp at h1 h2;subst h1;subst h2
  show bindL kindOf ((p,w)::P.zip vs) m p=_
  unfold bindL
  rw [cB fun v hv=>(List.nodup_cons.mp nd).1 (List.of_mem_zip hv).1,if_pos hk]
  simp
 |p::P,w::vs,i+1,m,nd,h1,h2,hk=>by
  show bindL kindOf ((p,w)::P.zip vs) m x=_
  unfold bindL
  exact cC (i:=i) (List.nodup_cons.mp nd).2 (by simpa using h1) (by simpa using h2) hk
theorem cE {kindOf:Str→Option NameKind} {x:Str} {v:Value}:∀{P:List Str} {vs:List Value} {i:Nat} {m:Str→Option Value},P.Nodup→P[i]?=some x→vs[i]?=some v→kindOf x≠some .local→
  bindC kindOf (P.zip vs) m x=some v
 |[],_,_,_,_,h,_,_=>by simp at h
 |_::_,[],_,_,_,_,h,_=>by simp at h
 |p::P,w::vs,0,m,nd,h1,h2,hk=>by
  simp at h1 h2;subst h1;subst h2
  show bindC kindOf ((p,w)::P.zip vs) m p=_
  unfold bindC
  rw [cD fun v hv=>(List.nodup_cons.mp nd).1 (List.of_mem_zip hv).1,if_neg hk]
  simp
 |p::P,w::vs,i+1,m,nd,h1,h2,hk=>by
  show bindC kindOf ((p,w)::P.zip vs) m x=_
  unfold bindC
  exact cE (i:=i) (List.nodup_cons.mp nd).2 (by simpa using h1) (by simpa using h2) hk
def kX (N:List Str) (vs:List V):St:=vs.map some++List.replicate (N.length - vs.length) none
def qL (CX:kP) (P:Program) (w:World) (K:PySem.W.Frag) (mg:Str→Option Value) (base:Heap) (N:List Str) (qual:Str) (scope:Scope) (f:Addr) (cd:Value) (A:Around) (outer:List Env) (s:Shared) (H:Hp) (E:XK):Cx where
 prog:=P
 w:=w
 K:=K
 mg:=mg
 base:=base
 A:=A.deeper (envOfC qual scope s.heap.objs.size f cd)
 N:=N
 s₀:=s
 H₀:=H
 env:=envOfC qual scope s.heap.objs.size f cd
 outer:=outer
 stack:=envOfC qual scope s.heap.objs.size f cd::outer
 ex:=[]
 calm:=true
 fn:=fun _=>true
 pn:=[]
 xe:=fun e s'=>wpAny (model P w) (A.deeper (envOfC qual scope s.heap.objs.size f cd)) (leaving (envOfC qual scope s.heap.objs.size f cd) e) (fun _ s''=>CX outer H s E e s'') (fun e' s''=>CX outer H s E e' s'') s'
theorem dG {sc:Scope} {n:Nat} {x:Str} (h:sc.names.lookup x=some .cell):∃c,(cellsFrom n sc.names []).lookup x=some c:=by
 have q:=PySem.W.cellsFrom_some sc.names n [] (.inl h)
 exact Option.isSome_iff_exists.mp q
theorem lD {CX:kP} {P:Program} {w:World} {K:PySem.W.Frag} {mg:Str→Option Value} {base:Heap} {N ps:List Str} {qual:Str} {scope:Scope} {f:Addr} {cd:Value} {A:Around} {outer:List Env} {s s1:Shared} {H:Hp} {E:XK} {us:List Value} {vs:List V}
  (S:FnScope N ps scope) (hd:A.handled=none) (e0:Env0 P w K mg base A outer s H) (hl:vs.length=ps.length) (r:Vals vs us)
  (x:InCallC s s.heap.objs.size (bindL (envOfC qual scope s.heap.objs.size f cd).kindOf (ps.zip us) fun _=>none) (cellsFrom (s.heap.objs.size+1) scope.names []) (bindC (envOfC qual scope s.heap.objs.size f cd).kindOf (ps.zip us) fun _=>none) s1) :
  Inv (qL CX P w K mg base N qual scope f cd A outer s H E) [] (kX N vs) H s1:=by
 have hpl:ps.length≤N.length:=by have:=congrArg List.length S.pre;rw [List.length_take] at this;omega
 obtain ⟨h1,tk,rfl,hk⟩:=x.done
 have noA:∀b:Addr,b∉(qL CX P w K mg base N qual scope f cd A outer s H E).ex:=fun b z=>absurd (show b∈([]:List Addr) from z) (by simp)
 refine ⟨⟨e0.mod,S.kind,rfl,rfl,Nat.le_refl _,fun y z c h1 h2=>?_,fun y hy=>?_,fun y c _ h=>?_,fun _=>hd,Around.frames_deeper e0.frames,.inr ⟨rfl,rfl⟩,fun b z=>absurd z (noA b),e0.bs,e0.bsz,fun b _ _=>noA b,fun b z=>absurd z (noA b),e0.funs,e0.frf⟩,
  rfl,e0.bare,Un.kept hk,⟨_,x.toInCall.ns,fun i y v h1 h2 h3=>?_⟩,fun y c h=>⟨_,x.cell y c h⟩,e0.hok.fresh (Nat.le_refl _),fun y c h=>?_,fun p hp=>absurd (show p∈([]:List (Addr×Obj)) from hp) (by simp),e0.hok.kept hk,?_⟩
 ·exact name_of_addr x.apart (PySem.mem_of_lookup h1) (PySem.mem_of_lookup h2)
 ·have hy:scope.names.lookup y=some .cell∨scope.names.lookup y=some .free:=hy
  rcases hy with hy|hy
  ·exact dG hy
  ·exact absurd rfl (S.nofree _ (PySem.mem_of_lookup hy))
 ·exact Nat.le_of_lt (x.above y c (PySem.mem_of_lookup h))
 ·have hi:i<vs.length:=by
   unfold kX at h2
   by_cases hi:i<vs.length
   ·exact hi
   ·rw [List.getElem?_append_right (by simpa using hi)] at h2
    rw [List.getElem?_replicate] at h2
    split at h2<;>cases h2
  have ha:vs[i]?=some v:=by
   unfold kX at h2
   rw [List.getElem?_append_left (by simpa using hi),List.getElem?_map] at h2
   cases e:vs[i]? with
   |none=>rw [e] at h2;cases h2
   |some a=>rw [e] at h2;cases h2;rfl
  obtain ⟨u,hu,rv⟩:=r.get ha
  have hp:ps[i]?=some y:=by
   rw [← S.pre,List.getElem?_take_of_lt (by omega)];exact h1
  have ndP:ps.Nodup:=by rw [← S.pre];exact S.nd.sublist (List.take_sublist _ _)
  refine ⟨u,rv,?_⟩
  rcases S.par y (List.mem_of_getElem? hp) with k|k
  ·exact .inl ⟨k,cC ndP hp hu k⟩
  ·obtain ⟨c,e⟩:=dG (n:=s.heap.objs.size+1) k
   refine .inr ⟨.inl k,c,e,?_⟩
   have q:=x.cell y c e
   rw [cE ndP hp hu (by show scope.names.lookup y≠_;rw [k];decide)] at q
   exact q
 ·exact e0.hok.fresh (Nat.le_of_lt (x.above y c (PySem.mem_of_lookup h)))
 ·unfold kX
  show _=N.length
  rw [List.length_append,List.length_map,List.length_replicate]
  omega
theorem QM {CX:kP} {P:Program} {w:World} {K:PySem.W.Frag} {mg:Str→Option Value} {base:Heap} {k:Nat} {f:Addr} {name qual:Str} {params:Arguments} {body:List Stmt} {scope:Scope} {dV kV doc pm cdv ct oc:Value} {an od:Option Addr}
  {osl:Array (Option Value)} {N ps:List Str} {sp:Sp} (lk:K.lookup f=some ⟨oc,od,.func (PySem.W.fnOf name qual params body scope dV kV doc pm an cdv ct),osl⟩) (hcd:PySem.W.codeIn K cdv qual=true) (S:FnScope N ps scope)
  (len:∀vs H Q E,sp vs H Q E→vs.length=ps.length)
  (hbody:∀(A:Around) (outer:List Env) (s:Shared) (H:Hp) (vs:List V) (Q:VK) (E:XK),Room k (A.deeper (envOfC qual scope s.heap.objs.size f cdv))→sp vs H Q E→
   ∃t,PSs (qL CX P w K mg base N qual scope f cdv A outer s H E) body t∧t {nx:=fun _ H'=>Q .non H',rt:=Q} (kX N vs) H) :
  FnOk P w K mg base CX (k+1) f (PySem.W.fnOf name qual params body scope dV kV doc pm an cdv ct) ps sp:=by
 refine ⟨len,fun A outer s H args us vs Q E hr e0 hb r hsp=>?_⟩
 have hl:=len _ _ _ _ hsp
 have KX:K.In s.heap:=e0.mod.kin.keeps fun b o e=>(e0.bs b o e).1
 have lim:s.heap.NoLimit:=e0.mod.nolimit.keeps fun b o e=>(e0.bs b o e).1
 have hkind:∀y∈ps.zip us,scope.names.lookup y.1=some .local∨(scope.names.lookup y.1=some .cell∧((cellsFrom (s.heap.objs.size+1) scope.names []).lookup y.1).isSome=true):=fun ⟨n,v⟩ hy=>by
  rcases S.par n (List.of_mem_zip hy).1 with q|q
  ·exact .inl q
  ·exact .inr ⟨q,PySem.W.cellsFrom_some _ _ _ (.inl q)⟩
 refine codeAny_call_function hr.depth (KX _ _ lk) rfl S.co S.gen rfl (PySem.W.codeRec_of KX hcd) (hb _ _ _ _ ?_)
 refine wpAny_newFunctionEnv_cells S.kind hkind fun env he s1 x=>?_
 subst he
 refine ⟨lim.keeps x.toInCall.keep,codeAny_func ?_⟩
 obtain ⟨t,ht,hq⟩:=hbody A outer s H vs Q E (hr.deeper _) hsp
 have I:Inv (qL CX P w K mg base N qual scope f cdv A outer s H E) [] (kX N vs) H s1:=lD S hr.hd e0 hl r x
 refine wpAny_mono (ht [] s1 (kX N vs) H _ I hq) (fun fl s' hs=>?_) fun e s' hs=>hs
 have fin:∀{σ':St} {H':Hp} {v:V} {u:Value},Inv (qL CX P w K mg base N qual scope f cdv A outer s H E) [] σ' H' s'→RelV v u→Q v H'→CE outer P w H s Q u s' :=
  fun {σ' H' v u} J rv q=>⟨v,H',J.os,J.bare,J.base,J.hok,rv,q⟩
 cases fl with
 |ret u =>
  obtain ⟨v,σ',H',J,rv,q⟩:=hs
  exact fin J rv q
 |next =>
  obtain ⟨σ',H',J,q⟩:=hs
  exact fin (v:=V.non) (u:=Value.none) J rfl q
 |brk =>
  obtain ⟨_,_,_,q⟩:=hs
  exact False.elim q
 |cont =>
  obtain ⟨_,_,_,q⟩:=hs
  exact False.elim q
end L2
namespace L2
open PySem PySem.Spec PyProof.Rows
section
variable {X:Cx} {x:Str} {p pos:Pos} {e:Expr} {es:List Expr} {t:TA} {id T:String} {r:List V→Hp→VK→Prop}
def fP (r:List V→Hp→VK→Prop) (t:TA):TE:=fun σ H Q=>t σ H fun vs H1=>r vs H1 Q
theorem kH (hc:CallR X (.builtin id) r) (hg:Gl X x) (hm:X.mg x=none) (hv:bootBuiltins x=some (.builtin id)) (ha:PA X (e::es) t) (hn:x≠"__name__":=by decide) (hdb:(x == ("__debug__":Str))=false:=by decide)
  (he:starEach (e::es) X.env=(false,eval e X.env)::starEach es X.env:=by rfl) (hpl:(backTo pos (starEach es X.env)).any (·.1)=false:=by rfl):PE X (.Call (.Name x p) (e::es) [] pos) (fP r t):=by
 intro pins s σ H Q I h
 refine wpAny_Call_Name_kw (zZ I hg hm hv ?_ hn hdb)
 exact PyProof.Rows.callWith_builtin1 (jG (ha pos pins s σ H _ I h) fun us s1 ⟨vs,H1,I1,r1,q1⟩=>hc pins s1 σ H1 vs us Q I1 r1 q1) he hpl
theorem JW (hc:CallR X (.type T) r) (hg:Gl X x) (hm:X.mg x=none) (hv:bootBuiltins x=some (.type T)) (ha:PA X (e::es) t) (hn:x≠"__name__":=by decide) (hdb:(x == ("__debug__":Str))=false:=by decide)
  (he:starEach (e::es) X.env=(false,eval e X.env)::starEach es X.env:=by rfl) (hpl:(backTo pos (starEach es X.env)).any (·.1)=false:=by rfl):PE X (.Call (.Name x p) (e::es) [] pos) (fP r t):=by
 intro pins s σ H Q I h
 refine wpAny_Call_Name_kw (zZ I hg hm hv ?_ hn hdb)
 exact PyProof.Rows.callWith_type1 (jG (ha pos pins s σ H _ I h) fun us s1 ⟨vs,H1,I1,r1,q1⟩=>hc pins s1 σ H1 vs us Q I1 r1 q1) he hpl
end
end L2
namespace HT
open PySem PyProof.Rows
section
open PySem.SeqAt
open PySem.AutoSeq1 (wpAny_loadPart')
open PySem.MeetsSeq PySem.MeetsSeq2 PySem.MeetsSeq3
end
section
variable {prog:Program} {w:World} {A:Around} {E:Value→Shared→Prop} {s:Shared}
def sIx (n d:Nat):Option Int→Nat
 |none=>d
 |some v=>if v<0 then (v+(n:Int)).toNat else min v.toNat n
end
end HT
namespace L2
open PySem PySem.Spec PyProof.Rows
abbrev TO:=St→Hp→(Option Int→Hp→Prop)→Prop
def PO (X:Cx) (e:Option Expr) (t:TO):Prop :=
 ∀(pins:List (Addr×Obj)) (s:Shared) (σ:St) (H:Hp) (Q:Option Int→Hp→Prop),Inv X pins σ H s→t σ H Q→
  wpAny (model X.prog X.w) X.A (evalPart e X.env) (fun u s'=>∃o H',Inv X pins σ H' s'∧IsPart u o∧Q o H') X.xe s
def mP:TO:=fun _ H Q=>Q none H
def o5 (t:TE):TO:=fun σ H Q=>t σ H fun x H1=>∃i,x=.int i∧Q (some i) H1
section
variable {X:Cx} {e:Expr} {te:TE} {lo hi:Option Expr} {tl th:TO} {pos p2:Pos}
theorem m5:PO X none mP:=by
 intro pins s σ H Q I h
 rw [evalPart_none]
 exact wpAny_pure ⟨none,H,I,.none,h⟩
theorem fR (h:PE X e te):PO X (some e) (o5 te):=by
 intro pins s σ H Q I hw
 rw [evalPart_some]
 refine jG (h pins s σ H _ I hw) fun u s1 ⟨x,H1,I1,r1,q1⟩=>?_
 obtain ⟨i,rfl,q⟩:=q1
 obtain ⟨t,rfl⟩:=r1
 exact ⟨some i,H1,I1,.int i t,q⟩
def SlR (X:Cx) (r:V→Option Int→Option Int→Hp→VK→Prop):Prop :=
 ∀(pins:List (Addr×Obj)) (s:Shared) (σ:St) (H:Hp) (x:V) (v vl vu:Value) (lo hi:Option Int) (sl:Addr) (Q:VK),Inv X pins σ H s→RelV x v→s.heap.IsSliceOf sl vl vu .none→IsPart vl lo→IsPart vu hi→r x lo hi H Q→
  ∃T id,typeLookup (.type T) "__getitem__"=pure (some (.builtin id))∧s.TypeIs v T∧wpAny (model X.prog X.w) X.A (getItem v (.ref sl)) (EP X pins σ Q) X.xe s
theorem SlR.or {r r':V→Option Int→Option Int→Hp→VK→Prop} (h:SlR X r) (h':SlR X r'):SlR X (fun x lo hi H Q=>r x lo hi H Q∨r' x lo hi H Q):=by
 intro pins s σ H x v vl vu lo hi sl Q I rx hs pl pu q
 rcases q with q|q
 ·exact h pins s σ H x v vl vu lo hi sl Q I rx hs pl pu q
 ·exact h' pins s σ H x v vl vu lo hi sl Q I rx hs pl pu q
def r6 (r:V→Option Int→Option Int→Hp→VK→Prop) (te:TE) (tl th:TO):TE:=fun σ H Q=>te σ H fun x H1=>tl σ H1 fun l H2=>th σ H2 fun u H3=>r x l u H3 Q
theorem lV {r:V→Option Int→Option Int→Hp→VK→Prop} (hr:SlR X r) (he:PE X e te) (hl:PO X lo tl) (hu:PO X hi th):PE X (.Subscript e (.Slice lo hi none p2) pos) (r6 r te tl th):=by
 intro pins s σ H Q I h
 refine Subscript_ (jG (he pins s σ H _ I h) fun v s1 ⟨x,H1,I1,r1,q1⟩=>?_)
 refine wpAny_Slice (jG (hl pins s1 σ H1 _ I1 q1) fun vl s2 ⟨l,H2,I2,pl,q2⟩=>jG (hu pins s2 σ H2 _ I2 q2) fun vu s3 ⟨u,H3,I3,pu,q3⟩=>?_)
 rw [evalPart_none]
 refine wpAny_pure ?_
 have I4:Inv X pins σ H3 {s3 with heap:=s3.heap.push {cls:=.type "slice",data:=.fields #[vl,vu,.none]}}:=I3.kept (t':=s3.toks) fun b ob q=>Heap.get?_push_of_some _ q
 obtain ⟨T,id,hT,ht,hg⟩:=hr pins {s3 with heap:=s3.heap.push {cls:=.type "slice",data:=.fields #[vl,vu,.none]}} σ H3 x v vl vu l u s3.heap.objs.size Q I4 r1 (Heap.IsSliceOf.new ..) pl pu q3
 show wpAny (model X.prog X.w) X.A (subscriptTail e (.Slice lo hi none p2) v (.ref s3.heap.objs.size)) (EP X pins σ Q) X.xe {s3 with heap:=s3.heap.push {cls:=.type "slice",data:=.fields #[vl,vu,.none]}}
 exact tail_any (ops:=[.ref s3.heap.objs.size,v]) ht hT hg (by with_unfolding_all rfl)
def yJ (xs:List V) (lo hi:Option Int):List V:=(xs.drop (HT.sIx xs.length 0 lo)).take (HT.sIx xs.length xs.length hi - HT.sIx xs.length 0 lo)
theorem iI (xs:List V) (lo hi:Option Int):(yJ xs lo hi).length≤xs.length:=by
 unfold yJ
 rw [List.length_take,List.length_drop]
 omega
end
end L2
namespace L2
open PySem PySem.Spec PyProof.Rows
def vO (n:Nat) (i:Int):Option Nat:=if 0≤i then (if i<n then some i.toNat else none) else if -(n:Int)≤i then some (i+n).toNat else none
def qQ {α:Type} (xs:List α) (i:Int):Option α:=(vO xs.length i).bind fun j=>xs[j]?
theorem nG {n:Nat} {i:Int} {j:Nat} (h:vO n i=some j):seqIndex? i n=some j∧j<n∧-(n:Int)≤i∧i<n:=by
 unfold vO at h
 by_cases h0:0≤i
 ·rw [if_pos h0] at h
  by_cases h1:i<n
  ·rw [if_pos h1] at h
   have e:i.toNat=j:=Option.some.inj h
   exact ⟨by rw [seqIndex_of h0 h1,e],by omega,by omega,h1⟩
  ·rw [if_neg h1] at h;cases h
 ·rw [if_neg h0] at h
  by_cases h1 : -(n:Int)≤i
  ·rw [if_pos h1] at h
   have e:(i+n).toNat=j:=Option.some.inj h
   exact ⟨by rw [seqIndex_neg (by omega) h1,e],by omega,h1,by omega⟩
  ·rw [if_neg h1] at h;cases h
theorem ZL {α:Type} {xs:List α} {i:Int} {v:α} (h:qQ xs i=some v):∃j,seqIndex? i xs.length=some j∧xs[j]?=some v∧j<xs.length∧-(xs.length:Int)≤i∧i<xs.length:=by
 unfold qQ at h
 cases e:vO xs.length i with
 |none=>rw [e] at h;cases h
 |some j =>
  rw [e] at h
  obtain ⟨h1,h2,h3,h4⟩:=nG e
  exact ⟨j,h1,h,h2,h3,h4⟩
theorem yB {α:Type} {xs:List α} {j:Nat} {v:α} (h:xs[j]?=some v):qQ xs (j:Int)=some v:=by
 have hj:j<xs.length:=(List.getElem?_eq_some_iff.mp h).1
 have e:vO xs.length (j:Int)=some j:=by
  unfold vO
  rw [if_pos (by omega),if_pos (by omega)];simp
 unfold qQ;rw [e];exact h
theorem atI_last {α:Type} (xs:List α) (v:α):qQ (xs++[v]) (-1)=some v:=by
 have hl:(xs++[v]).length=xs.length+1:=by simp
 have e:vO (xs++[v]).length (-1)=some xs.length:=by
  unfold vO
  rw [hl,if_neg (by decide),if_pos (by omega)]
  congr 1
  omega
 unfold qQ
 rw [e]
 show (xs++[v])[xs.length]?=some v
 simp
def nQ (b:Expr):Prop:=∀o i,subscripted b false o i=operate [o,i] (getItem o i)
def IxR (X:Cx) (r:R2):Prop :=
 ∀(value slice:Expr) (pins:List (Addr×Obj)) (s:Shared) (σ:St) (H:Hp) (x y:V) (v u:Value) (Q:VK),Inv X pins σ H s→RelV x v→RelV y u→r x y H Q→
  subscripted slice false v u=operate [v,u] (getItem v u)→wpAny (model X.prog X.w) X.A (subscriptTail value slice v u) (EP X pins σ Q) X.xe s
def MtR (X:Cx) (id:String) (r:V→List V→Hp→VK→Prop):Prop :=
 ∀(pins:List (Addr×Obj)) (s:Shared) (σ:St) (H:Hp) (x:V) (xs:List V) (v:Value) (us:List Value) (Q:VK),Inv X pins σ H s→RelV x v→Vals xs us→r x xs H Q→
  wpAny (model X.prog X.w) X.A (call (.builtin id) (v::us)) (EP X pins σ Q) X.xe s
section
variable {X:Cx} {a b:Expr} {ta tb:TE} {pos:Pos}
theorem IxR.or {r r':R2} (h:IxR X r) (h':IxR X r'):IxR X (fun x y H Q=>r x y H Q∨r' x y H Q):=by
 intro value slice pins s σ H x y v u Q I rx ry q hs
 rcases q with q|q
 ·exact h value slice pins s σ H x y v u Q I rx ry q hs
 ·exact h' value slice pins s σ H x y v u Q I rx ry q hs
theorem MtR.or {id:String} {r r':V→List V→Hp→VK→Prop} (h:MtR X id r) (h':MtR X id r'):MtR X id (fun x xs H Q=>r x xs H Q∨r' x xs H Q):=by
 intro pins s σ H x xs v us Q I rx rs q
 rcases q with q|q
 ·exact h pins s σ H x xs v us Q I rx rs q
 ·exact h' pins s σ H x xs v us Q I rx rs q
theorem kA {r:R2} (hr:IxR X r) (ha:PE X a ta) (hb:PE X b tb) (hs:nQ b):PE X (.Subscript a b pos) (QS r ta tb):=by
 intro pins s σ H Q I h
 exact Subscript_ (ZV ha hb I h fun v u s2 x y H2 I2 rx ry q=>hr a b pins s2 σ H2 x y v u Q I2 rx ry q (hs _ _))
def rF (K:PySem.W.Frag):R2:=fun x y H Q=>∃p xs i v,x=.ref p∧y=.int i∧SqL K H p xs∧qQ xs i=some v∧Q v H
def fK (K:PySem.W.Frag):R2:=fun x y H Q=>∃p xs i v,x=.ref p∧y=.int i∧SqT K H p xs∧qQ xs i=some v∧Q v H
def rE:R2:=fun x y H Q=>∃z i c,x=.str z∧y=.int i∧z.length≤sizeLine∧qQ z.cps.toList i=some c∧Q (.str ⟨#[c]⟩) H
theorem vJ:IxR X (rF X.K):=by
 intro value slice pins s σ H x y v u Q I rx ry h hs
 obtain ⟨p,xs,i,z,rfl,rfl,hq,he,q⟩:=h
 cases rx
 obtain ⟨t,rfl⟩:=ry
 obtain ⟨its,r,pl,hz⟩:=I.list hq
 obtain ⟨j,h1,h2,h3,h4,h5⟩:=ZL he
 obtain ⟨w,ew,rw'⟩:=r.get h2
 have hl:=r.length
 have hn:=zY
 have fin:EP X pins σ Q w s:=⟨z,H,I,rw',q⟩
 by_cases h0:0≤i
 ·have hj:i.toNat=j:=by
   rw [seqIndex_of h0 h5] at h1
   exact Option.some.inj h1
  exact item_listR pl.isList h0 (by omega) (by rw [hj];simpa using ew) fin hs
 ·have hj:(i+(its.toArray.size:Int)).toNat=j:=by
   rw [seqIndex_neg (by omega) h4] at h1
   rw [List.size_toArray,← hl]
   exact Option.some.inj h1
  exact subscriptTail_builtinR (x:=w) pl.isList.typeIs slot_list_getitem.lookup
   (wpAny_getItem_list_neg (Q:=fun r s'=>r=w∧EP X pins σ Q r s') pl.isList (by omega) (by rw [List.size_toArray]<;>omega) (by omega) (by rw [hj];simpa using ew) ⟨rfl,fin⟩) hs
theorem qB:IxR X (fK X.K):=by
 intro value slice pins s σ H x y v u Q I rx ry h hs
 obtain ⟨p,xs,i,z,rfl,rfl,hq,he,q⟩:=h
 cases rx
 obtain ⟨t,rfl⟩:=ry
 obtain ⟨its,r,pl,hz⟩:=I.tuple hq
 obtain ⟨j,h1,h2,h3,h4,h5⟩:=ZL he
 obtain ⟨w,ew,rw'⟩:=r.get h2
 have hl:=r.length
 have hn:=zY
 have fin:EP X pins σ Q w s:=⟨z,H,I,rw',q⟩
 exact subscriptTail_builtinR (x:=w) pl.typeIs slot_tuple_getitem.lookup
  (getItem_tuple (j:=j) (Q:=fun r s'=>r=w∧EP X pins σ Q r s') pl (by omega) (by omega) (by rw [List.size_toArray,← hl];exact h1) (by simpa using ew) ⟨rfl,fin⟩) hs
theorem oS:IxR X rE:=by
 intro value slice pins s σ H x y v u Q I rx ry h hs
 obtain ⟨z,i,c,rfl,rfl,hz,he,q⟩:=h
 obtain ⟨t,rfl⟩:=rx
 obtain ⟨t',rfl⟩:=ry
 obtain ⟨j,h1,h2,h3,h4,h5⟩:=ZL he
 have hl:z.cps.toList.length=z.length:=by simp [Str.length]
 rw [hl] at h1 h4 h5
 have hn:=zY
 exact tail_any (typeIs_str s z t) slot_str_getitem.lookup (getItem_str (c:=c) (by
  have e1:decide (i < -(2 ^ 63:Int))=false:=decide_eq_false (by omega)
  have e2:decide (i≥2 ^ 63)=false:=decide_eq_false (by omega)
  rw [e1,e2,Bool.or_false]) (by rw [h1];simpa using h2) ⟨.str ⟨#[c]⟩,H,I.tok _,⟨_,rfl⟩,q⟩) hs
theorem Inv.lst {pins:List (Addr×Obj)} {σ:St} {H:Hp} {s:Shared} {p:Addr} {xs:List V} (I:Inv X pins σ H s) (h:H p=some (.lst xs)) :
  ∃(its:List Value) (n:Nat),Vals xs its∧s.heap.get? p=some {cls:=.type "list",data:=.seq its.toArray n}∧xs.length≤sizeLine:=by
 obtain ⟨z,its,n,r,e⟩:=I.hok p _ h
 exact ⟨its,n,r,e,z⟩
theorem iD (lo hi:Option Int) (n:Nat):(sliceBounds lo hi none n).1=((HT.sIx n 0 lo:Nat):Int)∧(sliceBounds lo hi none n).2.1=((HT.sIx n n hi:Nat):Int)∧(sliceBounds lo hi none n).2.2=1:=by
 refine ⟨?_,?_,rfl⟩
 ·cases lo with
  |none=>simp [sliceBounds,HT.sIx]
  |some i =>
   simp only [sliceBounds,HT.sIx,Option.getD_none,show (1:Int)>0 by decide,if_true]
   by_cases h:i<0
   ·simp only [h,if_true]<;>omega
   ·simp only [h,if_false]<;>omega
 ·cases hi with
  |none=>simp [sliceBounds,HT.sIx]
  |some i =>
   simp only [sliceBounds,HT.sIx,Option.getD_none,show (1:Int)>0 by decide,if_true]
   by_cases h:i<0
   ·simp only [h,if_true]<;>omega
   ·simp only [h,if_false]<;>omega
theorem g0 (its:List Value) (lo hi:Option Int):slicePick its.toArray lo hi none=((its.drop (HT.sIx its.length 0 lo)).take (HT.sIx its.length its.length hi - HT.sIx its.length 0 lo)).toArray:=by
 obtain ⟨h1,h2,h3⟩:=iD lo hi its.toArray.size
 unfold slicePick
 rw [h1,h2,h3]
 simp only [sliceRange_one,pick_run,List.size_toArray]<;>rfl
def rD (K:PySem.W.Frag):V→Option Int→Option Int→Hp→VK→Prop:=fun x lo hi H Q=>∃a xs,x=.ref a∧SqL K H a xs∧∀p,H p=none→Q (.ref p) (jB H p (.lst (yJ xs lo hi)))
theorem mT:SlR X (rD X.K):=by
 intro pins s σ H x v vl vu lo hi sl Q I rx hs pl pu h
 obtain ⟨a,xs,rfl,hx,q⟩:=h
 cases rx
 obtain ⟨its,r,ht,hz⟩:=I.list hx
 have hlen:=r.length
 refine ⟨"list",_,slot_list_getitem.lookup,ht.isList.typeIs,?_⟩
 refine wpAny_getItem_list_slice ht.isList hs pl pu .none (by simp) ?_ (by rw [List.size_toArray]<;>omega)
 rw [g0,← hlen]
 refine ⟨.ref s.heap.objs.size,_,I.laid (t':=s.toks) (o:=.lst (yJ xs lo hi)) (fun b ob q=>Heap.get?_push_of_some _ q) (Nat.le_refl _) ?_,rfl,q _ (I.hok.fresh (Nat.le_refl _))⟩
 exact ⟨Nat.le_trans (iI xs lo hi) hz,_,0,(r.drop (HT.sIx xs.length 0 lo)).take (HT.sIx xs.length xs.length hi - HT.sIx xs.length 0 lo),Heap.get?_push_size _ rfl⟩
def vL:V→Bool
 |.non=>true
 |.bl _=>true
 |.int _=>true
 |.str _=>true
 |_=>false
def yZ:V→V→Bool
 |.non,.non=>true
 |.bl a,.bl b=>a == b
 |.bl a,.int b=>(if a then 1 else 0) == b
 |.int a,.bl b=>a == (if b then 1 else 0)
 |.int a,.int b=>a == b
 |.str a,.str b=>a == b
 |_,_=>false
theorem ZQ {A:Around} {s:Shared} {y x:V} {u v:Value} (ry:RelV y u) (rx:RelV x v) (fy:vL y=true) (fx:vL x=true):SeqAt.EqAt A s u v (yZ y x):=by
 cases y with
 |non =>
  cases ry
  cases x with
  |non=>cases rx;exact SeqAt.EqAt.same _
  |bl b=>cases rx;exact SeqAt.EqAt.none_bool b
  |int b=>obtain ⟨t,rfl⟩:=rx;exact SeqAt.EqAt.none_int b t
  |str b=>obtain ⟨t,rfl⟩:=rx;exact SeqAt.EqAt.none_str b t
  |_=>exact absurd (show false=true from fx) Bool.false_ne_true
 |bl a =>
  cases ry
  cases x with
  |non=>cases rx;exact SeqAt.EqAt.bool_none a
  |bl b=>cases rx;exact SeqAt.EqAt.bool_bool a b
  |int b=>obtain ⟨t,rfl⟩:=rx;exact SeqAt.EqAt.bool_int a b t
  |str b=>obtain ⟨t,rfl⟩:=rx;exact SeqAt.EqAt.bool_str a b t
  |_=>exact absurd (show false=true from fx) Bool.false_ne_true
 |int a =>
  obtain ⟨t',rfl⟩:=ry
  cases x with
  |non=>cases rx;exact SeqAt.EqAt.int_none a t'
  |bl b=>cases rx;exact SeqAt.EqAt.int_bool a t' b
  |int b=>obtain ⟨t,rfl⟩:=rx;exact SeqAt.EqAt.int_int a t' b t
  |str b=>obtain ⟨t,rfl⟩:=rx;exact SeqAt.EqAt.int_str a t' b t
  |_=>exact absurd (show false=true from fx) Bool.false_ne_true
 |str a =>
  obtain ⟨t',rfl⟩:=ry
  cases x with
  |non=>cases rx;exact SeqAt.EqAt.str_none a t'
  |bl b=>cases rx;exact SeqAt.EqAt.str_bool a t' b
  |int b=>obtain ⟨t,rfl⟩:=rx;exact SeqAt.EqAt.str_int a t' b t
  |str b=>obtain ⟨t,rfl⟩:=rx;exact SeqAt.EqAt.str_str a t' b t
  |_=>exact absurd (show false=true from fx) Bool.false_ne_true
 |_=>exact absurd (show false=true from fy) Bool.false_ne_true
theorem qJ:CallR X (.builtin "len") (fun xs H Q=>∃p ys,xs=[.ref p]∧(SqL X.K H p ys∨SqT X.K H p ys)∧Q (.int ys.length) H):=by
 intro pins s σ H xs us Q I r h
 obtain ⟨p,ys,rfl,hq,q⟩:=h
 obtain ⟨u,rfl,rx⟩:=JO r
 cases rx
 have hn:=zY
 rcases hq with hq|hq
 ·obtain ⟨its,r',pl,hz⟩:=I.list hq
  have hlen:=r'.length
  exact Calls.call_len_list pl.isList (by simp only [List.size_toArray]<;>omega) ⟨.int ys.length,H,I.tok _,⟨s.toks+1,by rw [List.size_toArray,hlen]⟩,q⟩
 ·obtain ⟨its,r',pl,hz⟩:=I.tuple hq
  have hlen:=r'.length
  exact len_tuple pl (by simp only [List.size_toArray]<;>omega) ⟨.int ys.length,H,I.tok _,⟨s.toks+1,by rw [List.size_toArray,hlen]⟩,q⟩
theorem CallR.or {f:Value} {r r':List V→Hp→VK→Prop} (h:CallR X f r) (h':CallR X f r'):CallR X f (fun xs H Q=>r xs H Q∨r' xs H Q):=by
 intro pins s σ H xs us Q I rs q
 rcases q with q|q
 ·exact h pins s σ H xs us Q I rs q
 ·exact h' pins s σ H xs us Q I rs q
theorem Z9:CallR X (.type "list") (fun xs H Q=>∃p ys,xs=[.ref p]∧(SqL X.K H p ys∨SqT X.K H p ys)∧∀l,H l=none→Q (.ref l) (jB H l (.lst ys))):=by
 intro pins s σ H xs us Q I r h
 obtain ⟨p,ys,rfl,hq,q⟩:=h
 obtain ⟨u,rfl,rx⟩:=JO r
 cases rx
 have fin:∀(its:List Value),Vals ys its→ys.length≤sizeLine→∀(h':Heap) (c':Nat),(∀b o',s.heap.get? b=some o'→h'.get? b=some o')→
   h'.get? s.heap.objs.size=some {cls:=.type "list",dict:=none,data:=.seq its.toArray c',slots := #[]}→EP X pins σ Q (.ref s.heap.objs.size) {s with heap:=h'}:=fun its r' hz h' c' kp e =>
  ⟨.ref s.heap.objs.size,_,I.laid (t':=s.toks) kp (Nat.le_refl _) (show ObjOk X.prog X.w _ h' _ (.lst ys) from ⟨hz,its,c',r',e⟩),rfl,q _ (I.hok.fresh (Nat.le_refl _))⟩
 rcases hq with hq|hq
 ·obtain ⟨its,r',pl,hz⟩:=I.list hq
  have hlen:=r'.length
  obtain ⟨o,ho,hc,n,hd⟩:=pl.isList
  exact call_list_seq p (.inl rfl) ho hc hd (fun h' c' kp e=>fin its r' hz h' c' kp e) (by simp only [List.size_toArray]<;>omega)
 ·obtain ⟨its,r',pl,hz⟩:=I.tuple hq
  have hlen:=r'.length
  obtain ⟨o,ho,hc,n,hd⟩:=pl
  exact call_list_seq p (.inr rfl) ho hc hd (fun h' c' kp e=>fin its r' hz h' c' kp e) (by simp only [List.size_toArray]<;>omega)
def ZZ (K:PySem.W.Frag) (T:String) (x:V) (H:Hp):Prop:=match x with
 |.str _=>T="str"
 |.int _=>T="int"
 |.ref p=>(T="list"∧∃xs,SqL K H p xs)∨(T="tuple"∧∃o,K.lookup p=some o∧o.cls=.type "tuple"∧o.dict=none)∨
   (T="dict"∧((∃kvs,H p=some (.dK kvs))∨∃kvs,H p=some (.dT kvs)))∨(T="set"∧∃S n,H p=some (.set S n))
 |_=>False
theorem d7 {pins:List (Addr×Obj)} {σ:St} {H:Hp} {s:Shared} {T:String} {x:V} {v:Value} (I:Inv X pins σ H s) (r:RelV x v) (ty:ZZ X.K T x H) :
  s.TypeIs v T∧∀a,v=.ref a→∃ob,s.heap.get? a=some ob∧ob.dict=none:=by
 cases x with
 |str z =>
  obtain ⟨t,rfl⟩:=r
  cases (show T="str" from ty)
  exact ⟨typeIs_str s z t,fun _ e=>nomatch e⟩
 |int i =>
  obtain ⟨t,rfl⟩:=r
  cases (show T="int" from ty)
  exact ⟨typeIs_int s i t,fun _ e=>nomatch e⟩
 |ref p =>
  cases r
  rcases ty with ⟨rfl,xs,hq⟩|⟨rfl,o,hk,hc,hd⟩|⟨rfl,hk⟩|⟨rfl,S,n,hk⟩
  ·obtain ⟨its,_,pl,_⟩:=I.list hq
   refine ⟨pl.isList.typeIs,fun a e=>?_⟩
   cases e
   obtain ⟨o,n,e,c,hd,_⟩:=pl
   exact ⟨o,e,hd⟩
  ·refine ⟨⟨o,I.kIn p o hk,hc⟩,fun a e=>?_⟩
   cases e
   exact ⟨o,I.kIn _ o hk,hd⟩
  ·have z:∃o,s.heap.get? p=some o∧o.ExactDict:=by
    rcases hk with ⟨kvs,hk⟩|⟨kvs,hk⟩
    ·obtain ⟨_,_,_,_,o,_,_,e,ex,_⟩:=I.hok p _ hk
     exact ⟨o,e,ex⟩
    ·obtain ⟨_,_,_,_,o,_,_,e,ex,_⟩:=I.hok p _ hk
     exact ⟨o,e,ex⟩
   obtain ⟨o,e,ex⟩:=z
   refine ⟨⟨o,e,ex.1⟩,fun a e2=>?_⟩
   cases e2
   exact ⟨o,e,ex.2.1⟩
  ·obtain ⟨o,_,_,_,e,ex,_⟩:=I.hok p _ hk
   refine ⟨⟨o,e,ex.1⟩,fun a e2=>?_⟩
   cases e2
   exact ⟨o,e,ex.2.1⟩
 |_=>exact False.elim ty
def rA (K:PySem.W.Frag) (T:String) (r:V→List V→Hp→VK→Prop) (to:TE):TE:=fun σ H Q=>to σ H fun x H1=>ZZ K T x H1∧r x [] H1 Q
def sB (K:PySem.W.Frag) (T:String) (r:V→List V→Hp→VK→Prop) (to:TE) (t:TA):TE:=fun σ H Q=>to σ H fun x H1=>ZZ K T x H1∧t σ H1 fun xs H2=>r x xs H2 Q
variable {o e:Expr} {es:List Expr} {to:TE} {t:TA} {name:Str} {apos cpos:Pos} {T id:String} {r:V→List V→Hp→VK→Prop}
theorem oB (pa:PlainAttrs T) (slot:Slot T name id) (hty:typeOf (.builtin id)=pure (.type "method_descriptor")) (hm:MtR X id r) (ho:PE X o to)
  (hbase:attributeBase o name X.env (eval o X.env)=eval o X.env:=by rfl) (hline:(apos.endLine == cpos.line)=true:=by rfl):PE X (.Call (.Attribute o name apos) [] [] cpos) (rA X.K T r to):=by
 intro pins s σ H Q I h
 refine wpAny_Call_method0_late hbase hline (jG (ho pins s σ H _ I h) fun v s1 ⟨x,H1,I1,r1,ty,q1⟩=>?_)
 obtain ⟨h1,h2⟩:=d7 I1 r1 ty
 exact ⟨T,id,pa,slot,hty,h1,h2,Calls.callWith_builtin rfl (PySem.evalArgs_none (hm pins s1 σ H1 x [] v [] Q I1 r1 .nil q1))⟩
theorem yV (pa:PlainAttrs T) (slot:Slot T name id) (hty:typeOf (.builtin id)=pure (.type "method_descriptor")) (hm:MtR X id r) (ho:PE X o to) (ha:PA X (e::es) t)
  (hbase:attributeBase o name X.env (eval o X.env)=eval o X.env:=by rfl)
  (hfew:((backTo cpos (starEach (e::es) X.env)).all (fun x => !x.1)&&(backToKw cpos (keywordEach [] X.env)).all (fun x=>x.1.isSome)
   && decide ((e::es).length+([]:List Keyword).length+(if ([]:List Keyword).isEmpty then 0 else 1)<30))=true:=by rfl)
  (hline:(apos.endLine == cpos.line)=true:=by rfl) (hs:starEach (e::es) X.env=(false,eval e X.env)::starEach es X.env:=by rfl) (hplain:(backTo cpos (starEach es X.env)).any (·.1)=false:=by rfl) :
  PE X (.Call (.Attribute o name apos) (e::es) [] cpos) (sB X.K T r to t):=by
 intro pins s σ H Q I h
 refine wpAny_Call_method_late hbase hfew hline rfl (jG (ho pins s σ H _ I h) fun v s1 ⟨x,H1,I1,r1,ty,q1⟩=>?_)
 obtain ⟨h1,h2⟩:=d7 I1 r1 ty
 refine ⟨T,id,pa,slot,hty,h1,h2,?_⟩
 have hA:=ha cpos pins s1 σ H1 _ I1 q1
 rw [hs] at hA ⊢
 refine Calls.callWith_builtin (by show (false||(backTo cpos (starEach es X.env)).any (·.1))=false;rw [hplain]<;>rfl) (Calls.evalArgs_plain ?_)
 exact jG hA fun us s2 ⟨vs,H2,I2,r2,q2⟩=>hm pins s2 σ H2 x vs v us Q I2 r1 r2 q2
/- xs.append(e),list.index on a module's tuple .. are MtR facts of 06m -/
end
end L2
namespace L2
open PySem PySem.Spec PyProof.Rows
def Z3 (X:Cx) (id:String) (r:V→List V→Hp→VK→Prop):Prop :=
 ∀(pins:List (Addr×Obj)) (s:Shared) (σ:St) (H:Hp) (x:V) (xs:List V) (v:Value) (us:List Value) (Q:VK),Inv X pins σ H s→RelV x v→Vals xs us→r x xs H Q→
  wpAny (model X.prog X.w) X.A (call (.builtin id) (v::us)) (EP X pins σ Q) X.xe s
theorem Vals.one:∀{x:V} {us:List Value},Vals [x] us→∃u,us=[u]∧RelV x u
 |_,_,.cons r .nil=>⟨_,rfl,r⟩
theorem Vals.two:∀{x y:V} {us:List Value},Vals [x,y] us→∃u v,us=[u,v]∧RelV x u∧RelV y v
 |_,_,_,.cons r (.cons q .nil)=>⟨_,_,rfl,r,q⟩
theorem Vals.zero:∀{us:List Value},Vals [] us→us=[]
 |_,.nil=>rfl
theorem Vals.reverse {xs:List V} {us:List Value} (h:Vals xs us):Vals xs.reverse us.reverse:=by
 induction h with
 |nil=>exact .nil
 |cons r t ih=>rw [List.reverse_cons,List.reverse_cons];exact Vals.append ih (.cons r .nil)
section
variable {X:Cx} {pins:List (Addr×Obj)} {σ:St} {H:Hp} {s:Shared} {l b:Addr} {xs ys zs:List V}
theorem Inv.lset {its its':List Value} {n:Nat} {f:Array Value→Array Value} {t':Nat} (I:Inv X pins σ H s) (hH:H l=some (.lst xs))
  (e:s.heap.get? l=some {cls:=.type "list",data:=.seq its.toArray n}) (hf:f its.toArray=its'.toArray) (hv:Vals ys its') (hz:ys.length≤sizeLine) :
  Inv X pins σ (jB H l (.lst ys)) {s with heap:=s.heap.update l (Obj.mapSeq f),toks:=t'}:=by
 have q:=PySem.IsL.update e f
 rw [hf] at q
 refine I.write (x:=l) (e:=l) (by rw [hH];exact trivial) (.inl rfl) (fun b' u hb hu=>(Heap.get?_update_other s.heap (Obj.mapSeq f) (Ne.symm hb)).trans hu) ⟨_,q⟩ ?_
 exact ⟨hz,its',_,hv,q⟩
theorem Inv.lstM (I:Inv X pins σ H s) (hH:H l=some (.lst xs)):xs.length≤sizeLine∧∃(its:List Value) (n:Nat),Vals xs its∧xs.length=its.length∧s.heap.get? l=some {cls:=.type "list",data:=.seq its.toArray n}:=by
 obtain ⟨z,its,n,r,e⟩:=I.hok l _ hH
 exact ⟨z,its,n,r,r.length,e⟩
end
section
variable {X:Cx}
def mY:V→List V→Hp→VK→Prop:=fun x vs H Q=>∃l xs y,x=.ref l∧vs=[y]∧H l=some (.lst xs)∧xs.length<sizeLine∧Q .non (jB H l (.lst (xs++[y])))
theorem yQ:Z3 X "list.append" mY:=by
 intro pins s σ H x vs v us Q I rx rv h
 obtain ⟨l,xs,y,rfl,rfl,hH,hz,q⟩:=h
 cases rx
 obtain ⟨u,rfl,ru⟩:=rv.one
 obtain ⟨z,its,n,r,hl,e⟩:=I.lstM hH
 refine call_meets F.slot_list_append ⟨_,e,rfl⟩ F.entry_list_append (F.args_list_append_2 _ _) (PySem.list_append l its.toArray n u (by rw [List.size_toArray];omega)) ⟨e,?_⟩
 refine ⟨.non,_,I.lset (its':=its++[u]) hH e (by simp) (r.append (.cons ru .nil)) ?_,rfl,q⟩
 rw [List.length_append,List.length_singleton]
 omega
def nZ:V→List V→Hp→VK→Prop:=fun x vs H Q=>∃l xs,x=.ref l∧vs=[]∧H l=some (.lst xs)∧Q .non (jB H l (.lst []))
theorem mB:Z3 X "list.clear" nZ:=by
 intro pins s σ H x vs v us Q I rx rv h
 obtain ⟨l,xs,rfl,rfl,hH,q⟩:=h
 cases rx
 have hus:=rv.zero
 subst hus
 obtain ⟨z,its,n,r,hl,e⟩:=I.lstM hH
 refine call_meets F.slot_list_clear ⟨_,e,rfl⟩ F.entry_list_clear (F.args_list_clear_1 _) (AutoSeq1.list_clear_list_0 l its.toArray n (by rw [List.size_toArray];omega)) ⟨e,?_⟩
 exact ⟨.non,_,I.lset (its':=[]) (ys:=[]) hH e rfl .nil (Nat.zero_le _),rfl,q⟩
theorem nE {α:Type} (xs:List α) (k:Nat):(List.replicate k xs).flatten.length=k*xs.length:=by
 induction k with
 |zero=>simp
 |succ k ih=>rw [List.replicate_succ,List.flatten_cons,List.length_append,ih,Nat.succ_mul,Nat.add_comm]
end
section
variable {prog:Program} {w:World} {A:Around} {E:Value→Shared→Prop} {s:Shared}
end
section
variable {X:Cx}
end
end L2
namespace Att
open PySem PySem.W PySem.Calls PyProof.Rows
theorem gU {P:Params} {h:Heap}:∀(ns:List Int) (vs:List Value),WellAll P h vs (ns.map WData.int)→IntsAre vs ns:=by
 intro ns
 induction ns with
 |nil =>
  intro vs w
  rw [List.map_nil] at w
  cases w
  exact .nil
 |cons n ns ih =>
  intro vs w
  rw [List.map_cons] at w
  cases w with
  |cons a b =>
   cases a
   exact .cons _ _ (ih _ b)
theorem i3 {l:OpenLaw} {n:Nat} (hn:l.most=some n) {P:Params} {h:Heap} {args:List WData} {vals:List Value}
  (hpre:l.row.toRowW.claim.pre args=true) (hwl:WellAll P h vals args) :
  ∃a vs ns,vals=[Value.ref a]∧args=[WData.list (ns.map WData.int)]∧h.get? a=some {cls:=.type "list",data:=.seq vs.toArray}∧IntsAre vs ns∧ns.length≤n:=by
 have hsh:WShape.hasAll [] args [.list .int]=true:=(pre_splitW hpre).1
 have hc:l.pre.holds [] {args:=args}=true:=(pre_splitW hpre).2
 obtain ⟨d,r,rfl,h1,h2⟩:=hasAllW_cons hsh
 obtain rfl:=hasAllW_nil h2
 obtain ⟨xs,rfl,h3⟩:=hasW_list h1
 obtain ⟨ns,rfl⟩:=items_int h3
 have hlen:ns.length≤n:=by
  unfold OpenLaw.pre at hc
  have h4:(WTm.not (.lt (.lit (.int (n:Int))) (.len (.arg 0)))).holds [] {args:=[.list (ns.map .int)]}=true:=by
   have h4:=(holds_andW hc).1
   rw [hn] at h4
   exact h4
  have h5:=condW_of h4 (w_not (w_lt w_lit (w_len_list (w_arg rfl))))
  rw [List.length_map] at h5
  refine Nat.le_of_not_lt fun q=>?_
  have q':(n:Int)<((ns.length:Nat):Int):=by omega
  first
   | (rw [decide_eq_true q'] at h5;exact absurd h5 (by decide))
   | (simp at h5;omega)
 cases hwl with
 |cons w1 w2 =>
  cases w2
  cases w1 with
  |list ho hall=>exact ⟨_,_,ns,rfl,rfl,ho,gU ns _ hall,hlen⟩
theorem i4 (l:OpenLaw) (args:List WData):l.row.toRowW.claim.post args (.bool true) args=true :=
 postW_of (r:=l.row.toRowW) (X:=(true == true))
  (show WShape.has [] (.bool true) .bool=true by first|rfl|decide|simp [WShape.has,WShape.arms,WShape.armsAll])
  (show (WTm.eq .res (.lit (.bool true))).value [] {args:=args,res:=some (.bool true),after:=args}=some (.bool (true == true)) from w_eq_bool (w_res rfl) w_lit) rfl
theorem attach_call {l:OpenLaw} {n:Nat} {q:Program} {loose:List Str} {XP:(Str→Option Value)→Heap→Prop} {YP:World→Heap→Prop} {d:DefRec}
  (hn:l.most=some n) (hdf:d.params.defaults=[])
  (call:∀(w:World) (s₀ s₁:Shared) (mg mb:Str→Option Value) (fa:Addr) (o:Obj) (pm cd doc:Value) (a:Addr) (vs:List Value) (ns:List Int),
   Ground q loose [] XP w s₀ mg mb s₁.heap→YP w s₁.heap→
   s₁.heap.get? fa=some o→o.data=.func (docDef d.name d.params d.body d.scope pm cd doc)→s₁.heap.CodeRec cd d.name→mg d.name=some (.ref fa)→
   s₁.heap.get? a=some {cls:=.type "list",data:=.seq vs.toArray}→IntsAre vs ns→ns.length≤n→s₁.gens = #[]→
   codeAny (model l.prog w) callerA (.call (.ref fa) ⟨[.ref a],[]⟩) (fun r s'=>r=.ok (.ret (.bool true))∧OldK s₁.heap s'.heap∧s'.os=s₁.os∧AllBare s'.gens) s₁) :
  WalkO q loose XP YP l.row.toRowW d [] (fun f vs=>PySem.call f vs):=by
 intro w s₀ s₁ mg mb G Y fa o pm cd doc dV kV ho hd hcd hD hmg hg args vals as hpre hlay hrd hwl hlo
 obtain rfl:dV=.none:=Dflts.none hD hdf
 obtain rfl:kV=.none:=Dflts.noKw hD
 obtain ⟨a,vs,ns,rfl,rfl,hobj,hints,hlen⟩:=i3 hn hpre hwl
 refine enter_call (codeAny_mono (call w s₀ s₁ mg mb fa o pm cd doc a vs ns G Y ho (fd_plain hd) hcd hmg hobj hints hlen hg) fun r s' hq=>?_)
 obtain ⟨rfl,h2,h3,h4⟩:=hq
 exact ⟨.inl ⟨.bool true,.bool true,[],rfl,fun _=>rfl,.bool true,i4 l _,fun _=>⟨List.Pairwise.nil,fun _ hm=>(nomatch hm)⟩⟩,h2,h3,h4⟩
section
variable {prog:Program} {w:World} {A:Around} {E:Value→Shared→Prop} {s:Shared} {K:Frag}
def sJ (h:Heap) (L d:Addr):List (Addr×Obj):=(List.range h.objs.size).filterMap fun a=>if a=L∨a=d then none else (h.get? a).map fun o=>(a,o)
end
end Att
namespace L2
open PySem PySem.Spec PyProof.Rows
theorem Q6:∀{vs:List Value} {ns:List Int},IntsAre vs ns→Vals (ns.map V.int) vs
 |_,_,.nil=>.nil
 |_,_,.cons n t h=>.cons ⟨t,rfl⟩ (Q6 h)
def ZW (H:Hp):Prop:=∀b,H b=none∨∃o xs,H b=some (.frz o (.lst xs))
theorem mC {P:Program} {w:World} {K:PySem.W.Frag} {mg mb:Str→Option Value} {CX:kP} {k:Nat} {fa a:Addr} {fd:FuncData} {x:Str} {sp:Sp} {s₁:Shared} {vs:List Value} {ns:List Int}
  (KX:K.In s₁.heap) (hns:s₁.heap.Ns mainGlobals mg) (hb:s₁.heap.Ns builtinsNs mb) (hbb:∀x:Str,x≠"__name__"→mb x=bootBuiltins x) (hlim:s₁.heap.NoLimit) (hg:s₁.gens = #[])
  (ha:s₁.heap.get? a=some {cls:=.type "list",data:=.seq vs.toArray}) (hi:IntsAre vs ns) (hl:ns.length≤sizeLine) (hr:Room k callerA)
  (F:∀base:Heap,K.In base→base.Ns mainGlobals mg→FnOk P w K mg base CX k fa fd [x] sp) (hbind:∀(s:Shared) (u:Value),BindsTo s fd ⟨[u],[]⟩ [(x,u)])
  (hsp:∀H:Hp,ZW H→SqL K H a (ns.map V.int)→sp [.ref a] H (fun v _=>v=.bl true) fun _ _ _=>False)
  (hCX:∀H e s',CX [] H s₁ (fun _ _ _=>False) e s'→False) :
  codeAny (model P w) callerA (.call (.ref fa) ⟨[.ref a],[]⟩) (fun r s'=>r=.ok (.ret (.bool true))∧OldK s₁.heap s'.heap∧s'.os=s₁.os∧AllBare s'.gens) s₁:=by
 have rv:=Q6 hi
 have lenV:=hi.length
 have core:∀H:Hp,ZW H→SqL K H a (ns.map V.int)→HOk P w H s₁.heap→(∀b,H b≠none→b=a)→(H a≠none→K.lookup a=none)→
   codeAny (model P w) callerA (.call (.ref fa) ⟨[.ref a],[]⟩) (fun r s'=>r=.ok (.ret (.bool true))∧OldK s₁.heap s'.heap∧s'.os=s₁.os∧AllBare s'.gens) s₁:=by
  intro H hO hS hok hA hK
  have base_of:∀{b:Addr} {o:Obj},s₁.heap.get? b=some o→H b=none→(qK s₁.heap H).get? b=some o:=fun e n=>JJ e n
  have noA:∀{b:Addr} {o:Obj} {es:Array DictEntry} {ep:Nat},s₁.heap.get? b=some o→o.data=.dict es ep→H b=none:=fun {b o es ep} e d=>by
   cases q:H b with
   |none=>rfl
   |some u =>
    have e':b=a:=hA b (by rw [q];simp)
    subst e'
    rw [ha] at e;cases e
    have d':Data.seq vs.toArray _=Data.dict es ep:=d
    cases d'
  have nsK:∀{b:Addr} {m:Str→Option Value},s₁.heap.Ns b m→(qK s₁.heap H).Ns b m:=fun {b m} ⟨o,es,ep,e,d,r⟩=>⟨o,es,ep,base_of e (noA e d),d,r⟩
  have hKb:K.In (qK s₁.heap H):=fun b o e=>base_of (KX b o e) (by
   cases q:H b with
   |none=>rfl
   |some u =>
    have e':b=a:=hA b (by rw [q];simp)
    subst e'
    rw [hK (by rw [q];simp)] at e;cases e)
  have hM:Mod K mg (qK s₁.heap H):=⟨hKb,nsK hns,⟨mb,nsK hb,hbb⟩,let ⟨mc,h1,h2⟩:=hlim;⟨mc,nsK h1,h2⟩⟩
  have e0:Env0 P w K mg (qK s₁.heap H) callerA [] s₁ H:=⟨rfl,hM,fun b o e=>dX e,Nat.le_of_eq (bW _ _),trivial,fun b hb=>absurd (show b∈([]:List Addr) from hb) (by simp),hok,.of_eq hg⟩
  refine codeAny_mono ((F _ hKb (nsK hns)).run callerA [] s₁ H ⟨[.ref a],[]⟩ [.ref a] [.ref a] _ _ hr e0 (hbind s₁ (.ref a)) (.cons rfl .nil) (hsp H hO hS)) fun r s' h=>?_
  cases r with
  |error e=>exact (hCX H e s' h).elim
  |ok fl =>
   cases fl with
   |next=>exact False.elim h
   |brk=>exact False.elim h
   |cont=>exact False.elim h
   |ret u =>
    obtain ⟨v,H',os,bare,un,hok',r',q⟩:=h
    have q':v=.bl true:=q
    subst q'
    obtain rfl:u=Value.bool true:=r'
    refine ⟨rfl,OldK.of_keep fun b o e=>?_,os,bare⟩
    cases q:H b with
    |none=>exact un.keep b o e q (by intro z;exact absurd (show b∈([]:List Addr) from z) (by simp)) (by simp)
    |some u =>
     rcases hO b with z|⟨ob,xs,z⟩
     ·rw [q] at z;cases z
     ·have z2:=un.frzs b ob _ z
      obtain ⟨e1,_⟩:=hok b _ z
      obtain ⟨e2,_⟩:=hok' b _ z2
      rw [e] at e1;cases e1
      exact e2
 cases hk:K.lookup a with
 |some o =>
  have e:=KX a o hk
  rw [ha] at e
  cases e
  refine core (fun _=>none) (fun _=>.inl rfl) (.inr ⟨_,vs.toArray,_,hk,rfl,rfl,rfl,by rw [List.size_toArray,lenV];exact hl,by simpa using rv⟩) (fun b u z=>by have z':(none:Option HO)=some u:=z;cases z') (fun b z=>absurd rfl z) fun z=>absurd rfl z
 |none =>
  refine core (fun b=>if b=a then some (.frz {cls:=.type "list",data:=.seq vs.toArray} (.lst (ns.map V.int))) else none) (fun b=>?_) (.inl (.inr ⟨{cls:=.type "list",data:=.seq vs.toArray},if_pos rfl⟩)) (fun b u z=>?_) (fun b z=>?_) fun _=>hk
  ·by_cases hb:b=a
   ·exact .inr ⟨_,_,if_pos hb⟩
   ·exact .inl (if_neg hb)
  ·by_cases hb:b=a
   ·have z':=(if_pos hb).symm.trans z
    cases z'
    subst hb
    exact ⟨ha,by rw [List.length_map];exact hl,vs,_,rv,ha⟩
   ·have z':=(if_neg hb).symm.trans z
    cases z'
  ·by_cases hb:b=a
   ·exact hb
   ·exact absurd (if_neg hb) z
end L2
namespace L2
open PySem PySem.Spec PyProof.Rows
abbrev KOf {K:PySem.W.Frag} {h:Heap} (_:K.In h):PySem.W.Frag:=K
theorem walk_of {l:PySem.W.OpenLaw} {n k:Nat} {q:Program} {loose:List Str} {XP:(Str→Option Value)→Heap→Prop} {YP:World→Heap→Prop} {d:DefRec} {K:Params→PySem.W.Frag} {CX:World→kP} {sp:World→Sp} {x:Str}
  (hn:l.most=some n) (hn2:n≤sizeLine) (hdf:d.params.defaults=[]) (hr:Room k callerA)
  (hY:∀(w:World) (h:Heap),YP w h→(K w.params).In h)
  (F:∀(w:World) (mg:Str→Option Value) (fa:Addr) (h:Heap),(K w.params).In h→h.Ns mainGlobals mg→mg d.name=some (.ref fa)→
   ∃fd:FuncData,(∀(s:Shared) (u:Value),BindsTo s fd ⟨[u],[]⟩ [(x,u)])∧
    ∀base:Heap,(K w.params).In base→base.Ns mainGlobals mg→FnOk l.prog w (K w.params) mg base (CX w) k fa fd [x] (sp w))
  (hsp:∀(w:World) (H:Hp) (a:Addr) (ns:List Int),ns.length≤n→ZW H→SqL (K w.params) H a (ns.map V.int)→sp w [.ref a] H (fun v _=>v=.bl true) fun _ _ _=>False)
  (hCX:∀(w:World) (H:Hp) (s:Shared) (e:Value) (s':Shared),CX w [] H s (fun _ _ _=>False) e s'→False) :
  PySem.W.WalkO q loose XP YP l.row.toRowW d [] (fun f vs=>PySem.call f vs):=by
 refine Att.attach_call hn hdf fun w s₀ s₁ mg mb fa o pm cd doc a vs ns G Y ho hd hcd hmg hobj hints hlen hg=>?_
 have KX:=hY w _ Y
 obtain ⟨fd,hb,hF⟩:=F w mg fa _ KX G.T.g hmg
 exact mC KX G.T.g G.T.b G.T.builtins G.T.nolimit hg hobj hints (Nat.le_trans hlen hn2) hr hF hb (fun H hO hS=>hsp w H a ns hlen hO hS) fun H e s'=>hCX w H s₁ e s'
end L2
/- THE LAST THEOREM (shape;LID,My.* are yours):
  My.Adr: a structure of the addresses that your layer names (classes,functions);My.Txt K t: a structure (Prop) of the equations over K;
  My.txt_mk:{K} {implicit addresses ..} (e1:nsIn K mainGlobals "law"=some (some (.ref f))) (e2:K.lookup f=some ⟨oc,od,.func (fnOf "law" "law" params body scope dV kV doc pm an cdv ct),sl⟩) (e3:codeIn K cdv "law"=true) .. : ∃t,My.Txt K t
set_option maxRecDepth 100000 in
set_option maxHeartbeats 0 in
theorem PySem.Challenge.cw_LID_holds : PySem.Challenge.rw_LID.Holds := by
 w_on;o_law;k_head;(case hw=>w_witness2)
 k_fill
 refine L2.walk_of (l:=PySem.Challenge.rw_LID) (n:=63) (k:=40) (x:="script") (CX:=fun w=>..) (sp:=fun _=>My.sp_law) rfl (by decide) rfl ⟨rfl,by decide,by decide⟩ (fun w h Y=>PySem.W.kIn_of Y) ?F ?S ?C
 case F =>
  intro w mg fa h KX G hmg
  have T:∃t,My.Txt (L2.KOf KX) t:=by
   dsimp only [L2.KOf] -- K must stand as «<heap const> w.params» for k_is
   refine' My.txt_mk ?e1 ?e2 ?e3 ..
   (case e1=>PySem.W.k_is) -- in the order: a name -> its address -> its object -> its parts
   (case e2=>PySem.W.k_is)
   ..
  obtain ⟨t,T⟩:=T
  have e0:=hmg.symm.trans (PySem.W.mg_of KX G T.law)
  cases e0 -- fa is the law's own address
  exact ⟨_,fun s u=>.of_eq rfl,fun base kb nb=>My.law_fn T kb nb⟩ -- if «.of_eq rfl» comes too early: refine' ⟨_,?b,fun base kb nb=>My.law_fn T kb nb⟩;exact fun s u=>.of_eq rfl
 case S=>exact fun w H a ns hl hO hS=>..
 case C=>exact ..
(the tactic k_is has no namespace: write k_is) -/
namespace L2
open PySem PySem.Spec PyProof.Rows
def j5 (s:Stmt):Arguments:=match s with
 |.FunctionDef _ a _ _ _ _ _ _ _ _=>a
 |_=>{posonlyargs:=[],args:=[],vararg:=none,kwonlyargs:=[],kw_defaults:=[],kwarg:=none,defaults:=[]}
def jT (s:Stmt):List Stmt:=match s with
 |.FunctionDef _ _ b _ _ _ _ _ _ _=>b
 |_=>[]
def jH (s:Stmt):Scope:=match s with
 |.FunctionDef _ _ _ _ _ _ sc _ _ _=>sc
 |_=>{kind:=.function,names:=[],isGenerator:=false,isCoroutine:=false}
abbrev jZ:kP:=fun _ _ _ _ _ _=>False
abbrev E0:XK:=fun _ _ _=>False
theorem ZS {X:Cx}:QJ jZ X E0:=fun _ _ _ _ _ _ _ h=>h.elim
structure Fun (K:PySem.W.Frag) (x qual:Str) (st:Stmt) (f:Addr) (fd:FuncData):Prop where
 ex:∃(oc:Value) (od:Option Addr) (kV doc pm:Value) (an:Option Addr) (cdv ct:Value) (osl:Array (Option Value)),
  fd=PySem.W.fnOf x qual (j5 st) (jT st) (jH st) .none kV doc pm an cdv ct∧K.lookup f=some ⟨oc,od,.func fd,osl⟩∧PySem.W.codeIn K cdv qual=true
 kp:PySem.W.keepIn K (.ref f)=true
section
variable {P:Program} {w:World} {K:PySem.W.Frag} {mg:Str→Option Value} {base:Heap}
theorem Fun.ok {x qual:Str} {st:Stmt} {f:Addr} {fd:FuncData} {N ps:List Str} {k:Nat} {sp:Sp} (F:Fun K x qual st f fd) (S:FnScope N ps (jH st)) (len:∀vs H Q E,sp vs H Q E→vs.length=ps.length)
  (hbody:∀(cdv:Value) (A:Around) (outer:List Env) (s:Shared) (H:Hp) (vs:List V) (Q:VK) (E:XK),Room k (A.deeper (envOfC qual (jH st) s.heap.objs.size f cdv))→sp vs H Q E→
   ∃t,PSs (qL jZ P w K mg base N qual (jH st) f cdv A outer s H E).nox (jT st) t∧t {nx:=fun _ H'=>Q .non H',rt:=Q} (kX N vs) H):FnOk P w K mg base jZ (k+1) f fd ps sp:=by
 obtain ⟨oc,od,kV,doc,pm,an,cdv,ct,osl,rfl,lk,hcd⟩:=F.ex
 refine QM lk hcd S len fun A outer s H vs Q E hr hsp=>?_
 obtain ⟨t,h,q⟩:=hbody cdv A outer s H vs Q E hr hsp
 exact ⟨t,h.nox,q⟩
theorem Fun.binds {x qual:Str} {st:Stmt} {f:Addr} {fd:FuncData} {ps:List Str} (F:Fun K x qual st f fd)
  (h:∀(kV doc pm:Value) (an:Option Addr) (cdv ct:Value) (us:List Value),us.length=ps.length→bindArgs (PySem.W.fnOf x qual (j5 st) (jT st) (jH st) .none kV doc pm an cdv ct) ⟨us,[]⟩=pure (ps.zip us)):Binds K fd ps []:=by
 obtain ⟨oc,od,kV,doc,pm,an,cdv,ct,osl,rfl,lk,hcd⟩:=F.ex
 exact .all (h kV doc pm an cdv ct)
theorem qA {x qual:Str} {st:Stmt} {f:Addr} {oc:Value} {od an:Option Addr} {osl:Array (Option Value)} {kV doc pm cdv ct:Value} (l:K.lookup f=some ⟨oc,od,.func (PySem.W.fnOf x qual (j5 st) (jT st) (jH st) .none kV doc pm an cdv ct),osl⟩)
  (c:PySem.W.codeIn K cdv qual=true) (k:PySem.W.keepIn K (.ref f)=true):Fun K x qual st f (PySem.W.fnOf x qual (j5 st) (jT st) (jH st) .none kV doc pm an cdv ct):=⟨⟨oc,od,kV,doc,pm,an,cdv,ct,osl,rfl,l,c⟩,k⟩
end
theorem kS {A:Around} {k:Nat} (hr:Room k A):A.units+1<cLine:=Nat.lt_of_le_of_lt (Nat.add_le_add_left (by decide:1≤64) _) hr.units
theorem QX {n:Nat} (h:n≤1000):n<sizeLine:=Nat.lt_of_le_of_lt h (by decide)
section
variable {X:Cx}
theorem pv (i:Nat) {x:Str} {pos:Pos} (hN:X.N[i]?=some x:=by rfl) (hv:JS X.env.scope x:=by first|exact Or.inl rfl|exact Or.inr (Or.inl rfl)|exact Or.inr (Or.inr rfl)) (hd:(x == ("__debug__":Str))=false:=by decide)
  (hcd:(x == ("__classdict__":Str))=false:=by decide):PE X (.Name x pos) (fI i):=eE hN hv hd hcd
end
theorem jU {A B:Prop} (h:B):if false=true then A else B:=by
 rw [if_neg Bool.false_ne_true]
 exact h
theorem kT {A B:Prop} (h:A):if true=true then A else B:=by
 rw [if_pos rfl]
 exact h
theorem kN {c A B:Prop} [Decidable c] (h1:c→A) (h2:¬c→B):if c then A else B:=by
 by_cases h:c
 ·rw [if_pos h]
  exact h1 h
 ·rw [if_neg h]
  exact h2 h
theorem yX {c A B:Prop} [Decidable c] (hc:c) (h:B):if (!decide c)=true then A else B:=by
 rw [decide_eq_true hc]
 exact jU h
def Same (H H':Hp):Prop:=∀b o,H b=some o→H' b=some o
theorem Same.refl (H:Hp):Same H H:=fun _ _ h=>h
theorem Same.trans {H H1 H2:Hp} (a:Same H H1) (b:Same H1 H2):Same H H2:=fun c o h=>b c o (a c o h)
theorem Same.free {H H':Hp} (e:Same H H') {l:Addr} (h:H' l=Option.none):H l=Option.none:=by
 cases q:H l with
 |none=>rfl
 |some o =>
  rw [e l o q] at h
  cases h
theorem Same.seq {K:PySem.W.Frag} {H H':Hp} {a:Addr} {xs:List V} (e:Same H H') (h:SqL K H a xs):SqL K H' a xs:=by
 rcases h with (h|⟨o,h⟩)|h
 ·exact .inl (.inl (e _ _ h))
 ·exact .inl (.inr ⟨o,e _ _ h⟩)
 ·exact .inr h
end L2
namespace L2
open PySem PySem.Spec PyProof.Rows
def qH (cells:List (Str×Addr)):List (Str×NameKind)→List (Str×Addr)→List (Str×Addr)
 |[],cs=>cs
 | (n,k)::r,cs=>if (k == NameKind.free)=true then qH cells r ((n,(cells.lookup n).getD 0)::cs) else qH cells r cs
theorem Z6 {scope:Scope} {env:Env} (h:∀x∈scope.names,x.2=.free→∃c,env.cells.lookup x.1=some c):closureFor scope env=pure (qH env.cells scope.names []):=by
 simp only [closureFor]
 have go:∀(l:List (Str×NameKind)) (cs:List (Str×Addr)),(∀x∈l,x.2=.free→∃c,env.cells.lookup x.1=some c)→
   (forIn l cs fun x r=>match x with|(name,kind)=>if (kind == NameKind.free)=true then do let a ← cellOf env name;pure (ForInStep.yield ((name,a)::r)) else pure (ForInStep.yield r):Sem (List (Str×Addr)))=pure (qH env.cells l cs):=by
  intro l
  induction l with
  |nil=>intro cs _;rfl
  |cons p r ih =>
   intro cs hp
   obtain ⟨n,k⟩:=p
   rw [List.forIn_cons]
   have hr:=fun cs=>ih cs fun x hx=>hp x (List.mem_cons_of_mem _ hx)
   by_cases hk:(k == NameKind.free)=true
   ·have hk':k=NameKind.free:=by simpa using hk
    obtain ⟨c,hc⟩:=hp (n,k) List.mem_cons_self hk'
    have hc':env.cells.lookup n=some c:=hc
    simp only [hk,if_true,qH,cellOf,hc',Option.getD_some,pure_bind]
    exact hr _
   ·simp only [hk,if_false,qH,pure_bind]
    exact hr _
 rw [go scope.names [] h]
 rfl
theorem JZ {cells:List (Str×Addr)}:∀{l:List (Str×NameKind)} {cs:List (Str×Addr)} {x:Str} {c:Addr},(∀y∈l,y.2=.free→∃c,cells.lookup y.1=some c)→(∀y d,cs.lookup y=some d→cells.lookup y=some d)→
  (qH cells l cs).lookup x=some c→cells.lookup x=some c
 |[],cs,x,c,_,hc,e=>hc x c e
 | (n,k)::r,cs,x,c,hl,hc,e=>by
  unfold qH at e
  by_cases hk:(k == NameKind.free)=true
  ·rw [if_pos hk] at e
   obtain ⟨d,hd⟩:=hl (n,k) List.mem_cons_self (by simpa using hk)
   have hd':cells.lookup n=some d:=hd
   refine JZ (fun y hy=>hl y (List.mem_cons_of_mem _ hy)) (fun y d' q=>?_) e
   rw [List.lookup_cons] at q
   by_cases hy:(y == n)=true
   ·rw [hy] at q
    have hyn:y=n:=by simpa using hy
    subst hyn
    rw [hd'] at q ⊢
    exact q
   ·rw [Bool.not_eq_true] at hy
    rw [hy] at q
    exact hc y d' q
  ·rw [if_neg hk] at e
   exact JZ (fun y hy=>hl y (List.mem_cons_of_mem _ hy)) hc e
theorem Q3 {cells:List (Str×Addr)}:∀{l:List (Str×NameKind)} {cs:List (Str×Addr)} {x:Str},(∃c,cs.lookup x=some c)→∃c,(qH cells l cs).lookup x=some c
 |[],_,_,h=>h
 | (n,k)::r,cs,x,h=>by
  unfold qH
  by_cases hk:(k == NameKind.free)=true
  ·rw [if_pos hk]
   refine Q3 ?_
   rw [List.lookup_cons]
   by_cases hy:(x == n)=true
   ·rw [hy];exact ⟨_,rfl⟩
   ·rw [Bool.not_eq_true] at hy
    rw [hy];exact h
  ·rw [if_neg hk];exact Q3 h
theorem J5 {cells:List (Str×Addr)}:∀{l:List (Str×NameKind)} {cs:List (Str×Addr)} {x:Str},(x,NameKind.free)∈l→∃c,(qH cells l cs).lookup x=some c
 | (n,k)::r,cs,x,h=>by
  unfold qH
  rcases List.mem_cons.mp h with e|e
  ·cases e
   rw [if_pos (by rfl)]
   exact Q3 (by rw [List.lookup_cons,beq_self_eq_true];exact ⟨_,rfl⟩)
  ·by_cases hk:(k == NameKind.free)=true
   ·rw [if_pos hk];exact J5 e
   ·rw [if_neg hk];exact J5 e
theorem lK {prog:Program} {w:World} {A:Around} {elt target iter:Expr} {ifs:List Expr} {scope:Scope} {pos:Pos} {it acc:Value} {env:Env} {R:Result→Shared→Prop} {s:Shared} (I:Nat→Shared→Prop)
  (turn:∀n s,I n s→wpAny (model prog w) A (pyNext it) (fun r s₁=>match r with
   |none=>R (.ok .next) s₁
   |some v=>wpAny (model prog w) A (letOwnedTupleGo target it v) (fun _ s₁'=>wpAny (model prog w) A (assign target env v) (fun _ s₂ =>
     wpAny (model prog w) A (forIn ifs true fun c r=>if r=true then do let ok ← isTrue c env (eval c env);pure (ForInStep.yield ok) else pure (ForInStep.yield r)) (fun ok s₃ =>
      if ok=true then wpAny (model prog w) A (eval elt env) (fun x s₄ =>
       wpAny (model prog w) A (call (.builtin "list.append") [acc,x]) (fun _ s₅=>∃m,m<n∧I m s₅) (fun _ _=>False) s₄) (fun _ _=>False) s₃
      else ∃m,m<n∧I m s₃) (fun _ _=>False) s₂) (fun _ _=>False) s₁') (fun _ _=>False) s₁) (fun _ _=>False) s)
  (n:Nat) (h:I n s):codeAny (model prog w) A (.compLoop (.ListComp elt [⟨target,iter,ifs,0⟩] scope pos) 0 it acc env) R s:=by
 refine codeAny_loop rfl I (fun n s hI=>?_) n h
 show wpAny _ A ((compTurn (.ListComp elt [⟨target,iter,ifs,0⟩] scope pos) 0 it acc env).onRaise (fun x=>do noteFrame x env;theTreesLotGoes x)) _ _ s
 refine wpAny_noted ?_
 rw [compTurn_list]
 refine wpAny_bind (wpAny_standAt (wpAny_bind (wpAny_mono (turn n s hI) (fun r s₁ h₁=>?_) fun _ _ h'=>h'.elim)))
 cases r with
 |none=>exact wpAny_pure h₁
 |some v =>
  refine wpAny_bind (wpAny_mono h₁ (fun _ s₁' h₁'=>?_) fun _ _ h'=>h'.elim)
  refine wpAny_bind (wpAny_mono h₁' (fun _ s₂ h₂=>wpAny_bind (wpAny_mono h₂ (fun ok s₃ h₃=>?_) fun _ _ h'=>h'.elim)) fun _ _ h'=>h'.elim)
  cases ok with
  |false=>exact wpAny_pure ⟨rfl,h₃⟩
  |true =>
   exact wpAny_bind (wpAny_bind (wpAny_mono h₃ (fun x s₄ h₄=>wpAny_bind (wpAny_mono h₄ (fun _ s₅ h₅=>wpAny_pure (wpAny_pure ⟨rfl,h₅⟩)) fun _ _ h'=>h'.elim)) fun _ _ h'=>h'.elim))
def kQ (X:Cx) (N:List Str) (scope:Scope) (C:Addr) (s:Shared) (H:Hp) (pins:List (Addr×Obj)) (fp:List Addr):Cx where
 prog:=X.prog
 w:=X.w
 K:=X.K
 mg:=X.mg
 base:=X.base
 A:=X.A
 N:=N
 s₀:=s
 H₀:=H
 env:=compEnvC scope (qH X.env.cells scope.names []) C X.env
 outer:=X.stack
 stack:=X.stack
 ex:=fp
 fn:=fun _=>false
 calm:=X.calm
 pn:=X.pn++pins
 xe:=fun _ _=>False
structure CompScope (X:Cx) (scope:Scope):Prop where
 kind:scope.kind=.function
 nocell:∀y∈scope.names,y.2≠.cell
 names:∀y∈scope.names,y.2=.local→scope.names.lookup y.1=some .local
 free:∀y∈scope.names,y.2=.free→X.env.kindOf y.1=some .cell∨X.env.kindOf y.1=some .free
theorem QZ {env:Env} {x:Str}:∀{names:List (Str×NameKind)} {k:NameKind},(names.map fun (n,k)=>if (k == NameKind.free&&env.scope.kind == .function&&env.kindOf n == some .cell) then (n,NameKind.cell) else (n,k)).lookup x=some k→
  ∃k',names.lookup x=some k'∧(k'=k∨(k'=.free∧k=.cell∧env.kindOf x=some .cell))
 |[],k,h=>by simp at h
 | (n,k0)::r,k,h=>by
  have ih:=@QZ env x r k
  have h':List.lookup x ((if (k0 == NameKind.free&&env.scope.kind == .function&&env.kindOf n == some .cell)=true then (n,NameKind.cell) else (n,k0))::r.map fun (n,k)=>if (k == NameKind.free&&env.scope.kind == .function&&env.kindOf n == some .cell)=true then (n,NameKind.cell) else (n,k))=some k:=h
  by_cases hc:(k0 == NameKind.free&&env.scope.kind == .function&&env.kindOf n == some .cell)=true
  ·rw [if_pos hc] at h'
   rw [List.lookup_cons] at h'
   cases hx:x == n with
   |true =>
    rw [hx] at h'
    have hk:NameKind.cell=k:=Option.some.inj h'
    simp only [Bool.and_eq_true,beq_iff_eq] at hc
    have hxn:x=n:=by simpa using hx
    refine ⟨k0,by rw [List.lookup_cons,hx],.inr ⟨hc.1.1,hk.symm,by rw [hxn];exact hc.2⟩⟩
   |false =>
    rw [hx] at h'
    obtain ⟨k',e1,e2⟩:=ih h'
    exact ⟨k',by rw [List.lookup_cons,hx];exact e1,e2⟩
  ·rw [if_neg hc] at h'
   rw [List.lookup_cons] at h'
   cases hx:x == n with
   |true =>
    rw [hx] at h'
    exact ⟨k0,by rw [List.lookup_cons,hx],.inl (Option.some.inj h')⟩
   |false =>
    rw [hx] at h'
    obtain ⟨k',e1,e2⟩:=ih h'
    exact ⟨k',by rw [List.lookup_cons,hx];exact e1,e2⟩
theorem Q0 {α:Type}:∀{l:List (Str×α)} {x:Str} {k:α},l.lookup x=some k→(x,k)∈l
 |[],_,_,h=>by simp at h
 | (n,a)::r,x,k,h=>by
  rw [List.lookup_cons] at h
  cases hx:x == n with
  |true =>
   rw [hx] at h
   have e:a=k:=Option.some.inj h
   have hxn:x=n:=by simpa using hx
   subst e;subst hxn
   exact List.mem_cons_self
  |false =>
   rw [hx] at h
   exact List.mem_cons_of_mem _ (Q0 h)
def JT (X:Cx) (ifs:List Expr) (t:TT):Prop :=
 ∀(pins:List (Addr×Obj)) (s:Shared) (σ:St) (H:Hp) (Q:Bool→Hp→Prop),Inv X pins σ H s→t σ H Q→
  wpAny (model X.prog X.w) X.A (forIn ifs true fun c r=>if r=true then do let ok ← isTrue c X.env (eval c X.env);pure (ForInStep.yield ok) else pure (ForInStep.yield r)) (TP X pins σ Q) X.xe s
def fH:TT:=fun _ H Q=>Q true H
theorem Z4 {X:Cx}:JT X [] fH:=fun _ _ _ H _ I h=>wpAny_tests_nil ⟨H,I,h⟩
theorem ZF {X:Cx} {c:Expr} {t:TT} (hc:PT X c t):JT X [c] t:=fun pins s σ H Q I h=>wpAny_tests_one (hc pins s σ H Q I h)
def z3 (D:Addr) (J:It) (g:TG) (tc:TT) (te:TE) (σ₀:St) (H:Hp) (Q:Hp→Prop):Prop :=
 ∃W:Nat→Nat→St→Hp→Prop,(∃m,W 0 m σ₀ (jB H D (.lst [])))∧∀i m σ' H',W i m σ' H'→
  (J.stop i H'∧Q H')∨(J.go i H'∧∃N:St→Hp→Prop,(∀σ'' H'',N σ'' H''→∃m',m'<m∧W (i+1) m' σ'' H'')∧∀x H2,J.yld i H' x H2→g x σ' H2 fun σ2 H3=>tc σ2 H3 fun b H4 =>
   if b=true then te σ2 H4 fun v H5=>∃xs,H5 D=some (.lst xs)∧xs.length<sizeLine∧N σ2 (jB H5 D (.lst (xs++[v]))) else N σ2 H4)
def pC (wi:TI) (cap:St→St) (g:TG) (tc:TT) (te:TE):TE:=fun σ H Q=>wi σ H fun J H1=>∀D,H1 D=none→z3 D J g tc te (cap σ) H1 fun H'=>Q (.ref D) H'
def lO (i:Nat) (wi:TI) (cap:St→St) (g:TG) (tc:TT) (te:TE):TS:=fun D σ H=>wi σ H fun J H1=>∀d,H1 d=none→z3 d J g tc te (cap σ) H1 fun H'=>D.nx (σ.set i (some (.ref d))) H'
def z7 (X:Cx) (N:List Str) (scope:Scope) (cap:St→St):Prop :=
 ∀σ:St,σ.length=X.N.length→(cap σ).length=N.length∧∀(i:Nat) (x:Str) (v:V),N[i]?=some x→(cap σ)[i]?=some (some v)→scope.names.lookup x=some .free∧∃j:Nat,X.N[j]?=some x∧σ[j]?=some (some v)
def v3 (n:Nat) (js:List Nat):St→St:=fun σ=>List.replicate n none++js.map fun j=>(σ[j]?).join
theorem y7 {X:Cx} {N:List Str} {scope:Scope} (n:Nat) (js:List Nat) (h1:N.length=n+js.length) (h2:js.map (fun j=>X.N[j]?)=(N.drop n).map some) (h3:∀x∈N.drop n,scope.names.lookup x=some .free):z7 X N scope (v3 n js):=by
 intro σ hσ
 refine ⟨by unfold v3;rw [List.length_append,List.length_replicate,List.length_map,h1],fun i x v e1 e2=>?_⟩
 unfold v3 at e2
 by_cases hi:i<n
 ·rw [List.getElem?_append_left (by simpa using hi),List.getElem?_replicate,if_pos hi] at e2
  cases e2
 ·rw [List.getElem?_append_right (by simpa using hi),List.length_replicate,List.getElem?_map] at e2
  cases hj:js[i - n]? with
  |none=>rw [hj] at e2;cases e2
  |some j =>
   rw [hj] at e2
   have e3:(σ[j]?).join=some v:=Option.some.inj e2
   have e4:σ[j]?=some (some v):=by
    cases q:σ[j]? with
    |none=>rw [q] at e3;cases e3
    |some o =>
     rw [q] at e3
     have e5:o=some v:=e3
     rw [e5]
   have hd:(N.drop n)[i - n]?=some x:=by
    rw [List.getElem?_drop,show n+(i - n)=i by omega]
    exact e1
   have e5:=congrArg (fun l=>l[i - n]?) h2
   simp only [List.getElem?_map,hj,hd,Option.map_some] at e5
   exact ⟨h3 x (List.mem_of_getElem? hd),j,Option.some.inj e5,e4⟩
theorem JA {X:Cx} {scope:Scope} (sc:Scope) (hsc:X.env.scope=sc) (kind:scope.kind=.function) (nocell:∀y∈scope.names,y.2≠.cell) (names:∀y∈scope.names,y.2=.local→scope.names.lookup y.1=some .local)
  (free:∀y∈scope.names,y.2=.free→sc.names.lookup y.1=some .cell∨sc.names.lookup y.1=some .free):CompScope X scope:=⟨kind,nocell,names,fun y hy hf=>by
 subst hsc
 exact free y hy hf⟩
section
variable {X:Cx} {N:List Str} {scope:Scope} {pins:List (Addr×Obj)} {σ:St} {H:Hp} {s:Shared} {fp:List Addr}
theorem J4 (S:CompScope X scope) (I:Inv X pins σ H s):∀y∈scope.names,y.2=.free→∃c,X.env.cells.lookup y.1=some c:=fun y hy hf=>I.ok.has y.1 (S.free y hy hf)
theorem mH {cap:St→St} {D C:Addr} {h₁:Heap} {t':Nat} {m:Str→Option Value} (S:CompScope X scope) (I:Inv X pins σ H s) (hcap:z7 X N scope cap) (hf:∀b∈fp,vN X pins H b) (hfo:∀b∈fp,∃o,s.heap.get? b=some o)
  (hD:s.heap.objs.size≤D) (hC:s.heap.objs.size≤C) (hDC:D≠C) (old:∀b o,s.heap.get? b=some o→h₁.get? b=some o) (hns:h₁.Ns C m) (hl:h₁.get? D=some {cls:=.type "list",data:=.seq ([]:List Value).toArray}) :
  Inv (kQ X N scope C s H pins fp) [] (cap σ) (jB H D (.lst [])) {s with heap:=h₁,toks:=t'}:=by
 have cellsOk:=J4 S I
 have look:∀x c,(qH X.env.cells scope.names []).lookup x=some c→X.env.cells.lookup x=some c:=fun x c e=>JZ cellsOk (fun y d q=>by simp at q) e
 have lt:∀{b:Addr} {o:Obj},s.heap.get? b=some o→b<s.heap.objs.size:=fun e=>Heap.lt_size e
 have cellLt:∀x c,X.env.cells.lookup x=some c→c<s.heap.objs.size:=fun x c e=>by
  obtain ⟨v,o,ho,_⟩:=I.cell x c e
  exact lt ho
 have nD:H D=none:=I.hok.fresh hD
 have nC:H C=none:=I.hok.fresh hC
 have stkNe:∀b:Addr,b≠X.env.locals→b∉X.fs→b∉j9 X.stack:=fun b h1 h2 z=>by
  rcases List.mem_cons.mp (I.stkSub b z) with e|e
  ·exact h1 e
  ·exact h2 e
 refine ⟨⟨I.ok.mod,S.kind,I.ok.glob,I.ok.blt,hC,fun x y c h1 h2=>I.ok.inj x y c (look x c h1) (look y c h2),fun x hx=>?_,fun x c hfn _=>(nomatch hfn),I.ok.hd,I.ok.frames,.inl rfl,fun b hb=>⟨?_,fun x c e=>(hf b hb).2.2.2.2.1 x c (look x c e)⟩,
   I.bs,Nat.le_trans I.ok.bsz I.sz,fun b o e hb=>?_,fun b hb=>stkNe b (hf b hb).2.1 (hf b hb).2.2.1,I.stack,I.stkFree⟩,
  rfl,I.bare,Un.laid old hD nD,⟨m,hns,fun i x v h1 h2 h3=>?_⟩,fun x c e=>?_,?_,fun x c e=>?_,fun p hp=>?_,?_,(hcap σ I.len).1⟩
 ·-- has
  have hx':∃k,(relabel scope X.env).names.lookup x=some k∧(k=.cell∨k=.free):=by
   rcases hx with e|e
   ·exact ⟨_,e,.inl rfl⟩
   ·exact ⟨_,e,.inr rfl⟩
  obtain ⟨k,e,hk⟩:=hx'
  obtain ⟨k',e1,e2⟩:=QZ e
  have hm:=Q0 e1
  have hfree:k'=.free:=by
   rcases e2 with e2|e2
   ·subst e2
    rcases hk with hk|hk
    ·subst hk
     exact absurd rfl (S.nocell _ hm)
    ·exact hk
   ·exact e2.1
  subst hfree
  exact J5 hm
 ·obtain ⟨o,ho⟩:=hfo b hb
  exact Nat.ne_of_lt (Nat.lt_of_lt_of_le (lt ho) hC)
 ·rcases (hf b hb).2.2.2.1 with z|z
  ·exact I.ok.noex b o e z
  ·exact absurd (Nat.lt_of_lt_of_le (Heap.lt_size e) (Nat.le_trans I.ok.bsz z)) (Nat.lt_irrefl _)
 ·-- names
  obtain ⟨hfr,j,hj,hv⟩:=(hcap σ I.len).2 i x v h1 h2
  have hm:=Q0 hfr
  have hk:=S.free _ hm rfl
  obtain ⟨m0,_,hl0⟩:=I.loc
  have vis:JS X.env.scope x:=by
   rcases hk with k|k
   ·exact .inr (.inl k)
   ·exact .inr (.inr k)
  obtain ⟨u,r,l⟩:=hl0 j x v hj hv vis
  refine ⟨u,r,.inr ⟨?_,?_⟩⟩
  ·have hvis:∃k,(relabel scope X.env).names.lookup x=some k:=by
    rcases h3 with e|e|e<;>exact ⟨_,e⟩
   obtain ⟨k,e⟩:=hvis
   obtain ⟨k',e1,e2⟩:=QZ e
   rw [hfr] at e1
   cases e1
   rcases e2 with e2|e2
   ·subst e2;exact .inr e
   ·rw [e2.2.1] at e;exact .inl e
  ·rcases l with ⟨k,_⟩|⟨_,c,hc,hcell⟩
   ·exfalso
    rcases hk with q|q
    ·have q':X.env.kindOf x=some .cell:=q
     rw [k] at q';cases q'
    ·have q':X.env.kindOf x=some .free:=q
     rw [k] at q';cases q'
   ·obtain ⟨c',e'⟩:=J5 (cells:=X.env.cells) (cs:=[]) hm
    have e2:=look x c' e'
    have e2':X.env.cells.lookup x=some c':=e2
    rw [hc] at e2'
    cases e2'
    obtain ⟨o,ho,hd⟩:=hcell
    exact ⟨c,e',o,old _ _ ho,hd⟩
 ·obtain ⟨v,o,ho,hd⟩:=I.cell x c (look x c e)
  exact ⟨v,o,old _ _ ho,hd⟩
 ·show jB H D (.lst []) C=none
  rw [jD (Ne.symm hDC)]
  exact nC
 ·have hc:=look x c e
  rw [jD (Nat.ne_of_lt (Nat.lt_of_lt_of_le (cellLt x c hc) hD))]
  exact I.freeC x c hc
 ·have hp':p∈X.pn++pins:=by
   rcases List.mem_append.mp hp with z|z
   ·exact z
   ·cases z
  obtain ⟨e,n,ne,nf,d⟩:=I.pin p hp'
  refine ⟨old _ _ e,?_,Nat.ne_of_lt (Nat.lt_of_lt_of_le (lt e) hC),stkNe p.1 ne nf,d⟩
  rw [jD (Nat.ne_of_lt (Nat.lt_of_lt_of_le (lt e) hD))]
  exact n
 ·refine I.hok.laid old hD ?_
  exact ⟨Nat.zero_le _,[],0,.nil,hl⟩
theorem bZ {σ':St} {H':Hp} {s':Shared} {C:Addr} {σc:St} {Nc:List Str} (I:Inv X pins σ H s) (hf:∀b∈fp,vN X pins H b) (J:Inv (kQ X Nc scope C s H pins fp) [] σc H' s'):Inv X pins σ H' s':=by
 refine I.call' (ch:=fp) J.os J.base J.hok J.bare fun b hb=>?_
 obtain ⟨_,h2,_,h4,h5,h6⟩:=hf b hb
 exact ⟨h4,h2,h5,h6⟩
theorem dD {σ':St} {H':Hp} {s':Shared} {C:Addr} {h':Heap} (I:Inv X pins σ H s) (hC:s.heap.objs.size≤C) (J:Inv X pins σ' H' s') (hn:H' C=none) (sb:Heap.SameBut C s'.heap h'):Inv X pins σ' H' {s' with heap:=h'}:=by
 refine J.turned (t':=s'.toks) (it:=C) (fun b o hb e=>(sb.2 b hb).trans e) hn (Nat.ne_of_gt (Nat.lt_of_lt_of_le I.lt hC)) (.inr (Nat.le_trans I.sz hC)) (fun x c e z=>?_) fun p hp z=>?_
 ·obtain ⟨v,q⟩:=I.cell x c e
  exact absurd (Nat.lt_of_lt_of_le q.lt (by rw [z];exact hC)) (Nat.lt_irrefl _)
 ·exact absurd (Nat.lt_of_lt_of_le (Heap.lt_size (I.pin p hp).1) (by rw [z];exact hC)) (Nat.lt_irrefl _)
theorem dC {tg iter elt:Expr} {ifs:List Expr} {pos:Pos} {cap:St→St} {g:TG} {tc:TT} {te:TE} {J:It} {it:Addr} {tn:Nat→Heap→Prop} {Q:Addr→Hp→Prop} {RR:Value→Addr→Result→Shared→Prop}
  (hcalm:X.calm=true) (S:CompScope X scope) (hcap:z7 X N scope cap) (I:Inv X pins σ H s) (T:Turn X.prog X.w X.K tg J fp it tn) (st:tn 0 s.heap) (hf:∀b∈fp,vN X pins H b)
  (hg:∀C,PG (kQ X N scope C s H pins fp) tg g) (hc:∀C,JT (kQ X N scope C s H pins fp) ifs tc) (he:∀C,PE (kQ X N scope C s H pins fp) elt te)
  (hq:∀D,H D=none→z3 D J g tc te (cap σ) H (Q D))
  (hRR:∀D C σc H' s',s.heap.objs.size≤C→Inv (kQ X N scope C s H pins fp) [] σc H' s'→Q D H'→RR (.ref D) C (.ok .next) s') :
  wpAny (model X.prog X.w) X.A (newList []) (fun acc s₃=>wpAny (model X.prog X.w) X.A (newFunctionEnv scope X.env.globals (qH X.env.cells scope.names []) [] X.env.qual none .none (some X.env)) (fun cenv s₄ =>
   codeAny (model X.prog X.w) X.A (.compStart (.ListComp elt [⟨tg,iter,ifs,0⟩] scope pos) 0 (.ref it) acc {cenv with scope:=relabel scope X.env}) (RR acc cenv.locals) s₄) X.xe s₃) X.xe s:=by
 refine wpAny_newObj_type (wpAny_newFunctionEnv S.nocell (by intro y hy;simp at hy) (fun h₁ hns₁ hsb₁=>?_) S.kind)
 dsimp only at hns₁ hsb₁ ⊢
 generalize hH2:s.heap.push {cls:=.type "list",dict:=none,data:=.seq ([]:List Value).toArray}=H2 at hns₁ hsb₁ ⊢
 have hC:H2.objs.size=s.heap.objs.size+1:=by rw [← hH2,Heap.size_push]
 have hDC:s.heap.objs.size≠H2.objs.size:=by rw [hC];exact Nat.ne_of_lt (Nat.lt_succ_self _)
 have hCle:s.heap.objs.size≤H2.objs.size:=by rw [hC];exact Nat.le_succ _
 have below:∀b,b<s.heap.objs.size→b≠H2.objs.size:=fun b hb=>by rw [hC];exact Nat.ne_of_lt (Nat.lt_succ_of_lt hb)
 have old:∀b o,s.heap.get? b=some o→h₁.get? b=some o:=fun b o e=>hsb₁.extBut b o (below b (Heap.lt_size e)) (Heap.get?_push_of_some _ (hH2▸Heap.get?_push_of_some _ e))
 have hacc:h₁.get? s.heap.objs.size=some {cls:=.type "list",data:=.seq ([]:List Value).toArray}:=hsb₁.extBut _ _ hDC (Heap.get?_push_of_some _ (hH2▸Heap.get?_push_size _ rfl))
 have obj0:=T.obj 0 s.heap st
 have I1:∀t',Inv (kQ X N scope H2.objs.size s H pins fp) [] (cap σ) (jB H s.heap.objs.size (.lst [])) {s with heap:=h₁,toks:=t'}:=fun t' =>
  mH S I hcap hf (fun b hb=>let ⟨o,e,_⟩:=obj0 b hb;⟨o,e⟩) (Nat.le_refl _) hCle hDC old hns₁ hacc
 have st1:tn 0 h₁:=T.keep 0 s.heap h₁ st fun b _ o e=>old b o e
 have stat:∀{H':Hp},(∀b∈fp,H' b=none)→∀b∈fp,vN (kQ X N scope H2.objs.size s H pins fp) [] H' b:=fun hn b hb=>by
  obtain ⟨_,h2,h3,h4,h5,h6⟩:=hf b hb
  obtain ⟨o,ho,_⟩:=obj0 b hb
  refine ⟨hn b hb,below b (Heap.lt_size ho),?_,.inl hb,fun x c e=>h5 x c (JZ (J4 S I) (fun y d q=>by simp at q) e),fun p hp=>?_⟩
  ·intro z
   rcases List.mem_cons.mp (I.stkSub b z) with e|e
   ·exact h2 e
   ·exact h3 e
  ·rcases List.mem_append.mp hp with z|z
   ·exact h6 p z
   ·cases z
 have fr1:∀b∈fp,jB H s.heap.objs.size (.lst []) b=none:=fun b hb=>by
  obtain ⟨o,ho,_⟩:=obj0 b hb
  rw [jD (Nat.ne_of_lt (Heap.lt_size ho))]
  exact (hf b hb).1
 obtain ⟨W,⟨m0,w0⟩,turn⟩:=hq s.heap.objs.size (I.hok.fresh (Nat.le_refl _))
 have loop:∀s₃:Shared,s₃={s with heap:=h₁,toks:=s.toks+([]:List (Str×Value)).length}→
   codeAny (model X.prog X.w) X.A (.compLoop (.ListComp elt [⟨tg,iter,ifs,0⟩] scope pos) 0 (.ref it) (.ref s.heap.objs.size) (compEnvC scope (qH X.env.cells scope.names []) H2.objs.size X.env))
    (RR (.ref s.heap.objs.size) H2.objs.size) s₃:=by
  rintro s₃ rfl
  refine lK (fun n s'=>∃i σ' H',Inv (kQ X N scope H2.objs.size s H pins fp) [] σ' H' s'∧tn i s'.heap∧(∀b∈fp,H' b=none)∧W i n σ' H') ?_ m0 ⟨0,cap σ,_,I1 _,st1,fr1,w0⟩
  rintro n s3 ⟨i,σ3,H3,I3,st3,fr3,w3⟩
  rcases turn i n σ3 H3 w3 with ⟨stop,qn⟩|⟨go,Nn,hN,step⟩
  ·refine jG (T.done (kQ X N scope H2.objs.size s H pins fp) rfl rfl rfl hcalm i [] s3 σ3 H3 (fun _ _=>False) I3 (stat fr3) st3 stop) fun r s4 ⟨hr,I4⟩=>?_
   subst hr
   exact hRR _ _ σ3 H3 s4 hCle I4 qn
  ·refine jG (T.item (kQ X N scope H2.objs.size s H pins fp) rfl rfl rfl hcalm i [] s3 σ3 H3 (fun _ _=>False) I3 (stat fr3) st3 go) fun r s4 ⟨u,hr,h4⟩=>?_
   subst hr
   refine jG h4 fun _ s5 ⟨x,H5,I5,r5,y5,st5,fr5⟩=>?_
   have I5':=I5.pinned (stat fr5) (T.obj _ _ st5)
   have again:∀{σ7:St} {H7:Hp} {s7:Shared},Inv (kQ X N scope H2.objs.size s H pins fp) ([]++JM fp s5.heap) σ7 H7 s7→Nn σ7 H7→
     ∃m,m<n∧∃i σ' H',Inv (kQ X N scope H2.objs.size s H pins fp) [] σ' H' s7∧tn i s7.heap∧(∀b∈fp,H' b=none)∧W i m σ' H':=fun {σ7 H7 s7} I7 n7=>by
    obtain ⟨m',hm,w7⟩:=hN σ7 H7 n7
    refine ⟨m',hm,i+1,σ7,H7,I7.unpinned,T.keep _ _ _ st5 fun b hb o e=>(I7.pin (b,o) (List.mem_append_right _ (List.mem_append_right _ (J3 hb e)))).1,fun b hb=>?_,w7⟩
    obtain ⟨o,e,d⟩:=T.obj _ _ st5 b hb
    exact (I7.pin (b,o) (List.mem_append_right _ (List.mem_append_right _ (J3 hb e)))).2.1
   refine jG (hg _ _ s5 σ3 H5 x u _ I5' r5 (step x H5 y5)) fun _ s6 ⟨σ6,H6,I6,q6⟩=>?_
   refine jG (hc _ _ s6 σ6 H6 _ I6 q6) fun ok s7 ⟨H7,I7,q7⟩=>?_
   cases ok with
   |false=>exact again I7 q7
   |true =>
    refine jG (he _ _ s7 σ6 H7 _ I7 q7) fun v s8 ⟨y,H8,I8,r8,xs,hD8,hz8,n8⟩=>?_
    refine jG (yQ _ s8 σ6 H8 (.ref s.heap.objs.size) [y] (.ref s.heap.objs.size) [v] (fun _ H9=>Nn σ6 H9) I8 rfl (.cons r8 .nil) ⟨_,_,_,rfl,rfl,hD8,hz8,n8⟩) fun _ s9 ⟨_,H9,I9,_,n9⟩=>?_
    exact again I9 n9
 exact codeAny_compStart_list (loop _ rfl) (wpAny_mono (T.self X.A 0 _ (fun v s'=>v=.ref it∧s'=_) (fun _ _=>False) st1 ⟨rfl,rfl⟩) (fun v s' ⟨e1,e2⟩=>by subst e1;subst e2;exact loop _ rfl) fun _ _ z=>z.elim)
theorem dW {tg iter elt:Expr} {ifs:List Expr} {pos:Pos} {wi:TI} {g:TG} {tc:TT} {te:TE} (N:List Str) (cap:St→St) (hcalm:X.calm=true) (S:CompScope X scope) (hcap:z7 X N scope cap) (hi:PI X tg iter wi)
  (hg:∀C s H pins fp,PG (kQ X N scope C s H pins fp) tg g) (hc:∀C s H pins fp,JT (kQ X N scope C s H pins fp) ifs tc) (he:∀C s H pins fp,PE (kQ X N scope C s H pins fp) elt te)
  (hs:∀x,foldedSetIterable iter X.env x=pure x:=by intro _;rfl):PE X (.ListComp elt [⟨tg,iter,ifs,0⟩] scope pos) (pC wi cap g tc te):=by
 intro pins s σ H Q I h
 rw [eval_ListComp]
 refine wpAny_comprehension_free (use:=none) rfl hs (Z6 (J4 S I)) S.kind S.names (jG (hi pins s σ H _ I h) fun v s1 h1=>jG h1 fun itv s2 h2=>?_)
 obtain ⟨it,fp,tn,J,H2,e,I2,T,st2,f2,q2⟩:=h2
 subst e
 refine dC (RR:=fun acc C=>compPost (model X.prog X.w) X.A X.xe none (EP X pins σ Q) acc C) (Q:=fun D H'=>Q (.ref D) H') hcalm S hcap I2 T st2 f2 (fun C=>hg C _ _ _ _) (fun C=>hc C _ _ _ _) (fun C=>he C _ _ _ _) q2 ?_
 intro D C σc H' s' hC Jc q
 obtain ⟨m,hn,_⟩:=Jc.loc
 refine ⟨m,hn,fun h' hs'=>?_⟩
 exact ⟨.ref D,H',dD I2 hC (bZ (σ':=σ) I2 f2 Jc) Jc.free hs',rfl,q⟩
theorem Q4 {tg iter elt:Expr} {ifs:List Expr} {pos spos py:Pos} {i:Nat} {y:Str} {wi:TI} {g:TG} {tc:TT} {te:TE} (N:List Str) (cap:St→St) (hN:X.N.Nodup) (hy:X.N[i]?=some y) (hloc:z8 X.env.scope y) (hcalm:X.calm=true) (S:CompScope X scope) (hcap:z7 X N scope cap) (hi:PI X tg iter wi)
  (hg:∀C s H pins fp,PG (kQ X N scope C s H pins fp) tg g) (hc:∀C s H pins fp,JT (kQ X N scope C s H pins fp) ifs tc) (he:∀C s H pins fp,PE (kQ X N scope C s H pins fp) elt te)
  (hsw:swapsWith (.ListComp elt [⟨tg,iter,ifs,0⟩] scope pos) (some (.Name y py)) spos.line X.env=pure true:=by rfl)
  (hs:∀x,foldedSetIterable iter X.env x=pure x:=by intro _;rfl) (hfn:X.fn y=true∨X.env.scope.names.lookup y=some .local:=by first|exact .inl rfl|exact .inr rfl|assumption) :
  PS X (.Assign [.Name y py] (.ListComp elt [⟨tg,iter,ifs,0⟩] scope pos) spos) (lO i wi cap g tc te):=by
 intro pins s σ H D I h
 rw [exec_Assign_Name_used _ _ _ _ hsw]
 refine wpAny_bind (wpAny_standAt (wpAny_bind ?_))
 show wpAny _ X.A (do let _ ← comprehension (.ListComp elt [⟨tg,iter,ifs,0⟩] scope pos) scope X.env _ (newList []) false (eval iter X.env) (some (assign (.Name y py) X.env))) _ _ s
 refine wpAny_bind (wpAny_mono (wpAny_comprehension_free (use:=some (assign (.Name y py) X.env)) (Q:=fun _ s'=>SP X pins D .next s') rfl hs (Z6 (J4 S I)) S.kind S.names
  (jG (hi pins s σ H _ I h) fun v s1 h1=>jG h1 fun itv s2 h2=>?_)) (fun _ s' hq=>wpAny_pure (wpAny_pure hq)) fun _ _ e=>e)
 obtain ⟨it,fp,tn,J,H2,e,I2,T,st2,f2,q2⟩:=h2
 subst e
 refine dC (RR:=fun acc C=>compPost (model X.prog X.w) X.A X.xe (some (assign (.Name y py) X.env)) (fun _ s'=>SP X pins D .next s') acc C) (Q:=fun d H'=>D.nx (σ.set i (some (.ref d))) H') hcalm S hcap I2 T st2 f2 (fun C=>hg C _ _ _ _) (fun C=>hc C _ _ _ _) (fun C=>he C _ _ _ _) q2 ?_
 intro d C σc H' s' hC Jc q
 obtain ⟨m,hn,_⟩:=Jc.loc
 have J1:Inv X pins σ H' s':=bZ (σ':=σ) I2 f2 Jc
 show wpAny _ X.A (assign (.Name y py) X.env (.ref d)) _ _ _
 refine wpAny_assign_Name (bN (v:=.ref d) J1 hN hy hloc rfl (fun s'' J2 hsb=>?_) hfn)
 obtain ⟨a,sb,ha⟩:=hsb
 have haC:C≠a:=by
  rcases ha with e|e
  ·rw [e];exact Nat.ne_of_gt (Nat.lt_of_lt_of_le I2.lt hC)
  ·obtain ⟨v,q'⟩:=I2.cell y a e
   exact Nat.ne_of_gt (Nat.lt_of_lt_of_le q'.lt hC)
 refine ⟨m,hn.sameBut sb haC,fun h' hs'=>?_⟩
 exact ⟨_,H',dD I2 hC J2 Jc.free hs',q⟩
end
end L2
namespace L2
open PySem PySem.Spec PyProof.Rows
theorem eC {σ:St} {H:Hp} {Q:Bool→Hp→Prop} (h:Q true H):fH σ H Q:=h
theorem iK {K:PySem.W.Frag} {a D:Addr} {xs:List V} {g:TG} {tc:TT} {te:TE} {σ₀:St} {H:Hp} {Q:Hp→Prop} (Pv:Nat→St→Hp→Prop) (h0:Pv 0 σ₀ (jB H D (.lst []))) (hl:∀i σ H,i≤xs.length→Pv i σ H→SqL K H a xs)
    (hs:∀i x σ H,xs[i]?=some x→Pv i σ H→g x σ H fun σ2 H3=>tc σ2 H3 fun b H4=>if b=true then te σ2 H4 fun v H5=>∃ys,H5 D=some (.lst ys)∧ys.length<sizeLine∧Pv (i+1) σ2 (jB H5 D (.lst (ys++[v]))) else Pv (i+1) σ2 H4)
    (hd:∀σ H,Pv xs.length σ H→Q H):z3 D (y6 K a) g tc te σ₀ H Q:=by
  refine ⟨fun i m σ H=>m=xs.length - i∧i≤xs.length∧Pv i σ H,⟨xs.length,by simp,Nat.zero_le _,h0⟩,?_⟩
  rintro i m σ H ⟨rfl,hi,p⟩
  have q:=hl i σ H hi p
  by_cases hlt:i<xs.length
  · refine .inr ⟨⟨xs,xs[i],q,by simp [hlt]⟩,Pv (i+1),fun σ' H' p'=>⟨xs.length - (i+1),by omega,rfl,hlt,p'⟩,fun x H' y=>?_⟩
    obtain ⟨e,y⟩:=y
    subst e
    exact hs i x σ _ (y xs q) p
  · have e:i=xs.length:=by omega
    subst e
    exact .inl ⟨⟨xs,q,Nat.le_refl _⟩,hd σ H p⟩
theorem qM {H H':Hp} {D:Addr} {o:HO} (hD:H D=none) (s:Same H H'):Same H (jB H' D o):=fun b u q=>by
 rw [jD (kZ q hD)]
 exact s b u q
def v1 (H:Hp) (D:Addr) (caps:St) (R:Nat→List V→Hp→Prop) (i:Nat) (σ:St) (Hi:Hp):Prop:=∃ys c,σ=c::caps∧Same H Hi∧Hi D=some (.lst ys)∧ys.length≤i∧R i ys Hi
theorem JV {H Hi H5:Hp} {D:Addr} {caps:St} {R:Nat→List V→Hp→Prop} {i:Nat} {ys:List V} {c:Option V} {v:V} (hD:H D=none) (s:Same H Hi) (hY:Hi D=some (.lst ys)) (hl:ys.length≤i) (hi:i≤999) (s5:Same Hi H5)
  (r:R (i+1) (ys++[v]) (jB H5 D (.lst (ys++[v])))):∃zs,H5 D=some (.lst zs)∧zs.length<sizeLine∧v1 H D caps R (i+1) (c::caps) (jB H5 D (.lst (zs++[v]))):=by
 refine ⟨ys,s5 _ _ hY,QX (by omega),ys++[v],c,rfl,qM hD (s.trans s5),jL,?_,r⟩
 rw [List.length_append,List.length_singleton];omega
theorem Q9 {H Hi H4:Hp} {D:Addr} {caps:St} {R:Nat→List V→Hp→Prop} {i:Nat} {ys:List V} {c:Option V} (s:Same H Hi) (hY:Hi D=some (.lst ys)) (hl:ys.length≤i) (s4:Same Hi H4) (r:R (i+1) ys H4) :
  v1 H D caps R (i+1) (c::caps) H4:=⟨ys,c,rfl,s.trans s4,s4 _ _ hY,by omega,r⟩
theorem QW {K:PySem.W.Frag} {a D:Addr} {xs:List V} {tc:TT} {te:TE} {caps:St} {H:Hp} {Q:Hp→Prop} (R:Nat→List V→Hp→Prop) (hD:H D=none) (hS:SqL K H a xs) (h0:R 0 [] (jB H D (.lst [])))
  (hs:∀i x ys Hi,xs[i]?=some x→i<xs.length→ys.length≤i→Same H Hi→Hi D=some (.lst ys)→R i ys Hi→tc (some x::caps) Hi fun b H4=>if b=true then te (some x::caps) H4 fun v H5=>∃zs,H5 D=some (.lst zs)∧zs.length<sizeLine∧v1 H D caps R (i+1) (some x::caps) (jB H5 D (.lst (zs++[v])))
   else v1 H D caps R (i+1) (some x::caps) H4)
  (hd:∀ys Hf,Same H Hf→Hf D=some (.lst ys)→ys.length≤xs.length→R xs.length ys Hf→Q Hf):z3 D (y6 K a) (QL 0) tc te (none::caps) H Q:=by
 refine iK (xs:=xs) (v1 H D caps R) ⟨[],none,rfl,qM hD (Same.refl H),jL,Nat.le_refl _,h0⟩ (fun i σ Hi _ ⟨_,_,_,s,_⟩=>s.seq hS) ?_ ?_
 ·rintro i x σ Hi hx ⟨ys,c,rfl,s,hY,hl,r⟩
  exact hs i x ys Hi hx (List.getElem?_eq_some_iff.mp hx).1 hl s hY r
 ·rintro σ Hf ⟨ys,c,rfl,s,hY,hl,r⟩
  exact hd ys Hf s hY hl r
def rR:V→Option Value
 |.ty n=>some (.type n)
 |.ref a=>some (.ref a)
 |_=>none
section
variable {X:Cx}
def rG (K:PySem.W.Frag):List V→Hp→VK→Prop:=fun xs H Q=>∃(x c:V) (t u:Value) (b:Bool),xs=[x,c]∧rR c=some u∧TyOf K H x t∧PySem.W.kitOne K t u=some b∧Q (.bl b) H
theorem v9:CallR X (.builtin "isinstance") (rG X.K):=by
 intro pins s σ H xs us Q I r h
 obtain ⟨x,c,t,u,b,rfl,hc,ty,e,q⟩:=h
 obtain ⟨u1,u2,rfl,r1,r2⟩:=eU r
 have e2:u2=u:=by
  cases c with
  |ty n=>cases (show u2=Value.type n from r2);exact Option.some.inj hc
  |ref a=>cases (show u2=Value.ref a from r2);exact Option.some.inj hc
  |_=>cases hc
 subst e2
 exact lC I r1 ty e fun tk=>⟨.bl b,H,I.tok _,rfl,q⟩
end
theorem vV {K:PySem.W.Frag} (n:String):PySem.W.kitOne K (.type n) (.type n)=some true:=by
 unfold PySem.W.kitOne
 rw [if_pos (beq_self_eq_true _)]
theorem iE {K:PySem.W.Frag}:PySem.W.kitOne K (.type "int") (.type "bool")=some false:=by kernel_rfl
def yL (xs ys:List V):Bool:=(List.range (min xs.length ys.length)).all (fun j=>yZ (xs.getD j .non) (ys.getD j .non))&&xs.length == ys.length
theorem v5 {xs:List V} {us:List Value} (r:Vals xs us) {j:Nat} (h:j<us.toArray.size):RelV (xs.getD j .non) us.toArray[j]:=by
 have hj:j<us.length:=by simpa using h
 have hx:j<xs.length:=by rw [r.length];exact hj
 obtain ⟨u,e,q⟩:=r.get (List.getElem?_eq_getElem hx)
 rw [List.getElem?_eq_getElem hj] at e
 have e':=Option.some.inj e
 rw [List.getD_eq_getElem?_getD,List.getElem?_eq_getElem hx]
 show RelV xs[j] us.toArray[j]
 rw [List.getElem_toArray,e']
 exact q
theorem J8 {xs:List V} (h:xs.all vL=true) {j:Nat} (hj:j<xs.length):vL (xs.getD j .non)=true:=by
 rw [List.getD_eq_getElem?_getD,List.getElem?_eq_getElem hj]
 exact List.all_eq_true.mp h _ (List.getElem_mem hj)
section
variable {X:Cx}
end
end L2
namespace L2
open PySem PySem.Spec PyProof.Rows
section
variable {X:Cx}
end
end L2
namespace L2
open PySem PySem.Spec PyProof.Rows
section
variable {X:Cx} (K:PySem.W.Frag)
theorem nF (h:X.K=K:=by rfl):IxR X (fK K):=by subst h;exact qB
end
end L2
namespace L2
open PySem PySem.Spec PyProof.Rows
section
variable {X:Cx}
end
end L2
namespace L2
open PySem PySem.Spec PyProof.Rows
section
variable {X:Cx}
def p9 (t u:TS):TS:=fun D σ H=>∃P:St→Hp→Prop,t {D with nx:=P} σ H∧∀σ' H',P σ' H'→u D σ' H'
theorem yT {st:Stmt} {rest:List Stmt} {t u:TS} (h1:PS X st t) (h2:PSs X rest u):PSs X (st::rest) (p9 t u):=by
 intro pins s σ H D I h
 obtain ⟨P,hP,hu⟩:=h
 refine wpAny_execs_cons (jG (h1 pins s σ H {D with nx:=P} I hP) fun f s1 q=>?_)
 cases f with
 |next =>
  obtain ⟨σ',H',I',q⟩:=q
  exact h2 pins s1 σ' H' D I' (hu σ' H' q)
 |ret v=>exact q
 |brk=>exact q
 |cont=>exact q
end
end L2
namespace L2
open PySem PySem.Spec PyProof.Rows
structure Def (P:Program) (w:World) (K:PySem.W.Frag) (mg:Str→Option Value) (base:Heap) (k:Nat) (x:Str) (ps:List Str) (dvs:List V) (sp:Sp):Prop where
 ex:∃(f:Addr) (fd:FuncData) (ds:List Value),FnOk P w K mg base jZ k f fd ps sp∧mg x=some (.ref f)∧PySem.W.keepIn K (.ref f)=true∧Vals dvs ds∧Binds K fd ps ds
theorem j4 {X:Cx} {k k':Nat} {x:Str} {ps:List Str} {dvs:List V} {sp:Sp} {p pos:Pos} {e:Expr} {es:List Expr} {t:TA} (F:Def X.prog X.w X.K X.mg X.base k x ps dvs sp) (hr:Room k' X.A) (hg:Gl X x) (ha:PA X (e::es) t)
  (hk:k≤k':=by decide) (hdb:(x == ("__debug__":Str))=false:=by decide) (he:starEach (e::es) X.env=(false,eval e X.env)::starEach es X.env:=by rfl) (hpl:(backTo pos (starEach es X.env)).any (·.1)=false:=by rfl) :
  PE X (.Call (.Name x p) (e::es) [] pos) (eX sp dvs E0 t):=by
 obtain ⟨f,fd,ds,G,m,kp,hv,b⟩:=F.ex
 exact m7 G (hr.mono hk) hg m kp b hv ZS ha hdb he hpl
structure FunD (K:PySem.W.Frag) (x qual:Str) (st:Stmt) (f:Addr) (fd:FuncData) (ds:List Value):Prop where
 ex:∃(oc:Value) (od:Option Addr) (T:Addr) (kV doc pm:Value) (an:Option Addr) (cdv ct:Value) (osl:Array (Option Value)) (oT:Obj) (n:Nat),
  fd=PySem.W.fnOf x qual (j5 st) (jT st) (jH st) (.ref T) kV doc pm an cdv ct∧K.lookup f=some ⟨oc,od,.func fd,osl⟩∧PySem.W.codeIn K cdv qual=true∧K.lookup T=some oT∧oT.data=.seq ds.toArray n
 kp:PySem.W.keepIn K (.ref f)=true
section
variable {P:Program} {w:World} {K:PySem.W.Frag} {mg:Str→Option Value} {base:Heap}
theorem FunD.ok {x qual:Str} {st:Stmt} {f:Addr} {fd:FuncData} {ds:List Value} {N ps:List Str} {k:Nat} {sp:Sp} (F:FunD K x qual st f fd ds) (S:FnScope N ps (jH st)) (len:∀vs H Q E,sp vs H Q E→vs.length=ps.length)
  (hbody:∀(cdv:Value) (A:Around) (outer:List Env) (s:Shared) (H:Hp) (vs:List V) (Q:VK) (E:XK),Room k (A.deeper (envOfC qual (jH st) s.heap.objs.size f cdv))→sp vs H Q E→
   ∃t,PSs (qL jZ P w K mg base N qual (jH st) f cdv A outer s H E).nox (jT st) t∧t {nx:=fun _ H'=>Q .non H',rt:=Q} (kX N vs) H):FnOk P w K mg base jZ (k+1) f fd ps sp:=by
 obtain ⟨oc,od,T,kV,doc,pm,an,cdv,ct,osl,oT,n,rfl,lk,hcd,_,_⟩:=F.ex
 refine QM lk hcd S len fun A outer s H vs Q E hr hsp=>?_
 obtain ⟨t,h,q⟩:=hbody cdv A outer s H vs Q E hr hsp
 exact ⟨t,h.nox,q⟩
end
section
variable {X:Cx}
end
end L2
namespace L2
open PySem
theorem pN {c A B:Prop} [Decidable c] (hc:¬c) (h:A):if (!decide c)=true then A else B:=by
 rw [decide_eq_false hc]
 exact kT h
end L2
namespace L2
open PySem PySem.Spec PyProof.Rows
end L2
namespace L2
open PySem PySem.Spec PyProof.Rows
section
variable {X:Cx} {k k':Nat} {x m:Str} {C:Addr} {ps:List Str} {sp:Sp} {p pos apos:Pos} {o e:Expr} {es:List Expr} {ta:TE} {t:TA}
end
end L2
namespace L2
open PySem PySem.Spec PyProof.Rows
end L2
namespace L2
open PySem PySem.Spec PyProof.Rows
section
variable {X:Cx}
end
end L2
namespace L2
open PySem PySem.Spec PyProof.Rows
section
variable {X:Cx}
end
end L2
namespace L2
open PySem PySem.Spec PyProof.Rows
end L2
namespace L2
open PySem PySem.Spec PyProof.Rows
section
variable {P:Program} {w:World} {H:Hp} {h h':Heap} {a:Addr} {o:HO}
theorem ObjOk.there (x:ObjOk P w H h a o):∃u,h.get? a=some u:=by
 cases o with
 |lst xs=>obtain ⟨_,_,_,_,e⟩:=x;exact ⟨_,e⟩
 |tup xs=>obtain ⟨_,_,_,o,e,_⟩:=x;exact ⟨_,e⟩
 |dK kvs=>obtain ⟨_,_,_,_,o,_,_,e,_⟩:=x;exact ⟨_,e⟩
 |dT kvs=>obtain ⟨_,_,_,_,o,_,_,e,_⟩:=x;exact ⟨_,e⟩
 |set S n=>obtain ⟨o,_,_,_,e,_⟩:=x;exact ⟨_,e⟩
 |ins C dx fs=>obtain ⟨_,_,_,e,_⟩:=x;exact ⟨_,e⟩
 |own y=>obtain ⟨_,e⟩:=x;exact ⟨_,e⟩
 |xd fs=>obtain ⟨_,⟨_,_,_,e,_⟩,_⟩:=x;exact ⟨_,e⟩
 |rng lo hi=>obtain ⟨_,_,_,e⟩:=x;exact ⟨_,e⟩
 |frz ob u=>obtain ⟨e,_⟩:=x;exact ⟨_,e⟩
 |tbl ps=>exact ⟨_,(show h.get? a=some _ from x)⟩
 |met f y=>exact ⟨_,(show h.get? a=some _ from x)⟩
 |ext φ=>obtain ⟨_,e,_⟩:=x;exact e
theorem HOk.there (x:HOk P w H h) (e:H a=some o):∃u,h.get? a=some u:=(x a o e).there
theorem HOk.keepT (x:HOk P w H h) (k:∀b u,H b≠none→h.get? b=some u→h'.get? b=some u):HOk P w H h':=fun a o e =>
 (x a o e).stay (fun b u hb q=>k b u (by
  rcases hb with rfl|hb
  ·rw [e];exact fun z=>nomatch z
  ·rw [hb];exact fun z=>nomatch z) q) (fun _ q=>q) fun _ _ q=>q
end
theorem Un.go {fs ex:List Addr} {H H1:Hp} {h0 h h':Heap} (u:Un fs ex H H1 h0 h) (k:∀b o,h.get? b=some o→b∉fs→b∉ex→(∃o',h0.get? b=some o')→h'.get? b=some o)
  (ks:∀b o,h.get? b=some o→b∈fs→(∃o',h0.get? b=some o')→∃sl,h'.get? b=some {o with slots:=sl}):Un fs ex H H1 h0 h' where
 keep:=fun b o q n hb hx=>k b o (u.keep b o q n hb hx) hb hx ⟨o,q⟩
 slot:=fun b o q n hb hx=>by
  obtain ⟨sl,e⟩:=u.slot b o q n hb hx
  obtain ⟨sl',e'⟩:=ks b _ e hb ⟨o,q⟩
  exact ⟨sl',e'⟩
 free:=u.free
 there:=fun b o q hx=>by
  obtain ⟨o',e⟩:=u.there b o q hx
  by_cases hb:b∈fs
  ·obtain ⟨sl,e'⟩:=ks b o' e hb ⟨o,q⟩
   exact ⟨_,e'⟩
  ·exact ⟨o',k b o' e hb hx ⟨o,q⟩⟩
 tups:=u.tups
 frzs:=u.frzs
 tbls:=u.tbls
def sH (fr:List Env) (Z:Addr→Prop) (h:Heap) (a C:Addr):Prop :=
 ∃(B:Heap) (a0:Value),Heap.FlyingW B fr a (.ref C) a0 h∧∀b o,h.get? b=some o→b∉j9 fr→Z b→B.get? b=some o
def yM (P:Program) (w:World):kP:=fun outer H s E e s'=>∃(a C:Addr) (H':Hp),e=.ref a∧s'.os=s.os∧AllBare s'.gens∧Un (j9 outer) [] H H' s.heap s'.heap∧HOk P w H' s'.heap∧
 sH outer (fun b=>H' b≠none∨∃o',s.heap.get? b=some o') s'.heap a C∧H' a=none∧s.heap.get? a=none∧E (.ref C) none H'
def eS (X:Cx) (R:St→Value→Hp→Prop):Prop:=∀pins σ H s e h' C vs,Inv X pins σ H s→Heap.MadeExcOf s.heap h' e (.ref C) vs→R σ (.ref C) H→X.xe (.ref e) {s with heap:=h'}
theorem iZ {P:Program} {w:World} {K:PySem.W.Frag} {mg:Str→Option Value} {base:Heap} {N:List Str} {qual:Str} {scope:Scope} {f:Addr} {cd:Value} {A:Around} {outer:List Env} {s:Shared} {H:Hp} {E:XK} :
  eS (qL (yM P w) P w K mg base N qual scope f cd A outer s H E) (fun _ c H'=>E c none H'):=by
 intro pins σ H1 s1 e h' C vs I hx q
 have hin:∀env∈(envOfC qual scope s.heap.objs.size f cd::outer),∀b,env.frame=some b→b∈j9 (envOfC qual scope s.heap.objs.size f cd::outer):=fun env he b hb=>List.mem_filterMap.mpr ⟨env,he,hb⟩
 have hst:s1.heap.FunFrames base (envOfC qual scope s.heap.objs.size f cd::outer):=I.stack
 have hfrees:∀b∈j9 (envOfC qual scope s.heap.objs.size f cd::outer),H1 b=none:=I.stkFree
 have hfs:j9 (envOfC qual scope s.heap.objs.size f cd::outer)=s.heap.objs.size::j9 outer:=rfl
 have ub:Un (j9 outer) [] H H1 s.heap s1.heap:=I.base
 have hno:s1.heap.get? e=none:=hx.new
 show wpAny (model P w) (A.deeper (envOfC qual scope s.heap.objs.size f cd)) (leaving (envOfC qual scope s.heap.objs.size f cd) (.ref e)) (fun _ s''=>yM P w outer H s E (.ref e) s'') (fun e' s''=>yM P w outer H s E e' s'') {s1 with heap:=h'}
 refine wpAny_leaves_madeW (base:=PySem.W.hideAll s1.heap (j9 (envOfC qual scope s.heap.objs.size f cd::outer))) I.ok.frames rfl (fun b o q=>PySem.W.of_hideAll _ q) (PySem.W.funFrames_hide hst hin) hx fun h2 t fl _ _ up=>?_
 dsimp only at up
 have keep:∀b o,s1.heap.get? b=some o→b∉j9 (envOfC qual scope s.heap.objs.size f cd::outer)→(PySem.W.hideAll s1.heap (j9 (envOfC qual scope s.heap.objs.size f cd::outer))).get? b=some o:=fun b o q n=>PySem.W.hideAll_get _ q n
 have old:∀b,(∃o',s.heap.get? b=some o')→b∉j9 outer→b∉j9 (envOfC qual scope s.heap.objs.size f cd::outer):=fun b ⟨o',q⟩ n z=>by
  rw [hfs] at z
  rcases List.mem_cons.mp z with z|z
  ·exact absurd (Heap.lt_size q) (by rw [z];exact Nat.lt_irrefl _)
  ·exact n z
 have trk:∀b,H1 b≠none→b∉j9 (envOfC qual scope s.heap.objs.size f cd::outer):=fun b hb z=>hb (hfrees b z)
 refine ⟨e,C,H1,rfl,I.os,I.bare,ub.go (fun b o q n _ z=>fl.1 b o (keep b o q (old b z n))) (fun b o q n _=>?_),I.hok.keepT fun b u hb q=>fl.1 b u (keep b u q (trk b hb)),?_,?_,?_,q⟩
 ·obtain ⟨_,o',ho',hd⟩:=hst.mem (show b∈j9 (envOfC qual scope s.heap.objs.size f cd::outer) from by rw [hfs];exact List.mem_cons_of_mem _ n)
  rw [q] at ho';cases ho'
  exact up b o (hx.keeps b o q) hd
 ·refine ⟨_,_,fl,fun b o q n z=>?_⟩
  have hn:b∉j9 (envOfC qual scope s.heap.objs.size f cd::outer):=by
   rcases z with z|z
   ·exact trk b z
   ·exact old b z n
  have h1:∃u,s1.heap.get? b=some u:=by
   rcases z with z|⟨o',z⟩
   ·cases r:H1 b with
    |none=>exact absurd r z
    |some v=>exact I.hok.there r
   ·exact ub.there b o' z (by simp)
  obtain ⟨u,hu⟩:=h1
  have hB:=keep b u hu hn
  have:=fl.1 b u hB
  have q':h2.get? b=some o:=q
  rw [q'] at this
  cases this
  exact hB
 ·cases r:H1 e with
  |none=>rfl
  |some v =>
   obtain ⟨u,hu⟩:=I.hok.there r
   rw [hno] at hu;cases hu
 ·cases r:s.heap.get? e with
  |none=>rfl
  |some v =>
   obtain ⟨u,hu⟩:=ub.there e v r (by simp)
   rw [hno] at hu;cases hu
end L2
namespace L2
open PySem PySem.Spec PyProof.Rows
theorem nM {K:PySem.W.Frag} {h:Heap} {C:Addr} {bmB:List Value} {newId:String} (X:K.In h) (q:PySem.W.excIn K C bmB newId=true) :
  ∃bm N nm qn bs hdct sn sub ab col dd k0 k1 k2 k3 k5 mN,K.lookup C=some (excClassObj nm qn C N bs bm hdct sn sub ab col dd k0 k1 k2 k3 k5 newId)∧h.get? C=some (excClassObj nm qn C N bs bm hdct sn sub ab col dd k0 k1 k2 k3 k5 newId)∧h.Ns N mN∧mN "__init__"=none∧OwnTail h bmB bm:=by
 unfold PySem.W.excIn at q
 split at q
 ·rename_i dd cd sl ho
  split at q
  ·rename_i C' bm k0 k1 k2 k3 n k5 hm hs
   simp only [Bool.and_eq_true,beq_iff_eq,Bool.not_eq_true'] at q
   obtain ⟨⟨⟨⟨⟨rfl,rfl⟩,hdel⟩,ht⟩,hok⟩,hni⟩:=q
   obtain ⟨nm,bs,mro,ns,qn,hd,sn,sub,ab,col,del⟩:=cd
   dsimp only at hm hdel hok hni
   subst hm hdel
   have hsl:sl = #[k0,k1,k2,k3,some (.builtin n),k5]:=by
    obtain ⟨l⟩:=sl
    simp only at hs
    rw [hs]
   subst hsl
   exact ⟨bm,ns,nm,qn,bs,hd,sn,sub,ab,col,dd,k0,k1,k2,k3,k5,_,ho,X _ _ ho,.of_isNs (PySem.W.isNs_of_in X hok),PySem.W.nsMap_none_of_in X hok hni,PySem.W.tail_of_in X ht⟩
  ·cases q
 ·cases q
abbrev rL:List Value:=[.type "ValueError",.type "Exception",.type "BaseException",.type "object"]
def fO (K:PySem.W.Frag) (C:Addr):Prop:=PySem.W.excIn K C rL "ValueError.__new__"=true
section
variable {X:Cx} {R:St→Value→Hp→Prop} {x:Str} {C:Addr} {np cpos pos p:Pos} {e:Expr} {es:List Expr} {t:TA}
theorem lS (hx:eS X R) (hcalm:X.calm=true) (hg:Gl X x) (hm:X.mg x=some (.ref C)) (hc:fO X.K C) (ha:PA X (e::es) t) (hdb:(x == ("__debug__":Str))=false:=by decide)
  (he:starEach (e::es) X.env=(false,eval e X.env)::starEach es X.env:=by rfl) (hpl:(backTo cpos (starEach es X.env)).any (·.1)=false:=by rfl) :
  PS X (.Raise (some (.Call (.Name x np) (e::es) [] cpos)) none pos) (fun _ σ H=>t σ H fun vs H1=>vs.length≤sizeLine∧R σ (.ref C) H1):=by
 intro pins s σ H D I h
 obtain ⟨tl,N,nm,q,bs,hdct,sn,sub,ab,col,dd,k0,k1,k2,k3,k5,mN,_,hC,hN,hni,T⟩:=nM I.ok.mod.kin hc
 refine wpAny_Raise_call_subT (C:=C) (nm:=nm) (q:=q) (N:=N) (bs:=bs) (bm:=tl) (hdct:=hdct) (sn:=sn) (sub:=sub) (ab:=ab) (col:=col) (dd:=dd) (k0:=k0) (k1:=k1) (k2:=k2) (k3:=k3) (k5:=k5)
  PySem.F.excBase_ValueError (mN:=mN) (T.hasType PySem.F.excBase_ValueError.hasBase) (I.ok.hd hcalm) (by rw [he];show (false||(backTo cpos (starEach es X.env)).any (·.1))=false;rw [hpl];rfl) hni (ZI I hg hm ⟨rfl,?_⟩ hdb)
 have h1:=ha cpos pins s σ H _ I h
 rw [he] at h1 ⊢
 refine Calls.evalArgs_plain (wpAny_mono h1 (fun us s2 ⟨vs,H2,I2,r2,hl,q2⟩=>⟨rfl,by rw [← r2.length];exact hl,I2.bk _ _ hC,hN.keeps I2.bk,T.keeps I2.bk,fun h' a hm=>hx pins σ H2 s2 a h' C us I2 hm q2⟩) fun _ _ y=>y)
end
structure DefX (P:Program) (w:World) (K:PySem.W.Frag) (mg:Str→Option Value) (base:Heap) (k:Nat) (x:Str) (ps:List Str) (dvs:List V) (sp:Sp):Prop where
 ex:∃(f:Addr) (fd:FuncData) (ds:List Value),FnOk P w K mg base (yM P w) k f fd ps sp∧mg x=some (.ref f)∧PySem.W.keepIn K (.ref f)=true∧Vals dvs ds∧Binds K fd ps ds
section
variable {X:Cx} {pins pins':List (Addr×Obj)} {σ:St} {H:Hp} {s:Shared} {R:St→Value→Hp→Prop}
end
section
variable {X:Cx} {pins:List (Addr×Obj)} {σ:St} {H:Hp} {s:Shared} {e:Value}
end
end L2
namespace L2
open PySem PySem.Spec PyProof.Rows
section
variable {P:Program} {w:World} {K:PySem.W.Frag} {mg:Str→Option Value} {base:Heap}
theorem Fun.okX {x qual:Str} {st:Stmt} {f:Addr} {fd:FuncData} {N ps:List Str} {k:Nat} {sp:Sp} (F:Fun K x qual st f fd) (S:FnScope N ps (jH st)) (len:∀vs H Q E,sp vs H Q E→vs.length=ps.length)
  (hbody:∀(cdv:Value) (A:Around) (outer:List Env) (s:Shared) (H:Hp) (vs:List V) (Q:VK) (E:XK),Room k (A.deeper (envOfC qual (jH st) s.heap.objs.size f cdv))→sp vs H Q E→
   ∃t,PSs (qL (yM P w) P w K mg base N qual (jH st) f cdv A outer s H E) (jT st) t∧t {nx:=fun _ H'=>Q .non H',rt:=Q} (kX N vs) H):FnOk P w K mg base (yM P w) (k+1) f fd ps sp:=by
 obtain ⟨oc,od,kV,doc,pm,an,cdv,ct,osl,rfl,lk,hcd⟩:=F.ex
 exact QM lk hcd S len fun A outer s H vs Q E hr hsp=>hbody cdv A outer s H vs Q E hr hsp
theorem FnOk.noX {k:Nat} {f:Addr} {fd:FuncData} {ps:List Str} {sp sp':Sp} (F:FnOk P w K mg base (yM P w) k f fd ps sp) (h:∀vs H Q E,sp' vs H Q E→sp vs H Q (fun _ _ _=>False)):FnOk P w K mg base jZ k f fd ps sp' :=
 ⟨fun vs H Q E q=>F.len vs H Q _ (h _ _ _ _ q),fun A outer s H args us vs Q E hr he hb hv hs=>codeAny_mono (F.run A outer s H args us vs Q _ hr he hb hv (h _ _ _ _ hs)) fun r s' hq=>by
  cases r with
  |ok fl=>cases fl<;>exact hq
  |error e=>obtain ⟨_,_,_,_,_,_,_,_,_,_,_,z⟩:=hq;exact z⟩
end
section
variable {X:Cx}
end
end L2
namespace L2
open PySem PySem.Spec PyProof.Rows
section
variable {X:Cx} {pins:List (Addr×Obj)} {σ:St} {H:Hp} {s:Shared}
end
end L2
namespace L2
open PySem PySem.Spec PySem.Calls PyProof.Rows PySem.W
section
variable {prog:Program} {w:World} {A:Around} {E:Value→Shared→Prop} {h:Heap} {g:Array GenState} {d:Drawn} {t:Nat} {os:OsState} {a C:Addr} {o:Obj} {K:PySem.W.Frag}
end
section
variable {X:Cx}
end
end L2
namespace L2
open PySem PySem.Spec PyProof.Rows
end L2
namespace L2
open PySem PySem.Spec PyProof.Rows
section
variable {X:Cx} {x:Str} {C:Addr} {pos p:Pos} {e:Expr} {es:List Expr} {t:TA}
end
end L2
namespace L2
open PySem PySem.Spec PyProof.Rows
section
variable {X:Cx}
end
end L2
namespace L2
open PySem PySem.Spec PyProof.Rows
section
variable {X:Cx} {R:St→Value→Hp→Prop} {k k':Nat} {x m:Str} {C:Addr} {ps:List Str} {sp:Sp} {p pos apos:Pos} {o e:Expr} {es:List Expr} {ta:TE} {t:TA}
theorem oD {CX:kP} {P:Program} {w:World} {K:PySem.W.Frag} {mg:Str→Option Value} {base:Heap} {N:List Str} {qual:Str} {scope:Scope} {f:Addr} {cd:Value} {A:Around} {outer:List Env} {s:Shared} {H:Hp} {E:XK} :
  PassesOwn (model (qL CX P w K mg base N qual scope f cd A outer s H E).prog (qL CX P w K mg base N qual scope f cd A outer s H E).w) (qL CX P w K mg base N qual scope f cd A outer s H E).A (qL CX P w K mg base N qual scope f cd A outer s H E).env (qL CX P w K mg base N qual scope f cd A outer s H E).xe:=by
 intro e s' h
 exact PassesOwn.leaving (Q₁:=fun e s''=>CX outer H s E e s'') (E₁:=fun e' s''=>CX outer H s E e' s'') e s' h
end
end L2
namespace L2
open PySem PySem.Spec PyProof.Rows
section
variable {κ:Type} [DecidableEq κ]
def QN (kvs:List (κ×V)) (k:κ):Option V:=(kvs.find? fun kv=>decide (kv.1=k)).map (·.2)
def QO (kvs:List (κ×V)) (k:κ) (v:V):List (κ×V) :=
 if (kvs.any fun kv=>decide (kv.1=k))=true then kvs.map (fun kv=>if kv.1=k then (kv.1,v) else kv) else kvs++[(k,v)]
def fE (kvs:List (κ×V)) (k:κ):List (κ×V):=kvs.filter fun kv=>decide (kv.1≠k)
theorem RelO.getD {o:Option V} {u:Option Value} {d:V} {d':Value} (r:RelO o u) (rd:RelV d d'):RelV (o.getD d) (u.getD d'):=by
 cases o with
 |none=>cases u with
  |none=>exact rd
  |some _=>exact (show False from r).elim
 |some _=>cases u with
  |none=>exact (show False from r).elim
  |some _=>exact r
theorem KV.any {kvs:List (κ×V)} {vs:List (κ×Value)} (r:KV kvs vs) (k:κ):(kvs.any fun kv=>decide (kv.1=k))=vs.any fun kv=>decide (kv.1=k):=by
 unfold KV at r
 induction r with
 |nil=>rfl
 |cons h t ih=>rw [List.any_cons,List.any_cons,ih,h.1]
theorem KV.drop {kvs:List (κ×V)} {vs:List (κ×Value)} (r:KV kvs vs) (k:κ):KV (fE kvs k) (without vs k):=by
  unfold KV at r ⊢
  unfold fE without
  induction r with
  |nil=>exact .nil
  |@cons p q ps qs h t ih =>
    obtain ⟨h1,h2⟩:=h
    rw [List.filter_cons,List.filter_cons]
    by_cases e:p.1=k
    · have a:¬decide (p.1≠k)=true:=by simp [e]
      have b:¬decide (q.1≠k)=true:=by simp [h1.symm.trans e]
      rw [if_neg a,if_neg b];exact ih
    · have e':¬q.1=k:=fun z=>e (h1.trans z)
      have a:decide (p.1≠k)=true:=by simp [e]
      have b:decide (q.1≠k)=true:=by simp [e']
      rw [if_pos a,if_pos b];exact .cons ⟨h1,h2⟩ ih
theorem KV.keys {kvs:List (κ×V)} {vs:List (κ×Value)} (r:KV kvs vs):kvs.map (·.1)=vs.map (·.1):=by
 unfold KV at r
 induction r with
 |nil=>rfl
 |cons h t ih=>rw [List.map_cons,List.map_cons,ih,h.1]
theorem KV.length {kvs:List (κ×V)} {vs:List (κ×Value)} (r:KV kvs vs):kvs.length=vs.length:=Paired.length r
end
abbrev KT (H:Hp):List (List j6×V)→List (List j6×Addr×Value)→Prop:=Paired fun p q=>p.1=q.1∧H q.2.1=some (.tup (p.1.map kV))∧RelV p.2 q.2.2
theorem KT.keeps {H H':Hp} {kvs:List (List j6×V)} {xs:List (List j6×Addr×Value)} (r:KT H kvs xs) (ht:∀b ys,H b=some (.tup ys)→H' b=some (.tup ys)):KT H' kvs xs :=
 Paired.mapP r fun _ _ z=>⟨z.1,ht _ _ z.2.1,z.2.2⟩
section
variable {P:Program} {w:World} {H:Hp} {h:Heap} {a:Addr}
end
def DGet (H:Hp) (a:Addr) (y:V) (r:Option V):Prop :=
 (∃kvs k,Rd H a (.dK kvs)∧y=kV k∧r=QN kvs k)∨∃kvs k b,Rd H a (.dT kvs)∧y=.ref b∧H b=some (.tup (k.map kV))∧r=QN kvs k
def DPut (H:Hp) (a:Addr) (y v:V) (H':Hp):Prop :=
 (∃kvs k,H a=some (.dK kvs)∧y=kV k∧kvs.length<sizeLine∧H'=jB H a (.dK (QO kvs k v)))∨
 ∃kvs k b,H a=some (.dT kvs)∧y=.ref b∧H b=some (.tup (k.map kV))∧kvs.length<sizeLine∧H'=jB H a (.dT (QO kvs k v))
theorem DGet.k {H:Hp} {a:Addr} {kvs:List (j6×V)} {k:j6} (e:H a=some (.dK kvs)):DGet H a (kV k) (QN kvs k):=.inl ⟨kvs,k,.inl e,rfl,rfl⟩
theorem DGet.t {H:Hp} {a b:Addr} {kvs:List (List j6×V)} {k:List j6} (e:H a=some (.dT kvs)) (eb:H b=some (.tup (k.map kV))):DGet H a (.ref b) (QN kvs k):=.inr ⟨kvs,k,b,.inl e,rfl,eb,rfl⟩
theorem DPut.k {H:Hp} {a:Addr} {kvs:List (j6×V)} {k:j6} {v:V} (e:H a=some (.dK kvs)) (hl:kvs.length<sizeLine):DPut H a (kV k) v (jB H a (.dK (QO kvs k v))):=.inl ⟨kvs,k,e,rfl,hl,rfl⟩
theorem DPut.t {H:Hp} {a b:Addr} {kvs:List (List j6×V)} {k:List j6} {v:V} (e:H a=some (.dT kvs)) (eb:H b=some (.tup (k.map kV))) (hl:kvs.length<sizeLine) :
  DPut H a (.ref b) v (jB H a (.dT (QO kvs k v))):=.inr ⟨kvs,k,b,e,rfl,eb,hl,rfl⟩
section
variable {X:Cx} {pins:List (Addr×Obj)} {σ:St} {H:Hp} {s:Shared} {a:Addr} {y v:V} {u r:Value} {o:Option V} {A:Around} {E:Value→Shared→Prop}
theorem Inv.big (I:Inv X pins σ H s):sysModules<s.heap.objs.size:=by
 have h:mainGlobals<s.heap.objs.size:=(I.mod.glob.keeps I.bk).lt
 exact Nat.lt_trans (by decide) h
theorem d4 {h':Heap} {t':Nat} {ob:HO} (I:Inv X pins σ H s) (mu:JU (H a)) (hs:Heap.SameBut a s.heap h') (he:∃q,h'.get? a=some q) (new:ObjOk X.prog X.w (jB H a ob) h' a ob) :
  Inv X pins σ (jB H a ob) {s with heap:=h',toks:=t'} :=
 I.write (x:=a) (e:=a) mu (.inl rfl) (fun b q hb z=>(hs.2 b hb).trans z) he new
end
section
variable {X:Cx} {pins:List (Addr×Obj)} {σ:St} {H:Hp} {s:Shared} {a:Addr} {kvs:List (j6×V)} {k:j6} {u:Value} {A:Around} {E:Value→Shared→Prop}
end
def ZX (i:Expr):Prop:=∀ov iv,subscripted i false ov iv=operate [ov,iv] (getItem ov iv)
theorem mR {prog:Program} {w:World} {A:Around} {E:Value→Shared→Prop} {s:Shared} {env:Env} {value slice:Expr} {pos:Pos} {T id:String} {Q:Value→Shared→Prop}
  (hl:typeLookup (.type T) "__getitem__"=pure (some (.builtin id))) (hs:ZX slice)
  (h:wpAny (model prog w) A (eval value env) (fun o s₁=>wpAny (model prog w) A (eval slice env) (fun i s₂=>s₂.TypeIs o T∧wpAny (model prog w) A (getItem o i) Q E s₂) E s₁) E s) :
  wpAny (model prog w) A (eval (.Subscript value slice pos) env) Q E s:=by
 refine Subscript_ (wpAny_mono h (fun o s₁ h₁=>wpAny_mono h₁ (fun i s₂ h₂=>?_) fun _ _ x=>x) fun _ _ x=>x)
 obtain ⟨hT,h₂⟩:=h₂
 unfold subscriptTail
 refine wpAny_bind ?_
 rw [getitemInPython_of_ne hT.not_modules]
 refine wpAny_bind (wpAny_specialOf hT hl ?_)
 have fin:wpAny (model prog w) A (subscripted slice false o i) (fun r s₃=>wpAny (model prog w) A (letTemporaryGo value o r >>= fun _=>pure r) Q E s₃) E s₂:=by
  rw [hs o i]
  exact wpAny_operating (wpAny_mono h₂ (fun r s₃ h₃=>wpAny_bind (wpAny_letTemporaryGo (wpAny_pure h₃))) fun _ _ x=>x)
 first
  |exact wpAny_pure (wpAny_bind fin)
  |exact wpAny_bind (wpAny_pure (wpAny_bind fin))
  |exact wpAny_bind fin
section
variable {X:Cx} {o i e value:Expr} {pos pos' tpos:Pos} {td ty tv:TE}
end
section
variable {X:Cx} {pos:Pos}
end
def d9:List (TE×TE)→St→Hp→(List (V×V)→Hp→Prop)→Prop
 |[],_,H,Q=>Q [] H
 | (tk,tv)::r,σ,H,Q=>tk σ H fun x H1=>tv σ H1 fun y H2=>d9 r σ H2 fun ps H3=>Q ((x,y)::ps) H3
abbrev VV:List (V×V)→List (Value×Value)→Prop:=Paired fun p q=>RelV p.1 q.1∧RelV p.2 q.2
def Z2 (X:Cx) (pos:Pos) (keys:List (Option Expr)) (values:List Expr) (trs:List (TE×TE)):Prop :=
 ∀(pins:List (Addr×Obj)) (s:Shared) (σ:St) (H:Hp) (Q:List (V×V)→Hp→Prop),Inv X pins σ H s→d9 trs σ H Q→
  wpAny (model X.prog X.w) X.A (evalPairs (pairTrees keys values X.env pos)) (fun vs s'=>∃ps H',Inv X pins σ H' s'∧VV ps vs∧Q ps H') X.xe s
theorem m4 {X:Cx} {pos:Pos}:Z2 X pos [] [] []:=fun pins s σ H Q I h=>pairTrees_nil_walk ⟨[],H,I,.nil,h⟩
theorem lT {X:Cx} {pos:Pos} {k v:Expr} {ks:List (Option Expr)} {vs:List Expr} {tk tv:TE} {trs:List (TE×TE)} (hk:PE X k tk) (hv:PE X v tv) (hr:Z2 X pos ks vs trs) :
  Z2 X pos (some k::ks) (v::vs) ((tk,tv)::trs):=fun pins s σ H Q I h =>
 pairTrees_cons_walk (jG (hk pins s σ H _ I h) fun u s1 ⟨x,H1,I1,rx,q1⟩=>jG (hv pins s1 σ H1 _ I1 q1) fun w2 s2 ⟨y,H2,I2,ry,q2⟩ =>
  jG (hr pins s2 σ H2 _ I2 q2) fun ws s3 ⟨ps,H3,I3,rel,q3⟩=>⟨(x,y)::ps,H3,I3,.cons ⟨rx,ry⟩ rel,q3⟩)
end L2
namespace L2
open PySem PySem.Spec PyProof.Rows
section
variable {X:Cx} {tg:Expr}
end
section
variable {X:Cx}
end
end L2
namespace L2
open PySem PySem.Spec PyProof.Rows
inductive Kd where
 |plain|basin|pump
section
variable {X:Cx} {k k':Nat} {x m:Str} {cs:Kd→Addr} {ps:List Str} {ss:Kd→Sp} {p pos apos:Pos} {o e:Expr} {es:List Expr} {ta:TE} {t:TA}
end
end L2
namespace L2
open PySem PySem.Spec PyProof.Rows
section
variable {X:Cx} {tg:Expr}
end
section
variable {X:Cx}
end
end L2
namespace L2
open PySem PySem.Spec PyProof.Rows
section
variable {X:Cx} {K:PySem.W.Frag} {w:World} {o i:Expr} {pos:Pos} {td ty:TE}
end
end L2
namespace L2
open PySem PySem.Spec PyProof.Rows
inductive DEq (K:PySem.W.Frag) (H:Hp):V→V→Bool→Prop where
 |flat {x y:V} (hx:vL x=true) (hy:vL y=true):DEq K H x y (yZ x y)
 |same (a:Addr):DEq K H (.ref a) (.ref a) true
 |tup {a b:Addr} {xs ys:List V} (ne:a≠b) (ha:SqT K H a xs) (hb:SqT K H b ys) (fx:xs.all vL=true) (fy:ys.all vL=true):DEq K H (.ref a) (.ref b) (yL xs ys)
 |lst {a b:Addr} {xs ys:List V} (ne:a≠b) (ha:SqL K H a xs) (hb:SqL K H b ys) (fx:xs.all vL=true) (fy:ys.all vL=true):DEq K H (.ref a) (.ref b) (yL xs ys)
section
variable {X:Cx} {pins:List (Addr×Obj)} {σ:St} {H:Hp} {s:Shared} {A:Around}
theorem DEq.at {x y:V} {u v:Value} {e:Bool} (I:Inv X pins σ H s) (d:DEq X.K H x y e) (rx:RelV x u) (ry:RelV y v) (hu:A.units<cLine):SeqAt.EqAt A s u v e:=by
 cases d with
 |flat hx hy=>exact ZQ rx ry hx hy
 |same a=>cases rx;cases ry;exact SeqAt.EqAt.same _
 |@tup a b xs ys ne ha hb fx fy =>
  cases rx;cases ry
  obtain ⟨its,r,pl,hz⟩:=I.tuple ha
  obtain ⟨its2,r2,pl2,hz2⟩:=I.tuple hb
  have hl:=r.length
  have hl2:=r2.length
  have h:=SeqAt.RcAt.tuples (A:=A) (e:=fun j=>yZ (xs.getD j .non) (ys.getD j .non)) pl pl2 hu (fun j h1 h2=>ZQ (v5 r h1) (v5 r2 h2) (J8 fx (by rw [hl];simpa using h1)) (J8 fy (by rw [hl2];simpa using h2)))
  have e:((List.range (min its.toArray.size its2.toArray.size)).all (fun j=>yZ (xs.getD j .non) (ys.getD j .non))&&its.toArray.size == its2.toArray.size)=yL xs ys:=by
   unfold yL
   rw [List.size_toArray,List.size_toArray,← hl,← hl2]
  rw [e] at h
  exact SeqAt.EqAt.of_refs ne h
 |@lst a b xs ys ne ha hb fx fy =>
  cases rx;cases ry
  obtain ⟨its,r,pl,hz⟩:=I.list ha
  obtain ⟨its2,r2,pl2,hz2⟩:=I.list hb
  have hl:=r.length
  have hl2:=r2.length
  by_cases he:xs.length=ys.length
  ·have h:=SeqAt.RcAt.lists (A:=A) (e:=fun j=>yZ (xs.getD j .non) (ys.getD j .non)) pl.isList pl2.isList (by rw [List.size_toArray,List.size_toArray,← hl,← hl2,he]) hu (fun j h1 h2=>ZQ (v5 r h1) (v5 r2 h2) (J8 fx (by rw [hl];simpa using h1)) (J8 fy (by rw [hl2];simpa using h2)))
   have e:((List.range its.toArray.size).all (fun j=>yZ (xs.getD j .non) (ys.getD j .non)))=yL xs ys:=by
    unfold yL
    rw [List.size_toArray,← hl,← he,Nat.min_self,beq_self_eq_true,Bool.and_true]
   rw [e] at h
   exact SeqAt.EqAt.of_refs ne h
  ·have hf:yL xs ys=false:=by
    unfold yL
    rw [show (xs.length == ys.length)=false from beq_eq_false_iff_ne.mpr he,Bool.and_false]
   rw [hf]
   exact SeqAt.EqAt.of_refs ne (SeqAt.RcAt.lists_lengths pl.isList pl2.isList (by rw [List.size_toArray,List.size_toArray,← hl,← hl2];exact bne_iff_ne.mpr he) hu)
end
section
variable {X:Cx}
end
end L2
namespace L2
open PySem PySem.Spec PyProof.Rows
end L2
namespace L2
open PySem PySem.Spec PyProof.Rows
end L2
namespace L2
open PySem PySem.Spec PyProof.Rows
end L2
namespace L2
open PySem PySem.Spec PyProof.Rows
section
variable {X:Cx}
theorem b0:CallR X (.type "str") (fun xs H Q=>∃n:Int,xs=[.int n]∧n.natAbs.log2<1920∧Q (.str (Str.ofString (toString n))) H):=by
 intro pins s σ H xs us Q I r h
 obtain ⟨n,rfl,hl,q⟩:=h
 obtain ⟨u,rfl,t,rfl⟩:=JO r
 exact P.str_of_int hl ⟨.str (Str.ofString (toString n)),H,I.tok _,⟨_,rfl⟩,q⟩
end
end L2
namespace L2
open PySem PySem.Spec PyProof.Rows
end L2
namespace L2
open PySem PySem.Spec PyProof.Rows
section
variable {X:Cx}
end
end L2
namespace L2
open PySem PySem.Spec PyProof.Rows
end L2
namespace L2
open PySem PySem.Spec PyProof.Rows
section
variable {X:Cx} {tg:Expr}
end
end L2
namespace L2
open PySem PySem.Spec PyProof.Rows
end L2
namespace L2
open PySem PySem.Spec PyProof.Rows
section
variable {X:Cx} {pins:List (Addr×Obj)} {σ:List (Option V)} {H:Hp} {s:Shared} {h':Heap}
end
section
variable {X:Cx} {elts:List Expr} {x1:Nat} {tpos:Pos}
end
end L2
namespace L2
open PySem PySem.Spec PyProof.Rows
end L2
namespace L2
open PySem PySem.Spec PyProof.Rows
section
variable {X:Cx}
end
end L2
namespace L2
open PySem PySem.Spec PyProof.Rows
section
variable {prog:Program} {w:World} {A:Around} {s:Shared} {E:Value→Shared→Prop}
end
section
variable {X:Cx} {elts:List Expr} {x1:Nat} {tpos:Pos}
end
end L2
namespace L2
open PySem PySem.Spec PyProof.Rows
set_option maxRecDepth 100000
section
variable {X:Cx}
end
end L2
namespace L2
open PySem PySem.Spec PyProof.Rows
section
variable {prog:Program} {w:World} {A:Around} {s:Shared} {E:Value→Shared→Prop}
abbrev rT (h:Heap) (z P1 P2:Addr) (f0:Value) (f1:Bool):Prop:=h.get? z=some {cls:=.type "zip",dict:=none,data:=.fields #[f0,.bool f1,.bool false,.ref P1,.ref P2],slots := #[]}
def ZStands (h:Heap) (N z P1 P2 j1 j2 a b:Addr) (us vs:Array Value) (k:Nat):Prop :=
 ((IsZip h z P1 P2 .none∧∃g g',IsPair h P2 g g')∨∃(T:Addr) (f1:Bool) (o:Obj),rT h z P1 P2 (rawInt T) f1∧N≤T∧h.get? T=some o)∧IsPair h P1 (.ref j1) (.ref j2)∧h.IsListIter j1 a k∧h.IsListIter j2 b k∧h.IsList a us∧h.IsList b vs
theorem ZStands.keep {h h':Heap} {N z P1 P2 j1 j2 a b S:Addr} {us vs:Array Value} {k:Nat} (hs:ZStands h N z P1 P2 j1 j2 a b us vs k) (bS:S<N) (nS:∀c∈[z,P1,P2,j1,j2,a,b],c≠S) (kp:∀c o,c≠S→h.get? c=some o→h'.get? c=some o):ZStands h' N z P1 P2 j1 j2 a b us vs k:=by
 obtain ⟨hz,hP1,n1,n2,la,lb⟩:=hs
 have nS':∀c,c∈[z,P1,P2,j1,j2,a,b]→∀o,h.get? c=some o→h'.get? c=some o:=fun c hc o e=>kp c o (nS c hc) e
 refine ⟨?_,nS' _ (by simp) _ hP1,n1.at fun o e=>nS' _ (by simp) o e,n2.at fun o e=>nS' _ (by simp) o e,la.at fun o e=>nS' _ (by simp) o e,lb.at fun o e=>nS' _ (by simp) o e⟩
 rcases hz with ⟨hz,g,g',hP2⟩|⟨T,f1,o,hz,t0,hT⟩
 ·exact .inl ⟨nS' _ (by simp) _ hz,g,g',nS' _ (by simp) _ hP2⟩
 ·exact .inr ⟨T,f1,o,nS' _ (by simp) _ hz,t0,kp _ _ (Nat.ne_of_gt (Nat.lt_of_lt_of_le bS t0)) hT⟩
def Pairs (h:Heap) (N:Addr) (us vs acc:Array Value) (k:Nat):Prop:=acc.size=k∧(∀(j:Nat) (v:Value),acc[j]?=some v→∃(T:Addr) (x y:Value),v=.ref T∧N≤T∧T<h.objs.size∧IsPair h T x y∧us[j]?=some x∧vs[j]?=some y)∧∀(i j:Nat) (v:Value),acc[i]?=some v→acc[j]?=some v→i=j
theorem Pairs.keep {h h':Heap} {N:Addr} {us vs acc:Array Value} {k:Nat} (p:Pairs h N us vs acc k) (kp:∀c o,N≤c→h.get? c=some o→h'.get? c=some o) (sz:h.objs.size≤h'.objs.size):Pairs h' N us vs acc k:=⟨p.1,fun j v hv=>by
 obtain ⟨T,x,y,e1,e2,e3,e4,e5⟩:=p.2.1 j v hv
 exact ⟨T,x,y,e1,e2,Nat.lt_of_lt_of_le e3 sz,kp _ _ e2 e4,e5⟩,p.2.2⟩
end
end L2
namespace L2
open PySem PySem.Spec PyProof.Rows
section
variable {X:Cx} {pins:List (Addr×Obj)} {σ:List (Option V)} {H:Hp} {s:Shared} {h':Heap}
end
section
variable {X:Cx}
end
end L2
namespace L2
open PySem PySem.Spec PyProof.Rows
section
variable {prog:Program} {w:World} {A:Around} {s:Shared} {E:Value→Shared→Prop}
end
end L2
namespace L2
open PySem PySem.Spec PyProof.Rows
section
variable {X:Cx} {e se:Expr} {te:TE} {lo hi:Option Expr} {tl th tk:TO} {pos p2:Pos}
end
section
variable {X:Cx}
end
end L2
namespace L2
open PySem PySem.Spec PyProof.Rows
section
end
end L2
namespace L2
open PySem PySem.Spec PyProof.Rows
section
variable {prog:Program} {w:World} {A:Around} {s:Shared} {E:Value→Shared→Prop}
end
section
variable {X:Cx} {elts:List Expr} {x1:Nat} {tpos:Pos}
end
end L2
namespace L2
open PySem PySem.Spec PyProof.Rows
section
variable {X:Cx}
end
end L2
namespace L2
open PySem PySem.Spec PyProof.Rows
end L2
namespace L2
open PySem PySem.Spec PyProof.Rows
section
variable {X:Cx}
end
end L2
namespace L2
end L2
namespace L2
theorem an3 {A0 A1 A2:Prop} (h0:A0) (h1:A1) (h2:A2):A0∧A1∧A2:=⟨h0,h1,h2⟩
theorem an4 {A0 A1 A2 A3:Prop} (h0:A0) (h1:A1) (h2:A2) (h3:A3):A0∧A1∧A2∧A3:=⟨h0,h1,h2,h3⟩
theorem an5 {A0 A1 A2 A3 A4:Prop} (h0:A0) (h1:A1) (h2:A2) (h3:A3) (h4:A4):A0∧A1∧A2∧A3∧A4:=⟨h0,h1,h2,h3,h4⟩
theorem an6 {A0 A1 A2 A3 A4 A5:Prop} (h0:A0) (h1:A1) (h2:A2) (h3:A3) (h4:A4) (h5:A5):A0∧A1∧A2∧A3∧A4∧A5:=⟨h0,h1,h2,h3,h4,h5⟩
theorem an7 {A0 A1 A2 A3 A4 A5 A6:Prop} (h0:A0) (h1:A1) (h2:A2) (h3:A3) (h4:A4) (h5:A5) (h6:A6):A0∧A1∧A2∧A3∧A4∧A5∧A6:=⟨h0,h1,h2,h3,h4,h5,h6⟩
theorem an8 {A0 A1 A2 A3 A4 A5 A6 A7:Prop} (h0:A0) (h1:A1) (h2:A2) (h3:A3) (h4:A4) (h5:A5) (h6:A6) (h7:A7):A0∧A1∧A2∧A3∧A4∧A5∧A6∧A7:=⟨h0,h1,h2,h3,h4,h5,h6,h7⟩
theorem an9 {A0 A1 A2 A3 A4 A5 A6 A7 A8:Prop} (h0:A0) (h1:A1) (h2:A2) (h3:A3) (h4:A4) (h5:A5) (h6:A6) (h7:A7) (h8:A8):A0∧A1∧A2∧A3∧A4∧A5∧A6∧A7∧A8:=⟨h0,h1,h2,h3,h4,h5,h6,h7,h8⟩
theorem an10 {A0 A1 A2 A3 A4 A5 A6 A7 A8 A9:Prop} (h0:A0) (h1:A1) (h2:A2) (h3:A3) (h4:A4) (h5:A5) (h6:A6) (h7:A7) (h8:A8) (h9:A9):A0∧A1∧A2∧A3∧A4∧A5∧A6∧A7∧A8∧A9:=⟨h0,h1,h2,h3,h4,h5,h6,h7,h8,h9⟩
theorem an11 {A0 A1 A2 A3 A4 A5 A6 A7 A8 A9 A10:Prop} (h0:A0) (h1:A1) (h2:A2) (h3:A3) (h4:A4) (h5:A5) (h6:A6) (h7:A7) (h8:A8) (h9:A9) (h10:A10):A0∧A1∧A2∧A3∧A4∧A5∧A6∧A7∧A8∧A9∧A10:=⟨h0,h1,h2,h3,h4,h5,h6,h7,h8,h9,h10⟩
theorem an12 {A0 A1 A2 A3 A4 A5 A6 A7 A8 A9 A10 A11:Prop} (h0:A0) (h1:A1) (h2:A2) (h3:A3) (h4:A4) (h5:A5) (h6:A6) (h7:A7) (h8:A8) (h9:A9) (h10:A10) (h11:A11):A0∧A1∧A2∧A3∧A4∧A5∧A6∧A7∧A8∧A9∧A10∧A11:=⟨h0,h1,h2,h3,h4,h5,h6,h7,h8,h9,h10,h11⟩
theorem an13 {A0 A1 A2 A3 A4 A5 A6 A7 A8 A9 A10 A11 A12:Prop} (h0:A0) (h1:A1) (h2:A2) (h3:A3) (h4:A4) (h5:A5) (h6:A6) (h7:A7) (h8:A8) (h9:A9) (h10:A10) (h11:A11) (h12:A12):A0∧A1∧A2∧A3∧A4∧A5∧A6∧A7∧A8∧A9∧A10∧A11∧A12:=⟨h0,h1,h2,h3,h4,h5,h6,h7,h8,h9,h10,h11,h12⟩
theorem an14 {A0 A1 A2 A3 A4 A5 A6 A7 A8 A9 A10 A11 A12 A13:Prop} (h0:A0) (h1:A1) (h2:A2) (h3:A3) (h4:A4) (h5:A5) (h6:A6) (h7:A7) (h8:A8) (h9:A9) (h10:A10) (h11:A11) (h12:A12) (h13:A13):A0∧A1∧A2∧A3∧A4∧A5∧A6∧A7∧A8∧A9∧A10∧A11∧A12∧A13:=⟨h0,h1,h2,h3,h4,h5,h6,h7,h8,h9,h10,h11,h12,h13⟩
theorem an15 {A0 A1 A2 A3 A4 A5 A6 A7 A8 A9 A10 A11 A12 A13 A14:Prop} (h0:A0) (h1:A1) (h2:A2) (h3:A3) (h4:A4) (h5:A5) (h6:A6) (h7:A7) (h8:A8) (h9:A9) (h10:A10) (h11:A11) (h12:A12) (h13:A13) (h14:A14):A0∧A1∧A2∧A3∧A4∧A5∧A6∧A7∧A8∧A9∧A10∧A11∧A12∧A13∧A14:=⟨h0,h1,h2,h3,h4,h5,h6,h7,h8,h9,h10,h11,h12,h13,h14⟩
end L2
namespace L2
open PySem PySem.Spec PyProof.Rows
section
variable {X:Cx}
end
end L2
namespace L2
open PySem PySem.Spec PyProof.Rows
end L2
namespace L2
open PySem PySem.Spec PyProof.Rows
end L2
namespace L2
open PySem PySem.Spec PyProof.Rows
section
variable {prog:Program} {w:World} {A:Around} {E:Value→Shared→Prop} {s:Shared}
end
section
variable {X:Cx}
end
end L2
namespace L2
open PySem PySem.Spec PyProof.Rows
section
variable {X:Cx} {pins:List (Addr×Obj)} {σ:St} {H:Hp} {s:Shared} {a:Addr} {y d:V} {u r:Value} {o:Option V} {A:Around} {E:Value→Shared→Prop}
end
section
variable {X:Cx} {o e f:Expr} {apos cpos:Pos} {td ty tx:TE}
end
end L2
namespace L2
open PySem PySem.Spec PyProof.Rows
end L2
namespace L2
open PySem PySem.Spec PyProof.Rows
section
variable {M:Model} {A:Around} {E:Value→Shared→Prop} {s:Shared}
end
section
variable {P:Program} {w:World} {K:PySem.W.Frag} {mg:Str→Option Value} {base:Heap} {N:List Str} {qual:Str} {scope:Scope} {f:Addr} {cd:Value} {A:Around} {outer:List Env} {s:Shared} {H:Hp} {E:XK}
end
section
variable {X:Cx} {N:List Str} {scope:Scope} {pins:List (Addr×Obj)} {σ:St} {H:Hp} {s:Shared} {fp:List Addr}
end
section
variable {P:Program} {w:World} {K:PySem.W.Frag} {mg:Str→Option Value} {base:Heap} {Nf:List Str} {qual:Str} {scf:Scope} {f:Addr} {cd:Value} {A:Around} {outer:List Env} {s₀:Shared} {H₀:Hp} {E:XK}
end
end L2
namespace L2
open PySem PySem.Spec PyProof.Rows
section
variable {X:Cx}
def vE (z:Str) (k:Nat):Str:=⟨(List.replicate k z.cps).foldl (·++·) #[]⟩
theorem cZ (a:Array Nat):∀(k:Nat) (acc:Array Nat),((List.replicate k a).foldl (·++·) acc).toList=acc.toList++(List.replicate k a.toList).flatten
 |0,acc=>by simp
 |k+1,acc=>by rw [List.replicate_succ,List.foldl_cons,cZ a k,List.replicate_succ,List.flatten_cons,Array.toList_append,List.append_assoc]
theorem cO (z:Str) (k:Nat):(vE z k).cps.toList=(List.replicate k z.cps.toList).flatten:=by
 unfold vE
 rw [cZ]
 rfl
theorem lQ (z:Str) (k:Nat):(vE z k).length=k*z.length:=by
 show (vE z k).cps.size=k*z.cps.size
 rw [← Array.length_toList,cO,nE,Array.length_toList]
end
end L2
namespace L2
open PySem PySem.Spec PyProof.Rows
section
variable {P:Program} {w:World} {K:PySem.W.Frag} {mg:Str→Option Value} {base:Heap}
end
section
variable {X:Cx} {a b:Expr} {ta tb:TE} {r:R2} {pos:Pos}
end
theorem so {K:PySem.W.Frag} {H:Hp} {a:Addr} {xs:List V} (h:H a=some (.lst xs)):SqL K H a xs:=SqL.of h
end L2
namespace L2
open PySem PySem.Spec PyProof.Rows
section
variable {X:Cx} {N:List Str} {scope:Scope} {pins:List (Addr×Obj)} {σ:St} {H:Hp} {s:Shared} {fp:List Addr}
end
theorem cps {X:Cx} {N:List Str} {scope:Scope} (n:Nat) (js:List Nat) (a:N.length=n+js.length:=by rfl) (b:js.map (fun j=>X.N[j]?)=(N.drop n).map some:=by rfl) (c:∀x∈N.drop n,scope.names.lookup x=some .free:=by decide +kernel):z7 X N scope (v3 n js):=y7 n js a b c
end L2
namespace L2
open PySem PySem.Spec PyProof.Rows
inductive GK where
 |i (n:Int)
 |s (t:Str)
 |nil
 |cons (a b:GK)
 deriving DecidableEq
def TupOf (h:Heap) (v:Value) (P:List Value→Prop):Prop :=
 ∃(a:Addr) (o:Obj) (its:Array Value) (n:Nat),v=.ref a∧h.get? a=some o∧o.cls=.type "tuple"∧o.data=.seq its n∧P its.toList
def GR (h:Heap):GK→(Value→Prop)×(List Value→Prop)
 |.i n=>(fun v=>∃t,v=.int n t,fun _=>False)
 |.s x=>(fun v=>∃t,v=.str x t,fun _=>False)
 |.nil=>(fun v=>TupOf h v (fun l=>l=[]),fun l=>l=[])
 |.cons a b=>(fun v=>TupOf h v (fun l=>∃u us,l=u::us∧(GR h a).1 u∧(GR h b).2 us),fun l=>∃u us,l=u::us∧(GR h a).1 u∧(GR h b).2 us)
def gh (w:World):GK→Int×List Int
 |.i n=>(hashInt n,[])
 |.s x=>(hashStr w x,[])
 |.nil=>(reduceHash (Builtin.Tuple.tupleHashOf []),[])
 |.cons a b=>(reduceHash (Builtin.Tuple.tupleHashOf ((gh w a).1::(gh w b).2)),(gh w a).1::(gh w b).2)
def gd:GK→Nat
 |.i _=>1
 |.s _=>1
 |.nil=>1
 |.cons a b=>max (gd a+1) (gd b)
theorem TupOf.mono {h h':Heap} {v:Value} {P P':List Value→Prop} (x:TupOf h v P) (hk:∀a o its n,h.get? a=some o→o.data=.seq its n→h'.get? a=some o) (hp:∀l,P l→P' l):TupOf h' v P' :=
 let ⟨a,o,its,n,e,ho,hc,hd,p⟩:=x
 ⟨a,o,its,n,e,hk a o its n ho hd,hc,hd,hp _ p⟩
def vP:GK→Bool
 |.nil=>true
 |.cons _ _=>true
 |_=>false
theorem GR.tup {h:Heap} {k:GK} (ht:vP k=true) {v:Value}:(GR h k).1 v↔TupOf h v (GR h k).2:=by
 cases k<;>first|exact Iff.rfl|cases ht
theorem GR.keep {h h':Heap} (hk:∀a o its n,h.get? a=some o→o.data=.seq its n→h'.get? a=some o):∀k,(∀v,(GR h k).1 v→(GR h' k).1 v)∧(∀l,(GR h k).2 l→(GR h' k).2 l)
 |.i _=>⟨fun _ p=>p,fun _ p=>p⟩
 |.s _=>⟨fun _ p=>p,fun _ p=>p⟩
 |.nil=>⟨fun _ p=>(GR.tup rfl).2 (((GR.tup rfl).1 p).mono hk fun _ q=>q),fun _ p=>p⟩
 |.cons a b=>by
  have c:∀l,(∃u us,l=u::us∧(GR h a).1 u∧(GR h b).2 us)→∃u us,l=u::us∧(GR h' a).1 u∧(GR h' b).2 us :=
   fun l ⟨u,us,e,p,q⟩=>⟨u,us,e,(GR.keep hk a).1 _ p,(GR.keep hk b).2 _ q⟩
  exact ⟨fun _ p=>(GR.tup rfl).2 (((GR.tup rfl).1 p).mono hk c),c⟩
theorem TupOf.typeIs {s:Shared} {v:Value} {P:List Value→Prop} (x:TupOf s.heap v P):s.TypeIs v "tuple":=by
 obtain ⟨a,o,its,n,rfl,ho,hc,_⟩:=x
 exact ⟨o,ho,hc⟩
theorem GR.inj {h:Heap}:∀x y,(∀v,(GR h x).1 v→(GR h y).1 v→x=y)∧(∀l,(GR h x).2 l→(GR h y).2 l→x=y):=by
 have tt:∀{v:Value} {P P':List Value→Prop},TupOf h v P→TupOf h v P'→∃l,P l∧P' l:=by
  rintro v P P' ⟨a,o,its,n,rfl,ho,_,hd,p⟩ ⟨a',o',its',n',e,ho',_,hd',p'⟩
  cases e
  obtain rfl:o=o':=Option.some.inj (ho.symm.trans ho')
  rw [hd] at hd'
  injection hd' with e1 _
  subst e1
  exact ⟨_,p,p'⟩
 intro x
 induction x with
 |i n =>
  intro y
  refine ⟨fun v p q=>?_,fun l p=>p.elim⟩
  obtain ⟨t,rfl⟩:=p
  cases y with
  |i m=>obtain ⟨u,e⟩:=q;cases e;rfl
  |s z=>obtain ⟨u,e⟩:=q;cases e
  |nil=>obtain ⟨a,_,_,_,e,_⟩:=q;cases e
  |cons a b=>obtain ⟨a,_,_,_,e,_⟩:=q;cases e
 |s z =>
  intro y
  refine ⟨fun v p q=>?_,fun l p=>p.elim⟩
  obtain ⟨t,rfl⟩:=p
  cases y with
  |i m=>obtain ⟨u,e⟩:=q;cases e
  |s z=>obtain ⟨u,e⟩:=q;cases e;rfl
  |nil=>obtain ⟨a,_,_,_,e,_⟩:=q;cases e
  |cons a b=>obtain ⟨a,_,_,_,e,_⟩:=q;cases e
 |nil =>
  intro y
  have c:∀l,(GR h .nil).2 l→(GR h y).2 l→GK.nil=y:=by
   intro l p q
   cases p
   cases y with
   |i m=>exact q.elim
   |s z=>exact q.elim
   |nil=>rfl
   |cons a b=>obtain ⟨u,us,e,_⟩:=q;cases e
  refine ⟨fun v p q=>?_,c⟩
  cases y with
  |i m=>obtain ⟨u,rfl⟩:=q;obtain ⟨a,_,_,_,e,_⟩:=p;cases e
  |s z=>obtain ⟨u,rfl⟩:=q;obtain ⟨a,_,_,_,e,_⟩:=p;cases e
  |nil=>rfl
  |cons a b=>obtain ⟨l,p,q⟩:=tt ((GR.tup rfl).1 p) ((GR.tup rfl).1 q);exact c l p q
 |cons a b iha ihb =>
  intro y
  have c:∀l,(GR h (.cons a b)).2 l→(GR h y).2 l→GK.cons a b=y:=by
   rintro l ⟨u,us,rfl,p1,p2⟩ q
   cases y with
   |i m=>exact q.elim
   |s z=>exact q.elim
   |nil=>cases q
   |cons a' b' =>
    obtain ⟨u',us',e,q1,q2⟩:=q
    cases e
    rw [(iha a').1 _ p1 q1,(ihb b').2 _ p2 q2]
  refine ⟨fun v p q=>?_,c⟩
  cases y with
  |i m=>obtain ⟨u,rfl⟩:=q;obtain ⟨a,_,_,_,e,_⟩:=p;cases e
  |s z=>obtain ⟨u,rfl⟩:=q;obtain ⟨a,_,_,_,e,_⟩:=p;cases e
  |nil=>obtain ⟨l,p,q⟩:=tt ((GR.tup rfl).1 p) ((GR.tup rfl).1 q);exact c l p q
  |cons a b=>obtain ⟨l,p,q⟩:=tt ((GR.tup rfl).1 p) ((GR.tup rfl).1 q);exact c l p q
section
variable {prog:Program} {w:World} {E:Value→Shared→Prop}
abbrev QC (prog:Program) (w:World) (E:Value→Shared→Prop) (k:GK):Prop :=
 ∀(l:List Value) (A:Around) (s:Shared) (b:Array Int) (Q:Array Int→Shared→Prop),(GR s.heap k).2 l→A.units+gd k≤cLine→(∀n b',b'.toList=b.toList++(gh w k).2→Q b' {s with toks:=n})→
  wpAny (model prog w) A (forIn l b fun x r=>do let h ← pyHash x;pure (ForInStep.yield (r.push h))) Q E s
theorem cY {k:GK} (ht:vP k=true) (hs:(gh w k).1=reduceHash (Builtin.Tuple.tupleHashOf (gh w k).2))
  (lp:QC prog w E k)
  {v:Value} {A:Around} {s:Shared} {Q:Int→Shared→Prop} (hv:(GR s.heap k).1 v) (hu:A.units+gd k<cLine) (hq:∀n,Q (gh w k).1 {s with toks:=n}):wpAny (model prog w) A (pyHash v) Q E s:=by
 have hv':=(GR.tup ht).1 hv
 have hT:=hv'.typeIs
 obtain ⟨a,o,its,n,rfl,ho,hc,hd,hl⟩:=hv'
 refine PySem.W.pyHash_slot (T:="tuple") hT F.slot_tuple_hash F.entry_tuple_hash (F.args_tuple_hash_1 _) (beq_builtin_none _) (.inr (by omega)) ?_
 show wpAny _ A.in1 (Builtin.Tuple.tupleItemsOf _ >>= _) _ E s
 refine wpAny_bind (wpAny_tupleItemsOf ho hd (wpAny_bind ?_))
 rw [← Array.forIn_toList]
 refine lp its.toList _ s #[] _ hl (by simp only [Around.in1_units];omega) fun m b' hb=>?_
 have e:b'.toList=(gh w k).2:=by rw [hb];rfl
 show wpAny _ _ (retInt (Builtin.Tuple.tupleHashOf b'.toList)) _ _ _
 rw [e]
 exact wpAny_bind (wpAny_mkInt (wpAny_pure ⟨_,_,rfl,hs▸hq _⟩))
theorem QB:∀k:GK,(∀(v:Value) (A:Around) (s:Shared) (Q:Int→Shared→Prop),(GR s.heap k).1 v→A.units+gd k<cLine→(∀n,Q (gh w k).1 {s with toks:=n})→wpAny (model prog w) A (pyHash v) Q E s)∧QC prog w E k
 |.i n=>⟨fun v A s Q p _ q=>by obtain ⟨t,rfl⟩:=p;exact wpAny_pyHash_int (q _),fun _ _ _ _ _ p=>p.elim⟩
 |.s z=>⟨fun v A s Q p _ q=>by obtain ⟨t,rfl⟩:=p;exact wpAny_pyHash_str (q _),fun _ _ _ _ _ p=>p.elim⟩
 |.nil=>by
  have lp:QC prog w E .nil:=fun l A s b Q p _ q=>by
   cases p
   exact wpAny_pure (q s.toks b (by simp [gh]))
  exact ⟨fun v A s Q p hu q=>cY rfl (by simp only [gh]) lp p hu q,lp⟩
 |.cons x y=>by
  have lp:QC prog w E (.cons x y):=fun l A s b Q p hu q=>by
   obtain ⟨u,us,rfl,p1,p2⟩:=p
   simp only [gd] at hu
   rw [List.forIn_cons]
   refine wpAny_bind (wpAny_bind ((QB x).1 u A s _ p1 (by omega) fun m=>wpAny_pure ?_))
   exact (QB y).2 us A _ _ Q p2 (by omega) fun m' b' hb=>q m' b' (by simp [hb,gh])
  exact ⟨fun v A s Q p hu q=>cY rfl (by simp only [gh]) lp p hu q,lp⟩
end
section
variable {s:Shared}
theorem gW (n:Nat) (e:Nat→Bool):(List.range (n+1)).all e=(e 0&&(List.range n).all fun j=>e (j+1)):=by
 rw [List.range_succ_eq_map,List.all_cons,List.all_map]
 rfl
abbrev QH (s:Shared) (x y:GK):Prop :=
 ∀(A:Around) (l m:List Value),(GR s.heap x).2 l→(GR s.heap y).2 m→A.units+gd x≤cLine→∃e:Nat→Bool,(∀j (h1:j<l.length) (h2:j<m.length),SeqAt.EqAt A s l[j] m[j] (e j))∧((List.range (min l.length m.length)).all e&&l.length == m.length)=decide (x=y)
theorem QF {x y:GK} (hx:vP x=true) (hy:vP y=true) (lp:QH s x y) {v u:Value} {A:Around} (p:(GR s.heap x).1 v) (q:(GR s.heap y).1 u) (hu:A.units+gd x<cLine):SeqAt.EqAt A s v u (decide (x=y)):=by
 obtain ⟨a,o,its,n,rfl,ho,hc,hd,hl⟩:=(GR.tup hx).1 p
 obtain ⟨a',o',its',n',rfl,ho',hc',hd',hl'⟩:=(GR.tup hy).1 q
 by_cases ea:a=a'
 ·subst ea
  rw [decide_eq_true ((GR.inj x y).1 _ p q)]
  exact SeqAt.EqAt.same _
 ·obtain ⟨e,he,hr⟩:=lp A.in1 _ _ hl hl' (by simp only [Around.in1_units];omega)
  have r:=SeqAt.RcAt.tuples (A:=A) (s:=s) (e:=e) (items:=its) (items2:=its') ⟨o,ho,hc,n,hd⟩ ⟨o',ho',hc',n',hd'⟩ (by omega) (fun j h1 h2=>by have:=he j (by simpa using h1) (by simpa using h2);rwa [Array.getElem_toList,Array.getElem_toList] at this)
  rw [Array.length_toList,Array.length_toList] at hr
  rw [hr] at r
  exact SeqAt.EqAt.of_refs ea r
theorem JN:∀x y:GK,(∀(A:Around) (v u:Value),(GR s.heap x).1 v→(GR s.heap y).1 u→A.units+gd x<cLine→SeqAt.EqAt A s v u (decide (x=y)))∧QH s x y:=by
 intro x
 induction x with
 |i n =>
  intro y
  refine ⟨fun A v u p q hu=>?_,fun _ _ _ p=>p.elim⟩
  obtain ⟨t,rfl⟩:=p
  cases y with
  |i m=>obtain ⟨t',rfl⟩:=q;rw [show decide (GK.i n=GK.i m)=(n == m) by by_cases e:n=m<;>simp [e]];exact SeqAt.EqAt.int_int n t m t'
  |s z=>obtain ⟨t',rfl⟩:=q;exact SeqAt.EqAt.int_str _ _ _ _
  |nil=>obtain ⟨a,o,its,n,rfl,ho,hc,hd,_⟩:=(GR.tup rfl).1 q;exact SeqAt.EqAt.int_tuple _ _ ⟨o,ho,hc,_,hd⟩ (by omega)
  |cons a b=>obtain ⟨a,o,its,n,rfl,ho,hc,hd,_⟩:=(GR.tup rfl).1 q;exact SeqAt.EqAt.int_tuple _ _ ⟨o,ho,hc,_,hd⟩ (by omega)
 |s n =>
  intro y
  refine ⟨fun A v u p q hu=>?_,fun _ _ _ p=>p.elim⟩
  obtain ⟨t,rfl⟩:=p
  cases y with
  |i m=>obtain ⟨t',rfl⟩:=q;exact SeqAt.EqAt.str_int _ _ _ _
  |s z=>obtain ⟨t',rfl⟩:=q;rw [show decide (GK.s n=GK.s z)=(n == z) by by_cases e:n=z<;>simp [e]];exact SeqAt.EqAt.str_str n t z t'
  |nil=>obtain ⟨a,o,its,n,rfl,ho,hc,hd,_⟩:=(GR.tup rfl).1 q;exact SeqAt.EqAt.str_tuple _ _ ⟨o,ho,hc,_,hd⟩ (by omega)
  |cons a b=>obtain ⟨a,o,its,n,rfl,ho,hc,hd,_⟩:=(GR.tup rfl).1 q;exact SeqAt.EqAt.str_tuple _ _ ⟨o,ho,hc,_,hd⟩ (by omega)
 |nil =>
  intro y
  have lp:QH s .nil y:=by
   intro A l m p q _
   cases p
   cases y with
   |i m=>exact q.elim
   |s m=>exact q.elim
   |nil=>cases q;exact ⟨fun _=>true,fun j h1=>absurd h1 (Nat.not_lt_zero j),rfl⟩
   |cons a b=>obtain ⟨u,us,rfl,_⟩:=q;exact ⟨fun _=>true,fun j h1=>absurd h1 (Nat.not_lt_zero j),by simp⟩
  refine ⟨fun A v u p q hu=>?_,lp⟩
  cases y with
  |i m=>obtain ⟨t',rfl⟩:=q;obtain ⟨a,o,its,n,rfl,ho,hc,hd,_⟩:=(GR.tup rfl).1 p;exact SeqAt.EqAt.tuple_int _ _ ⟨o,ho,hc,_,hd⟩ (by omega)
  |s m=>obtain ⟨t',rfl⟩:=q;obtain ⟨a,o,its,n,rfl,ho,hc,hd,_⟩:=(GR.tup rfl).1 p;exact SeqAt.EqAt.tuple_str _ _ ⟨o,ho,hc,_,hd⟩ (by omega)
  |nil=>exact QF rfl rfl lp p q hu
  |cons a b=>exact QF rfl rfl lp p q hu
 |cons x1 x2 ih1 ih2 =>
  intro y
  have lp:QH s (.cons x1 x2) y:=by
   intro A l m p q hu
   simp only [gd] at hu
   obtain ⟨u,us,rfl,p1,p2⟩:=p
   cases y with
   |i m=>exact q.elim
   |s m=>exact q.elim
   |nil=>cases q;exact ⟨fun _=>true,fun j _ h1=>absurd h1 (Nat.not_lt_zero j),by simp⟩
   |cons a b =>
    obtain ⟨u',us',rfl,q1,q2⟩:=q
    obtain ⟨e,he,hr⟩:=(ih2 b).2 A us us' p2 q2 (by omega)
    have h0:=(ih1 a).1 A u u' p1 q1 (by omega)
    refine ⟨fun j=>match j with|0=>decide (x1=a)|j+1=>e j,fun j h1 h2=>?_,?_⟩
    ·cases j with
     |zero=>exact h0
     |succ j=>exact he j (by simpa using h1) (by simpa using h2)
    ·rw [List.length_cons,List.length_cons,Nat.succ_min_succ,gW,Bool.and_assoc]
     have e2:(us.length+1 == us'.length+1)=(us.length == us'.length):=by by_cases e:us.length=us'.length<;>simp [e]
     rw [e2,hr]
     by_cases e1:x1=a<;>by_cases e3:x2=b<;>simp [e1,e3]
  refine ⟨fun A v u p q hu=>?_,lp⟩
  cases y with
  |i m=>obtain ⟨t',rfl⟩:=q;obtain ⟨a,o,its,n,rfl,ho,hc,hd,_⟩:=(GR.tup rfl).1 p;exact SeqAt.EqAt.tuple_int _ _ ⟨o,ho,hc,_,hd⟩ (by omega)
  |s m=>obtain ⟨t',rfl⟩:=q;obtain ⟨a,o,its,n,rfl,ho,hc,hd,_⟩:=(GR.tup rfl).1 p;exact SeqAt.EqAt.tuple_str _ _ ⟨o,ho,hc,_,hd⟩ (by omega)
  |nil=>exact QF rfl rfl lp p q hu
  |cons a b=>exact QF rfl rfl lp p q hu
end
end L2
namespace L2
open PySem PySem.Spec PyProof.Rows
section
variable {prog:Program} {w:World} {E:Value→Shared→Prop} {s:Shared}
abbrev vD (prog:Program) (w:World) (E:Value→Shared→Prop) (s:Shared) (m:Nat) (v:Value):Prop :=
 ∀(A:Around) (Q:Bool→Shared→Prop),Q true s→wpAny (model prog w) A (eqIsQuiet m v) Q E s
theorem bQ {v:Value} {P:List Value→Prop} {m:Nat} (x:TupOf s.heap v P) (hp:∀l,P l→∀y∈l,vD prog w E s m y):vD prog w E s (m+1) v:=by
 intro A Q q
 have hT:=x.typeIs
 obtain ⟨a,o,its,n,rfl,ho,hc,hd,hl⟩:=x
 unfold eqIsQuiet
 refine wpAny_bind (wpAny_specialOf hT F.slot_tuple_eq.lookup ?_)
 show wpAny _ A (isInstance _ (.type "tuple") >>= _) _ E s
 refine wpAny_bind (wpAny_isInstance hT isSubtype_tuple_tuple ?_)
 rw [if_neg (by decide)]
 refine wpAny_bind (wpAny_seqItems ho hd (wpAny_bind ?_))
 show wpAny _ A (forIn its _ _) _ E s
 rw [← Array.forIn_toList]
 refine wpAny_forIn_list _ (fun left r s1=>r.1=none∧s1=s∧∀y∈left,vD prog w E s m y) _ ?_ ?_ _ _ ⟨rfl,rfl,hp _ hl⟩
 ·rintro y left r s1 ⟨hr,rfl,hall⟩
  refine wpAny_bind (hall y List.mem_cons_self A _ ?_)
  rw [if_neg (by decide)]
  exact wpAny_pure ⟨rfl,rfl,fun z hz=>hall z (List.mem_cons_of_mem y hz)⟩
 ·rintro ⟨r1,r2⟩ s1 ⟨hr,rfl,_⟩
  cases hr
  exact wpAny_pure q
theorem J6:∀(k:GK) (m:Nat),gd k≤m→(∀v,(GR s.heap k).1 v→vD prog w E s m v)∧(∀l,(GR s.heap k).2 l→∀y∈l,vD prog w E s (m - 1) y)
 |.i n,m,_=>⟨fun v p A Q q=>by obtain ⟨t,rfl⟩:=p;rw [eqIsQuiet_byValue m rfl];exact wpAny_pure q,fun _ p=>p.elim⟩
 |.s n,m,_=>⟨fun v p A Q q=>by obtain ⟨t,rfl⟩:=p;rw [eqIsQuiet_byValue m rfl];exact wpAny_pure q,fun _ p=>p.elim⟩
 |.nil,m,hm=>by
  have lp:∀l,(GR s.heap .nil).2 l→∀y∈l,vD prog w E s (m - 1) y:=fun l p y hy=>by cases p;cases hy
  refine ⟨fun v p=>?_,lp⟩
  obtain ⟨m',rfl⟩:∃m',m=m'+1:=⟨m - 1,by simp only [gd] at hm;omega⟩
  exact bQ ((GR.tup rfl).1 p) lp
 |.cons x y,m,hm=>by
  have hm':=hm
  simp only [gd] at hm'
  have lp:∀l,(GR s.heap (.cons x y)).2 l→∀z∈l,vD prog w E s (m - 1) z:=by
   rintro l ⟨u,us,rfl,p1,p2⟩ z hz
   rcases List.mem_cons.mp hz with rfl|hz
   ·exact (J6 x (m - 1) (by omega)).1 _ p1
   ·exact (J6 y m (by omega)).2 us p2 z hz
  refine ⟨fun v p=>?_,lp⟩
  obtain ⟨m',rfl⟩:∃m',m=m'+1:=⟨m - 1,by omega⟩
  exact bQ ((GR.tup rfl).1 p) lp
abbrev jY:=GK×Value×Value
def qZ (w:World) (x:jY):DictEntry:=⟨(gh w x.1).1,x.2.1,x.2.2⟩
structure KEnt (w:World) (h:Heap) (es:Array DictEntry) (xs:List jY):Prop where
 es:es.toList=xs.map (qZ w)
 is:∀x∈xs,(GR h x.1).1 x.2.1
 deep:∀x∈xs,gd x.1≤8
 once:(xs.map (·.1)).Nodup
theorem KEnt.at {h:Heap} {es:Array DictEntry} {xs:List jY} (x:KEnt w h es xs) (j:Nat):es[j]?=(xs[j]?).map (qZ w):=by
 rw [← Array.getElem?_toList,x.es,List.getElem?_map]
theorem m9 {xs:List jY} (hn:(xs.map (·.1)).Nodup) {i j:Nat} {k:GK} {p q:Value×Value} (hi:xs[i]?=some (k,p)) (hj:xs[j]?=some (k,q)):i=j:=by
 have a:(xs.map (·.1))[i]?=some k:=by rw [List.getElem?_map,hi];rfl
 have b:(xs.map (·.1))[j]?=some k:=by rw [List.getElem?_map,hj];rfl
 exact (List.getElem?_inj (List.getElem?_eq_some_iff.mp a).1 hn).mp (a.trans b.symm)
def yY (xs:List jY) (k:GK):Option Nat→Prop
 |none=>∀(j:Nat) (p:Value×Value),xs[j]?≠some (k,p)
 |some j=>∃p,xs[j]?=some (k,p)
theorem iF {A:Around} {key:Value} {st:List Value} {Q:Bool→Shared→Prop} (hk:vD prog w E s 8 key) (hs:∀v∈st,vD prog w E s 8 v) (q:Q false s):wpAny (model prog w) A (tableMayTell key st) Q E s:=by
 unfold tableMayTell
 by_cases he:st.isEmpty=true
 ·rw [if_pos he];exact wpAny_pure q
 ·rw [if_neg he]
  refine wpAny_bind (hk A _ ?_)
  rw [if_neg (by decide)]
  refine wpAny_bind (wpAny_forIn_list _ (fun left r s1=>s1=s∧r=(none,())∧∀v∈left,vD prog w E s 8 v) _ ?_ ?_ _ _ ⟨rfl,rfl,hs⟩)
  ·rintro v left r s1 ⟨rfl,rfl,hl⟩
   refine wpAny_bind (hl v List.mem_cons_self A _ ?_)
   rw [if_neg (by decide)]
   exact wpAny_pure ⟨rfl,rfl,fun z hz=>hl z (List.mem_cons_of_mem v hz)⟩
  ·rintro r s1 ⟨rfl,rfl,_⟩
   exact wpAny_pure q
theorem iJ {A:Around} {d:Addr} {o:Obj} {es:Array DictEntry} {ep:Nat} {xs:List jY} {k:GK} {key:Value} {pl:List Nat} {Q:Option Nat→Shared→Prop} (hu:∀x∈xs,A.units+gd x.1<cLine) (hkey:(GR s.heap k).1 key)
  (ho:s.heap.get? d=some o) (hd:o.data=.dict es ep) (he:KEnt w s.heap es xs) (hpl:∀j p,xs[j]?=some (k,p)→j∈pl) (q:∀r,yY xs k r→Q r s) :
  wpAny (model prog w) A (dictWalkPlain d key (gh w k).1 es pl) Q E s:=by
 unfold dictWalkPlain
 refine wpAny_bind (wpAny_forIn_list _ (fun left r s1=>s1=s∧r=(none,())∧∀j p,xs[j]?=some (k,p)→j∈left) _ ?_ ?_ _ _ ⟨rfl,rfl,hpl⟩)
 ·rintro x left r s1 ⟨rfl,rfl,hl⟩
  have next:(∀p,xs[x]?≠some (k,p))→∀j p,xs[j]?=some (k,p)→j∈left:=fun hno j p hj=>by
   rcases List.mem_cons.mp (hl j p hj) with rfl|h
   ·exact absurd hj (hno p)
   ·exact h
  rw [he.at x]
  cases hx:xs[x]? with
  |none=>exact wpAny_pure ⟨rfl,rfl,next fun p h=>by rw [hx] at h;cases h⟩
  |some y =>
   obtain ⟨k',v',u'⟩:=y
   have hm:=List.mem_of_getElem? hx
   show wpAny _ A (if ((gh w k').1 == (gh w k).1)=true then _ else _) _ E _
   by_cases hh:((gh w k').1 == (gh w k).1)=true
   ·rw [if_pos hh]
    refine wpAny_bind (wpAny_dictEpoch ho hd (wpAny_bind ((JN k' k).1 A v' key (he.is _ hm) hkey (hu _ hm) prog w E _ (wpAny_bind (wpAny_dictEpoch ho hd ?_)))))
    rw [if_neg (by simp)]
    by_cases hkk:k'=k
    ·rw [decide_eq_true hkk,if_pos rfl]
     exact wpAny_bind (wpAny_rule (wpAny_pure (wpAny_pure (q _ ⟨_,hkk▸hx⟩))))
    ·rw [decide_eq_false hkk,if_neg (by decide)]
     exact wpAny_bind (wpAny_rule (wpAny_pure ⟨rfl,rfl,next fun p h=>by rw [hx] at h;injection h with h;injection h with h _;exact hkk h⟩))
   ·rw [if_neg hh]
    exact wpAny_pure ⟨rfl,rfl,next fun p h=>by rw [hx] at h;injection h with h;injection h with h _;rw [h] at hh;simp at hh⟩
 ·rintro r s1 ⟨rfl,rfl,hl⟩
  exact wpAny_pure (q none (show yY xs k none from fun j p h=>nomatch hl j p h))
theorem iO {es:Array DictEntry} {h:Int} {j:Nat}:j∈placesWithHash es.size (fun i=>es[i]?.map (·.hash)) h↔j<es.size∧(es[j]?.map (·.hash) == some h)=true:=by
 unfold placesWithHash
 rw [List.mem_filter,List.mem_range]
theorem dA {A:Around} {d:Addr} {o:Obj} {es:Array DictEntry} {ep:Nat} {xs:List jY} {k:GK} {key:Value} {Q:Option Nat→Shared→Prop} (hu:A.units+8<cLine) (hkey:(GR s.heap k).1 key) (hk8:gd k≤8)
    (ho:s.heap.get? d=some o) (hd:o.data=.dict es ep) (he:KEnt w s.heap es xs) (q:∀r,yY xs k r→Q r s) :
    wpAny (model prog w) A (dictFind d key (gh w k).1) Q E s:=by
  have hu':∀x∈xs,A.units+gd x.1<cLine:=fun x hx=>by have:=he.deep x hx;omega
  have hsz:es.size=xs.length:=by rw [← Array.length_toList,he.es,List.length_map]
  have hpl:∀j p,xs[j]?=some (k,p)→j∈placesWithHash es.size (fun i=>es[i]?.map (·.hash)) (gh w k).1:=fun j p hj=>by
    rw [iO,he.at j,hj]
    refine ⟨?_,by simp [qZ]⟩
    rw [hsz]
    exact (List.getElem?_eq_some_iff.mp hj).1
  have hof:∀e∈es,∃x∈xs,e=qZ w x:=fun e hin=>by
    have:e∈xs.map (qZ w):=he.es▸Array.mem_toList_iff.mpr hin
    obtain ⟨x,hx,rfl⟩:=List.mem_map.mp this
    exact ⟨x,hx,rfl⟩
  have plain:wpAny (model prog w) A (dictWalkPlain d key (gh w k).1 es (placesWithHash es.size (fun i=>es[i]?.map (·.hash)) (gh w k).1)) Q E s:=iJ hu' hkey ho hd he hpl q
  have hst:∀v∈(placesWithHash es.size (fun i=>es[i]?.map (·.hash)) (gh w k).1).filterMap (fun i=>es[i]?.map (·.key)),vD prog w E s 8 v:=fun v hv=>by
    obtain ⟨i,_,hi⟩:=List.mem_filterMap.mp hv
    obtain ⟨e,h1,h2⟩:=Option.map_eq_some_iff.mp hi
    obtain ⟨x,hx,rfl⟩:=hof e (Array.mem_of_getElem? h1)
    subst h2
    exact (J6 x.1 8 (he.deep x hx)).1 _ (he.is x hx)
  have hchg:∀a,key=.ref a→¬(es.any fun e=>e.key == key&&e.hash != (gh w k).1)=true:=fun a ha hany=>by
    rw [← Array.any_toList,List.any_eq_true] at hany
    obtain ⟨e,hin,hc⟩:=hany
    obtain ⟨x,hx,rfl⟩:=hof e (Array.mem_toList_iff.mp hin)
    rw [Bool.and_eq_true] at hc
    have e1:x.2.1=key:=eq_of_beq hc.1
    have e2:=(GR.inj x.1 k).1 key (e1▸he.is x hx) hkey
    have:=hc.2
    simp [qZ,e2] at this
  have hkey':=hkey
  have hkind:(∃n t,key=.int n t)∨(∃z t,key=.str z t∧k=.s z)∨∃a,key=.ref a:=by
    cases k with
    |i n=>exact .inl ⟨n,hkey⟩
    |s z=>obtain ⟨t,rfl⟩:=hkey;exact .inr (.inl ⟨z,t,rfl,rfl⟩)
    |nil=>obtain ⟨a,o,its,n,e,_⟩:=(GR.tup rfl).1 hkey;exact .inr (.inr ⟨a,e⟩)
    |cons x y=>obtain ⟨a,o,its,n,e,_⟩:=(GR.tup rfl).1 hkey;exact .inr (.inr ⟨a,e⟩)
  have hnd:(placesWithHash es.size (fun i=>es[i]?.map (·.hash)) (gh w k).1).Nodup:=by
    unfold placesWithHash
    exact List.Pairwise.filter _ List.nodup_range
  have hquiet:vD prog w E s 8 key:=(J6 k 8 hk8).1 key hkey
  have texts:∀z t,key=.str z t→k=.s z→(es.all fun e=>isExactStrKey e.key)=true→Q (es.findIdx? fun e=>e.key.isStr z) s:=by
    rintro z t rfl rfl _
    cases hf:es.findIdx? fun e=>e.key.isStr z with
    |none =>
      refine q none (show yY xs (.s z) none from fun j p hj=>?_)
      obtain ⟨u,hu⟩:∃u,p.1=.str z u:=he.is _ (List.mem_of_getElem? hj)
      have e2:es[j]?=some (qZ w (.s z,p)):=by rw [he.at j,hj];rfl
      have:=Array.findIdx?_eq_none_iff.mp hf _ (Array.mem_of_getElem? e2)
      simp [qZ,hu,Value.isStr] at this
    |some j =>
      obtain ⟨hlt,hj,_⟩:=Array.findIdx?_eq_some_iff_getElem.mp hf
      refine q (some j) ?_
      obtain ⟨u,hu⟩:=KTD.kt_isStr hj
      have e2:=he.at j
      rw [Array.getElem?_eq_getElem hlt] at e2
      cases hx:xs[j]? with
      |none=>rw [hx] at e2;cases e2
      |some x =>
        rw [hx] at e2
        injection e2 with e2
        have hx1:=he.is x (List.mem_of_getElem? hx)
        have e3:x.2.1=.str z u:=by rw [← hu,e2];rfl
        have e4:=(GR.inj x.1 (.s z)).1 x.2.1 hx1 ⟨u,e3⟩
        exact ⟨x.2,by rw [hx,← e4]⟩
  by_cases htx:(∃z t,key=.str z t∧k=.s z)∧(es.all fun e=>isExactStrKey e.key)=true
  · obtain ⟨⟨z,t,rfl,rfl⟩,hall⟩:=htx
    exact KTD.kt_dictFind_strs ho hd hall (texts z t rfl rfl hall)
  unfold dictFind
  refine wpAny_holding (wpAny_bind (wpAny_dictEntries ho hd ?_))
  generalize hpl0:placesWithHash es.size (fun i=>es[i]?.map (·.hash)) (gh w k).1=pl at *
  rcases hkind with ⟨n,t,rfl⟩|⟨z,t,rfl,hz⟩|⟨a,rfl⟩<;>dsimp only
  case' inr.inl=>rw [if_neg fun hall=>htx ⟨⟨z,t,rfl,hz⟩,hall⟩]
  all_goals refine wpAny_ite_split (fun _=>plain) fun _=>?_
  case' inr.inr=>rw [if_neg (hchg a rfl)]
  all_goals refine wpAny_ite_split (fun _=>wpAny_bind (wpAny_pure ?_)) fun _=>wpAny_bind (iF hquiet hst ?_)
  all_goals
    rw [if_neg (by simp)]
    refine wpAny_bind (wpAny_forIn_list _ (fun left b s1=>s1=s∧left.Nodup∧∃hit,b=(none,hit)∧
      ((hit=none∧∀j p,xs[j]?=some (k,p)→j∈left)∨∃j p,hit=some j∧xs[j]?=some (k,p)∧j∉left)) _ ?_ ?_ _ _ ⟨rfl,hnd,none,rfl,.inl ⟨rfl,hpl⟩⟩)
    · rintro x left b s1 ⟨rfl,hno,hit,rfl,hH⟩
      rw [List.nodup_cons] at hno
      rw [he.at x]
      cases hx:xs[x]? with
      |none =>
        refine wpAny_pure ⟨rfl,hno.2,hit,rfl,?_⟩
        rcases hH with ⟨h0,hl⟩|⟨j,p,h1,h2,h3⟩
        · refine .inl ⟨h0,fun j p hj=>?_⟩
          rcases List.mem_cons.mp (hl j p hj) with rfl|h
          · rw [hx] at hj;cases hj
          · exact h
        · exact .inr ⟨j,p,h1,h2,fun h=>h3 (List.mem_cons_of_mem x h)⟩
      |some y =>
        obtain ⟨k',v',u'⟩:=y
        have hm:=List.mem_of_getElem? hx
        have other:k'≠k→(hit=none∧∀j p,xs[j]?=some (k,p)→j∈left)∨∃j p,hit=some j∧xs[j]?=some (k,p)∧j∉left:=fun hne=>by
          rcases hH with ⟨h0,hl⟩|⟨j,p,h1,h2,h3⟩
          · refine .inl ⟨h0,fun j p hj=>?_⟩
            rcases List.mem_cons.mp (hl j p hj) with rfl|h
            · rw [hx] at hj;injection hj with hj;injection hj with hj _;exact absurd hj hne
            · exact h
          · exact .inr ⟨j,p,h1,h2,fun h=>h3 (List.mem_cons_of_mem x h)⟩
        show wpAny _ A (if ((gh w k').1 == (gh w k).1)=true then _ else _) _ E _
        refine wpAny_ite_split (fun hh=>?_) fun hh=>wpAny_pure ⟨rfl,hno.2,hit,rfl,other fun e=>hh (by rw [e];exact beq_self_eq_true _)⟩
        refine wpAny_bind (wpAny_dictEpoch ho hd (wpAny_bind ((JN k' k).1 A v' _ (he.is _ hm) hkey' (hu' _ hm) prog w E _ (wpAny_bind (wpAny_dictEpoch ho hd ?_)))))
        rw [if_neg (by simp)]
        by_cases hkk:k'=k
        · rw [decide_eq_true hkk,if_pos rfl]
          subst hkk
          rcases hH with ⟨rfl,hl⟩|⟨j,p,rfl,h2,h3⟩
          · rw [if_neg (by simp)]
            refine wpAny_bind (wpAny_rule (wpAny_ite_split (fun _=>wpAny_pure (wpAny_pure (q (some x) ⟨_,hx⟩))) fun _=>wpAny_pure ⟨rfl,hno.2,some x,rfl,.inr ⟨x,_,rfl,hx,hno.1⟩⟩))
          · exact absurd (m9 he.once h2 hx▸List.mem_cons_self) h3
        · rw [decide_eq_false hkk,if_neg (by decide)]
          refine wpAny_bind (wpAny_rule ?_)
          rw [if_neg (by simp)]
          exact wpAny_pure ⟨rfl,hno.2,hit,rfl,other hkk⟩
    · rintro b s1 ⟨rfl,_,hit,rfl,hH⟩
      rcases hH with ⟨rfl,hl⟩|⟨j,p,rfl,h2,_⟩
      · exact wpAny_pure (q none (show yY xs _ none from fun j p h=>nomatch hl j p h))
      · exact wpAny_pure (q (some j) ⟨p,h2⟩)
end
end L2
namespace L2
open PySem PySem.Spec PyProof.Rows
section
variable {prog:Program} {w:World} {A:Around} {E:Value→Shared→Prop} {s:Shared}
def DictG (w:World) (h:Heap) (d:Addr) (xs:List jY):Prop:=∃o es ep,h.get? d=some o∧o.ExactDict∧o.data=.dict es ep∧KEnt w h es xs
theorem DictG.typeIs {d:Addr} {xs:List jY} (x:DictG w s.heap d xs):s.TypeIs (.ref d) "dict":=let ⟨o,_,_,ho,hc,_⟩:=x;⟨o,ho,hc.1⟩
def qG (xs:List jY) (k:GK):Option Value:=(xs.find? fun x=>decide (x.1=k)).map (·.2.2)
def yI (xs:List jY) (k:GK) (key v:Value):List jY:=if (xs.any fun x=>decide (x.1=k)) then xs.map (fun x=>if x.1=k then (x.1,x.2.1,v) else x) else xs++[(k,key,v)]
theorem bX {k:GK}:∀{xs:List jY} (_:(xs.map (·.1)).Nodup) {j:Nat} {p:Value×Value} (_:xs[j]?=some (k,p)),qG xs k=some p.2
 |[],_,j,p,h=>by cases j<;>cases h
 |x::xs,hn,0,p,h=>by cases h;simp [qG]
 |x::xs,hn,j+1,p,h=>by
  rw [List.map_cons,List.nodup_cons] at hn
  have h':xs[j]?=some (k,p):=h
  have hne:¬x.1=k:=fun e=>hn.1 (e▸List.mem_map.mpr ⟨_,List.mem_of_getElem? h',rfl⟩)
  have:=bX hn.2 h'
  simpa [qG,List.find?_cons,hne] using this
theorem mK {xs:List jY} {k:GK} (h:yY xs k none):(xs.any fun x=>decide (x.1=k))=false:=by
 rw [Bool.eq_false_iff]
 intro hx
 rw [List.any_eq_true] at hx
 obtain ⟨x,hm,hk⟩:=hx
 obtain ⟨j,hj⟩:=List.mem_iff_getElem?.mp hm
 exact h j x.2 (by rw [hj,← of_decide_eq_true hk])
theorem lE {xs:List jY} {k:GK} (h:yY xs k none):qG xs k=none:=by
 have:xs.find? (fun x=>decide (x.1=k))=none:=by
  rw [List.find?_eq_none]
  intro x hm hk
  obtain ⟨j,hj⟩:=List.mem_iff_getElem?.mp hm
  exact h j x.2 (by rw [hj,← of_decide_eq_true hk])
 rw [qG,this]
 rfl
theorem ZJ {d:Addr} {xs:List jY} {k:GK} {key:Value} {Q:Option Value→Shared→Prop} (hu:A.units+8<cLine) (hkey:(GR s.heap k).1 key) (hk8:gd k≤8) (hm:DictG w s.heap d xs)
  (q:∀n,Q (qG xs k) {s with toks:=n}):wpAny (model prog w) A (dictGet d key) Q E s:=by
 obtain ⟨o,es,ep,ho,hc,hd,he⟩:=hm
 unfold dictGet
 refine wpAny_holding (wpAny_bind ((QB k).1 key A s _ hkey (by omega) fun n=>wpAny_bind (dA (s:={s with toks:=n}) hu hkey hk8 ho hd he fun r hr=>?_)))
 cases r with
 |none=>rw [← lE hr];exact wpAny_pure (q n)
 |some j =>
  obtain ⟨p,hj⟩:=hr
  refine wpAny_bind (wpAny_dictEntries (s:={s with toks:=n}) ho hd ?_)
  rw [he.at j,hj]
  refine wpAny_pure ?_
  have:=q n
  rw [bX he.once hj] at this
  exact this
theorem bA {h h':Heap} {d:Addr} {o:Obj} {es:Array DictEntry} {ep:Nat} (ho:h.get? d=some o) (hd:o.data=.dict es ep) (hs:Heap.SameBut d h h'):∀a o its n,h.get? a=some o→o.data=.seq its n→h'.get? a=some o:=by
 intro a o' its n ho' hd'
 have hne:a≠d:=by
  rintro rfl
  obtain rfl:o'=o:=Option.some.inj (ho'.symm.trans ho)
  rw [hd] at hd'
  cases hd'
 exact (hs.2 a hne).trans ho'
theorem i2 {xs:List jY} {k:GK} {v:Value}:(xs.map (fun x=>if x.1=k then (x.1,x.2.1,v) else x)).map (·.1)=xs.map (·.1):=by
 rw [List.map_map]
 refine List.map_congr_left fun x _=>?_
 show (if x.1=k then (x.1,x.2.1,v) else x).1=x.1
 split<;>rfl
theorem bU {k:GK} {v:Value}:∀{xs:List jY} (_:(xs.map (·.1)).Nodup) {j:Nat} {p:Value×Value} (_:xs[j]?=some (k,p)),
  (xs.map (qZ w)).modify j (fun e=>{e with val:=v})=(xs.map (fun x=>if x.1=k then (x.1,x.2.1,v) else x)).map (qZ w)
 |[],_,j,p,h=>by cases j<;>cases h
 |x::xs,hn,0,p,h=>by
  cases h
  rw [List.map_cons,List.nodup_cons] at hn
  have e:xs.map (fun x=>if x.1=k then (x.1,x.2.1,v) else x)=xs:=by
   refine (List.map_congr_left fun x hx=>?_).trans (List.map_id xs)
   have hne:¬x.1=k:=fun e=>hn.1 (List.mem_map.mpr ⟨x,hx,e⟩)
   show (if x.1=k then (x.1,x.2.1,v) else x)=x
   rw [if_neg hne]
  rw [List.map_cons,List.map_cons,e]
  simp [qZ]
 |x::xs,hn,j+1,p,h=>by
  rw [List.map_cons,List.nodup_cons] at hn
  have h':xs[j]?=some (k,p):=h
  have hne:¬x.1=k:=fun e=>hn.1 (e▸List.mem_map.mpr ⟨_,List.mem_of_getElem? h',rfl⟩)
  rw [List.map_cons,List.map_cons,if_neg hne,List.map_cons,← bU hn.2 h']
  rfl
theorem dR {d:Addr} {xs:List jY} {k:GK} {key v:Value} {Q:Unit→Shared→Prop} (hu:A.units+8<cLine) (hkey:(GR s.heap k).1 key) (hk8:gd k≤8) (hm:DictG w s.heap d xs) (hsz:xs.length≤sizeLine)
  (q:∀n h',DictG w h' d (yI xs k key v)→Heap.SameBut d s.heap h'→Q () {s with heap:=h',toks:=n}):wpAny (model prog w) A (dictSet d key v) Q E s:=by
 obtain ⟨o,es,ep,ho,hc,hd,he⟩:=hm
 have hz:es.size=xs.length:=by rw [← Array.length_toList,he.es,List.length_map]
 unfold dictSet
 refine wpAny_holding (wpAny_bind ((QB k).1 key A s _ hkey (by omega) fun n=>?_))
 unfold dictSetHashed
 refine wpAny_holding (wpAny_bind (dA (s:={s with toks:=n}) hu hkey hk8 ho hd he fun r hr=>?_))
 cases r with
 |none =>
  have e0:yI xs k key v=xs++[(k,key,v)]:=by rw [yI,mK hr];rfl
  refine wpAny_bind (wpAny_rule (wpAny_updateDictKeys (hz:=by omega) (s:={s with toks:=n}) ho hd (q n _ ?_ (Heap.SameBut.update ..))))
  rw [e0]
  have kp:=bA ho hd (Heap.SameBut.update (h:=s.heap) (a:=d) (f:=fun o=>o.mapDictKeys fun es=>es.push ⟨(gh w k).1,key,v⟩))
  refine ⟨_,_,ep+1,Heap.get?_update_self _ ho (Obj.isFreed_of_dict (Obj.data_mapDictKeys hd _)),hc.mapDictKeys _,Obj.data_mapDictKeys hd _,?_,?_,?_,?_⟩
  ·rw [Array.toList_push,he.es,List.map_append];rfl
  ·intro x hx
   rcases List.mem_append.mp hx with hx|hx
   ·exact (GR.keep kp x.1).1 _ (he.is x hx)
   ·cases List.mem_singleton.mp hx;exact (GR.keep kp k).1 _ hkey
  ·intro x hx
   rcases List.mem_append.mp hx with hx|hx
   ·exact he.deep x hx
   ·cases List.mem_singleton.mp hx;exact hk8
  ·rw [List.map_append,List.nodup_append]
   refine ⟨he.once,by simp,fun a ha b hb e=>?_⟩
   cases List.mem_singleton.mp hb
   obtain ⟨x,hx,rfl⟩:=List.mem_map.mp ha
   obtain ⟨j,hj⟩:=List.mem_iff_getElem?.mp hx
   have e':x.1=k:=e
   exact hr j x.2 (by rw [hj,← e'])
 |some j =>
  obtain ⟨p,hj⟩:=hr
  have e0:yI xs k key v=xs.map (fun x=>if x.1=k then (x.1,x.2.1,v) else x):=by
   rw [yI,if_pos]
   rw [List.any_eq_true]
   exact ⟨_,List.mem_of_getElem? hj,decide_eq_true rfl⟩
  refine wpAny_bind (wpAny_rule (wpAny_bind (wpAny_updateDict (s:={s with toks:=n}) ho hd (wpAny_point (q n _ ?_ (Heap.SameBut.update ..))))))
  rw [e0]
  have kp:=bA ho hd (Heap.SameBut.update (h:=s.heap) (a:=d) (f:=fun o=>o.mapDict fun es=>es.modify j fun e=>{e with val:=v}))
  refine ⟨_,_,ep,Heap.get?_update_self _ ho (Obj.isFreed_of_dict (Obj.data_mapDict hd _)),hc.mapDict _,Obj.data_mapDict hd _,?_,?_,?_,?_⟩
  ·rw [← bU he.once hj,← he.es]
   simp
  ·intro x hx
   obtain ⟨y,hy,rfl⟩:=List.mem_map.mp hx
   have:=(GR.keep kp y.1).1 _ (he.is y hy)
   split<;>exact this
  ·intro x hx
   obtain ⟨y,hy,rfl⟩:=List.mem_map.mp hx
   have:=he.deep y hy
   split<;>exact this
  ·rw [i2];exact he.once
end
end L2
namespace L2
open PySem PySem.Spec PyProof.Rows
section
variable {prog:Program} {w:World} {A:Around} {E:Value→Shared→Prop} {s:Shared} {d:Addr} {xs:List jY} {k:GK} {key v:Value}
theorem mD {Q:Value→Shared→Prop} (hu:A.units+9<cLine) (hkey:(GR s.heap k).1 key) (hk8:gd k≤8) (hm:DictG w s.heap d xs) (hv:qG xs k=some v) (q:∀n,Q v {s with toks:=n}) :
  wpAny (model prog w) A (getItem (.ref d) key) Q E s:=by
 have T:=hm.typeIs
 unfold getItem
 refine wpAny_holding (wpAny_bind (wpAny_sequenceKey T (by decide) (wpAny_bind (wpAny_callSpecial?_slot (name:=Str.ofString "__getitem__") T slot_dict_getitem (wpAny_call_entry slot_dict_getitem T entry_dict_getitem ?_ (args_dict_getitem _ _))))))
 show wpAny _ A.in1 (dictGet d key >>= _) _ E s
 refine wpAny_bind (ZJ (by simp only [Around.in1_units];omega) hkey hk8 hm fun n=>?_)
 rw [hv]
 exact wpAny_pure ⟨v,rfl,wpAny_pure (q n)⟩
theorem oU {Q:Value→Shared→Prop} (hu:A.units+9<cLine) (hkey:(GR s.heap k).1 key) (hk8:gd k≤8) (hd:(d == sysModules)=false) (hm:DictG w s.heap d xs) (q:∀n,Q (.bool (qG xs k).isSome) {s with toks:=n}) :
  wpAny (model prog w) A (compareOp .In key (.ref d)) Q E s:=by
 have T:=hm.typeIs
 show wpAny _ A (do return .bool (← contains (.ref d) key)) Q E s
 refine wpAny_bind ?_
 unfold contains
 refine wpAny_holding (wpAny_bind (wpAny_specialOf T slot_dict_contains.lookup ?_))
 show wpAny _ A (if (some (Value.builtin "dict.__contains__") == some Value.none)=true then _ else _) _ E s
 rw [if_neg (by rw [beq_builtin_none];decide)]
 refine wpAny_bind (wpAny_callSpecialUnlessNone?_slot (name:=Str.ofString "__contains__") T slot_dict_contains (wpAny_call_entry slot_dict_contains T entry_dict_contains ?_ (args_dict_contains _ _)))
 show wpAny _ A.in1 (dictGet d key >>= _) _ E s
 refine wpAny_bind (ZJ (by simp only [Around.in1_units];omega) hkey hk8 hm fun n=>?_)
 have q':=q n
 cases hg:qG xs k with
 |some u =>
  rw [hg] at q'
  show wpAny _ A.in1 (ret (.bool true)) _ E _
  exact wpAny_pure ⟨_,rfl,wpAny_truthy_bool (wpAny_pure q')⟩
 |none =>
  rw [hg] at q'
  show wpAny _ A.in1 (Builtin.Dict.pendingKey? d key >>= _) _ E _
  exact wpAny_bind (wpAny_pendingKey_other hd (wpAny_pure ⟨_,rfl,wpAny_truthy_bool (wpAny_pure q')⟩))
theorem i1 {Q:Unit→Shared→Prop} (hu:A.units+9<cLine) (hkey:(GR s.heap k).1 key) (hk8:gd k≤8) (hm:DictG w s.heap d xs) (hsz:xs.length≤sizeLine)
  (q:∀n h',DictG w h' d (yI xs k key v)→Heap.SameBut d s.heap h'→Q () {s with heap:=h',toks:=n}):wpAny (model prog w) A (setItem (.ref d) key v) Q E s:=by
 have T:=hm.typeIs
 unfold setItem
 refine wpAny_holding (wpAny_bind (wpAny_sequenceKey T (by decide) (wpAny_bind (wpAny_callSpecial?_slot (name:=Str.ofString "__setitem__") T slot_dict_setitem (wpAny_call_entry slot_dict_setitem T entry_dict_setitem ?_ (args_dict_setitem _ _ _))))))
 show wpAny _ A.in1 (Builtin.Dict.notOrdered "__setitem__" _ >>= _) _ E s
 refine wpAny_bind (wpAny_notOrdered_dict T ?_)
 show wpAny _ A.in1 (dictSet d key v >>= _) _ E s
 exact wpAny_bind (dR (by simp only [Around.in1_units];omega) hkey hk8 hm hsz fun n h' m sb=>wpAny_pure ⟨.none,rfl,wpAny_pure (q n h' m sb)⟩)
end
end L2
namespace L2
open PySem PySem.Spec PyProof.Rows
def GV (H:Hp):GK→(V→Prop)×(List V→Prop)
 |.i n=>(fun v=>v=.int n,fun _=>False)
 |.s x=>(fun v=>v=.str x,fun _=>False)
 |.nil=>(fun v=>∃a,v=.ref a∧H a=some (.tup []),fun l=>l=[])
 |.cons x y=>(fun v=>∃a l,v=.ref a∧H a=some (.tup l)∧∃u us,l=u::us∧(GV H x).1 u∧(GV H y).2 us,fun l=>∃u us,l=u::us∧(GV H x).1 u∧(GV H y).2 us)
theorem GV.keep {H H':Hp} (hk:∀a l,H a=some (.tup l)→H' a=some (.tup l)):∀k,(∀v,(GV H k).1 v→(GV H' k).1 v)∧(∀l,(GV H k).2 l→(GV H' k).2 l)
 |.i _=>⟨fun _ p=>p,fun _ p=>p⟩
 |.s _=>⟨fun _ p=>p,fun _ p=>p⟩
 |.nil=>⟨fun _ p=>by obtain ⟨a,e,q⟩:=p;exact ⟨a,e,hk _ _ q⟩,fun _ p=>p⟩
 |.cons x y=>by
  have c:∀l,(∃u us,l=u::us∧(GV H x).1 u∧(GV H y).2 us)→∃u us,l=u::us∧(GV H' x).1 u∧(GV H' y).2 us :=
   fun l ⟨u,us,e,p,q⟩=>⟨u,us,e,(GV.keep hk x).1 _ p,(GV.keep hk y).2 _ q⟩
  exact ⟨fun _ p=>by obtain ⟨a,l,e,q,r⟩:=p;exact ⟨a,l,e,hk _ _ q,c l r⟩,c⟩
section
variable {P:Program} {w:World} {H:Hp} {h:Heap}
theorem GV.rel (hok:HOk P w H h):∀k,(∀v u,(GV H k).1 v→RelV v u→(GR h k).1 u)∧(∀l us,(GV H k).2 l→Vals l us→(GR h k).2 us)
 |.i _=>⟨fun v u p r=>by cases p;exact r,fun _ _ p=>p.elim⟩
 |.s _=>⟨fun v u p r=>by cases p;exact r,fun _ _ p=>p.elim⟩
 |.nil=>by
  refine ⟨fun v u p r=>?_,fun l us p r=>by cases p;cases r;exact rfl⟩
  obtain ⟨a,rfl,q⟩:=p
  cases r
  obtain ⟨_,its,r2,o,ho,hc,n,hd⟩:=hok a _ q
  cases r2
  exact ⟨a,o,_,n,rfl,ho,hc,hd,rfl⟩
 |.cons x y=>by
  have c:∀l us,(∃u vs,l=u::vs∧(GV H x).1 u∧(GV H y).2 vs)→Vals l us→∃u vs,us=u::vs∧(GR h x).1 u∧(GR h y).2 vs:=by
   rintro l us ⟨u,vs,rfl,p1,p2⟩ r
   cases r with
   |cons r1 r2=>exact ⟨_,_,rfl,(GV.rel hok x).1 _ _ p1 r1,(GV.rel hok y).2 _ _ p2 r2⟩
  refine ⟨fun v u p r=>?_,c⟩
  obtain ⟨a,l,rfl,q,p'⟩:=p
  cases r
  obtain ⟨_,its,r2,o,ho,hc,n,hd⟩:=hok a _ q
  exact ⟨a,o,_,n,rfl,ho,hc,hd,c l its p' r2⟩
end
abbrev jQ:=GK×V×V
def RelG (p:jQ) (q:jY):Prop:=p.1=q.1∧RelV p.2.1 q.2.1∧RelV p.2.2 q.2.2
def GO (w:World) (d:Addr) (kvs:List jQ):HO:=.ext fun h=>kvs.length≤sizeLine∧(d == sysModules)=false∧∃xs:List jY,Paired RelG kvs xs∧∃o es ep,h.get? d=some o∧o.ExactDict∧o.data=.dict es ep∧es.toList=xs.map (qZ w)
structure GOk (H:Hp) (kvs:List jQ):Prop where
 key:∀p∈kvs,(GV H p.1).1 p.2.1
 deep:∀p∈kvs,gd p.1≤8
 once:(kvs.map (·.1)).Nodup
def jN (kvs:List jQ) (k:GK):Option V:=(kvs.find? fun x=>decide (x.1=k)).map (·.2.2)
def kJ (kvs:List jQ) (k:GK) (y v:V):List jQ:=if (kvs.any fun x=>decide (x.1=k)) then kvs.map (fun x=>if x.1=k then (x.1,x.2.1,v) else x) else kvs++[(k,y,v)]
theorem RelG.keys:∀{kvs:List jQ} {xs:List jY},Paired RelG kvs xs→kvs.map (·.1)=xs.map (·.1)
 |_,_,.nil=>rfl
 |_,_,.cons r t=>by rw [List.map_cons,List.map_cons,r.1,RelG.keys t]
theorem RelG.mem {q:jY}:∀{kvs:List jQ} {xs:List jY},Paired RelG kvs xs→q∈xs→∃p∈kvs,RelG p q
 |_,_,.nil,h=>nomatch h
 |_,_,.cons r t,h=>by
  rcases List.mem_cons.mp h with rfl|h
  ·exact ⟨_,List.mem_cons_self,r⟩
  ·obtain ⟨p,hp,rp⟩:=RelG.mem t h
   exact ⟨p,List.mem_cons_of_mem _ hp,rp⟩
theorem RelG.get {k:GK} {v:V}:∀{kvs:List jQ} {xs:List jY},Paired RelG kvs xs→jN kvs k=some v→∃u,qG xs k=some u∧RelV v u
 |_,_,.nil,e=>by cases e
 |p::kvs,q::xs,.cons r t,e=>by
  by_cases h:p.1=k
  ·have h':q.1=k:=r.1▸h
   simp only [jN,List.find?_cons,h,decide_true,Option.map_some,Option.some.injEq] at e
   exact ⟨q.2.2,by simp [qG,h'],e▸r.2.2⟩
  ·have h':¬q.1=k:=r.1▸h
   simp only [jN,List.find?_cons,h,decide_false] at e
   obtain ⟨u,e1,e2⟩:=RelG.get t e
   exact ⟨u,by simpa [qG,List.find?_cons,h'] using e1,e2⟩
theorem RelG.none {k:GK}:∀{kvs:List jQ} {xs:List jY},Paired RelG kvs xs→(qG xs k).isSome=(jN kvs k).isSome
 |_,_,.nil=>rfl
 |p::kvs,q::xs,.cons r t=>by
  have ih:=RelG.none (k:=k) t
  by_cases h:p.1=k
  ·have h':q.1=k:=r.1▸h
   simp [qG,jN,h,h']
  ·have h':¬q.1=k:=r.1▸h
   simpa [qG,jN,List.find?_cons,h,h'] using ih
theorem RelG.any {k:GK}:∀{kvs:List jQ} {xs:List jY},Paired RelG kvs xs→(xs.any fun x=>decide (x.1=k))=(kvs.any fun x=>decide (x.1=k))
 |_,_,.nil=>rfl
 |_,_,.cons r t=>by rw [List.any_cons,List.any_cons,RelG.any t,r.1]
theorem RelG.put {k:GK} {v:V} {u:Value} (rv:RelV v u):∀{kvs:List jQ} {xs:List jY},Paired RelG kvs xs→
  Paired RelG (kvs.map (fun x=>if x.1=k then (x.1,x.2.1,v) else x)) (xs.map (fun x=>if x.1=k then (x.1,x.2.1,u) else x))
 |_,_,.nil=>.nil
 |p::kvs,q::xs,.cons r t=>by
  refine .cons ?_ (RelG.put rv t)
  by_cases h:p.1=k
  ·have h':q.1=k:=r.1▸h
   dsimp only;rw [if_pos h,if_pos h'];exact ⟨r.1,r.2.1,rv⟩
  ·have h':¬q.1=k:=r.1▸h
   dsimp only;rw [if_neg h,if_neg h'];exact r
theorem RelG.app:∀{kvs kvs':List jQ} {xs xs':List jY},Paired RelG kvs xs→Paired RelG kvs' xs'→Paired RelG (kvs++kvs') (xs++xs')
 |_,_,_,_,.nil,t=>t
 |_,_,_,_,.cons r t,t'=>.cons r (RelG.app t t')
theorem RelG.set {k:GK} {y v:V} {key u:Value} (ry:RelV y key) (rv:RelV v u) {kvs:List jQ} {xs:List jY} (r:Paired RelG kvs xs):Paired RelG (kJ kvs k y v) (yI xs k key u):=by
 unfold kJ yI
 rw [RelG.any r]
 split
 ·exact RelG.put rv r
 ·exact RelG.app r (.cons ⟨rfl,ry,rv⟩ .nil)
theorem J9 (kvs:List jQ) (k:GK) (y v:V):(kJ kvs k y v).length≤kvs.length+1:=by
 unfold kJ
 split
 ·rw [List.length_map];omega
 ·rw [List.length_append];exact Nat.le_refl _
section
variable {X:Cx} {pins:List (Addr×Obj)} {σ:St} {H:Hp} {s:Shared} {d:Addr} {k:GK} {y v:V} {u r:Value} {A:Around} {E:Value→Shared→Prop} {kvs:List jQ}
theorem Inv.gdict (I:Inv X pins σ H s) (e:Rd H d (GO X.w d kvs)) (g:GOk H kvs):kvs.length≤sizeLine∧(d == sysModules)=false∧∃xs,Paired RelG kvs xs∧DictG X.w s.heap d xs:=by
 obtain ⟨⟨hl,hm,xs,rel,o,es,ep,ho,hc,hd,he⟩,_,_⟩:=e.ok I.hok
 refine ⟨hl,hm,xs,rel,o,es,ep,ho,hc,hd,he,?_,?_,by rw [← RelG.keys rel];exact g.once⟩
 ·intro q hq
  obtain ⟨p,hp,rp⟩:=RelG.mem rel hq
  exact rp.1▸(GV.rel I.hok p.1).1 _ _ (g.key p hp) rp.2.1
 ·intro q hq
  obtain ⟨p,hp,rp⟩:=RelG.mem rel hq
  exact rp.1▸g.deep p hp
theorem oW {Q:Value→Shared→Prop} (hu:A.units+9<cLine) (I:Inv X pins σ H s) (e:Rd H d (GO X.w d kvs)) (g:GOk H kvs) (hy:(GV H k).1 y) (h8:gd k≤8) (hv:jN kvs k=some v) (ry:RelV y u)
  (h:∀w' s',Inv X pins σ H s'→RelV v w'→Q w' s'):wpAny (model X.prog X.w) A (getItem (.ref d) u) Q E s:=by
 obtain ⟨_,_,xs,rel,dd⟩:=I.gdict e g
 obtain ⟨w',hw,rw'⟩:=RelG.get rel hv
 exact mD hu ((GV.rel I.hok k).1 y u hy ry) h8 dd hw fun n=>h w' _ (I.tok n) rw'
theorem rO {Q:Value→Shared→Prop} (hu:A.units+9<cLine) (I:Inv X pins σ H s) (e:Rd H d (GO X.w d kvs)) (g:GOk H kvs) (hy:(GV H k).1 y) (h8:gd k≤8) (ry:RelV y u)
  (h:∀s',Inv X pins σ H s'→Q (.bool (jN kvs k).isSome) s'):wpAny (model X.prog X.w) A (compareOp .In u (.ref d)) Q E s:=by
 obtain ⟨_,hm,xs,rel,dd⟩:=I.gdict e g
 exact oU hu ((GV.rel I.hok k).1 y u hy ry) h8 hm dd fun n=>by rw [RelG.none rel];exact h _ (I.tok n)
theorem nL {Q:Unit→Shared→Prop} (hu:A.units+9<cLine) (I:Inv X pins σ H s) (e:H d=some (GO X.w d kvs)) (g:GOk H kvs) (hy:(GV H k).1 y) (h8:gd k≤8) (hl:kvs.length<sizeLine) (ry:RelV y u) (rv:RelV v r)
  (h:∀s',Inv X pins σ (jB H d (GO X.w d (kJ kvs k y v))) s'→Q () s'):wpAny (model X.prog X.w) A (setItem (.ref d) u r) Q E s:=by
 obtain ⟨_,hm,xs,rel,dd⟩:=I.gdict (.of e) g
 refine i1 hu ((GV.rel I.hok k).1 y u hy ry) h8 dd (by rw [← Paired.length rel];omega) fun n h' dd' sb=>h _ ?_
 obtain ⟨o,es,ep,ho,hc,hd,he,_⟩:=dd'
 refine d4 I (by rw [e];exact True.intro) sb ⟨o,ho⟩ ⟨⟨by have:=J9 kvs k y v;omega,hm,_,RelG.set ry rv rel,o,es,ep,ho,hc,hd,he⟩,⟨o,ho⟩,?_⟩
 rintro h1 h2 ⟨a1,a2,xs',a3,o',es',ep',a4,a5⟩ kp
 exact ⟨a1,a2,xs',a3,o',es',ep',kp _ a4,a5⟩
end
end L2
namespace L2
open PySem PySem.Spec PyProof.Rows
theorem GOk.keep {H H':Hp} {kvs:List jQ} (g:GOk H kvs) (hk:∀a l,H a=some (.tup l)→H' a=some (.tup l)):GOk H' kvs:=⟨fun p hp=>(GV.keep hk p.1).1 _ (g.key p hp),g.deep,g.once⟩
theorem GOk.nil {H:Hp}:GOk H []:=⟨fun _ h=>(nomatch h),fun _ h=>(nomatch h),List.nodup_nil⟩
theorem GOk.set {H:Hp} {kvs:List jQ} {k:GK} {y v:V} (g:GOk H kvs) (hy:(GV H k).1 y) (h8:gd k≤8):GOk H (kJ kvs k y v):=by
 unfold kJ
 by_cases ha:(kvs.any fun x=>decide (x.1=k))=true
 ·rw [if_pos ha]
  refine ⟨fun p hp=>?_,fun p hp=>?_,?_⟩
  ·obtain ⟨q,hq,rfl⟩:=List.mem_map.mp hp
   have:=g.key q hq
   split<;>exact this
  ·obtain ⟨q,hq,rfl⟩:=List.mem_map.mp hp
   have:=g.deep q hq
   split<;>exact this
  ·rw [List.map_map,show ((fun x:jQ=>x.1)∘fun x=>if x.1=k then (x.1,x.2.1,v) else x)=(·.1) from funext fun x=>by show (if x.1=k then (x.1,x.2.1,v) else x).1=x.1;split<;>rfl]
   exact g.once
 ·rw [if_neg ha]
  refine ⟨fun p hp=>?_,fun p hp=>?_,?_⟩
  ·rcases List.mem_append.mp hp with hp|hp
   ·exact g.key p hp
   ·cases List.mem_singleton.mp hp;exact hy
  ·rcases List.mem_append.mp hp with hp|hp
   ·exact g.deep p hp
   ·cases List.mem_singleton.mp hp;exact h8
  ·rw [List.map_append,List.nodup_append]
   refine ⟨g.once,by simp,fun a h1 b h2 e=>ha ?_⟩
   cases List.mem_singleton.mp h2
   obtain ⟨q,hq,rfl⟩:=List.mem_map.mp h1
   rw [List.any_eq_true]
   exact ⟨q,hq,decide_eq_true e⟩
theorem zU {kvs:List jQ} {k k':GK} {y v:V}:jN (kJ kvs k y v) k'=if k'=k then some v else jN kvs k':=by
 unfold kJ
 by_cases ha:(kvs.any fun x=>decide (x.1=k))=true
 ·rw [if_pos ha]
  induction kvs with
  |nil=>cases ha
  |cons p t ih =>
   by_cases hp:p.1=k
   ·by_cases hk:k'=k
    ·subst hk;simp [jN,hp]
    ·have ne:¬p.1=k':=fun e=>hk (e▸hp)
     have ne2:¬k=k':=fun e=>hk e.symm
     rw [if_neg hk]
     have tl:∀l:List jQ,jN (l.map fun x=>if x.1=k then (x.1,x.2.1,v) else x) k'=jN l k':=by
      intro l
      induction l with
      |nil=>rfl
      |cons q l ihl =>
       rw [List.map_cons]
       by_cases hq:q.1=k
       ·have n3:¬q.1=k':=fun e=>ne2 (hq▸e)
        rw [if_pos hq]
        unfold jN at ihl ⊢
        rw [List.find?_cons_of_neg (by simpa using n3),List.find?_cons_of_neg (by simpa using n3)]
        exact ihl
       ·rw [if_neg hq]
        unfold jN at ihl ⊢
        by_cases hq':q.1=k'
        ·rw [List.find?_cons_of_pos (by simpa using hq'),List.find?_cons_of_pos (by simpa using hq')]
        ·rw [List.find?_cons_of_neg (by simpa using hq'),List.find?_cons_of_neg (by simpa using hq')]
         exact ihl
     exact tl (p::t)
   ·have ha':(t.any fun x=>decide (x.1=k))=true:=by simpa [hp] using ha
    have:=ih ha'
    unfold jN at this ⊢
    by_cases hq:p.1=k'
    ·have:¬k'=k:=fun e=>hp (hq.trans e)
     simp [List.find?_cons,hp,hq,this]
    ·simpa [List.find?_cons,hp,hq] using this
 ·rw [if_neg ha]
  unfold jN
  rw [List.find?_append]
  by_cases hk:k'=k
  ·subst hk
   have:kvs.find? (fun x=>decide (x.1=k'))=none:=by
    rw [List.find?_eq_none]
    intro x hx e
    exact ha (List.any_eq_true.mpr ⟨x,hx,e⟩)
   simp [this]
  ·have n2:¬k=k':=fun e=>hk e.symm
   rw [if_neg hk]
   cases hf:kvs.find? (fun x=>decide (x.1=k'))<;>simp [n2]
def eV (w:World) (td ty:TE):TE:=fun σ H Q=>td σ H fun x H1=>ty σ H1 fun y H2=>∃(d:Addr) (kvs:List jQ) (k:GK) (v:V),x=.ref d∧Rd H2 d (GO w d kvs)∧GOk H2 kvs∧(GV H2 k).1 y∧gd k≤8∧jN kvs k=some v∧Q v H2
def p0 (w:World) (ty td:TE):TE:=fun σ H Q=>ty σ H fun y H1=>td σ H1 fun x H2=>∃(d:Addr) (kvs:List jQ) (k:GK),x=.ref d∧Rd H2 d (GO w d kvs)∧GOk H2 kvs∧(GV H2 k).1 y∧gd k≤8∧Q (.bl (jN kvs k).isSome) H2
def pF (w:World) (td ty tv:TE):TS:=fun D σ H=>tv σ H fun v H1=>td σ H1 fun x H2=>ty σ H2 fun y H3=>∃(d:Addr) (kvs:List jQ) (k:GK),x=.ref d∧H3 d=some (GO w d kvs)∧GOk H3 kvs∧(GV H3 k).1 y∧gd k≤8∧kvs.length<sizeLine∧D.nx σ (jB H3 d (GO w d (kJ kvs k y v)))
def o8 (w:World):TE:=fun _ H Q=>∀p,H p=none→Q (.ref p) (jB H p (GO w p []))
section
variable {X:Cx} {o i e value:Expr} {pos pos':Pos} {td ty tv:TE}
theorem vG (hu:X.A.units+9<cLine) (ho:PE X o td) (hi:PE X i ty) (hs:ZX i):PE X (.Subscript o i pos) (eV X.w td ty):=by
 intro pins s σ H Q I h
 refine mR PySem.F.slot_dict_getitem.lookup hs (jG (ho pins s σ H _ I h) fun u s1 ⟨x,H1,I1,rx,q1⟩=>jG (hi pins s1 σ H1 _ I1 q1) fun iv s2 ⟨y,H2,I2,ry,d,kvs,k,v,ex,hd,g,hy,h8,hv,q2⟩=>?_)
 subst ex
 obtain rfl:u=Value.ref d:=rx
 obtain ⟨_,_,xs,_,dd⟩:=I2.gdict hd g
 exact ⟨dd.typeIs,oW hu I2 hd g hy h8 hv ry fun w' s3 I3 rw'=>⟨v,H2,I3,rw',q2⟩⟩
theorem oC (hu:X.A.units+9<cLine) (hi:PE X i ty) (ho:PE X o td):PC X .In i o (p0 X.w ty td):=by
 intro pins s σ H Q I h
 refine jG (hi pins s σ H _ I h) fun iv s1 ⟨y,H1,I1,ry,q1⟩=>jG (ho pins s1 σ H1 _ I1 q1) fun u s2 ⟨x,H2,I2,rx,d,kvs,k,ex,hd,g,hy,h8,q2⟩=>?_
 subst ex
 obtain rfl:u=Value.ref d:=rx
 exact rO hu I2 hd g hy h8 ry fun s3 I3=>⟨.bl (jN kvs k).isSome,H2,I3,rfl,q2⟩
theorem QD (hu:X.A.units+9<cLine) (ho:PE X o td) (hi:PE X i ty) (hv:PE X value tv) (hs:swapsWith value (some (.Subscript o i pos')) pos.line X.env=pure false) :
  PS X (.Assign [.Subscript o i pos'] value pos) (pF X.w td ty tv):=by
 intro pins s σ H D I h
 refine wpAny_Assign_Subscript (jG (hv pins s σ H _ I h) fun r s1 ⟨v,H1,I1,rv,q1⟩=>jG (ho pins s1 σ H1 _ I1 q1) fun u s2 ⟨x,H2,I2,rx,q2⟩=>jG (hi pins s2 σ H2 _ I2 q2) fun iv s3 ⟨y,H3,I3,ry,d,kvs,k,ex,hd,g,hy,h8,hl,q3⟩=>?_) hs
 subst ex
 obtain rfl:u=Value.ref d:=rx
 exact nL hu I3 hd g hy h8 hl ry rv fun s4 I4=>⟨σ,_,I4,q3⟩
theorem ZG:PE X (.Dict [] [] pos) (o8 X.w):=fun pins s σ H Q I h =>
 wpAny_Dict_empty ⟨.ref s.heap.objs.size,_,I.laid (a:=s.heap.objs.size) (o:=GO X.w s.heap.objs.size []) (t':=s.toks) (fun _ _ q=>Heap.get?_push_of_some _ q) (Nat.le_refl _)
  ⟨⟨Nat.zero_le _,beq_eq_false_iff_ne.mpr (Ne.symm (Nat.ne_of_lt I.big)),[],.nil,_,#[],0,Heap.get?_push_size _ rfl,⟨rfl,rfl,rfl⟩,rfl,rfl⟩,⟨_,Heap.get?_push_size _ rfl⟩,
   fun h1 h2 ⟨a1,a2,xs',a3,o',es',ep',a4,a5⟩ kp=>⟨a1,a2,xs',a3,o',es',ep',kp _ a4,a5⟩⟩,rfl,h _ (I.hok.fresh (Nat.le_refl _))⟩
theorem mW {s:Shared} {A:Around} {x y:GK} {v u:Value} (p:(GR s.heap x).1 v) (q:(GR s.heap y).1 u) (hu:A.units+gd x<cLine):SeqAt.RcAt A s v u (decide (x=y)):=by
 have tt:vP x=true→vP y=true→SeqAt.RcAt A s v u (decide (x=y)):=fun hx hy=>by
  obtain ⟨a,o,its,n,rfl,ho,hc,hd,hl⟩:=(GR.tup hx).1 p
  obtain ⟨a',o',its',n',rfl,ho',hc',hd',hl'⟩:=(GR.tup hy).1 q
  obtain ⟨e,he,hr⟩:=(JN x y).2 A.in1 _ _ hl hl' (by simp only [Around.in1_units];omega)
  have r:=SeqAt.RcAt.tuples (A:=A) (s:=s) (e:=e) (items:=its) (items2:=its') ⟨o,ho,hc,n,hd⟩ ⟨o',ho',hc',n',hd'⟩ (by omega) (fun j h1 h2=>by have:=he j (by simpa using h1) (by simpa using h2);rwa [Array.getElem_toList,Array.getElem_toList] at this)
  rw [Array.length_toList,Array.length_toList] at hr
  rw [hr] at r
  exact r
 have ti:vP x=true→∀n t,u=.int n t→SeqAt.RcAt A s v u false:=fun hx n t e=>by
  obtain ⟨a,o,its,m,rfl,ho,hc,hd,_⟩:=(GR.tup hx).1 p
  subst e
  exact SeqAt.RcAt.tuple_int _ _ ⟨o,ho,hc,_,hd⟩ (by omega)
 have ts:vP x=true→∀n t,u=.str n t→SeqAt.RcAt A s v u false:=fun hx n t e=>by
  obtain ⟨a,o,its,m,rfl,ho,hc,hd,_⟩:=(GR.tup hx).1 p
  subst e
  exact SeqAt.RcAt.tuple_str _ _ ⟨o,ho,hc,_,hd⟩ (by omega)
 have it:vP y=true→∀n t,v=.int n t→SeqAt.RcAt A s v u false:=fun hy n t e=>by
  obtain ⟨a,o,its,m,rfl,ho,hc,hd,_⟩:=(GR.tup hy).1 q
  subst e
  exact SeqAt.RcAt.int_tuple _ _ ⟨o,ho,hc,_,hd⟩ (by omega)
 have st:vP y=true→∀n t,v=.str n t→SeqAt.RcAt A s v u false:=fun hy n t e=>by
  obtain ⟨a,o,its,m,rfl,ho,hc,hd,_⟩:=(GR.tup hy).1 q
  subst e
  exact SeqAt.RcAt.str_tuple _ _ ⟨o,ho,hc,_,hd⟩ (by omega)
 cases x with
 |i n =>
  obtain ⟨t,rfl⟩:=p
  cases y with
  |i m=>obtain ⟨t',rfl⟩:=q;rw [show decide (GK.i n=GK.i m)=(n == m) by by_cases e:n=m<;>simp [e]];exact SeqAt.RcAt.int_int n t m t'
  |s z=>obtain ⟨t',rfl⟩:=q;exact SeqAt.RcAt.int_str _ _ _ _
  |nil=>exact it rfl n t rfl
  |cons a b=>exact it rfl n t rfl
 |s n =>
  obtain ⟨t,rfl⟩:=p
  cases y with
  |i m=>obtain ⟨t',rfl⟩:=q;exact SeqAt.RcAt.str_int _ _ _ _
  |s z=>obtain ⟨t',rfl⟩:=q;rw [show decide (GK.s n=GK.s z)=(n == z) by by_cases e:n=z<;>simp [e]];exact SeqAt.RcAt.str_str n t z t'
  |nil=>exact st rfl n t rfl
  |cons a b=>exact st rfl n t rfl
 |nil =>
  cases y with
  |i m=>obtain ⟨t',e⟩:=q;exact ti rfl m t' e
  |s z=>obtain ⟨t',e⟩:=q;exact ts rfl z t' e
  |nil=>exact tt rfl rfl
  |cons a b=>exact tt rfl rfl
 |cons a b =>
  cases y with
  |i m=>obtain ⟨t',e⟩:=q;exact ti rfl m t' e
  |s z=>obtain ⟨t',e⟩:=q;exact ts rfl z t' e
  |nil=>exact tt rfl rfl
  |cons a b=>exact tt rfl rfl
def rK:R2:=fun x y H Q=>∃k k',(GV H k).1 x∧(GV H k').1 y∧gd k≤8∧Q (.bl (decide (k=k'))) H
theorem oG (hu:X.A.units+9<cLine):OpR X (compareOp .Eq) rK:=by
 intro pins s σ H x y v u Q I rx ry h
 obtain ⟨k,k',hx,hy,h8,q⟩:=h
 exact mW ((GV.rel I.hok k).1 x v hx rx) ((GV.rel I.hok k').1 y u hy ry) (by omega) X.prog X.w X.xe _ ⟨.bl _,H,I,rfl,q⟩
end
end L2
namespace L2
open PySem PySem.Spec PyProof.Rows
section
variable {X:Cx} {pins:List (Addr×Obj)} {σ:List (Option V)} {H:Hp} {s:Shared}
def FnO (f:Addr) (o:Obj):HO:=.ext fun h=>h.get? f=some o
theorem Inv.fnMade {P:Addr} {ps more:Array Value} {h':Heap} {o:Obj} {t':Nat} (I:Inv X pins σ H s) (hP:H P=some (.tbl ps)) (hx:Heap.ExtBut P s.heap h') (hsz:s.heap.objs.size≤h'.objs.size) (hP':h'.get? P=some {cls:=.none,data:=.fields (ps++more)}) (hfr:o.isFreed=false) :
  Inv X pins σ (jB (jB H P (.tbl (ps++more))) h'.objs.size (FnO h'.objs.size o)) {s with heap:=h'.push o,toks:=t'}:=by
 have hPs:ObjOk X.prog X.w H s.heap P (.tbl ps):=I.hok P _ hP
 have key:∀b u,b≠P→s.heap.get? b=some u→(h'.push o).get? b=some u:=fun b u hb e=>Heap.get?_push_of_some _ (hx b u hb e)
 have hlt:∀b,b<s.heap.objs.size→b≠h'.objs.size:=fun b e=>Nat.ne_of_lt (Nat.lt_of_lt_of_le e hsz)
 have hf:∀b u,s.heap.get? b=some u→b≠h'.objs.size:=fun b u e=>hlt b (Heap.lt_size e)
 have ht:∀b u,H b=some u→b≠h'.objs.size:=fun b u e=>hlt b (I.hok b u e).lt
 have hfP:P≠h'.objs.size:=ht P _ hP
 have hnP:∀b,H b=none→b≠P:=fun b n z=>by rw [z,hP] at n;cases n
 have hoP:∀b u,H b=some u→u≠.tbl ps→b≠P:=fun b u e n z=>by rw [z,hP] at e;cases e;exact n rfl
 refine I.un ⟨fun b ob e n _ _=>key b ob (hnP b n) e,fun b ob e n _ _=>⟨ob.slots,key b ob (hnP b n) e⟩,fun b ob e n _=>?_,fun b ob e _=>?_,fun b xs e=>?_,fun b ob u e=>?_,fun b qs e=>?_⟩ fun b u e=>?_
 ·rw [jD (hf b ob e),jD (hnP b n)];exact n
 ·by_cases z:b=P
  ·subst z;exact ⟨_,Heap.get?_push_of_some _ hP'⟩
  ·exact ⟨ob,key b ob z e⟩
 ·rw [jD (ht b _ e),jD (hoP b _ e (fun z=>nomatch z))];exact e
 ·rw [jD (ht b _ e),jD (hoP b _ e (fun z=>nomatch z))];exact e
 ·by_cases z:b=P
  ·subst z
   rw [hP] at e;cases e
   exact ⟨more,by rw [jD hfP,jL]⟩
  ·exact ⟨#[],by rw [jD (ht b _ e),jD z,e];simp⟩
 ·by_cases z:b=h'.objs.size
  ·subst z
   rw [jL] at e;cases e
   exact ⟨Heap.get?_push_size _ hfr,⟨_,Heap.get?_push_size _ hfr⟩,fun h1 h2 q k=>k _ q⟩
  rw [jD z] at e
  by_cases zP:b=P
  ·subst zP
   rw [jL] at e;cases e
   exact Heap.get?_push_of_some _ hP'
  rw [jD zP] at e
  refine (I.hok b u e).stay (fun c v hc r=>key c v ?_ r) (fun c r=>?_) fun c xs r=>?_
  ·rcases hc with rfl|hc
   ·exact zP
   ·exact hoP c _ hc (fun z=>nomatch z)
  ·rw [jD (ht c _ r),jD (hoP c _ r (fun z=>nomatch z))];exact r
  ·rw [jD (ht c _ r),jD (hoP c _ r (fun z=>nomatch z))];exact r
end
end L2
namespace L2
open PySem PySem.Spec PyProof.Rows
def kK (H:Hp) (cs:List Addr):Hp:=fun b=>if b∈cs then none else H b
def kI (H' H:Hp) (cs:List Addr):Hp:=fun b=>if b∈cs then H b else H' b
theorem QG {H:Hp} {cs:List Addr} {b:Addr} (h:b∈cs):kK H cs b=none:=if_pos h
theorem j8 {H:Hp} {cs:List Addr} {b:Addr} (h:b∉cs):kK H cs b=H b:=if_neg h
theorem vY {H H':Hp} {cs:List Addr} {b:Addr} (h:b∈cs):kI H' H cs b=H b:=if_pos h
theorem kL {H H':Hp} {cs:List Addr} {b:Addr} (h:b∉cs):kI H' H cs b=H' b:=if_neg h
section
variable {P:Program} {w:World} {H H' HC:Hp} {h h':Heap} {cs fs:List Addr}
theorem FnO.ok {c:Addr} {o:Obj} (e:h.get? c=some o):ObjOk P w H h c (FnO c o):=⟨e,⟨o,e⟩,fun _ _ q k=>k _ q⟩
theorem FnO.get {c:Addr} {o:Obj} (x:HOk P w H h) (e:H c=some (FnO c o)):h.get? c=some o:=(x c _ e).1
def z6 (H:Hp) (cs:List Addr):Prop:=∀c∈cs,∃o,H c=some (FnO c o)
theorem HOk.hide (x:HOk P w H h) (hc:z6 H cs):HOk P w (kK H cs) h:=fun b u e=>by
 by_cases hb:b∈cs
 ·rw [QG hb] at e;cases e
 ·rw [j8 hb] at e
  refine (x b u e).stay (fun _ _ _ q=>q) (fun c q=>?_) fun c xs q=>?_
  ·rw [j8];exact q
   intro hin;obtain ⟨o,e2⟩:=hc c hin;rw [q] at e2;cases e2
  ·rw [j8];exact q
   intro hin;obtain ⟨o,e2⟩:=hc c hin;rw [q] at e2;cases e2
theorem HOk.unhide (x:HOk P w H' h) (hn:∀c∈cs,H' c=none) (hc:∀c∈cs,∃o,H c=some (FnO c o)∧h.get? c=some o):HOk P w (kI H' H cs) h:=fun b u e=>by
 by_cases hb:b∈cs
 ·rw [vY hb] at e
  obtain ⟨o,e2,g⟩:=hc b hb
  rw [e2] at e;cases e
  exact FnO.ok g
 ·rw [kL hb] at e
  refine (x b u e).stay (fun _ _ _ q=>q) (fun c q=>?_) fun c xs q=>?_
  ·rw [kL];exact q
   intro hin;rw [hn c hin] at q;cases q
  ·rw [kL];exact q
   intro hin;rw [hn c hin] at q;cases q
theorem Un.unhide (u:Un fs [] (kK H cs) H' h h') (hc:z6 H cs):Un fs [] H (kI H' H cs) h h':=by
 have no:∀b,H b=none→b∉cs:=fun b n hin=>by obtain ⟨o,e⟩:=hc b hin;rw [n] at e;cases e
 have nt:∀b v,H b=some v→(∀o,v≠FnO b o)→b∉cs:=fun b v e n hin=>by obtain ⟨o,e2⟩:=hc b hin;rw [e] at e2;cases e2;exact n o rfl
 refine ⟨fun b o e n=>u.keep b o e (by rw [j8 (no b n)];exact n),fun b o e n=>u.slot b o e (by rw [j8 (no b n)];exact n),fun b o e n hx=>?_,fun b o e hx=>u.there b o e hx,fun b xs e=>?_,fun b o v e=>?_,fun b ps e=>?_⟩
 ·rw [kL (no b n)];exact u.free b o e (by rw [j8 (no b n)];exact n) hx
 ·have:=nt b _ e (fun _ z=>nomatch z)
  rw [kL this];exact u.tups b xs (by rw [j8 this];exact e)
 ·have:=nt b _ e (fun _ z=>nomatch z)
  rw [kL this];exact u.frzs b o v (by rw [j8 this];exact e)
 ·have:=nt b _ e (fun _ z=>nomatch z)
  rw [kL this];exact u.tbls b ps (by rw [j8 this];exact e)
theorem Un.hide (u:Un fs [] (kI H HC cs) H' h h') (hn:∀c∈cs,H c=none) (hc:∀c∈cs,∃o,HC c=some (FnO c o)∧h.get? c=some o) (he:∀c∈cs,H' c=HC c) (hf:∀c∈cs,c∉fs) (x:HOk P w H' h'):Un fs [] H (kK H' cs) h h':=by
 have nt:∀b v,H b=some v→b∉cs:=fun b v e hin=>by rw [hn b hin] at e;cases e
 refine ⟨fun b o e n h1 h2=>?_,fun b o e n h1 h2=>?_,fun b o e n hx=>?_,fun b o e hx=>u.there b o e hx,fun b xs e=>?_,fun b o v e=>?_,fun b ps e=>?_⟩
 ·by_cases hb:b∈cs
  ·obtain ⟨o',e1,e2⟩:=hc b hb
   rw [e] at e2;cases e2
   exact FnO.get x ((he b hb).trans e1)
  ·exact u.keep b o e (by rw [kL hb];exact n) h1 h2
 ·exact u.slot b o e (by rw [kL fun hb=>hf b hb h1];exact n) h1 h2
 ·by_cases hb:b∈cs
  ·exact QG hb
  ·rw [j8 hb];exact u.free b o e (by rw [kL hb];exact n) hx
 ·have:=nt b _ e
  rw [j8 this];exact u.tups b xs (by rw [kL this];exact e)
 ·have:=nt b _ e
  rw [j8 this];exact u.frzs b o v (by rw [kL this];exact e)
 ·have:=nt b _ e
  rw [j8 this];exact u.tbls b ps (by rw [kL this];exact e)
end
structure CloScope (N ps fr:List Str) (sc:Scope):Prop where
 kind:sc.kind=.function
 co:sc.isCoroutine=false
 gen:sc.isGenerator=false
 nd:N.Nodup
 pre:N.take (ps++fr).length=ps++fr
 par:∀x∈ps,sc.names.lookup x=some .local
 fre:∀x∈fr,sc.names.lookup x=some .free
 onl:∀x,sc.names.lookup x=some .free→x∈fr
 noc:∀y∈sc.names,y.2≠.cell
def z4 (CX:kP) (P:Program) (w:World) (K:PySem.W.Frag) (mg:Str→Option Value) (base:Heap) (N:List Str) (qual:Str) (scope:Scope) (f:Addr) (cd:Value) (cl:List (Str×Addr)) (A:Around) (outer:List Env) (s:Shared) (H:Hp) (E:XK):Cx where
 prog:=P
 w:=w
 K:=K
 mg:=mg
 base:=base
 A:=A.deeper (PySem.W.envX qual scope s.heap.objs.size f cd cl)
 N:=N
 s₀:=s
 H₀:=kK H (cl.map (·.2))
 env:=PySem.W.envX qual scope s.heap.objs.size f cd cl
 outer:=outer
 stack:=PySem.W.envX qual scope s.heap.objs.size f cd cl::outer
 ex:=[]
 calm:=true
 fn:=fun _=>false
 pn:=[]
 xe:=fun e s'=>wpAny (model P w) (A.deeper (PySem.W.envX qual scope s.heap.objs.size f cd cl)) (leaving (PySem.W.envX qual scope s.heap.objs.size f cd cl) e) (fun _ s''=>CX outer H s E e s'') (fun e' s''=>CX outer H s E e' s'') s'
end L2
namespace L2
open PySem PySem.Spec PyProof.Rows
structure CloAt (H:Hp) (f:Addr) (qual:Str) (params:Arguments) (body:List Stmt) (scope:Scope) (cl:List (Str×Addr)) (fvs:List V) (cdv:Value) (fd:FuncData):Prop where
 fn:∃fo name doc pm an ct,H f=some (FnO f fo)∧fo.data=.func fd∧fd=PySem.W.fnX name qual params body scope cl .none .none doc pm an cdv ct
 code:∃c oc vs t,cdv=.ref c∧H c=some (FnO c oc)∧oc.data=.fields vs∧vs[1]?=some (.str qual t)
 once:(cl.map (·.2)).Nodup
 len:fvs.length=cl.length
 cell:∀(i:Nat) (x:Str) (c:Addr) (v:V),cl[i]?=some (x,c)→fvs[i]?=some v→∃o u,H c=some (FnO c o)∧o.data=.cell (some u)∧RelV v u
theorem CloAt.cells {H:Hp} {f:Addr} {qual:Str} {params:Arguments} {body:List Stmt} {scope:Scope} {cl:List (Str×Addr)} {fvs:List V} {cdv:Value} {fd:FuncData} (C:CloAt H f qual params body scope cl fvs cdv fd):z6 H (cl.map (·.2)):=fun c hc=>by
 obtain ⟨⟨x,c'⟩,hm,rfl⟩:=List.mem_map.mp hc
 obtain ⟨i,hi⟩:=List.mem_iff_getElem?.mp hm
 have hlt:i<fvs.length:=by rw [C.len];exact (List.getElem?_eq_some_iff.mp hi).1
 obtain ⟨o,u,e,_⟩:=C.cell i x c' _ hi (List.getElem?_eq_getElem hlt)
 exact ⟨o,e⟩
theorem bB {β:Type} {n:Str} {c:β}:∀{cs:List (Str×β)},(cs.map (·.1)).Nodup→(n,c)∈cs→cs.lookup n=some c
 |[],_,hm=>nomatch hm
 | (m,d)::cs,hn,hm=>by
  rw [List.map_cons,List.nodup_cons] at hn
  rw [List.lookup_cons]
  rcases List.mem_cons.mp hm with e|hm
  ·cases e;rw [beq_self_eq_true]
  ·have ne:(n == m)=false:=beq_eq_false_iff_ne.mpr fun e=>hn.1 (e▸List.mem_map.mpr ⟨_,hm,rfl⟩)
   rw [ne]
   exact bB hn.2 hm
theorem lZ {cl:List (Str×Addr)} (hn:(cl.map (·.2)).Nodup) {x y:Str} {c:Addr} (h1:cl.lookup x=some c) (h2:cl.lookup y=some c):x=y:=by
 obtain ⟨i,hi⟩:=List.mem_iff_getElem?.mp (PySem.mem_of_lookup h1)
 obtain ⟨j,hj⟩:=List.mem_iff_getElem?.mp (PySem.mem_of_lookup h2)
 have a:(cl.map (·.2))[i]?=some c:=by rw [List.getElem?_map,hi];rfl
 have b:(cl.map (·.2))[j]?=some c:=by rw [List.getElem?_map,hj];rfl
 obtain rfl:=(List.getElem?_inj (List.getElem?_eq_some_iff.mp a).1 hn).mp (a.trans b.symm)
 rw [hi] at hj
 cases hj
 rfl
section
variable {CX:kP} {P:Program} {w:World} {K:PySem.W.Frag} {mg:Str→Option Value} {base:Heap} {N ps fr:List Str} {qual:Str} {params:Arguments} {body:List Stmt} {scope:Scope} {f:Addr} {cdv:Value} {fd:FuncData} {cl:List (Str×Addr)} {A:Around} {outer:List Env} {s:Shared} {H:Hp} {E:XK} {Q:VK} {us:List Value} {vs fvs:List V} {k:Nat} {args:Args}
theorem nH {h1:Heap} {tk:Nat} (S:CloScope N ps fr scope) (hd:A.handled=none) (e0:Env0 P w K mg base A outer s H) (hl:vs.length=ps.length) (r:Vals vs us) (C:CloAt H f qual params body scope cl fvs cdv fd) (hcl:cl.map (·.1)=fr)
  (hns:h1.Ns s.heap.objs.size fun x=>(ps.zip us).reverse.lookup x) (hk:∀b o,s.heap.get? b=some o→h1.get? b=some o) :
  Inv (z4 CX P w K mg base N qual scope f cdv cl A outer s H E) [] (kX N (vs++fvs)) (kK H (cl.map (·.2))) {s with heap:=h1,toks:=tk}:=by
 have hlen:cl.length=fr.length:=by rw [← hcl,List.length_map]
 have hpl:ps.length+fr.length≤N.length:=by have:=congrArg List.length S.pre;rw [List.length_take,List.length_append] at this;omega
 have hfl:fvs.length=fr.length:=C.len.trans hlen
 have ndF:(ps++fr).Nodup:=by rw [← S.pre];exact S.nd.sublist (List.take_sublist _ _)
 have ndP:ps.Nodup:=(List.nodup_append.mp ndF).1
 have ndC:(cl.map (·.1)).Nodup:=by rw [hcl];exact (List.nodup_append.mp ndF).2.1
 have del0:∀b,H b=none→kK H (cl.map (·.2)) b=none:=fun b n=>by unfold kK;split;rfl;exact n
 have noA:∀b:Addr,b∉(z4 CX P w K mg base N qual scope f cdv cl A outer s H E).ex:=fun b z=>absurd (show b∈([]:List Addr) from z) (by simp)
 have cellOf:∀x c,cl.lookup x=some c→∃o,H c=some (FnO c o)∧∃u,o.data=.cell (some u):=fun x c h=>by
  obtain ⟨i,hi⟩:=List.mem_iff_getElem?.mp (PySem.mem_of_lookup h)
  have hlt:i<fvs.length:=by rw [C.len];exact (List.getElem?_eq_some_iff.mp hi).1
  obtain ⟨o,u,e,e2,_⟩:=C.cell i x c _ hi (List.getElem?_eq_getElem hlt)
  exact ⟨o,e,u,e2⟩
 refine ⟨⟨e0.mod,S.kind,rfl,rfl,Nat.le_refl _,fun y z c h1 h2=>lZ C.once h1 h2,fun y hy=>?_,fun y c q=>(nomatch q),fun _=>hd,Around.frames_deeper e0.frames,.inr ⟨rfl,rfl⟩,fun b z=>absurd z (noA b),fun b o e=>⟨(e0.bs b o e).1,del0 b (e0.bs b o e).2⟩,e0.bsz,fun b _ _=>noA b,fun b z=>absurd z (noA b),e0.funs,fun b hb=>del0 b (e0.frf b hb)⟩,
  rfl,e0.bare,Un.kept hk,⟨_,hns,fun i y v h1 h2 h3=>?_⟩,fun y c h=>?_,del0 _ (e0.hok.fresh (Nat.le_refl _)),fun y c h=>QG (List.mem_map.mpr ⟨_,PySem.mem_of_lookup h,rfl⟩),fun p hp=>absurd (show p∈([]:List (Addr×Obj)) from hp) (by simp),(e0.hok.hide C.cells).kept hk,?_⟩
 ·have hy:scope.names.lookup y=some .cell∨scope.names.lookup y=some .free:=hy
  rcases hy with hy|hy
  ·exact absurd rfl (S.noc _ (PySem.mem_of_lookup hy))
  ·have:=S.onl y hy
   rw [← hcl] at this
   obtain ⟨⟨x,c⟩,hm,rfl⟩:=List.mem_map.mp this
   exact ⟨c,lookup_of_mem_nodup ndC hm⟩
 ·have hi:i<(vs++fvs).length:=by
   unfold kX at h2
   by_cases hi:i<(vs++fvs).length
   ·exact hi
   ·rw [List.getElem?_append_right (by simpa using hi),List.getElem?_replicate] at h2
    split at h2<;>cases h2
  have ha:(vs++fvs)[i]?=some v:=by
   unfold kX at h2
   rw [List.getElem?_append_left (by simpa using hi),List.getElem?_map] at h2
   cases e:(vs++fvs)[i]? with
   |none=>rw [e] at h2;cases h2
   |some a=>rw [e] at h2;cases h2;rfl
  have hp:(ps++fr)[i]?=some y:=by
   rw [← S.pre,List.getElem?_take_of_lt (by rw [List.length_append] at hi ⊢;omega)];exact h1
  by_cases hv:i<ps.length
  ·rw [List.getElem?_append_left hv] at hp
   rw [List.getElem?_append_left (by omega)] at ha
   obtain ⟨u,hu,rv⟩:=r.get ha
   refine ⟨u,rv,.inl ⟨S.par y (List.mem_of_getElem? hp),?_⟩⟩
   refine bB ?_ (List.mem_reverse.mpr ?_)
   ·rw [List.map_reverse]
    refine List.pairwise_reverse.mpr (List.Pairwise.imp (fun h=>Ne.symm h) ?_)
    rw [List.map_fst_zip (by rw [← r.length,hl];exact Nat.le_refl _)]
    exact ndP
   ·refine List.mem_iff_getElem?.mpr ⟨i,?_⟩
    rw [List.getElem?_zip_eq_some]
    exact ⟨hp,hu⟩
  ·rw [List.getElem?_append_right (by omega)] at hp
   rw [List.getElem?_append_right (by omega),hl] at ha
   rw [← hcl,List.getElem?_map] at hp
   obtain ⟨⟨x,c⟩,hc,rfl⟩:=Option.map_eq_some_iff.mp hp
   obtain ⟨o,u,e,e2,rv⟩:=C.cell _ x c v hc ha
   refine ⟨u,rv,.inr ⟨.inr (S.fre x ?_),c,lookup_of_mem_nodup ndC (List.mem_of_getElem? hc),o,hk _ _ (FnO.get e0.hok e),e2⟩⟩
   rw [← hcl]
   exact List.mem_map.mpr ⟨_,List.mem_of_getElem? hc,rfl⟩
 ·obtain ⟨o,e,u,e2⟩:=cellOf y c h
  exact ⟨some u,o,hk _ _ (FnO.get e0.hok e),e2⟩
 ·unfold kX
  show _=N.length
  rw [List.length_append,List.length_map,List.length_replicate,List.length_append]
  omega
theorem nN (S:CloScope N ps fr scope) (hr:Room (k+1) A) (e0:Env0 P w K mg base A outer s H) (hl:vs.length=ps.length) (r:Vals vs us) (C:CloAt H f qual params body scope cl fvs cdv fd) (hcl:cl.map (·.1)=fr) (hb:BindsTo s fd args (ps.zip us))
  (hbody:Room k (A.deeper (PySem.W.envX qual scope s.heap.objs.size f cdv cl))→
   ∃t,PSs (z4 CX P w K mg base N qual scope f cdv cl A outer s H E) body t∧t {nx:=fun _ H'=>(∀c∈cl.map (·.2),H' c=none)→Q .non (kI H' H (cl.map (·.2))),rt:=fun v H'=>(∀c∈cl.map (·.2),H' c=none)→Q v (kI H' H (cl.map (·.2)))} (kX N (vs++fvs)) (kK H (cl.map (·.2)))) :
  codeAny (model P w) A (.call (.ref f) args) (CR CX outer P w H s Q E) s:=by
 obtain ⟨fo,name,doc,pm,an,ct,hf,hd,rfl⟩:=C.fn
 have hcode:s.heap.CodeRec cdv qual:=by
  obtain ⟨c,oc,vs',t,e,e1,e2,e3⟩:=C.code
  exact ⟨c,oc,vs',t,e,FnO.get e0.hok e1,e2,e3⟩
 have lim:s.heap.NoLimit:=e0.mod.nolimit.keeps fun b o e=>(e0.bs b o e).1
 refine codeAny_call_def hr.depth (FnO.get e0.hok hf) hd lim hcode rfl hb S.noc (fun x hx=>S.par x.1 (List.of_mem_zip hx).1) (fun h1 hns hk=>?_) S.co S.gen S.kind
 obtain ⟨t,ht,hq⟩:=hbody (hr.deeper _)
 have I:Inv (z4 CX P w K mg base N qual scope f cdv cl A outer s H E) [] (kX N (vs++fvs)) (kK H (cl.map (·.2))) {s with heap:=h1,toks:=s.toks+(ps.zip us).length}:=nH S hr.hd e0 hl r C hcl hns hk
 refine wpAny_mono (ht [] _ _ _ _ I hq) (fun fl s' hs=>?_) fun e s' hs=>hs
 have fin:∀{σ':St} {H':Hp} {v:V} {u:Value},Inv (z4 CX P w K mg base N qual scope f cdv cl A outer s H E) [] σ' H' s'→RelV v u→((∀c∈cl.map (·.2),H' c=none)→Q v (kI H' H (cl.map (·.2))))→CE outer P w H s Q u s':=fun {σ' H' v u} J rv q=>by
  have hn:∀c∈cl.map (·.2),H' c=none:=fun c hc=>by
   obtain ⟨⟨x,c'⟩,hm,rfl⟩:=List.mem_map.mp hc
   have ndC:(cl.map (·.1)).Nodup:=by
    have ndF:(ps++fr).Nodup:=by rw [← S.pre];exact S.nd.sublist (List.take_sublist _ _)
    rw [hcl];exact (List.nodup_append.mp ndF).2.1
   exact J.freeC x c' (lookup_of_mem_nodup ndC hm)
  refine ⟨v,_,J.os,J.bare,Un.unhide J.base C.cells,HOk.unhide J.hok hn fun c hc=>?_,rv,q hn⟩
  ·obtain ⟨o,e⟩:=C.cells c hc
   refine ⟨o,e,J.base.keep c o (FnO.get e0.hok e) (QG hc) (fun hin=>?_) (by intro z;cases z)⟩
   have:=e0.frf c hin
   rw [e] at this;cases this
 cases fl with
 |ret u =>
  obtain ⟨v,σ',H',J,rv,q⟩:=hs
  exact fin J rv q
 |next =>
  obtain ⟨σ',H',J,q⟩:=hs
  exact fin (v:=V.non) (u:=Value.none) J rfl q
 |brk =>
  obtain ⟨_,_,_,q⟩:=hs
  exact False.elim q
 |cont =>
  obtain ⟨_,_,_,q⟩:=hs
  exact False.elim q
end
end L2
namespace L2
open PySem PySem.Spec PyProof.Rows
structure FnV (P:Program) (w:World) (K:PySem.W.Frag) (mg:Str→Option Value) (base:Heap) (CX:kP) (k:Nat) (sp:Addr→Sp):Prop where
 fn:∀f vs H Q E,sp f vs H Q E→∃fo fd,H f=some (FnO f fo)∧fo.data=.func fd
 run:∀(A:Around) (outer:List Env) (s:Shared) (H:Hp) (f:Addr) (us:List Value) (vs:List V) (Q:VK) (E:XK),Room k A→Env0 P w K mg base A outer s H→Vals vs us→sp f vs H Q E→
  codeAny (model P w) A (.call (.ref f) ⟨us,[]⟩) (CR CX outer P w H s Q E) s
def JP (qual:Str) (params:Arguments) (body:List Stmt) (scope:Scope) (ps fr:List Str) (sp:List Addr→List V→Sp) (f:Addr):Sp:=fun vs H Q E=>vs.length=ps.length∧
 ∃cl fvs cdv fd,CloAt H f qual params body scope cl fvs cdv fd∧cl.map (·.1)=fr∧sp (cl.map (·.2)) fvs vs H Q E
theorem eO {CX:kP} {P:Program} {w:World} {K:PySem.W.Frag} {mg:Str→Option Value} {base:Heap} {N ps fr:List Str} {qual:Str} {params:Arguments} {body:List Stmt} {scope:Scope} {k:Nat} {sp:List Addr→List V→Sp} (S:CloScope N ps fr scope)
  (hb:∀(name:Str) (cl:List (Str×Addr)) (doc pm:Value) (an:Option Addr) (cdv ct:Value) (us:List Value),us.length=ps.length→bindArgs (PySem.W.fnX name qual params body scope cl .none .none doc pm an cdv ct) ⟨us,[]⟩=pure (ps.zip us))
  (hbody:∀(A:Around) (outer:List Env) (s:Shared) (H:Hp) (f:Addr) (cdv:Value) (cl:List (Str×Addr)) (fvs vs:List V) (Q:VK) (E:XK),cl.map (·.1)=fr→Room k (A.deeper (PySem.W.envX qual scope s.heap.objs.size f cdv cl))→z6 H (cl.map (·.2))→sp (cl.map (·.2)) fvs vs H Q E→
   ∃t,PSs (z4 CX P w K mg base N qual scope f cdv cl A outer s H E) body t∧t {nx:=fun _ H'=>(∀c∈cl.map (·.2),H' c=none)→Q .non (kI H' H (cl.map (·.2))),rt:=fun v H'=>(∀c∈cl.map (·.2),H' c=none)→Q v (kI H' H (cl.map (·.2)))} (kX N (vs++fvs)) (kK H (cl.map (·.2)))) :
  FnV P w K mg base CX (k+1) (JP qual params body scope ps fr sp):=by
 refine ⟨fun f vs H Q E h=>?_,fun A outer s H f us vs Q E hr e0 r h=>?_⟩
 ·obtain ⟨_,cl,fvs,cdv,fd,C,_⟩:=h
  obtain ⟨fo,_,_,_,_,_,h1,h2,_⟩:=C.fn
  exact ⟨fo,fd,h1,h2⟩
 ·obtain ⟨hl,cl,fvs,cdv,fd,C,hcl,hs⟩:=h
  obtain ⟨fo,name,doc,pm,an,ct,_,_,hfd⟩:=C.fn
  refine nN S hr e0 hl r C hcl (.of_eq ?_) fun hr'=>hbody A outer s H f cdv cl fvs vs Q E hcl hr' C.cells hs
  rw [hfd]
  exact hb name cl doc pm an cdv ct us (r.length▸hl)
theorem gZ {M:Model} {A:Around} {E:Value→Shared→Prop} {s:Shared} {env:Env} {pos:Pos} {f:Addr} {e:Expr} {rest:List Expr} {Q:Value→Shared→Prop}
  (h:wpAny M A (spliced (backTo pos (starEach (e::rest) env))) (fun vs s1=>∃fo fd,s1.heap.get? f=some fo∧fo.data=.func fd∧wpAny M A (call (.ref f) vs) Q E s1) E s)
  (he:starEach (e::rest) env=(false,eval e env)::starEach rest env) (hpl:(backTo pos (starEach rest env)).any (·.1)=false):wpAny M A (callWith pos (.ref f) [] (backTo pos (starEach (e::rest) env)) []) Q E s:=by
 rw [he] at h ⊢
 refine PySem.W.callWith_of (P:=fun g=>∃fo fd,g.get? f=some fo∧fo.data=.func fd) (by show ((false||(backTo pos (starEach rest env)).any (·.1))||false)=false;rw [hpl];rfl) (fun g hg=>?_) (PySem.Calls.evalArgs_plain (wpAny_mono h (fun vs s1 h1=>?_) fun _ _ y=>y))
 ·obtain ⟨⟨cls,dict,data,slots⟩,fd,ho,hd⟩:=hg
  cases hd
  exact ⟨.frame,.inl rfl,(PySem.W.Looks.ld (part:=none) ho).andThen .now⟩
 ·obtain ⟨fo,fd,ho,hd,q⟩:=h1
  exact ⟨⟨fo,fd,ho,hd⟩,q⟩
section
variable {X:Cx} {CX:kP} {k:Nat} {sp:Addr→Sp} {E:XK} {x:Str} {p pos:Pos} {e:Expr} {es:List Expr} {t:TA} {i:Nat}
def nV (i:Nat) (sp:Addr→Sp) (E:XK) (t:TA):TE:=fun σ H Q=>∃f,σ[i]?=some (some (.ref f))∧t σ H fun vs H1=>sp f vs H1 Q E
theorem cS (F:FnV X.prog X.w X.K X.mg X.base CX k sp) (hr:Room k X.A) (hx:QJ CX X E) (hN:X.N[i]?=some x) (hv:JS X.env.scope x) (ha:PA X (e::es) t) (hd:(x == ("__debug__":Str))=false:=by decide) (hcd:(x == ("__classdict__":Str))=false:=by decide)
  (he:starEach (e::es) X.env=(false,eval e X.env)::starEach es X.env:=by rfl) (hpl:(backTo pos (starEach es X.env)).any (·.1)=false:=by rfl):PE X (.Call (.Name x p) (e::es) [] pos) (nV i sp E t):=by
 intro pins s σ H Q I h
 obtain ⟨f,e1,h⟩:=h
 refine wpAny_Call_Name_kw (jG (eE hN hv hd hcd pins s σ H (fun v H'=>v=V.ref f∧t σ H' fun vs H1=>sp f vs H1 Q E) I ⟨.ref f,e1,rfl,h⟩) fun u s1 ⟨x',H1,I1,rx,ex,q1⟩=>?_)
 subst ex
 obtain rfl:u=Value.ref f:=rx
 refine gZ (jG (ha pos pins s1 σ H1 _ I1 q1) fun us s2 ⟨vs,H2,I2,r,q2⟩=>?_) he hpl
 obtain ⟨fo,fd,g1,g2⟩:=F.fn _ _ _ _ _ q2
 refine ⟨fo,fd,FnO.get I2.hok g1,g2,wpAny_call (codeAny_mono (F.run X.A X.stack s2 H2 f us vs Q E hr I2.env0 r q2) fun r s' hq=>?_)⟩
 cases r with
 |error e=>exact hx pins σ H2 s2 e s' I2 hq
 |ok fl =>
  cases fl with
  |ret u=>exact I2.after hq
  |next=>exact False.elim hq
  |brk=>exact False.elim hq
  |cont=>exact False.elim hq
end
end L2
namespace L2
open PySem PySem.Spec PyProof.Rows
def nW (cs:List (Nat×Addr)) (sp:Sp) (dvs:List V) (t:TA):TE:=fun σ H Q=>t σ H fun vs H1=>(∀p∈cs,∃v,σ[p.1]?=some (some v))∧
 ∀HC:Hp,(∀p∈cs,∃v o u,σ[p.1]?=some (some v)∧HC p.2=some (FnO p.2 o)∧o.data=.cell (some u)∧RelV v u)→(∀p∈cs,H1 p.2=none)→
  sp (vs++dvs) (kI H1 HC (cs.map (·.2))) (fun v H'=>(∀p∈cs,H' p.2=HC p.2)∧Q v (kK H' (cs.map (·.2)))) E0
section
variable {X:Cx} {k k':Nat} {f:Addr} {fd:FuncData} {ps:List Str} {sp:Sp} {dvs:List V} {ds:List Value} {x:Str} {p pos:Pos} {e:Expr} {es:List Expr} {t:TA} {cs:List (Nat×Addr)}
def ZM (X:Cx) (cs:List (Nat×Addr)):Prop:=∀q∈cs,∃y,X.N[q.1]?=some y∧X.env.scope.names.lookup y=some .cell∧X.env.cells.lookup y=some q.2∧X.fn y=true
theorem mV {pins:List (Addr×Obj)} {σ:St} {H:Hp} {s:Shared} {Q:VK} {us:List Value} {vs:List V} (F:FnOk X.prog X.w X.K X.mg X.base jZ k f fd ps sp) (hr:Room k X.A) (hb:Binds X.K fd ps ds) (hd:Vals dvs ds) (hcs:ZM X cs)
  (I:Inv X pins σ H s) (r:Vals vs us) (hv:∀q∈cs,∃v,σ[q.1]?=some (some v))
  (h:∀HC:Hp,(∀q∈cs,∃v o u,σ[q.1]?=some (some v)∧HC q.2=some (FnO q.2 o)∧o.data=.cell (some u)∧RelV v u)→(∀q∈cs,H q.2=none)→
   sp (vs++dvs) (kI H HC (cs.map (·.2))) (fun v H'=>(∀q∈cs,H' q.2=HC q.2)∧Q v (kK H' (cs.map (·.2)))) E0):wpAny (model X.prog X.w) X.A (call (.ref f) us) (EP X pins σ Q) X.xe s:=by
 let HC:Hp:=fun b=>(s.heap.get? b).map fun o=>FnO b o
 have hn:∀q∈cs,H q.2=none:=fun q hq=>by
  obtain ⟨y,_,_,e3,_⟩:=hcs q hq
  exact I.freeC y q.2 e3
 have hc:∀q∈cs,∃v o u,σ[q.1]?=some (some v)∧HC q.2=some (FnO q.2 o)∧s.heap.get? q.2=some o∧o.data=.cell (some u)∧RelV v u:=fun q hq=>by
  obtain ⟨y,e1,e2,e3,_⟩:=hcs q hq
  obtain ⟨v,ev⟩:=hv q hq
  obtain ⟨m,_,hl⟩:=I.loc
  obtain ⟨u,ru,lk⟩:=hl q.1 y v e1 ev (.inr (.inl e2))
  rcases lk with ⟨hk,_⟩|⟨_,c,hc,o,ho,hd⟩
  ·have hk':X.env.scope.names.lookup y=some .local:=hk
   rw [e2] at hk';cases hk'
  ·rw [e3] at hc;cases hc
   exact ⟨v,o,u,ev,by show (s.heap.get? q.2).map _=_;rw [ho];rfl,ho,hd,ru⟩
 have hin:∀c∈cs.map (·.2),∃q∈cs,q.2=c:=fun c hm=>by
  obtain ⟨q,hq,e⟩:=List.mem_map.mp hm
  exact ⟨q,hq,e⟩
 have hn':∀c∈cs.map (·.2),H c=none:=fun c hm=>by obtain ⟨q,hq,rfl⟩:=hin c hm;exact hn q hq
 have hc':∀c∈cs.map (·.2),∃o,HC c=some (FnO c o)∧s.heap.get? c=some o:=fun c hm=>by
  obtain ⟨q,hq,rfl⟩:=hin c hm
  obtain ⟨_,o,_,_,e1,e2,_⟩:=hc q hq
  exact ⟨o,e1,e2⟩
 have hab:∀c∈cs.map (·.2),X.s₀.heap.objs.size≤c:=fun c hm=>by
  obtain ⟨q,hq,rfl⟩:=hin c hm
  obtain ⟨y,_,_,e3,e4⟩:=hcs q hq
  exact I.ok.cab y q.2 e4 e3
 have hfs:∀c∈cs.map (·.2),c∉j9 X.stack:=fun c hm hf=>by
  have hcl:c≠X.env.locals:=by
   obtain ⟨q,hq,rfl⟩:=hin c hm
   obtain ⟨y,_,_,e3,_⟩:=hcs q hq
   exact I.cne y q.2 e3
  rcases List.mem_cons.mp (I.stkSub c hf) with z|z
  ·exact hcl z
  ·have lt:c<X.s₀.heap.objs.size:=by obtain ⟨_,o,ho,_⟩:=I.ok.funs.mem z;exact Heap.lt_size ho
   have:=hab c hm
   exact absurd (Nat.lt_of_lt_of_le lt this) (Nat.lt_irrefl _)
 have e0:=I.env0
 have e1:Env0 X.prog X.w X.K X.mg X.base X.A X.stack s (kI H HC (cs.map (·.2))):=by
  refine ⟨e0.frames,e0.mod,fun b o eb=>⟨(e0.bs b o eb).1,?_⟩,e0.bsz,e0.funs,fun b hb'=>?_,HOk.unhide e0.hok hn' hc',e0.bare⟩
  ·rw [kL fun hm=>?_];exact (e0.bs b o eb).2
   have h1:b<X.base.objs.size:=Heap.lt_size eb
   have h2:=I.ok.bsz
   have h3:=hab b hm
   exact absurd (Nat.lt_of_lt_of_le h1 (Nat.le_trans h2 h3)) (Nat.lt_irrefl _)
  ·rw [kL fun hm=>hfs b hm hb'];exact e0.frf b hb'
 have r2:Vals (vs++dvs) (us++ds):=r.append hd
 have hs:=h HC (fun q hq=>by obtain ⟨v,o,u,a,b,_,d,g⟩:=hc q hq;exact ⟨v,o,u,a,b,d,g⟩) hn
 have hl:(us++ds).length=ps.length:=by rw [← r2.length];exact F.len _ _ _ _ hs
 refine wpAny_call (codeAny_mono (F.run X.A X.stack s _ ⟨us,[]⟩ (us++ds) (vs++dvs) _ E0 hr e1 (hb s us I.kIn hl) r2 hs) fun rr s' hq=>?_)
 cases rr with
 |error e=>exact hq.elim
 |ok fl =>
  cases fl with
  |ret u =>
   obtain ⟨v,H',os,bare,un,hok,rv,he,q⟩:=hq
   have he':∀c∈cs.map (·.2),H' c=HC c:=fun c hm=>by obtain ⟨q,hq,rfl⟩:=hin c hm;exact he q hq
   exact I.after ⟨v,_,os,bare,Un.hide un hn' hc' he' hfs hok,HOk.hide hok (fun c hm=>by obtain ⟨o,e2,_⟩:=hc' c hm;exact ⟨o,(he' c hm).trans e2⟩),rv,q⟩
  |next=>exact False.elim hq
  |brk=>exact False.elim hq
  |cont=>exact False.elim hq
theorem cU (F:Def X.prog X.w X.K X.mg X.base k x ps dvs sp) (hr:Room k' X.A) (hg:Gl X x) (hcs:ZM X cs) (ha:PA X (e::es) t)
  (hk:k≤k':=by decide) (hdb:(x == ("__debug__":Str))=false:=by decide) (he:starEach (e::es) X.env=(false,eval e X.env)::starEach es X.env:=by rfl) (hpl:(backTo pos (starEach es X.env)).any (·.1)=false:=by rfl) :
  PE X (.Call (.Name x p) (e::es) [] pos) (nW cs sp dvs t):=by
 obtain ⟨f,fd,ds,G,m,kp,hv,b⟩:=F.ex
 intro pins s σ H Q I h
 refine wpAny_Call_Name_kw (ZI I hg m ?_ hdb)
 refine PySem.W.callWith_K (h₀:=X.base) I.ok.mod.kin kp (jG (ha pos pins s σ H _ I h) fun us s1 ⟨vs,H1,I1,r,q1,q2⟩=>⟨I1.kIn,?_⟩) he hpl
 exact mV G (hr.mono hk) b hv hcs I1 r q1 q2
end
section
variable {X:Cx} {pins:List (Addr×Obj)} {σ:List (Option V)} {H:Hp} {s:Shared}
theorem Inv.fnMade2 {P c:Addr} {ps more:Array Value} {h':Heap} {o oc:Obj} {t':Nat} (I:Inv X pins σ H s) (hP:H P=some (.tbl ps)) (hx:Heap.ExtBut P s.heap h') (hsz:s.heap.objs.size≤h'.objs.size) (hP':h'.get? P=some {cls:=.none,data:=.fields (ps++more)}) (hfr:o.isFreed=false)
  (hc1:s.heap.objs.size≤c) (hc2:h'.get? c=some oc) :
  Inv X pins σ (jB (jB (jB H P (.tbl (ps++more))) h'.objs.size (FnO h'.objs.size o)) c (FnO c oc)) {s with heap:=h'.push o,toks:=t'}:=by
 have J:=I.fnMade (o:=o) (t':=t') hP hx hsz hP' hfr
 have hcP:c≠P:=fun z=>by have:=(I.hok P _ hP).lt;exact absurd (Nat.lt_of_lt_of_le (z▸this) hc1) (Nat.lt_irrefl _)
 have hcf:c≠h'.objs.size:=fun z=>absurd (Heap.lt_size hc2) (by rw [z];exact Nat.lt_irrefl _)
 have hg:(h'.push o).get? c=some oc:=Heap.get?_push_of_some _ hc2
 have hHc:jB (jB H P (.tbl (ps++more))) h'.objs.size (FnO h'.objs.size o) c=none:=by
  rw [jD hcf,jD hcP];exact I.hok.fresh hc1
 have hns:∀b u,s.heap.get? b=some u→b≠c:=fun b u e z=>absurd (Nat.lt_of_lt_of_le (z▸Heap.lt_size e) hc1) (Nat.lt_irrefl _)
 have hks:∀b u,X.s₀.heap.get? b=some u→b≠c:=fun b u e z=>by
  have h1:=Heap.lt_size e
  have h2:=I.sz
  exact absurd (Nat.lt_of_lt_of_le (Nat.lt_of_lt_of_le (z▸h1) h2) hc1) (Nat.lt_irrefl _)
 refine ⟨J.ok,J.os,J.bare,?_,J.loc,J.cell,?_,fun y d e=>?_,fun p hp=>?_,fun b u e=>?_,J.len⟩
 ·obtain ⟨k1,k2,k3,k4,k5,k6,k7⟩:=J.base
  have ne:∀b v,H b=some v→b≠c:=fun b v e z=>absurd (Nat.lt_of_lt_of_le (z▸(I.hok b v e).lt) hc1) (Nat.lt_irrefl _)
  refine ⟨k1,k2,fun b ob e n hx'=>?_,k4,fun b xs e=>?_,fun b ob u e=>?_,fun b qs e=>?_⟩
  ·rw [jD (hks b ob e)];exact k3 b ob e n hx'
  ·rw [jD (ne b _ (I.base.tups b xs e))];exact k5 b xs e
  ·rw [jD (ne b _ (I.base.frzs b ob u e))];exact k6 b ob u e
  ·obtain ⟨more',e'⟩:=I.base.tbls b qs e
   rw [jD (ne b _ e')];exact k7 b qs e
 ·rw [jD fun z=>?_];exact J.free
  have:=I.lt
  exact absurd (Nat.lt_of_lt_of_le (z▸this) hc1) (Nat.lt_irrefl _)
 ·rw [jD fun z=>?_];exact J.freeC y d e
  obtain ⟨v,o',ho',_⟩:=I.cell y d e
  exact hns d o' ho' z
 ·obtain ⟨a1,a2,a3,a4,a5⟩:=J.pin p hp
  refine ⟨a1,?_,a3,a4,a5⟩
  rw [jD fun z=>?_];exact a2
  exact hns p.1 _ (I.pin p hp).1 z
 ·by_cases z:b=c
  ·subst z;rw [jL] at e;cases e;exact FnO.ok hg
  ·rw [jD z] at e
   refine (J.hok b u e).stay (fun _ _ _ q=>q) (fun d q=>?_) fun d xs q=>?_
   ·rw [jD fun z=>?_];exact q
    rw [z,hHc] at q;cases q
   ·rw [jD fun z=>?_];exact q
    rw [z,hHc] at q;cases q
def pA (i:Nat) (P:Addr) (pos:Pos) (qual:Str) (mk:Addr→Value→Value→Obj):TS:=fun D σ H=>∃ps,H P=some (.tbl ps)∧TriplesOk ps.toList∧codeAmong pos ps.toList=none∧
 ∀(f c':Addr) (ctv doc:Value) (oc:Obj),f≠P→c'≠P→c'≠f→H f=none→H c'=none→(∃vs t,oc.data=.fields vs∧vs[1]?=some (.str qual t))→
  D.nx (σ.set i (some (.ref f))) (jB (jB (jB H P (.tbl (ps++#[rawInt pos.line,rawInt pos.col,.ref c']))) f (FnO f (mk c' ctv doc))) c' (FnO c' oc))
theorem dU {i:Nat} {x qual:Str} {params:Arguments} {body:List Stmt} {scope:Scope} {pos:Pos} {c P:Addr} {clos:List (Str×Addr)} (hN:X.N.Nodup) (hi:X.N[i]?=some x) (hx:z8 X.env.scope x)
  (hf:X.fn x=true∨X.env.scope.names.lookup x=some .local) (hd:defaultsOf params X.env=([],[])) (ha:annTrees params none X.env=[]) (hcl:closureFor scope X.env=pure clos) (hge:X.env.globals=mainGlobals)
  (hcode:X.env.code=.ref c) (hC:PySem.W.CodeHd X.base c P) (hgP:mainGlobals≠P) (hb:X.base.BuiltinsAt X.mg P) (hq:qualnameIn X.env x x=qual) :
  PS X (.FunctionDef x params body [] none [] scope none x pos) (pA i P pos qual fun c' ctv doc=>PySem.W.fnMade x qual params body scope clos doc ((X.mg "__name__").getD .none) c' ctv):=by
 intro pins s σ H D I h
 obtain ⟨ps,hP,ht,hnf,q⟩:=h
 have hPs:s.heap.get? P=some (PySem.W.tabObj ps):=I.hok P _ hP
 rw [exec_def,hd,ha,hq]
 refine wpAny_bind (wpAny_standAt (wpAny_bind (wpAny_holding ?_)))
 refine wpAny_bind (wpAny_pure ?_)
 refine wpAny_bind (wpAny_holding (wpAny_pure ?_))
 refine wpAny_holding ?_
 refine wpAny_bind (wpAny_pure ?_)
 refine PySem.W.makeFunction_K (mg:=X.mg) hcl hge (I.mod.glob.keeps I.bk) hcode (hC.keeps I.bk) hPs ht hnf hgP (hb.keeps I.bk) fun c' ctv doc h' tk hx' hge' hlt hrec htb=>?_
 have hsz:s.heap.objs.size≤h'.objs.size:=Nat.le_trans hge' (Nat.le_of_lt hlt)
 obtain ⟨c'',oc,fs,t,e,hoc,hoc2⟩:=hrec
 cases e
 refine wpAny_bind (wpAny_standAt (wpAny_bind (wpAny_bindName ?_)))
 have J:=I.fnMade2 (o:=PySem.W.fnMade x qual params body scope clos doc ((X.mg "__name__").getD .none) c' ctv) (t':=tk) hP hx' hsz htb rfl hge' hoc
 have hPl:=Heap.lt_size hPs
 refine ZB J hN hi hx (v:=.ref h'.objs.size) rfl (fun s2 I2=>wpAny_pure ?_) hf
 exact ⟨_,_,I2,q _ c' ctv doc oc (fun z=>Nat.lt_irrefl _ (z▸Nat.lt_of_lt_of_le hPl hsz)) (fun z=>Nat.lt_irrefl _ (Nat.lt_of_lt_of_le (z▸hPl) hge')) (Nat.ne_of_lt hlt) (I.hok.fresh hsz) (I.hok.fresh hge') ⟨fs,t,hoc2⟩⟩
end
end L2
namespace L2
open PySem PySem.Spec PyProof.Rows
def ZU (T:Addr) (H:Hp):Prop:=H T=some (.tbl #[])∧∀b,b≠T→H b=none∨∃o xs,H b=some (.frz o (.lst xs))
theorem lB {prog:Program} {w:World} {K:PySem.W.Frag} {mg mb:Str→Option Value} {CX:kP} {k:Nat} {fa a c T:Addr} {fd:FuncData} {x:Str} {sp:Sp} {s₁:Shared} {vs:List Value} {ns:List Int}
  (KX:K.In s₁.heap) (hns:s₁.heap.Ns mainGlobals mg) (hb:s₁.heap.Ns builtinsNs mb) (hbb:∀x:Str,x≠"__name__"→mb x=bootBuiltins x) (hlim:s₁.heap.NoLimit) (hg:s₁.gens = #[])
  (ha:s₁.heap.get? a=some {cls:=.type "list",data:=.seq vs.toArray}) (hi:IntsAre vs ns) (hl:ns.length≤sizeLine) (hr:Room k callerA)
  (hC:PySem.W.CodeHd s₁.heap c T) (hT:s₁.heap.TableAt c T #[]) (hKT:PySem.W.noTabs K=true) (hB:s₁.heap.BuiltinsAt mg T)
  (F:∀base:Heap,K.In base→base.Ns mainGlobals mg→PySem.W.CodeHd base c T→base.BuiltinsAt mg T→mainGlobals≠T→FnOk prog w K mg base CX k fa fd [x] sp) (hbind:∀(s:Shared) (u:Value),BindsTo s fd ⟨[u],[]⟩ [(x,u)])
  (hsp:∀H:Hp,ZU T H→SqL K H a (ns.map V.int)→sp [.ref a] H (fun v _=>v=.bl true) fun _ _ _=>False)
  (hCX:∀H e s',CX [] H s₁ (fun _ _ _=>False) e s'→False) :
  codeAny (model prog w) callerA (.call (.ref fa) ⟨[.ref a],[]⟩) (fun r s'=>r=.ok (.ret (.bool true))∧OldK s₁.heap s'.heap∧s'.os=s₁.os∧AllBare s'.gens) s₁:=by
 have rv:=Q6 hi
 have lenV:=hi.length
 have hTo:=hT.2
 have hKT':K.lookup T=none:=by
  cases q:K.lookup T with
  |none=>rfl
  |some o =>
   have e:=KX T o q
   rw [hTo] at e;cases e
   have z:=List.all_eq_true.mp hKT _ (PySem.W.mem_of_lookupK q)
   exact absurd (show false=true from z) Bool.false_ne_true
 have haT:a≠T:=fun z=>by rw [z,hTo] at ha;cases ha
 have hgT:mainGlobals≠T:=fun z=>by
  obtain ⟨o,es,ep,e,d,_⟩:=hns
  rw [z,hTo] at e;cases e;cases d
 have core:∀H:Hp,ZU T H→SqL K H a (ns.map V.int)→HOk prog w H s₁.heap→(∀b,H b≠none→b=a∨b=T)→(H a≠none→K.lookup a=none)→
   codeAny (model prog w) callerA (.call (.ref fa) ⟨[.ref a],[]⟩) (fun r s'=>r=.ok (.ret (.bool true))∧OldK s₁.heap s'.heap∧s'.os=s₁.os∧AllBare s'.gens) s₁:=by
  intro H hO hS hok hA hK
  have free:∀{b:Addr} {o:Obj},s₁.heap.get? b=some o→o≠{cls:=.type "list",data:=.seq vs.toArray}→o≠{cls:=.none,data:=.fields #[]}→H b=none:=fun {b o} e n1 n2=>by
   cases q:H b with
   |none=>rfl
   |some u =>
    rcases hA b (by rw [q];simp) with z|z
    ·subst z;rw [ha] at e;cases e;exact absurd rfl n1
    ·subst z;rw [hTo] at e;cases e;exact absurd rfl n2
  have nsK:∀{b:Addr} {m:Str→Option Value},s₁.heap.Ns b m→(qK s₁.heap H).Ns b m:=fun {b m} ⟨o,es,ep,e,d,r⟩=>⟨o,es,ep,JJ e (free e (fun z=>by subst z;cases d) fun z=>by subst z;cases d),d,r⟩
  have hKb:K.In (qK s₁.heap H):=fun b o e=>JJ (KX b o e) (by
   cases q:H b with
   |none=>rfl
   |some u =>
    rcases hA b (by rw [q];simp) with z|z
    ·subst z;rw [hK (by rw [q];simp)] at e;cases e
    ·subst z;rw [hKT'] at e;cases e)
  have hCb:PySem.W.CodeHd (qK s₁.heap H) c T:=by
   obtain ⟨o,fs,file,tf,flags,tg,inF,text,tt,e1,e2,rest⟩:=hC
   exact ⟨o,fs,file,tf,flags,tg,inF,text,tt,JJ e1 (free e1 (fun z=>by subst z;injection e2 with z;exact absurd z (by decide)) fun z=>by subst z;cases e2),e2,rest⟩
  have hBb:(qK s₁.heap H).BuiltinsAt mg T:=by
   obtain ⟨bm,o,b1,b2,b3,b4,e1,e2,e3,e4⟩:=hB
   exact ⟨bm,o,b1,b2,b3,b4,JJ e1 (free e1 (fun z=>by subst z;injection e2 with z;exact absurd z (by decide)) fun z=>by subst z;cases e2),e2,e3,e4⟩
  have hM:Mod K mg (qK s₁.heap H):=⟨hKb,nsK hns,⟨mb,nsK hb,hbb⟩,let ⟨mc,h1,h2⟩:=hlim;⟨mc,nsK h1,h2⟩⟩
  have e0:Env0 prog w K mg (qK s₁.heap H) callerA [] s₁ H:=⟨rfl,hM,fun b o e=>dX e,Nat.le_of_eq (bW _ _),trivial,fun b hb=>absurd (show b∈([]:List Addr) from hb) (by simp),hok,.of_eq hg⟩
  refine codeAny_mono ((F _ hKb (nsK hns) hCb hBb hgT).run callerA [] s₁ H ⟨[.ref a],[]⟩ [.ref a] [.ref a] _ _ hr e0 (hbind s₁ (.ref a)) (.cons rfl .nil) (hsp H hO hS)) fun r s' h=>?_
  cases r with
  |error e=>exact (hCX H e s' h).elim
  |ok fl =>
   cases fl with
   |next=>exact False.elim h
   |brk=>exact False.elim h
   |cont=>exact False.elim h
   |ret u =>
    obtain ⟨v,H',os,bare,un,hok',r',q⟩:=h
    obtain rfl:v=.bl true:=q
    obtain rfl:u=Value.bool true:=r'
    have nofs:∀b:Addr,b∉j9 ([]:List Env):=fun b z=>absurd (show b∈([]:List Addr) from z) (by simp)
    refine ⟨rfl,⟨fun b o e=>?_,fun b o e=>un.there b o e (by simp)⟩,os,bare⟩
    by_cases z:b=T
    ·subst z
     rw [hTo] at e;cases e
     obtain ⟨more,e2⟩:=un.tbls b #[] hO.1
     exact .inr (.inl ⟨hT.isCodeTable,rfl,#[],more,rfl,hok' b _ e2⟩)
    ·refine .inl ?_
     rcases hO.2 b z with q|⟨ob,xs,q⟩
     ·exact un.keep b o e q (nofs b) (by simp)
     ·have z2:=un.frzs b ob _ q
      obtain ⟨e1,_⟩:=hok b _ q
      obtain ⟨e2,_⟩:=hok' b _ z2
      rw [e] at e1;cases e1
      exact e2
 cases hk:K.lookup a with
 |some o =>
  have e:=KX a o hk
  rw [ha] at e
  cases e
  refine core (fun b=>if b=T then some (.tbl #[]) else none) ⟨if_pos rfl,fun b n=>.inl (if_neg n)⟩ (.inr ⟨_,vs.toArray,_,hk,rfl,rfl,rfl,by rw [List.size_toArray,lenV];exact hl,by simpa using rv⟩) (fun b u z=>?_) (fun b z=>?_) fun z=>absurd (if_neg haT) z
  ·by_cases hb:b=T
   ·have z':=(if_pos hb).symm.trans z
    cases z';subst hb;exact hTo
   ·have z':=(if_neg hb).symm.trans z
    cases z'
  ·by_cases hb:b=T
   ·exact .inr hb
   ·exact absurd (if_neg hb) z
 |none =>
  refine core (fun b=>if b=T then some (.tbl #[]) else if b=a then some (.frz {cls:=.type "list",data:=.seq vs.toArray} (.lst (ns.map V.int))) else none) ⟨if_pos rfl,fun b n=>?_⟩ (.inl (.inr ⟨{cls:=.type "list",data:=.seq vs.toArray},(if_neg haT).trans (if_pos rfl)⟩)) (fun b u z=>?_) (fun b z=>?_) fun _=>hk
  ·by_cases hb:b=a
   ·exact .inr ⟨_,_,(if_neg n).trans (if_pos hb)⟩
   ·exact .inl ((if_neg n).trans (if_neg hb))
  ·by_cases hb:b=T
   ·have z':=(if_pos hb).symm.trans z
    cases z';subst hb;exact hTo
   ·have z1:=(if_neg hb).symm.trans z
    by_cases hb':b=a
    ·have z':=(if_pos hb').symm.trans z1
     cases z'
     subst hb'
     exact ⟨ha,by rw [List.length_map];exact hl,vs,_,rv,ha⟩
    ·have z':=(if_neg hb').symm.trans z1
     cases z'
  ·by_cases hb:b=T
   ·exact .inr hb
   ·by_cases hb':b=a
    ·exact .inl hb'
    ·exact absurd ((if_neg hb).trans (if_neg hb')) z
theorem walk_ofT {l:PySem.W.OpenLaw} {n k:Nat} {q:Program} {loose:List Str} {XP:(Str→Option Value)→Heap→Prop} {YP:World→Heap→Prop} {d:DefRec} {K:Params→PySem.W.Frag} {CX:World→kP} {sp:World→Addr→Sp} {x:Str} {c T:Addr}
  (hn:l.most=some n) (hn2:n≤sizeLine) (hdf:d.params.defaults=[]) (hr:Room k callerA) (hrec:(recsOf q).find? (fun e=>e.name == d.name)=some d) (htab:∀P:Params,PySem.W.tabIn (K P) d.name=some (c,T)) (hno:∀P:Params,PySem.W.noTabs (K P)=true)
  (hY:∀(w:World) (h:Heap),YP w h→(K w.params).In h)
  (F:∀(w:World) (mg:Str→Option Value) (fa:Addr) (h:Heap),(K w.params).In h→h.Ns mainGlobals mg→mg d.name=some (.ref fa)→
   ∃fd:FuncData,(∀(s:Shared) (u:Value),BindsTo s fd ⟨[u],[]⟩ [(x,u)])∧
    ∀base:Heap,(K w.params).In base→base.Ns mainGlobals mg→PySem.W.CodeHd base c T→base.BuiltinsAt mg T→mainGlobals≠T→FnOk l.prog w (K w.params) mg base (CX w) k fa fd [x] (sp w T))
  (hsp:∀(w:World) (H:Hp) (a:Addr) (ns:List Int),ns.length≤n→ZU T H→SqL (K w.params) H a (ns.map V.int)→sp w T [.ref a] H (fun v _=>v=.bl true) fun _ _ _=>False)
  (hCX:∀(w:World) (H:Hp) (s:Shared) (e:Value) (s':Shared),CX w [] H s (fun _ _ _=>False) e s'→False) :
  PySem.W.WalkO q loose XP YP l.row.toRowW d [] (fun f vs=>PySem.call f vs):=by
 refine Att.attach_call hn hdf fun w s₀ s₁ mg mb fa o pm cd doc a vs ns G Y ho hd hcd hmg hobj hints hlen hg=>?_
 have KX:=hY w _ Y
 obtain ⟨fd,hb,hF⟩:=F w mg fa _ KX G.T.g hmg
 obtain ⟨hC,hTo⟩:=PySem.W.tab_of G.T KX hrec (htab w.params)
 have hT:s₁.heap.TableAt c T #[]:=by
  obtain ⟨o,fs,file,tf,flags,tg,inF,text,tt,e1,e2,e3,e4,_⟩:=hC
  exact ⟨⟨o,fs,e1,e2,e3,e4⟩,hTo⟩
 have hB:s₁.heap.BuiltinsAt mg T:=by
  obtain ⟨bm,ob,b1,b2,b3,b4,b5,b6⟩:=G.T.bmain
  refine ⟨bm,ob,b1,b2,fun z=>?_,fun z=>?_,b3,b4,b5,b6⟩
  ·obtain ⟨o,es,ep,e,hd,_⟩:=G.T.g
   rw [z,e] at b3;cases b3;rw [hd] at b6;cases b6
  ·rw [z,hTo] at b3;cases b3;cases b4
 exact lB KX G.T.g G.T.b G.T.builtins G.T.nolimit hg hobj hints (Nat.le_trans hlen hn2) hr hC hT (hno w.params) hB hF hb (fun H hO hS=>hsp w H a ns hlen hO hS) fun H e s'=>hCX w H s₁ e s'
end L2
namespace L2
open PySem PySem.Spec PyProof.Rows
def fD (s:Stmt) (j:Nat):Stmt:=(jT s).getD j (.Pass ⟨0,0,0,0⟩)
theorem eI {sc:Scope} {fr:List Str} (h:∀y∈sc.names,y.2=.free→y.1∈fr):∀x,sc.names.lookup x=some .free→x∈fr:=fun x e=>h _ (PySem.mem_of_lookup e) rfl
theorem qW {A:Around} {k:Nat} (hr:Room k A):A.units+9<cLine:=by have:=hr.units;omega
theorem qU {A:Around} {k:Nat} (hr:Room k A):A.units+10<cLine:=by have:=hr.units;omega
theorem zV {H:Hp} {cs:List Addr} (hc:z6 H cs):∀a l,H a=some (.tup l)→kK H cs a=some (.tup l):=fun a l e=>by
 rw [j8];exact e
 intro hin;obtain ⟨o,e2⟩:=hc a hin;rw [e] at e2;cases e2
theorem nO {H:Hp} {cs:List Addr} {p:Addr} {o:HO} (hp:p∉cs):kI (jB (kK H cs) p o) H cs=jB H p o:=by
 funext b
 by_cases hb:b∈cs
 ·have:b≠p:=fun z=>hp (z▸hb)
  rw [vY hb,jD this]
 ·rw [kL hb]
  by_cases z:b=p
  ·subst z;rw [jL,jL]
  ·rw [jD z,jD z,j8 hb]
theorem d6 {H:Hp} {cs:List Addr}:kI (kK H cs) H cs=H:=by
 funext b
 by_cases hb:b∈cs
 ·rw [vY hb]
 ·rw [kL hb,j8 hb]
section
variable {P:Program} {w:World} {K:PySem.W.Frag} {mg:Str→Option Value} {base:Heap}
theorem Fun.okC {x qual:Str} {st:Stmt} {f cL:Addr} {fd:FuncData} {N ps:List Str} {k:Nat} {sp:Sp} (F:Fun K x qual st f fd) (hcL:fd.code=.ref cL) (S:FnScope N ps (jH st)) (len:∀vs H Q E,sp vs H Q E→vs.length=ps.length)
  (hbody:∀(A:Around) (outer:List Env) (s:Shared) (H:Hp) (vs:List V) (Q:VK) (E:XK),Room k (A.deeper (envOfC qual (jH st) s.heap.objs.size f (.ref cL)))→sp vs H Q E→
   ∃t,PSs (qL jZ P w K mg base N qual (jH st) f (.ref cL) A outer s H E).nox (jT st) t∧t {nx:=fun _ H'=>Q .non H',rt:=Q} (kX N vs) H):FnOk P w K mg base jZ (k+1) f fd ps sp:=by
 obtain ⟨oc,od,kV,doc,pm,an,cdv,ct,osl,rfl,lk,hcd⟩:=F.ex
 obtain rfl:cdv=.ref cL:=hcL
 refine QM lk hcd S len fun A outer s H vs Q E hr hsp=>?_
 obtain ⟨t,h,q⟩:=hbody A outer s H vs Q E hr hsp
 exact ⟨t,h.nox,q⟩
end
end L2
namespace L2
open PySem PySem.Spec PyProof.Rows
section
variable {prog:Program} {w:World} {A:Around} {E:Value→Shared→Prop} {s:Shared} {d:Addr} {xs:List jY} {k:GK} {key v:Value}
theorem i7 {Q:Value→Shared→Prop} (hu:A.units+9<cLine) (hkey:(GR s.heap k).1 key) (hk8:gd k≤8) (hd:(d == sysModules)=false) (hm:DictG w s.heap d xs) (q:∀n,Q (.bool (!(qG xs k).isSome)) {s with toks:=n}) :
  wpAny (model prog w) A (compareOp .NotIn key (.ref d)) Q E s:=by
 have T:=hm.typeIs
 show wpAny _ A (do return .bool (!(← contains (.ref d) key))) Q E s
 refine wpAny_bind ?_
 unfold contains
 refine wpAny_holding (wpAny_bind (wpAny_specialOf T slot_dict_contains.lookup ?_))
 show wpAny _ A (if (some (Value.builtin "dict.__contains__") == some Value.none)=true then _ else _) _ E s
 rw [if_neg (by rw [beq_builtin_none];decide)]
 refine wpAny_bind (wpAny_callSpecialUnlessNone?_slot (name:=Str.ofString "__contains__") T slot_dict_contains (wpAny_call_entry slot_dict_contains T entry_dict_contains ?_ (args_dict_contains _ _)))
 show wpAny _ A.in1 (dictGet d key >>= _) _ E s
 refine wpAny_bind (ZJ (by simp only [Around.in1_units];omega) hkey hk8 hm fun n=>?_)
 have q':=q n
 cases hg:qG xs k with
 |some u =>
  rw [hg] at q'
  show wpAny _ A.in1 (ret (.bool true)) _ E _
  exact wpAny_pure ⟨_,rfl,wpAny_truthy_bool (wpAny_pure q')⟩
 |none =>
  rw [hg] at q'
  show wpAny _ A.in1 (Builtin.Dict.pendingKey? d key >>= _) _ E _
  exact wpAny_bind (wpAny_pendingKey_other hd (wpAny_pure ⟨_,rfl,wpAny_truthy_bool (wpAny_pure q')⟩))
theorem iG (d:Addr) (hd:(d == sysModules)=false) :
  MeetsIn prog w (Builtin.«dict.__len__» ⟨[.ref d],[]⟩) (fun _ R s=>∃xs,DictG w s.heap d xs∧R (.ok (.ret (.int xs.length s.toks))) {s with toks:=s.toks+1}) :=
 .of_wp fun A R s ⟨xs,hm,h⟩=>by
  obtain ⟨o,es,ep,ho,hc,hdat,he⟩:=hm
  show wpAny _ _ (dictSize d >>= _) _ _ s
  unfold dictSize
  refine wpAny_bind (wpAny_bind (wpAny_dictEntries ho hdat (wpAny_pure ?_)))
  show wpAny _ _ (Builtin.Dict.pendingCount d >>= _) _ _ s
  refine wpAny_bind (wpAny_pendingCount_other hd ?_)
  refine wpAny_ret_mkInt ?_
  have:es.size=xs.length:=by rw [← Array.length_toList,he.es,List.length_map]
  rw [Nat.add_zero,this];exact h
theorem pJ {Q:Value→Shared→Prop} (hd:(d == sysModules)=false) (hm:DictG w s.heap d xs) (hfit:(xs.length:Int)<2 ^ 63)
  (h:Q (.int xs.length (s.toks+1)) {s with toks:=s.toks+1+1}):wpAny (model prog w) A (call (.builtin "len") [.ref d]) Q E s:=by
 refine Calls.call_function_entry kind_len plain_len entry_len (args_len1 _) ?_
 unfold Builtin.«len»
 refine wpAny_bind (m:=oneArg "len" _) (wpAny_pure ?_)
 refine wpAny_bind (m:=callSpecial? (.ref d) (Str.ofString "__len__")) (wpAny_callSpecial?_slot (name:=Str.ofString "__len__") hm.typeIs PySem.F.slot_dict_len
  (call_meetsIn PySem.F.slot_dict_len hm.typeIs PySem.F.entry_dict_len (PySem.F.args_dict_len_1 _) (iG d hd) ⟨xs,hm,?_⟩))
 show wpAny _ _ _ _ _ {s with toks:=s.toks+1}
 refine wpAny_bind (wpAny_holding (wpAny_pure ?_))
 refine wpAny_bind (wpAny_letGo ?_)
 show wpAny _ _ (if ((xs.length:Nat):Int)<0 then _ else _) _ _ _
 rw [if_neg (by omega)]
 show wpAny _ _ (if ((xs.length:Nat):Int)≥2 ^ 63 then _ else _) _ _ _
 rw [if_neg (by omega)]
 exact wpAny_bind (wpAny_mkInt (wpAny_pure ⟨_,rfl,h⟩))
end
section
variable {X:Cx} {pins:List (Addr×Obj)} {σ:St} {H:Hp} {s:Shared} {d:Addr} {k:GK} {y v:V} {u r:Value} {A:Around} {E:Value→Shared→Prop} {kvs:List jQ}
theorem pQ {Q:Unit→Shared→Prop} (hu:A.units+8<cLine) (I:Inv X pins σ H s) (e:H d=some (GO X.w d kvs)) (g:GOk H kvs) (hy:(GV H k).1 y) (h8:gd k≤8) (hl:kvs.length<sizeLine) (ry:RelV y u) (rv:RelV v r)
  (h:∀s',Inv X pins σ (jB H d (GO X.w d (kJ kvs k y v))) s'→Q () s'):wpAny (model X.prog X.w) A (dictSet d u r) Q E s:=by
 obtain ⟨_,hm,xs,rel,dd⟩:=I.gdict (.of e) g
 refine dR hu ((GV.rel I.hok k).1 y u hy ry) h8 dd (by rw [← Paired.length rel];omega) fun n h' dd' sb=>h _ ?_
 obtain ⟨o,es,ep,ho,hc,hd,he,_⟩:=dd'
 refine d4 I (by rw [e];exact True.intro) sb ⟨o,ho⟩ ⟨⟨by have:=J9 kvs k y v;omega,hm,_,RelG.set ry rv rel,o,es,ep,ho,hc,hd,he⟩,⟨o,ho⟩,?_⟩
 rintro h1 h2 ⟨a1,a2,xs',a3,o',es',ep',a4,a5⟩ kp
 exact ⟨a1,a2,xs',a3,o',es',ep',kp _ a4,a5⟩
end
def mQ (w:World) (ty td:TE):TE:=fun σ H Q=>ty σ H fun y H1=>td σ H1 fun x H2=>∃(d:Addr) (kvs:List jQ) (k:GK),x=.ref d∧Rd H2 d (GO w d kvs)∧GOk H2 kvs∧(GV H2 k).1 y∧gd k≤8∧Q (.bl (!(jN kvs k).isSome)) H2
def nU (w:World) (tk tv:TE):TE:=fun σ H Q=>∀p,H p=none→tk σ (jB H p (GO w p [])) fun y H1=>tv σ H1 fun v H2=>H2 p=some (GO w p [])∧∃k,(GV H2 k).1 y∧gd k≤8∧Q (.ref p) (jB H2 p (GO w p [(k,y,v)]))
section
variable {X:Cx} {o i e value:Expr} {pos pos':Pos} {td ty tv:TE}
theorem bR (hu:X.A.units+9<cLine) (hi:PE X i ty) (ho:PE X o td):PC X .NotIn i o (mQ X.w ty td):=by
 intro pins s σ H Q I h
 refine jG (hi pins s σ H _ I h) fun iv s1 ⟨y,H1,I1,ry,q1⟩=>jG (ho pins s1 σ H1 _ I1 q1) fun u s2 ⟨x,H2,I2,rx,d,kvs,k,ex,hd,g,hy,h8,q2⟩=>?_
 subst ex
 obtain rfl:u=Value.ref d:=rx
 obtain ⟨_,hm,xs,rel,dd⟩:=I2.gdict hd g
 exact i7 hu ((GV.rel I2.hok k).1 y iv hy ry) h8 hm dd fun n=>⟨.bl (!(jN kvs k).isSome),H2,I2.tok n,by rw [RelG.none rel];rfl,q2⟩
theorem iW:CallR X (.builtin "len") (fun xs H Q=>∃p kvs,xs=[.ref p]∧Rd H p (GO X.w p kvs)∧GOk H kvs∧Q (.int kvs.length) H):=by
 intro pins s σ H xs us Q I r h
 obtain ⟨p,kvs,rfl,hd,g,q⟩:=h
 obtain ⟨u,rfl,rx⟩:=JO r
 cases rx
 obtain ⟨hz,hm,xs,rel,dd⟩:=I.gdict hd g
 have hl:=Paired.length rel
 have hn:=zY
 exact pJ hm dd (by omega) ⟨.int kvs.length,H,I.tok _,⟨s.toks+1,by rw [hl]⟩,q⟩
theorem lW {a b:Expr} {tk tv:TE} (hu:X.A.units+9<cLine) (hk:PE X a tk) (hv:PE X b tv):PE X (.Dict [some a] [b] pos) (nU X.w tk tv):=by
 intro pins s σ H Q I h
 have hn:=I.hok.fresh (Nat.le_refl s.heap.objs.size)
 have I1:=I.laid (a:=s.heap.objs.size) (o:=GO X.w s.heap.objs.size []) (h':=s.heap.push {cls:=.type "dict",data:=.dict #[]}) (t':=s.toks) (fun _ _ q=>Heap.get?_push_of_some _ q) (Nat.le_refl _)
  ⟨⟨Nat.zero_le _,beq_eq_false_iff_ne.mpr (Ne.symm (Nat.ne_of_lt I.big)),[],.nil,_,#[],0,Heap.get?_push_size _ rfl,⟨rfl,rfl,rfl⟩,rfl,rfl⟩,⟨_,Heap.get?_push_size _ rfl⟩,
   fun h1 h2 ⟨a1,a2,xs',a3,o',es',ep',a4,a5⟩ kp=>⟨a1,a2,xs',a3,o',es',ep',kp _ a4,a5⟩⟩
 refine wpAny_Dict_any rfl rfl (List.cons_ne_nil _ _) (show 1≤15 by decide) (jG (lT (pos:=pos) hk hv m4 pins _ σ _ (fun ps H2=>match ps with|[(y,v)]=>H2 s.heap.objs.size=some (GO X.w s.heap.objs.size [])∧∃k,(GV H2 k).1 y∧gd k≤8∧Q (.ref s.heap.objs.size) (jB H2 s.heap.objs.size (GO X.w s.heap.objs.size [(k,y,v)]))|_=>False) I1 ?_) fun ws s2 ⟨ps,H2,I2,rel,hq⟩=>?_)
 ·have h1:=h _ hn
  exact h1
 match ps,rel,hq with
 |[(y,v)],.cons (b:=b) r .nil,⟨e,k,hy,h8,q2⟩ =>
  show wpAny _ _ (storeAll s.heap.objs.size [b]) _ _ _
  unfold storeAll
  simp only [List.forIn_cons,List.forIn_nil]
  refine wpAny_bind (wpAny_bind (pQ (by omega) I2 e GOk.nil hy h8 (by rw [sizeLine_eq];decide) r.1 r.2 fun s3 I3=>wpAny_pure ?_))
  exact wpAny_pure ⟨.ref s.heap.objs.size,_,I3,rfl,q2⟩
end
section
variable {X:Cx} {o i:Expr} {pos:Pos} {td ty:TE}
theorem ZC (w:World) (hu:X.A.units+9<cLine) (ho:PE X o td) (hi:PE X i ty) (hs:ZX i) (hw:X.w=w:=by rfl):PE X (.Subscript o i pos) (eV w td ty):=by subst hw;exact vG hu ho hi hs
end
def rH (K:PySem.W.Frag) (neg:Bool):R2:=fun x y H Q=>∃(p:Addr) (xs:List V) (k:GK) (ks:List GK),y=.ref p∧SqL K H p xs∧(GV H k).1 x∧gd k≤8∧(xs.length=ks.length∧∀(i:Nat) z,xs[i]?=some z→∃k',ks[i]?=some k'∧(GV H k').1 z∧gd k'≤8)∧Q (.bl (if neg then !decide (k∈ks) else decide (k∈ks))) H
section
variable {X:Cx} {pins:List (Addr×Obj)} {σ:St} {H:Hp} {s:Shared}
open Classical in
theorem mL {k:GK} {xs:List V} {ks:List GK} {its:List Value} (I:Inv X pins σ H s) (r:Vals xs its) (hk:xs.length=ks.length∧∀(i:Nat) z,xs[i]?=some z→∃k',ks[i]?=some k'∧(GV H k').1 z∧gd k'≤8) :
  its.any (fun y=>decide ((GR s.heap k).1 y))=decide (k∈ks):=by
 have hl:=r.length
 rw [Bool.eq_iff_iff]
 simp only [List.any_eq_true,decide_eq_true_eq]
 constructor
 ·rintro ⟨w,hw,he⟩
  obtain ⟨i,hi⟩:=List.mem_iff_getElem?.mp hw
  have hlt:i<xs.length:=by rw [hl];exact (List.getElem?_eq_some_iff.mp hi).1
  obtain ⟨k',e1,e2,_⟩:=hk.2 i _ (List.getElem?_eq_getElem hlt)
  obtain ⟨u,hu,rv⟩:=r.get (List.getElem?_eq_getElem hlt)
  rw [hi] at hu;cases hu
  rw [← (GR.inj k' k).1 w ((GV.rel I.hok k').1 _ _ e2 rv) he]
  exact List.mem_of_getElem? e1
 ·intro hm
  obtain ⟨i,hi⟩:=List.mem_iff_getElem?.mp hm
  have hlt:i<xs.length:=by rw [hk.1];exact (List.getElem?_eq_some_iff.mp hi).1
  obtain ⟨k',e1,e2,_⟩:=hk.2 i _ (List.getElem?_eq_getElem hlt)
  rw [hi] at e1;cases e1
  obtain ⟨u,hu,rv⟩:=r.get (List.getElem?_eq_getElem hlt)
  exact ⟨u,List.mem_of_getElem? hu,(GV.rel I.hok k).1 _ _ e2 rv⟩
open Classical in
theorem dY {k:GK} {x:V} {v:Value} {xs:List V} {ks:List GK} {its:List Value} {A:Around} (hu:A.units+9<cLine) (I:Inv X pins σ H s) (r:Vals xs its) (hx:(GV H k).1 x) (rx:RelV x v) (hk:xs.length=ks.length∧∀(i:Nat) z,xs[i]?=some z→∃k',ks[i]?=some k'∧(GV H k').1 z∧gd k'≤8) :
  ∀y,y∈its.toArray→SeqAt.EqAt A s y v (decide ((GR s.heap k).1 y)):=by
 intro y hy
 have hl:=r.length
 obtain ⟨i,hi⟩:=List.mem_iff_getElem?.mp (by simpa using hy:y∈its)
 have hlt:i<xs.length:=by rw [hl];exact (List.getElem?_eq_some_iff.mp hi).1
 obtain ⟨k',e1,e2,e3⟩:=hk.2 i _ (List.getElem?_eq_getElem hlt)
 obtain ⟨u,hu',rv⟩:=r.get (List.getElem?_eq_getElem hlt)
 rw [hi] at hu';cases hu'
 have g1:=(GV.rel I.hok k').1 _ _ e2 rv
 have g2:=(GV.rel I.hok k).1 _ _ hx rx
 have:=(JN k' k).1 A _ _ g1 g2 (by omega)
 have e:decide ((GR s.heap k).1 y)=decide (k'=k):=by
  by_cases h:k'=k
  ·subst h;simp [g1]
  ·have:¬(GR s.heap k).1 y:=fun z=>h ((GR.inj k' k).1 y g1 z)
   simp [h,this]
 rw [e]
 exact this
open Classical in
theorem bT (hu:X.A.units+10<cLine):OpR X (compareOp .NotIn) (rH X.K true):=by
 intro pins s σ H x y v u Q I rx ry h
 obtain ⟨p,xs,k,ks,rfl,hq,hx,h8,hk,q⟩:=h
 cases ry
 obtain ⟨its,r,pl,hz⟩:=I.list hq
 refine SeqAt.notIn_listAt (fun y=>decide ((GR s.heap k).1 y)) pl.isList (dY (by simp only [Around.in1_units];omega) I r hx rx hk) ⟨.bl _,H,I,rfl,?_⟩
 rw [show its.toArray.any (fun y=>decide ((GR s.heap k).1 y))=its.any (fun y=>decide ((GR s.heap k).1 y)) by simp,mL I r hk]
 exact q
end
end L2
namespace L2
open PySem PySem.Spec PyProof.Rows
theorem i8:typeLookup (.type "list_reverseiterator") "__len__"=pure none:=by rw [typeLookup_type,builtinLookup_eq_fast];kernel_rfl
theorem mE:typeLookup (.type "list_reverseiterator") "__length_hint__"=pure (some (.builtin "list_reverseiterator.__length_hint__")):=by rw [typeLookup_type,builtinLookup_eq_fast];kernel_rfl
section
variable {prog:Program} {w:World} {A:Around} {s:Shared} {E:Value→Shared→Prop}
theorem iN {R:Result→Shared→Prop} (hh:A.handled=none) {I l S:Addr} {items:Array Value} (hne:l≠I) (hSI:S≠I) (hSl:S≠l) (hn:items.size≤sizeLine) (res:Value) (c₀:Nat) (hit:s.heap.IsRevIter I l ((items.size:Int) - 1)) (hl:s.heap.IsList l items)
  (hS:s.heap.get? S=some {cls:=.type "list",data:=.seq #[] c₀})
  (q:∀s' acc' c',Moved [S,I] (fun a b=>b=a) s s'→s'.heap.get? S=some {cls:=.type "list",dict:=none,data:=.seq acc' c',slots := #[]}→ItemsOf (fun i v=>items[items.size - 1 - i]?=some v) acc' items.size→R (.ok (.ret res)) s') :
  wpAny (model prog w) A.in1 (Builtin.List.listExtendWith (.ref S) (.ref I) res)
   (fun fin s'=>match fin with|.done f=>R (.ok f) s'|.again c'=>c'.quiet=true∧codeAny (model prog w) A c' R s') (fun e s'=>R (.error e) s') s:=by
 have W:=(Walks.listRev (prog:=prog) (w:=w) (A:=A.in1) (by simp [hh]) I l hne items).toS
 have hT:s.TypeIs (.ref I) "list_reverseiterator":=hit.typeIs
 have h1:Builtin.List.listSameRef (.ref S) (.ref I)=false:=by simp [Builtin.List.listSameRef,hSI]
 have e:(items.size:Int) - 1 - ((0:Nat):Int)=(items.size:Int) - 1:=by omega
 have hst:0≤items.size∧s.heap.IsRevIter I l ((items.size:Int) - 1 - ((0:Nat):Int))∧s.heap.IsList l items:=⟨Nat.zero_le _,by rw [e];exact hit,hl⟩
 unfold Builtin.List.listExtendWith
 refine wpAny_bind (wpAny_typeOf hT ?_)
 rw [if_neg (by rw [h1];decide)]
 refine wpAny_bind (W.self 0 _ _ _ hst ?_)
 refine wpAny_bind (wpAny_holding ?_)
 unfold Builtin.List.listLengthHint
 refine wpAny_bind (wpAny_specialOf hT i8 ?_)
 show wpAny _ A.in1 (specialOf (Value.ref I) (Str.ofString "__length_hint__") >>= _) _ _ _
 refine wpAny_bind (wpAny_specialOf hT mE ?_)
 (generalize hid:("list_reverseiterator.__length_hint__":String)=id0;(fail_if_success (clear hid id0));wp_delta;rw [show splitId id0=some ("list_reverseiterator","__length_hint__") from by subst hid;decide +kernel];subst hid)
 refine wpAny_bind (wpAny_isInstance (b:=true) hT (by rw [isSubtype_type];kernel_rfl) ?_)
 refine wpAny_pure ?_
 rw [if_neg (by decide)]
 refine wpAny_pure ⟨plainId_quiet F.plain_extend_loop _,codeAny_extend_loopS W hn S (by simp [hSI,hSl]) res items.size 0 _ #[] c₀ rfl (Nat.zero_le _) hst hS (ItemsOf.nil _) fun s' acc' c' hm hS' hacc=>q s' acc' c' hm hS' hacc⟩
theorem iA {Q:Value→Shared→Prop} (hh:A.handled=none) {I l:Addr} {items:Array Value} (hne:l≠I) (hn:items.size≤sizeLine) (hit:s.heap.IsRevIter I l ((items.size:Int) - 1)) (hl:s.heap.IsList l items)
  (q:∀s' acc' c',Moved [s.heap.objs.size,I] (fun a b=>b=a) s s'→s'.heap.get? s.heap.objs.size=some {cls:=.type "list",dict:=none,data:=.seq acc' c',slots := #[]}→ItemsOf (fun i v=>items[items.size - 1 - i]?=some v) acc' items.size→Q (.ref s.heap.objs.size) s') :
  wpAny (model prog w) A (call (.type "list") [.ref I]) Q E s:=by
 have lI:I<s.heap.objs.size:=by obtain ⟨o,ho,_⟩:=hit;exact Heap.lt_size ho
 have ll:l<s.heap.objs.size:=by obtain ⟨o,ho,_⟩:=hl;exact Heap.lt_size ho
 refine callType_codes (Q₁:=fun obj s₁=>obj=.ref s.heap.objs.size∧s₁={s with heap:=s.heap.push {cls:=.type "list",data:=.seq #[]}}) F.called_list (F.typeCall_list_1 _) F.entry_list_init (code_list_new _ ⟨rfl,rfl⟩) fun obj s₁ e₁=>?_
 obtain ⟨rfl,rfl⟩:=e₁
 have g1:(s.heap.push {cls:=.type "list",data:=.seq #[]}).get? s.heap.objs.size=some {cls:=.type "list",data:=.seq #[]}:=Heap.get?_push_size _ rfl
 have kp0:∀d o,s.heap.get? d=some o→(s.heap.push {cls:=.type "list",data:=.seq #[]}).get? d=some o:=fun d o e=>Heap.get?_push_of_some _ e
 refine ⟨⟨_,g1,rfl⟩,F.args_list_init_2 _ _,?_⟩
 show wpAny _ _ (do let old ← Builtin.List.listItems (.ref s.heap.objs.size);Builtin.List.listUpdate (.ref s.heap.objs.size) (fun _ => #[]);letGo old.toList.reverse;Builtin.List.listExtendWith (.ref s.heap.objs.size) (.ref I) .none) _ _ _
 refine wpAny_bind ?_
 unfold Builtin.List.listItems
 refine wpAny_bind (wpAny_seqItems g1 rfl (wpAny_pure ?_))
 show wpAny _ _ (updateSeq s.heap.objs.size (fun _ => #[]) >>= fun _=>letGo (#[]:Array Value).toList.reverse >>= fun _=>Builtin.List.listExtendWith (.ref s.heap.objs.size) (.ref I) .none) _ _ _
 refine wpAny_bind (wpAny_updateSeq g1 rfl ?_)
 have g2:=Heap.get?_update_self (Obj.mapSeq (fun _=>(#[]:Array Value))) g1 rfl
 have kq:∀d o,d≠s.heap.objs.size→s.heap.get? d=some o→((s.heap.push {cls:=.type "list",data:=.seq #[]}).update s.heap.objs.size (Obj.mapSeq (fun _=>(#[]:Array Value)))).get? d=some o:=fun d o hd e=>(Heap.get?_update_other _ _ (Ne.symm hd)).trans (kp0 d o e)
 refine wpAny_bind (wpAny_letGo ?_)
 refine iN (A:=A.in1) (by simp [hh]) hne (Nat.ne_of_gt lI) (Nat.ne_of_gt ll) hn .none _ (hit.at fun o e=>kq _ o (Nat.ne_of_lt lI) e) (hl.at fun o e=>kq _ o (Nat.ne_of_lt ll) e) g2 fun s' acc' c' hm hS' hp=>⟨rfl,q s' acc' c' ⟨fun b o hb e=>hm.heap b o hb (kq b o (fun z=>hb (by rw [z];simp)) e),hm.gens,hm.drawn,hm.os,hm.toks⟩ hS' hp⟩
end
section
variable {X:Cx}
def lP (K:PySem.W.Frag) (ta:TA):TE:=fun σ H Q=>ta σ H fun vs H1=>∃(a:Addr) (xs:List V),vs=[.ref a]∧SqL K H1 a xs∧∀l,H1 l=none→Q (.ref l) (jB H1 l (.lst xs.reverse))
theorem iC:bootBuiltins "reversed"=some (.type "reversed"):=by kernel_rfl
theorem iP {a:Expr} {ta:TA} {p p1 pos pos1:Pos} (hc:X.calm=true) (hgl:Gl X "list") (hml:X.mg "list"=none) (hg:Gl X "reversed") (hm:X.mg "reversed"=none) (ha:PA X [a] ta) (hs:starEach [a] X.env=[(false,eval a X.env)]:=by rfl)
  (hs3:starEach [.Call (.Name "reversed" p1) [a] [] pos1] X.env=[(false,eval (.Call (.Name "reversed" p1) [a] [] pos1) X.env)]:=by rfl) :
  PE X (.Call (.Name "list" p) [.Call (.Name "reversed" p1) [a] [] pos1] [] pos) (lP X.K ta):=by
 intro pins s σ H Q I h
 refine wpAny_Call_Name_kw (zZ I hgl hml PyProof.Rows.boot_list ?_)
 refine PyProof.Rows.callWith_type1 ?_ hs3 rfl
 rw [hs3]
 show wpAny _ _ (spliced [(false,eval (.Call (.Name "reversed" p1) [a] [] pos1) X.env)]) _ _ s
 refine Calls.spliced_cons ?_
 refine Call_ (zZ I hg hm iC (PyProof.Rows.callWith_type1 (jG (ha pos1 pins s σ H _ I h) fun us s1 ⟨vs,H1,I1,r1,q1⟩=>?_) (by rw [hs];rfl) rfl))
 obtain ⟨a1,xs,e,hq1,q⟩:=q1
 subst e
 obtain ⟨u,rfl,rx⟩:=JO r1
 cases rx
 obtain ⟨its,rv,pl,z1⟩:=I1.list hq1
 have hlen:=rv.length
 have lt1:a1<s1.heap.objs.size:=by obtain ⟨o,e,_⟩:=pl.isList;exact Heap.lt_size e
 refine call_reversed_list pl.isList ?_
 refine Calls.spliced_nil ?_
 refine iA (items:=its.toArray) (I.ok.hd hc) (Nat.ne_of_lt lt1) (by rw [List.size_toArray];omega) ⟨_,Heap.get?_push_size _ rfl,rfl,rfl⟩ (pl.isList.at fun o e=>Heap.get?_push_of_some _ e) fun s' acc c hmv hS hit=>?_
 have e8:s'={s1 with heap:=s'.heap,toks:=s'.toks}:=by
  have hg:=hmv.gens
  have hd:=hmv.drawn
  have ho:=hmv.os
  cases s'
  cases s1
  simp only at hg hd ho
  subst hg hd ho
  rfl
 have ea:acc.toList=its.reverse:=by
  refine List.ext_getElem? fun j=>?_
  have hsz:acc.size=its.length:=by rw [hit.1,List.size_toArray]
  by_cases hj:j<its.length
  ·have hja:j<acc.size:=by rw [hsz];exact hj
   have h1:=hit.2 j _ (Array.getElem?_eq_getElem hja)
   rw [List.size_toArray] at h1
   rw [List.getElem?_reverse hj,Array.getElem?_toList,Array.getElem?_eq_getElem hja,← h1]
   simp
  ·rw [List.getElem?_eq_none (by rw [Array.length_toList,hsz];omega),List.getElem?_eq_none (by rw [List.length_reverse];omega)]
 have kp:∀b u,s1.heap.get? b=some u→s'.heap.get? b=some u:=fun b u e=>by
  refine hmv.heap b u (fun hb=>?_) (Heap.get?_push_of_some _ e)
  have:=Heap.lt_size e
  simp only [List.mem_cons,List.mem_nil_iff,or_false,Heap.size_push] at hb
  rcases hb with rfl|rfl
  ·exact absurd this (by simp only [Addr] at *;omega)
  ·exact absurd this (Nat.lt_irrefl _)
 rw [e8]
 have hle:s1.heap.objs.size≤(s1.heap.push (revObj a1 ((its.toArray.size:Int) - 1))).objs.size:=by rw [Heap.size_push];exact Nat.le_succ _
 refine ⟨.ref _,_,I1.laid (o:=.lst xs.reverse) kp hle ⟨by rw [List.length_reverse];exact z1,its.reverse,c,rv.reverse,?_⟩,rfl,q _ (I1.hok.fresh hle)⟩
 rw [← ea]
 exact hS
end
section
variable {X:Cx}
def nY:R2:=fun x y H Q=>∃(z:Str) (k:Int),x=.str z∧y=.int k∧0≤k∧k≤1000∧z.length≤100∧Q (.str (vE z k.toNat)) H
theorem lY:OpR X (binaryOp .Mult) nY:=by
 intro pins s σ H x y v u Q I rx ry h
 obtain ⟨z,k,rfl,rfl,h0,h1,hz,q⟩:=h
 obtain ⟨t,rfl⟩:=rx
 obtain ⟨t',rfl⟩:=ry
 have hm:z.length*k.toNat≤100000:=Nat.le_trans (Nat.mul_le_mul hz (show k.toNat≤1000 by omega)) (Nat.le_refl _)
 refine P.mul_str ?_ (fun h2 _=>?_) (fun _ _=>?_) ?_
 ·rw [decide_eq_false (by omega),decide_eq_false (by omega)];rfl
 ·have:(100:Int)≤(2 ^ 63 - 1) / k:=by
   rw [Int.le_ediv_iff_mul_le (by omega)]
   omega
  omega
 ·exact decide_eq_false (Nat.not_lt.mpr (Nat.le_trans hm (by decide)))
 ·by_cases h2:k<1
  ·rw [if_pos h2]
   have e:k.toNat=0:=by omega
   rw [e] at q
   exact ⟨by decide,.str (vE z 0),H,I.tok _,⟨_,rfl⟩,q⟩
  ·rw [if_neg h2]
   by_cases h3:(k == 1||z.length == 0)=true
   ·rw [if_pos h3]
    have e:vE z k.toNat=z:=by
     have:(vE z k.toNat).cps.toList=z.cps.toList:=by
      rw [cO]
      rcases Bool.or_eq_true_iff.mp h3 with h|h
      ·rw [show k.toNat=1 by have:=eq_of_beq h;omega];simp
      ·have h:z.cps.size=0:=eq_of_beq h
       rw [Array.eq_empty_of_size_eq_zero h]
       simp
     cases hr:vE z k.toNat with
     |mk a=>rw [hr] at this;obtain ⟨b⟩:=z;exact congrArg Str.mk (Array.toList_inj.mp this)
    rw [e] at q
    exact ⟨.str z,H,I,⟨_,rfl⟩,q⟩
   ·rw [if_neg h3]
    exact ⟨by show (vE z k.toNat).length≤sizeLine;rw [lQ,Nat.mul_comm];exact Nat.le_trans hm (by decide),.str (vE z k.toNat),H,I.tok _,⟨_,rfl⟩,q⟩
end
end L2
namespace L2
open PySem PySem.Spec PyProof.Rows
section
variable {prog:Program} {w:World} {A:Around} {E:Value→Shared→Prop} {s:Shared} {d it:Addr} {xs:List jY} {o:Obj} {es:Array DictEntry} {i ep:Nat}
theorem eM {Q:Value→Shared→Prop} (hd:(d == sysModules)=false) (ho:s.heap.get? d=some o) (hc:o.ExactDict) (hdat:o.data=.dict es ep)
  (hQ:Q (.ref s.heap.objs.size) {s with heap:=s.heap.push {cls:=.type "dict_keyiterator",data:=.fields #[.ref d,.int 0 0,.int es.size 0,.int ep 0]}}):wpAny (model prog w) A (pyIter (.ref d)) Q E s:=by
 have T:s.TypeIs (.ref d) "dict":=⟨o,ho,hc.1⟩
 refine wpAny_pyIter_slot T PySem.F.slot_dict_iter (wpAny_call_entry PySem.F.slot_dict_iter T PySem.F.entry_dict_iter ?_ (PySem.F.args_dict_iter_1 _))
 unfold Builtin.«dict.__iter__»
 refine wpAny_bind ?_;unfold Builtin.Dict.dictSlotNone;refine wpAny_bind (wpAny_notOrdered_dict T ?_)
 show wpAny _ _ (pure (Value.ref d)) _ _ s;refine wpAny_pure ?_
 show wpAny _ _ (Builtin.Dict.showsAll d >>= _) _ _ s;unfold Builtin.Dict.showsAll;rw [if_neg (by rw [hd];exact Bool.false_ne_true)]
 refine wpAny_bind (wpAny_pure (wpAny_bind (wpAny_dictEntries ho hdat (wpAny_bind (wpAny_dictEpoch ho hdat ?_)))))
 refine wpAny_bind (wpAny_newObj_type (wpAny_pure ⟨_,rfl,"dict_keyiterator",_,⟨_,Heap.get?_push_size _ rfl,rfl⟩,PySem.F.slot_dict_keyiterator_next.lookup,?_⟩))
 simpa [rawInt] using hQ
theorem oI {Q:Option Value→Shared→Prop} (hit:s.heap.IsKeyIter it d i es.size ep) (hod:s.heap.get? d=some o) (hdd:o.data=.dict es ep) (hi:i<es.size)
  (hQ:∀h',h'.IsKeyIter it d (i+1) es.size ep→Heap.SameBut it s.heap h'→Q (some es[i].key) {s with heap:=h'}):wpAny (model prog w) A (pyNext (.ref it)) Q E s:=by
 obtain ⟨oi,ho,hc,hd⟩:=id hit
 unfold pyNext
 refine wpAny_bind (wpAny_attempt (wpAny_callSpecial?_slot (name:=Str.ofString "__next__") hit.typeIs PySem.F.slot_dict_keyiterator_next (wpAny_call_entry PySem.F.slot_dict_keyiterator_next hit.typeIs PySem.F.entry_dict_keyiterator_next ?_ (PySem.F.args_dict_keyiterator_next_1 _))))
 refine wpAny_bind (wpAny_pure (wpAny_bind (wpAny_bind ?_)))
 first|refine wpAny_bind (wpAny_typeNameOfWhole_keyiter hit.typeIs (wpAny_pure (wpAny_bind (wpAny_fieldsOf ho hd ?_))))|refine wpAny_bind (wpAny_typeNameOf_keyiter hit.typeIs (wpAny_pure (wpAny_bind (wpAny_fieldsOf ho hd ?_))))
 simp only [show Builtin.Dict_items.ownsTuple "dict_keyiterator"=false by decide,Bool.false_eq_true,if_false]
 show wpAny _ _ (if (Value.ref d == Value.none)=true then _ else _) _ _ s
 rw [if_neg (show ¬((Value.ref d == Value.none)=true) from Bool.false_ne_true)]
 refine wpAny_bind (wpAny_pure (wpAny_bind (wpAny_dictEntries hod hdd ?_)));rw [if_neg (by simp)]
 refine wpAny_bind (wpAny_pure (wpAny_bind (wpAny_dictEpoch hod hdd ?_)));rw [if_neg (by simp)];refine wpAny_pure ?_
 simp only [show ¬((i:Int)<0) from by omega,if_false,Int.toNat_natCast,Array.getElem?_eq_getElem hi]
 refine wpAny_bind ?_
 first|refine wpAny_bind (wpAny_typeNameOfWhole_keyiter hit.typeIs (wpAny_pure (wpAny_bind (wpAny_isOneOf_keyiter hit.typeIs ?_))))|refine wpAny_bind (wpAny_typeNameOf_keyiter hit.typeIs (wpAny_pure (wpAny_bind (wpAny_isOneOf_keyiter hit.typeIs ?_))))
 show wpAny _ _ (setField (.ref it) 1 (rawInt ((i:Int)+1)) >>= _) _ _ s
 refine wpAny_bind (wpAny_setField ho hd (by simp) ?_)
 have hit':(s.heap.update it (Obj.mapFields (·.setIfInBounds 1 (rawInt ((i:Int)+1))))).IsKeyIter it d (i+1) es.size ep:=⟨_,Heap.get?_update_self _ ho (Obj.isFreed_of_fields (Obj.data_mapFields hd _)),(Obj.cls_mapFields ..).trans hc,by rw [Obj.data_mapFields hd];simp [rawInt]⟩
 refine wpAny_bind (wpAny_holding (wpAny_bind (wpAny_isOneOf_keyiter (s:={s with heap:=s.heap.update it (Obj.mapFields (·.setIfInBounds 1 (rawInt ((i:Int)+1))))}) hit'.typeIs ?_)))
 show wpAny _ _ (pure es[i].key) _ _ _
 exact wpAny_pure (wpAny_pure ⟨_,rfl,wpAny_pure (hQ _ hit' (Heap.SameBut.update ..))⟩)
theorem iQ {Q:Option Value→Shared→Prop} (hh:A.handled=none) (hit:s.heap.IsKeyIter it d i es.size ep) (hod:s.heap.get? d=some o) (hdd:o.data=.dict es ep) (hi:es.size≤i)
  (hQ:∀h',Heap.ExtBut it s.heap h'→Q none {s with heap:=h'}):wpAny (model prog w) A (pyNext (.ref it)) Q E s:=by
 obtain ⟨oi,ho,hc,hd⟩:=id hit
 unfold pyNext
 refine wpAny_bind (wpAny_attempt (wpAny_callSpecial?_slot (name:=Str.ofString "__next__") hit.typeIs PySem.F.slot_dict_keyiterator_next (wpAny_call_entry PySem.F.slot_dict_keyiterator_next hit.typeIs PySem.F.entry_dict_keyiterator_next ?_ (PySem.F.args_dict_keyiterator_next_1 _))))
 refine wpAny_bind (wpAny_pure (wpAny_bind (wpAny_bind ?_)))
 first|refine wpAny_bind (wpAny_typeNameOfWhole_keyiter hit.typeIs (wpAny_pure (wpAny_bind (wpAny_fieldsOf ho hd ?_))))|refine wpAny_bind (wpAny_typeNameOf_keyiter hit.typeIs (wpAny_pure (wpAny_bind (wpAny_fieldsOf ho hd ?_))))
 simp only [show Builtin.Dict_items.ownsTuple "dict_keyiterator"=false by decide,Bool.false_eq_true,if_false]
 show wpAny _ _ (if (Value.ref d == Value.none)=true then _ else _) _ _ s
 rw [if_neg (show ¬((Value.ref d == Value.none)=true) from Bool.false_ne_true)]
 refine wpAny_bind (wpAny_pure (wpAny_bind (wpAny_dictEntries hod hdd ?_)));rw [if_neg (by simp)]
 refine wpAny_bind (wpAny_pure (wpAny_bind (wpAny_dictEpoch hod hdd ?_)));rw [if_neg (by simp)];refine wpAny_pure ?_
 simp only [show ¬((i:Int)<0) from by omega,if_false,Int.toNat_natCast,Array.getElem?_eq_none hi]
 refine wpAny_bind ?_
 first|refine wpAny_bind (wpAny_typeNameOfWhole_keyiter hit.typeIs (wpAny_pure ?_))|refine wpAny_bind (wpAny_typeNameOf_keyiter hit.typeIs (wpAny_pure ?_))
 show wpAny _ _ (setField (.ref it) 0 .none >>= _) _ _ s
 refine wpAny_bind (wpAny_setField ho hd (by simp) ?_)
 show wpAny _ _ (newExc (.type "StopIteration") [] >>= _) _ _ _
 refine wpAny_bind ?_
 simp only [newExc,newTuple]
 refine wpAny_bind (wpAny_newObj_type (wpAny_bind (m:=firstArgMember _ _) (wpAny_of_eq (a:=Value.none) (by first|rfl|(simp only [firstArgMember];rfl)) ?_)) (by size_fits))
 refine wpAny_newObj_type ?_ (by size_fits)
 simp only [raiseNew]
 refine wpAny_bind (wpAny_handled ?_)
 rw [show A.in1.handled=none from hh]
 refine wpAny_bind (wpAny_pure (wpAny_throw ?_));refine wpAny_bind (wpAny_isInstance (T:="StopIteration") (b:=true) ⟨_,Heap.get?_push_size _ rfl,rfl⟩ isSubtype_stop ?_)
 exact wpAny_pure (hQ _ ((((Heap.SameBut.update ..).extBut).push _).push _))
end
theorem bG {α β:Type} {R:α→β→Prop}:∀{l:List α} {m:List β},Paired R l m→∀{i:Nat} {a:α},l[i]?=some a→∃b,m[i]?=some b∧R a b
 |_,_,.nil,i,a,h=>by cases h
 |_,_,.cons r t,0,a,h=>by cases h;exact ⟨_,rfl,r⟩
 |_,_,.cons r t,i+1,a,h=>bG t h
def QV (w:World) (d:Addr) (o:Obj) (kvs:List jQ):It :=
 ⟨fun i H=>H d=some (.frz o (GO w d kvs))∧i<kvs.length,fun i H x H'=>H'=H∧∃p,kvs[i]?=some p∧x=p.2.1,fun i H=>H d=some (.frz o (GO w d kvs))∧kvs.length≤i⟩
theorem d8 {P:Program} {w:World} {K:PySem.W.Frag} {tg:Expr} {o:Obj} {es:Array DictEntry} {ep:Nat} {kvs:List jQ} (d it:Addr) (hdd:o.data=.dict es ep) (hz:es.size=kvs.length):Turn P w K tg (QV w d o kvs) [it] it (fun i h=>h.IsKeyIter it d i es.size ep) where
 mem:=by simp
 obj:=fun i h st b hb=>by
  have e:b=it:=by simpa using hb
  subst e
  obtain ⟨o,e,c,d⟩:=st
  exact ⟨o,e,fun v z=>by rw [d] at z;cases z⟩
 keep:=fun i h h' ⟨o,ho,r⟩ k=>⟨o,k it (by simp) o ho,r⟩
 item:=by
  intro X hP hw hK hc i pins s σ H E I hf st hg
  subst hP hw hK
  obtain ⟨hH,hi⟩:=hg
  obtain ⟨ho,⟨_,hm,xs,rel,o',es',ep',ho',hx,hd',he⟩,_⟩:=I.hok d _ hH
  rw [ho] at ho';cases ho'
  rw [hdd] at hd';cases hd'
  obtain ⟨f0,f1,f2,f3,f4,f5⟩:=hf it (by simp)
  have hi':i<es.size:=by rw [hz];exact hi
  refine oI st ho hdd hi' fun h' st' sb=>?_
  have I1:Inv X pins σ H {s with heap:=h'}:=I.turned (t':=s.toks) (fun b o hb e=>(sb.2 b hb).trans e) f0 f1 f3 f4 f5
  obtain ⟨o,e,c,dd⟩:=id st'
  have hk:kvs[i]?=some kvs[i]:=List.getElem?_eq_getElem hi
  refine ⟨_,rfl,ZT (s:={s with heap:=h'}) e c dd (by decide) ⟨kvs[i].2.1,H,I1,?_,⟨rfl,_,hk,rfl⟩,st',fun b hb=>(hf b hb).1⟩⟩
  obtain ⟨q,hq,r⟩:=bG rel hk
  have:es.toList[i]?=some (qZ X.w q):=by rw [he,List.getElem?_map,hq];rfl
  rw [Array.getElem?_toList,Array.getElem?_eq_getElem hi'] at this
  rw [Option.some.inj this]
  exact r.2.1
 done:=by
  intro X hP hw hK hc i pins s σ H E I hf st hg
  subst hP hw hK
  obtain ⟨hH,hi⟩:=hg
  obtain ⟨ho,_⟩:=I.hok d _ hH
  obtain ⟨f0,f1,f2,f3,f4,f5⟩:=hf it (by simp)
  exact iQ (I.ok.hd hc) st ho hdd (by rw [hz];exact hi) fun h' eb=>⟨rfl,I.turned (t':=s.toks) (fun b o hb e=>eb b o hb e) f0 f1 f3 f4 f5⟩
 self:=fun _ _ _ _ _ st h=>wpAny_pyIter_keyiter st h
section
variable {X:Cx} {tg:Expr}
def oV (w:World) (td:TE):TI:=fun σ H R=>td σ H fun x H1=>∃d kvs,x=.ref d∧H1 d=some (GO w d kvs)∧∀o,R (QV w d o kvs) (jB H1 d (.frz o (GO w d kvs)))
theorem lU {l:Expr} {td:TE} (hl:PE X l td):PI X tg l (oV X.w td):=by
 intro pins s σ H R I h
 refine jG (hl pins s σ H _ I h) fun v s1 ⟨x,H1,I1,r1,q1⟩=>?_
 obtain ⟨d,kvs,e,hd,q⟩:=q1
 subst e
 cases r1
 obtain ⟨⟨hn,hm,xs,rel,o,es,ep,ho,hc,hdd,he⟩,ex,st⟩:=I1.hok d _ hd
 have hz:es.size=kvs.length:=by rw [← Array.length_toList,he,List.length_map];exact (Paired.length rel).symm
 have I2:Inv X pins σ (jB H1 d (.frz o (GO X.w d kvs))) {s1 with heap:=s1.heap,toks:=s1.toks}:=I1.write (x:=d) (e:=d) (by rw [hd];exact True.intro) (.inl rfl) (fun b u _ e=>e) ⟨o,ho⟩ ⟨ho,⟨hn,hm,xs,rel,o,es,ep,ho,hc,hdd,he⟩,ex,st⟩
 refine eM hm ho hc hdd ?_
 refine ⟨s1.heap.objs.size,[s1.heap.objs.size],_,_,_,rfl,I2.kept (t':=s1.toks) fun b o e=>Heap.get?_push_of_some _ e,d8 d _ hdd hz,⟨_,Heap.get?_push_size _ rfl,rfl,rfl⟩,fun b hb=>?_,q o⟩
 have e:b=s1.heap.objs.size:=by simpa using hb
 subst e
 exact I2.fpOk (Nat.le_refl _) (I2.hok.fresh (Nat.le_refl _))
def nJ (w:World) (td:TE):TI:=fun σ H R=>td σ H fun x H1=>∃d o kvs,x=.ref d∧H1 d=some (.frz o (GO w d kvs))∧R (QV w d o kvs) H1
theorem i5 {l:Expr} {td:TE} (hl:PE X l td):PI X tg l (nJ X.w td):=by
 intro pins s σ H R I h
 refine jG (hl pins s σ H _ I h) fun v s1 ⟨x,H1,I1,r1,q1⟩=>?_
 obtain ⟨d,o,kvs,e,hd,q⟩:=q1
 subst e
 cases r1
 obtain ⟨ho,⟨hn,hm,xs,rel,o',es,ep,ho',hc,hdd,he⟩,ex,st⟩:=I1.hok d _ hd
 rw [ho] at ho';cases ho'
 have hz:es.size=kvs.length:=by rw [← Array.length_toList,he,List.length_map];exact (Paired.length rel).symm
 refine eM hm ho hc hdd ?_
 refine ⟨s1.heap.objs.size,[s1.heap.objs.size],_,_,_,rfl,I1.kept (t':=s1.toks) fun b o e=>Heap.get?_push_of_some _ e,d8 d _ hdd hz,⟨_,Heap.get?_push_size _ rfl,rfl,rfl⟩,fun b hb=>?_,q⟩
 have e:b=s1.heap.objs.size:=by simpa using hb
 subst e
 exact I1.fpOk (Nat.le_refl _) (I1.hok.fresh (Nat.le_refl _))
theorem d5 {w:World} {d D:Addr} {o:Obj} {kvs:List jQ} {tc:TT} {te:TE} {caps:St} {H:Hp} {Q:Hp→Prop} (R:Nat→List V→Hp→Prop) (hD:H D=none) (hS:H d=some (.frz o (GO w d kvs))) (h0:R 0 [] (jB H D (.lst [])))
  (hs:∀(i:Nat) (p:jQ) ys Hi,kvs[i]?=some p→i<kvs.length→ys.length≤i→Same H Hi→Hi D=some (.lst ys)→R i ys Hi→tc (some p.2.1::caps) Hi fun b H4=>if b=true then te (some p.2.1::caps) H4 fun v H5=>∃zs,H5 D=some (.lst zs)∧zs.length<sizeLine∧v1 H D caps R (i+1) (some p.2.1::caps) (jB H5 D (.lst (zs++[v])))
   else v1 H D caps R (i+1) (some p.2.1::caps) H4)
  (hd:∀ys Hf,Same H Hf→Hf D=some (.lst ys)→ys.length≤kvs.length→R kvs.length ys Hf→Q Hf):z3 D (QV w d o kvs) (QL 0) tc te (none::caps) H Q:=by
 refine ⟨fun i m σ Hi=>m=kvs.length - i∧i≤kvs.length∧v1 H D caps R i σ Hi,⟨kvs.length,by simp,Nat.zero_le _,[],none,rfl,qM hD (Same.refl H),jL,Nat.le_refl _,h0⟩,?_⟩
 rintro i m σ Hi ⟨rfl,hi,ys,c,rfl,s,hY,hl,r⟩
 by_cases hlt:i<kvs.length
 ·refine .inr ⟨⟨s _ _ hS,hlt⟩,v1 H D caps R (i+1),fun σ' H' p'=>⟨kvs.length - (i+1),by omega,rfl,hlt,p'⟩,fun x H' y=>?_⟩
  obtain ⟨rfl,p,hp,rfl⟩:=y
  exact hs i p ys _ hp hlt hl s hY r
 ·obtain rfl:i=kvs.length:=by omega
  exact .inl ⟨⟨s _ _ hS,Nat.le_refl _⟩,hd ys Hi s hY hl r⟩
end
end L2
namespace L2
open PySem PySem.Spec PyProof.Rows
theorem nK {A:Around} {k:Nat} (hr:Room k A):A.units+15<cLine:=by have:=hr.units;omega
def SEq (K:PySem.W.Frag) (H:Hp):Nat→V→V→Prop
 |0,x,y=>∃k,(GV H k).1 x∧(GV H k).1 y∧gd k≤9
 |n+1,x,y=>(∃k,(GV H k).1 x∧(GV H k).1 y∧gd k≤9)∨∃(a b:Addr) (xs ys:List V),x=.ref a∧y=.ref b∧a≠b∧SqL K H a xs∧SqL K H b ys∧xs.length=ys.length∧∀j,j<xs.length→SEq K H n (xs.getD j .non) (ys.getD j .non)
section
variable {X:Cx} {pins:List (Addr×Obj)} {σ:St} {H:Hp} {s:Shared}
theorem dS {A:Around} {x y:V} {u v:Value} (I:Inv X pins σ H s) (h:∃k,(GV H k).1 x∧(GV H k).1 y∧gd k≤9) (rx:RelV x u) (ry:RelV y v) (hu:A.units+10<cLine):SeqAt.EqAt A s u v true:=by
 obtain ⟨k,h1,h2,h9⟩:=h
 have:=(JN k k).1 A u v ((GV.rel I.hok k).1 _ _ h1 rx) ((GV.rel I.hok k).1 _ _ h2 ry) (by omega)
 rwa [decide_eq_true rfl] at this
theorem dI (n:Nat):(List.range n).all (fun _=>true)=true:=by simp
theorem SEq.at (I:Inv X pins σ H s):∀(n:Nat) (A:Around) (x y:V) (u v:Value),SEq X.K H n x y→RelV x u→RelV y v→A.units+10+n<cLine→SeqAt.EqAt A s u v true
 |0,A,x,y,u,v,h,rx,ry,hu=>dS I h rx ry (by omega)
 |n+1,A,x,y,u,v,h,rx,ry,hu=>by
  rcases h with h|⟨a,b,xs,ys,rfl,rfl,ne,ha,hb,hl,he⟩
  ·exact dS I h rx ry (by omega)
  ·cases rx;cases ry
   obtain ⟨its,r,pl,hz⟩:=I.list ha
   obtain ⟨its2,r2,pl2,hz2⟩:=I.list hb
   have l1:=r.length
   have l2:=r2.length
   have h:=SeqAt.RcAt.lists (A:=A) (e:=fun _=>true) pl.isList pl2.isList (by rw [List.size_toArray,List.size_toArray,← l1,← l2,hl]) (by omega) (fun j h1 h2=>SEq.at I n A.in1 _ _ _ _ (he j (by rw [l1];simpa using h1)) (v5 r h1) (v5 r2 h2) (by simp only [Around.in1_units];omega))
   rw [dI] at h
   exact SeqAt.EqAt.of_refs ne h
end
def rJ (K:PySem.W.Frag) (n:Nat):R2:=fun x y H Q=>∃(a b:Addr) (xs ys:List V),x=.ref a∧y=.ref b∧SqL K H a xs∧SqL K H b ys∧xs.length=ys.length∧(∀j,j<xs.length→SEq K H n (xs.getD j .non) (ys.getD j .non))∧Q (.bl true) H
theorem oF {X:Cx} (n:Nat) (hu:X.A.units+12+n<cLine):OpR X (compareOp .Eq) (rJ X.K n):=by
 intro pins s σ H x y v u Q I rx ry h
 obtain ⟨a,b,xs,ys,rfl,rfl,ha,hb,hl,he,q⟩:=h
 cases rx
 cases ry
 obtain ⟨its,r,pl,hz⟩:=I.list ha
 obtain ⟨its2,r2,pl2,hz2⟩:=I.list hb
 have l1:=r.length
 have l2:=r2.length
 have h:=SeqAt.RcAt.lists (A:=X.A) (e:=fun _=>true) pl.isList pl2.isList (by rw [List.size_toArray,List.size_toArray,← l1,← l2,hl]) (by omega) (fun j h1 h2=>SEq.at I n X.A.in1 _ _ _ _ (he j (by rw [l1];simpa using h1)) (v5 r h1) (v5 r2 h2) (by simp only [Around.in1_units];omega))
 rw [dI] at h
 exact h X.prog X.w X.xe _ ⟨.bl true,H,I,rfl,q⟩
def mX:V→List V→Hp→VK→Prop:=fun x vs H Q=>∃(l:Addr) (xs:List V) (y:V) (k:GK) (ks:List GK) (j:Nat),x=.ref l∧vs=[y]∧H l=some (.lst xs)∧(GV H k).1 y∧gd k≤8∧(xs.length=ks.length∧∀(i:Nat) z,xs[i]?=some z→∃k',ks[i]?=some k'∧(GV H k').1 z∧gd k'≤8)∧ks[j]?=some k∧j≤1000∧(∀i,i<j→ks[i]?≠some k)∧Q (.int (j:Int)) H
open Classical in
theorem i9 {X:Cx} (hu:X.A.units+10<cLine):Z3 X "list.index" mX:=by
 intro pins s σ H x vs v us Q I rx rv h
 obtain ⟨l,xs,y,k,ks,j,rfl,rfl,hH,hy,h8,hk,hj,hj2,hno,q⟩:=h
 cases rx
 obtain ⟨u,rfl,ru⟩:=rv.one
 obtain ⟨z,its,n,r,hl,e⟩:=I.lstM hH
 have key:∀(m:Nat) (hm:m<its.toArray.size),∃k',ks[m]?=some k'∧(GR s.heap k').1 its.toArray[m]:=fun m hm=>by
  have hlt:m<xs.length:=by rw [hl];simpa using hm
  obtain ⟨k',e1,e2,_⟩:=hk.2 m _ (List.getElem?_eq_getElem hlt)
  obtain ⟨u',hu',rv'⟩:=r.get (List.getElem?_eq_getElem hlt)
  have:its.toArray[m]=u':=by
   have h2:its[m]?=some u':=hu'
   rw [List.getElem?_eq_getElem (by simpa using hm)] at h2
   simpa using Option.some.inj h2
  rw [this]
  exact ⟨k',e1,(GV.rel I.hok k').1 _ _ e2 rv'⟩
 have hjs:j<its.toArray.size:=by rw [List.size_toArray,← hl,hk.1];exact (List.getElem?_eq_some_iff.mp hj).1
 refine call_meets F.slot_list_index ⟨_,e,rfl⟩ F.entry_list_index (F.args_list_index_2 _ _) (SeqAt.list_indexAt l its.toArray n none #[] u (fun y=>decide ((GR s.heap k).1 y)) j hjs (by omega) ?_ (fun m hm hlt=>?_)) ⟨e,dY (by simp only [Around.in1_units];omega) I r hy ru hk,⟨.int (j:Int),H,I.tok _,⟨_,rfl⟩,q⟩⟩
 ·obtain ⟨k',e1,e2⟩:=key j hjs
  rw [hj] at e1;cases e1
  exact decide_eq_true e2
 ·obtain ⟨k',e1,e2⟩:=key m hm
  refine decide_eq_false fun hz=>hno m hlt ?_
  rw [e1,(GR.inj k' k).1 _ e2 hz]
end L2
namespace My
open PySem L2
def top (i:Nat):Stmt:=PySem.Challenge.pw_lockhouse_k54_whole_search.main.body.getD i (.Pass ⟨0,0,0,0⟩)
abbrev qR:Stmt:=fD (top 21) 7
abbrev vB:Stmt:=fD (top 21) 8
abbrev zJ:Stmt:=top 5
abbrev zK:Stmt:=top 6
abbrev yP:Stmt:=top 4
abbrev y8:Stmt:=top 8
abbrev zC:Stmt:=top 9
abbrev y9:Stmt:=top 10
abbrev zA:Stmt:=top 11
abbrev zE:Stmt:=top 12
abbrev zI:Stmt:=top 13
abbrev zF:Stmt:=top 14
abbrev zG:Stmt:=top 15
abbrev zB:Stmt:=top 16
abbrev zD:Stmt:=top 17
abbrev yN:Stmt:=top 18
abbrev yO:Stmt:=top 19
abbrev zH:Stmt:=top 20
abbrev qS:Stmt:=top 21
theorem pE {K:W.Frag} {H H':Hp} {a:Addr} {xs:List V} (e:Same H H') (h:SqT K H a xs):SqT K H' a xs:=by
 rcases h with (h|⟨o,h⟩)|h
 ·exact .inl (.inl (e _ _ h))
 ·exact .inl (.inr ⟨o,e _ _ h⟩)
 ·exact .inr h
theorem jS {H:Hp} {p:Addr} (h:H p=none) (o:HO):Same H (jB H p o):=fun b u q=>by rw [jD (kZ q h)];exact q
theorem kY {n:Nat} (h:n≤1000):n≤sizeLine:=Nat.le_of_lt (QX h)
def Ints (K:W.Frag) (H:Hp) (a:Addr) (ws:List Int):Prop:=SqL K H a (ws.map V.int)∨SqT K H a (ws.map V.int)
theorem Ints.same {K:W.Frag} {H H':Hp} {a:Addr} {ws:List Int} (e:Same H H') (h:Ints K H a ws):Ints K H' a ws:=by
 rcases h with h|h
 ·exact .inl (e.seq h)
 ·exact .inr (pE e h)
theorem mJ {ws:List Int} {s:Nat} (h:s<ws.length):qQ (ws.map V.int) (s:Int)=some (.int (ws.getD s 0)):=by
 refine yB ?_
 rw [List.getElem?_map,List.getElem?_eq_getElem h,List.getD_eq_getElem?_getD,List.getElem?_eq_getElem h]
 rfl
theorem lJ (ns:List Int) (lo hi:Option Int):∃ms:List Int,yJ (ns.map V.int) lo hi=ms.map V.int∧ms.length≤ns.length:=by
 refine ⟨(ns.drop (HT.sIx ns.length 0 lo)).take (HT.sIx ns.length ns.length hi - HT.sIx ns.length 0 lo),?_,?_⟩
 ·unfold yJ
  rw [List.length_map,List.map_take,List.map_drop]
 ·rw [List.length_take,List.length_drop]
  omega
theorem mF {ms:List Int} {i:Nat} {x:V} (h:(ms.map V.int)[i]?=some x):∃z,x=V.int z∧ms[i]?=some z:=by
 rw [List.getElem?_map] at h
 cases e:ms[i]? with
 |none=>rw [e] at h;cases h
 |some z=>rw [e] at h;exact ⟨z,(Option.some.inj h).symm,rfl⟩
def ZO (K:W.Frag):Sp:=fun vs H Q _=>∃(a:Addr) (ns:List Int) (k:Nat),vs=[.ref a,.int k]∧SqL K H a (ns.map V.int)∧Q (.int (ns.getD k 0)) H
theorem qV {n:Nat} (h:n≤4000):n<sizeLine:=by rw [sizeLine_eq];omega
abbrev jF:=List (GK×List (GK×GK))
def jI (T:jF) (k:GK):Option (List (GK×GK)):=(T.find? fun p=>decide (p.1=k)).map (·.2)
def PairsAt (H:Hp) (xs:List V) (ps:List (GK×GK)):Prop:=xs.length=ps.length∧∀(i:Nat) (x:V),xs[i]?=some x→∃(p:GK×GK) (a:Addr) (b c:V),ps[i]?=some p∧x=.ref a∧H a=some (.tup [b,c])∧(GV H p.1).1 b∧(GV H p.2).1 c∧gd p.1≤8∧gd p.2≤8
theorem jW {H H':Hp} {k:GK} {v:V} (s:Same H H') (h:(GV H k).1 v):(GV H' k).1 v:=(GV.keep (fun a l e=>s _ _ e) k).1 v h
theorem kW {H H':Hp} {kvs:List jQ} (s:Same H H') (h:GOk H kvs):GOk H' kvs:=h.keep fun a l e=>s _ _ e
theorem PairsAt.same {H H':Hp} {xs:List V} {ps:List (GK×GK)} (s:Same H H') (h:PairsAt H xs ps):PairsAt H' xs ps:=⟨h.1,fun i x e=>by
 obtain ⟨p,a,b,c,e1,e2,e3,e4,e5,e6⟩:=h.2 i x e
 exact ⟨p,a,b,c,e1,e2,s _ _ e3,jW s e4,jW s e5,e6⟩⟩
structure TabAt (w:World) (H:Hp) (d:Addr) (T:jF) (ls:List Addr):Prop where
 ex:∃kvs,H d=some (GO w d kvs)∧GOk H kvs∧((∀k k' l,jN kvs k=some (.ref l)→jN kvs k'=some (.ref l)→k=k')∧(∀k l,jN kvs k=some (.ref l)→l∈ls)∧kvs.length≤ls.length∧∀k,(jN kvs k).isSome=true→(jI T k).isSome=true)∧∀k ps,jI T k=some ps→∃l xs,jN kvs k=some (.ref l)∧H l=some (.lst xs)∧PairsAt H xs ps
 few:∀k ps,jI T k=some ps→ps.length≤1200
 shut:∀k ps p,jI T k=some ps→p∈ps→(jI T p.2).isSome=true
 deep:∀k ps,jI T k=some ps→gd k≤8
theorem TabAt.same {w:World} {H H':Hp} {d:Addr} {T:jF} {ls:List Addr} (s:Same H H') (h:TabAt w H d T ls):TabAt w H' d T ls:=by
 obtain ⟨⟨kvs,e1,e2,ap,e3⟩,e4,e5,e6⟩:=h
 refine ⟨⟨kvs,s _ _ e1,kW s e2,ap,fun k ps hk=>?_⟩,e4,e5,e6⟩
 obtain ⟨l,xs,f1,f2,f3⟩:=e3 k ps hk
 exact ⟨l,xs,f1,s _ _ f2,f3.same s⟩
structure MarkAt (w:World) (H:Hp) (d:Addr) (T:jF) (M:GK→Bool):Prop where
 ex:∃kvs,H d=some (GO w d kvs)∧GOk H kvs∧∀k,(jI T k).isSome=true→jN kvs k=some (.bl (M k))
theorem MarkAt.same {w:World} {H H':Hp} {d:Addr} {T:jF} {M:GK→Bool} (s:Same H H') (h:MarkAt w H d T M):MarkAt w H' d T M:=by
 obtain ⟨kvs,e1,e2,e3⟩:=h.ex
 exact ⟨kvs,s _ _ e1,kW s e2,e3⟩
theorem nA {H:Hp} {cs:List Addr} {l:Addr} {xs:List V} (hc:z6 H cs) (e:H l=some (.lst xs)):l∉cs:=fun hin=>by
 obtain ⟨o,e2⟩:=hc l hin
 rw [e] at e2;cases e2
theorem dE {H H':Hp} {f:Addr} {qual:Str} {params:Arguments} {body:List Stmt} {scope:Scope} {cl:List (Str×Addr)} {fvs:List V} {cdv:Value} {fd:FuncData} (s:Same H H') (C:CloAt H f qual params body scope cl fvs cdv fd):CloAt H' f qual params body scope cl fvs cdv fd:=by
 obtain ⟨⟨fo,name,doc,pm,an,ct,a1,a2⟩,⟨c,oc,vs,t,b1,b2,b3⟩,c1,c2,c3⟩:=C
 refine ⟨⟨fo,name,doc,pm,an,ct,s _ _ a1,a2⟩,⟨c,oc,vs,t,b1,s _ _ b2,b3⟩,c1,c2,fun i x c v h1 h2=>?_⟩
 obtain ⟨o,u,d1,d2⟩:=c3 i x c v h1 h2
 exact ⟨o,u,s _ _ d1,d2⟩
def dQ (w:World):List Addr→List V→Sp:=fun cs fvs vs H Q _=>∃(y:V) (d:Addr) (T:jF) (M:GK→Bool) (k:GK),fvs=[.ref d]∧vs=[y]∧d∉cs∧MarkAt w H d T M∧(GV H k).1 y∧gd k≤8∧(jI T k).isSome=true∧Q (.bl (M k)) H
def behind (T:jF) (k de:GK):List GK:=(((jI T k).getD []).filter fun p=>decide (p.1=de)).map (·.2)
def eT (T:jF):GK→List GK→Option GK
 |k,[]=>some k
 |k,de::r=>match behind T k de with
  |[]=>none
  |k'::_=>eT T k' r
def sK (T:jF) (M:GK→Bool) (k:GK) (r:List GK):Bool:=match eT T k r with
 |none=>false
 |some k'=>M k'
def KeysAt (H:Hp) (xs:List V) (ks:List GK):Prop:=xs.length=ks.length∧∀(i:Nat) x,xs[i]?=some x→∃k,ks[i]?=some k∧(GV H k).1 x∧gd k≤8
theorem KeysAt.same {H H':Hp} {xs:List V} {ks:List GK} (s:Same H H') (h:KeysAt H xs ks):KeysAt H' xs ks:=⟨h.1,fun i x e=>by
 obtain ⟨k,e1,e2,e3⟩:=h.2 i x e
 exact ⟨k,e1,jW s e2,e3⟩⟩
theorem KeysAt.snoc {H H':Hp} {xs:List V} {ks:List GK} {v:V} {k:GK} (h:KeysAt H xs ks) (hk:∀a l,H a=some (.tup l)→H' a=some (.tup l)) (hv:(GV H k).1 v) (h8:gd k≤8):KeysAt H' (xs++[v]) (ks++[k]):=by
 refine ⟨by rw [List.length_append,List.length_append,h.1];rfl,fun i x e=>?_⟩
 by_cases hi:i<xs.length
 ·rw [List.getElem?_append_left hi] at e
  obtain ⟨k',e1,e2,e3⟩:=h.2 i x e
  exact ⟨k',by rw [List.getElem?_append_left (by rw [← h.1];exact hi)];exact e1,(GV.keep hk k').1 _ e2,e3⟩
 ·rw [List.getElem?_append_right (by omega)] at e
  obtain ⟨h1,h2⟩:=List.getElem?_eq_some_iff.mp e
  have hz:i - xs.length=0:=by rw [List.length_singleton] at h1;omega
  rw [List.getElem?_append_right (by rw [← h.1];omega),← h.1,hz]
  rw [hz] at e
  cases e
  exact ⟨k,rfl,(GV.keep hk k).1 _ hv,h8⟩
def jX (m v:Nat):GK :=
 if m=0 then .i v
 else if m=1 then .i (((v:Int) - 5)*10 ^ 30+v)
 else if m=2 then .s (vE ⟨#[("abc":Str).cps.getD (v%3) 0]⟩ (1+v / 3))
 else if m=3 then .cons (.i ((v / 5:Nat):Int)) (.cons (.cons (.i ((v%5:Nat):Int)) (.cons (.s "x") .nil)) .nil)
 else if v%3=0 then .i v
 else if v%3=1 then .s ("s"++Str.ofString (toString (v:Int)))
 else .cons (.i v) (.cons (.s "") .nil)
theorem pI:∀v:Nat,v<1000→(v:Int).natAbs.log2<1920:=by decide +kernel
theorem pK:∀v:Nat,v<1000→("s":Str).length+(Str.ofString (toString (v:Int))).length≤1000:=by decide +kernel
theorem oX {v:Nat} (h:v≤999):CMul ((v:Int) - 5) (10 ^ (30:Int).toNat):=.inl ⟨by omega,by omega⟩
theorem oY (v:Nat):qQ ("abc":Str).cps.toList ((v:Int)%3)=some (("abc":Str).cps.getD (v%3) 0):=by
 have e:((v:Int)%3)=((v%3:Nat):Int):=by omega
 rw [e]
 have h:v%3<3:=Nat.mod_lt _ (by decide)
 generalize v%3=n at h
 match n,h with
 |0,_=>decide +kernel
 |1,_=>decide +kernel
 |2,_=>decide +kernel
def JK:Sp:=fun vs H Q _=>∃m v:Nat,vs=[.int m,.int v]∧m≤4∧v≤999∧∀y H',Same H H'→(GV H' (jX m v)).1 y→gd (jX m v)≤8→Q y H'
theorem JF (m v:Nat):gd (jX m v)≤8:=by
 unfold jX
 repeat' split
 all_goals (simp only [gd];omega)
def kindD (m j:Nat):Nat:=if m=4 then j%3 else m%3
def qY (m j:Nat):GK:=if kindD m j=0 then .i j else if kindD m j=1 then .s ("d"++Str.ofString (toString (j:Int))) else .cons (.s "go") (.cons (.i j) .nil)
theorem iV (m j:Nat):gd (qY m j)≤8:=by
 unfold qY
 repeat' split
 all_goals (simp only [gd];omega)
theorem oH:∀v:Nat,v<1201→(v:Int).natAbs.log2<1920:=by decide +kernel
theorem oJ:∀v:Nat,v<1201→("d":Str).length+(Str.ofString (toString (v:Int))).length≤1000:=by decide +kernel
def eB:Sp:=fun vs H Q _=>∃m j:Nat,vs=[.int m,.int j]∧m≤4∧j≤1200∧∀y H',Same H H'→(GV H' (qY m j)).1 y→Q y H'
def yG (T:jF) (k:GK) (p:GK×GK):jF:=T.map fun q=>if q.1=k then (q.1,q.2++[p]) else q
theorem zT {T:jF} {k k':GK} {p:GK×GK}:jI (yG T k p) k'=(jI T k').map fun ps=>if k'=k then ps++[p] else ps:=by
 unfold jI yG
 induction T with
 |nil=>rfl
 |cons q T ih =>
  rw [List.map_cons]
  by_cases h:q.1=k'
  ·have h':(if q.1=k then (q.1,q.2++[p]) else q).1=k':=by split<;>exact h
   rw [List.find?_cons_of_pos (by simpa using h'),List.find?_cons_of_pos (by simpa using h)]
   subst h
   by_cases hk:q.1=k
   ·simp [hk]
   ·simp [hk]
  ·have h':¬(if q.1=k then (q.1,q.2++[p]) else q).1=k':=by split<;>exact h
   rw [List.find?_cons_of_neg (by simpa using h'),List.find?_cons_of_neg (by simpa using h)]
   exact ih
def fG (ls:List Addr) (H H':Hp):Prop:=(∀a o,a∉ls→H a=some o→H' a=some o)∧∀l xs,H l=some (.lst xs)→∃ys,H' l=some (.lst ys)
theorem zN {H H':Hp} {xs:List V} {ps:List (GK×GK)} (hk:∀a l,H a=some (.tup l)→H' a=some (.tup l)) (h:PairsAt H xs ps):PairsAt H' xs ps:=⟨h.1,fun i x e=>by
 obtain ⟨p,a,b,c,e1,e2,e3,e4,e5,e6⟩:=h.2 i x e
 exact ⟨p,a,b,c,e1,e2,hk _ _ e3,(GV.keep hk _).1 _ e4,(GV.keep hk _).1 _ e5,e6⟩⟩
theorem bF {H:Hp} {xs:List V} {ps:List (GK×GK)} {p:GK×GK} {t:Addr} {b c:V} (h:PairsAt H xs ps) (ht:H t=some (.tup [b,c])) (h1:(GV H p.1).1 b) (h2:(GV H p.2).1 c) (g1:gd p.1≤8) (g2:gd p.2≤8):PairsAt H (xs++[.ref t]) (ps++[p]):=by
 refine ⟨by rw [List.length_append,List.length_append,h.1];rfl,fun i x e=>?_⟩
 by_cases hi:i<xs.length
 ·rw [List.getElem?_append_left hi] at e
  obtain ⟨q,a,b',c',e1,e2⟩:=h.2 i x e
  exact ⟨q,a,b',c',by rw [List.getElem?_append_left (by rw [← h.1];exact hi)];exact e1,e2⟩
 ·rw [List.getElem?_append_right (by omega)] at e
  have hz:i - xs.length=0:=by have:=(List.getElem?_eq_some_iff.mp e).1;rw [List.length_singleton] at this;omega
  rw [hz] at e
  cases e
  exact ⟨p,t,b,c,by rw [List.getElem?_append_right (by rw [← h.1];omega),← h.1,hz];rfl,rfl,ht,h1,h2,g1,g2⟩
theorem lN {w:World} {H H':Hp} {d l t:Addr} {T:jF} {kvs:List jQ} {k:GK} {p:GK×GK} {ps:List (GK×GK)} {xs:List V} {b c:V} {ls:List Addr} (hT:TabAt w H d T ls) (e1:H d=some (GO w d kvs)) (g:GOk H kvs) (ap:(∀k k' l,jN kvs k=some (.ref l)→jN kvs k'=some (.ref l)→k=k')∧(∀k l,jN kvs k=some (.ref l)→l∈ls)∧kvs.length≤ls.length∧∀k,(jN kvs k).isSome=true→(jI T k).isSome=true)
  (e3:∀k ps,jI T k=some ps→∃l xs,jN kvs k=some (.ref l)∧H l=some (.lst xs)∧PairsAt H xs ps) (hps:jI T k=some ps) (f1:jN kvs k=some (.ref l)) (f2:H l=some (.lst xs)) (f3:PairsAt H xs ps) (h190:ps.length≤1100) (hsh:(jI T p.2).isSome=true)
  (kp:∀a o,a≠l→H a=some o→H' a=some o) (hl:H' l=some (.lst (xs++[.ref t]))) (ht:H' t=some (.tup [b,c])) (h1:(GV H' p.1).1 b) (h2:(GV H' p.2).1 c) (g1:gd p.1≤8) (g2:gd p.2≤8):TabAt w H' d (yG T k p) ls:=by
 have hk:∀a l,H a=some (.tup l)→H' a=some (.tup l):=fun a z e=>kp a _ (fun y=>by subst y;rw [f2] at e;cases e) e
 have hsome:∀k',(jI (yG T k p) k').isSome=(jI T k').isSome:=fun k'=>by rw [zT,Option.isSome_map]
 refine ⟨⟨kvs,kp d _ (fun y=>by subst y;rw [f2] at e1;cases e1) e1,g.keep hk,⟨ap.1,ap.2.1,ap.2.2.1,fun k h=>by rw [zT,Option.isSome_map];exact ap.2.2.2 k h⟩,fun k' ps' h=>?_⟩,fun k' ps' h=>?_,fun k' ps' q h hq=>?_,fun k' ps' h=>?_⟩
 all_goals
  rw [zT] at h
  obtain ⟨ps0,h0,rfl⟩:=Option.map_eq_some_iff.mp h
 ·obtain ⟨l',xs',f1',f2',f3'⟩:=e3 k' ps0 h0
  by_cases hkk:k'=k
  ·subst hkk
   rw [hps] at h0;cases h0
   rw [f1] at f1';cases f1'
   rw [if_pos rfl]
   exact ⟨l,_,f1,hl,bF (zN hk f3) ht h1 h2 g1 g2⟩
  ·rw [if_neg hkk]
   exact ⟨l',xs',f1',kp l' _ (fun y=>by subst y;exact hkk (ap.1 _ _ _ f1' f1)) f2',zN hk f3'⟩
 ·have:=hT.few k' ps0 h0
  by_cases hkk:k'=k
  ·subst hkk
   rw [hps] at h0;cases h0
   rw [if_pos rfl,List.length_append,List.length_singleton];omega
  ·rw [if_neg hkk];exact this
 ·rw [hsome]
  by_cases hkk:k'=k
  ·subst hkk
   rw [if_pos rfl] at hq
   rcases List.mem_append.mp hq with hq|hq
   ·exact hT.shut _ ps0 q h0 hq
   ·cases List.mem_singleton.mp hq;exact hsh
  ·rw [if_neg hkk] at hq
   exact hT.shut _ ps0 q h0 hq
 ·exact hT.deep k' ps0 h0
def cI (w:World):Sp:=fun vs H Q _=>∃(d:Addr) (m v u:Nat) (T:jF) (ls:List Addr) (ps:List (GK×GK)),vs=[.ref d,.int m,.int v,.int u]∧m≤4∧v≤999∧u≤999∧TabAt w H d T ls∧jI T (jX m v)=some ps∧(jI T (jX m u)).isSome=true∧ps.length≤1100∧
 ∀H',TabAt w H' d (yG T (jX m v) (qY m ps.length,jX m u)) ls→fG ls H H'→Q .non H'
def JQ (T:jF) (k:GK):jF:=(T.filter fun q => !decide (q.1=k))++[(k,[])]
theorem zW {T:jF} {k k':GK}:jI (JQ T k) k'=if k'=k then some [] else jI T k':=by
 unfold jI JQ
 rw [List.find?_append,List.find?_filter]
 by_cases h:k'=k
 ·subst h
  have:T.find? (fun a=>decide ((!decide (a.1=k'))=true∧decide (a.1=k')=true))=none:=by
   rw [List.find?_eq_none]
   intro x _
   by_cases hx:x.1=k'<;>simp [hx]
  rw [this,if_pos rfl]
  simp
 ·have e:(fun a:GK×List (GK×GK)=>decide ((!decide (a.1=k))=true∧decide (a.1=k')=true))=fun a=>decide (a.1=k'):=by
   funext a
   by_cases hx:a.1=k'
   ·have:¬a.1=k:=fun z=>h (hx▸z)
    simp [hx,h]
   ·simp [hx]
  have n:¬k=k':=fun z=>h z.symm
  rw [e,if_neg h]
  cases T.find? (fun a=>decide (a.1=k'))<;>simp [n]
theorem mO {w:World} {H H':Hp} {d l:Addr} {T:jF} {kvs:List jQ} {k:GK} {y:V} {ls:List Addr} (hT:TabAt w H d T ls) (g:GOk H kvs) (ap:(∀k k' l,jN kvs k=some (.ref l)→jN kvs k'=some (.ref l)→k=k')∧(∀k l,jN kvs k=some (.ref l)→l∈ls)∧kvs.length≤ls.length∧∀k,(jN kvs k).isSome=true→(jI T k).isSome=true)
  (e3:∀k ps,jI T k=some ps→∃l xs,jN kvs k=some (.ref l)∧H l=some (.lst xs)∧PairsAt H xs ps) (hd:∀xs,H d≠some (.lst xs)) (hdt:∀xs,H d≠some (.tup xs)) (hnew:∀k',jN kvs k'≠some (.ref l)) (hy:(GV H k).1 y) (h8:gd k≤8)
  (kp:∀a o,a≠d→H a=some o→H' a=some o) (hl:H' l=some (.lst [])) (hd':H' d=some (GO w d (kJ kvs k y (.ref l)))):TabAt w H' d (JQ T k) (l::ls):=by
 have hk:∀a z,H a=some (.tup z)→H' a=some (.tup z):=fun a z e=>kp a _ (fun y=>by subst y;exact hdt _ e) e
 have hso:∀k',(jI T k').isSome=true→(jI (JQ T k) k').isSome=true:=fun k' h=>by rw [zW];split;rfl;exact h
 refine ⟨⟨_,hd',(g.set hy h8).keep hk,⟨fun k1 k2 l' a b=>?_,fun k1 l' a=>?_,by have h1:=J9 kvs k y (.ref l);have h2:=ap.2.2.1;rw [List.length_cons];omega,fun k1 h=>by rw [zU] at h;rw [zW];by_cases e:k1=k;rw [if_pos e];rfl;rw [if_neg e] at h ⊢;exact ap.2.2.2 k1 h⟩,fun k' ps' h=>?_⟩,fun k' ps' h=>?_,fun k' ps' q h hq=>?_,fun k' ps' h=>?_⟩
 ·rw [zU] at a b
  by_cases h1:k1=k<;>by_cases h2:k2=k
  ·rw [h1,h2]
  ·rw [if_pos h1] at a;rw [if_neg h2] at b;cases a;exact absurd b (hnew k2)
  ·rw [if_neg h1] at a;rw [if_pos h2] at b;cases b;exact absurd a (hnew k1)
  ·rw [if_neg h1] at a;rw [if_neg h2] at b;exact ap.1 _ _ _ a b
 ·rw [zU] at a
  by_cases h1:k1=k
  ·rw [if_pos h1] at a;cases a;exact List.mem_cons_self
  ·rw [if_neg h1] at a;exact List.mem_cons_of_mem _ (ap.2.1 _ _ a)
 all_goals rw [zW] at h
 ·by_cases h1:k'=k
  ·rw [if_pos h1] at h;cases h
   exact ⟨l,[],by rw [zU,if_pos h1],hl,rfl,fun i x e=>by cases e⟩
  ·rw [if_neg h1] at h
   obtain ⟨l',xs',f1,f2,f3⟩:=e3 k' ps' h
   exact ⟨l',xs',by rw [zU,if_neg h1];exact f1,kp l' _ (fun z=>by subst z;exact hd _ f2) f2,zN hk f3⟩
 ·by_cases h1:k'=k
  ·rw [if_pos h1] at h;cases h;exact Nat.zero_le _
  ·rw [if_neg h1] at h;exact hT.few k' ps' h
 ·by_cases h1:k'=k
  ·rw [if_pos h1] at h;cases h;cases hq
  ·rw [if_neg h1] at h;exact hso _ (hT.shut k' ps' q h hq)
 ·by_cases h1:k'=k
  ·rw [h1];exact h8
  ·rw [if_neg h1] at h;exact hT.deep k' ps' h
structure TabOk (m n c:Nat) (T:jF):Prop where
 dom:∀v,v<n→(jI T (jX m v)).isSome=true
 row:∀k ps,jI T k=some ps→ps.length≤c∧∀(i:Nat) p,ps[i]?=some p→p.1=qY m i
 cod:∀k ps,jI T k=some ps→∃v,v<n∧k=jX m v
theorem iM {m n c v u:Nat} {T:jF} {ps:List (GK×GK)} (h:TabOk m n c T) (hps:jI T (jX m v)=some ps):TabOk m n (c+1) (yG T (jX m v) (qY m ps.length,jX m u)):=by
 refine ⟨fun v' hv=>by rw [zT,Option.isSome_map];exact h.dom v' hv,fun k ps' hk=>?_,fun k ps' hk=>by rw [zT] at hk;obtain ⟨ps0,h0,_⟩:=Option.map_eq_some_iff.mp hk;exact h.cod k ps0 h0⟩
 rw [zT] at hk
 obtain ⟨ps0,h0,rfl⟩:=Option.map_eq_some_iff.mp hk
 obtain ⟨a,b⟩:=h.row k ps0 h0
 by_cases hkk:k=jX m v
 ·subst hkk
  rw [hps] at h0;cases h0
  rw [if_pos rfl]
  refine ⟨by rw [List.length_append,List.length_singleton];omega,fun i p e=>?_⟩
  by_cases hi:i<ps.length
  ·rw [List.getElem?_append_left hi] at e;exact b i p e
  ·rw [List.getElem?_append_right (by omega)] at e
   have hz:i - ps.length=0:=by have:=(List.getElem?_eq_some_iff.mp e).1;rw [List.length_singleton] at this;omega
   rw [hz] at e;cases e
   rw [show i=ps.length by omega]
 ·rw [if_neg hkk];exact ⟨by omega,b⟩
def dL (w:World) (K:W.Frag):Sp:=fun vs H Q _=>∃(a:Addr) (ns:List Int) (m n:Nat),vs=[.ref a,.int m,.int n]∧SqL K H a (ns.map V.int)∧ns.length≤63∧m≤4∧1≤n∧n≤999∧
 ∀d T ls H',TabAt w H' d T ls→TabOk m n 1100 T→Same H H'→(∀l∈ls,H l=none)→H d=none→Q (.ref d) H'
structure TabIn (w:World) (H Hi:Hp) (d:Addr) (m n c:Nat) (T:jF) (ls:List Addr):Prop where
 tab:TabAt w Hi d T ls
 ok:TabOk m n c T
 sm:Same H Hi
 new:∀l∈ls,H l=none
 dn:H d=none
 trk:∀l∈ls,∃xs,Hi l=some (.lst xs)
theorem TabIn.join {w:World} {H Hi H':Hp} {d:Addr} {m n c v u:Nat} {T:jF} {ls:List Addr} {ps:List (GK×GK)} (h:TabIn w H Hi d m n c T ls) (hps:jI T (jX m v)=some ps) (hT:TabAt w H' d (yG T (jX m v) (qY m ps.length,jX m u)) ls) (hk:fG ls Hi H') :
  TabIn w H H' d m n (c+1) (yG T (jX m v) (qY m ps.length,jX m u)) ls :=
 ⟨hT,iM h.ok hps,fun a o e=>hk.1 a o (fun hin=>by rw [h.new a hin] at e;cases e) (h.sm _ _ e),h.new,h.dn,fun l hl=>let ⟨xs,e⟩:=h.trk l hl;hk.2 l xs e⟩
theorem TabIn.same {w:World} {H Hi Hj:Hp} {d:Addr} {m n c:Nat} {T:jF} {ls:List Addr} (h:TabIn w H Hi d m n c T ls) (s:Same Hi Hj):TabIn w H Hj d m n c T ls:=⟨h.tab.same s,h.ok,h.sm.trans s,h.new,h.dn,fun l hl=>let ⟨xs,e⟩:=h.trk l hl;⟨xs,s _ _ e⟩⟩
theorem TabIn.mono {w:World} {H Hi:Hp} {d:Addr} {m n c c':Nat} {T:jF} {ls:List Addr} (h:TabIn w H Hi d m n c T ls) (hc:c≤c'):TabIn w H Hi d m n c' T ls :=
 ⟨h.tab,⟨h.ok.dom,fun k ps hk=>⟨Nat.le_trans (h.ok.row k ps hk).1 hc,(h.ok.row k ps hk).2⟩,h.ok.cod⟩,h.sm,h.new,h.dn,h.trk⟩
theorem i0 {w:World} {H:Hp} {d:Addr} (h:H d=some (GO w d [])):TabAt w H d [] [] :=
 ⟨⟨[],h,GOk.nil,⟨fun _ _ _ e=>absurd e (by simp [jN]),fun _ _ e=>absurd e (by simp [jN]),Nat.le_refl _,fun _ e=>absurd e (by simp [jN])⟩,fun _ _ e=>absurd e (by simp [jI])⟩,fun _ _ e=>absurd e (by simp [jI]),fun _ _ _ e=>absurd e (by simp [jI]),fun _ _ e=>absurd e (by simp [jI])⟩
structure MarkIn (w:World) (H Hi:Hp) (d:Addr) (m i:Nat) (M:GK→Bool):Prop where
 ex:∃kvs,Hi d=some (GO w d kvs)∧GOk Hi kvs∧kvs.length≤i∧∀v,v<i→jN kvs (jX m v)=some (.bl (M (jX m v)))
 sm:Same H Hi
 dn:H d=none
def dO (w:World):Sp:=fun vs H Q _=>∃(c:Int) (m n:Nat),vs=[.int c,.int m,.int n]∧m≤4∧1≤n∧n≤999∧∀d M H',MarkIn w H H' d m n M→Q (.ref d) H'
theorem Q8 {w:World} {H Hi H1:Hp} {d:Addr} {m i:Nat} {M:GK→Bool} {y:V} (hI:MarkIn w H Hi d m i M) (s1:Same Hi H1) (hy:(GV H1 (jX m i)).1 y) (b:Bool) :
  ∃kvs,H1 d=some (GO w d kvs)∧GOk H1 kvs∧kvs.length≤i∧MarkIn w H (jB H1 d (GO w d (kJ kvs (jX m i) y (.bl b)))) d m (i+1) (fun k=>if k=jX m i then b else M k):=by
 obtain ⟨kvs,e1,g,hl,hg⟩:=hI.ex
 have g1:=kW s1 g
 refine ⟨kvs,s1 _ _ e1,g1,hl,⟨_,jL,(g1.set hy (JF m i)).keep fun a l e=>?_,?_,fun v hv=>?_⟩,qM hI.dn (hI.sm.trans s1),hI.dn⟩
 ·rw [jD fun z=>by subst z;rw [s1 _ _ e1] at e;cases e];exact e
 ·have:=J9 kvs (jX m i) y (.bl b);omega
 ·rw [zU]
  by_cases h:jX m v=jX m i
  ·rw [if_pos h,if_pos h]
  ·rw [if_neg h,if_neg h]
   exact hg v (by have:v≠i:=fun z=>h (by rw [z]);omega)
theorem QQ {a b:Int} (h:0<b):∃k:Nat,a%b=(k:Int)∧(k:Int)<b:=by
 have h1:=Int.emod_nonneg a (by omega:b≠0)
 have h2:=Int.emod_lt_of_pos a h
 exact ⟨(a%b).toNat,by omega,by omega⟩
def Clo1 (H:Hp) (f:Addr) (st:Stmt) (qual:Str) (x:Str) (d:Addr):Prop:=∃c cdv fd,c≠d∧CloAt H f qual (j5 st) (jT st) (jH st) [(x,c)] [.ref d] cdv fd
theorem Clo1.same {H H':Hp} {f:Addr} {st:Stmt} {qual x:Str} {d:Addr} (s:Same H H') (h:Clo1 H f st qual x d):Clo1 H' f st qual x d:=let ⟨c,cdv,fd,n,C⟩:=h;⟨c,cdv,fd,n,dE s C⟩
theorem rM {α:Type} {P:α→Prop} {a b:α} (h1:P a) (h2:P b):∀q∈[a,b],P q:=fun q hq=>by
 rcases List.mem_cons.mp hq with rfl|hq
 ·exact h1
 ·cases List.mem_singleton.mp hq;exact h2
def z5 (tL:Addr) (H H':Hp):Prop:=∀a o,a≠tL→H a=some o→H' a=some o
theorem v8 {H H':Hp} {tL a:Addr} {tp:Array Value} {o:HO} (k:z5 tL H H') (ht:H tL=some (.tbl tp)) (e:H a=some o) (hn:o≠.tbl tp):H' a=some o:=k a o (fun z=>hn (by subst z;rw [ht] at e;cases e;rfl)) e
theorem QA {H H':Hp} {tL:Addr} {tp:Array Value} (k:z5 tL H H') (ht:H tL=some (.tbl tp)):∀a l,H a=some (.tup l)→H' a=some (.tup l):=fun a l e=>v8 k ht e (fun z=>by cases z)
theorem TabAt.keepT {w:World} {H H':Hp} {tL d:Addr} {tp:Array Value} {T:jF} {ls:List Addr} (k:z5 tL H H') (ht:H tL=some (.tbl tp)) (h:TabAt w H d T ls):TabAt w H' d T ls:=by
 have tk:=QA k ht
 obtain ⟨⟨kvs,e1,e2,ap,e3⟩,e4,e5,e6⟩:=h
 refine ⟨⟨kvs,v8 k ht e1 (fun z=>by cases z),e2.keep tk,ap,fun k' ps hk=>?_⟩,e4,e5,e6⟩
 obtain ⟨l,xs,f1,f2,f3⟩:=e3 k' ps hk
 exact ⟨l,xs,f1,v8 k ht f2 (fun z=>by cases z),zN tk f3⟩
theorem nB {w:World} {H0 H:Hp} {d:Addr} {m n c:Nat} {T:jF} {M:GK→Bool} (hI:MarkIn w H0 H d m n M) (hO:TabOk m n c T):MarkAt w H d T M:=by
 obtain ⟨kvs,e1,g,_,hg⟩:=hI.ex
 refine ⟨kvs,e1,g,fun k hk=>?_⟩
 obtain ⟨ps,hps⟩:=Option.isSome_iff_exists.mp hk
 obtain ⟨v,hv,rfl⟩:=hO.cod k ps hps
 exact hg v hv
theorem MarkAt.keepT {w:World} {H H':Hp} {tL d:Addr} {tp:Array Value} {T:jF} {M:GK→Bool} (k:z5 tL H H') (ht:H tL=some (.tbl tp)) (h:MarkAt w H d T M):MarkAt w H' d T M:=by
 obtain ⟨kvs,e1,e2,e3⟩:=h.ex
 exact ⟨kvs,v8 k ht e1 (fun z=>by cases z),e2.keep (QA k ht),e3⟩
theorem KeysAt.keep {H H':Hp} {xs:List V} {ks:List GK} (tk:∀a l,H a=some (.tup l)→H' a=some (.tup l)) (h:KeysAt H xs ks):KeysAt H' xs ks:=⟨h.1,fun i x e=>by
 obtain ⟨k,e1,e2,e3⟩:=h.2 i x e
 exact ⟨k,e1,(GV.keep tk k).1 _ e2,e3⟩⟩
def FnIs (H:Hp) (f:Addr) (st:Stmt) (qual x:Str) (c:Addr):Prop:=∃(fo:Obj) (name:Str) (doc pm:Value) (an:Option Addr) (ct:Value) (c':Addr) (oc:Obj),H f=some (FnO f fo)∧fo.data=.func (W.fnX name qual (j5 st) (jT st) (jH st) [(x,c)] .none .none doc pm an (.ref c') ct)∧H c'=some (FnO c' oc)∧∃vs t,oc.data=.fields vs∧vs[1]?=some (.str qual t)
theorem FnIs.same {H H':Hp} {f c:Addr} {st:Stmt} {qual x:Str} (s:Same H H') (h:FnIs H f st qual x c):FnIs H' f st qual x c:=by
 obtain ⟨fo,name,doc,pm,an,ct,c',oc,e1,e2,e3,e4⟩:=h
 exact ⟨fo,name,doc,pm,an,ct,c',oc,s _ _ e1,e2,s _ _ e3,e4⟩
theorem FnIs.clo {H HC:Hp} {cs:List Addr} {f c d:Addr} {st:Stmt} {qual x:Str} {o:Obj} {u:Value} (h:FnIs H f st qual x c) (hn:∀c∈cs,H c=none) (hc:c∈cs) (e1:HC c=some (FnO c o)) (e2:o.data=.cell (some u)) (rv:RelV (.ref d) u) (hd:H d≠none):Clo1 (kI H HC cs) f st qual x d:=by
 obtain ⟨fo,name,doc,pm,an,ct,c',oc,f1,f2,f3,vs,t,f4,f5⟩:=h
 have out:∀b v,H b=some v→kI H HC cs b=some v:=fun b v e=>by rw [kL fun z=>by rw [hn b z] at e;cases e];exact e
 refine ⟨c,.ref c',_,fun z=>hd (z▸hn c hc),⟨fo,name,doc,pm,an,ct,out _ _ f1,f2,rfl⟩,⟨c',oc,vs,t,rfl,out _ _ f3,f4,f5⟩,by simp,rfl,fun i y c2 v h1 h2=>?_⟩
 match i,h1,h2 with
 |0,h1,h2=>cases h1;cases h2;exact ⟨o,u,by rw [vY hc];exact e1,e2,rv⟩
 |i+1,h1,_=>cases h1
theorem bV {H HC:Hp} {cs:List Addr} (hn:∀c∈cs,H c=none):Same H (kI H HC cs):=fun b v e=>by rw [kL fun z=>by rw [hn b z] at e;cases e];exact e
theorem cF {H H' HC:Hp} {cs:List Addr} (hn:∀c∈cs,H c=none) (s:Same (kI H HC cs) H'):Same H (kK H' cs):=fun b v e=>by
 rw [j8 fun z=>by rw [hn b z] at e;cases e]
 exact s _ _ (bV hn _ _ e)
def QI (tL:Addr) (K:W.Frag):Sp:=fun vs H Q _=>∃(a:Addr) (ns:List Int),vs=[.ref a]∧SqL K H a (ns.map V.int)∧ns.length≤63∧H tL=some (.tbl #[])∧∀H',Q (.bl true) H'
theorem JL {H:Hp} {P f c:Addr} {o2 o3:HO} {tp:Array Value} (n1:f≠P) (n2:c≠P):jB (jB (jB H P (.tbl tp)) f o2) c o3 P=some (.tbl tp):=by rw [jD n2.symm,jD n1.symm,jL]
theorem vW {H:Hp} {P f c:Addr} {o1 o2 o3:HO} (h1:H f=none) (h2:H c=none):z5 P H (jB (jB (jB H P o1) f o2) c o3):=fun a o n e=>by
 rw [jD (kZ e h2),jD (kZ e h1),jD n];exact e
def sE (s:Str):Nat:=(s.cps.toList.drop 1).foldl (fun a c=>a*10+(c - 48)) 0
theorem fB:∀v:Nat,v<1201→sE ("d"++Str.ofString (toString (v:Int)))=v:=by decide +kernel
theorem lH {m i j:Nat} (hi:i<1201) (hj:j<1201) (h:qY m i=qY m j):i=j:=by
 have H:∀x,qY m x=if kindD m x=0 then .i x else if kindD m x=1 then .s ("d"++Str.ofString (toString (x:Int))) else .cons (.s "go") (.cons (.i x) .nil):=fun _=>rfl
 by_cases a:kindD m i=0<;>by_cases b:kindD m j=0
 ·rw [H i,if_pos a,H j,if_pos b] at h;injection h with h;omega
 ·rw [H i,if_pos a,H j,if_neg b] at h
  by_cases b':kindD m j=1
  ·rw [if_pos b'] at h;cases h
  ·rw [if_neg b'] at h;cases h
 ·rw [H i,if_neg a,H j,if_pos b] at h
  by_cases a':kindD m i=1
  ·rw [if_pos a'] at h;cases h
  ·rw [if_neg a'] at h;cases h
 rw [H i,if_neg a,H j,if_neg b] at h
 by_cases a':kindD m i=1<;>by_cases b':kindD m j=1
 ·rw [if_pos a',if_pos b'] at h;injection h with h;rw [← fB i hi,h,fB j hj]
 ·rw [if_pos a',if_neg b'] at h;cases h
 ·rw [if_neg a',if_pos b'] at h;cases h
 ·rw [if_neg a',if_neg b'] at h;injection h with _ h;injection h with h _;injection h with h;omega
theorem dB {m:Nat} {de:GK}:∀(ps:List (GK×GK)) (o:Nat),ps.length+o≤1200→(∀(i:Nat) p,ps[i]?=some p→p.1=qY m (o+i))→(ps.filter fun z=>decide (z.1=de)).length≤1
 |[],_,_,_=>Nat.zero_le _
 |p::ps,o,hl,h=>by
  rw [List.length_cons] at hl
  have ih:=dB (m:=m) (de:=de) ps (o+1) (by omega) (fun i q e=>by rw [h (i+1) q (by rw [List.getElem?_cons_succ];exact e)];congr 1;omega)
  rw [List.filter_cons]
  split
  ·rename_i hp
   have h0:=h 0 p rfl
   have hn:ps.filter (fun z=>decide (z.1=de))=[]:=by
    rw [List.filter_eq_nil_iff]
    intro q hq hd
    obtain ⟨i,hi⟩:=List.mem_iff_getElem?.mp hq
    have h1:=h (i+1) q (by rw [List.getElem?_cons_succ];exact hi)
    have hlt:=(List.getElem?_eq_some_iff.mp hi).1
    have e1:p.1=de:=of_decide_eq_true hp
    have e2:q.1=de:=of_decide_eq_true hd
    have:=lH (m:=m) (i:=o+0) (j:=o+(i+1)) (by omega) (by omega) (by rw [← h0,← h1,e1,e2])
    omega
   rw [hn];exact Nat.le_refl _
  ·exact ih
theorem ZE {H H':Hp} {a:Addr} {u:HO} (s:Same H H') (h:Rd H a u):Rd H' a u:=by
 rcases h with h|⟨o,h⟩
 ·exact .inl (s _ _ h)
 ·exact .inr ⟨o,s _ _ h⟩
structure TabR (w:World) (H:Hp) (d:Addr) (T:jF) (ls:List Addr):Prop where
 ex:∃kvs,Rd H d (GO w d kvs)∧GOk H kvs∧((∀k k' l,jN kvs k=some (.ref l)→jN kvs k'=some (.ref l)→k=k')∧(∀k l,jN kvs k=some (.ref l)→l∈ls)∧kvs.length≤ls.length∧∀k,(jN kvs k).isSome=true→(jI T k).isSome=true)∧∀k ps,jI T k=some ps→∃l xs,jN kvs k=some (.ref l)∧H l=some (.lst xs)∧PairsAt H xs ps
 few:∀k ps,jI T k=some ps→ps.length≤1200
 shut:∀k ps p,jI T k=some ps→p∈ps→(jI T p.2).isSome=true
 deep:∀k ps,jI T k=some ps→gd k≤8
theorem TabR.same {w:World} {H H':Hp} {d:Addr} {T:jF} {ls:List Addr} (s:Same H H') (h:TabR w H d T ls):TabR w H' d T ls:=by
 obtain ⟨⟨kvs,e1,e2,ap,e3⟩,e4,e5,e6⟩:=h
 refine ⟨⟨kvs,ZE s e1,kW s e2,ap,fun k ps hk=>?_⟩,e4,e5,e6⟩
 obtain ⟨l,xs,f1,f2,f3⟩:=e3 k ps hk
 exact ⟨l,xs,f1,s _ _ f2,f3.same s⟩
theorem TabAt.rd {w:World} {H:Hp} {d:Addr} {T:jF} {ls:List Addr} (h:TabAt w H d T ls):TabR w H d T ls:=by
 obtain ⟨⟨kvs,e1,e2,ap,e3⟩,e4,e5,e6⟩:=h
 exact ⟨⟨kvs,.of e1,e2,ap,e3⟩,e4,e5,e6⟩
def cJ (w:World):List Addr→List V→Sp:=fun cs fvs vs H Q _=>∃(y:V) (d:Addr) (anew:Bool) (kvs:List jQ) (k:GK) (l:Addr) (zs:List V),fvs=[.ref d,.bl anew]∧vs=[y]∧d∉cs∧Rd H d (GO w d kvs)∧GOk H kvs∧(GV H k).1 y∧gd k≤8∧jN kvs k=some (.ref l)∧H l=some (.lst zs)∧
 ∀p H',Same H H'→H' p=some (.lst zs)→(p=l∨H p=none)→Q (.ref p) H'
theorem eD {H:Hp} {cs:List Addr} {d:Addr} {u:HO} (hd:d∉cs) (h:Rd H d u):Rd (kK H cs) d u:=by
 rcases h with h|⟨o,h⟩
 ·exact .inl (by rw [j8 hd];exact h)
 ·exact .inr ⟨o,by rw [j8 hd];exact h⟩
def CloA (st:Stmt) (H:Hp) (f:Addr) (d:Addr):Prop:=∃(anew:Bool) (c1 c2:Addr) (cdv:Value) (fd:FuncData),c1≠d∧c2≠d∧CloAt H f "law.<locals>._law_ahead" (j5 st) (jT st) (jH st) [("_law_table_here",c2),("_law_anew",c1)] [.ref d,.bl anew] cdv fd
theorem CloA.same {st:Stmt} {H H':Hp} {f d:Addr} (s:Same H H') (h:CloA st H f d):CloA st H' f d:=let ⟨b,c1,c2,cdv,fd,n1,n2,C⟩:=h;⟨b,c1,c2,cdv,fd,n1,n2,dE s C⟩
theorem KeysAt.rev {H:Hp} {xs:List V} {ks:List GK} (h:KeysAt H xs ks):KeysAt H xs.reverse ks.reverse:=⟨by rw [List.length_reverse,List.length_reverse,h.1],fun i x e=>by
  have hi:=(List.getElem?_eq_some_iff.mp e).1
  rw [List.length_reverse] at hi
  rw [List.getElem?_reverse hi] at e
  rw [List.getElem?_reverse (by rw [← h.1];exact hi),← h.1]
  exact h.2 _ x e⟩
def kO (T:jF) (k:GK):List (GK×GK):=(jI T k).getD []
def qP (met acc:List GK) (p:GK×GK):List GK:=if p.2∈met++acc then acc else acc++[p.2]
def qD (met acc:List GK) (ps:List (GK×GK)):List GK:=ps.foldl (qP met) acc
def kE (T:jF) (met acc lay:List GK):List GK:=lay.foldl (fun a k=>qD met a (kO T k)) acc
theorem zM {met acc:List GK} {ps:List (GK×GK)} {p:GK×GK}:qD met acc (ps++[p])=qP met (qD met acc ps) p:=by
 unfold qD;rw [List.foldl_append];rfl
theorem Q2 {T:jF} {met acc lay:List GK} {k:GK}:kE T met acc (lay++[k])=qD met (kE T met acc lay) (kO T k):=by
 unfold kE;rw [List.foldl_append];rfl
def jO (T:jF) (k0:GK):Nat→List (List GK)
 |0=>[[k0]]
 |i+1=>jO T k0 i++[kE T (jO T k0 i).flatten [] ((jO T k0 i).getLast?.getD [])]
def jM (T:jF) (k0:GK) (i:Nat):List GK:=(jO T k0 i).getLast?.getD []
def yF (T:jF) (k0:GK) (i:Nat):List GK:=kE T (jO T k0 i).flatten [] (jM T k0 i)
def qI (T:jF) (M:GK→Bool) (k0:GK) (i:Nat):Prop:=(jM T k0 i).any M=true∨yF T k0 i=[]
theorem JG {T:jF} {k0:GK} {i:Nat}:jO T k0 (i+1)=jO T k0 i++[yF T k0 i]:=rfl
theorem zO {T:jF} {k0:GK} {i:Nat}:jM T k0 (i+1)=yF T k0 i:=by
 unfold jM;rw [JG];simp
theorem v7 {T:jF} {k0:GK}:∀i,(jO T k0 i).length=i+1
 |0=>rfl
 |i+1=>by rw [JG,List.length_append,v7 i];rfl
theorem v6 {T:jF} {k0:GK} {i:Nat}:(jO T k0 (i+1)).flatten=(jO T k0 i).flatten++yF T k0 i:=by
 rw [JG,List.flatten_append];simp
theorem bY {T:jF} {k0:GK} {i:Nat}:∀d,(jO T k0 i).flatten.length≤(jO T k0 (i+d)).flatten.length
 |0=>Nat.le_refl _
 |d+1=>by
  have h1:=bY (T:=T) (k0:=k0) (i:=i) d
  have h2:(jO T k0 (i+(d+1))).flatten=(jO T k0 (i+d)).flatten++yF T k0 (i+d):=v6
  rw [h2,List.length_append];omega
theorem JI {T:jF} {k0:GK} (i:Nat):(jO T k0 i)[i]?=some (jM T k0 i):=by
 unfold jM
 have hl:=v7 (T:=T) (k0:=k0) i
 rw [List.getLast?_eq_getElem?,hl,Nat.add_sub_cancel,List.getElem?_eq_getElem (by omega)];rfl
theorem mM {met acc:List GK} {p:GK×GK} {x:GK} (h:x∈qP met acc p):x∈acc∨x=p.2:=by
 unfold qP at h
 split at h
 ·exact .inl h
 ·rcases List.mem_append.mp h with h|h
  ·exact .inl h
  ·exact .inr (List.mem_singleton.mp h)
theorem bK {met:List GK} {x:GK}:∀(ps:List (GK×GK)) (acc:List GK),x∈qD met acc ps→x∈acc∨∃p∈ps,x=p.2
 |[],acc,h=>.inl h
 |p::ps,acc,h=>by
  rcases bK ps _ (show x∈qD met (qP met acc p) ps from h) with h|⟨q,hq,e⟩
  ·rcases mM h with h|h
   ·exact .inl h
   ·exact .inr ⟨p,List.mem_cons_self,h⟩
  ·exact .inr ⟨q,List.mem_cons_of_mem _ hq,e⟩
theorem bL {T:jF} {met:List GK} {x:GK}:∀(lay acc:List GK),x∈kE T met acc lay→x∈acc∨∃k∈lay,∃p∈kO T k,x=p.2
 |[],acc,h=>.inl h
 |k::lay,acc,h=>by
  rcases bL lay _ (show x∈kE T met (qD met acc (kO T k)) lay from h) with h|⟨q,hq,e⟩
  ·rcases bK _ _ h with h|⟨p,hp,e⟩
   ·exact .inl h
   ·exact .inr ⟨k,List.mem_cons_self,p,hp,e⟩
  ·exact .inr ⟨q,List.mem_cons_of_mem _ hq,e⟩
def QR (T:jF):Prop:=∀k ps p,jI T k=some ps→p∈ps→(jI T p.2).isSome=true
theorem ZA {T:jF} (h:QR T) {k:GK} {p:GK×GK} (hp:p∈kO T k):(jI T p.2).isSome=true:=by
 unfold kO at hp
 cases e:jI T k with
 |none=>rw [e] at hp;cases hp
 |some ps=>rw [e] at hp;exact h k ps p e hp
theorem lG {T:jF} (h:QR T) {met lay:List GK} {x:GK} (hx:x∈kE T met [] lay):(jI T x).isSome=true:=by
 rcases bL lay [] hx with hx|⟨k,_,p,hp,rfl⟩
 ·cases hx
 ·exact ZA h hp
theorem yS {T:jF} (h:QR T) {k0:GK} (h0:(jI T k0).isSome=true):∀(i:Nat) (x:GK),x∈(jO T k0 i).flatten→(jI T x).isSome=true
 |0,x,hx=>by
  have:x=k0:=by simpa [jO] using hx
  rw [this];exact h0
 |i+1,x,hx=>by
  rw [v6] at hx
  rcases List.mem_append.mp hx with hx|hx
  ·exact yS h h0 i x hx
  ·exact lG h hx
theorem zS {T:jF} {k0 x:GK} {i:Nat} (hx:x∈jM T k0 i):x∈(jO T k0 i).flatten :=
 List.mem_flatten.mpr ⟨_,List.mem_of_getElem? (JI i),hx⟩
theorem cV {α:Type} [DecidableEq α]:∀{l m:List α},l.Nodup→(∀x∈l,x∈m)→l.length≤m.length
 |[],_,_,_=>Nat.zero_le _
 |a::l,m,hn,hs=>by
  rw [List.nodup_cons] at hn
  have h1:=hs a List.mem_cons_self
  have ih:=cV (l:=l) (m:=m.erase a) hn.2 (fun x hx=>(List.mem_erase_of_ne (fun e:x=a=>hn.1 (by rw [← e];exact hx))).mpr (hs x (List.mem_cons_of_mem _ hx)))
  rw [List.length_erase_of_mem h1] at ih
  have:0<m.length:=List.length_pos_of_mem h1
  rw [List.length_cons];omega
theorem vU {m n c:Nat} {T:jF} (hO:TabOk m n c T) {l:List GK} (hn:l.Nodup) (hd:∀x∈l,(jI T x).isSome=true):l.length≤n:=by
 have:=cV (m:=(List.range n).map (jX m)) hn fun x hx=>by
  obtain ⟨ps,hps⟩:=Option.isSome_iff_exists.mp (hd x hx)
  obtain ⟨v,hv,rfl⟩:=hO.cod x ps hps
  exact List.mem_map.mpr ⟨v,List.mem_range.mpr hv,rfl⟩
 rwa [List.length_map,List.length_range] at this
theorem iX {met acc:List GK} {p:GK×GK} (h:(met++acc).Nodup):(met++qP met acc p).Nodup:=by
 unfold qP
 split
 ·exact h
 ·rename_i hp
  rw [← List.append_assoc,List.nodup_append]
  exact ⟨h,by simp,fun a ha b hb e=>by cases List.mem_singleton.mp hb;subst e;exact hp ha⟩
theorem Z7 {met:List GK}:∀(ps:List (GK×GK)) (acc:List GK),(met++acc).Nodup→(met++qD met acc ps).Nodup
 |[],_,h=>h
 |p::ps,acc,h=>Z7 ps _ (iX h)
theorem Z8 {T:jF} {met:List GK}:∀(lay acc:List GK),(met++acc).Nodup→(met++kE T met acc lay).Nodup
 |[],_,h=>h
 |k::lay,acc,h=>Z8 lay _ (Z7 _ _ h)
theorem vS {T:jF} {k0:GK}:∀i,(jO T k0 i).flatten.Nodup
 |0=>by simp [jO]
 |i+1=>by
  rw [v6]
  exact Z8 _ [] (by rw [List.append_nil];exact vS i)
theorem J7 {kvs:List jQ} {k:GK}:(jN kvs k).isSome=decide (k∈kvs.map (·.1)):=by
 unfold jN
 rw [Option.isSome_map,Bool.eq_iff_iff]
 simp only [List.find?_isSome,decide_eq_true_eq,List.mem_map]
theorem cN {kvs:List jQ} {k:GK} {y v:V} (h:k∉kvs.map (·.1)):kJ kvs k y v=kvs++[(k,y,v)]:=by
 unfold kJ
 rw [if_neg]
 rw [List.any_eq_true]
 rintro ⟨x,hx,e⟩
 exact h (List.mem_map.mpr ⟨x,hx,of_decide_eq_true e⟩)
theorem QE {kvs:List jQ} (hn:(kvs.map (·.1)).Nodup) {i:Nat} {p:jQ} (h:kvs[i]?=some p):jN kvs p.1=some p.2.2:=by
 unfold jN
 have:kvs.find? (fun x=>decide (x.1=p.1))=some p:=by
  induction kvs generalizing i with
  |nil=>cases h
  |cons q t ih =>
   rw [List.map_cons,List.nodup_cons] at hn
   cases i with
   |zero=>cases h;simp
   |succ i =>
    have h':t[i]?=some p:=h
    have hne:¬q.1=p.1:=fun e=>hn.1 (e▸List.mem_map.mpr ⟨p,List.mem_of_getElem? h',rfl⟩)
    rw [List.find?_cons_of_neg (by simpa using hne)]
    exact ih hn.2 h'
 rw [this];rfl
abbrev CR:=(GK→Prop)×(GK→GK→GK→Prop)
def ZY (T:jF) (k0 kp x:GK):Prop:=∃j,kp∈jM T k0 j∧x∈jM T k0 (j+1)
def Z0 (T:jF) (k0:GK):CR:=(fun x=>x=k0,fun kp de x=>(de,x)∈kO T kp∧ZY T k0 kp x)
def CameV (H:Hp) (T:CR) (met:List GK) (i:Nat) (p:jQ):Prop:=(p.2.2=.non∧T.1 p.1)∨∃(t:Addr) (yp dv:V) (kp de:GK) (j:Nat),p.2.2=.ref t∧H t=some (.tup [yp,dv])∧(GV H kp).1 yp∧gd kp≤8∧(GV H de).1 dv∧gd de≤8∧j<i∧met[j]?=some kp∧T.2 kp de p.1
structure CameAt (w:World) (H:Hp) (d:Addr) (T:CR) (met:List GK):Prop where
 ex:∃kvs,H d=some (GO w d kvs)∧GOk H kvs∧kvs.map (·.1)=met∧∀(i:Nat) p,kvs[i]?=some p→CameV H T met i p
def yH (b:Addr) (H H':Hp):Prop:=∀a o,a≠b→H a=some o→H' a=some o
theorem CameV.keep {H H':Hp} {T:CR} {met met':List GK} {i:Nat} {p:jQ} (h:CameV H T met i p) (hk:∀a l,H a=some (.tup l)→H' a=some (.tup l)) (hm:∀(j:Nat) x,met[j]?=some x→met'[j]?=some x):CameV H' T met' i p:=by
 rcases h with h|⟨t,yp,dv,kp,de,j,e1,e2,e3,e4,e5,e6,e7,e8,e9⟩
 ·exact .inl h
 ·exact .inr ⟨t,yp,dv,kp,de,j,e1,hk _ _ e2,(GV.keep hk kp).1 _ e3,e4,(GV.keep hk de).1 _ e5,e6,e7,hm _ _ e8,e9⟩
theorem CameAt.same {w:World} {H H':Hp} {d:Addr} {T:CR} {met:List GK} (s:Same H H') (h:CameAt w H d T met):CameAt w H' d T met:=by
 obtain ⟨kvs,e1,g,e2,e3⟩:=h.ex
 exact ⟨kvs,s _ _ e1,kW s g,e2,fun i p hp=>(e3 i p hp).keep (fun a l e=>s _ _ e) fun _ _ e=>e⟩
theorem ZK {α:Type} {l m:List α} {j:Nat} {x:α} (h:l[j]?=some x):(l++m)[j]?=some x:=by rw [List.getElem?_append_left (List.getElem?_eq_some_iff.mp h).1];exact h
theorem CameAt.put {w:World} {H1 H':Hp} {d t:Addr} {T:CR} {met:List GK} {kvs:List jQ} {k kp de:GK} {y yp dv:V} (e1:H1 d=some (GO w d kvs)) (g:GOk H1 kvs) (e2:kvs.map (·.1)=met) (e3:∀(i:Nat) p,kvs[i]?=some p→CameV H1 T met i p) (hk:k∉met) (hy:(GV H1 k).1 y) (h8:gd k≤8) (ht:H1 t=some (.tup [yp,dv])) (hp:(GV H1 kp).1 yp) (hp8:gd kp≤8) (hd:(GV H1 de).1 dv) (hd8:gd de≤8) (hm:kp∈met) (ha:T.2 kp de k)
  (tk:∀a l,H1 a=some (.tup l)→H' a=some (.tup l)) (hd':H' d=some (GO w d (kJ kvs k y (.ref t)))):CameAt w H' d T (met++[k]):=by
 have g2:=(g.set (v:=.ref t) hy h8).keep tk
 rw [cN (by rw [e2];exact hk)] at hd' g2
 refine ⟨_,hd',g2,by rw [List.map_append,e2];rfl,fun i p hp'=>?_⟩
 by_cases hi:i<kvs.length
 ·rw [List.getElem?_append_left hi] at hp'
  exact (e3 i p hp').keep tk fun _ _ e=>ZK e
 ·rw [List.getElem?_append_right (by omega)] at hp'
  have hz:i - kvs.length=0:=by have:=(List.getElem?_eq_some_iff.mp hp').1;rw [List.length_singleton] at this;omega
  rw [hz] at hp'
  cases hp'
  obtain ⟨j,hj⟩:=List.mem_iff_getElem?.mp hm
  have hlt:=(List.getElem?_eq_some_iff.mp hj).1
  have hl:kvs.length=met.length:=by rw [← e2,List.length_map]
  exact .inr ⟨t,yp,dv,kp,de,j,rfl,tk _ _ ht,(GV.keep tk kp).1 _ hp,hp8,(GV.keep tk de).1 _ hd,hd8,by omega,ZK hj,ha⟩
theorem Q1 {met:List GK} {x:GK}:∀(ps:List (GK×GK)) (acc:List GK),x∈acc→x∈qD met acc ps
 |[],_,h=>h
 |p::ps,acc,h=>Q1 ps _ (by unfold qP;split;exact h;exact List.mem_append_left _ h)
theorem bC {T:jF} {met:List GK} {x:GK}:∀(lay acc:List GK),x∈acc→x∈kE T met acc lay
 |[],_,h=>h
 |k::lay,acc,h=>bC lay _ (Q1 _ _ h)
theorem iT {met acc:List GK} {a b:List (GK×GK)}:qD met acc (a++b)=qD met (qD met acc a) b:=by unfold qD;rw [List.foldl_append]
theorem iU {T:jF} {met acc a b:List GK}:kE T met acc (a++b)=kE T met (kE T met acc a) b:=by unfold kE;rw [List.foldl_append]
theorem mG {T:jF} {met lay:List GK} {i j:Nat} {k x:GK} {ps:List (GK×GK)} (hk:lay[i]?=some k) (ha:kO T k=ps) (h:x∈qD met (kE T met [] (lay.take i)) (ps.take j)):x∈kE T met [] lay:=by
 have h1:x∈kE T met [] (lay.take (i+1)):=by
  rw [List.take_add_one,hk]
  show x∈kE T met [] (lay.take i++[k])
  rw [Q2,ha,← List.take_append_drop j ps,iT]
  exact Q1 _ _ h
 rw [← List.take_append_drop (i+1) lay,iU]
 exact bC _ _ h1
theorem cX {T:jF} {k0 x:GK} {a b:Nat} (ha:x∈jM T k0 a) (hb:x∈jM T k0 b):a=b:=by
 have key:∀a b:Nat,a<b→x∈jM T k0 a→x∈jM T k0 b→False:=fun a b hab ha hb=>by
  obtain ⟨c,rfl⟩:∃c,b=c+1:=⟨b - 1,by omega⟩
  rw [zO] at hb
  have hn:=vS (T:=T) (k0:=k0) (c+1)
  rw [v6,List.nodup_append] at hn
  have hm:x∈(jO T k0 c).flatten:=by
   obtain ⟨e,rfl⟩:∃e,c=a+e:=⟨c - a,by omega⟩
   clear hn hb hab
   induction e with
   |zero=>exact zS ha
   |succ e ih=>rw [show a+(e+1)=(a+e)+1 by omega,v6];exact List.mem_append_left _ ih
  exact hn.2.2 x hm x hb rfl
 rcases Nat.lt_trichotomy a b with h|h|h
 ·exact (key a b h ha hb).elim
 ·exact h
 ·exact (key b a h hb ha).elim
def v2 (T:jF):GK→List GK→GK→Prop
 |a,[],c=>a=c
 |a,de::r,c=>∃b,(de,b)∈kO T a∧v2 T b r c
structure NextIn (R0:CR) (w:World) (H Hi:Hp) (dc r:Addr) (T:jF) (met acc:List GK):Prop where
 keep:yH dc H Hi
 rn:H r=none
 nr:r≠dc
 row:∃ys,Hi r=some (.lst ys)∧KeysAt Hi ys acc
 came:CameAt w Hi dc R0 (met++acc)
 dom:∀x∈acc,(jI T x).isSome=true
theorem NextIn.put {R0:CR} {w:World} {H Hj:Hp} {dc r t2:Addr} {T:jF} {met acc:List GK} {kvs:List jQ} {ys:List V} {k:GK} {pr:GK×GK} {x b c:V} (h:NextIn R0 w H Hj dc r T met acc) (e1:Hj dc=some (GO w dc kvs)) (g:GOk Hj kvs) (e2:kvs.map (·.1)=met++acc) (e3:∀(i:Nat) p,kvs[i]?=some p→CameV Hj R0 (met++acc) i p) (er:Hj r=some (.lst ys)) (hks:KeysAt Hj ys acc)
  (hn:pr.2∉met++acc) (ht:Hj t2=none) (hx:(GV Hj k).1 x) (hx8:gd k≤8) (hm:k∈met) (hb:(GV Hj pr.1).1 b) (hb8:gd pr.1≤8) (hc:(GV Hj pr.2).1 c) (hc8:gd pr.2≤8) (ha:R0.2 k pr.1 pr.2) (hd:(jI T pr.2).isSome=true) :
  NextIn R0 w H (jB (jB (jB Hj t2 (.tup [x,b])) dc (GO w dc (kJ kvs pr.2 c (.ref t2)))) r (.lst (ys++[c]))) dc r T met (acc++[pr.2]):=by
 have u:=jS ht (.tup [x,b])
 have tk1:∀a l,jB Hj t2 (.tup [x,b]) a=some (.tup l)→jB (jB (jB Hj t2 (.tup [x,b])) dc (GO w dc (kJ kvs pr.2 c (.ref t2)))) r (.lst (ys++[c])) a=some (.tup l):=fun a l e=>by
  rw [jD (fun z=>by rw [z,u _ _ er] at e;cases e),jD (fun z=>by rw [z,u _ _ e1] at e;cases e)];exact e
 have tk:∀a l,Hj a=some (.tup l)→jB (jB (jB Hj t2 (.tup [x,b])) dc (GO w dc (kJ kvs pr.2 c (.ref t2)))) r (.lst (ys++[c])) a=some (.tup l):=fun a l e=>tk1 a l (u _ _ e)
 refine ⟨fun a o n e=>?_,h.rn,h.nr,⟨_,jL,hks.snoc tk hc hc8⟩,?_,fun y hy=>?_⟩
 ·rw [jD (kZ e h.rn),jD n];exact u _ _ (h.keep a o n e)
 ·have:=CameAt.put (H':=jB (jB (jB Hj t2 (.tup [x,b])) dc (GO w dc (kJ kvs pr.2 c (.ref t2)))) r (.lst (ys++[c]))) (u _ _ e1) (kW u g) e2 (fun i p hp=>(e3 i p hp).keep (fun a l e=>u _ _ e) fun _ _ e=>e) hn (jW u hc) hc8 (show jB Hj t2 (.tup [x,b]) t2=_ from jL) (jW u hx) hx8 (jW u hb) hb8 (List.mem_append_left _ hm) ha
   tk1 (by rw [jD h.nr.symm,jL])
  rwa [List.append_assoc] at this
 ·rcases List.mem_append.mp hy with hy|hy
  ·exact h.dom y hy
  ·rw [List.mem_singleton.mp hy];exact hd
theorem atI_last {xs:List V} {v:V} {n:Nat} (hn:xs.length=n+1) (h:xs[n]?=some v):qQ xs (-1)=some v:=by
 have e:vO xs.length (-1)=some n:=by
  unfold vO
  rw [if_neg (by decide),if_pos (by omega)]
  congr 1
  omega
 unfold qQ
 rw [e]
 exact h
structure LayersAt (H:Hp) (lr:Addr) (L:List (List GK)):Prop where
 ex:∃xs,H lr=some (.lst xs)∧xs.length=L.length∧∀(j:Nat) x,xs[j]?=some x→∃a ys lay,x=.ref a∧a≠lr∧L[j]?=some lay∧H a=some (.lst ys)∧KeysAt H ys lay
theorem LayersAt.same {H H':Hp} {lr:Addr} {L:List (List GK)} (s:Same H H') (h:LayersAt H lr L):LayersAt H' lr L:=by
 obtain ⟨xs,e1,e2,e3⟩:=h.ex
 refine ⟨xs,s _ _ e1,e2,fun j x hx=>?_⟩
 obtain ⟨a,ys,lay,f1,f2,f3,f4,f5⟩:=e3 j x hx
 exact ⟨a,ys,lay,f1,f2,f3,s _ _ f4,f5.same s⟩
theorem LayersAt.keepB {w:World} {H H':Hp} {lr dc:Addr} {kvs:List jQ} {L:List (List GK)} (s:yH dc H H') (hd:H dc=some (GO w dc kvs)) (h:LayersAt H lr L):LayersAt H' lr L:=by
 have any:∀a o,H a=some o→o≠GO w dc kvs→H' a=some o:=fun a o e n=>s a o (fun z=>n (by rw [z,hd] at e;cases e;rfl)) e
 obtain ⟨xs,e1,e2,e3⟩:=h.ex
 refine ⟨xs,any _ _ e1 (fun z=>by cases z),e2,fun j x hx=>?_⟩
 obtain ⟨a,ys,lay,f1,f2,f3,f4,f5⟩:=e3 j x hx
 exact ⟨a,ys,lay,f1,f2,f3,any _ _ f4 (fun z=>by cases z),f5.keep fun a l e=>any _ _ e (fun z=>by cases z)⟩
theorem LayersAt.put {H:Hp} {lr r:Addr} {L:List (List GK)} {xs ys:List V} {lay:List GK} (h:LayersAt H lr L) (e:H lr=some (.lst xs)) (hr:H r=some (.lst ys)) (hk:KeysAt H ys lay) (n:r≠lr):LayersAt (jB H lr (.lst (xs++[.ref r]))) lr (L++[lay]):=by
 obtain ⟨xs',e1,e2,e3⟩:=h.ex
 rw [e] at e1;cases e1
 have tk:∀a l,H a=some (.tup l)→jB H lr (.lst (xs++[.ref r])) a=some (.tup l):=fun a l e'=>by rw [jD (fun z=>by rw [z,e] at e';cases e')];exact e'
 refine ⟨_,jL,by rw [List.length_append,List.length_append,e2];rfl,fun j x hx=>?_⟩
 by_cases hj:j<xs.length
 ·rw [List.getElem?_append_left hj] at hx
  obtain ⟨a,zs,l2,f1,f2,f3,f4,f5⟩:=e3 j x hx
  exact ⟨a,zs,l2,f1,f2,ZK f3,by rw [jD f2];exact f4,f5.keep tk⟩
 ·rw [List.getElem?_append_right (by omega)] at hx
  have hz:j - xs.length=0:=by have:=(List.getElem?_eq_some_iff.mp hx).1;rw [List.length_singleton] at this;omega
  rw [hz] at hx
  cases hx
  exact ⟨r,ys,lay,rfl,n,by rw [List.getElem?_append_right (by omega),← e2,hz];rfl,by rw [jD n];exact hr,hk.keep tk⟩
theorem LayersAt.last {H:Hp} {lr:Addr} {T:jF} {k0:GK} {i:Nat} (h:LayersAt H lr (jO T k0 i)):∃xs a ys,H lr=some (.lst xs)∧qQ xs (-1)=some (.ref a)∧a≠lr∧H a=some (.lst ys)∧KeysAt H ys (jM T k0 i)∧xs.length=i+1:=by
 obtain ⟨xs,e1,e2,e3⟩:=h.ex
 rw [v7] at e2
 have hx:xs[i]?=some (xs[i]'(by omega)):=List.getElem?_eq_getElem (by omega)
 obtain ⟨a,ys,lay,f1,f2,f3,f4,f5⟩:=e3 i _ hx
 rw [JI] at f3;cases f3
 exact ⟨xs,a,ys,e1,atI_last e2 (by rw [hx,f1]),f2,f4,f5,e2⟩
theorem mI {w:World} {H:Hp} {d:Addr} {T:CR} {k:GK} {y:V} (hz:T.1 k) (e:H d=some (GO w d [(k,y,.non)])) (hy:(GV H k).1 y) (h8:gd k≤8):CameAt w H d T [k]:=by
 refine ⟨_,e,⟨fun p hp=>?_,fun p hp=>?_,by simp⟩,rfl,fun i p hp=>?_⟩
 ·cases List.mem_singleton.mp hp;exact hy
 ·cases List.mem_singleton.mp hp;exact h8
 ·cases i with
  |zero=>cases hp;exact .inl ⟨rfl,hz⟩
  |succ i=>cases hp
theorem iR {H:Hp} {lr l1:Addr} {k:GK} {y:V} (e:H lr=some (.lst [.ref l1])) (e1:H l1=some (.lst [y])) (n:l1≠lr) (hy:(GV H k).1 y) (h8:gd k≤8):LayersAt H lr [[k]]:=by
 refine ⟨_,e,rfl,fun j x hx=>?_⟩
 cases j with
 |zero =>
  cases hx
  refine ⟨l1,[y],[k],rfl,n,rfl,e1,rfl,fun i z hz=>?_⟩
  cases i with
  |zero=>cases hz;exact ⟨k,rfl,hy,h8⟩
  |succ i=>cases hz
 |succ j=>cases hx
theorem lL {w:World} {H:Hp} {d lr:Addr} {T:CR} {met:List GK} {xs:List V} {o:HO} (h:CameAt w H d T met) (e:H lr=some (.lst xs)):CameAt w (jB H lr o) d T met:=by
 obtain ⟨kvs,e1,g,e2,e3⟩:=h.ex
 have tk:∀a l,H a=some (.tup l)→jB H lr o a=some (.tup l):=fun a l e'=>by rw [jD (fun z=>by rw [z,e] at e';cases e')];exact e'
 exact ⟨kvs,by rw [jD (fun z=>by rw [z,e] at e1;cases e1)];exact e1,g.keep tk,e2,fun i p hp=>(e3 i p hp).keep tk fun _ _ e=>e⟩
theorem dJ {T:jF} {M:GK→Bool} {k0:GK} {i N m:Nat} (hN:∀j,j<N→¬qI T M k0 j) (hm:m+i=N) (h:qI T M k0 i):i=N:=by
 by_cases hi:i<N
 ·exact absurd h (hN i hi)
 ·omega
theorem zR {T:jF} {M:GK→Bool} {k0:GK}:∀i,(∀j,j<i→¬qI T M k0 j)→i+1≤(jO T k0 i).flatten.length
 |0,_=>by simp [jO]
 |i+1,h=>by
  have ih:=zR i (fun j hj=>h j (by omega))
  rw [v6,List.length_append]
  have:0<(yF T k0 i).length:=List.length_pos_iff.mpr fun z=>h i (by omega) (.inr z)
  omega
theorem dH {M:GK→Bool} {l:List GK}:l.any M = !(l.filter M).isEmpty:=by
 induction l with
 |nil=>rfl
 |cons a l ih =>
  rw [List.any_cons,List.filter_cons]
  cases M a with
  |true=>rfl
  |false=>simpa using ih
theorem vX {H H':Hp} {a:Addr} (s:Same H H') (h:H' a=none):H a=none:=by
 cases e:H a with
 |none=>rfl
 |some o=>have:=s _ _ e;rw [h] at this;cases this
def dP:Sp:=fun vs H Q _=>∃c:Int,vs=[.int c]∧∀n:Nat,1≤n→n≤999→Q (.int n) H
structure ReachIn (H Hi:Hp) (r:Addr) (T:jF) (acc:List GK):Prop where
 sm:Same H Hi
 rn:H r=none
 row:∃ys,Hi r=some (.lst ys)∧KeysAt Hi ys acc
 nd:acc.Nodup
 dom:∀x∈acc,(jI T x).isSome=true
theorem ReachIn.put {H Hj:Hp} {r:Addr} {T:jF} {acc:List GK} {ys:List V} {k:GK} {c:V} (h:ReachIn H Hj r T acc) (er:Hj r=some (.lst ys)) (hks:KeysAt Hj ys acc) (hn:k∉acc) (hc:(GV Hj k).1 c) (hc8:gd k≤8) (hd:(jI T k).isSome=true):ReachIn H (jB Hj r (.lst (ys++[c]))) r T (acc++[k]):=by
 have tk:∀a l,Hj a=some (.tup l)→jB Hj r (.lst (ys++[c])) a=some (.tup l):=fun a l e=>by rw [jD (fun z=>by rw [z,er] at e;cases e)];exact e
 refine ⟨qM h.rn h.sm,h.rn,⟨_,jL,hks.snoc tk hc hc8⟩,?_,fun y hy=>?_⟩
 ·rw [List.nodup_append]
  exact ⟨h.nd,by simp,fun a ha b hb e=>by cases List.mem_singleton.mp hb;subst e;exact hn ha⟩
 ·rcases List.mem_append.mp hy with hy|hy
  ·exact h.dom y hy
  ·rw [List.mem_singleton.mp hy];exact hd
structure MetAt (w:World) (H:Hp) (d:Addr) (met:List GK):Prop where
 ex:∃kvs,H d=some (GO w d kvs)∧GOk H kvs∧kvs.map (·.1)=met
theorem MetAt.same {w:World} {H H':Hp} {d:Addr} {met:List GK} (s:Same H H') (h:MetAt w H d met):MetAt w H' d met:=by
 obtain ⟨kvs,e1,g,e2⟩:=h.ex
 exact ⟨kvs,s _ _ e1,kW s g,e2⟩
theorem MetAt.put {w:World} {H:Hp} {d:Addr} {met:List GK} {kvs:List jQ} {k:GK} {y v:V} (e1:H d=some (GO w d kvs)) (g:GOk H kvs) (e2:kvs.map (·.1)=met) (hk:k∉met) (hy:(GV H k).1 y) (h8:gd k≤8):MetAt w (jB H d (GO w d (kJ kvs k y v))) d (met++[k]):=by
 have tk:∀a l,H a=some (.tup l)→jB H d (GO w d (kJ kvs k y v)) a=some (.tup l):=fun a l e=>by rw [jD (fun z=>by rw [z,e1] at e;cases e)];exact e
 refine ⟨_,jL,(g.set hy h8).keep tk,?_⟩
 rw [cN (by rw [e2];exact hk),List.map_append,e2];rfl
theorem MetAt.keep {w:World} {H:Hp} {d lr:Addr} {met:List GK} {xs:List V} {o:HO} (h:MetAt w H d met) (e:H lr=some (.lst xs)):MetAt w (jB H lr o) d met:=by
 obtain ⟨kvs,e1,g,e2⟩:=h.ex
 have tk:∀a l,H a=some (.tup l)→jB H lr o a=some (.tup l):=fun a l e'=>by rw [jD (fun z=>by rw [z,e] at e';cases e')];exact e'
 exact ⟨kvs,by rw [jD (fun z=>by rw [z,e] at e1;cases e1)];exact e1,g.keep tk,e2⟩
def pM:GK→Int
 |.i _=>1
 |.s _=>2
 |_=>3
def ZD:Sp:=fun vs H Q _=>∃(y:V) (k:GK),vs=[y]∧(GV H k).1 y∧Q (.int (pM k)) H
theorem oN {K:W.Frag}:W.kitOne K (.type "str") (.type "bool")=some false:=by kernel_rfl
theorem oK {K:W.Frag}:W.kitOne K (.type "str") (.type "int")=some false:=by kernel_rfl
theorem eL {K:W.Frag}:W.kitOne K (.type "tuple") (.type "bool")=some false:=by kernel_rfl
theorem eK {K:W.Frag}:W.kitOne K (.type "tuple") (.type "int")=some false:=by kernel_rfl
theorem eJ {K:W.Frag}:W.kitOne K (.type "tuple") (.type "str")=some false:=by kernel_rfl
def eA (w:World):Sp:=fun vs H Q _=>∃(l dT dm:Addr) (T:jF) (ls:List Addr) (m n c:Nat) (xs:List V) (lay met:List GK),vs=[.ref l,.ref dT,.ref dm]∧TabR w H dT T ls∧TabOk m n c T∧n≤1000∧H l=some (.lst xs)∧KeysAt H xs lay∧(∀k∈lay,(jI T k).isSome=true)∧MetAt w H dm met∧
 ∀r ys H',Same H H'→H r=none→H' r=some (.lst ys)→KeysAt H' ys (kE T met [] lay)→Q (.ref r) H'
def bP (w:World):Sp:=fun vs H Q _=>∃(l1 l2 dm:Addr) (xs ys:List V) (ks met:List GK),vs=[.ref l1,.ref l2,.ref dm]∧H l1=some (.lst xs)∧KeysAt H xs ks∧H l2=some (.lst ys)∧KeysAt H ys ks∧(met++ks).Nodup∧(met++ks).length≤1000∧MetAt w H dm met∧
 ∀H',yH dm H H'→MetAt w H' dm (met++ks)→Q (.bl true) H'
def QK (T:jF) (k0:GK):Nat→List GK
 |0=>[]
 |i+1=>(jO T k0 i).flatten
theorem Q7 (T:jF) (k0:GK):∀i,QK T k0 i++jM T k0 i=(jO T k0 i).flatten
 |0=>rfl
 |i+1=>by rw [v6,zO];rfl
def bD (w:World):Sp:=fun vs H Q _=>∃(y:V) (dT dM lr:Addr) (fd:Bool) (T:jF) (ls:List Addr) (M:GK→Bool) (m n c:Nat) (k0:GK) (N:Nat),vs=[y,.ref dT,.ref dM,.ref lr,.bl fd]∧TabR w H dT T ls∧TabOk m n c T∧n≤1000∧MarkAt w H dM T M∧(GV H k0).1 y∧(jI T k0).isSome=true∧(∀j,j<N→¬qI T M k0 j)∧qI T M k0 N∧LayersAt H lr (jO T k0 N)∧fd=(jM T k0 N).any M∧
 ∀H',Same H H'→Q (.bl true) H'
def bO (w:World):Sp:=fun vs H Q _=>∃(y:V) (dT dM rr:Addr) (T:jF) (ls:List Addr) (M:GK→Bool) (m n:Nat) (k0 kf:GK) (N:Nat) (xs:List V) (des:List GK),vs=[y,.ref dT,.ref dM,.ref rr,.int ((N+1:Nat):Int)]∧TabR w H dT T ls∧TabOk m n 1100 T∧MarkAt w H dM T M∧(GV H k0).1 y∧(jI T k0).isSome=true∧H rr=some (.lst xs)∧KeysAt H xs des∧v2 T k0 des kf∧M kf=true∧des.length=N∧N≤1000∧
 ∀H',Same H H'→Q (.bl true) H'
def eR (H:Hp) (T:jF) (M:GK→Bool) (k0:GK) (N:Nat) (t:Addr):Prop:=((jM T k0 N).any M=true∧∃rr lr xs des kf,H t=some (.tup [.str "found",.ref rr,.ref lr])∧H rr=some (.lst xs)∧KeysAt H xs des∧v2 T k0 des kf∧M kf=true∧des.length=N∧LayersAt H lr (jO T k0 N))∨
 ((jM T k0 N).any M=false∧∃lr,H t=some (.tup [.str "closed",.ref lr])∧LayersAt H lr (jO T k0 N))
def cH (w:World):Sp:=fun vs H Q _=>∃(y:V) (dT dM t:Addr) (T:jF) (ls:List Addr) (M:GK→Bool) (m n:Nat) (k0:GK) (N:Nat),vs=[y,.ref dT,.ref dM,.ref t]∧TabR w H dT T ls∧TabOk m n 1100 T∧n≤1000∧MarkAt w H dM T M∧(GV H k0).1 y∧(jI T k0).isSome=true∧(∀j,j<N→¬qI T M k0 j)∧qI T M k0 N∧eR H T M k0 N t∧
 ∀H',Same H H'→Q (.bl true) H'
theorem mU {T:jF} {k0:GK} {i N:Nat} (h:i≤N):(jO T k0 N)[i]?=(jO T k0 i)[i]?:=by
 obtain ⟨d,rfl⟩:∃d,N=i+d:=⟨N - i,by omega⟩
 clear h
 induction d with
 |zero=>rfl
 |succ d ih =>
  rw [show i+(d+1)=(i+d)+1 by omega,JG,List.getElem?_append_left (by rw [v7];omega)]
  exact ih
def dN (w:World):Sp:=fun vs H Q _=>∃(l fa dc dT:Addr) (H0:Hp) (T:jF) (ls:List Addr) (m n c:Nat) (xs:List V) (lay met:List GK) (R0:CR),vs=[.ref l,.ref fa,.ref dc]∧Same H0 H∧H0 dc=none∧CloA qR H0 fa dT∧TabR w H0 dT T ls∧TabOk m n c T∧n≤1000∧
 H l=some (.lst xs)∧KeysAt H xs lay∧(∀k∈lay,k∈met)∧(∀k∈met,(jI T k).isSome=true)∧CameAt w H dc R0 met∧(∀kp∈lay,∀p∈kO T kp,p.2∈kE T met [] lay→R0.2 kp p.1 p.2)∧
 ∀r ys H',H r=none→r≠dc→yH dc H H'→H' r=some (.lst ys)→KeysAt H' ys (kE T met [] lay)→CameAt w H' dc R0 (met++kE T met [] lay)→Q (.ref r) H'
def cG (w:World):Sp:=fun vs H Q _=>∃(d:Addr) (y:V) (T:jF) (met:List GK) (k k0:GK) (j0:Nat),vs=[.ref d,y]∧CameAt w H d (Z0 T k0) met∧met.length≤1000∧(GV H k).1 y∧gd k≤8∧k∈met∧k∈jM T k0 j0∧∀r xs des H',Same H H'→H r=none→H' r=some (.lst xs)→KeysAt H' xs des→v2 T k0 des k→des.length=j0→Q (.ref r) H'
def fF (H:Hp) (d:Addr) (y:V) (r:Addr) (met:List GK) (T:jF) (k k0:GK) (j0 m:Nat) (σ:St) (Hi:Hp):Prop:=∃sv xs rd c jc,σ=[some (.ref d),some y,some (.ref r),some sv]∧Same H Hi∧Hi r=some (.lst xs)∧KeysAt Hi xs rd∧rd.length+m≤1000∧v2 T c rd.reverse k∧c∈jM T k0 jc∧rd.length+jc=j0∧
 ((sv=.non∧c=k0)∨∃t yp dv kp de j,sv=.ref t∧Hi t=some (.tup [yp,dv])∧(GV Hi kp).1 yp∧gd kp≤8∧(GV Hi de).1 dv∧gd de≤8∧(de,c)∈kO T kp∧ZY T k0 kp c∧met[j]?=some kp∧j<m)
def bE (w:World) (eW:Addr):Sp:=fun vs H Q E=>∃(y:V) (fa fe dT dM:Addr) (most:Int) (T:jF) (ls:List Addr) (M:GK→Bool) (m n c:Nat) (k0:GK) (N:Nat),vs=[y,.ref fa,.ref fe,.int most]∧
 CloA qR H fa dT∧Clo1 H fe vB "law.<locals>._law_ended" "_law_marks_here" dM∧TabR w H dT T ls∧TabOk m n c T∧n≤1000∧MarkAt w H dM T M∧(GV H k0).1 y∧(jI T k0).isSome=true∧(∀j,j<N→¬qI T M k0 j)∧qI T M k0 N∧
 ((((jO T k0 N).flatten.length:Nat):Int)≤most→(jM T k0 N).any M=true→∀t rr lr xs des kf H',Same H H'→H' t=some (.tup [.str "found",.ref rr,.ref lr])→H' rr=some (.lst xs)→KeysAt H' xs des→v2 T k0 des kf→M kf=true→des.length=N→LayersAt H' lr (jO T k0 N)→H rr=none→H lr=none→H t=none→rr≠lr→Q (.ref t) H')∧
 ((((jO T k0 N).flatten.length:Nat):Int)≤most→(jM T k0 N).any M=false→∀t lr H',Same H H'→H' t=some (.tup [.str "closed",.ref lr])→LayersAt H' lr (jO T k0 N)→H lr=none→H t=none→Q (.ref t) H')∧
 (most<(((jO T k0 N).flatten.length:Nat):Int)→∀H',Same H H'→E (.ref eW) none H')
def fN (w:World) (H:Hp) (y:V) (fa fe:Addr) (most:Int) (dc lr:Addr) (T:jF) (k0:GK) (N m:Nat) (σ:St) (Hi:Hp):Prop:=∃i c6 c7,σ=[some y,some (.ref fa),some (.ref fe),some (.int most),some (.ref dc),some (.ref lr),c6,c7]∧m+i=N∧Same H Hi∧CameAt w Hi dc (Z0 T k0) (jO T k0 i).flatten∧LayersAt Hi lr (jO T k0 i)
def J0 (w:World):Sp:=fun vs H Q _=>∃(y:V) (fa fe dT dM:Addr) (most:Int) (T:jF) (ls:List Addr) (M:GK→Bool) (m n c:Nat) (k0:GK) (N:Nat),vs=[y,.ref fa,.ref fe,.int most]∧
 CloA qR H fa dT∧Clo1 H fe vB "law.<locals>._law_ended" "_law_marks_here" dM∧TabR w H dT T ls∧TabOk m n c T∧n≤1000∧MarkAt w H dM T M∧(GV H k0).1 y∧(jI T k0).isSome=true∧(∀j,j<N→¬qI T M k0 j)∧qI T M k0 N∧(n:Int)≤most∧
 ((jM T k0 N).any M=true→∀t rr lr xs des kf H',Same H H'→H' t=some (.tup [.str "found",.ref rr,.ref lr])→H' rr=some (.lst xs)→KeysAt H' xs des→v2 T k0 des kf→M kf=true→des.length=N→LayersAt H' lr (jO T k0 N)→H rr=none→H lr=none→H t=none→rr≠lr→Q (.ref t) H')∧
 ((jM T k0 N).any M=false→∀t lr H',Same H H'→H' t=some (.tup [.str "closed",.ref lr])→LayersAt H' lr (jO T k0 N)→H lr=none→H t=none→Q (.ref t) H')
theorem iH {w:World} {eW:Addr}:∀vs H Q E,J0 w vs H Q E→bE w eW vs H Q (fun _ _ _=>False):=by
 rintro vs H Q E ⟨y,fa,fe,dT,dM,most,T,ls,M,m,n,c,k0,N,rfl,hA,hE,hT,hO,hn,hM,hy,hk0,hN,hSt,hle,qF,qC⟩
 have hfit:=vU hO (vS N) (fun x h=>yS hT.shut hk0 N x h)
 exact ⟨y,fa,fe,dT,dM,most,T,ls,M,m,n,c,k0,N,rfl,hA,hE,hT,hO,hn,hM,hy,hk0,hN,hSt,fun _ h=>qF h,fun _ h=>qC h,fun h=>absurd h (by omega)⟩
theorem iB {X:Cx} (K:W.Frag) (hK:X.K=K:=by rfl):CallR X (.type "list") (fun xs H Q=>∃p ys,xs=[.ref p]∧(SqL K H p ys∨SqT K H p ys)∧∀l,H l=none→Q (.ref l) (jB H l (.lst ys))):=by subst hK;exact Z9
theorem pL {P:Nat→Prop} (h:∃n,P n):∃n,P n∧∀j,j<n→¬P j:=by
 obtain ⟨n,hn⟩:=h
 induction n using Nat.strongRecOn with
 |ind n ih =>
  by_cases hx:∃j,j<n∧P j
  ·obtain ⟨j,hj,hp⟩:=hx
   exact ih j hj hp
  ·exact ⟨n,hn,fun j hj hp=>hx ⟨j,hj,hp⟩⟩
theorem mS {m n c:Nat} {T:jF} {M:GK→Bool} {k0:GK} (hO:TabOk m n c T) (hs:QR T) (h0:(jI T k0).isSome=true):∃N,qI T M k0 N∧∀j,j<N→¬qI T M k0 j:=by
 refine pL ?_
 by_cases h:∃j,qI T M k0 j
 ·exact h
 ·have h1:=zR (T:=T) (M:=M) (k0:=k0) (n+1) (fun j _ hj=>h ⟨j,hj⟩)
  have h2:=vU hO (vS (n+1)) (fun x hx=>yS hs h0 (n+1) x hx)
  omega
theorem JR {α:Type} {P:α→Prop} {a b c:α} (h1:P a) (h2:P b) (h3:P c):∀q∈[a,b,c],P q:=fun q hq=>by
 rcases List.mem_cons.mp hq with rfl|hq
 ·exact h1
 ·exact rM h2 h3 q hq
theorem eQ {X:Cx} {i j l:Nat} {c d e:Addr} (h:∃y,X.N[i]?=some y∧X.env.scope.names.lookup y=some .cell∧X.env.cells.lookup y=some c∧X.fn y=true) (h2:∃y,X.N[j]?=some y∧X.env.scope.names.lookup y=some .cell∧X.env.cells.lookup y=some d∧X.fn y=true) (h3:∃y,X.N[l]?=some y∧X.env.scope.names.lookup y=some .cell∧X.env.cells.lookup y=some e∧X.fn y=true):ZM X [(i,c),(j,d),(l,e)]:=JR h h2 h3
def FnA (st:Stmt) (H:Hp) (f c1 c2 d:Addr):Prop:=∃(fo:Obj) (name:Str) (doc pm:Value) (an:Option Addr) (ct:Value) (c':Addr) (oc:Obj),f≠d∧c'≠d∧H f=some (FnO f fo)∧fo.data=.func (W.fnX name "law.<locals>._law_ahead" (j5 st) (jT st) (jH st) [("_law_table_here",c2),("_law_anew",c1)] .none .none doc pm an (.ref c') ct)∧H c'=some (FnO c' oc)∧∃vs t,oc.data=.fields vs∧vs[1]?=some (.str "law.<locals>._law_ahead" t)
def FnE (st:Stmt) (H:Hp) (f c d:Addr):Prop:=∃(fo:Obj) (name:Str) (doc pm:Value) (an:Option Addr) (ct:Value) (c':Addr) (oc:Obj),f≠d∧c'≠d∧H f=some (FnO f fo)∧fo.data=.func (W.fnX name "law.<locals>._law_ended" (j5 st) (jT st) (jH st) [("_law_marks_here",c)] .none .none doc pm an (.ref c') ct)∧H c'=some (FnO c' oc)∧∃vs t,oc.data=.fields vs∧vs[1]?=some (.str "law.<locals>._law_ended" t)
theorem FnA.keep {st:Stmt} {H H':Hp} {f c1 c2 d:Addr} (k:yH d H H') (h:FnA st H f c1 c2 d):FnA st H' f c1 c2 d:=by
 obtain ⟨fo,name,doc,pm,an,ct,c',oc,n1,n2,e1,e2,e3,e4⟩:=h
 exact ⟨fo,name,doc,pm,an,ct,c',oc,n1,n2,k _ _ n1 e1,e2,k _ _ n2 e3,e4⟩
theorem FnE.keep {st:Stmt} {H H':Hp} {f c d:Addr} (k:yH d H H') (h:FnE st H f c d):FnE st H' f c d:=by
 obtain ⟨fo,name,doc,pm,an,ct,c',oc,n1,n2,e1,e2,e3,e4⟩:=h
 exact ⟨fo,name,doc,pm,an,ct,c',oc,n1,n2,k _ _ n1 e1,e2,k _ _ n2 e3,e4⟩
theorem FnA.keepT {st:Stmt} {H H':Hp} {f c1 c2 d tL:Addr} {tp:Array Value} (k:z5 tL H H') (ht:H tL=some (.tbl tp)) (h:FnA st H f c1 c2 d):FnA st H' f c1 c2 d:=by
 obtain ⟨fo,name,doc,pm,an,ct,c',oc,n1,n2,e1,e2,e3,e4⟩:=h
 exact ⟨fo,name,doc,pm,an,ct,c',oc,n1,n2,v8 k ht e1 (fun z=>by cases z),e2,v8 k ht e3 (fun z=>by cases z),e4⟩
theorem FnE.is {st:Stmt} {H:Hp} {f c d:Addr} (h:FnE st H f c d):FnIs H f st "law.<locals>._law_ended" "_law_marks_here" c:=by
 obtain ⟨fo,name,doc,pm,an,ct,c',oc,n1,n2,e1,e2,e3,e4⟩:=h
 exact ⟨fo,name,doc,pm,an,ct,c',oc,e1,e2,e3,e4⟩
theorem FnA.clo {st:Stmt} {H HC:Hp} {cs:List Addr} {f c1 c2 d:Addr} {o1 o2:Obj} {u1 u2:Value} {b:Bool} (h:FnA st H f c1 c2 d) (hn:∀c∈cs,H c=none) (h1:c1∈cs) (h2:c2∈cs) (hne:c1≠c2) (e1:HC c1=some (FnO c1 o1)) (e2:o1.data=.cell (some u1)) (rv:RelV (.bl b) u1) (g1:HC c2=some (FnO c2 o2)) (g2:o2.data=.cell (some u2)) (rw2:RelV (.ref d) u2) (hd:H d≠none):CloA st (kI H HC cs) f d:=by
 obtain ⟨fo,name,doc,pm,an,ct,c',oc,_,_,f1,f2,f3,vs,t,f4,f5⟩:=h
 have out:∀b v,H b=some v→kI H HC cs b=some v:=fun b v e=>by rw [kL fun z=>by rw [hn b z] at e;cases e];exact e
 refine ⟨b,c1,c2,.ref c',_,fun z=>hd (z▸hn c1 h1),fun z=>hd (z▸hn c2 h2),⟨fo,name,doc,pm,an,ct,out _ _ f1,f2,rfl⟩,⟨c',oc,vs,t,rfl,out _ _ f3,f4,f5⟩,by simp [Ne.symm hne],rfl,fun i y c v k1 k2=>?_⟩
 match i,k1,k2 with
 |0,k1,k2=>cases k1;cases k2;exact ⟨o2,u2,by rw [vY h2];exact g1,g2,rw2⟩
 |1,k1,k2=>cases k1;cases k2;exact ⟨o1,u1,by rw [vY h1];exact e1,e2,rv⟩
 |i+2,k1,_=>cases k1
structure RF (w:World) (H:Hp) (fa fe cA cM cT dT dM:Addr) (T:jF) (ls:List Addr) (M:GK→Bool) (m n:Nat) (k:GK) (y:V):Prop where
 tab:TabR w H dT T ls
 ok:TabOk m n 1100 T
 mrk:MarkAt w H dM T M
 key:(GV H k).1 y
 at_:(jI T k).isSome=true
 fa:FnA qR H fa cA cT dT
 fe:FnE vB H fe cM dT
theorem RF.same {w:World} {H H':Hp} {fa fe cA cM cT dT dM:Addr} {T:jF} {ls:List Addr} {M:GK→Bool} {m n:Nat} {k:GK} {y:V} (h:RF w H fa fe cA cM cT dT dM T ls M m n k y) (s:Same H H'):RF w H' fa fe cA cM cT dT dM T ls M m n k y :=
 ⟨h.tab.same s,h.ok,h.mrk.same s,jW s h.key,h.at_,h.fa.keep fun a o _ e=>s a o e,h.fe.keep fun a o _ e=>s a o e⟩
def ToldF (H0 H:Hp) (T:jF) (M:GK→Bool) (k0:GK) (N:Nat) (t:Addr):Prop:=((jM T k0 N).any M=true∧∃rr lr xs des kf,H t=some (.tup [.str "found",.ref rr,.ref lr])∧H rr=some (.lst xs)∧KeysAt H xs des∧v2 T k0 des kf∧M kf=true∧des.length=N∧LayersAt H lr (jO T k0 N)∧H0 rr=none∧H0 lr=none∧rr≠lr)∨
 ((jM T k0 N).any M=false∧∃lr,H t=some (.tup [.str "closed",.ref lr])∧LayersAt H lr (jO T k0 N)∧H0 lr=none)
theorem ToldF.at {H0 H:Hp} {T:jF} {M:GK→Bool} {k0:GK} {N:Nat} {t:Addr} (h:ToldF H0 H T M k0 N t):eR H T M k0 N t:=by
 rcases h with ⟨a,rr,lr,xs,des,kf,e1,e2,e3,e4,e5,e6,e7,_⟩|⟨a,lr,e1,e2,_⟩
 ·exact .inl ⟨a,rr,lr,xs,des,kf,e1,e2,e3,e4,e5,e6,e7⟩
 ·exact .inr ⟨a,lr,e1,e2⟩
theorem bI {H':Hp} {cs:List Addr} {lr:Addr} {L:List (List GK)} (out:∀b xs,H' b=some (.lst xs)→b∉cs) (outT:∀b xs,H' b=some (.tup xs)→b∉cs) (h:LayersAt H' lr L):LayersAt (kK H' cs) lr L:=by
 obtain ⟨xs,e1,e2,e3⟩:=h.ex
 refine ⟨xs,by rw [j8 (out _ _ e1)];exact e1,e2,fun j x hx=>?_⟩
 obtain ⟨a,ys,lay,f1,f2,f3,f4,f5⟩:=e3 j x hx
 exact ⟨a,ys,lay,f1,f2,f3,by rw [j8 (out _ _ f4)];exact f4,f5.keep fun a l e=>by rw [j8 (outT _ _ e)];exact e⟩
theorem Q5 {w:World} {H HC:Hp} {fa fe cA cM cT dT dM:Addr} {T:jF} {ls:List Addr} {M:GK→Bool} {m n N:Nat} {k:GK} {y:V} {most:Int} {b:Bool} {σ:St} {P:VK} (h:RF w H fa fe cA cM cT dT dM T ls M m n k y) (hn1:n≤1000) (hmo:(n:Int)≤most) (hN:∀j,j<N→¬qI T M k j) (hSt:qI T M k N) (hne:cA≠cT)
  (e6:σ[6]?=some (some (.bl b))) (e5:σ[5]?=some (some (.ref dM))) (e4:σ[4]?=some (some (.ref dT)))
  (hHC:∀q∈[(6,cA),(5,cM),(4,cT)],∃v o u,σ[q.1]?=some (some v)∧HC q.2=some (FnO q.2 o)∧o.data=.cell (some u)∧RelV v u) (hn:∀q∈[(6,cA),(5,cM),(4,cT)],H q.2=none)
  (hP:∀t H',(∀p∈[(6,cA),(5,cM),(4,cT)],H' p.2=HC p.2)→Same H (kK H' ([(6,cA),(5,cM),(4,cT)].map (·.2)))→ToldF H (kK H' ([(6,cA),(5,cM),(4,cT)].map (·.2))) T M k N t→P (.ref t) H') :
  J0 w [y,.ref fa,.ref fe,.int most] (kI H HC ([(6,cA),(5,cM),(4,cT)].map (·.2))) P E0:=by
 have hn':∀c∈([(6,cA),(5,cM),(4,cT)]:List (Nat×Addr)).map (·.2),H c=none:=fun c hc=>by
  obtain ⟨q,hq,rfl⟩:=List.mem_map.mp hc
  exact hn q hq
 obtain ⟨vA,oA,uA,x1,x2,x3,x4⟩:=hHC (6,cA) (by simp)
 obtain ⟨vM,oM,uM,a1,a2,a3,a4⟩:=hHC (5,cM) (by simp)
 obtain ⟨vT,oT,uT,b1,b2,b3,b4⟩:=hHC (4,cT) (by simp)
 rw [e6] at x1;cases x1
 rw [e5] at a1;cases a1
 rw [e4] at b1;cases b1
 have s:=bV (HC:=HC) hn'
 have dd:H dT≠none:=fun z=>by
  obtain ⟨_,e,_⟩:=h.tab.ex
  rcases e with e|⟨o,e⟩<;>(rw [z] at e;cases e)
 have dm:H dM≠none:=fun z=>by obtain ⟨_,e,_⟩:=h.mrk.ex;rw [z] at e;cases e
 have fin:∀(t:Addr) (H':Hp),Same (kI H HC (([(6,cA),(5,cM),(4,cT)]:List (Nat×Addr)).map (·.2))) H'→(∀q∈[(6,cA),(5,cM),(4,cT)],H' q.2=HC q.2)∧(∀b o,H' b=some o→(∀ob,o≠FnO b ob)→b∉([(6,cA),(5,cM),(4,cT)]:List (Nat×Addr)).map (·.2)):=fun t H' s'=>by
  have c0:=s' cA _ (by rw [vY (by simp)];exact x2)
  have c1:=s' cM _ (by rw [vY (by simp)];exact a2)
  have c2:=s' cT _ (by rw [vY (by simp)];exact b2)
  refine ⟨JR (by rw [c0,x2]) (by rw [c1,a2]) (by rw [c2,b2]),fun b o e hno hb=>?_⟩
  simp only [List.map_cons,List.map_nil,List.mem_cons,List.mem_nil_iff,or_false] at hb
  rcases hb with rfl|rfl|rfl
  ·rw [c0] at e;cases e;exact hno _ rfl
  ·rw [c1] at e;cases e;exact hno _ rfl
  ·rw [c2] at e;cases e;exact hno _ rfl
 have nob:∀(H':Hp) (b:Addr) (xs:List V),(∀b o,H' b=some o→(∀ob,o≠FnO b ob)→b∉([(6,cA),(5,cM),(4,cT)]:List (Nat×Addr)).map (·.2))→H' b=some (.lst xs)→kI H HC (([(6,cA),(5,cM),(4,cT)]:List (Nat×Addr)).map (·.2)) b=none→H b=none:=fun H' b xs o e z=>by
  rw [kL (o b _ e fun _ z=>by cases z)] at z;exact z
 refine ⟨y,fa,fe,dT,dM,most,T,ls,M,m,n,1100,k,N,rfl,h.fa.clo hn' (by simp) (by simp) hne x2 x3 x4 b2 b3 b4 dd,h.fe.is.clo hn' (by simp) a2 a3 a4 dm,h.tab.same s,h.ok,hn1,h.mrk.same s,jW s h.key,h.at_,hN,hSt,hmo,fun ha t rr lr xs des kf H' s' g1 g2 g3 g4 g5 g6 g7 g8 g9 _ g10=>?_,fun ha t lr H' s' g1 g2 g3 _=>?_⟩
 ·obtain ⟨f1,o⟩:=fin t H' s'
  obtain ⟨ys,l1,_⟩:=g7.ex
  refine hP t H' f1 (cF hn' s') (.inl ⟨ha,rr,lr,xs,des,kf,?_,?_,g3.keep fun a l e=>?_,g4,g5,g6,bI (fun b xs e=>o b _ e fun _ z=>by cases z) (fun b xs e=>o b _ e fun _ z=>by cases z) g7,nob H' rr _ o g2 g8,nob H' lr _ o l1 g9,g10⟩)
  ·rw [j8 (o t _ g1 fun _ z=>by cases z)];exact g1
  ·rw [j8 (o rr _ g2 fun _ z=>by cases z)];exact g2
  ·rw [j8 (o a _ e fun _ z=>by cases z)];exact e
 ·obtain ⟨f1,o⟩:=fin t H' s'
  obtain ⟨ys,l1,_⟩:=g2.ex
  refine hP t H' f1 (cF hn' s') (.inr ⟨ha,lr,?_,bI (fun b xs e=>o b _ e fun _ z=>by cases z) (fun b xs e=>o b _ e fun _ z=>by cases z) g2,nob H' lr _ o l1 g3⟩)
  rw [j8 (o t _ g1 fun _ z=>by cases z)];exact g1
theorem bM {H0 H1 H:Hp} {T:jF} {M:GK→Bool} {k0:GK} {N:Nat} {t:Addr} (s:Same H0 H1) (h:ToldF H1 H T M k0 N t):ToldF H0 H T M k0 N t:=by
 rcases h with ⟨a,rr,lr,xs,des,kf,e1,e2,e3,e4,e5,e6,e7,e8,e9,e10⟩|⟨a,lr,e1,e2,e3⟩
 ·exact .inl ⟨a,rr,lr,xs,des,kf,e1,e2,e3,e4,e5,e6,e7,vX s e8,vX s e9,e10⟩
 ·exact .inr ⟨a,lr,e1,e2,vX s e3⟩
def oZ (bt:Addr) (HF Hj:Hp) (kvs:List jQ) (ys:List V) (j:Nat):Prop:=ys.length=j∧∀(i:Nat) x,ys[i]?=some x→∃(p:jQ) (e c l:Addr) (zs:List V),kvs[i]?=some p∧x=.ref e∧Hj e=some (.lst [p.2.1,.ref c])∧Hj c=some (.lst zs)∧jN kvs p.1=some (.ref l)∧HF l=some (.lst zs)∧HF c=none∧HF e=none∧e≠bt∧c≠bt
def o0 (bt:Addr) (HF Hj:Hp) (kvs:List jQ) (ys:List V) (j:Nat):Prop:=ys.length=j∧∀(i:Nat) x,ys[i]?=some x→∃(p:jQ) (e l:Addr),kvs[i]?=some p∧x=.ref e∧Hj e=some (.lst [p.2.1,.ref l])∧jN kvs p.1=some (.ref l)∧HF e=none∧e≠bt
theorem cK {α:Type} {ys:List α} {v x:α} {i:Nat} (h:(ys++[v])[i]?=some x):ys[i]?=some x∨(i=ys.length∧x=v):=by
 by_cases hi:i<ys.length
 ·rw [List.getElem?_append_left hi] at h;exact .inl h
 ·rw [List.getElem?_append_right (by omega)] at h
  have hz:i - ys.length=0:=by have:=(List.getElem?_eq_some_iff.mp h).1;rw [List.length_singleton] at this;omega
  rw [hz] at h
  cases h
  exact .inr ⟨by omega,rfl⟩
theorem lX {H:Hp} {zs:List V} {ps:List (GK×GK)} (h:PairsAt H zs ps) {a:Nat} (ha:a<zs.length):∃k,(GV H k).1 (zs.getD a .non)∧gd k≤9:=by
 obtain ⟨p,t,b,c,e1,e2,e3,e4,e5,e6,e7⟩:=h.2 a _ (List.getElem?_eq_getElem ha)
 refine ⟨.cons p.1 (.cons p.2 .nil),?_,by simp only [gd];omega⟩
 rw [List.getD_eq_getElem?_getD,List.getElem?_eq_getElem ha]
 show (GV H _).1 zs[a]
 rw [e2]
 exact ⟨t,[b,c],rfl,e3,b,[c],rfl,e4,c,[],rfl,e5,rfl⟩
theorem gY (L f:Addr) (cd:Value):closureFor (jH qR) (PyProof.Rows.envOfC "law" (jH qS) L f cd)=pure [(("_law_table_here":Str),L+3),(("_law_anew":Str),L+1)]:=rfl
theorem gX (L f:Addr) (cd:Value):closureFor (jH vB) (PyProof.Rows.envOfC "law" (jH qS) L f cd)=pure [(("_law_marks_here":Str),L+2)]:=rfl
structure Txt (K:W.Frag) (mg:Str→Option Value) (eW:Addr):Prop where
 z_list:mg "list"=none
 z_reversed:mg "reversed"=none
 z_len:mg "len"=none
 z_str:mg "str"=none
 z_range:mg "range"=none
 z_isinstance:mg "isinstance"=none
 z_bool:mg "bool"=none
 z_int:mg "int"=none
 z_tuple:mg "tuple"=none
 z_max:mg "max"=none
 c_TooWide:mg "TooWide"=some (.ref eW)
 x_TooWide:fO K eW
set_option maxHeartbeats 4000000
section
variable {P:Program} {w:World} {K:W.Frag} {mg:Str→Option Value} {base:Heap} {eW:Addr}
theorem gM:CloScope ["_law_state","_law_table_here","_law_anew"] ["_law_state"] ["_law_table_here","_law_anew"] (jH qR):=⟨rfl,rfl,rfl,by decide +kernel,rfl,by decide +kernel,by decide +kernel,eI (by decide +kernel),by decide +kernel⟩
theorem fS (T:Txt K mg eW) : FnV P w K mg base jZ 3 (JP "law.<locals>._law_ahead" (j5 qR) (jT qR) (jH qR) ["_law_state"] ["_law_table_here","_law_anew"] (cJ w)):=by
 refine eO gM (fun _ _ _ _ _ _ _ us hl=>match us,hl with|[_],_=>rfl) fun A outer s H f cdv cl fvs vs Q E hcl hr hc h=>?_
 obtain ⟨y,d,anew,kvs,k,l,zs,rfl,rfl,hd,e1,g,hy,h8,f1,f2,q⟩:=h
 have hu:_<cLine:=hr.units0
 have hu1:=kS hr
 have hu9:=qW hr
 have hu10:=qU hr
 refine ⟨_,(jJ (kD (qO (pv 2)) (jK (jR (JW Z9 (by rfl) T.z_list PyProof.Rows.boot_list (jA (vG hu9 (pv 1) (pv 0) (fun _ _=>rfl)) jC)))) kC)
   (jK (jR (vG hu9 (pv 1) (pv 0) (fun _ _=>rfl))))),?_⟩
 have f2':kK H (cl.map (·.2)) l=some (.lst zs):=by rw [j8 (nA hc f2)];exact f2
 refine ⟨_,rfl,_,rfl,?_⟩
 cases anew with
 |true =>
  refine kT ⟨_,rfl,_,rfl,d,kvs,k,_,rfl,eD hd e1,g.keep (zV hc),(GV.keep (zV hc) k).1 _ hy,h8,f1,?_⟩
  refine ⟨l,zs,rfl,.inl (.of f2'),fun p hp hn=>?_⟩
  have hp':p∉cl.map (·.2):=fun hin=>by have:=hn p hin;rw [jL] at this;cases this
  rw [nO hp']
  have hp0:H p=none:=by rw [j8 hp'] at hp;exact hp
  exact q p _ (jS hp0 _) jL (.inr hp0)
 |false =>
  refine jU ⟨_,rfl,_,rfl,d,kvs,k,_,rfl,eD hd e1,g.keep (zV hc),(GV.keep (zV hc) k).1 _ hy,h8,f1,fun _=>?_⟩
  rw [d6]
  exact q l H (Same.refl _) f2 (.inl rfl)
theorem gN:CloScope ["_law_state","_law_marks_here"] ["_law_state"] ["_law_marks_here"] (jH vB):=⟨rfl,rfl,rfl,by decide +kernel,rfl,by decide +kernel,by decide +kernel,eI (by decide +kernel),by decide +kernel⟩
theorem fT (T:Txt K mg eW) : FnV P w K mg base jZ 3 (JP "law.<locals>._law_ended" (j5 vB) (jT vB) (jH vB) ["_law_state"] ["_law_marks_here"] (dQ w)):=by
 refine eO gN (fun _ _ _ _ _ _ _ us hl=>match us,hl with|[_],_=>rfl) fun A outer s H f cdv cl fvs vs Q E hcl hr hc h=>?_
 obtain ⟨y,d,T0,M,k,rfl,rfl,hd,hM,hy,h8,hk,q⟩:=h
 have hu:_<cLine:=hr.units0
 have hu1:=kS hr
 have hu9:=qW hr
 have hu10:=qU hr
 refine ⟨_,(jK (jR (vG hu9 (pv 1) (pv 0) (fun _ _=>rfl)))),?_⟩
 obtain ⟨kvs,e1,g,e3⟩:=hM.ex
 refine ⟨_,rfl,_,rfl,d,kvs,k,_,rfl,.of (by rw [j8 hd];exact e1),g.keep (zV hc),(GV.keep (zV hc) k).1 _ hy,h8,e3 k hk,fun _=>?_⟩
 rw [d6]
 exact q
theorem JE:FnScope ["layer","ahead","came","fresh","state","deed","behind"] ["layer","ahead","came"] (jH zJ):=⟨rfl,rfl,rfl,by decide +kernel,rfl,by decide +kernel,by decide +kernel⟩
theorem gK {f:Addr} {fd:FuncData} (F:Fun K "next_layer" "next_layer" zJ f fd) (T:Txt K mg eW) (V__law_ahead:FnV P w K mg base jZ 3 (JP "law.<locals>._law_ahead" (j5 qR) (jT qR) (jH qR) ["_law_state"] ["_law_table_here","_law_anew"] (cJ w))):FnOk P w K mg base jZ 5 f fd ["layer","ahead","came"] (dN w):=by
 refine F.ok JE (fun vs H Q E h=>?_) (fun cdv A outer s H vs Q E hr h=>?_)
 ·obtain ⟨l,fa,dc,dT,H0,T0,ls,m,n,c0,xs,lay,met,R0,rfl,s0,hdc,hA,hT,hO,hn,hl,hks,hsub,hdom,hC,hR0,q⟩:=h
  rfl
 obtain ⟨l,fa,dc,dT,H0,T0,ls,m,n,c0,xs,lay,met,R0,rfl,s0,hdc,hA,hT,hO,hn,hl,hks,hsub,hdom,hC,hR0,q⟩:=h
 have hu:_<cLine:=hr.units0
 have hu1:=kS hr
 have hu9:=qW hr
 have hu10:=qU hr
 refine ⟨_,(jJ (j3 (i:=3) JE.nd rfl (by first|exact Or.inl rfl|exact Or.inr rfl) (q0 jC))
   (jJ (vC PassesOwn.never rfl (vK (pv 0)) (kU (i:=4) JE.nd rfl (by first|exact Or.inl rfl|exact Or.inr rfl))
    (jK (vC PassesOwn.never rfl (vK (cS (i:=1) V__law_ahead (hr.mono (by decide)) ZS rfl (by first|exact .inl rfl|exact .inr rfl|exact .inr (.inl rfl)|exact .inr (.inr rfl)) (jA (pv 4) jC))) (n5 rfl (cR (kU (i:=5) JE.nd rfl (by first|exact Or.inl rfl|exact Or.inr rfl)) (cR (kU (i:=6) JE.nd rfl (by first|exact Or.inl rfl|exact Or.inr rfl)) m6)))
    (jK (kD (ZP (bR hu9 (pv 6) (pv 2))) (jJ (QD hu9 (pv 2) (pv 6) (yD (jA (pv 4) (jA (pv 5) jC))) rfl)
   (jK (vQ (yV PySem.F.plainAttrs_list PySem.F.slot_list_append PySem.F.type_list_append yQ (pv 3) (jA (pv 6) jC))))) kC)))))
   (jK (jR (pv 3))))),?_⟩
 refine ⟨Nat.zero_le _,fun r hr0=>?_⟩
 have u0:=jS hr0 (.lst [])
 obtain ⟨kvs0,c1,_⟩:=hC.ex
 have hne:r≠dc:=fun z=>by rw [z,c1] at hr0;cases hr0
 have lne:l≠dc:=fun z=>by rw [z,c1] at hl;cases hl
 refine ⟨_,rfl,l,rfl,⟨_,SqL.of (u0 _ _ hl)⟩,?_⟩
 refine yR (K:=K) (xs:=xs) (fun i σ Hi=>∃acc c4 c5 c6,σ=[some (.ref l),some (.ref fa),some (.ref dc),some (.ref r),c4,c5,c6]∧NextIn R0 w H Hi dc r T0 met acc∧acc=kE T0 met [] (lay.take i)) ⟨[],none,none,none,rfl,⟨fun a o _ e=>u0 _ _ e,hr0,hne,⟨[],jL,rfl,fun i x e=>by cases e⟩,by rw [List.append_nil];exact hC.same u0,fun x hx=>by cases hx⟩,rfl⟩ (fun i σ Hi _ ⟨_,_,_,_,_,hI,_⟩=>SqL.of (hI.keep l _ lne hl)) ?_ ?_
 ·rintro i x σ Hi hx ⟨acc,c4,c5,c6,rfl,hI,hacc⟩
  obtain ⟨k,hk,hyk,h8⟩:=hks.2 i x hx
  have hkm:=hsub k (List.mem_of_getElem? hk)
  obtain ⟨ps,hps⟩:=Option.isSome_iff_exists.mp (hdom k hkm)
  have tkI:∀a z,H a=some (.tup z)→Hi a=some (.tup z):=fun a z e=>hI.keep a _ (fun y=>by rw [y,c1] at e;cases e) e
  have sI:Same H0 Hi:=fun a o e=>hI.keep a o (kZ e hdc) (s0 _ _ e)
  obtain ⟨anew,cc1,cc2,cdv,fd,hcn1,hcn2,C⟩:=hA.same sI
  obtain ⟨kvsT,t1,tg,_,t3⟩:=hT.ex
  obtain ⟨l2,zs,t4,t5,t6⟩:=t3 k ps hps
  have hyk':=(GV.keep tkI k).1 _ hyk
  refine ⟨fa,rfl,_,rfl,⟨rfl,_,_,cdv,fd,C,rfl,x,dT,anew,kvsT,k,l2,zs,rfl,rfl,(by intro hin;rcases List.mem_cons.mp hin with h|h;exact hcn2 h.symm;exact hcn1 (List.mem_singleton.mp h).symm),ZE sI t1,kW sI tg,hyk',h8,t4,sI _ _ t5,fun p HP up hpl hor=>⟨p,rfl,⟨_,SqL.of hpl⟩,?_⟩⟩⟩
  obtain ⟨kvsI,d1,_⟩:=hI.came.ex
  obtain ⟨ysI,r1,_⟩:=hI.row
  have hP:=t6.same sI
  have pne:p≠dc:=fun z=>by rw [z,up _ _ d1] at hpl;cases hpl
  have pnr:p≠r:=fun z=>by
   rcases hor with h|h
   ·rw [← z,h,s0 _ _ t5] at hr0;cases hr0
   ·rw [z,r1] at h;cases h
  have hPP:=hP.same up
  have hah:kO T0 k=ps:=by unfold kO;rw [hps];rfl
  refine yR (K:=K) (a:=p) (xs:=zs) (fun j σ Hj=>∃acc' c5 c6,σ=[some (.ref l),some (.ref fa),some (.ref dc),some (.ref r),some x,c5,c6]∧NextIn R0 w H Hj dc r T0 met acc'∧(∀a o,a≠dc→a≠r→HP a=some o→Hj a=some o)∧acc'=qD met acc (ps.take j)) ⟨acc,c5,c6,rfl,⟨fun a o n e=>up _ _ (hI.keep a o n e),hI.rn,hI.nr,⟨ysI,up _ _ r1,?_⟩,hI.came.same up,hI.dom⟩,fun _ _ _ _ e=>e,rfl⟩ (fun j σ Hj _ ⟨_,_,_,_,_,kp,_⟩=>SqL.of (kp p _ pne pnr hpl)) ?_ ?_
  ·obtain ⟨ys',r1',r2'⟩:=hI.row
   rw [r1] at r1';cases r1'
   exact r2'.same up
  ·rintro j z σ Hj hz ⟨acc',c5,c6,rfl,hJ,kp,hacc'⟩
   obtain ⟨pr,t,b,c,p1,rfl,p3,p4,p5,p6,p7⟩:=hPP.2 j z hz
   have tkJ:∀a z,HP a=some (.tup z)→Hj a=some (.tup z):=fun a z e=>kp a _ (fun y=>by rw [y,up _ _ d1] at e;cases e) (fun y=>by rw [y,up _ _ r1] at e;cases e) e
   have p3':=tkJ _ _ p3
   have p4':=(GV.keep tkJ _).1 _ p4
   have p5':=(GV.keep tkJ _).1 _ p5
   have hxJ:=(GV.keep tkJ _).1 _ (jW up hyk')
   have hin:pr∈kO T0 k:=by rw [hah];exact List.mem_of_getElem? p1
   have ht:(ps.take (j+1))=ps.take j++[pr]:=by rw [List.take_add_one,p1];rfl
   obtain ⟨kvs,e1,g,e2,e3⟩:=hJ.came.ex
   refine ⟨t,[b,c],rfl,.inl (.inl p3'),rfl,_,_,rfl,_,_,rfl,rfl,_,rfl,_,rfl,dc,kvs,pr.2,rfl,.of e1,g,p5',p7,_,rfl,?_⟩
   rw [J7,e2]
   by_cases hm:pr.2∈met++acc'
   ·rw [decide_eq_true hm]
    refine jU ⟨acc',_,_,rfl,hJ,kp,?_⟩
    rw [ht,zM,← hacc',qP,if_pos hm]
   ·rw [decide_eq_false hm]
    obtain ⟨ys,er,hky⟩:=hJ.row
    have hlen:(met++acc').length≤1000:=by
     have:=vU hO (l:=met++acc') (by rw [← e2];exact g.once) (fun x hx=>(List.mem_append.mp hx).elim (hdom x) (hJ.dom x))
     omega
    have hkl:kvs.length=(met++acc').length:=by rw [← e2,List.length_map]
    refine kT ⟨_,rfl,_,rfl,kY (by show 2≤1000;decide),fun t2 ht2=>⟨_,rfl,_,rfl,dc,kvs,pr.2,rfl,jS ht2 _ _ _ e1,kW (jS ht2 _) g,jW (jS ht2 _) p5',p7,qV (by omega),?_⟩⟩
    have er3:jB (jB Hj t2 (.tup [x,b])) dc (GO w dc (kJ kvs pr.2 c (.ref t2))) r=some (.lst ys):=by rw [jD hJ.nr];exact jS ht2 _ _ _ er
    refine ⟨_,rfl,.inl ⟨rfl,_,SqL.of er3⟩,_,rfl,r,_,_,rfl,rfl,er3,qV (by have:=hky.1;rw [List.length_append] at hlen;omega),?_⟩
    refine ⟨acc'++[pr.2],_,_,rfl,hJ.put e1 g e2 e3 er hky hm ht2 hxJ h8 hkm p4' p6 p5' p7 (hR0 k (List.mem_of_getElem? hk) pr hin (mG (i:=i) (j:=j+1) hk hah (by rw [← hacc,ht,zM,← hacc',qP,if_neg hm];exact List.mem_append_right _ (List.mem_singleton.mpr rfl)))) (ZA hT.shut hin),fun a o n1 n2 e=>?_,?_⟩
    ·rw [jD n2,jD n1];exact jS ht2 _ _ _ (kp a o n1 n2 e)
    ·rw [ht,zM,← hacc',qP,if_neg hm]
  ·rintro σ Hj ⟨acc',c5,c6,rfl,hJ,kp,hacc'⟩
   refine ⟨acc',_,_,_,rfl,hJ,?_⟩
   rw [hP.1,List.take_length] at hacc'
   rw [hacc',List.take_add_one,hk]
   show _=kE T0 met [] (lay.take i++[k])
   rw [Q2,hah,← hacc]
 ·rintro σ Hf ⟨acc,c4,c5,c6,rfl,hI,hacc⟩
  rw [hks.1,List.take_length] at hacc
  subst hacc
  obtain ⟨ys,er,hky⟩:=hI.row
  exact ⟨_,rfl,q r ys Hf hI.rn hI.nr hI.keep er hky hI.came⟩
theorem JY:FnScope ["came","state","row","step"] ["came","state"] (jH zK):=⟨rfl,rfl,rfl,by decide +kernel,rfl,by decide +kernel,by decide +kernel⟩
theorem gL {f:Addr} {fd:FuncData} (F:Fun K "row_to" "row_to" zK f fd) (T:Txt K mg eW) : FnOk P w K mg base jZ 2 f fd ["came","state"] (cG w):=by
  refine F.ok JY (fun vs H Q E h=>?_) (fun cdv A outer s H vs Q E hr h=>?_)
  · obtain ⟨d,y,T0,met,k,k0,j0,rfl,hC,hl,hy,h8,hk,hlev,q⟩:=h
    rfl
  obtain ⟨d,y,T0,met,k,k0,j0,rfl,hC,hl,hy,h8,hk,hlev,q⟩:=h
  have hu:_<cLine:=hr.units0
  have hu1:=kS hr
  have hu9:=qW hr
  have hu10:=qU hr
  refine ⟨_,(jJ (j3 (i:=2) JY.nd rfl (by first|exact Or.inl rfl|exact Or.inr rfl) (q0 jC))
      (jJ (j3 (i:=3) JY.nd rfl (by first|exact Or.inl rfl|exact Or.inr rfl) (vG hu9 (pv 0) (pv 1) (fun _ _=>rfl)))
      (jJ (cQ PassesOwn.never (kG m8 (pv 3) eG (jV _)) (jJ (vQ (yV PySem.F.plainAttrs_list PySem.F.slot_list_append PySem.F.type_list_append yQ (pv 2) (jA (kA qB (pv 3) jE (fun _ _=>rfl)) jC)))
      (jK (j3 (i:=3) JY.nd rfl (by first|exact Or.inl rfl|exact Or.inr rfl) (vG hu9 (pv 0) (kA qB (pv 3) jE (fun _ _=>rfl)) (fun _ _=>rfl))))))
      (jK (jR (iP rfl (by rfl) T.z_list (by rfl) T.z_reversed (jA (pv 2) jC))))))),?_⟩
  refine ⟨Nat.zero_le _,fun r hr0=>?_⟩
  have u0:=jS hr0 (.lst [])
  obtain ⟨kvs,e1,g,e2,e3⟩:=hC.ex
  obtain ⟨i,hi⟩:=List.mem_iff_getElem?.mp hk
  have hil:=(List.getElem?_eq_some_iff.mp hi).1
  have at_:∀(i:Nat) (k:GK),met[i]?=some k→∃p:jQ,kvs[i]?=some p∧p.1=k:=fun i k h=>by
    rw [← e2,List.getElem?_map] at h
    exact Option.map_eq_some_iff.mp h
  obtain ⟨p,hp,hpk⟩:=at_ i k hi
  refine ⟨_,rfl,_,rfl,d,kvs,k,_,rfl,.of (u0 _ _ e1),kW u0 g,jW u0 hy,h8,by rw [← hpk];exact QE g.once hp,?_⟩
  have step:∀(Hi:Hp) (i:Nat) (p:jQ),Same H Hi→kvs[i]?=some p→((p.2.2=.non∧p.1=k0)∨∃t yp dv kp de j,p.2.2=.ref t∧Hi t=some (.tup [yp,dv])∧(GV Hi kp).1 yp∧gd kp≤8∧(GV Hi de).1 dv∧gd de≤8∧(de,p.1)∈kO T0 kp∧ZY T0 k0 kp p.1∧met[j]?=some kp∧j<i):=fun Hi i p s hp=>by
    rcases e3 i p hp with ⟨h,hz⟩|⟨t,yp,dv,kp,de,j,a1,a2,a3,a4,a5,a6,a7,a8,a9⟩
    · exact .inl ⟨h,hz⟩
    · exact .inr ⟨t,yp,dv,kp,de,j,a1,s _ _ a2,jW s a3,a4,jW s a5,a6,a9.1,a9.2,a8,a7⟩
  refine ⟨fF H d y r met T0 k k0 j0,⟨i,p.2.2,[],[],k,j0,rfl,u0,jL,⟨rfl,fun i x e=>by cases e⟩,by show 0+i≤1000;omega,rfl,hlev,Nat.zero_add j0,by rw [← hpk];exact step _ i p u0 hp⟩,?_⟩
  rintro m σ Hi ⟨sv,xs,rd,c,jc,rfl,s,hr,hks,hlm,hpa,hlc,hj0,hs⟩
  refine ⟨_,rfl,rfl,_,rfl,?_⟩
  rcases hs with ⟨rfl,rfl⟩|⟨t,yp,dv,kp,de,j,rfl,ht,hyp,hp8,hde,hde8,hah,⟨jl,hl1,hl2⟩,hj,hjm⟩
  · refine yX rfl ?_
    refine ⟨_,rfl,r,xs,rfl,SqL.of hr,fun l hl=>q l _ rd.reverse _ (s.trans (jS hl _)) ?_ jL ?_ hpa ?_⟩
    · cases e:H l with
      |none=>rfl
      |some o=>have:=s _ _ e;rw [hl] at this;cases this
    · exact (hks.rev).same (jS hl _)
    · have h0:c∈jM T0 c 0:=by show c∈[c];simp
      rw [List.length_reverse]
      have:=cX hlc h0
      omega
  · refine pN (fun z=>by cases z) ⟨fun σ' H'=>∃m',m'<m∧fF H d y r met T0 k k0 j0 m' σ' H',fun _ _ h=>h,?_⟩
    obtain ⟨p',hp',hpk'⟩:=at_ j kp hj
    have hxl:=hks.1
    refine ⟨_,rfl,.inl ⟨rfl,_,SqL.of hr⟩,_,rfl,t,_,_,dv,rfl,rfl,SqT.of ht,rfl,r,_,_,rfl,rfl,hr,qV (by omega),?_⟩
    have tk:∀a l,Hi a=some (.tup l)→jB Hi r (.lst (xs++[dv])) a=some (.tup l):=fun a l e=>by rw [jD (fun z=>by rw [z,hr] at e;cases e)];exact e
    have s2:Same H (jB Hi r (.lst (xs++[dv]))):=qM hr0 s
    refine ⟨_,rfl,_,rfl,t,_,_,yp,rfl,rfl,SqT.of (tk _ _ ht),rfl,d,kvs,kp,_,rfl,.of (s2 _ _ e1),kW s2 g,(GV.keep tk _).1 _ hyp,hp8,by rw [← hpk'];exact QE g.once hp',?_⟩
    have hjl:=cX hlc hl2
    refine ⟨j,hjm,p'.2.2,xs++[dv],rd++[de],kp,jl,rfl,s2,jL,hks.snoc tk hde hde8,by rw [List.length_append,List.length_singleton];omega,?_,hl1,by rw [List.length_append,List.length_singleton];omega,by rw [← hpk'];exact step _ j p' s2 hp'⟩
    rw [List.reverse_append]
    exact ⟨c,hah,hpa⟩
theorem JD:FnScope ["first","ahead","ended","most","came","layers","ended_ones","layer"] ["first","ahead","ended","most"] (jH yP):=⟨rfl,rfl,rfl,by decide +kernel,rfl,by decide +kernel,by decide +kernel⟩
theorem gJ {f:Addr} {fd:FuncData} (F:Fun K "layered" "layered" yP f fd) (T:Txt K mg eW) (V__law_ended:FnV P w K mg base jZ 3 (JP "law.<locals>._law_ended" (j5 vB) (jT vB) (jH vB) ["_law_state"] ["_law_marks_here"] (dQ w))) (D_row_to:Def P w K mg base 2 "row_to" ["came","state"] [] (cG w)) (D_next_layer:Def P w K mg base 5 "next_layer" ["layer","ahead","came"] [] (dN w)):FnOk P w K mg base (yM P w) 7 f fd ["first","ahead","ended","most"] (bE w eW):=by
 refine F.okX JD (fun vs H Q E h=>?_) (fun cdv A outer s H vs Q E hr h=>?_)
 ·obtain ⟨y,fa,fe,dT,dM,most,T0,ls,M,m0,n,c0,k0,N,rfl,hA,hE,hT,hO,hn,hM,hy,hk0,hN,hSt,qF,qC,qE⟩:=h
  rfl
 obtain ⟨y,fa,fe,dT,dM,most,T0,ls,M,m0,n,c0,k0,N,rfl,hA,hE,hT,hO,hn,hM,hy,hk0,hN,hSt,qF,qC,qE⟩:=h
 have hu:_<cLine:=hr.units0
 have hu1:=kS hr
 have hu9:=qW hr
 have hu10:=qU hr
 refine ⟨_,(jJ (j3 (i:=4) JD.nd rfl (by first|exact Or.inl rfl|exact Or.inr rfl) (lW hu9 (pv 0) eG))
   (jJ (j3 (i:=5) JD.nd rfl (by first|exact Or.inl rfl|exact Or.inr rfl) (q0 (jA (q0 (jA (pv 0) jC)) jC)))
   (jJ (cQ oD (kG pG (kH iW (by rfl) T.z_len PySem.boot_len (jA (pv 4) jC)) (pv 3) (jV _)) (jJ (Q4 (i:=6) ["state","ended"] (v3 1 [2]) JD.nd rfl (by first|exact Or.inl rfl|exact Or.inr rfl) rfl (JA (jH yP) rfl rfl (by decide +kernel) (by decide +kernel) (by decide +kernel)) (y7 1 [2] rfl rfl (by decide +kernel)) (vK (kA vJ (pv 5) (ZR ZN jE) (fun _ _=>rfl))) (fun _ _ _ _ _=>(kU (i:=0) (show List.Nodup (["state","ended"]:List Str) from by decide +kernel) rfl (by first|exact Or.inl rfl|exact Or.inr rfl))) (fun _ _ _ _ _=>(ZF (qO (cS (i:=1) V__law_ended (hr.mono (by decide)) ZS rfl (by first|exact .inl rfl|exact .inr rfl|exact .inr (.inl rfl)|exact .inr (.inr rfl)) (jA (pv 0) jC))))) (fun _ _ _ _ _=>(pv 0)))
   (jJ (kD (cP (pv 6) (fun _=>rfl)) (jK (jR (yD (jA vF (jA (j4 D_row_to hr rfl (jA (pv 4) (jA (kA vJ (pv 6) jE (fun _ _=>rfl)) jC))) (jA (pv 5) jC)))))) kC)
   (jJ (j3 (i:=7) JD.nd rfl (by first|exact Or.inl rfl|exact Or.inr rfl) (j4 D_next_layer hr rfl (jA (kA vJ (pv 5) (ZR ZN jE) (fun _ _=>rfl)) (jA (pv 1) (jA (pv 4) jC)))))
   (jJ (kD (vZ (cP (pv 7) (fun _=>rfl))) (jK (jR (yD (jA vF (jA (pv 5) jC))))) kC)
   (jK (vQ (yV PySem.F.plainAttrs_list PySem.F.slot_list_append PySem.F.type_list_append yQ (pv 5) (jA (pv 7) jC)))))))))
   (jK (lS iZ rfl rfl T.c_TooWide T.x_TooWide (jA vF jC)))))),?_⟩
 have h8:gd k0≤8:=by obtain ⟨ps,hps⟩:=Option.isSome_iff_exists.mp hk0;exact hT.deep k0 ps hps
 have dom:=fun i x (h:x∈(jO T0 k0 i).flatten)=>yS hT.shut hk0 i x h
 have fit:∀i,(jO T0 k0 i).flatten.length≤1000:=fun i=>Nat.le_trans (vU hO (vS i) (dom i)) hn
 refine fun dc hdc=>⟨_,rfl,jL,k0,jW (jS hdc _) hy,h8,?_⟩
 have s1:Same H (jB (jB H dc (GO w dc [])) dc (GO w dc [(k0,y,.non)])):=qM hdc (jS hdc _)
 have d1:jB (jB H dc (GO w dc [])) dc (GO w dc [(k0,y,.non)]) dc=some (GO w dc [(k0,y,.non)]):=jL
 refine ⟨_,rfl,kY (by show 1≤1000;decide),fun l1 hl1=>⟨kY (by show 1≤1000;decide),fun lr hlr=>?_⟩⟩
 have u1:=jS hl1 (.lst [y])
 have u2:=jS hlr (.lst [.ref l1])
 have s2:=(s1.trans u1).trans u2
 have ne1:l1≠lr:=fun z=>by rw [← z,jL] at hlr;cases hlr
 have hlr0:H lr=none:=by
  cases e:H lr with
  |none=>rfl
  |some o=>have:=(s1.trans u1) _ _ e;rw [hlr] at this;cases this
 refine ⟨fN w H y fa fe most dc lr T0 k0 N,⟨N,0,none,none,rfl,Nat.add_zero N,s2,mI rfl (u2 _ _ (u1 _ _ d1)) (jW s2 hy) h8,iR jL (u2 _ _ jL) ne1 (jW s2 hy) h8⟩,?_⟩
 rintro m σ Hi ⟨i,c6,c7,rfl,hm,s,hC,hL⟩
 obtain ⟨kvs,e1,g,e2,e3⟩:=hC.ex
 have hkl:kvs.length=(jO T0 k0 i).flatten.length:=by rw [← e2,List.length_map]
 refine ⟨_,rfl,dc,kvs,rfl,.of e1,g,_,rfl,_,_,rfl,rfl,_,rfl,kN (fun c=>?_) (fun c=>?_)⟩
 case refine_2 =>
  have c':¬((kvs.length:Nat):Int)≤most:=of_decide_eq_false (Bool.eq_false_iff.mpr c)
  have:=bY (T:=T0) (k0:=k0) (i:=i) m
  rw [show i+m=N by omega] at this
  exact ⟨by show 1≤sizeLine;decide,qE (by omega) _ s⟩
 have c':((kvs.length:Nat):Int)≤most:=of_decide_eq_true c
 refine ⟨fun σ' H'=>∃m',m'<m∧fN w H y fa fe most dc lr T0 k0 N m' σ' H',fun _ _ h=>h,?_⟩
 obtain ⟨xs,la,ys,f1,f2,f3,f4,f5,f6⟩:=hL.last
 have hyl:ys.length≤1000:=by
  rw [f5.1]
  have:=fit i
  have h2:(jM T0 k0 i).length≤(jO T0 k0 i).flatten.length:=(List.sublist_flatten_of_mem (List.mem_of_getElem? (JI i))).length_le
  omega
 refine ⟨_,rfl,_,rfl,lr,xs,_,_,rfl,rfl,SqL.of f1,f2,la,rfl,⟨_,SqL.of f4⟩,fun bt hbt=>?_⟩
 refine QW (K:=K) (a:=la) (xs:=ys) (caps:=[some (.ref fe)]) (fun j zs Hj=>KeysAt Hj zs (((jM T0 k0 i).take j).filter M)) hbt (SqL.of f4) ⟨rfl,fun i x e=>by cases e⟩ ?_ ?_
 ·rintro j x zs Hj hx hj hle sm hY hR
  obtain ⟨kj,hkj,hgj,h8j⟩:=f5.2 j x hx
  obtain ⟨cc,cdv,fd,hcn,C⟩:=hE.same (s.trans sm)
  have hdj:=dom i kj (zS (List.mem_of_getElem? hkj))
  refine ⟨fe,rfl,_,rfl,⟨rfl,_,_,cdv,fd,C,rfl,x,dM,T0,M,kj,rfl,rfl,by intro hin;exact hcn (List.mem_singleton.mp hin).symm,hM.same (s.trans sm),jW sm hgj,h8j,hdj,_,rfl,?_⟩⟩
  have ht:((jM T0 k0 i).take (j+1))=(jM T0 k0 i).take j++[kj]:=by rw [List.take_add_one,hkj];rfl
  cases hMk:M kj with
  |true =>
   refine kT ⟨_,rfl,JV hbt sm hY hle (by omega) (Same.refl _) ?_⟩
   show KeysAt _ _ (((jM T0 k0 i).take (j+1)).filter M)
   rw [ht,List.filter_append,List.filter_cons,if_pos hMk]
   exact hR.snoc (k:=kj) (fun a l e=>by rw [jD fun z=>by subst z;rw [hY] at e;cases e];exact e) (jW sm hgj) h8j
  |false =>
   refine jU (Q9 sm hY hle (Same.refl _) ?_)
   show KeysAt _ _ (((jM T0 k0 i).take (j+1)).filter M)
   rw [ht,List.filter_append,List.filter_cons,if_neg (by rw [hMk];decide)]
   simpa using hR
 rintro zs Hg sg hbtg hleg hR
 rw [f5.1,List.take_length] at hR
 have hany:=dH (M:=M) (l:=jM T0 k0 i)
 have sG:=s.trans sg
 cases hf:(jM T0 k0 i).filter M with
 |cons kf rest =>
  rw [hf] at hR hany
  have hi:i=N:=dJ hN hm (.inl hany)
  subst hi
  match zs,hR with
  |[],hR=>exact absurd hR.1 (by simp)
  |z0::zs',hR =>
   obtain ⟨k',a1,a2,a3⟩:=hR.2 0 z0 rfl
   cases a1
   have hkf:kf∈jM T0 k0 i:=(List.mem_filter.mp (by rw [hf];exact List.mem_cons_self:kf∈(jM T0 k0 i).filter M)).1
   refine ⟨_,rfl,true,.inl ⟨_,SqL.of hbtg,rfl⟩,kT ?_⟩
   refine ⟨_,rfl,_,rfl,bt,_,0,z0,rfl,rfl,SqL.of hbtg,yB (j:=0) rfl,dc,z0,T0,_,kf,k0,i,rfl,hC.same sg,fit i,a2,a3,zS hkf,hkf,fun rr xs' des H' s' hrr0 hrr hkd hpa hdl=>⟨_,rfl,kY (by show 3≤1000;decide),fun t ht=>?_⟩⟩
   have ut:=jS ht (.tup [.str "found",.ref rr,.ref lr])
   exact qF (by omega) hany t rr lr xs' des kf _ ((sG.trans s').trans ut) jL (ut _ _ hrr) (hkd.same ut) hpa (List.mem_filter.mp (by rw [hf];exact List.mem_cons_self:kf∈(jM T0 k0 i).filter M)).2 hdl (hL.same ((sg.trans s').trans ut)) (vX sG hrr0) hlr0 (vX (sG.trans s') ht) (fun z=>by rw [z,sg _ _ f1] at hrr0;cases hrr0)
 |nil =>
  rw [hf] at hR hany
  obtain rfl:zs=[]:=List.eq_nil_of_length_eq_zero hR.1
  refine ⟨_,rfl,false,.inl ⟨_,SqL.of hbtg,rfl⟩,jU ?_⟩
  refine ⟨_,rfl,_,rfl,lr,xs,_,_,rfl,rfl,SqL.of (sg _ _ f1),f2,_,rfl,_,rfl,la,fa,dc,dT,H,T0,ls,m0,n,c0,ys,jM T0 k0 i,(jO T0 k0 i).flatten,Z0 T0 k0,rfl,sG,hdc,hA,hT,hO,hn,sg _ _ f4,f5.same sg,fun k hk=>zS hk,dom i,hC.same sg,(fun kp hkp p hp hx=>⟨hp,i,hkp,by rw [zO];exact hx⟩),fun r zs2 H' hr0 hrn kB hr2 hk2 hc2=>?_⟩
  have hL':=hL.same sg |>.keepB kB (sg _ _ e1)
  have sH':Same H H':=fun a o e=>kB a o (kZ e hdc) (sG _ _ e)
  have rlr:r≠lr:=fun z=>by rw [z,sg _ _ f1] at hr0;cases hr0
  cases hnx:yF T0 k0 i with
  |nil =>
   have hi:i=N:=dJ hN hm (.inr hnx)
   subst hi
   rw [show kE T0 (jO T0 k0 i).flatten [] (jM T0 k0 i)=[] from hnx] at hk2
   obtain rfl:zs2=[]:=List.eq_nil_of_length_eq_zero hk2.1
   refine ⟨_,rfl,false,.inl ⟨_,SqL.of hr2,rfl⟩,kT ⟨_,rfl,kY (by show 2≤1000;decide),fun t ht=>?_⟩⟩
   have ut:=jS ht (.tup [.str "closed",.ref lr])
   exact qC (by omega) hany t lr _ (sH'.trans ut) jL (hL'.same ut) hlr0 (vX sH' ht)
  |cons kx rest =>
   have hk2':=hk2
   rw [show kE T0 (jO T0 k0 i).flatten [] (jM T0 k0 i)=kx::rest from hnx] at hk2'
   have hlt:m≠0:=fun z=>by
    have hi:i=N:=by omega
    rw [← hi] at hSt
    rcases hSt with h|h
    ·rw [hany] at h;cases h
    ·rw [hnx] at h;cases h
   match zs2,hk2',hr2,hk2 with
   |[],hk2',_,_=>exact absurd hk2'.1 (by simp)
   |z1::zs3,_,hr2,hk2 =>
    obtain ⟨xs2,g1,g2,_⟩:=hL'.ex
    rw [v7] at g2
    refine ⟨_,rfl,true,.inl ⟨_,SqL.of hr2,rfl⟩,jU ⟨_,rfl,.inl ⟨rfl,_,SqL.of g1⟩,_,rfl,lr,_,_,rfl,rfl,g1,qV ?_,?_⟩⟩
    ·have h2:=zR (T:=T0) (M:=M) (k0:=k0) i (fun j hj=>hN j (by omega))
     have:=fit i
     omega
    ·refine ⟨m - 1,by omega,i+1,_,_,rfl,by omega,qM hlr0 sH',?_,?_⟩
     ·rw [v6]
      exact lL hc2 g1
     ·rw [JG]
      exact hL'.put g1 hr2 hk2 rlr
theorem gO:FnScope ["_law_script","_law_k"] ["_law_script","_law_k"] (jH y8):=⟨rfl,rfl,rfl,by decide +kernel,rfl,by decide +kernel,by decide +kernel⟩
theorem fU {f:Addr} {fd:FuncData} (F:Fun K "_law_cell_at" "_law_cell_at" y8 f fd) (T:Txt K mg eW) : FnOk P w K mg base jZ 1 f fd ["_law_script","_law_k"] (ZO K):=by
 refine F.ok gO (fun vs H Q E h=>?_) (fun cdv A outer s H vs Q E hr h=>?_)
 ·obtain ⟨a,ns,k,rfl,hS,q⟩:=h
  rfl
 obtain ⟨a,ns,k,rfl,hS,q⟩:=h
 have hu:_<cLine:=hr.units0
 have hu1:=kS hr
 refine ⟨_,(jJ (kD (kG eZ (pv 1) (kH qJ (by rfl) T.z_len PySem.boot_len (jA (pv 0) jC)) (jV _)) (jK (jR (kA vJ (pv 0) (pv 1) (fun _ _=>rfl)))) kC)
   (jK (jR jE))),?_⟩
 refine ⟨_,rfl,_,rfl,a,_,rfl,.inl hS,_,_,rfl,rfl,_,rfl,?_⟩
 refine kN (fun c=>?_) (fun c=>?_)
 ·have c':(k:Int)<(((ns.map V.int).length:Nat):Int):=of_decide_eq_true c
  rw [List.length_map] at c'
  exact ⟨_,rfl,_,rfl,a,_,_,_,rfl,rfl,hS,mJ (by omega),q⟩
 ·have c':¬(k:Int)<(((ns.map V.int).length:Nat):Int):=of_decide_eq_false (Bool.eq_false_iff.mpr c)
  rw [List.length_map] at c'
  have e:ns.getD k 0=0:=by rw [List.getD_eq_getElem?_getD,List.getElem?_eq_none (by omega)];rfl
  rw [e] at q
  exact q
theorem gR:FnScope ["_law_mode","_law_v"] ["_law_mode","_law_v"] (jH zC):=⟨rfl,rfl,rfl,by decide +kernel,rfl,by decide +kernel,by decide +kernel⟩
theorem fY {f:Addr} {fd:FuncData} (F:Fun K "_law_label" "_law_label" zC f fd) (T:Txt K mg eW) : FnOk P w K mg base jZ 2 f fd ["_law_mode","_law_v"] (JK):=by
 refine F.ok gR (fun vs H Q E h=>?_) (fun cdv A outer s H vs Q E hr h=>?_)
 ·obtain ⟨m,v,rfl,hm,hv,q⟩:=h
  rfl
 obtain ⟨m,v,rfl,hm,hv,q⟩:=h
 have hu:_<cLine:=hr.units0
 have hu1:=kS hr
 refine ⟨_,(jJ (kD (kG kR (pv 0) jE (jV _)) (jK (jR (pv 1))) kC)
   (jJ (kD (kG kR (pv 0) jE (jV _)) (jK (jR (jP yE (jP eH (jP zX (pv 1) jE) (jP oE jE jE)) (pv 1)))) kC)
   (jJ (kD (kG kR (pv 0) jE (jV _)) (jK (jR (jP lY (kA oS vF (jP kM (pv 1) jE) (fun _ _=>rfl)) (jP yE jE (jP qT (pv 1) jE))))) kC)
   (jJ (kD (kG kR (pv 0) jE (jV _)) (jK (jR (yD (jA (jP qT (pv 1) jE) (jA (yD (jA (jP kM (pv 1) jE) (jA vF jC))) jC))))) kC)
   (jK (jR (kA vJ (q0 (jA (pv 1) (jA (jP bH vF (JW b0 (by rfl) T.z_str PyProof.Rows.boot_str (jA (pv 1) jC))) (jA (yD (jA (pv 1) (jA vF jC))) jC)))) (jP kM (pv 1) jE) (fun _ _=>rfl)))))))),?_⟩
 have q':=fun y H' s g=>q y H' s g (JF m v)
 refine ⟨_,rfl,rfl,_,rfl,kN (fun c=>?_) (fun c=>?_)⟩
 ·have c0:m=0:=by have e:=of_decide_eq_true c;injection e with e;omega
  subst c0
  exact ⟨_,rfl,q' _ _ (Same.refl _) rfl⟩
 have h0:m≠0:=fun z=>c (by subst z;rfl)
 refine ⟨_,rfl,rfl,_,rfl,kN (fun c=>?_) (fun c=>?_)⟩
 ·have c0:m=1:=by have e:=of_decide_eq_true c;injection e with e;omega
  subst c0
  exact ⟨_,rfl,_,_,rfl,rfl,_,_,rfl,rfl,⟨by decide,by decide,by decide⟩,_,_,rfl,rfl,oX hv,_,rfl,_,_,rfl,rfl,q' _ _ (Same.refl _) rfl⟩
 have h1:m≠1:=fun z=>c (by subst z;rfl)
 refine ⟨_,rfl,rfl,_,rfl,kN (fun c=>?_) (fun c=>?_)⟩
 ·have c0:m=2:=by have e:=of_decide_eq_true c;injection e with e;omega
  subst c0
  refine ⟨_,rfl,_,_,rfl,rfl,(show (0:Int)<3 by decide),("abc":Str),_,("abc":Str).cps.getD (v%3) 0,rfl,rfl,kY (by decide +kernel),oY v,_,rfl,_,_,rfl,rfl,⟨by decide,by decide⟩,_,_,rfl,rfl,_,_,rfl,rfl,by omega,by omega,by show 1≤100;decide,?_⟩
  have e:((1:Int)+(v:Int) / 3).toNat=1+v / 3:=by omega
  rw [e]
  exact q' _ _ (Same.refl _) rfl
 have h2:m≠2:=fun z=>c (by subst z;rfl)
 refine ⟨_,rfl,rfl,_,rfl,kN (fun c=>?_) (fun c=>?_)⟩
 ·have c0:m=3:=by have e:=of_decide_eq_true c;injection e with e;omega
  subst c0
  refine ⟨_,rfl,_,_,rfl,rfl,⟨by decide,by decide⟩,_,rfl,_,_,rfl,rfl,(show (0:Int)<5 by decide),kY (by show 2≤1000;decide),fun t1 ht1=>⟨kY (by show 2≤1000;decide),fun t2 ht2=>?_⟩⟩
  have u1:=jS ht1 (.tup [V.int ((v:Int)%5),.str "x"])
  have u2:=jS ht2 (.tup [V.int ((v:Int) / 5),.ref t1])
  refine q' _ _ (u1.trans u2) ⟨t2,_,rfl,jL,_,_,rfl,(congrArg V.int (by omega)),_,_,rfl,⟨t1,_,rfl,u2 _ _ jL,_,_,rfl,(congrArg V.int (by omega)),_,_,rfl,rfl,rfl⟩,rfl⟩
 have h3:m≠3:=fun z=>c (by subst z;rfl)
 have e4:jX m v=if v%3=0 then .i v else if v%3=1 then .s ("s"++Str.ofString (toString (v:Int))) else .cons (.i v) (.cons (.s "") .nil):=by
  unfold jX
  rw [if_neg h0,if_neg h1,if_neg h2,if_neg h3]
 rw [e4] at q'
 refine ⟨_,rfl,_,rfl,_,rfl,pI v (by omega),_,_,rfl,rfl,kY (pK v (by omega)),_,rfl,kY (by show 2≤1000;decide),fun t1 ht1=>⟨kY (by show 3≤1000;decide),fun l1 hl1=>?_⟩⟩
 have u1:=jS ht1 (.tup [V.int (v:Int),.str ""])
 have u2:=jS hl1 (.lst [V.int (v:Int),.str ("s"++Str.ofString (toString (v:Int))),.ref t1])
 have hlt:v%3<3:=Nat.mod_lt _ (by decide)
 have ei:(v:Int)%3=((v%3:Nat):Int):=by omega
 refine ⟨_,rfl,_,_,rfl,rfl,(show (0:Int)<3 by decide),l1,_,_,([V.int (v:Int),.str ("s"++Str.ofString (toString (v:Int))),.ref t1].getD (v%3) .non),rfl,rfl,SqL.of jL,?_,q' _ _ (u1.trans u2) ?_⟩
 ·rw [ei]
  refine yB ?_
  rw [List.getD_eq_getElem?_getD]
  generalize v%3=n at hlt
  match n,hlt with
  |0,_=>rfl
  |1,_=>rfl
  |2,_=>rfl
 ·generalize v%3=n at hlt
  match n,hlt with
  |0,_=>exact rfl
  |1,_=>exact rfl
  |2,_=>exact ⟨t1,_,rfl,u2 _ _ jL,_,_,rfl,rfl,_,_,rfl,rfl,rfl⟩
theorem QY:FnScope ["_law_mode","_law_j","_law_kind_here"] ["_law_mode","_law_j"] (jH y9):=⟨rfl,rfl,rfl,by decide +kernel,rfl,by decide +kernel,by decide +kernel⟩
theorem fV {f:Addr} {fd:FuncData} (F:Fun K "_law_deed" "_law_deed" y9 f fd) (T:Txt K mg eW) : FnOk P w K mg base jZ 2 f fd ["_law_mode","_law_j"] (eB):=by
 refine F.ok QY (fun vs H Q E h=>?_) (fun cdv A outer s H vs Q E hr h=>?_)
 ·obtain ⟨m,j,rfl,hm,hj,q⟩:=h
  rfl
 obtain ⟨m,j,rfl,hm,hj,q⟩:=h
 have hu:_<cLine:=hr.units0
 have hu1:=kS hr
 refine ⟨_,(jJ (j3 (i:=2) QY.nd rfl (by first|exact Or.inl rfl|exact Or.inr rfl) (jP kM (pv 0) jE))
   (yT (kD (kG kR (pv 0) jE (jV _)) (jK (j3 (i:=2) QY.nd rfl (by first|exact Or.inl rfl|exact Or.inr rfl) (jP kM (pv 1) jE))) kC)
   (jK (jR (kA vJ (q0 (jA (pv 1) (jA (jP bH vF (JW b0 (by rfl) T.z_str PyProof.Rows.boot_str (jA (pv 1) jC))) (jA (yD (jA vF (jA (pv 1) jC))) jC)))) (pv 2) (fun _ _=>rfl)))))),?_⟩
 refine ⟨_,rfl,_,_,rfl,rfl,(show (0:Int)<3 by decide),?_⟩
 refine ⟨fun σ Hi=>σ=[some (.int m),some (.int j),some (.int (kindD m j))]∧Hi=H,?_,?_⟩
 ·refine ⟨_,rfl,rfl,_,rfl,kN (fun c=>?_) (fun c=>?_)⟩
  ·have c0:m=4:=by have e:=of_decide_eq_true c;injection e with e;omega
   subst c0
   refine ⟨_,rfl,_,_,rfl,rfl,(show (0:Int)<3 by decide),?_,rfl⟩
   rw [show ((kindD 4 j:Nat):Int)=(j:Int)%3 by rw [kindD,if_pos rfl];omega]
   rfl
  ·have h4:m≠4:=fun z=>c (by subst z;rfl)
   refine ⟨?_,rfl⟩
   rw [show ((kindD m j:Nat):Int)=(m:Int)%3 by rw [kindD,if_neg h4];omega]
   rfl
 rintro σ Hi ⟨rfl,rfl⟩
 have hk:kindD m j<3:=by unfold kindD;split<;>exact Nat.mod_lt _ (by decide)
 refine ⟨_,rfl,_,rfl,_,rfl,oH j (by omega),_,_,rfl,rfl,kY (oJ j (by omega)),_,rfl,kY (by show 2≤1000;decide),fun t1 ht1=>⟨kY (by show 3≤1000;decide),fun l1 hl1=>?_⟩⟩
 have u1:=jS ht1 (.tup [V.str "go",.int (j:Int)])
 have u2:=jS hl1 (.lst [V.int (j:Int),.str ("d"++Str.ofString (toString (j:Int))),.ref t1])
 refine ⟨_,rfl,l1,_,_,([V.int (j:Int),.str ("d"++Str.ofString (toString (j:Int))),.ref t1].getD (kindD m j) .non),rfl,rfl,SqL.of jL,yB ?_,q _ _ (u1.trans u2) ?_⟩
 ·rw [List.getD_eq_getElem?_getD]
  generalize kindD m j=n at hk
  match n,hk with
  |0,_=>rfl
  |1,_=>rfl
  |2,_=>rfl
 ·unfold qY
  generalize kindD m j=n at hk
  match n,hk with
  |0,_=>exact rfl
  |1,_=>exact rfl
  |2,_=>exact ⟨t1,_,rfl,u2 _ _ jL,_,_,rfl,rfl,_,_,rfl,rfl,rfl⟩
theorem gP:FnScope ["_law_table_here","_law_mode","_law_v","_law_w"] ["_law_table_here","_law_mode","_law_v","_law_w"] (jH zA):=⟨rfl,rfl,rfl,by decide +kernel,rfl,by decide +kernel,by decide +kernel⟩
theorem fW {f:Addr} {fd:FuncData} (F:Fun K "_law_joined" "_law_joined" zA f fd) (T:Txt K mg eW) (D__law_label:Def P w K mg base 2 "_law_label" ["_law_mode","_law_v"] [] (JK)) (D__law_deed:Def P w K mg base 2 "_law_deed" ["_law_mode","_law_j"] [] (eB)):FnOk P w K mg base jZ 4 f fd ["_law_table_here","_law_mode","_law_v","_law_w"] (cI w):=by
 refine F.ok gP (fun vs H Q E h=>?_) (fun cdv A outer s H vs Q E hr h=>?_)
 ·obtain ⟨d,m,v,u,T0,ls,ps,rfl,hm,hv,hw,hT,hps,hu0,h190,q⟩:=h
  rfl
 obtain ⟨d,m,v,u,T0,ls,ps,rfl,hm,hv,hw,hT,hps,hu0,h190,q⟩:=h
 have hu:_<cLine:=hr.units0
 have hu1:=kS hr
 have hu9:=qW hr
 have hu10:=qU hr
 refine ⟨_,(jK (vQ (yV PySem.F.plainAttrs_list PySem.F.slot_list_append PySem.F.type_list_append yQ (vG hu9 (pv 0) (j4 D__law_label hr rfl (jA (pv 1) (jA (pv 2) jC))) (fun _ _=>rfl)) (jA (yD (jA (j4 D__law_deed hr rfl (jA (pv 1) (jA (kH qJ (by rfl) T.z_len PySem.boot_len (jA (vG hu9 (pv 0) (j4 D__law_label hr rfl (jA (pv 1) (jA (pv 2) jC))) (fun _ _=>rfl)) jC)) jC))) (jA (j4 D__law_label hr rfl (jA (pv 1) (jA (pv 3) jC))) jC))) jC)))),?_⟩
 obtain ⟨kvs,e1,g,ap,e3⟩:=hT.ex
 obtain ⟨l,xs,f1,f2,f3⟩:=e3 _ ps hps
 have hxl:=f3.1
 refine ⟨_,rfl,_,rfl,_,rfl,m,v,rfl,hm,hv,fun y1 H1 s1 hy1 _=>⟨d,kvs,_,_,rfl,.of (s1 _ _ e1),kW s1 g,hy1,JF m v,f1,.inl ⟨rfl,_,SqL.of (s1 _ _ f2)⟩,?_⟩⟩
 refine ⟨_,rfl,_,rfl,_,rfl,_,rfl,m,v,rfl,hm,hv,fun y2 H2 s2 hy2 _=>⟨d,kvs,_,_,rfl,.of (s2 _ _ (s1 _ _ e1)),kW (s1.trans s2) g,hy2,JF m v,f1,l,_,rfl,.inl (SqL.of ((s1.trans s2) _ _ f2)),?_⟩⟩
 refine ⟨m,xs.length,rfl,hm,by omega,fun y3 H3 s3 hy3=>⟨_,rfl,_,rfl,m,u,rfl,hm,hw,fun y4 H4 s4 hy4 _=>⟨kY (by show 2≤1000;decide),fun t ht=>?_⟩⟩⟩
 have s14:=((s1.trans s2).trans s3).trans s4
 have ut:=jS ht (.tup [y3,y4])
 have hl5:=ut _ _ (s14 _ _ f2)
 refine ⟨l,_,_,rfl,rfl,hl5,qV (by omega),?_⟩
 have sA:=s14.trans ut
 have ntl:t≠l:=fun z=>by subst z;rw [s14 _ _ f2] at ht;cases ht
 have tk:∀a z,jB H4 t (.tup [y3,y4]) a=some (.tup z)→jB (jB H4 t (.tup [y3,y4])) l (.lst (xs++[.ref t])) a=some (.tup z):=fun a z e=>by
  rw [jD fun y=>by subst y;rw [hl5] at e;cases e];exact e
 have kp:∀a o,a≠l→H a=some o→jB (jB H4 t (.tup [y3,y4])) l (.lst (xs++[.ref t])) a=some o:=fun a o n e=>by rw [jD n];exact sA _ _ e
 refine q _ (lN hT e1 g ap e3 hps f1 f2 f3 h190 hu0 kp jL (by rw [jD ntl,jL]) ?_ ?_ (iV _ _) (JF _ _)) ⟨fun a o n e=>kp a o (fun y=>by subst y;exact n (ap.2.1 _ _ f1)) e,fun a zs e=>?_⟩
 ·rw [hxl] at hy3
  exact (GV.keep tk _).1 _ (jW (s4.trans ut) hy3)
 ·exact (GV.keep tk _).1 _ (jW ut hy4)
 ·by_cases z:a=l
  ·subst z;exact ⟨_,jL⟩
  ·exact ⟨zs,kp a _ z e⟩
theorem gS:FnScope ["_law_cell"] ["_law_cell"] (jH zE):=⟨rfl,rfl,rfl,by decide +kernel,rfl,by decide +kernel,by decide +kernel⟩
theorem gB {f:Addr} {fd:FuncData} (F:Fun K "_law_many" "_law_many" zE f fd) (T:Txt K mg eW) : FnOk P w K mg base jZ 1 f fd ["_law_cell"] (dP):=by
 refine F.ok gS (fun vs H Q E h=>?_) (fun cdv A outer s H vs Q E hr h=>?_)
 ·obtain ⟨c,rfl,q⟩:=h
  rfl
 obtain ⟨c,rfl,q⟩:=h
 have hu:_<cLine:=hr.units0
 have hu1:=kS hr
 refine ⟨_,(jJ (kD (kG kR (jP kM (jP qT (pv 0) jE) jE) jE (jV _)) (jK (jR (jP yE jE (jP kM (jP qT (pv 0) jE) jE)))) kC)
   (jK (jR (jP yE jE (jP kM (pv 0) jE))))),?_⟩
 refine ⟨_,rfl,_,_,rfl,rfl,⟨by decide,by decide⟩,_,_,rfl,rfl,(show (0:Int)<8 by decide),rfl,_,rfl,kN (fun _=>?_) (fun _=>?_)⟩
 ·obtain ⟨k,ek,hk⟩:=QQ (a:=c / 576) (b:=975) (by decide)
  refine ⟨_,rfl,_,_,rfl,rfl,⟨by decide,by decide⟩,_,_,rfl,rfl,(show (0:Int)<975 by decide),_,_,rfl,rfl,?_⟩
  have:=q (25+k) (by omega) (by omega)
  rw [show ((25+k:Nat):Int)=25+c / 576%975 by omega] at this
  exact this
 ·obtain ⟨k,ek,hk⟩:=QQ (a:=c) (b:=24) (by decide)
  refine ⟨_,rfl,_,_,rfl,rfl,(show (0:Int)<24 by decide),_,_,rfl,rfl,?_⟩
  have:=q (1+k) (by omega) (by omega)
  rw [show ((1+k:Nat):Int)=1+c%24 by omega] at this
  exact this
theorem v4:FnScope ["_law_script","_law_mode","_law_many_here","_law_table_here","_law_v","_law_cell","_law_w"] ["_law_script","_law_mode","_law_many_here"] (jH zI):=⟨rfl,rfl,rfl,by decide +kernel,rfl,by decide +kernel,by decide +kernel⟩
theorem gH {f:Addr} {fd:FuncData} (F:Fun K "_law_table" "_law_table" zI f fd) (T:Txt K mg eW) (D__law_label:Def P w K mg base 2 "_law_label" ["_law_mode","_law_v"] [] (JK)) (D__law_cell_at:Def P w K mg base 1 "_law_cell_at" ["_law_script","_law_k"] [] (ZO K)) (D__law_joined:Def P w K mg base 4 "_law_joined" ["_law_table_here","_law_mode","_law_v","_law_w"] [] (cI w)):FnOk P w K mg base jZ 6 f fd ["_law_script","_law_mode","_law_many_here"] (dL w K):=by
 refine F.ok v4 (fun vs H Q E h=>?_) (fun cdv A outer s H vs Q E hr h=>?_)
 ·obtain ⟨a,ns,m,n,rfl,hS,h63,hm,hn1,hn,q⟩:=h
  rfl
 obtain ⟨a,ns,m,n,rfl,hS,h63,hm,hn1,hn,q⟩:=h
 have hu:_<cLine:=hr.units0
 have hu1:=kS hr
 have hu9:=qW hr
 have hu10:=qU hr
 refine ⟨_,(jJ (j3 (i:=3) v4.nd rfl (by first|exact Or.inl rfl|exact Or.inr rfl) ZG)
   (jJ (vC PassesOwn.never rfl (JH (by rfl) T.z_range (jA (pv 2) jC)) (kU (i:=4) v4.nd rfl (by first|exact Or.inl rfl|exact Or.inr rfl))
    (jK (QD hu9 (pv 3) (j4 D__law_label hr rfl (jA (pv 1) (jA (pv 4) jC))) (q0 jC) rfl)))
   (yT (kD (PW.pt (vI (kG kR (jP kM (jP qT (j4 D__law_cell_at hr rfl (jA (pv 0) (jA jE jC))) jE) jE) jE (jV _)) (yC (kG fA (pv 2) jE (jV _))))) (jK (vC PassesOwn.never rfl (JH (by rfl) T.z_range (jA (jP zX (pv 2) jE) jC)) (kU (i:=4) v4.nd rfl (by first|exact Or.inl rfl|exact Or.inr rfl))
    (jK (vQ (j4 D__law_joined hr rfl (jA (pv 3) (jA (pv 1) (jA (pv 4) (jA (jP yE (pv 4) jE) jC))))))))) kC)
   (jJ (vC PassesOwn.never rfl (vK (lV mT (pv 0) (fR jE) m5)) (kU (i:=5) v4.nd rfl (by first|exact Or.inl rfl|exact Or.inr rfl))
    (jJ (j3 (i:=4) v4.nd rfl (by first|exact Or.inl rfl|exact Or.inr rfl) (jP kM (pv 5) (pv 2)))
   (jJ (j3 (i:=6) v4.nd rfl (by first|exact Or.inl rfl|exact Or.inr rfl) (jP kM (jP qT (pv 5) (pv 2)) (pv 2)))
   (yT (kD (kG kR (jP kM (jP qT (jP qT (pv 5) (pv 2)) (pv 2)) jE) jE (jV _)) (jK (j3 (i:=6) v4.nd rfl (by first|exact Or.inl rfl|exact Or.inr rfl) (jP kM (jP yE (pv 4) jE) (pv 2)))) kC)
   (jK (vQ (j4 D__law_joined hr rfl (jA (pv 3) (jA (pv 1) (jA (pv 4) (jA (pv 6) jC)))))))))))
   (jK (jR (pv 3))))))),?_⟩
 intro d hd0
 have u0:=jS hd0 (GO w d [])
 refine ⟨_,rfl,_,rfl,by omega,by omega,zQ (n:=((n:Nat):Int).toNat) (fun i σ Hi=>∃T ls c4,σ=[some (.ref a),some (.int m),some (.int n),some (.ref d),c4,none,none]∧TabIn w H Hi d m i 0 T ls∧ls.length≤i) ⟨[],[],none,rfl,⟨i0 jL,⟨fun v h=>absurd h (Nat.not_lt_zero v),fun _ _ e=>absurd e (by simp [jI]),fun _ _ e=>absurd e (by simp [jI])⟩,u0,fun l h=>(nomatch h),hd0,fun l h=>(nomatch h)⟩,Nat.le_refl _⟩ ?_ ?_⟩
 ·rintro i σ Hi hi ⟨T,ls,c4,rfl,hI,hle⟩
  rw [Int.zero_add]
  obtain ⟨kvs,e1,g,ap,e3⟩:=hI.tab.ex
  refine ⟨Nat.zero_le _,fun l hl0=>?_⟩
  have u1:=jS hl0 (.lst [])
  refine ⟨_,rfl,_,rfl,_,rfl,m,i,rfl,hm,by omega,fun y H1 s1 hy h8=>?_⟩
  have s2:=u1.trans s1
  refine ⟨d,kvs,_,rfl,s2 _ _ e1,kW s2 g,hy,h8,QX (by have:=ap.2.2.1;omega),?_⟩
  have hl1:=s1 _ _ (show jB Hi l (.lst []) l=some (.lst []) from jL)
  have hd1:=s2 _ _ e1
  have nld:l≠d:=fun z=>by subst z;rw [hl1] at hd1;cases hd1
  have hls:∀l'∈ls,l'≠l:=fun l' h z=>by subst z;obtain ⟨xs,e⟩:=hI.trk l' h;rw [hl0] at e;cases e
  refine ⟨JQ T (jX m i),l::ls,_,rfl,?_,by rw [List.length_cons];omega⟩
  ·refine ⟨mO (hI.tab.same s2) (kW s2 g) ap (fun k ps h=>?_) (fun xs e=>by rw [hd1] at e;cases e) (fun xs e=>by rw [hd1] at e;cases e) (fun k' e=>hls l (ap.2.1 _ _ e) rfl) hy h8 (fun a o n e=>by rw [jD n];exact e) (by rw [jD nld];exact hl1) jL,⟨fun v hv=>?_,fun k ps h=>?_,fun k ps h=>?_⟩,qM hI.dn (hI.sm.trans s2),fun l' h=>?_,hI.dn,fun l' h=>?_⟩
   ·obtain ⟨l',xs,f1,f2,f3⟩:=e3 k ps h
    exact ⟨l',xs,f1,s2 _ _ f2,f3.same s2⟩
   ·rw [zW]
    split
    ·rfl
    ·rename_i hne
     exact hI.ok.dom v (by have:v≠i:=fun z=>hne (by rw [z]);omega)
   ·rw [zW] at h
    by_cases hk:k=jX m i
    ·rw [if_pos hk] at h;cases h;exact ⟨Nat.le_refl _,fun i p e=>by cases e⟩
    ·rw [if_neg hk] at h;exact hI.ok.row k ps h
   ·rw [zW] at h
    by_cases hk:k=jX m i
    ·exact ⟨i,Nat.lt_succ_self i,hk⟩
    ·rw [if_neg hk] at h
     obtain ⟨v,hv,e⟩:=hI.ok.cod k ps h
     exact ⟨v,by omega,e⟩
   ·rcases List.mem_cons.mp h with rfl|h
    ·cases hz:H l' with
     |none=>rfl
     |some o=>have:=hI.sm _ _ hz;rw [hl0] at this;cases this
    ·exact hI.new l' h
   ·rcases List.mem_cons.mp h with rfl|h
    ·exact ⟨[],by rw [jD nld];exact hl1⟩
    ·obtain ⟨xs,e⟩:=hI.trk l' h
     exact ⟨xs,by rw [jD fun z=>by subst z;have:=s2 _ _ e;rw [hd1] at this;cases this];exact s2 _ _ e⟩
 rintro σ Hi ⟨T,ls,c4,rfl,hI,hle⟩
 rw [Int.toNat_natCast] at hI
 clear hle
 refine ⟨fun σ Hj=>∃T ls c4,σ=[some (.ref a),some (.int m),some (.int n),some (.ref d),c4,none,none]∧TabIn w H Hj d m n 999 T ls,?_,?_⟩
 ·refine ⟨_,rfl,a,ns,0,rfl,hI.sm.seq hS,_,_,rfl,rfl,⟨by decide,by decide⟩,_,_,rfl,rfl,(show (0:Int)<3 by decide),rfl,_,rfl,kN (fun _=>kT ?_) (fun _=>⟨_,rfl,_,_,rfl,rfl,_,rfl,kN (fun _=>?_) (fun _=>⟨T,ls,c4,rfl,hI.mono (by omega)⟩)⟩)⟩
  ·refine ⟨_,rfl,_,_,rfl,rfl,_,rfl,by omega,by omega,zQ (n:=((n:Int) - 1).toNat) (fun i σ Hj=>∃T ls c4,σ=[some (.ref a),some (.int m),some (.int n),some (.ref d),c4,none,none]∧TabIn w H Hj d m n i T ls) ⟨T,ls,c4,rfl,hI⟩ ?_ ?_⟩
   ·rintro i σ Hj hi ⟨T,ls,c4,rfl,hI⟩
    rw [Int.zero_add]
    have hi':i+1<n:=by omega
    obtain ⟨ps,hps⟩:=Option.isSome_iff_exists.mp (hI.ok.dom i (by omega))
    have h24:=(hI.ok.row _ ps hps).1
    refine ⟨_,rfl,_,rfl,_,rfl,_,rfl,_,_,rfl,rfl,d,m,i,i+1,T,ls,ps,rfl,hm,by omega,by omega,hI.tab,hps,hI.ok.dom (i+1) (by omega),by omega,fun H' hT hk=>⟨_,ls,_,rfl,hI.join hps hT hk⟩⟩
   ·rintro σ Hj ⟨T,ls,c4,rfl,hI⟩
    refine ⟨T,ls,c4,rfl,hI.mono (by omega)⟩
  ·refine ⟨_,rfl,_,_,rfl,rfl,_,rfl,by omega,by omega,zQ (n:=((n:Int) - 1).toNat) (fun i σ Hj=>∃T ls c4,σ=[some (.ref a),some (.int m),some (.int n),some (.ref d),c4,none,none]∧TabIn w H Hj d m n i T ls) ⟨T,ls,c4,rfl,hI⟩ ?_ ?_⟩
   ·rintro i σ Hj hi ⟨T,ls,c4,rfl,hI⟩
    rw [Int.zero_add]
    have hi':i+1<n:=by omega
    obtain ⟨ps,hps⟩:=Option.isSome_iff_exists.mp (hI.ok.dom i (by omega))
    have h24:=(hI.ok.row _ ps hps).1
    refine ⟨_,rfl,_,rfl,_,rfl,_,rfl,_,_,rfl,rfl,d,m,i,i+1,T,ls,ps,rfl,hm,by omega,by omega,hI.tab,hps,hI.ok.dom (i+1) (by omega),by omega,fun H' hT hk=>⟨_,ls,_,rfl,hI.join hps hT hk⟩⟩
   ·rintro σ Hj ⟨T,ls,c4,rfl,hI⟩
    refine ⟨T,ls,c4,rfl,hI.mono (by omega)⟩
 rintro σ Hj ⟨T,ls,c4,rfl,hI⟩
 obtain ⟨cs,hcs,hlc⟩:=lJ ns (some 3) none
 have modN:∀z:Int,∃v:Nat,z%(n:Int)=v∧v<n:=fun z=>⟨(z%(n:Int)).toNat,by have:=Int.emod_nonneg z (show (n:Int)≠0 by omega);omega,by have:=Int.emod_nonneg z (show (n:Int)≠0 by omega);have:=Int.emod_lt_of_pos z (show (0:Int)<n by omega);omega⟩
 refine ⟨_,rfl,_,rfl,a,_,rfl,hI.sm.seq hS,fun p hp=>⟨p,rfl,⟨_,SqL.of jL⟩,yR (K:=K) (a:=p) (xs:=yJ (ns.map V.int) (some 3) none) (fun i σ Hk=>∃T ls c4 c5 c6,σ=[some (.ref a),some (.int m),some (.int n),some (.ref d),c4,c5,c6]∧TabIn w H Hk d m n (999+i) T ls∧Hk p=some (.lst (yJ (ns.map V.int) (some 3) none))∧p∉ls)
  ⟨T,ls,c4,none,none,rfl,hI.same (jS hp _),jL,fun hin=>by obtain ⟨xs,e⟩:=hI.trk p hin;rw [hp] at e;cases e⟩ (fun i σ Hk _ ⟨_,_,_,_,_,_,_,e,_⟩=>SqL.of e) ?_ ?_⟩⟩
 ·rintro i x σ Hk hx ⟨T,ls,c4,c5,c6,rfl,hI,hpk,hpl⟩
  have hi:=(List.getElem?_eq_some_iff.mp hx).1
  rw [hcs] at hx hi
  rw [List.length_map] at hi
  obtain ⟨z,rfl,_⟩:=mF hx
  obtain ⟨v,ev,hv⟩:=modN z
  obtain ⟨u,eu,hu⟩:=modN (z / (n:Int))
  refine ⟨_,rfl,_,rfl,_,_,rfl,rfl,(show (0:Int)<n by omega),?_⟩
  refine ⟨_,rfl,_,rfl,_,_,rfl,rfl,⟨by omega,by omega⟩,_,rfl,_,_,rfl,rfl,(show (0:Int)<n by omega),?_⟩
  refine ⟨fun σ Hl=>∃u:Nat,u<n∧σ=[some (.ref a),some (.int m),some (.int n),some (.ref d),some (.int v),some (.int z),some (.int u)]∧Hl=Hk,?_,?_⟩
  ·refine ⟨_,rfl,_,rfl,_,_,rfl,rfl,⟨by omega,by omega⟩,_,rfl,_,_,rfl,rfl,⟨by omega,by omega⟩,_,_,rfl,rfl,(show (0:Int)<3 by decide),rfl,_,rfl,kN (fun _=>?_) (fun _=>?_)⟩
   ·obtain ⟨u',e',h'⟩:=modN (z%(n:Int)+1)
    exact ⟨_,rfl,_,_,rfl,rfl,_,rfl,_,_,rfl,rfl,(show (0:Int)<n by omega),u',h',by rw [← ev,← e'];rfl,rfl⟩
   ·exact ⟨u,hu,by rw [← ev,← eu];rfl,rfl⟩
  rintro σ Hl ⟨u,hu,rfl,rfl⟩
  obtain ⟨ps,hps⟩:=Option.isSome_iff_exists.mp (hI.ok.dom v hv)
  have hc:=(hI.ok.row _ ps hps).1
  refine ⟨_,rfl,_,rfl,_,rfl,_,rfl,d,m,v,u,T,ls,ps,rfl,hm,by omega,by omega,hI.tab,hps,hI.ok.dom u hu,by omega,fun H' hT hk=>⟨_,ls,_,_,_,rfl,hI.join hps hT hk,hk.1 p _ hpl hpk,hpl⟩⟩
 ·rintro σ Hk ⟨T,ls,c4,c5,c6,rfl,hI,hpk,hpl⟩
  rw [hcs,List.length_map] at hI
  exact ⟨_,rfl,q d T ls Hk hI.tab (hI.mono (by omega)).ok hI.sm hI.new hI.dn⟩
theorem zL:FnScope ["_law_cell","_law_mode","_law_many_here","_law_way","_law_rest","_law_marks_here","_law_v","_law_marked"] ["_law_cell","_law_mode","_law_many_here"] (jH zF):=⟨rfl,rfl,rfl,by decide +kernel,rfl,by decide +kernel,by decide +kernel⟩
theorem gC {f:Addr} {fd:FuncData} (F:Fun K "_law_marks" "_law_marks" zF f fd) (T:Txt K mg eW) (D__law_label:Def P w K mg base 2 "_law_label" ["_law_mode","_law_v"] [] (JK)):FnOk P w K mg base jZ 4 f fd ["_law_cell","_law_mode","_law_many_here"] (dO w):=by
 refine F.ok zL (fun vs H Q E h=>?_) (fun cdv A outer s H vs Q E hr h=>?_)
 ·obtain ⟨c,m,n,rfl,hm,hn1,hn,q⟩:=h
  rfl
 obtain ⟨c,m,n,rfl,hm,hn1,hn,q⟩:=h
 have hu:_<cLine:=hr.units0
 have hu1:=kS hr
 have hu9:=qW hr
 have hu10:=qU hr
 refine ⟨_,(jJ (j3 (i:=3) zL.nd rfl (by first|exact Or.inl rfl|exact Or.inr rfl) (jP kM (pv 0) jE))
   (jJ (j3 (i:=4) zL.nd rfl (by first|exact Or.inl rfl|exact Or.inr rfl) (jP qT (pv 0) jE))
   (jJ (j3 (i:=5) zL.nd rfl (by first|exact Or.inl rfl|exact Or.inr rfl) ZG)
   (jJ (vC PassesOwn.never rfl (JH (by rfl) T.z_range (jA (pv 2) jC)) (kU (i:=6) zL.nd rfl (by first|exact Or.inl rfl|exact Or.inr rfl))
    (yT (j3 (i:=7) zL.nd rfl (by first|exact Or.inl rfl|exact Or.inr rfl) (eY (yU (vH kR (pv 3) jE (jV _)) (v0 (vH kR (pv 6) (jP kM (pv 4) (pv 2)) (jV _)))) (v0 (yU (vH kR (pv 3) jE (jV _)) (v0 (vH kR (jP kM (jP yE (jP yE (jP eH (pv 6) (pv 6)) (jP qT (pv 6) jE)) (pv 4)) jE) jE (jV _)))))))
   (jK (QD hu9 (pv 5) (j4 D__law_label hr rfl (jA (pv 1) (jA (pv 6) jC))) (eY (pv 7) (v0 (yU (vH kR (pv 3) jE (jV _)) (v0 (vH pH (pv 6) (jP zX (jP zX (pv 2) jE) (jP kM (pv 4) jE)) (jV _)))))) rfl))))
   (jK (jR (pv 5))))))),?_⟩
 refine ⟨_,rfl,_,_,rfl,rfl,(show (0:Int)<4 by decide),_,rfl,_,_,rfl,rfl,⟨by decide,by decide⟩,fun d hd0=>?_⟩
 have u0:=jS hd0 (GO w d [])
 refine ⟨_,rfl,_,rfl,by omega,by omega,zQ (n:=((n:Nat):Int).toNat) (fun i σ Hi=>∃M c6 c7,σ=[some (.int c),some (.int m),some (.int n),some (.int (c%4)),some (.int (c / 4)),some (.ref d),c6,c7]∧MarkIn w H Hi d m i M) ⟨fun _=>false,none,none,rfl,⟨⟨[],jL,GOk.nil,Nat.le_refl _,fun v h=>absurd h (Nat.not_lt_zero v)⟩,u0,hd0⟩⟩ ?_ ?_⟩
 ·rintro i σ Hi hi ⟨M,c6,c7,rfl,hI⟩
  rw [Int.zero_add]
  have hn0:(0:Int)<n:=by omega
  refine ⟨fun σ Hj=>∃b,σ=[some (.int c),some (.int m),some (.int n),some (.int (c%4)),some (.int (c / 4)),some (.ref d),some (.int i),some (.bl b)]∧Hj=Hi,?_,?_⟩
  ·refine ⟨_,rfl,rfl,_,rfl,kN (fun _=>?_) (fun _=>?_)⟩
   ·refine ⟨_,rfl,_,rfl,_,rfl,_,_,rfl,rfl,hn0,rfl,_,rfl,kN (fun _=>⟨true,rfl,rfl⟩) (fun _=>?_)⟩
    exact ⟨_,rfl,rfl,_,rfl,kN (fun _=>⟨_,rfl,_,rfl,_,_,rfl,rfl,.inl ⟨by omega,by omega⟩,_,rfl,_,_,rfl,rfl,⟨by decide,by decide⟩,_,_,rfl,rfl,_,rfl,_,_,rfl,rfl,_,_,rfl,rfl,(show (0:Int)<5 by decide),rfl,_,rfl,rfl⟩) (fun _=>⟨false,rfl,rfl⟩)⟩
   ·refine ⟨_,rfl,jU ?_⟩
    exact ⟨_,rfl,rfl,_,rfl,kN (fun _=>⟨_,rfl,_,rfl,_,_,rfl,rfl,.inl ⟨by omega,by omega⟩,_,rfl,_,_,rfl,rfl,⟨by decide,by decide⟩,_,_,rfl,rfl,_,rfl,_,_,rfl,rfl,_,_,rfl,rfl,(show (0:Int)<5 by decide),rfl,_,rfl,rfl⟩) (fun _=>⟨false,rfl,rfl⟩)⟩
  rintro σ Hj ⟨b,rfl,rfl⟩
  refine ⟨_,rfl,_,rfl,kN (fun _=>?_) (fun _=>?_)⟩
  ·exact ⟨_,rfl,_,rfl,_,rfl,m,i,rfl,hm,by omega,fun y H1 s1 hy h8=>by
   obtain ⟨kvs,e1,g,hle,J⟩:=Q8 hI s1 hy true
   exact ⟨d,kvs,_,rfl,e1,g,hy,h8,qV (by omega),_,_,_,rfl,J⟩⟩
  refine ⟨_,rfl,rfl,_,rfl,kN (fun _=>?_) (fun _=>?_)⟩
  ·refine ⟨_,rfl,_,rfl,_,_,rfl,rfl,_,rfl,_,_,rfl,rfl,(show (0:Int)<3 by decide),_,_,rfl,rfl,_,_,rfl,rfl,?_⟩
   exact ⟨_,rfl,_,rfl,_,rfl,m,i,rfl,hm,by omega,fun y H1 s1 hy h8=>by
   obtain ⟨kvs,e1,g,hle,J⟩:=Q8 hI s1 hy _
   exact ⟨d,kvs,_,rfl,e1,g,hy,h8,qV (by omega),_,_,_,rfl,J⟩⟩
  ·exact ⟨_,rfl,_,rfl,_,rfl,m,i,rfl,hm,by omega,fun y H1 s1 hy h8=>by
   obtain ⟨kvs,e1,g,hle,J⟩:=Q8 hI s1 hy false
   exact ⟨d,kvs,_,rfl,e1,g,hy,h8,qV (by omega),_,_,_,rfl,J⟩⟩
 rintro σ Hi ⟨M,c6,c7,rfl,hI⟩
 rw [Int.toNat_natCast] at hI
 exact ⟨_,rfl,q d M Hi hI⟩
theorem JX:FnScope ["_law_layer","_law_table_here","_law_met","_law_found","_law_state","_law_pair"] ["_law_layer","_law_table_here","_law_met"] (jH zG):=⟨rfl,rfl,rfl,by decide +kernel,rfl,by decide +kernel,by decide +kernel⟩
theorem gD {f:Addr} {fd:FuncData} (F:Fun K "_law_new" "_law_new" zG f fd) (T:Txt K mg eW) : FnOk P w K mg base jZ 2 f fd ["_law_layer","_law_table_here","_law_met"] (eA w):=by
 refine F.ok JX (fun vs H Q E h=>?_) (fun cdv A outer s H vs Q E hr h=>?_)
 ·obtain ⟨l,dT,dm,T0,ls,m,n,c0,xs,lay,met,rfl,hT,hO,hn,hl,hks,hdom,hMt,q⟩:=h
  rfl
 obtain ⟨l,dT,dm,T0,ls,m,n,c0,xs,lay,met,rfl,hT,hO,hn,hl,hks,hdom,hMt,q⟩:=h
 have hu:_<cLine:=hr.units0
 have hu1:=kS hr
 have hu9:=qW hr
 have hu10:=qU hr
 refine ⟨_,(jJ (j3 (i:=3) JX.nd rfl (by first|exact Or.inl rfl|exact Or.inr rfl) (q0 jC))
   (jJ (vC PassesOwn.never rfl (vK (pv 0)) (kU (i:=4) JX.nd rfl (by first|exact Or.inl rfl|exact Or.inr rfl))
    (jK (vC PassesOwn.never rfl (vK (vG hu9 (pv 1) (pv 4) (fun _ _=>rfl))) (kU (i:=5) JX.nd rfl (by first|exact Or.inl rfl|exact Or.inr rfl))
    (jK (kD (PW.pt (n4 (ZP (bR hu9 (kA qB (pv 5) jE (fun _ _=>rfl)) (pv 2))) (mZ (kG (bT hu10) (kA qB (pv 5) jE (fun _ _=>rfl)) (pv 3) (by with_unfolding_all rfl))))) (jK (vQ (yV PySem.F.plainAttrs_list PySem.F.slot_list_append PySem.F.type_list_append yQ (pv 3) (jA (kA qB (pv 5) jE (fun _ _=>rfl)) jC)))) kC)))))
   (jK (jR (pv 3))))),?_⟩
 refine ⟨Nat.zero_le _,fun r hr0=>?_⟩
 have u0:=jS hr0 (.lst [])
 refine ⟨_,rfl,l,rfl,⟨_,SqL.of (u0 _ _ hl)⟩,?_⟩
 refine yR (K:=K) (xs:=xs) (fun i σ Hi=>∃acc c3 c4,σ=[some (.ref l),some (.ref dT),some (.ref dm),some (.ref r),c3,c4]∧ReachIn H Hi r T0 acc∧acc=kE T0 met [] (lay.take i)) ⟨[],none,none,rfl,⟨u0,hr0,⟨[],jL,rfl,fun i x e=>by cases e⟩,List.nodup_nil,fun x hx=>by cases hx⟩,rfl⟩ (fun i σ Hi _ ⟨_,_,_,_,hI,_⟩=>SqL.of (hI.sm _ _ hl)) ?_ ?_
 ·rintro i x σ Hi hx ⟨acc,c3,c4,rfl,hI,hacc⟩
  obtain ⟨k,hk,hyk,h8⟩:=hks.2 i x hx
  obtain ⟨ps,hps⟩:=Option.isSome_iff_exists.mp (hdom k (List.mem_of_getElem? hk))
  obtain ⟨kvs,e1,g,ap,e3⟩:=hT.ex
  obtain ⟨l2,zs,f1,f2,f3⟩:=e3 k ps hps
  have hah:kO T0 k=ps:=by unfold kO;rw [hps];rfl
  refine ⟨_,rfl,_,rfl,dT,kvs,k,_,rfl,ZE hI.sm e1,kW hI.sm g,jW hI.sm hyk,h8,f1,l2,rfl,⟨_,SqL.of (hI.sm _ _ f2)⟩,?_⟩
  refine yR (K:=K) (a:=l2) (xs:=zs) (fun j σ Hj=>∃acc' c4,σ=[some (.ref l),some (.ref dT),some (.ref dm),some (.ref r),some x,c4]∧ReachIn H Hj r T0 acc'∧acc'=qD met acc (ps.take j)) ⟨acc,c4,rfl,hI,rfl⟩ (fun j σ Hj _ ⟨_,_,_,hJ,_⟩=>SqL.of (hJ.sm _ _ f2)) ?_ ?_
  ·rintro j z σ Hj hz ⟨acc',c4,rfl,hJ,hacc'⟩
   obtain ⟨pr,t,b,c,p1,rfl,p3,p4,p5,p6,p7⟩:=f3.2 j z hz
   have hin:pr∈kO T0 k:=by rw [hah];exact List.mem_of_getElem? p1
   have ht:(ps.take (j+1))=ps.take j++[pr]:=by rw [List.take_add_one,p1];rfl
   obtain ⟨ys,er,hky⟩:=hJ.row
   obtain ⟨kvsM,m1,m2,m3⟩:=(hMt.same hJ.sm).ex
   have p3':=hJ.sm _ _ p3
   have p5':=jW hJ.sm p5
   refine ⟨_,rfl,t,_,_,c,rfl,rfl,SqT.of p3',rfl,_,rfl,dm,kvsM,pr.2,rfl,.of m1,m2,p5',p7,_,rfl,?_⟩
   rw [J7,m3]
   by_cases hm0:pr.2∈met
   ·rw [decide_eq_true hm0]
    refine jU (jU ⟨acc',_,rfl,hJ,?_⟩)
    rw [ht,zM,← hacc',qP,if_pos (List.mem_append_left _ hm0)]
   rw [decide_eq_false hm0]
   refine kT ⟨_,rfl,t,_,_,c,rfl,rfl,SqT.of p3',rfl,_,rfl,r,ys,pr.2,acc',rfl,SqL.of er,p5',p7,hky,_,rfl,?_⟩
   by_cases hm:pr.2∈acc'
   ·rw [decide_eq_true hm]
    refine jU ⟨acc',_,rfl,hJ,?_⟩
    rw [ht,zM,← hacc',qP,if_pos (List.mem_append_right _ hm)]
   ·rw [decide_eq_false hm]
    have hlen:=vU hO hJ.nd hJ.dom
    refine kT ⟨_,rfl,.inl ⟨rfl,_,SqL.of er⟩,_,rfl,t,_,_,c,rfl,rfl,SqT.of p3',rfl,r,_,_,rfl,rfl,er,qV (by have:=hky.1;omega),?_⟩
    refine ⟨acc'++[pr.2],_,rfl,hJ.put er hky hm p5' p7 (ZA hT.shut hin),?_⟩
    rw [ht,zM,← hacc',qP,if_neg (by simp [hm0,hm])]
  ·rintro σ Hj ⟨acc',c4,rfl,hJ,hacc'⟩
   refine ⟨acc',_,_,rfl,hJ,?_⟩
   rw [f3.1,List.take_length] at hacc'
   rw [hacc',List.take_add_one,hk]
   show _=kE T0 met [] (lay.take i++[k])
   rw [Q2,hah,← hacc]
 ·rintro σ Hf ⟨acc,c3,c4,rfl,hI,hacc⟩
  rw [hks.1,List.take_length] at hacc
  subst hacc
  obtain ⟨ys,er,hky⟩:=hI.row
  exact ⟨_,rfl,q r ys Hf hI.sm hI.rn er hky⟩
theorem gQ:FnScope ["_law_state"] ["_law_state"] (jH zB):=⟨rfl,rfl,rfl,by decide +kernel,rfl,by decide +kernel,by decide +kernel⟩
theorem fX {f:Addr} {fd:FuncData} (F:Fun K "_law_kind" "_law_kind" zB f fd) (T:Txt K mg eW) : FnOk P w K mg base jZ 1 f fd ["_law_state"] (ZD):=by
 refine F.ok gQ (fun vs H Q E h=>?_) (fun cdv A outer s H vs Q E hr h=>?_)
 ·obtain ⟨y,k,rfl,hy,q⟩:=h
  rfl
 obtain ⟨y,k,rfl,hy,q⟩:=h
 have hu:_<cLine:=hr.units0
 have hu1:=kS hr
 refine ⟨_,(jJ (kD (qO (kH v9 (by rfl) T.z_isinstance PyProof.Rows.boot_isinstance (jA (pv 0) (jA (yA (v:=.ty "bool") rfl T.z_bool PyProof.Rows.boot_bool rfl) jC)))) (jK (jR jE)) kC)
   (jJ (kD (qO (kH v9 (by rfl) T.z_isinstance PyProof.Rows.boot_isinstance (jA (pv 0) (jA (yA (v:=.ty "int") rfl T.z_int PyProof.Rows.boot_int rfl) jC)))) (jK (jR jE)) kC)
   (jJ (kD (qO (kH v9 (by rfl) T.z_isinstance PyProof.Rows.boot_isinstance (jA (pv 0) (jA (yA (v:=.ty "str") rfl T.z_str PyProof.Rows.boot_str rfl) jC)))) (jK (jR jE)) kC)
   (jK (jR jE))))),?_⟩
 cases k with
 |i n =>
  cases hy
  refine ⟨_,rfl,_,_,_,_,_,rfl,rfl,TyOf.int n,iE,_,rfl,jU ?_⟩
  refine ⟨_,rfl,_,_,_,_,_,rfl,rfl,TyOf.int n,vV "int",_,rfl,kT ?_⟩
  exact q
 |s z =>
  cases hy
  refine ⟨_,rfl,_,_,_,_,_,rfl,rfl,TyOf.str z,oN,_,rfl,jU ?_⟩
  refine ⟨_,rfl,_,_,_,_,_,rfl,rfl,TyOf.str z,oK,_,rfl,jU ?_⟩
  refine ⟨_,rfl,_,_,_,_,_,rfl,rfl,TyOf.str z,vV "str",_,rfl,kT ?_⟩
  exact q
 |nil =>
  obtain ⟨a,rfl,ha⟩:=hy
  refine ⟨_,rfl,_,_,_,_,_,rfl,rfl,TyOf.tup ha,eL,_,rfl,jU ?_⟩
  refine ⟨_,rfl,_,_,_,_,_,rfl,rfl,TyOf.tup ha,eK,_,rfl,jU ?_⟩
  refine ⟨_,rfl,_,_,_,_,_,rfl,rfl,TyOf.tup ha,eJ,_,rfl,jU ?_⟩
  exact q
 |cons b c =>
  obtain ⟨a,l,rfl,ha,_⟩:=hy
  refine ⟨_,rfl,_,_,_,_,_,rfl,rfl,TyOf.tup ha,eL,_,rfl,jU ?_⟩
  refine ⟨_,rfl,_,_,_,_,_,rfl,rfl,TyOf.tup ha,eK,_,rfl,jU ?_⟩
  refine ⟨_,rfl,_,_,_,_,_,rfl,rfl,TyOf.tup ha,eJ,_,rfl,jU ?_⟩
  exact q
theorem Z5:FnScope ["_law_layer","_law_due","_law_met","_law_state"] ["_law_layer","_law_due","_law_met"] (jH zD):=⟨rfl,rfl,rfl,by decide +kernel,rfl,by decide +kernel,by decide +kernel⟩
theorem fZ {f:Addr} {fd:FuncData} (F:Fun K "_law_layer_right" "_law_layer_right" zD f fd) (T:Txt K mg eW) (D__law_kind:Def P w K mg base 1 "_law_kind" ["_law_state"] [] (ZD)):FnOk P w K mg base jZ 2 f fd ["_law_layer","_law_due","_law_met"] (bP w):=by
 refine F.ok Z5 (fun vs H Q E h=>?_) (fun cdv A outer s H vs Q E hr h=>?_)
 ·obtain ⟨l1,l2,dm,xs,ys,ks,met,rfl,h1,hk1,h2,hk2,hnd,hlen,hMt,q⟩:=h
  rfl
 obtain ⟨l1,l2,dm,xs,ys,ks,met,rfl,h1,hk1,h2,hk2,hnd,hlen,hMt,q⟩:=h
 have hu:_<cLine:=hr.units0
 have hu1:=kS hr
 have hu9:=qW hr
 have hu10:=qU hr
 refine ⟨_,(jJ (kD (PW.pt (vI (vZ (qO (kH v9 (by rfl) T.z_isinstance PyProof.Rows.boot_isinstance (jA (pv 0) (jA (yA (v:=.ty "list") rfl T.z_list PyProof.Rows.boot_list rfl) jC))))) (yC (kG yW (kH qJ (by rfl) T.z_len PySem.boot_len (jA (pv 0) jC)) (kH qJ (by rfl) T.z_len PySem.boot_len (jA (pv 1) jC)) (jV _))))) (jK (jR qX)) kC)
   (jJ (vC PassesOwn.never rfl (vK (pv 0)) (kU (i:=3) Z5.nd rfl (by first|exact Or.inl rfl|exact Or.inr rfl))
    (jJ (kD (PW.pt (vI (kG (bT hu10) (pv 3) (pv 1) (by with_unfolding_all rfl)) (vI (ZP (oC hu9 (pv 3) (pv 2))) (yC (kG yW (j4 D__law_kind hr rfl (jA (pv 3) jC)) (j4 D__law_kind hr rfl (jA (kA vJ (pv 1) (yV PySem.F.plainAttrs_list PySem.F.slot_list_index PySem.F.type_list_index (i9 hu10) (pv 1) (jA (pv 3) jC)) (fun _ _=>rfl)) jC)) (jV _)))))) (jK (jR qX)) kC)
   (jK (QD hu9 (pv 2) (pv 3) qX rfl))))
   (jK (jR qX)))),?_⟩
 obtain ⟨kvs0,d1,_⟩:=hMt.ex
 have n1:l1≠dm:=fun z=>by rw [z,d1] at h1;cases h1
 have n2:l2≠dm:=fun z=>by rw [z,d1] at h2;cases h2
 have hkn:ks.Nodup:=(List.nodup_append.mp hnd).2.1
 refine ⟨_,rfl,_,_,_,_,_,rfl,rfl,TyOf.lst h1,vV "list",_,rfl,jU ?_⟩
 refine ⟨_,rfl,l1,_,rfl,.inl (SqL.of h1),_,rfl,l2,_,rfl,.inl (SqL.of h2),rfl,_,rfl,yX (by rw [hk1.1,hk2.1]) ?_⟩
 refine ⟨_,rfl,l1,rfl,⟨_,SqL.of h1⟩,yR (K:=K) (a:=l1) (xs:=xs) (fun j σ Hj=>∃c3,σ=[some (.ref l1),some (.ref l2),some (.ref dm),c3]∧yH dm H Hj∧MetAt w Hj dm (met++ks.take j)) ⟨none,rfl,fun _ _ _ e=>e,by rw [List.take_zero,List.append_nil];exact hMt⟩ (fun j σ Hj _ ⟨_,_,kp,_⟩=>SqL.of (kp l1 _ n1 h1)) ?_ ?_⟩
 ·rintro j x σ Hj hx ⟨c3,rfl,kp,hMj⟩
  obtain ⟨k,hk,hgk,h8⟩:=hk1.2 j x hx
  obtain ⟨kvs,e1,g,e2⟩:=hMj.ex
  have tk:∀a l,H a=some (.tup l)→Hj a=some (.tup l):=fun a l e=>kp a _ (fun z=>by rw [z,d1] at e;cases e) e
  have h2j:=kp l2 _ n2 h2
  have hk2j:=hk2.keep tk
  have hgj:=(GV.keep tk k).1 _ hgk
  have hjl:=(List.getElem?_eq_some_iff.mp hk).1
  have ht:ks.take (j+1)=ks.take j++[k]:=by rw [List.take_add_one,hk];rfl
  have hni:k∉met++ks.take j:=by
   have hs:(met++ks.take j++[k]).Nodup:=by
    rw [List.append_assoc,← ht]
    exact hnd.sublist ((List.Sublist.refl _).append (List.take_sublist _ _))
   rw [List.nodup_append] at hs
   exact fun h=>hs.2.2 k h k (by simp) rfl
  have hkl:kvs.length≤1000:=by
   have:kvs.length=(met++ks.take j).length:=by rw [← e2,List.length_map]
   rw [this,List.length_append,List.length_take]
   rw [List.length_append] at hlen
   omega
  refine ⟨_,rfl,_,rfl,l2,ys,k,ks,rfl,SqL.of h2j,hgj,h8,hk2j,_,rfl,?_⟩
  rw [decide_eq_true (List.mem_of_getElem? hk)]
  refine jU ⟨_,rfl,_,rfl,dm,kvs,k,rfl,.of e1,g,hgj,h8,_,rfl,?_⟩
  rw [J7,e2,decide_eq_false hni]
  have hjy:j<ys.length:=by rw [hk2.1];exact hjl
  obtain ⟨k',b1,b2,b3⟩:=hk2j.2 j _ (List.getElem?_eq_getElem hjy)
  rw [hk] at b1;cases b1
  refine jU ⟨_,rfl,x,k,rfl,hgj,_,rfl,_,rfl,.inl ⟨rfl,_,SqL.of h2j⟩,_,rfl,l2,ys,x,k,ks,j,rfl,rfl,h2j,hgj,h8,hk2j,hk,by rw [List.length_append] at hlen;omega,fun i hij hki=>?_,l2,ys,_,ys[j],rfl,rfl,SqL.of h2j,yB (List.getElem?_eq_getElem hjy),ys[j],k,rfl,b2,rfl,_,rfl,yX rfl ?_⟩
  ·have:=(List.getElem?_inj (by omega:i<ks.length) hkn).mp (hki.trans hk.symm)
   omega
  refine ⟨_,rfl,_,rfl,dm,kvs,k,rfl,e1,g,hgj,h8,qV (by omega),?_⟩
  refine ⟨_,rfl,fun a o n e=>by rw [jD n];exact kp a o n e,?_⟩
  rw [ht,← List.append_assoc]
  exact MetAt.put e1 g e2 hni hgj h8
 rintro σ Hj ⟨c3,rfl,kp,hMj⟩
 rw [hk1.1,List.take_length] at hMj
 exact q Hj kp hMj
theorem JB:FnScope ["_law_first","_law_table_here","_law_marks_here","_law_layers","_law_found","_law_met","_law_due","_law_k"] ["_law_first","_law_table_here","_law_marks_here","_law_layers","_law_found"] (jH yN):=⟨rfl,rfl,rfl,by decide +kernel,rfl,by decide +kernel,by decide +kernel⟩
theorem gA {f:Addr} {fd:FuncData} (F:Fun K "_law_layers_right" "_law_layers_right" yN f fd) (T:Txt K mg eW) (D__law_layer_right:Def P w K mg base 2 "_law_layer_right" ["_law_layer","_law_due","_law_met"] [] (bP w)) (D__law_new:Def P w K mg base 2 "_law_new" ["_law_layer","_law_table_here","_law_met"] [] (eA w)):FnOk P w K mg base jZ 4 f fd ["_law_first","_law_table_here","_law_marks_here","_law_layers","_law_found"] (bD w):=by
 refine F.ok JB (fun vs H Q E h=>?_) (fun cdv A outer s H vs Q E hr h=>?_)
 ·obtain ⟨y,dT,dM,lr,fd,T0,ls,M,m,n,c0,k0,N,rfl,hT,hO,hn,hM,hy,hk0,hN,hSt,hL,hfd,q⟩:=h
  rfl
 obtain ⟨y,dT,dM,lr,fd,T0,ls,M,m,n,c0,k0,N,rfl,hT,hO,hn,hM,hy,hk0,hN,hSt,hL,hfd,q⟩:=h
 have hu:_<cLine:=hr.units0
 have hu1:=kS hr
 have hu9:=qW hr
 have hu10:=qU hr
 refine ⟨_,(jJ (kD (vZ (qO (kH v9 (by rfl) T.z_isinstance PyProof.Rows.boot_isinstance (jA (pv 3) (jA (yA (v:=.ty "list") rfl T.z_list PyProof.Rows.boot_list rfl) jC))))) (jK (jR qX)) kC)
   (jJ (j3 (i:=5) JB.nd rfl (by first|exact Or.inl rfl|exact Or.inr rfl) ZG)
   (jJ (j3 (i:=6) JB.nd rfl (by first|exact Or.inl rfl|exact Or.inr rfl) (q0 (jA (pv 0) jC)))
   (jJ (vC PassesOwn.never rfl (JH (by rfl) T.z_range (jA (kH qJ (by rfl) T.z_len PySem.boot_len (jA (pv 3) jC)) jC)) (kU (i:=7) JB.nd rfl (by first|exact Or.inl rfl|exact Or.inr rfl))
    (jJ (kD (PW.pt (vI (kG kR (kH qJ (by rfl) T.z_len PySem.boot_len (jA (pv 6) jC)) jE (jV _)) (yC (vZ (qO (j4 D__law_layer_right hr rfl (jA (kA vJ (pv 3) (pv 7) (fun _ _=>rfl)) (jA (pv 6) (jA (pv 5) jC))))))))) (jK (jR qX)) kC)
   (jJ (kD (kG fA (kH qJ (by rfl) T.z_len PySem.boot_len (jA (dW ["_law_state","_law_marks_here"] (v3 1 [2]) rfl (JA (jH yN) rfl rfl (by decide +kernel) (by decide +kernel) (by decide +kernel)) (y7 1 [2] rfl rfl (by decide +kernel)) (vK (pv 6)) (fun _ _ _ _ _=>(kU (i:=0) (show List.Nodup (["_law_state","_law_marks_here"]:List Str) from by decide +kernel) rfl (by first|exact Or.inl rfl|exact Or.inr rfl))) (fun _ _ _ _ _=>(ZF (qO (ZC w hu9 (pv 1) (pv 0) (fun _ _=>rfl))))) (fun _ _ _ _ _=>(pv 0))) jC)) jE (jV _)) (jK (jR (yU (pv 4) (v0 (vH kR (pv 7) (jP zX (kH qJ (by rfl) T.z_len PySem.boot_len (jA (pv 3) jC)) jE) (jV _)))))) kC)
   (jK (j3 (i:=6) JB.nd rfl (by first|exact Or.inl rfl|exact Or.inr rfl) (j4 D__law_new hr rfl (jA (pv 6) (jA (pv 1) (jA (pv 5) jC)))))))))
   (jK (jR (yU (n6 (pv 4)) (v0 (vH kR (kH qJ (by rfl) T.z_len PySem.boot_len (jA (pv 6) jC)) jE (jV _)))))))))),?_⟩
 have h8:gd k0≤8:=by obtain ⟨ps,hps⟩:=Option.isSome_iff_exists.mp hk0;exact hT.deep k0 ps hps
 have dom:=fun i x (h:x∈(jO T0 k0 i).flatten)=>yS hT.shut hk0 i x h
 have fit:∀i,(jO T0 k0 i).flatten.length≤1000:=fun i=>Nat.le_trans (vU hO (vS i) (dom i)) hn
 have hlong:=zR (T:=T0) (M:=M) (k0:=k0) N hN
 have hfN:=fit N
 obtain ⟨xs,f1,f2,f3⟩:=hL.ex
 rw [v7] at f2
 refine ⟨_,rfl,_,_,_,_,_,rfl,rfl,TyOf.lst f1,vV "list",_,rfl,jU ?_⟩
 refine fun dm hdm=>?_
 have um:=jS hdm (GO w dm [])
 refine ⟨_,rfl,kY (by show 1≤1000;decide),fun l1 hl1=>?_⟩
 have u1:=jS hl1 (.lst [y])
 have s0:=um.trans u1
 refine ⟨_,rfl,lr,xs,rfl,.inl (SqL.of (s0 _ _ f1)),_,rfl,by omega,by omega,zQ (n:=((xs.length:Nat):Int).toNat) (fun i σ Hi=>∃ld ys c7,σ=[some y,some (.ref dT),some (.ref dM),some (.ref lr),some (.bl fd),some (.ref dm),some (.ref ld),c7]∧Same H Hi∧MetAt w Hi dm (QK T0 k0 i)∧Hi ld=some (.lst ys)∧KeysAt Hi ys (jM T0 k0 i)∧∀j,j<i→(jM T0 k0 j).any M=false) ⟨l1,[y],none,rfl,s0,⟨[],u1 _ _ jL,GOk.nil,rfl⟩,jL,⟨rfl,fun i x e=>?_⟩,fun j hj=>absurd hj (Nat.not_lt_zero j)⟩ ?_ ?_⟩
 ·match i,e with
  |0,e=>cases e;exact ⟨k0,rfl,jW s0 hy,h8⟩
 ·rintro i σ Hi hi ⟨ld,ys,c7,rfl,s,hMt,hld,hky,hany⟩
  rw [Int.zero_add]
  have hiN:i≤N:=by omega
  obtain ⟨kvsm,m1,_⟩:=hMt.ex
  have hne:jM T0 k0 i≠[]:=by
   cases i with
   |zero=>intro z;exact absurd z (by show [k0]≠[];simp)
   |succ i=>rw [zO];exact fun z=>hN i (by omega) (.inr z)
  have hyl:ys.length≤1000:=by
   rw [hky.1]
   have h2:(jM T0 k0 i).length≤(jO T0 k0 i).flatten.length:=(List.sublist_flatten_of_mem (List.mem_of_getElem? (JI i))).length_le
   have:=fit i
   omega
  obtain ⟨la,zs,lay,g1,g2,g3,g4,g5⟩:=f3 i _ (List.getElem?_eq_getElem (by omega:i<xs.length))
  have hlay:lay=jM T0 k0 i:=by
   have h1:=JI (T:=T0) (k0:=k0) i
   have h2:(jO T0 k0 N)[i]?=(jO T0 k0 i)[i]?:=mU hiN
   rw [← h2,g3] at h1
   exact Option.some.inj h1
  subst hlay
  refine ⟨_,rfl,ld,ys,rfl,.inl (SqL.of hld),rfl,_,rfl,kN (fun c=>?_) (fun _=>?_)⟩
  ·have e:=of_decide_eq_true c
   injection e with e
   exact absurd (List.eq_nil_of_length_eq_zero (by rw [← hky.1];omega)) hne
  have hnd:(QK T0 k0 i++jM T0 k0 i).Nodup:=by rw [Q7];exact vS i
  refine ⟨_,rfl,_,rfl,lr,xs,_,_,rfl,rfl,SqL.of (s _ _ f1),yB (List.getElem?_eq_getElem (by omega:i<xs.length)),_,rfl,_,rfl,la,ld,dm,zs,ys,jM T0 k0 i,QK T0 k0 i,by rw [g1];rfl,s _ _ g4,g5.same s,hld,hky,hnd,by rw [Q7];exact fit i,hMt,fun H1 kB hM1=>?_⟩
  refine ⟨_,rfl,jU ?_⟩
  rw [Q7] at hM1
  have sH1:Same H H1:=fun a o e=>kB a o (kZ e hdm) (s _ _ e)
  have tk1:∀a l,Hi a=some (.tup l)→H1 a=some (.tup l):=fun a l e=>kB a _ (fun z=>by rw [z,m1] at e;cases e) e
  have hld1:=kB ld _ (fun z=>by rw [z,m1] at hld;cases hld) hld
  have hky1:=hky.keep tk1
  refine ⟨_,rfl,ld,rfl,⟨_,SqL.of hld1⟩,fun bt hbt=>?_⟩
  refine QW (K:=K) (a:=ld) (xs:=ys) (caps:=[some (.ref dM)]) (fun j ws Hj=>ws.length=(((jM T0 k0 i).take j).filter M).length) hbt (SqL.of hld1) rfl ?_ ?_
  ·rintro j x ws Hj hx hj hle sm hY hR
   obtain ⟨kj,hkj,hgj,h8j⟩:=hky1.2 j x hx
   have hdj:=dom i kj (zS (List.mem_of_getElem? hkj))
   obtain ⟨kvsM,a1,a2,a3⟩:=(hM.same (sH1.trans sm)).ex
   refine ⟨_,rfl,_,rfl,dM,kvsM,kj,_,rfl,.of a1,a2,jW sm hgj,h8j,a3 kj hdj,_,rfl,?_⟩
   have ht:((jM T0 k0 i).take (j+1))=(jM T0 k0 i).take j++[kj]:=by rw [List.take_add_one,hkj];rfl
   cases hMk:M kj with
   |true =>
    refine kT ⟨_,rfl,JV hbt sm hY hle (by omega) (Same.refl _) ?_⟩
    show _=(((jM T0 k0 i).take (j+1)).filter M).length
    rw [ht,List.filter_append,List.filter_cons,if_pos hMk,List.length_append,List.length_append,hR]
    rfl
   |false =>
    refine jU (Q9 sm hY hle (Same.refl _) ?_)
    show _=(((jM T0 k0 i).take (j+1)).filter M).length
    rw [ht,List.filter_append,List.filter_cons,if_neg (by rw [hMk];decide),List.length_append,hR]
    rfl
  rintro ws H2 s2 hbt2 hle2 hR
  rw [hky1.1,List.take_length] at hR
  have hanyi:=dH (M:=M) (l:=jM T0 k0 i)
  have sH2:=sH1.trans s2
  refine ⟨bt,ws,rfl,.inl (SqL.of hbt2),_,_,rfl,rfl,_,rfl,kN (fun c=>?_) (fun c=>?_)⟩
  ·have c':(0:Int)<((ws.length:Nat):Int):=of_decide_eq_true c
   have ha:(jM T0 k0 i).any M=true:=by
    rw [hanyi]
    cases hf:(jM T0 k0 i).filter M with
    |nil=>rw [hf] at hR;rw [hR] at c';exact absurd c' (by decide)
    |cons a b=>rfl
   have hiE:i=N:=by
    by_cases h:i<N
    ·exact absurd (.inl ha) (hN i h)
    ·omega
   subst hiE
   rw [ha] at hfd
   subst hfd
   refine ⟨_,rfl,_,rfl,kT ⟨_,rfl,_,rfl,lr,xs,rfl,.inl (SqL.of (sH2 _ _ f1)),_,_,rfl,rfl,rfl,?_⟩⟩
   have e:V.int ((i:Nat):Int)=V.int (((xs.length:Nat):Int) - 1):=by rw [f2];congr 1;omega
   have:=q H2 sH2
   rw [← decide_eq_true e] at this
   exact this
  ·have c':¬(0:Int)<((ws.length:Nat):Int):=of_decide_eq_false (Bool.eq_false_iff.mpr c)
   have ha:(jM T0 k0 i).any M=false:=by
    rw [hanyi]
    cases hf:(jM T0 k0 i).filter M with
    |nil=>rfl
    |cons a b=>rw [hf] at hR;exact absurd (by rw [hR,List.length_cons];omega) c'
   refine ⟨_,rfl,_,rfl,_,rfl,ld,dT,dm,T0,ls,m,n,c0,ys,jM T0 k0 i,(jO T0 k0 i).flatten,rfl,hT.same sH2,hO,hn,s2 _ _ hld1,hky1.same s2,fun k hk=>dom i k (zS hk),hM1.same s2,fun r ys' H3 s3 hr0 hr hk3=>?_⟩
   refine ⟨r,ys',_,rfl,sH2.trans s3,(hM1.same s2).same s3,hr,by rw [zO];exact hk3,fun j hj=>?_⟩
   rcases Nat.lt_succ_iff_lt_or_eq.mp hj with h|h
   ·exact hany j h
   ·rw [h];exact ha
 rintro σ Hi ⟨ld,ys,c7,rfl,s,hMt,hld,hky,hany⟩
 have eN:((xs.length:Nat):Int).toNat=N+1:=by omega
 rw [eN] at hky hany
 have ha:=hany N (Nat.lt_succ_self N)
 rw [ha] at hfd
 subst hfd
 have hnx:yF T0 k0 N=[]:=by
  rcases hSt with h|h
  ·rw [ha] at h;cases h
  ·exact h
 rw [zO,hnx] at hky
 have hz:ys.length=0:=hky.1
 refine ⟨_,rfl,_,rfl,_,rfl,kT ⟨_,rfl,ld,ys,rfl,.inl (SqL.of hld),rfl,?_⟩⟩
 have:=q Hi s
 rw [← decide_eq_true (show V.int ((ys.length:Nat):Int)=V.int 0 by rw [hz];rfl)] at this
 exact this
theorem JC:FnScope ["_law_first","_law_table_here","_law_marks_here","_law_row","_law_many_here","_law_state","_law_deed_here","_law_pairs"] ["_law_first","_law_table_here","_law_marks_here","_law_row","_law_many_here"] (jH yO):=⟨rfl,rfl,rfl,by decide +kernel,rfl,by decide +kernel,by decide +kernel⟩
theorem gG {f:Addr} {fd:FuncData} (F:Fun K "_law_row_right" "_law_row_right" yO f fd) (T:Txt K mg eW) (D__law_kind:Def P w K mg base 1 "_law_kind" ["_law_state"] [] (ZD)):FnOk P w K mg base jZ 4 f fd ["_law_first","_law_table_here","_law_marks_here","_law_row","_law_many_here"] (bO w):=by
 refine F.ok JC (fun vs H Q E h=>?_) (fun cdv A outer s H vs Q E hr h=>?_)
 ·obtain ⟨y,dT,dM,rr,T0,ls,M,m,n,k0,kf,N,row,des,rfl,hT,hO,hM,hy,hk0,hrr,hks,hpa,hMf,hdl,hN1,q⟩:=h
  rfl
 obtain ⟨y,dT,dM,rr,T0,ls,M,m,n,k0,kf,N,row,des,rfl,hT,hO,hM,hy,hk0,hrr,hks,hpa,hMf,hdl,hN1,q⟩:=h
 have hu:_<cLine:=hr.units0
 have hu1:=kS hr
 have hu9:=qW hr
 have hu10:=qU hr
 refine ⟨_,(jJ (kD (PW.pt (vI (vZ (qO (kH v9 (by rfl) T.z_isinstance PyProof.Rows.boot_isinstance (jA (pv 3) (jA (yA (v:=.ty "list") rfl T.z_list PyProof.Rows.boot_list rfl) jC))))) (yC (kG yW (kH qJ (by rfl) T.z_len PySem.boot_len (jA (pv 3) jC)) (jP zX (pv 4) jE) (jV _))))) (jK (jR qX)) kC)
   (jJ (j3 (i:=5) JC.nd rfl (by first|exact Or.inl rfl|exact Or.inr rfl) (pv 0))
   (jJ (vC PassesOwn.never rfl (vK (pv 3)) (kU (i:=6) JC.nd rfl (by first|exact Or.inl rfl|exact Or.inr rfl))
    (jJ (Q4 (i:=7) ["_law_pair","_law_deed_here"] (v3 1 [6]) JC.nd rfl (by first|exact Or.inl rfl|exact Or.inr rfl) rfl (JA (jH yO) rfl rfl (by decide +kernel) (by decide +kernel) (by decide +kernel)) (y7 1 [6] rfl rfl (by decide +kernel)) (vK (vG hu9 (pv 1) (pv 5) (fun _ _=>rfl))) (fun _ _ _ _ _=>(kU (i:=0) (show List.Nodup (["_law_pair","_law_deed_here"]:List Str) from by decide +kernel) rfl (by first|exact Or.inl rfl|exact Or.inr rfl))) (fun _ _ _ _ _=>(ZF (kG (oG hu9) (kA (nF K) (pv 0) jE (fun _ _=>rfl)) (pv 1) (jV _)))) (fun _ _ _ _ _=>(pv 0)))
   (jJ (kD (PW.pt (vI (kG yW (kH qJ (by rfl) T.z_len PySem.boot_len (jA (pv 7) jC)) jE (jV _)) (yC (kG yW (j4 D__law_kind hr rfl (jA (pv 6) jC)) (j4 D__law_kind hr rfl (jA (kA qB (kA vJ (pv 7) jE (fun _ _=>rfl)) jE (fun _ _=>rfl)) jC)) (jV _))))) (jK (jR qX)) kC)
   (jK (j3 (i:=5) JC.nd rfl (by first|exact Or.inl rfl|exact Or.inr rfl) (kA qB (kA vJ (pv 7) jE (fun _ _=>rfl)) jE (fun _ _=>rfl)))))))
   (jK (jR (vG hu9 (pv 2) (pv 5) (fun _ _=>rfl))))))),?_⟩
 have hrl:=hks.1
 refine ⟨_,rfl,_,_,_,_,_,rfl,rfl,TyOf.lst hrr,vV "list",_,rfl,jU ?_⟩
 refine ⟨_,rfl,rr,_,rfl,.inl (SqL.of hrr),_,rfl,_,_,rfl,rfl,rfl,_,rfl,yX (by congr 1;omega) ?_⟩
 refine ⟨_,rfl,_,rfl,rr,rfl,⟨_,SqL.of hrr⟩,?_⟩
 refine yR (K:=K) (xs:=row) (fun i σ Hi=>∃yi ki c6 c7,σ=[some y,some (.ref dT),some (.ref dM),some (.ref rr),some (.int ((N+1:Nat):Int)),some yi,c6,c7]∧Same H Hi∧(GV Hi ki).1 yi∧(jI T0 ki).isSome=true∧v2 T0 ki (des.drop i) kf) ⟨y,k0,none,none,rfl,Same.refl _,hy,hk0,hpa⟩ (fun i σ Hi _ ⟨_,_,_,_,_,s,_⟩=>SqL.of (s _ _ hrr)) ?_ ?_
 ·rintro i x σ Hi hx ⟨yi,ki,c6,c7,rfl,s,hyi,hki,hpi⟩
  obtain ⟨de,hde,hxk,hx8⟩:=hks.2 i x hx
  obtain ⟨ps,hps⟩:=Option.isSome_iff_exists.mp hki
  obtain ⟨kvs,e1,g,ap,e3⟩:=(hT.same s).ex
  obtain ⟨l,zs,f1,f2,f3⟩:=e3 ki ps hps
  have hrow:=hO.row ki ps hps
  have hzp:=f3.1
  have hr1:=hrow.1
  have hah:kO T0 ki=ps:=by unfold kO;rw [hps];rfl
  obtain ⟨hlt,hdeE⟩:=List.getElem?_eq_some_iff.mp hde
  rw [List.drop_eq_getElem_cons hlt,hdeE] at hpi
  obtain ⟨kb,hb1,hb2⟩:=hpi
  rw [hah] at hb1
  refine ⟨_,rfl,_,rfl,dT,kvs,ki,_,rfl,e1,g,hyi,hT.deep ki ps hps,f1,l,rfl,⟨_,SqL.of f2⟩,fun bt hbt=>?_⟩
  refine QW (K:=K) (a:=l) (xs:=zs) (caps:=[some x]) (fun j ys Hj=>PairsAt Hj ys ((ps.take j).filter fun z=>decide (z.1=de))) hbt (SqL.of f2) ⟨rfl,fun i x e=>by cases e⟩ ?_ ?_
  ·rintro j z ys Hj hz hj hle sm hY hR
   obtain ⟨pr,t,b,b',p1,rfl,p3,p4,p5,p6,p7⟩:=f3.2 j z hz
   have p3':=sm _ _ p3
   have ht:(ps.take (j+1))=ps.take j++[pr]:=by rw [List.take_add_one,p1];rfl
   refine ⟨_,rfl,t,_,_,b,rfl,rfl,SqT.of p3',rfl,_,rfl,pr.1,de,jW sm p4,jW (s.trans sm) hxk,p6,_,rfl,?_⟩
   by_cases hd:pr.1=de
   ·rw [decide_eq_true hd]
    refine kT ⟨_,rfl,ys,hY,qV (by omega),ys++[.ref t],_,rfl,qM hbt sm,jL,by rw [List.length_append,List.length_singleton];omega,?_⟩
    show PairsAt _ _ ((ps.take (j+1)).filter fun z=>decide (z.1=de))
    rw [ht,List.filter_append,List.filter_cons,if_pos (decide_eq_true hd)]
    have tk:∀a l,Hj a=some (.tup l)→jB Hj bt (.lst (ys++[.ref t])) a=some (.tup l):=fun a l e=>by rw [jD fun z=>by subst z;rw [hY] at e;cases e];exact e
    exact bF (zN tk hR) (tk _ _ p3') ((GV.keep tk _).1 _ (jW sm p4)) ((GV.keep tk _).1 _ (jW sm p5)) p6 p7
   ·rw [decide_eq_false hd]
    refine jU (Q9 sm hY hle (Same.refl _) ?_)
    show PairsAt _ _ ((ps.take (j+1)).filter fun z=>decide (z.1=de))
    rw [ht,List.filter_append,List.filter_cons,if_neg (by simpa using hd)]
    simpa using hR
  rintro ys Hg sg hbtg hleg hR
  rw [f3.1,List.take_length] at hR
  have h1:=dB (m:=m) (de:=de) ps 0 (by omega) (fun i p e=>by rw [Nat.zero_add];exact hrow.2 i p e)
  have hbm:(de,kb)∈ps.filter (fun z=>decide (z.1=de)):=List.mem_filter.mpr ⟨hb1,decide_eq_true rfl⟩
  have hin:∀p∈ps.filter (fun z=>decide (z.1=de)),p∈ps:=fun p hp=>(List.mem_filter.mp hp).1
  have sF:=s.trans sg
  refine ⟨_,rfl,bt,_,rfl,.inl (SqL.of hbtg),rfl,_,rfl,?_⟩
  generalize ps.filter (fun z=>decide (z.1=de))=fs at hR h1 hbm hin
  match fs,h1,hbm,hin,hR with
  |[],_,hbm,_,_=>exact absurd hbm (by simp)
  |[pr],_,hbm,hin,hR =>
   obtain rfl:pr=(de,kb):=(List.mem_singleton.mp hbm).symm
   match ys,hR with
   |[],hR=>exact absurd hR.1 (by simp)
   |_::_::_,hR=>exact absurd hR.1 (by simp)
   |[z],hR =>
    obtain ⟨pr',t,b,b',p1,rfl,p3,p4,p5,p6,p7⟩:=hR.2 0 z rfl
    cases p1
    refine jU ⟨_,rfl,x,de,rfl,jW sF hxk,_,rfl,bt,_,0,.ref t,rfl,rfl,SqL.of hbtg,yB (j:=0) rfl,t,_,_,b,rfl,rfl,SqT.of p3,rfl,b,de,rfl,p4,rfl,_,rfl,yX rfl ?_⟩
    exact ⟨_,rfl,bt,_,0,.ref t,rfl,rfl,SqL.of hbtg,yB (j:=0) rfl,t,_,_,b',rfl,rfl,SqT.of p3,rfl,_,kb,_,_,rfl,sF,p5,hT.shut ki ps _ hps (hin _ List.mem_cons_self),hb2⟩
  |_::_::_,h1,_,_,_=>exact absurd h1 (by simp)
 ·rintro σ Hf ⟨yi,ki,c6,c7,rfl,s,hyi,hki,hpi⟩
  rw [hrl,List.drop_length] at hpi
  obtain rfl:ki=kf:=hpi
  obtain ⟨ps,hps⟩:=Option.isSome_iff_exists.mp hki
  obtain ⟨kvsM,a1,a2,a3⟩:=(hM.same s).ex
  have:=q Hf s
  rw [← hMf] at this
  exact ⟨_,rfl,_,rfl,dM,kvsM,ki,_,rfl,.of a1,a2,hyi,hT.deep ki ps hps,a3 ki hki,this⟩
theorem gT:FnScope ["_law_first","_law_table_here","_law_marks_here","_law_told"] ["_law_first","_law_table_here","_law_marks_here","_law_told"] (jH zH):=⟨rfl,rfl,rfl,by decide +kernel,rfl,by decide +kernel,by decide +kernel⟩
theorem gE {f:Addr} {fd:FuncData} (F:Fun K "_law_right" "_law_right" zH f fd) (T:Txt K mg eW) (D__law_layers_right:Def P w K mg base 4 "_law_layers_right" ["_law_first","_law_table_here","_law_marks_here","_law_layers","_law_found"] [] (bD w)) (D__law_row_right:Def P w K mg base 4 "_law_row_right" ["_law_first","_law_table_here","_law_marks_here","_law_row","_law_many_here"] [] (bO w)):FnOk P w K mg base jZ 6 f fd ["_law_first","_law_table_here","_law_marks_here","_law_told"] (cH w):=by
 refine F.ok gT (fun vs H Q E h=>?_) (fun cdv A outer s H vs Q E hr h=>?_)
 ·obtain ⟨y,dT,dM,t,T0,ls,M,m,n,k0,N,rfl,hT,hO,hn,hM,hy,hk0,hN,hSt,htold,q⟩:=h
  rfl
 obtain ⟨y,dT,dM,t,T0,ls,M,m,n,k0,N,rfl,hT,hO,hn,hM,hy,hk0,hN,hSt,htold,q⟩:=h
 have hu:_<cLine:=hr.units0
 have hu1:=kS hr
 refine ⟨_,(jJ (kD (PW.pt (vI (vZ (qO (kH v9 (by rfl) T.z_isinstance PyProof.Rows.boot_isinstance (jA (pv 3) (jA (yA (v:=.ty "tuple") rfl T.z_tuple PyProof.Rows.boot_tuple rfl) jC))))) (vI (kG eZ (kH qJ (by rfl) T.z_len PySem.boot_len (jA (pv 3) jC)) jE (jV _)) (yC (vZ (qO (kH v9 (by rfl) T.z_isinstance PyProof.Rows.boot_isinstance (jA (kA qB (pv 3) jE (fun _ _=>rfl)) (jA (yA (v:=.ty "str") rfl T.z_str PyProof.Rows.boot_str rfl) jC))))))))) (jK (jR qX)) kC)
   (jJ (kD (kG kR (kA qB (pv 3) jE (fun _ _=>rfl)) vF (jV _)) (jK (jR (yU (vH kR (kH qJ (by rfl) T.z_len PySem.boot_len (jA (pv 3) jC)) jE (jV _)) (v0 (j4 D__law_layers_right hr rfl (jA (pv 0) (jA (pv 1) (jA (pv 2) (jA (kA qB (pv 3) jE (fun _ _=>rfl)) (jA qX jC)))))))))) kC)
   (jJ (kD (PW.pt (vI (kG yW (kA qB (pv 3) jE (fun _ _=>rfl)) vF (jV _)) (vI (kG yW (kH qJ (by rfl) T.z_len PySem.boot_len (jA (pv 3) jC)) jE (jV _)) (yC (vZ (qO (j4 D__law_layers_right hr rfl (jA (pv 0) (jA (pv 1) (jA (pv 2) (jA (kA qB (pv 3) jE (fun _ _=>rfl)) (jA qX jC)))))))))))) (jK (jR qX)) kC)
   (jK (jR (j4 D__law_row_right hr rfl (jA (pv 0) (jA (pv 1) (jA (pv 2) (jA (kA qB (pv 3) jE (fun _ _=>rfl)) (jA (kH qJ (by rfl) T.z_len PySem.boot_len (jA (kA qB (pv 3) jE (fun _ _=>rfl)) jC)) jC))))))))))),?_⟩
 have s0:=Same.refl H
 have hlong:=zR (T:=T0) (M:=M) (k0:=k0) N hN
 have hfN:(jO T0 k0 N).flatten.length≤1000:=Nat.le_trans (vU hO (vS N) (fun x h=>yS hT.shut hk0 N x h)) hn
 rcases htold with ⟨ha,rr,lr,xs,des,kf,ht,hrr,hks,hpa,hMf,hdl,hL⟩|⟨ha,lr,ht,hL⟩
 ·refine ⟨_,rfl,_,_,_,_,_,rfl,rfl,TyOf.tup ht,vV "tuple",_,rfl,jU ?_⟩
  refine ⟨_,rfl,t,_,rfl,.inr (SqT.of ht),_,_,rfl,rfl,_,rfl,jU ?_⟩
  refine ⟨_,rfl,t,_,_,.str "found",rfl,rfl,SqT.of ht,rfl,_,_,_,_,_,rfl,rfl,TyOf.str _,vV "str",_,rfl,jU ?_⟩
  refine ⟨_,rfl,t,_,_,.str "found",rfl,rfl,SqT.of ht,rfl,rfl,_,rfl,kN (fun c=>absurd (of_decide_eq_true c) (by decide)) (fun _=>?_)⟩
  refine ⟨_,rfl,t,_,_,.str "found",rfl,rfl,SqT.of ht,rfl,rfl,_,rfl,yX rfl ?_⟩
  refine ⟨_,rfl,t,_,rfl,.inr (SqT.of ht),rfl,_,rfl,yX rfl ?_⟩
  refine ⟨_,rfl,_,rfl,_,rfl,_,rfl,t,_,_,.ref lr,rfl,rfl,SqT.of ht,rfl,y,dT,dM,lr,true,T0,ls,M,m,n,1100,k0,N,rfl,hT,hO,hn,hM,hy,hk0,hN,hSt,hL,ha.symm,fun H1 s1=>⟨_,rfl,jU ?_⟩⟩
  obtain ⟨zs,f1,f2,_⟩:=hL.ex
  rw [v7] at f2
  refine ⟨_,rfl,_,rfl,_,rfl,_,rfl,t,_,_,.ref rr,rfl,rfl,SqT.of (s1 _ _ ht),rfl,_,rfl,t,_,_,.ref lr,rfl,rfl,SqT.of (s1 _ _ ht),rfl,lr,zs,rfl,.inl (SqL.of (s1 _ _ f1)),?_⟩
  exact ⟨y,dT,dM,rr,T0,ls,M,m,n,k0,kf,N,xs,des,by rw [f2];rfl,hT.same s1,hO,hM.same s1,jW s1 hy,hk0,s1 _ _ hrr,hks.same s1,hpa,hMf,hdl,by omega,fun H2 s2=>q H2 (s1.trans s2)⟩
 ·refine ⟨_,rfl,_,_,_,_,_,rfl,rfl,TyOf.tup ht,vV "tuple",_,rfl,jU ?_⟩
  refine ⟨_,rfl,t,_,rfl,.inr (SqT.of ht),_,_,rfl,rfl,_,rfl,jU ?_⟩
  refine ⟨_,rfl,t,_,_,.str "closed",rfl,rfl,SqT.of ht,rfl,_,_,_,_,_,rfl,rfl,TyOf.str _,vV "str",_,rfl,jU ?_⟩
  refine ⟨_,rfl,t,_,_,.str "closed",rfl,rfl,SqT.of ht,rfl,rfl,_,rfl,kN (fun _=>?_) (fun c=>absurd (decide_eq_true rfl) c)⟩
  refine ⟨_,rfl,t,_,rfl,.inr (SqT.of ht),rfl,true,rfl,kT ?_⟩
  exact ⟨_,rfl,_,rfl,_,rfl,_,rfl,t,_,_,.ref lr,rfl,rfl,SqT.of ht,rfl,y,dT,dM,lr,false,T0,ls,M,m,n,1100,k0,N,rfl,hT,hO,hn,hM,hy,hk0,hN,hSt,hL,ha.symm,fun H1 s1=>q H1 s1⟩
theorem qN:FnScope ["_law_script","_law_many_here","_law_mode","_law_first","_law_table_here","_law_marks_here","_law_anew","_law_most","_law_ahead","_law_ended","_law_kept","_law_told","_law_turn"] ["_law_script"] (jH qS):=⟨rfl,rfl,rfl,by decide +kernel,rfl,by decide +kernel,by decide +kernel⟩
theorem gI {f:Addr} {fd:FuncData} (F:Fun K "law" "law" qS f fd) (T:Txt K mg eW) {cL tL:Addr} (hcL:fd.code=.ref cL) (hC:W.CodeHd base cL tL) (hB:base.BuiltinsAt mg tL) (hgT:PySem.mainGlobals≠tL) (D__law_many:Def P w K mg base 1 "_law_many" ["_law_cell"] [] (dP)) (D__law_cell_at:Def P w K mg base 1 "_law_cell_at" ["_law_script","_law_k"] [] (ZO K)) (D__law_label:Def P w K mg base 2 "_law_label" ["_law_mode","_law_v"] [] (JK)) (D__law_table:Def P w K mg base 6 "_law_table" ["_law_script","_law_mode","_law_many_here"] [] (dL w K)) (D__law_marks:Def P w K mg base 4 "_law_marks" ["_law_cell","_law_mode","_law_many_here"] [] (dO w)) (D_layered:Def P w K mg base 7 "layered" ["first","ahead","ended","most"] [] (J0 w)) (D__law_right:Def P w K mg base 6 "_law_right" ["_law_first","_law_table_here","_law_marks_here","_law_told"] [] (cH w)):FnOk P w K mg base jZ 10 f fd ["_law_script"] (QI tL K):=by
 refine F.okC hcL qN (fun vs H Q E h=>?_) (fun A outer s H vs Q E hr h=>?_)
 ·obtain ⟨a,ns,rfl,hS,h63,htL,q⟩:=h
  rfl
 obtain ⟨a,ns,rfl,hS,h63,htL,q⟩:=h
 have hu:_<cLine:=hr.units0
 have hu1:=kS hr
 have hu9:=qW hr
 have hu10:=qU hr
 have hu15:=nK hr
 refine ⟨_,(jJ (j3 (i:=1) qN.nd rfl (by first|exact Or.inl rfl|exact Or.inr rfl) (j4 D__law_many hr rfl (jA (j4 D__law_cell_at hr rfl (jA (pv 0) (jA jE jC))) jC)))
   (yT (j3 (i:=2) qN.nd rfl (by first|exact Or.inl rfl|exact Or.inr rfl) (jP kM (j4 D__law_cell_at hr rfl (jA (pv 0) (jA jE jC))) jE))
   (jJ (j3 (i:=3) qN.nd rfl (by first|exact Or.inl rfl|exact Or.inr rfl) (j4 D__law_label hr rfl (jA (pv 2) (jA (jP kM (jP qT (j4 D__law_cell_at hr rfl (jA (pv 0) (jA jE jC))) jE) (pv 1)) jC))))
   (jJ (j3 (i:=4) qN.nd rfl (by first|exact Or.inl rfl|exact Or.inr rfl) (j4 D__law_table hr rfl (jA (pv 0) (jA (pv 2) (jA (pv 1) jC)))))
   (jJ (j3 (i:=5) qN.nd rfl (by first|exact Or.inl rfl|exact Or.inr rfl) (j4 D__law_marks hr rfl (jA (j4 D__law_cell_at hr rfl (jA (pv 0) (jA jE jC))) (jA (pv 2) (jA (pv 1) jC)))))
   (jJ (j3 (i:=6) qN.nd rfl (by first|exact Or.inl rfl|exact Or.inr rfl) (vH kR (jP kM (jP qT (j4 D__law_cell_at hr rfl (jA (pv 0) (jA jE jC))) jE) jE) jE (jV _)))
   (yT (j3 (i:=7) qN.nd rfl (by first|exact Or.inl rfl|exact Or.inr rfl) (kH (lM rfl) (by rfl) T.z_max PyProof.Rows.boot_max (jA (pv 1) (jA (jP kM (jP qT (j4 D__law_cell_at hr rfl (jA (pv 0) (jA jE jC))) jE) jE) jC))))
   (jJ (dU (i:=8) (c:=cL) (P:=tL) qN.nd rfl (.inl rfl) (.inr rfl) rfl rfl (gY _ _ _) rfl rfl hC hgT hB rfl)
   (yT (dU (i:=9) (c:=cL) (P:=tL) qN.nd rfl (.inl rfl) (.inr rfl) rfl rfl (gX _ _ _) rfl rfl hC hgT hB rfl)
   (jJ (Q4 (i:=10) ["_law_state","_law_table_here"] (v3 1 [4]) qN.nd rfl (by first|exact Or.inl rfl|exact Or.inr rfl) rfl (JA (jH qS) rfl rfl (by decide +kernel) (by decide +kernel) (by decide +kernel)) (y7 1 [4] rfl rfl (by decide +kernel)) (lU (pv 4)) (fun _ _ _ _ _=>(kU (i:=0) (show List.Nodup (["_law_state","_law_table_here"]:List Str) from by decide +kernel) rfl (by first|exact Or.inl rfl|exact Or.inr rfl))) (fun _ _ _ _ _=>Z4) (fun _ _ _ _ _=>(q0 (jA (pv 0) (jA (JW (iB K) (by rfl) T.z_list PyProof.Rows.boot_list (jA (ZC w hu9 (pv 1) (pv 0) (fun _ _=>rfl)) jC)) jC)))))
   (jJ (j3 (i:=11) qN.nd rfl (by first|exact Or.inl rfl|exact Or.inr rfl) (cU (cs:=[(6,s.heap.objs.size+1),(5,s.heap.objs.size+2),(4,s.heap.objs.size+3)]) D_layered hr rfl (eQ ⟨"_law_anew",rfl,rfl,rfl,rfl⟩ ⟨"_law_marks_here",rfl,rfl,rfl,rfl⟩ ⟨"_law_table_here",rfl,rfl,rfl,rfl⟩) (jA (pv 3) (jA (pv 8) (jA (pv 9) (jA (pv 7) jC))))))
   (jJ (vC PassesOwn.never rfl (JH (by rfl) T.z_range (jA jE jC)) (kU (i:=12) qN.nd rfl (by first|exact Or.inl rfl|exact Or.inr rfl))
    (jJ (kD (vZ (qO (j4 D__law_right hr rfl (jA (pv 3) (jA (pv 4) (jA (pv 5) (jA (pv 11) jC))))))) (jK (jR qX)) kC)
   (jJ (vQ (oB PySem.F.plainAttrs_list PySem.F.slot_list_clear PySem.F.type_list_clear mB (kA qB (pv 11) jE (fun _ _=>rfl))))
   (jJ (vQ (yV PySem.F.plainAttrs_list PySem.F.slot_list_append PySem.F.type_list_append yQ (kA qB (pv 11) (ZR ZN jE) (fun _ _=>rfl)) (jA (q0 jC) jC)))
   (jK (j3 (i:=11) qN.nd rfl (by first|exact Or.inl rfl|exact Or.inr rfl) (cU (cs:=[(6,s.heap.objs.size+1),(5,s.heap.objs.size+2),(4,s.heap.objs.size+3)]) D_layered hr rfl (eQ ⟨"_law_anew",rfl,rfl,rfl,rfl⟩ ⟨"_law_marks_here",rfl,rfl,rfl,rfl⟩ ⟨"_law_table_here",rfl,rfl,rfl,rfl⟩) (jA (pv 3) (jA (pv 8) (jA (pv 9) (jA (pv 7) jC)))))))))))
   (jK (jR (yU (j4 D__law_right hr rfl (jA (pv 3) (jA (pv 4) (jA (pv 5) (jA (pv 11) jC))))) (v0 (vH (oF 3 hu15) (pv 10) (dW ["_law_state","_law_table_here"] (v3 1 [4]) rfl (JA (jH qS) rfl rfl (by decide +kernel) (by decide +kernel) (by decide +kernel)) (y7 1 [4] rfl rfl (by decide +kernel)) (i5 (pv 4)) (fun _ _ _ _ _=>(kU (i:=0) (show List.Nodup (["_law_state","_law_table_here"]:List Str) from by decide +kernel) rfl (by first|exact Or.inl rfl|exact Or.inr rfl))) (fun _ _ _ _ _=>Z4) (fun _ _ _ _ _=>(q0 (jA (pv 0) (jA (ZC w hu9 (pv 1) (pv 0) (fun _ _=>rfl)) jC))))) (jV _)))))))))))))))))),?_⟩
 obtain ⟨m,em,hm0⟩:=QQ (a:=ns.getD 1 0) (b:=5) (by decide)
 have hm:m≤4:=by omega
 refine ⟨_,rfl,a,ns,0,rfl,hS,_,rfl,fun n hn1 hn9=>?_⟩
 refine ⟨fun σ Hi=>σ=[some (.ref a),some (.int n),some (.int m),none,none,none,none,none,none,none,none,none,none]∧Hi=H,⟨_,rfl,a,ns,1,rfl,hS,_,_,rfl,rfl,(show (0:Int)<5 by decide),by rw [← em];rfl,rfl⟩,?_⟩
 rintro σ Hi ⟨rfl,rfl⟩
 obtain ⟨v,ev,hv⟩:=QQ (a:=ns.getD 1 0 / 5) (b:=(n:Int)) (by omega)
 have hv':v<n:=by omega
 refine ⟨_,rfl,_,rfl,a,ns,1,rfl,hS,_,_,rfl,rfl,⟨by decide,by decide⟩,_,rfl,_,_,rfl,rfl,(show (0:Int)<n by omega),m,v,by rw [← ev];rfl,hm,by omega,fun y H1 s1 hy h8=>?_⟩
 refine ⟨_,rfl,_,rfl,_,rfl,a,ns,m,n,rfl,s1.seq hS,h63,hm,hn1,hn9,fun dT T0 ls H2 hT hO s2 hls hd0=>?_⟩
 have s12:=s1.trans s2
 refine ⟨_,rfl,a,ns,2,rfl,s12.seq hS,_,rfl,_,rfl,_,m,n,rfl,hm,hn1,hn9,fun dM M H3 hI=>?_⟩
 have s13:=s12.trans hI.sm
 obtain ⟨k0,hk0⟩:∃k,k=jX m v:=⟨_,rfl⟩
 have hT3:=hT.same hI.sm
 have hM3:=nB hI hO
 have hy3:(GV H3 k0).1 y:=by rw [hk0];exact jW (s2.trans hI.sm) hy
 have hk3:(jI T0 k0).isSome=true:=by rw [hk0];exact hO.dom v hv'
 have hMT:dM≠dT:=fun z=>by obtain ⟨kvs,e1,_⟩:=hT.ex;rw [← z,hI.dn] at e1;cases e1
 have ht3:H3 tL=some (.tbl #[]):=s13 _ _ htL
 refine ⟨_,rfl,a,ns,2,rfl,s13.seq hS,_,_,rfl,rfl,⟨by decide,by decide⟩,_,_,rfl,rfl,(show (0:Int)<2 by decide),rfl,?_⟩
 refine ⟨fun σ Hi=>∃(bn:Bool) (most:Int),(n:Int)≤most∧σ=[some (.ref a),some (.int n),some (.int m),some y,some (.ref dT),some (.ref dM),some (.bl bn),some (.int most),none,none,none,none,none]∧Hi=H3,?_,?_⟩
 ·refine ⟨_,rfl,_,rfl,a,ns,2,rfl,s13.seq hS,_,_,rfl,rfl,⟨by decide,by decide⟩,_,_,rfl,rfl,(show (0:Int)<1001 by decide),_,_,rfl,_,_,?_,rfl,rfl⟩
  split<;>omega
 rintro σ Hi ⟨bn,most,hmo,rfl,rfl⟩
 obtain ⟨kvs,e1,g,ap,e3⟩:=hT3.ex
 clear hI hls hk0
 refine ⟨_,ht3,trivial,rfl,fun fa ca cta doca oca n1 n2 n3 hfa hca hoc=>?_⟩
 have nfa:fa≠dT:=(kZ e1 hfa).symm
 have nca:ca≠dT:=(kZ e1 hca).symm
 refine ⟨fun σ Hj=>∃fa fe,σ=[some (.ref a),some (.int n),some (.int m),some y,some (.ref dT),some (.ref dM),some (.bl bn),some (.int most),some (.ref fa),some (.ref fe),none,none,none]∧TabAt w Hj dT T0 ls∧MarkAt w Hj dM T0 M∧(GV Hj k0).1 y∧FnA qR Hj fa (s.heap.objs.size+1) (s.heap.objs.size+3) dT∧FnE vB Hj fe (s.heap.objs.size+2) dT,?_,?_⟩
 ·refine ⟨_,JL n1 n2,trivial,rfl,fun fe ce cte doce oce m1 m2 m3 hfe hce hoce=>⟨fa,fe,rfl,?_⟩⟩
  refine ⟨(hT3.keepT (vW hfa hca) ht3).keepT (vW hfe hce) (JL n1 n2),(hM3.keepT (vW hfa hca) ht3).keepT (vW hfe hce) (JL n1 n2),(GV.keep (QA (vW hfe hce) (JL n1 n2)) _).1 _ ((GV.keep (QA (vW hfa hca) ht3) _).1 _ hy3),FnA.keepT (vW hfe hce) (JL n1 n2) ⟨_,_,_,_,_,_,ca,oca,nfa,nca,by rw [jD n3.symm,jL],rfl,jL,hoc⟩,⟨_,_,_,_,_,_,ce,oce,(kZ (v8 (vW hfa hca) ht3 e1 (fun z=>by cases z)) hfe).symm,(kZ (v8 (vW hfa hca) ht3 e1 (fun z=>by cases z)) hce).symm,by rw [jD m3.symm,jL],rfl,jL,hoce⟩⟩
 clear e1 g ap e3 hT3 hM3 hy3 nfa nca
 clear kvs
 rintro σ H6 ⟨fa,fe,rfl,hT6,hM6,hy6,hA6,hE6⟩
 obtain ⟨kvs,e1,g,ap,e3⟩:=hT6.ex
 have hkl:kvs.length≤999:=by
  have h1:=vU hO g.once (fun x hx=>ap.2.2.2 x (by rw [J7];exact decide_eq_true hx))
  rw [List.length_map] at h1
  omega
 refine ⟨_,rfl,dT,kvs,rfl,e1,fun o bt hbt=>?_⟩
 have kF:yH dT H6 (jB H6 dT (.frz o (GO w dT kvs))):=fun b u n e=>by rw [jD n];exact e
 have dF:jB H6 dT (.frz o (GO w dT kvs)) dT=some (.frz o (GO w dT kvs)):=jL
 have lF:∀b xs,H6 b=some (.lst xs)→jB H6 dT (.frz o (GO w dT kvs)) b=some (.lst xs):=fun b xs e=>kF b _ (fun z=>by rw [z,e1] at e;cases e) e
 have tF:∀b xs,H6 b=some (.tup xs)→jB H6 dT (.frz o (GO w dT kvs)) b=some (.tup xs):=fun b xs e=>kF b _ (fun z=>by rw [z,e1] at e;cases e) e
 have gF:=g.keep tF
 have eF:∀k ps,jI T0 k=some ps→∃l xs,jN kvs k=some (.ref l)∧jB H6 dT (.frz o (GO w dT kvs)) l=some (.lst xs)∧PairsAt (jB H6 dT (.frz o (GO w dT kvs))) xs ps:=fun k ps h=>by
  obtain ⟨l,xs,f1,f2,f3⟩:=e3 k ps h
  exact ⟨l,xs,f1,lF _ _ f2,zN tF f3⟩
 have RFF:RF w (jB H6 dT (.frz o (GO w dT kvs))) fa fe (s.heap.objs.size+1) (s.heap.objs.size+2) (s.heap.objs.size+3) dT dM T0 ls M m n k0 y:=by
  obtain ⟨kvsM,a1,a2,a3⟩:=hM6.ex
  exact ⟨⟨⟨kvs,.inr ⟨o,jL⟩,gF,ap,eF⟩,hT6.few,hT6.shut,hT6.deep⟩,hO,⟨kvsM,kF _ _ hMT a1,a2.keep tF,a3⟩,(GV.keep tF _).1 _ hy6,hk3,hA6.keep kF,hE6.keep kF⟩
 refine d5 (w:=w) (caps:=[some (.ref dT)]) (fun j ys Hj=>oZ bt (jB H6 dT (.frz o (GO w dT kvs))) Hj kvs ys j) hbt dF ⟨rfl,fun i x e=>by cases e⟩ ?_ ?_
 ·rintro j p ys Hj hp hj hle sm hY hR
  have hgp:=QE g.once hp
  obtain ⟨ps,hps⟩:=Option.isSome_iff_exists.mp (ap.2.2.2 p.1 (by rw [hgp];rfl))
  obtain ⟨l,zs,f1,f2,f3⟩:=eF p.1 ps hps
  have hpm:=List.mem_of_getElem? hp
  refine eC (kT ⟨_,rfl,_,rfl,_,rfl,dT,kvs,p.1,_,rfl,.inr ⟨o,sm _ _ dF⟩,kW sm gF,jW sm (gF.key p hpm),gF.deep p hpm,f1,l,zs,rfl,.inl (SqL.of (sm _ _ f2)),fun c hc=>⟨kY (by show 2≤1000;decide),fun e he=>?_⟩⟩)
  have uc:=jS hc (.lst zs)
  have ue:=jS he (.lst [p.2.1,.ref c])
  refine JV hbt sm hY hle (by omega) (uc.trans ue) ?_
  have ebt:e≠bt:=fun z=>by rw [z,uc _ _ hY] at he;cases he
  have cbt:c≠bt:=fun z=>by rw [z,hY] at hc;cases hc
  refine ⟨by rw [List.length_append,hR.1];rfl,fun i x hx=>?_⟩
  rcases cK hx with hx|⟨hi,rfl⟩
  ·obtain ⟨p',e',c',l',zs',q1,q2,q3,q4,q5,q6,q7,q8,q9,q10⟩:=hR.2 i x hx
   refine ⟨p',e',c',l',zs',q1,q2,?_,?_,q5,q6,q7,q8,q9,q10⟩
   ·rw [jD q9];exact ue _ _ (uc _ _ q3)
   ·rw [jD q10];exact ue _ _ (uc _ _ q4)
  ·rw [hR.1] at hi
   subst hi
   exact ⟨p,e,c,l,zs,hp,rfl,by rw [jD ebt,jL],by rw [jD cbt];exact ue _ _ jL,f1,f2,vX sm hc,vX (sm.trans uc) he,ebt,cbt⟩
 rintro ys Hk sk hbtk hlek hKept
 obtain ⟨N,hSt,hN⟩:=mS (M:=M) hO hT6.shut hk3
 have hne:s.heap.objs.size+1≠s.heap.objs.size+3:=fun z=>by simp only [Addr] at *;omega
 have Rk:=RFF.same sk
 refine ⟨_,rfl,_,rfl,_,rfl,_,rfl,JR ⟨_,rfl⟩ ⟨_,rfl⟩ ⟨_,rfl⟩,fun HC hHC hn0=>Q5 (b:=bn) (most:=most) Rk (by omega) hmo hN hSt hne rfl rfl rfl hHC hn0 fun t H' hcs sT hTo=>⟨hcs,?_⟩⟩
 have mutZ:∀(Hi:Hp) (t:Addr),Same Hk Hi→ToldF Hk Hi T0 M k0 N t→ToldF Hk Hi T0 M k0 N t:=fun _ _ _ h=>h
 refine ⟨_,rfl,by decide,by decide,zQ (n:=(2:Int).toNat) (fun i σ Hi=>∃t c12,σ=[some (.ref a),some (.int n),some (.int m),some y,some (.ref dT),some (.ref dM),some (.bl bn),some (.int most),some (.ref fa),some (.ref fe),some (.ref bt),some (.ref t),c12]∧Same Hk Hi∧ToldF Hk Hi T0 M k0 N t) ⟨t,none,rfl,sT,hTo⟩ ?_ ?_⟩
 ·rintro i σ Hi hi ⟨t,c12,rfl,si,hTo⟩
  have Ri:=Rk.same si
  refine ⟨_,rfl,_,rfl,_,rfl,_,rfl,y,dT,dM,t,T0,ls,M,m,n,k0,N,rfl,Ri.tab,hO,by omega,Ri.mrk,Ri.key,hk3,hN,hSt,hTo.at,fun H1 s1=>⟨_,rfl,jU ?_⟩⟩
  have si1:=si.trans s1
  rcases hTo with ⟨ha,rr,lr,xs,des,kf,g1,g2,g3,g4,g5,g6,g7,g8,g9,g10⟩|⟨ha,lr,g1,g7,g9⟩
  ·obtain ⟨zs,l1,lz,_⟩:=g7.ex
   rw [v7] at lz
   have hlong:=zR (T:=T0) (M:=M) (k0:=k0) N hN
   have hfN:=vU hO (vS N) (fun x h=>yS hT6.shut hk3 N x h)
   have t1:=s1 _ _ g1
   refine ⟨_,rfl,t,_,_,.ref rr,rfl,rfl,SqT.of t1,rfl,.inl ⟨rfl,_,SqL.of (s1 _ _ g2)⟩,rr,_,rfl,rfl,s1 _ _ g2,?_⟩
   have sR:Same Hk (jB H1 rr (.lst [])):=qM g8 si1
   have t2:jB H1 rr (.lst []) t=some (.tup [.str "found",.ref rr,.ref lr]):=by rw [jD (fun z=>by rw [z,s1 _ _ g2] at t1;cases t1)];exact t1
   have l2:jB H1 rr (.lst []) lr=some (.lst zs):=by rw [jD g10.symm];exact s1 _ _ l1
   refine ⟨_,rfl,_,rfl,t,_,_,.ref lr,rfl,rfl,SqT.of t2,atI_last (n:=2) rfl rfl,.inl ⟨rfl,_,SqL.of l2⟩,Nat.zero_le _,fun n0 hn00=>?_⟩
   have l3:=jS hn00 (.lst []) _ _ l2
   refine ⟨lr,_,_,rfl,rfl,l3,qV (by omega),?_⟩
   have s9:Same Hk (jB (jB (jB H1 rr (.lst [])) n0 (.lst [])) lr (.lst (zs++[.ref n0]))):=qM g9 (sR.trans (jS hn00 _))
   refine ⟨_,rfl,_,rfl,_,rfl,_,rfl,JR ⟨_,rfl⟩ ⟨_,rfl⟩ ⟨_,rfl⟩,fun HC hHC hn0=>Q5 (b:=bn) (most:=most) (Rk.same s9) (by omega) hmo hN hSt hne rfl rfl rfl hHC hn0 fun t' H' hcs sT hTo=>⟨hcs,?_⟩⟩
   exact ⟨t',_,rfl,s9.trans sT,bM s9 hTo⟩
  ·obtain ⟨zs,l1,_⟩:=g7.ex
   have t1:=s1 _ _ g1
   have l1':=s1 _ _ l1
   refine ⟨_,rfl,t,_,_,.ref lr,rfl,rfl,SqT.of t1,rfl,.inl ⟨rfl,_,SqL.of l1'⟩,lr,_,rfl,rfl,l1',?_⟩
   have sR:Same Hk (jB H1 lr (.lst [])):=qM g9 si1
   have t2:jB H1 lr (.lst []) t=some (.tup [.str "closed",.ref lr]):=by rw [jD (fun z=>by rw [z,l1'] at t1;cases t1)];exact t1
   have l2:jB H1 lr (.lst []) lr=some (.lst []):=jL
   refine ⟨_,rfl,_,rfl,t,_,_,.ref lr,rfl,rfl,SqT.of t2,atI_last (n:=1) rfl rfl,.inl ⟨rfl,_,SqL.of l2⟩,Nat.zero_le _,fun n0 hn00=>?_⟩
   have l3:=jS hn00 (.lst []) _ _ l2
   refine ⟨lr,_,_,rfl,rfl,l3,qV (Nat.zero_le _),?_⟩
   have s9:Same Hk (jB (jB (jB H1 lr (.lst [])) n0 (.lst [])) lr (.lst ([]++[.ref n0]))):=qM g9 (sR.trans (jS hn00 _))
   refine ⟨_,rfl,_,rfl,_,rfl,_,rfl,JR ⟨_,rfl⟩ ⟨_,rfl⟩ ⟨_,rfl⟩,fun HC hHC hn0=>Q5 (b:=bn) (most:=most) (Rk.same s9) (by omega) hmo hN hSt hne rfl rfl rfl hHC hn0 fun t' H' hcs sT hTo=>⟨hcs,?_⟩⟩
   exact ⟨t',_,rfl,s9.trans sT,bM s9 hTo⟩
 rintro σ Hi ⟨t,c12,rfl,si,hTo⟩
 have Ri:=Rk.same si
 refine ⟨_,rfl,_,rfl,_,rfl,_,rfl,y,dT,dM,t,T0,ls,M,m,n,k0,N,rfl,Ri.tab,hO,by omega,Ri.mrk,Ri.key,hk3,hN,hSt,hTo.at,fun H1 s1=>⟨_,rfl,kT ?_⟩⟩
 have s1k:=si.trans s1
 have s1F:=sk.trans s1k
 refine ⟨_,rfl,_,rfl,dT,o,kvs,rfl,s1F _ _ dF,fun bu hbu=>?_⟩
 refine d5 (w:=w) (caps:=[some (.ref dT)]) (fun j zs Hj=>o0 bu H1 Hj kvs zs j) hbu (s1F _ _ dF) ⟨rfl,fun i x e=>by cases e⟩ ?_ ?_
 ·rintro j p zs Hj hp hj hle sm hY hR
  have hgp:=QE g.once hp
  obtain ⟨ps,hps⟩:=Option.isSome_iff_exists.mp (ap.2.2.2 p.1 (by rw [hgp];rfl))
  obtain ⟨l,ws,f1,f2,f3⟩:=eF p.1 ps hps
  have hpm:=List.mem_of_getElem? hp
  have sFj:=s1F.trans sm
  refine eC (kT ⟨_,rfl,_,rfl,_,rfl,dT,kvs,p.1,_,rfl,.inr ⟨o,sFj _ _ dF⟩,kW sFj gF,jW sFj (gF.key p hpm),gF.deep p hpm,f1,kY (by show 2≤1000;decide),fun e he=>?_⟩)
  have ue:=jS he (.lst [p.2.1,.ref l])
  refine JV hbu sm hY hle (by omega) ue ?_
  have ebt:e≠bu:=fun z=>by rw [z,hY] at he;cases he
  refine ⟨by rw [List.length_append,hR.1];rfl,fun i x hx=>?_⟩
  rcases cK hx with hx|⟨hi,rfl⟩
  ·obtain ⟨p',e',l',q1,q2,q3,q4,q5,q6⟩:=hR.2 i x hx
   exact ⟨p',e',l',q1,q2,by rw [jD q6];exact ue _ _ q3,q4,q5,q6⟩
  ·rw [hR.1] at hi
   subst hi
   exact ⟨p,e,l,hp,rfl,by rw [jD ebt,jL],f1,vX sm he,ebt⟩
 rintro zs Hz sz hbuz hlez hAn
 have sFz:=s1F.trans sz
 have skz:=s1k.trans sz
 refine ⟨bt,bu,ys,zs,rfl,rfl,SqL.of (skz _ _ hbtk),SqL.of hbuz,by rw [hKept.1,hAn.1],fun j hj=>?_,q _⟩
 have hjz:j<zs.length:=by rw [hAn.1,← hKept.1];exact hj
 obtain ⟨p,e,c,l,ws,q1,q2,q3,q4,q5,q6,q7,q8,_⟩:=hKept.2 j _ (List.getElem?_eq_getElem hj)
 obtain ⟨p',e',l',r1,r2,r3,r4,r5,_⟩:=hAn.2 j _ (List.getElem?_eq_getElem hjz)
 rw [q1] at r1;cases r1
 rw [q5] at r4;cases r4
 have hpm:=List.mem_of_getElem? q1
 obtain ⟨ps,hps⟩:=Option.isSome_iff_exists.mp (ap.2.2.2 p.1 (by rw [q5];rfl))
 obtain ⟨l2,ws2,f1,f2,f3⟩:=eF p.1 ps hps
 rw [q5] at f1;cases f1
 rw [q6] at f2;cases f2
 rw [List.getD_eq_getElem?_getD,List.getElem?_eq_getElem hj,List.getD_eq_getElem?_getD,List.getElem?_eq_getElem hjz]
 show SEq K Hz 3 ys[j] zs[j]
 rw [q2,r2]
 have gk:∃k,(GV Hz k).1 p.2.1∧(GV Hz k).1 p.2.1∧gd k≤9:=⟨p.1,jW sFz (gF.key p hpm),jW sFz (gF.key p hpm),Nat.le_succ_of_le (gF.deep p hpm)⟩
 refine .inr ⟨e,e',_,_,rfl,rfl,(fun z=>by rw [← z,s1k _ _ q3] at r5;cases r5),SqL.of (skz _ _ q3),SqL.of r3,rfl,fun i hi=>?_⟩
 match i,hi with
 |0,_=>exact .inl gk
 |1,_ =>
  refine .inr ⟨c,l,ws,ws,rfl,rfl,(fun z=>by rw [z,q6] at q7;cases q7),SqL.of (skz _ _ q4),SqL.of (sFz _ _ q6),rfl,fun b hb=>?_⟩
  obtain ⟨kk,h1,h2⟩:=lX (f3.same sFz) hb
  exact .inl ⟨kk,h1,h1,h2⟩
end
theorem all_mk {l:W.OpenLaw} {w:World} {K:W.Frag} {h:Heap} {mg:Str→Option Value} {fa f2 f3 f4 f5 f6 f7 f8 f9 f10 f11 f12 f13 f14 f15 f16 f17 f18:Addr} {cL tL:Addr} {eW:Addr} (X:K.In h) (G:h.Ns mainGlobals mg) (hfa:mg "law"=some (.ref fa))
 {od2 an2 od3 an3 od4 an4 od5 an5 od6 an6 od7 an7 od8 an8 od9 an9 od10 an10 od11 an11 od12 an12 od13 an13 od14 an14 od15 an15 od16 an16 od17 an17 od18 an18:Option Addr} {sl2 sl3 sl4 sl5 sl6 sl7 sl8 sl9 sl10 sl11 sl12 sl13 sl14 sl15 sl16 sl17 sl18:Array (Option Value)} {oc2 kV2 dc2 pm2 cd2 ct2 oc3 kV3 dc3 pm3 cd3 ct3 oc4 kV4 dc4 pm4 cd4 ct4 oc5 kV5 dc5 pm5 cd5 ct5 oc6 kV6 dc6 pm6 cd6 ct6 oc7 kV7 dc7 pm7 cd7 ct7 oc8 kV8 dc8 pm8 cd8 ct8 oc9 kV9 dc9 pm9 cd9 ct9 oc10 kV10 dc10 pm10 cd10 ct10 oc11 kV11 dc11 pm11 cd11 ct11 oc12 kV12 dc12 pm12 cd12 ct12 oc13 kV13 dc13 pm13 cd13 ct13 oc14 kV14 dc14 pm14 cd14 ct14 oc15 kV15 dc15 pm15 cd15 ct15 oc16 kV16 dc16 pm16 cd16 ct16 oc17 kV17 dc17 pm17 cd17 ct17 oc18 kV18 dc18 pm18 cd18 ct18:Value}
  (aX_TooWide:W.nsIn K mainGlobals "TooWide"=some (some (.ref eW)))
  (a2:W.nsIn K mainGlobals "next_layer"=some (some (.ref f2)))
  (l2:K.lookup f2=some ⟨oc2,od2,.func (W.fnOf "next_layer" "next_layer" (j5 zJ) (jT zJ) (jH zJ) .none kV2 dc2 pm2 an2 cd2 ct2),sl2⟩)
  (c2:W.codeIn K cd2 "next_layer"=true)
  (k2:W.keepIn K (.ref f2)=true)
  (a3:W.nsIn K mainGlobals "row_to"=some (some (.ref f3)))
  (l3:K.lookup f3=some ⟨oc3,od3,.func (W.fnOf "row_to" "row_to" (j5 zK) (jT zK) (jH zK) .none kV3 dc3 pm3 an3 cd3 ct3),sl3⟩)
  (c3:W.codeIn K cd3 "row_to"=true)
  (k3:W.keepIn K (.ref f3)=true)
  (a4:W.nsIn K mainGlobals "layered"=some (some (.ref f4)))
  (l4:K.lookup f4=some ⟨oc4,od4,.func (W.fnOf "layered" "layered" (j5 yP) (jT yP) (jH yP) .none kV4 dc4 pm4 an4 cd4 ct4),sl4⟩)
  (c4:W.codeIn K cd4 "layered"=true)
  (k4:W.keepIn K (.ref f4)=true)
  (a5:W.nsIn K mainGlobals "_law_cell_at"=some (some (.ref f5)))
  (l5:K.lookup f5=some ⟨oc5,od5,.func (W.fnOf "_law_cell_at" "_law_cell_at" (j5 y8) (jT y8) (jH y8) .none kV5 dc5 pm5 an5 cd5 ct5),sl5⟩)
  (c5:W.codeIn K cd5 "_law_cell_at"=true)
  (k5:W.keepIn K (.ref f5)=true)
  (a6:W.nsIn K mainGlobals "_law_label"=some (some (.ref f6)))
  (l6:K.lookup f6=some ⟨oc6,od6,.func (W.fnOf "_law_label" "_law_label" (j5 zC) (jT zC) (jH zC) .none kV6 dc6 pm6 an6 cd6 ct6),sl6⟩)
  (c6:W.codeIn K cd6 "_law_label"=true)
  (k6:W.keepIn K (.ref f6)=true)
  (a7:W.nsIn K mainGlobals "_law_deed"=some (some (.ref f7)))
  (l7:K.lookup f7=some ⟨oc7,od7,.func (W.fnOf "_law_deed" "_law_deed" (j5 y9) (jT y9) (jH y9) .none kV7 dc7 pm7 an7 cd7 ct7),sl7⟩)
  (c7:W.codeIn K cd7 "_law_deed"=true)
  (k7:W.keepIn K (.ref f7)=true)
  (a8:W.nsIn K mainGlobals "_law_joined"=some (some (.ref f8)))
  (l8:K.lookup f8=some ⟨oc8,od8,.func (W.fnOf "_law_joined" "_law_joined" (j5 zA) (jT zA) (jH zA) .none kV8 dc8 pm8 an8 cd8 ct8),sl8⟩)
  (c8:W.codeIn K cd8 "_law_joined"=true)
  (k8:W.keepIn K (.ref f8)=true)
  (a9:W.nsIn K mainGlobals "_law_many"=some (some (.ref f9)))
  (l9:K.lookup f9=some ⟨oc9,od9,.func (W.fnOf "_law_many" "_law_many" (j5 zE) (jT zE) (jH zE) .none kV9 dc9 pm9 an9 cd9 ct9),sl9⟩)
  (c9:W.codeIn K cd9 "_law_many"=true)
  (k9:W.keepIn K (.ref f9)=true)
  (a10:W.nsIn K mainGlobals "_law_table"=some (some (.ref f10)))
  (l10:K.lookup f10=some ⟨oc10,od10,.func (W.fnOf "_law_table" "_law_table" (j5 zI) (jT zI) (jH zI) .none kV10 dc10 pm10 an10 cd10 ct10),sl10⟩)
  (c10:W.codeIn K cd10 "_law_table"=true)
  (k10:W.keepIn K (.ref f10)=true)
  (a11:W.nsIn K mainGlobals "_law_marks"=some (some (.ref f11)))
  (l11:K.lookup f11=some ⟨oc11,od11,.func (W.fnOf "_law_marks" "_law_marks" (j5 zF) (jT zF) (jH zF) .none kV11 dc11 pm11 an11 cd11 ct11),sl11⟩)
  (c11:W.codeIn K cd11 "_law_marks"=true)
  (k11:W.keepIn K (.ref f11)=true)
  (a12:W.nsIn K mainGlobals "_law_new"=some (some (.ref f12)))
  (l12:K.lookup f12=some ⟨oc12,od12,.func (W.fnOf "_law_new" "_law_new" (j5 zG) (jT zG) (jH zG) .none kV12 dc12 pm12 an12 cd12 ct12),sl12⟩)
  (c12:W.codeIn K cd12 "_law_new"=true)
  (k12:W.keepIn K (.ref f12)=true)
  (a13:W.nsIn K mainGlobals "_law_kind"=some (some (.ref f13)))
  (l13:K.lookup f13=some ⟨oc13,od13,.func (W.fnOf "_law_kind" "_law_kind" (j5 zB) (jT zB) (jH zB) .none kV13 dc13 pm13 an13 cd13 ct13),sl13⟩)
  (c13:W.codeIn K cd13 "_law_kind"=true)
  (k13:W.keepIn K (.ref f13)=true)
  (a14:W.nsIn K mainGlobals "_law_layer_right"=some (some (.ref f14)))
  (l14:K.lookup f14=some ⟨oc14,od14,.func (W.fnOf "_law_layer_right" "_law_layer_right" (j5 zD) (jT zD) (jH zD) .none kV14 dc14 pm14 an14 cd14 ct14),sl14⟩)
  (c14:W.codeIn K cd14 "_law_layer_right"=true)
  (k14:W.keepIn K (.ref f14)=true)
  (a15:W.nsIn K mainGlobals "_law_layers_right"=some (some (.ref f15)))
  (l15:K.lookup f15=some ⟨oc15,od15,.func (W.fnOf "_law_layers_right" "_law_layers_right" (j5 yN) (jT yN) (jH yN) .none kV15 dc15 pm15 an15 cd15 ct15),sl15⟩)
  (c15:W.codeIn K cd15 "_law_layers_right"=true)
  (k15:W.keepIn K (.ref f15)=true)
  (a16:W.nsIn K mainGlobals "_law_row_right"=some (some (.ref f16)))
  (l16:K.lookup f16=some ⟨oc16,od16,.func (W.fnOf "_law_row_right" "_law_row_right" (j5 yO) (jT yO) (jH yO) .none kV16 dc16 pm16 an16 cd16 ct16),sl16⟩)
  (c16:W.codeIn K cd16 "_law_row_right"=true)
  (k16:W.keepIn K (.ref f16)=true)
  (a17:W.nsIn K mainGlobals "_law_right"=some (some (.ref f17)))
  (l17:K.lookup f17=some ⟨oc17,od17,.func (W.fnOf "_law_right" "_law_right" (j5 zH) (jT zH) (jH zH) .none kV17 dc17 pm17 an17 cd17 ct17),sl17⟩)
  (c17:W.codeIn K cd17 "_law_right"=true)
  (k17:W.keepIn K (.ref f17)=true)
  (a18:W.nsIn K mainGlobals "law"=some (some (.ref f18)))
  (l18:K.lookup f18=some ⟨oc18,od18,.func (W.fnOf "law" "law" (j5 qS) (jT qS) (jH qS) .none kV18 dc18 pm18 an18 cd18 ct18),sl18⟩)
  (c18:W.codeIn K cd18 "law"=true)
  (k18:W.keepIn K (.ref f18)=true)
  (z_list:W.nsIn K mainGlobals "list"=some none)
  (z_reversed:W.nsIn K mainGlobals "reversed"=some none)
  (z_len:W.nsIn K mainGlobals "len"=some none)
  (z_str:W.nsIn K mainGlobals "str"=some none)
  (z_range:W.nsIn K mainGlobals "range"=some none)
  (z_isinstance:W.nsIn K mainGlobals "isinstance"=some none)
  (z_bool:W.nsIn K mainGlobals "bool"=some none)
  (z_int:W.nsIn K mainGlobals "int"=some none)
  (z_tuple:W.nsIn K mainGlobals "tuple"=some none)
  (z_max:W.nsIn K mainGlobals "max"=some none)
  (xX_TooWide:W.excIn K eW [.type "ValueError",.type "Exception",.type "BaseException",.type "object"] "ValueError.__new__"=true)
  (ht:W.tabIn K "law"=some (cL,tL)) :
  ∃fd:FuncData,(∀(s:Shared) (v:Value),BindsTo s fd ⟨[v],[]⟩ [("_law_script",v)])∧∀base:Heap,K.In base→base.Ns mainGlobals mg→W.CodeHd base cL tL→base.BuiltinsAt mg tL→PySem.mainGlobals≠tL→FnOk l.prog w K mg base jZ 10 fa fd ["_law_script"] (QI tL K):=by
 have e:=hfa.symm.trans (W.mg_of X G a18)
 cases e
 have F2:=qA (st:=zJ) l2 c2 k2
 have b2:=F2.binds (ps:=["layer","ahead","came"]) fun _ _ _ _ _ _ us hl=>match us,hl with|[_,_,_],_=>rfl
 have F3:=qA (st:=zK) l3 c3 k3
 have b3:=F3.binds (ps:=["came","state"]) fun _ _ _ _ _ _ us hl=>match us,hl with|[_,_],_=>rfl
 have F4:=qA (st:=yP) l4 c4 k4
 have b4:=F4.binds (ps:=["first","ahead","ended","most"]) fun _ _ _ _ _ _ us hl=>match us,hl with|[_,_,_,_],_=>rfl
 have F5:=qA (st:=y8) l5 c5 k5
 have b5:=F5.binds (ps:=["_law_script","_law_k"]) fun _ _ _ _ _ _ us hl=>match us,hl with|[_,_],_=>rfl
 have F6:=qA (st:=zC) l6 c6 k6
 have b6:=F6.binds (ps:=["_law_mode","_law_v"]) fun _ _ _ _ _ _ us hl=>match us,hl with|[_,_],_=>rfl
 have F7:=qA (st:=y9) l7 c7 k7
 have b7:=F7.binds (ps:=["_law_mode","_law_j"]) fun _ _ _ _ _ _ us hl=>match us,hl with|[_,_],_=>rfl
 have F8:=qA (st:=zA) l8 c8 k8
 have b8:=F8.binds (ps:=["_law_table_here","_law_mode","_law_v","_law_w"]) fun _ _ _ _ _ _ us hl=>match us,hl with|[_,_,_,_],_=>rfl
 have F9:=qA (st:=zE) l9 c9 k9
 have b9:=F9.binds (ps:=["_law_cell"]) fun _ _ _ _ _ _ us hl=>match us,hl with|[_],_=>rfl
 have F10:=qA (st:=zI) l10 c10 k10
 have b10:=F10.binds (ps:=["_law_script","_law_mode","_law_many_here"]) fun _ _ _ _ _ _ us hl=>match us,hl with|[_,_,_],_=>rfl
 have F11:=qA (st:=zF) l11 c11 k11
 have b11:=F11.binds (ps:=["_law_cell","_law_mode","_law_many_here"]) fun _ _ _ _ _ _ us hl=>match us,hl with|[_,_,_],_=>rfl
 have F12:=qA (st:=zG) l12 c12 k12
 have b12:=F12.binds (ps:=["_law_layer","_law_table_here","_law_met"]) fun _ _ _ _ _ _ us hl=>match us,hl with|[_,_,_],_=>rfl
 have F13:=qA (st:=zB) l13 c13 k13
 have b13:=F13.binds (ps:=["_law_state"]) fun _ _ _ _ _ _ us hl=>match us,hl with|[_],_=>rfl
 have F14:=qA (st:=zD) l14 c14 k14
 have b14:=F14.binds (ps:=["_law_layer","_law_due","_law_met"]) fun _ _ _ _ _ _ us hl=>match us,hl with|[_,_,_],_=>rfl
 have F15:=qA (st:=yN) l15 c15 k15
 have b15:=F15.binds (ps:=["_law_first","_law_table_here","_law_marks_here","_law_layers","_law_found"]) fun _ _ _ _ _ _ us hl=>match us,hl with|[_,_,_,_,_],_=>rfl
 have F16:=qA (st:=yO) l16 c16 k16
 have b16:=F16.binds (ps:=["_law_first","_law_table_here","_law_marks_here","_law_row","_law_many_here"]) fun _ _ _ _ _ _ us hl=>match us,hl with|[_,_,_,_,_],_=>rfl
 have F17:=qA (st:=zH) l17 c17 k17
 have b17:=F17.binds (ps:=["_law_first","_law_table_here","_law_marks_here","_law_told"]) fun _ _ _ _ _ _ us hl=>match us,hl with|[_,_,_,_],_=>rfl
 have F18:=qA (st:=qS) l18 c18 k18
 have b18:=F18.binds (ps:=["_law_script"]) fun _ _ _ _ _ _ us hl=>match us,hl with|[_],_=>rfl
 have T:Txt K mg eW:={z_list:=W.mg_none_of X G z_list,z_reversed:=W.mg_none_of X G z_reversed,z_len:=W.mg_none_of X G z_len,z_str:=W.mg_none_of X G z_str,z_range:=W.mg_none_of X G z_range,z_isinstance:=W.mg_none_of X G z_isinstance,z_bool:=W.mg_none_of X G z_bool,z_int:=W.mg_none_of X G z_int,z_tuple:=W.mg_none_of X G z_tuple,z_max:=W.mg_none_of X G z_max,c_TooWide:=W.mg_of X G aX_TooWide,x_TooWide:=xX_TooWide}
 refine ⟨W.fnOf "law" "law" (j5 qS) (jT qS) (jH qS) .none kV18 dc18 pm18 an18 cd18 ct18,fun s v=>.of_eq rfl,fun base _ _ hC hB hgT=>?_⟩
 have hcL:=W.law_code X G ht hfa (X _ _ l18) rfl
 have V0:=fS (P:=l.prog) (w:=w) (base:=base) T
 have V1:=fT (P:=l.prog) (w:=w) (base:=base) T
 have D2:Def l.prog w K mg base 5 "next_layer" _ [] _:=⟨_,_,[],gK F2 T V0,W.mg_of X G a2,k2,.nil,b2⟩
 have D3:Def l.prog w K mg base 2 "row_to" _ [] _:=⟨_,_,[],gL F3 T,W.mg_of X G a3,k3,.nil,b3⟩
 have G4:=gJ (P:=l.prog) (w:=w) (base:=base) F4 T V1 D3 D2
 have GX4:=G4
 have DX4:DefX l.prog w K mg base 7 "layered" _ [] _:=⟨_,_,[],GX4,W.mg_of X G a4,k4,.nil,b4⟩
 have G4:=GX4.noX (sp':=J0 w) iH
 have D4:Def l.prog w K mg base 7 "layered" _ [] _:=⟨_,_,[],G4,W.mg_of X G a4,k4,.nil,b4⟩
 have D5:Def l.prog w K mg base 1 "_law_cell_at" _ [] _:=⟨_,_,[],fU F5 T,W.mg_of X G a5,k5,.nil,b5⟩
 have D6:Def l.prog w K mg base 2 "_law_label" _ [] _:=⟨_,_,[],fY F6 T,W.mg_of X G a6,k6,.nil,b6⟩
 have D7:Def l.prog w K mg base 2 "_law_deed" _ [] _:=⟨_,_,[],fV F7 T,W.mg_of X G a7,k7,.nil,b7⟩
 have D8:Def l.prog w K mg base 4 "_law_joined" _ [] _:=⟨_,_,[],fW F8 T D6 D7,W.mg_of X G a8,k8,.nil,b8⟩
 have D9:Def l.prog w K mg base 1 "_law_many" _ [] _:=⟨_,_,[],gB F9 T,W.mg_of X G a9,k9,.nil,b9⟩
 have D10:Def l.prog w K mg base 6 "_law_table" _ [] _:=⟨_,_,[],gH F10 T D6 D5 D8,W.mg_of X G a10,k10,.nil,b10⟩
 have D11:Def l.prog w K mg base 4 "_law_marks" _ [] _:=⟨_,_,[],gC F11 T D6,W.mg_of X G a11,k11,.nil,b11⟩
 have D12:Def l.prog w K mg base 2 "_law_new" _ [] _:=⟨_,_,[],gD F12 T,W.mg_of X G a12,k12,.nil,b12⟩
 have D13:Def l.prog w K mg base 1 "_law_kind" _ [] _:=⟨_,_,[],fX F13 T,W.mg_of X G a13,k13,.nil,b13⟩
 have D14:Def l.prog w K mg base 2 "_law_layer_right" _ [] _:=⟨_,_,[],fZ F14 T D13,W.mg_of X G a14,k14,.nil,b14⟩
 have D15:Def l.prog w K mg base 4 "_law_layers_right" _ [] _:=⟨_,_,[],gA F15 T D14 D12,W.mg_of X G a15,k15,.nil,b15⟩
 have D16:Def l.prog w K mg base 4 "_law_row_right" _ [] _:=⟨_,_,[],gG F16 T D13,W.mg_of X G a16,k16,.nil,b16⟩
 have D17:Def l.prog w K mg base 6 "_law_right" _ [] _:=⟨_,_,[],gE F17 T D15 D16,W.mg_of X G a17,k17,.nil,b17⟩
 have G18:=gI (P:=l.prog) (w:=w) (base:=base) F18 T hcL hC hB hgT D9 D5 D6 D10 D11 D4 D17
 exact G18
theorem tabIn_mk {K:W.Frag} {x:Str} {f c P:Addr} {oc oc2:Value} {od od2:Option Addr} {fd:FuncData} {sl sl2:Array (Option Value)} {vs:Array Value} (h1:W.nsIn K mainGlobals x=some (some (.ref f))) (h2:K.lookup f=some ⟨oc,od,.func fd,sl⟩) (h3:fd.code=.ref c) (h4:K.lookup c=some ⟨oc2,od2,.fields vs,sl2⟩) (h5:(vs[11]?:Option Value)=some (.ref P)):W.tabIn K x=some (c,P):=by
 unfold W.tabIn
 simp only [h1,h2,h3,h4,h5]
theorem walk {l:W.OpenLaw} {q:Program} {loose:List Str} {XP:(Str→Option Value)→Heap→Prop} {YP:World→Heap→Prop} {d:DefRec} {K:Params→W.Frag} {cL tL:Addr} (hn:l.most=some 63) (hdf:d.params.defaults=[])
  (hrec:(PyProof.Rows.recsOf q).find? (fun e=>e.name == d.name)=some d) (htab:∀P:Params,W.tabIn (K P) d.name=some (cL,tL)) (hno:∀P:Params,W.noTabs (K P)=true)
  (hY:∀(w:World) (h:Heap),YP w h→(K w.params).In h)
  (F:∀(w:World) (mg:Str→Option Value) (fa:Addr) (h:Heap),(K w.params).In h→h.Ns mainGlobals mg→mg d.name=some (.ref fa)→
   ∃fd:FuncData,(∀(s:Shared) (u:Value),BindsTo s fd ⟨[u],[]⟩ [("_law_script",u)])∧∀base:Heap,(K w.params).In base→base.Ns mainGlobals mg→W.CodeHd base cL tL→base.BuiltinsAt mg tL→PySem.mainGlobals≠tL→FnOk l.prog w (K w.params) mg base jZ 10 fa fd ["_law_script"] (QI tL (K w.params))) :
  W.WalkO q loose XP YP l.row.toRowW d [] (fun f vs=>PySem.call f vs) :=
 L2.walk_ofT (n:=63) (k:=10) (x:="_law_script") (CX:=fun _=>jZ) (sp:=fun w tL=>QI tL (K w.params)) hn (by decide) hdf ⟨rfl,by decide,by decide⟩ hrec htab hno hY F (fun _ _ a ns hl hO hS=>⟨a,ns,rfl,hS,hl,hO.1,fun _=>rfl⟩) fun _ _ _ _ _ z=>z
end My
open PySem PySem.W PyProof.Rows
set_option maxRecDepth 100000 in
set_option maxHeartbeats 0 in
theorem PySem.Challenge.cw_lockhouse_k54_whole_search_holds : PySem.Challenge.rw_lockhouse_k54_whole_search.Holds := by
 w_on;o_law;k_head;(case hw=>w_witness2)
 k_fill
 refine' My.walk (l:=PySem.Challenge.rw_lockhouse_k54_whole_search) rfl rfl ?rec ?tab ?no (fun w h Y=>PySem.W.km_in_of Y) ?F
 case tab =>
  intro P
  refine' My.tabIn_mk ?t1 ?t2 ?t3 ?t4 ?t5
  (case t1=>k_is)
  (case t2=>k_is)
  (case t3=>rfl)
  (case t4=>k_is)
  (case t5=>rfl)
 case rec=>kernel_rfl
 case no=>intro P;kernel_rfl
 case F =>
  intro w mg fa h KX G hmg
  refine' My.all_mk KX G hmg ?aX_TooWide ?a2 ?l2 ?c2 ?k2 ?a3 ?l3 ?c3 ?k3 ?a4 ?l4 ?c4 ?k4 ?a5 ?l5 ?c5 ?k5 ?a6 ?l6 ?c6 ?k6 ?a7 ?l7 ?c7 ?k7 ?a8 ?l8 ?c8 ?k8 ?a9 ?l9 ?c9 ?k9 ?a10 ?l10 ?c10 ?k10 ?a11 ?l11 ?c11 ?k11 ?a12 ?l12 ?c12 ?k12 ?a13 ?l13 ?c13 ?k13 ?a14 ?l14 ?c14 ?k14 ?a15 ?l15 ?c15 ?k15 ?a16 ?l16 ?c16 ?k16 ?a17 ?l17 ?c17 ?k17 ?a18 ?l18 ?c18 ?k18 ?z_list ?z_reversed ?z_len ?z_str ?z_range ?z_isinstance ?z_bool ?z_int ?z_tuple ?z_max ?xX_TooWide ?ht
  (case aX_TooWide=>first|k_is|rfl)
  (case a2=>first|k_is|rfl)
  (case l2=>first|k_is|rfl)
  (case c2=>first|k_is|rfl)
  (case k2=>first|k_is|rfl)
  (case a3=>first|k_is|rfl)
  (case l3=>first|k_is|rfl)
  (case c3=>first|k_is|rfl)
  (case k3=>first|k_is|rfl)
  (case a4=>first|k_is|rfl)
  (case l4=>first|k_is|rfl)
  (case c4=>first|k_is|rfl)
  (case k4=>first|k_is|rfl)
  (case a5=>first|k_is|rfl)
  (case l5=>first|k_is|rfl)
  (case c5=>first|k_is|rfl)
  (case k5=>first|k_is|rfl)
  (case a6=>first|k_is|rfl)
  (case l6=>first|k_is|rfl)
  (case c6=>first|k_is|rfl)
  (case k6=>first|k_is|rfl)
  (case a7=>first|k_is|rfl)
  (case l7=>first|k_is|rfl)
  (case c7=>first|k_is|rfl)
  (case k7=>first|k_is|rfl)
  (case a8=>first|k_is|rfl)
  (case l8=>first|k_is|rfl)
  (case c8=>first|k_is|rfl)
  (case k8=>first|k_is|rfl)
  (case a9=>first|k_is|rfl)
  (case l9=>first|k_is|rfl)
  (case c9=>first|k_is|rfl)
  (case k9=>first|k_is|rfl)
  (case a10=>first|k_is|rfl)
  (case l10=>first|k_is|rfl)
  (case c10=>first|k_is|rfl)
  (case k10=>first|k_is|rfl)
  (case a11=>first|k_is|rfl)
  (case l11=>first|k_is|rfl)
  (case c11=>first|k_is|rfl)
  (case k11=>first|k_is|rfl)
  (case a12=>first|k_is|rfl)
  (case l12=>first|k_is|rfl)
  (case c12=>first|k_is|rfl)
  (case k12=>first|k_is|rfl)
  (case a13=>first|k_is|rfl)
  (case l13=>first|k_is|rfl)
  (case c13=>first|k_is|rfl)
  (case k13=>first|k_is|rfl)
  (case a14=>first|k_is|rfl)
  (case l14=>first|k_is|rfl)
  (case c14=>first|k_is|rfl)
  (case k14=>first|k_is|rfl)
  (case a15=>first|k_is|rfl)
  (case l15=>first|k_is|rfl)
  (case c15=>first|k_is|rfl)
  (case k15=>first|k_is|rfl)
  (case a16=>first|k_is|rfl)
  (case l16=>first|k_is|rfl)
  (case c16=>first|k_is|rfl)
  (case k16=>first|k_is|rfl)
  (case a17=>first|k_is|rfl)
  (case l17=>first|k_is|rfl)
  (case c17=>first|k_is|rfl)
  (case k17=>first|k_is|rfl)
  (case a18=>first|k_is|rfl)
  (case l18=>first|k_is|rfl)
  (case c18=>first|k_is|rfl)
  (case k18=>first|k_is|rfl)
  (case z_list=>first|k_is|rfl)
  (case z_reversed=>first|k_is|rfl)
  (case z_len=>first|k_is|rfl)
  (case z_str=>first|k_is|rfl)
  (case z_range=>first|k_is|rfl)
  (case z_isinstance=>first|k_is|rfl)
  (case z_bool=>first|k_is|rfl)
  (case z_int=>first|k_is|rfl)
  (case z_tuple=>first|k_is|rfl)
  (case z_max=>first|k_is|rfl)
  (case xX_TooWide=>first|k_is|k_exc|kit_is|kts_exm|rfl)
  (case ht=>kernel_rfl)
